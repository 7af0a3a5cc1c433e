import Derived.Test.YtmdinnjimioffaaGreatJSameM
import Derived.Test.YtmdinnjimioffaaGreatJTake2
import Derived.Deep.RegionWith
import Derived.Deep.Quiet
import Derived.Deep.QuietTactic
namespace Go.Proofs.YtmdinnjimioffaaGreat
open Go.RowKit
theorem implP_ok(t:Int):∀ p∈Dt.implP t,okPc p:=by
 unfold Dt.implP
 repeat' split
 all_goals simp [okPc]
theorem Tryz.infoSpan:(Tryz.prog.info? 206).map (fun i=>(i.zero,i.size,i.bytes))=some (some (.agg #[.int .i64 0,.int .i64 0]),2,16):=by kernel_rfl
theorem nil_wholeName(w:World):(nilAhead 367 219 (.agg #[]) "loop.example/s01858/impl.take").run Tryz.prog w=.ok (some false) w:=by kernel_rfl
theorem meth_wholeName(w:World):(method 367 219 (.agg #[]) "loop.example/s01858/impl.take").run Tryz.prog w=.ok (206,(.agg #[])) w:=by kernel_rfl
theorem nil_someBytes(q:Nat)(w:World):(nilAhead 367 217 (.int .i64 (q:Int)) "loop.example/s01858/impl.take").run Tryz.prog w=.ok (some false) w:=by kernel_rfl
theorem meth_someBytes(q:Nat)(w:World):(method 367 217 (.int .i64 (q:Int)) "loop.example/s01858/impl.take").run Tryz.prog w=.ok (205,(.int .i64 (q:Int))) w:=by kernel_rfl
theorem nil_shortText(w:World):(nilAhead 367 221 (.agg #[]) "loop.example/s01858/impl.take").run Tryz.prog w=.ok (some false) w:=by kernel_rfl
theorem meth_shortText(w:World):(method 367 221 (.agg #[]) "loop.example/s01858/impl.take").run Tryz.prog w=.ok (208,(.agg #[])) w:=by kernel_rfl
theorem nil_shortTexts(w:World):(nilAhead 367 220 (.agg #[]) "loop.example/s01858/impl.take").run Tryz.prog w=.ok (some false) w:=by kernel_rfl
theorem meth_shortTexts(w:World):(method 367 220 (.agg #[]) "loop.example/s01858/impl.take").run Tryz.prog w=.ok (207,(.agg #[])) w:=by kernel_rfl
theorem nil_tagText(w:World):(nilAhead 367 222 (.agg #[]) "loop.example/s01858/impl.take").run Tryz.prog w=.ok (some false) w:=by kernel_rfl
theorem meth_tagText(w:World):(method 367 222 (.agg #[]) "loop.example/s01858/impl.take").run Tryz.prog w=.ok (209,(.agg #[])) w:=by kernel_rfl
theorem nil_typeBits(w:World):(nilAhead 367 224 (.agg #[]) "loop.example/s01858/impl.take").run Tryz.prog w=.ok (some false) w:=by kernel_rfl
theorem meth_typeBits(w:World):(method 367 224 (.agg #[]) "loop.example/s01858/impl.take").run Tryz.prog w=.ok (214,(.agg #[])) w:=by kernel_rfl
theorem nil_restBytes(w:World):(nilAhead 367 223 (.agg #[]) "loop.example/s01858/impl.take").run Tryz.prog w=.ok (some false) w:=by kernel_rfl
theorem meth_restBytes(w:World):(method 367 223 (.agg #[]) "loop.example/s01858/impl.take").run Tryz.prog w=.ok (213,(.agg #[])) w:=by kernel_rfl
theorem form_cell{t:Int}{w:World}{k:Nat}{p:Dt.Pc}(h:(Dt.implP t)[k]? =some p):(formV t w).cell? ⟨w.heap.size,k,none⟩=some (pcV p):=by
 rw [formV,World.cell?_alloc_new];simp [h]
theorem cut_step{W w4 w1:World}{v v':Value}{B e n a m:Nat}{sp:List (Nat×Nat)}(hB:B<=w4.heap.size)
 (hown:w4.ownsRow B e 2 v n (spanCells sp)) (hbel:Below B W w4) (o:Obj)
 (hown':w1.ownsRow B e 2 v' (n+1) (spanCells sp++[.int .i64 (a:Int),.int .i64 ((a:Int)+(m:Int))])) (hgrow:(w4.alloc o).grownBy w1 v.ownBlock):
 w1.ownsRow B e 2 v' (n+1) (spanCells (sp++[(a,a+m)]))∧Below B W w1:=by
 refine⟨by rw [spanCells_append];simpa [spanCells] using hown',?_⟩;refine(hbel.alloc hB o).grown hgrow (by simp;omega) ?_;intro k hk;exact(hown.lt k hk).1
set_option maxRecDepth 100000 in
set_option maxHeartbeats 4000000 in
theorem cutData_any(t:Int)(d:ByteArray)(w:World)(hd:d.size<=2000000):
 Calls Tryz.prog 135 #[.int .i64 t,.string d] w fun e w'=>∃ v,e=.returned (.tuple #[v,.int .i64 (cutCode t d)])∧
  (∀ sp,cutS t d=some sp->w'.ownsRow w.heap.size 206 2 v sp.length (spanCells sp))∧(cutS t d=none->v=.slice none 0 0)∧Below w.heap.size w w':=by
 obtain⟨i0,hi,hz0,hz1,hz2⟩:=info_parts Tryz.infoSpan
 by_cases ht:t<0∨65535<t
 ·have HC:=Nm.hide (code_type (d:=d) ht)
  by_cases ht0:t<0
  ·clear ht;go_enter Tryz.func135,Tryz.ntmps135;go_wp2;go_ret2;rw [HC.out.1,HC.out.2];exact⟨_,rfl,(fun sp h=>by cases h),fun _=>rfl,Below.refl _ _⟩
  ·have ht1:65535<t:=by omega
   have ht2:0<=t:=by omega
   clear ht;go_enter Tryz.func135,Tryz.ntmps135;go_wp2;go_ret2;rw [HC.out.1,HC.out.2];exact⟨_,rfl,(fun sp h=>by cases h),fun _=>rfl,Below.refl _ _⟩
 have ht0:0<=t:=by omega
 have ht1:t<=65535:=by omega
 by_cases hl:65535<d.size
 ·have HC:=Nm.hide (code_long ht hl);have hl':(65535:Int)<(d.size:Int):=by omega
  clear ht;go_enter Tryz.func135,Tryz.ntmps135;go_wp2;go_ret2;rw [HC.out.1,HC.out.2];exact⟨_,rfl,(fun sp h=>by cases h),fun _=>rfl,Below.refl _ _⟩
 have hl':(d.size:Int)<=65535:=by omega
 have HC0:=Nm.hide (fun h=>code_none (d:=d) ht hl h);have HC1:=Nm.hide (fun sp h=>code_some (d:=d) (sp:=sp) ht hl h);have hlen:=implP_len t;have hok:=implP_ok t;have hcell:=fun k p h=>form_cell (t:=t) (w:=w) (k:=k) (p:=p) h
 have hform:=formOf_any t w;have hst:=cat_start (Dt.implP t) d;have hw2:(formV t w).heap.size=w.heap.size+1:=by simp [formV]
 have hb2:Below w.heap.size w (formV t w):=(Below.refl _ _).alloc (Nat.le_refl _) _;generalize formV t w=w2 at*;generalize Dt.implP t=fs at*;have HW2:=Nm.hide hw2;clear ht hl hw2;go_enter Tryz.func135,Tryz.ntmps135;go_wp2_with (go_at_call 149;refine hform.mono ?_;rintro e w1 ⟨rfl,hw⟩;obtain rfl:w2=w1:=hw.symm;clear hw)
 go_loopw [6,7,24] (fun v a k wr=>∃ (k' a' n:Nat) (sp:List (Nat×Nat)),k'<=fs.length∧k=.int .i64 k'∧a=.int .i64 a'∧a'<=d.size∧n<=k'∧Hid (sp.length=n)∧CAt fs d sp (fs.drop k') a'∧wr.ownsRow w2.heap.size 206 2 v n (spanCells sp)∧Below w2.heap.size w2 wr)
  (fun _ _ k _=>fs.length-(intOf k).toNat)
 case atStart=>exact⟨0,0,0,[],Nat.zero_le _,rfl,rfl,Nat.zero_le _,Nat.le_refl _,rfl,by simpa using hst,World.ownsRow_nil _ _ _ _,Below.refl _ _⟩
 case round=>
  obtain⟨k,a,n,sp,hk,rfl,rfl,ha,hnk,HL,hat,hown,hbel⟩:=hrel;clear hst hform;have hsz:=hbel.size
  by_cases hlt:k<fs.length
  ·have hlt':(k:Int)<(fs.length:Int):=by omega
   obtain⟨p,hp⟩:∃ p,fs[k]? =some p:=⟨_,List.getElem?_eq_getElem hlt⟩
   have hcp:wr.cell? ⟨w.heap.size,k,none⟩=some (pcV p):=by
    have:=HW2.out;rw [hbel.cell (by simp;omega)];exact hcell k p hp
   have hokp:=hok p (List.mem_of_getElem? hp)
   have hdr:fs.drop k=p::fs.drop (k+1):=by
    obtain⟨h1,h2⟩:=List.getElem?_eq_some_iff.1 hp;rw [List.drop_eq_getElem_cons h1,h2]
   rw [hdr] at hat;clear hcell hok hdr hp;have hname:=fun w=>isName_any p w hokp
   have hle':(a:Int)<=(d.size:Int):=by omega
   cases p using Dt.Pc.elim with
   |txs=>exact absurd hokp (by simp [okPc])
   |tagr=>exact absurd hokp (by simp [okPc])
   |nm=>
    simp only [pcV] at hcp hname;have hcall:=fun w=>takeName_any (d.extract a d.size) w
    have hn1:=nil_wholeName;have hn2:=meth_wholeName
    cases hq:Dt.sz .nm (d.extract a d.size) with
    |none=>
     have HQ:=Nm.hide (HC0.out (cat_none hat hq));have hcall:=fun w=>(hcall w).mono (fun e w' h=>Took.no h hq)
     clear hq hat;go_wp2;go_region_with (go_at_call 206;refine(hcall _).mono ?_;rintro e w4 ⟨m,rfl,hb4⟩;have HB:Hid (Below w.heap.size w w4):=Nm.below_two (Nm.below_two hb2 hbel.drew) hb4;clear hb4)
     go_wp2;go_ret2;rw [HQ.out.1,HQ.out.2]
     exact⟨_,rfl,(fun sp h=>by cases h),fun _=>rfl,HB.out⟩
    |some m=>
     have hcs:=cat_step hat ha hq;have HX:=Nm.hide hcs.1;have hcm:=hcs.2;have hcall:=fun w=>(hcall w).mono (fun e w' h=>Took.yes h hq)
     simp only [Dt.Pc.isN,if_true] at HX hname
     have HL2:Hid ((sp++[(a,a+m)]).length=n+1):=by
      show _=_
      rw [List.length_append,HL.out];rfl
     clear hq hat hcs HL;go_wp2;go_region_with (go_at_call 206;refine(hcall _).mono ?_;rintro e w4 ⟨rfl,hb4⟩;have hown4:=own_below hown.drew hb4;have HB:Hid (Below w2.heap.size w2 w4):=Nm.below_two hbel.drew hb4;clear hb4)
     have hsz4:=HB.out.size;go_wp2_with (first|(go_at_call 150;refine(hname _).mono ?_;rintro e w5 ⟨rfl,hw⟩;obtain rfl:w4=w5:=hw.symm;clear hw)|(at_builtin;refine wpList_append_own _ rfl (.tmp 43) (.tmp 49) 184 rfl w2.heap.size 206 i0 (.agg #[.int .i64 0,.int .i64 0]) 2 16 Tryz.underlying184 hi hz0 hz1 hz2 rfl (by decide) _ _ _ rfl (hown4.alloc _) ⟨w4.heap.size,0,none⟩ 1 1 [.int .i64 (a:Int),.int .i64 ((a:Int)+(m:Int))] rfl rfl (cell_new2 _ _ _ _) (two_cells _ _ rfl rfl) (by unfold maxLen;omega) (by omega) (by simp;omega) ?_))
     intro v' w6 hown' hgrow _;have R:=cut_step hsz4 hown4 HB.out _ hown' hgrow;clear hown' hgrow hown hbel hown4 HB;go_wp2;go_roundw
     case rel=>exact⟨k+1,a+m,n+1,_,by omega,by go_num,by go_num,hcm,by omega,HL2,HX.out,R.1,R.2⟩
     case measure=>simp [intOf];omega
   |bs q=>
    simp only [pcV] at hcp hname;have hcall:=fun w=>takeBytes_any q (d.extract a d.size) w
    have hn1:=nil_someBytes q;have hn2:=meth_someBytes q
    cases hq:Dt.sz (.bs q) (d.extract a d.size) with
    |none=>
     have HQ:=Nm.hide (HC0.out (cat_none hat hq));have hcall:=fun w=>(hcall w).mono (fun e w' h=>Took.no h hq)
     clear hq hat;go_wp2;go_region_with (go_at_call 205;refine(hcall _).mono ?_;rintro e w4 ⟨m,rfl,hb4⟩;have HB:Hid (Below w.heap.size w w4):=Nm.below_two (Nm.below_two hb2 hbel.drew) hb4;clear hb4)
     go_wp2;go_ret2;rw [HQ.out.1,HQ.out.2]
     exact⟨_,rfl,(fun sp h=>by cases h),fun _=>rfl,HB.out⟩
    |some m=>
     have hcs:=cat_step hat ha hq;have HX:=Nm.hide hcs.1;have hcm:=hcs.2;have hcall:=fun w=>(hcall w).mono (fun e w' h=>Took.yes h hq)
     simp only [Dt.Pc.isN,Bool.false_eq_true,if_false,List.append_nil] at HX hname;clear hq hat hcs;go_wp2;go_region_with (go_at_call 205;refine(hcall _).mono ?_;rintro e w4 ⟨rfl,hb4⟩;have hown4:=own_below hown.drew hb4;have HB:Hid (Below w2.heap.size w2 w4):=Nm.below_two hbel.drew hb4;clear hb4)
     go_wp2_with (go_at_call 150;refine(hname _).mono ?_;rintro e w5 ⟨rfl,hw⟩;obtain rfl:w4=w5:=hw.symm;clear hw)
     go_roundw
     case rel=>exact⟨k+1,a+m,n,sp,by omega,by go_num,by go_num,hcm,by omega,HL,HX.out,hown4,HB.out⟩
     case measure=>simp [intOf];omega
   |tx=>
    simp only [pcV] at hcp hname;have hcall:=fun w=>takeText_any (d.extract a d.size) w (by simp;omega)
    have hn1:=nil_shortText;have hn2:=meth_shortText
    cases hq:Dt.sz .tx (d.extract a d.size) with
    |none=>
     have HQ:=Nm.hide (HC0.out (cat_none hat hq));have hcall:=fun w=>(hcall w).mono (fun e w' h=>Took.no h hq)
     clear hq hat;go_wp2;go_region_with (go_at_call 208;refine(hcall _).mono ?_;rintro e w4 ⟨m,rfl,hb4⟩;have HB:Hid (Below w.heap.size w w4):=Nm.below_two (Nm.below_two hb2 hbel.drew) hb4;clear hb4)
     go_wp2;go_ret2;rw [HQ.out.1,HQ.out.2]
     exact⟨_,rfl,(fun sp h=>by cases h),fun _=>rfl,HB.out⟩
    |some m=>
     have hcs:=cat_step hat ha hq;have HX:=Nm.hide hcs.1;have hcm:=hcs.2;have hcall:=fun w=>(hcall w).mono (fun e w' h=>Took.yes h hq)
     simp only [Dt.Pc.isN,Bool.false_eq_true,if_false,List.append_nil] at HX hname;clear hq hat hcs;go_wp2;go_region_with (go_at_call 208;refine(hcall _).mono ?_;rintro e w4 ⟨rfl,hb4⟩;have hown4:=own_below hown.drew hb4;have HB:Hid (Below w2.heap.size w2 w4):=Nm.below_two hbel.drew hb4;clear hb4)
     go_wp2_with (go_at_call 150;refine(hname _).mono ?_;rintro e w5 ⟨rfl,hw⟩;obtain rfl:w4=w5:=hw.symm;clear hw)
     go_roundw
     case rel=>exact⟨k+1,a+m,n,sp,by omega,by go_num,by go_num,hcm,by omega,HL,HX.out,hown4,HB.out⟩
     case measure=>simp [intOf];omega
   |txe=>
    simp only [pcV] at hcp hname;have hcall:=fun w=>takeTexts_any (d.extract a d.size) w (by simp;omega)
    have hn1:=nil_shortTexts;have hn2:=meth_shortTexts
    cases hq:Dt.sz .txe (d.extract a d.size) with
    |none=>
     have HQ:=Nm.hide (HC0.out (cat_none hat hq));have hcall:=fun w=>(hcall w).mono (fun e w' h=>Took.no h hq)
     clear hq hat;go_wp2;go_region_with (go_at_call 207;refine(hcall _).mono ?_;rintro e w4 ⟨m,rfl,hb4⟩;have HB:Hid (Below w.heap.size w w4):=Nm.below_two (Nm.below_two hb2 hbel.drew) hb4;clear hb4)
     go_wp2;go_ret2;rw [HQ.out.1,HQ.out.2]
     exact⟨_,rfl,(fun sp h=>by cases h),fun _=>rfl,HB.out⟩
    |some m=>
     have hcs:=cat_step hat ha hq;have HX:=Nm.hide hcs.1;have hcm:=hcs.2;have hcall:=fun w=>(hcall w).mono (fun e w' h=>Took.yes h hq)
     simp only [Dt.Pc.isN,Bool.false_eq_true,if_false,List.append_nil] at HX hname;clear hq hat hcs;go_wp2;go_region_with (go_at_call 207;refine(hcall _).mono ?_;rintro e w4 ⟨rfl,hb4⟩;have hown4:=own_below hown.drew hb4;have HB:Hid (Below w2.heap.size w2 w4):=Nm.below_two hbel.drew hb4;clear hb4)
     go_wp2_with (go_at_call 150;refine(hname _).mono ?_;rintro e w5 ⟨rfl,hw⟩;obtain rfl:w4=w5:=hw.symm;clear hw)
     go_roundw
     case rel=>exact⟨k+1,a+m,n,sp,by omega,by go_num,by go_num,hcm,by omega,HL,HX.out,hown4,HB.out⟩
     case measure=>simp [intOf];omega
   |tag=>
    simp only [pcV] at hcp hname;have hcall:=fun w=>takeTag_any (d.extract a d.size) w (by simp;omega)
    have hn1:=nil_tagText;have hn2:=meth_tagText
    cases hq:Dt.sz .tag (d.extract a d.size) with
    |none=>
     have HQ:=Nm.hide (HC0.out (cat_none hat hq));have hcall:=fun w=>(hcall w).mono (fun e w' h=>Took.no h hq)
     clear hq hat;go_wp2;go_region_with (go_at_call 209;refine(hcall _).mono ?_;rintro e w4 ⟨m,rfl,hb4⟩;have HB:Hid (Below w.heap.size w w4):=Nm.below_two (Nm.below_two hb2 hbel.drew) hb4;clear hb4)
     go_wp2;go_ret2;rw [HQ.out.1,HQ.out.2]
     exact⟨_,rfl,(fun sp h=>by cases h),fun _=>rfl,HB.out⟩
    |some m=>
     have hcs:=cat_step hat ha hq;have HX:=Nm.hide hcs.1;have hcm:=hcs.2;have hcall:=fun w=>(hcall w).mono (fun e w' h=>Took.yes h hq)
     simp only [Dt.Pc.isN,Bool.false_eq_true,if_false,List.append_nil] at HX hname;clear hq hat hcs;go_wp2;go_region_with (go_at_call 209;refine(hcall _).mono ?_;rintro e w4 ⟨rfl,hb4⟩;have hown4:=own_below hown.drew hb4;have HB:Hid (Below w2.heap.size w2 w4):=Nm.below_two hbel.drew hb4;clear hb4)
     go_wp2_with (go_at_call 150;refine(hname _).mono ?_;rintro e w5 ⟨rfl,hw⟩;obtain rfl:w4=w5:=hw.symm;clear hw)
     go_roundw
     case rel=>exact⟨k+1,a+m,n,sp,by omega,by go_num,by go_num,hcm,by omega,HL,HX.out,hown4,HB.out⟩
     case measure=>simp [intOf];omega
   |mp=>
    simp only [pcV] at hcp hname;have hcall:=fun w=>takeMap_any (d.extract a d.size) w (by simp;omega)
    have hn1:=nil_typeBits;have hn2:=meth_typeBits
    cases hq:Dt.sz .mp (d.extract a d.size) with
    |none=>
     have HQ:=Nm.hide (HC0.out (cat_none hat hq));have hcall:=fun w=>(hcall w).mono (fun e w' h=>Took.no h hq)
     clear hq hat;go_wp2;go_region_with (go_at_call 214;refine(hcall _).mono ?_;rintro e w4 ⟨m,rfl,hb4⟩;have HB:Hid (Below w.heap.size w w4):=Nm.below_two (Nm.below_two hb2 hbel.drew) hb4;clear hb4)
     go_wp2;go_ret2;rw [HQ.out.1,HQ.out.2]
     exact⟨_,rfl,(fun sp h=>by cases h),fun _=>rfl,HB.out⟩
    |some m=>
     have hcs:=cat_step hat ha hq;have HX:=Nm.hide hcs.1;have hcm:=hcs.2;have hcall:=fun w=>(hcall w).mono (fun e w' h=>Took.yes h hq)
     simp only [Dt.Pc.isN,Bool.false_eq_true,if_false,List.append_nil] at HX hname;clear hq hat hcs;go_wp2;go_region_with (go_at_call 214;refine(hcall _).mono ?_;rintro e w4 ⟨rfl,hb4⟩;have hown4:=own_below hown.drew hb4;have HB:Hid (Below w2.heap.size w2 w4):=Nm.below_two hbel.drew hb4;clear hb4)
     go_wp2_with (go_at_call 150;refine(hname _).mono ?_;rintro e w5 ⟨rfl,hw⟩;obtain rfl:w4=w5:=hw.symm;clear hw)
     go_roundw
     case rel=>exact⟨k+1,a+m,n,sp,by omega,by go_num,by go_num,hcm,by omega,HL,HX.out,hown4,HB.out⟩
     case measure=>simp [intOf];omega
   |rs=>
    simp only [pcV] at hcp hname;have hcall:=fun w=>takeRest_any (d.extract a d.size) w
    have hn1:=nil_restBytes;have hn2:=meth_restBytes
    cases hq:Dt.sz .rs (d.extract a d.size) with
    |none=>
     have HQ:=Nm.hide (HC0.out (cat_none hat hq));have hcall:=fun w=>(hcall w).mono (fun e w' h=>Took.no h hq)
     clear hq hat;go_wp2;go_region_with (go_at_call 213;refine(hcall _).mono ?_;rintro e w4 ⟨m,rfl,hb4⟩;have HB:Hid (Below w.heap.size w w4):=Nm.below_two (Nm.below_two hb2 hbel.drew) hb4;clear hb4)
     go_wp2;go_ret2;rw [HQ.out.1,HQ.out.2]
     exact⟨_,rfl,(fun sp h=>by cases h),fun _=>rfl,HB.out⟩
    |some m=>
     have hcs:=cat_step hat ha hq;have HX:=Nm.hide hcs.1;have hcm:=hcs.2;have hcall:=fun w=>(hcall w).mono (fun e w' h=>Took.yes h hq)
     simp only [Dt.Pc.isN,Bool.false_eq_true,if_false,List.append_nil] at HX hname;clear hq hat hcs;go_wp2;go_region_with (go_at_call 213;refine(hcall _).mono ?_;rintro e w4 ⟨rfl,hb4⟩;have hown4:=own_below hown.drew hb4;have HB:Hid (Below w2.heap.size w2 w4):=Nm.below_two hbel.drew hb4;clear hb4)
     go_wp2_with (go_at_call 150;refine(hname _).mono ?_;rintro e w5 ⟨rfl,hw⟩;obtain rfl:w4=w5:=hw.symm;clear hw)
     go_roundw
     case rel=>exact⟨k+1,a+m,n,sp,by omega,by go_num,by go_num,hcm,by omega,HL,HX.out,hown4,HB.out⟩
     case measure=>simp [intOf];omega
  ·have hlt':(fs.length:Int)<=(k:Int):=by omega
   have hnil:fs.drop k=[]:=List.drop_eq_nil_of_le (by omega);rw [hnil] at hat;clear hcell hok hnil
   by_cases h0:a<d.size
   ·have HQ:=Nm.hide (HC0.out (cat_left hat h0));have h0':(a:Int)<(d.size:Int):=by omega
    have HB:Hid (Below w.heap.size w wr):=Nm.below_two hb2 hbel;clear hat hown hbel;go_wp2;go_ret2;rw [HQ.out.1,HQ.out.2];exact⟨_,rfl,(fun sp h=>by cases h),fun _=>rfl,HB.out⟩
   ·have HQ:=Nm.hide (HC1.out _ (cat_end hat (by omega)));have h0':(d.size:Int)<=(a:Int):=by omega
    have HB:Hid (Below w.heap.size w wr):=Nm.below_two hb2 hbel;have hown2:=own_base (B':=w.heap.size) hown (by have:=HW2.out;omega);rw [<- HL.out] at hown2;have HO:=Nm.hide hown2;clear hat hown hbel hown2;go_wp2;go_ret2;rw [HQ.out.1,HQ.out.2];exact⟨_,rfl,(fun qs h=>by cases h;exact HO.out),(fun h=>by cases h),HB.out⟩
end Go.Proofs.YtmdinnjimioffaaGreat
