import Derived.Test.YtahpiciofdfipaaGreatJBzC
import Derived.Test.YtahpiciofdfipaaGreatJZbG
import Derived.Test.YtahpiciofdfipaaGreatJTrD
import Derived.Test.YtahpiciofdfipaaGreatJTrH
import Derived.RangeFuncBox
import Derived.Maps.AppendAt
namespace Go.Proofs.YtahpiciofdfipaaGreat
open Go.RowKit
set_option linter.unusedVariables false
theorem TInv.nm{l:List It}{os:List GOw}(h:TInv l os)(hl:∀ y∈l,GoodI y){o:GOw}(ho:o∈os):Nm.split o.nm=some o.lab:=by
 obtain⟨i,x,hF,h1,h2⟩:=h.own o ho;rw [h1,h2];exact(hl x hF.mem).1
set_option maxRecDepth 100000 in
set_option maxHeartbeats 800000 in
theorem wild1_any(x:Ld)(nm lv hv:Value)(T:TypeId)(lab:List ByteArray)(w:World)(hk:Blk w x.ob #[nm,lv,hv] T)(h:Nm.SRow w lv lab):
 Calls Tryz.prog 110 #[.agg #[.int .i64 (x.at_:Int),.int .i64 x.ty,.pointer (some ⟨x.ob,0,none⟩),.pointer (some ⟨x.sb,0,none⟩)]] w fun e w'=>e=.returned (.bool ((x.ty==2||x.ty==39)&&wildL lab))∧Below w.heap.size w w':=by
 have hB0:=(Below.refl w.heap.size w).alloc (Nat.le_refl _) (.cells #[.int .i64 (x.at_:Int),.int .i64 x.ty,.pointer (some ⟨x.ob,0,none⟩),.pointer (some ⟨x.sb,0,none⟩)] 159);have kb:=blk_new w #[.int .i64 (x.at_:Int),.int .i64 x.ty,.pointer (some ⟨x.ob,0,none⟩),.pointer (some ⟨x.sb,0,none⟩)] 159;have rb:=fun i=>blk_cell kb i
 have ko:=(blk_cell (blk_below hk hB0) 1).trans rfl;have hw:=isWild_any lv lab _ (h.below hB0);obtain⟨a,cap,rfl,_⟩:=h;obtain⟨at_,ty,ob,sb⟩:=x;simp only at*
 clear hk kb;generalize wildL lab=WL at*
 by_cases h2:ty=2
 ·subst h2;have e2:((2:Int)==2)=true:=rfl;go_enter Tryz.func110,Tryz.ntmps110;go_wp2_with fail
  refine hw.mono ?_;rintro e w1 ⟨rfl,b1⟩;clear hw;go_wp2;go_ret;exact⟨by simp,Nm.below_two hB0 b1⟩
 ·have e2:(ty==2)=false:=by simpa using h2
  by_cases h3:ty=39
  ·subst h3;go_enter Tryz.func110,Tryz.ntmps110;go_wp2_with fail
   refine hw.mono ?_;rintro e w1 ⟨rfl,b1⟩;clear hw;go_wp2;go_ret;exact⟨by simp,Nm.below_two hB0 b1⟩
  ·have e3:(ty==39)=false:=by simpa using h3
   clear hw;go_enter Tryz.func110,Tryz.ntmps110;go_wp2;go_ret;exact⟨by simp [e2,e3],hB0⟩
set_option maxRecDepth 100000 in
set_option maxHeartbeats 800000 in
theorem below1_any(x:Ld)(cq:Nat)(v:Value)(bs:List Nat)(w:World)(hq:w.cell? ⟨cq,0,none⟩=some v)(h:CRow w v bs.length 1 (bs.map ptr))(hbk:∀ b,b=x.ob∨b∈bs->∃ cs T,Blk w b cs T):
 Calls Tryz.prog 115 #[.agg #[.int .i64 (x.at_:Int),.int .i64 x.ty,.pointer (some ⟨x.ob,0,none⟩),.pointer (some ⟨x.sb,0,none⟩)],.pointer (some ⟨cq,0,none⟩)] w fun e w'=>e=.returned (.bool (decide (x.ob∈bs)))∧Below w.heap.size w w':=by
 have hB0:=(Below.refl w.heap.size w).alloc (Nat.le_refl _) (.cells #[.int .i64 (x.at_:Int),.int .i64 x.ty,.pointer (some ⟨x.ob,0,none⟩),.pointer (some ⟨x.sb,0,none⟩)] 159);have kb:=blk_new w #[.int .i64 (x.at_:Int),.int .i64 x.ty,.pointer (some ⟨x.ob,0,none⟩),.pointer (some ⟨x.sb,0,none⟩)] 159;have rb:=fun i=>blk_cell kb i
 have kq:=(hB0.cell (p:=⟨cq,0,none⟩) (World.block_lt_of_cell? w _ hq)).trans hq;have hw:=containsOw_any v bs x.ob _ (h.below hB0) (fun b hb=>by obtain⟨cs,T,k⟩:=hbk b hb;exact⟨cs,T,blk_below k hB0⟩);obtain⟨_,a,cap,rfl,_⟩:=h;obtain⟨at_,ty,ob,sb⟩:=x;simp only at*
 generalize decide (ob∈bs)=DB at*;clear hbk kb hq;go_enter Tryz.func115,Tryz.ntmps115;go_wp2_with fail
 refine hw.mono ?_;rintro e w1 ⟨rfl,b1⟩;clear hw;go_wp2;go_ret;exact⟨rfl,Nm.below_two hB0 b1⟩
set_option maxRecDepth 100000 in
set_option maxHeartbeats 800000 in
theorem alias1_any(x:Ld)(o:GOw)(B:Nat)(w:World)(hx:x.ob=o.blk)(h:OwAt w B o)(hl:o.ss.length<=500000)(hd:SeS o.ss):
 Calls Tryz.prog 113 #[.agg #[.int .i64 (x.at_:Int),.int .i64 x.ty,.pointer (some ⟨x.ob,0,none⟩),.pointer (some ⟨x.sb,0,none⟩)]] w fun e w'=>e=.returned (.bool (x.ty != 5&&x.ty != 47&&isIn (sCmp 5) o.ss))∧Below w.heap.size w w':=by
 have hB0:=(Below.refl w.heap.size w).alloc (Nat.le_refl _) (.cells #[.int .i64 (x.at_:Int),.int .i64 x.ty,.pointer (some ⟨x.ob,0,none⟩),.pointer (some ⟨x.sb,0,none⟩)] 159);have kb:=blk_new w #[.int .i64 (x.at_:Int),.int .i64 x.ty,.pointer (some ⟨x.ob,0,none⟩),.pointer (some ⟨x.sb,0,none⟩)] 159;have rb:=fun i=>blk_cell kb i
 have hw:=ownerHas_any o B 5 _ (h.below hB0) hl hd;unfold ptr at hw;rw [<- hx] at hw;obtain⟨at_,ty,ob,sb⟩:=x;simp only at*
 generalize isIn (sCmp 5) o.ss=DB at*;clear hx h hl hd kb
 by_cases h2:ty=5
 ·subst h2;have e2:((5:Int) != 5)=false:=rfl;clear hw;go_enter Tryz.func113,Tryz.ntmps113;go_wp2;go_ret;exact⟨by simp,hB0⟩
 ·have e2:(ty != 5)=true:=by simpa using h2
  by_cases h3:ty=47
  ·subst h3;clear hw;go_enter Tryz.func113,Tryz.ntmps113;go_wp2;go_ret;exact⟨by simp,hB0⟩
  ·have e3:(ty != 47)=true:=by simpa using h3
   go_enter Tryz.func113,Tryz.ntmps113;go_wp2_with fail
   refine hw.mono ?_;rintro e w1 ⟨rfl,b1⟩;clear hw;go_wp2;go_ret;exact⟨by simp [e2,e3],Nm.below_two hB0 b1⟩
end Go.Proofs.YtahpiciofdfipaaGreat
namespace Go.Proofs.YtahpiciofdfipaaGreat
open Go.RowKit Go.Shelf
set_option linter.unusedVariables false
attribute [local go_sem] Oper.semAt_some
theorem infoI64K:(Tryz.prog.info? 2).map (fun i=>(i.zero,i.size,i.bytes))=some (some (.int .i64 0),1,8):=by kernel_rfl
set_option maxRecDepth 100000 in
set_option maxHeartbeats 2000000 in
theorem keysOf_in(F:Fence)(n:Nat)(h3:F.fn 55)(h4:F.fn 84)(h5:F.fn 118)(hro:F.round=none)(hn:3<=n)
 (g:Nat) (sv:Value) (zs:List GSe) (hl:zs.length<=1000000) (w:World) (hg:g<w.heap.size) (kg:w.cell? ⟨g,1,none⟩=some sv) (hR:RwsI (fun p:GSe=>p.ty) (fun p=>(⟨p.blk,0,none⟩:Addr)) w.heap.size w sv zs):
 CallsIn F n Tryz.prog 55 #[.pointer (some ⟨g,0,none⟩)] w fun e W'=>∃ v,e=.returned v∧W'.ownsRow w.heap.size 2 1 v zs.length (zs.map fun p=>.int .i64 p.ty)∧Below w.heap.size w W':=by
 have h1:1<=n:=by omega
 obtain⟨i0,hi,hz0,hz1,hz2⟩:=info_parts infoI64K;refine callsIn_of_wp_marks Tryz.func55 rfl h3 ?_ hro;simp only [Tryz.ntmps55,List.size_toArray,List.length_cons,List.length_nil,Nat.reduceAdd,Nat.reduceSub,Array.replicate_succ,Array.replicate_zero,List.push_toArray,List.append_toArray,List.nil_append,List.cons_append]
 gi_wp2_with (gi_at_call 84;refine(allI_in F (n-1) h4 hro _ _).mono ?_;rintro e w' ⟨rfl,rfl⟩)
 have bO:=Boxed.new w 30 (.slice none 0 0);have bN:=Boxed.new (w.alloc (.cells #[.slice none 0 0] 30)) 110 (.pointer (some ⟨g,0,none⟩));rw [World.size_alloc] at bN;have hB0:Below w.heap.size w ((w.alloc (.cells #[.slice none 0 0] 30)).alloc (.cells #[.pointer (some ⟨g,0,none⟩)] 110)):=((Below.refl _ w).alloc (Nat.le_refl _) _).alloc (by simp) _;have kg2:=(hB0.cell (p:=⟨g,1,none⟩) hg).trans kg
 refine wpIn_rangeFunc_ownG hro h1 (gf:=118) (lb:=#[.pointer (some ⟨w.heap.size+1,0,none⟩)]) rfl h5 (enters_of Tryz.func118 (by kernel_rfl) rfl)
  (allStopsI (fun p:GSe=>p.ty) (fun p=>(⟨p.blk,0,none⟩:Addr)) F (n-1) h5 hro (by omega) (w.heap.size+1) g w.heap.size sv zs hl _ (by simp) hg (by simp;omega) bN.cell kg2 (hR.below hB0)) belowK_t (belowK_b (by simp;omega)) (Below.refl _ _) (fun _=>rfl)
  (fun pre W=>(∃ v,Boxed W w.heap.size 30 v∧W.ownsRow w.heap.size 2 1 v pre.length (pre.map fun p=>.int .i64 p.ty)∧True)∧Below w.heap.size w W)
  (fun _ _ _=>False)
  (OwnFrom.and (Own.from (holdsRow_own w.heap.size w.heap.size 30 2 1 (fun pre:List GSe=>pre.length) (fun pre=>pre.map fun p=>.int .i64 p.ty) (fun pre v=>True)) _) (ownFrom_below (Nat.le_refl _) (by simp;omega)))
  (fun _ _ _ _ _ hs _ _=>hs)
  ⟨⟨_,bO.alloc _,World.ownsRow_nil _ _ _ _,trivial⟩,hB0⟩
  (fun x=>{tmps:=#[.pointer (some ⟨g,0,none⟩),undef,.slice none 0 0,.pointer (some ⟨w.heap.size,0,none⟩),.int .i64 x.ty,.pointer (some ⟨g,0,none⟩),.func (.func 118) #[] #[.pointer (some ⟨w.heap.size+1,0,none⟩)],.int .i64 x.ty,.pointer (some ⟨x.blk,0,none⟩),undef,undef,undef,undef,undef],defers:=[]}) ?assign ?body ?done ?stop
 case assign=>
  intro l x W K hK
  gi_wp2
  exact hK
 case body=>
  rintro l pre x W ⟨⟨v,hv,hrow,-⟩,hB⟩ hlt;have hc:=hv.cell;have hm:zs.length<=maxLen:=by unfold maxLen;omega
  gi_wp2_with (gi_at_builtin;refine wpListIn_append_own _ rfl _ _ 30 rfl w.heap.size 2 i0 (.int .i64 0) 1 8 Tryz.underlying30 hi hz0 hz1 hz2 rfl (by decide) _ _ _ rfl (hrow.alloc _) ⟨W.heap.size,0,none⟩ 1 1 [.int .i64 x.ty] rfl rfl (cell_one_new _ _ _) (by simp [Value.oneCell']) (by omega) (by omega) (by have:=hB.size;simp;omega) ?_;intro v' w1 hown' hgrow _;obtain⟨g',cap',rfl⟩:=ownsRow_succ hown';obtain⟨hv1,hv2,hr2,hk2,hb2⟩:=hv.appended (by decide) hrow hB.size (Nat.le_refl _) hown' hgrow;have hc1:=hv1.cell;have hf1:=hv1.frozen)
  exact⟨hk2.from _,hb2,⟨_,hv2,by simpa using hr2,trivial⟩,hB.trans hb2⟩
 case done=>
  rintro D ys W hD rfl ⟨⟨v,hv,hrow,-⟩,hB⟩ hK;have hc:=hv.cell
  gi_wp2
  refine⟨by simp,.inl ⟨_,_,rfl,run_takeDeferred hK,?_⟩⟩;exact⟨_,results_tmp rfl _ _ _,v,rfl,ownsRow_putObj hrow _ hK rfl,hB.trans (belowK_b (w:=w) (Nat.le_refl _) W D _ _ (by simp at hD;omega) hK rfl rfl)⟩
 case stop=>
  rintro D c pre W _ _ h _;exact h.elim
theorem keysOf_any(g:Nat)(sv:Value)(zs:List GSe)(hl:zs.length<=1000000)(w:World)(hg:g<w.heap.size)(kg:w.cell? ⟨g,1,none⟩=some sv)(hR:RwsI (fun p:GSe=>p.ty) (fun p=>(⟨p.blk,0,none⟩:Addr)) w.heap.size w sv zs):
 Calls Tryz.prog 55 #[.pointer (some ⟨g,0,none⟩)] w fun e W'=>∃ v,e=.returned v∧W'.ownsRow w.heap.size 2 1 v zs.length (zs.map fun p=>.int .i64 p.ty)∧Below w.heap.size w W':=
 (callsIn_wide (n:=3)).1 (keysOf_in _ 3 trivial trivial trivial rfl (by omega) g sv zs hl w hg kg hR)
end Go.Proofs.YtahpiciofdfipaaGreat
namespace Go.Proofs.YtahpiciofdfipaaGreat
open Go.RowKit
theorem owns_one{w:World}{B e:Nat}(x:Value)(hb:B<=w.heap.size):(w.alloc (.cells #[x] e)).ownsRow B e 1 (.slice (some ⟨w.heap.size,0,none⟩) 1 1) 1 [x]:=
 ⟨rfl,.inr ⟨w.heap.size,1,#[x],rfl,hb,heap_alloc_new w _,Nat.le_refl _,by decide,rfl,rfl⟩⟩
theorem row_stored{w wr:World}{g n cap gr m rc k:Nat}{a:Option Addr}{ls:List ByteArray}(hg:g<w.heap.size)(hcode:CodeAt w g a n)(h1:wr.ownsRow w.heap.size 9 1 (.slice (some ⟨gr,0,none⟩) m rc) m (ls.map Value.string))(h2:Src wr g a n cap)(h3:w.grownBy wr (some g))(hw:w.heap.size<=gr)(y:ByteArray):
 (wr.setCell ⟨gr,k,none⟩ (.string y)).ownsRow w.heap.size 9 1 (.slice (some ⟨gr,0,none⟩) m rc) m ((ls.set k y).map Value.string)∧Src (wr.setCell ⟨gr,k,none⟩ (.string y)) g a n cap∧w.grownBy (wr.setCell ⟨gr,k,none⟩ (.string y)) (some g):=by
 refine⟨?_,src_setOther h2 (by omega) (code_ne hcode hw),grown_set h3 hw⟩;have:=(h1.stored k (.string y)).1;rw [List.map_set];exact this
theorem put_stepD{w w3 w4:World}{g n cap:Nat}{a:Option Addr}{v4:Value}{o:Obj}{x:ByteArray}{ls:List ByteArray}(hlt:g<w.heap.size)(hcode:CodeAt w g a n)(hs:Src w3 g a n cap)(hg:w.grownBy w3 (some g))
 (hown:w4.ownsRow w.heap.size 9 1 v4 (1+ls.length) ([Value.string x]++ls.map Value.string)) (hgrow:(w3.alloc o).grownBy w4 (Value.slice (some ⟨w3.heap.size,0,none⟩) 1 1).ownBlock):
 Nm.SRow w4 v4 (x::ls)∧Src w4 g a n cap∧w.grownBy w4 (some g):=by
 have hrow:∀ q,(Value.slice (some ⟨w3.heap.size,0,none⟩) 1 1).ownBlock=some q->w.heap.size<=q:=by
  intro q hq;simp [Value.ownBlock] at hq
  have:=hg.size;omega
 refine⟨?_,src_grown (src_below hs ((Below.refl _ _).alloc (Nat.le_refl _) _)) hgrow hrow hlt hcode,grown_own (grown_alloc hg _) hgrow hrow⟩;apply Nm.SRow.of_owns (B:=w.heap.size) (e:=9);rw [show(x::ls).length=1+ls.length by simp;omega];exact hown
set_option maxRecDepth 100000 in
set_option maxHeartbeats 1600000 in
theorem l01Near_any(g:Nat)(a:Option Addr)(n cap:Nat)(nm:ByteArray)(w:World)(h:Src w g a n cap)(hz:nm.size<=2000):
 Calls Tryz.prog 60 #[.pointer (some ⟨g,0,none⟩),.string nm] w fun e w'=>∃ s:ByteArray,e=.returned (.string s)∧s.size<=2000∧Src w' g a n cap∧w.grownBy w' (some g):=by
 obtain⟨hcode,hglt⟩:=src_code h;obtain⟨i0,hi,hz0,hz1,hz2⟩:=info_parts Tryz.infoStr;have hnz:nm.size<=maxLen:=by unfold maxLen;omega
 have hsp:=l01Split_any nm w hnz
 cases hq:Nm.split nm with
 |none=>
  rw [hq] at hsp;simp only [Option.getD_none,Option.isSome_none,List.length_nil,List.map_nil] at hsp;go_enter Tryz.func60,Tryz.ntmps60;go_wp2_with fail
  refine hsp.mono ?_;rintro e w1 ⟨v,rfl,hown,hbel⟩;go_wp2;go_ret
  exact⟨_,rfl,hz,src_below h hbel,grown_below (World.grownBy.refl w (some g)) hbel⟩
 |some ls=>
  have hws:Nm.wsum ls<=254:=by have:=Nm.split_size hq;omega
  rw [hq] at hsp;simp only [Option.getD_some,Option.isSome_some] at hsp;clear hq;go_enter Tryz.func60,Tryz.ntmps60;go_wp2_with fail
  refine hsp.mono ?_;rintro e w1 ⟨v,rfl,hown,hbel⟩;have hs1:=src_below h hbel;have hg1:=grown_below (World.grownBy.refl w (some g)) hbel;clear hsp h hbel;go_wp2_with fail
  refine(l01Next_any g a n cap 5 _ hs1 (by decide)).mono ?_;rintro e w2 ⟨r,rfl,hr0,hr1,hs2,hgr2⟩;have hr2:=hr1 (by decide);have hown2:=hown.kept hgr2 (row_src hown hs1 (by decide));have hg2:=grown_step hg1 hgr2;clear hown hs1 hg1 hgr2 hr1;have hsz2:=hg2.size
  rcases(by omega:r=0∨r=1∨(r=2∨r=3)∨r=4) with rfl|rfl|hr|rfl
  ·go_wp2_with fail
   refine(l01Case_any g a n cap nm _ hs2 hnz).mono ?_;rintro e w3 ⟨s,rfl,hs,hs3,hg3⟩;go_wp2;go_ret;exact⟨_,rfl,by omega,hs3,grown_step hg2 hg3⟩
  ·have hr:=Nm.SRow.of_owns hown2;obtain⟨ra,rc,rfl,hcap,hmx,hnl,hc⟩:=Nm.SRow.of_owns hown2;clear hc hnl;have hd1:=fun e:rc=1=>hr.drop_all e
   by_cases hn:ls.length=0
   ·clear hown2 hd1;obtain rfl:=List.length_eq_zero_iff.1 hn;clear hn;simp only [List.length_nil] at hr;go_wp2_with fail
    refine(l01Join_any _ [] _ hr (by omega)).mono ?_;rintro e w9 ⟨rfl,hb9⟩;have hj:=mkj_size [];have hs9:=src_below hs2 hb9;have hg9:=grown_below hg2 hb9;generalize ByteArray.mk (Nm.joinL []).toArray=J at*
    by_cases hJ:255<J.size
    ·have hJ':(255:Int)<(J.size:Int):=by omega
     clear hj;go_wp2;go_ret;exact⟨_,rfl,hz,hs9,hg9⟩
    ·have hJ':(J.size:Int)<=255:=by omega
     clear hj;go_wp2;go_ret;exact⟨_,rfl,by omega,hs9,hg9⟩
   ·have hlp:(0:Int)<(ls.length:Int):=by omega
    have hd2:=hr.drop (k:=1) (by omega);have hwd:=Nm.wsum_drop_le ls 1;clear hown2
    by_cases hck:rc=1
    ·have hd:=hd1 hck;clear hd1 hd2;subst hck;have e0:ls.length-1=0:=by omega
     rw [e0] at hd;go_wp2_with fail
     refine(l01Join_any _ (ls.drop 1) _ hd (by omega)).mono ?_;rintro e w9 ⟨rfl,hb9⟩;go_wp2;go_ret;exact⟨_,rfl,by rw [mkj_size];simp only [List.drop_one] at hwd;omega,src_below hs2 hb9,grown_below hg2 hb9⟩
    ·clear hd1;have hd3:Nm.SRow w2 (.slice (Option.map (fun x=>({block:=x.block,off:=x.off+1,spot:=none}:Addr)) ra) (ls.length-1) (rc-1)) (ls.drop 1):=by simpa [Addr.add] using hd2
     clear hd2;go_wp2_with fail
     refine(l01Join_any _ (ls.drop 1) _ hd3 (by omega)).mono ?_;rintro e w9 ⟨rfl,hb9⟩;go_wp2;go_ret;exact⟨_,rfl,by rw [mkj_size];simp only [List.drop_one] at hwd;omega,src_below hs2 hb9,grown_below hg2 hb9⟩
  ·have hlw:=Nm.length_le_wsum ls
   rcases hr with rfl|rfl
   ·rcases hown2.2 with⟨rfl,h0⟩|⟨gr,rc,cur,rfl,hb,hgg,hnc,hm,_⟩
    ·obtain rfl:=List.length_eq_zero_iff.1 h0;clear hown2 h0;go_wp2_with fail
     refine(l01Label_any g a n cap _ hs2).mono ?_;rintro e w3 ⟨x,rfl,hx,hs3,hg3⟩;have hg3':=grown_step hg2 hg3;have hsz3:=hg3'.size;have hone:=owns_one (w:=w3) (B:=w.heap.size) (e:=9) (.string x) hsz3;have hR:=Nm.SRow.of_owns (ls:=[x]) hone;have hsR:=src_below hs3 ((Below.refl _ _).alloc (Nat.le_refl _) (.cells #[.string x] 9 (0,0)));have hgR:=grown_alloc hg3' (.cells #[.string x] 9 (0,0));have hwx:Nm.wsum [x]<=400:=by simp [Nm.wsum];omega
     try simp only [List.length_cons,List.length_nil] at hR
     go_wp2_with (at_builtin;refine wpList_append_own_none rfl (.tmp 36) (.tmp 37) 35 rfl w.heap.size 9 i0 1 Tryz.underlying35 hi _ _ _ rfl hone rfl ?_)
     refine(l01Join_any _ [x] _ hR (by omega)).mono ?_;rintro e w9 ⟨rfl,hb9⟩;have hj:=mkj_size [x];have hs9:=src_below hsR hb9;have hg9:=grown_below hgR hb9;generalize ByteArray.mk (Nm.joinL [x]).toArray=J at*
     by_cases hJ:255<J.size
     ·have hJ':(255:Int)<(J.size:Int):=by omega
      clear hj;go_wp2;go_ret;exact⟨_,rfl,hz,hs9,hg9⟩
     ·have hJ':(J.size:Int)<=255:=by omega
      clear hj;go_wp2;go_ret;exact⟨_,rfl,by omega,hs9,hg9⟩
    ·unfold maxLen at hm;clear hgg;go_wp2_with fail
     refine(l01Label_any g a n cap _ hs2).mono ?_;rintro e w3 ⟨x,rfl,hx,hs3,hg3⟩;have hown3:=hown2.kept hg3 (row_src hown2 hs2 (by decide));have hg3':=grown_step hg2 hg3;have hsz3:=hg3'.size;have hr3:=Nm.SRow.of_owns (hown3.alloc (.cells #[.string x] 9 (0,0)));have hwx:Nm.wsum (x::ls)<=400:=by simp [Nm.wsum];omega
     clear hown2 hown3;go_wp2_with (at_builtin;refine wpList_append_own _ rfl (.tmp 36) (.tmp 37) 35 rfl w.heap.size 9 i0 (.string ByteArray.empty) 1 16 Tryz.underlying35 hi hz0 hz1 hz2 rfl (by decide) _ _ _ rfl (owns_one (.string x) hsz3) ⟨gr,0,none⟩ ls.length rc (ls.map Value.string) rfl (by simp) (srow_news hr3) (strs_oneCell _) (by unfold maxLen;omega) (by omega) (by simp;omega) ?_;intro v4 w4 hown4 hgrow4 hnl4;clear hnl4;have R:=put_stepD hglt hcode hs3 hg3' hown4 hgrow4;obtain⟨hR,hsR,hgR⟩:=R;clear hown4 hgrow4 hr3)
     refine(l01Join_any _ (x::ls) _ hR (by omega)).mono ?_;rintro e w9 ⟨rfl,hb9⟩;have hj:=mkj_size (x::ls);have hs9:=src_below hsR hb9;have hg9:=grown_below hgR hb9;generalize ByteArray.mk (Nm.joinL (x::ls)).toArray=J at*
     by_cases hJ:255<J.size
     ·have hJ':(255:Int)<(J.size:Int):=by omega
      clear hj;go_wp2;go_ret;exact⟨_,rfl,hz,hs9,hg9⟩
     ·have hJ':(J.size:Int)<=255:=by omega
      clear hj;go_wp2;go_ret;exact⟨_,rfl,by omega,hs9,hg9⟩
   ·rcases hown2.2 with⟨rfl,h0⟩|⟨gr,rc,cur,rfl,hb,hgg,hnc,hm,_⟩
    ·obtain rfl:=List.length_eq_zero_iff.1 h0;clear hown2 h0;go_wp2_with fail
     refine(l01Label_any g a n cap _ hs2).mono ?_;rintro e w3 ⟨x,rfl,hx,hs3,hg3⟩;have hg3':=grown_step hg2 hg3;have hsz3:=hg3'.size;have hone:=owns_one (w:=w3) (B:=w.heap.size) (e:=9) (.string x) hsz3;have hR:=Nm.SRow.of_owns (ls:=[x]) hone;have hsR:=src_below hs3 ((Below.refl _ _).alloc (Nat.le_refl _) (.cells #[.string x] 9 (0,0)));have hgR:=grown_alloc hg3' (.cells #[.string x] 9 (0,0));have hwx:Nm.wsum [x]<=400:=by simp [Nm.wsum];omega
     try simp only [List.length_cons,List.length_nil] at hR
     go_wp2_with (at_builtin;refine wpList_append_own_none rfl (.tmp 36) (.tmp 37) 35 rfl w.heap.size 9 i0 1 Tryz.underlying35 hi _ _ _ rfl hone rfl ?_)
     refine(l01Join_any _ [x] _ hR (by omega)).mono ?_;rintro e w9 ⟨rfl,hb9⟩;have hj:=mkj_size [x];have hs9:=src_below hsR hb9;have hg9:=grown_below hgR hb9;generalize ByteArray.mk (Nm.joinL [x]).toArray=J at*
     by_cases hJ:255<J.size
     ·have hJ':(255:Int)<(J.size:Int):=by omega
      clear hj;go_wp2;go_ret;exact⟨_,rfl,hz,hs9,hg9⟩
     ·have hJ':(J.size:Int)<=255:=by omega
      clear hj;go_wp2;go_ret;exact⟨_,rfl,by omega,hs9,hg9⟩
    ·unfold maxLen at hm;clear hgg;go_wp2_with fail
     refine(l01Label_any g a n cap _ hs2).mono ?_;rintro e w3 ⟨x,rfl,hx,hs3,hg3⟩;have hown3:=hown2.kept hg3 (row_src hown2 hs2 (by decide));have hg3':=grown_step hg2 hg3;have hsz3:=hg3'.size;have hr3:=Nm.SRow.of_owns (hown3.alloc (.cells #[.string x] 9 (0,0)));have hwx:Nm.wsum (x::ls)<=400:=by simp [Nm.wsum];omega
     clear hown2 hown3;go_wp2_with (at_builtin;refine wpList_append_own _ rfl (.tmp 36) (.tmp 37) 35 rfl w.heap.size 9 i0 (.string ByteArray.empty) 1 16 Tryz.underlying35 hi hz0 hz1 hz2 rfl (by decide) _ _ _ rfl (owns_one (.string x) hsz3) ⟨gr,0,none⟩ ls.length rc (ls.map Value.string) rfl (by simp) (srow_news hr3) (strs_oneCell _) (by unfold maxLen;omega) (by omega) (by simp;omega) ?_;intro v4 w4 hown4 hgrow4 hnl4;clear hnl4;have R:=put_stepD hglt hcode hs3 hg3' hown4 hgrow4;obtain⟨hR,hsR,hgR⟩:=R;clear hown4 hgrow4 hr3)
     refine(l01Join_any _ (x::ls) _ hR (by omega)).mono ?_;rintro e w9 ⟨rfl,hb9⟩;have hj:=mkj_size (x::ls);have hs9:=src_below hsR hb9;have hg9:=grown_below hgR hb9;generalize ByteArray.mk (Nm.joinL (x::ls)).toArray=J at*
     by_cases hJ:255<J.size
     ·have hJ':(255:Int)<(J.size:Int):=by omega
      clear hj;go_wp2;go_ret;exact⟨_,rfl,hz,hs9,hg9⟩
     ·have hJ':(J.size:Int)<=255:=by omega
      clear hj;go_wp2;go_ret;exact⟨_,rfl,by omega,hs9,hg9⟩
  ·rcases hown2.2 with⟨rfl,h0⟩|⟨gr,rc,cur,rfl,hb,hgg,hnc,hm,_⟩
   ·obtain rfl:=List.length_eq_zero_iff.1 h0;have hr:=Nm.SRow.of_owns (ls:=[]) hown2;clear hown2 h0;go_wp2_with fail
    refine(l01Join_any _ [] _ hr (by omega)).mono ?_;rintro e w9 ⟨rfl,hb9⟩;have hj:=mkj_size [];have hs9:=src_below hs2 hb9;have hg9:=grown_below hg2 hb9;generalize ByteArray.mk (Nm.joinL []).toArray=J at*
    by_cases hJ:255<J.size
    ·have hJ':(255:Int)<(J.size:Int):=by omega
     clear hj;go_wp2;go_ret;exact⟨_,rfl,hz,hs9,hg9⟩
    ·have hJ':(J.size:Int)<=255:=by omega
     clear hj;go_wp2;go_ret;exact⟨_,rfl,by omega,hs9,hg9⟩
   ·unfold maxLen at hm
    cases ls with
    |nil=>
     have hr:=Nm.SRow.of_owns (ls:=[]) hown2;simp only [List.length_nil] at hr;clear hown2 hgg;go_wp2_with fail
     refine(l01Join_any _ [] _ hr (by omega)).mono ?_;rintro e w9 ⟨rfl,hb9⟩;have hj:=mkj_size [];have hs9:=src_below hs2 hb9;have hg9:=grown_below hg2 hb9;generalize ByteArray.mk (Nm.joinL []).toArray=J at*
     by_cases hJ:255<J.size
     ·have hJ':(255:Int)<(J.size:Int):=by omega
      clear hj;go_wp2;go_ret;exact⟨_,rfl,hz,hs9,hg9⟩
     ·have hJ':(J.size:Int)<=255:=by omega
      clear hj;go_wp2;go_ret
      exact⟨_,rfl,by omega,hs9,hg9⟩
    |cons y t=>
     have hlp:(0:Int)<((y::t).length:Int):=by simp only [List.length_cons];omega
     have hlw:=Nm.length_le_wsum (y::t);have hwt:Nm.wsum (y::t)=1+y.size+Nm.wsum t:=by simp [Nm.wsum]
     generalize hm0:(y::t).length=m at*;clear hgg;go_wp2_with fail
     refine(l01Label_any g a n cap _ hs2).mono ?_;rintro e w3 ⟨x,rfl,hx,hs3,hg3⟩;have hown3:=hown2.kept hg3 (row_src hown2 hs2 (by decide));have hg3':=grown_step hg2 hg3;have hc3:w3.cell? ⟨gr,0,none⟩=some (.string y):=by rw [hown3.cellAt 0 (by omega)];rfl
     have hf3:=hown3.frozenAt 0;have R:=row_stored (k:=0) hglt hcode hown3 hs3 hg3' hb x;have h9:=R.1;rw [show m=(x::t).length from hm0.symm] at h9;have hR:=Nm.SRow.of_owns (ls:=x::t) h9;clear h9;have hwx:Nm.wsum (x::t)<=400:=by simp [Nm.wsum];omega
     have hsR:=R.2.1;have hgR:=R.2.2;rw [show(x::t).length=m from hm0] at hR;clear hown2 hown3 R hg3' hg3 hs3;go_wp2_with fail
     refine(l01Join_any _ (x::t) _ hR (by omega)).mono ?_;rintro e w9 ⟨rfl,hb9⟩;have hj:=mkj_size (x::t);have hs9:=src_below hsR hb9;have hg9:=grown_below hgR hb9;generalize ByteArray.mk (Nm.joinL (x::t)).toArray=J at*
     by_cases hJ:255<J.size
     ·have hJ':(255:Int)<(J.size:Int):=by omega
      clear hj;go_wp2;go_ret;exact⟨_,rfl,hz,hs9,hg9⟩
     ·have hJ':(J.size:Int)<=255:=by omega
      clear hj;go_wp2;go_ret;exact⟨_,rfl,by omega,hs9,hg9⟩
end Go.Proofs.YtahpiciofdfipaaGreat
