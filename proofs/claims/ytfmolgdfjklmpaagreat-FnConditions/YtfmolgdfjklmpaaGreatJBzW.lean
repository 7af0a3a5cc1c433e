import Derived.Test.YtfmolgdfjklmpaaGreatJBzFSOA
import Derived.Test.YtfmolgdfjklmpaaGreatJBzFSingle
import Derived.Test.YtfmolgdfjklmpaaGreatJBzL
import Derived.Test.YtfmolgdfjklmpaaGreatJBzC
import Derived.BigQuiet
import Derived.RegionTactic
import Derived.Test.YtfmolgdfjklmpaaGreatJSCheck
import Derived.Test.YtfmolgdfjklmpaaGreatJTrL
import Derived.RangeFuncBox
import Derived.Maps.AppendAt
namespace Go.Proofs.YtfmolgdfjklmpaaGreat
open Go.RowKit
set_option linter.unusedVariables false
theorem fstR_two(f:Ld->Bool)(code:Int)(l:List Ld):∃ c a,fstR f code l=.tuple #[.int .i64 c,.int .i64 a]:=by
 unfold fstR
 cases l.find? f with
 |none=>exact⟨_,_,rfl⟩
 |some x=>exact⟨_,_,rfl⟩
set_option maxRecDepth 100000 in
set_option maxHeartbeats 800000 in
theorem checkWild_any(bb:Nat)(v:Value)(ls:List Ld)(f:Ld->Bool)(w:World)(hk:w.cell? ⟨bb,5,none⟩=some v)(h:CRow w v ls.length 4 (ldVs ls))(hl:ls.length<=1000000)
 (hf:∀ x∈ls,∀ W,Below w.heap.size w W->Calls Tryz.prog 114 #[.agg #[.int .i64 (x.at_:Int),.int .i64 x.ty,.pointer (some ⟨x.ob,0,none⟩),.pointer (some ⟨x.sb,0,none⟩)]] W fun e w'=>e=.returned (.bool (f x))∧Below W.heap.size W w'):
 Calls Tryz.prog 74 #[.pointer (some ⟨bb,0,none⟩)] w fun e w'=>e=.returned (fstR f 26 ls)∧Below w.heap.size w w':=by
 have hw:=firstWild_any bb 26 v ls f w hk h hl hf;obtain⟨c,a,e⟩:=fstR_two f 26 ls;rw [e] at hw ⊢;clear hf h hk e;go_enter Tryz.func74,Tryz.ntmps74;go_wp2_with fail
 refine hw.mono ?_;rintro e w1 ⟨rfl,b1⟩;clear hw;go_wp2;go_ret2;exact⟨rfl,b1⟩
set_option maxRecDepth 100000 in
set_option maxHeartbeats 800000 in
theorem checkSingle_any(bb:Nat)(v:Value)(ls:List Ld)(f:Ld->Bool)(w:World)(hk:w.cell? ⟨bb,5,none⟩=some v)(h:CRow w v ls.length 4 (ldVs ls))(hl:ls.length<=1000000)
 (hf:∀ x∈ls,∀ W,Below w.heap.size w W->Calls Tryz.prog 116 #[.agg #[.int .i64 (x.at_:Int),.int .i64 x.ty,.pointer (some ⟨x.ob,0,none⟩),.pointer (some ⟨x.sb,0,none⟩)]] W fun e w'=>e=.returned (.bool (f x))∧Below W.heap.size W w'):
 Calls Tryz.prog 75 #[.pointer (some ⟨bb,0,none⟩)] w fun e w'=>e=.returned (fstR f 23 ls)∧Below w.heap.size w w':=by
 have hw:=firstSingle_any bb 23 v ls f w hk h hl hf;obtain⟨c,a,e⟩:=fstR_two f 23 ls;rw [e] at hw ⊢;clear hf h hk e;go_enter Tryz.func75,Tryz.ntmps75;go_wp2_with fail
 refine hw.mono ?_;rintro e w1 ⟨rfl,b1⟩;clear hw;go_wp2;go_ret2;exact⟨rfl,b1⟩
set_option maxRecDepth 100000 in
set_option maxHeartbeats 800000 in
theorem checkAlias_any(bb:Nat)(v:Value)(ls:List Ld)(f:Ld->Bool)(w:World)(hk:w.cell? ⟨bb,5,none⟩=some v)(h:CRow w v ls.length 4 (ldVs ls))(hl:ls.length<=1000000)
 (hf:∀ x∈ls,∀ W,Below w.heap.size w W->Calls Tryz.prog 117 #[.agg #[.int .i64 (x.at_:Int),.int .i64 x.ty,.pointer (some ⟨x.ob,0,none⟩),.pointer (some ⟨x.sb,0,none⟩)]] W fun e w'=>e=.returned (.bool (f x))∧Below W.heap.size W w'):
 Calls Tryz.prog 76 #[.pointer (some ⟨bb,0,none⟩)] w fun e w'=>e=.returned (fstR f 23 ls)∧Below w.heap.size w w':=by
 have hw:=firstAlias_any bb 23 v ls f w hk h hl hf;obtain⟨c,a,e⟩:=fstR_two f 23 ls;rw [e] at hw ⊢;clear hf h hk e;go_enter Tryz.func76,Tryz.ntmps76;go_wp2_with fail
 refine hw.mono ?_;rintro e w1 ⟨rfl,b1⟩;clear hw;go_wp2;go_ret2;exact⟨rfl,b1⟩
set_option maxRecDepth 100000 in
set_option maxHeartbeats 800000 in
theorem wild1_any(x:Ld)(nm lv hv:Value)(T:TypeId)(lab:List ByteArray)(w:World)(hk:Blk w x.ob #[nm,lv,hv] T)(h:Nm.SRow w lv lab):
 Calls Tryz.prog 114 #[.agg #[.int .i64 (x.at_:Int),.int .i64 x.ty,.pointer (some ⟨x.ob,0,none⟩),.pointer (some ⟨x.sb,0,none⟩)]] w fun e w'=>e=.returned (.bool ((x.ty==2||x.ty==39)&&wildL lab))∧Below w.heap.size w w':=by
 have hB0:=(Below.refl w.heap.size w).alloc (Nat.le_refl _) (.cells #[.int .i64 (x.at_:Int),.int .i64 x.ty,.pointer (some ⟨x.ob,0,none⟩),.pointer (some ⟨x.sb,0,none⟩)] 159);have kb:=blk_new w #[.int .i64 (x.at_:Int),.int .i64 x.ty,.pointer (some ⟨x.ob,0,none⟩),.pointer (some ⟨x.sb,0,none⟩)] 159;have rb:=fun i=>blk_cell kb i
 have ko:=(blk_cell (blk_below hk hB0) 1).trans rfl;have hw:=isWild_any lv lab _ (h.below hB0);obtain⟨a,cap,rfl,_⟩:=h;obtain⟨at_,ty,ob,sb⟩:=x;simp only at*
 clear hk kb;generalize wildL lab=WL at*
 by_cases h2:ty=2
 ·subst h2;have e2:((2:Int)==2)=true:=rfl;go_enter Tryz.func114,Tryz.ntmps114;go_wp2_with fail
  refine hw.mono ?_;rintro e w1 ⟨rfl,b1⟩;clear hw;go_wp2;go_ret;exact⟨by simp,Nm.below_two hB0 b1⟩
 ·have e2:(ty==2)=false:=by simpa using h2
  by_cases h3:ty=39
  ·subst h3;go_enter Tryz.func114,Tryz.ntmps114;go_wp2_with fail
   refine hw.mono ?_;rintro e w1 ⟨rfl,b1⟩;clear hw;go_wp2;go_ret;exact⟨by simp,Nm.below_two hB0 b1⟩
  ·have e3:(ty==39)=false:=by simpa using h3
   clear hw;go_enter Tryz.func114,Tryz.ntmps114;go_wp2;go_ret;exact⟨by simp [e2,e3],hB0⟩
set_option maxRecDepth 100000 in
set_option maxHeartbeats 800000 in
theorem below1_any(x:Ld)(cq:Nat)(v:Value)(bs:List Nat)(w:World)(hq:w.cell? ⟨cq,0,none⟩=some v)(h:CRow w v bs.length 1 (bs.map ptr))(hbk:∀ b,b=x.ob∨b∈bs->∃ cs T,Blk w b cs T):
 Calls Tryz.prog 120 #[.agg #[.int .i64 (x.at_:Int),.int .i64 x.ty,.pointer (some ⟨x.ob,0,none⟩),.pointer (some ⟨x.sb,0,none⟩)],.pointer (some ⟨cq,0,none⟩)] w fun e w'=>e=.returned (.bool (decide (x.ob∈bs)))∧Below w.heap.size w w':=by
 have hB0:=(Below.refl w.heap.size w).alloc (Nat.le_refl _) (.cells #[.int .i64 (x.at_:Int),.int .i64 x.ty,.pointer (some ⟨x.ob,0,none⟩),.pointer (some ⟨x.sb,0,none⟩)] 159);have kb:=blk_new w #[.int .i64 (x.at_:Int),.int .i64 x.ty,.pointer (some ⟨x.ob,0,none⟩),.pointer (some ⟨x.sb,0,none⟩)] 159;have rb:=fun i=>blk_cell kb i
 have kq:=(hB0.cell (p:=⟨cq,0,none⟩) (World.block_lt_of_cell? w _ hq)).trans hq;have hw:=containsOw_any v bs x.ob _ (h.below hB0) (fun b hb=>by obtain⟨cs,T,k⟩:=hbk b hb;exact⟨cs,T,blk_below k hB0⟩);obtain⟨_,a,cap,rfl,_⟩:=h;obtain⟨at_,ty,ob,sb⟩:=x;simp only at*
 generalize decide (ob∈bs)=DB at*;clear hbk kb hq;go_enter Tryz.func120,Tryz.ntmps120;go_wp2_with fail
 refine hw.mono ?_;rintro e w1 ⟨rfl,b1⟩;clear hw;go_wp2;go_ret;exact⟨rfl,Nm.below_two hB0 b1⟩
set_option maxRecDepth 100000 in
set_option maxHeartbeats 800000 in
theorem alias1_any(x:Ld)(o:GOw)(B:Nat)(w:World)(hx:x.ob=o.blk)(h:OwAt w B o)(hl:o.ss.length<=500000)(hd:SeS o.ss):
 Calls Tryz.prog 117 #[.agg #[.int .i64 (x.at_:Int),.int .i64 x.ty,.pointer (some ⟨x.ob,0,none⟩),.pointer (some ⟨x.sb,0,none⟩)]] w fun e w'=>e=.returned (.bool (x.ty != 5&&x.ty != 47&&isIn (sCmp 5) o.ss))∧Below w.heap.size w w':=by
 have hB0:=(Below.refl w.heap.size w).alloc (Nat.le_refl _) (.cells #[.int .i64 (x.at_:Int),.int .i64 x.ty,.pointer (some ⟨x.ob,0,none⟩),.pointer (some ⟨x.sb,0,none⟩)] 159);have kb:=blk_new w #[.int .i64 (x.at_:Int),.int .i64 x.ty,.pointer (some ⟨x.ob,0,none⟩),.pointer (some ⟨x.sb,0,none⟩)] 159;have rb:=fun i=>blk_cell kb i
 have hw:=ownerHas_any o B 5 _ (h.below hB0) hl hd;unfold ptr at hw;rw [<- hx] at hw;obtain⟨at_,ty,ob,sb⟩:=x;simp only at*
 generalize isIn (sCmp 5) o.ss=DB at*;clear hx h hl hd kb
 by_cases h2:ty=5
 ·subst h2;have e2:((5:Int) != 5)=false:=rfl;clear hw;go_enter Tryz.func117,Tryz.ntmps117;go_wp2;go_ret;exact⟨by simp,hB0⟩
 ·have e2:(ty != 5)=true:=by simpa using h2
  by_cases h3:ty=47
  ·subst h3;clear hw;go_enter Tryz.func117,Tryz.ntmps117;go_wp2;go_ret;exact⟨by simp,hB0⟩
  ·have e3:(ty != 47)=true:=by simpa using h3
   go_enter Tryz.func117,Tryz.ntmps117;go_wp2_with fail
   refine hw.mono ?_;rintro e w1 ⟨rfl,b1⟩;clear hw;go_wp2;go_ret;exact⟨by simp [e2,e3],Nm.below_two hB0 b1⟩
set_option maxRecDepth 100000 in
set_option maxHeartbeats 800000 in
theorem single1_any(x:Ld)(tt hv:Value)(fi:Nat)(T:TypeId)(w:World)(hk:Blk w x.sb #[tt,.int .i64 (fi:Int),hv] T):
 Calls Tryz.prog 116 #[.agg #[.int .i64 (x.at_:Int),.int .i64 x.ty,.pointer (some ⟨x.ob,0,none⟩),.pointer (some ⟨x.sb,0,none⟩)]] w fun e w'=>e=.returned (.bool ((x.ty==5||x.ty==39)&&((x.at_:Int) != (fi:Int))))∧Below w.heap.size w w':=by
 have hB0:=(Below.refl w.heap.size w).alloc (Nat.le_refl _) (.cells #[.int .i64 (x.at_:Int),.int .i64 x.ty,.pointer (some ⟨x.ob,0,none⟩),.pointer (some ⟨x.sb,0,none⟩)] 159);have kb:=blk_new w #[.int .i64 (x.at_:Int),.int .i64 x.ty,.pointer (some ⟨x.ob,0,none⟩),.pointer (some ⟨x.sb,0,none⟩)] 159;have r0:=(blk_cell kb 0).trans rfl;have r1:=(blk_cell kb 1).trans rfl;have r3:=(blk_cell kb 3).trans rfl;have ko:=(blk_cell (blk_below hk hB0) 1).trans rfl;obtain⟨at_,ty,ob,sb⟩:=x;simp only at*
 clear hk kb;generalize hE:((at_:Int) != (fi:Int))=EQ at*;have HE:=Nm.hide hE
 by_cases h2:ty=5
 ·subst h2;have e2:((5:Int)==5)=true:=rfl;go_enter Tryz.func116,Tryz.ntmps116;go_wp2;go_quiet (fail)
  go_wp2;go_ret;exact⟨by simp,Go.below_drewN hB0 _⟩
 ·have e2:(ty==5)=false:=by simpa using h2
  by_cases h3:ty=39
  ·subst h3;go_enter Tryz.func116,Tryz.ntmps116;go_wp2;go_quiet (fail)
   go_wp2;go_ret;exact⟨by simp,Go.below_drewN hB0 _⟩
  ·have e3:(ty==39)=false:=by simpa using h3
   go_enter Tryz.func116,Tryz.ntmps116;go_wp2;go_quiet (fail)
   go_wp2;go_ret;exact⟨by simp [e2,e3],Go.below_drewN hB0 _⟩
set_option maxRecDepth 100000 in
set_option maxHeartbeats 800000 in
theorem soa1_any(x:Ld)(cq:Nat)(tt hv nm ov:Value)(fi:Nat)(T To:TypeId)(la:Option Addr)(ln lc:Nat)(aa:Option Addr)(an ac:Nat)(w:World)(hk:Blk w x.sb #[tt,.int .i64 (fi:Int),hv] T)(ho:Blk w x.ob #[nm,.slice la ln lc,ov] To)(hq:w.cell? ⟨cq,0,none⟩=some (.slice aa an ac)):
 Calls Tryz.prog 112 #[.agg #[.int .i64 (x.at_:Int),.int .i64 x.ty,.pointer (some ⟨x.ob,0,none⟩),.pointer (some ⟨x.sb,0,none⟩)],.pointer (some ⟨cq,0,none⟩)] w fun e w'=>e=.returned (.bool (x.ty==6&&(decide (an<ln)||((x.at_:Int) != (fi:Int)))))∧Below w.heap.size w w':=by
 have hB0:=(Below.refl w.heap.size w).alloc (Nat.le_refl _) (.cells #[.int .i64 (x.at_:Int),.int .i64 x.ty,.pointer (some ⟨x.ob,0,none⟩),.pointer (some ⟨x.sb,0,none⟩)] 159);have kb:=blk_new w #[.int .i64 (x.at_:Int),.int .i64 x.ty,.pointer (some ⟨x.ob,0,none⟩),.pointer (some ⟨x.sb,0,none⟩)] 159;have r0:=(blk_cell kb 0).trans rfl;have r1:=(blk_cell kb 1).trans rfl;have r2:=(blk_cell kb 2).trans rfl;have r3:=(blk_cell kb 3).trans rfl;have ko:=(blk_cell (blk_below hk hB0) 1).trans rfl;have kp:=(blk_cell (blk_below ho hB0) 1).trans rfl;have kq:=(hB0.cell (p:=⟨cq,0,none⟩) (World.block_lt_of_cell? w _ hq)).trans hq;obtain⟨at_,ty,ob,sb⟩:=x;simp only at*
 clear hk kb ho hq;generalize hE:((at_:Int) != (fi:Int))=EQ at*;have HE:=Nm.hide hE
 by_cases h2:ty=6
 ·subst h2;have e2:((6:Int)==6)=true:=rfl
  by_cases h3:an<ln
  ·have e3:(an:Int)<(ln:Int):=by omega
   go_enter Tryz.func112,Tryz.ntmps112;go_wp2;go_quiet (fail)
   go_wp2;go_ret;exact⟨by simp [h3],Go.below_drewN hB0 _⟩
  ·have e3:¬(an:Int)<(ln:Int):=by omega
   go_enter Tryz.func112,Tryz.ntmps112;go_wp2;go_quiet (fail)
   go_wp2;go_ret;exact⟨by simp [h3],Go.below_drewN hB0 _⟩
 ·have e2:(ty==6)=false:=by simpa using h2
  go_enter Tryz.func112,Tryz.ntmps112;go_wp2;go_quiet (fail)
  go_wp2;go_ret;exact⟨by simp [e2],Go.below_drewN hB0 _⟩
end Go.Proofs.YtfmolgdfjklmpaaGreat
namespace Go.Proofs.YtfmolgdfjklmpaaGreat
open Go.RowKit Go.Shelf
set_option linter.unusedVariables false
attribute [local go_sem] Oper.semAt_some
theorem infoStrK:(Tryz.prog.info? 9).map (fun i=>(i.zero,i.size,i.bytes))=some (some (.string ByteArray.empty),1,16):=by kernel_rfl
set_option maxRecDepth 100000 in
set_option maxHeartbeats 2000000 in
theorem keysOfS_in(F:Fence)(n:Nat)(h3:F.fn 138)(h4:F.fn 157)(h5:F.fn 185)(hro:F.round=none)(hn:3<=n)
 (g:Nat) (sv:Value) (zs:List (ByteArray×ByteArray)) (hl:zs.length<=1000000) (w:World) (hg:g<w.heap.size) (kg:w.cell? ⟨g,1,none⟩=some sv) (hR:RwsS (fun p:ByteArray×ByteArray=>p.1) (fun p=>p.2) w.heap.size w sv zs):
 CallsIn F n Tryz.prog 138 #[.pointer (some ⟨g,0,none⟩)] w fun e W'=>∃ v,e=.returned v∧W'.ownsRow w.heap.size 9 1 v zs.length (zs.map fun p=>.string p.1)∧Below w.heap.size w W':=by
 have h1:1<=n:=by omega
 obtain⟨i0,hi,hz0,hz1,hz2⟩:=info_parts infoStrK;refine callsIn_of_wp_marks Tryz.func138 rfl h3 ?_ hro;simp only [Tryz.ntmps138,List.size_toArray,List.length_cons,List.length_nil,Nat.reduceAdd,Nat.reduceSub,Array.replicate_succ,Array.replicate_zero,List.push_toArray,List.append_toArray,List.nil_append,List.cons_append]
 gi_wp2_with (gi_at_call 157;refine(allS_in F (n-1) h4 hro _ _).mono ?_;rintro e w' ⟨rfl,rfl⟩)
 have bO:=Boxed.new w 46 (.slice none 0 0);have bN:=Boxed.new (w.alloc (.cells #[.slice none 0 0] 46)) 162 (.pointer (some ⟨g,0,none⟩));rw [World.size_alloc] at bN;have hB0:Below w.heap.size w ((w.alloc (.cells #[.slice none 0 0] 46)).alloc (.cells #[.pointer (some ⟨g,0,none⟩)] 162)):=((Below.refl _ w).alloc (Nat.le_refl _) _).alloc (by simp) _;have kg2:=(hB0.cell (p:=⟨g,1,none⟩) hg).trans kg
 refine wpIn_rangeFunc_ownG hro h1 (gf:=185) (lb:=#[.pointer (some ⟨w.heap.size+1,0,none⟩)]) rfl h5 (enters_of Tryz.func185 (by kernel_rfl) rfl)
  (allStopsS (fun p:ByteArray×ByteArray=>p.1) (fun p=>p.2) F (n-1) h5 hro (by omega) (w.heap.size+1) g w.heap.size sv zs hl _ (by simp) hg (by simp;omega) bN.cell kg2 (hR.below hB0)) belowK_t (belowK_b (by simp;omega)) (Below.refl _ _) (fun _=>rfl)
  (fun pre W=>(∃ v,Boxed W w.heap.size 46 v∧W.ownsRow w.heap.size 9 1 v pre.length (pre.map fun p=>.string p.1)∧True)∧Below w.heap.size w W)
  (fun _ _ _=>False)
  (OwnFrom.and (Own.from (holdsRow_own w.heap.size w.heap.size 46 9 1 (fun pre:List (ByteArray×ByteArray)=>pre.length) (fun pre=>pre.map fun p=>.string p.1) (fun pre v=>True)) _) (ownFrom_below (Nat.le_refl _) (by simp;omega)))
  (fun _ _ _ _ _ hs _ _=>hs)
  ⟨⟨_,bO.alloc _,World.ownsRow_nil _ _ _ _,trivial⟩,hB0⟩
  (fun x=>{tmps:=#[.pointer (some ⟨g,0,none⟩),undef,.slice none 0 0,.pointer (some ⟨w.heap.size,0,none⟩),.string x.1,.pointer (some ⟨g,0,none⟩),.func (.func 185) #[] #[.pointer (some ⟨w.heap.size+1,0,none⟩)],.string x.1,.string x.2,undef,undef,undef,undef,undef],defers:=[]}) ?assign ?body ?done ?stop
 case assign=>
  intro l x W K hK
  gi_wp2
  exact hK
 case body=>
  rintro l pre x W ⟨⟨v,hv,hrow,-⟩,hB⟩ hlt;have hc:=hv.cell;have hm:zs.length<=maxLen:=by unfold maxLen;omega
  gi_wp2_with (gi_at_builtin;refine wpListIn_append_own _ rfl _ _ 46 rfl w.heap.size 9 i0 (.string ByteArray.empty) 1 16 Tryz.underlying46 hi hz0 hz1 hz2 rfl (by decide) _ _ _ rfl (hrow.alloc _) ⟨W.heap.size,0,none⟩ 1 1 [.string x.1] rfl rfl (cell_one_new _ _ _) (by simp [Value.oneCell']) (by omega) (by omega) (by have:=hB.size;simp;omega) ?_;intro v' w1 hown' hgrow _;obtain⟨g',cap',rfl⟩:=ownsRow_succ hown';obtain⟨hv1,hv2,hr2,hk2,hb2⟩:=hv.appended (by decide) hrow hB.size (Nat.le_refl _) hown' hgrow;have hc1:=hv1.cell;have hf1:=hv1.frozen)
  exact⟨hk2.from _,hb2,⟨_,hv2,by simpa using hr2,trivial⟩,hB.trans hb2⟩
 case done=>
  rintro D ys W hD rfl ⟨⟨v,hv,hrow,-⟩,hB⟩ hK;have hc:=hv.cell
  gi_wp2
  refine⟨by simp,.inl ⟨_,_,rfl,run_takeDeferred hK,?_⟩⟩;exact⟨_,results_tmp rfl _ _ _,v,rfl,ownsRow_putObj hrow _ hK rfl,hB.trans (belowK_b (w:=w) (Nat.le_refl _) W D _ _ (by simp at hD;omega) hK rfl rfl)⟩
 case stop=>
  rintro D c pre W _ _ h _;exact h.elim
theorem keysOfS_any(g:Nat)(sv:Value)(zs:List (ByteArray×ByteArray))(hl:zs.length<=1000000)(w:World)(hg:g<w.heap.size)(kg:w.cell? ⟨g,1,none⟩=some sv)(hR:RwsS (fun p:ByteArray×ByteArray=>p.1) (fun p=>p.2) w.heap.size w sv zs):
 Calls Tryz.prog 138 #[.pointer (some ⟨g,0,none⟩)] w fun e W'=>∃ v,e=.returned v∧W'.ownsRow w.heap.size 9 1 v zs.length (zs.map fun p=>.string p.1)∧Below w.heap.size w W':=
 (callsIn_wide (n:=3)).1 (keysOfS_in _ 3 trivial trivial trivial rfl (by omega) g sv zs hl w hg kg hR)
end Go.Proofs.YtfmolgdfjklmpaaGreat
