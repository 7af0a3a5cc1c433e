import Derived.Test.YtahpiciofdfipaaGreatJZbG
import Derived.BigQuiet
import Derived.RegionTactic
import Derived.Test.YtahpiciofdfipaaGreatJBzC
namespace Go.Proofs.YtahpiciofdfipaaGreat
open Go.RowKit
set_option linter.unusedVariables false
def soaR(f:Ld->Bool)(HB:Bool)(ls:List Ld):Value:=match ls.find? f with
 |some x=>.tuple #[.int .i64 20,.int .i64 (x.at_:Int)]
 |none=>if HB=true then .tuple #[.int .i64 0,.int .i64 0] else .tuple #[.int .i64 20,.int .i64 (-1)]
set_option maxRecDepth 100000 in
set_option maxHeartbeats 800000 in
theorem checkSOA_any(bb:Nat)(v:Value)(ls:List Ld)(f:Ld->Bool)(na:Option Addr)(nl nc:Nat)(HB:Bool)(w:World)(hk:w.cell? ⟨bb,5,none⟩=some v)(h:CRow w v ls.length 4 (ldVs ls))(hl:ls.length<=1000000)(hk3:w.cell? ⟨bb,3,none⟩=some (.slice na nl nc))
 (hf:∀ x∈ls,∀ cq W,Below w.heap.size w W->W.cell? ⟨cq,0,none⟩=some (.slice na nl nc)->Calls Tryz.prog 108 #[.agg #[.int .i64 (x.at_:Int),.int .i64 x.ty,.pointer (some ⟨x.ob,0,none⟩),.pointer (some ⟨x.sb,0,none⟩)],.pointer (some ⟨cq,0,none⟩)] W fun e w'=>e=.returned (.bool (f x))∧Below W.heap.size W w')
 (hh:∀ W,Below w.heap.size w W->Calls Tryz.prog 109 #[.pointer (some ⟨bb,3,none⟩),.slice na nl nc,.int .i64 6] W fun e w'=>e=.returned (.bool HB)∧Below W.heap.size W w'):
 Calls Tryz.prog 77 #[.pointer (some ⟨bb,0,none⟩)] w fun e w'=>e=.returned (soaR f HB ls)∧Below w.heap.size w w':=by
 have hB0:=(Below.refl w.heap.size w).alloc (Nat.le_refl _) (.cells #[.slice na nl nc] 57);have kb:=blk_new w #[.slice na nl nc] 57;have hw:=firstSOA_any bb w.heap.size 20 v ls f _ ((hB0.cell (p:=⟨bb,5,none⟩) (World.block_lt_of_cell? w _ hk)).trans hk) (h.below hB0) hl (fun x hx W hW=>hf x hx w.heap.size W (Nm.below_two hB0 hW) ((blk_cell (blk_below kb hW) 0).trans rfl));have HH:=Nm.hide hh;clear hf hh h hk;unfold soaR;unfold fstR at hw
 cases hx:ls.find? f with
 |some x=>
  rw [hx] at hw;simp only at hw ⊢
  clear hx;go_enter Tryz.func77,Tryz.ntmps77;go_wp2_with fail
  refine hw.mono ?_;rintro e w1 ⟨rfl,b1⟩;have hb1:=Nm.below_two hB0 b1;have k1:=(blk_cell (blk_below kb b1) 0).trans rfl;clear hw kb b1;go_wp2;go_region
  all_goals go_wp2
  all_goals go_ret2
  all_goals exact⟨rfl,hb1.drew⟩
 |none=>
  rw [hx] at hw;simp only at hw ⊢
  clear hx;go_enter Tryz.func77,Tryz.ntmps77;go_wp2_with fail
  refine hw.mono ?_;rintro e w1 ⟨rfl,b1⟩;have hb1:=Nm.below_two hB0 b1;have k1:=(blk_cell (blk_below kb b1) 0).trans rfl;have hd:=HH.out w1.drew hb1.drew;clear hw kb b1;go_wp2;go_region_with (go_at_call 109;refine hd.mono ?_;rintro e w2 ⟨rfl,b2⟩)
  all_goals (cases HB<;>(go_wp2;go_ret2;exact⟨rfl,Nm.below_two hb1 ((Below.refl _ w1).drew.trans b2)⟩))
set_option maxRecDepth 100000 in
set_option maxHeartbeats 800000 in
theorem single1_any(x:Ld)(tt hv:Value)(fi:Nat)(T:TypeId)(w:World)(hk:Blk w x.sb #[tt,.int .i64 (fi:Int),hv] T):
 Calls Tryz.prog 112 #[.agg #[.int .i64 (x.at_:Int),.int .i64 x.ty,.pointer (some ⟨x.ob,0,none⟩),.pointer (some ⟨x.sb,0,none⟩)]] w fun e w'=>e=.returned (.bool ((x.ty==5||x.ty==39)&&((x.at_:Int) != (fi:Int))))∧Below w.heap.size w w':=by
 have hB0:=(Below.refl w.heap.size w).alloc (Nat.le_refl _) (.cells #[.int .i64 (x.at_:Int),.int .i64 x.ty,.pointer (some ⟨x.ob,0,none⟩),.pointer (some ⟨x.sb,0,none⟩)] 159);have kb:=blk_new w #[.int .i64 (x.at_:Int),.int .i64 x.ty,.pointer (some ⟨x.ob,0,none⟩),.pointer (some ⟨x.sb,0,none⟩)] 159;have r0:=(blk_cell kb 0).trans rfl;have r1:=(blk_cell kb 1).trans rfl;have r3:=(blk_cell kb 3).trans rfl;have ko:=(blk_cell (blk_below hk hB0) 1).trans rfl;obtain⟨at_,ty,ob,sb⟩:=x;simp only at*
 clear hk kb;generalize hE:((at_:Int) != (fi:Int))=EQ at*;have HE:=Nm.hide hE
 by_cases h2:ty=5
 ·subst h2;have e2:((5:Int)==5)=true:=rfl;go_enter Tryz.func112,Tryz.ntmps112;go_wp2;go_quiet (fail)
  go_wp2;go_ret;exact⟨by simp,Go.below_drewN hB0 _⟩
 ·have e2:(ty==5)=false:=by simpa using h2
  by_cases h3:ty=39
  ·subst h3;go_enter Tryz.func112,Tryz.ntmps112;go_wp2;go_quiet (fail)
   go_wp2;go_ret;exact⟨by simp,Go.below_drewN hB0 _⟩
  ·have e3:(ty==39)=false:=by simpa using h3
   go_enter Tryz.func112,Tryz.ntmps112;go_wp2;go_quiet (fail)
   go_wp2;go_ret;exact⟨by simp [e2,e3],Go.below_drewN hB0 _⟩
set_option maxRecDepth 100000 in
set_option maxHeartbeats 800000 in
theorem soa1_any(x:Ld)(cq:Nat)(tt hv nm ov:Value)(fi:Nat)(T To:TypeId)(la:Option Addr)(ln lc:Nat)(aa:Option Addr)(an ac:Nat)(w:World)(hk:Blk w x.sb #[tt,.int .i64 (fi:Int),hv] T)(ho:Blk w x.ob #[nm,.slice la ln lc,ov] To)(hq:w.cell? ⟨cq,0,none⟩=some (.slice aa an ac)):
 Calls Tryz.prog 108 #[.agg #[.int .i64 (x.at_:Int),.int .i64 x.ty,.pointer (some ⟨x.ob,0,none⟩),.pointer (some ⟨x.sb,0,none⟩)],.pointer (some ⟨cq,0,none⟩)] w fun e w'=>e=.returned (.bool (x.ty==6&&(decide (an<ln)||((x.at_:Int) != (fi:Int)))))∧Below w.heap.size w w':=by
 have hB0:=(Below.refl w.heap.size w).alloc (Nat.le_refl _) (.cells #[.int .i64 (x.at_:Int),.int .i64 x.ty,.pointer (some ⟨x.ob,0,none⟩),.pointer (some ⟨x.sb,0,none⟩)] 159);have kb:=blk_new w #[.int .i64 (x.at_:Int),.int .i64 x.ty,.pointer (some ⟨x.ob,0,none⟩),.pointer (some ⟨x.sb,0,none⟩)] 159;have r0:=(blk_cell kb 0).trans rfl;have r1:=(blk_cell kb 1).trans rfl;have r2:=(blk_cell kb 2).trans rfl;have r3:=(blk_cell kb 3).trans rfl;have ko:=(blk_cell (blk_below hk hB0) 1).trans rfl;have kp:=(blk_cell (blk_below ho hB0) 1).trans rfl;have kq:=(hB0.cell (p:=⟨cq,0,none⟩) (World.block_lt_of_cell? w _ hq)).trans hq;obtain⟨at_,ty,ob,sb⟩:=x;simp only at*
 clear hk kb ho hq;generalize hE:((at_:Int) != (fi:Int))=EQ at*;have HE:=Nm.hide hE
 by_cases h2:ty=6
 ·subst h2;have e2:((6:Int)==6)=true:=rfl
  by_cases h3:an<ln
  ·have e3:(an:Int)<(ln:Int):=by omega
   go_enter Tryz.func108,Tryz.ntmps108;go_wp2;go_quiet (fail)
   go_wp2;go_ret;exact⟨by simp [h3],Go.below_drewN hB0 _⟩
  ·have e3:¬(an:Int)<(ln:Int):=by omega
   go_enter Tryz.func108,Tryz.ntmps108;go_wp2;go_quiet (fail)
   go_wp2;go_ret;exact⟨by simp [h3],Go.below_drewN hB0 _⟩
 ·have e2:(ty==6)=false:=by simpa using h2
  go_enter Tryz.func108,Tryz.ntmps108;go_wp2;go_quiet (fail)
  go_wp2;go_ret;exact⟨by simp [e2],Go.below_drewN hB0 _⟩
end Go.Proofs.YtahpiciofdfipaaGreat
