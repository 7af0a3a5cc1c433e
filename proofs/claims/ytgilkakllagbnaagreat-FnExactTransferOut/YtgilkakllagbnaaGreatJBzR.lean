import Derived.Test.YtgilkakllagbnaaGreatJTbGI
import Derived.Test.YtgilkakllagbnaaGreatJICheck
import Derived.Test.YtgilkakllagbnaaGreatJStI
import Derived.Test.YtgilkakllagbnaaGreatJBzC
import Derived.BigQuiet
import Derived.RegionTactic
namespace Go.Proofs.YtgilkakllagbnaaGreat
open Go.RowKit
set_option linter.unusedVariables false
def recC(r:Rr)(xs ys:List ByteArray):Int:=
 if r.cl≠1 then 19 else if(decide (0<=r.tt)&&decide (r.tt<=2147483647))=false then 18
 else if(decide (0<=r.ty)&&decide (r.ty<=65535))=false then 6 else if metaB r.ty=true then 6 else if cutCode r.ty r.da≠0 then 7 else if underB xs ys=false then 22 else 0
set_option maxRecDepth 100000 in
set_option maxHeartbeats 1600000 in
theorem checkRecord_any(r:Rr)(bb:Nat)(v u:Value)(xs ys:List ByteArray)(w:World)(hd:r.da.size<=2000000)(hv:Nm.SRow w v xs)(hu:Nm.SRow w u ys)(hk:w.cell? ⟨bb,3,none⟩=some u)(hxs:∀ x∈xs,x.size<=1000000000)(hlx:xs.length<=1000000000)(hly:ys.length<=1000000000):
 Calls Tryz.prog 131 #[.pointer (some ⟨bb,0,none⟩),.agg #[.string r.own,.int .i64 r.ty,.int .i64 r.cl,.int .i64 r.tt,.string r.da],v] w fun e w'=>e=.returned (.int .i64 (recC r xs ys))∧Below w.heap.size w w':=by
 have hB0:=(Below.refl w.heap.size w).alloc (Nat.le_refl _) (.cells #[.string r.own,.int .i64 r.ty,.int .i64 r.cl,.int .i64 r.tt,.string r.da] 56);have hR0:=RB.new w r 56;have h1:=fun W=>within_any r.tt 2147483647 W
 have h2:=fun W=>within_any r.ty 65535 W
 have h3:=fun W=>isMeta_any r.ty W
 have h4:=fun W=>implCheckData_any r.ty r.da W hd
 have h5:=fun W (hW:Below w.heap.size w W)=>under_any v u xs ys W (hv.below hW) (hu.below hW) hxs hlx hly
 have hkk:=fun W (hW:Below w.heap.size w W)=>(hW.cell (p:=⟨bb,3,none⟩) (World.block_lt_of_cell? w _ hk)).trans hk
 have ev:=hv;obtain⟨va,vc,rfl,_⟩:=ev;have eu:=hu;obtain⟨ua,uc,rfl,_⟩:=eu;obtain⟨Q,hQ⟩:∃ Q,Q=recC r xs ys:=⟨_,rfl⟩;rw [<- hQ];unfold recC at hQ;generalize cutCode r.ty r.da=CC at*;generalize underB xs ys=UB at*;generalize (decide (0<=r.tt)&&decide (r.tt<=2147483647))=TT at*;generalize (decide (0<=r.ty)&&decide (r.ty<=65535))=TY at*;have hmb:∀ b,metaB r.ty=b->True:=fun _ _=>trivial
 generalize metaB r.ty=MB at*;clear hmb hv hu hk;obtain⟨o,ty,cl,tt,da⟩:=r;simp only [RB] at*;obtain⟨c0,c1,c2,c3,c4⟩:=hR0
 by_cases hcl:cl=1
 ·rw [if_neg (by simpa using hcl)] at hQ;subst hcl;have ncl:((1:Int) != 1)=false:=rfl
  cases TT with
  |false=>
   simp only [if_true] at hQ;subst hQ;clear h2 h3 h4 h5 hkk;go_enter Tryz.func131,Tryz.ntmps131;go_wp2_with fail
   refine(h1 _).mono ?_;rintro e w1 ⟨rfl,rfl⟩;go_wp2;go_ret
   exact⟨rfl,hB0⟩
  |true=>
   simp only [Bool.true_eq_false,if_false] at hQ
   cases TY with
   |false=>
    simp only [if_true] at hQ;subst hQ;clear h3 h4 h5 hkk;go_enter Tryz.func131,Tryz.ntmps131;go_wp2_with fail
    refine(h1 _).mono ?_;rintro e w1 ⟨rfl,rfl⟩;go_wp2_with fail
    refine(h2 _).mono ?_;rintro e w1 ⟨rfl,rfl⟩;go_wp2;go_ret
    exact⟨rfl,hB0⟩
   |true=>
    simp only [Bool.true_eq_false,if_false] at hQ
    cases MB with
    |true=>
     simp only [if_true] at hQ;subst hQ;clear h4 h5 hkk;go_enter Tryz.func131,Tryz.ntmps131;go_wp2_with fail
     refine(h1 _).mono ?_;rintro e w1 ⟨rfl,rfl⟩;go_wp2_with fail
     refine(h2 _).mono ?_;rintro e w1 ⟨rfl,rfl⟩;go_wp2_with fail
     refine(h3 _).mono ?_;rintro e w1 ⟨rfl,rfl⟩;go_wp2;go_ret
     exact⟨rfl,hB0⟩
    |false=>
     simp only [Bool.false_eq_true,if_false] at hQ
     by_cases hcc:CC=0
     ·rw [if_neg (by simpa using hcc)] at hQ;subst hcc;have HQ:=Nm.hide hQ;clear hQ;go_enter Tryz.func131,Tryz.ntmps131;go_wp2_with fail
      refine(h1 _).mono ?_;rintro e w1 ⟨rfl,rfl⟩;go_wp2_with fail
      refine(h2 _).mono ?_;rintro e w1 ⟨rfl,rfl⟩;go_wp2_with fail
      refine(h3 _).mono ?_;rintro e w1 ⟨rfl,rfl⟩;go_wp2_with fail
      refine(h4 _).mono ?_;rintro e w2 ⟨rfl,b2⟩;have hb2:=Nm.below_two hB0 b2;have k2:=hkk w2 hb2;clear hkk;go_wp2_with fail
      refine(h5 _ hb2).mono ?_;rintro e w3 ⟨rfl,m,rfl⟩
      cases UB with
      |true=>
       go_wp2;go_ret
       exact⟨by rw [HQ.out];rfl,Go.below_drewN hb2 _⟩
      |false=>
       go_wp2;go_ret;exact⟨by rw [HQ.out];rfl,Go.below_drewN hb2 _⟩
     ·rw [if_pos (by simpa using hcc)] at hQ;subst hQ;have ncc:(CC != 0)=true:=by simpa using hcc
      clear h5 hkk;go_enter Tryz.func131,Tryz.ntmps131;go_wp2_with fail
      refine(h1 _).mono ?_;rintro e w1 ⟨rfl,rfl⟩;go_wp2_with fail
      refine(h2 _).mono ?_;rintro e w1 ⟨rfl,rfl⟩;go_wp2_with fail
      refine(h3 _).mono ?_;rintro e w1 ⟨rfl,rfl⟩;go_wp2_with fail
      refine(h4 _).mono ?_;rintro e w2 ⟨rfl,b2⟩;go_wp2;go_ret;exact⟨rfl,Nm.below_two hB0 b2⟩
 ·rw [if_pos (by simpa using hcl)] at hQ;subst hQ;have ncl:(cl != 1)=true:=by simpa using hcl
  clear h1 h2 h3 h4 h5 hkk;go_enter Tryz.func131,Tryz.ntmps131;go_wp2;go_ret;exact⟨rfl,hB0⟩
set_option maxRecDepth 100000 in
set_option maxHeartbeats 800000 in
theorem single1_any(x:Ld)(tt hv:Value)(fi:Nat)(T:TypeId)(w:World)(hk:Blk w x.sb #[tt,.int .i64 (fi:Int),hv] T):
 Calls Tryz.prog 138 #[.agg #[.int .i64 (x.at_:Int),.int .i64 x.ty,.pointer (some ⟨x.ob,0,none⟩),.pointer (some ⟨x.sb,0,none⟩)]] w fun e w'=>e=.returned (.bool ((x.ty==5||x.ty==39)&&((x.at_:Int) != (fi:Int))))∧Below w.heap.size w w':=by
 have hB0:=(Below.refl w.heap.size w).alloc (Nat.le_refl _) (.cells #[.int .i64 (x.at_:Int),.int .i64 x.ty,.pointer (some ⟨x.ob,0,none⟩),.pointer (some ⟨x.sb,0,none⟩)] 175);have kb:=blk_new w #[.int .i64 (x.at_:Int),.int .i64 x.ty,.pointer (some ⟨x.ob,0,none⟩),.pointer (some ⟨x.sb,0,none⟩)] 175;have r0:=(blk_cell kb 0).trans rfl;have r1:=(blk_cell kb 1).trans rfl;have r3:=(blk_cell kb 3).trans rfl;have ko:=(blk_cell (blk_below hk hB0) 1).trans rfl;obtain⟨at_,ty,ob,sb⟩:=x;simp only at*
 clear hk kb;generalize hE:((at_:Int) != (fi:Int))=EQ at*;have HE:=Nm.hide hE
 by_cases h2:ty=5
 ·subst h2;have e2:((5:Int)==5)=true:=rfl;go_enter Tryz.func138,Tryz.ntmps138;go_wp2;go_quiet (fail)
  go_wp2;go_ret;exact⟨by simp,Go.below_drewN hB0 _⟩
 ·have e2:(ty==5)=false:=by simpa using h2
  by_cases h3:ty=39
  ·subst h3;go_enter Tryz.func138,Tryz.ntmps138;go_wp2;go_quiet (fail)
   go_wp2;go_ret;exact⟨by simp,Go.below_drewN hB0 _⟩
  ·have e3:(ty==39)=false:=by simpa using h3
   go_enter Tryz.func138,Tryz.ntmps138;go_wp2;go_quiet (fail)
   go_wp2;go_ret;exact⟨by simp [e2,e3],Go.below_drewN hB0 _⟩
set_option maxRecDepth 100000 in
set_option maxHeartbeats 800000 in
theorem soa1_any(x:Ld)(cq:Nat)(tt hv nm ov:Value)(fi:Nat)(T To:TypeId)(la:Option Addr)(ln lc:Nat)(aa:Option Addr)(an ac:Nat)(w:World)(hk:Blk w x.sb #[tt,.int .i64 (fi:Int),hv] T)(ho:Blk w x.ob #[nm,.slice la ln lc,ov] To)(hq:w.cell? ⟨cq,0,none⟩=some (.slice aa an ac)):
 Calls Tryz.prog 134 #[.agg #[.int .i64 (x.at_:Int),.int .i64 x.ty,.pointer (some ⟨x.ob,0,none⟩),.pointer (some ⟨x.sb,0,none⟩)],.pointer (some ⟨cq,0,none⟩)] w fun e w'=>e=.returned (.bool (x.ty==6&&(decide (an<ln)||((x.at_:Int) != (fi:Int)))))∧Below w.heap.size w w':=by
 have hB0:=(Below.refl w.heap.size w).alloc (Nat.le_refl _) (.cells #[.int .i64 (x.at_:Int),.int .i64 x.ty,.pointer (some ⟨x.ob,0,none⟩),.pointer (some ⟨x.sb,0,none⟩)] 175);have kb:=blk_new w #[.int .i64 (x.at_:Int),.int .i64 x.ty,.pointer (some ⟨x.ob,0,none⟩),.pointer (some ⟨x.sb,0,none⟩)] 175;have r0:=(blk_cell kb 0).trans rfl;have r1:=(blk_cell kb 1).trans rfl;have r2:=(blk_cell kb 2).trans rfl;have r3:=(blk_cell kb 3).trans rfl;have ko:=(blk_cell (blk_below hk hB0) 1).trans rfl;have kp:=(blk_cell (blk_below ho hB0) 1).trans rfl;have kq:=(hB0.cell (p:=⟨cq,0,none⟩) (World.block_lt_of_cell? w _ hq)).trans hq;obtain⟨at_,ty,ob,sb⟩:=x;simp only at*
 clear hk kb ho hq;generalize hE:((at_:Int) != (fi:Int))=EQ at*;have HE:=Nm.hide hE
 by_cases h2:ty=6
 ·subst h2;have e2:((6:Int)==6)=true:=rfl
  by_cases h3:an<ln
  ·have e3:(an:Int)<(ln:Int):=by omega
   go_enter Tryz.func134,Tryz.ntmps134;go_wp2;go_quiet (fail)
   go_wp2;go_ret;exact⟨by simp [h3],Go.below_drewN hB0 _⟩
  ·have e3:¬(an:Int)<(ln:Int):=by omega
   go_enter Tryz.func134,Tryz.ntmps134;go_wp2;go_quiet (fail)
   go_wp2;go_ret;exact⟨by simp [h3],Go.below_drewN hB0 _⟩
 ·have e2:(ty==6)=false:=by simpa using h2
  go_enter Tryz.func134,Tryz.ntmps134;go_wp2;go_quiet (fail)
  go_wp2;go_ret;exact⟨by simp [e2],Go.below_drewN hB0 _⟩
end Go.Proofs.YtgilkakllagbnaaGreat
