import Derived.Test.YtmdinnjimioffaaGreatJTrG
import Derived.Test.YtmdinnjimioffaaGreatJOrdL
import Derived.Test.YtmdinnjimioffaaGreatJTrM
import Derived.Test.YtmdinnjimioffaaGreatJTrD
import Derived.Test.YtmdinnjimioffaaGreatJTrE
namespace Go.Proofs.YtmdinnjimioffaaGreat
open Go.RowKit
set_option linter.unusedVariables false
def oneC(r:Rr)(apex:ByteArray):Int:=
 if(Nm.split r.own).isSome=false then 1 else if r.cl≠1 then 19 else if(decide (0<=r.tt)&&decide (r.tt<=2147483647))=false then 18
 else if metaB r.ty=true∨r.ty<0∨65535<r.ty then 6 else if cutCode r.ty r.da≠0 then 7 else if isUnderS r.own apex=false then 22 else 0
set_option maxRecDepth 100000 in
set_option maxHeartbeats 1600000 in
theorem l06One_any(r:Rr)(apex:ByteArray)(w:World)(ho:r.own.size<=maxLen)(ha:apex.size<=maxLen):
 Calls Tryz.prog 21 #[.agg #[.string r.own,.int .i64 r.ty,.int .i64 r.cl,.int .i64 r.tt,.string r.da],.string apex] w fun e w'=>e=.returned (.int .i64 (oneC r apex))∧Below w.heap.size w w':=by
 have hB0:=(Below.refl w.heap.size w).alloc (Nat.le_refl _) (.cells #[.string r.own,.int .i64 r.ty,.int .i64 r.cl,.int .i64 r.tt,.string r.da] 33);have hR0:=RB.new w r 33;have h1:=fun W=>specNameOK_any r.own W ho
 have h2:=fun W=>l04In_any r.tt 2147483647 W
 have h3:=fun W=>l05Meta_any r.ty W
 have h4:=fun W=>specCheckData_any r.ty r.da W
 have h5:=fun W=>specIsUnder_any r.own apex W ho ha
 have hkeep:=fun(W:World) (hb:Below (w.alloc (.cells #[.string r.own,.int .i64 r.ty,.int .i64 r.cl,.int .i64 r.tt,.string r.da] 33)).heap.size (w.alloc (.cells #[.string r.own,.int .i64 r.ty,.int .i64 r.cl,.int .i64 r.tt,.string r.da] 33)) W)=>(And.intro (hR0.below hb) (Nm.below_two hB0 hb))
 obtain⟨Q,hQ⟩:∃ Q,Q=oneC r apex:=⟨_,rfl⟩;rw [<- hQ];unfold oneC at hQ;generalize cutCode r.ty r.da=CC at*;generalize isUnderS r.own apex=IU at*;generalize (Nm.split r.own).isSome=SO at*;generalize (decide (0<=r.tt)&&decide (r.tt<=2147483647))=TT at*;have hmb:∀ b,metaB r.ty=b->True:=fun _ _=>trivial
 generalize metaB r.ty=MB at*;clear hmb;obtain⟨o,ty,cl,tt,da⟩:=r;simp only [RB] at*;obtain⟨c0,c1,c2,c3,c4⟩:=hR0
 cases SO with
 |false=>
  simp only [if_true] at hQ;subst hQ;clear h2 h3 h4 h5;go_enter Tryz.func21,Tryz.ntmps21;go_wp2_with fail
  refine(h1 _).mono ?_;rintro e w1 ⟨rfl,b1⟩;go_wp2;go_ret
  exact⟨rfl,Nm.below_two hB0 b1⟩
 |true=>
  simp only [Bool.true_eq_false,if_false] at hQ
  by_cases hcl:cl=1
  ·rw [if_neg (by simpa using hcl)] at hQ;subst hcl;have ncl:((1:Int) != 1)=false:=rfl
   cases TT with
   |false=>
    simp only [if_true] at hQ;subst hQ;clear h3 h4 h5;go_enter Tryz.func21,Tryz.ntmps21;go_wp2_with fail
    refine(h1 _).mono ?_;rintro e w1 ⟨rfl,b1⟩;obtain⟨⟨d0,d1,d2,d3,d4⟩,e1⟩:=hkeep w1 b1;clear c0 c1 c2 c3 c4;go_wp2_with fail
    refine(h2 _).mono ?_;rintro e w2 ⟨rfl,rfl⟩;go_wp2;go_ret
    exact⟨rfl,e1⟩
   |true=>
    simp only [Bool.true_eq_false,if_false] at hQ
    by_cases hm:MB=true∨ty<0∨65535<ty
    ·rw [if_pos hm] at hQ;subst hQ;clear h4 h5
     cases MB with
     |true=>
      go_enter Tryz.func21,Tryz.ntmps21;go_wp2_with fail
      refine(h1 _).mono ?_;rintro e w1 ⟨rfl,b1⟩;obtain⟨⟨d0,d1,d2,d3,d4⟩,e1⟩:=hkeep w1 b1;clear c0 c1 c2 c3 c4;go_wp2_with fail
      refine(h2 _).mono ?_;rintro e w2 ⟨rfl,rfl⟩;go_wp2_with fail
      refine(h3 _).mono ?_;rintro e w3 ⟨rfl,rfl⟩;go_wp2;go_ret
      exact⟨rfl,e1⟩
     |false=>
      by_cases hneg:ty<0
      ·have n0:decide (ty<0)=true:=decide_eq_true hneg;go_enter Tryz.func21,Tryz.ntmps21;go_wp2_with fail
       refine(h1 _).mono ?_;rintro e w1 ⟨rfl,b1⟩;obtain⟨⟨d0,d1,d2,d3,d4⟩,e1⟩:=hkeep w1 b1;clear c0 c1 c2 c3 c4;go_wp2_with fail
       refine(h2 _).mono ?_;rintro e w2 ⟨rfl,rfl⟩;go_wp2_with fail
       refine(h3 _).mono ?_;rintro e w3 ⟨rfl,rfl⟩;go_wp2;go_ret;exact⟨rfl,e1⟩
      ·have hbig:65535<ty:=by rcases hm with h|h|h;· cases h
                              ·omega
                              ·exact h
       have n0:decide (ty<0)=false:=decide_eq_false hneg;have n1:decide (65535<ty)=true:=decide_eq_true hbig;go_enter Tryz.func21,Tryz.ntmps21;go_wp2_with fail
       refine(h1 _).mono ?_;rintro e w1 ⟨rfl,b1⟩;obtain⟨⟨d0,d1,d2,d3,d4⟩,e1⟩:=hkeep w1 b1;clear c0 c1 c2 c3 c4;go_wp2_with fail
       refine(h2 _).mono ?_;rintro e w2 ⟨rfl,rfl⟩;go_wp2_with fail
       refine(h3 _).mono ?_;rintro e w3 ⟨rfl,rfl⟩;go_wp2;go_ret;exact⟨rfl,e1⟩
    ·rw [if_neg hm] at hQ
     obtain⟨rfl,hneg,hbig⟩:MB=false∧0<=ty∧ty<=65535:=by
      refine⟨?_,?_,?_⟩
      ·cases MB with
       |true=>exact absurd (Or.inl rfl) hm
       |false=>rfl
      ·exact Int.not_lt.1 (fun h=>hm (.inr (.inl h)))
      ·exact Int.not_lt.1 (fun h=>hm (.inr (.inr h)))
     by_cases hc:CC=0
     ·rw [if_neg (by simpa using hc)] at hQ;subst hc
      cases IU with
      |false=>
       simp only [if_true] at hQ;subst hQ;go_enter Tryz.func21,Tryz.ntmps21;go_wp2_with fail
       refine(h1 _).mono ?_;rintro e w1 ⟨rfl,b1⟩;obtain⟨⟨d0,d1,d2,d3,d4⟩,e1⟩:=hkeep w1 b1;clear c0 c1 c2 c3 c4;go_wp2_with fail
       refine(h2 _).mono ?_;rintro e w2 ⟨rfl,rfl⟩;go_wp2_with fail
       refine(h3 _).mono ?_;rintro e w3 ⟨rfl,rfl⟩;go_wp2_with fail
       refine(h4 _).mono ?_;rintro e w4 ⟨rfl,b4⟩;obtain⟨⟨g0,g1,g2,g3,g4⟩,e4⟩:=hkeep w4 (Nm.below_two b1 b4);clear d0 d1 d2 d3 d4;go_wp2_with fail
       refine(h5 _).mono ?_;rintro e w5 ⟨rfl,b5⟩;go_wp2;go_ret
       exact⟨rfl,Nm.below_two e4 b5⟩
      |true=>
       simp only [Bool.true_eq_false,if_false] at hQ;subst hQ;go_enter Tryz.func21,Tryz.ntmps21;go_wp2_with fail
       refine(h1 _).mono ?_;rintro e w1 ⟨rfl,b1⟩;obtain⟨⟨d0,d1,d2,d3,d4⟩,e1⟩:=hkeep w1 b1;clear c0 c1 c2 c3 c4;go_wp2_with fail
       refine(h2 _).mono ?_;rintro e w2 ⟨rfl,rfl⟩;go_wp2_with fail
       refine(h3 _).mono ?_;rintro e w3 ⟨rfl,rfl⟩;go_wp2_with fail
       refine(h4 _).mono ?_;rintro e w4 ⟨rfl,b4⟩;obtain⟨⟨g0,g1,g2,g3,g4⟩,e4⟩:=hkeep w4 (Nm.below_two b1 b4);clear d0 d1 d2 d3 d4;go_wp2_with fail
       refine(h5 _).mono ?_;rintro e w5 ⟨rfl,b5⟩;go_wp2;go_ret;exact⟨rfl,Nm.below_two e4 b5⟩
     ·rw [if_pos (by simpa using hc)] at hQ;subst hQ;have nc:(CC != 0)=true:=by rw [bne_iff_ne];exact hc
      go_enter Tryz.func21,Tryz.ntmps21;go_wp2_with fail
      refine(h1 _).mono ?_;rintro e w1 ⟨rfl,b1⟩;obtain⟨⟨d0,d1,d2,d3,d4⟩,e1⟩:=hkeep w1 b1;clear c0 c1 c2 c3 c4;go_wp2_with fail
      refine(h2 _).mono ?_;rintro e w2 ⟨rfl,rfl⟩;go_wp2_with fail
      refine(h3 _).mono ?_;rintro e w3 ⟨rfl,rfl⟩;go_wp2_with fail
      refine(h4 _).mono ?_;rintro e w4 ⟨rfl,b4⟩;go_wp2;go_ret;exact⟨rfl,Nm.below_two e1 b4⟩
  ·rw [if_pos (by simpa using hcl)] at hQ;subst hQ;have ncl:(cl != 1)=true:=by rw [bne_iff_ne];exact hcl
   clear h2 h3 h4 h5;go_enter Tryz.func21,Tryz.ntmps21;go_wp2_with fail
   refine(h1 _).mono ?_;rintro e w1 ⟨rfl,b1⟩;obtain⟨⟨d0,d1,d2,d3,d4⟩,e1⟩:=hkeep w1 b1;clear c0 c1 c2 c3 c4;go_wp2;go_ret;exact⟨rfl,e1⟩
end Go.Proofs.YtmdinnjimioffaaGreat
