import Derived.Test.YtmdinnjimioffaaGreatJBzC
import Derived.Test.YtmdinnjimioffaaGreatJCzM
import Derived.Test.YtmdinnjimioffaaGreatJBzT
import Derived.Test.YtmdinnjimioffaaGreatBzV
import Derived.Test.YtmdinnjimioffaaGreatJZbG
import Derived.Test.YtmdinnjimioffaaGreatZbZ
import Derived.Test.YtmdinnjimioffaaGreatJTrG
import Derived.Test.YtmdinnjimioffaaGreatJZtM
import Derived.Test.YtmdinnjimioffaaGreatJTrM
import Derived.Test.YtmdinnjimioffaaGreatJFoldD
import Derived.Test.YtmdinnjimioffaaGreatJOrdL
import Derived.Deep.RegionHeld3
import Derived.Test.YtmdinnjimioffaaGreatBzD
namespace Go.Proofs.YtmdinnjimioffaaGreat
open Go.RowKit
set_option linter.unusedVariables false
structure Ky where
 fo:ByteArray
 ty:Int
 dt:ByteArray
 tt:Int
def kyI(x:It):Ky:=⟨x.fo,x.r.ty,x.dt,x.r.tt⟩
structure PokK (S:Ky->Prop) (fo:ByteArray):Prop where
 mix:∀ a b,S a->S b->b.fo=a.fo->b.ty=a.ty->b.tt=a.tt
 soa:∀ a,S a->a.ty=6->a.fo=fo
 soa2:∀ a b,S a->S b->a.ty=6->b.ty=6->b.dt=a.dt
 has6:∃ a,S a∧a.fo=fo∧a.ty=6
 has2:∃ a,S a∧a.fo=fo∧a.ty=2
 star:∀ a,S a->starB a.fo=true->a.ty≠2∧a.ty≠39
 one:∀ a b,S a->S b->a.ty=5∨a.ty=39->b.fo=a.fo->b.ty=a.ty->b.dt=a.dt
 ali:∀ a b,S a->S b->b.fo=a.fo->b.ty=5->a.ty=5∨a.ty=47
 bel:∀ a b,S a->S b->b.ty=39->b.fo≠a.fo->isUnderS a.fo b.fo=false
def keyS(l:List It)(k:Ky):Prop:=∃ x∈l,kyI x=k
theorem firstI_none{p:Nat->It->Bool}{l:List It}:firstI p l=none↔ ∀ (i:Nat) (x:It),l[i]? =some x->p i x=false:=by
 constructor
 ·intro h i x hx;have hi:=(List.getElem?_eq_some_iff.1 hx).1;rw [firstI,List.find?_eq_none] at h;have:=h i (by simpa using hi);rw [hx] at this;simpa using this
 ·intro h;exact firstI_no fun i _ y hy=>h i y hy
theorem rules_zero{l:List It}{fo:ByteArray}:(rulesI l fo).1=0↔(∀ (i:Nat) (x:It),l[i]? =some x->ru1 l fo i x=false)∧hasI l fo 6=true∧hasI l fo 2=true∧(∀ (i:Nat) (x:It),l[i]? =some x->ru2 x=false)∧(∀ (i:Nat) (x:It),l[i]? =some x->ru3 l i x=false)∧(∀ (i:Nat) (x:It),l[i]? =some x->ru4 l x=false)∧(∀ (i:Nat) (x:It),l[i]? =some x->ru5 l x=false):=by
 rw [rulesI_eq,<- firstI_none (p:=ru1 l fo),<- firstI_none (p:=fun _ x=>ru2 x),<- firstI_none (p:=ru3 l),<- firstI_none (p:=fun _ x=>ru4 l x),<- firstI_none (p:=fun _ x=>ru5 l x)]
 cases h1:firstI (ru1 l fo) l with
 |some i=>simp
 |none=>
  cases h2:hasI l fo 6 with
  |false=>simp
  |true=>
   cases h3:hasI l fo 2 with
   |false=>simp
   |true=>
    cases h4:firstI (fun _ x=>ru2 x) l with
    |some i=>simp
    |none=>
     cases h5:firstI (ru3 l) l with
     |some i=>simp
     |none=>
      cases h6:firstI (fun _ x=>ru4 l x) l with
      |some i=>simp
      |none=>
       cases h7:firstI (fun _ x=>ru5 l x) l with
       |some i=>simp
       |none=>simp
theorem kept_ex{l:List It}(hl:∀ y∈l,GoodI y){x:It}(hx:x∈l):∃ (i:Nat) (z:It),l[i]? =some z∧(twI l)[i]? =some z∧z.out=false∧z.fo=x.fo∧z.r.ty=x.r.ty∧z.dt=x.dt:=by
 obtain⟨i,z,hF⟩:=First.ex (P:=fun y:It=>y.fo=x.fo∧y.r.ty=x.r.ty∧y.dt=x.dt) (l:=l) ⟨x,hx,rfl,rfl,rfl⟩;have hg:=hl z (List.mem_of_getElem? hF.1)
 have hd:dupI (l.take i) z=false:=by
  cases hd:dupI (l.take i) z with
  |false=>rfl
  |true=>
   exfalso
   rw [dupI,List.any_eq_true] at hd;obtain⟨y,hy,h⟩:=hd;simp only [kinB,Bool.and_eq_true,decide_eq_true_eq] at h;obtain⟨m,hm,hy⟩:=mem_take_get hy;exact hF.2.2 m y hm hy ⟨h.1.1.trans hF.2.1.1,h.1.2.trans hF.2.1.2.1,h.2.trans hF.2.1.2.2⟩
 refine⟨i,z,hF.1,?_,hg.2.2.2,hF.2.1.1,hF.2.1.2.1,hF.2.1.2.2⟩;rw [twI_get hF.1,hd];simp [outI]
theorem tw_at{l:List It}{i:Nat}{x:It}(h:(twI l)[i]? =some x):∃ y,l[i]? =some y∧x=outI (dupI (l.take i) y) y:=by
 have hi:=(List.getElem?_eq_some_iff.1 h).1;rw [twI_len] at hi;have hy:l[i]? =some l[i]:=List.getElem?_eq_getElem hi;rw [twI_get hy] at h;exact⟨_,hy,(Option.some.inj h).symm⟩
theorem dup_true{l:List It}{i j:Nat}{x y:It}(hj:j<i)(hy:l[j]? =some y)(h1:y.fo=x.fo)(h2:y.r.ty=x.r.ty)(h3:y.dt=x.dt):dupI (l.take i) x=true:=by
 rw [dupI,List.any_eq_true];exact⟨y,List.mem_of_getElem? (i:=j) (by rw [List.getElem?_take_of_lt hj];exact hy),by simp [kinB,h1,h2,h3]⟩
theorem mix_iff{l:List It}:badI l<0↔ ∀ x∈l,∀ y∈l,y.fo=x.fo->y.r.ty=x.r.ty->y.r.tt=x.r.tt:=by
 have e:badI l<0↔firstI (fun i x=>mixI (l.take i) x) l=none:=by
  rw [badI]
  cases firstI (fun i x=>mixI (l.take i) x) l with
  |some i=>simp
  |none=>simp
 rw [e,firstI_none];constructor
 ·intro h
  have key:∀ x∈l,∃ z,(∃ i0,First (fun y:It=>y.fo=x.fo∧y.r.ty=x.r.ty) l i0 z)∧z.r.tt=x.r.tt:=by
   intro x hx;obtain⟨i0,z,hF⟩:=First.ex (P:=fun y:It=>y.fo=x.fo∧y.r.ty=x.r.ty) (l:=l) ⟨x,hx,rfl,rfl⟩;refine⟨z,⟨i0,hF⟩,?_⟩;obtain⟨i,hi⟩:=List.getElem?_of_mem hx
   rcases Nat.lt_trichotomy i0 i with h1|h1|h1
   ·have hf:=find_take_at (l:=l) (k:=i) (p:=kinB x) h1 hF.1 (by simp [kinB,hF.2.1.1,hF.2.1.2]) (fun j w hj hw=>by
     cases hk:kinB x w with
     |false=>rfl
     |true=>
      simp only [kinB,Bool.and_eq_true,decide_eq_true_eq] at hk
      exact absurd hk (hF.2.2 j w hj hw))
    have h2:=h i x hi;rw [mixI,hf] at h2;simpa using h2
   ·subst h1;rw [hF.1] at hi;rw [Option.some.inj hi]
   ·exact absurd ⟨rfl,rfl⟩ (hF.2.2 i x h1 hi)
  intro x hx y hy h1 h2;obtain⟨z,⟨i,hz⟩,e1⟩:=key x hx;obtain⟨w,⟨j,hw⟩,e2⟩:=key y hy
  have hij:i=j:=by
   rcases Nat.lt_trichotomy i j with h3|h3|h3
   ·exact absurd ⟨hz.2.1.1.trans h1.symm,hz.2.1.2.trans h2.symm⟩ (hw.2.2 i z h3 hz.1)
   ·exact h3
   ·exact absurd ⟨hw.2.1.1.trans h1,hw.2.1.2.trans h2⟩ (hz.2.2 j w h3 hw.1)
  subst hij;have hzw:=hz.1;rw [hw.1] at hzw;obtain rfl:=Option.some.inj hzw;rw [<- e2,e1]
 ·intro h i x hx;rw [mixI]
  cases hf:(l.take i).find? (kinB x) with
  |none=>rfl
  |some y=>
   have hk:=List.find?_some hf;simp only [kinB,Bool.and_eq_true,decide_eq_true_eq] at hk;have hy:=List.mem_of_mem_take (List.mem_of_find?_eq_some hf);simp [h x (List.mem_of_getElem? hx) y hy hk.1 hk.2]
theorem pok_iff{l:List It}(hl:∀ y∈l,GoodI y)(fo:ByteArray):(badI l<0∧(rulesI (twI l) fo).1=0)↔PokK (keyS l) fo:=by
 rw [mix_iff,rules_zero];constructor
 ·rintro⟨hm,h1,h6,h2,h3,h4,h5,h7⟩
  refine⟨?_,?_,?_,?_,?_,?_,?_,?_,?_⟩
  ·rintro _ _ ⟨x,hx,rfl⟩ ⟨y,hy,rfl⟩ e1 e2;exact hm x hx y hy e1 e2
  ·rintro _ ⟨x,hx,rfl⟩ e;obtain⟨i,z,a1,a2,a3,a4,a5,a6⟩:=kept_ex hl hx;have:=h1 i z a2;simp only [ru1,a3,a5,show x.r.ty=6 from e,Bool.not_false,Bool.true_and,decide_true,Bool.or_eq_false_iff,decide_eq_false_iff_not,ne_eq,Decidable.not_not] at this;exact a4.symm.trans this.1
  ·rintro _ _ ⟨x,hx,rfl⟩ ⟨y,hy,rfl⟩ e1 e2;obtain⟨i,z,a1,a2,a3,a4,a5,a6⟩:=kept_ex hl hx;obtain⟨j,w,b1,b2,b3,b4,b5,b6⟩:=kept_ex hl hy;have g1:=h1 i z a2;have g2:=h1 j w b2;simp only [ru1,a3,a5,show x.r.ty=6 from e1,Bool.not_false,Bool.true_and,decide_true,Bool.or_eq_false_iff,decide_eq_false_iff_not,ne_eq,Decidable.not_not] at g1;simp only [ru1,b3,b5,show y.r.ty=6 from e2,Bool.not_false,Bool.true_and,decide_true,Bool.or_eq_false_iff,decide_eq_false_iff_not,ne_eq,Decidable.not_not] at g2;show y.dt=x.dt
   rcases Nat.lt_trichotomy i j with h|h|h
   ·have:=(hasI_iff hl j fo 6).2 ⟨i,z,h,a1,g1.1,a5.trans e1⟩;rw [g2.2] at this;cases this
   ·subst h;rw [a1] at b1;obtain rfl:=Option.some.inj b1;exact b6.symm.trans a6
   ·have:=(hasI_iff hl i fo 6).2 ⟨j,w,h,b1,g2.1,b5.trans e2⟩;rw [g1.2] at this;cases this
  ·obtain⟨y,hy,e1,e2⟩:=(hasI_all hl fo 6).1 h6;exact⟨_,⟨y,hy,rfl⟩,e1,e2⟩
  ·obtain⟨y,hy,e1,e2⟩:=(hasI_all hl fo 2).1 h2;exact⟨_,⟨y,hy,rfl⟩,e1,e2⟩
  ·rintro _ ⟨x,hx,rfl⟩ e;obtain⟨i,z,a1,a2,a3,a4,a5,a6⟩:=kept_ex hl hx;have:=h3 i z a2;simp only [ru2,a3,a4,a5,show starB x.fo=true from e,Bool.not_false,Bool.true_and,Bool.or_eq_false_iff,decide_eq_false_iff_not] at this;exact this
  ·rintro _ _ ⟨x,hx,rfl⟩ ⟨y,hy,rfl⟩ e1 e2 e3;obtain⟨i,z,a1,a2,a3,a4,a5,a6⟩:=kept_ex hl hx;obtain⟨j,w,b1,b2,b3,b4,b5,b6⟩:=kept_ex hl hy
   have t1:(decide (x.r.ty=5)||decide (x.r.ty=39))=true:=by
    rcases e1 with e|e
    ·rw [show x.r.ty=5 from e];rfl
    ·rw [show x.r.ty=39 from e];rfl
   have t2:(decide (y.r.ty=5)||decide (y.r.ty=39))=true:=by rw [show y.r.ty=x.r.ty from e3];exact t1
   have g1:=h4 i z a2;have g2:=h4 j w b2;simp only [ru3,a3,a5,a4,t1,Bool.not_false,Bool.true_and] at g1;simp only [ru3,b3,b5,b4,t2,Bool.not_false,Bool.true_and] at g2;show y.dt=x.dt
   rcases Nat.lt_trichotomy i j with h|h|h
   ·have:=(hasI_iff hl j y.fo y.r.ty).2 ⟨i,z,h,a1,a4.trans (show x.fo=y.fo from e2.symm),a5.trans (show x.r.ty=y.r.ty from e3.symm)⟩;rw [g2] at this;cases this
   ·subst h;rw [a1] at b1;obtain rfl:=Option.some.inj b1;exact b6.symm.trans a6
   ·have:=(hasI_iff hl i x.fo x.r.ty).2 ⟨j,w,h,b1,b4.trans e2,b5.trans e3⟩;rw [g1] at this;cases this
  ·rintro _ _ ⟨x,hx,rfl⟩ ⟨y,hy,rfl⟩ e1 e2;obtain⟨i,z,a1,a2,a3,a4,a5,a6⟩:=kept_ex hl hx;have:=h5 i z a2;have hh:=(hasI_all hl x.fo 5).2 ⟨y,hy,e1,e2⟩;simp only [ru4,a3,a4,a5,hh,Bool.not_false,Bool.true_and,Bool.and_true,Bool.and_eq_false_iff,decide_eq_false_iff_not,ne_eq,Decidable.not_not] at this;exact this
  ·rintro _ _ ⟨x,hx,rfl⟩ ⟨y,hy,rfl⟩ e1 e2;obtain⟨i,z,a1,a2,a3,a4,a5,a6⟩:=kept_ex hl hx;obtain⟨j,w,b1,b2,b3,b4,b5,b6⟩:=kept_ex hl hy;have:=h7 i z a2;rw [ru5,a3,Bool.not_false,Bool.true_and,List.any_eq_false] at this;have:=this w (List.mem_of_getElem? b2);simp only [be5,b3,b5,b4,a4,show y.r.ty=39 from e1,Bool.not_false,Bool.true_and,decide_true,Bool.and_eq_true,decide_eq_true_eq,not_and,Bool.not_eq_true] at this;exact this e2
 ·intro h;have hk:∀ {x:It},x∈l->keyS l (kyI x):=fun {x} hx=>⟨x,hx,rfl⟩
  refine⟨fun x hx y hy e1 e2=>h.mix _ _ (hk hx) (hk hy) e1 e2,?_,?_,?_,?_,?_,?_,?_⟩
  ·intro i x hx;obtain⟨y,hy,rfl⟩:=tw_at hx;have hym:=List.mem_of_getElem? hy
   cases hd:dupI (l.take i) y with
   |true=>simp [ru1,outI]
   |false=>
    by_cases e6:y.r.ty=6
    ·have hno:hasI ((twI l).take i) fo 6=false:=by
      cases hh:hasI ((twI l).take i) fo 6 with
      |false=>rfl
      |true=>
       obtain⟨j,w,hj,hw,e1,e2⟩:=(hasI_iff hl i fo 6).1 hh;have:=dup_true (x:=y) hj hw (e1.trans (h.soa _ (hk hym) e6).symm) (e2.trans e6.symm) (h.soa2 _ _ (hk hym) (hk (List.mem_of_getElem? hw)) e6 e2);rw [hd] at this;cases this
     simp [ru1,outI,hno,show y.fo=fo from h.soa _ (hk hym) e6]
    ·simp [ru1,outI,e6]
  ·obtain⟨_,⟨x,hx,rfl⟩,e1,e2⟩:=h.has6;exact(hasI_all hl fo 6).2 ⟨x,hx,e1,e2⟩
  ·obtain⟨_,⟨x,hx,rfl⟩,e1,e2⟩:=h.has2;exact(hasI_all hl fo 2).2 ⟨x,hx,e1,e2⟩
  ·intro i x hx;obtain⟨y,hy,rfl⟩:=tw_at hx;have hym:=List.mem_of_getElem? hy
   cases hs:starB y.fo with
   |false=>simp [ru2,outI,hs]
   |true=>
    obtain⟨e1,e2⟩:=h.star _ (hk hym) hs;have e1':y.r.ty≠2:=e1;have e2':y.r.ty≠39:=e2;simp [ru2,outI,e1',e2']
  ·intro i x hx;obtain⟨y,hy,rfl⟩:=tw_at hx;have hym:=List.mem_of_getElem? hy
   cases hd:dupI (l.take i) y with
   |true=>simp [ru3,outI]
   |false=>
    by_cases e5:y.r.ty=5∨y.r.ty=39
    ·have hno:hasI ((twI l).take i) y.fo y.r.ty=false:=by
      cases hh:hasI ((twI l).take i) y.fo y.r.ty with
      |false=>rfl
      |true=>
       obtain⟨j,w,hj,hw,e1,e2⟩:=(hasI_iff hl i y.fo y.r.ty).1 hh;have:=dup_true (x:=y) hj hw e1 e2 (h.one _ _ (hk hym) (hk (List.mem_of_getElem? hw)) e5 e1 e2);rw [hd] at this;cases this
     simp [ru3,outI,hno]
    ·have e5a:y.r.ty≠5:=fun e=>e5 (.inl e)
     have e5b:y.r.ty≠39:=fun e=>e5 (.inr e)
     simp [ru3,outI,e5a,e5b]
  ·intro i x hx;obtain⟨y,hy,rfl⟩:=tw_at hx;have hym:=List.mem_of_getElem? hy
   cases hh:hasI (twI l) y.fo 5 with
   |false=>simp [ru4,outI,hh]
   |true=>
    obtain⟨w,hw,e1,e2⟩:=(hasI_all hl y.fo 5).1 hh
    rcases h.ali _ _ (hk hym) (hk hw) e1 e2 with e|e
    ·simp [ru4,outI,show y.r.ty=5 from e]
    ·simp [ru4,outI,show y.r.ty=47 from e]
  ·intro i x hx;obtain⟨y,hy,rfl⟩:=tw_at hx;have hym:=List.mem_of_getElem? hy;rw [ru5]
   have:((twI l).any fun w=>be5 (outI (dupI (l.take i) y) y) w)=false:=by
    rw [List.any_eq_false];intro w hw;obtain⟨j,hj⟩:=List.getElem?_of_mem hw;obtain⟨v,hv,rfl⟩:=tw_at hj;intro hb;simp only [be5,outI,Bool.and_eq_true] at hb;obtain⟨⟨⟨_,e1⟩,e2⟩,e3⟩:=hb;have:=h.bel _ _ (hk hym) (hk (List.mem_of_getElem? hv)) (of_decide_eq_true e1) (of_decide_eq_true e2);simp only [kyI] at this;rw [this] at e3;cases e3
   rw [this,Bool.and_false]
end Go.Proofs.YtmdinnjimioffaaGreat
namespace Go.Proofs.YtmdinnjimioffaaGreat
open Go.RowKit
set_option linter.unusedVariables false
abbrev Ne:Type:=List ByteArray×Bool
end Go.Proofs.YtmdinnjimioffaaGreat
namespace Go.Proofs.YtmdinnjimioffaaGreat
open Go.RowKit
set_option linter.unusedVariables false
theorem grp_da{l srt:List It}:∀ (k:Nat),∀ s∈grpK l srt k,s.da≠[]
 |0,s,hs=>by cases hs
 |k+1,s,hs=>by
  have ih:=grp_da (l:=l) (srt:=srt) k;rw [grpK] at hs
  cases hx:srt[k]? with
  |none=>rw [hx] at hs;exact ih s hs
  |some x=>
   rw [hx] at hs;simp only at hs
   split at hs
   ·rcases List.mem_append.1 hs with h|h
    ·exact ih s h
    ·rw [List.mem_singleton.1 h];simp
   ·rw [addLast] at hs
    cases hl:(grpK l srt k).getLast? with
    |none=>rw [hl] at hs;cases hs
    |some s0=>
     rw [hl] at hs
     rcases List.mem_append.1 hs with h|h
     ·exact ih s ((List.dropLast_sublist _).subset h)
     ·rw [List.mem_singleton.1 h];simp
theorem good_all{L:List Rr}{apex:ByteArray}(h:∀ r∈L,oneC r apex=0):∀ y∈L.map itemOf,GoodI y:=by
 intro y hy;obtain⟨r,hr,rfl⟩:=List.mem_map.1 hy;exact good_item (one_ok (h r hr)).1
theorem bldE_ok{L:List Rr}{apex:ByteArray}:(bldE L apex).1=0↔(Nm.split apex).isSome=true∧L.length<=500∧(∀ r∈L,oneC r apex=0)∧PokK (keyS (L.map itemOf)) (Nm.foldS apex):=by
 constructor
 ·intro h;rw [bldE] at h
  split at h
  ·simp at h
  ·rename_i h0
   split at h
   ·simp at h
   ·rename_i h1
    cases hb:badOne apex L 0 with
    |some c=>rw [hb] at h;exact absurd h (bad_some _ _ c.1 c.2 hb)
    |none=>
     have ho:=bad_none _ _ hb;rw [hb] at h;simp only at h
     split at h
     ·simp at h
     ·rename_i h2
      split at h
      ·rename_i h3;exact absurd h h3
      ·rename_i h3
       have h0':(Nm.split apex).isSome=true:=by
        cases hh:(Nm.split apex).isSome with
        |true=>rfl
        |false=>exact absurd hh h0
       exact⟨h0',by omega,ho,(pok_iff (good_all ho) _).1 ⟨by omega,by simpa [itsOf] using h3⟩⟩
 ·rintro⟨h0,h1,h2,h3⟩
  obtain⟨h4,h5⟩:=(pok_iff (good_all h2) _).2 h3;have hb:badOne apex L 0=none:=badOne_no L 0 (fun j x _ hx=>h2 x (List.mem_of_getElem? hx));rw [bldE,if_neg (by rw [h0];simp),if_neg (by omega),hb];simp only
  rw [if_neg (by omega),if_neg (by rw [itsOf,h5];simp)]
theorem keyS_mem{L L':List Rr}(h:∀ r,r∈L'↔r∈L):keyS (L'.map itemOf)=keyS (L.map itemOf):=by
 funext k
 simp only [keyS,List.mem_map,eq_iff_iff];constructor
 ·rintro⟨_,⟨r,hr,rfl⟩,e⟩
  exact⟨_,⟨r,(h r).1 hr,rfl⟩,e⟩
 ·rintro⟨_,⟨r,hr,rfl⟩,e⟩
  exact⟨_,⟨r,(h r).2 hr,rfl⟩,e⟩
theorem bldE_perm{L L':List Rr}{apex:ByteArray}(h:L'.Perm L):(bldE L' apex).1=0↔(bldE L apex).1=0:=by
 rw [bldE_ok,bldE_ok,keyS_mem (fun r=>h.mem_iff),h.length_eq];constructor
 ·rintro⟨h1,h2,h3,h4⟩
  exact⟨h1,h2,fun r hr=>h3 r (h.mem_iff.2 hr),h4⟩
 ·rintro⟨h1,h2,h3,h4⟩
  exact⟨h1,h2,fun r hr=>h3 r (h.mem_iff.1 hr),h4⟩
def BfK(a b:Ky):Prop:=(a.fo=b.fo∧a.ty=b.ty∧Nm.ordL a.dt.data.toList b.dt.data.toList<0)∨(a.fo=b.fo∧a.ty<b.ty)∨(Nm.cmpS a.fo b.fo<0)
theorem bfk_iff(a b:It):Bf a b↔BfK (kyI a) (kyI b):=bf_iff a b
def itK(k:Ky):It:=⟨⟨k.fo,k.ty,1,k.tt,k.dt⟩,k.fo,k.dt,false⟩
theorem bfk_irrefl(a:Ky):¬BfK a a:=fun h=>bf_irrefl (itK a) ((bfk_iff _ _).2 h)
theorem bfk_trans(a b c:Ky)(h1:BfK a b)(h2:BfK b c):BfK a c:=(bfk_iff (itK a) (itK c)).1 (bf_trans ((bfk_iff (itK a) (itK b)).2 h1) ((bfk_iff (itK b) (itK c)).2 h2))
theorem srt_pw{L:List Rr}(hl:∀ y∈L.map itemOf,GoodI y):(srtOf L).Pairwise Bf:=sortF_pw _ _ (by omega) (rest_pw hl)
theorem srt_mem{L:List Rr}(hl:∀ y∈L.map itemOf,GoodI y){x:It}(h:x∈srtOf L):x∈L.map itemOf:=by
 rw [srtOf,sortI] at h;obtain⟨i,hF⟩:=(rest_mem hl x).1 (sortF_mem.1 h);exact hF.mem
theorem srt_key{L:List Rr}{fo:ByteArray}(hl:∀ y∈L.map itemOf,GoodI y)(hp:PokK (keyS (L.map itemOf)) fo)(k:Ky):k∈(srtOf L).map kyI↔keyS (L.map itemOf) k:=by
 constructor
 ·intro h;obtain⟨x,hx,rfl⟩:=List.mem_map.1 h;exact⟨x,srt_mem hl hx,rfl⟩
 ·rintro⟨x,hx,rfl⟩
  obtain⟨i,z,a1,a2,a3,a4,a5,a6⟩:=kept_ex hl hx;have ht:=hp.mix _ _ ⟨x,hx,rfl⟩ ⟨z,List.mem_of_getElem? a1,rfl⟩ a4 a5;refine List.mem_map.2 ⟨z,?_,?_⟩
  ·rw [srtOf,sortI];refine sortF_mem.2 (List.mem_filter.2 ⟨List.mem_of_getElem? a2,by rw [a3];rfl⟩)
  ·simp only [kyI,a4,a5,a6] at ht ⊢;rw [ht]
theorem srt_same{L L':List Rr}{fo:ByteArray}(hl:∀ y∈L.map itemOf,GoodI y)(hl':∀ y∈L'.map itemOf,GoodI y)(hp:PokK (keyS (L.map itemOf)) fo)(hk:keyS (L'.map itemOf)=keyS (L.map itemOf)):(srtOf L').map kyI=(srtOf L).map kyI:=by
 have pw:∀ {M:List Rr},(∀ y∈M.map itemOf,GoodI y)->((srtOf M).map kyI).Pairwise BfK:=fun {M} hM=>by
  rw [List.pairwise_map];exact(srt_pw hM).imp (fun {a b} h=>(bfk_iff a b).1 h)
 refine sorted_eq bfk_irrefl bfk_trans _ _ (pw hl') (pw hl) (fun k=>?_);rw [srt_key hl hp,srt_key (fo:=fo) hl' (by rw [hk];exact hp),hk]
def recX(l:List It)(x:It):Rr:=⟨ownI l x.fo,x.r.ty,1,x.r.tt,x.r.da⟩
theorem recs_grp{l srt:List It}(hm:∀ x∈srt,∀ y∈srt,y.fo=x.fo->y.r.ty=x.r.ty->y.r.tt=x.r.tt):∀ (k:Nat),k<=srt.length->(grpK l srt k).flatMap recsOf=(srt.take k).map (recX l)∧(∀ y,0<k->srt[k-1]? =some y->∃ qs s,grpK l srt k=qs++[s]∧s.own=ownI l y.fo∧s.ty=y.r.ty∧s.tt=y.r.tt)
 |0,_=>⟨by simp [grpK],fun y h=>by omega⟩
 |k+1,hk=>by
  obtain⟨ih1,ih2⟩:=recs_grp (l:=l) hm k (by omega);obtain⟨x,hx⟩:∃ x,srt[k]? =some x:=⟨_,List.getElem?_eq_getElem (by omega)⟩;have ht:srt.take (k+1)=srt.take k++[x]:=by rw [List.take_add_one,hx];rfl
  cases hn:newSet srt k x with
  |true=>
   rw [grpK_new hx hn,ht,List.flatMap_append,ih1,List.map_append];refine⟨by simp [recsOf,recX],fun y _ hy=>?_⟩;rw [Nat.add_sub_cancel,hx] at hy;obtain rfl:=Option.some.inj hy
   exact⟨_,_,rfl,rfl,rfl,rfl⟩
  |false=>
   have hk0:0<k:=by
    rcases Nat.eq_zero_or_pos k with h|h
    ·subst h;simp [newSet] at hn
    ·exact h
   obtain⟨j,rfl⟩:∃ j,k=j+1:=⟨k-1,by omega⟩;obtain⟨y,hy⟩:∃ y,srt[j]? =some y:=⟨_,List.getElem?_eq_getElem (by omega)⟩;rw [newSet] at hn;simp only [hy,Bool.or_eq_false_iff,decide_eq_false_iff_not,ne_eq,Decidable.not_not] at hn;obtain⟨qs,s,e,e1,e2,e3⟩:=ih2 y hk0 (by rw [Nat.add_sub_cancel];exact hy);have hn':newSet srt (j+1) x=false:=by rw [newSet];simp [hy,hn.1,hn.2]
   have etx:x.r.tt=y.r.tt:=hm y (List.mem_of_getElem? hy) x (List.mem_of_getElem? hx) hn.1.symm hn.2.symm;have e1x:s.own=ownI l x.fo:=by rw [e1,hn.1]
   have e2x:s.ty=x.r.ty:=by rw [e2,hn.2]
   have e3x:s.tt=x.r.tt:=by rw [e3,etx]
   rw [grpK_old hx hn' e,ht,List.map_append,<- ih1,e];refine⟨?_,fun z _ hz=>?_⟩
   ·rw [List.flatMap_append,List.flatMap_append,List.append_assoc];congr 1;simp [recsOf,recX,e1x,e2x,e3x]
   ·rw [Nat.add_sub_cancel,hx] at hz;obtain rfl:=Option.some.inj hz;exact⟨_,_,rfl,e1x,e2x,e3x⟩
theorem own_mem{L:List Rr}{x:It}(hx:x∈L.map itemOf):∃ r∈L,ownI (itsOf L) x.fo=r.own∧Nm.foldS r.own=x.fo:=by
 rw [ownI]
 cases e:(itsOf L).find? (fun y=>decide (y.fo=x.fo)) with
 |some y=>
  have h1:y.fo=x.fo:=by have h:=List.find?_some e;simpa using h
  obtain⟨i,hi⟩:=List.getElem?_of_mem (List.mem_of_find?_eq_some e);obtain⟨z,hz,rfl⟩:=tw_at hi;obtain⟨r,hr,rfl⟩:=List.mem_map.1 (List.mem_of_getElem? hz)
  exact⟨r,hr,rfl,h1⟩
 |none=>
  have h1:=List.find?_eq_none.1 e;obtain⟨i,hi⟩:=List.getElem?_of_mem hx;have h2:=h1 _ (List.mem_of_getElem? (twI_get hi));simp [outI] at h2
def recL(L:List Rr):List Rr:=(srtOf L).map (recX (itsOf L))
theorem bldZ_recs{L:List Rr}{apex:ByteArray}(h:(bldE L apex).1=0):(bldZ L).flatMap recsOf=recL L:=by
 obtain⟨_,_,h2,h3⟩:=bldE_ok.1 h;have hl:=good_all h2;have:=(recs_grp (l:=itsOf L) (srt:=srtOf L) (fun x hx y hy e1 e2=>h3.mix _ _ ⟨x,srt_mem hl hx,rfl⟩ ⟨y,srt_mem hl hy,rfl⟩ e1 e2) (srtOf L).length (Nat.le_refl _)).1;rw [bldZ,this,List.take_length,recL]
theorem recX_item{L:List Rr}{x:It}(hx:x∈L.map itemOf):kyI (itemOf (recX (itsOf L) x))=kyI x:=by
 obtain⟨r,hr,e1,e2⟩:=own_mem hx;obtain⟨q,hq,rfl⟩:=List.mem_map.1 hx;simp only [kyI,itemOf,recX] at e1 e2 ⊢;rw [e1,e2]
def foldRr(r:Rr):Rr:=⟨Nm.foldS r.own,r.ty,r.cl,r.tt,foldR r.ty r.da⟩
def rrK(k:Ky):Rr:=⟨k.fo,k.ty,1,k.tt,k.dt⟩
theorem recL_fold{L:List Rr}(hl:∀ y∈L.map itemOf,GoodI y):(recL L).map foldRr=((srtOf L).map kyI).map rrK:=by
 rw [recL,List.map_map,List.map_map];refine List.map_congr_left (fun x hx=>?_);have:=recX_item (srt_mem hl hx);rw [Function.comp,Function.comp,<- this];rfl
theorem recL_perm{L L':List Rr}{apex:ByteArray}(h:(bldE L apex).1=0)(hp:L'.Perm L):(recL L').map foldRr=(recL L).map foldRr:=by
 obtain⟨_,_,h2,h3⟩:=bldE_ok.1 h;obtain⟨_,_,h2',_⟩:=bldE_ok.1 ((bldE_perm hp).2 h);rw [recL_fold (good_all h2),recL_fold (good_all h2'),srt_same (good_all h2) (good_all h2') h3 (keyS_mem (fun r=>hp.mem_iff))]
theorem one_parts{r:Rr}{apex:ByteArray}:oneC r apex=0↔(Nm.split r.own).isSome=true∧r.cl=1∧(decide (0<=r.tt)&&decide (r.tt<=2147483647))=true∧¬(metaB r.ty=true∨r.ty<0∨65535<r.ty)∧cutCode r.ty r.da=0∧isUnderS r.own apex=true:=by
 rw [oneC]
 by_cases h1:(Nm.split r.own).isSome=true
 ·rw [if_neg (by rw [h1];simp)]
  by_cases h2:r.cl=1
  ·rw [if_neg (by rw [h2];simp)]
   by_cases h3:(decide (0<=r.tt)&&decide (r.tt<=2147483647))=true
   ·rw [if_neg (by rw [h3];simp)]
    by_cases h4:metaB r.ty=true∨r.ty<0∨65535<r.ty
    ·rw [if_pos h4];exact⟨fun h=>absurd h (by decide),fun h=>absurd h4 h.2.2.2.1⟩
    ·rw [if_neg h4]
     by_cases h5:cutCode r.ty r.da=0
     ·rw [if_neg (by rw [h5];simp)]
      by_cases h6:isUnderS r.own apex=true
      ·rw [if_neg (by rw [h6];simp)];exact⟨fun _=>⟨h1,h2,h3,h4,h5,h6⟩,fun _=>rfl⟩
      ·rw [if_pos (by simpa using h6)];exact⟨fun h=>absurd h (by decide),fun h=>absurd h.2.2.2.2.2 h6⟩
     ·rw [if_pos h5];exact⟨fun h=>absurd h (by decide),fun h=>absurd h.2.2.2.2.1 h5⟩
   ·rw [if_pos (by simpa using h3)];exact⟨fun h=>absurd h (by decide),fun h=>absurd h.2.2.1 h3⟩
  ·rw [if_pos h2];exact⟨fun h=>absurd h (by decide),fun h=>absurd h.2.1 h2⟩
 ·rw [if_pos (by simpa using h1)];exact⟨fun h=>absurd h (by decide),fun h=>absurd h.1 h1⟩
theorem bfk_ne{a b:Ky}(h:BfK a b)(h1:a.fo=b.fo)(h2:a.ty=b.ty)(h3:a.dt=b.dt):False:=by
 rcases h with⟨_,_,h⟩|⟨_,h⟩|h
 ·rw [h3] at h;have:=(ordL_zero b.dt.data.toList b.dt.data.toList).2 rfl;omega
 ·omega
 ·rw [h1,cmpS_self] at h;omega
section
variable {L:List Rr}{apex:ByteArray}
theorem recL_one(h:(bldE L apex).1=0):∀ r∈recL L,oneC r apex=0:=by
 obtain⟨_,_,h2,_⟩:=bldE_ok.1 h;have hl:=good_all h2;intro r hr;obtain⟨x,hx,rfl⟩:=List.mem_map.1 hr;have hm:=srt_mem hl hx;obtain⟨r1,hr1,e1,_⟩:=own_mem hm;obtain⟨r0,hr0,rfl⟩:=List.mem_map.1 hm;obtain⟨a1,a2,a3,a4,a5,a6⟩:=one_parts.1 (h2 r0 hr0);obtain⟨b1,b2,b3,b4,b5,b6⟩:=one_parts.1 (h2 r1 hr1);refine one_parts.2 ⟨?_,rfl,a3,a4,a5,?_⟩
 ·show(Nm.split (ownI (itsOf L) (itemOf r0).fo)).isSome=true
  rw [e1];exact b1
 ·show isUnderS (ownI (itsOf L) (itemOf r0).fo) apex=true
  rw [e1];exact b6
theorem recL_ky(hl:∀ y∈L.map itemOf,GoodI y):((recL L).map itemOf).map kyI=(srtOf L).map kyI:=by
 rw [recL,List.map_map,List.map_map];exact List.map_congr_left (fun x hx=>recX_item (srt_mem hl hx))
theorem recL_keyS(h:(bldE L apex).1=0):keyS ((recL L).map itemOf)=keyS (L.map itemOf):=by
 obtain⟨_,_,h2,h3⟩:=bldE_ok.1 h;have hl:=good_all h2;funext k
 rw [<- propext (srt_key hl h3 k),<- recL_ky hl];simp only [keyS,eq_iff_iff];exact⟨fun⟨x,hx,e⟩=>List.mem_map.2 ⟨x,hx,e⟩,fun h=>by obtain⟨x,hx,e⟩:=List.mem_map.1 h;exact⟨x,hx,e⟩⟩
theorem recL_len(L:List Rr):(recL L).length<=L.length:=by
 rw [recL,List.length_map,srtOf,sortI,sortF_len,restOf];refine Nat.le_trans (List.length_filter_le _ _) ?_;rw [itsOf,twI_len,List.length_map];exact Nat.le_refl _
theorem recL_ok(h:(bldE L apex).1=0):(bldE (recL L) apex).1=0:=by
 obtain⟨h0,h1,h2,h3⟩:=bldE_ok.1 h;refine bldE_ok.2 ⟨h0,Nat.le_trans (recL_len L) h1,recL_one h,?_⟩;rw [recL_keyS h];exact h3
theorem recL_pw(h:(bldE L apex).1=0):((recL L).map itemOf).Pairwise Bf:=by
 obtain⟨_,_,h2,_⟩:=bldE_ok.1 h;have hl:=good_all h2
 have:(((recL L).map itemOf).map kyI).Pairwise BfK:=by
  rw [recL_ky hl,List.pairwise_map];exact(srt_pw hl).imp (fun {a b} h=>(bfk_iff a b).1 h)
 rw [List.pairwise_map] at this;exact this.imp (fun {a b} h=>(bfk_iff a b).2 h)
theorem recL_its(h:(bldE L apex).1=0):itsOf (recL L)=(recL L).map itemOf:=by
 have hp:=recL_pw h;have hg:=good_all (recL_one h);rw [itsOf];generalize (recL L).map itemOf=l at*;apply List.ext_getElem?;intro i
 cases hx:l[i]? with
 |none=>rw [List.getElem?_eq_none];rw [twI_len];exact List.getElem?_eq_none_iff.1 hx
 |some x=>
  have hd:dupI (l.take i) x=false:=by
   cases hd:dupI (l.take i) x with
   |false=>rfl
   |true=>
    exfalso
    rw [dupI,List.any_eq_true] at hd;obtain⟨y,hy,h⟩:=hd;simp only [kinB,Bool.and_eq_true,decide_eq_true_eq] at h;obtain⟨m,hm,hy⟩:=mem_take_get hy;obtain⟨hi,e1⟩:=List.getElem?_eq_some_iff.1 hx;obtain⟨hj,e2⟩:=List.getElem?_eq_some_iff.1 hy;have hb:=List.pairwise_iff_getElem.1 hp m i hj hi hm;rw [e1,e2] at hb;exact bfk_ne ((bfk_iff _ _).1 hb) h.1.1 h.1.2 h.2
  rw [twI_get hx,hd];have:=(hg x (List.mem_of_getElem? hx)).2.2.2;simp [outI]
theorem recL_srt(h:(bldE L apex).1=0):srtOf (recL L)=(recL L).map itemOf:=by
 have hg:=good_all (recL_one h);refine sorted_eq bf_irrefl (fun a b c h1 h2=>bf_trans h1 h2) _ _ (srt_pw hg) (recL_pw h) (fun x=>?_);rw [srtOf,sortI,sortF_mem,restOf,recL_its h,List.mem_filter];constructor
 ·exact fun h=>h.1
 ·exact fun hx=>⟨hx,by rw [(hg x hx).2.2.2];rfl⟩
theorem recL_again(h:(bldE L apex).1=0):bldZ (recL L)=bldZ L:=by
 obtain⟨_,_,h2,_⟩:=bldE_ok.1 h;have hl:=good_all h2;rw [bldZ,bldZ,recL_its h,recL_srt h];have hlen:((recL L).map itemOf).length=(srtOf L).length:=by rw [List.length_map,recL,List.length_map]
 rw [hlen]
 have hat:∀ {k:Nat} {x:It},(srtOf L)[k]? =some x->((recL L).map itemOf)[k]? =some (itemOf (recX (itsOf L) x)):=fun {k x} hx=>by
  rw [recL,List.map_map,List.getElem?_map,hx];rfl
 have hfo:∀ {x:It},x∈srtOf L->(itemOf (recX (itsOf L) x)).fo=x.fo:=fun {x} hx=>congrArg Ky.fo (recX_item (srt_mem hl hx))
 have hown:∀ {x:It},x∈srtOf L->ownI ((recL L).map itemOf) x.fo=ownI (itsOf L) x.fo:=fun {x} hx=>by
  rw [ownI]
  cases e:((recL L).map itemOf).find? (fun y=>decide (y.fo=x.fo)) with
  |some y=>
   have h1:y.fo=x.fo:=by have h:=List.find?_some e;simpa using h
   obtain⟨r,hr,rfl⟩:=List.mem_map.1 (List.mem_of_find?_eq_some e);obtain⟨z,hz,rfl⟩:=List.mem_map.1 hr;rw [hfo hz] at h1;show ownI (itsOf L) z.fo=_
   rw [h1]
  |none=>
   have h1:=List.find?_eq_none.1 e (itemOf (recX (itsOf L) x)) (List.mem_map_of_mem (List.mem_map_of_mem hx));simp [hfo hx] at h1
 have key:∀ k,k<=(srtOf L).length->grpK ((recL L).map itemOf) ((recL L).map itemOf) k=grpK (itsOf L) (srtOf L) k:=by
  intro k
  induction k with
  |zero=>intro _;rfl
  |succ k ih=>
   intro hk;have ih':=ih (by omega);obtain⟨x,hx⟩:∃ x,(srtOf L)[k]? =some x:=⟨_,List.getElem?_eq_getElem (by omega)⟩;have hxm:=List.mem_of_getElem? hx
   have hns:newSet ((recL L).map itemOf) k (itemOf (recX (itsOf L) x))=newSet (srtOf L) k x:=by
    cases k with
    |zero=>rfl
    |succ j=>
     obtain⟨y,hy⟩:∃ y,(srtOf L)[j]? =some y:=⟨_,List.getElem?_eq_getElem (by omega)⟩;rw [newSet,newSet,hat hy,hy];simp only [hfo hxm,hfo (List.mem_of_getElem? hy)];rfl
   cases hn:newSet (srtOf L) k x with
   |true=>
    rw [grpK_new (hat hx) (hns.trans hn),grpK_new hx hn,ih',hfo hxm,hown hxm]
    rfl
   |false=>
    have hk0:0<k:=by
     rcases Nat.eq_zero_or_pos k with h|h
     ·subst h;simp [newSet] at hn
     ·exact h
    obtain⟨qs,s,e⟩:=grpK_last (l:=itsOf L) (srt:=srtOf L) k hk0 (by omega);rw [grpK_old hx hn e,grpK_old (hat hx) (hns.trans hn) (ih'.trans e)];rfl
 exact key _ (Nat.le_refl _)
theorem bldZ_zOK{ps:List Zp}(h:(bldE L apex).1=0)(hp:ps.map (·.1)=bldZ L):zoneRecs ps=recL L∧zOK ps apex=true:=by
 obtain⟨_,h1,_,_⟩:=bldE_ok.1 h
 have e:recsAll ps=recL L:=by
  rw [<- bldZ_recs h,<- hp,recsAll,List.flatMap_map]
 have hn:(srtOf L).length<=L.length:=by have:=recL_len L;rwa [recL,List.length_map] at this
 have hz:zoneRecs ps=recL L:=by
  rw [zoneRecs,if_neg]
  ·exact e
  ·intro hc;have e1:=congrArg List.length hp;have e2:=congrArg List.length e;have e3:=(grpK_len (l:=itsOf L) (srt:=srtOf L) (srtOf L).length (Nat.le_refl _)).1;have e4:=recL_len L;rw [List.length_map,bldZ] at e1;rw [recsAll_len] at e2;omega
 refine⟨hz,?_⟩;rw [zOK,hz,decide_eq_true (recL_ok h),recL_again h,<- hp,eqZs_iff.2 rfl];rfl
end
end Go.Proofs.YtmdinnjimioffaaGreat
namespace Go.Proofs.YtmdinnjimioffaaGreat
open Go.RowKit
set_option linter.unusedVariables false
theorem nodup_le{α:Type}:∀ (l m:List α),l.Nodup->(∀ x∈l,x∈m)->l.length<=m.length
 |[],m,_,_=>Nat.zero_le _
 |x::l,m,hn,h=>by
  obtain⟨h1,h2⟩:=List.nodup_cons.1 hn;obtain⟨s,t,rfl⟩:=List.append_of_mem (h x (List.mem_cons_self ..))
  have ih:=nodup_le l (s++t) h2 (fun y hy=>by
   rcases List.mem_append.1 (h y (List.mem_cons_of_mem _ hy)) with h3|h3
   ·exact List.mem_append_left _ h3
   ·rcases List.mem_cons.1 h3 with rfl|h4
    ·exact absurd hy h1
    ·exact List.mem_append_right _ h4)
  rw [List.length_append] at ih;rw [List.length_append,List.length_cons,List.length_cons];omega
theorem recL_few{L ys:List Rr}{apex:ByteArray}(h:(bldE L apex).1=0)(hy:∀ r∈L,r∈ys):(recL L).length<=ys.length:=by
 obtain⟨_,_,h2,h3⟩:=bldE_ok.1 h;have hl:=good_all h2
 have pw:((srtOf L).map kyI).Pairwise BfK:=by
  rw [List.pairwise_map];exact(srt_pw hl).imp (fun {a b} h=>(bfk_iff a b).1 h)
 have hn:((srtOf L).map kyI).Nodup:=List.Pairwise.imp (fun {a b} (h:BfK a b)=>fun(e:a=b)=>by subst e;exact bfk_irrefl _ h) pw
 have:=nodup_le _ ((ys.map itemOf).map kyI) hn (fun k hk=>by
  obtain⟨x,hx,rfl⟩:=List.mem_map.1 hk;obtain⟨r,hr,rfl⟩:=List.mem_map.1 (srt_mem hl hx)
  exact List.mem_map_of_mem (List.mem_map_of_mem (hy r hr)))
 rw [recL,List.length_map];simpa using this
theorem recL_sz{L:List Rr}{apex:ByteArray}{M:Nat}(h:(bldE L apex).1=0)(hs:∀ r∈L,r.own.size<=M∧r.da.size<=M):∀ r∈recL L,r.own.size<=M∧r.da.size<=M:=by
 obtain⟨_,_,h2,_⟩:=bldE_ok.1 h;have hl:=good_all h2;intro r hr;obtain⟨x,hx,rfl⟩:=List.mem_map.1 hr;have hm:=srt_mem hl hx;obtain⟨r1,hr1,e1,_⟩:=own_mem hm;obtain⟨r0,hr0,rfl⟩:=List.mem_map.1 hm;exact⟨by show(ownI (itsOf L) (itemOf r0).fo).size<=M;rw [e1];exact(hs r1 hr1).1,(hs r0 hr0).2⟩
theorem zsum_four:∀ {ps:List Zp},(∀ p∈ps,p.1.own.size<=4000∧∀ d∈p.1.da,d.size<=4000)->zsum ps<=4000*ps.length+4001*dsum ps
 |[],_=>Nat.zero_le _
 |p::ps,h=>by
  have h1:=zsum_four (ps:=ps) (fun x hx=>h x (List.mem_cons_of_mem _ hx));have h2:=h p (List.mem_cons_self ..)
  have h3:∀ (l:List ByteArray),(∀ d∈l,d.size<=4000)->ssum l<=4000*l.length:=by
   intro l
   induction l with
   |nil=>intro _;exact Nat.zero_le _
   |cons d l ih=>
    intro hd;have a1:=ih (fun x hx=>hd x (List.mem_cons_of_mem _ hx));have a2:=hd d (List.mem_cons_self ..);simp only [ssum,List.length_cons,Nat.mul_add,Nat.mul_one];omega
  have h4:=h3 p.1.da h2.2;have h5:=h2.1;simp only [zsum,zs1,dsum,List.length_cons,Nat.mul_add] at h1 ⊢;omega
theorem len_dsum:∀ {ps:List Zp},(∀ p∈ps,p.1.da≠[])->ps.length<=dsum ps
 |[],_=>Nat.zero_le _
 |p::ps,h=>by
  have h1:=len_dsum (ps:=ps) (fun x hx=>h x (List.mem_cons_of_mem _ hx));have h2:=List.length_pos_iff.2 (h p (List.mem_cons_self ..));simp only [dsum,List.length_cons];omega
theorem zone_fit{L ys:List Rr}{apex:ByteArray}{ps:List Zp}(h:(bldE L apex).1=0)(hp:ps.map (·.1)=bldZ L)(hy:∀ r∈L,r∈ys)(hyl:ys.length<=125)(hs:∀ r∈L,r.own.size<=4000∧r.da.size<=4000):zsum ps<=1048576∧ps.length<=1048576∧∀ p∈ps,p.1.own.size<=1048576∧∀ d∈p.1.da,d.size<=1048576:=by
 have hr:recsAll ps=recL L:=by rw [<- bldZ_recs h,<- hp,recsAll,List.flatMap_map]
 have hsz:=recL_sz h hs
 have hne:∀ p∈ps,p.1.da≠[]:=fun p hpm=>by
  have:p.1∈bldZ L:=by rw [<- hp];exact List.mem_map_of_mem hpm
  exact grp_da _ _ this
 have hone:∀ p∈ps,p.1.own.size<=4000∧∀ d∈p.1.da,d.size<=4000:=fun p hpm=>by
  have hin:∀ d∈p.1.da,(⟨p.1.own,p.1.ty,1,p.1.tt,d⟩:Rr)∈recL L:=fun d hd=>by
   rw [<- hr,recsAll,List.mem_flatMap];exact⟨p,hpm,List.mem_map.2 ⟨d,hd,rfl⟩⟩
  obtain⟨d,ds,hd⟩:=List.exists_cons_of_ne_nil (hne p hpm);exact⟨(hsz _ (hin d (by rw [hd];exact List.mem_cons_self ..))).1,fun d hd=>(hsz _ (hin d hd)).2⟩
 have h1:=zsum_four hone;have h2:=len_dsum hne;have h3:dsum ps=(recL L).length:=by rw [<- recsAll_len,hr]
 have h4:=recL_few h hy;refine⟨by omega,by omega,fun p hpm=>⟨by have:=(hone p hpm).1;omega,fun d hd=>by have:=(hone p hpm).2 d hd;omega⟩⟩
theorem bldE_zero{L:List Rr}{apex:ByteArray}(h:(bldE L apex).1=0):bldE L apex=(0,0):=by
 obtain⟨h0,h1,h2,h3⟩:=bldE_ok.1 h;obtain⟨h4,h5⟩:=(pok_iff (good_all h2) _).2 h3;have hb:badOne apex L 0=none:=badOne_no L 0 (fun j x _ hx=>h2 x (List.mem_of_getElem? hx));rw [bldE,if_neg (by rw [h0];simp),if_neg (by omega),hb];simp only
 rw [if_neg (by omega),if_neg (by rw [itsOf,h5];simp)]
theorem bz_two{L:List Rr}{ap:ByteArray}{w w':World}{e:Ending}(h:BzPost L ap w e w'):Below w.heap.size w w'∧∃ (o:ByteArray) (v:Value) (ps:List Zp),e=.returned (.tuple #[.agg #[.string o,v],.int .i64 (bldE L ap).1,.int .i64 (bldE L ap).2])∧ZRow w' v ps∧((bldE L ap).1=0->o=ap∧ps.map (·.1)=bldZ L)∧((bldE L ap).1≠0->o=ByteArray.empty∧ps=[]):=by
 obtain⟨hb,h1,h2⟩:=h;refine⟨hb,?_⟩
 by_cases hc:(bldE L ap).1=0
 ·obtain⟨v,ps,rfl,hp,ho⟩:=h1 hc;exact⟨ap,v,ps,by rw [bldE_zero hc],(⟨CRow.of_owns ho.outer,fun p hp=>by obtain⟨i,hi⟩:=List.getElem?_of_mem hp;exact Nm.SRow.of_owns (ho.inner i p hi)⟩:ZRow w' v ps),fun _=>⟨rfl,hp⟩,fun h=>absurd hc h⟩
 ·exact⟨_,_,[],h2 hc,⟨CRow.of_owns (ZOwn.nil w' 0).outer,by simp⟩,fun h=>absurd h hc,fun _=>⟨rfl,rfl⟩⟩
def rotL(xs:List Rr):List Rr:=xs.drop (xs.length / 2)++xs.take (xs.length / 2)
theorem rot_len(xs:List Rr):(rotL xs).length=xs.length:=by simp [rotL];omega
theorem rot_perm(xs:List Rr):(rotL xs).Perm xs:=by
 have h:(xs.drop (xs.length / 2)++xs.take (xs.length / 2)).Perm (xs.take (xs.length / 2)++xs.drop (xs.length / 2)):=List.perm_append_comm;rw [List.take_append_drop] at h;exact h
theorem rot_at{xs:List Rr}{j:Nat}(hj:j<xs.length):(rotL xs)[j]? =xs[(j+xs.length / 2) % xs.length]? :=by
 rw [rotL]
 by_cases h:j<xs.length-xs.length / 2
 ·rw [List.getElem?_append_left (by simp;omega),List.getElem?_drop,Nat.mod_eq_of_lt (by omega),Nat.add_comm]
 ·have e:(j+xs.length / 2) % xs.length=j-(xs.length-xs.length / 2):=by
   rw [show j+xs.length / 2=(j-(xs.length-xs.length / 2))+xs.length by omega,Nat.add_mod_right,Nat.mod_eq_of_lt (by omega)]
  rw [List.getElem?_append_right (by simp;omega),e,List.length_drop,List.getElem?_take_of_lt (by omega)]
theorem rev_step{xs:List Rr}{i:Nat}{x:Rr}(h:xs[i]? =some x):(xs.drop i).reverse=(xs.drop (i+1)).reverse++[x]:=by
 obtain⟨hl,he⟩:=List.getElem?_eq_some_iff.1 h;have hd:xs.drop i=x::xs.drop (i+1):=by rw [<- he,List.getElem_cons_drop]
 rw [hd,List.reverse_cons]
def fdK(rs:List Rr)(k:Nat):List Rr:=(rs.take k).map foldRr++rs.drop k
theorem fd_at{rs:List Rr}{k:Nat}{x:Rr}(h:rs[k]? =some x):(fdK rs k)[k]? =some x:=by
 have hl:=(List.getElem?_eq_some_iff.1 h).1;rw [fdK,List.getElem?_append_right (by simp;omega)];simp [Nat.min_eq_left (Nat.le_of_lt hl),h]
theorem fd_step{rs:List Rr}{k:Nat}{x:Rr}(h:rs[k]? =some x):fdK rs (k+1)=(fdK rs k).set k (foldRr x):=by
 obtain⟨hl,he⟩:=List.getElem?_eq_some_iff.1 h;have hd:rs.drop k=x::rs.drop (k+1):=by rw [<- he,List.getElem_cons_drop]
 have ht:rs.take (k+1)=rs.take k++[x]:=by rw [List.take_add_one,h];rfl
 have hkl:((rs.take k).map foldRr).length=k:=by simp;omega
 rw [fdK,fdK,ht,hd,List.map_append,List.set_append_right _ _ (by omega),hkl,Nat.sub_self];simp
theorem fd_all(rs:List Rr):fdK rs rs.length=rs.map foldRr:=by simp [fdK]
set_option maxRecDepth 100000 in
set_option maxHeartbeats 3200000 in
theorem lwFold_any(o:ByteArray)(v:Value)(ps:List Zp)(w:World)(h:ZRow w v ps)(hs:zsum ps<=1048576)(hl:ps.length<=1048576)(hf:∀ r∈zoneRecs ps,r.own.size<=maxLen∧r.da.size<=maxLen):
 Calls Tryz.prog 11 #[.agg #[.string o,v]] w fun e w'=>∃ u,e=.returned u∧w'.ownsRow w.heap.size 33 5 u (zoneRecs ps).length (rvVs ((zoneRecs ps).map foldRr))∧Below w.heap.size w w':=by
 obtain⟨va,vc,rfl⟩:∃ va vc,v=.slice va ps.length vc:=by obtain⟨⟨_,a,c,e,_⟩,_⟩:=h;exact⟨a,c,e⟩
 have k1:=blk_new w #[.string o,.slice va ps.length vc] 28;have b1:=(Below.refl w.heap.size w).alloc (Nat.le_refl _) (.cells #[.string o,.slice va ps.length vc] 28);have hzr:=specZoneRecords_any o (.slice va ps.length vc) ps _ (h.below b1) hs hl;have r1:=fun i=>blk_cell k1 i
 have hL:(zoneRecs ps).length<=500:=by
  unfold zoneRecs;split
  ·simp
  ·rw [recsAll_len];omega
 generalize zoneRecs ps=rs at*;have HF:=Nm.hide hf;clear h hs hf;go_enter Tryz.func11,Tryz.ntmps11;go_wp2_with fail
 refine hzr.mono ?_;rintro e w1 ⟨u,rfl,hou,b2⟩;obtain⟨ua,uc,rfl⟩:=own_sl hou;have bw:=Nm.below_two b1 b2;have ho:=own_base hou b1.size;clear hzr b1 b2 hou k1 r1;go_wp2_with fail
 go_loopw [4] (fun iv wr=>∃ k:Nat,k<=rs.length∧iv=.int .i64 k∧wr.ownsRow w.heap.size 33 5 (.slice ua rs.length uc) rs.length (rvVs (fdK rs k))∧Below w.heap.size w wr) (fun iv _=>rs.length-(intOf iv).toNat)
 case atStart=>exact⟨0,Nat.zero_le _,rfl,by rw [show fdK rs 0=rs by simp [fdK]];exact ho,bw⟩
 case round=>
  clear ho bw;obtain⟨k,hk,rfl,hown,hb⟩:=hrel
  by_cases hlt:k<rs.length
  ·obtain⟨x,hx⟩:∃ x,rs[k]? =some x:=⟨_,List.getElem?_eq_getElem hlt⟩;have hxm:=HF.out x (List.mem_of_getElem? hx);have hxl:=fd_at hx;have HST:Hid (fdK rs (k+1)=(fdK rs k).set k (foldRr x)):=fd_step hx
   obtain⟨g,rfl⟩:∃ g,ua=some ⟨g,0,none⟩:=by
    rcases hown.2 with⟨e,h0⟩|⟨g1,c1,cur,e,_⟩
    ·omega
    ·simp only [Value.slice.injEq] at e;exact⟨g1,e.1⟩
   have hg:w.heap.size<=g:=(hown.lt g rfl).1;have c0:wr.cell? ⟨g,k*5,none⟩=some (.string x.own):=(hown.cellAt (k*5) (by omega)).trans ((rvVs_at _ k 0 x hxl (by decide)).trans rfl);have i1:(0:Int)<=(k:Int):=by omega
   have i2:(k:Int)<(rs.length:Int):=by omega
   have hfn:=specFoldName_any x.own wr hxm.1;have HX:=Nm.hide hxl;have HM:=Nm.hide hxm;clear hx hxl hxm;go_wp2_with fail
   refine hfn.mono ?_;rintro e w2 ⟨rfl,b2⟩;have o2:=own_below hown b2;have bw2:=hb.trans (b2.mono hb.size);obtain⟨o3,g3⟩:=o2.stored (k*5) (.string (Nm.foldS x.own));have e3:=rvs_put (fdK rs k) k 0 x ⟨Nm.foldS x.own,x.ty,x.cl,x.tt,x.da⟩ (.string (Nm.foldS x.own)) HX.out (by decide) rfl;rw [Nat.add_zero] at e3;rw [e3] at o3;have hx3:((fdK rs k).set k ⟨Nm.foldS x.own,x.ty,x.cl,x.tt,x.da⟩)[k]? =some ⟨Nm.foldS x.own,x.ty,x.cl,x.tt,x.da⟩:=by rw [List.getElem?_set_self (List.getElem?_eq_some_iff.1 HX.out).1]
   have bw3:Below w.heap.size w (w2.setCell ⟨g,k*5,none⟩ (.string (Nm.foldS x.own))):=bw2.setCell (p:=⟨g,k*5,none⟩) hg _;have cc:=(o2.cellAt (k*5) (by omega)).trans ((rvVs_at _ k 0 x HX.out (by decide)).trans rfl);have ff:=o2.frozenAt (k*5);clear hfn b2 c0 hown e3;go_wp2_with fail
   have o4:=own_below o3 (Below.refl _ _).drew;have bw4:=bw3.drew;clear cc ff o3 bw3;have t1:(w2.setCell ⟨g,k*5,none⟩ (.string (Nm.foldS x.own))).drew.cell? ⟨g,k*5+1,none⟩=some (.int .i64 x.ty):=(o4.cellAt (k*5+1) (by omega)).trans ((rvVs_at _ k 1 _ hx3 (by decide)).trans rfl);have t2:(w2.setCell ⟨g,k*5,none⟩ (.string (Nm.foldS x.own))).drew.cell? ⟨g,k*5+4,none⟩=some (.string x.da):=(o4.cellAt (k*5+4) (by omega)).trans ((rvVs_at _ k 4 _ hx3 (by decide)).trans rfl);have hfd:=specFoldData_any x.ty x.da (w2.setCell ⟨g,k*5,none⟩ (.string (Nm.foldS x.own))).drew;refine wp_region_last (fun X=>X.cell? ⟨g,k*5+1,none⟩=some (.int .i64 x.ty)∧X.cell? ⟨g,k*5+4,none⟩=some (.string x.da)) 15 (by kernel_rfl) ⟨t1,t2⟩ (fun hHeld=>?_);refine wpAnyL_take (i:=0) (v:=?_) rfl (by kernel_rfl) (by kernel_rfl) (by kernel_rfl) (by kernel_rfl) (fun _ _ _ h=>h) (Or.inl ⟨by kernel_rfl,?_⟩) (by assumption) ?_;rotate_left 1
   ·(intro W hSW;obtain⟨s1,s2⟩:=hSW;go_simp;try (with_reducible rfl))
   refine wpAnyL_take (i:=1) (v:=?_) rfl (by kernel_rfl) (by kernel_rfl) (by kernel_rfl) (by kernel_rfl) (fun _ _ _ h=>h) (Or.inl ⟨by kernel_rfl,?_⟩) (by assumption) ?_;rotate_left 1
   ·(intro W hSW;obtain⟨s1,s2⟩:=hSW;go_simp;try (with_reducible rfl))
   refine wpAnyL_take (i:=2) (v:=?_) rfl (by kernel_rfl) (by kernel_rfl) (by kernel_rfl) (by kernel_rfl) (fun _ _ _ h=>h) (Or.inl ⟨by kernel_rfl,?_⟩) (by assumption) ?_;rotate_left 1
   ·(intro W hSW;obtain⟨s1,s2⟩:=hSW;go_simp;try (with_reducible rfl))
   refine wpAnyL_take (i:=3) (v:=?_) rfl (by kernel_rfl) (by kernel_rfl) (by kernel_rfl) (by kernel_rfl) (fun _ _ _ h=>h) (Or.inl ⟨by kernel_rfl,?_⟩) (by assumption) ?_;rotate_left 1
   ·(intro W hSW;obtain⟨s1,s2⟩:=hSW;go_simp;try (with_reducible rfl))
   refine wpAnyL_take (i:=4) (v:=?_) rfl (by kernel_rfl) (by kernel_rfl) (by kernel_rfl) (by kernel_rfl) (fun _ _ _ h=>h) (Or.inl ⟨by kernel_rfl,?_⟩) (by assumption) ?_;rotate_left 1
   ·(intro W hSW;obtain⟨s1,s2⟩:=hSW;go_simp;try (with_reducible rfl))
   refine wpAnyL_take (i:=5) (v:=?_) rfl (by kernel_rfl) (by kernel_rfl) (by kernel_rfl) (by kernel_rfl) (fun _ _ _ h=>h) (Or.inl ⟨by kernel_rfl,?_⟩) (by assumption) ?_;rotate_left 1
   ·(intro W hSW;obtain⟨s1,s2⟩:=hSW;go_simp;try (with_reducible rfl))
   refine wpAnyL_take (i:=6) (v:=?_) rfl (by kernel_rfl) (by kernel_rfl) (by kernel_rfl) (by kernel_rfl) (fun _ _ _ h=>h) (Or.inl ⟨by kernel_rfl,?_⟩) (by assumption) ?_;rotate_left 1
   ·(intro W hSW;obtain⟨s1,s2⟩:=hSW;go_simp;try (with_reducible rfl))
   refine wpAnyL_take (i:=7) (v:=?_) rfl (by kernel_rfl) (by kernel_rfl) (by kernel_rfl) (by kernel_rfl) (fun _ _ _ h=>h) (Or.inl ⟨by kernel_rfl,?_⟩) (by assumption) ?_;rotate_left 1
   ·(intro W hSW;obtain⟨s1,s2⟩:=hSW;go_simp;try (with_reducible rfl))
   refine wpAnyL_take (i:=8) (v:=?_) rfl (by kernel_rfl) (by kernel_rfl) (by kernel_rfl) (by kernel_rfl) (fun _ _ _ h=>h) (Or.inl ⟨by kernel_rfl,?_⟩) (by assumption) ?_;rotate_left 1
   ·(intro W hSW;obtain⟨s1,s2⟩:=hSW;go_simp;try (with_reducible rfl))
   refine wpAnyL_take (i:=9) (v:=?_) rfl (by kernel_rfl) (by kernel_rfl) (by kernel_rfl) (by kernel_rfl) (fun _ _ _ h=>h) (Or.inl ⟨by kernel_rfl,?_⟩) (by assumption) ?_;rotate_left 1
   ·(intro W hSW;obtain⟨s1,s2⟩:=hSW;go_simp;try (with_reducible rfl))
   refine wpAnyL_take (i:=10) (v:=?_) rfl (by kernel_rfl) (by kernel_rfl) (by kernel_rfl) (by kernel_rfl) (fun _ _ _ h=>h) (Or.inl ⟨by kernel_rfl,?_⟩) (by assumption) ?_;rotate_left 1
   ·(intro W hSW;obtain⟨s1,s2⟩:=hSW;go_simp;try (with_reducible rfl))
   refine wpAnyL_take (i:=11) (v:=?_) rfl (by kernel_rfl) (by kernel_rfl) (by kernel_rfl) (by kernel_rfl) (fun _ _ _ h=>h) (Or.inl ⟨by kernel_rfl,?_⟩) (by assumption) ?_;rotate_left 1
   ·(intro W hSW;obtain⟨s1,s2⟩:=hSW;go_simp;try (with_reducible rfl))
   refine wpAnyL_one (i:=12) (by kernel_rfl) rfl (fun K hK=>?_);go_simp;refine hfd.mono ?_;rintro e w5 ⟨rfl,b5⟩;have o5:=own_below o4 b5;have bw5:=bw4.trans (b5.mono bw4.size);have u1:=(o5.cellAt (k*5+1) (by omega)).trans ((rvVs_at _ k 1 _ hx3 (by decide)).trans rfl);have u2:=(o5.cellAt (k*5+4) (by omega)).trans ((rvVs_at _ k 4 _ hx3 (by decide)).trans rfl);have f5:=o5.frozenAt (k*5+4);obtain⟨o6,g6⟩:=o5.stored (k*5+4) (.string (foldR x.ty x.da));have e6:=rvs_put _ k 4 _ (foldRr x) (.string (foldR x.ty x.da)) hx3 (by decide) rfl;rw [e6,List.set_set,<- HST.out] at o6;have bw6:Below w.heap.size w (w5.setCell ⟨g,k*5+4,none⟩ (.string (foldR x.ty x.da))):=bw5.setCell (p:=⟨g,k*5+4,none⟩) hg _;have HO:=Nm.hide (And.intro o6 bw6);clear hfd b5 t1 t2 hHeld o4 bw4 o5 bw5 e6 o6 bw6 hx3;go_wp2_with fail
   refine hK.out _ _ ⟨u1,u2⟩ (fun hHeld=>?_);clear hK K;refine wpAnyL_one (i:=13) (by kernel_rfl) rfl (fun K hK=>?_);go_simp;refine hK.out _ _ hHeld (fun hHeld=>?_);clear hK K;refine wpAnyL_one (i:=14) (by kernel_rfl) rfl (fun K hK=>?_);go_simp;refine hK.out _ _ hHeld (fun hHeld=>?_);clear hK K;refine wpAnyL_end (by kernel_rfl) rfl (by kernel_rfl) (fun K hK=>?_);go_simp;refine hK.out _ _ ?_;clear hK K hHeld u1 u2 f5;go_wp2;go_roundw
   case rel=>exact⟨k+1,by omega,by go_num,HO.out.1,HO.out.2⟩
   case measure=>simp [intOf];omega
  ·have hkl:k=rs.length:=by omega
   subst hkl;have i2:¬(rs.length:Int)<(rs.length:Int):=by omega
   rw [fd_all] at hown;go_wp2;go_ret;exact⟨_,rfl,hown,hb⟩
theorem ibz_back{W:World}{b:Nat}{x0 x1:Value}{c i:Int}{R:Ending->World->Prop}{a:Act}(h:Blk W b #[x0,x1] 28)
 (h4:a.tmps[4]? =some (.pointer (some ⟨b,0,none⟩))) (h5:a.tmps[5]? =some (.int .i64 c)) (h6:a.tmps[6]? =some (.int .i64 i)) (hd:a.defers=[])
 (hR:R (.returned (.tuple #[.agg #[x0,x1],.int .i64 c,.int .i64 i])) W):bodyPost Tryz.prog Tryz.f6 R .ret a W:=by
 refine bodyPost_ret ?_ hd hR;have r:=fun i=>blk_cell h i
 simp [results,Tryz.results6,go_sem,Result.andThen,r,h4,h5,h6]
set_option maxRecDepth 100000 in
set_option maxHeartbeats 3200000 in
theorem implBuildZone_any(v:Value)(list:List Rr)(apex:ByteArray)(w:World)(h:CRow w v list.length 5 (rvVs list))(ha:apex.size<=1000000000)(ho:∀ r∈list,r.own.size<=1000000000∧r.da.size<=2000000):
 Calls Tryz.prog 6 #[v,.string apex] w (BzPost list apex w):=by
 obtain⟨la,lc,rfl⟩:∃ la lc,v=.slice la list.length lc:=by
  obtain⟨_,a,cap,e,_⟩:=h;exact⟨a,cap,e⟩
 have hltb:0<list.length->∀ b,rowBlk (.slice la list.length lc)=some b->b<w.heap.size:=by
  intro h0 b hb;obtain⟨_,a,cap,e,h1,h2,h3⟩:=h;cases e
  obtain⟨b',off,rfl,hc⟩:=h3 h0;have hbb:b'=b:=by simpa [rowBlk] using hb
  subst hbb;have hn:0<(rvVs list).length:=by rw [rvVs_len];omega
  exact World.block_lt_of_cell? w _ (hc 0 _ (List.getElem?_eq_getElem hn))
 have kR:=blk_new w #[.string ⟨#[]⟩,.slice none 0 0] 28;have b0:=(Below.refl w.heap.size w).alloc (Nat.le_refl _) (.cells #[.string ⟨#[]⟩,.slice none 0 0] 28);have kB:=blk_new (w.alloc (.cells #[.string ⟨#[]⟩,.slice none 0 0] 28)) #[.slice la list.length lc,.string apex,.slice none 0 0,.slice none 0 0,.pointer none,.slice none 0 0] 73;have b1:=b0.alloc b0.size (.cells #[.slice la list.length lc,.string apex,.slice none 0 0,.slice none 0 0,.pointer none,.slice none 0 0] 73);have kR1:=blk_alloc kR (.cells #[.slice la list.length lc,.string apex,.slice none 0 0,.slice none 0 0,.pointer none,.slice none 0 0] 73);rw [World.size_alloc] at kB;have hbd:=build_any (w.heap.size+1) la lc list apex _ kB (h.below b1) (fun h0 e=>by have:=hltb h0 _ e;omega) (fun h0 b hb=>by have:=hltb h0 b hb;simp;omega) (by unfold maxLen;omega) ho
 have HZ:Hid (∀ th ys aa ac labv rv os kv ks B W,P3 list apex (w.heap.size+1) (.slice la list.length lc) th ys aa ac labv rv os kv ks B W->Calls Tryz.prog 29 #[.pointer (some ⟨w.heap.size+1,3,none⟩),.string apex] W fun e W'=>∃ v ps,e=.returned (.agg #[.string apex,v])∧ps.map (·.1)=bldZ list∧ZOwn W' W.heap.size v ps∧Below W.heap.size W W'):=by
  intro th ys aa ac labv rv os kv ks B W hP;have hl5:=hP.hl;have hol:=hP.st.inv.len.1;rw [List.length_map] at hol;rw [zone_eq hP.st.inv hP.good.1 hP.mix];exact zone_any (w.heap.size+1) 3 th rv os B apex W hP.st.tr (hP.st.inv.trs (by rw [List.length_map];omega)) (by omega) hP.st.lab ((blk_cell hP.kb 4).trans rfl) ha
 have HB:=Nm.hide b1;clear h hltb kR b0 b1 kB ho;unfold rsV at hbd;obtain⟨E,hE⟩:∃ E,E=bldE list apex:=⟨_,rfl⟩;rw [<- hE] at hbd;have HE:=Nm.hide hE;clear hE;obtain⟨C,I⟩:=E;simp only at hbd
 by_cases hC:C=0
 ·subst hC;go_enter Tryz.func6,Tryz.ntmps6;go_wp2_with fail
  refine hbd.mono ?_;rintro e w2 ⟨rfl,hou,hp⟩;obtain⟨th,ys,aa,ac,labv,rv,os,kv,ks,B,hP⟩:=hp trivial;have hz:=HZ.out th ys aa ac labv rv os kv ks B w2 hP;have kR2:=blk_outs kR1 hou (fun hm=>by have:=List.mem_singleton.1 hm;omega);have hw2:w.heap.size+2<=w2.heap.size:=by have:=hou.size;simp at this;omega
  have HW2:=Nm.hide hw2;have HOU:=Nm.hide hou;clear hbd hou hp hP HZ hw2 kR1
  go_wp2_with (
   go_at_call 29
   refine hz.mono ?_;rintro e w3 ⟨zv,ps,rfl,hps,hzo,b3⟩;obtain⟨za,zc,rfl⟩:=own_sl hzo.outer;have kR3:=blk_below kR2 b3;have rR3:=fun i=>blk_cell kR3 i
   have fR3:=fun i=>blk_frozen kR3 i)
  have k5:=blk_set (blk_set kR3 0 (.string apex)) 1 (.slice za ps.length zc);simp only [List.setIfInBounds_toArray,List.set_cons_zero,List.set_cons_succ] at k5;refine ibz_back k5 rfl rfl rfl rfl ⟨?_,fun _=>⟨_,ps,rfl,hps,?_⟩,fun h=>absurd (by rw [<- HE.out]) h⟩
  ·have hb:Below w.heap.size w w3:=by
    have h1:=HB.out;have h2:=HOU.out;refine⟨b3.os.trans (h2.os.trans h1.os),b3.tape.trans (h2.tape.trans h1.tape),b3.output.trans (h2.output.trans h1.output),by have:=HW2.out;have:=b3.size;omega,fun k hk=>?_⟩;have hk2:k<w2.heap.size:=by have:=HW2.out;omega
    rw [b3.block k hk2,h2.block k (by simp;omega) (fun hm=>by have:=List.mem_singleton.1 hm;omega)];exact h1.block k hk
   exact(hb.setCell (p:=⟨w.heap.size,0,none⟩) (Nat.le_refl _) (.string apex)).setCell (p:=⟨w.heap.size,1,none⟩) (Nat.le_refl _) (.slice za ps.length zc)
  ·have hw:=HW2.out;exact((hzo.far (i:=0) (y:=.string apex) (g:=w.heap.size) (by omega)).far (i:=1) (y:=.slice za ps.length zc) (g:=w.heap.size) (by omega)).base (by omega)
 ·have n0:(C != 0)=true:=by simpa using hC
  have H0:=Nm.hide hC;clear hC HZ;go_enter Tryz.func6,Tryz.ntmps6;go_wp2_with fail
  refine hbd.mono ?_;rintro e w2 ⟨rfl,hou,hp⟩;have kR2:=blk_outs kR1 hou (fun hm=>by have:=List.mem_singleton.1 hm;omega);have rR2:=fun i=>blk_cell kR2 i
  have fR2:=fun i=>blk_frozen kR2 i
  have hw2:w.heap.size+2<=w2.heap.size:=by have:=hou.size;simp at this;omega
  have HW2:=Nm.hide hw2;have HOU:=Nm.hide hou;clear hbd hou hp hw2 kR1;go_wp2;have k5:=blk_set (blk_set kR2 0 (.string ⟨#[]⟩)) 1 (.slice none 0 0);simp only [List.setIfInBounds_toArray,List.set_cons_zero,List.set_cons_succ] at k5;refine ibz_back k5 rfl rfl rfl rfl ⟨?_,fun h=>absurd (by rw [<- HE.out] at h;exact h) H0.out,fun _=>by rw [<- HE.out];rfl⟩
  have hb:Below w.heap.size w w2:=by
   have h1:=HB.out;have h2:=HOU.out;refine⟨h2.os.trans h1.os,h2.tape.trans h1.tape,h2.output.trans h1.output,by have:=HW2.out;omega,fun k hk=>?_⟩;rw [h2.block k (by simp;omega) (fun hm=>by have:=List.mem_singleton.1 hm;omega)];exact h1.block k hk
  exact(hb.setCell (p:=⟨w.heap.size,0,none⟩) (Nat.le_refl _) (.string ⟨#[]⟩)).setCell (p:=⟨w.heap.size,1,none⟩) (Nat.le_refl _) (.slice none 0 0)
end Go.Proofs.YtmdinnjimioffaaGreat
