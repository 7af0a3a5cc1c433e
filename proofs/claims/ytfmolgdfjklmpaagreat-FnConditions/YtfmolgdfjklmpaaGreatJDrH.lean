import Derived.Test.YtfmolgdfjklmpaaGreatJTrM
import Derived.Test.YtfmolgdfjklmpaaGreatJZrM
import Derived.Test.YtfmolgdfjklmpaaGreatJSCheck
import Derived.Test.YtfmolgdfjklmpaaGreatJZtM
import Derived.Test.YtfmolgdfjklmpaaGreatJSls
import Derived.Test.YtfmolgdfjklmpaaGreatFoldD
import Derived.Test.YtfmolgdfjklmpaaGreatJTake2
import Derived.Test.YtfmolgdfjklmpaaGreatJMath
import Derived.Test.YtfmolgdfjklmpaaGreatJZbH
import Derived.Test.YtfmolgdfjklmpaaGreatDraw3
namespace Go.Proofs.YtfmolgdfjklmpaaGreat
open Go.RowKit
set_option linter.unusedVariables false
def oneC(r:Rr)(apex:ByteArray):Int:=
 if(Nm.split r.own).isSome=false then 1 else if r.cl≠1 then 19 else if(decide (0<=r.tt)&&decide (r.tt<=2147483647))=false then 18
 else if metaB r.ty=true∨r.ty<0∨65535<r.ty then 6 else if cutCode r.ty r.da≠0 then 7 else if isUnderS r.own apex=false then 22 else 0
set_option maxRecDepth 100000 in
set_option maxHeartbeats 1600000 in
theorem l06One_any(r:Rr)(apex:ByteArray)(w:World)(ho:r.own.size<=maxLen)(ha:apex.size<=maxLen):
 Calls Tryz.prog 32 #[.agg #[.string r.own,.int .i64 r.ty,.int .i64 r.cl,.int .i64 r.tt,.string r.da],.string apex] w fun e w'=>e=.returned (.int .i64 (oneC r apex))∧Below w.heap.size w w':=by
 have hB0:=(Below.refl w.heap.size w).alloc (Nat.le_refl _) (.cells #[.string r.own,.int .i64 r.ty,.int .i64 r.cl,.int .i64 r.tt,.string r.da] 33);have hR0:=RB.new w r 33;have h1:=fun W=>specNameOK_any r.own W ho
 have h2:=fun W=>l04In_any r.tt 2147483647 W
 have h3:=fun W=>l05Meta_any r.ty W
 have h4:=fun W=>specCheckData_any r.ty r.da W
 have h5:=fun W=>specIsUnder_any r.own apex W ho ha
 have hkeep:=fun(W:World) (hb:Below (w.alloc (.cells #[.string r.own,.int .i64 r.ty,.int .i64 r.cl,.int .i64 r.tt,.string r.da] 33)).heap.size (w.alloc (.cells #[.string r.own,.int .i64 r.ty,.int .i64 r.cl,.int .i64 r.tt,.string r.da] 33)) W)=>(And.intro (hR0.below hb) (Nm.below_two hB0 hb))
 obtain⟨Q,hQ⟩:∃ Q,Q=oneC r apex:=⟨_,rfl⟩;rw [<- hQ];unfold oneC at hQ;generalize cutCode r.ty r.da=CC at*;generalize isUnderS r.own apex=IU at*;generalize (Nm.split r.own).isSome=SO at*;generalize (decide (0<=r.tt)&&decide (r.tt<=2147483647))=TT at*;have hmb:∀ b,metaB r.ty=b->True:=fun _ _=>trivial
 generalize metaB r.ty=MB at*;clear hmb;obtain⟨o,ty,cl,tt,da⟩:=r;simp only [RB] at*;obtain⟨c0,c1,c2,c3,c4⟩:=hR0
 cases SO with
 |false=>
  simp only [if_true] at hQ;subst hQ;clear h2 h3 h4 h5;go_enter Tryz.func32,Tryz.ntmps32;go_wp2_with fail
  refine(h1 _).mono ?_;rintro e w1 ⟨rfl,b1⟩;go_wp2;go_ret
  exact⟨rfl,Nm.below_two hB0 b1⟩
 |true=>
  simp only [Bool.true_eq_false,if_false] at hQ
  by_cases hcl:cl=1
  ·rw [if_neg (by simpa using hcl)] at hQ;subst hcl;have ncl:((1:Int) != 1)=false:=rfl
   cases TT with
   |false=>
    simp only [if_true] at hQ;subst hQ;clear h3 h4 h5;go_enter Tryz.func32,Tryz.ntmps32;go_wp2_with fail
    refine(h1 _).mono ?_;rintro e w1 ⟨rfl,b1⟩;obtain⟨⟨d0,d1,d2,d3,d4⟩,e1⟩:=hkeep w1 b1;clear c0 c1 c2 c3 c4;go_wp2_with fail
    refine(h2 _).mono ?_;rintro e w2 ⟨rfl,rfl⟩;go_wp2;go_ret
    exact⟨rfl,e1⟩
   |true=>
    simp only [Bool.true_eq_false,if_false] at hQ
    by_cases hm:MB=true∨ty<0∨65535<ty
    ·rw [if_pos hm] at hQ;subst hQ;clear h4 h5
     cases MB with
     |true=>
      go_enter Tryz.func32,Tryz.ntmps32;go_wp2_with fail
      refine(h1 _).mono ?_;rintro e w1 ⟨rfl,b1⟩;obtain⟨⟨d0,d1,d2,d3,d4⟩,e1⟩:=hkeep w1 b1;clear c0 c1 c2 c3 c4;go_wp2_with fail
      refine(h2 _).mono ?_;rintro e w2 ⟨rfl,rfl⟩;go_wp2_with fail
      refine(h3 _).mono ?_;rintro e w3 ⟨rfl,rfl⟩;go_wp2;go_ret
      exact⟨rfl,e1⟩
     |false=>
      by_cases hneg:ty<0
      ·have n0:decide (ty<0)=true:=decide_eq_true hneg;go_enter Tryz.func32,Tryz.ntmps32;go_wp2_with fail
       refine(h1 _).mono ?_;rintro e w1 ⟨rfl,b1⟩;obtain⟨⟨d0,d1,d2,d3,d4⟩,e1⟩:=hkeep w1 b1;clear c0 c1 c2 c3 c4;go_wp2_with fail
       refine(h2 _).mono ?_;rintro e w2 ⟨rfl,rfl⟩;go_wp2_with fail
       refine(h3 _).mono ?_;rintro e w3 ⟨rfl,rfl⟩;go_wp2;go_ret;exact⟨rfl,e1⟩
      ·have hbig:65535<ty:=by rcases hm with h|h|h;· cases h
                              ·omega
                              ·exact h
       have n0:decide (ty<0)=false:=decide_eq_false hneg;have n1:decide (65535<ty)=true:=decide_eq_true hbig;go_enter Tryz.func32,Tryz.ntmps32;go_wp2_with fail
       refine(h1 _).mono ?_;rintro e w1 ⟨rfl,b1⟩;obtain⟨⟨d0,d1,d2,d3,d4⟩,e1⟩:=hkeep w1 b1;clear c0 c1 c2 c3 c4;go_wp2_with fail
       refine(h2 _).mono ?_;rintro e w2 ⟨rfl,rfl⟩;go_wp2_with fail
       refine(h3 _).mono ?_;rintro e w3 ⟨rfl,rfl⟩;go_wp2;go_ret;exact⟨rfl,e1⟩
    ·rw [if_neg hm] at hQ
     obtain⟨rfl,hneg,hbig⟩:MB=false∧0<=ty∧ty<=65535:=by
      refine⟨?_,?_,?_⟩
      ·cases MB with
       |true=>exact absurd (Or.inl rfl) hm
       |false=>rfl
      ·exact Int.not_lt.1 (fun h=>hm (.inr (.inl h)))
      ·exact Int.not_lt.1 (fun h=>hm (.inr (.inr h)))
     by_cases hc:CC=0
     ·rw [if_neg (by simpa using hc)] at hQ;subst hc
      cases IU with
      |false=>
       simp only [if_true] at hQ;subst hQ;go_enter Tryz.func32,Tryz.ntmps32;go_wp2_with fail
       refine(h1 _).mono ?_;rintro e w1 ⟨rfl,b1⟩;obtain⟨⟨d0,d1,d2,d3,d4⟩,e1⟩:=hkeep w1 b1;clear c0 c1 c2 c3 c4;go_wp2_with fail
       refine(h2 _).mono ?_;rintro e w2 ⟨rfl,rfl⟩;go_wp2_with fail
       refine(h3 _).mono ?_;rintro e w3 ⟨rfl,rfl⟩;go_wp2_with fail
       refine(h4 _).mono ?_;rintro e w4 ⟨rfl,b4⟩;obtain⟨⟨g0,g1,g2,g3,g4⟩,e4⟩:=hkeep w4 (Nm.below_two b1 b4);clear d0 d1 d2 d3 d4;go_wp2_with fail
       refine(h5 _).mono ?_;rintro e w5 ⟨rfl,b5⟩;go_wp2;go_ret
       exact⟨rfl,Nm.below_two e4 b5⟩
      |true=>
       simp only [Bool.true_eq_false,if_false] at hQ;subst hQ;go_enter Tryz.func32,Tryz.ntmps32;go_wp2_with fail
       refine(h1 _).mono ?_;rintro e w1 ⟨rfl,b1⟩;obtain⟨⟨d0,d1,d2,d3,d4⟩,e1⟩:=hkeep w1 b1;clear c0 c1 c2 c3 c4;go_wp2_with fail
       refine(h2 _).mono ?_;rintro e w2 ⟨rfl,rfl⟩;go_wp2_with fail
       refine(h3 _).mono ?_;rintro e w3 ⟨rfl,rfl⟩;go_wp2_with fail
       refine(h4 _).mono ?_;rintro e w4 ⟨rfl,b4⟩;obtain⟨⟨g0,g1,g2,g3,g4⟩,e4⟩:=hkeep w4 (Nm.below_two b1 b4);clear d0 d1 d2 d3 d4;go_wp2_with fail
       refine(h5 _).mono ?_;rintro e w5 ⟨rfl,b5⟩;go_wp2;go_ret;exact⟨rfl,Nm.below_two e4 b5⟩
     ·rw [if_pos (by simpa using hc)] at hQ;subst hQ;have nc:(CC != 0)=true:=by rw [bne_iff_ne];exact hc
      go_enter Tryz.func32,Tryz.ntmps32;go_wp2_with fail
      refine(h1 _).mono ?_;rintro e w1 ⟨rfl,b1⟩;obtain⟨⟨d0,d1,d2,d3,d4⟩,e1⟩:=hkeep w1 b1;clear c0 c1 c2 c3 c4;go_wp2_with fail
      refine(h2 _).mono ?_;rintro e w2 ⟨rfl,rfl⟩;go_wp2_with fail
      refine(h3 _).mono ?_;rintro e w3 ⟨rfl,rfl⟩;go_wp2_with fail
      refine(h4 _).mono ?_;rintro e w4 ⟨rfl,b4⟩;go_wp2;go_ret;exact⟨rfl,Nm.below_two e1 b4⟩
  ·rw [if_pos (by simpa using hcl)] at hQ;subst hQ;have ncl:(cl != 1)=true:=by rw [bne_iff_ne];exact hcl
   clear h2 h3 h4 h5;go_enter Tryz.func32,Tryz.ntmps32;go_wp2_with fail
   refine(h1 _).mono ?_;rintro e w1 ⟨rfl,b1⟩;obtain⟨⟨d0,d1,d2,d3,d4⟩,e1⟩:=hkeep w1 b1;clear c0 c1 c2 c3 c4;go_wp2;go_ret;exact⟨rfl,e1⟩
def itemOf(r:Rr):It:=⟨r,Nm.foldS r.own,foldR r.ty r.da,false⟩
def badOne(apex:ByteArray):List Rr->Nat->Option (Int×Nat)
 |[],_=>none
 |r::rs,i=>if oneC r apex=0 then badOne apex rs (i+1) else some (oneC r apex,i)
theorem badOne_at{apex:ByteArray}:∀ (l:List Rr) (k i:Nat) (r:Rr),(∀ (j:Nat) (x:Rr),j<k->l[j]? =some x->oneC x apex=0)->l[k]? =some r->oneC r apex≠0->badOne apex l i=some (oneC r apex,i+k):=by
 intro l
 induction l with
 |nil=>intro k i r _ h;simp at h
 |cons x l ih=>
  intro k i r hno hr hp
  cases k with
  |zero=>
   simp at hr;subst hr
   rw [badOne,if_neg hp];rfl
  |succ k=>
   simp at hr;rw [badOne,if_pos (hno 0 x (by omega) rfl),ih k (i+1) r (fun j y hj hy=>hno (j+1) y (by omega) (by simpa using hy)) hr hp];congr 2;omega
theorem badOne_no{apex:ByteArray}:∀ (l:List Rr) (i:Nat),(∀ (j:Nat) (x:Rr),j<l.length->l[j]? =some x->oneC x apex=0)->badOne apex l i=none:=by
 intro l
 induction l with
 |nil=>intro i _;rfl
 |cons x l ih=>
  intro i hno;rw [badOne,if_pos (hno 0 x (by simp) rfl)];exact ih (i+1) (fun j y hj hy=>hno (j+1) y (by simp;omega) (by simpa using hy))
def addLast(acc:List Sz)(d:ByteArray):List Sz:=match acc.getLast? with
 |some s=>acc.dropLast++[{s with da:=s.da++[d]}]
 |none=>[]
def newSet(srt:List It)(k:Nat)(x:It):Bool:=match k with
 |0=>true
 |k+1=>match srt[k]? with
  |some y=>decide (y.fo≠x.fo)||decide (y.r.ty≠x.r.ty)
  |none=>true
def grpK(l srt:List It):Nat->List Sz
 |0=>[]
 |k+1=>match srt[k]? with
  |some x=>if newSet srt k x then grpK l srt k++[⟨ownI l x.fo,x.r.ty,x.r.tt,[x.r.da]⟩] else addLast (grpK l srt k) x.r.da
  |none=>grpK l srt k
theorem grpK_new{l srt:List It}{k:Nat}{x:It}(h:srt[k]? =some x)(hn:newSet srt k x=true):grpK l srt (k+1)=grpK l srt k++[⟨ownI l x.fo,x.r.ty,x.r.tt,[x.r.da]⟩]:=by
 rw [grpK,h];simp [hn]
theorem grpK_old{l srt:List It}{k:Nat}{x:It}{qs:List Sz}{s:Sz}(h:srt[k]? =some x)(hn:newSet srt k x=false)(hg:grpK l srt k=qs++[s]):grpK l srt (k+1)=qs++[{s with da:=s.da++[x.r.da]}]:=by
 rw [grpK,h];simp [hn,hg,addLast]
theorem grpK_last{l srt:List It}:∀ (k:Nat),0<k->k<=srt.length->∃ qs s,grpK l srt k=qs++[s]:=by
 intro k
 induction k with
 |zero=>intro h;omega
 |succ k ih=>
  intro _ hk;obtain⟨x,hx⟩:∃ x,srt[k]? =some x:=⟨_,List.getElem?_eq_getElem (by omega)⟩
  cases hn:newSet srt k x with
  |true=>exact⟨_,_,grpK_new hx hn⟩
  |false=>
   have hk0:0<k:=by
    rcases Nat.eq_zero_or_pos k with h|h
    ·subst h;simp [newSet] at hn
    ·exact h
   obtain⟨qs,s,e⟩:=ih hk0 (by omega);exact⟨_,_,grpK_old hx hn e⟩
theorem grpK_len{l srt:List It}:∀ (k:Nat),k<=srt.length->(grpK l srt k).length<=k∧∀ s∈grpK l srt k,s.da.length<=k:=by
 intro k
 induction k with
 |zero=>intro _;exact⟨Nat.le_refl _,by simp [grpK]⟩
 |succ k ih=>
  intro hk;obtain⟨h1,h2⟩:=ih (by omega);obtain⟨x,hx⟩:∃ x,srt[k]? =some x:=⟨_,List.getElem?_eq_getElem (by omega)⟩
  cases hn:newSet srt k x with
  |true=>
   rw [grpK_new hx hn];refine⟨by simp;omega,fun s hs=>?_⟩
   rcases List.mem_append.1 hs with h|h
   ·have:=h2 s h;omega
   ·simp at h;subst h;simp
  |false=>
   have hk0:0<k:=by
    rcases Nat.eq_zero_or_pos k with h|h
    ·subst h;simp [newSet] at hn
    ·exact h
   obtain⟨qs,s,e⟩:=grpK_last (l:=l) (srt:=srt) k hk0 (by omega);rw [grpK_old hx hn e];rw [e] at h1 h2;refine⟨by simp at h1 ⊢;omega,fun t ht=>?_⟩
   rcases List.mem_append.1 ht with h|h
   ·have:=h2 t (List.mem_append.2 (.inl h));omega
   ·simp at h;subst h;have:=h2 s (by simp)
    simp;omega
def itsOf(list:List Rr):List It:=twI (list.map itemOf)
def restOf(list:List Rr):List It:=(itsOf list).filter fun x=> !x.out
def srtOf(list:List Rr):List It:=sortI (restOf list)
def bldZ(list:List Rr):List Sz:=grpK (itsOf list) (srtOf list) (srtOf list).length
def bldE(list:List Rr)(apex:ByteArray):Int×Int:=
 if(Nm.split apex).isSome=false then(32,-1) else if 500<list.length then(12,-1) else
 match badOne apex list 0 with
 |some (c,i)=>(c,i)
 |none=>if 0<=badI (list.map itemOf) then(24,badI (list.map itemOf)) else if(rulesI (itsOf list) (Nm.foldS apex)).1≠0 then rulesI (itsOf list) (Nm.foldS apex) else(0,0)
end Go.Proofs.YtfmolgdfjklmpaaGreat
namespace Go.Proofs.YtfmolgdfjklmpaaGreat
open Go.RowKit
set_option maxRecDepth 100000 in
set_option maxHeartbeats 400000 in
theorem implCheckData_any(t:Int)(d:ByteArray)(w:World)(hd:d.size<=2000000):
 Calls Tryz.prog 130 #[.int .i64 t,.string d] w fun e w'=>e=.returned (.int .i64 (cutCode t d))∧Below w.heap.size w w':=by
 have hcall:=cutData_any t d w hd;go_enter Tryz.func130,Tryz.ntmps130;go_wp2_with (go_at_call 134;refine hcall.mono ?_;rintro e w2 ⟨v,rfl,_,_,hbel⟩)
 go_ret;exact⟨rfl,hbel⟩
end Go.Proofs.YtfmolgdfjklmpaaGreat
namespace Go.Proofs.YtfmolgdfjklmpaaGreat
open Go.RowKit
set_option linter.unusedVariables false
def recC(r:Rr)(xs ys:List ByteArray):Int:=
 if r.cl≠1 then 19 else if(decide (0<=r.tt)&&decide (r.tt<=2147483647))=false then 18
 else if(decide (0<=r.ty)&&decide (r.ty<=65535))=false then 6 else if metaB r.ty=true then 6 else if cutCode r.ty r.da≠0 then 7 else if underB xs ys=false then 22 else 0
set_option maxRecDepth 100000 in
set_option maxHeartbeats 1600000 in
theorem checkRecord_any(r:Rr)(bb:Nat)(v u:Value)(xs ys:List ByteArray)(w:World)(hd:r.da.size<=2000000)(hv:Nm.SRow w v xs)(hu:Nm.SRow w u ys)(hk:w.cell? ⟨bb,3,none⟩=some u)(hxs:∀ x∈xs,x.size<=1000000000)(hlx:xs.length<=1000000000)(hly:ys.length<=1000000000):
 Calls Tryz.prog 109 #[.pointer (some ⟨bb,0,none⟩),.agg #[.string r.own,.int .i64 r.ty,.int .i64 r.cl,.int .i64 r.tt,.string r.da],v] w fun e w'=>e=.returned (.int .i64 (recC r xs ys))∧Below w.heap.size w w':=by
 have hB0:=(Below.refl w.heap.size w).alloc (Nat.le_refl _) (.cells #[.string r.own,.int .i64 r.ty,.int .i64 r.cl,.int .i64 r.tt,.string r.da] 33);have hR0:=RB.new w r 33;have h1:=fun W=>within_any r.tt 2147483647 W
 have h2:=fun W=>within_any r.ty 65535 W
 have h3:=fun W=>isMeta_any r.ty W
 have h4:=fun W=>implCheckData_any r.ty r.da W hd
 have h5:=fun W (hW:Below w.heap.size w W)=>under_any v u xs ys W (hv.below hW) (hu.below hW) hxs hlx hly
 have hkk:=fun W (hW:Below w.heap.size w W)=>(hW.cell (p:=⟨bb,3,none⟩) (World.block_lt_of_cell? w _ hk)).trans hk
 have ev:=hv;obtain⟨va,vc,rfl,_⟩:=ev;have eu:=hu;obtain⟨ua,uc,rfl,_⟩:=eu;obtain⟨Q,hQ⟩:∃ Q,Q=recC r xs ys:=⟨_,rfl⟩;rw [<- hQ];unfold recC at hQ;generalize cutCode r.ty r.da=CC at*;generalize underB xs ys=UB at*;generalize (decide (0<=r.tt)&&decide (r.tt<=2147483647))=TT at*;generalize (decide (0<=r.ty)&&decide (r.ty<=65535))=TY at*;have hmb:∀ b,metaB r.ty=b->True:=fun _ _=>trivial
 generalize metaB r.ty=MB at*;clear hmb hv hu hk;obtain⟨o,ty,cl,tt,da⟩:=r;simp only [RB] at*;obtain⟨c0,c1,c2,c3,c4⟩:=hR0
 by_cases hcl:cl=1
 ·rw [if_neg (by simpa using hcl)] at hQ;subst hcl;have ncl:((1:Int) != 1)=false:=rfl
  cases TT with
  |false=>
   simp only [if_true] at hQ;subst hQ;clear h2 h3 h4 h5 hkk;go_enter Tryz.func109,Tryz.ntmps109;go_wp2_with fail
   refine(h1 _).mono ?_;rintro e w1 ⟨rfl,rfl⟩;go_wp2;go_ret
   exact⟨rfl,hB0⟩
  |true=>
   simp only [Bool.true_eq_false,if_false] at hQ
   cases TY with
   |false=>
    simp only [if_true] at hQ;subst hQ;clear h3 h4 h5 hkk;go_enter Tryz.func109,Tryz.ntmps109;go_wp2_with fail
    refine(h1 _).mono ?_;rintro e w1 ⟨rfl,rfl⟩;go_wp2_with fail
    refine(h2 _).mono ?_;rintro e w1 ⟨rfl,rfl⟩;go_wp2;go_ret
    exact⟨rfl,hB0⟩
   |true=>
    simp only [Bool.true_eq_false,if_false] at hQ
    cases MB with
    |true=>
     simp only [if_true] at hQ;subst hQ;clear h4 h5 hkk;go_enter Tryz.func109,Tryz.ntmps109;go_wp2_with fail
     refine(h1 _).mono ?_;rintro e w1 ⟨rfl,rfl⟩;go_wp2_with fail
     refine(h2 _).mono ?_;rintro e w1 ⟨rfl,rfl⟩;go_wp2_with fail
     refine(h3 _).mono ?_;rintro e w1 ⟨rfl,rfl⟩;go_wp2;go_ret
     exact⟨rfl,hB0⟩
    |false=>
     simp only [Bool.false_eq_true,if_false] at hQ
     by_cases hcc:CC=0
     ·rw [if_neg (by simpa using hcc)] at hQ;subst hcc;have HQ:=Nm.hide hQ;clear hQ;go_enter Tryz.func109,Tryz.ntmps109;go_wp2_with fail
      refine(h1 _).mono ?_;rintro e w1 ⟨rfl,rfl⟩;go_wp2_with fail
      refine(h2 _).mono ?_;rintro e w1 ⟨rfl,rfl⟩;go_wp2_with fail
      refine(h3 _).mono ?_;rintro e w1 ⟨rfl,rfl⟩;go_wp2_with fail
      refine(h4 _).mono ?_;rintro e w2 ⟨rfl,b2⟩;have hb2:=Nm.below_two hB0 b2;have k2:=hkk w2 hb2;clear hkk;go_wp2_with fail
      refine(h5 _ hb2).mono ?_;rintro e w3 ⟨rfl,m,rfl⟩
      cases UB with
      |true=>
       go_wp2;go_ret
       exact⟨by rw [HQ.out];rfl,Go.below_drewN hb2 _⟩
      |false=>
       go_wp2;go_ret;exact⟨by rw [HQ.out];rfl,Go.below_drewN hb2 _⟩
     ·rw [if_pos (by simpa using hcc)] at hQ;subst hQ;have ncc:(CC != 0)=true:=by simpa using hcc
      clear h5 hkk;go_enter Tryz.func109,Tryz.ntmps109;go_wp2_with fail
      refine(h1 _).mono ?_;rintro e w1 ⟨rfl,rfl⟩;go_wp2_with fail
      refine(h2 _).mono ?_;rintro e w1 ⟨rfl,rfl⟩;go_wp2_with fail
      refine(h3 _).mono ?_;rintro e w1 ⟨rfl,rfl⟩;go_wp2_with fail
      refine(h4 _).mono ?_;rintro e w2 ⟨rfl,b2⟩;go_wp2;go_ret;exact⟨rfl,Nm.below_two hB0 b2⟩
 ·rw [if_pos (by simpa using hcl)] at hQ;subst hQ;have ncl:(cl != 1)=true:=by simpa using hcl
  clear h1 h2 h3 h4 h5 hkk;go_enter Tryz.func109,Tryz.ntmps109;go_wp2;go_ret;exact⟨rfl,hB0⟩
end Go.Proofs.YtfmolgdfjklmpaaGreat
namespace Go.Proofs.YtfmolgdfjklmpaaGreat
open Go.RowKit
def InC(w wr:World)(g:Nat)(a:Option Addr)(n cap gr m rc:Nat)(ls:List ByteArray)(gb:Nat)(l:List UInt8):Prop:=
 wr.ownsRow w.heap.size 9 1 (.slice (some ⟨gr,0,none⟩) m rc) m (ls.map Value.string)∧Src wr g a n cap∧w.grownBy wr (some g)∧BRow wr gb l∧gr≠gb∧w.heap.size<=gb
theorem code_ne{w:World}{g n gb:Nat}{a:Option Addr}(h:CodeAt w g a n)(hb:w.heap.size<=gb):n=0∨∀ b off,a=some ⟨b,off,none⟩->b≠gb:=by
 rcases Nat.eq_zero_or_pos n with hn|hn
 ·exact .inl hn
 refine .inr fun b off e=>?_
 rcases h with h0|⟨b',off',e',_,hc⟩
 ·omega
 ·rw [e] at e';simp only [Option.some.injEq,Addr.mk.injEq,and_true] at e';obtain⟨rfl,rfl⟩:=e';obtain⟨c,hc1,_⟩:=hc 0 (by omega);have:b<w.heap.size:=World.block_lt_of_cell? w _ hc1;omega
theorem inc_next{w wr w1:World}{g n cap gr m rc gb:Nat}{a:Option Addr}{ls:List ByteArray}{l:List UInt8}(hg:g<w.heap.size)(h:InC w wr g a n cap gr m rc ls gb l)(hs:Src w1 g a n cap)(hgr:wr.grownBy w1 (some g)):InC w w1 g a n cap gr m rc ls gb l:=by
 obtain⟨h1,h2,h3,h4,h5,h6⟩:=h;exact⟨h1.kept hgr (row_src h1 h2 (by decide)),hs,grown_step h3 hgr,brow_grown h4 hgr (by omega),h5,h6⟩
theorem inc_set{w wr:World}{g n cap gr m rc gb k:Nat}{a:Option Addr}{ls:List ByteArray}{l:List UInt8}(hg:g<w.heap.size)(hcode:CodeAt w g a n)(h:InC w wr g a n cap gr m rc ls gb l)(hk:k<l.length)(z:Int)(hz0:0<=z)(hz1:z<256):
 ∃ l',l'.length=l.length∧InC w (wr.setCell ⟨gb,k,none⟩ (.int .u8 z)) g a n cap gr m rc ls gb l':=by
 obtain⟨h1,h2,h3,h4,h5,h6⟩:=h;obtain⟨d,rfl⟩:=byte_of_int hz0 hz1;refine⟨l.set k d,by simp,h1.kept (row:=some gb) ⟨rfl,rfl,rfl,by simp,fun q _ hq=>heap_setCell_other wr ⟨gb,k,none⟩ q _ (fun e=>hq (by simp [e]))⟩ (.inr (by simpa [Value.ownBlock] using h5)),src_setOther h2 (by omega) (code_ne hcode h6),grown_set h3 h6,h4.set hk,h5,h6⟩
theorem wsum_set{ls:List ByteArray}{k:Nat}{x y:ByteArray}(h:ls[k]? =some x)(he:y.size=x.size):Nm.wsum (ls.set k y)=Nm.wsum ls:=by
 have hk:k<ls.length:=(List.getElem?_eq_some_iff.1 h).1;have hx:ls[k]=x:=(List.getElem?_eq_some_iff.1 h).2
 have e1:ls=ls.take k++(x::ls.drop (k+1)):=by
  rw [<- hx,<- List.drop_eq_getElem_cons hk,List.take_append_drop]
 have e2:ls.set k y=ls.take k++(y::ls.drop (k+1)):=by
  rw [List.set_eq_take_append_cons_drop,if_pos hk]
 rw [e2,Nm.wsum_append]
 conv=>rhs;rw [e1,Nm.wsum_append]
 simp [Nm.wsum,he]
theorem inc_stored{w wr:World}{g n cap gr m rc gb k:Nat}{a:Option Addr}{ls:List ByteArray}{l:List UInt8}(hg:g<w.heap.size)(hcode:CodeAt w g a n)(h:InC w wr g a n cap gr m rc ls gb l)(hw:w.heap.size<=gr)(y:ByteArray):
 (wr.setCell ⟨gr,k,none⟩ (.string y)).ownsRow w.heap.size 9 1 (.slice (some ⟨gr,0,none⟩) m rc) m ((ls.set k y).map Value.string)∧Src (wr.setCell ⟨gr,k,none⟩ (.string y)) g a n cap∧w.grownBy (wr.setCell ⟨gr,k,none⟩ (.string y)) (some g):=by
 obtain⟨h1,h2,h3,h4,h5,h6⟩:=h;refine⟨?_,src_setOther h2 (by omega) (code_ne hcode hw),grown_set h3 hw⟩;have:=(h1.stored k (.string y)).1;rw [List.map_set];exact this
theorem inc_start{w wr W:World}{g n cap gr m rc:Nat}{a:Option Addr}{ls:List ByteArray}{l:List UInt8}(h1:wr.ownsRow w.heap.size 9 1 (.slice (some ⟨gr,0,none⟩) m rc) m (ls.map Value.string))(h2:Src wr g a n cap)(h3:w.grownBy wr (some g))(hb:Below wr.heap.size wr W)(hr:BRow W wr.heap.size l):
 InC w W g a n cap gr m rc ls wr.heap.size l:=by
 have hlt:=h1.lt gr rfl;exact⟨h1.kept (row:=none) ⟨hb.os,hb.tape,hb.output,hb.size,fun k hk _=>hb.block k hk⟩ (.inr (by simp [Value.ownBlock])),src_below h2 hb,grown_below h3 hb,hr,by omega,h3.size⟩
set_option maxRecDepth 100000 in
set_option maxHeartbeats 1600000 in
theorem l01Case_any(g:Nat)(a:Option Addr)(n cap:Nat)(nm:ByteArray)(w:World)(h:Src w g a n cap)(hz:nm.size<=maxLen):
 Calls Tryz.prog 57 #[.pointer (some ⟨g,0,none⟩),.string nm] w fun e w'=>∃ s:ByteArray,e=.returned (.string s)∧s.size<=255∧Src w' g a n cap∧w.grownBy w' (some g):=by
 obtain⟨hcode,hglt⟩:=src_code h;have hsp:=l01Split_any nm w hz
 have hws:Nm.wsum ((Nm.split nm).getD [])<=254:=by
  cases hq:Nm.split nm with
  |none=>simp [Nm.wsum]
  |some ls=>have:=Nm.split_size hq;simp;omega
 generalize (Nm.split nm).getD []=ls at*;generalize (Nm.split nm).isSome=ok at*;go_enter Tryz.func57,Tryz.ntmps57;go_wp2_with fail
 refine hsp.mono ?_;rintro e w1 ⟨v,rfl,hown,hbel⟩;have hs1:=src_below h hbel;have hg1:=grown_below (World.grownBy.refl w (some g)) hbel;clear hsp h hbel
 by_cases hn:ls=[]
 ·subst hn;have hr:=Nm.SRow.of_owns (ls:=[]) hown;have hr':=hr;obtain⟨ra,rcap,rfl,hcap,hmx,hnl,hc⟩:=hr';clear hown hc hnl;go_wp2
  go_loop [7] (fun i=>i=.int .i64 0) (fun _=>0)
  case atStart=>rfl
  case round=>
   subst hrel;go_wp2_with (go_at_call 16;refine(l01Join_any _ [] _ hr (by simp [Nm.wsum])).mono ?_;rintro e w2 ⟨rfl,hbel2⟩)
   go_ret;exact⟨_,rfl,by rw [mkj_size];simp [Nm.wsum],src_below hs1 hbel2,grown_below hg1 hbel2⟩
 ·have hlp:0<ls.length:=List.length_pos_iff.2 hn
  obtain⟨gr,rc,cur,rfl,hg⟩:∃ g cap cur,v=.slice (some ⟨g,0,none⟩) ls.length cap∧w.heap.size<=g∧ls.length<=cap∧cap<=maxLen∧w1.heap[g]? =some (.cells cur 9 (0,0)):=by
   rcases hown.2 with⟨rfl,h0⟩|⟨g,cap,cur,rfl,hb,hg,hnc,hm,_⟩
   ·omega
   ·exact⟨g,cap,cur,rfl,hb,hnc,hm,hg⟩
  obtain⟨hwg,hnc,hm,_⟩:=hg;unfold maxLen at hm;generalize hm0:ls.length=m at*;go_wp2
  go_loopw [7] (fun i wr=>∃ (k:Nat) (ls2:List ByteArray),k<=m∧i=.int .i64 k∧ls2.length=m∧Nm.wsum ls2<=254∧wr.ownsRow w.heap.size 9 1 (.slice (some ⟨gr,0,none⟩) m rc) m (ls2.map Value.string)∧Src wr g a n cap∧w.grownBy wr (some g))
   (fun i _=>m-(intOf i).toNat)
  case atStart=>exact⟨0,ls,Nat.zero_le _,rfl,hm0,hws,hown,hs1,hg1⟩
  case round=>
   obtain⟨k,ls2,hk,rfl,hl2,hw2,hown2,hs2,hg2⟩:=hrel;clear hown hs1 hg1 hws hm0 hn;have hsz2:=hg2.size
   by_cases hlt:k<m
   ·obtain⟨x,hx⟩:∃ x,ls2[k]? =some x:=⟨_,List.getElem?_eq_getElem (by omega)⟩
    have hxz:x.size<=254:=by
     have:=wsum_set (y:=x) hx rfl;have h1:=Nm.wsum_step hx;have h2:=Nm.wsum_take_le ls2 (k+1);omega
    have hcx:wr.cell? ⟨gr,k,none⟩=some (.string x):=by
     rw [hown2.cellAt k (by omega)];simp [hx]
    obtain⟨cp,W,hcp,hcpm,hrun,hrow,hbw⟩:=new_bytes x wr;have hcpm':=hcpm (by unfold maxLen;omega);unfold maxLen at hcpm';have hinc:=inc_start hown2 hs2 hg2 hbw hrow;have hxl:x.data.toList.length=x.size:=by simp
    clear hcpm hrow hbw hown2 hs2 hg2;go_wp2
    go_loopw [9] (fun i w2=>∃ (j:Nat) (l:List UInt8),j<=x.size∧i=.int .i64 j∧l.length=x.size∧InC w w2 g a n cap gr m rc ls2 wr.heap.size l)
     (fun i _=>x.size-(intOf i).toNat)
    case atStart=>exact⟨0,_,Nat.zero_le _,rfl,hxl,hinc⟩
    case round=>
     rename World=>w2
     obtain⟨j,l,hj,rfl,hll,hin⟩:=hrel;clear hinc hrun hcx
     by_cases hjt:j<x.size
     ·obtain⟨c,hc⟩:∃ c,l[j]? =some c:=⟨_,List.getElem?_eq_getElem (by omega)⟩;obtain⟨hcc,hcf⟩:=hin.2.2.2.1 j c hc;have hc255:(c.toNat:Int)<256:=by have:=c.toNat_lt;omega
      by_cases h97:97<=c.toNat
      ·by_cases h122:c.toNat<=122
       ·have d1:decide ((97:Int)<=(c.toNat:Int))=true:=by simp;omega
        have d2:decide ((c.toNat:Int)<=122)=true:=by simp;omega
        have d3:(97:Int)<=(c.toNat:Int):=by omega
        have d4:(c.toNat:Int)<=122:=by omega
        clear h97 h122;go_wp2_with fail
        refine(l01Next_any g a n cap 3 _ hin.2.1 (by decide)).mono ?_;rintro e w3 ⟨r,rfl,hr0,hr1,hs3,hg3⟩;have hin3:=inc_next hglt hin hs3 hg3;obtain⟨hcc3,hcf3⟩:=hin3.2.2.2.1 j c hc;clear hcc hcf hr1 hs3 hg3
        by_cases hr:r=0
        ·subst hr;obtain⟨l',hl',hin'⟩:=inc_set hglt hcode hin3 (k:=j) (by omega) ((c.toNat:Int)-32) (by omega) (by omega);have HI:=Nm.hide hin';clear hin' hin3 hin hc;go_wp2;go_roundw
         case rel=>exact⟨j+1,l',by omega,by go_num,by omega,HI.out⟩
         case measure=>simp [intOf];omega
        ·have hr':(r==0)=false:=by rw [beq_eq_false_iff_ne];exact hr
         clear hcc3 hcf3;go_wp2;go_roundw
         case rel=>exact⟨j+1,l,by omega,by go_num,hll,hin3⟩
         case measure=>simp [intOf];omega
       ·have d1:decide ((97:Int)<=(c.toNat:Int))=true:=by simp;omega
        have d2:decide ((c.toNat:Int)<=122)=false:=by simp;omega
        have d3:(97:Int)<=(c.toNat:Int):=by omega
        have d4:(122:Int)<(c.toNat:Int):=by omega
        go_wp2;go_roundw
        case rel=>exact⟨j+1,l,by omega,by go_num,hll,hin⟩
        case measure=>simp [intOf];omega
      ·have d1:decide ((97:Int)<=(c.toNat:Int))=false:=by simp;omega
       have d3:(c.toNat:Int)<97:=by omega
       go_wp2;go_roundw
       case rel=>exact⟨j+1,l,by omega,by go_num,hll,hin⟩
       case measure=>simp [intOf];omega
     ·have hje:j=x.size:=by omega
      subst hje;have hcv:=conv_brow (cap:=cp) (k:=x.size) hin.2.2.2.1 (by omega);have hys:=mk_size (l.take x.size);generalize ByteArray.mk (l.take x.size).toArray=y at*;have hyz:y.size=x.size:=by rw [hys,List.length_take];omega
      have hcr:w2.cell? ⟨gr,k,none⟩=some (.string x):=by
       rw [hin.1.cellAt k (by omega)];simp [hx]
      have hfr:=hin.1.frozenAt k;have HI:=Nm.hide (inc_stored (k:=k) hglt hcode hin hwg y);have hwy:=wsum_set hx hyz;clear hin hys hjt;go_wp2;go_roundw
      case rel=>exact⟨k+1,_,by omega,by go_num,by simpa using hl2,by omega,HI.out.1,HI.out.2.1,HI.out.2.2⟩
      case measure=>simp [intOf];omega
   ·have hkl:k=m:=by omega
    subst hkl;go_wp2_with (go_at_call 16;refine(l01Join_any _ ls2 _ (Nm.SRow.of_owns (by rw [hl2];exact hown2)) (by omega)).mono ?_;rintro e w3 ⟨rfl,hb3⟩)
    go_ret;exact⟨_,rfl,by rw [mkj_size];omega,src_below hs2 hb3,grown_below hg2 hb3⟩
end Go.Proofs.YtfmolgdfjklmpaaGreat
namespace Go.Proofs.YtfmolgdfjklmpaaGreat
open Go.RowKit
set_option linter.unusedVariables false
structure Dr (w0:World) (g:Nat) (a:Option Addr) (n cap:Nat) (w:World):Prop where
 s:Src w g a n cap
 gr:w0.grownBy w (some g)
 lt:g<w0.heap.size
 code:CodeAt w0 g a n
theorem Dr.start{w:World}{g n cap:Nat}{a:Option Addr}(h:Src w g a n cap):Dr w g a n cap w:=⟨h,World.grownBy.refl _ _,(src_code h).2,(src_code h).1⟩
theorem Dr.step{w0 w w1:World}{g n cap:Nat}{a:Option Addr}(d:Dr w0 g a n cap w)(h:Src w1 g a n cap)(hg:w.grownBy w1 (some g)):Dr w0 g a n cap w1:=⟨h,grown_step d.gr hg,d.lt,d.code⟩
theorem Dr.below{w0 w w1:World}{g n cap:Nat}{a:Option Addr}(d:Dr w0 g a n cap w)(h:Below w.heap.size w w1):Dr w0 g a n cap w1:=⟨src_below d.s h,grown_below d.gr h,d.lt,d.code⟩
theorem Dr.alloc{w0 w:World}{g n cap:Nat}{a:Option Addr}(d:Dr w0 g a n cap w)(o:Obj):Dr w0 g a n cap (w.alloc o):=d.below ((Below.refl _ _).alloc (Nat.le_refl _) _)
theorem Dr.row{w0 w w1:World}{g n cap:Nat}{a:Option Addr}{row:Option Nat}(d:Dr w0 g a n cap w)(hg:w.grownBy w1 row)(hr:∀ k,row=some k->w0.heap.size<=k):Dr w0 g a n cap w1:=⟨src_grown d.s hg hr d.lt d.code,grown_own d.gr hg hr,d.lt,d.code⟩
theorem Dr.keep{w0 w w1:World}{g n cap e sz m:Nat}{a:Option Addr}{v:Value}{xs:List Value}(d:Dr w0 g a n cap w)(h:w.ownsRow w0.heap.size e sz v m xs)(hg:w.grownBy w1 (some g)):w1.ownsRow w0.heap.size e sz v m xs:=by
 refine h.kept hg ?_
 cases hv:v.ownBlock with
 |none=>exact .inl rfl
 |some k=>
  have h1:=(h.lt k hv).1;have h2:=d.lt;right;simp only [ne_eq,Option.some.injEq];omega
theorem Dr.size{w0 w:World}{g n cap:Nat}{a:Option Addr}(d:Dr w0 g a n cap w):w0.heap.size<=w.heap.size:=d.gr.size
def ZR(r:Rr):Prop:=r.own.size<=1000∧r.da.size<=3200
theorem zr_snoc{xs:List Rr}{y:Rr}(h:∀ r∈xs,ZR r)(hy:ZR y):∀ r∈xs++[y],ZR r:=by
 intro r hr
 rcases List.mem_append.1 hr with hr|hr
 ·exact h r hr
 ·simp at hr;subst hr;exact hy
set_option maxRecDepth 100000 in
set_option maxHeartbeats 3200000 in
theorem l05Add_any{w0:World}{g n cap:Nat}{a:Option Addr}(v:Value)(xs:List Rr)(o:ByteArray)(t:Int)(d:ByteArray)(w:World)(D:Dr w0 g a n cap w)(hr:w.ownsRow w0.heap.size 33 5 v xs.length (rvVs xs))(hl:xs.length<=10000)(hx:∀ r∈xs,ZR r)(ho:o.size<=1000)(hd:d.size<=3200):
 Calls Tryz.prog 98 #[.pointer (some ⟨g,0,none⟩),v,.string o,.int .i64 t,.string d] w fun e w'=>∃ u y,e=.returned u∧ZR y∧w'.ownsRow w0.heap.size 33 5 u (xs++[y]).length (rvVs (xs++[y]))∧Dr w0 g a n cap w':=by
 obtain⟨i0,hi,hz0,hz1,hz2⟩:=info_parts Tryz.infoRRc;have HSM:=Nm.hide (fun(x:Rr) (hx:x.own.size<=1000) W=>specSameName_any x.own o W (by unfold maxLen;omega) (by unfold maxLen;omega));have HX:=Nm.hide hx;obtain⟨va,vc,rfl⟩:=own_sl hr;obtain⟨_,va',vc',ee,hcap,hmx,hc⟩:=CRow.of_owns hr;simp only [Value.slice.injEq] at ee;obtain⟨rfl,_,rfl⟩:=ee;have HR:=Nm.hide hr;have HD:=Nm.hide D;clear hx hr D;go_enter Tryz.func98,Tryz.ntmps98;go_wp2
 go_loopw [11,12] (fun tv iv wr=>∃ (k:Nat) (tt:Int),k<=xs.length∧iv=.int .i64 k∧tv=.int .i64 tt∧Below w.heap.size w wr) (fun _ i _=>xs.length-(intOf i).toNat)
 case atStart=>exact⟨0,3600,Nat.zero_le _,rfl,rfl,Below.refl _ _⟩
 case round=>
  obtain⟨k,tt,hk,rfl,rfl,hb⟩:=hrel
  by_cases hlt:k<xs.length
  ·obtain⟨x,hxk⟩:∃ x,xs[k]? =some x:=⟨_,List.getElem?_eq_getElem hlt⟩;obtain⟨b,off,rfl,hcell⟩:=hc (by omega);obtain⟨c0,c1,c2,c3,c4⟩:=rv_cells hcell hxk;have put:∀ {O:Nat} {z:Value},w.cell? ⟨b,O,none⟩=some z->wr.cell? ⟨b,O,none⟩=some z:=fun h=>(hb.cell (World.block_lt_of_cell? w _ h)).trans h
   replace c0:=put c0
   replace c1:=put c1
   replace c3:=put c3
   have hsm:=HSM.out x (HX.out x (List.mem_of_getElem? hxk)).1 wr;have i1:(0:Int)<=(k:Int):=by omega
   have i2:(k:Int)<(xs.length:Int):=by omega
   clear c2 c4 hcell hxk put hc;obtain⟨ow,ty,cl,tx,da⟩:=x;simp only at c0 c1 c3 hsm
   by_cases e1:ty=t
   ·have n1:(ty==t)=true:=by simp [e1]
    cases hsb:sameS ow o with
    |true=>
     rw [hsb] at hsm;clear hsb e1;go_wp2_with fail
     refine hsm.mono ?_;rintro e w2 ⟨rfl,b2⟩;have d3:=(b2.cell (World.block_lt_of_cell? wr _ c3)).trans c3;have hb2:=Nm.below_two hb b2;clear hsm c0 c1 c3 hb b2;go_wp2;go_roundw
     case rel=>exact⟨k+1,tx,hlt,by go_num,rfl,hb2⟩
     case measure=>simp [intOf];omega
    |false=>
     rw [hsb] at hsm;clear hsb e1;go_wp2_with fail
     refine hsm.mono ?_;rintro e w2 ⟨rfl,b2⟩;have hb2:=Nm.below_two hb b2;clear hsm c0 c1 c3 hb b2;go_wp2;go_roundw
     case rel=>exact⟨k+1,tt,hlt,by go_num,rfl,hb2⟩
     case measure=>simp [intOf];omega
   ·have n1:(ty==t)=false:=by simpa using e1
    clear e1 hsm c0 c3;go_wp2;go_roundw
    case rel=>exact⟨k+1,tt,hlt,by go_num,rfl,hb⟩
    case measure=>simp [intOf];omega
  ·have hkl:k=xs.length:=by omega
   subst hkl;have D1:=HD.out.below hb;have hr1:=own_below HR.out hb;have i3:¬(xs.length:Int)<(xs.length:Int):=by omega
   clear hc HR HD HSM HX hb hk hlt;go_wp2_with fail
   refine(l01Next_any g a n cap 12 _ D1.s (by decide)).mono ?_;rintro e w2 ⟨q,rfl,hq0,hq1,hs2,hg2⟩;have D2:=D1.step hs2 hg2;have hr2:=D1.keep hr1 hg2;clear D1 hr1 hs2 hg2 hq1
   by_cases hq:q=0
   ·subst hq;go_wp2_with fail
    refine(l01Case_any g a n cap o _ D2.s (by unfold maxLen;omega)).mono ?_;rintro e w3 ⟨s,rfl,hs,hs3,hg3⟩;have D3:=D2.step hs3 hg3;have hr3:=D2.keep hr2 hg3;have hs1:s.size<=1000:=by omega
    clear D2 hr2 hs3 hg3;have hz:=(D3).size;go_wp2_with (at_builtin;refine wpList_append_own _ rfl (.tmp 46) (.tmp 52) 30 rfl w0.heap.size 33 i0 _ 5 56 Tryz.underlying30 hi hz0 hz1 hz2 rfl (by decide) _ _ _ rfl ((hr3).alloc _) ⟨(w3).heap.size,0,none⟩ 1 1 [.string s,.int .i64 t,.int .i64 1,.int .i64 tt,.string d] rfl rfl (cell_newV w3 #[.string s,.int .i64 t,.int .i64 1,.int .i64 tt,.string d] 33) (by intro u hu;simp at hu;rcases hu with rfl|rfl|rfl|rfl|rfl<;>rfl) (by unfold maxLen;omega) (by omega) (by simp;omega) ?_)
    intro v9 w9 hown9 hgrow9 _;have D9:=((D3).alloc (.cells #[.string s,.int .i64 t,.int .i64 1,.int .i64 tt,.string d] 33)).row hgrow9 (fun k hk=>((hr3).lt k hk).1);clear hgrow9 hz;go_wp2;go_ret;refine⟨_,⟨s,t,1,tt,d⟩,rfl,⟨hs1,hd⟩,?_,D9⟩;rw [rvVs_app,List.length_append];exact hown9
   ·have n2:(q==0)=false:=by rw [beq_eq_false_iff_ne];exact hq
    have hz:=(D2).size;go_wp2_with (at_builtin;refine wpList_append_own _ rfl (.tmp 46) (.tmp 52) 30 rfl w0.heap.size 33 i0 _ 5 56 Tryz.underlying30 hi hz0 hz1 hz2 rfl (by decide) _ _ _ rfl ((hr2).alloc _) ⟨(w2).heap.size,0,none⟩ 1 1 [.string o,.int .i64 t,.int .i64 1,.int .i64 tt,.string d] rfl rfl (cell_newV w2 #[.string o,.int .i64 t,.int .i64 1,.int .i64 tt,.string d] 33) (by intro u hu;simp at hu;rcases hu with rfl|rfl|rfl|rfl|rfl<;>rfl) (by unfold maxLen;omega) (by omega) (by simp;omega) ?_)
    intro v9 w9 hown9 hgrow9 _;have D9:=((D2).alloc (.cells #[.string o,.int .i64 t,.int .i64 1,.int .i64 tt,.string d] 33)).row hgrow9 (fun k hk=>((hr2).lt k hk).1);clear hgrow9 hz;go_wp2;go_ret;refine⟨_,⟨o,t,1,tt,d⟩,rfl,⟨ho,hd⟩,?_,D9⟩;rw [rvVs_app,List.length_append];exact hown9
section
variable {w0 w:World}{g n cap:Nat}{a:Option Addr}
theorem Dr.cell(d:Dr w0 g a n cap w){b o:Nat}{x:Value}(h:w0.cell? ⟨b,o,none⟩=some x)(hne:b≠g):w.cell? ⟨b,o,none⟩=some x:=d.gr.cell h (by simp;exact hne)
theorem Dr.set(d:Dr w0 g a n cap w){b i:Nat}(h:w0.heap.size<=b)(x:Value):Dr w0 g a n cap (w.setCell ⟨b,i,none⟩ x):=
 d.row (row:=some b) ⟨rfl,rfl,rfl,by simp,fun k _ hk=>heap_setCell_other w ⟨b,i,none⟩ k x (fun e=>hk (by simp [e]))⟩ (fun k hk=>by simp at hk;omega)
end
theorem own_apart2{w:World}{B C e f s r m k:Nat}{v u:Value}{xs ys:List Value}(h:w.ownsRow B e s v m xs)(h':w.ownsRow C f r u k ys)(hne:e≠f):∀ q,v.ownBlock=some q->u.ownBlock≠some q:=by
 intro q hq hq'
 rcases h.2 with⟨rfl,_⟩|⟨q1,c1,cur1,rfl,_,g1,_⟩
 ·simp [Value.ownBlock] at hq
 ·rcases h'.2 with⟨rfl,_⟩|⟨q2,c2,cur2,rfl,_,g2,_⟩
  ·simp [Value.ownBlock] at hq'
  ·simp only [Value.ownBlock,Option.some.injEq] at hq hq';subst hq;subst hq';rw [g1] at g2;simp at g2;exact hne g2.2
theorem ZOwn.other{w w':World}{B C f r m:Nat}{v u:Value}{ps:List Zp}{ys:List Value}(h:ZOwn w B v ps)(ho:w.ownsRow C f r u m ys)(h1:f≠53)(h2:f≠9)(hg:w.grownBy w' u.ownBlock):ZOwn w' B v ps:=
 h.beside hg (fun q hq=>own_apart2 ho h.outer h1 q hq) (fun q hq p hp=>by
  obtain⟨i,hi⟩:=List.getElem?_of_mem hp
  exact own_apart2 ho (h.inner i p hi) h2 q hq)
theorem ZOwn.blk{w:World}{B c i:Nat}{v x:Value}{ps:List Zp}{cs:Array Value}{T:TypeId}(h:ZOwn w B v ps)(hk:Blk w c cs T)(h1:53≠T)(h2:9≠T):ZOwn (w.setCell ⟨c,i,none⟩ x) B v ps:=
 h.beside (b:=some c) ⟨rfl,rfl,rfl,by simp,fun k _ hk=>heap_setCell_other w ⟨c,i,none⟩ k x (fun e=>hk (by simp [e]))⟩ (fun q hq=>by cases hq;exact own_nb h.outer hk h1) (fun q hq p hp=>by
  cases hq
  obtain⟨j,hj⟩:=List.getElem?_of_mem hp
  exact own_nb (h.inner j p hj) hk h2)
theorem own_setB{w:World}{B e s m c i:Nat}{v x:Value}{xs:List Value}{cs:Array Value}{T:TypeId}(h:w.ownsRow B e s v m xs)(hk:Blk w c cs T)(hne:e≠T):(w.setCell ⟨c,i,none⟩ x).ownsRow B e s v m xs:=
 h.kept (row:=some c) ⟨rfl,rfl,rfl,by simp,fun k _ hk=>heap_setCell_other w ⟨c,i,none⟩ k x (fun e=>hk (by simp [e]))⟩ (.inr (own_nb h hk hne))
def frsR(ap b:ByteArray):List Rr:=[⟨ap,6,1,3600,soaD ap b⟩,⟨ap,2,1,3600,subS [⟨#[110,115,49]⟩] ap⟩]
def apB(ap:ByteArray):Bool:=(Nm.split ap).isSome&&isUnderS ap ap&& !starB (Nm.foldS ap)&&(Nm.split (subS [⟨#[110,115,49]⟩] ap)).isSome&&(Nm.split (subS [⟨#[97,100,109,105,110]⟩] ap)).isSome
theorem ap_ok{ap:ByteArray}(h:ap∈apNs):apB ap=true:=by
 simp only [apNs,List.mem_cons,List.not_mem_nil,or_false] at h
 rcases h with rfl|rfl|rfl|rfl<;>decide+kernel
theorem lok_bs:∀ (l:List UInt8) (cs:List UInt8) (xs:List ByteArray),LOK cs xs->LOK (cs++List.replicate l.length 98) (xs++l.map fun c=>⟨#[c]⟩)
 |[],cs,xs,h=>by simpa using h
 |c::l,cs,xs,h=>by
  have h1:=lok_bs l (cs++[98]) (xs++[⟨#[c]⟩]) (h.snoc (fun e=>absurd e (by decide)) (fun _=>rfl));simpa [List.replicate_succ] using h1
theorem cat_ones:∀ (l:List UInt8),bA (Dt.catL (l.map fun c=>(⟨#[c]⟩:ByteArray)))=⟨l.toArray⟩
 |[]=>rfl
 |c::l=>by
  rw [List.map_cons,cat_cons,cat_ones l];apply Nm.ba_ext;simp
theorem soa_cut{ap b:ByteArray}(hap:ap∈apNs)(hb:b.size=20):cutCode 6 (soaD ap b)=0:=by
 have h:=ap_ok hap;have hs:=ap_size hap;simp only [apB,Bool.and_eq_true] at h;obtain⟨⟨_,h1⟩,h2⟩:=h
 have hl:LOK (Dt.formS (6:Nat)).data.toList ([subS [⟨#[110,115,49]⟩] ap,subS [⟨#[97,100,109,105,110]⟩] ap]++b.data.toList.map fun c=>(⟨#[c]⟩:ByteArray)):=by
  have h3:=lok_bs b.data.toList [110,110] [subS [⟨#[110,115,49]⟩] ap,subS [⟨#[97,100,109,105,110]⟩] ap] ⟨⟨fun _=>h1,fun e=>absurd e (by decide)⟩,⟨fun _=>h2,fun e=>absurd e (by decide)⟩,trivial⟩;have h4:b.data.toList.length=20:=by simpa using hb
  rw [h4] at h3;exact h3
 have e:bA (Dt.catL ([subS [⟨#[110,115,49]⟩] ap,subS [⟨#[97,100,109,105,110]⟩] ap]++b.data.toList.map fun c=>(⟨#[c]⟩:ByteArray)))=soaD ap b:=by
  rw [List.cons_append,List.cons_append,List.nil_append,cat_cons,cat_cons,cat_ones,soaD,ByteArray.append_assoc]
 have h5:=code_drawn (t:=6) (by decide) (by decide) hl (by
  rw [e,soaD,ByteArray.size_append,ByteArray.size_append,sub_len,sub_len,show Nm.wsum [(⟨#[110,115,49]⟩:ByteArray)]=4 from rfl,show Nm.wsum [(⟨#[97,100,109,105,110]⟩:ByteArray)]=6 from rfl]
  omega)
 rw [e] at h5;exact h5
theorem ns_cut{ap:ByteArray}(hap:ap∈apNs):cutCode 2 (subS [⟨#[110,115,49]⟩] ap)=0:=by
 have h:=ap_ok hap;have hs:=ap_size hap;simp only [apB,Bool.and_eq_true] at h
 have h5:=code_drawn (t:=2) (xs:=[subS [⟨#[110,115,49]⟩] ap]) (by decide) (by decide) ⟨⟨fun _=>h.1.2,fun e=>absurd e (by decide)⟩,trivial⟩ (by
  rw [cat_cons,show bA (Dt.catL [])=⟨#[]⟩ from rfl,ByteArray.size_append,sub_len,show Nm.wsum [(⟨#[110,115,49]⟩:ByteArray)]=4 from rfl,show(⟨#[]⟩:ByteArray).size=0 from rfl]
  omega)
 have e:bA (Dt.catL [subS [⟨#[110,115,49]⟩] ap])=subS [⟨#[110,115,49]⟩] ap:=by
  rw [cat_cons];apply Nm.ba_ext;simp [bA,Dt.catL]
 rw [e] at h5;exact h5
theorem two_rules{a b:Rr}{fo d e:ByteArray}(ha:a.ty=6)(hb:b.ty=2)(hs:starB fo=false):rulesI [⟨a,fo,d,false⟩,⟨b,fo,e,false⟩] fo=(0,0):=by
 have f1:firstI (fun i x=> !x.out&&decide (x.r.ty=6)&&(decide (x.fo≠fo)||hasI ([(⟨a,fo,d,false⟩:It),⟨b,fo,e,false⟩].take i) fo 6)) [⟨a,fo,d,false⟩,⟨b,fo,e,false⟩]=none:=by
  refine firstI_no fun i hi y hy=>?_
  match i,hy with
  |0,hy=>simp at hy;subst hy;simp [hasI]
  |1,hy=>simp at hy;subst hy;simp [hb]
  |i+2,hy=>simp at hy
 have g:∀ p:Nat->It->Bool,(p 0 ⟨a,fo,d,false⟩=false)->(p 1 ⟨b,fo,e,false⟩=false)->firstI p [⟨a,fo,d,false⟩,⟨b,fo,e,false⟩]=none:=by
  intro p h0 h1;refine firstI_no fun i hi y hy=>?_
  match i,hy with
  |0,hy=>simp at hy;subst hy;exact h0
  |1,hy=>simp at hy;subst hy;exact h1
  |i+2,hy=>simp at hy
 have h6:hasI [(⟨a,fo,d,false⟩:It),⟨b,fo,e,false⟩] fo 6=true:=by simp [hasI,ha]
 have h2:hasI [(⟨a,fo,d,false⟩:It),⟨b,fo,e,false⟩] fo 2=true:=by simp [hasI,ha,hb]
 rw [rulesI,f1];simp only [h6,h2,Bool.not_true,Bool.false_eq_true,if_false];rw [g _ (by simp [hs]) (by simp [hs]),g _ (by simp [ha]) (by simp [hb]),g _ (by simp [hasI,ha,hb]) (by simp [hasI,ha,hb]),g _ (by simp [ha,hb]) (by simp [ha,hb])]
theorem good_ok{ap b:ByteArray}(hap:ap∈apNs)(hb:b.size=20):bldE (frsR ap b) ap=(0,0):=by
 have h:=ap_ok hap;simp only [apB,Bool.and_eq_true,Bool.not_eq_true'] at h;obtain⟨⟨⟨⟨s1,s2⟩,s3⟩,s4⟩,s5⟩:=h;have k6:=soa_cut hap hb;have k2:=ns_cut hap
 have hone:badOne ap (frsR ap b) 0=none:=by
  rw [frsR,badOne,if_pos (by simp [oneC,s1,s2,k6,metaB]),badOne,if_pos (by simp [oneC,s1,s2,k2,metaB]),badOne]
 have hbad:badI ((frsR ap b).map itemOf)= -1:=by
  rw [badI,firstI_no];intro i hi y hy
  match i,hy with
  |0,hy=>simp [mixI]
  |1,hy=>
   simp [frsR] at hy
   subst hy
   simp [frsR,mixI,kinB,itemOf]
  |i+2,hy=>simp [frsR] at hy
 have hits:itsOf (frsR ap b)=[⟨⟨ap,6,1,3600,soaD ap b⟩,Nm.foldS ap,foldR 6 (soaD ap b),false⟩,⟨⟨ap,2,1,3600,subS [⟨#[110,115,49]⟩] ap⟩,Nm.foldS ap,foldR 2 (subS [⟨#[110,115,49]⟩] ap),false⟩]:=by
  rw [itsOf,twI];simp [frsR,outI,itemOf,dupI,kinB]
 rw [bldE,if_neg (by rw [s1];decide),if_neg (by simp [frsR]),hone];simp only [hbad];rw [if_neg (by decide),hits,two_rules rfl rfl s3];rfl
theorem bad_nz{apex:ByteArray}:∀ (l:List Rr) (i:Nat) (c:Int) (j:Nat),badOne apex l i=some (c,j)->c≠0
 |[],i,c,j,h=>by simp [badOne] at h
 |r::l,i,c,j,h=>by
  rw [badOne] at h
  split at h
  ·exact bad_nz l (i+1) c j h
  ·rename_i hn;simp at h;rw [<- h.1];exact hn
theorem bld_pos{list:List Rr}{ap:ByteArray}(h:(bldE list ap).1=0):0<(bldZ list).length:=by
 have h6:hasI (itsOf list) (Nm.foldS ap) 6=true:=by
  rw [bldE] at h
  split at h
  ·exact absurd h (by simp)
  ·split at h
   ·exact absurd h (by simp)
   ·split at h
    ·rename_i c i hc;exact absurd h (bad_nz _ _ c i hc)
    ·split at h
     ·exact absurd h (by simp)
     ·split at h
      ·rename_i hr;exact absurd h hr
      ·rename_i hr;have hr2:(rulesI (itsOf list) (Nm.foldS ap)).1=0:=Classical.byContradiction hr;rw [rulesI] at hr2
       split at hr2
       ·exact absurd hr2 (by simp)
       ·cases e:hasI (itsOf list) (Nm.foldS ap) 6 with
        |true=>rfl
        |false=>
         rw [e] at hr2;exact absurd hr2 (by simp)
 rw [hasI,List.any_eq_true] at h6;obtain⟨x,hx,hp⟩:=h6;simp only [Bool.and_eq_true,Bool.not_eq_true'] at hp;have hm:x∈restOf list:=List.mem_filter.2 ⟨hx,by simp [hp.1.1]⟩
 have hs:0<(srtOf list).length:=by
  rw [srtOf,sortI,sortF_len];exact List.length_pos_of_mem hm
 obtain⟨qs,s,e⟩:=grpK_last (l:=itsOf list) (srt:=srtOf list) _ hs (Nat.le_refl _);rw [bldZ,e];simp
theorem one_cat(c:UInt8)(B:ByteArray)(h:B.size<=256):1<=((⟨#[c]⟩:ByteArray)++B).size∧((⟨#[c]⟩:ByteArray)++B).size<=257:=by
 rw [ByteArray.size_append];have:(⟨#[c]⟩:ByteArray).size=1:=rfl;omega
theorem ext_256(B:ByteArray)(k:Nat)(h:B.size<=256):(B.extract 0 k).size<=256:=by
 rw [ByteArray.size_extract];omega
set_option maxRecDepth 100000 in
set_option maxHeartbeats 1600000 in
theorem l02Short_any(g:Nat)(a:Option Addr)(n cap:Nat)(w:World)(h:Src w g a n cap):
 Calls Tryz.prog 173 #[.pointer (some ⟨g,0,none⟩),.int .i64 255] w fun e w'=>∃ s:ByteArray,e=.returned (.string s)∧1<=s.size∧s.size<=257∧Src w' g a n cap∧w.grownBy w' (some g):=by
 have hcv:=fun(x:Int) (W:World)=>conv_one x W
 have hs1:∀ c:UInt8,(ByteArray.mk #[c]).size=1:=fun _=>rfl
 go_enter Tryz.func173,Tryz.ntmps173;go_wp2_with fail
 refine(l01Next_any g a n cap 9 _ h (by decide)).mono ?_;rintro e w1 ⟨r1,rfl,h10,h11,hs1',hg1⟩;have h12:=h11 (by decide);go_wp2_with fail
 refine(l01Next_any g a n cap 25 _ hs1' (by decide)).mono ?_;rintro e w2 ⟨r2,rfl,h20,h21,hs2',hg2⟩;have hgg2:=grown_step hg1 hg2;clear h h11 h21
 by_cases h2:r2=0
 ·subst h2;go_wp2_with fail
  refine(l01Next_any g a n cap 256 _ hs2' (by decide)).mono ?_;rintro e w3 ⟨r,rfl,hr0,hr1,hsN,hg3⟩;have hr2:=hr1 (by decide);have hgN:=grown_step hgg2 hg3;clear hr1
  go_wp2_with first
   |(
    go_at_call 99
    refine(l01Bytes_any g a n cap r _ hsN (by omega) (by omega)).mono ?_;rintro e w4 ⟨T0,rfl,hT0,hs4,hg4⟩
    have hgg4:=grown_step hgN hg4)
   |(
    go_at_call 26
    refine(l01Next_any g a n cap 2 _ hs4 (by decide)).mono ?_;rintro e w5 ⟨r3,rfl,h30,h31,hsE,hg5⟩
    have hgE:=grown_step hgg4 hg5)
  ·go_ret;refine⟨_,rfl,(one_cat _ _ (ext_256 _ _ (by decide))).1,(one_cat _ _ (ext_256 _ _ (by decide))).2,src_below hsE ((Below.refl _ _).alloc (Nat.le_refl _) _),grown_alloc hgE _⟩
  ·go_ret;refine⟨_,rfl,(one_cat _ _ (by omega)).1,(one_cat _ _ (by omega)).2,src_below hsE ((Below.refl _ _).alloc (Nat.le_refl _) _),grown_alloc hgE _⟩
 ·have h2':(r2==0)=false:=by rw [beq_eq_false_iff_ne];exact h2
  have hsN:=hs2';have hgN:=hgg2;have hr0:=h10;have hr2:r1<256:=by omega
  go_wp2_with first
   |(
    go_at_call 99
    refine(l01Bytes_any g a n cap r1 _ hsN (by omega) (by omega)).mono ?_;rintro e w4 ⟨T0,rfl,hT0,hs4,hg4⟩
    have hgg4:=grown_step hgN hg4)
   |(
    go_at_call 26
    refine(l01Next_any g a n cap 2 _ hs4 (by decide)).mono ?_;rintro e w5 ⟨r3,rfl,h30,h31,hsE,hg5⟩
    have hgE:=grown_step hgg4 hg5)
  ·go_ret;refine⟨_,rfl,(one_cat _ _ (ext_256 _ _ (by decide))).1,(one_cat _ _ (ext_256 _ _ (by decide))).2,src_below hsE ((Below.refl _ _).alloc (Nat.le_refl _) _),grown_alloc hgE _⟩
  ·go_ret;refine⟨_,rfl,(one_cat _ _ (by omega)).1,(one_cat _ _ (by omega)).2,src_below hsE ((Below.refl _ _).alloc (Nat.le_refl _) _),grown_alloc hgE _⟩
def zTs:List Nat:=[16,13,33,35,257,99]
def letZ(c:UInt8):Nat:=if c=110 then 1000 else if c=115 then 771 else 300
def wtZ(cs:List UInt8):Nat:=(cs.map letZ).sum
theorem wtZ_snoc(cs:List UInt8)(c:UInt8):wtZ (cs++[c])=wtZ cs+letZ c:=by simp [wtZ]
theorem wtZ_take(cs:List UInt8)(k:Nat):wtZ (cs.take k)<=wtZ cs:=by
 have e:wtZ cs=wtZ (cs.take k)+wtZ (cs.drop k):=by
  simp only [wtZ];rw [<- List.sum_append,<- List.map_append,List.take_append_drop]
 omega
theorem formZ{t:Nat}(h:t∈zTs):wtZ (Dt.formS t).data.toList<=3100∧∀ c∈(Dt.formS t).data.toList,c≠109:=by
 simp only [zTs,List.mem_cons,List.not_mem_nil,or_false] at h
 rcases h with rfl|rfl|rfl|rfl|rfl|rfl<;>decide
set_option maxRecDepth 100000 in
set_option maxHeartbeats 3200000 in
theorem l02DataZ_any(t:Nat)(ht:t∈zTs)(g:Nat)(a:Option Addr)(n cap:Nat)(w:World)(h:Src w g a n cap):
 Calls Tryz.prog 141 #[.pointer (some ⟨g,0,none⟩),.int .i64 (t:Int)] w fun e w'=>∃ d:ByteArray,e=.returned (.string d)∧d.size<=3100∧Src w' g a n cap∧w.grownBy w' (some g):=by
 have hform:=l02Form_any t;obtain⟨hf1,hf2⟩:=form_ok t;obtain⟨hwt,hno⟩:=formZ ht;generalize Dt.formS t=f at*;go_enter Tryz.func141,Tryz.ntmps141;go_wp2_with (go_at_call 62;refine(hform _).mono ?_;rintro e wx ⟨rfl,hwx⟩;obtain rfl:=hwx.symm;clear hwx)
 go_loopw [6,7] (fun o i wr=>∃ (k:Nat) (D:ByteArray),k<=f.size∧i=.int .i64 k∧o=.string D∧D.size<=wtZ (f.data.toList.take k)∧Src wr g a n cap∧w.grownBy wr (some g)) (fun _ i _=>f.size-(intOf i).toNat)
 case atStart=>exact⟨0,⟨#[]⟩,Nat.zero_le _,rfl,rfl,Nat.zero_le _,h,World.grownBy.refl _ _⟩
 case round=>
  obtain⟨k,D,hk,rfl,rfl,hsz,hsrc,hgr⟩:=hrel;clear h hform;have hwk:wtZ (f.data.toList.take k)<=3100:=Nat.le_trans (wtZ_take _ k) hwt
  by_cases hlt:k<f.size
  ·have hlt':(k:Int)<(f.size:Int):=by omega
   have HT:Hid (f.data.toList.take (k+1)=f.data.toList.take k++[f[k]]):=by
    show _=_
    rw [List.take_add_one,Nm.get_data hlt];rfl
   have hnk:f[k]≠109:=hno _ (by
    have:=Nm.get_data hlt
    exact List.mem_of_getElem? this)
   clear hno
   rcases hf2 k hlt with hc|hc|hc|hc|hc|hc|hc
   ·skip
    have hv:f[k].toNat=110:=by rw [hc];rfl
    have q0:((f[k].toNat:Int)==110)=true:=by rw [beq_iff_eq];omega
    have hw:letZ f[k]=1000:=by rw [hc];rfl
    clear hf2 hnk
    go_wp2_with (
     go_at_call 53
     refine(l01Name_any g a n cap _ hsrc).mono ?_;rintro e w3 ⟨x,rfl,hx1,hx2,hsE,hg3⟩;have hgE:=grown_step hgr hg3
     have hfit:D.size+x.size<=9223372036854775807:=by omega)
    go_roundw
    case rel=>exact⟨k+1,D++x,by omega,by go_num,rfl,by rw [HT.out,wtZ_snoc,ByteArray.size_append];omega,hsE,hgE⟩
    case measure=>simp [intOf];omega
   ·skip
    have hv:f[k].toNat=98:=by rw [hc];rfl
    have q0:((f[k].toNat:Int)==110)=false:=by rw [beq_eq_false_iff_ne];omega
    have q1:((f[k].toNat:Int)==98)=true:=by rw [beq_iff_eq];omega
    have hw:letZ f[k]=300:=by rw [hc];rfl
    clear hf2 hnk;go_wp2_with fail
    refine(l01Next_any g a n cap 3 _ hsrc (by decide)).mono ?_;rintro e w3 ⟨r,rfl,hr0,hr1,hs3,hg3⟩;have hgg3:=grown_step hgr hg3
    by_cases hz:r=0
    ·subst hz
     go_wp2_with (
      go_at_call 99
      refine(l01Bytes_any g a n cap 1 _ hs3 (by decide) (by decide)).mono ?_;rintro e w4 ⟨x,rfl,hx,hsE,hg4⟩;have hgE:=grown_step hgg3 hg4
      have hfit:D.size+x.size<=9223372036854775807:=by omega)
     go_roundw
     case rel=>exact⟨k+1,D++x,by omega,by go_num,rfl,by rw [HT.out,wtZ_snoc,ByteArray.size_append];omega,hsE,hgE⟩
     case measure=>simp [intOf];omega
    ·have hz':(r==0)=false:=by rw [beq_eq_false_iff_ne];exact hz
     have hsE:=hs3;have hgE:=hgg3;have hx1:(⟨#[0]⟩:ByteArray).size=1:=rfl;have hfit:D.size+1<=9223372036854775807:=by omega
     go_wp2;go_roundw
     case rel=>exact⟨k+1,D++(⟨#[0]⟩:ByteArray),by omega,by go_num,rfl,by rw [HT.out,wtZ_snoc,ByteArray.size_append];omega,hsE,hgE⟩
     case measure=>simp [intOf];omega
   ·skip
    have hv:f[k].toNat=116:=by rw [hc];rfl
    have q0:((f[k].toNat:Int)==110)=false:=by rw [beq_eq_false_iff_ne];omega
    have q1:((f[k].toNat:Int)==98)=false:=by rw [beq_eq_false_iff_ne];omega
    have q2:((f[k].toNat:Int)==116)=true:=by rw [beq_iff_eq];omega
    have hw:letZ f[k]=300:=by rw [hc];rfl
    clear hf2 hnk
    go_wp2_with (
     go_at_call 173
     refine(l02Short_any g a n cap _ hsrc).mono ?_;rintro e w3 ⟨x,rfl,hx1,hx2,hsE,hg3⟩;have hgE:=grown_step hgr hg3
     have hfit:D.size+x.size<=9223372036854775807:=by omega)
    go_roundw
    case rel=>exact⟨k+1,D++x,by omega,by go_num,rfl,by rw [HT.out,wtZ_snoc,ByteArray.size_append];omega,hsE,hgE⟩
    case measure=>simp [intOf];omega
   ·skip
    have hv:f[k].toNat=115:=by rw [hc];rfl
    have q0:((f[k].toNat:Int)==110)=false:=by rw [beq_eq_false_iff_ne];omega
    have q1:((f[k].toNat:Int)==98)=false:=by rw [beq_eq_false_iff_ne];omega
    have q2:((f[k].toNat:Int)==116)=false:=by rw [beq_eq_false_iff_ne];omega
    have q3:((f[k].toNat:Int)==115)=true:=by rw [beq_iff_eq];omega
    have hw:letZ f[k]=771:=by rw [hc];rfl
    clear hf2 hnk;go_wp2_with fail
    refine(l01Next_any g a n cap 3 _ hsrc (by decide)).mono ?_;rintro e w3 ⟨r,rfl,hr0,hr1,hs3,hg3⟩;have hr2:=hr1 (by decide);obtain⟨r,rfl⟩:=Int.eq_ofNat_of_zero_le hr0;have hgg3:=grown_step hgr hg3;clear hr1 hg3;go_wp2
    go_loopw [6,9] (fun o i wr=>∃ (j:Nat) (y:ByteArray),j<=1+r∧i=.int .i64 j∧o=.string (D++y)∧y.size<=257*j∧Src wr g a n cap∧w.grownBy wr (some g)) (fun _ i _=>1+r-(intOf i).toNat)
    case atStart=>exact⟨0,ByteArray.empty,by omega,rfl,by simp,by decide,hs3,hgg3⟩
    case round=>
     obtain⟨j,y,hj,rfl,rfl,hy,hs5,hg5⟩:=hrel;clear hs3 hgg3
     by_cases hlj:j<1+r
     ·have hlj':(j:Int)<1+(r:Int):=by omega
      go_wp2_with (
       go_at_call 173
       refine(l02Short_any g a n cap _ hs5).mono ?_;rintro e w6 ⟨x,rfl,hx1,hx2,hs6,hg6⟩;have hg56:=grown_step hg5 hg6
       have hfit:(D++y).size+x.size<=9223372036854775807:=by rw [ByteArray.size_append];omega)
      go_roundw
      case rel=>exact⟨j+1,y++x,by omega,by go_num,by rw [ByteArray.append_assoc],by rw [ByteArray.size_append];omega,hs6,hg56⟩
      case measure=>simp [intOf];omega
     ·obtain rfl:j=1+r:=by omega
      have hsE:=hs5;have hgE:=hg5;go_wp2;go_roundw
      case rel=>exact⟨k+1,D++y,by omega,by go_num,rfl,by rw [HT.out,wtZ_snoc,ByteArray.size_append];omega,hsE,hgE⟩
      case measure=>simp [intOf];omega
   ·skip
    have hv:f[k].toNat=99:=by rw [hc];rfl
    have q0:((f[k].toNat:Int)==110)=false:=by rw [beq_eq_false_iff_ne];omega
    have q1:((f[k].toNat:Int)==98)=false:=by rw [beq_eq_false_iff_ne];omega
    have q2:((f[k].toNat:Int)==116)=false:=by rw [beq_eq_false_iff_ne];omega
    have q3:((f[k].toNat:Int)==115)=false:=by rw [beq_eq_false_iff_ne];omega
    have q4:((f[k].toNat:Int)==99)=true:=by rw [beq_iff_eq];omega
    have hw:letZ f[k]=300:=by rw [hc];rfl
    clear hf2 hnk
    go_wp2_with (
     go_at_call 173
     refine(l02Short_any g a n cap _ hsrc).mono ?_;rintro e w3 ⟨x,rfl,hx1,hx2,hsE,hg3⟩;have hgE:=grown_step hgr hg3;have hx1':(1:Int)<=(x.size:Int):=by omega
     have hxe:(x.extract 1 x.size).size=x.size-1:=by simp
     have hd5:(⟨#[5]⟩:ByteArray).size=1:=rfl
     have hdi:(⟨#[105,115,115,117,101]⟩:ByteArray).size=5:=rfl)
    go_roundw
    case rel=>exact⟨k+1,D++(⟨#[5]⟩++(⟨#[105,115,115,117,101]⟩++x.extract 1 x.size)),by omega,by go_num,by rw [ByteArray.append_assoc,ByteArray.append_assoc],by rw [HT.out,wtZ_snoc,ByteArray.size_append,ByteArray.size_append,ByteArray.size_append];omega,hsE,hgE⟩
    case measure=>simp [intOf];omega
   ·exact absurd hc hnk
   ·skip
    have hv:f[k].toNat=42:=by rw [hc];rfl
    have q0:((f[k].toNat:Int)==110)=false:=by rw [beq_eq_false_iff_ne];omega
    have q1:((f[k].toNat:Int)==98)=false:=by rw [beq_eq_false_iff_ne];omega
    have q2:((f[k].toNat:Int)==116)=false:=by rw [beq_eq_false_iff_ne];omega
    have q3:((f[k].toNat:Int)==115)=false:=by rw [beq_eq_false_iff_ne];omega
    have q4:((f[k].toNat:Int)==99)=false:=by rw [beq_eq_false_iff_ne];omega
    have q5:((f[k].toNat:Int)==109)=false:=by rw [beq_eq_false_iff_ne];omega
    have q6:((f[k].toNat:Int)==42)=true:=by rw [beq_iff_eq];omega
    have hw:letZ f[k]=300:=by rw [hc];rfl
    clear hf2 hnk
    go_wp2_with first
     |(
      go_at_call 26
      refine(l01Next_any g a n cap 12 _ hsrc (by decide)).mono ?_;rintro e w3 ⟨r,rfl,hr0,hr1,hs3,hg3⟩;have hr2:=hr1 (by decide)
      have hgg3:=grown_step hgr hg3)
     |(
      go_at_call 99
      refine(l01Bytes_any g a n cap r _ hs3 (by omega) (by omega)).mono ?_;rintro e w4 ⟨x,rfl,hx,hsE,hg4⟩;have hgE:=grown_step hgg3 hg4
      have hfit:D.size+x.size<=9223372036854775807:=by omega)
    go_roundw
    case rel=>exact⟨k+1,D++x,by omega,by go_num,rfl,by rw [HT.out,wtZ_snoc,ByteArray.size_append];omega,hsE,hgE⟩
    case measure=>simp [intOf];omega
  ·obtain rfl:k=f.size:=by omega
   have hall:f.data.toList.take f.size=f.data.toList:=List.take_of_length_le (by simp);rw [hall] at hsz;have i1:(f.size:Int)<=(f.size:Int):=by omega
   go_wp2;go_ret;exact⟨_,rfl,by omega,hsrc,hgr⟩
end Go.Proofs.YtfmolgdfjklmpaaGreat
