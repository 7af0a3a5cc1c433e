import Derived.Test.YtmdinnjimioffaaGreatJTrM
import Derived.Test.YtmdinnjimioffaaGreatBzD
import Derived.Test.YtmdinnjimioffaaGreatJBzFWild
import Derived.Test.YtmdinnjimioffaaGreatBzV
namespace Go.Proofs.YtmdinnjimioffaaGreat
open Go.RowKit
set_option linter.unusedVariables false
def eqSz(a b:Sz):Bool:=decide (a.own=b.own)&&decide (a.ty=b.ty)&&decide (a.tt=b.tt)&&decide (a.da=b.da)
theorem eqSz_iff{a b:Sz}:eqSz a b=true↔a=b:=by
 obtain⟨a1,a2,a3,a4⟩:=a;obtain⟨b1,b2,b3,b4⟩:=b;simp only [eqSz,Bool.and_eq_true,decide_eq_true_eq,Sz.mk.injEq];constructor
 ·rintro⟨⟨⟨h1,h2⟩,h3⟩,h4⟩;exact⟨h1,h2,h3,h4⟩
 ·rintro⟨h1,h2,h3,h4⟩;exact⟨⟨⟨h1,h2⟩,h3⟩,h4⟩
def eqZs:List Sz->List Sz->Bool
 |[],[]=>true
 |a::xs,b::ys=>eqSz a b&&eqZs xs ys
 |_,_=>false
theorem eqZs_iff:∀ {xs ys:List Sz},eqZs xs ys=true↔xs=ys
 |[],[]=>by simp [eqZs]
 |[],b::ys=>by simp [eqZs]
 |a::xs,[]=>by simp [eqZs]
 |a::xs,b::ys=>by
  rw [eqZs,Bool.and_eq_true,eqSz_iff,eqZs_iff];simp
theorem eqZs_all{xs ys:List Sz}(hl:xs.length=ys.length)(h:∀ (j:Nat) (a b:Sz),xs[j]? =some a->ys[j]? =some b->a=b):eqZs xs ys=true:=by
 rw [eqZs_iff];apply List.ext_getElem?;intro j
 by_cases hj:j<xs.length
 ·have h1:xs[j]? =some xs[j]:=List.getElem?_eq_getElem hj;have h2:ys[j]? =some ys[j]:=List.getElem?_eq_getElem (by omega);rw [h1,h2,h j _ _ h1 h2]
 ·rw [List.getElem?_eq_none (by omega),List.getElem?_eq_none (by omega)]
theorem eqZs_not{xs ys:List Sz}{j:Nat}{a b:Sz}(h1:xs[j]? =some a)(h2:ys[j]? =some b)(h:eqSz a b=false):eqZs xs ys=false:=by
 cases hq:eqZs xs ys with
 |false=>rfl
 |true=>
  rw [eqZs_iff] at hq;subst hq;rw [h1] at h2;obtain rfl:=Option.some.inj h2;rw [eqSz_iff.2 rfl] at h;cases h
theorem eqZs_len{xs ys:List Sz}(h:xs.length≠ys.length):eqZs xs ys=false:=by
 cases hq:eqZs xs ys with
 |false=>rfl
 |true=>rw [eqZs_iff] at hq;subst hq;exact absurd rfl h
def zOK(ps:List Zp)(o:ByteArray):Bool:=decide ((bldE (zoneRecs ps) o).1=0)&&eqZs (bldZ (zoneRecs ps)) (ps.map (·.1))
theorem recs_fit{ps:List Zp}{N:Nat}(h:∀ p∈ps,p.1.own.size<=N∧∀ x∈p.1.da,x.size<=N):∀ r∈zoneRecs ps,r.own.size<=N∧r.da.size<=N:=by
 intro r hr;unfold zoneRecs at hr
 split at hr
 ·cases hr
 ·simp only [recsAll,recsOf,List.mem_flatMap,List.mem_map] at hr;obtain⟨p,hp,d,hd,rfl⟩:=hr;exact⟨(h p hp).1,(h p hp).2 d hd⟩
end Go.Proofs.YtmdinnjimioffaaGreat
