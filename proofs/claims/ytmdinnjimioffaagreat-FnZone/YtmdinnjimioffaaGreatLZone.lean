import Derived.Test.YtmdinnjimioffaaGreatZqW
import Derived.Test.YtmdinnjimioffaaGreatDwV
import Derived.Test.YtmdinnjimioffaaGreatJTrG
namespace Go.Proofs.YtmdinnjimioffaaGreat
open Go.RowKit
set_option linter.unusedVariables false
theorem code_byZ{w:World}{a:Option Addr}{cap:Nat}{l:List UInt8}(h:BySl w (.slice a l.length cap) l):CodeIn w a l.length∧l.length<=maxLen:=by
 obtain⟨_,a',cap',e,hcap,hmx,hc⟩:=h;simp only [Value.slice.injEq] at e;obtain⟨rfl,_,rfl⟩:=e;refine⟨?_,by omega⟩
 rcases Nat.eq_zero_or_pos l.length with hz|hp
 ·exact .inl hz
 ·obtain⟨b,off,rfl,hcell⟩:=hc hp;refine .inr ⟨b,off,rfl,fun i hi=>⟨(l[i].toNat:Int),hcell i _ (by simp [Nm.bys,hi]),by omega,?_⟩⟩;have:=l[i].toNat_lt;omega
theorem fnZone_walk(a0:Option Addr)(len0 cap0:Nat)(z0:List Int)(w:World)(w0:RowB w a0 len0 cap0 z0):
 Calls Tryz.prog 3 #[.slice a0 len0 cap0] w fun e w'=>e=.returned (.bool true)∧Below w.heap.size w w':=by
 obtain⟨l,hlen,hrow⟩:=rowB w0;subst hlen;obtain⟨h1,h2⟩:=code_byZ hrow;exact fnZone_any a0 l.length cap0 w h2 (fun hn=>drawBuildZone_any a0 l.length cap0 w h1 hn)
end Go.Proofs.YtmdinnjimioffaaGreat
