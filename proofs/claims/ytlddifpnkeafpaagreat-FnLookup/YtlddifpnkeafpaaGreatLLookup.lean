import Derived.Test.YtlddifpnkeafpaaGreatJLkM
import Derived.Test.YtlddifpnkeafpaaGreatJDwF
set_option linter.unusedVariables false
namespace Go.Proofs.YtlddifpnkeafpaaGreat
open Go.RowKit
theorem aHd{w:World}{a:Option Addr}{cap:Nat}{l:List UInt8}(h:aQk w (.slice a l.length cap) l):rH w a l.length∧l.length<=maxLen:=by
 obtain⟨_,a',cap',e,gT,kV,hc⟩:=h;simp only [gK] at e;obtain⟨rfl,_,rfl⟩:=e;refine⟨?_,by omega⟩
 rcases Nat.eq_zero_or_pos l.length with hz|hp
 ·exact .inl hz
 obtain⟨b,off,rfl,aH⟩:=hc hp;refine .inr ⟨b,off,rfl,fun i hi=>⟨(l[i].toNat:Int),aH i _ (by simp [Nm.LF,hi]),by omega,?_⟩⟩;have:=l[i].toNat_lt;omega
theorem fnLookup_walk(a0:Option Addr)(aQi aJ3:Nat)(z0:List Int)(w:World)(w0:aM1 w a0 aQi aJ3 z0):
 Calls Tryz.prog 3 #[.slice a0 aQi aJ3] w fun e w'=>e=.returned (.bool true)∧Below w.heap.size w w':=by
 obtain⟨l,hlen,dI⟩:=aQj w0;subst hlen;obtain⟨h1,h2⟩:=aHd dI;exact Mm a0 l.length aJ3 w h2 (fun hn=>UJ a0 l.length aJ3 w h1 hn)
