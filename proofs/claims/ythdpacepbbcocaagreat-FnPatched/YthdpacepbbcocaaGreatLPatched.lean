import Derived.Test.YthdpacepbbcocaaGreatJAdT
set_option linter.unusedVariables false
namespace Go.Proofs.YthdpacepbbcocaaGreat
open Go.RowKit
theorem aIz{w:World}{a:Option Addr}{cap:Nat}{l:List UInt8}(h:aSr w (.slice a l.length cap) l):KM w a l.length∧l.length<=maxLen:=by
 obtain⟨_,a',cap',e,gY,kK,hc⟩:=h;simp only [iG] at e;obtain⟨rfl,_,rfl⟩:=e;refine⟨?_,by omega⟩
 rcases Nat.eq_zero_or_pos l.length with hz|hp
 ·exact .inl hz
 obtain⟨b,off,rfl,aL⟩:=hc hp;refine .inr ⟨b,off,rfl,fun i hi=>⟨(l[i].toNat:Int),aL i _ (by simp [Nm.QL,hi]),by omega,?_⟩⟩;have:=l[i].toNat_lt;omega
theorem fnPatched_walk(a0:Option Addr)(aSp aLx:Nat)(z0:List Int)(w:World)(w0:aOp w a0 aSp aLx z0):
 Calls Tryz.prog 3 #[.slice a0 aSp aLx] w fun e w'=>e=.returned (.bool true)∧Below w.heap.size w w':=by
 obtain⟨l,hlen,eF⟩:=aSq w0;subst hlen;obtain⟨h1,h2⟩:=aIz eF;exact Cb a0 l.length aLx w h2 (fun hn=>OB a0 l.length aLx w h1 hn)
