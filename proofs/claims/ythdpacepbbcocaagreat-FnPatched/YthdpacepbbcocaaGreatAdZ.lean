import Derived.Test.YthdpacepbbcocaaGreatJPzM
import Derived.Test.YthdpacepbbcocaaGreatDzS
set_option linter.unusedVariables false
namespace Go.Proofs.YthdpacepbbcocaaGreat
open Go.RowKit
theorem Rt:∀ ps:List Zp,jD ps=qQ (ps.map (·.1))
 |[]=>rfl
 |p::ps=>by
  have:=Rt ps;simp only [jD,qQ,List.map_cons,List.sum_cons] at this ⊢;omega
theorem YU{ps:List Zp}{N:Nat}(h:ZB ps N):(aD ps).length<=N:=by
 have h1:=h.cnt;unfold aD;split
 ·exact dO _
 rw [uK,Rt];exact h1
theorem Ir{ps:List Zp}{N:Nat}(h:ZB ps N):∀ r∈aD ps,ZR r:=by
 intro r hr;unfold aD at hr
 split at hr
 ·cases hr
 simp only [dI,List.mem_flatMap,fA,List.mem_map] at hr;obtain⟨p,hp,d,hd,rfl⟩:=hr;exact⟨(h.one p hp).1,(h.one p hp).2 d hd⟩
theorem ZB.fit{ps:List Zp}{N:Nat}(h:ZB ps N)(hN:N<=240):aIo ps:=fun p hp=>
 ⟨by have:=(h.one p hp).1;omega,by have:=IK hp;have:=h.cnt;omega,fun x hx=>by have:=(h.one p hp).2 x hx;omega⟩
theorem ZB.Bu{ps:List Zp}{N:Nat}(h:ZB ps N)(hN:N<=240):ps.length<=1048576:=by have:=h.len;omega
theorem ZB.up{ps:List Zp}{N M:Nat}(h:ZB ps N)(hM:N<=M):ZB ps M:=⟨h.one,iL h.len hM,iL h.cnt hM⟩
theorem aLj{L:List Rr}{o:ByteArray}{ps:List Zp}{N:Nat}(h:(eH L o).1=0)(hp:ps.map (·.1)=mW L)(hz:∀ r∈L,ZR r)(hl:L.length<=N):ZB ps N∧pI ps o=true:=
 ⟨aH8 hz hl hp,(YR h hp).2⟩
theorem aLk{K:Rr->Bool}{xs:List Rr}{j:Nat}{x:Rr}(h:xs[j]? =some x)(hk:K x=true):(xs.take (j+1)).filter K=(xs.take j).filter K++[x]:=by
 rw [List.take_add_one,h,List.filter_append];simp [hk]
theorem aN7{K:Rr->Bool}{xs:List Rr}{j:Nat}{x:Rr}(h:xs[j]? =some x)(hk:K x=false):(xs.take (j+1)).filter K=(xs.take j).filter K:=by
 rw [List.take_add_one,h,List.filter_append];simp [hk]
theorem aLl{K:Rr->Bool}(xs:List Rr)(j:Nat):((xs.take j).filter K).length<=j:=by
 have h1:=List.length_filter_le K (xs.take j);have h2:=List.length_take_le j xs;omega
def IZ(B:Nat)(v:Value)(ps:List Zp)(w':World)(v':Value)(ps':List Zp):Prop:=(v'=v∧ps'=ps)∨dH w' B v' ps'
section
variable {B B2:Nat}{v v1 v2:Value}{ps ps1 ps2:List Zp}{w w1:World}
theorem IZ.refl:IZ B v ps w v ps:=.inl ⟨rfl,rfl⟩
theorem IZ.below(h:IZ B v ps w v1 ps1)(hb:Below w.heap.size w w1):IZ B v ps w1 v1 ps1:=h.imp id (fun h=>h.below hb)
theorem IZ.base(h:IZ B v ps w v1 ps1)(hB:B2<=B):IZ B2 v ps w v1 ps1:=h.imp id (fun h=>h.base hB)
theorem IZ.row(h:IZ B v ps w v1 ps1)(hr:gI w v ps):gI w v1 ps1:=by
 rcases h with⟨rfl,rfl⟩|h
 ·exact hr
 exact h.BQ
theorem IZ.step(h:IZ B v ps w v1 ps1)(h2:IZ B2 v1 ps1 w v2 ps2)(hB:B<=B2):IZ B v ps w v2 ps2:=by
 rcases h2 with⟨rfl,rfl⟩|h2
 ·exact h
 exact .inr (h2.base hB)
theorem IZ.dL{c i:Nat}{x:Value}{cs:Array Value}{T:TypeId}(h:IZ B v ps w v1 ps1)(hk:bG w c cs T)(h1:60≠T)(h2:9≠T):IZ B v ps (w.setCell ⟨c,i,none⟩ x) v1 ps1:=h.imp id (fun h=>h.dL hk h1 h2)
end
theorem iV{w:World}{v:Value}{ps:List Zp}(h:gI w v ps):∃ a c,v=.slice a ps.length c:=by obtain⟨⟨_,a,c,e,_⟩,_⟩:=h;exact⟨a,c,e⟩
theorem UM{w wa:World}{C e s m:Nat}{lv va yv:Value}{ys:List Value}(oY:w.ownsRow C e s yv m ys)(hP:∀ g,lv.ownBlock=some g->yv.ownBlock≠some g)(hg:w.grownBy wa lv.ownBlock)(iT:va.ownBlock=lv.ownBlock∨va.ownBlock=some w.heap.size):
 wa.ownsRow C e s yv m ys∧∀ g,va.ownBlock=some g->yv.ownBlock≠some g:=by
 refine⟨oY.kept hg ?_,fun g h1 h2=>?_⟩
 ·cases hv:lv.ownBlock with
  |none=>
   cases hy:yv.ownBlock with
   |none=>exact .inl rfl
   |some k=>right;simp
  |some g=>right;exact hP g hv
 rcases iT with h|h
 ·exact hP g (h.symm.trans h1) h2
 rw [h] at h1;have:=gQ h1;have:=(oY.lt g h2).2;omega
def NaP(o:ByteArray)(v:Value)(ps:List Zp)(M:Nat)(w:World)(e:Ending)(w':World):Prop:=∃ v' ps',e=.returned (.agg #[.string o,v'])∧IZ w.heap.size v ps w' v' ps'∧Hid (ZB ps' M∧pI ps' o=true)∧Below w.heap.size w w'
