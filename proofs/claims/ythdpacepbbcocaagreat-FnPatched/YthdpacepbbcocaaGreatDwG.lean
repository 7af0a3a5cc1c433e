import Derived.Test.YthdpacepbbcocaaGreatJPzM
set_option linter.unusedVariables false
set_option maxRecDepth 100000
set_option maxHeartbeats 6400000
namespace Go.Proofs.YthdpacepbbcocaaGreat
open Go.RowKit
theorem dH.dr{w w1:World}{B g:Nat}{v:Value}{ps:List Zp}(h:dH w B v ps)(hg:w.grownBy w1 (some g))(hl:g<B):dH w1 B v ps:=
 h.beside hg (fun k e hk=>by have e:=gQ e;subst e;have:=(h.outer.lt _ hk).1;omega) (fun k e p hp hk=>by
  have e:=gQ e;subst e;obtain⟨i,hi⟩:=List.getElem?_of_mem hp;have:=((h.inner i p hi).lt _ hk).1
  omega)
theorem aLu{w:World}{b cap:Nat}{ps:List Zp}(h:gI w (.slice (some ⟨b,0,none⟩) ps.length cap) ps)(hp:0<ps.length):gI w (.slice (some ⟨b,4,none⟩) (ps.length-1) (cap-1)) ps.tail:=by
 cases ps with
 |nil=>simp at hp
 |cons p qs=>simpa using aD7 h
theorem aIt{w:World}{b:Nat}{v:Value}{ps:List Zp}(h:gI w v ps)(hp:0<ps.length)(h1:ps.length<=1):gI w (.slice (some ⟨b,0,none⟩) (ps.length-1) 0) ps.tail:=by
 cases ps with
 |nil=>simp at hp
 |cons p qs=>
  cases qs with
  |nil=>exact⟨⟨rfl,_,_,rfl,aN _,by unfold maxLen;omega,fun h=>by simp at h⟩,by simp⟩
  |cons q qs=>simp at h1
theorem aMc{ps:List Zp}{N:Nat}(h:ZT ps N):ZT ps.tail N:=by
 cases ps with
 |nil=>exact h
 |cons p qs=>exact h.tail
def FrB(w:World)(g:Nat)(v:Value)(w':World):Prop:=∀ c,c<w.heap.size->c≠g->v.ownBlock≠some c->w'.heap[c]? =w.heap[c]?
def BeP(w0 w:World)(v:Value)(g:Nat)(a:Option Addr)(n cap:Nat)(e:Ending)(w':World):Prop:=∃ (o':ByteArray) (v':Value) (ps':List Zp),e=.returned (.agg #[.string o',v'])∧o'.size<=2000∧ZL ps'∧XX w' w0.heap.size v' ps'∧Dr w0 g a n cap w'∧(∃ qs,ZL qs∧XX w' w0.heap.size v qs)∧FrB w g v w'
structure Dx (w0 wS:World) (g b:Nat) (a:Option Addr) (n cap:Nat) (w:World):Prop where
 d:Dr w0 g a n cap w
 fr:∀ c,c<wS.heap.size->c≠g->c≠b->w.heap[c]? =wS.heap[c]?
 sz:wS.heap.size<=w.heap.size
section
variable {w0 wS w w1:World}{g b n cap:Nat}{a:Option Addr}
theorem Dx.s(h:Dx w0 wS g b a n cap w):Src w g a n cap:=h.d.s
theorem Dx.size(h:Dx w0 wS g b a n cap w):w0.heap.size<=w.heap.size:=h.d.size
theorem Dx.step(h:Dx w0 wS g b a n cap w)(hs:Src w1 g a n cap)(hg:w.grownBy w1 (some g)):Dx w0 wS g b a n cap w1:=
 ⟨h.d.step hs hg,fun c h1 h2 h3=>(hg.block c (sP h1 h.sz) (by simpa using h2)).trans (h.fr c h1 h2 h3),iL h.sz hg.size⟩
theorem Dx.below(h:Dx w0 wS g b a n cap w)(hb:Below w.heap.size w w1):Dx w0 wS g b a n cap w1:=
 ⟨h.d.below hb,fun c h1 h2 h3=>(hb.block c (sP h1 h.sz)).trans (h.fr c h1 h2 h3),iL h.sz hb.size⟩
theorem Dx.alloc(h:Dx w0 wS g b a n cap w)(o:Obj):Dx w0 wS g b a n cap (w.alloc o):=h.below ((aK _ _).alloc (aN _) _)
theorem Dx.row(h:Dx w0 wS g b a n cap w)(hg:w.grownBy w1 (some b))(hr:∀ k,some b=some k->w0.heap.size<=k):Dx w0 wS g b a n cap w1:=
 ⟨h.d.row hg hr,fun c h1 h2 h3=>(hg.block c (sP h1 h.sz) (by simpa using h3)).trans (h.fr c h1 h2 h3),iL h.sz hg.size⟩
theorem Dx.set(h:Dx w0 wS g b a n cap w){c i:Nat}(hc:w0.heap.size<=c)(x:Value)(hb:c=b∨wS.heap.size<=c:=by omega):Dx w0 wS g b a n cap (w.setCell ⟨c,i,none⟩ x):=
 ⟨h.d.set hc x,fun k h1 h2 h3=>(heap_setCell_other w ⟨c,i,none⟩ k x (by show k≠c;omega)).trans (h.fr k h1 h2 h3),by simpa using h.sz⟩
theorem Dx.Iz{v:Value}(h:Dx w0 wS g b a n cap w)(hv:v.ownBlock=some b):FrB wS g v w:=fun c h1 h2 h3=>h.fr c h1 h2 (fun e=>h3 (by rw [hv,e]))
end
theorem Ja{P:Program}{ops:Array Oper}{o:Oper}{a:Act}{w:World}{K:Act->World->Prop}{Q:Exit->Act->World->Prop}{E:Prop}(Ce:o.guard=none)(s x:Operand)(t:TypeId)
 (ho:o.op=.call {callee:=.builtin .append,args:=#[s,x],argTypes:=#[t,t]}) (v u v':Value) (w':World) (hs:a.eval s=v) (hx:a.eval x=u)
 (hr:(Builtin.append_ #[t,t] o.type #[v,u]).run P w=.ok v' w') (h:K (a.put o.dst v') w'):if Region.wanted o (yielded ops a.tmps)=true then Oper.wp P o a w K Q else E:=by
 have hw:Region.wanted o (yielded ops a.tmps)=true:=by simp [Region.wanted,Ce]
 rw [if_pos hw];unfold Oper.wp execOp;simp only [ho,resolve,invoke,builtin,Sem.run_bind,Sem.run_pure,Result.andThen_ok,List.map_toArray,List.map_cons,List.map_nil,hs,hx,hr];exact h
theorem SH{w0:World}{g n cap:Nat}{a:Option Addr}(o:ByteArray)(v:Value)(ps:List Zp)(N:Nat)(w:World)(D:Dr w0 g a n cap w)(hz:dH w w0.heap.size v ps)(hB:ZB ps N)(hN:N<=126)(hp:0<ps.length)(ho:o.size<=20):
 Calls Tryz.prog 14 #[.pointer (some ⟨g,0,none⟩),.agg #[.string o,v]] w (BeP w0 w v g a n cap):=by
 obtain⟨_,va,vc,rfl,gY,kK,_⟩:=bS.aS hz.outer
 obtain⟨b,rfl⟩:∃ b,va=some ⟨b,0,none⟩:=by
  rcases hz.outer.2 with⟨h',h2⟩|⟨g',cap',cur,h',_⟩
  ·simp at h';omega
  simp only [iG] at h';exact⟨_,h'.1⟩
 have ZJ:=D.lt;have hw:=D.size;have k0:=aH w #[.string o,.slice (some ⟨b,0,none⟩) ps.length vc] 25
 replace D:Dx w0 w g b a n cap w:=⟨D,fun _ _ _ _=>rfl,aN _⟩
 have D0:=D.alloc (.cells #[.string o,.slice (some ⟨b,0,none⟩) ps.length vc] 25);have z0:=hz.below ((aK _ _).alloc (aN _) (.cells #[.string o,.slice (some ⟨b,0,none⟩) ps.length vc] 25));have kR:=aH (w.alloc (.cells #[.string o,.slice (some ⟨b,0,none⟩) ps.length vc] 25)) #[.string ByteArray.empty,.slice none 0 0] 25;have k1:=aR k0 (.cells #[.string ByteArray.empty,.slice none 0 0] 25);have D1:=D0.alloc (.cells #[.string ByteArray.empty,.slice none 0 0] 25);have hlen:=hB.len;have r0:=fun i=>aA k0 i
 have r1:=fun i=>aA k1 i
 clear D;go_enter Tryz.func14,Tryz.ntmps14;go_wp2_with fail
 refine(aY g a n cap 24 _ D1.s (by decide)).mono ?_;rintro e w2 ⟨q,rfl,hq0,ML,oI,oN⟩;have Aq:=ML (by decide);have Vi:(some g:Option Nat)≠some w.heap.size:=by intro e;simp at e;omega
 have hgR:(some g:Option Nat)≠some (w.alloc (.cells #[.string o,.slice (some ⟨b,0,none⟩) ps.length vc] 25)).heap.size:=by intro e;simp at e;omega
 have D2:=D1.step oI oN;have z2:=(z0.below ((aK _ _).alloc (aN _) (.cells #[.string ByteArray.empty,.slice none 0 0] 25))).dr oN ZJ;have k2:=aP k1 oN Vi;have CP:=aP kR oN hgR;rw [fV] at CP;clear r0 r1 k0 k1 kR D0 D1 z0 hz oI oN ML;have r2:=fun i=>aA k2 i
 have f2:=fun i=>aG k2 i
 have rR:=fun i=>aA CP i
 have fR:=fun i=>aG CP i
 have CJ:w0.heap.size<=w.heap.size+1:=by omega
 by_cases h0:q=0
 ·subst h0;have c1:(1:Int)<=(ps.length:Int):=by omega
  have c2:(ps.length:Int)<=(vc:Int):=by omega
  go_wp2_with fail
  ·have YW:=aW (c:=w.heap.size) (i:=1) (v:=.slice (some ⟨b,0,none⟩) (ps.length-1) 0) CP (by omega);have DA:=D2.set hw (.slice (some ⟨b,0,none⟩) (ps.length-1) 0) (i:=1);have zA:=dH.dL (x:=.slice (some ⟨b,0,none⟩) (ps.length-1) 0) (i:=1) z2 k2 (by decide) (by decide);have kE:=aI (aI YW 0 (.string o)) 1 (.slice (some ⟨b,0,none⟩) (ps.length-1) 0);have DE:=(DA.set CJ (.string o) (i:=0)).set CJ (.slice (some ⟨b,0,none⟩) (ps.length-1) 0) (i:=1);have zE:=dH.dL (x:=.slice (some ⟨b,0,none⟩) (ps.length-1) 0) (i:=1) (dH.dL (x:=.string o) (i:=0) zA YW (by decide) (by decide)) (aI YW 0 (.string o)) (by decide) (by decide);have rE:=fun i=>aA kE i
   refine gD (v:=.agg #[.string o,.slice (some ⟨b,0,none⟩) (ps.length-1) 0]) ?_ rfl ?_
   rotate_left
   ·have hv:vc=1:=by omega
    have hk:=zE.has.kx;rw [hv] at hk;exact⟨_,_,ps.tail,rfl,by omega,(aMc hB.zt).zl (by omega),fun W hW=>aIt (zE.has.kx W hW) hp (by omega),DE.d,⟨ps,hB.zt.zl (by omega),hk⟩,DE.Iz rfl⟩
   simp [results,Tryz.results14,go_sem,Result.andThen,rE]
  have YW:=aW (c:=w.heap.size) (i:=1) (v:=.slice (some ⟨b,4,none⟩) (ps.length-1) (vc-1)) CP (by omega);have DA:=D2.set hw (.slice (some ⟨b,4,none⟩) (ps.length-1) (vc-1)) (i:=1);have zA:=dH.dL (x:=.slice (some ⟨b,4,none⟩) (ps.length-1) (vc-1)) (i:=1) z2 k2 (by decide) (by decide);have kE:=aI (aI YW 0 (.string o)) 1 (.slice (some ⟨b,4,none⟩) (ps.length-1) (vc-1));have DE:=(DA.set CJ (.string o) (i:=0)).set CJ (.slice (some ⟨b,4,none⟩) (ps.length-1) (vc-1)) (i:=1);have zE:=dH.dL (x:=.slice (some ⟨b,4,none⟩) (ps.length-1) (vc-1)) (i:=1) (dH.dL (x:=.string o) (i:=0) zA YW (by decide) (by decide)) (aI YW 0 (.string o)) (by decide) (by decide);have rE:=fun i=>aA kE i
  refine gD (v:=.agg #[.string o,.slice (some ⟨b,4,none⟩) (ps.length-1) (vc-1)]) ?_ rfl ?_
  rotate_left
  ·exact⟨_,_,ps.tail,rfl,by omega,(aMc hB.zt).zl (by omega),fun W hW=>aLu (zE.has.kx W hW) hp,DE.d,⟨ps,hB.zt.zl (by omega),zE.has.kx⟩,DE.Iz rfl⟩
  simp [results,Tryz.results14,go_sem,Result.andThen,rE]
 by_cases h1:q=1
 ·subst h1;clear h0;obtain⟨i0,hi,iJ,fP,fZ⟩:=info_parts Tryz.Fw;obtain⟨p,SS⟩:∃ p,ps[0]? =some p:=⟨_,bY hp⟩;have Dd:=D2.below (aK _ _).drew;have zd:=z2.below (aK _ _).drew;have kd:=aB k2 (aK _ _).drew;have kRd:=aB CP (aK _ _).drew;have pG:(0:Int)<(ps.length:Int):=by omega
  have HC:Hid (∀ X:World,X.ownsRow w0.heap.size 60 4 (.slice (some ⟨b,0,none⟩) ps.length vc) ps.length (pM ps)->X.cell? ⟨b,0,none⟩=some (.string p.1.own)∧X.cell? ⟨b,1,none⟩=some (.int .i64 p.1.ty)∧X.cell? ⟨b,2,none⟩=some (.int .i64 p.1.tt)∧X.cell? ⟨b,3,none⟩=some p.2):=fun X hX=>
   ⟨(hX.cellAt 0 (by omega)).trans ((mZ ps 0 0 p SS (by decide)).trans rfl),(hX.cellAt 1 (by omega)).trans ((mZ ps 0 1 p SS (by decide)).trans rfl),(hX.cellAt 2 (by omega)).trans ((mZ ps 0 2 p SS (by decide)).trans rfl),(hX.cellAt 3 (by omega)).trans ((mZ ps 0 3 p SS (by decide)).trans rfl)⟩
  have hc4:=HC.out _ zd.outer;have GV:w2.drew.cell? ⟨w.heap.size,1,none⟩=some (.slice (some ⟨b,0,none⟩) ps.length vc):=(aA kd 1).trans rfl;have bA:=((aK w2.heap.size w2).alloc (aN _) (.cells #[.string p.1.own,.int .i64 p.1.ty,.int .i64 p.1.tt,p.2] 60)).drew;have zA:=z2.below bA;have kA:=aB k2 bA;have YW:=aB CP bA;have DA:=D2.below bA;have hcA:=HC.out _ zA.outer;have hSA:(w2.alloc (.cells #[.string p.1.own,.int .i64 p.1.ty,.int .i64 p.1.tt,p.2] 60)).drew.cell? ⟨w.heap.size,1,none⟩=some (.slice (some ⟨b,0,none⟩) ps.length vc):=(aA kA 1).trans rfl;obtain⟨v',w5,hr,uZ,QI,QJ⟩:=MM (P:=Tryz.prog) (w2.alloc (.cells #[.string p.1.own,.int .i64 p.1.ty,.int .i64 p.1.tt,p.2] 60)).drew w0.heap.size 23 23 60 i0 _ 4 56 Tryz.underlying23 hi iJ fP fZ rfl (by decide) _ _ _ hp zA.outer ⟨w2.heap.size,0,none⟩ 1 1 [.string p.1.own,.int .i64 p.1.ty,.int .i64 p.1.tt,p.2] rfl (dU w2 #[.string p.1.own,.int .i64 p.1.ty,.int .i64 p.1.tt,p.2] 60) (by intro u hu;obtain⟨qa,qc,Aq⟩:=aT (zd.has.2 p (bP SS));rw [Aq] at hu;simp at hu;rcases hu with rfl|rfl|rfl|rfl<;>rfl) (by unfold maxLen;omega) (by omega) (by have:=DA.size;simpa using this);have z5:=zA.has.app (bP SS) uZ QJ;have y5:uO w5 w0.heap.size (.slice (some ⟨b,0,none⟩) ps.length vc) ps:=⟨QI,fun r hr=>iO (zA.has.2 r hr) QJ (jO (zA.has.2 r hr) zA.outer (by decide))⟩;have k5:=aP kA QJ (bW zA.outer kA (by decide));have kR5:=aP YW QJ (bW zA.outer YW (by decide));have D5:=DA.row QJ (fun q hq=>(zA.outer.lt q hq).1);have hc5:=HC.out _ QI;have hS5:w5.cell? ⟨w.heap.size,1,none⟩=some (.slice (some ⟨b,0,none⟩) ps.length vc):=(aA k5 1).trans rfl;have JB:=hB.aR2 (bP SS) hN;have HH:=Nm.aF (aV JB (aV z5 (aV D5 (aV kR5 y5))));obtain⟨xa,xc,rfl⟩:=aT uZ;generalize p.2=pv at*;clear r2 f2 rR fR D2 z2 k2 CP Dd zd kd kRd zA kA YW DA bA uZ QI QJ z5 y5 D5 kR5 JB HC hi iJ fP fZ;obtain⟨c0,c1,c2,c3⟩:=hc4;go_wp2_with fail
  refine kR (fun X=>X.cell? ⟨w.heap.size,1,none⟩=some (.slice (some ⟨b,0,none⟩) ps.length vc)∧X.cell? ⟨b,0,none⟩=some (.string p.1.own)∧X.cell? ⟨b,1,none⟩=some (.int .i64 p.1.ty)∧X.cell? ⟨b,2,none⟩=some (.int .i64 p.1.tt)∧X.cell? ⟨b,3,none⟩=some pv) 9 ⟨GV,c0,c1,c2,c3⟩ fun aO=>?_;refine kB 0 rfl ?_;refine kB 1 rfl ?_;refine kB 2 rfl ?_;refine kB 3 rfl ?_;refine kB 4 rfl ?_;refine kB 5 rfl ?_;refine k1 6 rfl fun K hK=>?_
  go_simp;refine hK.out _ _ ⟨hSA,hcA⟩ fun aO=>?_;clear hK K;refine k1 7 rfl fun K hK=>?_
  refine Ja rfl (.tmp 20) (.tmp 25) 23 rfl _ _ _ w5 rfl rfl hr ?_;refine hK.out _ _ ⟨hS5,hc5⟩ fun aO=>?_;clear hK K;refine kB 8 rfl ?_;have g5:=fun i=>aA k5 i
  have f5:=fun i=>aG k5 i
  refine jN (by kernel_rfl) rfl (by kernel_rfl) fun K hK=>?_;go_simp;refine hK.out _ _ ?_;clear hK K aO g5 f5 GV c0 c1 c2 c3 hcA hSA hc5 hS5 hr;have k6:=aI k5 1 (.slice xa (ps.length+1) xc);have kR6:=aW (c:=w.heap.size) (i:=1) (v:=.slice xa (ps.length+1) xc) HH.out.2.2.2.1 (by omega);have D6:=HH.out.2.2.1.set (i:=1) hw (.slice xa (ps.length+1) xc);have z6:=HH.out.2.1.dL (x:=.slice xa (ps.length+1) xc) (i:=1) k5 (by decide) (by decide);have r6:=fun i=>aA k6 i
  have rR6:=fun i=>aA kR6 i
  have fR6:=fun i=>aG kR6 i
  have kE:=aI (aI kR6 0 (.string o)) 1 (.slice xa (ps.length+1) xc);have DE:=(D6.set CJ (.string o) (i:=0)).set CJ (.slice xa (ps.length+1) xc) (i:=1);have zE:=uO.dL (x:=.slice xa (ps.length+1) xc) (i:=1) (uO.dL (x:=.string o) (i:=0) z6 kR6 (by decide) (by decide)) (aI kR6 0 (.string o)) (by decide) (by decide);have yE:=uO.dL (x:=.slice xa (ps.length+1) xc) (i:=1) (uO.dL (x:=.string o) (i:=0) (HH.out.2.2.2.2.dL (x:=.slice xa (ps.length+1) xc) (i:=1) k5 (by decide) (by decide)) kR6 (by decide) (by decide)) (aI kR6 0 (.string o)) (by decide) (by decide);have rE:=fun i=>aA kE i
  have HE:=Nm.aF (aV HH.out.1 (aV zE (aV DE yE)));clear D6 z6 zE DE yE HH k5;go_wp2;refine gD (v:=.agg #[.string o,.slice xa (ps.length+1) xc]) ?_ rfl ?_
  rotate_left
  ·exact⟨_,_,_,rfl,by omega,HE.out.1,HE.out.2.1.kx,HE.out.2.2.1.d,⟨_,hB.zt.zl (by omega),HE.out.2.2.2.kx⟩,HE.out.2.2.1.Iz rfl⟩
  simp [results,Tryz.results14,go_sem,Result.andThen,rE]
 by_cases h2:q=2
 ·subst h2;clear h0 h1;go_wp2_with fail
  refine(Rh g a n cap o _ D2.s (by omega)).mono ?_;rintro e w3 ⟨s,rfl,hs,qD,iA⟩;have D3:=D2.step qD iA;have z3:=z2.dr iA ZJ;have k3:=aP k2 iA Vi;have AP:=aP CP iA (by intro e;simp at e;omega);have kA:=aI k3 0 (.string s);have YW:=aW (c:=w.heap.size) (i:=0) (v:=.string s) AP (by omega);have DA:=D3.set hw (.string s) (i:=0);have zA:=dH.dL (x:=.string s) (i:=0) z3 k3 (by decide) (by decide);clear r2 f2 rR fR D2 z2 k2 CP D3 z3 qD iA;have r3:=fun i=>aA k3 i
  have f3:=fun i=>aG k3 i
  have rA:=fun i=>aA kA i
  have rRA:=fun i=>aA YW i
  have fRA:=fun i=>aG YW i
  have kE:=aI (aI YW 0 (.string s)) 1 (.slice (some ⟨b,0,none⟩) ps.length vc);have DE:=(DA.set CJ (.string s) (i:=0)).set CJ (.slice (some ⟨b,0,none⟩) ps.length vc) (i:=1);have zE:=dH.dL (x:=.slice (some ⟨b,0,none⟩) ps.length vc) (i:=1) (dH.dL (x:=.string s) (i:=0) zA YW (by decide) (by decide)) (aI YW 0 (.string s)) (by decide) (by decide);have rE:=fun i=>aA kE i
  go_wp2;refine gD (v:=.agg #[.string s,.slice (some ⟨b,0,none⟩) ps.length vc]) ?_ rfl ?_
  rotate_left
  ·exact⟨_,_,ps,rfl,by omega,hB.zt.zl (by omega),zE.has.kx,DE.d,⟨ps,hB.zt.zl (by omega),zE.has.kx⟩,DE.Iz rfl⟩
  simp [results,Tryz.results14,go_sem,Result.andThen,rE]
 by_cases h3:q=3
 ·subst h3;clear h0 h1 h2;have Dd:=D2.below (aK _ _).drew;have zd:=z2.below (aK _ _).drew;have kd:=aB k2 (aK _ _).drew;have kRd:=aB CP (aK _ _).drew;have ZY:w0.heap.size<=b:=(z2.outer.lt b rfl).1;have pG:0<(ps.length:Int):=by omega
  have HH:=Nm.aF (aV Dd (aV zd (aV kd kRd)));have GV:w2.drew.cell? ⟨w.heap.size,1,none⟩=some (.slice (some ⟨b,0,none⟩) ps.length vc):=(aA kd 1).trans rfl;clear r2 f2 rR fR D2 z2 k2 CP Dd zd kd kRd;go_wp2_with fail
  refine kR (fun X=>X.cell? ⟨w.heap.size,1,none⟩=some (.slice (some ⟨b,0,none⟩) ps.length vc)∧True) 7 ⟨GV,trivial⟩ fun aO=>?_;refine kB 0 rfl ?_;refine kB 1 rfl ?_;refine kB 2 rfl ?_;refine kB 3 rfl ?_;refine k1 4 rfl fun K hK=>?_
  go_simp;refine(aY g a n cap (ps.length:Int) _ HH.out.1.s (by omega)).mono ?_;rintro e w3 ⟨r,rfl,OD,rH,qD,iA⟩;have uR:=rH pG;obtain⟨i,rfl⟩:=Int.eq_ofNat_of_zero_le OD;have DC:i<ps.length:=by omega
  obtain⟨p,hpi⟩:∃ p,ps[i]? =some p:=⟨_,bY DC⟩;have D3:=HH.out.1.step qD iA;have z3:=HH.out.2.1.dr iA ZJ;have yP:=aP HH.out.2.2.1 iA Vi;have AP:=aP HH.out.2.2.2 iA (by intro e;simp at e;omega);have Nn:w3.cell? ⟨w.heap.size,1,none⟩=some (.slice (some ⟨b,0,none⟩) ps.length vc):=(aA yP 1).trans rfl;have xW:w3.cell? ⟨b,i*4+2,none⟩=some (.int .i64 p.1.tt):=(z3.outer.cellAt (i*4+2) (by omega)).trans ((mZ ps i 2 p hpi (by decide)).trans rfl);have ZA:=z3.outer.frozenAt (i*4+2);clear HH rH qD iA GV;go_wp2_with fail
  refine hK.out _ _ ⟨Nn,trivial⟩ fun aO=>?_;clear hK K;refine k1 5 rfl fun K hK=>?_
  go_simp;refine hK.out _ _ aO fun aO=>?_;clear hK K;refine k1 6 rfl fun K hK=>?_
  go_simp;refine hK.out _ _ aO fun aO=>?_;clear hK K;refine jN (by kernel_rfl) rfl (by kernel_rfl) fun K hK=>?_;go_simp;refine hK.out _ _ ?_;clear hK K aO xW ZA Nn;have vY:b≠w.heap.size:=fun e=>bW z3.outer yP (by decide) (by rw [e];rfl)
  have hbR:b≠w.heap.size+1:=fun e=>bW z3.outer AP (by decide) (by rw [e];rfl)
  have ZN:=aW (c:=b) (i:=(i*4+2)) (v:=(.int .i64 (-1))) yP (Ne.symm vY);have ZK:=aW (c:=b) (i:=(i*4+2)) (v:=(.int .i64 (-1))) AP (Ne.symm hbR);have D4:=D3.set (i:=(i*4+2)) ZY (.int .i64 (-1));have RI:(ps.set i ({p.1 with tt:= -1},p.2)).length=ps.length:=by simp
  have zh4:uO (w3.setCell ⟨b,(i*4+2),none⟩ (.int .i64 (-1))) w0.heap.size (.slice (some ⟨b,0,none⟩) ps.length vc) (ps.set i ({p.1 with tt:= -1},p.2)):=z3.has.put (i:=2) (q:=({p.1 with tt:= -1},p.2)) (y:=(.int .i64 (-1))) hpi (by decide) rfl (fun X h=>h);have JB:=(hB.zt.set (q:=({p.1 with tt:= -1},p.2)) hpi (hB.zt.one p (bP hpi)).1 (fun d hd=>hd) (aN _)).zl (by omega);have rz4:=fun i=>aA ZN i
  have rR4:=fun i=>aA ZK i
  have fR4:=fun i=>aG ZK i
  have kE:=aI (aI ZK 0 (.string o)) 1 (.slice (some ⟨b,0,none⟩) ps.length vc);have DE:=(D4.set CJ (.string o) (i:=0)).set CJ (.slice (some ⟨b,0,none⟩) ps.length vc) (i:=1);have zE:=uO.dL (x:=.slice (some ⟨b,0,none⟩) ps.length vc) (i:=1) (uO.dL (x:=.string o) (i:=0) zh4 ZK (by decide) (by decide)) (aI ZK 0 (.string o)) (by decide) (by decide);have rE:=fun i=>aA kE i
  have HE:=Nm.aF (aV JB (aV zE DE));clear D4 zh4 JB zE DE z3 D3 RI yP AP;go_wp2;refine gD (v:=.agg #[.string o,.slice (some ⟨b,0,none⟩) ps.length vc]) ?_ rfl ?_
  rotate_left
  ·exact⟨_,_,_,rfl,by omega,HE.out.1,HE.out.2.1.kx,HE.out.2.2.d,⟨_,HE.out.1,HE.out.2.1.kx⟩,HE.out.2.2.Iz rfl⟩
  simp [results,Tryz.results14,go_sem,Result.andThen,rE]
 by_cases h4:q=4
 ·subst h4;clear h0 h1 h2 h3;have Dd:=D2.below (aK _ _).drew;have zd:=z2.below (aK _ _).drew;have kd:=aB k2 (aK _ _).drew;have kRd:=aB CP (aK _ _).drew;have ZY:w0.heap.size<=b:=(z2.outer.lt b rfl).1;have pG:0<(ps.length:Int):=by omega
  have HH:=Nm.aF (aV Dd (aV zd (aV kd kRd)));have GV:w2.drew.cell? ⟨w.heap.size,1,none⟩=some (.slice (some ⟨b,0,none⟩) ps.length vc):=(aA kd 1).trans rfl;clear r2 f2 rR fR D2 z2 k2 CP Dd zd kd kRd;go_wp2_with fail
  refine kR (fun X=>X.cell? ⟨w.heap.size,1,none⟩=some (.slice (some ⟨b,0,none⟩) ps.length vc)∧True) 7 ⟨GV,trivial⟩ fun aO=>?_;refine kB 0 rfl ?_;refine kB 1 rfl ?_;refine kB 2 rfl ?_;refine kB 3 rfl ?_;refine k1 4 rfl fun K hK=>?_
  go_simp;refine(aY g a n cap (ps.length:Int) _ HH.out.1.s (by omega)).mono ?_;rintro e w3 ⟨r,rfl,OD,rH,qD,iA⟩;have uR:=rH pG;obtain⟨i,rfl⟩:=Int.eq_ofNat_of_zero_le OD;have DC:i<ps.length:=by omega
  obtain⟨p,hpi⟩:∃ p,ps[i]? =some p:=⟨_,bY DC⟩;have D3:=HH.out.1.step qD iA;have z3:=HH.out.2.1.dr iA ZJ;have yP:=aP HH.out.2.2.1 iA Vi;have AP:=aP HH.out.2.2.2 iA (by intro e;simp at e;omega);have Nn:w3.cell? ⟨w.heap.size,1,none⟩=some (.slice (some ⟨b,0,none⟩) ps.length vc):=(aA yP 1).trans rfl;have xW:w3.cell? ⟨b,i*4+3,none⟩=some p.2:=(z3.outer.cellAt (i*4+3) (by omega)).trans ((mZ ps i 3 p hpi (by decide)).trans rfl);have ZA:=z3.outer.frozenAt (i*4+3);clear HH rH qD iA GV;go_wp2_with fail
  refine hK.out _ _ ⟨Nn,trivial⟩ fun aO=>?_;clear hK K;refine k1 5 rfl fun K hK=>?_
  go_simp;refine hK.out _ _ aO fun aO=>?_;clear hK K;refine k1 6 rfl fun K hK=>?_
  go_simp;refine hK.out _ _ aO fun aO=>?_;clear hK K;refine jN (by kernel_rfl) rfl (by kernel_rfl) fun K hK=>?_;go_simp;refine hK.out _ _ ?_;clear hK K aO xW ZA Nn;have vY:b≠w.heap.size:=fun e=>bW z3.outer yP (by decide) (by rw [e];rfl)
  have hbR:b≠w.heap.size+1:=fun e=>bW z3.outer AP (by decide) (by rw [e];rfl)
  have ZN:=aW (c:=b) (i:=(i*4+3)) (v:=(.slice none 0 0)) yP (Ne.symm vY);have ZK:=aW (c:=b) (i:=(i*4+3)) (v:=(.slice none 0 0)) AP (Ne.symm hbR);have D4:=D3.set (i:=(i*4+3)) ZY (.slice none 0 0);have RI:(ps.set i ({p.1 with da:=[]},.slice none 0 0)).length=ps.length:=by simp
  have zh4:uO (w3.setCell ⟨b,(i*4+3),none⟩ (.slice none 0 0)) w0.heap.size (.slice (some ⟨b,0,none⟩) ps.length vc) (ps.set i ({p.1 with da:=[]},.slice none 0 0)):=z3.has.put (i:=3) (q:=({p.1 with da:=[]},.slice none 0 0)) (y:=(.slice none 0 0)) hpi (by decide) rfl (fun X h=>World.ownsRow_nil _ _ _ _);have JB:=(hB.zt.set (q:=({p.1 with da:=[]},.slice none 0 0)) hpi (hB.zt.one p (bP hpi)).1 (fun d hd=>by simp at hd) (dO _)).zl (by omega);have rz4:=fun i=>aA ZN i
  have rR4:=fun i=>aA ZK i
  have fR4:=fun i=>aG ZK i
  have kE:=aI (aI ZK 0 (.string o)) 1 (.slice (some ⟨b,0,none⟩) ps.length vc);have DE:=(D4.set CJ (.string o) (i:=0)).set CJ (.slice (some ⟨b,0,none⟩) ps.length vc) (i:=1);have zE:=uO.dL (x:=.slice (some ⟨b,0,none⟩) ps.length vc) (i:=1) (uO.dL (x:=.string o) (i:=0) zh4 ZK (by decide) (by decide)) (aI ZK 0 (.string o)) (by decide) (by decide);have rE:=fun i=>aA kE i
  have HE:=Nm.aF (aV JB (aV zE DE));clear D4 zh4 JB zE DE z3 D3 RI yP AP;go_wp2;refine gD (v:=.agg #[.string o,.slice (some ⟨b,0,none⟩) ps.length vc]) ?_ rfl ?_
  rotate_left
  ·exact⟨_,_,_,rfl,by omega,HE.out.1,HE.out.2.1.kx,HE.out.2.2.d,⟨_,HE.out.1,HE.out.2.1.kx⟩,HE.out.2.2.Iz rfl⟩
  simp [results,Tryz.results14,go_sem,Result.andThen,rE]
 by_cases h5:q=5
 ·subst h5;clear h0 h1 h2 h3 h4;have Dd:=D2.below (aK _ _).drew;have zd:=z2.below (aK _ _).drew;have kd:=aB k2 (aK _ _).drew;have kRd:=aB CP (aK _ _).drew;have ZY:w0.heap.size<=b:=(z2.outer.lt b rfl).1;obtain⟨i,hi⟩:∃ i,ps.length=i+1:=⟨ps.length-1,by omega⟩;have e1:(ps.length:Int)-1=(i:Int):=by omega
  have DC:i<ps.length:=by omega
  have j1:(0:Int)<=(i:Int):=by omega
  have j2:(i:Int)<(ps.length:Int):=by omega
  have hwi:IntKind.i64.wrap (i:Int)=(i:Int):=Go.wrap_small _ (by omega) (by omega);obtain⟨p,hpi⟩:∃ p,ps[i]? =some p:=⟨_,bY DC⟩;have ZG:w2.drew.cell? ⟨b,i*4,none⟩=some (.string p.1.own):=(zd.outer.cellAt (i*4) (by omega)).trans ((mZ ps i 0 p hpi (by decide)).trans rfl);have GV:w2.drew.cell? ⟨w.heap.size,1,none⟩=some (.slice (some ⟨b,0,none⟩) ps.length vc):=(aA kd 1).trans rfl;have hop:=(hB.zt.one p (bP hpi)).1;have HH:=Nm.aF (aV Dd (aV zd (aV kd kRd)));have HI:=Nm.aF hi;clear r2 f2 rR fR D2 z2 k2 CP Dd zd kd kRd hi;go_wp2_with fail
  refine kR (fun X=>X.cell? ⟨w.heap.size,1,none⟩=some (.slice (some ⟨b,0,none⟩) ps.length vc)∧X.cell? ⟨b,i*4,none⟩=some (.string p.1.own)) 15 ⟨GV,ZG⟩ fun aO=>?_;refine kB 0 rfl ?_;refine kB 1 rfl ?_;refine kB 2 rfl ?_;refine kB 3 rfl ?_;refine kB 4 rfl ?_;refine kB 5 rfl ?_;refine kB 6 rfl ?_;refine kB 7 rfl ?_;refine kB 8 rfl ?_;refine kB 9 rfl ?_;refine kB 10 rfl ?_;refine kB 11 rfl ?_;refine k1 12 rfl fun K hK=>?_
  go_simp;refine(yR g a n cap p.1.own _ HH.out.1.s (by unfold maxLen;omega)).mono ?_;rintro e w3 ⟨s,rfl,hs,qD,iA⟩;have D3:=HH.out.1.step qD iA;have z3:=HH.out.2.1.dr iA ZJ;have yP:=aP HH.out.2.2.1 iA Vi;have AP:=aP HH.out.2.2.2 iA (by intro e;simp at e;omega);have Nn:w3.cell? ⟨w.heap.size,1,none⟩=some (.slice (some ⟨b,0,none⟩) ps.length vc):=(aA yP 1).trans rfl;have xW:w3.cell? ⟨b,i*4,none⟩=some (.string p.1.own):=(z3.outer.cellAt (i*4) (by omega)).trans ((mZ ps i 0 p hpi (by decide)).trans rfl);have ZA:=z3.outer.frozenAt (i*4);clear HH qD iA GV ZG;go_wp2_with fail
  refine hK.out _ _ ⟨Nn,xW⟩ fun aO=>?_;clear hK K;refine k1 13 rfl fun K hK=>?_
  go_simp;refine hK.out _ _ aO fun aO=>?_;clear hK K;refine k1 14 rfl fun K hK=>?_
  go_simp;refine hK.out _ _ aO fun aO=>?_;clear hK K;refine jN (by kernel_rfl) rfl (by kernel_rfl) fun K hK=>?_;go_simp;refine hK.out _ _ ?_;clear hK K aO xW ZA Nn;have vY:b≠w.heap.size:=fun e=>bW z3.outer yP (by decide) (by rw [e];rfl)
  have hbR:b≠w.heap.size+1:=fun e=>bW z3.outer AP (by decide) (by rw [e];rfl)
  have ZN:=aW (c:=b) (i:=(i*4)) (v:=(.string s)) yP (Ne.symm vY);have ZK:=aW (c:=b) (i:=(i*4)) (v:=(.string s)) AP (Ne.symm hbR);have D4:=D3.set (i:=(i*4)) ZY (.string s);have RI:(ps.set i ({p.1 with own:=s},p.2)).length=ps.length:=by simp
  have zh4:uO (w3.setCell ⟨b,(i*4),none⟩ (.string s)) w0.heap.size (.slice (some ⟨b,0,none⟩) ps.length vc) (ps.set i ({p.1 with own:=s},p.2)):=z3.has.put (i:=0) (q:=({p.1 with own:=s},p.2)) (y:=(.string s)) hpi (by decide) rfl (fun X h=>h);have JB:=(hB.zt.set (q:=({p.1 with own:=s},p.2)) hpi (by show s.size<=2000;omega) (fun d hd=>hd) (aN _)).zl (by omega);have rz4:=fun i=>aA ZN i
  have rR4:=fun i=>aA ZK i
  have fR4:=fun i=>aG ZK i
  have kE:=aI (aI ZK 0 (.string o)) 1 (.slice (some ⟨b,0,none⟩) ps.length vc);have DE:=(D4.set CJ (.string o) (i:=0)).set CJ (.slice (some ⟨b,0,none⟩) ps.length vc) (i:=1);have zE:=uO.dL (x:=.slice (some ⟨b,0,none⟩) ps.length vc) (i:=1) (uO.dL (x:=.string o) (i:=0) zh4 ZK (by decide) (by decide)) (aI ZK 0 (.string o)) (by decide) (by decide);have rE:=fun i=>aA kE i
  have HE:=Nm.aF (aV JB (aV zE DE));clear D4 zh4 JB zE DE z3 D3 RI yP AP;go_wp2;refine gD (v:=.agg #[.string o,.slice (some ⟨b,0,none⟩) ps.length vc]) ?_ rfl ?_
  rotate_left
  ·exact⟨_,_,_,rfl,by omega,HE.out.1,HE.out.2.1.kx,HE.out.2.2.d,⟨_,HE.out.1,HE.out.2.1.kx⟩,HE.out.2.2.Iz rfl⟩
  simp [results,Tryz.results14,go_sem,Result.andThen,rE]
 by_cases h6:q=6
 ·subst h6;clear h0 h1 h2 h3 h4 h5;have kA:=aI (aI k2 0 (.string ⟨#[]⟩)) 1 (.slice none 0 0);have YW:=aW (c:=w.heap.size) (i:=1) (v:=.slice none 0 0) (aW (c:=w.heap.size) (i:=0) (v:=.string ⟨#[]⟩) CP (by omega)) (by omega);have DA:=(D2.set hw (.string ⟨#[]⟩) (i:=0)).set hw (.slice none 0 0) (i:=1);have rA:=fun i=>aA kA i
  have rRA:=fun i=>aA YW i
  have fRA:=fun i=>aG YW i
  have kE:=aI (aI YW 0 (.string ⟨#[]⟩)) 1 (.slice none 0 0);have DE:=(DA.set CJ (.string ⟨#[]⟩) (i:=0)).set CJ (.slice none 0 0) (i:=1);have zE:=fun X=>dH.nil X w0.heap.size
  have yE:=dH.dL (x:=.slice none 0 0) (i:=1) (dH.dL (x:=.string ⟨#[]⟩) (i:=0) (dH.dL (x:=.slice none 0 0) (i:=1) (dH.dL (x:=.string ⟨#[]⟩) (i:=0) z2 k2 (by decide) (by decide)) (aI k2 0 (.string ⟨#[]⟩)) (by decide) (by decide)) YW (by decide) (by decide)) (aI YW 0 (.string ⟨#[]⟩)) (by decide) (by decide);have rE:=fun i=>aA kE i
  go_wp2;refine gD (v:=.agg #[.string ⟨#[]⟩,.slice none 0 0]) ?_ rfl ?_
  rotate_left
  ·exact⟨_,_,[],rfl,by decide,(aN6 0).zl (by decide),(zE _).has.kx,DE.d,⟨ps,hB.zt.zl (by omega),yE.has.kx⟩,DE.Iz rfl⟩
  simp [results,Tryz.results14,go_sem,Result.andThen,rE]
 have n0:(q==0)=false:=by rw [dC];exact h0
 have n1:(q==1)=false:=by rw [dC];exact h1
 have n2:(q==2)=false:=by rw [dC];exact h2
 have n3:(q==3)=false:=by rw [dC];exact h3
 have n4:(q==4)=false:=by rw [dC];exact h4
 have n5:(q==5)=false:=by rw [dC];exact h5
 have n6:(q==6)=false:=by rw [dC];exact h6
 clear h0 h1 h2 h3 h4 h5 h6;have kE:=aI (aI CP 0 (.string o)) 1 (.slice (some ⟨b,0,none⟩) ps.length vc);have DE:=(D2.set CJ (.string o) (i:=0)).set CJ (.slice (some ⟨b,0,none⟩) ps.length vc) (i:=1);have zE:=dH.dL (x:=.slice (some ⟨b,0,none⟩) ps.length vc) (i:=1) (dH.dL (x:=.string o) (i:=0) z2 CP (by decide) (by decide)) (aI CP 0 (.string o)) (by decide) (by decide);have rE:=fun i=>aA kE i
 go_wp2;refine gD (v:=.agg #[.string o,.slice (some ⟨b,0,none⟩) ps.length vc]) ?_ rfl ?_
 rotate_left
 ·exact⟨o,_,ps,rfl,by omega,hB.zt.zl (by omega),zE.has.kx,DE.d,⟨ps,hB.zt.zl (by omega),zE.has.kx⟩,DE.Iz rfl⟩
 simp [results,Tryz.results14,go_sem,Result.andThen,rE]
