import Derived.Test.YtlddifpnkeafpaaGreatJFsT
set_option linter.unusedVariables false
set_option maxRecDepth 100000
set_option maxHeartbeats 6400000
namespace Go.Proofs.YtlddifpnkeafpaaGreat
open Go.RowKit
variable {ps:List Zp}{v:Value}{w:World}
theorem dF.dr{w1:World}{B g:Nat}(h:dF w B v ps)(hg:w.grownBy w1 (some g))(hl:g<B):dF w1 B v ps:=
 h.beside hg (fun k e hk=>by have e:=jI e;subst e;have:=(h.outer.lt _ hk).1;omega) (fun k e p hp hk=>by
  have e:=jI e;subst e;obtain⟨i,hi⟩:=List.getElem?_of_mem hp;have:=((h.inner i p hi).lt _ hk).1
  omega)
theorem aJ2{b cap:Nat}(h:gG w (.slice (some ⟨b,0,none⟩) ps.length cap) ps)(hp:0<ps.length):gG w (.slice (some ⟨b,4,none⟩) (ps.length-1) (cap-1)) ps.tail:=by
 cases ps with
 |nil=>simp at hp
 |cons p qs=>simpa using aA6 h
theorem aG9{b:Nat}(h:gG w v ps)(hp:0<ps.length)(h1:ps.length<=1):gG w (.slice (some ⟨b,0,none⟩) (ps.length-1) 0) ps.tail:=by
 cases ps with
 |nil=>simp at hp
 |cons p qs=>
  cases qs with
  |nil=>exact⟨⟨rfl,_,_,rfl,aI _,by unfold maxLen;omega,fun h=>by simp at h⟩,by simp⟩
  |cons q qs=>simp at h1
theorem aKg{N:Nat}(h:ZT ps N):ZT ps.tail N:=by
 cases ps with
 |nil=>exact h
 |cons p qs=>exact h.tail
def FrB(w:World)(g:Nat)(v:Value)(w':World):Prop:=∀ c,c<w.heap.size->c≠g->v.ownBlock≠some c->w'.heap[c]? =w.heap[c]?
def BeP(w0 w:World)(v:Value)(g:Nat)(a:Option Addr)(n cap:Nat)(e:Ending)(w':World):Prop:=∃ (o':ByteArray) (v':Value) (ps':List Zp),e=.returned (.agg #[.string o',v'])∧o'.size<=2000∧ZL ps'∧ZKx w' w0.heap.size v' ps'∧Dr w0 g a n cap w'∧(∃ qs,ZL qs∧ZKx w' w0.heap.size v qs)∧FrB w g v w'
structure Dx (w0 wS:World) (g b:Nat) (a:Option Addr) (n cap:Nat) (w:World):Prop where
 d:Dr w0 g a n cap w
 fr:∀ c,c<wS.heap.size->c≠g->c≠b->w.heap[c]? =wS.heap[c]?
 sz:wS.heap.size<=w.heap.size
section
variable {w0 wS w w1:World}{g b n cap:Nat}{a:Option Addr}
theorem Dx.s(h:Dx w0 wS g b a n cap w):Src w g a n cap:=h.d.s
theorem Dx.size(h:Dx w0 wS g b a n cap w):w0.heap.size<=w.heap.size:=h.d.size
theorem Dx.step(h:Dx w0 wS g b a n cap w)(hs:Src w1 g a n cap)(hg:w.grownBy w1 (some g)):Dx w0 wS g b a n cap w1:=
 ⟨h.d.step hs hg,fun c h1 h2 h3=>(hg.block c (vF h1 h.sz) (by simpa using h2)).trans (h.fr c h1 h2 h3),jN h.sz hg.size⟩
theorem Dx.below(h:Dx w0 wS g b a n cap w)(hb:Below w.heap.size w w1):Dx w0 wS g b a n cap w1:=
 ⟨h.d.below hb,fun c h1 h2 h3=>(hb.block c (vF h1 h.sz)).trans (h.fr c h1 h2 h3),jN h.sz hb.size⟩
theorem Dx.alloc(h:Dx w0 wS g b a n cap w)(o:Obj):Dx w0 wS g b a n cap (w.alloc o):=h.below ((aJ _ _).alloc (aI _) _)
theorem Dx.row(h:Dx w0 wS g b a n cap w)(hg:w.grownBy w1 (some b))(hr:∀ k,some b=some k->w0.heap.size<=k):Dx w0 wS g b a n cap w1:=
 ⟨h.d.row hg hr,fun c h1 h2 h3=>(hg.block c (vF h1 h.sz) (by simpa using h3)).trans (h.fr c h1 h2 h3),jN h.sz hg.size⟩
theorem Dx.set(h:Dx w0 wS g b a n cap w){c i:Nat}(hc:w0.heap.size<=c)(x:Value)(hb:c=b∨wS.heap.size<=c:=by omega):Dx w0 wS g b a n cap (w.setCell ⟨c,i,none⟩ x):=
 ⟨h.d.set hc x,fun k h1 h2 h3=>(heap_setCell_other w ⟨c,i,none⟩ k x (by show k≠c;omega)).trans (h.fr k h1 h2 h3),by simpa using h.sz⟩
theorem Dx.Mo(h:Dx w0 wS g b a n cap w)(hv:v.ownBlock=some b):FrB wS g v w:=fun c h1 h2 h3=>h.fr c h1 h2 (fun e=>h3 (by rw [hv,e]))
end
theorem Mq{P:Program}{ops:Array Oper}{o:Oper}{a:Act}{K:Act->World->Prop}{Q:Exit->Act->World->Prop}{E:Prop}(W9:o.guard=none)(s x:Operand)(t:TypeId)
 (ho:o.op=.call {callee:=.builtin .append,args:=#[s,x],argTypes:=#[t,t]}) (v u v':Value) (w':World) (hs:a.eval s=v) (hx:a.eval x=u)
 (hr:(Builtin.append_ #[t,t] o.type #[v,u]).run P w=.ok v' w') (h:K (a.put o.dst v') w'):if Region.wanted o (yielded ops a.tmps)=true then Oper.wp P o a w K Q else E:=by
 have hw:Region.wanted o (yielded ops a.tmps)=true:=by simp [Region.wanted,W9]
 rw [if_pos hw];unfold Oper.wp execOp;simp only [ho,resolve,invoke,builtin,Sem.run_bind,Sem.run_pure,Result.andThen_ok,List.map_toArray,List.map_cons,List.map_nil,hs,hx,hr];exact h
theorem VW{w0:World}{g n cap:Nat}{a:Option Addr}(o:ByteArray)(v:Value)(ps:List Zp)(N:Nat)(w:World)(D:Dr w0 g a n cap w)(hz:dF w w0.heap.size v ps)(hB:ZB ps N)(hN:N<=126)(hp:0<ps.length)(ho:o.size<=20):
 Calls Tryz.prog 38 #[.pointer (some ⟨g,0,none⟩),.agg #[.string o,v]] w (BeP w0 w v g a n cap):=by
 obtain⟨_,va,vc,rfl,gT,kV,_⟩:=dZ.aP hz.outer
 obtain⟨b,rfl⟩:∃ b,va=some ⟨b,0,none⟩:=by
  rcases hz.outer.2 with⟨h',h2⟩|⟨g',cap',cur,h',_⟩
  ·simp at h';omega
  simp only [gK] at h';exact⟨_,h'.1⟩
 have DC:=D.lt;have hw:=D.size;have k0:=aK w #[.string o,.slice (some ⟨b,0,none⟩) ps.length vc] 25
 replace D:Dx w0 w g b a n cap w:=⟨D,fun _ _ _ _=>rfl,aI _⟩
 have D0:=D.alloc (.cells #[.string o,.slice (some ⟨b,0,none⟩) ps.length vc] 25);have z0:=hz.below ((aJ _ _).alloc (aI _) (.cells #[.string o,.slice (some ⟨b,0,none⟩) ps.length vc] 25));have kR:=aK (w.alloc (.cells #[.string o,.slice (some ⟨b,0,none⟩) ps.length vc] 25)) #[.string ByteArray.empty,.slice none 0 0] 25;have k1:=bD k0 (.cells #[.string ByteArray.empty,.slice none 0 0] 25);have D1:=D0.alloc (.cells #[.string ByteArray.empty,.slice none 0 0] 25);have hlen:=hB.len;clear D;go_enter Tryz.func38,Tryz.ntmps38;go_wp2_with fail
 refine(aW g a n cap 24 _ D1.s (by decide)).mono ?_;rintro e w2 ⟨q,rfl,IK,uB,oU,mM⟩;have zT:=uB (by decide);have XL:(some g:Option Nat)≠some w.heap.size:=by intro e;simp at e;omega
 have hgR:(some g:Option Nat)≠some (w.alloc (.cells #[.string o,.slice (some ⟨b,0,none⟩) ps.length vc] 25)).heap.size:=by intro e;simp at e;omega
 have D2:=D1.step oU mM;have z2:=(z0.below ((aJ _ _).alloc (aI _) (.cells #[.string ByteArray.empty,.slice none 0 0] 25))).dr mM DC;have k2:=aO k1 mM XL;have EU:=aO kR mM hgR;rw [jO] at EU;clear k0 k1 kR D0 D1 z0 hz oU mM uB;have r2:=aA k2
 have f2:=aF k2
 have rR:=aA EU
 have fR:=aF EU
 have KC:w0.heap.size<=w.heap.size+1:=by omega
 by_cases h0:q=0
 ·subst h0;have c1:(1:Int)<=(ps.length:Int):=by omega
  have c2:(ps.length:Int)<=(vc:Int):=by omega
  go_wp2_with fail
  ·have De:=eU (c:=w.heap.size) (i:=1) (v:=.slice (some ⟨b,0,none⟩) (ps.length-1) 0) EU (by omega);have DA:=D2.set hw (.slice (some ⟨b,0,none⟩) (ps.length-1) 0) (i:=1);have zA:=dF.dS (x:=.slice (some ⟨b,0,none⟩) (ps.length-1) 0) (i:=1) z2 k2 (by decide) (by decide);have kE:=aM (aM De 0 (.string o)) 1 (.slice (some ⟨b,0,none⟩) (ps.length-1) 0);have DE:=(DA.set KC (.string o) (i:=0)).set KC (.slice (some ⟨b,0,none⟩) (ps.length-1) 0) (i:=1);have zE:=dF.dS (x:=.slice (some ⟨b,0,none⟩) (ps.length-1) 0) (i:=1) (dF.dS (x:=.string o) (i:=0) zA De (by decide) (by decide)) (aM De 0 (.string o)) (by decide) (by decide);have rE:=aA kE
   refine eB (v:=.agg #[.string o,.slice (some ⟨b,0,none⟩) (ps.length-1) 0]) ?_ rfl ?_
   rotate_left
   ·have hv:vc=1:=by omega
    have hk:=zE.has.kx;rw [hv] at hk;exact⟨_,_,ps.tail,rfl,by omega,(aKg hB.zt).zl (by omega),fun W hW=>aG9 (zE.has.kx W hW) hp (by omega),DE.d,⟨ps,hB.zt.zl (by omega),hk⟩,DE.Mo rfl⟩
   simp [results,Tryz.results38,go_sem,Result.andThen,rE]
  have De:=eU (c:=w.heap.size) (i:=1) (v:=.slice (some ⟨b,4,none⟩) (ps.length-1) (vc-1)) EU (by omega);have DA:=D2.set hw (.slice (some ⟨b,4,none⟩) (ps.length-1) (vc-1)) (i:=1);have zA:=dF.dS (x:=.slice (some ⟨b,4,none⟩) (ps.length-1) (vc-1)) (i:=1) z2 k2 (by decide) (by decide);have kE:=aM (aM De 0 (.string o)) 1 (.slice (some ⟨b,4,none⟩) (ps.length-1) (vc-1));have DE:=(DA.set KC (.string o) (i:=0)).set KC (.slice (some ⟨b,4,none⟩) (ps.length-1) (vc-1)) (i:=1);have zE:=dF.dS (x:=.slice (some ⟨b,4,none⟩) (ps.length-1) (vc-1)) (i:=1) (dF.dS (x:=.string o) (i:=0) zA De (by decide) (by decide)) (aM De 0 (.string o)) (by decide) (by decide);have rE:=aA kE
  refine eB (v:=.agg #[.string o,.slice (some ⟨b,4,none⟩) (ps.length-1) (vc-1)]) ?_ rfl ?_
  rotate_left
  ·exact⟨_,_,ps.tail,rfl,by omega,(aKg hB.zt).zl (by omega),fun W hW=>aJ2 (zE.has.kx W hW) hp,DE.d,⟨ps,hB.zt.zl (by omega),zE.has.kx⟩,DE.Mo rfl⟩
  simp [results,Tryz.results38,go_sem,Result.andThen,rE]
 by_cases h1:q=1
 ·subst h1;clear h0;obtain⟨i0,hi,iQ,iH,iI⟩:=info_parts Tryz.XG;obtain⟨p,YV⟩:=gQ hp;have Dd:=D2.below (aJ _ _).drew;have zd:=z2.below (aJ _ _).drew;have kd:=aB k2 (aJ _ _).drew;have kRd:=aB EU (aJ _ _).drew;have nZ:(0:Int)<(ps.length:Int):=by omega
  have HC:Hid (∀ X:World,X.ownsRow w0.heap.size 42 4 (.slice (some ⟨b,0,none⟩) ps.length vc) ps.length (lG ps)->X.cell? ⟨b,0,none⟩=some (.string p.1.own)∧X.cell? ⟨b,1,none⟩=some (.int .i64 p.1.ty)∧X.cell? ⟨b,2,none⟩=some (.int .i64 p.1.tt)∧X.cell? ⟨b,3,none⟩=some p.2):=fun X hX=>
   ⟨(hX.cellAt 0 (by omega)).trans ((lH ps 0 0 p YV (by decide)).trans rfl),(hX.cellAt 1 (by omega)).trans ((lH ps 0 1 p YV (by decide)).trans rfl),(hX.cellAt 2 (by omega)).trans ((lH ps 0 2 p YV (by decide)).trans rfl),(hX.cellAt 3 (by omega)).trans ((lH ps 0 3 p YV (by decide)).trans rfl)⟩
  have hc4:=HC.out _ zd.outer;have FV:w2.drew.cell? ⟨w.heap.size,1,none⟩=some (.slice (some ⟨b,0,none⟩) ps.length vc):=(aA kd 1).trans rfl;have bA:=((aJ w2.heap.size w2).alloc (aI _) (.cells #[.string p.1.own,.int .i64 p.1.ty,.int .i64 p.1.tt,p.2] 42)).drew;have zA:=z2.below bA;have kA:=aB k2 bA;have De:=aB EU bA;have DA:=D2.below bA;have hcA:=HC.out _ zA.outer;have hSA:(w2.alloc (.cells #[.string p.1.own,.int .i64 p.1.ty,.int .i64 p.1.tt,p.2] 42)).drew.cell? ⟨w.heap.size,1,none⟩=some (.slice (some ⟨b,0,none⟩) ps.length vc):=(aA kA 1).trans rfl;obtain⟨v',w5,hr,vO,UF,EL⟩:=PZ (P:=Tryz.prog) (w2.alloc (.cells #[.string p.1.own,.int .i64 p.1.ty,.int .i64 p.1.tt,p.2] 42)).drew w0.heap.size 23 23 42 i0 _ 4 56 Tryz.underlying23 hi iQ iH iI rfl (by decide) _ _ _ hp zA.outer ⟨w2.heap.size,0,none⟩ 1 1 [.string p.1.own,.int .i64 p.1.ty,.int .i64 p.1.tt,p.2] rfl (eZ w2 #[.string p.1.own,.int .i64 p.1.ty,.int .i64 p.1.tt,p.2] 42) (by intro u hu;obtain⟨qa,qc,zT⟩:=aT (zd.has.2 p (dA YV));rw [zT] at hu;simp at hu;rcases hu with rfl|rfl|rfl|rfl<;>rfl) (by unfold maxLen;omega) (by omega) (by have:=DA.size;simpa using this);have z5:=zA.has.app (dA YV) vO EL;have y5:lV w5 w0.heap.size (.slice (some ⟨b,0,none⟩) ps.length vc) ps:=⟨UF,fun r hr=>iF (zA.has.2 r hr) EL (jZ (zA.has.2 r hr) zA.outer (by decide))⟩;have k5:=aO kA EL (dD zA.outer kA (by decide));have kR5:=aO De EL (dD zA.outer De (by decide));have D5:=DA.row EL (fun q hq=>(zA.outer.lt q hq).1);have hc5:=HC.out _ UF;have hS5:w5.cell? ⟨w.heap.size,1,none⟩=some (.slice (some ⟨b,0,none⟩) ps.length vc):=(aA k5 1).trans rfl;have yX:=hB.aPp (dA YV) hN;have HH:=Nm.aD (aV yX (aV z5 (aV D5 (aV kR5 y5))));obtain⟨xa,xc,rfl⟩:=aT vO;generalize p.2=pv at*;clear r2 f2 rR fR D2 z2 k2 EU Dd zd kd kRd zA kA De DA bA vO UF EL z5 y5 D5 kR5 yX HC hi iQ iH iI;obtain⟨c0,c1,c2,c3⟩:=hc4;go_wp2_with fail
  refine kR (fun X=>X.cell? ⟨w.heap.size,1,none⟩=some (.slice (some ⟨b,0,none⟩) ps.length vc)∧X.cell? ⟨b,0,none⟩=some (.string p.1.own)∧X.cell? ⟨b,1,none⟩=some (.int .i64 p.1.ty)∧X.cell? ⟨b,2,none⟩=some (.int .i64 p.1.tt)∧X.cell? ⟨b,3,none⟩=some pv) 9 ⟨FV,c0,c1,c2,c3⟩ fun aY=>?_;refine kB 0 rfl ?_;refine kB 1 rfl ?_;refine kB 2 rfl ?_;refine kB 3 rfl ?_;refine kB 4 rfl ?_;refine kB 5 rfl ?_;refine k1 6 rfl fun K hK=>?_
  go_simp;refine hK.out _ _ ⟨hSA,hcA⟩ fun aY=>?_;clear hK K;refine k1 7 rfl fun K hK=>?_
  refine Mq rfl (.tmp 20) (.tmp 25) 23 rfl _ _ _ w5 rfl rfl hr ?_;refine hK.out _ _ ⟨hS5,hc5⟩ fun aY=>?_;clear hK K;refine kB 8 rfl ?_;have f5:=aF k5
  refine iB (by kernel_rfl) rfl (by kernel_rfl) fun K hK=>?_;go_simp;refine hK.out _ _ ?_;clear hK K aY f5 FV c0 c1 c2 c3 hcA hSA hc5 hS5 hr;have k6:=aM k5 1 (.slice xa (ps.length+1) xc);have kR6:=eU (c:=w.heap.size) (i:=1) (v:=.slice xa (ps.length+1) xc) HH.out.2.2.2.1 (by omega);have D6:=HH.out.2.2.1.set (i:=1) hw (.slice xa (ps.length+1) xc);have z6:=HH.out.2.1.dS (x:=.slice xa (ps.length+1) xc) (i:=1) k5 (by decide) (by decide);have r6:=aA k6
  have rR6:=aA kR6
  have fR6:=aF kR6
  have kE:=aM (aM kR6 0 (.string o)) 1 (.slice xa (ps.length+1) xc);have DE:=(D6.set KC (.string o) (i:=0)).set KC (.slice xa (ps.length+1) xc) (i:=1);have zE:=lV.dS (x:=.slice xa (ps.length+1) xc) (i:=1) (lV.dS (x:=.string o) (i:=0) z6 kR6 (by decide) (by decide)) (aM kR6 0 (.string o)) (by decide) (by decide);have yE:=lV.dS (x:=.slice xa (ps.length+1) xc) (i:=1) (lV.dS (x:=.string o) (i:=0) (HH.out.2.2.2.2.dS (x:=.slice xa (ps.length+1) xc) (i:=1) k5 (by decide) (by decide)) kR6 (by decide) (by decide)) (aM kR6 0 (.string o)) (by decide) (by decide);have rE:=aA kE
  have HE:=Nm.aD (aV HH.out.1 (aV zE (aV DE yE)));clear D6 z6 zE DE yE HH k5;go_wp2;refine eB (v:=.agg #[.string o,.slice xa (ps.length+1) xc]) ?_ rfl ?_
  rotate_left
  ·exact⟨_,_,_,rfl,by omega,HE.out.1,HE.out.2.1.kx,HE.out.2.2.1.d,⟨_,hB.zt.zl (by omega),HE.out.2.2.2.kx⟩,HE.out.2.2.1.Mo rfl⟩
  simp [results,Tryz.results38,go_sem,Result.andThen,rE]
 by_cases h2:q=2
 ·subst h2;clear h0 h1;go_wp2_with fail
  refine(AC g a n cap o _ D2.s (by omega)).mono ?_;rintro e w3 ⟨s,rfl,hs,sO,iZ⟩;have D3:=D2.step sO iZ;have z3:=z2.dr iZ DC;have k3:=aO k2 iZ XL;have FM:=aO EU iZ (by intro e;simp at e;omega);have kA:=aM k3 0 (.string s);have De:=eU (c:=w.heap.size) (i:=0) (v:=.string s) FM (by omega);have DA:=D3.set hw (.string s) (i:=0);have zA:=dF.dS (x:=.string s) (i:=0) z3 k3 (by decide) (by decide);clear r2 f2 rR fR D2 z2 k2 EU D3 z3 sO iZ;have r3:=aA k3
  have f3:=aF k3
  have rA:=aA kA
  have rRA:=aA De
  have fRA:=aF De
  have kE:=aM (aM De 0 (.string s)) 1 (.slice (some ⟨b,0,none⟩) ps.length vc);have DE:=(DA.set KC (.string s) (i:=0)).set KC (.slice (some ⟨b,0,none⟩) ps.length vc) (i:=1);have zE:=dF.dS (x:=.slice (some ⟨b,0,none⟩) ps.length vc) (i:=1) (dF.dS (x:=.string s) (i:=0) zA De (by decide) (by decide)) (aM De 0 (.string s)) (by decide) (by decide);have rE:=aA kE
  go_wp2;refine eB (v:=.agg #[.string s,.slice (some ⟨b,0,none⟩) ps.length vc]) ?_ rfl ?_
  rotate_left
  ·exact⟨_,_,ps,rfl,by omega,hB.zt.zl (by omega),zE.has.kx,DE.d,⟨ps,hB.zt.zl (by omega),zE.has.kx⟩,DE.Mo rfl⟩
  simp [results,Tryz.results38,go_sem,Result.andThen,rE]
 by_cases h3:q=3
 ·subst h3;clear h0 h1 h2;have Dd:=D2.below (aJ _ _).drew;have zd:=z2.below (aJ _ _).drew;have kd:=aB k2 (aJ _ _).drew;have kRd:=aB EU (aJ _ _).drew;have XT:w0.heap.size<=b:=(z2.outer.lt b rfl).1;have nZ:0<(ps.length:Int):=by omega
  have HH:=Nm.aD (aV Dd (aV zd (aV kd kRd)));have FV:w2.drew.cell? ⟨w.heap.size,1,none⟩=some (.slice (some ⟨b,0,none⟩) ps.length vc):=(aA kd 1).trans rfl;clear r2 f2 rR fR D2 z2 k2 EU Dd zd kd kRd;go_wp2_with fail
  refine kR (fun X=>X.cell? ⟨w.heap.size,1,none⟩=some (.slice (some ⟨b,0,none⟩) ps.length vc)∧True) 7 ⟨FV,trivial⟩ fun aY=>?_;refine kB 0 rfl ?_;refine kB 1 rfl ?_;refine kB 2 rfl ?_;refine kB 3 rfl ?_;refine k1 4 rfl fun K hK=>?_
  go_simp;refine(aW g a n cap (ps.length:Int) _ HH.out.1.s (by omega)).mono ?_;rintro e w3 ⟨r,rfl,GU,uG,sO,iZ⟩;have wR:=uG nZ;obtain⟨i,rfl⟩:=Int.eq_ofNat_of_zero_le GU;have EA:i<ps.length:=by omega
  obtain⟨p,Mr⟩:=gQ EA;have D3:=HH.out.1.step sO iZ;have z3:=HH.out.2.1.dr iZ DC;have uD:=aO HH.out.2.2.1 iZ XL;have FM:=aO HH.out.2.2.2 iZ (by intro e;simp at e;omega);have Hd:w3.cell? ⟨w.heap.size,1,none⟩=some (.slice (some ⟨b,0,none⟩) ps.length vc):=(aA uD 1).trans rfl;have sI:w3.cell? ⟨b,i*4+2,none⟩=some (.int .i64 p.1.tt):=(z3.outer.cellAt (i*4+2) (by omega)).trans ((lH ps i 2 p Mr (by decide)).trans rfl);have Xi:=z3.outer.frozenAt (i*4+2);clear HH uG sO iZ FV;go_wp2_with fail
  refine hK.out _ _ ⟨Hd,trivial⟩ fun aY=>?_;clear hK K;refine k1 5 rfl fun K hK=>?_
  go_simp;refine hK.out _ _ aY fun aY=>?_;clear hK K;refine k1 6 rfl fun K hK=>?_
  go_simp;refine hK.out _ _ aY fun aY=>?_;clear hK K;refine iB (by kernel_rfl) rfl (by kernel_rfl) fun K hK=>?_;go_simp;refine hK.out _ _ ?_;clear hK K aY sI Xi Hd;have yZ:b≠w.heap.size:=fun e=>dD z3.outer uD (by decide) (by rw [e];rfl)
  have hbR:b≠w.heap.size+1:=fun e=>dD z3.outer FM (by decide) (by rw [e];rfl)
  have NQ:=eU (c:=b) (i:=(i*4+2)) (v:=(.int .i64 (-1))) uD (Ne.symm yZ);have RL:=eU (c:=b) (i:=(i*4+2)) (v:=(.int .i64 (-1))) FM (Ne.symm hbR);have D4:=D3.set (i:=(i*4+2)) XT (.int .i64 (-1));have RG:(ps.set i ({p.1 with tt:= -1},p.2)).length=ps.length:=by simp
  have zh4:lV (w3.setCell ⟨b,(i*4+2),none⟩ (.int .i64 (-1))) w0.heap.size (.slice (some ⟨b,0,none⟩) ps.length vc) (ps.set i ({p.1 with tt:= -1},p.2)):=z3.has.put (i:=2) (q:=({p.1 with tt:= -1},p.2)) (y:=(.int .i64 (-1))) Mr (by decide) rfl (fun X h=>h);have yX:=(hB.zt.set (q:=({p.1 with tt:= -1},p.2)) Mr (hB.zt.one p (dA Mr)).1 (fun d hd=>hd) (aI _)).zl (by omega);have rz4:=aA NQ
  have rR4:=aA RL
  have fR4:=aF RL
  have kE:=aM (aM RL 0 (.string o)) 1 (.slice (some ⟨b,0,none⟩) ps.length vc);have DE:=(D4.set KC (.string o) (i:=0)).set KC (.slice (some ⟨b,0,none⟩) ps.length vc) (i:=1);have zE:=lV.dS (x:=.slice (some ⟨b,0,none⟩) ps.length vc) (i:=1) (lV.dS (x:=.string o) (i:=0) zh4 RL (by decide) (by decide)) (aM RL 0 (.string o)) (by decide) (by decide);have rE:=aA kE
  have HE:=Nm.aD (aV yX (aV zE DE));clear D4 zh4 yX zE DE z3 D3 RG uD FM;go_wp2;refine eB (v:=.agg #[.string o,.slice (some ⟨b,0,none⟩) ps.length vc]) ?_ rfl ?_
  rotate_left
  ·exact⟨_,_,_,rfl,by omega,HE.out.1,HE.out.2.1.kx,HE.out.2.2.d,⟨_,HE.out.1,HE.out.2.1.kx⟩,HE.out.2.2.Mo rfl⟩
  simp [results,Tryz.results38,go_sem,Result.andThen,rE]
 by_cases h4:q=4
 ·subst h4;clear h0 h1 h2 h3;have Dd:=D2.below (aJ _ _).drew;have zd:=z2.below (aJ _ _).drew;have kd:=aB k2 (aJ _ _).drew;have kRd:=aB EU (aJ _ _).drew;have XT:w0.heap.size<=b:=(z2.outer.lt b rfl).1;have nZ:0<(ps.length:Int):=by omega
  have HH:=Nm.aD (aV Dd (aV zd (aV kd kRd)));have FV:w2.drew.cell? ⟨w.heap.size,1,none⟩=some (.slice (some ⟨b,0,none⟩) ps.length vc):=(aA kd 1).trans rfl;clear r2 f2 rR fR D2 z2 k2 EU Dd zd kd kRd;go_wp2_with fail
  refine kR (fun X=>X.cell? ⟨w.heap.size,1,none⟩=some (.slice (some ⟨b,0,none⟩) ps.length vc)∧True) 7 ⟨FV,trivial⟩ fun aY=>?_;refine kB 0 rfl ?_;refine kB 1 rfl ?_;refine kB 2 rfl ?_;refine kB 3 rfl ?_;refine k1 4 rfl fun K hK=>?_
  go_simp;refine(aW g a n cap (ps.length:Int) _ HH.out.1.s (by omega)).mono ?_;rintro e w3 ⟨r,rfl,GU,uG,sO,iZ⟩;have wR:=uG nZ;obtain⟨i,rfl⟩:=Int.eq_ofNat_of_zero_le GU;have EA:i<ps.length:=by omega
  obtain⟨p,Mr⟩:=gQ EA;have D3:=HH.out.1.step sO iZ;have z3:=HH.out.2.1.dr iZ DC;have uD:=aO HH.out.2.2.1 iZ XL;have FM:=aO HH.out.2.2.2 iZ (by intro e;simp at e;omega);have Hd:w3.cell? ⟨w.heap.size,1,none⟩=some (.slice (some ⟨b,0,none⟩) ps.length vc):=(aA uD 1).trans rfl;have sI:w3.cell? ⟨b,i*4+3,none⟩=some p.2:=(z3.outer.cellAt (i*4+3) (by omega)).trans ((lH ps i 3 p Mr (by decide)).trans rfl);have Xi:=z3.outer.frozenAt (i*4+3);clear HH uG sO iZ FV;go_wp2_with fail
  refine hK.out _ _ ⟨Hd,trivial⟩ fun aY=>?_;clear hK K;refine k1 5 rfl fun K hK=>?_
  go_simp;refine hK.out _ _ aY fun aY=>?_;clear hK K;refine k1 6 rfl fun K hK=>?_
  go_simp;refine hK.out _ _ aY fun aY=>?_;clear hK K;refine iB (by kernel_rfl) rfl (by kernel_rfl) fun K hK=>?_;go_simp;refine hK.out _ _ ?_;clear hK K aY sI Xi Hd;have yZ:b≠w.heap.size:=fun e=>dD z3.outer uD (by decide) (by rw [e];rfl)
  have hbR:b≠w.heap.size+1:=fun e=>dD z3.outer FM (by decide) (by rw [e];rfl)
  have NQ:=eU (c:=b) (i:=(i*4+3)) (v:=(.slice none 0 0)) uD (Ne.symm yZ);have RL:=eU (c:=b) (i:=(i*4+3)) (v:=(.slice none 0 0)) FM (Ne.symm hbR);have D4:=D3.set (i:=(i*4+3)) XT (.slice none 0 0);have RG:(ps.set i ({p.1 with da:=[]},.slice none 0 0)).length=ps.length:=by simp
  have zh4:lV (w3.setCell ⟨b,(i*4+3),none⟩ (.slice none 0 0)) w0.heap.size (.slice (some ⟨b,0,none⟩) ps.length vc) (ps.set i ({p.1 with da:=[]},.slice none 0 0)):=z3.has.put (i:=3) (q:=({p.1 with da:=[]},.slice none 0 0)) (y:=(.slice none 0 0)) Mr (by decide) rfl (fun X h=>World.ownsRow_nil _ _ _ _);have yX:=(hB.zt.set (q:=({p.1 with da:=[]},.slice none 0 0)) Mr (hB.zt.one p (dA Mr)).1 (fun d hd=>by simp at hd) (dR _)).zl (by omega);have rz4:=aA NQ
  have rR4:=aA RL
  have fR4:=aF RL
  have kE:=aM (aM RL 0 (.string o)) 1 (.slice (some ⟨b,0,none⟩) ps.length vc);have DE:=(D4.set KC (.string o) (i:=0)).set KC (.slice (some ⟨b,0,none⟩) ps.length vc) (i:=1);have zE:=lV.dS (x:=.slice (some ⟨b,0,none⟩) ps.length vc) (i:=1) (lV.dS (x:=.string o) (i:=0) zh4 RL (by decide) (by decide)) (aM RL 0 (.string o)) (by decide) (by decide);have rE:=aA kE
  have HE:=Nm.aD (aV yX (aV zE DE));clear D4 zh4 yX zE DE z3 D3 RG uD FM;go_wp2;refine eB (v:=.agg #[.string o,.slice (some ⟨b,0,none⟩) ps.length vc]) ?_ rfl ?_
  rotate_left
  ·exact⟨_,_,_,rfl,by omega,HE.out.1,HE.out.2.1.kx,HE.out.2.2.d,⟨_,HE.out.1,HE.out.2.1.kx⟩,HE.out.2.2.Mo rfl⟩
  simp [results,Tryz.results38,go_sem,Result.andThen,rE]
 by_cases h5:q=5
 ·subst h5;clear h0 h1 h2 h3 h4;have Dd:=D2.below (aJ _ _).drew;have zd:=z2.below (aJ _ _).drew;have kd:=aB k2 (aJ _ _).drew;have kRd:=aB EU (aJ _ _).drew;have XT:w0.heap.size<=b:=(z2.outer.lt b rfl).1;obtain⟨i,hi⟩:∃ i,ps.length=i+1:=⟨ps.length-1,by omega⟩;have e1:(ps.length:Int)-1=(i:Int):=by omega
  have EA:i<ps.length:=by omega
  have j1:=fE i
  have j2:(i:Int)<(ps.length:Int):=by omega
  have C8:IntKind.i64.wrap (i:Int)=(i:Int):=Go.wrap_small _ (by omega) (by omega);obtain⟨p,Mr⟩:=gQ EA;have MJ:w2.drew.cell? ⟨b,i*4,none⟩=some (.string p.1.own):=(zd.outer.cellAt (i*4) (by omega)).trans ((lH ps i 0 p Mr (by decide)).trans rfl);have FV:w2.drew.cell? ⟨w.heap.size,1,none⟩=some (.slice (some ⟨b,0,none⟩) ps.length vc):=(aA kd 1).trans rfl;have Ga:=(hB.zt.one p (dA Mr)).1;have HH:=Nm.aD (aV Dd (aV zd (aV kd kRd)));clear r2 f2 rR fR D2 z2 k2 EU Dd zd kd kRd hi;go_wp2_with fail
  refine kR (fun X=>X.cell? ⟨w.heap.size,1,none⟩=some (.slice (some ⟨b,0,none⟩) ps.length vc)∧X.cell? ⟨b,i*4,none⟩=some (.string p.1.own)) 15 ⟨FV,MJ⟩ fun aY=>?_;refine kB 0 rfl ?_;refine kB 1 rfl ?_;refine kB 2 rfl ?_;refine kB 3 rfl ?_;refine kB 4 rfl ?_;refine kB 5 rfl ?_;refine kB 6 rfl ?_;refine kB 7 rfl ?_;refine kB 8 rfl ?_;refine kB 9 rfl ?_;refine kB 10 rfl ?_;refine kB 11 rfl ?_;refine k1 12 rfl fun K hK=>?_
  go_simp;refine(IX g a n cap p.1.own _ HH.out.1.s (by unfold maxLen;omega)).mono ?_;rintro e w3 ⟨s,rfl,hs,sO,iZ⟩;have D3:=HH.out.1.step sO iZ;have z3:=HH.out.2.1.dr iZ DC;have uD:=aO HH.out.2.2.1 iZ XL;have FM:=aO HH.out.2.2.2 iZ (by intro e;simp at e;omega);have Hd:w3.cell? ⟨w.heap.size,1,none⟩=some (.slice (some ⟨b,0,none⟩) ps.length vc):=(aA uD 1).trans rfl;have sI:w3.cell? ⟨b,i*4,none⟩=some (.string p.1.own):=(z3.outer.cellAt (i*4) (by omega)).trans ((lH ps i 0 p Mr (by decide)).trans rfl);have Xi:=z3.outer.frozenAt (i*4);clear HH sO iZ FV MJ;go_wp2_with fail
  refine hK.out _ _ ⟨Hd,sI⟩ fun aY=>?_;clear hK K;refine k1 13 rfl fun K hK=>?_
  go_simp;refine hK.out _ _ aY fun aY=>?_;clear hK K;refine k1 14 rfl fun K hK=>?_
  go_simp;refine hK.out _ _ aY fun aY=>?_;clear hK K;refine iB (by kernel_rfl) rfl (by kernel_rfl) fun K hK=>?_;go_simp;refine hK.out _ _ ?_;clear hK K aY sI Xi Hd;have yZ:b≠w.heap.size:=fun e=>dD z3.outer uD (by decide) (by rw [e];rfl)
  have hbR:b≠w.heap.size+1:=fun e=>dD z3.outer FM (by decide) (by rw [e];rfl)
  have NQ:=eU (c:=b) (i:=(i*4)) (v:=(.string s)) uD (Ne.symm yZ);have RL:=eU (c:=b) (i:=(i*4)) (v:=(.string s)) FM (Ne.symm hbR);have D4:=D3.set (i:=(i*4)) XT (.string s);have RG:(ps.set i ({p.1 with own:=s},p.2)).length=ps.length:=by simp
  have zh4:lV (w3.setCell ⟨b,(i*4),none⟩ (.string s)) w0.heap.size (.slice (some ⟨b,0,none⟩) ps.length vc) (ps.set i ({p.1 with own:=s},p.2)):=z3.has.put (i:=0) (q:=({p.1 with own:=s},p.2)) (y:=(.string s)) Mr (by decide) rfl (fun X h=>h);have yX:=(hB.zt.set (q:=({p.1 with own:=s},p.2)) Mr (by show s.size<=2000;omega) (fun d hd=>hd) (aI _)).zl (by omega);have rz4:=aA NQ
  have rR4:=aA RL
  have fR4:=aF RL
  have kE:=aM (aM RL 0 (.string o)) 1 (.slice (some ⟨b,0,none⟩) ps.length vc);have DE:=(D4.set KC (.string o) (i:=0)).set KC (.slice (some ⟨b,0,none⟩) ps.length vc) (i:=1);have zE:=lV.dS (x:=.slice (some ⟨b,0,none⟩) ps.length vc) (i:=1) (lV.dS (x:=.string o) (i:=0) zh4 RL (by decide) (by decide)) (aM RL 0 (.string o)) (by decide) (by decide);have rE:=aA kE
  have HE:=Nm.aD (aV yX (aV zE DE));clear D4 zh4 yX zE DE z3 D3 RG uD FM;go_wp2;refine eB (v:=.agg #[.string o,.slice (some ⟨b,0,none⟩) ps.length vc]) ?_ rfl ?_
  rotate_left
  ·exact⟨_,_,_,rfl,by omega,HE.out.1,HE.out.2.1.kx,HE.out.2.2.d,⟨_,HE.out.1,HE.out.2.1.kx⟩,HE.out.2.2.Mo rfl⟩
  simp [results,Tryz.results38,go_sem,Result.andThen,rE]
 by_cases h6:q=6
 ·subst h6;clear h0 h1 h2 h3 h4 h5;have kA:=aM (aM k2 0 (.string ⟨#[]⟩)) 1 (.slice none 0 0);have De:=eU (c:=w.heap.size) (i:=1) (v:=.slice none 0 0) (eU (c:=w.heap.size) (i:=0) (v:=.string ⟨#[]⟩) EU (by omega)) (by omega);have DA:=(D2.set hw (.string ⟨#[]⟩) (i:=0)).set hw (.slice none 0 0) (i:=1);have rA:=aA kA
  have rRA:=aA De
  have fRA:=aF De
  have kE:=aM (aM De 0 (.string ⟨#[]⟩)) 1 (.slice none 0 0);have DE:=(DA.set KC (.string ⟨#[]⟩) (i:=0)).set KC (.slice none 0 0) (i:=1);have zE:=fun X=>dF.nil X w0.heap.size
  have yE:=dF.dS (x:=.slice none 0 0) (i:=1) (dF.dS (x:=.string ⟨#[]⟩) (i:=0) (dF.dS (x:=.slice none 0 0) (i:=1) (dF.dS (x:=.string ⟨#[]⟩) (i:=0) z2 k2 (by decide) (by decide)) (aM k2 0 (.string ⟨#[]⟩)) (by decide) (by decide)) De (by decide) (by decide)) (aM De 0 (.string ⟨#[]⟩)) (by decide) (by decide);have rE:=aA kE
  go_wp2;refine eB (v:=.agg #[.string ⟨#[]⟩,.slice none 0 0]) ?_ rfl ?_
  rotate_left
  ·exact⟨_,_,[],rfl,by decide,(aL7 0).zl (by decide),(zE _).has.kx,DE.d,⟨ps,hB.zt.zl (by omega),yE.has.kx⟩,DE.Mo rfl⟩
  simp [results,Tryz.results38,go_sem,Result.andThen,rE]
 have n0:(q==0)=false:=beq_eq_false_iff_ne.2 h0
 have n1:(q==1)=false:=beq_eq_false_iff_ne.2 h1
 have n2:(q==2)=false:=beq_eq_false_iff_ne.2 h2
 have n3:(q==3)=false:=beq_eq_false_iff_ne.2 h3
 have n4:(q==4)=false:=beq_eq_false_iff_ne.2 h4
 have n5:(q==5)=false:=beq_eq_false_iff_ne.2 h5
 have n6:(q==6)=false:=beq_eq_false_iff_ne.2 h6
 clear h0 h1 h2 h3 h4 h5 h6;have kE:=aM (aM EU 0 (.string o)) 1 (.slice (some ⟨b,0,none⟩) ps.length vc);have DE:=(D2.set KC (.string o) (i:=0)).set KC (.slice (some ⟨b,0,none⟩) ps.length vc) (i:=1);have zE:=dF.dS (x:=.slice (some ⟨b,0,none⟩) ps.length vc) (i:=1) (dF.dS (x:=.string o) (i:=0) z2 EU (by decide) (by decide)) (aM EU 0 (.string o)) (by decide) (by decide);have rE:=aA kE
 go_wp2;refine eB (v:=.agg #[.string o,.slice (some ⟨b,0,none⟩) ps.length vc]) ?_ rfl ?_
 rotate_left
 ·exact⟨o,_,ps,rfl,by omega,hB.zt.zl (by omega),zE.has.kx,DE.d,⟨ps,hB.zt.zl (by omega),zE.has.kx⟩,DE.Mo rfl⟩
 simp [results,Tryz.results38,go_sem,Result.andThen,rE]
