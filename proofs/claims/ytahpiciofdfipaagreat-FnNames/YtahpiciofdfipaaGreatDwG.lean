import Derived.Test.YtahpiciofdfipaaGreatJTrD
import Derived.Test.YtahpiciofdfipaaGreatJICheck
import Derived.Test.YtahpiciofdfipaaGreatJNqM
import Derived.Test.YtahpiciofdfipaaGreatJNameOKs
import Derived.Test.YtahpiciofdfipaaGreatJGoodM
import Derived.Test.YtahpiciofdfipaaGreatJTiN
import Derived.Test.YtahpiciofdfipaaGreatJCmpM
import Derived.BigQuiet
namespace Go.Proofs.YtahpiciofdfipaaGreat
open Go.RowKit
set_option linter.unusedVariables false
theorem ZOwn.dr{w w1:World}{B g:Nat}{v:Value}{ps:List Zp}(h:ZOwn w B v ps)(hg:w.grownBy w1 (some g))(hl:g<B):ZOwn w1 B v ps:=
 h.beside hg (fun k e hk=>by have e:=Option.some.inj e;subst e;have:=(h.outer.lt _ hk).1;omega) (fun k e p hp hk=>by
  have e:=Option.some.inj e;subst e;obtain⟨i,hi⟩:=List.getElem?_of_mem hp;have:=((h.inner i p hi).lt _ hk).1
  omega)
theorem zrow_tl{w:World}{b cap:Nat}{ps:List Zp}(h:ZRow w (.slice (some ⟨b,0,none⟩) ps.length cap) ps)(hp:0<ps.length):ZRow w (.slice (some ⟨b,4,none⟩) (ps.length-1) (cap-1)) ps.tail:=by
 cases ps with
 |nil=>simp at hp
 |cons p qs=>simpa using zrow_tail h
theorem zrow_tl1{w:World}{b:Nat}{v:Value}{ps:List Zp}(h:ZRow w v ps)(hp:0<ps.length)(h1:ps.length<=1):ZRow w (.slice (some ⟨b,0,none⟩) (ps.length-1) 0) ps.tail:=by
 cases ps with
 |nil=>simp at hp
 |cons p qs=>
  cases qs with
  |nil=>exact⟨⟨rfl,_,_,rfl,Nat.le_refl _,by unfold maxLen;omega,fun h=>by simp at h⟩,by simp⟩
  |cons q qs=>simp at h1
theorem zt_tl{ps:List Zp}{N:Nat}(h:ZT ps N):ZT ps.tail N:=by
 cases ps with
 |nil=>exact h
 |cons p qs=>exact h.tail
def BeP(w0:World)(g:Nat)(a:Option Addr)(n cap:Nat)(e:Ending)(w':World):Prop:=∃ (o':ByteArray) (v':Value) (ps':List Zp),e=.returned (.agg #[.string o',v'])∧o'.size<=2000∧ZL ps'∧ZKp w' w0.heap.size v' ps'∧Dr w0 g a n cap w'
theorem step_app_ran{P:Program}{ops:Array Oper}{o:Oper}{a:Act}{w:World}{K:Act->World->Prop}{Q:Exit->Act->World->Prop}{E:Prop}(hgd:o.guard=none)(s x:Operand)(t:TypeId)
 (ho:o.op=.call {callee:=.builtin .append,args:=#[s,x],argTypes:=#[t,t]}) (v u v':Value) (w':World) (hs:a.eval s=v) (hx:a.eval x=u)
 (hr:(Builtin.append_ #[t,t] o.type #[v,u]).run P w=.ok v' w') (h:K (a.put o.dst v') w'):if Region.wanted o (yielded ops a.tmps)=true then Oper.wp P o a w K Q else E:=by
 have hw:Region.wanted o (yielded ops a.tmps)=true:=by simp [Region.wanted,hgd]
 rw [if_pos hw];unfold Oper.wp execOp;simp only [ho,resolve,invoke,builtin,Sem.run_bind,Sem.run_pure,Result.andThen_ok,List.map_toArray,List.map_cons,List.map_nil,hs,hx,hr];exact h
set_option maxRecDepth 100000 in
set_option maxHeartbeats 6400000 in
theorem l06Bend_any{w0:World}{g n cap:Nat}{a:Option Addr}(o:ByteArray)(v:Value)(ps:List Zp)(N:Nat)(w:World)(D:Dr w0 g a n cap w)(hz:ZOwn w w0.heap.size v ps)(hB:ZB ps N)(hN:N<=126)(hp:0<ps.length)(ho:o.size<=20):
 Calls Tryz.prog 35 #[.pointer (some ⟨g,0,none⟩),.agg #[.string o,v]] w (BeP w0 g a n cap):=by
 obtain⟨_,va,vc,rfl,hcap,hmx,_⟩:=CRow.of_owns hz.outer
 obtain⟨b,rfl⟩:∃ b,va=some ⟨b,0,none⟩:=by
  rcases hz.outer.2 with⟨h',h2⟩|⟨g',cap',cur,h',_⟩
  ·simp at h';omega
  ·simp only [Value.slice.injEq] at h';exact⟨_,h'.1⟩
 have hgl:=D.lt;have hw:=D.size;have k0:=blk_new w #[.string o,.slice (some ⟨b,0,none⟩) ps.length vc] 25;have D0:=D.alloc (.cells #[.string o,.slice (some ⟨b,0,none⟩) ps.length vc] 25);have z0:=hz.below ((Below.refl _ _).alloc (Nat.le_refl _) (.cells #[.string o,.slice (some ⟨b,0,none⟩) ps.length vc] 25));have kR:=blk_new (w.alloc (.cells #[.string o,.slice (some ⟨b,0,none⟩) ps.length vc] 25)) #[.string ByteArray.empty,.slice none 0 0] 25;have k1:=blk_alloc k0 (.cells #[.string ByteArray.empty,.slice none 0 0] 25);have D1:=D0.alloc (.cells #[.string ByteArray.empty,.slice none 0 0] 25);have hlen:=hB.len;have r0:=fun i=>blk_cell k0 i
 have r1:=fun i=>blk_cell k1 i
 clear D;go_enter Tryz.func35,Tryz.ntmps35;go_wp2_with fail
 refine(l01Next_any g a n cap 24 _ D1.s (by decide)).mono ?_;rintro e w2 ⟨q,rfl,hq0,hq1,hs2,hg2⟩;have hq2:=hq1 (by decide);have hgz:(some g:Option Nat)≠some w.heap.size:=by intro e;simp at e;omega
 have hgR:(some g:Option Nat)≠some (w.alloc (.cells #[.string o,.slice (some ⟨b,0,none⟩) ps.length vc] 25)).heap.size:=by intro e;simp at e;omega
 have D2:=D1.step hs2 hg2;have z2:=(z0.below ((Below.refl _ _).alloc (Nat.le_refl _) (.cells #[.string ByteArray.empty,.slice none 0 0] 25))).dr hg2 hgl;have k2:=blk_grown k1 hg2 hgz;have kR2:=blk_grown kR hg2 hgR;rw [World.size_alloc] at kR2;clear r0 r1 k0 k1 kR D0 D1 z0 hz hs2 hg2 hq1;have r2:=fun i=>blk_cell k2 i
 have f2:=fun i=>blk_frozen k2 i
 have rR:=fun i=>blk_cell kR2 i
 have fR:=fun i=>blk_frozen kR2 i
 have hw1:w0.heap.size<=w.heap.size+1:=by omega
 by_cases h0:q=0
 ·subst h0;have c1:(1:Int)<=(ps.length:Int):=by omega
  have c2:(ps.length:Int)<=(vc:Int):=by omega
  go_wp2_with fail
  ·have kRA:=blk_far (c:=w.heap.size) (i:=1) (v:=.slice (some ⟨b,0,none⟩) (ps.length-1) 0) kR2 (by omega);have DA:=D2.set hw (.slice (some ⟨b,0,none⟩) (ps.length-1) 0) (i:=1);have zA:=ZOwn.blk (x:=.slice (some ⟨b,0,none⟩) (ps.length-1) 0) (i:=1) z2 k2 (by decide) (by decide);have kE:=blk_set (blk_set kRA 0 (.string o)) 1 (.slice (some ⟨b,0,none⟩) (ps.length-1) 0);have DE:=(DA.set hw1 (.string o) (i:=0)).set hw1 (.slice (some ⟨b,0,none⟩) (ps.length-1) 0) (i:=1);have zE:=ZOwn.blk (x:=.slice (some ⟨b,0,none⟩) (ps.length-1) 0) (i:=1) (ZOwn.blk (x:=.string o) (i:=0) zA kRA (by decide) (by decide)) (blk_set kRA 0 (.string o)) (by decide) (by decide);have rE:=fun i=>blk_cell kE i
   refine bodyPost_ret (v:=.agg #[.string o,.slice (some ⟨b,0,none⟩) (ps.length-1) 0]) ?_ rfl ?_
   rotate_left
   ·exact⟨_,_,ps.tail,rfl,by omega,(zt_tl hB.zt).zl (by omega),fun W hW=>zrow_tl1 (zE.has.kp W hW) hp (by omega),DE⟩
   simp [results,Tryz.results35,go_sem,Result.andThen,rE]
  ·have kRA:=blk_far (c:=w.heap.size) (i:=1) (v:=.slice (some ⟨b,4,none⟩) (ps.length-1) (vc-1)) kR2 (by omega);have DA:=D2.set hw (.slice (some ⟨b,4,none⟩) (ps.length-1) (vc-1)) (i:=1);have zA:=ZOwn.blk (x:=.slice (some ⟨b,4,none⟩) (ps.length-1) (vc-1)) (i:=1) z2 k2 (by decide) (by decide);have kE:=blk_set (blk_set kRA 0 (.string o)) 1 (.slice (some ⟨b,4,none⟩) (ps.length-1) (vc-1));have DE:=(DA.set hw1 (.string o) (i:=0)).set hw1 (.slice (some ⟨b,4,none⟩) (ps.length-1) (vc-1)) (i:=1);have zE:=ZOwn.blk (x:=.slice (some ⟨b,4,none⟩) (ps.length-1) (vc-1)) (i:=1) (ZOwn.blk (x:=.string o) (i:=0) zA kRA (by decide) (by decide)) (blk_set kRA 0 (.string o)) (by decide) (by decide);have rE:=fun i=>blk_cell kE i
   refine bodyPost_ret (v:=.agg #[.string o,.slice (some ⟨b,4,none⟩) (ps.length-1) (vc-1)]) ?_ rfl ?_
   rotate_left
   ·exact⟨_,_,ps.tail,rfl,by omega,(zt_tl hB.zt).zl (by omega),fun W hW=>zrow_tl (zE.has.kp W hW) hp,DE⟩
   simp [results,Tryz.results35,go_sem,Result.andThen,rE]
 by_cases h1:q=1
 ·subst h1;clear h0;obtain⟨i0,hi,hz0,hz1,hz2⟩:=info_parts Tryz.infoSet;obtain⟨p,hp0⟩:∃ p,ps[0]? =some p:=⟨_,List.getElem?_eq_getElem hp⟩;have Dd:=D2.below (Below.refl _ _).drew;have zd:=z2.below (Below.refl _ _).drew;have kd:=blk_below k2 (Below.refl _ _).drew;have kRd:=blk_below kR2 (Below.refl _ _).drew;have hpl:(0:Int)<(ps.length:Int):=by omega
  have HC:Hid (∀ X:World,X.ownsRow w0.heap.size 44 4 (.slice (some ⟨b,0,none⟩) ps.length vc) ps.length (zpVs ps)->X.cell? ⟨b,0,none⟩=some (.string p.1.own)∧X.cell? ⟨b,1,none⟩=some (.int .i64 p.1.ty)∧X.cell? ⟨b,2,none⟩=some (.int .i64 p.1.tt)∧X.cell? ⟨b,3,none⟩=some p.2):=fun X hX=>
   ⟨(hX.cellAt 0 (by omega)).trans ((zpVs_at ps 0 0 p hp0 (by decide)).trans rfl),(hX.cellAt 1 (by omega)).trans ((zpVs_at ps 0 1 p hp0 (by decide)).trans rfl),(hX.cellAt 2 (by omega)).trans ((zpVs_at ps 0 2 p hp0 (by decide)).trans rfl),(hX.cellAt 3 (by omega)).trans ((zpVs_at ps 0 3 p hp0 (by decide)).trans rfl)⟩
  have hc4:=HC.out _ zd.outer;have hS0:w2.drew.cell? ⟨w.heap.size,1,none⟩=some (.slice (some ⟨b,0,none⟩) ps.length vc):=(blk_cell kd 1).trans rfl;have bA:=((Below.refl w2.heap.size w2).alloc (Nat.le_refl _) (.cells #[.string p.1.own,.int .i64 p.1.ty,.int .i64 p.1.tt,p.2] 44)).drew;have zA:=z2.below bA;have kA:=blk_below k2 bA;have kRA:=blk_below kR2 bA;have DA:=D2.below bA;have hcA:=HC.out _ zA.outer;have hSA:(w2.alloc (.cells #[.string p.1.own,.int .i64 p.1.ty,.int .i64 p.1.tt,p.2] 44)).drew.cell? ⟨w.heap.size,1,none⟩=some (.slice (some ⟨b,0,none⟩) ps.length vc):=(blk_cell kA 1).trans rfl;obtain⟨v',w5,hr,hown5,hkeep5,hgrow5⟩:=run_app_keep (P:=Tryz.prog) (w2.alloc (.cells #[.string p.1.own,.int .i64 p.1.ty,.int .i64 p.1.tt,p.2] 44)).drew w0.heap.size 23 23 44 i0 _ 4 56 Tryz.underlying23 hi hz0 hz1 hz2 rfl (by decide) _ _ _ hp zA.outer ⟨w2.heap.size,0,none⟩ 1 1 [.string p.1.own,.int .i64 p.1.ty,.int .i64 p.1.tt,p.2] rfl (cell_newV w2 #[.string p.1.own,.int .i64 p.1.ty,.int .i64 p.1.tt,p.2] 44) (by intro u hu;obtain⟨qa,qc,hq2⟩:=own_sl (zd.has.2 p (List.mem_of_getElem? hp0));rw [hq2] at hu;simp at hu;rcases hu with rfl|rfl|rfl|rfl<;>rfl) (by unfold maxLen;omega) (by omega) (by have:=DA.size;simpa using this);have z5:=zA.has.app (List.mem_of_getElem? hp0) hown5 hgrow5;have k5:=blk_grown kA hgrow5 (own_nb zA.outer kA (by decide));have kR5:=blk_grown kRA hgrow5 (own_nb zA.outer kRA (by decide));have D5:=DA.row hgrow5 (fun q hq=>(zA.outer.lt q hq).1);have hc5:=HC.out _ hkeep5;have hS5:w5.cell? ⟨w.heap.size,1,none⟩=some (.slice (some ⟨b,0,none⟩) ps.length vc):=(blk_cell k5 1).trans rfl;have hzl:=hB.twice (List.mem_of_getElem? hp0) hN;have HH:=Nm.hide (And.intro hzl (And.intro z5 (And.intro D5 kR5)));obtain⟨xa,xc,rfl⟩:=own_sl hown5;generalize p.2=pv at*;clear r2 f2 rR fR D2 z2 k2 kR2 Dd zd kd kRd zA kA kRA DA bA hown5 hkeep5 hgrow5 z5 D5 kR5 hzl HC hi hz0 hz1 hz2;obtain⟨c0,c1,c2,c3⟩:=hc4;go_wp2_with fail
  refine wp_region_last (fun X=>X.cell? ⟨w.heap.size,1,none⟩=some (.slice (some ⟨b,0,none⟩) ps.length vc)∧X.cell? ⟨b,0,none⟩=some (.string p.1.own)∧X.cell? ⟨b,1,none⟩=some (.int .i64 p.1.ty)∧X.cell? ⟨b,2,none⟩=some (.int .i64 p.1.tt)∧X.cell? ⟨b,3,none⟩=some pv) 9 (by kernel_rfl) ⟨hS0,c0,c1,c2,c3⟩ (fun hHeld=>?_);refine wpAnyL_take (i:=0) (v:=?_) rfl (by kernel_rfl) (by kernel_rfl) (by kernel_rfl) (by kernel_rfl) (fun _ _ _ h=>h) (Or.inl ⟨by kernel_rfl,?_⟩) (by assumption) ?_;rotate_left 1
  ·(intro W hSW;obtain⟨s1,s2,s3,s4,s5⟩:=hSW;go_simp;try (with_reducible rfl))
  refine wpAnyL_take (i:=1) (v:=?_) rfl (by kernel_rfl) (by kernel_rfl) (by kernel_rfl) (by kernel_rfl) (fun _ _ _ h=>h) (Or.inl ⟨by kernel_rfl,?_⟩) (by assumption) ?_;rotate_left 1
  ·(intro W hSW;obtain⟨s1,s2,s3,s4,s5⟩:=hSW;go_simp;try (with_reducible rfl))
  refine wpAnyL_take (i:=2) (v:=?_) rfl (by kernel_rfl) (by kernel_rfl) (by kernel_rfl) (by kernel_rfl) (fun _ _ _ h=>h) (Or.inl ⟨by kernel_rfl,?_⟩) (by assumption) ?_;rotate_left 1
  ·(intro W hSW;obtain⟨s1,s2,s3,s4,s5⟩:=hSW;go_simp;try (with_reducible rfl))
  refine wpAnyL_take (i:=3) (v:=?_) rfl (by kernel_rfl) (by kernel_rfl) (by kernel_rfl) (by kernel_rfl) (fun _ _ _ h=>h) (Or.inl ⟨by kernel_rfl,?_⟩) (by assumption) ?_;rotate_left 1
  ·(intro W hSW;obtain⟨s1,s2,s3,s4,s5⟩:=hSW;go_simp;try (with_reducible rfl))
  refine wpAnyL_take (i:=4) (v:=?_) rfl (by kernel_rfl) (by kernel_rfl) (by kernel_rfl) (by kernel_rfl) (fun _ _ _ h=>h) (Or.inl ⟨by kernel_rfl,?_⟩) (by assumption) ?_;rotate_left 1
  ·(intro W hSW;obtain⟨s1,s2,s3,s4,s5⟩:=hSW;go_simp;try (with_reducible rfl))
  refine wpAnyL_take (i:=5) (v:=?_) rfl (by kernel_rfl) (by kernel_rfl) (by kernel_rfl) (by kernel_rfl) (fun _ _ _ h=>h) (Or.inl ⟨by kernel_rfl,?_⟩) (by assumption) ?_;rotate_left 1
  ·(intro W hSW;obtain⟨s1,s2,s3,s4,s5⟩:=hSW;go_simp;try (with_reducible rfl))
  refine wpAnyL_one (i:=6) (by kernel_rfl) rfl (fun K hK=>?_);go_simp;refine hK.out _ _ ⟨hSA,hcA⟩ (fun hHeld=>?_);clear hK K;refine wpAnyL_one (i:=7) (by kernel_rfl) rfl (fun K hK=>?_);refine step_app_ran rfl (.tmp 20) (.tmp 25) 23 rfl _ _ _ w5 rfl rfl hr ?_;refine hK.out _ _ ⟨hS5,hc5⟩ (fun hHeld=>?_);clear hK K;refine wpAnyL_take (i:=8) (v:=?_) rfl (by kernel_rfl) (by kernel_rfl) (by kernel_rfl) (by kernel_rfl) (fun _ _ _ h=>h) (Or.inl ⟨by kernel_rfl,?_⟩) (by assumption) ?_;rotate_left 1
  ·(intro W hSW;obtain⟨s1,s2,s3,s4,s5⟩:=hSW;go_simp;try (with_reducible rfl))
  have g5:=fun i=>blk_cell k5 i
  have f5:=fun i=>blk_frozen k5 i
  refine wpAnyL_end (by kernel_rfl) rfl (by kernel_rfl) (fun K hK=>?_);go_simp;refine hK.out _ _ ?_;clear hK K hHeld g5 f5 hS0 c0 c1 c2 c3 hcA hSA hc5 hS5 hr;have k6:=blk_set k5 1 (.slice xa (ps.length+1) xc);have kR6:=blk_far (c:=w.heap.size) (i:=1) (v:=.slice xa (ps.length+1) xc) HH.out.2.2.2 (by omega);have D6:=HH.out.2.2.1.set (i:=1) hw (.slice xa (ps.length+1) xc);have z6:=HH.out.2.1.blk (x:=.slice xa (ps.length+1) xc) (i:=1) k5 (by decide) (by decide);have r6:=fun i=>blk_cell k6 i
  have rR6:=fun i=>blk_cell kR6 i
  have fR6:=fun i=>blk_frozen kR6 i
  have kE:=blk_set (blk_set kR6 0 (.string o)) 1 (.slice xa (ps.length+1) xc);have DE:=(D6.set hw1 (.string o) (i:=0)).set hw1 (.slice xa (ps.length+1) xc) (i:=1);have zE:=ZHas.blk (x:=.slice xa (ps.length+1) xc) (i:=1) (ZHas.blk (x:=.string o) (i:=0) z6 kR6 (by decide) (by decide)) (blk_set kR6 0 (.string o)) (by decide) (by decide);have rE:=fun i=>blk_cell kE i
  have HE:=Nm.hide (And.intro HH.out.1 (And.intro zE DE));clear D6 z6 zE DE HH k5;go_wp2;refine bodyPost_ret (v:=.agg #[.string o,.slice xa (ps.length+1) xc]) ?_ rfl ?_
  rotate_left
  ·exact⟨_,_,_,rfl,by omega,HE.out.1,HE.out.2.1.kp,HE.out.2.2⟩
  simp [results,Tryz.results35,go_sem,Result.andThen,rE]
 by_cases h2:q=2
 ·subst h2;clear h0 h1;go_wp2_with fail
  refine(l01Near_any g a n cap o _ D2.s (by omega)).mono ?_;rintro e w3 ⟨s,rfl,hs,hs3,hg3⟩;have D3:=D2.step hs3 hg3;have z3:=z2.dr hg3 hgl;have k3:=blk_grown k2 hg3 hgz;have kR3:=blk_grown kR2 hg3 (by intro e;simp at e;omega);have kA:=blk_set k3 0 (.string s);have kRA:=blk_far (c:=w.heap.size) (i:=0) (v:=.string s) kR3 (by omega);have DA:=D3.set hw (.string s) (i:=0);have zA:=ZOwn.blk (x:=.string s) (i:=0) z3 k3 (by decide) (by decide);clear r2 f2 rR fR D2 z2 k2 kR2 D3 z3 hs3 hg3;have r3:=fun i=>blk_cell k3 i
  have f3:=fun i=>blk_frozen k3 i
  have rA:=fun i=>blk_cell kA i
  have rRA:=fun i=>blk_cell kRA i
  have fRA:=fun i=>blk_frozen kRA i
  have kE:=blk_set (blk_set kRA 0 (.string s)) 1 (.slice (some ⟨b,0,none⟩) ps.length vc);have DE:=(DA.set hw1 (.string s) (i:=0)).set hw1 (.slice (some ⟨b,0,none⟩) ps.length vc) (i:=1);have zE:=ZOwn.blk (x:=.slice (some ⟨b,0,none⟩) ps.length vc) (i:=1) (ZOwn.blk (x:=.string s) (i:=0) zA kRA (by decide) (by decide)) (blk_set kRA 0 (.string s)) (by decide) (by decide);have rE:=fun i=>blk_cell kE i
  go_wp2;refine bodyPost_ret (v:=.agg #[.string s,.slice (some ⟨b,0,none⟩) ps.length vc]) ?_ rfl ?_
  rotate_left
  ·exact⟨_,_,ps,rfl,by omega,hB.zt.zl (by omega),zE.has.kp,DE⟩
  simp [results,Tryz.results35,go_sem,Result.andThen,rE]
 by_cases h3:q=3
 ·subst h3;clear h0 h1 h2;have Dd:=D2.below (Below.refl _ _).drew;have zd:=z2.below (Below.refl _ _).drew;have kd:=blk_below k2 (Below.refl _ _).drew;have kRd:=blk_below kR2 (Below.refl _ _).drew;have hb0:w0.heap.size<=b:=(z2.outer.lt b rfl).1;have hpl:0<(ps.length:Int):=by omega
  have HH:=Nm.hide (And.intro Dd (And.intro zd (And.intro kd kRd)));have hS0:w2.drew.cell? ⟨w.heap.size,1,none⟩=some (.slice (some ⟨b,0,none⟩) ps.length vc):=(blk_cell kd 1).trans rfl;clear r2 f2 rR fR D2 z2 k2 kR2 Dd zd kd kRd;go_wp2_with fail
  refine wp_region_last (fun X=>X.cell? ⟨w.heap.size,1,none⟩=some (.slice (some ⟨b,0,none⟩) ps.length vc)∧True) 7 (by kernel_rfl) ⟨hS0,trivial⟩ (fun hHeld=>?_);refine wpAnyL_take (i:=0) (v:=?_) rfl (by kernel_rfl) (by kernel_rfl) (by kernel_rfl) (by kernel_rfl) (fun _ _ _ h=>h) (Or.inl ⟨by kernel_rfl,?_⟩) (by assumption) ?_;rotate_left 1
  ·(intro W hSW;obtain⟨s1,s2⟩:=hSW;go_simp;try (with_reducible rfl))
  refine wpAnyL_take (i:=1) (v:=?_) rfl (by kernel_rfl) (by kernel_rfl) (by kernel_rfl) (by kernel_rfl) (fun _ _ _ h=>h) (Or.inl ⟨by kernel_rfl,?_⟩) (by assumption) ?_;rotate_left 1
  ·(intro W hSW;obtain⟨s1,s2⟩:=hSW;go_simp;try (with_reducible rfl))
  refine wpAnyL_take (i:=2) (v:=?_) rfl (by kernel_rfl) (by kernel_rfl) (by kernel_rfl) (by kernel_rfl) (fun _ _ _ h=>h) (Or.inl ⟨by kernel_rfl,?_⟩) (by assumption) ?_;rotate_left 1
  ·(intro W hSW;obtain⟨s1,s2⟩:=hSW;go_simp;try (with_reducible rfl))
  refine wpAnyL_take (i:=3) (v:=?_) rfl (by kernel_rfl) (by kernel_rfl) (by kernel_rfl) (by kernel_rfl) (fun _ _ _ h=>h) (Or.inl ⟨by kernel_rfl,?_⟩) (by assumption) ?_;rotate_left 1
  ·(intro W hSW;obtain⟨s1,s2⟩:=hSW;go_simp;try (with_reducible rfl))
  refine wpAnyL_one (i:=4) (by kernel_rfl) rfl (fun K hK=>?_);go_simp;refine(l01Next_any g a n cap (ps.length:Int) _ HH.out.1.s (by omega)).mono ?_;rintro e w3 ⟨r,rfl,hr0,hr1,hs3,hg3⟩;have hr2:=hr1 hpl;obtain⟨i,rfl⟩:=Int.eq_ofNat_of_zero_le hr0;have hil:i<ps.length:=by omega
  obtain⟨p,hpi⟩:∃ p,ps[i]? =some p:=⟨_,List.getElem?_eq_getElem hil⟩;have D3:=HH.out.1.step hs3 hg3;have z3:=HH.out.2.1.dr hg3 hgl;have kz3:=blk_grown HH.out.2.2.1 hg3 hgz;have kR3:=blk_grown HH.out.2.2.2 hg3 (by intro e;simp at e;omega);have hS3:w3.cell? ⟨w.heap.size,1,none⟩=some (.slice (some ⟨b,0,none⟩) ps.length vc):=(blk_cell kz3 1).trans rfl;have hcl:w3.cell? ⟨b,i*4+2,none⟩=some (.int .i64 p.1.tt):=(z3.outer.cellAt (i*4+2) (by omega)).trans ((zpVs_at ps i 2 p hpi (by decide)).trans rfl);have hfr:=z3.outer.frozenAt (i*4+2);clear HH hr1 hs3 hg3 hS0;go_wp2_with fail
  refine hK.out _ _ ⟨hS3,trivial⟩ (fun hHeld=>?_);clear hK K;refine wpAnyL_one (i:=5) (by kernel_rfl) rfl (fun K hK=>?_);go_simp;refine hK.out _ _ hHeld (fun hHeld=>?_);clear hK K;refine wpAnyL_one (i:=6) (by kernel_rfl) rfl (fun K hK=>?_);go_simp;refine hK.out _ _ hHeld (fun hHeld=>?_);clear hK K;refine wpAnyL_end (by kernel_rfl) rfl (by kernel_rfl) (fun K hK=>?_);go_simp;refine hK.out _ _ ?_;clear hK K hHeld hcl hfr hS3;have hbz:b≠w.heap.size:=fun e=>own_nb z3.outer kz3 (by decide) (by rw [e];rfl)
  have hbR:b≠w.heap.size+1:=fun e=>own_nb z3.outer kR3 (by decide) (by rw [e];rfl)
  have kz4:=blk_far (c:=b) (i:=(i*4+2)) (v:=(.int .i64 (-1))) kz3 (Ne.symm hbz);have kR4:=blk_far (c:=b) (i:=(i*4+2)) (v:=(.int .i64 (-1))) kR3 (Ne.symm hbR);have D4:=D3.set (i:=(i*4+2)) hb0 (.int .i64 (-1));have hps:(ps.set i ({p.1 with tt:= -1},p.2)).length=ps.length:=by simp
  have zh4:ZHas (w3.setCell ⟨b,(i*4+2),none⟩ (.int .i64 (-1))) w0.heap.size (.slice (some ⟨b,0,none⟩) ps.length vc) (ps.set i ({p.1 with tt:= -1},p.2)):=z3.has.put (i:=2) (q:=({p.1 with tt:= -1},p.2)) (y:=(.int .i64 (-1))) hpi (by decide) rfl (fun X h=>h);have hzl:=(hB.zt.set (q:=({p.1 with tt:= -1},p.2)) hpi (hB.zt.one p (List.mem_of_getElem? hpi)).1 (fun d hd=>hd) (Nat.le_refl _)).zl (by omega);have rz4:=fun i=>blk_cell kz4 i
  have rR4:=fun i=>blk_cell kR4 i
  have fR4:=fun i=>blk_frozen kR4 i
  have kE:=blk_set (blk_set kR4 0 (.string o)) 1 (.slice (some ⟨b,0,none⟩) ps.length vc);have DE:=(D4.set hw1 (.string o) (i:=0)).set hw1 (.slice (some ⟨b,0,none⟩) ps.length vc) (i:=1);have zE:=ZHas.blk (x:=.slice (some ⟨b,0,none⟩) ps.length vc) (i:=1) (ZHas.blk (x:=.string o) (i:=0) zh4 kR4 (by decide) (by decide)) (blk_set kR4 0 (.string o)) (by decide) (by decide);have rE:=fun i=>blk_cell kE i
  have HE:=Nm.hide (And.intro hzl (And.intro zE DE));clear D4 zh4 hzl zE DE z3 D3 hps kz3 kR3;go_wp2;refine bodyPost_ret (v:=.agg #[.string o,.slice (some ⟨b,0,none⟩) ps.length vc]) ?_ rfl ?_
  rotate_left
  ·exact⟨_,_,_,rfl,by omega,HE.out.1,HE.out.2.1.kp,HE.out.2.2⟩
  simp [results,Tryz.results35,go_sem,Result.andThen,rE]
 by_cases h4:q=4
 ·subst h4;clear h0 h1 h2 h3;have Dd:=D2.below (Below.refl _ _).drew;have zd:=z2.below (Below.refl _ _).drew;have kd:=blk_below k2 (Below.refl _ _).drew;have kRd:=blk_below kR2 (Below.refl _ _).drew;have hb0:w0.heap.size<=b:=(z2.outer.lt b rfl).1;have hpl:0<(ps.length:Int):=by omega
  have HH:=Nm.hide (And.intro Dd (And.intro zd (And.intro kd kRd)));have hS0:w2.drew.cell? ⟨w.heap.size,1,none⟩=some (.slice (some ⟨b,0,none⟩) ps.length vc):=(blk_cell kd 1).trans rfl;clear r2 f2 rR fR D2 z2 k2 kR2 Dd zd kd kRd;go_wp2_with fail
  refine wp_region_last (fun X=>X.cell? ⟨w.heap.size,1,none⟩=some (.slice (some ⟨b,0,none⟩) ps.length vc)∧True) 7 (by kernel_rfl) ⟨hS0,trivial⟩ (fun hHeld=>?_);refine wpAnyL_take (i:=0) (v:=?_) rfl (by kernel_rfl) (by kernel_rfl) (by kernel_rfl) (by kernel_rfl) (fun _ _ _ h=>h) (Or.inl ⟨by kernel_rfl,?_⟩) (by assumption) ?_;rotate_left 1
  ·(intro W hSW;obtain⟨s1,s2⟩:=hSW;go_simp;try (with_reducible rfl))
  refine wpAnyL_take (i:=1) (v:=?_) rfl (by kernel_rfl) (by kernel_rfl) (by kernel_rfl) (by kernel_rfl) (fun _ _ _ h=>h) (Or.inl ⟨by kernel_rfl,?_⟩) (by assumption) ?_;rotate_left 1
  ·(intro W hSW;obtain⟨s1,s2⟩:=hSW;go_simp;try (with_reducible rfl))
  refine wpAnyL_take (i:=2) (v:=?_) rfl (by kernel_rfl) (by kernel_rfl) (by kernel_rfl) (by kernel_rfl) (fun _ _ _ h=>h) (Or.inl ⟨by kernel_rfl,?_⟩) (by assumption) ?_;rotate_left 1
  ·(intro W hSW;obtain⟨s1,s2⟩:=hSW;go_simp;try (with_reducible rfl))
  refine wpAnyL_take (i:=3) (v:=?_) rfl (by kernel_rfl) (by kernel_rfl) (by kernel_rfl) (by kernel_rfl) (fun _ _ _ h=>h) (Or.inl ⟨by kernel_rfl,?_⟩) (by assumption) ?_;rotate_left 1
  ·(intro W hSW;obtain⟨s1,s2⟩:=hSW;go_simp;try (with_reducible rfl))
  refine wpAnyL_one (i:=4) (by kernel_rfl) rfl (fun K hK=>?_);go_simp;refine(l01Next_any g a n cap (ps.length:Int) _ HH.out.1.s (by omega)).mono ?_;rintro e w3 ⟨r,rfl,hr0,hr1,hs3,hg3⟩;have hr2:=hr1 hpl;obtain⟨i,rfl⟩:=Int.eq_ofNat_of_zero_le hr0;have hil:i<ps.length:=by omega
  obtain⟨p,hpi⟩:∃ p,ps[i]? =some p:=⟨_,List.getElem?_eq_getElem hil⟩;have D3:=HH.out.1.step hs3 hg3;have z3:=HH.out.2.1.dr hg3 hgl;have kz3:=blk_grown HH.out.2.2.1 hg3 hgz;have kR3:=blk_grown HH.out.2.2.2 hg3 (by intro e;simp at e;omega);have hS3:w3.cell? ⟨w.heap.size,1,none⟩=some (.slice (some ⟨b,0,none⟩) ps.length vc):=(blk_cell kz3 1).trans rfl;have hcl:w3.cell? ⟨b,i*4+3,none⟩=some p.2:=(z3.outer.cellAt (i*4+3) (by omega)).trans ((zpVs_at ps i 3 p hpi (by decide)).trans rfl);have hfr:=z3.outer.frozenAt (i*4+3);clear HH hr1 hs3 hg3 hS0;go_wp2_with fail
  refine hK.out _ _ ⟨hS3,trivial⟩ (fun hHeld=>?_);clear hK K;refine wpAnyL_one (i:=5) (by kernel_rfl) rfl (fun K hK=>?_);go_simp;refine hK.out _ _ hHeld (fun hHeld=>?_);clear hK K;refine wpAnyL_one (i:=6) (by kernel_rfl) rfl (fun K hK=>?_);go_simp;refine hK.out _ _ hHeld (fun hHeld=>?_);clear hK K;refine wpAnyL_end (by kernel_rfl) rfl (by kernel_rfl) (fun K hK=>?_);go_simp;refine hK.out _ _ ?_;clear hK K hHeld hcl hfr hS3;have hbz:b≠w.heap.size:=fun e=>own_nb z3.outer kz3 (by decide) (by rw [e];rfl)
  have hbR:b≠w.heap.size+1:=fun e=>own_nb z3.outer kR3 (by decide) (by rw [e];rfl)
  have kz4:=blk_far (c:=b) (i:=(i*4+3)) (v:=(.slice none 0 0)) kz3 (Ne.symm hbz);have kR4:=blk_far (c:=b) (i:=(i*4+3)) (v:=(.slice none 0 0)) kR3 (Ne.symm hbR);have D4:=D3.set (i:=(i*4+3)) hb0 (.slice none 0 0);have hps:(ps.set i ({p.1 with da:=[]},.slice none 0 0)).length=ps.length:=by simp
  have zh4:ZHas (w3.setCell ⟨b,(i*4+3),none⟩ (.slice none 0 0)) w0.heap.size (.slice (some ⟨b,0,none⟩) ps.length vc) (ps.set i ({p.1 with da:=[]},.slice none 0 0)):=z3.has.put (i:=3) (q:=({p.1 with da:=[]},.slice none 0 0)) (y:=(.slice none 0 0)) hpi (by decide) rfl (fun X h=>World.ownsRow_nil _ _ _ _);have hzl:=(hB.zt.set (q:=({p.1 with da:=[]},.slice none 0 0)) hpi (hB.zt.one p (List.mem_of_getElem? hpi)).1 (fun d hd=>by simp at hd) (Nat.zero_le _)).zl (by omega);have rz4:=fun i=>blk_cell kz4 i
  have rR4:=fun i=>blk_cell kR4 i
  have fR4:=fun i=>blk_frozen kR4 i
  have kE:=blk_set (blk_set kR4 0 (.string o)) 1 (.slice (some ⟨b,0,none⟩) ps.length vc);have DE:=(D4.set hw1 (.string o) (i:=0)).set hw1 (.slice (some ⟨b,0,none⟩) ps.length vc) (i:=1);have zE:=ZHas.blk (x:=.slice (some ⟨b,0,none⟩) ps.length vc) (i:=1) (ZHas.blk (x:=.string o) (i:=0) zh4 kR4 (by decide) (by decide)) (blk_set kR4 0 (.string o)) (by decide) (by decide);have rE:=fun i=>blk_cell kE i
  have HE:=Nm.hide (And.intro hzl (And.intro zE DE));clear D4 zh4 hzl zE DE z3 D3 hps kz3 kR3;go_wp2;refine bodyPost_ret (v:=.agg #[.string o,.slice (some ⟨b,0,none⟩) ps.length vc]) ?_ rfl ?_
  rotate_left
  ·exact⟨_,_,_,rfl,by omega,HE.out.1,HE.out.2.1.kp,HE.out.2.2⟩
  simp [results,Tryz.results35,go_sem,Result.andThen,rE]
 by_cases h5:q=5
 ·subst h5;clear h0 h1 h2 h3 h4;have Dd:=D2.below (Below.refl _ _).drew;have zd:=z2.below (Below.refl _ _).drew;have kd:=blk_below k2 (Below.refl _ _).drew;have kRd:=blk_below kR2 (Below.refl _ _).drew;have hb0:w0.heap.size<=b:=(z2.outer.lt b rfl).1;obtain⟨i,hi⟩:∃ i,ps.length=i+1:=⟨ps.length-1,by omega⟩;have e1:(ps.length:Int)-1=(i:Int):=by omega
  have hil:i<ps.length:=by omega
  have j1:(0:Int)<=(i:Int):=by omega
  have j2:(i:Int)<(ps.length:Int):=by omega
  have hwi:IntKind.i64.wrap (i:Int)=(i:Int):=Go.wrap_small _ (by omega) (by omega);obtain⟨p,hpi⟩:∃ p,ps[i]? =some p:=⟨_,List.getElem?_eq_getElem hil⟩;have hS1:w2.drew.cell? ⟨b,i*4,none⟩=some (.string p.1.own):=(zd.outer.cellAt (i*4) (by omega)).trans ((zpVs_at ps i 0 p hpi (by decide)).trans rfl);have hS0:w2.drew.cell? ⟨w.heap.size,1,none⟩=some (.slice (some ⟨b,0,none⟩) ps.length vc):=(blk_cell kd 1).trans rfl;have hop:=(hB.zt.one p (List.mem_of_getElem? hpi)).1;have HH:=Nm.hide (And.intro Dd (And.intro zd (And.intro kd kRd)));have HI:=Nm.hide hi;clear r2 f2 rR fR D2 z2 k2 kR2 Dd zd kd kRd hi;go_wp2_with fail
  refine wp_region_last (fun X=>X.cell? ⟨w.heap.size,1,none⟩=some (.slice (some ⟨b,0,none⟩) ps.length vc)∧X.cell? ⟨b,i*4,none⟩=some (.string p.1.own)) 15 (by kernel_rfl) ⟨hS0,hS1⟩ (fun hHeld=>?_);refine wpAnyL_take (i:=0) (v:=?_) rfl (by kernel_rfl) (by kernel_rfl) (by kernel_rfl) (by kernel_rfl) (fun _ _ _ h=>h) (Or.inl ⟨by kernel_rfl,?_⟩) (by assumption) ?_;rotate_left 1
  ·(intro W hSW;obtain⟨s1,s2⟩:=hSW;go_simp;try (with_reducible rfl))
  refine wpAnyL_take (i:=1) (v:=?_) rfl (by kernel_rfl) (by kernel_rfl) (by kernel_rfl) (by kernel_rfl) (fun _ _ _ h=>h) (Or.inl ⟨by kernel_rfl,?_⟩) (by assumption) ?_;rotate_left 1
  ·(intro W hSW;obtain⟨s1,s2⟩:=hSW;go_simp;try (with_reducible rfl))
  refine wpAnyL_take (i:=2) (v:=?_) rfl (by kernel_rfl) (by kernel_rfl) (by kernel_rfl) (by kernel_rfl) (fun _ _ _ h=>h) (Or.inl ⟨by kernel_rfl,?_⟩) (by assumption) ?_;rotate_left 1
  ·(intro W hSW;obtain⟨s1,s2⟩:=hSW;go_simp;try (with_reducible rfl))
  refine wpAnyL_take (i:=3) (v:=?_) rfl (by kernel_rfl) (by kernel_rfl) (by kernel_rfl) (by kernel_rfl) (fun _ _ _ h=>h) (Or.inl ⟨by kernel_rfl,?_⟩) (by assumption) ?_;rotate_left 1
  ·(intro W hSW;obtain⟨s1,s2⟩:=hSW;go_simp;try (with_reducible rfl))
  refine wpAnyL_take (i:=4) (v:=?_) rfl (by kernel_rfl) (by kernel_rfl) (by kernel_rfl) (by kernel_rfl) (fun _ _ _ h=>h) (Or.inl ⟨by kernel_rfl,?_⟩) (by assumption) ?_;rotate_left 1
  ·(intro W hSW;obtain⟨s1,s2⟩:=hSW;go_simp;try (with_reducible rfl))
  refine wpAnyL_take (i:=5) (v:=?_) rfl (by kernel_rfl) (by kernel_rfl) (by kernel_rfl) (by kernel_rfl) (fun _ _ _ h=>h) (Or.inl ⟨by kernel_rfl,?_⟩) (by assumption) ?_;rotate_left 1
  ·(intro W hSW;obtain⟨s1,s2⟩:=hSW;go_simp;try (with_reducible rfl))
  refine wpAnyL_take (i:=6) (v:=?_) rfl (by kernel_rfl) (by kernel_rfl) (by kernel_rfl) (by kernel_rfl) (fun _ _ _ h=>h) (Or.inl ⟨by kernel_rfl,?_⟩) (by assumption) ?_;rotate_left 1
  ·(intro W hSW;obtain⟨s1,s2⟩:=hSW;go_simp;try (with_reducible rfl))
  refine wpAnyL_take (i:=7) (v:=?_) rfl (by kernel_rfl) (by kernel_rfl) (by kernel_rfl) (by kernel_rfl) (fun _ _ _ h=>h) (Or.inl ⟨by kernel_rfl,?_⟩) (by assumption) ?_;rotate_left 1
  ·(intro W hSW;obtain⟨s1,s2⟩:=hSW;go_simp;try (with_reducible rfl))
  refine wpAnyL_take (i:=8) (v:=?_) rfl (by kernel_rfl) (by kernel_rfl) (by kernel_rfl) (by kernel_rfl) (fun _ _ _ h=>h) (Or.inl ⟨by kernel_rfl,?_⟩) (by assumption) ?_;rotate_left 1
  ·(intro W hSW;obtain⟨s1,s2⟩:=hSW;go_simp;try (with_reducible rfl))
  refine wpAnyL_take (i:=9) (v:=?_) rfl (by kernel_rfl) (by kernel_rfl) (by kernel_rfl) (by kernel_rfl) (fun _ _ _ h=>h) (Or.inl ⟨by kernel_rfl,?_⟩) (by assumption) ?_;rotate_left 1
  ·(intro W hSW;obtain⟨s1,s2⟩:=hSW;go_simp;try (with_reducible rfl))
  refine wpAnyL_take (i:=10) (v:=?_) rfl (by kernel_rfl) (by kernel_rfl) (by kernel_rfl) (by kernel_rfl) (fun _ _ _ h=>h) (Or.inl ⟨by kernel_rfl,?_⟩) (by assumption) ?_;rotate_left 1
  ·(intro W hSW;obtain⟨s1,s2⟩:=hSW;go_simp;try (with_reducible rfl))
  refine wpAnyL_take (i:=11) (v:=?_) rfl (by kernel_rfl) (by kernel_rfl) (by kernel_rfl) (by kernel_rfl) (fun _ _ _ h=>h) (Or.inl ⟨by kernel_rfl,?_⟩) (by assumption) ?_;rotate_left 1
  ·(intro W hSW;obtain⟨s1,s2⟩:=hSW;go_simp;try (with_reducible rfl))
  refine wpAnyL_one (i:=12) (by kernel_rfl) rfl (fun K hK=>?_);go_simp;refine(l01Case_any g a n cap p.1.own _ HH.out.1.s (by unfold maxLen;omega)).mono ?_;rintro e w3 ⟨s,rfl,hs,hs3,hg3⟩;have D3:=HH.out.1.step hs3 hg3;have z3:=HH.out.2.1.dr hg3 hgl;have kz3:=blk_grown HH.out.2.2.1 hg3 hgz;have kR3:=blk_grown HH.out.2.2.2 hg3 (by intro e;simp at e;omega);have hS3:w3.cell? ⟨w.heap.size,1,none⟩=some (.slice (some ⟨b,0,none⟩) ps.length vc):=(blk_cell kz3 1).trans rfl;have hcl:w3.cell? ⟨b,i*4,none⟩=some (.string p.1.own):=(z3.outer.cellAt (i*4) (by omega)).trans ((zpVs_at ps i 0 p hpi (by decide)).trans rfl);have hfr:=z3.outer.frozenAt (i*4);clear HH hs3 hg3 hS0 hS1;go_wp2_with fail
  refine hK.out _ _ ⟨hS3,hcl⟩ (fun hHeld=>?_);clear hK K;refine wpAnyL_one (i:=13) (by kernel_rfl) rfl (fun K hK=>?_);go_simp;refine hK.out _ _ hHeld (fun hHeld=>?_);clear hK K;refine wpAnyL_one (i:=14) (by kernel_rfl) rfl (fun K hK=>?_);go_simp;refine hK.out _ _ hHeld (fun hHeld=>?_);clear hK K;refine wpAnyL_end (by kernel_rfl) rfl (by kernel_rfl) (fun K hK=>?_);go_simp;refine hK.out _ _ ?_;clear hK K hHeld hcl hfr hS3;have hbz:b≠w.heap.size:=fun e=>own_nb z3.outer kz3 (by decide) (by rw [e];rfl)
  have hbR:b≠w.heap.size+1:=fun e=>own_nb z3.outer kR3 (by decide) (by rw [e];rfl)
  have kz4:=blk_far (c:=b) (i:=(i*4)) (v:=(.string s)) kz3 (Ne.symm hbz);have kR4:=blk_far (c:=b) (i:=(i*4)) (v:=(.string s)) kR3 (Ne.symm hbR);have D4:=D3.set (i:=(i*4)) hb0 (.string s);have hps:(ps.set i ({p.1 with own:=s},p.2)).length=ps.length:=by simp
  have zh4:ZHas (w3.setCell ⟨b,(i*4),none⟩ (.string s)) w0.heap.size (.slice (some ⟨b,0,none⟩) ps.length vc) (ps.set i ({p.1 with own:=s},p.2)):=z3.has.put (i:=0) (q:=({p.1 with own:=s},p.2)) (y:=(.string s)) hpi (by decide) rfl (fun X h=>h);have hzl:=(hB.zt.set (q:=({p.1 with own:=s},p.2)) hpi (by show s.size<=2000;omega) (fun d hd=>hd) (Nat.le_refl _)).zl (by omega);have rz4:=fun i=>blk_cell kz4 i
  have rR4:=fun i=>blk_cell kR4 i
  have fR4:=fun i=>blk_frozen kR4 i
  have kE:=blk_set (blk_set kR4 0 (.string o)) 1 (.slice (some ⟨b,0,none⟩) ps.length vc);have DE:=(D4.set hw1 (.string o) (i:=0)).set hw1 (.slice (some ⟨b,0,none⟩) ps.length vc) (i:=1);have zE:=ZHas.blk (x:=.slice (some ⟨b,0,none⟩) ps.length vc) (i:=1) (ZHas.blk (x:=.string o) (i:=0) zh4 kR4 (by decide) (by decide)) (blk_set kR4 0 (.string o)) (by decide) (by decide);have rE:=fun i=>blk_cell kE i
  have HE:=Nm.hide (And.intro hzl (And.intro zE DE));clear D4 zh4 hzl zE DE z3 D3 hps kz3 kR3;go_wp2;refine bodyPost_ret (v:=.agg #[.string o,.slice (some ⟨b,0,none⟩) ps.length vc]) ?_ rfl ?_
  rotate_left
  ·exact⟨_,_,_,rfl,by omega,HE.out.1,HE.out.2.1.kp,HE.out.2.2⟩
  simp [results,Tryz.results35,go_sem,Result.andThen,rE]
 by_cases h6:q=6
 ·subst h6;clear h0 h1 h2 h3 h4 h5;have kA:=blk_set (blk_set k2 0 (.string ⟨#[]⟩)) 1 (.slice none 0 0);have kRA:=blk_far (c:=w.heap.size) (i:=1) (v:=.slice none 0 0) (blk_far (c:=w.heap.size) (i:=0) (v:=.string ⟨#[]⟩) kR2 (by omega)) (by omega);have DA:=(D2.set hw (.string ⟨#[]⟩) (i:=0)).set hw (.slice none 0 0) (i:=1);have rA:=fun i=>blk_cell kA i
  have rRA:=fun i=>blk_cell kRA i
  have fRA:=fun i=>blk_frozen kRA i
  have kE:=blk_set (blk_set kRA 0 (.string ⟨#[]⟩)) 1 (.slice none 0 0);have DE:=(DA.set hw1 (.string ⟨#[]⟩) (i:=0)).set hw1 (.slice none 0 0) (i:=1);have zE:=fun X=>ZOwn.nil X w0.heap.size
  have rE:=fun i=>blk_cell kE i
  go_wp2;refine bodyPost_ret (v:=.agg #[.string ⟨#[]⟩,.slice none 0 0]) ?_ rfl ?_
  rotate_left
  ·exact⟨_,_,[],rfl,by decide,(zt_nil 0).zl (by decide),(zE _).has.kp,DE⟩
  simp [results,Tryz.results35,go_sem,Result.andThen,rE]
 ·have n0:(q==0)=false:=by rw [beq_eq_false_iff_ne];exact h0
  have n1:(q==1)=false:=by rw [beq_eq_false_iff_ne];exact h1
  have n2:(q==2)=false:=by rw [beq_eq_false_iff_ne];exact h2
  have n3:(q==3)=false:=by rw [beq_eq_false_iff_ne];exact h3
  have n4:(q==4)=false:=by rw [beq_eq_false_iff_ne];exact h4
  have n5:(q==5)=false:=by rw [beq_eq_false_iff_ne];exact h5
  have n6:(q==6)=false:=by rw [beq_eq_false_iff_ne];exact h6
  clear h0 h1 h2 h3 h4 h5 h6;have kE:=blk_set (blk_set kR2 0 (.string o)) 1 (.slice (some ⟨b,0,none⟩) ps.length vc);have DE:=(D2.set hw1 (.string o) (i:=0)).set hw1 (.slice (some ⟨b,0,none⟩) ps.length vc) (i:=1);have zE:=ZOwn.blk (x:=.slice (some ⟨b,0,none⟩) ps.length vc) (i:=1) (ZOwn.blk (x:=.string o) (i:=0) z2 kR2 (by decide) (by decide)) (blk_set kR2 0 (.string o)) (by decide) (by decide);have rE:=fun i=>blk_cell kE i
  go_wp2;refine bodyPost_ret (v:=.agg #[.string o,.slice (some ⟨b,0,none⟩) ps.length vc]) ?_ rfl ?_
  rotate_left
  ·exact⟨o,_,ps,rfl,by omega,hB.zt.zl (by omega),zE.has.kp,DE⟩
  simp [results,Tryz.results35,go_sem,Result.andThen,rE]
end Go.Proofs.YtahpiciofdfipaaGreat
