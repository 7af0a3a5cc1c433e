import Derived.Test.YtieobflhfcgliaaGreatJZnT
import Derived.Test.YtieobflhfcgliaaGreatJEqV
import Derived.RegionTactic
import Derived.Test.YtieobflhfcgliaaGreatJStA
import Derived.Test.YtieobflhfcgliaaGreatJZnM
import Derived.Deep.Slices
import Derived.Deep.Strs
import Derived.ChangeSame
namespace Go.Proofs.YtieobflhfcgliaaGreat
open Go.RowKit
set_option linter.unusedVariables false
structure Mk (B C:Nat) (T:TypeId) (w w':World):Prop where
 os:w'.os=w.os
 tape:w'.tape=w.tape
 output:w'.output=w.output
 size:w.heap.size<=w'.heap.size
 block:∀ k,k<w.heap.size->(k<B∨C<=k)->w'.heap[k]? =w.heap[k]?
 shape:∀ (g:Nat) (cur:Array Value) (e:TypeId),w.heap[g]? =some (.cells cur e (0,0))->∃ cur':Array Value,w'.heap[g]? =some (.cells cur' e (0,0))∧cur'.size=cur.size
 other:∀ (g:Nat) (cur:Array Value) (e:TypeId),w.heap[g]? =some (.cells cur e (0,0))->e≠T->w'.heap[g]? =some (.cells cur e (0,0))
theorem Mk.refl(B C T:Nat)(w:World):Mk B C T w w:=⟨rfl,rfl,rfl,Nat.le_refl _,fun _ _ _=>rfl,fun _ cur _ h=>⟨cur,h,rfl⟩,fun _ _ _ h _=>h⟩
theorem heap_lt{w:World}{g:Nat}{x:Obj}(h:w.heap[g]? =some x):g<w.heap.size:=(Array.getElem?_eq_some_iff.1 h).1
theorem Mk.below{B C T:Nat}{w w1 w2:World}(h:Mk B C T w w1)(hb:Below w1.heap.size w1 w2):Mk B C T w w2:=by
 refine⟨hb.os.trans h.os,hb.tape.trans h.tape,hb.output.trans h.output,Nat.le_trans h.size hb.size,fun k hk hr=>(hb.block k (Nat.lt_of_lt_of_le hk h.size)).trans (h.block k hk hr),fun g cur e hg=>?_,fun g cur e hg hne=>?_⟩
 ·obtain⟨cur',h1,h2⟩:=h.shape g cur e hg;exact⟨cur',(hb.block g (heap_lt h1)).trans h1,h2⟩
 ·have h1:=h.other g cur e hg hne;exact(hb.block g (heap_lt h1)).trans h1
theorem Mk.set{B C T:Nat}{w w1:World}{g i:Nat}{cur:Array Value}(h:Mk B C T w w1)(hB:B<=g)(hC:g<C)(hg:w1.heap[g]? =some (.cells cur T (0,0)))(y:Value):Mk B C T w (w1.setCell ⟨g,i,none⟩ y):=by
 refine⟨h.os,h.tape,h.output,by simpa using h.size,fun k hk hr=>?_,fun g' cur' e hg'=>?_,fun g' cur' e hg' hne=>?_⟩
 ·rw [heap_setCell_other w1 ⟨g,i,none⟩ k _ (by simp;omega)];exact h.block k hk hr
 ·obtain⟨c1,h1,h2⟩:=h.shape g' cur' e hg'
  by_cases hgg:g'=g
  ·subst hgg;rw [h1] at hg;simp only [Option.some.injEq,Obj.cells.injEq] at hg;obtain⟨rfl,rfl,_⟩:=hg;exact⟨_,heap_setCell_same w1 g' i _ _ y h1,by simpa using h2⟩
  ·exact⟨c1,by rw [heap_setCell_other w1 ⟨g,i,none⟩ g' _ (by simpa using hgg)];exact h1,h2⟩
 ·have h1:=h.other g' cur' e hg' hne
  have hgg:g'≠g:=by
   intro e1;subst e1;rw [h1] at hg;simp only [Option.some.injEq,Obj.cells.injEq] at hg;exact hne hg.2.1
  rw [heap_setCell_other w1 ⟨g,i,none⟩ g' _ (by simpa using hgg)];exact h1
def WR(w:World)(B C:Nat)(e s:Nat)(v:Value)(n:Nat):Prop:=∃ a cap,v=.slice a n cap∧n<=cap∧(0<n->∃ (g:Nat) (cur:Array Value),a=some ⟨g,0,none⟩∧B<=g∧g<C∧w.heap[g]? =some (.cells cur e (0,0))∧n*s<=cur.size)
theorem WR.of_owns{w:World}{B e s n:Nat}{v:Value}{xs:List Value}(h:w.ownsRow B e s v n xs):WR w B w.heap.size e s v n:=by
 rcases h.2 with⟨rfl,rfl⟩|⟨g,cap,cur,rfl,hb,hg,hn,hm,hs,ht⟩
 ·exact⟨none,0,rfl,Nat.le_refl _,fun h=>by omega⟩
 ·exact⟨_,cap,rfl,hn,fun _=>⟨g,cur,rfl,hb,heap_lt hg,hg,by rw [hs];exact Nat.mul_le_mul_right _ hn⟩⟩
theorem WR.of_ownsC{w:World}{B C e s n:Nat}{v:Value}{xs:List Value}(h:w.ownsRow B e s v n xs)(hC:∀ g,v.ownBlock=some g->g<C):WR w B C e s v n:=by
 rcases h.2 with⟨rfl,rfl⟩|⟨g,cap,cur,rfl,hb,hg,hn,hm,hs,ht⟩
 ·exact⟨none,0,rfl,Nat.le_refl _,fun h=>by omega⟩
 ·exact⟨_,cap,rfl,hn,fun _=>⟨g,cur,rfl,hb,hC g rfl,hg,by rw [hs];exact Nat.mul_le_mul_right _ hn⟩⟩
theorem WR.shape{w w':World}{B C e s n:Nat}{v:Value}(h:WR w B C e s v n)(hs:∀ (g:Nat) (cur:Array Value) (e:TypeId),w.heap[g]? =some (.cells cur e (0,0))->∃ cur':Array Value,w'.heap[g]? =some (.cells cur' e (0,0))∧cur'.size=cur.size):WR w' B C e s v n:=by
 obtain⟨a,cap,rfl,hn,hr⟩:=h;refine⟨a,cap,rfl,hn,fun hp=>?_⟩;obtain⟨g,cur,rfl,hB,hC,hg,hz⟩:=hr hp;obtain⟨cur',h1,h2⟩:=hs g cur e hg;exact⟨g,cur',rfl,hB,hC,h1,by omega⟩
set_option maxRecDepth 100000 in
set_option maxHeartbeats 800000 in
theorem markStringS_mk(v:Value)(n B C k:Nat)(w:World)(h:WR w B C 9 1 v n)(hn:n<=10000000)(hk:k<=100000000):
 Calls Tryz.prog 61 #[v,.int .i64 (k:Int)] w fun e w'=>e=.returned (.int .i64 ((k+n:Nat):Int))∧Mk B C 9 w w':=by
 obtain⟨a,cap,rfl,hcap,hr⟩:=h;have hmt:=fun(j:Nat) (hj:j<=1000000000) W=>markText_any j W hj
 go_enter Tryz.func61,Tryz.ntmps61;go_wp2
 go_loopw [1,5] (fun t i wr=>∃ j:Nat,j<=n∧i=.int .i64 (j:Int)∧t=.int .i64 ((k:Int)+(j:Int))∧Mk B C 9 w wr) (fun _ i _=>n-(intOf i).toNat)
 case atStart=>exact⟨0,Nat.zero_le _,rfl,by simp,Mk.refl _ _ _ _⟩
 case round=>
  obtain⟨j,hj,rfl,rfl,hm⟩:=hrel
  by_cases hlt:j<n
  ·obtain⟨g,cur,rfl,hB,hC,hg,hz⟩:=hr (by omega);obtain⟨cur',hg',hz'⟩:=hm.shape g cur _ hg;have hone:=hmt (k+j) (by omega) wr;rw [show((k+j:Nat):Int)=(k:Int)+(j:Int) by omega] at hone;have i1:(0:Int)<=(j:Int):=by omega
   have i2:(j:Int)<(n:Int):=by omega
   have hcl:j<cur'.size:=by omega
   clear hmt hr;go_wp2_with (go_at_call 60;refine hone.mono ?_;rintro e w1 ⟨rfl,hb1⟩;have hg1:=(hb1.block g (heap_lt hg')).trans hg';have hc1:w1.cell? ⟨g,j,none⟩=some cur'[j]:=(cell_of_row _ _ _ _ _ _ hg1).trans (Array.getElem?_eq_getElem hcl);have hf1:=frozen_of_row w1 g j _ _ hg1)
   go_roundw
   case rel=>exact⟨j+1,by omega,by go_num,by congr 1<;>omega,(hm.below hb1).set hB hC hg1 _⟩
   case measure=>simp [intOf];omega
  ·have hjn:j=n:=by omega
   subst hjn;clear hr hmt;have i2:(j:Int)<=(j:Int):=by omega
   go_wp2;go_ret;exact⟨by rw [show((k+j:Nat):Int)=(k:Int)+(j:Int) by omega];rfl,hm⟩
structure Mj (B C:Nat) (w w':World):Prop where
 os:w'.os=w.os
 tape:w'.tape=w.tape
 output:w'.output=w.output
 size:w.heap.size<=w'.heap.size
 block:∀ k,k<w.heap.size->(k<B∨C<=k)->w'.heap[k]? =w.heap[k]?
 shape:∀ (g:Nat) (cur:Array Value) (e:TypeId),w.heap[g]? =some (.cells cur e (0,0))->∃ cur':Array Value,w'.heap[g]? =some (.cells cur' e (0,0))∧cur'.size=cur.size
theorem Mj.refl(B C:Nat)(w:World):Mj B C w w:=⟨rfl,rfl,rfl,Nat.le_refl _,fun _ _ _=>rfl,fun _ cur _ h=>⟨cur,h,rfl⟩⟩
theorem Mj.step{B C T:Nat}{w w1 w2:World}(h:Mj B C w w1)(h2:Mk B C T w1 w2):Mj B C w w2:=by
 refine⟨h2.os.trans h.os,h2.tape.trans h.tape,h2.output.trans h.output,Nat.le_trans h.size h2.size,fun k hk hr=>(h2.block k (Nat.lt_of_lt_of_le hk h.size) hr).trans (h.block k hk hr),fun g cur e hg=>?_⟩;obtain⟨c1,h3,h4⟩:=h.shape g cur e hg;obtain⟨c2,h5,h6⟩:=h2.shape g c1 e h3;exact⟨c2,h5,by omega⟩
theorem Mj.down{B C:Nat}{w w':World}(h:Mj B C w w'){D:Nat}(h1:D<=B)(h2:D<=w.heap.size):Below D w w':=⟨h.os,h.tape,h.output,h.size,fun k hk=>h.block k (by omega) (.inl (by omega))⟩
def zl:List Zp->Nat
 |[]=>0
 |x::xs=>x.1.da.length+3+zl xs
theorem zl_step:∀ (xs:List Zp) (k:Nat) (x:Zp),xs[k]? =some x->zl (xs.take (k+1))=zl (xs.take k)+(x.1.da.length+3):=by
 intro xs
 induction xs with
 |nil=>intro k x h;simp at h
 |cons y xs ih=>
  intro k x h
  cases k with
  |zero=>simp at h;subst h;simp [zl]
  |succ k=>
   simp at h;have:=ih k x h;simp only [List.take_succ_cons,zl];omega
theorem zl_take_le:∀ (xs:List Zp) (k:Nat),zl (xs.take k)<=zl xs:=by
 intro xs
 induction xs with
 |nil=>intro k;simp [zl]
 |cons y xs ih=>
  intro k
  cases k with
  |zero=>simp [zl]
  |succ k=>have:=ih k;simp only [List.take_succ_cons,zl];omega
theorem zl_len(xs:List Zp):xs.length<=zl xs:=by
 induction xs with
 |nil=>simp [zl]
 |cons y xs ih=>simp only [zl,List.length_cons];omega
def SV(w:World)(g:Nat)(qs:List Zp)(cur:Array Value):Prop:=Blk w g cur 75∧qs.length*4<=cur.size∧∀ (j:Nat) (q:Zp),qs[j]? =some q->cur[j*4+3]? =some q.2
theorem SV.set{w:World}{g i:Nat}{qs:List Zp}{cur:Array Value}(h:SV w g qs cur)(y:Value)(hc:i % 4≠3):SV (w.setCell ⟨g,i,none⟩ y) g qs (cur.setIfInBounds i y):=by
 refine⟨blk_set h.1 _ _,by simpa using h.2.1,fun j q hj=>?_⟩;rw [Array.getElem?_setIfInBounds_ne (by omega)];exact h.2.2 j q hj
theorem SV.below{w W:World}{g:Nat}{qs:List Zp}{cur:Array Value}(h:SV w g qs cur)(hb:Below w.heap.size w W):SV W g qs cur:=⟨blk_below h.1 hb,h.2⟩
theorem SV.mk{w W:World}{B C g:Nat}{qs:List Zp}{cur:Array Value}(h:SV w g qs cur)(hb:Mk B C 9 w W):SV W g qs cur:=⟨hb.other g cur _ h.1 (by decide),h.2⟩
set_option maxRecDepth 100000 in
set_option maxHeartbeats 1600000 in
theorem markSetS_mk(v:Value)(qs:List Zp)(B C k:Nat)(w:World)(h:OZ w B v qs)(hC:∀ g,v.ownBlock=some g->g<C)(hCD:∀ q∈qs,∀ g,q.2.ownBlock=some g->g<C)(hn:zl qs<=10000000)(hk:k<=10000000):
 Calls Tryz.prog 33 #[v,.int .i64 (k:Int)] w fun e w'=>e=.returned (.int .i64 ((k+zl qs:Nat):Int))∧Mj B C w w':=by
 have hW0:=WR.of_ownsC h.1 hC;have hql:=zl_len qs;have hD0:∀ q∈qs,WR w B C 9 1 q.2 q.1.da.length:=fun q hq=>WR.of_ownsC (h.2 q hq) (hCD q hq)
 have hSV0:0<qs.length->∃ g cap cur,v=.slice (some ⟨g,0,none⟩) qs.length cap∧B<=g∧g<C∧SV w g qs cur:=by
  intro hp
  rcases h.1.2 with⟨_,h0⟩|⟨g,cap,cur,rfl,hb,hg,hn,hm,hs,ht⟩
  ·omega
  ·refine⟨g,cap,cur,rfl,hb,hC g rfl,hg,by rw [hs];exact Nat.mul_le_mul_right _ hn,fun j q hj=>?_⟩;have hjl:j<qs.length:=(List.getElem?_eq_some_iff.1 hj).1;have e:=(zpVs_at qs j 3 q hj (by decide));rw [<- ht,List.getElem?_take_of_lt (by omega)] at e;have e2:cur.toList[j*4+3]? =some q.2:=e;simpa using e2
 have hmt:=fun(j:Nat) (hj:j<=1000000000) W=>markText_any j W hj
 have hms:=fun(q:Zp) W (hWr:WR W B C 9 1 q.2 q.1.da.length) (j:Nat) (hj:j<=100000000) (hl:q.1.da.length<=10000000)=>markStringS_mk q.2 q.1.da.length B C j W hWr hl hj
 obtain⟨a,cap,rfl⟩:=own_sl h.1;clear h hW0 hC hCD;go_enter Tryz.func33,Tryz.ntmps33;go_wp2
 go_loopw [1,5] (fun t i wr=>∃ j:Nat,j<=qs.length∧i=.int .i64 (j:Int)∧t=.int .i64 ((k:Int)+(zl (qs.take j):Int))∧Mj B C w wr∧Hid (∀ g,a=some ⟨g,0,none⟩->0<qs.length->∃ cur,SV wr g qs cur)) (fun _ i _=>qs.length-(intOf i).toNat)
 case atStart=>
  refine⟨0,Nat.zero_le _,rfl,by simp [zl],Mj.refl _ _ _,?_⟩;intro g hg hp;obtain⟨g',cap',cur,e1,_,_,hsv⟩:=hSV0 hp;subst hg;simp only [Value.slice.injEq,Option.some.injEq,Addr.mk.injEq] at e1;obtain⟨⟨rfl,_⟩,_⟩:=e1;exact⟨cur,hsv⟩
 case round=>
  obtain⟨j,hj,rfl,rfl,hm,HV⟩:=hrel
  by_cases hlt:j<qs.length
  ·obtain⟨q,hq⟩:∃ q,qs[j]? =some q:=⟨_,List.getElem?_eq_getElem hlt⟩;obtain⟨g,cap',cur0,e1,hBg,hgC,_⟩:=hSV0 (by omega);simp only [Value.slice.injEq] at e1;obtain⟨rfl,_,rfl⟩:=e1;obtain⟨cur,hsv⟩:=HV.out g rfl (by omega);have hst:=zl_step qs j q hq;have hle:=zl_take_le qs (j+1);have hone:=hmt (k+zl (qs.take j)) (by omega) wr;rw [show((k+zl (qs.take j):Nat):Int)=(k:Int)+(zl (qs.take j):Int) by omega] at hone;have hms1:=fun W hWr=>hms q W hWr (k+zl (qs.take j)+3) (by omega) (by omega)
   rw [show((k+zl (qs.take j)+3:Nat):Int)=(k:Int)+(zl (qs.take j):Int)+1+1+1 by omega] at hms1;have hwr:=(hD0 q (List.mem_of_getElem? hq)).shape hm.shape;have hdv:=hsv.2.2 j q hq;have i1:(0:Int)<=(j:Int):=by omega
   have i2:(j:Int)<(qs.length:Int):=by omega
   have hfin:((k+zl (qs.take j)+3+q.1.da.length:Nat):Int)=(k:Int)+(zl (qs.take (j+1)):Int):=by omega
   have hcs:j*4+3<cur.size:=by have:=hsv.2.1;omega
   obtain⟨qa,qc,hqv⟩:∃ qa qc,q.2=.slice qa q.1.da.length qc:=by
    obtain⟨qa,qc,e,_⟩:=hwr;exact⟨qa,qc,e⟩
   clear hmt hms hSV0 HV hq hD0;generalize zl (qs.take j)=z0 at*;generalize hz1:zl (qs.take (j+1))=z1 at*;obtain⟨⟨o,ty,tt,da⟩,dv⟩:=q;simp only at hqv hms1 hwr hdv hfin
   subst hqv;go_wp2_with (first|(go_at_call 60;refine hone.mono ?_;rintro e w1 ⟨rfl,hb1⟩;have hs1:=hsv.below hb1;have f1:=blk_frozen hs1.1;have c0:w1.cell? ⟨g,j*4,none⟩=some cur[j*4]:=(blk_cell hs1.1 _).trans (Array.getElem?_eq_getElem (by omega));have c1:w1.cell? ⟨g,j*4+1,none⟩=some cur[j*4+1]:=(blk_cell hs1.1 _).trans (Array.getElem?_eq_getElem (by omega));have c2:w1.cell? ⟨g,j*4+2,none⟩=some cur[j*4+2]:=(blk_cell hs1.1 _).trans (Array.getElem?_eq_getElem (by omega));have c3:w1.cell? ⟨g,j*4+3,none⟩=some (.slice qa da.length qc):=(blk_cell hs1.1 _).trans hdv)|(go_at_call 61;refine(hms1 _ (hwr.shape (((((Mk.refl B C 75 wr).below hb1).set hBg hgC hs1.1 _).set hBg hgC (hs1.set _ (by omega)).1 _).set hBg hgC ((hs1.set _ (by omega)).set _ (by omega)).1 _).shape)).mono ?_;rintro e w5 ⟨rfl,hk5⟩))
   have hs5:=(((hs1.set (.string (mkS (k+z0))) (i:=j*4) (by omega)).set (.int .i64 ((k:Int)+(z0:Int)+1)) (i:=j*4+1) (by omega)).set (.int .i64 ((k:Int)+(z0:Int)+1+1)) (i:=j*4+2) (by omega)).mk hk5;have hm5:=(hm.step (((((Mk.refl B C 75 wr).below hb1).set hBg hgC hs1.1 _).set hBg hgC (hs1.set _ (by omega)).1 _).set hBg hgC ((hs1.set _ (by omega)).set _ (by omega)).1 _)).step hk5;go_roundw
   case rel=>
    refine⟨j+1,by omega,by go_num,?_,hm5,?_⟩
    ·rw [hz1];congr 1<;>omega
    ·intro g' hg' hp;cases hg'
     exact⟨_,hs5⟩
   case measure=>simp [intOf];omega
  ·have hjn:j=qs.length:=by omega
   subst hjn;clear hmt hms hSV0 HV hD0;have i2:(qs.length:Int)<=(qs.length:Int):=by omega
   rw [List.take_length];go_wp2;go_ret;exact⟨by rw [show((k+zl qs:Nat):Int)=(k:Int)+(zl qs:Int) by omega];rfl,hm⟩
set_option maxRecDepth 100000 in
set_option maxHeartbeats 800000 in
theorem markZone_mk(o:ByteArray)(v:Value)(qs:List Zp)(B C k:Nat)(w:World)(h:OZ w B v qs)(hC:∀ g,v.ownBlock=some g->g<C)(hCD:∀ q∈qs,∀ g,q.2.ownBlock=some g->g<C)(hn:zl qs<=10000000)(hk:k<=10000000):
 Calls Tryz.prog 11 #[.agg #[.string o,v],.int .i64 (k:Int)] w fun e w'=>e=.returned (.int .i64 ((k+zl qs:Nat):Int))∧Mj B C w w':=by
 have hB:=(Below.refl w.heap.size w).alloc (Nat.le_refl _) (.cells #[.string o,v] 35);have hone:=markSetS_mk v qs B C k _ (h.below hB) hC hCD hn hk;obtain⟨a,cap,rfl⟩:=own_sl h.1;have hsz:(w.alloc (.cells #[.string o,.slice a qs.length cap] 35)).heap.size=w.heap.size+1:=by simp
 clear h hC hCD;go_enter Tryz.func11,Tryz.ntmps11;go_wp2_with (go_at_call 33;refine hone.mono ?_;rintro e w1 ⟨rfl,hm⟩)
 go_ret;refine⟨rfl,hm.os,hm.tape,hm.output,by have:=hm.size;omega,fun k hk hr=>(hm.block k (by omega) hr).trans (hB.block k hk),fun g cur e hg=>?_⟩;exact hm.shape g cur e ((hB.block g (heap_lt hg)).trans hg)
theorem own_mj{w w':World}{B C B' e s n:Nat}{v:Value}{xs:List Value}(h:w.ownsRow B' e s v n xs)(hr:∀ g,v.ownBlock=some g->g<B∨C<=g)(hm:Mj B C w w'):w'.ownsRow B' e s v n xs:=by
 refine⟨h.1,?_⟩
 rcases h.2 with h0|⟨g,cap,cur,rfl,hb,hg,r⟩
 ·exact .inl h0
 ·exact .inr ⟨g,cap,cur,rfl,hb,(hm.block g (heap_lt hg) (hr g rfl)).trans hg,r⟩
theorem OZ.lt{w:World}{B:Nat}{v:Value}{qs:List Zp}(h:OZ w B v qs):(∀ g,v.ownBlock=some g->g<w.heap.size)∧∀ q∈qs,∀ g,q.2.ownBlock=some g->g<w.heap.size:=
 ⟨fun g hg=>(h.1.lt g hg).2,fun q hq g hg=>((h.2 q hq).lt g hg).2⟩
theorem zsum_same{ps qs:List Zp}(h:qs.map (·.1)=ps.map (·.1)):zsum qs=zsum ps:=by
 have e:∀ xs:List Zp,zsum xs=((xs.map (·.1)).map zs1).sum:=by
  intro xs
  induction xs with
  |nil=>rfl
  |cons y xs ih=>simp only [zsum,List.map_cons,List.sum_cons,ih]
 rw [e,e,h]
theorem zl_le(ps:List Zp):zl ps<=zsum ps+3*ps.length:=by
 induction ps with
 |nil=>simp [zl]
 |cons y ps ih=>simp only [zl,zsum,zs1,List.length_cons];omega
theorem cz_ssum{ls:List ByteArray}{x:ByteArray}(h:x∈ls):x.size<=ssum ls:=by
 induction ls with
 |nil=>simp at h
 |cons y ls ih=>
  rcases List.mem_cons.1 h with rfl|h
  ·simp only [ssum];omega
  ·have:=ih h;simp only [ssum];omega
theorem cz_fits{ps:List Zp}(h:zsum ps<=1048576):∀ p∈ps,p.1.own.size<=1048576∧p.1.da.length<=1048576∧∀ x∈p.1.da,x.size<=1048576:=by
 intro p hp;have h1:=zsum_mem ps p hp;unfold zs1 at h1;exact⟨by omega,by omega,fun x hx=>by have:=cz_ssum hx;omega⟩
theorem zOK_same{ps qs:List Zp}(h:qs.map (·.1)=ps.map (·.1))(o:ByteArray):zOK qs o=zOK ps o:=by
 rw [zOK,zOK,zoneRecs_same h,h]
end Go.Proofs.YtieobflhfcgliaaGreat
namespace Go.Proofs.YtieobflhfcgliaaGreat
open Go.RowKit Go.Deep
set_option linter.unusedVariables false
section
variable {H:Type}{enc:TypeId×Value->H}{w:World}{base:Nat}{held:Bool}
theorem set_c:Tryz.prog.cellsOf 9=1∧Tryz.prog.cellsOf 2=1∧Tryz.prog.cellsOf 69=1∧Tryz.prog.cellsOf 71=4:=⟨by kernel_rfl,by kernel_rfl,by kernel_rfl,by kernel_rfl⟩
theorem open_srow{fuel:Nat}{v:Value}{x:DataW H×List MemPlace}(h:DataW.trod enc Tryz.prog w base (fun _=>true) held fuel 69 [v]=some x):
 ∃ ls,Nm.SRow w v ls∧∀ y∈ls,y.size<=maxLen:=by
 rcases Go.Deep.open_strs Tryz.underlying69 Tryz.underlying9 (by kernel_rfl) h with⟨hcs,_⟩|⟨a,l,c,m,Sx,hcs,_,hl,hm,hz,_,hcell⟩
 ·simp at hcs;subst hcs;exact⟨[],⟨none,0,rfl,by simp,by decide,fun _=>rfl,fun h=>absurd rfl h⟩,by simp⟩
 ·simp at hcs;subst hcs;have hz':m=c:=by simpa using hz
  subst hz';refine⟨(List.range l).map Sx,⟨some a,m,by simp,by simpa using hl,hm,(fun h=>by cases h),fun hne=>?_⟩,?_⟩
  ·have hpos:0<l:=by
    rcases Nat.eq_zero_or_pos l with h|h
    ·subst h;simp at hne
    ·exact h
   obtain⟨b,off,spot⟩:=a;have h0:=(hcell 0 (by omega)).1;have hspot:spot=none:=by simpa [Addr.add] using World.cell?_spot h0
   subst hspot;refine⟨b,off,rfl,?_⟩;intro i x hx
   have hi:i<l:=by
    have:=(List.getElem?_eq_some_iff.1 hx).1;simpa using this
   have:=(hcell i (by omega)).1;rw [Nm.addr_add] at this;rw [this];simp [hi] at hx
   rw [hx]
  ·intro y hy;simp only [List.mem_map,List.mem_range] at hy;obtain⟨i,hi,rfl⟩:=hy;exact(hcell i (by omega)).2
set_option maxRecDepth 100000 in
theorem open_set{fuel:Nat}{cs:List Value}{x:DataW H×List MemPlace}(h:DataW.trod enc Tryz.prog w base (fun _=>true) held fuel 71 cs=some x)(hl:cs.length=4):
 ∃ p:Zp,cs=zpV p∧Nm.SRow w p.2 p.1.da∧p.1.own.size<=maxLen∧∀ y∈p.1.da,y.size<=maxLen:=by
 obtain⟨xs,n,_,_,_,hxl,hf⟩:=DataW.trod_struct Tryz.underlying71 h;obtain⟨c1,c2,c3,_⟩:=set_c
 match cs,hl with
 |[v0,v1,v2,v3],_=>
  have g0:=hf 0 _ rfl;have g1:=hf 1 _ rfl;have g2:=hf 2 _ rfl;have g3:=hf 3 _ rfl
  match xs,hxl with
  |[y0,y1,y2,y3],_=>
   simp [c1,c2,c3] at g0 g1 g2 g3
   obtain⟨s0,e0,_,w0⟩:=DataW.trod_string Tryz.underlying9 g0;obtain⟨n1,e1,_,w1⟩:=DataW.trod_int Tryz.underlying2 g1;obtain⟨n2,e2,_,w2⟩:=DataW.trod_int Tryz.underlying2 g2;obtain⟨ls,hs,hy⟩:=open_srow g3;simp at e0 e1 e2;subst e0 e1 e2;exact⟨(⟨s0,n1,n2,ls⟩,v3),rfl,hs,w0,hy⟩
theorem choose_zp{n:Nat}{p:Nat->Zp->Prop}(h:∀ i,i<n->∃ x,p i x):∃ f:Nat->Zp,∀ i,i<n->p i (f i):=by
 classical
 refine⟨fun i=>if hi:i<n then Classical.choose (h i hi) else(⟨.empty,0,0,[]⟩,.slice none 0 0),fun i hi=>?_⟩;simp only [dif_pos hi];exact Classical.choose_spec (h i hi)
set_option maxRecDepth 100000 in
theorem open_sets{t:TypeId}{fuel:Nat}{v:Value}{x:DataW H×List MemPlace}(ht:Tryz.prog.underlying t=some (.slice 71))(h:DataW.trod enc Tryz.prog w base (fun _=>true) held fuel t [v]=some x):
 ∃ ps:List Zp,ZRow w v ps∧ZFit ps:=by
 rcases open_slice ht h with⟨e,_⟩|⟨a,len,cap,m,n,D,Pl,e,hb,hl,hm,hmm,_,hx⟩
 ·simp at e;subst e;exact⟨[],⟨⟨rfl,none,0,rfl,Nat.le_refl _,by decide,fun h=>absurd h (by simp)⟩,by simp⟩,by intro p hp;simp at hp⟩
 ·simp at e;subst e;have hlm:len<=m:=by rw [hmm];split<;>omega
  obtain⟨_,_,_,c4⟩:=set_c;rw [c4] at hx
  obtain⟨f,hf⟩:=choose_zp (n:=len) (p:=fun i r=>(∀ j,j<4->w.cell? ((a.add (i*4)).add j)=(zpV r)[j]?)∧Nm.SRow w r.2 r.1.da∧r.1.own.size<=maxLen∧∀ y∈r.1.da,y.size<=maxLen) (fun i hi=>by
   obtain⟨cs',h1,h2⟩:=hx i (by omega);obtain⟨_,hlen,hcell⟩:=World.cells?_some h1;obtain⟨r,rfl,q⟩:=open_set h2 hlen
   exact⟨r,hcell,q⟩)
  refine⟨(List.range len).map f,⟨⟨?_,some a,cap,by simp,by simpa using hl,hm,fun hpos=>?_⟩,?_⟩,?_⟩
  ·rw [zpVs_len]
  ·have hlen:0<len:=by simpa using hpos
   obtain⟨b,off,spot⟩:=a;have h0:=(hf 0 hlen).1 0 (by decide);have h0':w.cell? ((Addr.mk b off spot).add (0*4+0))=some (.string (f 0).1.own):=by rw [<- add_add];exact h0
   have hspot:spot=none:=by simpa [Addr.add] using World.cell?_spot h0'
   subst hspot;refine⟨b,off,rfl,?_⟩;intro i y hy
   have hi:i<len*4:=by
    have:=(List.getElem?_eq_some_iff.1 hy).1;rw [zpVs_len] at this;simpa using this
   obtain⟨k,j,hk,hj,rfl⟩:∃ k j,k<len∧j<4∧i=k*4+j:=⟨i / 4,i % 4,by omega,by omega,by omega⟩;rw [zpVs_at _ k j (f k) (by simp [hk]) hj] at hy;have:=(hf k hk).1 j hj;rw [add_add,hy,Nm.addr_add] at this;exact this
  ·intro p hp;simp only [List.mem_map,List.mem_range] at hp;obtain⟨i,hi,rfl⟩:=hp;exact(hf i hi).2.1
  ·intro p hp;simp only [List.mem_map,List.mem_range] at hp;obtain⟨i,hi,rfl⟩:=hp;exact(hf i hi).2.2
end
end Go.Proofs.YtieobflhfcgliaaGreat
