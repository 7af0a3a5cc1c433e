import Derived.Test.YtlddifpnkeafpaaGreatJTrD
import Derived.Test.YtlddifpnkeafpaaGreatJData3
set_option linter.unusedVariables false
set_option maxHeartbeats 3200000
set_option maxRecDepth 100000
namespace Go.Proofs.YtlddifpnkeafpaaGreat
variable {B cap g gb i j k:Nat}{l:List It}{v:Value}{w w':World}{x y:It}
section
open Go.RowKit
theorem Ad{α:Type}(f:α->List Nat)(k:Nat)(x:α)(l:List α):((mR k x l).flatMap f).Perm (f x++l.flatMap f):=by
 rw [mR,List.append_assoc,List.flatMap_append,List.flatMap_append];have e:l.flatMap f=(l.take k).flatMap f++(l.drop k).flatMap f:=by rw [<- List.flatMap_append,List.take_append_drop]
 rw [e];simp only [List.flatMap_cons,List.flatMap_nil,List.append_nil];rw [<- List.append_assoc,<- List.append_assoc];exact List.Perm.append_right _ List.perm_append_comm
theorem Ae(v:Value):v.ownBlock.toList.Nodup:=by cases v.ownBlock<;>simp
theorem O6{N M:Nat}{A r r' X Y:List Nat}(h:(A++(r++X)).Nodup)(bY:∀ x∈A++(r++X),x<N)(hY:Y.Nodup)(hY1:∀ y∈Y,N<=y∧y<M)(Mw:r'.Nodup)(hr:r'=r∨∀ x∈r',M<=x)(hNM:N<=M):(A++(r'++(Y++X))).Nodup:=by
 rw [List.nodup_append,List.nodup_append] at h;obtain⟨hA,⟨GU,hX,hrX⟩,hAX⟩:=h;have lA:∀ x∈A,x<N:=fun x hx=>bY x (by simp [hx])
 have lr:∀ x∈r,x<N:=fun x hx=>bY x (by simp [hx])
 have lX:∀ x∈X,x<N:=fun x hx=>bY x (by simp [hx])
 rw [List.nodup_append,List.nodup_append,List.nodup_append];refine⟨hA,⟨Mw,⟨hY,hX,fun a ha b hb=>?_⟩,fun a ha b hb=>?_⟩,fun a ha b hb=>?_⟩
 ·have:=(hY1 a ha).1;have:=lX b hb;omega
 ·rcases hr with rfl|hr
  ·rcases iU hb with hb|hb
   ·have:=(hY1 b hb).1;have:=lr a ha;omega
   exact hrX a ha b hb
  rcases iU hb with hb|hb
  ·have:=(hY1 b hb).2;have:=hr a ha;omega
  have:=lX b hb;have:=hr a ha;omega
 rcases iU hb with hb|hb
 ·rcases hr with rfl|hr
  ·exact hAX a ha b (List.mem_append.2 (.inl hb))
  have:=lA a ha;have:=hr b hb;omega
 rcases iU hb with hb|hb
 ·have:=(hY1 b hb).1;have:=lA a ha;omega
 exact hAX a ha b (List.mem_append.2 (.inr hb))
def eP(ty:Int)(s:nY):Int:=Nm.pI s.ty ty
def VE(l:List nY):Prop:=l.Pairwise fun a b=>a.ty<b.ty
def aAk(ty tt:Int)(at_:Nat)(l:List nY)(s:nY)(l':List nY):Prop:=
 (gY (eP ty) l=true∧l'=l∧l[posOf (eP ty) l]? =some s∧s.ty=ty)∨(gY (eP ty) l=false∧l'=mR (posOf (eP ty) l) s l∧s.ty=ty∧s.tt=tt∧s.fi=at_∧s.da=[])
theorem vL{a b:Int}:Nm.pI a b<0↔a<b:=by
 constructor
 ·intro h
  rcases Int.lt_or_le a b with h1|h1
  ·exact h1
  rcases Int.lt_or_eq_of_le h1 with h2|h2
  ·rw [Nm.pK h2] at h;omega
  rw [Nm.vC h2.symm] at h;omega
 intro h;rw [Nm.pJ h];decide
theorem SY{a b:Int}(h:Nm.pI a b=0):a=b:=by
 rcases Int.lt_trichotomy a b with h1|h1|h1
 ·rw [Nm.pJ h1] at h;omega
 ·exact h1
 rw [Nm.pK h1] at h;omega
theorem aH7(o:dG)(B rb ab at_:Nat)(ty tt:Int)(r0 r1 r2 r4:Value)(w:World)(h:yB w B o)(Qm:(qE o).Nodup)(hB:B<=w.heap.size)(hl:o.ss.length<=500000)(hd:VE o.ss)(kr:bW w rb #[r0,r1,r2,.int .i64 tt,r4] 133)(ka:bW w ab #[.int .i64 (at_:Int)] 3):
 Calls Tryz.prog 168 #[ptr o.hd,.int .i64 ty,.func (.func 169) #[] #[ptr rb,ptr ab]] w fun e w'=>∃ s rv' ss',e=.returned (ptr s.dS)∧aAk ty tt at_ o.ss s ss'∧yB w' B {o with rv:=rv',ss:=ss'}∧(qE {o with rv:=rv',ss:=ss'}).Nodup∧dN (qE o) w w'∧∀ b∈qE {o with rv:=rv',ss:=ss'},b∈qE o∨w.heap.size<=b:=by
 have nV:(lQ o.ss).length=o.ss.length:=by simp [lQ]
 have XF:∀ (tb i:Nat) (p:Value×Value),(lQ o.ss)[i]? =some p->∀ W,Below w.heap.size w W->bW W tb #[.pointer (some ⟨o.hd,0,none⟩)] 126->Calls Tryz.prog 177 #[.agg #[p.1,p.2],.int .i64 ty,.pointer (some ⟨tb,0,none⟩)] W fun e w'=>e=.returned (.int .i64 (pO (eP ty) o.ss i))∧Below W.heap.size W w':=by
  intro tb i p hp W hW kb;simp only [lQ,List.getElem?_map,Option.map_eq_some_iff] at hp;obtain⟨q,hq,rfl⟩:=hp;rw [jV hq];exact VB tb o.hd o.rv (ptr q.dS) q.ty ty W kb (aB h.head hW)
 have mF:=lI (f:=eP ty) hd (fun a b Pe hb=>by
  rw [eP,vL] at hb ⊢
  omega)
 have zG:=rV o.ss mF
 cases kY:gY (eP ty) o.ss with
 |true=>
  obtain⟨x,hx,NF⟩:=uP kY;have hx':(lQ o.ss)[posOf (eP ty) o.ss]? =some (.int .i64 x.ty,ptr x.dS):=by simp [lQ,hx]
  refine(Pq o.hd B UW o.rv (.int .i64 ty) _ (lQ o.ss) (pO (eP ty) o.ss) (posOf (eP ty) o.ss) _ w h.head h.rows (by omega) XF (by rw [nV];exact mF) (by rw [nV];exact zG) hx' (by rw [jV hx];exact NF)).mono ?_;rintro e w' ⟨rfl,hb⟩
  exact⟨x,o.rv,o.ss,rfl,.inl ⟨kY,rfl,hx,SY NF⟩,h.keep (fun b hm=>hb.block b (h.lt b hm)),Qm,dN.below hb,fun b AR=>.inl AR⟩
 |false=>
  have WG:=Jo o.hd B UW o.rv ty #[ptr rb,ptr ab] (lQ o.ss) (pO (eP ty) o.ss) (posOf (eP ty) o.ss) w none (aM4 tt at_) h.head h.rows (by omega) XF (by rw [nV];exact mF) (by rw [nV];exact zG) (by rw [nV];exact IB kY)
   (fun p hp=>by
    simp only [lQ,List.mem_map] at hp;obtain⟨q,_,rfl⟩:=hp
    exact⟨rfl,rfl⟩) hB
   (fun W hW=>aDv rb ab at_ tt r0 r1 r2 r4 W (aB kr hW) (aB ka hW)) (by simp) (by simp)
  refine WG.mono ?_;rintro e w' ⟨ux,W,w1,rv',rfl,hW,mD,⟨EN,sb,rfl,hh1,oG,dM,kh1,O7⟩,M9,OA,hK,Xm⟩;have En:Below w.heap.size w w1:=⟨mD.os.trans hW.os,mD.tape.trans hW.tape,mD.output.trans hW.output,jN hW.size mD.size,fun k hk=>(mD.block k (vF hk hW.size) (by simp)).trans (hW.block k hk)⟩;have hsW:=hW.size;have rW:=cO O7;have hhb:=cO kh1;have aD7:∀ x,o.rv.ownBlock=some x->x<w.heap.size:=fun x hx=>(h.rows.lt x hx).2
  have aQx:=cO h.head
  -- the old parts
  have keep:∀ b,b<w.heap.size->b≠o.hd->o.rv.ownBlock≠some b->w'.heap[b]? =w.heap[b]? :=fun b hb h1 h2=>(hK.block b (vF hb En.size) h1 h2).trans (En.block b hb)
  have aAl:=Qm;simp only [qE,List.nodup_cons,List.nodup_append,List.mem_cons,List.mem_append,not_or] at aAl;obtain⟨⟨a1,a2,a3⟩,⟨a4,a5⟩,a6,a7,a8⟩:=aAl;refine⟨⟨sb,EN,.slice none 0 0,ty,tt,at_,[]⟩,rv',mR (posOf (eP ty) o.ss) ⟨sb,EN,.slice none 0 0,ty,tt,at_,[]⟩ o.ss,rfl,.inr ⟨kY,rfl,rfl,rfl,rfl,rfl⟩,⟨?_,M9,?_,?_⟩,?_,?_,?_⟩
  ·exact lJ h.node (keep o.dS (cO h.node) a1 (fun e=>a2 (by rw [e];simp)))
  ·have e1:lQ (mR (posOf (eP ty) o.ss) ⟨sb,EN,.slice none 0 0,ty,tt,at_,[]⟩ o.ss)=(lQ o.ss).take (posOf (eP ty) o.ss)++[(Value.int .i64 ty,Value.pointer (some ⟨sb,0,none⟩))]++(lQ o.ss).drop (posOf (eP ty) o.ss):=by simp [lQ,mR,ptr]
   show w'.ownsRow B _ 2 rv' (lQ (mR (posOf (eP ty) o.ss) ⟨sb,EN,.slice none 0 0,ty,tt,at_,[]⟩ o.ss)).length (eO (lQ (mR (posOf (eP ty) o.ss) ⟨sb,EN,.slice none 0 0,ty,tt,at_,[]⟩ o.ss)))
   rw [e1]
   have hle:((lQ o.ss).take (posOf (eP ty) o.ss)++[(Value.int .i64 ty,Value.pointer (some ⟨sb,0,none⟩))]++(lQ o.ss).drop (posOf (eP ty) o.ss)).length=(lQ o.ss).length+1:=by
    have:=zG.1;simp
    omega
   rw [hle];exact OA
  ·intro s hs
   have Af:s∈o.ss∨s=⟨sb,EN,.slice none 0 0,ty,tt,at_,[]⟩:=by
    simp only [mR,List.mem_append,List.mem_singleton] at hs
    rcases hs with(hs|hs)|hs
    ·exact .inl (List.mem_of_mem_take hs)
    ·exact .inr hs
    exact .inl (List.mem_of_mem_drop hs)
   rcases Af with hs|rfl
   ·refine(h.sets s hs).keep (fun b hb=>keep b ((h.sets s hs).lt b hb) ?_ ?_)
    ·intro e;exact a5 (List.mem_flatMap.2 ⟨s,hs,by rw [<- e];exact hb⟩)
    intro e;exact a8 b (by rw [e];simp) b (List.mem_flatMap.2 ⟨s,hs,hb⟩) rfl
   exact⟨hK.dS O7 (show sb≠o.hd by omega) (fun e=>by have:=aD7 sb e;omega),hK.dS kh1 (show EN≠o.hd by omega) (fun e=>by have:=aD7 EN e;omega),World.ownsRow_nil _ _ _ _⟩
  ·have hp:(qE {o with rv:=rv',ss:=mR (posOf (eP ty) o.ss) ⟨sb,EN,.slice none 0 0,ty,tt,at_,[]⟩ o.ss}).Perm ([o.dS,o.hd]++(rv'.ownBlock.toList++([sb,EN]++o.ss.flatMap xH))):=by
    show(o.dS::o.hd::(rv'.ownBlock.toList++_)).Perm _
    refine List.Perm.cons _ (List.Perm.cons _ (List.Perm.append_left _ ?_));exact Ad xH _ _ _
   rw [hp.nodup_iff]
   refine O6 (N:=w.heap.size) (M:=w1.heap.size) (r:=o.rv.ownBlock.toList) Qm (h.lt) (by simp;omega) (by
    intro y hy;simp at hy
    rcases hy with rfl|rfl<;>omega) (Ae _) ?_ En.size
   rcases Xm with h1|h1
   ·left;rw [h1]
   right;intro x hx
   cases hr:rv'.ownBlock with
   |none=>rw [hr] at hx;simp at hx
   |some q=>
    rw [hr] at hx;simp at hx;subst hx;exact h1 _ hr
  ·refine⟨hK.os.trans En.os,hK.tape.trans En.tape,hK.output.trans En.output,jN En.size hK.size,fun k hk hn=>keep k hk (fun e=>hn (by rw [e];simp [qE])) (fun e=>hn (by simp only [qE,List.mem_cons,List.mem_append];exact .inr (.inr (.inl (by rw [e];simp)))))⟩
  intro b hb
  have hp:(qE {o with rv:=rv',ss:=mR (posOf (eP ty) o.ss) ⟨sb,EN,.slice none 0 0,ty,tt,at_,[]⟩ o.ss}).Perm ([o.dS,o.hd]++(rv'.ownBlock.toList++([sb,EN]++o.ss.flatMap xH))):=by
   show(o.dS::o.hd::(rv'.ownBlock.toList++_)).Perm _
   refine List.Perm.cons _ (List.Perm.cons _ (List.Perm.append_left _ ?_));exact Ad xH _ _ _
  rw [hp.mem_iff] at hb;simp only [List.mem_append,List.mem_cons,List.not_mem_nil,or_false] at hb
  rcases hb with(rfl|rfl)|hb|(rfl|rfl)|hb
  ·left;simp [qE]
  ·left;simp [qE]
  ·rcases Xm with h1|h1
   ·left;rw [h1] at hb;simp only [qE,List.mem_cons,List.mem_append];exact .inr (.inr (.inl hb))
   right
   cases hr:rv'.ownBlock with
   |none=>rw [hr] at hb;simp at hb
   |some q=>
    rw [hr] at hb;simp at hb;subst hb;have:=h1 _ hr;have:=En.size;omega
  ·right;omega
  ·right;omega
  left;simp only [qE,List.mem_cons,List.mem_append];exact .inr (.inr (.inr hb))
def lD:Value->Option Nat
 |.slice (some a) _ _=>some a.block
 |_=>none
structure PV (w:World) (fp:List Nat) (v:Value) (lab:List ByteArray):Prop where
 row:Nm.bP w v lab
 far:lab≠[]->∀ b,lD v=some b->b∉fp∧b<w.heap.size
 fit:(∀ x∈lab,x.size<=1000000000)∧lab.length<=1000000000
def mU(w:World)(fp:List Nat)(os:List dG):Prop:=∀ o∈os,PV w fp o.lv o.lab
theorem KL{lab:List ByteArray}(h:Nm.bP w v lab)(he:lab≠[]->∀ b,lD v=some b->w'.heap[b]? =w.heap[b]?):Nm.bP w' v lab:=by
 obtain⟨a,cap,rfl,h1,h2,h3,h4⟩:=h;refine⟨a,cap,rfl,h1,h2,h3,fun dM=>?_⟩;obtain⟨b,off,rfl,hc⟩:=h4 dM;refine⟨b,off,rfl,fun k x hx=>?_⟩;rw [World.cell?_of_block (w:=w) (he dM b rfl)];exact hc k x hx
theorem PV.outs{fp fp':List Nat}{lab:List ByteArray}(h:PV w fp v lab)(ho:dN fp w w')(hf:∀ b∈fp',b∈fp∨w.heap.size<=b):PV w' fp' v lab:=by
 refine⟨KL h.row (fun dM b hb=>?_),fun dM b hb=>?_,h.fit⟩
 ·obtain⟨h1,h2⟩:=h.far dM b hb;exact ho.block b h2 h1
 obtain⟨h1,h2⟩:=h.far dM b hb;refine⟨fun hm=>?_,vF h2 ho.size⟩
 rcases hf b hm with h3|h3
 ·exact h1 h3
 omega
def dX(lab:List ByteArray)(o:dG):Int:=Nm.aN o.lab lab
def Jz(l:List dG):Prop:=l.Pairwise fun a b=>Nm.aN a.lab b.lab<0
theorem mG{a b c:List ByteArray}(h1:Nm.aN a b<0)(h2:Nm.aN b c<0):Nm.aN a c<0:=by
 have h3:=iD (a:=a) (b:=b) (c:=c) (by omega) (by omega)
 rcases Int.lt_or_eq_of_le h3 with h|h
 ·exact h
 exfalso
 have h4:=dU a c;have h5:=iD (a:=b) (b:=c) (c:=a) (by omega) (by rw [h4];omega);have h6:=dU a b;omega
def aAm(own:ByteArray)(lv:Value)(lab:List ByteArray)(l:List dG)(o:dG)(l':List dG):Prop:=
 (gY (dX lab) l=true∧l'=l∧l[posOf (dX lab) l]? =some o∧Nm.aN o.lab lab=0)∨(gY (dX lab) l=false∧l'=mR (posOf (dX lab) l) o l∧o.lab=lab∧o.lv=lv∧o.nm=own∧o.ss=[])
theorem aAn(th:Nat)(rv:Value)(os:List dG)(B rb lb:Nat)(own:ByteArray)(la:Option Addr)(ln lc:Nat)(lab:List ByteArray)(r1 r2 r3 r4:Value)(w:World)(h:nQ w B th rv os)(hB:B<=w.heap.size)(hl:os.length<=500000)(hd:Jz os)(jD:mU w (jF th rv os) os)(IQ:PV w (jF th rv os) (.slice la ln lc) lab)(kr:bW w rb #[.string own,r1,r2,r3,r4] 133)(kl:bW w lb #[.slice la ln lc] 63)(hs:own.size<=1000000000):
 Calls Tryz.prog 164 #[ptr th,.slice la ln lc,.func (.func 165) #[] #[ptr rb,ptr lb]] w fun e w'=>∃ o rv' os',e=.returned (ptr o.dS)∧aAm own (.slice la ln lc) lab os o os'∧nQ w' B th rv' os'∧dN (jF th rv os) w w'∧∀ b∈jF th rv' os',b∈jF th rv os∨w.heap.size<=b:=by
 have nV:(jS os).length=os.length:=by simp [jS]
 have XF:∀ (tb i:Nat) (p:Value×Value),(jS os)[i]? =some p->∀ W,Below w.heap.size w W->bW W tb #[.pointer (some ⟨th,0,none⟩)] 100->Calls Tryz.prog 134 #[.agg #[p.1,p.2],.slice la ln lc,.pointer (some ⟨tb,0,none⟩)] W fun e w'=>e=.returned (.int .i64 (pO (dX lab) os i))∧Below W.heap.size W w':=by
  intro tb i p hp W hW kb;simp only [jS,List.getElem?_map,Option.map_eq_some_iff] at hp;obtain⟨q,hq,rfl⟩:=hp;rw [jV hq];have zT:=jD q (dA hq);exact IG tb th rv (ptr q.dS) q.lv (.slice la ln lc) q.lab lab W kb (aB h.head hW) (zT.row.below hW) (IQ.row.below hW) zT.fit.1 zT.fit.2 IQ.fit.2
 have mF:=lI (f:=dX lab) hd (fun a b Pe hb=>by
  exact mG Pe hb)
 have zG:=rV os mF
 cases kY:gY (dX lab) os with
 |true=>
  obtain⟨x,hx,NF⟩:=uP kY;have hx':(jS os)[posOf (dX lab) os]? =some (x.lv,ptr x.dS):=by simp [jS,hx]
  refine(Py th B wI rv (.slice la ln lc) _ (jS os) (pO (dX lab) os) (posOf (dX lab) os) _ w h.head h.rows (by omega) XF (by rw [nV];exact mF) (by rw [nV];exact zG) hx' (by rw [jV hx];exact NF)).mono ?_;rintro e w' ⟨rfl,hb⟩
  exact⟨x,rv,os,rfl,.inl ⟨kY,rfl,hx,NF⟩,h.keep (fun b hm=>hb.block b (h.lt b hm)),dN.below hb,fun b AR=>.inl AR⟩
 |false=>
  have WG:=Jp th B wI rv la ln lc #[ptr rb,ptr lb] (jS os) (pO (dX lab) os) (posOf (dX lab) os) w none (aM3 own (.slice la ln lc)) h.head h.rows (by omega) XF (by rw [nV];exact mF) (by rw [nV];exact zG) (by rw [nV];exact IB kY)
   (fun p hp=>by
    simp only [jS,List.mem_map] at hp;obtain⟨q,hq,rfl⟩:=hp;obtain⟨qa,qc,e,_⟩:=(jD q hq).row;refine⟨?_,rfl⟩;show q.lv.oneCell'=true
    rw [e]
    rfl) hB
   (fun W hW=>aDu rb lb own r1 r2 r3 r4 la ln lc W (aB kr hW) (aB kl hW) hs) (by simp) (by simp)
  refine WG.mono ?_;rintro e w' ⟨ux,W,w1,rv',rfl,hW,mD,⟨EN,sb,rfl,hh1,oG,dM,kh1,O7⟩,M9,OA,hK,Xm⟩;have En:Below w.heap.size w w1:=⟨mD.os.trans hW.os,mD.tape.trans hW.tape,mD.output.trans hW.output,jN hW.size mD.size,fun k hk=>(mD.block k (vF hk hW.size) (by simp)).trans (hW.block k hk)⟩;have hsW:=hW.size;have rW:=cO O7;have hhb:=cO kh1;have aD7:∀ x,rv.ownBlock=some x->x<w.heap.size:=fun x hx=>(h.rows.lt x hx).2
  have aQx:=cO h.head;have keep:∀ b,b<w.heap.size->b≠th->rv.ownBlock≠some b->w'.heap[b]? =w.heap[b]? :=fun b hb h1 h2=>(hK.block b (vF hb En.size) h1 h2).trans (En.block b hb)
  have aAl:=h.nodup;simp only [jF,List.nodup_cons,List.nodup_append,List.mem_append,not_or] at aAl;obtain⟨⟨a2,a3⟩,a6,a7,a8⟩:=aAl;obtain⟨on,hon⟩:∃ on:dG,on=⟨sb,EN,.slice none 0 0,.slice la ln lc,lab,own,[]⟩:=⟨_,rfl⟩
  have hp:(jF th rv' (mR (posOf (dX lab) os) on os)).Perm ([th]++(rv'.ownBlock.toList++([sb,EN]++os.flatMap qE))):=by
   show(th::(rv'.ownBlock.toList++_)).Perm _
   refine List.Perm.cons _ (List.Perm.append_left _ ?_);have:=Ad qE (posOf (dX lab) os) on os;rw [show qE on=[sb,EN] by rw [hon];rfl] at this;exact this
  refine⟨on,rv',mR (posOf (dX lab) os) on os,by rw [hon];rfl,.inr ⟨kY,rfl,by rw [hon],by rw [hon],by rw [hon],by rw [hon]⟩,⟨M9,?_,?_,?_⟩,?_,?_⟩
  ·have e1:jS (mR (posOf (dX lab) os) on os)=(jS os).take (posOf (dX lab) os)++[(Value.slice la ln lc,Value.pointer (some ⟨sb,0,none⟩))]++(jS os).drop (posOf (dX lab) os):=by rw [hon];simp [jS,mR,ptr]
   rw [e1]
   have hle:((jS os).take (posOf (dX lab) os)++[(Value.slice la ln lc,Value.pointer (some ⟨sb,0,none⟩))]++(jS os).drop (posOf (dX lab) os)).length=(jS os).length+1:=by
    have:=zG.1;simp
    omega
   rw [hle];exact OA
  ·intro o ho
   have Af:o∈os∨o=on:=by
    simp only [mR,List.mem_append,List.mem_singleton] at ho
    rcases ho with(ho|ho)|ho
    ·exact .inl (List.mem_of_mem_take ho)
    ·exact .inr ho
    exact .inl (List.mem_of_mem_drop ho)
   rcases Af with ho|rfl
   ·refine(h.jG o ho).keep (fun b hb=>keep b ((h.jG o ho).lt b hb) ?_ ?_)
    ·intro e;exact a3 (List.mem_flatMap.2 ⟨o,ho,by rw [<- e];exact hb⟩)
    intro e;exact a8 b (by rw [e];simp) b (List.mem_flatMap.2 ⟨o,ho,hb⟩) rfl
   rw [hon];exact⟨hK.dS O7 (show sb≠th by omega) (fun e=>by have:=aD7 sb e;omega),hK.dS kh1 (show EN≠th by omega) (fun e=>by have:=aD7 EN e;omega),World.ownsRow_nil _ _ _ _,by simp⟩
  ·rw [hp.nodup_iff]
   refine O6 (N:=w.heap.size) (M:=w1.heap.size) (r:=rv.ownBlock.toList) h.nodup (h.lt) (by simp;omega) (by
    intro y hy;simp at hy
    rcases hy with rfl|rfl<;>omega) (Ae _) ?_ En.size
   rcases Xm with h1|h1
   ·left;rw [h1]
   right;intro x hx
   cases hr:rv'.ownBlock with
   |none=>rw [hr] at hx;simp at hx
   |some q=>
    rw [hr] at hx;simp at hx;subst hx;exact h1 _ hr
  ·refine⟨hK.os.trans En.os,hK.tape.trans En.tape,hK.output.trans En.output,jN En.size hK.size,fun k hk hn=>keep k hk (fun e=>hn (by rw [e];simp [jF])) (fun e=>hn (by simp only [jF,List.mem_cons,List.mem_append];exact .inr (.inl (by rw [e];simp))))⟩
  intro b hb;rw [hp.mem_iff] at hb;simp only [List.mem_append,List.mem_cons,List.not_mem_nil,or_false] at hb
  rcases hb with rfl|hb|(rfl|rfl)|hb
  ·left;simp [jF]
  ·rcases Xm with h1|h1
   ·left;rw [h1] at hb;simp only [jF,List.mem_cons,List.mem_append];exact .inr (.inl hb)
   right
   cases hr:rv'.ownBlock with
   |none=>rw [hr] at hb;simp at hb
   |some q=>
    rw [hr] at hb;simp at hb;subst hb;have:=h1 _ hr;have:=En.size;omega
  ·right;omega
  ·right;omega
  left;simp only [jF,List.mem_cons,List.mem_append];exact .inr (.inr hb)
theorem KM{α:Type}{l:List α}{x:α}(h:l[j]? =some x)(y:α):l=l.take j++[x]++l.drop (j+1)∧l.set j y=l.take j++[y]++l.drop (j+1):=by
 obtain⟨hj,e⟩:=dL h;constructor
 ·rw [List.append_assoc,List.singleton_append,<- e,List.getElem_cons_drop,List.take_append_drop]
 rw [List.set_eq_take_append_cons_drop,if_pos hj,List.append_assoc];rfl
theorem aD8{N:Nat}{X A A' Y:List Nat}(h:(X++(A++Y)).Nodup)(bY:∀ x∈X++(A++Y),x<N)(hA:A'.Nodup)(hm:∀ a∈A',a∈A∨N<=a):(X++(A'++Y)).Nodup:=by
 rw [List.nodup_append,List.nodup_append] at h;obtain⟨hX,⟨hA0,hY,hAY⟩,hXA⟩:=h;rw [List.nodup_append,List.nodup_append];refine⟨hX,⟨hA,hY,fun a ha b hb=>?_⟩,fun a ha b hb=>?_⟩
 ·rcases hm a ha with h1|h1
  ·exact hAY a h1 b hb
  have:=bY b (by simp [hb]);omega
 rcases iU hb with hb|hb
 ·rcases hm b hb with h1|h1
  ·exact hXA a ha b (List.mem_append.2 (.inl h1))
  have:=bY a (by simp [ha]);omega
 exact hXA a ha b (List.mem_append.2 (.inr hb))
theorem aKs{o:dG}{s s':nY}{F:List Nat}(h:yB w B o)(Qm:(qE o).Nodup)(hj:o.ss[j]? =some s)(hs:Ec w' B s')(hb:s'.dS=s.dS)(ht:s'.ty=s.ty)(hn:(xH s').Nodup)
 (hm:∀ b∈xH s',b∈xH s∨w.heap.size<=b) (hF:dN F w w') (hFo:∀ b∈F,b∈qE o->b∈xH s):
 yB w' B {o with ss:=o.ss.set j s'}∧(qE {o with ss:=o.ss.set j s'}).Nodup∧∀ b∈qE {o with ss:=o.ss.set j s'},b∈qE o∨w.heap.size<=b:=by
 obtain⟨e1,e2⟩:=KM hj s'
 have f1:qE o=(o.dS::o.hd::(o.rv.ownBlock.toList++(o.ss.take j).flatMap xH))++(xH s++(o.ss.drop (j+1)).flatMap xH):=by
  conv=>lhs;rw [qE,e1]
  simp
 have f2:qE {o with ss:=o.ss.set j s'}=(o.dS::o.hd::(o.rv.ownBlock.toList++(o.ss.take j).flatMap xH))++(xH s'++(o.ss.drop (j+1)).flatMap xH):=by
  show o.dS::o.hd::(o.rv.ownBlock.toList++(o.ss.set j s').flatMap xH)=_
  rw [e2];simp
 have Ka:=Qm;rw [f1] at Ka;have bY:∀ x∈(o.dS::o.hd::(o.rv.ownBlock.toList++(o.ss.take j).flatMap xH))++(xH s++(o.ss.drop (j+1)).flatMap xH),x<w.heap.size:=fun x hx=>h.lt x (by rw [f1];exact hx)
 have Qn:∀ b,b∈(o.dS::o.hd::(o.rv.ownBlock.toList++(o.ss.take j).flatMap xH))∨b∈(o.ss.drop (j+1)).flatMap xH->b∉xH s:=by
  intro b hb ZQ;rw [List.nodup_append,List.nodup_append] at Ka;obtain⟨_,⟨_,_,h3⟩,h4⟩:=Ka
  rcases hb with hb|hb
  ·exact h4 b hb b (List.mem_append.2 (.inl ZQ)) rfl
  exact h3 b ZQ b hb rfl
 have keep:∀ b∈qE o,b∉xH s->w'.heap[b]? =w.heap[b]? :=fun b hbo ZQ=>hF.block b (h.lt b hbo) (fun hbF=>ZQ (hFo b hbF hbo))
 refine⟨⟨?_,?_,?_,?_⟩,?_,?_⟩
 ·exact lJ h.node (keep _ (by simp [qE]) (Qn _ (.inl (by simp))))
 ·exact lJ h.head (keep _ (by simp [qE]) (Qn _ (.inl (by simp))))
 ·have e3:lQ (o.ss.set j s')=lQ o.ss:=by
   rw [e2]
   conv=>rhs;rw [e1]
   simp [lQ,hb,ht]
  show w'.ownsRow B _ 2 o.rv (lQ (o.ss.set j s')).length (eO (lQ (o.ss.set j s')))
  rw [e3];refine BL h.rows (fun b AR=>keep b (by simp only [qE,List.mem_cons,List.mem_append];exact .inr (.inr (.inl AR))) (Qn b (.inl (by simp only [List.mem_cons,List.mem_append];exact .inr (.inr (.inl AR))))))
 ·intro t htm;have aKt:t∈o.ss.set j s':=htm;rw [e2] at aKt;simp only [List.mem_append,List.mem_singleton] at aKt
  have old:∀ t∈o.ss,(t∈o.ss.take j∨t∈o.ss.drop (j+1))->Ec w' B t:=by
   intro t hto FW;refine(h.sets t hto).keep (fun b AR=>keep b (by simp only [qE,List.mem_cons,List.mem_append,List.mem_flatMap];exact .inr (.inr (.inr ⟨t,hto,AR⟩))) (Qn b ?_))
   rcases FW with FW|FW
   ·left;simp only [List.mem_cons,List.mem_append,List.mem_flatMap];exact .inr (.inr (.inr ⟨t,FW,AR⟩))
   right;exact List.mem_flatMap.2 ⟨t,FW,AR⟩
  rcases aKt with(FW|rfl)|FW
  ·exact old t (List.mem_of_mem_take FW) (.inl FW)
  ·exact hs
  exact old t (List.mem_of_mem_drop FW) (.inr FW)
 ·rw [f2];exact aD8 Ka bY hn hm
 intro b AR;rw [f2] at AR;rw [f1]
 rcases iU AR with AR|AR
 ·exact .inl (List.mem_append.2 (.inl AR))
 rcases iU AR with AR|AR
 ·rcases hm b AR with h1|h1
  ·exact .inl (List.mem_append.2 (.inr (List.mem_append.2 (.inl h1))))
  exact .inr h1
 exact .inl (List.mem_append.2 (.inr (List.mem_append.2 (.inr AR))))
theorem Qo{th:Nat}{rv:Value}{os:List dG}{p:Nat}{o o':dG}{F:List Nat}(h:nQ w B th rv os)(hp:os[p]? =some o)(ho:yB w' B o')(hb:o'.dS=o.dS)(hl:o'.lv=o.lv)(hn:(qE o').Nodup)
 (hm:∀ b∈qE o',b∈qE o∨w.heap.size<=b) (hF:dN F w w') (hFo:∀ b∈F,b∈jF th rv os->b∈qE o):
 nQ w' B th rv (os.set p o')∧∀ b∈jF th rv (os.set p o'),b∈jF th rv os∨w.heap.size<=b:=by
 obtain⟨e1,e2⟩:=KM hp o'
 have f1:jF th rv os=(th::(rv.ownBlock.toList++(os.take p).flatMap qE))++(qE o++(os.drop (p+1)).flatMap qE):=by
  conv=>lhs;rw [jF,e1]
  simp
 have f2:jF th rv (os.set p o')=(th::(rv.ownBlock.toList++(os.take p).flatMap qE))++(qE o'++(os.drop (p+1)).flatMap qE):=by
  rw [jF,e2];simp
 have Ka:=h.nodup;rw [f1] at Ka;have bY:∀ x∈(th::(rv.ownBlock.toList++(os.take p).flatMap qE))++(qE o++(os.drop (p+1)).flatMap qE),x<w.heap.size:=fun x hx=>h.lt x (by rw [f1];exact hx)
 have Qn:∀ b,b∈(th::(rv.ownBlock.toList++(os.take p).flatMap qE))∨b∈(os.drop (p+1)).flatMap qE->b∉qE o:=by
  intro b hb ZQ;rw [List.nodup_append,List.nodup_append] at Ka;obtain⟨_,⟨_,_,h3⟩,h4⟩:=Ka
  rcases hb with hb|hb
  ·exact h4 b hb b (List.mem_append.2 (.inl ZQ)) rfl
  exact h3 b ZQ b hb rfl
 have keep:∀ b∈jF th rv os,b∉qE o->w'.heap[b]? =w.heap[b]? :=fun b hbo ZQ=>hF.block b (h.lt b hbo) (fun hbF=>ZQ (hFo b hbF hbo))
 refine⟨⟨?_,?_,?_,?_⟩,?_⟩
 ·exact lJ h.head (keep _ (by simp [jF]) (Qn _ (.inl (by simp))))
 ·have e3:jS (os.set p o')=jS os:=by
   rw [e2]
   conv=>rhs;rw [e1]
   simp [jS,hb,hl]
  rw [e3];refine BL h.rows (fun b AR=>keep b (by simp only [jF,List.mem_cons,List.mem_append];exact .inr (.inl AR)) (Qn b (.inl (by simp only [List.mem_cons,List.mem_append];exact .inr (.inl AR)))))
 ·intro t htm;rw [e2] at htm;simp only [List.mem_append,List.mem_singleton] at htm
  have old:∀ t∈os,(t∈os.take p∨t∈os.drop (p+1))->yB w' B t:=by
   intro t hto FW;refine(h.jG t hto).keep (fun b AR=>keep b (by simp only [jF,List.mem_cons,List.mem_append,List.mem_flatMap];exact .inr (.inr ⟨t,hto,AR⟩)) (Qn b ?_))
   rcases FW with FW|FW
   ·left;simp only [List.mem_cons,List.mem_append,List.mem_flatMap];exact .inr (.inr ⟨t,FW,AR⟩)
   right;exact List.mem_flatMap.2 ⟨t,FW,AR⟩
  rcases htm with(FW|rfl)|FW
  ·exact old t (List.mem_of_mem_take FW) (.inl FW)
  ·exact ho
  exact old t (List.mem_of_mem_drop FW) (.inr FW)
 ·rw [f2];exact aD8 Ka bY hn hm
 intro b AR;rw [f2] at AR;rw [f1]
 rcases iU AR with AR|AR
 ·exact .inl (List.mem_append.2 (.inl AR))
 rcases iU AR with AR|AR
 ·rcases hm b AR with h1|h1
  ·exact .inl (List.mem_append.2 (.inr (List.mem_append.2 (.inl h1))))
  exact .inr h1
 exact .inl (List.mem_append.2 (.inr (List.mem_append.2 (.inr AR))))
theorem aAo{f:ByteArray}(h1:f.size<=100)(h2:f.data.toList.all (fun c=>c==110||c==98||c==116||c==115||c==99||c==109||c==42)=true):Xy f:=by
 refine⟨h1,?_⟩;intro k hk;have:=List.all_eq_true.1 h2 f[k] (dA (Nm.lF hk));simpa [or_assoc] using this
theorem XR(t:Int):Xy (Dt.nW t):=by
 unfold Dt.nW
 repeat' split
 all_goals exact aAo (by decide) (by decide)
theorem Xz{t:Int}{d:ByteArray}:(Dt.parts (Dt.qH t) d).isSome=(Dt.spans (Dt.nX t) 0 d).isSome:=by
 rw [<- Dt.vH,Dt.oM];simp
theorem zV(t:Int)(d:ByteArray)(w:World):
 Calls Tryz.prog 123 #[.int .i64 t,.string d] w fun e w'=>e=.returned (.int .i64 (fH t d))∧Below w.heap.size w w':=by
 by_cases ht:t<0∨65535<t
 ·have HC:=Nm.aD (KH (d:=d) ht)
  by_cases ht0:t<0
  ·clear ht;go_enter Tryz.func123,Tryz.ntmps123;go_wp2;go_ret;rw [HC.out.1];exact⟨rfl,aJ _ _⟩
  have ht1:65535<t:=by omega
  clear ht;go_enter Tryz.func123,Tryz.ntmps123;go_wp2;go_ret;rw [HC.out.1];exact⟨rfl,aJ _ _⟩
 have ht0:0<=t:=by omega
 have ht1:t<=65535:=by omega
 by_cases hl:65535<d.size
 ·have HC:=Nm.aD (KI ht hl);have J6:(65535:Int)<(d.size:Int):=by omega
  clear ht;go_enter Tryz.func123,Tryz.ntmps123;go_wp2;go_ret;rw [HC.out.1];exact⟨rfl,aJ _ _⟩
 have J6:(d.size:Int)<=65535:=by omega
 have aX:=fun w=>PU (Dt.nW t) d w (XR t) (by omega)
 have IR:=GZ t;have RG:=Xz (t:=t) (d:=d);rw [Dt.qH] at RG;rw [RG] at aX;generalize Dt.nW t=f at*
 cases hq:Dt.spans (Dt.nX t) 0 d with
 |none=>
  have HC:=Nm.aD (SN ht hl hq);rw [hq] at aX;clear ht hl hq RG;go_enter Tryz.func123,Tryz.ntmps123;go_wp2_with (first|(go_at_call 124;refine(IR _).mono ?_;rintro e w1 ⟨rfl,hw⟩;obtain rfl:w=w1:=hw.symm;clear hw)|(go_at_call 125;refine(aX _).mono ?_;rintro e w2 ⟨v,rfl,_,aG⟩))
  go_ret;rw [HC.out.1]
  exact⟨rfl,aG⟩
 |some sp=>
  have HC:=Nm.aD (KJ ht hl hq);rw [hq] at aX;clear ht hl hq RG;go_enter Tryz.func123,Tryz.ntmps123;go_wp2_with (first|(go_at_call 124;refine(IR _).mono ?_;rintro e w1 ⟨rfl,hw⟩;obtain rfl:w=w1:=hw.symm;clear hw)|(go_at_call 125;refine(aX _).mono ?_;rintro e w2 ⟨v,rfl,_,aG⟩))
  go_ret;rw [HC.out.1];exact⟨rfl,aG⟩
theorem aH8(g B:Nat)(lK rv key:Value)(rs:List (Value×Value))(cf:Nat->Int)(k:Nat)(p:Value×Value)(w:World)(hg:bW w g #[lK,rv] 163)(h:w.ownsRow B 165 2 rv rs.length (eO rs))(hl:rs.length<=1000000)
 (hf:∀ (tb i:Nat) (p:Value×Value),rs[i]? =some p->∀ W,Below w.heap.size w W->bW W tb #[.pointer (some ⟨g,0,none⟩)] 100->Calls Tryz.prog 134 #[.agg #[p.1,p.2],key,.pointer (some ⟨tb,0,none⟩)] W fun e w'=>e=.returned (.int .i64 (cf i))∧Below W.heap.size W w')
 (hm:∀ a b,a<=b->b<rs.length->cf b<0->cf a<0) (hk:FU rs.length cf k) (hp:rs[k]? =some p) (h0:cf k=0):
 Calls Tryz.prog 70 #[.pointer (some ⟨g,0,none⟩),key] w fun e w'=>e=.returned (.tuple #[p.2,.bool true])∧Below w.heap.size w w':=by
 have nZ:=yH g lK rv key rs cf w hg (dZ.aP h) hl hf hm;have mK:=(dL hp).1;have MI:=eY rs k 1 p hp (by decide);obtain⟨_,a,cap,rfl,gT,kV,hc⟩:=dZ.aP h;obtain⟨b,off,rfl,aH⟩:=hc (by omega);have c1:=aH _ _ MI;have HK:=Nm.aD hk;have H0:=Nm.aD (aV mK h0);unfold maxLen at kV;have n1:=fE k
 have n2:(k:Int)<(rs.length:Int):=by omega
 clear hf hm hk hp h0 h aH hc MI;go_enter Tryz.func70,Tryz.ntmps70;go_wp2_with fail
 refine nZ.mono ?_;rintro e w1 ⟨k',vT,rfl,b1⟩;obtain rfl:=FU.unique HK.out vT;rw [oI H0.out.1,oI H0.out.2];have kg:=aB hg b1;have rg:=aA kg
 have d1:w1.cell? ⟨b,off+k*2+1,none⟩=some p.2:=(b1.cell (fD w _ c1)).trans c1;have tt:(true&&true)=true:=rfl;clear nZ vT c1 H0;go_wp2;go_ret2;exact⟨rfl,b1⟩
theorem aD9(g B:Nat)(lK rv key:Value)(rs:List (Value×Value))(cf:Nat->Int)(k:Nat)(w:World)(hg:bW w g #[lK,rv] 163)(h:w.ownsRow B 165 2 rv rs.length (eO rs))(hl:rs.length<=1000000)
 (hf:∀ (tb i:Nat) (p:Value×Value),rs[i]? =some p->∀ W,Below w.heap.size w W->bW W tb #[.pointer (some ⟨g,0,none⟩)] 100->Calls Tryz.prog 134 #[.agg #[p.1,p.2],key,.pointer (some ⟨tb,0,none⟩)] W fun e w'=>e=.returned (.int .i64 (cf i))∧Below W.heap.size W w')
 (hm:∀ a b,a<=b->b<rs.length->cf b<0->cf a<0) (hk:FU rs.length cf k) (h0:¬(k<rs.length∧cf k=0)):
 Calls Tryz.prog 70 #[.pointer (some ⟨g,0,none⟩),key] w fun e w'=>e=.returned (.tuple #[.pointer none,.bool false])∧Below w.heap.size w w':=by
 have nZ:=yH g lK rv key rs cf w hg (dZ.aP h) hl hf hm;have HK:=Nm.aD hk
 have H0:Hid ((decide (k<rs.length)&&decide (cf k=0))=false):=by
  show _=_
  rw [Bool.and_eq_false_iff]
  by_cases hx:k<rs.length
  ·exact .inr (oF (fun h=>h0 ⟨hx,h⟩))
  exact .inl (oF hx)
 clear hf hm hk h0 h;go_enter Tryz.func70,Tryz.ntmps70;go_wp2_with fail
 refine nZ.mono ?_;rintro e w1 ⟨k',vT,rfl,b1⟩;obtain rfl:=FU.unique HK.out vT;rw [H0.out];clear nZ vT H0;go_wp2;go_ret2;exact⟨rfl,b1⟩
def tC(a b:It):Bool:=if a.fo=b.fo then(if a.r.ty=b.r.ty then Op.bytesLess a.dt.toList b.dt.toList else decide (a.r.ty<b.r.ty)) else decide (Nm.sH a.fo b.fo<0)
theorem Eo(a b:It)(w:World)(ha:a.fo.size<=maxLen)(hb:b.fo.size<=maxLen):
 Calls Tryz.prog 128 #[.agg (FI a).toArray,.agg (FI b).toArray] w fun e w'=>e=.returned (.bool (tC a b))∧Below w.heap.size w w':=by
 have hB:=((aJ w.heap.size w).alloc (aI _) (.cells (FI a).toArray 141)).alloc (by simp) (.cells (FI b).toArray 141);have oN:=fun W=>IJ a.fo b.fo W ha hb
 have e0:=ba_eq a.fo b.fo;obtain⟨Q,hQ⟩:∃ Q,Q=tC a b:=⟨_,rfl⟩;rw [<- hQ];unfold tC at hQ;obtain⟨⟨o,ty,cl,tt,da⟩,f1,d1,ou⟩:=a;obtain⟨⟨o2,ty2,cl2,tt2,da2⟩,f2,d2,ou2⟩:=b;simp only [FI] at*
 by_cases hf:f1=f2
 ·subst hf;rw [if_pos rfl] at hQ;have nf:(f1.toList != f1.toList)=false:=by simp
  clear e0 oN
  by_cases ht:ty=ty2
  ·subst ht;rw [if_pos rfl] at hQ;have nt:(ty != ty)=false:=by simp
   subst hQ;go_enter Tryz.func128,Tryz.ntmps128;go_wp2;go_ret;exact⟨rfl,hB⟩
  rw [if_neg ht] at hQ;subst hQ;have nt:(ty != ty2)=true:=by rw [bne_iff_ne];exact ht
  go_enter Tryz.func128,Tryz.ntmps128;go_wp2;go_ret;exact⟨rfl,hB⟩
 rw [if_neg hf] at hQ;subst hQ;rw [oF hf] at e0;have nf:(f1.toList != f2.toList)=true:=by rw [bne,e0];rfl
 have e9:¬f1.toList=f2.toList:=by simpa using e0
 generalize Nm.sH f1 f2=CC at*;go_enter Tryz.func128,Tryz.ntmps128;go_wp2_with fail
 refine(oN _).mono ?_;rintro e w1 ⟨rfl,b1⟩;go_wp2;go_ret;exact⟨rfl,Nm.aC hB b1⟩
def tF(x y:It):Bool:=decide (y.fo=x.fo)&&decide (y.r.ty=x.r.ty)
def pU(pre:List It)(x:It):Bool:=pre.any fun y=>tF x y&&decide (y.dt=x.dt)
def uS(pre:List It)(x:It):Bool:=match pre.find? (tF x) with
 |some y=>decide (y.r.tt≠x.r.tt)
 |none=>false
def qG(b:Bool)(x:It):It:={x with out:=x.out||b}
def FX(l:List It):List It:=l.mapIdx fun i x=>qG (pU (l.take i) x) x
def vY(l:List It):Int:=match dC (fun i x=>uS (l.take i) x) l with
 |some i=>i
 |none=> -1
theorem kG(l:List It):(FX l).length=l.length:=by simp [FX]
theorem mY(h:l[i]? =some x):(FX l)[i]? =some (qG (pU (l.take i) x) x):=by
 simp [FX,h]
theorem Gy(x:It)(h:l[k]? =some y):pU (l.take (k+1)) x=(pU (l.take k) x||(tF x y&&decide (y.dt=x.dt))):=by
 obtain⟨hi,e⟩:=dL h;rw [List.take_succ_eq_append_getElem hi,e];simp [pU]
theorem PW{p:It->Bool}(h:∀ (j:Nat) (y:It),j<k->l[j]? =some y->p y=false):(l.take k).find? p=none:=by
 rw [List.find?_eq_none];intro y hy;obtain⟨j,hj,e⟩:=List.getElem_of_mem hy;have OE:=hj;rw [List.length_take] at OE;have h2:l[j]? =some y:=by rw [<- e,List.getElem_take,gF (by omega)]
 simp [h j y (by omega) h2]
theorem ED{f:Nat}{p:It->Bool}(hf:f<k)(hy:l[f]? =some y)(hp:p y=true)(h:∀ (j:Nat) (z:It),j<f->l[j]? =some z->p z=false):(l.take k).find? p=some y:=by
 rw [List.find?_eq_some_iff_getElem];obtain⟨hl,e⟩:=dL hy;refine⟨hp,f,by rw [List.length_take];omega,by rw [List.getElem_take];exact e,fun j hj=>?_⟩;rw [List.getElem_take];have:=h j l[j] hj (gF (by omega));simp [this]
def qL(l:List It)(i k:Nat):List It:=(FX l).take i++(l.drop i).mapIdx fun j x=>if j=0 then qG (pU (l.take k) x) x else x
theorem vM(l:List It)(i k:Nat):(qL l i k).length=l.length:=by
 simp [qL,kG];omega
theorem vD(h:l[j]? =some x)(hj:j<i):(qL l i k)[j]? =some (qG (pU (l.take j) x) x):=by
 have bY:=(dL h).1;rw [qL,List.getElem?_append_left (by rw [List.length_take,kG];omega),List.getElem?_take_of_lt hj,mY h]
theorem zW(h:l[i]? =some x):(qL l i k)[i]? =some (qG (pU (l.take k) x) x):=by
 have bY:=(dL h).1;rw [qL,List.getElem?_append_right (by rw [List.length_take,kG];omega)];simp [kG,Nat.min_eq_left (Nat.le_of_lt bY),h]
theorem zX(h:l[j]? =some x)(hj:i<j):(qL l i k)[j]? =some x:=by
 have bY:=(dL h).1;rw [qL,List.getElem?_append_right (by rw [List.length_take,kG];omega)];simp only [List.length_take,kG,Nat.min_eq_left (by omega:i<=l.length),List.getElem?_mapIdx,List.getElem?_drop];rw [show i+(j-i)=j by omega,h]
 simp;omega
theorem IV{m:List It}(hl:m.length=l.length)(h:∀ (j:Nat) (x:It),l[j]? =some x->m[j]? =(qL l i k)[j]?):m=qL l i k:=by
 apply List.ext_getElem?;intro j
 by_cases hj:j<l.length
 ·exact h j _ (gF hj)
 rw [List.getElem?_eq_none (by omega),List.getElem?_eq_none (by rw [vM];omega)]
theorem Ya(l:List It):qL l 0 0=l:=by
 symm;refine IV rfl fun j x h=>?_
 rcases Nat.eq_zero_or_pos j with rfl|hj
 ·rw [zW h,h];simp [qG,pU]
 rw [zX h hj,h]
theorem aAp(hi:i<l.length):qL l i i=qL l (i+1) 0:=by
 refine IV (vM _ _ _) fun j x h=>?_
 by_cases h1:j<i
 ·rw [vD h h1,vD h (by omega)]
 by_cases h2:j=i
 ·subst h2;rw [zW h,vD h (by omega)]
 by_cases h3:j=i+1
 ·subst h3;rw [zX h (by omega),zW h];simp [qG,pU]
 rw [zX h (by omega),zX h (by omega)]
theorem aEa:qL l l.length 0=FX l:=by
 symm;refine IV (kG l) fun j x h=>?_;have bY:=(dL h).1;rw [vD h bY,mY h]
theorem TA(hx:l[i]? =some x)(hy:l[k]? =some y)(h:(tF x y&&decide (y.dt=x.dt))=false):qL l i (k+1)=qL l i k:=by
 refine IV (vM _ _ _) fun j z hz=>?_
 by_cases h1:j<i
 ·rw [vD hz h1,vD hz h1]
 by_cases h2:j=i
 ·subst h2;rw [hx] at hz;obtain rfl:=jI hz;rw [zW hx,zW hx,Gy x hy,h,Bool.or_false]
 rw [zX hz (by omega),zX hz (by omega)]
theorem aEb(hx:l[i]? =some x)(hy:l[k]? =some y)(h:(tF x y&&decide (y.dt=x.dt))=true):(qL l i k).set i {x with out:=true}=qL l i (k+1):=by
 refine IV (by rw [List.length_set,vM]) fun j z hz=>?_;have bY:=(dL hx).1;rw [List.getElem?_set]
 by_cases h1:j<i
 ·rw [if_neg (by omega),vD hz h1,vD hz h1]
 by_cases h2:j=i
 ·subst h2;rw [hx] at hz;obtain rfl:=jI hz;rw [if_pos rfl,if_pos (by rw [vM];exact bY),zW hx,Gy x hy,h,Bool.or_true,qG,Bool.or_true]
 rw [if_neg (by omega),zX hz (by omega),zX hz (by omega)]
theorem aEc:∀ (l:List It) (i:Nat) (x:It),l[i]? =some x->(fK l).set (i*8+7) (.bool true)=fK (l.set i {x with out:=true}):=by
 intro l
 induction l with
 |nil=>intro i x h;simp at h
 |cons y l ih=>
  intro i x h;have e:∀ z zs,fK (z::zs)=FI z++fK zs:=by intro z zs;simp [fK]
  cases i with
  |zero=>
   simp at h;subst h;rw [List.set_cons_zero,e,e,List.set_append_left _ _ (by simp [FI])]
   rfl
  |succ i=>
   simp at h;have hl:(FI y).length=8:=rfl;rw [List.set_cons_succ,e,e,List.set_append_right _ _ (by omega),hl,show(i+1)*8+7-8=i*8+7 by omega,ih i x h]
theorem iM(s:ByteArray)(w:World)(hs:s.size<=maxLen):
 Calls Tryz.prog 14 #[.string s] w fun e w'=>e=.returned (.bool (Nm.split s).isSome)∧Below w.heap.size w w':=by
 go_enter Tryz.func14,Tryz.ntmps14;go_wp2_with (go_at_call 30;refine(gL s _ hs).mono ?_;rintro e w1 ⟨v,rfl,aU,aG⟩)
 go_ret;exact⟨rfl,by assumption⟩
open Go.Shelf
attribute [local go_sem] Oper.semAt_some
def Yb{α:Type}(kf vf:α->ByteArray)(n₀:Nat)(W:World)(sv:Value)(zs:List α):Prop:=
 (sv=.slice none 0 0∧zs=[])∨∃ b off cap,sv=.slice (some ⟨b,off,none⟩) zs.length cap∧b<n₀∧(zs.length<=cap∧cap<=maxLen)∧
  ∀ (i:Nat) (x:α),zs[i]? =some x->W.cell? ⟨b,off+i*2,none⟩=some (Value.string (kf x))∧W.cell? ⟨b,off+i*2+1,none⟩=some (Value.string (vf x))
theorem Yb.below{α:Type}{kf vf:α->ByteArray}{n₀:Nat}{W W':World}{sv:Value}{zs:List α}(h:Yb kf vf n₀ W sv zs)(hB:Below n₀ W W'):Yb kf vf n₀ W' sv zs:=by
 rcases h with h|⟨b,off,cap,e,hb,RN,hc⟩
 ·exact .inl h
 exact .inr ⟨b,off,cap,e,hb,RN,fun i x hx=>⟨(hB.cell (p:=⟨b,off+i*2,none⟩) hb).trans (hc i x hx).1,(hB.cell (p:=⟨b,off+i*2+1,none⟩) hb).trans (hc i x hx).2⟩⟩
theorem aEd{α:Type}(kf vf:α->ByteArray){e:Nat}(zs:List α)(h:w.ownsRow B e 2 v zs.length (eO (zs.map fun x=>((Value.string (kf x)),(Value.string (vf x)))))):Yb kf vf w.heap.size w v zs:=by
 have h':=h
 rcases h.2 with⟨rfl,h0⟩|⟨q,cap,cur,rfl,hb,hh,mQ,vI,rT,ht⟩
 ·exact .inl ⟨rfl,List.length_eq_zero_iff.1 h0⟩
 refine .inr ⟨q,0,cap,rfl,(Array.getElem?_eq_some_iff.1 hh).1,⟨mQ,vI⟩,fun i x hx=>?_⟩;have hi:=(dL hx).1;have hm:(zs.map fun x=>((Value.string (kf x)),(Value.string (vf x))))[i]? =some ((Value.string (kf x)),(Value.string (vf x))):=by simp [hx]
 have a0:=eY _ i 0 _ hm (by decide);have a1:=eY _ i 1 _ hm (by decide);have c0:=h'.cellAt (i*2) (by omega);have c1:=h'.cellAt (i*2+1) (by omega);exact⟨by rw [Nat.zero_add,c0];exact a0,by rw [Nat.zero_add,c1];exact a1⟩
theorem aAq{α:Type}(F:Fence)(n:Nat)(h7:F.fn 178)(sJ:F.round=none)(l tb g:Nat)(J:List α->World->Prop)(W:World)
 (kb:W.cell? ⟨tb,0,none⟩=some (.pointer (some ⟨g,0,none⟩))) (kg:W.cell? ⟨g,1,none⟩=some (.slice none 0 0)) (h0:J [] W):
 CallsIn F n Tryz.prog 178 #[.func (.yield l) #[] #[],.pointer (some ⟨tb,0,none⟩)] W fun e W'=>(∃ v,e=.returned v)∧J [] W':=by
 refine callsIn_of_wp Tryz.func178 rfl h7 ?_ sJ;simp only [Tryz.ntmps178,List.size_toArray,List.length_cons,List.length_nil,Nat.reduceAdd,Nat.reduceSub,Array.replicate_succ,Array.replicate_zero,List.push_toArray,List.append_toArray,List.nil_append,List.cons_append]
 gi_wp2
 gi_loopw [10] (fun i wr=>i=.int .i64 0∧J [] wr) (fun _ _=>0)
 ·exact⟨rfl,h0⟩
 obtain⟨rfl,Po⟩:=hrel
 gi_wp2
 go_end0
 exact⟨⟨_,rfl⟩,Po⟩
theorem aH9(F:Fence)(n:Nat)(h6:F.fn 150)(sJ:F.round=none)(p:Option Addr)(w:World):
 CallsIn F n Tryz.prog 150 #[.pointer p] w fun e w'=>e=.returned (.func (.func 178) #[] #[.pointer (some ⟨w.heap.size,0,none⟩)])∧w'=w.alloc (.cells #[.pointer p] 175):=by
 refine callsIn_of_wp Tryz.func150 rfl h6 ?_ sJ;simp only [Tryz.ntmps150,List.size_toArray,List.length_cons,List.length_nil,Nat.reduceAdd,Nat.reduceSub,Array.replicate_succ,Array.replicate_zero,List.push_toArray,List.append_toArray,List.nil_append,List.cons_append]
 gi_wp2
 go_ret;exact⟨rfl,rfl⟩
theorem aAr{α:Type}(kf vf:α->ByteArray)(F:Fence)(n:Nat)(h7:F.fn 178)(sJ:F.round=none)(hn:1<=n)(tb g n₀:Nat)(sv:Value)(zs:List α)(hl:zs.length<=1000000)(w:World)(htb:tb<w.heap.size)(hg:g<n₀)(hn₀:n₀<=w.heap.size)
 (kb:w.cell? ⟨tb,0,none⟩=some (.pointer (some ⟨g,0,none⟩))) (kg:w.cell? ⟨g,1,none⟩=some sv) (hR:Yb kf vf n₀ w sv zs):
 SeqStopsK F n Tryz.prog 178 #[.pointer (some ⟨tb,0,none⟩)] (fun x:α=>#[(Value.string (kf x)),(Value.string (vf x))]) (Below n₀) (fun ys=>ys=zs) (fun pre=>pre<+:zs) zs.length w:=fun l J Jx W hW hJ _ hY h0=>by
 have kb':=(hW.cell (p:=⟨tb,0,none⟩) htb).trans kb;have M9:=(hW.cell (p:=⟨g,1,none⟩) (vF hg hn₀)).trans kg
 rcases hR.below (hW.mono hn₀) with⟨rfl,rfl⟩|⟨b,off,cap,rfl,hb,RN,rT⟩
 ·exact(aAq F n h7 sJ l tb g J W kb' M9 h0).mono fun e W' ⟨he,hj⟩=>⟨he,.inl ⟨_,rfl,hj⟩⟩
 exact all1S_in kf vf F n h7 sJ hn l tb g n₀ b off cap (.pointer none) zs hl RN hb J Jx (fun s W1 W2 hs qB=>hJ s W1 W2 none hs qB (fun r e=>by cases e)) hY W kb' M9 rT (jN hn₀ hW.size) h0
end
section
open Go.RowKit Go.Shelf
attribute [local go_sem] Oper.semAt_some
def Qp{α:Type}(ka:α->Option Addr)(kn kc:α->Nat)(vf:α->Addr)(n₀:Nat)(W:World)(sv:Value)(zs:List α):Prop:=
 (sv=.slice none 0 0∧zs=[])∨∃ b off cap,sv=.slice (some ⟨b,off,none⟩) zs.length cap∧b<n₀∧(zs.length<=cap∧cap<=maxLen)∧
  ∀ (i:Nat) (x:α),zs[i]? =some x->W.cell? ⟨b,off+i*2,none⟩=some (Value.slice (ka x) (kn x) (kc x))∧W.cell? ⟨b,off+i*2+1,none⟩=some (Value.pointer (some (vf x)))
theorem Qp.below{α:Type}{ka:α->Option Addr}{kn kc:α->Nat}{vf:α->Addr}{n₀:Nat}{W W':World}{sv:Value}{zs:List α}(h:Qp ka kn kc vf n₀ W sv zs)(hB:Below n₀ W W'):Qp ka kn kc vf n₀ W' sv zs:=by
 rcases h with h|⟨b,off,cap,e,hb,RN,hc⟩
 ·exact .inl h
 exact .inr ⟨b,off,cap,e,hb,RN,fun i x hx=>⟨(hB.cell (p:=⟨b,off+i*2,none⟩) hb).trans (hc i x hx).1,(hB.cell (p:=⟨b,off+i*2+1,none⟩) hb).trans (hc i x hx).2⟩⟩
theorem Ag{α:Type}(ka:α->Option Addr)(kn kc:α->Nat)(vf:α->Addr){e:Nat}(zs:List α)(h:w.ownsRow B e 2 v zs.length (eO (zs.map fun x=>((Value.slice (ka x) (kn x) (kc x)),(Value.pointer (some (vf x))))))):Qp ka kn kc vf w.heap.size w v zs:=by
 have h':=h
 rcases h.2 with⟨rfl,h0⟩|⟨q,cap,cur,rfl,hb,hh,mQ,vI,rT,ht⟩
 ·exact .inl ⟨rfl,List.length_eq_zero_iff.1 h0⟩
 refine .inr ⟨q,0,cap,rfl,(Array.getElem?_eq_some_iff.1 hh).1,⟨mQ,vI⟩,fun i x hx=>?_⟩;have hi:=(dL hx).1;have hm:(zs.map fun x=>((Value.slice (ka x) (kn x) (kc x)),(Value.pointer (some (vf x)))))[i]? =some ((Value.slice (ka x) (kn x) (kc x)),(Value.pointer (some (vf x)))):=by simp [hx]
 have a0:=eY _ i 0 _ hm (by decide);have a1:=eY _ i 1 _ hm (by decide);have c0:=h'.cellAt (i*2) (by omega);have c1:=h'.cellAt (i*2+1) (by omega);exact⟨by rw [Nat.zero_add,c0];exact a0,by rw [Nat.zero_add,c1];exact a1⟩
theorem aAs{α:Type}(F:Fence)(n:Nat)(h7:F.fn 111)(sJ:F.round=none)(l tb g:Nat)(J:List α->World->Prop)(W:World)
 (kb:W.cell? ⟨tb,0,none⟩=some (.pointer (some ⟨g,0,none⟩))) (kg:W.cell? ⟨g,1,none⟩=some (.slice none 0 0)) (h0:J [] W):
 CallsIn F n Tryz.prog 111 #[.func (.yield l) #[] #[],.pointer (some ⟨tb,0,none⟩)] W fun e W'=>(∃ v,e=.returned v)∧J [] W':=by
 refine callsIn_of_wp Tryz.func111 rfl h7 ?_ sJ;simp only [Tryz.ntmps111,List.size_toArray,List.length_cons,List.length_nil,Nat.reduceAdd,Nat.reduceSub,Array.replicate_succ,Array.replicate_zero,List.push_toArray,List.append_toArray,List.nil_append,List.cons_append]
 gi_wp2
 gi_loopw [10] (fun i wr=>i=.int .i64 0∧J [] wr) (fun _ _=>0)
 ·exact⟨rfl,h0⟩
 obtain⟨rfl,Po⟩:=hrel
 gi_wp2
 go_end0
 exact⟨⟨_,rfl⟩,Po⟩
theorem Kb(F:Fence)(n:Nat)(h6:F.fn 67)(sJ:F.round=none)(p:Option Addr)(w:World):
 CallsIn F n Tryz.prog 67 #[.pointer p] w fun e w'=>e=.returned (.func (.func 111) #[] #[.pointer (some ⟨w.heap.size,0,none⟩)])∧w'=w.alloc (.cells #[.pointer p] 100):=by
 refine callsIn_of_wp Tryz.func67 rfl h6 ?_ sJ;simp only [Tryz.ntmps67,List.size_toArray,List.length_cons,List.length_nil,Nat.reduceAdd,Nat.reduceSub,Array.replicate_succ,Array.replicate_zero,List.push_toArray,List.append_toArray,List.nil_append,List.cons_append]
 gi_wp2
 go_ret;exact⟨rfl,rfl⟩
theorem TB{α:Type}(ka:α->Option Addr)(kn kc:α->Nat)(vf:α->Addr)(F:Fence)(n:Nat)(h7:F.fn 111)(sJ:F.round=none)(hn:1<=n)(tb g n₀:Nat)(sv:Value)(zs:List α)(hl:zs.length<=1000000)(w:World)(htb:tb<w.heap.size)(hg:g<n₀)(hn₀:n₀<=w.heap.size)
 (kb:w.cell? ⟨tb,0,none⟩=some (.pointer (some ⟨g,0,none⟩))) (kg:w.cell? ⟨g,1,none⟩=some sv) (hR:Qp ka kn kc vf n₀ w sv zs):
 SeqStopsK F n Tryz.prog 111 #[.pointer (some ⟨tb,0,none⟩)] (fun x:α=>#[(Value.slice (ka x) (kn x) (kc x)),(Value.pointer (some (vf x)))]) (Below n₀) (fun ys=>ys=zs) (fun pre=>pre<+:zs) zs.length w:=fun l J Jx W hW hJ _ hY h0=>by
 have kb':=(hW.cell (p:=⟨tb,0,none⟩) htb).trans kb;have M9:=(hW.cell (p:=⟨g,1,none⟩) (vF hg hn₀)).trans kg
 rcases hR.below (hW.mono hn₀) with⟨rfl,rfl⟩|⟨b,off,cap,rfl,hb,RN,rT⟩
 ·exact(aAs F n h7 sJ l tb g J W kb' M9 h0).mono fun e W' ⟨he,hj⟩=>⟨he,.inl ⟨_,rfl,hj⟩⟩
 exact aDz ka kn kc vf F n h7 sJ hn l tb g n₀ b off cap (.pointer none) zs hl RN hb J Jx (fun s W1 W2 hs qB=>hJ s W1 W2 none hs qB (fun r e=>by cases e)) hY W kb' M9 rT (jN hn₀ hW.size) h0
end
open Go.RowKit
def DlP(w:World)(e:Ending)(w':World):Prop:=∃ (o name:ByteArray) (q:Int) (v:Value) (ps:List Zp),e=.returned (.tuple #[.agg #[.string o,v],.string name,.int .i64 q])∧o.size<=2000∧name.size<=4000∧ZL ps∧gG w' v ps∧Below w.heap.size w w'
def zl:List Zp->Nat
 |[]=>0
 |x::xs=>x.1.da.length+3+zl xs
theorem dF.cell{n:Nat}{ps:List Zp}{p q:Zp}{y:Value}(h:dF w B (.slice (some ⟨g,0,none⟩) n cap) ps)(hn:n=ps.length)(hp:ps[j]? =some p)(hi:i<3)(zT:q.2=p.2)(hqd:q.1.da=p.1.da)(hz:(YR p).set i y=YR q):dF (w.setCell ⟨g,j*4+i,none⟩ y) B (.slice (some ⟨g,0,none⟩) n cap) (ps.set j q):=by
 have hj:=(dL hp).1
 have e1:(lG ps).set (j*4+i) y=lG (ps.set j q):=by
  obtain⟨e2,e3⟩:ps=ps.take j++[p]++ps.drop (j+1)∧ps.set j q=ps.take j++[q]++ps.drop (j+1):=by
   have OE:=dL hp;constructor
   ·conv=>lhs;rw [<- List.take_append_drop j ps,List.drop_eq_getElem_cons OE.1,OE.2]
    simp
   rw [List.set_eq_take_append_cons_drop,if_pos hj];simp
  have hl:(lG (ps.take j)).length=j*4:=by rw [GJ,List.length_take];omega
  rw [e3]
  conv=>lhs;rw [e2]
  have hp4:(YR p).length=4:=rfl;rw [qJ,qJ,qJ,qJ,List.append_assoc,List.append_assoc,List.set_append_right _ _ (by omega),hl,show j*4+i-j*4=i by omega];congr 1;have s1:lG [p]=YR p:=by simp [lG]
  have s2:lG [q]=YR q:=by simp [lG]
  rw [s1,s2,List.set_append_left _ _ (by omega),hz]
 have ho:=h.outer;rw [<- hn] at ho;have mI:=ho.stored (j*4+i) y;rw [e1] at mI;have far:∀ {v:Value} {n:Nat} {xs:List Value},w.ownsRow B 9 1 v n xs->(w.setCell ⟨g,j*4+i,none⟩ y).ownsRow B 9 1 v n xs:=fun hx=>dY hx (jZ hx ho (by decide) g rfl)
 refine⟨by rw [List.length_set,<- hn];exact mI.1,fun m r hr=>?_,fun a b r s hr hs dM=>?_⟩
 ·rw [List.getElem?_set] at hr
  by_cases hm:j=m
  ·subst hm;rw [if_pos rfl,if_pos hj] at hr;obtain rfl:=jI hr;have:=h.inner j p hp;rw [zT,hqd];exact far this
  rw [if_neg hm] at hr;exact far (h.inner m r hr)
 have key:∀ (m:Nat) (r:Zp),(ps.set j q)[m]? =some r->∃ r',ps[m]? =some r'∧r'.2=r.2:=by
  intro m r hr;rw [List.getElem?_set] at hr
  by_cases hm:j=m
  ·subst hm;rw [if_pos rfl,if_pos hj] at hr;obtain rfl:=jI hr;exact⟨p,hp,zT.symm⟩
  rw [if_neg hm] at hr;exact⟨r,hr,rfl⟩
 obtain⟨r',h1,h2⟩:=key a r hr;obtain⟨s',h3,h4⟩:=key b s hs;rw [<- h2,<- h4];exact h.apart a b r' s' h1 h3 dM
theorem Ep(v u:Value)(xs:List ByteArray)(w:World)(h:Nm.bP w v xs)(h':Nm.bP w u xs):
 Calls Tryz.prog 11 #[v,u] w fun e w'=>e=.returned (.bool true)∧Below w.heap.size w w':=by
 obtain⟨a,cap,rfl,gT,kV,_,hc⟩:=h;obtain⟨a',cap',rfl,UY,PM,_,AX⟩:=h';have hlen:xs.length<=maxLen:=by omega
 unfold maxLen at hlen;have dM:((xs.length:Int) != (xs.length:Int))=false:=by simp
 clear gT kV UY PM;go_enter Tryz.func11,Tryz.ntmps11;go_wp2
 go_loopw [5] (fun i wr=>∃ k:Nat,k<=xs.length∧i=.int .i64 k∧Below w.heap.size w wr) (fun i _=>xs.length-(intOf i).toNat)
 ·exact⟨0,dR _,rfl,aJ _ _⟩
 obtain⟨k,hk,rfl,aG⟩:=hrel
 by_cases bY:k<xs.length
 ·obtain⟨x,hx⟩:=gQ bY;obtain⟨b,off,rfl,aH⟩:=hc (by intro e;rw [e] at bY;simp at bY);obtain⟨b',off',rfl,nR⟩:=AX (by intro e;rw [e] at bY;simp at bY);have put:∀ {B O:Nat} {z:Value},w.cell? ⟨B,O,none⟩=some z->wr.cell? ⟨B,O,none⟩=some z:=fun h=>(aG.cell (fD w _ h)).trans h
  have c0:=put (aH k x hx);have d0:=put (nR k x hx);have i1:=fE k
  have i2:(k:Int)<(xs.length:Int):=by omega
  clear hc AX aH nR hx put;go_wp2;go_region
  go_wp2;go_roundw
  ·exact⟨k+1,by omega,by go_num,aG.drew⟩
  simp [intOf];omega
 clear hc AX;go_wp2;go_ret;exact⟨rfl,aG⟩
theorem EE{w1:World}{l:List UInt8}(h:IC w gb l)(hg:w.grownBy w1 (some g))(dM:gb≠g):IC w1 gb l:=by
 intro j c hj;obtain⟨h1,h2⟩:=h j c hj;have bY:=fD w _ h1;have hblk:=hg.block gb bY (fun e=>dM (by simpa using e));exact⟨(World.cell?_of_block (w:=w) hblk).trans h1,(World.frozen?_of_block (w:=w) hblk).trans h2⟩
theorem BU{l:List UInt8}(h:IC w gb l)(hk:k<=l.length):
 (convert 22 9 (.slice (some ⟨gb,0,none⟩) k cap)).run Tryz.prog w=.ok (.string ⟨(l.take k).toArray⟩) w:=by
 have hl:(l.take k).length=k:=by simp;omega
 have:=run_convert_bytes_back (P:=Tryz.prog) w 22 9 5 ⟨gb,0,none⟩ cap (l.take k) Tryz.underlying22 Tryz.underlying5 Tryz.underlying9 (by
  intro j hj;rw [Nm.addr_add,Nat.zero_add];refine(h j _ ?_).1;rw [List.getElem_take]
  exact gF (by omega))
 rw [hl] at this;exact this
theorem tH{n:Nat}{a:Option Addr}(h:Src w g a n cap)(dM:gb≠g)(gJ:n=0∨∀ b off,a=some ⟨b,off,none⟩->b≠gb):Src (w.setCell ⟨gb,i,none⟩ v) g a n cap:=by
 obtain⟨pos,st,h1,h2,h3,h4,h5⟩:=h;refine⟨pos,st,?_,h2,h3,h4,?_⟩
 ·rw [heap_setCell_other w ⟨gb,i,none⟩ g v (fun e=>dM e.symm)];exact h1
 rcases h5 with h5|⟨b,off,e,hb,hc⟩
 ·exact .inl h5
 rcases gJ with h6|h6
 ·exact .inl h6
 refine .inr ⟨b,off,e,hb,fun j hj=>?_⟩;obtain⟨c,mQ,vI⟩:=hc j hj;refine⟨c,?_,vI⟩;rw [World.cell?_setCell_other w ⟨gb,i,none⟩ ⟨b,off+j,none⟩ v (by intro h;cases h;exact h6 _ off e rfl)];exact mQ
theorem BV{w1:World}(h:w.grownBy w1 (some g))(hb:w.heap.size<=gb):w.grownBy (w1.setCell ⟨gb,i,none⟩ v) (some g):=
 BJ h (row:=some gb) ⟨rfl,rfl,rfl,by simp,fun k _ hk=>heap_setCell_other w1 ⟨gb,i,none⟩ k v (fun e=>hk (by simp [e]))⟩ (fun k hk=>by simp at hk;omega)
theorem PX{l:List UInt8}{d:UInt8}:(l.set k d).length=l.length:=by simp
theorem Kc(g:Nat)(a:Option Addr)(n cap:Nat)(nm:ByteArray)(w:World)(h:Src w g a n cap)(h1:1<=nm.size)(h2:nm.size<=1000):
 Calls Tryz.prog 37 #[.pointer (some ⟨g,0,none⟩),.string nm] w fun e w'=>∃ s:ByteArray,e=.returned (.string s)∧s.size<=2000∧Src w' g a n cap∧w.grownBy w' (some g):=by
 obtain⟨gJ,zD⟩:=qK h;obtain⟨cp,W,RN,aEe,Jw,dI,WE⟩:=SF nm w;have aEf:=aEe (by unfold maxLen;omega);unfold maxLen at aEf;have Nq:=aZ h WE;have hg0:=bJ (World.grownBy.refl w (some g)) WE;have dM:w.heap.size≠g:=by omega
 have hcb:n=0∨∀ b off,a=some ⟨b,off,none⟩->b≠w.heap.size:=by
  rcases Nat.eq_zero_or_pos n with hn|hn
  ·exact .inl hn
  refine .inr fun b off e=>?_
  rcases gJ with h0|⟨b',off',e',_,hc⟩
  ·omega
  rw [e] at e';simp only [mV,Addr.mk.injEq,and_true] at e';obtain⟨rfl,rfl⟩:=e';obtain⟨c,mQ,_⟩:=hc 0 (by omega);have:b<w.heap.size:=fD w _ mQ;omega
 have lN:(ByteArray.mk #[97]).size=1:=rfl;have O8:(ByteArray.mk #[64]).size=1:=rfl;have hlen:nm.data.toList.length=nm.size:=by simp
 clear aEe h WE;go_enter Tryz.func37,Tryz.ntmps37;go_wp2_with fail
 refine(aW g a n cap 6 _ Nq (by decide)).mono ?_;rintro e w1 ⟨r,rfl,GU,uG,oG,mD⟩;have wR:=uG (by decide);have IM:=EE dI mD dM;have AQ:=aS hg0 mD;clear uG Jw Nq hg0 dI mD
 rcases(by omega:r=0∨r=1∨r=2∨r=3∨r=4∨r=5) with rfl|rfl|rfl|rfl|rfl|rfl
 ·go_wp2;go_ret;exact⟨_,rfl,by rw [kU,lN];omega,oG,AQ⟩
 ·have OB:=BU (cap:=cp) (k:=nm.size-1) IM (by omega);have hms:=DV (nm.data.toList.take (nm.size-1));generalize ByteArray.mk (nm.data.toList.take (nm.size-1)).toArray=T at*;have HT:Hid (T.size<=2000):=by show _<=_;rw [hms,List.length_take];omega
  clear hms;go_wp2;go_ret;exact⟨_,rfl,HT.out,oG,AQ⟩
 ·go_wp2;go_ret;exact⟨_,rfl,by decide,oG,AQ⟩
 ·have hl0:0<nm.size:=by omega
  obtain⟨c0,PG⟩:∃ c0,nm.data.toList[0]? =some c0:=⟨_,gF (by omega)⟩;go_wp2_with (go_at_call 18;refine(aW g a n cap 256 _ oG (by decide)).mono ?_;rintro e w2 ⟨q,rfl,IK,uB,oU,mM⟩;have zT:=uB (by decide);obtain⟨c,hc⟩:=zO IK zT;subst hc;have tJ:=EE IM mM dM;have aAt:=aS AQ mM;obtain⟨aH,Xf⟩:=tJ 0 c0 PG;have HS:=Nm.aD (tH (i:=0) (v:=.int .u8 (c.toNat:Int)) oU dM hcb);have HG:=Nm.aD (BV (i:=0) (v:=.int .u8 (c.toNat:Int)) aAt (aI _));have OB:=BU (cap:=cp) (k:=nm.size) (tJ.set (k:=0) (d:=c) (by omega)) (by rw [PX];omega);clear uB)
  go_ret;exact⟨_,rfl,by rw [DV,List.length_take];omega,HS.out,HG.out⟩
 ·have OB:=BU (cap:=cp) (k:=nm.size) IM (by omega);have hms:=DV (nm.data.toList.take nm.size);generalize ByteArray.mk (nm.data.toList.take nm.size).toArray=T at*;have hT:T.size<=1000:=by rw [hms,List.length_take];omega
  clear hms;go_wp2;go_ret;exact⟨_,rfl,by rw [kU,O8];omega,oG,AQ⟩
 have hl0:0<nm.size:=by omega
 go_wp2_with (go_at_call 18;refine(aW g a n cap (nm.size:Int) _ oG (by omega)).mono ?_;rintro e w2 ⟨q,rfl,IK,uB,oU,mM⟩;have zT:=uB (by omega);obtain⟨k,rfl⟩:=Int.eq_ofNat_of_zero_le IK;have mK:k<nm.data.toList.length:=(by omega);obtain⟨c0,PG⟩:=gQ mK;have tJ:=EE IM mM dM;have aAt:=aS AQ mM;obtain⟨aH,Xf⟩:=tJ k c0 PG;have HS:=Nm.aD (tH (i:=k) (v:=.int .u8 0) oU dM hcb);have HG:=Nm.aD (BV (i:=k) (v:=.int .u8 0) aAt (aI _));have OB:=BU (cap:=cp) (k:=nm.size) (tJ.set (k:=k) (d:=0) mK) (by rw [PX];omega);have hkn:(k:Int)<(nm.size:Int):=(by omega);have Ke:(0:Int)<=(k:Int):=(by omega);rw [show(((0:UInt8).toNat:Nat):Int)=0 from rfl] at OB;clear uB PG)
 go_ret;exact⟨_,rfl,by rw [DV,List.length_take];omega,HS.out,HG.out⟩
theorem aQy(v n:Nat):(⟨(Ab v n).toArray⟩:ByteArray).size=n:=by rw [N9,Qk]
theorem rY(v n:Nat)(w:World)(hv:v<=4611686018427387904)(Xw:1<=n)(hn:n<=8):
 Calls Tryz.prog 151 #[.int .i64 (v:Int),.int .i64 (n:Int)] w fun e w'=>∃ s:ByteArray,e=.returned (.string s)∧s.size=n∧Below w.heap.size w w':=
 (Ql v n w hv Xw hn).mono fun e w' ⟨h1,h2⟩=>⟨_,h1,aQy v n,h2⟩
def TC(ap b:ByteArray):ByteArray:=uQ [⟨#[110,115,49]⟩] ap++uQ [⟨#[97,100,109,105,110]⟩] ap++b
theorem Yc(ap:ByteArray)(sr lo:Nat)(tt:Int)(w:World)(ha:ap.size<=1000)(hs:sr<=4294967296)(hlo:lo<=4294967296):
 Calls Tryz.prog 117 #[.string ap,.int .i64 (sr:Int),.int .i64 tt,.int .i64 (lo:Int)] w fun e w'=>∃ b:ByteArray,e=.returned (.agg #[.string ap,.int .i64 6,.int .i64 1,.int .i64 tt,.string (TC ap b)])∧b.size=20∧Below w.heap.size w w':=by
 have MJ:∀ (W:World) (p:Nat),p=W.heap.size->Calls Tryz.prog 77 #[.slice (some ⟨p,0,none⟩) 1 1,.string ap] (W.alloc (.cells #[.string ⟨#[110,115,49]⟩] 9)) fun e w'=>∃ s:ByteArray,e=.returned (.string s)∧s=uQ [⟨#[110,115,49]⟩] ap∧Below W.heap.size W w':=fun W p hp=>by
  subst hp;exact(zU _ _ ap _ (Gw W ⟨#[110,115,49]⟩) (by decide) (by omega)).mono fun e w' ⟨h1,h3⟩=>⟨_,h1,rfl,Nm.aC ((aJ _ _).alloc (aI _) _) h3⟩
 have Yd:∀ (W:World) (p:Nat),p=W.heap.size->Calls Tryz.prog 77 #[.slice (some ⟨p,0,none⟩) 1 1,.string ap] (W.alloc (.cells #[.string ⟨#[97,100,109,105,110]⟩] 9)) fun e w'=>∃ s:ByteArray,e=.returned (.string s)∧s=uQ [⟨#[97,100,109,105,110]⟩] ap∧Below W.heap.size W w':=fun W p hp=>by
  subst hp;exact(zU _ _ ap _ (Gw W ⟨#[97,100,109,105,110]⟩) (by decide) (by omega)).mono fun e w' ⟨h1,h3⟩=>⟨_,h1,rfl,Nm.aC ((aJ _ _).alloc (aI _) _) h3⟩
 have hP1:=fun W=>rY sr 4 W (by omega) (by decide) (by decide)
 have Dn:=fun W=>rY 7200 4 W (by decide) (by decide) (by decide)
 have hP3:=fun W=>rY 900 4 W (by decide) (by decide) (by decide)
 have hP4:=fun W=>rY 86400 4 W (by decide) (by decide) (by decide)
 have hP5:=fun W=>rY lo 4 W (by omega) (by decide) (by decide)
 have b0:=(aJ w.heap.size w).alloc (aI _) (.cells #[.string ByteArray.empty,.int .i64 0,.int .i64 0,.int .i64 0,.string ByteArray.empty] 133);have k0:=aK w #[.string ByteArray.empty,.int .i64 0,.int .i64 0,.int .i64 0,.string ByteArray.empty] 133;go_enter Tryz.func117,Tryz.ntmps117;go_wp2_with fail
 refine(MJ _ _ (by simp)).mono ?_;rintro e w1 ⟨s1,rfl,z1,b1⟩;have Z1:=Nm.aD z1;have y1:s1.size<=2000:=by rw [z1,wU,show Nm.cK [(⟨#[110,115,49]⟩:ByteArray)]=4 from rfl];omega
 clear z1;have gP:=Nm.aC b0 b1;have k1:=aB k0 b1;go_wp2_with fail
 refine(Yd _ _ (by simp)).mono ?_;rintro e w2 ⟨s2,rfl,z2,b2⟩;have Z2:=Nm.aD z2;have y2:s2.size<=2000:=by rw [z2,wU,show Nm.cK [(⟨#[97,100,109,105,110]⟩:ByteArray)]=6 from rfl];omega
 clear z2;have kH:=Nm.aC gP b2;have k2:=aB k1 b2;go_wp2_with fail
 refine(hP1 _).mono ?_;rintro e w3 ⟨s3,rfl,z3,b3⟩;have Z3:=Nm.aD z3;have y3:s3.size<=2000:=by omega
 clear z3;have uC:=Nm.aC kH b3;have k3:=aB k2 b3;go_wp2_with fail
 refine(Dn _).mono ?_;rintro e w4 ⟨s4,rfl,z4,b4⟩;have Z4:=Nm.aD z4;have y4:s4.size<=2000:=by omega
 clear z4;have nN:=Nm.aC uC b4;have k4:=aB k3 b4;go_wp2_with fail
 refine(hP3 _).mono ?_;rintro e w5 ⟨s5,rfl,z5,b5⟩;have Z5:=Nm.aD z5;have y5:s5.size<=2000:=by omega
 clear z5;have WH:=Nm.aC nN b5;have k5:=aB k4 b5;go_wp2_with fail
 refine(hP4 _).mono ?_;rintro e w6 ⟨s6,rfl,z6,b6⟩;have Z6:=Nm.aD z6;have y6:s6.size<=2000:=by omega
 clear z6;have Qq:=Nm.aC WH b6;have k6:=aB k5 b6;go_wp2_with fail
 refine(hP5 _).mono ?_;rintro e w7 ⟨s7,rfl,z7,b7⟩;have Z7:=Nm.aD z7;have y7:s7.size<=2000:=by omega
 clear z7;have bw7:=Nm.aC Qq b7;have k7:=aB k6 b7;have fz:=aF k7
 have rz:=aA k7
 have HD:Hid ((s3++s4++s5++s6++s7).size=20):=by
  show _=_
  simp only [kU];have h3:=Z3.out;have h4:=Z4.out;have h5:=Z5.out;have h6:=Z6.out;have h7:=Z7.out;omega
 have HV:Hid (s1++s2++s3++s4++s5++s6++s7=TC ap (s3++s4++s5++s6++s7)):=by
  show _=_
  rw [TC,<- Z1.out,<- Z2.out];simp only [ByteArray.append_assoc]
 have kE:=dH [.string ap,.int .i64 6,.int .i64 1,.int .i64 tt,.string (s1++s2++s3++s4++s5++s6++s7)] k7 rfl;have eE:bG w7 w.heap.size 0 [.string ap,.int .i64 6,.int .i64 1,.int .i64 tt,.string (s1++s2++s3++s4++s5++s6++s7)]=(((((w7).setCell ⟨w.heap.size,0,none⟩ (.string ap)).setCell ⟨w.heap.size,1,none⟩ (.int .i64 6)).setCell ⟨w.heap.size,2,none⟩ (.int .i64 1)).setCell ⟨w.heap.size,3,none⟩ (.int .i64 tt)).setCell ⟨w.heap.size,4,none⟩ (.string (s1++s2++s3++s4++s5++s6++s7)):=rfl
 have bE:Below w.heap.size w (bG w7 w.heap.size 0 [.string ap,.int .i64 6,.int .i64 1,.int .i64 tt,.string (s1++s2++s3++s4++s5++s6++s7)]):=by
  rw [eE];exact((((bw7.setCell (aI _) _).setCell (aI _) _).setCell (aI _) _).setCell (aI _) _).setCell (aI _) _
 have HE:=Nm.aD (aV eE (aV bE (aA kE)));clear eE bE kE gP kH uC nN WH Qq bw7 k0 k1 k2 k3 k4 k5 k6 k7 b0 b1 b2 b3 b4 b5 b6 b7;go_wp2;obtain⟨eE,bE,rE⟩:=HE.out;rw [<- eE];refine eB (v:=.agg #[.string ap,.int .i64 6,.int .i64 1,.int .i64 tt,.string (s1++s2++s3++s4++s5++s6++s7)]) ?_ rfl ⟨s3++s4++s5++s6++s7,by rw [<- HV.out],HD.out,bE⟩;simp [results,Tryz.results117,go_sem,Result.andThen,rE]
theorem aAu(x r:ByteArray):∀ (f i:Nat),(Dt.fU f x i).size≠0->Dt.fU f (x++r) i=Dt.fU f x i:=by
 intro f
 induction f with
 |zero=>intro i h;simp [Dt.fU] at h
 |succ f ih=>
  intro i h;rw [Dt.fU] at h ⊢;rw [Dt.fU]
  by_cases h1:i<x.size∧i<255
  ·rw [dif_pos h1] at h ⊢;have h2:i<(x++r).size∧i<255:=by rw [kU];omega
   have hg:(x++r)[i]=x[i]:=by
    have e1:(x++r).data.toList[i]? =some (x++r)[i]:=Nm.lF h2.1;have e2:x.data.toList[i]? =some x[i]:=Nm.lF h1.1;rw [ByteArray.data_append,Array.toList_append,List.getElem?_append_left (by simpa using h1.1),e2] at e1;exact(jI e1).symm
   rw [dif_pos h2,hg]
   by_cases h3:x[i].toNat=0
   ·rw [if_pos h3,if_pos h3];apply Nm.lL;rw [XQ,XQ,ByteArray.data_append,Array.toList_append];simp only [List.drop_zero];rw [List.take_append_of_le_length (by simp;omega)]
   rw [if_neg h3] at h ⊢;rw [if_neg h3]
   by_cases h4:63<x[i].toNat
   ·rw [if_pos h4] at h;simp at h
   rw [if_neg h4] at h ⊢;rw [if_neg h4];exact ih _ h
  rw [dif_neg h1] at h;simp at h
theorem Ye{x r:ByteArray}(h:(Nm.split x).isSome=true):Dt.dQ (x++r)=x:=by
 obtain⟨h1,h2⟩:=(Dt.GX x).1 h
 have e:Dt.dQ x=x:=by
  have:=Dt.Ow x h1;rw [<- this,h2,Dt.KG]
 rw [Dt.dQ,aAu x r 256 0 h1];exact e
def bA(l:List UInt8):ByteArray:=⟨l.toArray⟩
def aEg:Value->Nat
 |.string s=>s.size
 |_=>0
theorem Yf(g:Nat)(a:Option Addr)(n cap:Nat)(w:World)(h:Src w g a n cap):
 Calls Tryz.prog 152 #[.pointer (some ⟨g,0,none⟩)] w fun e w'=>∃ s:ByteArray,e=.returned (.string s)∧s.size=16∧Src w' g a n cap∧w.grownBy w' (some g):=by
 have z2:(ByteArray.mk #[0,0]).size=2:=rfl;have z1:(ByteArray.mk #[0]).size=1:=rfl;go_enter Tryz.func152,Tryz.ntmps152;go_wp2
 go_loopw [3] (fun v wr=>∃ (k:Nat) (s:ByteArray),k<=8∧v=.string s∧Hid (s.size=2*k)∧Src wr g a n cap∧w.grownBy wr (some g))
  (fun v _=>16-aEg v)
 ·exact⟨0,⟨#[]⟩,by omega,rfl,rfl,h,World.grownBy.refl _ _⟩
 obtain⟨k,s,hk,rfl,HZ,kK,qB⟩:=hrel;clear h
 by_cases bY:k<8
 ·have SE:(s.size:Int)<16:=by have:=HZ.out;omega
  go_wp2_with fail
  refine(fG g a n cap 2 _ kK (by decide) (by decide)).mono ?_;rintro e w2 ⟨t,rfl,ht,oU,mM⟩;have ht2:t.size=2:=by omega
  go_wp2_with fail
  refine(aW g a n cap 2 _ oU (by decide)).mono ?_;rintro e w3 ⟨q,rfl,IK,uB,sO,iZ⟩;clear uB;have G3:=aS (aS qB mM) iZ;clear mM iZ qB oU kK
  by_cases hq:q=0
  ·subst hq;go_wp2_with fail
   refine(aW g a n cap 4 _ sO (by decide)).mono ?_;rintro e w4 ⟨p,rfl,YV,BX,OD,LH⟩;clear BX;have G4:=aS G3 LH;clear sO G3 LH
   by_cases hp:p=0
   ·subst hp;go_wp2;go_roundw
    ·exact⟨k+1,_,by omega,rfl,by show ByteArray.size _=_;rw [kU,kU,ByteArray.size_extract,z1,z2,HZ.out];omega,OD,G4⟩
    simp only [aEg];rw [kU,kU,ByteArray.size_extract,z1,z2,HZ.out];omega
   have Gt:(p==0)=false:=beq_eq_false_iff_ne.2 hp
   go_wp2;go_roundw
   ·exact⟨k+1,_,by omega,rfl,by show ByteArray.size _=_;rw [kU,z2,HZ.out];omega,OD,G4⟩
   simp only [aEg];rw [kU,z2,HZ.out];omega
  have Vy:(q==0)=false:=beq_eq_false_iff_ne.2 hq
  have HT:=Nm.aD ht2;clear ht2;go_wp2_with fail
  refine(aW g a n cap 4 _ sO (by decide)).mono ?_;rintro e w4 ⟨p,rfl,YV,BX,OD,LH⟩;clear BX;have G4:=aS G3 LH;clear sO G3 LH
  by_cases hp:p=0
  ·subst hp;go_wp2;go_roundw
   ·exact⟨k+1,_,by omega,rfl,by show ByteArray.size _=_;rw [kU,kU,ByteArray.size_extract,z1,HT.out,HZ.out];omega,OD,G4⟩
   simp only [aEg];rw [kU,kU,ByteArray.size_extract,z1,HT.out,HZ.out];omega
  have Gt:(p==0)=false:=beq_eq_false_iff_ne.2 hp
  go_wp2;go_roundw
  ·exact⟨k+1,_,by omega,rfl,by show ByteArray.size _=_;rw [kU,HT.out,HZ.out];omega,OD,G4⟩
  simp only [aEg];rw [kU,HT.out,HZ.out];omega
 have FE:k=8:=by omega
 subst FE;have SE:(16:Int)<=(s.size:Int):=by have:=HZ.out;omega
 go_wp2;go_ret;exact⟨s,rfl,by have:=HZ.out;omega,kK,qB⟩
theorem Er(g:Nat)(a:Option Addr)(n cap:Nat)(w:World)(h:Src w g a n cap):
 Calls Tryz.prog 120 #[.pointer (some ⟨g,0,none⟩)] w fun e w'=>∃ s:ByteArray,e=.returned (.string s)∧(1<=s.size∧s.size<=4)∧Src w' g a n cap∧w.grownBy w' (some g):=by
 have OB:=fun(x:Int) (W:World)=>GI x W
 have oG:∀ c:UInt8,(ByteArray.mk #[c]).size=1:=fun _=>rfl
 have oU:(ByteArray.mk #[110,115]).size=2:=rfl;go_enter Tryz.func120,Tryz.ntmps120;go_wp2_with fail
 refine(aW g a n cap 12 _ h (by decide)).mono ?_;rintro e w1 ⟨r,rfl,GU,uG,kK,qB⟩;have wR:=uG (by decide);clear uG h
 rcases(by omega:r=0∨r=1∨r=2∨r=3∨r=4∨r=5∨6<=r) with rfl|rfl|rfl|rfl|rfl|rfl|h6
 ·go_wp2;go_ret;exact⟨_,rfl,⟨by decide,by decide⟩,kK,qB⟩
 ·go_wp2_with (first|(go_at_call 18;refine(aW g a n cap 4 _ kK (by decide)).mono ?_;rintro e w2 ⟨q,rfl,IK,uB,wJ,EC⟩;have zT:=uB (by decide);clear uB)|(go_at_call 20;refine(fG g a n cap (1+q) _ wJ (by omega) (by omega)).mono ?_;rintro e w3 ⟨s3,rfl,sO,YX,Iy⟩))
  go_ret;exact⟨_,rfl,⟨by omega,by omega⟩,YX,aS (aS qB EC) Iy⟩
 ·go_wp2;go_ret;exact⟨_,rfl,⟨by decide,by decide⟩,kK,qB⟩
 ·go_wp2;go_ret;exact⟨_,rfl,⟨by decide,by decide⟩,kK,qB⟩
 ·go_wp2;go_ret;exact⟨_,rfl,⟨by decide,by decide⟩,kK,qB⟩
 ·go_wp2_with (go_at_call 18;refine(aW g a n cap 3 _ kK (by decide)).mono ?_;rintro e w2 ⟨q,rfl,IK,uB,wJ,EC⟩;have zT:=uB (by decide);clear uB)
  go_ret;exact⟨_,rfl,⟨by rw [kU,oU,oG];decide,by rw [kU,oU,oG];decide⟩,aZ wJ ((aJ _ _).alloc (aI _) _),dP (aS qB EC) _⟩
 go_wp2_with (go_at_call 18;refine(aW g a n cap 4 _ kK (by decide)).mono ?_;rintro e w2 ⟨q,rfl,IK,uB,wJ,EC⟩;have zT:=uB (by decide);clear uB)
 go_ret;exact⟨_,rfl,⟨by rw [oG];decide,by rw [oG];decide⟩,aZ wJ ((aJ _ _).alloc (aI _) _),dP (aS qB EC) _⟩
