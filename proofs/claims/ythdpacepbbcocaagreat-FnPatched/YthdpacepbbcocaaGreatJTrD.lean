import Derived.Test.YthdpacepbbcocaaGreatJSnM
import Derived.Test.YthdpacepbbcocaaGreatJDzK
import Derived.Test.YthdpacepbbcocaaGreatJTbII
import Derived.Test.YthdpacepbbcocaaGreatJZnT
import Derived.Test.YthdpacepbbcocaaGreatJTake2
set_option linter.unusedVariables false
set_option maxHeartbeats 1600000
set_option maxRecDepth 100000
namespace Go.Proofs.YthdpacepbbcocaaGreat
open Go.RowKit
def rM(fd:ByteArray)(p:ByteArray×ByteArray):Int:=Nm.iD p.1.data.toList fd.data.toList
def DaS(l:List (ByteArray×ByteArray)):Prop:=l.Pairwise fun a b=>Nm.iD a.1.data.toList b.1.data.toList<0
theorem JF{a b c:List UInt8}(h1:Nm.iD a b<0)(h2:Nm.iD b c<0):Nm.iD a c<0:=by
 have h3:=tH a b c (by omega) (by omega)
 rcases Int.lt_or_eq_of_le h3 with h|h
 ·exact h
 exfalso
 have h4:=qX a c;have h5:=tH b c a (by omega) (by rw [h4];omega);have h6:=qX a b;omega
theorem aF0(s:tZ)(B nb rb:Nat)(fd da:ByteArray)(r0 r1 r2 r3:Value)(w:World)(h:Ag w B s)(hB:B<=w.heap.size)(hl:s.da.length<=500000)(hd:DaS s.da)(kn:bG w nb #[.bool false] 4)(kr:bG w rb #[r0,r1,r2,r3,.string da] 29)(hs:da.size<=1000000000):
 Calls Tryz.prog 169 #[ptr s.hd,.string fd,.func (.func 171) #[] #[ptr nb,ptr rb]] w fun e w'=>∃ v rv',e=.returned (.string v)∧Ag w' B {s with rv:=rv',da:=VJ (rM fd) (fd,da) s.da}∧bG w' nb #[.bool (!kL (rM fd) s.da)] 4∧dM (nb::vV s) w w'∧∀ b∈rv'.ownBlock.toList,b∈vV s∨w.heap.size<=b:=by
 have pF:(xP s.da).length=s.da.length:=by simp [xP]
 have Ac:∀ (tb i:Nat) (p:Value×Value),(xP s.da)[i]? =some p->∀ W,Below w.heap.size w W->bG W tb #[.pointer (some ⟨s.hd,0,none⟩)] 174->Calls Tryz.prog 203 #[.agg #[p.1,p.2],.string fd,.pointer (some ⟨tb,0,none⟩)] W fun e w'=>e=.returned (.int .i64 (qI (rM fd) s.da i))∧Below W.heap.size W w':=by
  intro tb i p hp W hW kb;simp only [xP,List.getElem?_map,Option.map_eq_some_iff] at hp;obtain⟨q,hq,rfl⟩:=hp;rw [lC hq];exact Mk tb s.hd s.rv q.1 q.2 fd W kb (aB h.head hW)
 have pX:=oU (f:=rM fd) hd (fun a b hab hb=>JF hab hb);have BP:=vT s.da pX
 cases mK:kL (rM fd) s.da with
 |true=>
  obtain⟨x,hx,KT⟩:=zO mK;have hx':(xP s.da)[posOf (rM fd) s.da]? =some (.string x.1,.string x.2):=by simp [xP,hx]
  refine(Lb s.hd B Cu s.rv (.string fd) _ (xP s.da) (qI (rM fd) s.da) (posOf (rM fd) s.da) _ w h.head h.rows (by omega) Ac (by rw [pF];exact pX) (by rw [pF];exact BP) hx' (by rw [lC hx];exact KT)).mono ?_;rintro e w' ⟨rfl,hb⟩;refine⟨x.2,s.rv,rfl,?_,?_,dM.below hb,fun b yZ=>.inl (by simp only [vV,List.mem_cons];exact .inr (.inr yZ))⟩
  ·rw [VJ,if_pos mK];exact h.keep (fun b hm=>hb.block b (h.lt b hm))
  exact aB kn hb
 |false=>
  have Ao:=Fa s.hd B Cu s.rv fd #[ptr nb,ptr rb] (xP s.da) (qI (rM fd) s.da) (posOf (rM fd) s.da) w (some nb) (fun ux W w'=>ux=da∧bG w' nb #[.bool true] 4) h.head h.rows (by omega) Ac (by rw [pF];exact pX) (by rw [pF];exact BP) (by rw [pF];exact EM mK)
   (fun p hp=>by
    simp only [xP,List.mem_map] at hp;obtain⟨q,_,rfl⟩:=hp
    exact⟨rfl,rfl⟩) hB
   (fun W hW=>aFt nb rb false da r0 r1 r2 r3 W (aB kn hW) (aB kr hW) hs) (fun e=>VK kn h.head (by decide) (gQ e)) (fun x hx e=>bW h.rows kn (by decide) (by rw [hx,<- e]))
  refine Ao.mono ?_;rintro e w' ⟨ux,W,w1,rv',rfl,hW,rP,⟨rfl,kn1⟩,kg',CW,hK,Uo⟩;have aO6:=VK kn h.node (by decide);have Lg:=VK h.node h.head (by decide);have node1:bG w1 s.dL _ _:=aP (aB h.node hW) rP (fun e=>aO6 (gQ e));have node2:=hK.dL node1 Lg (bW h.rows h.node (by decide));have kn2:=hK.dL kn1 (VK kn h.head (by decide)) (bW h.rows kn (by decide));refine⟨ux,rv',rfl,?_,kn2,?_,?_⟩
  ·rw [VJ,if_neg (by simp [mK])];refine⟨node2,kg',?_⟩;have e1:xP (lN (posOf (rM fd) s.da) (fd,ux) s.da)=(xP s.da).take (posOf (rM fd) s.da)++[(Value.string fd,Value.string ux)]++(xP s.da).drop (posOf (rM fd) s.da):=by simp [xP,lN]
   show w'.ownsRow B _ 2 rv' (xP (lN (posOf (rM fd) s.da) (fd,ux) s.da)).length (eD (xP (lN (posOf (rM fd) s.da) (fd,ux) s.da)))
   rw [e1]
   have hle:((xP s.da).take (posOf (rM fd) s.da)++[(Value.string fd,Value.string ux)]++(xP s.da).drop (posOf (rM fd) s.da)).length=(xP s.da).length+1:=by
    have:=BP.1;simp
    omega
   rw [hle];exact CW
  ·refine⟨hK.os.trans (rP.os.trans hW.os),hK.tape.trans (rP.tape.trans hW.tape),hK.output.trans (rP.output.trans hW.output),iL hW.size (iL rP.size hK.size),fun k hk hn=>?_⟩;simp only [vV,List.mem_cons,not_or] at hn;obtain⟨n1,n2,n3,n4⟩:=hn;rw [hK.block k (sP hk (iL hW.size rP.size)) n3 (fun e=>n4 (by rw [e];simp)),rP.block k (sP hk hW.size) (by simpa using n1)];exact hW.block k hk
  intro b hb
  rcases Uo with h1|h1
  ·rw [h1] at hb;exact .inl (by simp only [vV,List.mem_cons];exact .inr (.inr hb))
  right
  cases hr:rv'.ownBlock with
  |none=>rw [hr] at hb;simp at hb
  |some q=>
   rw [hr] at hb;simp at hb;subst hb;have:=h1 _ hr;have:=rP.size;have:=hW.size;omega
theorem WB{α:Type}(f:α->List Nat)(k:Nat)(x:α)(l:List α):((lN k x l).flatMap f).Perm (f x++l.flatMap f):=by
 rw [lN,List.append_assoc,List.flatMap_append,List.flatMap_append];have e:l.flatMap f=(l.take k).flatMap f++(l.drop k).flatMap f:=by rw [<- List.flatMap_append,List.take_append_drop]
 rw [e];simp only [List.flatMap_cons,List.flatMap_nil,List.append_nil];rw [<- List.append_assoc,<- List.append_assoc];exact List.Perm.append_right _ List.perm_append_comm
theorem WC(v:Value):v.ownBlock.toList.Nodup:=by cases v.ownBlock<;>simp
theorem aAs{N M:Nat}{A r r' X Y:List Nat}(h:(A++(r++X)).Nodup)(bV:∀ x∈A++(r++X),x<N)(hY:Y.Nodup)(hY1:∀ y∈Y,N<=y∧y<M)(hr':r'.Nodup)(hr:r'=r∨∀ x∈r',M<=x)(hNM:N<=M):(A++(r'++(Y++X))).Nodup:=by
 rw [List.nodup_append,List.nodup_append] at h;obtain⟨hA,⟨OD,hX,hrX⟩,hAX⟩:=h;have lA:∀ x∈A,x<N:=fun x hx=>bV x (by simp [hx])
 have lr:∀ x∈r,x<N:=fun x hx=>bV x (by simp [hx])
 have lX:∀ x∈X,x<N:=fun x hx=>bV x (by simp [hx])
 rw [List.nodup_append,List.nodup_append,List.nodup_append];refine⟨hA,⟨hr',⟨hY,hX,fun a ha b hb=>?_⟩,fun a ha b hb=>?_⟩,fun a ha b hb=>?_⟩
 ·have:=(hY1 a ha).1;have:=lX b hb;omega
 ·rcases hr with rfl|hr
  ·rcases jS hb with hb|hb
   ·have:=(hY1 b hb).1;have:=lr a ha;omega
   exact hrX a ha b hb
  rcases jS hb with hb|hb
  ·have:=(hY1 b hb).2;have:=hr a ha;omega
  have:=lX b hb;have:=hr a ha;omega
 rcases jS hb with hb|hb
 ·rcases hr with rfl|hr
  ·exact hAX a ha b (List.mem_append.2 (.inl hb))
  have:=lA a ha;have:=hr b hb;omega
 rcases jS hb with hb|hb
 ·have:=(hY1 b hb).1;have:=lA a ha;omega
 exact hAX a ha b (List.mem_append.2 (.inr hb))
def fE(ty:Int)(s:tZ):Int:=Nm.pK s.ty ty
def Ji(l:List tZ):Prop:=l.Pairwise fun a b=>a.ty<b.ty
def aCc(ty tt:Int)(at_:Nat)(l:List tZ)(s:tZ)(l':List tZ):Prop:=
 (kL (fE ty) l=true∧l'=l∧l[posOf (fE ty) l]? =some s∧s.ty=ty)∨(kL (fE ty) l=false∧l'=lN (posOf (fE ty) l) s l∧s.ty=ty∧s.tt=tt∧s.fi=at_∧s.da=[])
theorem uI{a b:Int}:Nm.pK a b<0↔a<b:=by
 constructor
 ·intro h
  rcases Int.lt_or_le a b with h1|h1
  ·exact h1
  rcases Int.lt_or_eq_of_le h1 with h2|h2
  ·rw [Nm.oK h2] at h;omega
  rw [Nm.tX h2.symm] at h;omega
 intro h;rw [Nm.oJ h];decide
theorem PM{a b:Int}(h:Nm.pK a b=0):a=b:=by
 rcases Int.lt_trichotomy a b with h1|h1|h1
 ·rw [Nm.oJ h1] at h;omega
 ·exact h1
 rw [Nm.oK h1] at h;omega
theorem aJ0(o:eZ)(B rb ab at_:Nat)(ty tt:Int)(r0 r1 r2 r4:Value)(w:World)(h:BN w B o)(JY:(pO o).Nodup)(hB:B<=w.heap.size)(hl:o.ss.length<=500000)(hd:Ji o.ss)(kr:bG w rb #[r0,r1,r2,.int .i64 tt,r4] 29)(ka:bG w ab #[.int .i64 (at_:Int)] 3):
 Calls Tryz.prog 165 #[ptr o.hd,.int .i64 ty,.func (.func 166) #[] #[ptr rb,ptr ab]] w fun e w'=>∃ s rv' ss',e=.returned (ptr s.dL)∧aCc ty tt at_ o.ss s ss'∧BN w' B {o with rv:=rv',ss:=ss'}∧(pO {o with rv:=rv',ss:=ss'}).Nodup∧dM (pO o) w w'∧∀ b∈pO {o with rv:=rv',ss:=ss'},b∈pO o∨w.heap.size<=b:=by
 have pF:(mQ o.ss).length=o.ss.length:=by simp [mQ]
 have Ac:∀ (tb i:Nat) (p:Value×Value),(mQ o.ss)[i]? =some p->∀ W,Below w.heap.size w W->bG W tb #[.pointer (some ⟨o.hd,0,none⟩)] 154->Calls Tryz.prog 191 #[.agg #[p.1,p.2],.int .i64 ty,.pointer (some ⟨tb,0,none⟩)] W fun e w'=>e=.returned (.int .i64 (qI (fE ty) o.ss i))∧Below W.heap.size W w':=by
  intro tb i p hp W hW kb;simp only [mQ,List.getElem?_map,Option.map_eq_some_iff] at hp;obtain⟨q,hq,rfl⟩:=hp;rw [lC hq];exact RD tb o.hd o.rv (ptr q.dL) q.ty ty W kb (aB h.head hW)
 have pX:=oU (f:=fE ty) hd (fun a b hab hb=>by
  rw [fE,uI] at hb ⊢
  omega)
 have BP:=vT o.ss pX
 cases mK:kL (fE ty) o.ss with
 |true=>
  obtain⟨x,hx,KT⟩:=zO mK;have hx':(mQ o.ss)[posOf (fE ty) o.ss]? =some (.int .i64 x.ty,ptr x.dL):=by simp [mQ,hx]
  refine(Mo o.hd B RA o.rv (.int .i64 ty) _ (mQ o.ss) (qI (fE ty) o.ss) (posOf (fE ty) o.ss) _ w h.head h.rows (by omega) Ac (by rw [pF];exact pX) (by rw [pF];exact BP) hx' (by rw [lC hx];exact KT)).mono ?_;rintro e w' ⟨rfl,hb⟩
  exact⟨x,o.rv,o.ss,rfl,.inl ⟨mK,rfl,hx,PM KT⟩,h.keep (fun b hm=>hb.block b (h.lt b hm)),JY,dM.below hb,fun b yZ=>.inl yZ⟩
 |false=>
  have Ao:=Ga o.hd B RA o.rv ty #[ptr rb,ptr ab] (mQ o.ss) (qI (fE ty) o.ss) (posOf (fE ty) o.ss) w none (aO2 tt at_) h.head h.rows (by omega) Ac (by rw [pF];exact pX) (by rw [pF];exact BP) (by rw [pF];exact EM mK)
   (fun p hp=>by
    simp only [mQ,List.mem_map] at hp;obtain⟨q,_,rfl⟩:=hp
    exact⟨rfl,rfl⟩) hB
   (fun W hW=>aFs rb ab at_ tt r0 r1 r2 r4 W (aB kr hW) (aB ka hW)) (by simp) (by simp)
  refine Ao.mono ?_;rintro e w' ⟨ux,W,w1,rv',rfl,hW,rP,⟨IM,sb,rfl,hh1,nJ,dQ,kh1,ks1⟩,kg',CW,hK,Uo⟩;have Gg:Below w.heap.size w w1:=⟨rP.os.trans hW.os,rP.tape.trans hW.tape,rP.output.trans hW.output,iL hW.size rP.size,fun k hk=>(rP.block k (sP hk hW.size) (by simp)).trans (hW.block k hk)⟩;have hsW:=hW.size;have BL:=bU ks1;have hhb:=bU kh1;have aF1:∀ x,o.rv.ownBlock=some x->x<w.heap.size:=fun x hx=>(h.rows.lt x hx).2
  have aS0:=bU h.head
  -- the old parts
  have keep:∀ b,b<w.heap.size->b≠o.hd->o.rv.ownBlock≠some b->w'.heap[b]? =w.heap[b]? :=fun b hb h1 h2=>(hK.block b (sP hb Gg.size) h1 h2).trans (Gg.block b hb)
  have aB7:=JY;simp only [pO,List.nodup_cons,List.nodup_append,List.mem_cons,List.mem_append,not_or] at aB7;obtain⟨⟨a1,a2,a3⟩,⟨a4,a5⟩,a6,a7,a8⟩:=aB7;refine⟨⟨sb,IM,.slice none 0 0,ty,tt,at_,[]⟩,rv',lN (posOf (fE ty) o.ss) ⟨sb,IM,.slice none 0 0,ty,tt,at_,[]⟩ o.ss,rfl,.inr ⟨mK,rfl,rfl,rfl,rfl,rfl⟩,⟨?_,kg',?_,?_⟩,?_,?_,?_⟩
  ·exact kG h.node (keep o.dL (bU h.node) a1 (fun e=>a2 (by rw [e];simp)))
  ·have e1:mQ (lN (posOf (fE ty) o.ss) ⟨sb,IM,.slice none 0 0,ty,tt,at_,[]⟩ o.ss)=(mQ o.ss).take (posOf (fE ty) o.ss)++[(Value.int .i64 ty,Value.pointer (some ⟨sb,0,none⟩))]++(mQ o.ss).drop (posOf (fE ty) o.ss):=by simp [mQ,lN,ptr]
   show w'.ownsRow B _ 2 rv' (mQ (lN (posOf (fE ty) o.ss) ⟨sb,IM,.slice none 0 0,ty,tt,at_,[]⟩ o.ss)).length (eD (mQ (lN (posOf (fE ty) o.ss) ⟨sb,IM,.slice none 0 0,ty,tt,at_,[]⟩ o.ss)))
   rw [e1]
   have hle:((mQ o.ss).take (posOf (fE ty) o.ss)++[(Value.int .i64 ty,Value.pointer (some ⟨sb,0,none⟩))]++(mQ o.ss).drop (posOf (fE ty) o.ss)).length=(mQ o.ss).length+1:=by
    have:=BP.1;simp
    omega
   rw [hle];exact CW
  ·intro s hs
   have WE:s∈o.ss∨s=⟨sb,IM,.slice none 0 0,ty,tt,at_,[]⟩:=by
    simp only [lN,List.mem_append,List.mem_singleton] at hs
    rcases hs with(hs|hs)|hs
    ·exact .inl (List.mem_of_mem_take hs)
    ·exact .inr hs
    exact .inl (List.mem_of_mem_drop hs)
   rcases WE with hs|rfl
   ·refine(h.sets s hs).keep (fun b hb=>keep b ((h.sets s hs).lt b hb) ?_ ?_)
    ·intro e;exact a5 (List.mem_flatMap.2 ⟨s,hs,by rw [<- e];exact hb⟩)
    intro e;exact a8 b (by rw [e];simp) b (List.mem_flatMap.2 ⟨s,hs,hb⟩) rfl
   exact⟨hK.dL ks1 (show sb≠o.hd by omega) (fun e=>by have:=aF1 sb e;omega),hK.dL kh1 (show IM≠o.hd by omega) (fun e=>by have:=aF1 IM e;omega),World.ownsRow_nil _ _ _ _⟩
  ·have hp:(pO {o with rv:=rv',ss:=lN (posOf (fE ty) o.ss) ⟨sb,IM,.slice none 0 0,ty,tt,at_,[]⟩ o.ss}).Perm ([o.dL,o.hd]++(rv'.ownBlock.toList++([sb,IM]++o.ss.flatMap vV))):=by
    show(o.dL::o.hd::(rv'.ownBlock.toList++_)).Perm _
    refine List.Perm.cons _ (List.Perm.cons _ (List.Perm.append_left _ ?_));exact WB vV _ _ _
   rw [hp.nodup_iff]
   refine aAs (N:=w.heap.size) (M:=w1.heap.size) (r:=o.rv.ownBlock.toList) JY (h.lt) (by simp;omega) (by
    intro y hy;simp at hy
    rcases hy with rfl|rfl<;>omega) (WC _) ?_ Gg.size
   rcases Uo with h1|h1
   ·left;rw [h1]
   right;intro x hx
   cases hr:rv'.ownBlock with
   |none=>rw [hr] at hx;simp at hx
   |some q=>
    rw [hr] at hx;simp at hx;subst hx;exact h1 _ hr
  ·refine⟨hK.os.trans Gg.os,hK.tape.trans Gg.tape,hK.output.trans Gg.output,iL Gg.size hK.size,fun k hk hn=>keep k hk (fun e=>hn (by rw [e];simp [pO])) (fun e=>hn (by simp only [pO,List.mem_cons,List.mem_append];exact .inr (.inr (.inl (by rw [e];simp)))))⟩
  intro b hb
  have hp:(pO {o with rv:=rv',ss:=lN (posOf (fE ty) o.ss) ⟨sb,IM,.slice none 0 0,ty,tt,at_,[]⟩ o.ss}).Perm ([o.dL,o.hd]++(rv'.ownBlock.toList++([sb,IM]++o.ss.flatMap vV))):=by
   show(o.dL::o.hd::(rv'.ownBlock.toList++_)).Perm _
   refine List.Perm.cons _ (List.Perm.cons _ (List.Perm.append_left _ ?_));exact WB vV _ _ _
  rw [hp.mem_iff] at hb;simp only [List.mem_append,List.mem_cons,List.not_mem_nil,or_false] at hb
  rcases hb with(rfl|rfl)|hb|(rfl|rfl)|hb
  ·left;simp [pO]
  ·left;simp [pO]
  ·rcases Uo with h1|h1
   ·left;rw [h1] at hb;simp only [pO,List.mem_cons,List.mem_append];exact .inr (.inr (.inl hb))
   right
   cases hr:rv'.ownBlock with
   |none=>rw [hr] at hb;simp at hb
   |some q=>
    rw [hr] at hb;simp at hb;subst hb;have:=h1 _ hr;have:=Gg.size;omega
  ·right;omega
  ·right;omega
  left;simp only [pO,List.mem_cons,List.mem_append];exact .inr (.inr (.inr hb))
def jH:Value->Option Nat
 |.slice (some a) _ _=>some a.block
 |_=>none
structure MH (w:World) (fp:List Nat) (v:Value) (lab:List ByteArray):Prop where
 row:Nm.dX w v lab
 far:lab≠[]->∀ b,jH v=some b->b∉fp∧b<w.heap.size
 fit:(∀ x∈lab,x.size<=1000000000)∧lab.length<=1000000000
def CK(w:World)(fp:List Nat)(os:List eZ):Prop:=∀ o∈os,MH w fp o.lv o.lab
theorem GX{w w':World}{v:Value}{lab:List ByteArray}(h:Nm.dX w v lab)(he:lab≠[]->∀ b,jH v=some b->w'.heap[b]? =w.heap[b]?):Nm.dX w' v lab:=by
 obtain⟨a,cap,rfl,h1,h2,h3,h4⟩:=h;refine⟨a,cap,rfl,h1,h2,h3,fun dQ=>?_⟩;obtain⟨b,off,rfl,hc⟩:=h4 dQ;refine⟨b,off,rfl,fun k x hx=>?_⟩;rw [World.cell?_of_block (w:=w) (he dQ b rfl)];exact hc k x hx
theorem MH.outs{w w':World}{fp fp':List Nat}{v:Value}{lab:List ByteArray}(h:MH w fp v lab)(ho:dM fp w w')(hf:∀ b∈fp',b∈fp∨w.heap.size<=b):MH w' fp' v lab:=by
 refine⟨GX h.row (fun dQ b hb=>?_),fun dQ b hb=>?_,h.fit⟩
 ·obtain⟨h1,h2⟩:=h.far dQ b hb;exact ho.block b h2 h1
 obtain⟨h1,h2⟩:=h.far dQ b hb;refine⟨fun hm=>?_,sP h2 ho.size⟩
 rcases hf b hm with h3|h3
 ·exact h1 h3
 omega
def iP(lab:List ByteArray)(o:eZ):Int:=Nm.bJ o.lab lab
def OwS(l:List eZ):Prop:=l.Pairwise fun a b=>Nm.bJ a.lab b.lab<0
theorem wT{a b c:List ByteArray}(h1:Nm.bJ a b<0)(h2:Nm.bJ b c<0):Nm.bJ a c<0:=by
 have h3:=nU (a:=a) (b:=b) (c:=c) (by omega) (by omega)
 rcases Int.lt_or_eq_of_le h3 with h|h
 ·exact h
 exfalso
 have h4:=gF a c;have h5:=nU (a:=b) (b:=c) (c:=a) (by omega) (by rw [h4];omega);have h6:=gF a b;omega
def aCd(own:ByteArray)(lv:Value)(lab:List ByteArray)(l:List eZ)(o:eZ)(l':List eZ):Prop:=
 (kL (iP lab) l=true∧l'=l∧l[posOf (iP lab) l]? =some o∧Nm.bJ o.lab lab=0)∨(kL (iP lab) l=false∧l'=lN (posOf (iP lab) l) o l∧o.lab=lab∧o.lv=lv∧o.nm=own∧o.ss=[])
theorem aCe(th:Nat)(rv:Value)(os:List eZ)(B rb lb:Nat)(own:ByteArray)(la:Option Addr)(ln lc:Nat)(lab:List ByteArray)(r1 r2 r3 r4:Value)(w:World)(h:uU w B th rv os)(hB:B<=w.heap.size)(hl:os.length<=500000)(hd:OwS os)(xR:CK w (jP th rv os) os)(Mx:MH w (jP th rv os) (.slice la ln lc) lab)(kr:bG w rb #[.string own,r1,r2,r3,r4] 29)(kl:bG w lb #[.slice la ln lc] 116)(hs:own.size<=1000000000):
 Calls Tryz.prog 161 #[ptr th,.slice la ln lc,.func (.func 162) #[] #[ptr rb,ptr lb]] w fun e w'=>∃ o rv' os',e=.returned (ptr o.dL)∧aCd own (.slice la ln lc) lab os o os'∧uU w' B th rv' os'∧dM (jP th rv os) w w'∧∀ b∈jP th rv' os',b∈jP th rv os∨w.heap.size<=b:=by
 have pF:(mR os).length=os.length:=by simp [mR]
 have Ac:∀ (tb i:Nat) (p:Value×Value),(mR os)[i]? =some p->∀ W,Below w.heap.size w W->bG W tb #[.pointer (some ⟨th,0,none⟩)] 117->Calls Tryz.prog 196 #[.agg #[p.1,p.2],.slice la ln lc,.pointer (some ⟨tb,0,none⟩)] W fun e w'=>e=.returned (.int .i64 (qI (iP lab) os i))∧Below W.heap.size W w':=by
  intro tb i p hp W hW kb;simp only [mR,List.getElem?_map,Option.map_eq_some_iff] at hp;obtain⟨q,hq,rfl⟩:=hp;rw [lC hq];have Aq:=xR q (bP hq);exact RF tb th rv (ptr q.dL) q.lv (.slice la ln lc) q.lab lab W kb (aB h.head hW) (Aq.row.below hW) (Mx.row.below hW) Aq.fit.1 Aq.fit.2 Mx.fit.2
 have pX:=oU (f:=iP lab) hd (fun a b hab hb=>by
  exact wT hab hb)
 have BP:=vT os pX
 cases mK:kL (iP lab) os with
 |true=>
  obtain⟨x,hx,KT⟩:=zO mK;have hx':(mR os)[posOf (iP lab) os]? =some (x.lv,ptr x.dL):=by simp [mR,hx]
  refine(Mr th B wQ rv (.slice la ln lc) _ (mR os) (qI (iP lab) os) (posOf (iP lab) os) _ w h.head h.rows (by omega) Ac (by rw [pF];exact pX) (by rw [pF];exact BP) hx' (by rw [lC hx];exact KT)).mono ?_;rintro e w' ⟨rfl,hb⟩
  exact⟨x,rv,os,rfl,.inl ⟨mK,rfl,hx,KT⟩,h.keep (fun b hm=>hb.block b (h.lt b hm)),dM.below hb,fun b yZ=>.inl yZ⟩
 |false=>
  have Ao:=Gb th B wQ rv la ln lc #[ptr rb,ptr lb] (mR os) (qI (iP lab) os) (posOf (iP lab) os) w none (aO1 own (.slice la ln lc)) h.head h.rows (by omega) Ac (by rw [pF];exact pX) (by rw [pF];exact BP) (by rw [pF];exact EM mK)
   (fun p hp=>by
    simp only [mR,List.mem_map] at hp;obtain⟨q,hq,rfl⟩:=hp;obtain⟨qa,qc,e,_⟩:=(xR q hq).row;refine⟨?_,rfl⟩;show q.lv.oneCell'=true
    rw [e]
    rfl) hB
   (fun W hW=>aFr rb lb own r1 r2 r3 r4 la ln lc W (aB kr hW) (aB kl hW) hs) (by simp) (by simp)
  refine Ao.mono ?_;rintro e w' ⟨ux,W,w1,rv',rfl,hW,rP,⟨IM,sb,rfl,hh1,nJ,dQ,kh1,ks1⟩,kg',CW,hK,Uo⟩;have Gg:Below w.heap.size w w1:=⟨rP.os.trans hW.os,rP.tape.trans hW.tape,rP.output.trans hW.output,iL hW.size rP.size,fun k hk=>(rP.block k (sP hk hW.size) (by simp)).trans (hW.block k hk)⟩;have hsW:=hW.size;have BL:=bU ks1;have hhb:=bU kh1;have aF1:∀ x,rv.ownBlock=some x->x<w.heap.size:=fun x hx=>(h.rows.lt x hx).2
  have aS0:=bU h.head;have keep:∀ b,b<w.heap.size->b≠th->rv.ownBlock≠some b->w'.heap[b]? =w.heap[b]? :=fun b hb h1 h2=>(hK.block b (sP hb Gg.size) h1 h2).trans (Gg.block b hb)
  have aB7:=h.nodup;simp only [jP,List.nodup_cons,List.nodup_append,List.mem_append,not_or] at aB7;obtain⟨⟨a2,a3⟩,a6,a7,a8⟩:=aB7;obtain⟨on,hon⟩:∃ on:eZ,on=⟨sb,IM,.slice none 0 0,.slice la ln lc,lab,own,[]⟩:=⟨_,rfl⟩
  have hp:(jP th rv' (lN (posOf (iP lab) os) on os)).Perm ([th]++(rv'.ownBlock.toList++([sb,IM]++os.flatMap pO))):=by
   show(th::(rv'.ownBlock.toList++_)).Perm _
   refine List.Perm.cons _ (List.Perm.append_left _ ?_);have:=WB pO (posOf (iP lab) os) on os;rw [show pO on=[sb,IM] by rw [hon];rfl] at this;exact this
  refine⟨on,rv',lN (posOf (iP lab) os) on os,by rw [hon];rfl,.inr ⟨mK,rfl,by rw [hon],by rw [hon],by rw [hon],by rw [hon]⟩,⟨kg',?_,?_,?_⟩,?_,?_⟩
  ·have e1:mR (lN (posOf (iP lab) os) on os)=(mR os).take (posOf (iP lab) os)++[(Value.slice la ln lc,Value.pointer (some ⟨sb,0,none⟩))]++(mR os).drop (posOf (iP lab) os):=by rw [hon];simp [mR,lN,ptr]
   rw [e1]
   have hle:((mR os).take (posOf (iP lab) os)++[(Value.slice la ln lc,Value.pointer (some ⟨sb,0,none⟩))]++(mR os).drop (posOf (iP lab) os)).length=(mR os).length+1:=by
    have:=BP.1;simp
    omega
   rw [hle];exact CW
  ·intro o ho
   have WE:o∈os∨o=on:=by
    simp only [lN,List.mem_append,List.mem_singleton] at ho
    rcases ho with(ho|ho)|ho
    ·exact .inl (List.mem_of_mem_take ho)
    ·exact .inr ho
    exact .inl (List.mem_of_mem_drop ho)
   rcases WE with ho|rfl
   ·refine(h.mU o ho).keep (fun b hb=>keep b ((h.mU o ho).lt b hb) ?_ ?_)
    ·intro e;exact a3 (List.mem_flatMap.2 ⟨o,ho,by rw [<- e];exact hb⟩)
    intro e;exact a8 b (by rw [e];simp) b (List.mem_flatMap.2 ⟨o,ho,hb⟩) rfl
   rw [hon];exact⟨hK.dL ks1 (show sb≠th by omega) (fun e=>by have:=aF1 sb e;omega),hK.dL kh1 (show IM≠th by omega) (fun e=>by have:=aF1 IM e;omega),World.ownsRow_nil _ _ _ _,by simp⟩
  ·rw [hp.nodup_iff]
   refine aAs (N:=w.heap.size) (M:=w1.heap.size) (r:=rv.ownBlock.toList) h.nodup (h.lt) (by simp;omega) (by
    intro y hy;simp at hy
    rcases hy with rfl|rfl<;>omega) (WC _) ?_ Gg.size
   rcases Uo with h1|h1
   ·left;rw [h1]
   right;intro x hx
   cases hr:rv'.ownBlock with
   |none=>rw [hr] at hx;simp at hx
   |some q=>
    rw [hr] at hx;simp at hx;subst hx;exact h1 _ hr
  ·refine⟨hK.os.trans Gg.os,hK.tape.trans Gg.tape,hK.output.trans Gg.output,iL Gg.size hK.size,fun k hk hn=>keep k hk (fun e=>hn (by rw [e];simp [jP])) (fun e=>hn (by simp only [jP,List.mem_cons,List.mem_append];exact .inr (.inl (by rw [e];simp))))⟩
  intro b hb;rw [hp.mem_iff] at hb;simp only [List.mem_append,List.mem_cons,List.not_mem_nil,or_false] at hb
  rcases hb with rfl|hb|(rfl|rfl)|hb
  ·left;simp [jP]
  ·rcases Uo with h1|h1
   ·left;rw [h1] at hb;simp only [jP,List.mem_cons,List.mem_append];exact .inr (.inl hb)
   right
   cases hr:rv'.ownBlock with
   |none=>rw [hr] at hb;simp at hb
   |some q=>
    rw [hr] at hb;simp at hb;subst hb;have:=h1 _ hr;have:=Gg.size;omega
  ·right;omega
  ·right;omega
  left;simp only [jP,List.mem_cons,List.mem_append];exact .inr (.inr hb)
theorem PN{t:Int}{d:ByteArray}:bQ t d=0↔ ∃ sp,zS t d=some sp:=by
 by_cases h:t<0∨65535<t
 ·obtain⟨h1,h2⟩:=GQ (d:=d) h;rw [h1,h2];simp
 by_cases h1:65535<d.size
 ·obtain⟨h2,h3⟩:=GR h h1;rw [h2,h3];simp
 cases hq:Dt.spans (Dt.lM t) 0 d with
 |none=>obtain⟨h2,h3⟩:=PH h h1 hq;rw [h2,h3];simp
 |some sp=>obtain⟨h2,h3⟩:=GU h h1 hq;rw [h2,h3];simp
theorem Uq{t:Int}{d:ByteArray}(h:bQ t d=0):∃ ps,Dt.parts (Dt.pV t) d=some ps∧zS t d=some (Dt.spansOf (Dt.pV t) ps 0)∧d.size<=65535:=by
 obtain⟨sp,nA⟩:=PN.1 h
 by_cases ht:t<0∨65535<t
 ·rw [(GQ (d:=d) ht).2] at nA;cases nA
 by_cases h1:65535<d.size
 ·rw [(GR ht h1).2] at nA;cases nA
 have e:zS t d=Dt.spans (Dt.lM t) 0 d:=by rw [zS,if_neg ht,if_neg h1]
 rw [e,<- Dt.uF,Dt.nN] at nA
 cases hq:Dt.parts (Dt.pV t) d with
 |none=>rw [hq] at nA;simp at nA
 |some ps=>
  refine⟨ps,rfl,?_,by omega⟩;rw [e,<- Dt.uF,Dt.nN,hq];rfl
theorem aJ1:∀ (ps:List ByteArray) (x:ByteArray),x∈ps->x.size<=(Dt.nP ps).length:=by
 intro ps
 induction ps with
 |nil=>intro x h;simp at h
 |cons y ps ih=>
  intro x h;have e:(Dt.nP (y::ps)).length=y.size+(Dt.nP ps).length:=by simp [Dt.nP]
  rcases List.mem_cons.1 h with rfl|h
  ·omega
  have:=ih x h;omega
theorem aAt(c:UInt8):(Dt.sQ c).JV=decide (c.toNat=110):=by
 by_cases h:c=110
 ·subst h;rfl
 have h':c.toNat≠110:=fun e=>h (UInt8.toNat_inj.1 (by simpa using e))
 simp only [h',decide_false];unfold Dt.sQ;rw [if_neg h]
 repeat' split
 all_goals rfl
theorem aCf:∀ (fs:List Dt.Pc) (a:Nat) (d:ByteArray) (sp:List (Nat×Nat)),Dt.spans fs a d=some sp->sp.length<=fs.length:=by
 intro fs
 induction fs with
 |nil=>
  intro a d sp h;rw [Dt.spans] at h
  split at h
  ·simp at h;subst h;simp
  simp at h
 |cons p r ih=>
  intro a d sp h;rw [Dt.spans] at h
  cases hq:Dt.sz p d with
  |none=>rw [hq] at h;simp at h
  |some n=>
   rw [hq] at h
   cases hr:Dt.spans r (a+n) (d.extract n d.size) with
   |none=>simp [hr] at h
   |some l=>
    have:=ih _ _ _ hr;simp [hr] at h
    subst h;cases p.JV<;>simp<;>omega
theorem aJ2(t:Int)(d:ByteArray):((zS t d).getD []).length<=5:=by
 cases h:zS t d with
 |none=>simp
 |some sp=>
  rw [zS] at h
  split at h
  ·cases h
  split at h
  ·cases h
  have h1:=aCf _ _ _ _ h;have h2:=Ct t
  simp;omega
theorem fI{w:World}{xs:List It}{b off k:Nat}{x:It}(hc:∀ (i:Nat) (y:Value),(fD xs)[i]? =some y->w.cell? ⟨b,off+i,none⟩=some y)(h:xs[k]? =some x):
 w.cell? ⟨b,off+k*8,none⟩=some (.string x.r.own)∧w.cell? ⟨b,off+k*8+1,none⟩=some (.int .i64 x.r.ty)∧w.cell? ⟨b,off+k*8+2,none⟩=some (.int .i64 x.r.cl)∧w.cell? ⟨b,off+k*8+3,none⟩=some (.int .i64 x.r.tt)∧w.cell? ⟨b,off+k*8+4,none⟩=some (.string x.r.da)∧w.cell? ⟨b,off+k*8+5,none⟩=some (.string x.fo)∧w.cell? ⟨b,off+k*8+6,none⟩=some (.string x.dt)∧w.cell? ⟨b,off+k*8+7,none⟩=some (.bool x.out):=
 ⟨hc (k*8) _ ((vL xs k 0 x h (by decide)).trans rfl),hc (k*8+1) _ ((vL xs k 1 x h (by decide)).trans rfl),hc (k*8+2) _ ((vL xs k 2 x h (by decide)).trans rfl),hc (k*8+3) _ ((vL xs k 3 x h (by decide)).trans rfl),hc (k*8+4) _ ((vL xs k 4 x h (by decide)).trans rfl),hc (k*8+5) _ ((vL xs k 5 x h (by decide)).trans rfl),hc (k*8+6) _ ((vL xs k 6 x h (by decide)).trans rfl),hc (k*8+7) _ ((vL xs k 7 x h (by decide)).trans rfl)⟩
theorem aCg{l:List It}{k:Nat}{x:It}(fo:ByteArray)(t:Int)(h:l[k]? =some x):fH (l.take (k+1)) fo t=(fH (l.take k) fo t||(!x.out&&decide (x.fo=fo)&&decide (x.r.ty=t))):=by
 obtain⟨hi,e⟩:=dK h;rw [List.take_succ_eq_append_getElem hi,e];simp [fH]
theorem ba_eq(a b:ByteArray):(a.toList==b.toList)=decide (a=b):=by
 by_cases h:a=b
 ·subst h;simp
 rw [jU h,dC];intro e;apply h;rw [ByteArray.toList_eq,ByteArray.toList_eq] at e;cases a;cases b
 congr 1;exact Array.toList_inj.1 e
theorem wU(v:Value)(l:List It)(n:Nat)(fo:ByteArray)(t:Int)(w:World)(h:bS w v l.length 8 (fD l))(hn:n<=l.length)(hl:l.length<=1000000):
 Calls Tryz.prog 100 #[v,.int .i64 (n:Int),.string fo,.int .i64 t] w fun e w'=>e=.returned (.bool (fH (l.take n) fo t))∧w'=w:=by
 obtain⟨_,a,cap,rfl,gY,kK,hc⟩:=h;unfold maxLen at kK;go_enter Tryz.func100,Tryz.ntmps100;go_wp2
 go_loop [9] (fun i=>∃ k:Nat,k<=n∧i=.int .i64 k∧Hid (fH (l.take k) fo t=false)) (fun i=>n-(intOf i).toNat)
 case atStart=>exact⟨0,dO _,rfl,rfl⟩
 obtain⟨k,hk,rfl,HA⟩:=hrel
 by_cases bV:k<n
 ·obtain⟨x,nI⟩:∃ x,l[k]? =some x:=⟨_,bY (by omega)⟩;obtain⟨b,off,rfl,aL⟩:=hc (by omega);obtain⟨c0,c1,c2,c3,c4,c5,c6,c7⟩:=fI aL nI;have i1:(0:Int)<=(k:Int):=by omega
  have i2:(k:Int)<(l.length:Int):=by omega
  have i3:(k:Int)<(n:Int):=by omega
  have oG:=aCg fo t nI;have e0:=ba_eq x.fo fo;have e1:(x.r.ty==t)=decide (x.r.ty=t):=by by_cases h:x.r.ty=t<;>simp [h]
  rw [HA.out,Bool.false_or,<- e0,<- e1] at oG;have HST:=Nm.aF oG;clear hc aL nI oG e0 e1 HA;obtain⟨⟨o,ty,cl,tt,da⟩,f1,d1,ou⟩:=x;simp only at*
  have SX:fH (l.take (k+1)) fo t=true->fH (l.take n) fo t=true:=by
   intro h1
   have e:l.take n=l.take (k+1)++(l.drop (k+1)).take (n-(k+1)):=by
    conv=>lhs;rw [show n=(k+1)+(n-(k+1)) by omega]
    rw [List.take_add]
   rw [e];simp only [fH,List.any_append,Bool.or_eq_true] at h1 ⊢;exact .inl h1
  have aF2:=Nm.aF SX;clear SX
  cases hO:ou with
  |true=>
   subst hO;have HN:Hid (fH (l.take (k+1)) fo t=false):=by show _=_;rw [HST.out];rfl
   clear HST aF2;go_wp2
   go_round
   case rel=>exact⟨k+1,by omega,by go_num,HN⟩
   simp [intOf];omega
  |false=>
   subst hO;cases hF:(f1.toList==fo.toList)
   ·have HN:Hid (fH (l.take (k+1)) fo t=false):=by show _=_;rw [HST.out,hF];rfl
    clear HST aF2;go_wp2
    go_round
    case rel=>exact⟨k+1,by omega,by go_num,HN⟩
    simp [intOf];omega
   cases hT:(ty==t)
   ·have HN:Hid (fH (l.take (k+1)) fo t=false):=by show _=_;rw [HST.out,hF,hT];rfl
    clear HST aF2;go_wp2
    go_round
    case rel=>exact⟨k+1,by omega,by go_num,HN⟩
    simp [intOf];omega
   have HN:Hid (fH (l.take n) fo t=true):=aF2.out (by rw [HST.out,hF,hT];rfl);clear HST aF2;go_wp2;go_ret;exact⟨by rw [HN.out];rfl,rfl⟩
 obtain rfl:k=n:=by omega
 have i3:(k:Int)<=(k:Int):=by omega
 clear hc;go_wp2;go_ret;exact⟨by rw [HA.out];rfl,rfl⟩
def nW(l:List It)(fo:ByteArray):ByteArray:=match l.find? (fun x=>decide (x.fo=fo)) with
 |some x=>x.r.own
 |none=>fo
theorem Gh(v:Value)(l:List It)(fo:ByteArray)(w:World)(h:bS w v l.length 8 (fD l))(hl:l.length<=1000000):
 Calls Tryz.prog 67 #[v,.string fo] w fun e w'=>e=.returned (.string (nW l fo))∧w'=w:=by
 obtain⟨_,a,cap,rfl,gY,kK,hc⟩:=h;unfold maxLen at kK;go_enter Tryz.func67,Tryz.ntmps67;go_wp2
 go_loop [5] (fun i=>∃ k:Nat,k<=l.length∧i=.int .i64 k∧Hid (∀ j y,j<k->l[j]? =some y->decide (y.fo=fo)=false)) (fun i=>l.length-(intOf i).toNat)
 case atStart=>exact⟨0,dO _,rfl,by show ∀ _,_;intro j y hj;omega⟩
 obtain⟨k,hk,rfl,HA⟩:=hrel
 by_cases bV:k<l.length
 ·obtain⟨x,nI⟩:∃ x,l[k]? =some x:=⟨_,bY bV⟩;obtain⟨b,off,rfl,aL⟩:=hc (by omega);obtain⟨c0,c1,c2,c3,c4,c5,c6,c7⟩:=fI aL nI;have i1:(0:Int)<=(k:Int):=by omega
  have i2:(k:Int)<(l.length:Int):=by omega
  have e0:=ba_eq x.fo fo;have HXK:=Nm.aF nI;clear hc aL nI;cases hF:decide (x.fo=fo)
  ·have HA2:Hid (∀ j y,j<k+1->l[j]? =some y->decide (y.fo=fo)=false):=by
    show ∀ _,_
    intro j y hj hy
    by_cases hjk:j=k
    ·subst hjk;rw [HXK.out] at hy;obtain rfl:=gQ hy;exact hF
    exact HA.out j y (by omega) hy
   rw [hF] at e0;clear hF;obtain⟨⟨o,ty,cl,tt,da⟩,f1,d1,ou⟩:=x;simp only at*
   go_wp2
   go_round
   case rel=>exact⟨k+1,by omega,by go_num,HA2⟩
   simp [intOf];omega
  have HO:Hid (nW l fo=x.r.own):=by
   show _=_
   have:l.find? (fun x=>decide (x.fo=fo))=some x:=by
    rw [List.find?_eq_some_iff_getElem];obtain⟨sS,e⟩:=dK HXK.out;refine⟨hF,k,sS,e,fun j hj=>?_⟩;have:=HA.out j l[j] hj (bY (by omega));simp only [this];decide
   rw [nW,this]
  rw [hF] at e0;clear hF;obtain⟨⟨o,ty,cl,tt,da⟩,f1,d1,ou⟩:=x;simp only at*
  go_wp2;go_ret;exact⟨by rw [HO.out];rfl,rfl⟩
 obtain rfl:k=l.length:=by omega
 have HO:Hid (nW l fo=fo):=by
  show _=_
  have:l.find? (fun x=>decide (x.fo=fo))=none:=by
   rw [List.find?_eq_none];intro x hx;obtain⟨j,hj,e⟩:=List.getElem_of_mem hx;have:=HA.out j x hj (by rw [bY hj,e]);simpa using this
  rw [nW,this]
 have i3:(l.length:Int)<=(l.length:Int):=by omega
 clear hc;go_wp2;go_ret;exact⟨by rw [HO.out];rfl,rfl⟩
def sD(a b:It):Bool:=if a.fo=b.fo then(if a.r.ty=b.r.ty then Op.bytesLess a.dt.toList b.dt.toList else decide (a.r.ty<b.r.ty)) else decide (Nm.rU a.fo b.fo<0)
theorem Ar(a b:It)(w:World)(ha:a.fo.size<=maxLen)(hb:b.fo.size<=maxLen):
 Calls Tryz.prog 102 #[.agg (DK a).toArray,.agg (DK b).toArray] w fun e w'=>e=.returned (.bool (sD a b))∧Below w.heap.size w w':=by
 have hB:=((aK w.heap.size w).alloc (aN _) (.cells (DK a).toArray 102)).alloc (by simp) (.cells (DK b).toArray 102);have zM:=fun W=>EW a.fo b.fo W ha hb
 have e0:=ba_eq a.fo b.fo;obtain⟨Q,hQ⟩:∃ Q,Q=sD a b:=⟨_,rfl⟩;rw [<- hQ];unfold sD at hQ;obtain⟨⟨o,ty,cl,tt,da⟩,f1,d1,ou⟩:=a;obtain⟨⟨o2,ty2,cl2,tt2,da2⟩,f2,d2,ou2⟩:=b;simp only [DK] at*
 by_cases hf:f1=f2
 ·subst hf;rw [if_pos rfl] at hQ;have nf:(f1.toList != f1.toList)=false:=by simp
  clear e0 zM
  by_cases ht:ty=ty2
  ·subst ht;rw [if_pos rfl] at hQ;have nt:(ty != ty)=false:=by simp
   subst hQ;go_enter Tryz.func102,Tryz.ntmps102;go_wp2;go_ret;exact⟨rfl,hB⟩
  rw [if_neg ht] at hQ;subst hQ;have nt:(ty != ty2)=true:=by rw [bne_iff_ne];exact ht
  go_enter Tryz.func102,Tryz.ntmps102;go_wp2;go_ret;exact⟨rfl,hB⟩
 rw [if_neg hf] at hQ;subst hQ;rw [jU hf] at e0;have nf:(f1.toList != f2.toList)=true:=by rw [bne,e0];rfl
 have e9:¬f1.toList=f2.toList:=by simpa using e0
 generalize Nm.rU f1 f2=CC at*;go_enter Tryz.func102,Tryz.ntmps102;go_wp2_with fail
 refine(zM _).mono ?_;rintro e w1 ⟨rfl,b1⟩;go_wp2;go_ret;exact⟨rfl,Nm.aC hB b1⟩
def lV(x y:It):Bool:=decide (y.fo=x.fo)&&decide (y.r.ty=x.r.ty)
def jI(pre:List It)(x:It):Bool:=pre.any fun y=>lV x y&&decide (y.dt=x.dt)
def qO(pre:List It)(x:It):Bool:=match pre.find? (lV x) with
 |some y=>decide (y.r.tt≠x.r.tt)
 |none=>false
def iQ(b:Bool)(x:It):It:={x with out:=x.out||b}
def zB(l:List It):List It:=l.mapIdx fun i x=>iQ (jI (l.take i) x) x
def sF(l:List It):Int:=match bL (fun i x=>qO (l.take i) x) l with
 |some i=>i
 |none=> -1
theorem iM(l:List It):(zB l).length=l.length:=by simp [zB]
theorem jJ{l:List It}{i:Nat}{x:It}(h:l[i]? =some x):(zB l)[i]? =some (iQ (jI (l.take i) x) x):=by
 simp [zB,h]
theorem Cz{l:List It}{k:Nat}{y:It}(x:It)(h:l[k]? =some y):jI (l.take (k+1)) x=(jI (l.take k) x||(lV x y&&decide (y.dt=x.dt))):=by
 obtain⟨hi,e⟩:=dK h;rw [List.take_succ_eq_append_getElem hi,e];simp [jI]
theorem MI{l:List It}{k:Nat}{p:It->Bool}(h:∀ (j:Nat) (y:It),j<k->l[j]? =some y->p y=false):(l.take k).find? p=none:=by
 rw [List.find?_eq_none];intro y hy;obtain⟨j,hj,e⟩:=List.getElem_of_mem hy;have Ew:=hj;rw [List.length_take] at Ew;have h2:l[j]? =some y:=by rw [<- e,List.getElem_take,bY (by omega)]
 simp [h j y (by omega) h2]
theorem vM{l:List It}{k f:Nat}{y:It}{p:It->Bool}(hf:f<k)(hy:l[f]? =some y)(hp:p y=true)(h:∀ (j:Nat) (z:It),j<f->l[j]? =some z->p z=false):(l.take k).find? p=some y:=by
 rw [List.find?_eq_some_iff_getElem];obtain⟨hl,e⟩:=dK hy;refine⟨hp,f,by rw [List.length_take];omega,by rw [List.getElem_take];exact e,fun j hj=>?_⟩;rw [List.getElem_take];have:=h j l[j] hj (bY (by omega));simp [this]
def pY(l:List It)(i k:Nat):List It:=(zB l).take i++(l.drop i).mapIdx fun j x=>if j=0 then iQ (jI (l.take k) x) x else x
theorem uJ(l:List It)(i k:Nat):(pY l i k).length=l.length:=by
 simp [pY,iM];omega
theorem uA{l:List It}{i k j:Nat}{x:It}(h:l[j]? =some x)(hj:j<i):(pY l i k)[j]? =some (iQ (jI (l.take j) x) x):=by
 have bV:=(dK h).1;rw [pY,List.getElem?_append_left (by rw [List.length_take,iM];omega),List.getElem?_take_of_lt hj,jJ h]
theorem yH{l:List It}{i k:Nat}{x:It}(h:l[i]? =some x):(pY l i k)[i]? =some (iQ (jI (l.take k) x) x):=by
 have bV:=(dK h).1;rw [pY,List.getElem?_append_right (by rw [List.length_take,iM];omega)];simp [iM,Nat.min_eq_left (Nat.le_of_lt bV),h]
theorem yI{l:List It}{i k j:Nat}{x:It}(h:l[j]? =some x)(hj:i<j):(pY l i k)[j]? =some x:=by
 have bV:=(dK h).1;rw [pY,List.getElem?_append_right (by rw [List.length_take,iM];omega)];simp only [List.length_take,iM,Nat.min_eq_left (by omega:i<=l.length),List.getElem?_mapIdx,List.getElem?_drop];rw [show i+(j-i)=j by omega,h]
 simp;omega
theorem EX{l m:List It}{i k:Nat}(hl:m.length=l.length)(h:∀ (j:Nat) (x:It),l[j]? =some x->m[j]? =(pY l i k)[j]?):m=pY l i k:=by
 apply List.ext_getElem?;intro j
 by_cases hj:j<l.length
 ·exact h j _ (bY hj)
 rw [List.getElem?_eq_none (by omega),List.getElem?_eq_none (by rw [uJ];omega)]
theorem Ur(l:List It):pY l 0 0=l:=by
 symm;refine EX rfl fun j x h=>?_
 rcases Nat.eq_zero_or_pos j with rfl|hj
 ·rw [yH h,h];simp [iQ,jI]
 rw [yI h hj,h]
theorem aCh{l:List It}{i:Nat}(hi:i<l.length):pY l i i=pY l (i+1) 0:=by
 refine EX (uJ _ _ _) fun j x h=>?_
 by_cases h1:j<i
 ·rw [uA h h1,uA h (by omega)]
 by_cases h2:j=i
 ·subst h2;rw [yH h,uA h (by omega)]
 by_cases h3:j=i+1
 ·subst h3;rw [yI h (by omega),yH h];simp [iQ,jI]
 rw [yI h (by omega),yI h (by omega)]
theorem aF3{l:List It}:pY l l.length 0=zB l:=by
 symm;refine EX (iM l) fun j x h=>?_;have bV:=(dK h).1;rw [uA h bV,jJ h]
theorem PO{l:List It}{i k:Nat}{x y:It}(hx:l[i]? =some x)(hy:l[k]? =some y)(h:(lV x y&&decide (y.dt=x.dt))=false):pY l i (k+1)=pY l i k:=by
 refine EX (uJ _ _ _) fun j z hz=>?_
 by_cases h1:j<i
 ·rw [uA hz h1,uA hz h1]
 by_cases h2:j=i
 ·subst h2;rw [hx] at hz;obtain rfl:=gQ hz;rw [yH hx,yH hx,Cz x hy,h,Bool.or_false]
 rw [yI hz (by omega),yI hz (by omega)]
theorem aF4{l:List It}{i k:Nat}{x y:It}(hx:l[i]? =some x)(hy:l[k]? =some y)(h:(lV x y&&decide (y.dt=x.dt))=true):(pY l i k).set i {x with out:=true}=pY l i (k+1):=by
 refine EX (by rw [List.length_set,uJ]) fun j z hz=>?_;have bV:=(dK hx).1;rw [List.getElem?_set]
 by_cases h1:j<i
 ·rw [if_neg (by omega),uA hz h1,uA hz h1]
 by_cases h2:j=i
 ·subst h2;rw [hx] at hz;obtain rfl:=gQ hz;rw [if_pos rfl,if_pos (by rw [uJ];exact bV),yH hx,Cz x hy,h,Bool.or_true,iQ,Bool.or_true]
 rw [if_neg (by omega),yI hz (by omega),yI hz (by omega)]
theorem aF5:∀ (l:List It) (i:Nat) (x:It),l[i]? =some x->(fD l).set (i*8+7) (.bool true)=fD (l.set i {x with out:=true}):=by
 intro l
 induction l with
 |nil=>intro i x h;simp at h
 |cons y l ih=>
  intro i x h;have e:∀ z zs,fD (z::zs)=DK z++fD zs:=by intro z zs;simp [fD]
  cases i with
  |zero=>
   simp at h;subst h;rw [List.set_cons_zero,e,e,List.set_append_left _ _ (by simp [DK])]
   rfl
  |succ i=>
   simp at h;have hl:(DK y).length=8:=rfl;rw [List.set_cons_succ,e,e,List.set_append_right _ _ (by omega),hl,show(i+1)*8+7-8=i*8+7 by omega,ih i x h]
def jL:Nat->List It->List It
 |0,l=>l
 |n+1,l=>if l.length<2 then l else List.merge (jL n (l.take (l.length / 2))) (jL n (l.drop (l.length / 2))) sD
def EY(l:List It):List It:=jL l.length l
theorem yJ{n:Nat}{l:List It}(h:l.length<2):jL n l=l:=by
 cases n with
 |zero=>rfl
 |succ n=>rw [jL,if_pos h]
theorem PP{n:Nat}{l:List It}(h:¬l.length<2):jL (n+1) l=List.merge (jL n (l.take (l.length / 2))) (jL n (l.drop (l.length / 2))) sD:=by rw [jL,if_neg h]
theorem wW:∀ (n:Nat) (l:List It),(jL n l).Perm l:=by
 intro n
 induction n with
 |zero=>intro l;exact .refl _
 |succ n ih=>
  intro l
  by_cases h:l.length<2
  ·rw [yJ h]
  rw [PP h];have h1:(List.merge (jL n (l.take (l.length / 2))) (jL n (l.drop (l.length / 2))) sD).Perm (jL n (l.take (l.length / 2))++jL n (l.drop (l.length / 2))):=List.merge_perm_append _;refine h1.trans ?_;refine((ih _).append (ih _)).trans ?_;rw [List.take_append_drop]
theorem tK(n:Nat)(l:List It):(jL n l).length=l.length:=(wW n l).length_eq
theorem vX{n:Nat}{l:List It}{x:It}:x∈jL n l↔x∈l:=(wW n l).mem_iff
theorem aCi(l:List It)(h:Nat):fD (l.take h)=(fD l).take (h*8):=by
 induction l generalizing h with
 |nil=>simp [fD]
 |cons x l ih=>
  have e:∀ z zs,fD (z::zs)=DK z++fD zs:=by intro z zs;simp [fD]
  have hl:(DK x).length=8:=rfl
  cases h with
  |zero=>simp [fD]
  |succ h=>
   rw [List.take_succ_cons,e,e,ih,List.take_append,hl,List.take_of_length_le (l:=DK x) (i:=(h+1)*8) (by omega),show(h+1)*8-8=h*8 by omega]
theorem aCj(l:List It)(h:Nat):fD (l.drop h)=(fD l).drop (h*8):=by
 induction l generalizing h with
 |nil=>simp [fD]
 |cons x l ih=>
  have e:∀ z zs,fD (z::zs)=DK z++fD zs:=by intro z zs;simp [fD]
  have hl:(DK x).length=8:=rfl
  cases h with
  |zero=>simp
  |succ h=>
   rw [List.drop_succ_cons,e,ih,List.drop_append,hl,List.drop_of_length_le (l:=DK x) (i:=(h+1)*8) (by omega),show(h+1)*8-8=h*8 by omega,List.nil_append]
theorem aJ3{w:World}{b off n cap h:Nat}{l:List It}(hr:bS w (.slice (some ⟨b,off,none⟩) n cap) l.length 8 (fD l))(hh:h<=l.length):bS w (.slice (some ⟨b,off,none⟩) h cap) (l.take h).length 8 (fD (l.take h)):=by
 obtain⟨h0,a,c,e,h1,h2,h3⟩:=hr;simp only [iG] at e;obtain⟨rfl,rfl,rfl⟩:=e;have hl:(l.take h).length=h:=by rw [List.length_take];omega
 rw [hl];refine⟨by rw [Ml,hl],_,_,rfl,by omega,h2,fun hp=>⟨b,off,rfl,fun i x hx=>?_⟩⟩;rw [aCi] at hx;obtain⟨b',off',e,hc⟩:=h3 (by omega);cases e
 refine hc i x ?_;rw [List.getElem?_take] at hx
 split at hx
 ·exact hx
 cases hx
theorem aJ4{w:World}{b off n cap h:Nat}{l:List It}(hr:bS w (.slice (some ⟨b,off,none⟩) n cap) l.length 8 (fD l))(hh:h<l.length):bS w (.slice (some ⟨b,off+h*8,none⟩) (l.length-h) (cap-h)) (l.drop h).length 8 (fD (l.drop h)):=by
 obtain⟨h0,a,c,e,h1,h2,h3⟩:=hr;simp only [iG] at e;obtain⟨rfl,rfl,rfl⟩:=e;have hl:(l.drop h).length=l.length-h:=List.length_drop;rw [hl];refine⟨by rw [Ml,hl],_,_,rfl,by omega,by omega,fun hp=>⟨b,off+h*8,rfl,fun i x hx=>?_⟩⟩;rw [aCj,List.getElem?_drop] at hx;obtain⟨b',off',e,hc⟩:=h3 (by omega);cases e
 have:=hc (h*8+i) x hx;rw [Nat.add_assoc];exact this
theorem Us{a b:List It}{i:Nat}{x:It}(hx:a[i]? =some x):List.merge (a.drop i) (b.drop b.length) sD=x::List.merge (a.drop (i+1)) (b.drop b.length) sD:=by
 obtain⟨hi,e⟩:=dK hx;rw [List.drop_length,List.merge_right,List.merge_right,List.drop_eq_getElem_cons hi,e]
theorem aCk{a b:List It}{i k:Nat}{x y:It}(hx:a[i]? =some x)(hy:b[k]? =some y)(h:sD x y=true):List.merge (a.drop i) (b.drop k) sD=x::List.merge (a.drop (i+1)) (b.drop k) sD:=by
 obtain⟨hi,e⟩:=dK hx;obtain⟨hk,e2⟩:=dK hy;rw [List.drop_eq_getElem_cons hi,e,List.drop_eq_getElem_cons hk,e2,List.cons_merge_cons,if_pos h]
theorem aCl{a b:List It}{i k:Nat}{x y:It}(hx:a[i]? =some x)(hy:b[k]? =some y)(h:sD x y=false):List.merge (a.drop i) (b.drop k) sD=y::List.merge (a.drop i) (b.drop (k+1)) sD:=by
 obtain⟨hi,e⟩:=dK hx;obtain⟨hk,e2⟩:=dK hy;rw [List.drop_eq_getElem_cons hi,e,List.drop_eq_getElem_cons hk,e2,List.cons_merge_cons,if_neg (by simp [h])]
theorem Gi{a b:List It}{k:Nat}{y:It}(hy:b[k]? =some y):List.merge (a.drop a.length) (b.drop k) sD=y::List.merge (a.drop a.length) (b.drop (k+1)) sD:=by
 obtain⟨hk,e⟩:=dK hy;rw [List.drop_length,List.nil_merge,List.nil_merge,List.drop_eq_getElem_cons hk,e]
theorem aF6{s:ByteArray}(h:(Nm.split s).isSome=true):Dt.sz .nm s=some s.size:=by
 obtain⟨h1,h2⟩:=(Dt.LM s).1 h;rw [Dt.sz,if_neg h1,h2]
theorem aCm{s:ByteArray}(h:(Nm.split s).isSome=false):Dt.sz .nm s=none∨∃ n,Dt.sz .nm s=some n∧n≠s.size:=by
 by_cases h0:(Dt.dG s).size=0
 ·left;rw [Dt.sz,if_pos h0]
 right;refine⟨_,by rw [Dt.sz,if_neg h0],?_⟩;intro e;rw [(Dt.LM s).2 ⟨h0,e⟩] at h;simp at h
theorem SY(s:ByteArray)(w:World):
 Calls Tryz.prog 156 #[.string s] w fun e w'=>e=.returned (.bool (Nm.split s).isSome)∧w'=w:=by
 have aX:=MF s
 cases hq:(Nm.split s).isSome with
 |true=>
  rw [aF6 hq] at aX;simp only [szV,Option.getD_some,Option.isSome_some] at aX;clear hq;go_enter Tryz.func156,Tryz.ntmps156;go_wp2_with (go_at_call 178;refine(aX _).mono ?_;rintro e w1 ⟨rfl,rfl⟩)
  go_ret
  exact⟨rfl,rfl⟩
 |false=>
  rcases aCm hq with h|⟨n,h,hn⟩
  ·rw [h] at aX;simp only [szV,Option.getD_none,Option.isSome_none] at aX;clear hq h;go_enter Tryz.func156,Tryz.ntmps156;go_wp2_with (go_at_call 178;refine(aX _).mono ?_;rintro e w1 ⟨rfl,rfl⟩)
   go_ret;exact⟨rfl,rfl⟩
  rw [h] at aX;simp only [szV,Option.getD_some,Option.isSome_some] at aX;have hb:((n:Int)==(s.size:Int))=false:=by rw [dC];omega
  have iE:(n==s.size)=false:=by rw [dC];omega
  clear hq h;go_enter Tryz.func156,Tryz.ntmps156;go_wp2_with (go_at_call 178;refine(aX _).mono ?_;rintro e w1 ⟨rfl,rfl⟩)
  go_ret;exact⟨rfl,rfl⟩
theorem JG(s:ByteArray)(w:World)(_:s.size<=maxLen):
 Calls Tryz.prog 131 #[.string s] w fun e w'=>∃ v,e=.returned (.tuple #[v,.bool (Nm.split s).isSome])∧
  w'.ownsRow w.heap.size 9 1 v ((Nm.split s).getD []).length (((Nm.split s).getD []).map Value.string)∧Below w.heap.size w w':=by
 obtain⟨i0,hi,iJ,fP,fZ⟩:=info_parts Tryz.AU;have aX:=SY s
 cases hq:Nm.split s with
 |none=>
  rw [hq] at aX;simp only [Option.isSome_none] at aX;clear hq;go_enter Tryz.func131,Tryz.ntmps131;go_wp2_with (go_at_call 156;refine(aX _).mono ?_;rintro e w1 ⟨rfl,hw⟩;obtain rfl:w=w1:=hw.symm;clear hw)
  go_ret2
  exact⟨_,rfl,World.ownsRow_nil _ _ _ _,aK _ _⟩
 |some L=>
  have hz:=Nm.gW hq;have oG:=Nm.UN s hz.2;have HQ:=Nm.aF hq;rw [hq] at aX;simp only [Option.isSome_some] at aX;clear hq;have hz2':=hz.2;clear hz;go_enter Tryz.func131,Tryz.ntmps131;go_wp2_with (go_at_call 156;refine(aX _).mono ?_;rintro e w1 ⟨rfl,hw⟩;obtain rfl:w=w1:=hw.symm;clear hw)
  go_loopw [4,5] (fun v x wr=>∃ (ls:List ByteArray) (r:ByteArray),x=.string r∧Nm.At s ls r∧ls.length+r.size<=255∧wr.ownsRow w.heap.size 9 1 v ls.length (ls.map Value.string)∧Below w.heap.size w wr)
   (fun _ x _=>match x with|.string r=>r.size|_=>0)
  case atStart=>exact⟨[],s,rfl,oG,by simp;omega,World.ownsRow_nil _ _ _ _,aK _ _⟩
  obtain⟨ls,r,rfl,iT,hb,aU,aJ⟩:=hrel;clear oG;have hq:=HQ.out
  by_cases h0:r.size=0
  ·rw [Nm.UO iT h0] at hq;simp at hq
  have hp:0<r.size:=by omega
  have hn:(r[0].toNat:Int)<256:=by have:=r[0].toNat_lt;omega
  by_cases h1:r.size=1∧r[0].toNat=0
  ·have hL:L=ls:=by
    have:=Nm.at_end iT hp h1.2 h1.1;rw [hq] at this;simpa using this
   have e1:=Nm.aMe hp h1.1 h1.2;have e1':(r.toList != [0])=false:=by rw [bne,e1];rfl
   clear h1 hq HQ;go_wp2;go_ret2;rw [hL];exact⟨_,rfl,aU,aJ⟩
  have e1:=Nm.Tf hp h1;have e1':(r.toList != [0])=true:=by rw [bne,e1];rfl
  by_cases h2:r[0].toNat=0
  ·rw [Nm.aAd iT hp h2 (fun h=>h1 ⟨h,h2⟩)] at hq;simp at hq
  by_cases h3:63<r[0].toNat∨r.size<r[0].toNat+1
  ·rw [Nm.Td iT hp h2 h3] at hq;simp at hq
  have e4:(r[0].toNat:Int)<=63:=by omega
  have e5:(r[0].toNat:Int)+1<=(r.size:Int):=by omega
  have e5':1+r[0].toNat<=r.size:=by omega
  have Je:(0:Int)<(r.size:Int):=by omega
  have HN:Hid (Nm.At s (ls++[r.extract 1 (r[0].toNat+1)]) (r.extract (r[0].toNat+1) r.size)):=Nm.aAe iT hp h2 (by omega) (by omega);have pQ:=aJ.size;clear h2 h1 h0 h3 hq HQ;go_wp2_with (at_builtin;refine wpList_append_own _ rfl (.tmp 16) (.tmp 21) 116 rfl w.heap.size 9 i0 (.string ByteArray.empty) 1 16 Tryz.underlying116 hi iJ fP fZ rfl (by decide) _ _ _ rfl (aU.alloc _) ⟨wr.heap.size,0,none⟩ 1 1 [.string (r.extract 1 (1+r[0].toNat))] rfl rfl (iR _ _ _) (Nm.one_cell _ rfl) (by unfold maxLen;omega) (by omega) (by simp;omega) ?_)
  intro v' w1 dD bZ _;have R:=nK pQ aU aJ _ dD bZ;clear dD bZ aU aJ;go_wp2;go_roundw
  case rel=>exact⟨_,_,rfl,by simpa [Nat.add_comm] using HN.out,by simp;omega,R.1,R.2⟩
  simp;omega
theorem RH{xs ys:List ByteArray}(h:xs.length<ys.length):dZ xs ys=false:=by
 rw [dZ,jU (by omega)];rfl
theorem Ut{xs ys:List ByteArray}(h:ys.length<=xs.length):dZ xs ys=decide (Nm.bJ (xs.drop (xs.length-ys.length)) ys=0):=by
 rw [dZ,nD h];rfl
theorem Da(v u:Value)(xs ys:List ByteArray)(w:World)(h:Nm.dX w v xs)(h':Nm.dX w u ys)(Lx:∀ x∈xs,x.size<=1000000000)(hlx:xs.length<=1000000000)(hly:ys.length<=1000000000):
 Calls Tryz.prog 160 #[v,u] w fun e w'=>e=.returned (.bool (dZ xs ys))∧∃ m,w'=w.drewN m:=by
 have eF:=h;obtain⟨a,cap,rfl,gY,kK,TV,hc⟩:=h;have hu:=h';obtain⟨a',cap',rfl,VM,PD,aMl,DF⟩:=h';clear hc DF TV aMl
 by_cases hl:xs.length<ys.length
 ·have HA:=Nm.aF (RH hl);have hd:decide ((0:Int)<=(xs.length:Int)-(ys.length:Int))=false:=by simp;omega
  have ZE:(xs.length:Int)-(ys.length:Int)<0:=by omega
  clear eF hu;go_enter Tryz.func160,Tryz.ntmps160;go_wp2;go_ret;rw [HA.out];exact⟨rfl,0,rfl⟩
 have HA:=Nm.aF (Ut (xs:=xs) (ys:=ys) (by omega));obtain⟨d,hd⟩:∃ d,d=xs.length-ys.length:=⟨_,rfl⟩;rw [<- hd] at HA;have hq:(xs.length:Int)-(ys.length:Int)=(d:Int):=by omega
 have pF:d<=xs.length:=by omega
 have hg:decide ((0:Int)<=(d:Int))=true:=by simp
 have aJ5:=fun V hr=>QW V (.slice a' ys.length cap') (xs.drop d) ys w hr hu (fun x hx=>Lx x (List.mem_of_mem_drop hx)) (by rw [List.length_drop];omega) hly
 have IM:=fun e:cap=d=>eF.UT e
 have Tu:=eF.drop (k:=d) pF;generalize Nm.bJ (xs.drop d) ys=o at*;have HD:Hid ((o==0)=decide (o=0)):=by show _=_;rw [Bool.eq_iff_iff];simp
 clear hd hl Lx eF hu
 by_cases Jj:cap=d
 ·have Hc:=aJ5 _ (IM Jj);clear aJ5 IM Tu;subst Jj;rw [show xs.length-cap=0 by omega] at Hc;go_enter Tryz.func160,Tryz.ntmps160;go_wp2_with fail
  refine Hc.mono ?_;rintro e w1 ⟨rfl,m,rfl⟩;go_wp2;go_ret;rw [HA.out,<- HD.out];exact⟨rfl,_,rfl⟩
 have Hc:=aJ5 _ Tu;clear aJ5 IM Tu;go_enter Tryz.func160,Tryz.ntmps160;go_wp2_with fail
 refine Hc.mono ?_;rintro e w1 ⟨rfl,m,rfl⟩;go_wp2;go_ret;rw [HA.out,<- HD.out];exact⟨rfl,_,rfl⟩
theorem CL(a b:ByteArray)(w:World)(ha:a.size<=maxLen)(hb:b.size<=maxLen):
 Calls Tryz.prog 96 #[.string a,.string b] w fun e w'=>e=.returned (.bool (fT a b))∧Below w.heap.size w w':=by
 have Fx:=jZ a w ha;have BL:=fun W=>jZ b W hb
 cases OH:Nm.split a with
 |none=>
  have HA:=Nm.aF (Eu (b:=b) OH);rw [OH] at Fx;clear OH;go_enter Tryz.func96,Tryz.ntmps96;go_wp2_with fail
  refine Fx.mono ?_;rintro e w1 ⟨v,rfl,aU,aJ⟩;go_wp2_with fail
  refine(BL _).mono ?_;rintro e w2 ⟨v2,rfl,dW,lQ⟩;go_wp2;go_ret;rw [HA.out]
  exact⟨rfl,Nm.aC aJ lQ⟩
 |some xs=>
  rw [OH] at Fx
  cases TW:Nm.split b with
  |none=>
   have HA:=Nm.aF (ZV (a:=a) TW);rw [TW] at BL;clear OH TW;go_enter Tryz.func96,Tryz.ntmps96;go_wp2_with fail
   refine Fx.mono ?_;rintro e w1 ⟨v,rfl,aU,aJ⟩;go_wp2_with fail
   refine(BL _).mono ?_;rintro e w2 ⟨v2,rfl,dW,lQ⟩;go_wp2;go_ret;rw [HA.out]
   exact⟨rfl,Nm.aC aJ lQ⟩
  |some ys=>
   have HA:=Nm.aF (vK OH TW);have aO7:=Tv OH TW;have hza:=Nm.gW OH;have Sm:=Nm.gW TW;have hla:=Nm.gJ xs;have GI:=Nm.gJ ys;rw [TW] at BL;clear OH TW;go_enter Tryz.func96,Tryz.ntmps96;go_wp2_with fail
   refine Fx.mono ?_;rintro e w1 ⟨v,rfl,aU,aJ⟩;go_wp2_with fail
   refine(BL _).mono ?_;rintro e w2 ⟨v2,rfl,dW,lQ⟩;have r1:=(Nm.dX.aS aU).below lQ;have r2:=Nm.dX.aS dW;simp only [Option.getD_some] at r1 r2;have SQ:=Nm.aC aJ lQ;obtain⟨a1,aB9,rfl,Lh,aO5,aJy,iK⟩:=r1;obtain⟨a2,aMg,rfl,VH,aJz,Fh,mD⟩:=r2;have eF:Nm.dX w2 (.slice a1 xs.length aB9) xs:=⟨a1,aB9,rfl,Lh,aO5,aJy,iK⟩;clear aU dW Fx BL aJy Fh aJ lQ iK mD
   by_cases hl:xs.length<ys.length
   ·have HU:=Nm.aF (RH hl);have hd:decide (xs.length<ys.length)=true:=by simpa using hl
    clear eF;go_wp2;go_ret;rw [HA.out,HU.out];exact⟨rfl,SQ⟩
   have HU:=Nm.aF (aO7 (by omega))
   have Af:=fun W=>gU ⟨(Nm.joinL (xs.drop (xs.length-ys.length))).toArray⟩ b W (by
    show(Nm.joinL (xs.drop (xs.length-ys.length))).toArray.size<=maxLen
    rw [List.size_toArray,Nm.rT];have:=Nm.vG xs (xs.length-ys.length);unfold maxLen
    omega) hb
   obtain⟨d,hd⟩:∃ d,d=xs.length-ys.length:=⟨_,rfl⟩;rw [<- hd] at HU Af;have hq:(xs.length:Int)-(ys.length:Int)=(d:Int):=by omega
   have pF:d<=xs.length:=by omega
   have hyx:ys.length<=xs.length:=by omega
   have hwd:=Nm.vG xs d;have KA:=fun V hr=>cB V (xs.drop d) w2 hr (by omega)
   have IM:=fun e:aB9=d=>eF.UT e
   have Tu:=eF.drop (k:=d) pF;have hdd:decide (xs.length<ys.length)=false:=by simp;omega
   generalize ByteArray.mk (Nm.joinL (xs.drop d)).toArray=J at*;clear hd hl eF aO7
   by_cases Jj:aB9=d
   ·have Hc:=KA _ (IM Jj);clear KA IM Tu;subst Jj;rw [show xs.length-aB9=0 by omega] at Hc;go_wp2_with fail
    refine Hc.mono ?_;rintro e w3 ⟨rfl,ET⟩;go_wp2_with fail
    refine(Af _).mono ?_;rintro e w4 ⟨rfl,aF7⟩;go_wp2;go_ret;rw [HA.out,<- HU.out];exact⟨rfl,Nm.aC SQ (Nm.aC ET aF7)⟩
   have Hc:=KA _ Tu;clear KA IM Tu;go_wp2_with fail
   refine Hc.mono ?_;rintro e w3 ⟨rfl,ET⟩;go_wp2_with fail
   refine(Af _).mono ?_;rintro e w4 ⟨rfl,aF7⟩;go_wp2;go_ret;rw [HA.out,<- HU.out];exact⟨rfl,Nm.aC SQ (Nm.aC ET aF7)⟩
def EA(l:List It)(fo:ByteArray)(i:Nat)(x:It):Bool:= !x.out&&decide (x.r.ty=6)&&(decide (x.fo≠fo)||fH (l.take i) fo 6)
def KX(x:It):Bool:= !x.out&&yF x.fo&&(decide (x.r.ty=2)||decide (x.r.ty=39))
def MJ(l:List It)(i:Nat)(x:It):Bool:= !x.out&&(decide (x.r.ty=5)||decide (x.r.ty=39))&&fH (l.take i) x.fo x.r.ty
def KG(l:List It)(x:It):Bool:= !x.out&&decide (x.r.ty≠5)&&decide (x.r.ty≠47)&&fH l x.fo 5
def Sn(x y:It):Bool:= !y.out&&decide (y.r.ty=39)&&decide (y.fo≠x.fo)&&fT x.fo y.fo
def PQ(l:List It)(x:It):Bool:= !x.out&&l.any fun y=>Sn x y
theorem lJ(l:List It)(fo:ByteArray):fM l fo=
 match bL (EA l fo) l with
 |some i=>(20,i)
 |none=>if !fH l fo 6 then(20,-1) else if !fH l fo 2 then(21,-1) else
  match bL (fun _ x=>KX x) l with
  |some i=>(26,i)
  |none=>match bL (MJ l) l with
   |some i=>(23,i)
   |none=>match bL (fun _ x=>KG l x) l with
    |some i=>(23,i)
    |none=>match bL (fun _ x=>PQ l x) l with
     |some i=>(25,i)
     |none=>(0,0):=rfl
theorem gG{p:Nat->It->Bool}{l:List It}{k:Nat}{x:It}(lT:∀ (i:Nat) (y:It),i<k->l[i]? =some y->p i y=false)(hk:l[k]? =some x)(hp:p k x=false):∀ (i:Nat) (y:It),i<k+1->l[i]? =some y->p i y=false:=by
 intro i y hi hy
 by_cases h:i=k
 ·subst h;rw [hk] at hy;obtain rfl:=gQ hy;exact hp
 exact lT i y (by omega) hy
theorem MK{p:It->Bool}{l:List It}{k:Nat}{y:It}(h:(l.take k).any p=false)(hk:l[k]? =some y)(hp:p y=false):(l.take (k+1)).any p=false:=by
 obtain⟨hi,e⟩:=dK hk;rw [List.take_succ_eq_append_getElem hi,e,List.any_append,h];simp [hp]
theorem WF(s:ByteArray)(w:World)(hs:s.size<=maxLen):Calls Tryz.prog 101 #[.string s] w fun e w'=>e=.returned (.bool (yF s))∧w'=w:=by
 unfold maxLen at hs;obtain⟨Q,hQ⟩:∃ Q,Q=yF s:=⟨_,rfl⟩;rw [<- hQ];unfold yF at hQ
 by_cases h1:1<s.size
 ·have i1:(1:Int)<(s.size:Int):=by omega
  rw [nD h1,Bool.true_and,<- ba_eq] at hQ;have HQ:=Nm.aF hQ;clear hQ;go_enter Tryz.func101,Tryz.ntmps101;go_wp2;go_ret;exact⟨by rw [HQ.out,show(⟨#[1,42]⟩:ByteArray).toList=[1,42] from by rw [ByteArray.toList_eq]];rfl,rfl⟩
 have i1:(s.size:Int)<=1:=by omega
 rw [jU h1,Bool.false_and] at hQ;subst hQ;go_enter Tryz.func101,Tryz.ntmps101;go_wp2;go_ret;exact⟨rfl,rfl⟩
theorem dH.BQ{w:World}{B:Nat}{v:Value}{ps:List Zp}(h:dH w B v ps):gI w v ps:=
 ⟨bS.aS h.outer,fun p hp=>by obtain⟨i,hi⟩:=List.getElem?_of_mem hp;exact Nm.dX.aS (h.inner i p hi)⟩
theorem oW(g:Nat)(a:Option Addr)(n cap:Nat)(w:World)(h:Src w g a n cap):
 Calls Tryz.prog 59 #[.pointer (some ⟨g,0,none⟩)] w fun e w'=>∃ s:ByteArray,e=.returned (.string s)∧s.size<=63∧Src w' g a n cap∧w.grownBy w' (some g):=by
 have TR:=fun(x:Int) (W:World)=>EK x W
 have nJ:∀ c:UInt8,(ByteArray.mk #[c]).size=1:=fun _=>rfl
 have oI:(ByteArray.mk #[110,115]).size=2:=rfl;go_enter Tryz.func59,Tryz.ntmps59;go_wp2_with fail
 refine(aY g a n cap 12 _ h (by decide)).mono ?_;rintro e w1 ⟨r,rfl,OD,rH,jT,nH⟩;have uR:=rH (by decide);clear rH h
 rcases(by omega:r=0∨r=1∨r=2∨r=3∨r=4∨r=5∨6<=r) with rfl|rfl|rfl|rfl|rfl|rfl|h6
 ·go_wp2;go_ret;exact⟨_,rfl,by decide,jT,nH⟩
 ·go_wp2_with (first|(go_at_call 11;refine(aY g a n cap 4 _ jT (by decide)).mono ?_;rintro e w2 ⟨q,rfl,hq0,ML,uY,BR⟩;have Aq:=ML (by decide);clear ML)|(go_at_call 57;refine(gN g a n cap (1+q) _ uY (by omega) (by omega)).mono ?_;rintro e w3 ⟨s3,rfl,qD,VV,Fu⟩))
  go_ret;exact⟨_,rfl,by omega,VV,aZ (aZ nH BR) Fu⟩
 ·go_wp2;go_ret;exact⟨_,rfl,by decide,jT,nH⟩
 ·go_wp2;go_ret;exact⟨_,rfl,by decide,jT,nH⟩
 ·go_wp2;go_ret;exact⟨_,rfl,by decide,jT,nH⟩
 ·go_wp2_with (go_at_call 11;refine(aY g a n cap 3 _ jT (by decide)).mono ?_;rintro e w2 ⟨q,rfl,hq0,ML,uY,BR⟩;have Aq:=ML (by decide);clear ML)
  go_ret;exact⟨_,rfl,by rw [jV,oI,nJ];decide,bH uY ((aK _ _).alloc (aN _) _),dR (aZ nH BR) _⟩
 go_wp2_with (go_at_call 11;refine(aY g a n cap 4 _ jT (by decide)).mono ?_;rintro e w2 ⟨q,rfl,hq0,ML,uY,BR⟩;have Aq:=ML (by decide);clear ML)
 go_ret;exact⟨_,rfl,by rw [nJ];decide,bH uY ((aK _ _).alloc (aN _) _),dR (aZ nH BR) _⟩
def aF8:Value->Nat
 |.string s=>s.size
 |_=>0
theorem Uu(g:Nat)(a:Option Addr)(n cap:Nat)(w:World)(h:Src w g a n cap):
 Calls Tryz.prog 92 #[.pointer (some ⟨g,0,none⟩)] w fun e w'=>∃ s:ByteArray,e=.returned (.string s)∧s.size=16∧Src w' g a n cap∧w.grownBy w' (some g):=by
 have z2:(ByteArray.mk #[0,0]).size=2:=rfl;have z1:(ByteArray.mk #[0]).size=1:=rfl;go_enter Tryz.func92,Tryz.ntmps92;go_wp2
 go_loopw [3] (fun v wr=>∃ (k:Nat) (s:ByteArray),k<=8∧v=.string s∧Hid (s.size=2*k)∧Src wr g a n cap∧w.grownBy wr (some g))
  (fun v _=>16-aF8 v)
 case atStart=>exact⟨0,⟨#[]⟩,by omega,rfl,rfl,h,World.grownBy.refl _ _⟩
 obtain⟨k,s,hk,rfl,HZ,jT,nH⟩:=hrel;clear h
 by_cases bV:k<8
 ·have KD:(s.size:Int)<16:=by have:=HZ.out;omega
  go_wp2_with fail
  refine(gN g a n cap 2 _ jT (by decide) (by decide)).mono ?_;rintro e w2 ⟨t,rfl,ht,oI,oN⟩;have ht2:t.size=2:=by omega
  have ht1:(1:Int)<=(t.size:Int):=by omega
  go_wp2_with fail
  refine(aY g a n cap 2 _ oI (by decide)).mono ?_;rintro e w3 ⟨q,rfl,hq0,ML,qD,iA⟩;clear ML;have G3:=aZ (aZ nH oN) iA;clear oN iA nH oI jT
  by_cases hq:q=0
  ·subst hq;go_wp2_with fail
   refine(aY g a n cap 4 _ qD (by decide)).mono ?_;rintro e w4 ⟨p,rfl,SS,yK,VX,QY⟩;clear yK;have G4:=aZ G3 QY;clear qD G3 QY
   by_cases hp:p=0
   ·subst hp;go_wp2;go_roundw
    case rel=>exact⟨k+1,_,by omega,rfl,by show ByteArray.size _=_;rw [jV,jV,ByteArray.size_extract,z1,z2,HZ.out];omega,VX,G4⟩
    simp only [aF8];rw [jV,jV,ByteArray.size_extract,z1,z2,HZ.out];omega
   have VQ:(p==0)=false:=by rw [dC];exact hp
   go_wp2;go_roundw
   case rel=>exact⟨k+1,_,by omega,rfl,by show ByteArray.size _=_;rw [jV,z2,HZ.out];omega,VX,G4⟩
   simp only [aF8];rw [jV,z2,HZ.out];omega
  have hq':(q==0)=false:=by rw [dC];exact hq
  have HT:=Nm.aF ht2;clear ht2;go_wp2_with fail
  refine(aY g a n cap 4 _ qD (by decide)).mono ?_;rintro e w4 ⟨p,rfl,SS,yK,VX,QY⟩;clear yK;have G4:=aZ G3 QY;clear qD G3 QY
  by_cases hp:p=0
  ·subst hp;go_wp2;go_roundw
   case rel=>exact⟨k+1,_,by omega,rfl,by show ByteArray.size _=_;rw [jV,jV,ByteArray.size_extract,z1,HT.out,HZ.out];omega,VX,G4⟩
   simp only [aF8];rw [jV,jV,ByteArray.size_extract,z1,HT.out,HZ.out];omega
  have VQ:(p==0)=false:=by rw [dC];exact hp
  go_wp2;go_roundw
  case rel=>exact⟨k+1,_,by omega,rfl,by show ByteArray.size _=_;rw [jV,HT.out,HZ.out];omega,VX,G4⟩
  simp only [aF8];rw [jV,HT.out,HZ.out];omega
 have DJ:k=8:=by omega
 subst DJ;have KD:(16:Int)<=(s.size:Int):=by have:=HZ.out;omega
 go_wp2;go_ret;exact⟨s,rfl,by have:=HZ.out;omega,jT,nH⟩
