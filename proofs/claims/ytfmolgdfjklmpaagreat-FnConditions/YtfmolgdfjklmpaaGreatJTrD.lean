import Derived.Test.YtfmolgdfjklmpaaGreatJTrM
import Derived.Test.YtfmolgdfjklmpaaGreatJTrN
import Derived.Test.YtfmolgdfjklmpaaGreatJTrP
import Derived.Test.YtfmolgdfjklmpaaGreatJTbIS
import Derived.Test.YtfmolgdfjklmpaaGreatJTbII
import Derived.Test.YtfmolgdfjklmpaaGreatJMath
import Derived.Test.YtfmolgdfjklmpaaGreatJCutM
import Derived.Test.YtfmolgdfjklmpaaGreatJZrM
import Derived.Test.YtfmolgdfjklmpaaGreatJCmp2
namespace Go.Proofs.YtfmolgdfjklmpaaGreat
open Go.RowKit
set_option linter.unusedVariables false
def dCmp(fd:ByteArray)(p:ByteArray×ByteArray):Int:=Nm.ordL p.1.data.toList fd.data.toList
def DaS(l:List (ByteArray×ByteArray)):Prop:=l.Pairwise fun a b=>Nm.ordL a.1.data.toList b.1.data.toList<0
theorem ordL_lt_trans{a b c:List UInt8}(h1:Nm.ordL a b<0)(h2:Nm.ordL b c<0):Nm.ordL a c<0:=by
 have h3:=ordL_trans a b c (by omega) (by omega)
 rcases Int.lt_or_eq_of_le h3 with h|h
 ·exact h
 ·exfalso
  have h4:=ordL_anti a c;have h5:=ordL_trans b c a (by omega) (by rw [h4];omega);have h6:=ordL_anti a b;omega
set_option maxHeartbeats 800000 in
theorem data_any(s:GSe)(B nb rb:Nat)(fd da:ByteArray)(r0 r1 r2 r3:Value)(w:World)(h:SeAt w B s)(hB:B<=w.heap.size)(hl:s.da.length<=500000)(hd:DaS s.da)(kn:Blk w nb #[.bool false] 4)(kr:Blk w rb #[r0,r1,r2,r3,.string da] 33)(hs:da.size<=1000000000):
 Calls Tryz.prog 153 #[ptr s.hd,.string fd,.func (.func 154) #[] #[ptr nb,ptr rb]] w fun e w'=>∃ v rv',e=.returned (.string v)∧SeAt w' B {s with rv:=rv',da:=putF (dCmp fd) (fd,da) s.da}∧Blk w' nb #[.bool (!isIn (dCmp fd) s.da)] 4∧Outs (nb::fpS s) w w'∧∀ b∈rv'.ownBlock.toList,b∈fpS s∨w.heap.size<=b:=by
 have hdl:(daRs s.da).length=s.da.length:=by simp [daRs]
 have hcf:∀ (tb i:Nat) (p:Value×Value),(daRs s.da)[i]? =some p->∀ W,Below w.heap.size w W->Blk W tb #[.pointer (some ⟨s.hd,0,none⟩)] 162->Calls Tryz.prog 204 #[.agg #[p.1,p.2],.string fd,.pointer (some ⟨tb,0,none⟩)] W fun e w'=>e=.returned (.int .i64 (cfOf (dCmp fd) s.da i))∧Below W.heap.size W w':=by
  intro tb i p hp W hW kb;simp only [daRs,List.getElem?_map,Option.map_eq_some_iff] at hp;obtain⟨q,hq,rfl⟩:=hp;rw [cfOf_at hq];exact place1S_any tb s.hd s.rv q.1 q.2 fd W kb (blk_below h.head hW)
 have hmono:=mono_of_pair (f:=dCmp fd) hd (fun a b hab hb=>ordL_lt_trans hab hb);have hfnd:=posOf_fnd s.da hmono
 cases hin:isIn (dCmp fd) s.da with
 |true=>
  obtain⟨x,hx,hx0⟩:=isIn_some hin;have hx':(daRs s.da)[posOf (dCmp fd) s.da]? =some (.string x.1,.string x.2):=by simp [daRs,hx]
  refine(valueOfS_in s.hd B cmpSv s.rv (.string fd) _ (daRs s.da) (cfOf (dCmp fd) s.da) (posOf (dCmp fd) s.da) _ w h.head h.rows (by omega) hcf (by rw [hdl];exact hmono) (by rw [hdl];exact hfnd) hx' (by rw [cfOf_at hx];exact hx0)).mono ?_;rintro e w' ⟨rfl,hb⟩;refine⟨x.2,s.rv,rfl,?_,?_,Outs.below hb,fun b hbm=>.inl (by simp only [fpS,List.mem_cons];exact .inr (.inr hbm))⟩
  ·rw [putF,if_pos hin];exact h.keep (fun b hm=>hb.block b (h.lt b hm))
  ·exact blk_below kn hb
 |false=>
  have hout:=valueOfS_out s.hd B cmpSv s.rv fd #[ptr nb,ptr rb] (daRs s.da) (cfOf (dCmp fd) s.da) (posOf (dCmp fd) s.da) w (some nb) (fun ux W w'=>ux=da∧Blk w' nb #[.bool true] 4) h.head h.rows (by omega) hcf (by rw [hdl];exact hmono) (by rw [hdl];exact hfnd) (by rw [hdl];exact isIn_not hin)
   (fun p hp=>by
    simp only [daRs,List.mem_map] at hp;obtain⟨q,_,rfl⟩:=hp
    exact⟨rfl,rfl⟩) hB
   (fun W hW=>lay3_any nb rb false da r0 r1 r2 r3 W (blk_below kn hW) (blk_below kr hW) hs) (fun e=>blk_ne kn h.head (by decide) (Option.some.inj e)) (fun x hx e=>own_nb h.rows kn (by decide) (by rw [hx,<- e]))
  refine hout.mono ?_;rintro e w' ⟨ux,W,w1,rv',rfl,hW,hg1,⟨rfl,kn1⟩,kg',ho',hK,hloc⟩;have hne1:=blk_ne kn h.node (by decide);have hne2:=blk_ne h.node h.head (by decide);have node1:Blk w1 s.blk _ _:=blk_grown (blk_below h.node hW) hg1 (fun e=>hne1 (Option.some.inj e));have node2:=hK.blk node1 hne2 (own_nb h.rows h.node (by decide));have kn2:=hK.blk kn1 (blk_ne kn h.head (by decide)) (own_nb h.rows kn (by decide));refine⟨ux,rv',rfl,?_,kn2,?_,?_⟩
  ·rw [putF,if_neg (by simp [hin])];refine⟨node2,kg',?_⟩;have e1:daRs (insAt (posOf (dCmp fd) s.da) (fd,ux) s.da)=(daRs s.da).take (posOf (dCmp fd) s.da)++[(Value.string fd,Value.string ux)]++(daRs s.da).drop (posOf (dCmp fd) s.da):=by simp [daRs,insAt]
   show w'.ownsRow B _ 2 rv' (daRs (insAt (posOf (dCmp fd) s.da) (fd,ux) s.da)).length (rowCs (daRs (insAt (posOf (dCmp fd) s.da) (fd,ux) s.da)))
   rw [e1]
   have hle:((daRs s.da).take (posOf (dCmp fd) s.da)++[(Value.string fd,Value.string ux)]++(daRs s.da).drop (posOf (dCmp fd) s.da)).length=(daRs s.da).length+1:=by
    have:=hfnd.1;simp
    omega
   rw [hle];exact ho'
  ·refine⟨hK.os.trans (hg1.os.trans hW.os),hK.tape.trans (hg1.tape.trans hW.tape),hK.output.trans (hg1.output.trans hW.output),Nat.le_trans hW.size (Nat.le_trans hg1.size hK.size),fun k hk hn=>?_⟩;simp only [fpS,List.mem_cons,not_or] at hn;obtain⟨n1,n2,n3,n4⟩:=hn;rw [hK.block k (Nat.lt_of_lt_of_le hk (Nat.le_trans hW.size hg1.size)) n3 (fun e=>n4 (by rw [e];simp)),hg1.block k (Nat.lt_of_lt_of_le hk hW.size) (by simpa using n1)];exact hW.block k hk
  ·intro b hb
   rcases hloc with h1|h1
   ·rw [h1] at hb;exact .inl (by simp only [fpS,List.mem_cons];exact .inr (.inr hb))
   ·right
    cases hr:rv'.ownBlock with
    |none=>rw [hr] at hb;simp at hb
    |some q=>
     rw [hr] at hb;simp at hb;subst hb;have:=h1 _ hr;have:=hg1.size;have:=hW.size;omega
theorem flat_ins{α:Type}(f:α->List Nat)(k:Nat)(x:α)(l:List α):((insAt k x l).flatMap f).Perm (f x++l.flatMap f):=by
 rw [insAt,List.append_assoc,List.flatMap_append,List.flatMap_append];have e:l.flatMap f=(l.take k).flatMap f++(l.drop k).flatMap f:=by rw [<- List.flatMap_append,List.take_append_drop]
 rw [e];simp only [List.flatMap_cons,List.flatMap_nil,List.append_nil];rw [<- List.append_assoc,<- List.append_assoc];exact List.Perm.append_right _ List.perm_append_comm
theorem own_list(v:Value):v.ownBlock.toList.Nodup:=by cases v.ownBlock<;>simp
theorem nd_grow{N M:Nat}{A r r' X Y:List Nat}(h:(A++(r++X)).Nodup)(hlt:∀ x∈A++(r++X),x<N)(hY:Y.Nodup)(hY1:∀ y∈Y,N<=y∧y<M)(hr':r'.Nodup)(hr:r'=r∨∀ x∈r',M<=x)(hNM:N<=M):(A++(r'++(Y++X))).Nodup:=by
 rw [List.nodup_append,List.nodup_append] at h;obtain⟨hA,⟨hr0,hX,hrX⟩,hAX⟩:=h;have lA:∀ x∈A,x<N:=fun x hx=>hlt x (by simp [hx])
 have lr:∀ x∈r,x<N:=fun x hx=>hlt x (by simp [hx])
 have lX:∀ x∈X,x<N:=fun x hx=>hlt x (by simp [hx])
 rw [List.nodup_append,List.nodup_append,List.nodup_append];refine⟨hA,⟨hr',⟨hY,hX,fun a ha b hb=>?_⟩,fun a ha b hb=>?_⟩,fun a ha b hb=>?_⟩
 ·have:=(hY1 a ha).1;have:=lX b hb;omega
 ·rcases hr with rfl|hr
  ·rcases List.mem_append.1 hb with hb|hb
   ·have:=(hY1 b hb).1;have:=lr a ha;omega
   ·exact hrX a ha b hb
  ·rcases List.mem_append.1 hb with hb|hb
   ·have:=(hY1 b hb).2;have:=hr a ha;omega
   ·have:=lX b hb;have:=hr a ha;omega
 ·rcases List.mem_append.1 hb with hb|hb
  ·rcases hr with rfl|hr
   ·exact hAX a ha b (List.mem_append.2 (.inl hb))
   ·have:=lA a ha;have:=hr b hb;omega
  ·rcases List.mem_append.1 hb with hb|hb
   ·have:=(hY1 b hb).1;have:=lA a ha;omega
   ·exact hAX a ha b (List.mem_append.2 (.inr hb))
def sCmp(ty:Int)(s:GSe):Int:=Nm.cmpI s.ty ty
def SeS(l:List GSe):Prop:=l.Pairwise fun a b=>a.ty<b.ty
def GotS(ty tt:Int)(at_:Nat)(l:List GSe)(s:GSe)(l':List GSe):Prop:=
 (isIn (sCmp ty) l=true∧l'=l∧l[posOf (sCmp ty) l]? =some s∧s.ty=ty)∨(isIn (sCmp ty) l=false∧l'=insAt (posOf (sCmp ty) l) s l∧s.ty=ty∧s.tt=tt∧s.fi=at_∧s.da=[])
theorem cmpI_neg{a b:Int}:Nm.cmpI a b<0↔a<b:=by
 constructor
 ·intro h
  rcases Int.lt_or_le a b with h1|h1
  ·exact h1
  ·rcases Int.lt_or_eq_of_le h1 with h2|h2
   ·rw [Nm.cmpI_gt h2] at h;omega
   ·rw [Nm.cmpI_eq h2.symm] at h;omega
 ·intro h;rw [Nm.cmpI_lt h];decide
theorem cmpI_zero{a b:Int}(h:Nm.cmpI a b=0):a=b:=by
 rcases Int.lt_trichotomy a b with h1|h1|h1
 ·rw [Nm.cmpI_lt h1] at h;omega
 ·exact h1
 ·rw [Nm.cmpI_gt h1] at h;omega
set_option maxHeartbeats 800000 in
theorem set_any(o:GOw)(B rb ab at_:Nat)(ty tt:Int)(r0 r1 r2 r4:Value)(w:World)(h:OwAt w B o)(hnd:(fpO o).Nodup)(hB:B<=w.heap.size)(hl:o.ss.length<=500000)(hd:SeS o.ss)(kr:Blk w rb #[r0,r1,r2,.int .i64 tt,r4] 33)(ka:Blk w ab #[.int .i64 (at_:Int)] 3):
 Calls Tryz.prog 149 #[ptr o.hd,.int .i64 ty,.func (.func 150) #[] #[ptr rb,ptr ab]] w fun e w'=>∃ s rv' ss',e=.returned (ptr s.blk)∧GotS ty tt at_ o.ss s ss'∧OwAt w' B {o with rv:=rv',ss:=ss'}∧(fpO {o with rv:=rv',ss:=ss'}).Nodup∧Outs (fpO o) w w'∧∀ b∈fpO {o with rv:=rv',ss:=ss'},b∈fpO o∨w.heap.size<=b:=by
 have hdl:(seRs o.ss).length=o.ss.length:=by simp [seRs]
 have hcf:∀ (tb i:Nat) (p:Value×Value),(seRs o.ss)[i]? =some p->∀ W,Below w.heap.size w W->Blk W tb #[.pointer (some ⟨o.hd,0,none⟩)] 125->Calls Tryz.prog 184 #[.agg #[p.1,p.2],.int .i64 ty,.pointer (some ⟨tb,0,none⟩)] W fun e w'=>e=.returned (.int .i64 (cfOf (sCmp ty) o.ss i))∧Below W.heap.size W w':=by
  intro tb i p hp W hW kb;simp only [seRs,List.getElem?_map,Option.map_eq_some_iff] at hp;obtain⟨q,hq,rfl⟩:=hp;rw [cfOf_at hq];exact place1I_any tb o.hd o.rv (ptr q.blk) q.ty ty W kb (blk_below h.head hW)
 have hmono:=mono_of_pair (f:=sCmp ty) hd (fun a b hab hb=>by
  rw [sCmp,cmpI_neg] at hb ⊢
  omega)
 have hfnd:=posOf_fnd o.ss hmono
 cases hin:isIn (sCmp ty) o.ss with
 |true=>
  obtain⟨x,hx,hx0⟩:=isIn_some hin;have hx':(seRs o.ss)[posOf (sCmp ty) o.ss]? =some (.int .i64 x.ty,ptr x.blk):=by simp [seRs,hx]
  refine(valueOfI_in o.hd B cmpIv o.rv (.int .i64 ty) _ (seRs o.ss) (cfOf (sCmp ty) o.ss) (posOf (sCmp ty) o.ss) _ w h.head h.rows (by omega) hcf (by rw [hdl];exact hmono) (by rw [hdl];exact hfnd) hx' (by rw [cfOf_at hx];exact hx0)).mono ?_;rintro e w' ⟨rfl,hb⟩
  exact⟨x,o.rv,o.ss,rfl,.inl ⟨hin,rfl,hx,cmpI_zero hx0⟩,h.keep (fun b hm=>hb.block b (h.lt b hm)),hnd,Outs.below hb,fun b hbm=>.inl hbm⟩
 |false=>
  have hout:=valueOfI_out o.hd B cmpIv o.rv ty #[ptr rb,ptr ab] (seRs o.ss) (cfOf (sCmp ty) o.ss) (posOf (sCmp ty) o.ss) w none (NewS tt at_) h.head h.rows (by omega) hcf (by rw [hdl];exact hmono) (by rw [hdl];exact hfnd) (by rw [hdl];exact isIn_not hin)
   (fun p hp=>by
    simp only [seRs,List.mem_map] at hp;obtain⟨q,_,rfl⟩:=hp
    exact⟨rfl,rfl⟩) hB
   (fun W hW=>lay2_any rb ab at_ tt r0 r1 r2 r4 W (blk_below kr hW) (blk_below ka hW)) (by simp) (by simp)
  refine hout.mono ?_;rintro e w' ⟨ux,W,w1,rv',rfl,hW,hg1,⟨hd1,sb,rfl,hh1,hs1,hne,kh1,ks1⟩,kg',ho',hK,hloc⟩;have hW1:Below w.heap.size w w1:=⟨hg1.os.trans hW.os,hg1.tape.trans hW.tape,hg1.output.trans hW.output,Nat.le_trans hW.size hg1.size,fun k hk=>(hg1.block k (Nat.lt_of_lt_of_le hk hW.size) (by simp)).trans (hW.block k hk)⟩;have hsW:=hW.size;have hsb:=blk_lt ks1;have hhb:=blk_lt kh1;have holt:∀ x,o.rv.ownBlock=some x->x<w.heap.size:=fun x hx=>(h.rows.lt x hx).2
  have hohd:=blk_lt h.head
  -- the old parts
  have keep:∀ b,b<w.heap.size->b≠o.hd->o.rv.ownBlock≠some b->w'.heap[b]? =w.heap[b]? :=fun b hb h1 h2=>(hK.block b (Nat.lt_of_lt_of_le hb hW1.size) h1 h2).trans (hW1.block b hb)
  have hnd':=hnd;simp only [fpO,List.nodup_cons,List.nodup_append,List.mem_cons,List.mem_append,not_or] at hnd';obtain⟨⟨a1,a2,a3⟩,⟨a4,a5⟩,a6,a7,a8⟩:=hnd';refine⟨⟨sb,hd1,.slice none 0 0,ty,tt,at_,[]⟩,rv',insAt (posOf (sCmp ty) o.ss) ⟨sb,hd1,.slice none 0 0,ty,tt,at_,[]⟩ o.ss,rfl,.inr ⟨hin,rfl,rfl,rfl,rfl,rfl⟩,⟨?_,kg',?_,?_⟩,?_,?_,?_⟩
  ·exact blk_keep h.node (keep o.blk (blk_lt h.node) a1 (fun e=>a2 (by rw [e];simp)))
  ·have e1:seRs (insAt (posOf (sCmp ty) o.ss) ⟨sb,hd1,.slice none 0 0,ty,tt,at_,[]⟩ o.ss)=(seRs o.ss).take (posOf (sCmp ty) o.ss)++[(Value.int .i64 ty,Value.pointer (some ⟨sb,0,none⟩))]++(seRs o.ss).drop (posOf (sCmp ty) o.ss):=by simp [seRs,insAt,ptr]
   show w'.ownsRow B _ 2 rv' (seRs (insAt (posOf (sCmp ty) o.ss) ⟨sb,hd1,.slice none 0 0,ty,tt,at_,[]⟩ o.ss)).length (rowCs (seRs (insAt (posOf (sCmp ty) o.ss) ⟨sb,hd1,.slice none 0 0,ty,tt,at_,[]⟩ o.ss)))
   rw [e1]
   have hle:((seRs o.ss).take (posOf (sCmp ty) o.ss)++[(Value.int .i64 ty,Value.pointer (some ⟨sb,0,none⟩))]++(seRs o.ss).drop (posOf (sCmp ty) o.ss)).length=(seRs o.ss).length+1:=by
    have:=hfnd.1;simp
    omega
   rw [hle];exact ho'
  ·intro s hs
   have hcase:s∈o.ss∨s=⟨sb,hd1,.slice none 0 0,ty,tt,at_,[]⟩:=by
    simp only [insAt,List.mem_append,List.mem_singleton] at hs
    rcases hs with(hs|hs)|hs
    ·exact .inl (List.mem_of_mem_take hs)
    ·exact .inr hs
    ·exact .inl (List.mem_of_mem_drop hs)
   rcases hcase with hs|rfl
   ·refine(h.sets s hs).keep (fun b hb=>keep b ((h.sets s hs).lt b hb) ?_ ?_)
    ·intro e;exact a5 (List.mem_flatMap.2 ⟨s,hs,by rw [<- e];exact hb⟩)
    ·intro e;exact a8 b (by rw [e];simp) b (List.mem_flatMap.2 ⟨s,hs,hb⟩) rfl
   ·exact⟨hK.blk ks1 (show sb≠o.hd by omega) (fun e=>by have:=holt sb e;omega),hK.blk kh1 (show hd1≠o.hd by omega) (fun e=>by have:=holt hd1 e;omega),World.ownsRow_nil _ _ _ _⟩
  ·have hp:(fpO {o with rv:=rv',ss:=insAt (posOf (sCmp ty) o.ss) ⟨sb,hd1,.slice none 0 0,ty,tt,at_,[]⟩ o.ss}).Perm ([o.blk,o.hd]++(rv'.ownBlock.toList++([sb,hd1]++o.ss.flatMap fpS))):=by
    show(o.blk::o.hd::(rv'.ownBlock.toList++_)).Perm _
    refine List.Perm.cons _ (List.Perm.cons _ (List.Perm.append_left _ ?_));exact flat_ins fpS _ _ _
   rw [hp.nodup_iff]
   refine nd_grow (N:=w.heap.size) (M:=w1.heap.size) (r:=o.rv.ownBlock.toList) hnd (h.lt) (by simp;omega) (by
    intro y hy;simp at hy
    rcases hy with rfl|rfl<;>omega) (own_list _) ?_ hW1.size
   rcases hloc with h1|h1
   ·left;rw [h1]
   ·right;intro x hx
    cases hr:rv'.ownBlock with
    |none=>rw [hr] at hx;simp at hx
    |some q=>
     rw [hr] at hx;simp at hx;subst hx;exact h1 _ hr
  ·refine⟨hK.os.trans hW1.os,hK.tape.trans hW1.tape,hK.output.trans hW1.output,Nat.le_trans hW1.size hK.size,fun k hk hn=>keep k hk (fun e=>hn (by rw [e];simp [fpO])) (fun e=>hn (by simp only [fpO,List.mem_cons,List.mem_append];exact .inr (.inr (.inl (by rw [e];simp)))))⟩
  ·intro b hb
   have hp:(fpO {o with rv:=rv',ss:=insAt (posOf (sCmp ty) o.ss) ⟨sb,hd1,.slice none 0 0,ty,tt,at_,[]⟩ o.ss}).Perm ([o.blk,o.hd]++(rv'.ownBlock.toList++([sb,hd1]++o.ss.flatMap fpS))):=by
    show(o.blk::o.hd::(rv'.ownBlock.toList++_)).Perm _
    refine List.Perm.cons _ (List.Perm.cons _ (List.Perm.append_left _ ?_));exact flat_ins fpS _ _ _
   rw [hp.mem_iff] at hb;simp only [List.mem_append,List.mem_cons,List.not_mem_nil,or_false] at hb
   rcases hb with(rfl|rfl)|hb|(rfl|rfl)|hb
   ·left;simp [fpO]
   ·left;simp [fpO]
   ·rcases hloc with h1|h1
    ·left;rw [h1] at hb;simp only [fpO,List.mem_cons,List.mem_append];exact .inr (.inr (.inl hb))
    ·right
     cases hr:rv'.ownBlock with
     |none=>rw [hr] at hb;simp at hb
     |some q=>
      rw [hr] at hb;simp at hb;subst hb;have:=h1 _ hr;have:=hW1.size;omega
   ·right;omega
   ·right;omega
   ·left;simp only [fpO,List.mem_cons,List.mem_append];exact .inr (.inr (.inr hb))
def rowBlk:Value->Option Nat
 |.slice (some a) _ _=>some a.block
 |_=>none
structure LabOK (w:World) (fp:List Nat) (v:Value) (lab:List ByteArray):Prop where
 row:Nm.SRow w v lab
 far:lab≠[]->∀ b,rowBlk v=some b->b∉fp∧b<w.heap.size
 fit:(∀ x∈lab,x.size<=1000000000)∧lab.length<=1000000000
def LabAt(w:World)(fp:List Nat)(os:List GOw):Prop:=∀ o∈os,LabOK w fp o.lv o.lab
theorem srow_keep{w w':World}{v:Value}{lab:List ByteArray}(h:Nm.SRow w v lab)(he:lab≠[]->∀ b,rowBlk v=some b->w'.heap[b]? =w.heap[b]?):Nm.SRow w' v lab:=by
 obtain⟨a,cap,rfl,h1,h2,h3,h4⟩:=h;refine⟨a,cap,rfl,h1,h2,h3,fun hne=>?_⟩;obtain⟨b,off,rfl,hc⟩:=h4 hne;refine⟨b,off,rfl,fun k x hx=>?_⟩;rw [World.cell?_of_block (w:=w) (he hne b rfl)];exact hc k x hx
theorem LabOK.outs{w w':World}{fp fp':List Nat}{v:Value}{lab:List ByteArray}(h:LabOK w fp v lab)(ho:Outs fp w w')(hf:∀ b∈fp',b∈fp∨w.heap.size<=b):LabOK w' fp' v lab:=by
 refine⟨srow_keep h.row (fun hne b hb=>?_),fun hne b hb=>?_,h.fit⟩
 ·obtain⟨h1,h2⟩:=h.far hne b hb;exact ho.block b h2 h1
 ·obtain⟨h1,h2⟩:=h.far hne b hb;refine⟨fun hm=>?_,Nat.lt_of_lt_of_le h2 ho.size⟩
  rcases hf b hm with h3|h3
  ·exact h1 h3
  ·omega
def oCmp(lab:List ByteArray)(o:GOw):Int:=Nm.cmpLs o.lab lab
def OwS(l:List GOw):Prop:=l.Pairwise fun a b=>Nm.cmpLs a.lab b.lab<0
theorem cmpLs_lt_trans{a b c:List ByteArray}(h1:Nm.cmpLs a b<0)(h2:Nm.cmpLs b c<0):Nm.cmpLs a c<0:=by
 have h3:=cmpLs_trans (a:=a) (b:=b) (c:=c) (by omega) (by omega)
 rcases Int.lt_or_eq_of_le h3 with h|h
 ·exact h
 ·exfalso
  have h4:=cmpLs_anti a c;have h5:=cmpLs_trans (a:=b) (b:=c) (c:=a) (by omega) (by rw [h4];omega);have h6:=cmpLs_anti a b;omega
def GotO(own:ByteArray)(lv:Value)(lab:List ByteArray)(l:List GOw)(o:GOw)(l':List GOw):Prop:=
 (isIn (oCmp lab) l=true∧l'=l∧l[posOf (oCmp lab) l]? =some o∧Nm.cmpLs o.lab lab=0)∨(isIn (oCmp lab) l=false∧l'=insAt (posOf (oCmp lab) l) o l∧o.lab=lab∧o.lv=lv∧o.nm=own∧o.ss=[])
set_option maxHeartbeats 800000 in
theorem owner_any(th:Nat)(rv:Value)(os:List GOw)(B rb lb:Nat)(own:ByteArray)(la:Option Addr)(ln lc:Nat)(lab:List ByteArray)(r1 r2 r3 r4:Value)(w:World)(h:TrAt w B th rv os)(hB:B<=w.heap.size)(hl:os.length<=500000)(hd:OwS os)(hLab:LabAt w (fpT th rv os) os)(hlab:LabOK w (fpT th rv os) (.slice la ln lc) lab)(kr:Blk w rb #[.string own,r1,r2,r3,r4] 33)(kl:Blk w lb #[.slice la ln lc] 85)(hs:own.size<=1000000000):
 Calls Tryz.prog 145 #[ptr th,.slice la ln lc,.func (.func 146) #[] #[ptr rb,ptr lb]] w fun e w'=>∃ o rv' os',e=.returned (ptr o.blk)∧GotO own (.slice la ln lc) lab os o os'∧TrAt w' B th rv' os'∧Outs (fpT th rv os) w w'∧∀ b∈fpT th rv' os',b∈fpT th rv os∨w.heap.size<=b:=by
 have hdl:(owRs os).length=os.length:=by simp [owRs]
 have hcf:∀ (tb i:Nat) (p:Value×Value),(owRs os)[i]? =some p->∀ W,Below w.heap.size w W->Blk W tb #[.pointer (some ⟨th,0,none⟩)] 86->Calls Tryz.prog 188 #[.agg #[p.1,p.2],.slice la ln lc,.pointer (some ⟨tb,0,none⟩)] W fun e w'=>e=.returned (.int .i64 (cfOf (oCmp lab) os i))∧Below W.heap.size W w':=by
  intro tb i p hp W hW kb;simp only [owRs,List.getElem?_map,Option.map_eq_some_iff] at hp;obtain⟨q,hq,rfl⟩:=hp;rw [cfOf_at hq];have hq2:=hLab q (List.mem_of_getElem? hq);exact place1L_any tb th rv (ptr q.blk) q.lv (.slice la ln lc) q.lab lab W kb (blk_below h.head hW) (hq2.row.below hW) (hlab.row.below hW) hq2.fit.1 hq2.fit.2 hlab.fit.2
 have hmono:=mono_of_pair (f:=oCmp lab) hd (fun a b hab hb=>by
  exact cmpLs_lt_trans hab hb)
 have hfnd:=posOf_fnd os hmono
 cases hin:isIn (oCmp lab) os with
 |true=>
  obtain⟨x,hx,hx0⟩:=isIn_some hin;have hx':(owRs os)[posOf (oCmp lab) os]? =some (x.lv,ptr x.blk):=by simp [owRs,hx]
  refine(valueOfL_in th B cmpLv rv (.slice la ln lc) _ (owRs os) (cfOf (oCmp lab) os) (posOf (oCmp lab) os) _ w h.head h.rows (by omega) hcf (by rw [hdl];exact hmono) (by rw [hdl];exact hfnd) hx' (by rw [cfOf_at hx];exact hx0)).mono ?_;rintro e w' ⟨rfl,hb⟩
  exact⟨x,rv,os,rfl,.inl ⟨hin,rfl,hx,hx0⟩,h.keep (fun b hm=>hb.block b (h.lt b hm)),Outs.below hb,fun b hbm=>.inl hbm⟩
 |false=>
  have hout:=valueOfL_out th B cmpLv rv la ln lc #[ptr rb,ptr lb] (owRs os) (cfOf (oCmp lab) os) (posOf (oCmp lab) os) w none (NewO own (.slice la ln lc)) h.head h.rows (by omega) hcf (by rw [hdl];exact hmono) (by rw [hdl];exact hfnd) (by rw [hdl];exact isIn_not hin)
   (fun p hp=>by
    simp only [owRs,List.mem_map] at hp;obtain⟨q,hq,rfl⟩:=hp;obtain⟨qa,qc,e,_⟩:=(hLab q hq).row;refine⟨?_,rfl⟩;show q.lv.oneCell'=true
    rw [e]
    rfl) hB
   (fun W hW=>lay1_any rb lb own r1 r2 r3 r4 la ln lc W (blk_below kr hW) (blk_below kl hW) hs) (by simp) (by simp)
  refine hout.mono ?_;rintro e w' ⟨ux,W,w1,rv',rfl,hW,hg1,⟨hd1,sb,rfl,hh1,hs1,hne,kh1,ks1⟩,kg',ho',hK,hloc⟩;have hW1:Below w.heap.size w w1:=⟨hg1.os.trans hW.os,hg1.tape.trans hW.tape,hg1.output.trans hW.output,Nat.le_trans hW.size hg1.size,fun k hk=>(hg1.block k (Nat.lt_of_lt_of_le hk hW.size) (by simp)).trans (hW.block k hk)⟩;have hsW:=hW.size;have hsb:=blk_lt ks1;have hhb:=blk_lt kh1;have holt:∀ x,rv.ownBlock=some x->x<w.heap.size:=fun x hx=>(h.rows.lt x hx).2
  have hohd:=blk_lt h.head;have keep:∀ b,b<w.heap.size->b≠th->rv.ownBlock≠some b->w'.heap[b]? =w.heap[b]? :=fun b hb h1 h2=>(hK.block b (Nat.lt_of_lt_of_le hb hW1.size) h1 h2).trans (hW1.block b hb)
  have hnd':=h.nodup;simp only [fpT,List.nodup_cons,List.nodup_append,List.mem_append,not_or] at hnd';obtain⟨⟨a2,a3⟩,a6,a7,a8⟩:=hnd';obtain⟨on,hon⟩:∃ on:GOw,on=⟨sb,hd1,.slice none 0 0,.slice la ln lc,lab,own,[]⟩:=⟨_,rfl⟩
  have hp:(fpT th rv' (insAt (posOf (oCmp lab) os) on os)).Perm ([th]++(rv'.ownBlock.toList++([sb,hd1]++os.flatMap fpO))):=by
   show(th::(rv'.ownBlock.toList++_)).Perm _
   refine List.Perm.cons _ (List.Perm.append_left _ ?_);have:=flat_ins fpO (posOf (oCmp lab) os) on os;rw [show fpO on=[sb,hd1] by rw [hon];rfl] at this;exact this
  refine⟨on,rv',insAt (posOf (oCmp lab) os) on os,by rw [hon];rfl,.inr ⟨hin,rfl,by rw [hon],by rw [hon],by rw [hon],by rw [hon]⟩,⟨kg',?_,?_,?_⟩,?_,?_⟩
  ·have e1:owRs (insAt (posOf (oCmp lab) os) on os)=(owRs os).take (posOf (oCmp lab) os)++[(Value.slice la ln lc,Value.pointer (some ⟨sb,0,none⟩))]++(owRs os).drop (posOf (oCmp lab) os):=by rw [hon];simp [owRs,insAt,ptr]
   rw [e1]
   have hle:((owRs os).take (posOf (oCmp lab) os)++[(Value.slice la ln lc,Value.pointer (some ⟨sb,0,none⟩))]++(owRs os).drop (posOf (oCmp lab) os)).length=(owRs os).length+1:=by
    have:=hfnd.1;simp
    omega
   rw [hle];exact ho'
  ·intro o ho
   have hcase:o∈os∨o=on:=by
    simp only [insAt,List.mem_append,List.mem_singleton] at ho
    rcases ho with(ho|ho)|ho
    ·exact .inl (List.mem_of_mem_take ho)
    ·exact .inr ho
    ·exact .inl (List.mem_of_mem_drop ho)
   rcases hcase with ho|rfl
   ·refine(h.owners o ho).keep (fun b hb=>keep b ((h.owners o ho).lt b hb) ?_ ?_)
    ·intro e;exact a3 (List.mem_flatMap.2 ⟨o,ho,by rw [<- e];exact hb⟩)
    ·intro e;exact a8 b (by rw [e];simp) b (List.mem_flatMap.2 ⟨o,ho,hb⟩) rfl
   ·rw [hon];exact⟨hK.blk ks1 (show sb≠th by omega) (fun e=>by have:=holt sb e;omega),hK.blk kh1 (show hd1≠th by omega) (fun e=>by have:=holt hd1 e;omega),World.ownsRow_nil _ _ _ _,by simp⟩
  ·rw [hp.nodup_iff]
   refine nd_grow (N:=w.heap.size) (M:=w1.heap.size) (r:=rv.ownBlock.toList) h.nodup (h.lt) (by simp;omega) (by
    intro y hy;simp at hy
    rcases hy with rfl|rfl<;>omega) (own_list _) ?_ hW1.size
   rcases hloc with h1|h1
   ·left;rw [h1]
   ·right;intro x hx
    cases hr:rv'.ownBlock with
    |none=>rw [hr] at hx;simp at hx
    |some q=>
     rw [hr] at hx;simp at hx;subst hx;exact h1 _ hr
  ·refine⟨hK.os.trans hW1.os,hK.tape.trans hW1.tape,hK.output.trans hW1.output,Nat.le_trans hW1.size hK.size,fun k hk hn=>keep k hk (fun e=>hn (by rw [e];simp [fpT])) (fun e=>hn (by simp only [fpT,List.mem_cons,List.mem_append];exact .inr (.inl (by rw [e];simp))))⟩
  ·intro b hb;rw [hp.mem_iff] at hb;simp only [List.mem_append,List.mem_cons,List.not_mem_nil,or_false] at hb
   rcases hb with rfl|hb|(rfl|rfl)|hb
   ·left;simp [fpT]
   ·rcases hloc with h1|h1
    ·left;rw [h1] at hb;simp only [fpT,List.mem_cons,List.mem_append];exact .inr (.inl hb)
    ·right
     cases hr:rv'.ownBlock with
     |none=>rw [hr] at hb;simp at hb
     |some q=>
      rw [hr] at hb;simp at hb;subst hb;have:=h1 _ hr;have:=hW1.size;omega
   ·right;omega
   ·right;omega
   ·left;simp only [fpT,List.mem_cons,List.mem_append];exact .inr (.inr hb)
theorem set_split{α:Type}{l:List α}{j:Nat}{x:α}(h:l[j]? =some x)(y:α):l=l.take j++[x]++l.drop (j+1)∧l.set j y=l.take j++[y]++l.drop (j+1):=by
 obtain⟨hj,e⟩:=List.getElem?_eq_some_iff.1 h;constructor
 ·rw [List.append_assoc,List.singleton_append,<- e,List.getElem_cons_drop,List.take_append_drop]
 ·rw [List.set_eq_take_append_cons_drop,if_pos hj,List.append_assoc];rfl
theorem nd_seg{N:Nat}{X A A' Y:List Nat}(h:(X++(A++Y)).Nodup)(hlt:∀ x∈X++(A++Y),x<N)(hA:A'.Nodup)(hm:∀ a∈A',a∈A∨N<=a):(X++(A'++Y)).Nodup:=by
 rw [List.nodup_append,List.nodup_append] at h;obtain⟨hX,⟨hA0,hY,hAY⟩,hXA⟩:=h;rw [List.nodup_append,List.nodup_append];refine⟨hX,⟨hA,hY,fun a ha b hb=>?_⟩,fun a ha b hb=>?_⟩
 ·rcases hm a ha with h1|h1
  ·exact hAY a h1 b hb
  ·have:=hlt b (by simp [hb]);omega
 ·rcases List.mem_append.1 hb with hb|hb
  ·rcases hm b hb with h1|h1
   ·exact hXA a ha b (List.mem_append.2 (.inl h1))
   ·have:=hlt a (by simp [ha]);omega
  ·exact hXA a ha b (List.mem_append.2 (.inr hb))
theorem ow_set{w w':World}{B:Nat}{o:GOw}{j:Nat}{s s':GSe}{F:List Nat}(h:OwAt w B o)(hnd:(fpO o).Nodup)(hj:o.ss[j]? =some s)(hs:SeAt w' B s')(hb:s'.blk=s.blk)(ht:s'.ty=s.ty)(hn:(fpS s').Nodup)
 (hm:∀ b∈fpS s',b∈fpS s∨w.heap.size<=b) (hF:Outs F w w') (hFo:∀ b∈F,b∈fpO o->b∈fpS s):
 OwAt w' B {o with ss:=o.ss.set j s'}∧(fpO {o with ss:=o.ss.set j s'}).Nodup∧∀ b∈fpO {o with ss:=o.ss.set j s'},b∈fpO o∨w.heap.size<=b:=by
 obtain⟨e1,e2⟩:=set_split hj s'
 have f1:fpO o=(o.blk::o.hd::(o.rv.ownBlock.toList++(o.ss.take j).flatMap fpS))++(fpS s++(o.ss.drop (j+1)).flatMap fpS):=by
  conv=>lhs;rw [fpO,e1]
  simp
 have f2:fpO {o with ss:=o.ss.set j s'}=(o.blk::o.hd::(o.rv.ownBlock.toList++(o.ss.take j).flatMap fpS))++(fpS s'++(o.ss.drop (j+1)).flatMap fpS):=by
  show o.blk::o.hd::(o.rv.ownBlock.toList++(o.ss.set j s').flatMap fpS)=_
  rw [e2];simp
 have hnd2:=hnd;rw [f1] at hnd2;have hlt:∀ x∈(o.blk::o.hd::(o.rv.ownBlock.toList++(o.ss.take j).flatMap fpS))++(fpS s++(o.ss.drop (j+1)).flatMap fpS),x<w.heap.size:=fun x hx=>h.lt x (by rw [f1];exact hx)
 have hsep:∀ b,b∈(o.blk::o.hd::(o.rv.ownBlock.toList++(o.ss.take j).flatMap fpS))∨b∈(o.ss.drop (j+1)).flatMap fpS->b∉fpS s:=by
  intro b hb hbs;rw [List.nodup_append,List.nodup_append] at hnd2;obtain⟨_,⟨_,_,h3⟩,h4⟩:=hnd2
  rcases hb with hb|hb
  ·exact h4 b hb b (List.mem_append.2 (.inl hbs)) rfl
  ·exact h3 b hbs b hb rfl
 have keep:∀ b∈fpO o,b∉fpS s->w'.heap[b]? =w.heap[b]? :=fun b hbo hbs=>hF.block b (h.lt b hbo) (fun hbF=>hbs (hFo b hbF hbo))
 refine⟨⟨?_,?_,?_,?_⟩,?_,?_⟩
 ·exact blk_keep h.node (keep _ (by simp [fpO]) (hsep _ (.inl (by simp))))
 ·exact blk_keep h.head (keep _ (by simp [fpO]) (hsep _ (.inl (by simp))))
 ·have e3:seRs (o.ss.set j s')=seRs o.ss:=by
   rw [e2]
   conv=>rhs;rw [e1]
   simp [seRs,hb,ht]
  show w'.ownsRow B _ 2 o.rv (seRs (o.ss.set j s')).length (rowCs (seRs (o.ss.set j s')))
  rw [e3];refine own_keep h.rows (fun b hbm=>keep b (by simp only [fpO,List.mem_cons,List.mem_append];exact .inr (.inr (.inl hbm))) (hsep b (.inl (by simp only [List.mem_cons,List.mem_append];exact .inr (.inr (.inl hbm))))))
 ·intro t htm;have htm2:t∈o.ss.set j s':=htm;rw [e2] at htm2;simp only [List.mem_append,List.mem_singleton] at htm2
  have old:∀ t∈o.ss,(t∈o.ss.take j∨t∈o.ss.drop (j+1))->SeAt w' B t:=by
   intro t hto hts;refine(h.sets t hto).keep (fun b hbm=>keep b (by simp only [fpO,List.mem_cons,List.mem_append,List.mem_flatMap];exact .inr (.inr (.inr ⟨t,hto,hbm⟩))) (hsep b ?_))
   rcases hts with hts|hts
   ·left;simp only [List.mem_cons,List.mem_append,List.mem_flatMap];exact .inr (.inr (.inr ⟨t,hts,hbm⟩))
   ·right;exact List.mem_flatMap.2 ⟨t,hts,hbm⟩
  rcases htm2 with(hts|rfl)|hts
  ·exact old t (List.mem_of_mem_take hts) (.inl hts)
  ·exact hs
  ·exact old t (List.mem_of_mem_drop hts) (.inr hts)
 ·rw [f2];exact nd_seg hnd2 hlt hn hm
 ·intro b hbm;rw [f2] at hbm;rw [f1]
  rcases List.mem_append.1 hbm with hbm|hbm
  ·exact .inl (List.mem_append.2 (.inl hbm))
  ·rcases List.mem_append.1 hbm with hbm|hbm
   ·rcases hm b hbm with h1|h1
    ·exact .inl (List.mem_append.2 (.inr (List.mem_append.2 (.inl h1))))
    ·exact .inr h1
   ·exact .inl (List.mem_append.2 (.inr (List.mem_append.2 (.inr hbm))))
theorem tr_owner{w w':World}{B th:Nat}{rv:Value}{os:List GOw}{p:Nat}{o o':GOw}{F:List Nat}(h:TrAt w B th rv os)(hp:os[p]? =some o)(ho:OwAt w' B o')(hb:o'.blk=o.blk)(hl:o'.lv=o.lv)(hn:(fpO o').Nodup)
 (hm:∀ b∈fpO o',b∈fpO o∨w.heap.size<=b) (hF:Outs F w w') (hFo:∀ b∈F,b∈fpT th rv os->b∈fpO o):
 TrAt w' B th rv (os.set p o')∧∀ b∈fpT th rv (os.set p o'),b∈fpT th rv os∨w.heap.size<=b:=by
 obtain⟨e1,e2⟩:=set_split hp o'
 have f1:fpT th rv os=(th::(rv.ownBlock.toList++(os.take p).flatMap fpO))++(fpO o++(os.drop (p+1)).flatMap fpO):=by
  conv=>lhs;rw [fpT,e1]
  simp
 have f2:fpT th rv (os.set p o')=(th::(rv.ownBlock.toList++(os.take p).flatMap fpO))++(fpO o'++(os.drop (p+1)).flatMap fpO):=by
  rw [fpT,e2];simp
 have hnd2:=h.nodup;rw [f1] at hnd2;have hlt:∀ x∈(th::(rv.ownBlock.toList++(os.take p).flatMap fpO))++(fpO o++(os.drop (p+1)).flatMap fpO),x<w.heap.size:=fun x hx=>h.lt x (by rw [f1];exact hx)
 have hsep:∀ b,b∈(th::(rv.ownBlock.toList++(os.take p).flatMap fpO))∨b∈(os.drop (p+1)).flatMap fpO->b∉fpO o:=by
  intro b hb hbs;rw [List.nodup_append,List.nodup_append] at hnd2;obtain⟨_,⟨_,_,h3⟩,h4⟩:=hnd2
  rcases hb with hb|hb
  ·exact h4 b hb b (List.mem_append.2 (.inl hbs)) rfl
  ·exact h3 b hbs b hb rfl
 have keep:∀ b∈fpT th rv os,b∉fpO o->w'.heap[b]? =w.heap[b]? :=fun b hbo hbs=>hF.block b (h.lt b hbo) (fun hbF=>hbs (hFo b hbF hbo))
 refine⟨⟨?_,?_,?_,?_⟩,?_⟩
 ·exact blk_keep h.head (keep _ (by simp [fpT]) (hsep _ (.inl (by simp))))
 ·have e3:owRs (os.set p o')=owRs os:=by
   rw [e2]
   conv=>rhs;rw [e1]
   simp [owRs,hb,hl]
  rw [e3];refine own_keep h.rows (fun b hbm=>keep b (by simp only [fpT,List.mem_cons,List.mem_append];exact .inr (.inl hbm)) (hsep b (.inl (by simp only [List.mem_cons,List.mem_append];exact .inr (.inl hbm)))))
 ·intro t htm;rw [e2] at htm;simp only [List.mem_append,List.mem_singleton] at htm
  have old:∀ t∈os,(t∈os.take p∨t∈os.drop (p+1))->OwAt w' B t:=by
   intro t hto hts;refine(h.owners t hto).keep (fun b hbm=>keep b (by simp only [fpT,List.mem_cons,List.mem_append,List.mem_flatMap];exact .inr (.inr ⟨t,hto,hbm⟩)) (hsep b ?_))
   rcases hts with hts|hts
   ·left;simp only [List.mem_cons,List.mem_append,List.mem_flatMap];exact .inr (.inr ⟨t,hts,hbm⟩)
   ·right;exact List.mem_flatMap.2 ⟨t,hts,hbm⟩
  rcases htm with(hts|rfl)|hts
  ·exact old t (List.mem_of_mem_take hts) (.inl hts)
  ·exact ho
  ·exact old t (List.mem_of_mem_drop hts) (.inr hts)
 ·rw [f2];exact nd_seg hnd2 hlt hn hm
 ·intro b hbm;rw [f2] at hbm;rw [f1]
  rcases List.mem_append.1 hbm with hbm|hbm
  ·exact .inl (List.mem_append.2 (.inl hbm))
  ·rcases List.mem_append.1 hbm with hbm|hbm
   ·rcases hm b hbm with h1|h1
    ·exact .inl (List.mem_append.2 (.inr (List.mem_append.2 (.inl h1))))
    ·exact .inr h1
   ·exact .inl (List.mem_append.2 (.inr (List.mem_append.2 (.inr hbm))))
end Go.Proofs.YtfmolgdfjklmpaaGreat
namespace Go.Proofs.YtfmolgdfjklmpaaGreat
open Go.RowKit
theorem span_cellsN{sp:List (Nat×Nat)}{k:Nat}{x:Nat×Nat}(h:sp[k]? =some x):(spanCells sp)[k*2]? =some (.int .i64 (x.1:Int))∧(spanCells sp)[k*2+1]? =some (.int .i64 (x.2:Int)):=by
 induction sp generalizing k with
 |nil=>simp at h
 |cons y sp ih=>
  cases k with
  |zero=>simp at h;subst h;simp [spanCells]
  |succ k=>
   simp at h;have:=ih h;have e:spanCells (y::sp)=[.int .i64 (y.1:Int),.int .i64 (y.2:Int)]++spanCells sp:=by simp [spanCells]
   rw [e,show(k+1)*2=k*2+2 by omega,show k*2+2+1=(k*2+1)+2 by omega];simpa using this
theorem spans_in:∀ (fs:List Dt.Pc) (a:Nat) (d:ByteArray) (sp:List (Nat×Nat)),Dt.spans fs a d=some sp->∀ s∈sp,a<=s.1∧s.1<=s.2∧s.2<=a+d.size:=by
 intro fs
 induction fs with
 |nil=>
  intro a d sp h;rw [Dt.spans] at h
  split at h
  ·simp at h;subst h;simp
  ·simp at h
 |cons p r ih=>
  intro a d sp h;rw [Dt.spans] at h
  cases hq:Dt.sz p d with
  |none=>rw [hq] at h;simp at h
  |some n=>
   have hn:=Dt.sz_le hq;rw [hq] at h
   cases hr:Dt.spans r (a+n) (d.extract n d.size) with
   |none=>simp [hr] at h
   |some l=>
    have hi:=ih _ _ _ hr;have hz:(d.extract n d.size).size=d.size-n:=by simp
    have hi2:∀ s∈l,a<=s.1∧s.1<=s.2∧s.2<=a+d.size:=by
     intro s hs;have:=hi s hs;omega
    simp [hr] at h
    subst h;cases p.isN
    ·simpa using hi2
    ·intro s hs;simp at hs
     rcases hs with rfl|hs
     ·simp;omega
     ·exact hi2 s hs
theorem low_in_len(a b:Nat)(l:List UInt8)(h:a<=b)(hb:b<=l.length):(Dt.lowIn (a,b) l).length=l.length:=by
 simp [Dt.lowIn,Nm.smallL];omega
theorem low_in_self(a:Nat)(l:List UInt8):Dt.lowIn (a,a) l=l:=by
 simp [Dt.lowIn,Nm.smallL]
theorem low_in_get(a i:Nat)(l:List UInt8)(h:a<=i)(hi:i<l.length):(Dt.lowIn (a,i) l)[i]? =l[i]? :=by
 have h1:(l.take a++Nm.smallL ((l.drop a).take (i-a))).length=i:=by simp [Nm.smallL];omega
 simp only [Dt.lowIn];rw [<- List.append_assoc,List.getElem?_append_right (by omega),h1,Nat.sub_self,List.getElem?_drop,Nat.add_zero]
theorem low_in_set(a i:Nat)(l:List UInt8)(c:UInt8)(h:a<=i)(hc:l[i]? =some c):(Dt.lowIn (a,i) l).set i (Nm.low c)=Dt.lowIn (a,i+1) l:=by
 obtain⟨hi,he⟩:=List.getElem?_eq_some_iff.1 hc;have h1:(l.take a++Nm.smallL ((l.drop a).take (i-a))).length=i:=by simp [Nm.smallL];omega
 have h2:(l.drop a).take (i+1-a)=(l.drop a).take (i-a)++[c]:=by
  rw [show i+1-a=(i-a)+1 by omega];apply Nm.take_step;rw [List.getElem?_drop,show a+(i-a)=i by omega];exact hc
 simp only [Dt.lowIn];rw [<- List.append_assoc,List.set_append_right _ _ (by omega),h1,Nat.sub_self,h2,List.drop_eq_getElem_cons hi,List.set_cons_zero];simp [Nm.smallL]
theorem low_all_len:∀ (sp:List (Nat×Nat)) (l:List UInt8),(∀ s∈sp,s.1<=s.2∧s.2<=l.length)->(Dt.lowAll sp l).length=l.length:=by
 intro sp
 induction sp with
 |nil=>intro l _;rfl
 |cons s sp ih=>
  intro l h;have h0:=h s (List.mem_cons_self);have e:=low_in_len s.1 s.2 l h0.1 h0.2
  show(Dt.lowAll sp (Dt.lowIn s l)).length=l.length
  rw [ih,e];intro s' hs';rw [e];exact h s' (List.mem_cons_of_mem _ hs')
theorem low_all_step{sp:List (Nat×Nat)}{k:Nat}{s:Nat×Nat}(h:sp[k]? =some s)(l:List UInt8):Dt.lowAll (sp.take (k+1)) l=Dt.lowIn s (Dt.lowAll (sp.take k) l):=by
 rw [Nm.take_step h,Dt.lowAll,List.foldl_append];rfl
theorem new_bytes2(s:ByteArray)(w:World):∃ cap W,s.size<=cap∧(s.size<=maxLen->cap<=maxLen)∧
 (convert 9 22 (.string s)).run Tryz.prog w=.ok (.slice (some ⟨w.heap.size,0,none⟩) s.size cap) W∧BRow W w.heap.size s.data.toList∧Below w.heap.size w W∧w.heap.size<W.heap.size:=by
 obtain⟨cap,W,h1,h2,h3,h4,h5⟩:=new_bytes s w;refine⟨cap,W,h1,h2,h3,h4,h5,?_⟩;have hr:=run_bytes_of_string w 9 22 5 s Tryz.underlying9 Tryz.underlying22 Tryz.underlying5;rw [h3] at hr;cases hr
 simp
theorem BRow.alloc{w:World}{g:Nat}{l:List UInt8}(h:BRow w g l)(hg:g<w.heap.size)(o:Obj):BRow (w.alloc o) g l:=by
 intro j c hj;obtain⟨h1,h2⟩:=h j c hj;have hb:Below w.heap.size w (w.alloc o):=(Below.refl _ _).alloc (Nat.le_refl _) _;refine⟨(hb.cell hg).trans h1,?_⟩;have e:=hb.block g hg;simp only [World.frozen?,e];exact h2
theorem BRow.str{w:World}{g n cap:Nat}{l:List UInt8}(h:BRow w g l)(hl:l.length=n):(convert 22 9 (.slice (some ⟨g,0,none⟩) n cap)).run Tryz.prog w=.ok (.string ⟨l.toArray⟩) w:=by
 subst hl;refine run_convert_bytes_back w 22 9 5 ⟨g,0,none⟩ cap l Tryz.underlying22 Tryz.underlying5 Tryz.underlying9 ?_;intro j hj;rw [Nm.addr_add,Nat.zero_add];exact(h j _ (List.getElem?_eq_getElem hj)).1
set_option maxRecDepth 100000 in
set_option maxHeartbeats 1600000 in
theorem foldNames_any(d:ByteArray)(v:Value)(sp:List (Nat×Nat))(w:World)(hrow:CRow w v sp.length 2 (spanCells sp))(hsp:∀ s∈sp,s.1<=s.2∧s.2<=d.size)(hd:d.size<=1000000000)(hl:sp.length<=1000000):
 Calls Tryz.prog 135 #[.string d,v] w fun e w'=>e=.returned (.string ⟨(Dt.lowAll sp d.data.toList).toArray⟩)∧Below w.heap.size w w':=by
 obtain⟨cap,W,hcap,hmx,hrun,hbr,hbel,hgW⟩:=new_bytes2 d w;obtain⟨_,a,capv,rfl,hcapv,hmxv,hc⟩:=hrow;have hmx':=hmx (by unfold maxLen;omega);unfold maxLen at hmx';have hdl:d.data.toList.length=d.size:=by simp
 have hll:∀ k,(Dt.lowAll (sp.take k) d.data.toList).length=d.size:=by
  intro k;rw [low_all_len,hdl];intro s hs;rw [hdl];exact hsp s (List.mem_of_mem_take hs)
 clear hmx;go_enter Tryz.func135,Tryz.ntmps135;go_wp2
 go_loopw [13] (fun i wr=>∃ k:Nat,k<=sp.length∧i=.int .i64 k∧BRow wr w.heap.size (Dt.lowAll (sp.take k) d.data.toList)∧w.heap.size<wr.heap.size∧Below w.heap.size w wr)
  (fun i _=>sp.length-(intOf i).toNat)
 case atStart=>
  exact⟨0,Nat.zero_le _,rfl,by simpa [Dt.lowAll] using hbr,hgW,hbel⟩
 case round=>
  obtain⟨k,hk,rfl,hbk,hgz,hbelk⟩:=hrel;clear hrun hbr hbel
  by_cases hlt:k<sp.length
  ·obtain⟨x,hx⟩:∃ x,sp[k]? =some x:=⟨_,List.getElem?_eq_getElem hlt⟩;obtain⟨s1,s2⟩:=span_cellsN hx;obtain⟨hx1,hx2⟩:=hsp x (List.mem_of_getElem? hx);have HST:=Nm.hide (low_all_step hx d.data.toList);have hlk:=hll k;generalize Dt.lowAll (sp.take k) d.data.toList=l at*;obtain⟨b,off,rfl,hcell⟩:=hc (by omega);have put:∀ {B O:Nat} {z:Value},w.cell? ⟨B,O,none⟩=some z->wr.cell? ⟨B,O,none⟩=some z:=fun h=>(hbelk.cell (World.block_lt_of_cell? w _ h)).trans h
   have c1:=put (hcell _ _ s1);have c2:=put (hcell _ _ s2);rw [<- Nat.add_assoc] at c2;clear hc hcell s1 s2 put hx;obtain⟨wo,hwo⟩:∃ wo,wo=wr:=⟨wr,rfl⟩;subst hwo;have hB0:=hbk.alloc hgz (.cells #[.int .i64 (x.1:Int),.int .i64 (x.2:Int)] 222);have hW0:Below w.heap.size w (wo.alloc (.cells #[.int .i64 (x.1:Int),.int .i64 (x.2:Int)] 222)):=hbelk.alloc (by omega) _;have hC0:(wo.alloc (.cells #[.int .i64 (x.1:Int),.int .i64 (x.2:Int)] 222)).cell? ⟨wo.heap.size,1,none⟩=some (.int .i64 (x.2:Int)):=by rw [World.cell?_alloc_new];rfl
   have hz0:wo.heap.size<(wo.alloc (.cells #[.int .i64 (x.1:Int),.int .i64 (x.2:Int)] 222)).heap.size:=by simp
   go_wp2
   go_loopw [8] (fun v wq=>∃ i:Nat,x.1<=i∧i<=x.2∧v=.int .i64 i∧BRow wq w.heap.size (Dt.lowIn (x.1,i) l)∧wq.cell? ⟨wo.heap.size,1,none⟩=some (.int .i64 (x.2:Int))∧wo.heap.size<wq.heap.size∧Below w.heap.size w wq)
    (fun v _=>x.2-(intOf v).toNat)
   case atStart=>exact⟨x.1,Nat.le_refl _,hx1,rfl,by rw [low_in_self];exact hB0,hC0,hz0,hW0⟩
   case round=>
    obtain⟨i,hi1,hi2,rfl,hbq,hcq,hzq,hbelq⟩:=hrel;clear hB0 hW0 hC0 hz0 c1 c2 hbk
    by_cases hil:i<x.2
    ·have hil':(i:Int)<(x.2:Int):=by omega
     have hid:i<d.size:=by omega
     have hid':(i:Int)<(d.size:Int):=by omega
     obtain⟨c,hlc⟩:∃ c,l[i]? =some c:=⟨_,List.getElem?_eq_getElem (by omega)⟩;have hgi:(Dt.lowIn (x.1,i) l)[i]? =some c:=(low_in_get x.1 i l hi1 (by omega)).trans hlc;obtain⟨hc1,hc2⟩:=hbq i c hgi;have hbs:=hbq.set (k:=i) (d:=Nm.low c) (by rw [low_in_len _ _ _ hi1 (by omega)];omega);rw [low_in_set _ _ _ _ hi1 hlc] at hbs;have HBS:=Nm.hide hbs
     have HC:Hid ((wr.setCell ⟨w.heap.size,i,none⟩ (.int .u8 (Nm.low c).toNat)).cell? ⟨wo.heap.size,1,none⟩=some (.int .i64 (x.2:Int))):=by
      show _=_
      rw [World.cell?_setCell_other wr ⟨w.heap.size,i,none⟩ ⟨wo.heap.size,1,none⟩ _ (by intro h;have:=congrArg Addr.block h;simp at this;omega)];exact hcq
     have HW:Hid (Below w.heap.size w (wr.setCell ⟨w.heap.size,i,none⟩ (.int .u8 (Nm.low c).toNat))):=hbelq.setCell (Nat.le_refl _) _;have HZ:Hid (wo.heap.size<(wr.setCell ⟨w.heap.size,i,none⟩ (.int .u8 (Nm.low c).toNat)).heap.size):=by show _<_;simpa using hzq
     clear hbs hgi hbq hlc;go_wp2_with (go_at_call 133;refine(foldByte_any _ _).mono ?_;rintro e w3 ⟨rfl,hw⟩;obtain rfl:wr=w3:=hw.symm;clear hw)
     go_roundw
     case rel=>exact⟨i+1,by omega,by omega,by go_num,HBS.out,HC.out,HZ.out,HW.out⟩
     case measure=>simp [intOf];omega
    ·have hil':(x.2:Int)<=(i:Int):=by omega
     obtain rfl:i=x.2:=by omega
     rw [show((x.1,x.2):Nat×Nat)=x from rfl,<- HST.out] at hbq;have HBQ:=Nm.hide hbq;have hgq:w.heap.size<wr.heap.size:=by omega
     clear hbq hil;go_wp2;go_roundw
     case rel=>exact⟨k+1,by omega,by go_num,HBQ.out,hgq,hbelq⟩
     case measure=>simp [intOf];omega
  ·have hlt':(sp.length:Int)<=(k:Int):=by omega
   rw [List.take_of_length_le (by omega)] at hbk;have hl0:=hll sp.length;rw [List.take_of_length_le (by omega)] at hl0;obtain⟨R,HR,hstr⟩:∃ R,Hid (R=(⟨(Dt.lowAll sp d.data.toList).toArray⟩:ByteArray))∧(convert 22 9 (.slice (some ⟨w.heap.size,0,none⟩) d.size cap)).run Tryz.prog wr=.ok (.string R) wr:=⟨_,rfl,hbk.str (cap:=cap) hl0⟩;clear hbk hc hl0;go_wp2;go_ret;rw [<- HR.out];exact⟨rfl,hbelk⟩
end Go.Proofs.YtfmolgdfjklmpaaGreat
namespace Go.Proofs.YtfmolgdfjklmpaaGreat
open Go.RowKit
set_option linter.unusedVariables false
def inB(n m:Int):Bool:=decide (0<=n)&&decide (n<=m)
def rcOK(r:Rr):Bool:=(Nm.split r.own).isSome&&inB r.ty 65535&&inB r.cl 65535&&inB r.tt 4294967295&&(decide (r.da.size=0)||cutCode r.ty r.da==0)
theorem all_take'{α:Type}{f:α->Bool}{xs:List α}{k:Nat}{x:α}(h:xs[k]? =some x):(xs.take (k+1)).all f=((xs.take k).all f&&f x):=by
 rw [List.take_add_one,h];simp
theorem all_no{α:Type}{f:α->Bool}{xs:List α}{x:α}(h:x∈xs)(hf:f x=false):xs.all f=false:=by
 rw [List.all_eq_false];exact⟨x,h,by simp [hf]⟩
theorem str_empty{s:ByteArray}:(s.toList==[])=decide (s.size=0):=by
 by_cases h:s.size=0
 ·have:s.toList=[]:=List.length_eq_zero_iff.1 (by rw [Nm.tl_len];exact h);simp [this,h]
 ·have:s.toList≠[]:=fun e=>h (by rw [<- Nm.tl_len,e];rfl)
  simp [h,this]
def ownB(t:Int)(d:ByteArray):Bool:= !metaB t&&(cutCode t d==0)
def listB(xs:List Rr):Bool:=decide (xs.length<=400)&&xs.all rcOK
end Go.Proofs.YtfmolgdfjklmpaaGreat
namespace Go.Proofs.YtfmolgdfjklmpaaGreat
open Go.RowKit
set_option maxRecDepth 100000 in
set_option maxHeartbeats 1600000 in
theorem l01Label_any(g:Nat)(a:Option Addr)(n cap:Nat)(w:World)(h:Src w g a n cap):
 Calls Tryz.prog 101 #[.pointer (some ⟨g,0,none⟩)] w fun e w'=>∃ s:ByteArray,e=.returned (.string s)∧s.size<=63∧Src w' g a n cap∧w.grownBy w' (some g):=by
 have hcv:=fun(x:Int) (W:World)=>conv_one x W
 have hs1:∀ c:UInt8,(ByteArray.mk #[c]).size=1:=fun _=>rfl
 have hs2:(ByteArray.mk #[110,115]).size=2:=rfl;go_enter Tryz.func101,Tryz.ntmps101;go_wp2_with fail
 refine(l01Next_any g a n cap 12 _ h (by decide)).mono ?_;rintro e w1 ⟨r,rfl,hr0,hr1,hsrc,hgr⟩;have hr2:=hr1 (by decide);clear hr1 h
 rcases(by omega:r=0∨r=1∨r=2∨r=3∨r=4∨r=5∨6<=r) with rfl|rfl|rfl|rfl|rfl|rfl|h6
 ·go_wp2;go_ret;exact⟨_,rfl,by decide,hsrc,hgr⟩
 ·go_wp2_with (first|(go_at_call 26;refine(l01Next_any g a n cap 4 _ hsrc (by decide)).mono ?_;rintro e w2 ⟨q,rfl,hq0,hq1,hsrc2,hgr2⟩;have hq2:=hq1 (by decide);clear hq1)|(go_at_call 99;refine(l01Bytes_any g a n cap (1+q) _ hsrc2 (by omega) (by omega)).mono ?_;rintro e w3 ⟨s3,rfl,hs3,hsrc3,hgr3⟩))
  go_ret;exact⟨_,rfl,by omega,hsrc3,grown_step (grown_step hgr hgr2) hgr3⟩
 ·go_wp2;go_ret;exact⟨_,rfl,by decide,hsrc,hgr⟩
 ·go_wp2;go_ret;exact⟨_,rfl,by decide,hsrc,hgr⟩
 ·go_wp2;go_ret;exact⟨_,rfl,by decide,hsrc,hgr⟩
 ·go_wp2_with (go_at_call 26;refine(l01Next_any g a n cap 3 _ hsrc (by decide)).mono ?_;rintro e w2 ⟨q,rfl,hq0,hq1,hsrc2,hgr2⟩;have hq2:=hq1 (by decide);clear hq1)
  go_ret;exact⟨_,rfl,by rw [ByteArray.size_append,hs2,hs1];decide,src_below hsrc2 ((Below.refl _ _).alloc (Nat.le_refl _) _),grown_alloc (grown_step hgr hgr2) _⟩
 ·go_wp2_with (go_at_call 26;refine(l01Next_any g a n cap 4 _ hsrc (by decide)).mono ?_;rintro e w2 ⟨q,rfl,hq0,hq1,hsrc2,hgr2⟩;have hq2:=hq1 (by decide);clear hq1)
  go_ret;exact⟨_,rfl,by rw [hs1];decide,src_below hsrc2 ((Below.refl _ _).alloc (Nat.le_refl _) _),grown_alloc (grown_step hgr hgr2) _⟩
end Go.Proofs.YtfmolgdfjklmpaaGreat
namespace Go.Proofs.YtfmolgdfjklmpaaGreat
open Go.RowKit
theorem owns_bel{w w':World}{B e n:Nat}{v:Value}{xs:List Value}(h:w.ownsRow B e 1 v n xs)(hb:Below w.heap.size w w'):w'.ownsRow B e 1 v n xs:=by
 refine⟨h.1,?_⟩
 rcases h.2 with h0|⟨g,cap,cur,h1,h2,h3,h4⟩
 ·exact .inl h0
 ·exact .inr ⟨g,cap,cur,h1,h2,by rw [hb.block g (Array.getElem?_eq_some_iff.1 h3).1];exact h3,h4⟩
end Go.Proofs.YtfmolgdfjklmpaaGreat
namespace Go.Proofs.YtfmolgdfjklmpaaGreat
open Go.RowKit
set_option linter.unusedVariables false
end Go.Proofs.YtfmolgdfjklmpaaGreat
