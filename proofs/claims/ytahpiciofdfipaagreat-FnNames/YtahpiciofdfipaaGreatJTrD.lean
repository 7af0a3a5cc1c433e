import Derived.Test.YtahpiciofdfipaaGreatJTrM
import Derived.Test.YtahpiciofdfipaaGreatJUnderM
import Derived.Test.YtahpiciofdfipaaGreatJTrN
import Derived.Test.YtahpiciofdfipaaGreatJTrP
import Derived.Test.YtahpiciofdfipaaGreatJTbII
import Derived.Test.YtahpiciofdfipaaGreatJTbIL
import Derived.Test.YtahpiciofdfipaaGreatJTbIS
import Derived.Test.YtahpiciofdfipaaGreatJOwnT
import Derived.Test.YtahpiciofdfipaaGreatJTbPL
import Derived.Test.YtahpiciofdfipaaGreatJSCheck
import Derived.Test.YtahpiciofdfipaaGreatJGoodM
import Derived.Test.YtahpiciofdfipaaGreatJData1
import Derived.Below
import Derived.Deep.AppendSrc
import Derived.Handy
import Derived.Test.YtahpiciofdfipaaGreatJMath
import Derived.Laws.AppendOwnNone
import Derived.Laws.OwnMore
import Derived.Test.YtahpiciofdfipaaGreatJNameOKs
import Derived.Test.YtahpiciofdfipaaGreatJCmpM
namespace Go.Proofs.YtahpiciofdfipaaGreat
open Go.RowKit
set_option linter.unusedVariables false
def dCmp(fd:ByteArray)(p:ByteArray×ByteArray):Int:=Nm.ordL p.1.data.toList fd.data.toList
def DaS(l:List (ByteArray×ByteArray)):Prop:=l.Pairwise fun a b=>Nm.ordL a.1.data.toList b.1.data.toList<0
theorem ordL_lt_trans{a b c:List UInt8}(h1:Nm.ordL a b<0)(h2:Nm.ordL b c<0):Nm.ordL a c<0:=by
 have h3:=ordL_trans a b c (by omega) (by omega)
 rcases Int.lt_or_eq_of_le h3 with h|h
 ·exact h
 ·exfalso
  have h4:=ordL_anti a c;have h5:=ordL_trans b c a (by omega) (by rw [h4];omega);have h6:=ordL_anti a b;omega
set_option maxHeartbeats 800000 in
theorem data_any(s:GSe)(B nb rb:Nat)(fd da:ByteArray)(r0 r1 r2 r3:Value)(w:World)(h:SeAt w B s)(hB:B<=w.heap.size)(hl:s.da.length<=500000)(hd:DaS s.da)(kn:Blk w nb #[.bool false] 4)(kr:Blk w rb #[r0,r1,r2,r3,.string da] 79)(hs:da.size<=1000000000):
 Calls Tryz.prog 140 #[ptr s.hd,.string fd,.func (.func 142) #[] #[ptr nb,ptr rb]] w fun e w'=>∃ v rv',e=.returned (.string v)∧SeAt w' B {s with rv:=rv',da:=putF (dCmp fd) (fd,da) s.da}∧Blk w' nb #[.bool (!isIn (dCmp fd) s.da)] 4∧Outs (nb::fpS s) w w'∧∀ b∈rv'.ownBlock.toList,b∈fpS s∨w.heap.size<=b:=by
 have hdl:(daRs s.da).length=s.da.length:=by simp [daRs]
 have hcf:∀ (tb i:Nat) (p:Value×Value),(daRs s.da)[i]? =some p->∀ W,Below w.heap.size w W->Blk W tb #[.pointer (some ⟨s.hd,0,none⟩)] 162->Calls Tryz.prog 173 #[.agg #[p.1,p.2],.string fd,.pointer (some ⟨tb,0,none⟩)] W fun e w'=>e=.returned (.int .i64 (cfOf (dCmp fd) s.da i))∧Below W.heap.size W w':=by
  intro tb i p hp W hW kb;simp only [daRs,List.getElem?_map,Option.map_eq_some_iff] at hp;obtain⟨q,hq,rfl⟩:=hp;rw [cfOf_at hq];exact place1S_any tb s.hd s.rv q.1 q.2 fd W kb (blk_below h.head hW)
 have hmono:=mono_of_pair (f:=dCmp fd) hd (fun a b hab hb=>ordL_lt_trans hab hb);have hfnd:=posOf_fnd s.da hmono
 cases hin:isIn (dCmp fd) s.da with
 |true=>
  obtain⟨x,hx,hx0⟩:=isIn_some hin;have hx':(daRs s.da)[posOf (dCmp fd) s.da]? =some (.string x.1,.string x.2):=by simp [daRs,hx]
  refine(valueOfS_in s.hd B cmpSv s.rv (.string fd) _ (daRs s.da) (cfOf (dCmp fd) s.da) (posOf (dCmp fd) s.da) _ w h.head h.rows (by omega) hcf (by rw [hdl];exact hmono) (by rw [hdl];exact hfnd) hx' (by rw [cfOf_at hx];exact hx0)).mono ?_;rintro e w' ⟨rfl,hb⟩;refine⟨x.2,s.rv,rfl,?_,?_,Outs.below hb,fun b hbm=>.inl (by simp only [fpS,List.mem_cons];exact .inr (.inr hbm))⟩
  ·rw [putF,if_pos hin];exact h.keep (fun b hm=>hb.block b (h.lt b hm))
  ·exact blk_below kn hb
 |false=>
  have hout:=valueOfS_out s.hd B cmpSv s.rv fd #[ptr nb,ptr rb] (daRs s.da) (cfOf (dCmp fd) s.da) (posOf (dCmp fd) s.da) w (some nb) (fun ux W w'=>ux=da∧Blk w' nb #[.bool true] 4) h.head h.rows (by omega) hcf (by rw [hdl];exact hmono) (by rw [hdl];exact hfnd) (by rw [hdl];exact isIn_not hin)
   (fun p hp=>by
    simp only [daRs,List.mem_map] at hp;obtain⟨q,_,rfl⟩:=hp
    exact⟨rfl,rfl⟩) hB
   (fun W hW=>lay3_any nb rb false da r0 r1 r2 r3 W (blk_below kn hW) (blk_below kr hW) hs) (fun e=>blk_ne kn h.head (by decide) (Option.some.inj e)) (fun x hx e=>own_nb h.rows kn (by decide) (by rw [hx,<- e]))
  refine hout.mono ?_;rintro e w' ⟨ux,W,w1,rv',rfl,hW,hg1,⟨rfl,kn1⟩,kg',ho',hK,hloc⟩;have hne1:=blk_ne kn h.node (by decide);have hne2:=blk_ne h.node h.head (by decide);have node1:Blk w1 s.blk _ _:=blk_grown (blk_below h.node hW) hg1 (fun e=>hne1 (Option.some.inj e));have node2:=hK.blk node1 hne2 (own_nb h.rows h.node (by decide));have kn2:=hK.blk kn1 (blk_ne kn h.head (by decide)) (own_nb h.rows kn (by decide));refine⟨ux,rv',rfl,?_,kn2,?_,?_⟩
  ·rw [putF,if_neg (by simp [hin])];refine⟨node2,kg',?_⟩;have e1:daRs (insAt (posOf (dCmp fd) s.da) (fd,ux) s.da)=(daRs s.da).take (posOf (dCmp fd) s.da)++[(Value.string fd,Value.string ux)]++(daRs s.da).drop (posOf (dCmp fd) s.da):=by simp [daRs,insAt]
   show w'.ownsRow B _ 2 rv' (daRs (insAt (posOf (dCmp fd) s.da) (fd,ux) s.da)).length (rowCs (daRs (insAt (posOf (dCmp fd) s.da) (fd,ux) s.da)))
   rw [e1]
   have hle:((daRs s.da).take (posOf (dCmp fd) s.da)++[(Value.string fd,Value.string ux)]++(daRs s.da).drop (posOf (dCmp fd) s.da)).length=(daRs s.da).length+1:=by
    have:=hfnd.1;simp
    omega
   rw [hle];exact ho'
  ·refine⟨hK.os.trans (hg1.os.trans hW.os),hK.tape.trans (hg1.tape.trans hW.tape),hK.output.trans (hg1.output.trans hW.output),Nat.le_trans hW.size (Nat.le_trans hg1.size hK.size),fun k hk hn=>?_⟩;simp only [fpS,List.mem_cons,not_or] at hn;obtain⟨n1,n2,n3,n4⟩:=hn;rw [hK.block k (Nat.lt_of_lt_of_le hk (Nat.le_trans hW.size hg1.size)) n3 (fun e=>n4 (by rw [e];simp)),hg1.block k (Nat.lt_of_lt_of_le hk hW.size) (by simpa using n1)];exact hW.block k hk
  ·intro b hb
   rcases hloc with h1|h1
   ·rw [h1] at hb;exact .inl (by simp only [fpS,List.mem_cons];exact .inr (.inr hb))
   ·right
    cases hr:rv'.ownBlock with
    |none=>rw [hr] at hb;simp at hb
    |some q=>
     rw [hr] at hb;simp at hb;subst hb;have:=h1 _ hr;have:=hg1.size;have:=hW.size;omega
theorem flat_ins{α:Type}(f:α->List Nat)(k:Nat)(x:α)(l:List α):((insAt k x l).flatMap f).Perm (f x++l.flatMap f):=by
 rw [insAt,List.append_assoc,List.flatMap_append,List.flatMap_append];have e:l.flatMap f=(l.take k).flatMap f++(l.drop k).flatMap f:=by rw [<- List.flatMap_append,List.take_append_drop]
 rw [e];simp only [List.flatMap_cons,List.flatMap_nil,List.append_nil];rw [<- List.append_assoc,<- List.append_assoc];exact List.Perm.append_right _ List.perm_append_comm
theorem own_list(v:Value):v.ownBlock.toList.Nodup:=by cases v.ownBlock<;>simp
theorem nd_grow{N M:Nat}{A r r' X Y:List Nat}(h:(A++(r++X)).Nodup)(hlt:∀ x∈A++(r++X),x<N)(hY:Y.Nodup)(hY1:∀ y∈Y,N<=y∧y<M)(hr':r'.Nodup)(hr:r'=r∨∀ x∈r',M<=x)(hNM:N<=M):(A++(r'++(Y++X))).Nodup:=by
 rw [List.nodup_append,List.nodup_append] at h;obtain⟨hA,⟨hr0,hX,hrX⟩,hAX⟩:=h;have lA:∀ x∈A,x<N:=fun x hx=>hlt x (by simp [hx])
 have lr:∀ x∈r,x<N:=fun x hx=>hlt x (by simp [hx])
 have lX:∀ x∈X,x<N:=fun x hx=>hlt x (by simp [hx])
 rw [List.nodup_append,List.nodup_append,List.nodup_append];refine⟨hA,⟨hr',⟨hY,hX,fun a ha b hb=>?_⟩,fun a ha b hb=>?_⟩,fun a ha b hb=>?_⟩
 ·have:=(hY1 a ha).1;have:=lX b hb;omega
 ·rcases hr with rfl|hr
  ·rcases List.mem_append.1 hb with hb|hb
   ·have:=(hY1 b hb).1;have:=lr a ha;omega
   ·exact hrX a ha b hb
  ·rcases List.mem_append.1 hb with hb|hb
   ·have:=(hY1 b hb).2;have:=hr a ha;omega
   ·have:=lX b hb;have:=hr a ha;omega
 ·rcases List.mem_append.1 hb with hb|hb
  ·rcases hr with rfl|hr
   ·exact hAX a ha b (List.mem_append.2 (.inl hb))
   ·have:=lA a ha;have:=hr b hb;omega
  ·rcases List.mem_append.1 hb with hb|hb
   ·have:=(hY1 b hb).1;have:=lA a ha;omega
   ·exact hAX a ha b (List.mem_append.2 (.inr hb))
def sCmp(ty:Int)(s:GSe):Int:=Nm.cmpI s.ty ty
def SeS(l:List GSe):Prop:=l.Pairwise fun a b=>a.ty<b.ty
def GotS(ty tt:Int)(at_:Nat)(l:List GSe)(s:GSe)(l':List GSe):Prop:=
 (isIn (sCmp ty) l=true∧l'=l∧l[posOf (sCmp ty) l]? =some s∧s.ty=ty)∨(isIn (sCmp ty) l=false∧l'=insAt (posOf (sCmp ty) l) s l∧s.ty=ty∧s.tt=tt∧s.fi=at_∧s.da=[])
theorem cmpI_neg{a b:Int}:Nm.cmpI a b<0↔a<b:=by
 constructor
 ·intro h
  rcases Int.lt_or_le a b with h1|h1
  ·exact h1
  ·rcases Int.lt_or_eq_of_le h1 with h2|h2
   ·rw [Nm.cmpI_gt h2] at h;omega
   ·rw [Nm.cmpI_eq h2.symm] at h;omega
 ·intro h;rw [Nm.cmpI_lt h];decide
theorem cmpI_zero{a b:Int}(h:Nm.cmpI a b=0):a=b:=by
 rcases Int.lt_trichotomy a b with h1|h1|h1
 ·rw [Nm.cmpI_lt h1] at h;omega
 ·exact h1
 ·rw [Nm.cmpI_gt h1] at h;omega
set_option maxHeartbeats 800000 in
theorem set_any(o:GOw)(B rb ab at_:Nat)(ty tt:Int)(r0 r1 r2 r4:Value)(w:World)(h:OwAt w B o)(hnd:(fpO o).Nodup)(hB:B<=w.heap.size)(hl:o.ss.length<=500000)(hd:SeS o.ss)(kr:Blk w rb #[r0,r1,r2,.int .i64 tt,r4] 79)(ka:Blk w ab #[.int .i64 (at_:Int)] 3):
 Calls Tryz.prog 136 #[ptr o.hd,.int .i64 ty,.func (.func 137) #[] #[ptr rb,ptr ab]] w fun e w'=>∃ s rv' ss',e=.returned (ptr s.blk)∧GotS ty tt at_ o.ss s ss'∧OwAt w' B {o with rv:=rv',ss:=ss'}∧(fpO {o with rv:=rv',ss:=ss'}).Nodup∧Outs (fpO o) w w'∧∀ b∈fpO {o with rv:=rv',ss:=ss'},b∈fpO o∨w.heap.size<=b:=by
 have hdl:(seRs o.ss).length=o.ss.length:=by simp [seRs]
 have hcf:∀ (tb i:Nat) (p:Value×Value),(seRs o.ss)[i]? =some p->∀ W,Below w.heap.size w W->Blk W tb #[.pointer (some ⟨o.hd,0,none⟩)] 110->Calls Tryz.prog 160 #[.agg #[p.1,p.2],.int .i64 ty,.pointer (some ⟨tb,0,none⟩)] W fun e w'=>e=.returned (.int .i64 (cfOf (sCmp ty) o.ss i))∧Below W.heap.size W w':=by
  intro tb i p hp W hW kb;simp only [seRs,List.getElem?_map,Option.map_eq_some_iff] at hp;obtain⟨q,hq,rfl⟩:=hp;rw [cfOf_at hq];exact place1I_any tb o.hd o.rv (ptr q.blk) q.ty ty W kb (blk_below h.head hW)
 have hmono:=mono_of_pair (f:=sCmp ty) hd (fun a b hab hb=>by
  rw [sCmp,cmpI_neg] at hb ⊢
  omega)
 have hfnd:=posOf_fnd o.ss hmono
 cases hin:isIn (sCmp ty) o.ss with
 |true=>
  obtain⟨x,hx,hx0⟩:=isIn_some hin;have hx':(seRs o.ss)[posOf (sCmp ty) o.ss]? =some (.int .i64 x.ty,ptr x.blk):=by simp [seRs,hx]
  refine(valueOfI_in o.hd B cmpIv o.rv (.int .i64 ty) _ (seRs o.ss) (cfOf (sCmp ty) o.ss) (posOf (sCmp ty) o.ss) _ w h.head h.rows (by omega) hcf (by rw [hdl];exact hmono) (by rw [hdl];exact hfnd) hx' (by rw [cfOf_at hx];exact hx0)).mono ?_;rintro e w' ⟨rfl,hb⟩
  exact⟨x,o.rv,o.ss,rfl,.inl ⟨hin,rfl,hx,cmpI_zero hx0⟩,h.keep (fun b hm=>hb.block b (h.lt b hm)),hnd,Outs.below hb,fun b hbm=>.inl hbm⟩
 |false=>
  have hout:=valueOfI_out o.hd B cmpIv o.rv ty #[ptr rb,ptr ab] (seRs o.ss) (cfOf (sCmp ty) o.ss) (posOf (sCmp ty) o.ss) w none (NewS tt at_) h.head h.rows (by omega) hcf (by rw [hdl];exact hmono) (by rw [hdl];exact hfnd) (by rw [hdl];exact isIn_not hin)
   (fun p hp=>by
    simp only [seRs,List.mem_map] at hp;obtain⟨q,_,rfl⟩:=hp
    exact⟨rfl,rfl⟩) hB
   (fun W hW=>lay2_any rb ab at_ tt r0 r1 r2 r4 W (blk_below kr hW) (blk_below ka hW)) (by simp) (by simp)
  refine hout.mono ?_;rintro e w' ⟨ux,W,w1,rv',rfl,hW,hg1,⟨hd1,sb,rfl,hh1,hs1,hne,kh1,ks1⟩,kg',ho',hK,hloc⟩;have hW1:Below w.heap.size w w1:=⟨hg1.os.trans hW.os,hg1.tape.trans hW.tape,hg1.output.trans hW.output,Nat.le_trans hW.size hg1.size,fun k hk=>(hg1.block k (Nat.lt_of_lt_of_le hk hW.size) (by simp)).trans (hW.block k hk)⟩;have hsW:=hW.size;have hsb:=blk_lt ks1;have hhb:=blk_lt kh1;have holt:∀ x,o.rv.ownBlock=some x->x<w.heap.size:=fun x hx=>(h.rows.lt x hx).2
  have hohd:=blk_lt h.head
  -- the old parts
  have keep:∀ b,b<w.heap.size->b≠o.hd->o.rv.ownBlock≠some b->w'.heap[b]? =w.heap[b]? :=fun b hb h1 h2=>(hK.block b (Nat.lt_of_lt_of_le hb hW1.size) h1 h2).trans (hW1.block b hb)
  have hnd':=hnd;simp only [fpO,List.nodup_cons,List.nodup_append,List.mem_cons,List.mem_append,not_or] at hnd';obtain⟨⟨a1,a2,a3⟩,⟨a4,a5⟩,a6,a7,a8⟩:=hnd';refine⟨⟨sb,hd1,.slice none 0 0,ty,tt,at_,[]⟩,rv',insAt (posOf (sCmp ty) o.ss) ⟨sb,hd1,.slice none 0 0,ty,tt,at_,[]⟩ o.ss,rfl,.inr ⟨hin,rfl,rfl,rfl,rfl,rfl⟩,⟨?_,kg',?_,?_⟩,?_,?_,?_⟩
  ·exact blk_keep h.node (keep o.blk (blk_lt h.node) a1 (fun e=>a2 (by rw [e];simp)))
  ·have e1:seRs (insAt (posOf (sCmp ty) o.ss) ⟨sb,hd1,.slice none 0 0,ty,tt,at_,[]⟩ o.ss)=(seRs o.ss).take (posOf (sCmp ty) o.ss)++[(Value.int .i64 ty,Value.pointer (some ⟨sb,0,none⟩))]++(seRs o.ss).drop (posOf (sCmp ty) o.ss):=by simp [seRs,insAt,ptr]
   show w'.ownsRow B _ 2 rv' (seRs (insAt (posOf (sCmp ty) o.ss) ⟨sb,hd1,.slice none 0 0,ty,tt,at_,[]⟩ o.ss)).length (rowCs (seRs (insAt (posOf (sCmp ty) o.ss) ⟨sb,hd1,.slice none 0 0,ty,tt,at_,[]⟩ o.ss)))
   rw [e1]
   have hle:((seRs o.ss).take (posOf (sCmp ty) o.ss)++[(Value.int .i64 ty,Value.pointer (some ⟨sb,0,none⟩))]++(seRs o.ss).drop (posOf (sCmp ty) o.ss)).length=(seRs o.ss).length+1:=by
    have:=hfnd.1;simp
    omega
   rw [hle];exact ho'
  ·intro s hs
   have hcase:s∈o.ss∨s=⟨sb,hd1,.slice none 0 0,ty,tt,at_,[]⟩:=by
    simp only [insAt,List.mem_append,List.mem_singleton] at hs
    rcases hs with(hs|hs)|hs
    ·exact .inl (List.mem_of_mem_take hs)
    ·exact .inr hs
    ·exact .inl (List.mem_of_mem_drop hs)
   rcases hcase with hs|rfl
   ·refine(h.sets s hs).keep (fun b hb=>keep b ((h.sets s hs).lt b hb) ?_ ?_)
    ·intro e;exact a5 (List.mem_flatMap.2 ⟨s,hs,by rw [<- e];exact hb⟩)
    ·intro e;exact a8 b (by rw [e];simp) b (List.mem_flatMap.2 ⟨s,hs,hb⟩) rfl
   ·exact⟨hK.blk ks1 (show sb≠o.hd by omega) (fun e=>by have:=holt sb e;omega),hK.blk kh1 (show hd1≠o.hd by omega) (fun e=>by have:=holt hd1 e;omega),World.ownsRow_nil _ _ _ _⟩
  ·have hp:(fpO {o with rv:=rv',ss:=insAt (posOf (sCmp ty) o.ss) ⟨sb,hd1,.slice none 0 0,ty,tt,at_,[]⟩ o.ss}).Perm ([o.blk,o.hd]++(rv'.ownBlock.toList++([sb,hd1]++o.ss.flatMap fpS))):=by
    show(o.blk::o.hd::(rv'.ownBlock.toList++_)).Perm _
    refine List.Perm.cons _ (List.Perm.cons _ (List.Perm.append_left _ ?_));exact flat_ins fpS _ _ _
   rw [hp.nodup_iff]
   refine nd_grow (N:=w.heap.size) (M:=w1.heap.size) (r:=o.rv.ownBlock.toList) hnd (h.lt) (by simp;omega) (by
    intro y hy;simp at hy
    rcases hy with rfl|rfl<;>omega) (own_list _) ?_ hW1.size
   rcases hloc with h1|h1
   ·left;rw [h1]
   ·right;intro x hx
    cases hr:rv'.ownBlock with
    |none=>rw [hr] at hx;simp at hx
    |some q=>
     rw [hr] at hx;simp at hx;subst hx;exact h1 _ hr
  ·refine⟨hK.os.trans hW1.os,hK.tape.trans hW1.tape,hK.output.trans hW1.output,Nat.le_trans hW1.size hK.size,fun k hk hn=>keep k hk (fun e=>hn (by rw [e];simp [fpO])) (fun e=>hn (by simp only [fpO,List.mem_cons,List.mem_append];exact .inr (.inr (.inl (by rw [e];simp)))))⟩
  ·intro b hb
   have hp:(fpO {o with rv:=rv',ss:=insAt (posOf (sCmp ty) o.ss) ⟨sb,hd1,.slice none 0 0,ty,tt,at_,[]⟩ o.ss}).Perm ([o.blk,o.hd]++(rv'.ownBlock.toList++([sb,hd1]++o.ss.flatMap fpS))):=by
    show(o.blk::o.hd::(rv'.ownBlock.toList++_)).Perm _
    refine List.Perm.cons _ (List.Perm.cons _ (List.Perm.append_left _ ?_));exact flat_ins fpS _ _ _
   rw [hp.mem_iff] at hb;simp only [List.mem_append,List.mem_cons,List.not_mem_nil,or_false] at hb
   rcases hb with(rfl|rfl)|hb|(rfl|rfl)|hb
   ·left;simp [fpO]
   ·left;simp [fpO]
   ·rcases hloc with h1|h1
    ·left;rw [h1] at hb;simp only [fpO,List.mem_cons,List.mem_append];exact .inr (.inr (.inl hb))
    ·right
     cases hr:rv'.ownBlock with
     |none=>rw [hr] at hb;simp at hb
     |some q=>
      rw [hr] at hb;simp at hb;subst hb;have:=h1 _ hr;have:=hW1.size;omega
   ·right;omega
   ·right;omega
   ·left;simp only [fpO,List.mem_cons,List.mem_append];exact .inr (.inr (.inr hb))
def rowBlk:Value->Option Nat
 |.slice (some a) _ _=>some a.block
 |_=>none
structure LabOK (w:World) (fp:List Nat) (v:Value) (lab:List ByteArray):Prop where
 row:Nm.SRow w v lab
 far:lab≠[]->∀ b,rowBlk v=some b->b∉fp∧b<w.heap.size
 fit:(∀ x∈lab,x.size<=1000000000)∧lab.length<=1000000000
def LabAt(w:World)(fp:List Nat)(os:List GOw):Prop:=∀ o∈os,LabOK w fp o.lv o.lab
theorem srow_keep{w w':World}{v:Value}{lab:List ByteArray}(h:Nm.SRow w v lab)(he:lab≠[]->∀ b,rowBlk v=some b->w'.heap[b]? =w.heap[b]?):Nm.SRow w' v lab:=by
 obtain⟨a,cap,rfl,h1,h2,h3,h4⟩:=h;refine⟨a,cap,rfl,h1,h2,h3,fun hne=>?_⟩;obtain⟨b,off,rfl,hc⟩:=h4 hne;refine⟨b,off,rfl,fun k x hx=>?_⟩;rw [World.cell?_of_block (w:=w) (he hne b rfl)];exact hc k x hx
theorem LabOK.outs{w w':World}{fp fp':List Nat}{v:Value}{lab:List ByteArray}(h:LabOK w fp v lab)(ho:Outs fp w w')(hf:∀ b∈fp',b∈fp∨w.heap.size<=b):LabOK w' fp' v lab:=by
 refine⟨srow_keep h.row (fun hne b hb=>?_),fun hne b hb=>?_,h.fit⟩
 ·obtain⟨h1,h2⟩:=h.far hne b hb;exact ho.block b h2 h1
 ·obtain⟨h1,h2⟩:=h.far hne b hb;refine⟨fun hm=>?_,Nat.lt_of_lt_of_le h2 ho.size⟩
  rcases hf b hm with h3|h3
  ·exact h1 h3
  ·omega
def oCmp(lab:List ByteArray)(o:GOw):Int:=Nm.cmpLs o.lab lab
def OwS(l:List GOw):Prop:=l.Pairwise fun a b=>Nm.cmpLs a.lab b.lab<0
theorem cmpLs_lt_trans{a b c:List ByteArray}(h1:Nm.cmpLs a b<0)(h2:Nm.cmpLs b c<0):Nm.cmpLs a c<0:=by
 have h3:=cmpLs_trans (a:=a) (b:=b) (c:=c) (by omega) (by omega)
 rcases Int.lt_or_eq_of_le h3 with h|h
 ·exact h
 ·exfalso
  have h4:=cmpLs_anti a c;have h5:=cmpLs_trans (a:=b) (b:=c) (c:=a) (by omega) (by rw [h4];omega);have h6:=cmpLs_anti a b;omega
def GotO(own:ByteArray)(lv:Value)(lab:List ByteArray)(l:List GOw)(o:GOw)(l':List GOw):Prop:=
 (isIn (oCmp lab) l=true∧l'=l∧l[posOf (oCmp lab) l]? =some o∧Nm.cmpLs o.lab lab=0)∨(isIn (oCmp lab) l=false∧l'=insAt (posOf (oCmp lab) l) o l∧o.lab=lab∧o.lv=lv∧o.nm=own∧o.ss=[])
set_option maxHeartbeats 800000 in
theorem owner_any(th:Nat)(rv:Value)(os:List GOw)(B rb lb:Nat)(own:ByteArray)(la:Option Addr)(ln lc:Nat)(lab:List ByteArray)(r1 r2 r3 r4:Value)(w:World)(h:TrAt w B th rv os)(hB:B<=w.heap.size)(hl:os.length<=500000)(hd:OwS os)(hLab:LabAt w (fpT th rv os) os)(hlab:LabOK w (fpT th rv os) (.slice la ln lc) lab)(kr:Blk w rb #[.string own,r1,r2,r3,r4] 79)(kl:Blk w lb #[.slice la ln lc] 57)(hs:own.size<=1000000000):
 Calls Tryz.prog 132 #[ptr th,.slice la ln lc,.func (.func 133) #[] #[ptr rb,ptr lb]] w fun e w'=>∃ o rv' os',e=.returned (ptr o.blk)∧GotO own (.slice la ln lc) lab os o os'∧TrAt w' B th rv' os'∧Outs (fpT th rv os) w w'∧∀ b∈fpT th rv' os',b∈fpT th rv os∨w.heap.size<=b:=by
 have hdl:(owRs os).length=os.length:=by simp [owRs]
 have hcf:∀ (tb i:Nat) (p:Value×Value),(owRs os)[i]? =some p->∀ W,Below w.heap.size w W->Blk W tb #[.pointer (some ⟨th,0,none⟩)] 92->Calls Tryz.prog 125 #[.agg #[p.1,p.2],.slice la ln lc,.pointer (some ⟨tb,0,none⟩)] W fun e w'=>e=.returned (.int .i64 (cfOf (oCmp lab) os i))∧Below W.heap.size W w':=by
  intro tb i p hp W hW kb;simp only [owRs,List.getElem?_map,Option.map_eq_some_iff] at hp;obtain⟨q,hq,rfl⟩:=hp;rw [cfOf_at hq];have hq2:=hLab q (List.mem_of_getElem? hq);exact place1L_any tb th rv (ptr q.blk) q.lv (.slice la ln lc) q.lab lab W kb (blk_below h.head hW) (hq2.row.below hW) (hlab.row.below hW) hq2.fit.1 hq2.fit.2 hlab.fit.2
 have hmono:=mono_of_pair (f:=oCmp lab) hd (fun a b hab hb=>by
  exact cmpLs_lt_trans hab hb)
 have hfnd:=posOf_fnd os hmono
 cases hin:isIn (oCmp lab) os with
 |true=>
  obtain⟨x,hx,hx0⟩:=isIn_some hin;have hx':(owRs os)[posOf (oCmp lab) os]? =some (x.lv,ptr x.blk):=by simp [owRs,hx]
  refine(valueOfL_in th B cmpLv rv (.slice la ln lc) _ (owRs os) (cfOf (oCmp lab) os) (posOf (oCmp lab) os) _ w h.head h.rows (by omega) hcf (by rw [hdl];exact hmono) (by rw [hdl];exact hfnd) hx' (by rw [cfOf_at hx];exact hx0)).mono ?_;rintro e w' ⟨rfl,hb⟩
  exact⟨x,rv,os,rfl,.inl ⟨hin,rfl,hx,hx0⟩,h.keep (fun b hm=>hb.block b (h.lt b hm)),Outs.below hb,fun b hbm=>.inl hbm⟩
 |false=>
  have hout:=valueOfL_out th B cmpLv rv la ln lc #[ptr rb,ptr lb] (owRs os) (cfOf (oCmp lab) os) (posOf (oCmp lab) os) w none (NewO own (.slice la ln lc)) h.head h.rows (by omega) hcf (by rw [hdl];exact hmono) (by rw [hdl];exact hfnd) (by rw [hdl];exact isIn_not hin)
   (fun p hp=>by
    simp only [owRs,List.mem_map] at hp;obtain⟨q,hq,rfl⟩:=hp;obtain⟨qa,qc,e,_⟩:=(hLab q hq).row;refine⟨?_,rfl⟩;show q.lv.oneCell'=true
    rw [e]
    rfl) hB
   (fun W hW=>lay1_any rb lb own r1 r2 r3 r4 la ln lc W (blk_below kr hW) (blk_below kl hW) hs) (by simp) (by simp)
  refine hout.mono ?_;rintro e w' ⟨ux,W,w1,rv',rfl,hW,hg1,⟨hd1,sb,rfl,hh1,hs1,hne,kh1,ks1⟩,kg',ho',hK,hloc⟩;have hW1:Below w.heap.size w w1:=⟨hg1.os.trans hW.os,hg1.tape.trans hW.tape,hg1.output.trans hW.output,Nat.le_trans hW.size hg1.size,fun k hk=>(hg1.block k (Nat.lt_of_lt_of_le hk hW.size) (by simp)).trans (hW.block k hk)⟩;have hsW:=hW.size;have hsb:=blk_lt ks1;have hhb:=blk_lt kh1;have holt:∀ x,rv.ownBlock=some x->x<w.heap.size:=fun x hx=>(h.rows.lt x hx).2
  have hohd:=blk_lt h.head;have keep:∀ b,b<w.heap.size->b≠th->rv.ownBlock≠some b->w'.heap[b]? =w.heap[b]? :=fun b hb h1 h2=>(hK.block b (Nat.lt_of_lt_of_le hb hW1.size) h1 h2).trans (hW1.block b hb)
  have hnd':=h.nodup;simp only [fpT,List.nodup_cons,List.nodup_append,List.mem_append,not_or] at hnd';obtain⟨⟨a2,a3⟩,a6,a7,a8⟩:=hnd';obtain⟨on,hon⟩:∃ on:GOw,on=⟨sb,hd1,.slice none 0 0,.slice la ln lc,lab,own,[]⟩:=⟨_,rfl⟩
  have hp:(fpT th rv' (insAt (posOf (oCmp lab) os) on os)).Perm ([th]++(rv'.ownBlock.toList++([sb,hd1]++os.flatMap fpO))):=by
   show(th::(rv'.ownBlock.toList++_)).Perm _
   refine List.Perm.cons _ (List.Perm.append_left _ ?_);have:=flat_ins fpO (posOf (oCmp lab) os) on os;rw [show fpO on=[sb,hd1] by rw [hon];rfl] at this;exact this
  refine⟨on,rv',insAt (posOf (oCmp lab) os) on os,by rw [hon];rfl,.inr ⟨hin,rfl,by rw [hon],by rw [hon],by rw [hon],by rw [hon]⟩,⟨kg',?_,?_,?_⟩,?_,?_⟩
  ·have e1:owRs (insAt (posOf (oCmp lab) os) on os)=(owRs os).take (posOf (oCmp lab) os)++[(Value.slice la ln lc,Value.pointer (some ⟨sb,0,none⟩))]++(owRs os).drop (posOf (oCmp lab) os):=by rw [hon];simp [owRs,insAt,ptr]
   rw [e1]
   have hle:((owRs os).take (posOf (oCmp lab) os)++[(Value.slice la ln lc,Value.pointer (some ⟨sb,0,none⟩))]++(owRs os).drop (posOf (oCmp lab) os)).length=(owRs os).length+1:=by
    have:=hfnd.1;simp
    omega
   rw [hle];exact ho'
  ·intro o ho
   have hcase:o∈os∨o=on:=by
    simp only [insAt,List.mem_append,List.mem_singleton] at ho
    rcases ho with(ho|ho)|ho
    ·exact .inl (List.mem_of_mem_take ho)
    ·exact .inr ho
    ·exact .inl (List.mem_of_mem_drop ho)
   rcases hcase with ho|rfl
   ·refine(h.owners o ho).keep (fun b hb=>keep b ((h.owners o ho).lt b hb) ?_ ?_)
    ·intro e;exact a3 (List.mem_flatMap.2 ⟨o,ho,by rw [<- e];exact hb⟩)
    ·intro e;exact a8 b (by rw [e];simp) b (List.mem_flatMap.2 ⟨o,ho,hb⟩) rfl
   ·rw [hon];exact⟨hK.blk ks1 (show sb≠th by omega) (fun e=>by have:=holt sb e;omega),hK.blk kh1 (show hd1≠th by omega) (fun e=>by have:=holt hd1 e;omega),World.ownsRow_nil _ _ _ _,by simp⟩
  ·rw [hp.nodup_iff]
   refine nd_grow (N:=w.heap.size) (M:=w1.heap.size) (r:=rv.ownBlock.toList) h.nodup (h.lt) (by simp;omega) (by
    intro y hy;simp at hy
    rcases hy with rfl|rfl<;>omega) (own_list _) ?_ hW1.size
   rcases hloc with h1|h1
   ·left;rw [h1]
   ·right;intro x hx
    cases hr:rv'.ownBlock with
    |none=>rw [hr] at hx;simp at hx
    |some q=>
     rw [hr] at hx;simp at hx;subst hx;exact h1 _ hr
  ·refine⟨hK.os.trans hW1.os,hK.tape.trans hW1.tape,hK.output.trans hW1.output,Nat.le_trans hW1.size hK.size,fun k hk hn=>keep k hk (fun e=>hn (by rw [e];simp [fpT])) (fun e=>hn (by simp only [fpT,List.mem_cons,List.mem_append];exact .inr (.inl (by rw [e];simp))))⟩
  ·intro b hb;rw [hp.mem_iff] at hb;simp only [List.mem_append,List.mem_cons,List.not_mem_nil,or_false] at hb
   rcases hb with rfl|hb|(rfl|rfl)|hb
   ·left;simp [fpT]
   ·rcases hloc with h1|h1
    ·left;rw [h1] at hb;simp only [fpT,List.mem_cons,List.mem_append];exact .inr (.inl hb)
    ·right
     cases hr:rv'.ownBlock with
     |none=>rw [hr] at hb;simp at hb
     |some q=>
      rw [hr] at hb;simp at hb;subst hb;have:=h1 _ hr;have:=hW1.size;omega
   ·right;omega
   ·right;omega
   ·left;simp only [fpT,List.mem_cons,List.mem_append];exact .inr (.inr hb)
theorem set_split{α:Type}{l:List α}{j:Nat}{x:α}(h:l[j]? =some x)(y:α):l=l.take j++[x]++l.drop (j+1)∧l.set j y=l.take j++[y]++l.drop (j+1):=by
 obtain⟨hj,e⟩:=List.getElem?_eq_some_iff.1 h;constructor
 ·rw [List.append_assoc,List.singleton_append,<- e,List.getElem_cons_drop,List.take_append_drop]
 ·rw [List.set_eq_take_append_cons_drop,if_pos hj,List.append_assoc];rfl
theorem nd_seg{N:Nat}{X A A' Y:List Nat}(h:(X++(A++Y)).Nodup)(hlt:∀ x∈X++(A++Y),x<N)(hA:A'.Nodup)(hm:∀ a∈A',a∈A∨N<=a):(X++(A'++Y)).Nodup:=by
 rw [List.nodup_append,List.nodup_append] at h;obtain⟨hX,⟨hA0,hY,hAY⟩,hXA⟩:=h;rw [List.nodup_append,List.nodup_append];refine⟨hX,⟨hA,hY,fun a ha b hb=>?_⟩,fun a ha b hb=>?_⟩
 ·rcases hm a ha with h1|h1
  ·exact hAY a h1 b hb
  ·have:=hlt b (by simp [hb]);omega
 ·rcases List.mem_append.1 hb with hb|hb
  ·rcases hm b hb with h1|h1
   ·exact hXA a ha b (List.mem_append.2 (.inl h1))
   ·have:=hlt a (by simp [ha]);omega
  ·exact hXA a ha b (List.mem_append.2 (.inr hb))
theorem ow_set{w w':World}{B:Nat}{o:GOw}{j:Nat}{s s':GSe}{F:List Nat}(h:OwAt w B o)(hnd:(fpO o).Nodup)(hj:o.ss[j]? =some s)(hs:SeAt w' B s')(hb:s'.blk=s.blk)(ht:s'.ty=s.ty)(hn:(fpS s').Nodup)
 (hm:∀ b∈fpS s',b∈fpS s∨w.heap.size<=b) (hF:Outs F w w') (hFo:∀ b∈F,b∈fpO o->b∈fpS s):
 OwAt w' B {o with ss:=o.ss.set j s'}∧(fpO {o with ss:=o.ss.set j s'}).Nodup∧∀ b∈fpO {o with ss:=o.ss.set j s'},b∈fpO o∨w.heap.size<=b:=by
 obtain⟨e1,e2⟩:=set_split hj s'
 have f1:fpO o=(o.blk::o.hd::(o.rv.ownBlock.toList++(o.ss.take j).flatMap fpS))++(fpS s++(o.ss.drop (j+1)).flatMap fpS):=by
  conv=>lhs;rw [fpO,e1]
  simp
 have f2:fpO {o with ss:=o.ss.set j s'}=(o.blk::o.hd::(o.rv.ownBlock.toList++(o.ss.take j).flatMap fpS))++(fpS s'++(o.ss.drop (j+1)).flatMap fpS):=by
  show o.blk::o.hd::(o.rv.ownBlock.toList++(o.ss.set j s').flatMap fpS)=_
  rw [e2];simp
 have hnd2:=hnd;rw [f1] at hnd2;have hlt:∀ x∈(o.blk::o.hd::(o.rv.ownBlock.toList++(o.ss.take j).flatMap fpS))++(fpS s++(o.ss.drop (j+1)).flatMap fpS),x<w.heap.size:=fun x hx=>h.lt x (by rw [f1];exact hx)
 have hsep:∀ b,b∈(o.blk::o.hd::(o.rv.ownBlock.toList++(o.ss.take j).flatMap fpS))∨b∈(o.ss.drop (j+1)).flatMap fpS->b∉fpS s:=by
  intro b hb hbs;rw [List.nodup_append,List.nodup_append] at hnd2;obtain⟨_,⟨_,_,h3⟩,h4⟩:=hnd2
  rcases hb with hb|hb
  ·exact h4 b hb b (List.mem_append.2 (.inl hbs)) rfl
  ·exact h3 b hbs b hb rfl
 have keep:∀ b∈fpO o,b∉fpS s->w'.heap[b]? =w.heap[b]? :=fun b hbo hbs=>hF.block b (h.lt b hbo) (fun hbF=>hbs (hFo b hbF hbo))
 refine⟨⟨?_,?_,?_,?_⟩,?_,?_⟩
 ·exact blk_keep h.node (keep _ (by simp [fpO]) (hsep _ (.inl (by simp))))
 ·exact blk_keep h.head (keep _ (by simp [fpO]) (hsep _ (.inl (by simp))))
 ·have e3:seRs (o.ss.set j s')=seRs o.ss:=by
   rw [e2]
   conv=>rhs;rw [e1]
   simp [seRs,hb,ht]
  show w'.ownsRow B _ 2 o.rv (seRs (o.ss.set j s')).length (rowCs (seRs (o.ss.set j s')))
  rw [e3];refine own_keep h.rows (fun b hbm=>keep b (by simp only [fpO,List.mem_cons,List.mem_append];exact .inr (.inr (.inl hbm))) (hsep b (.inl (by simp only [List.mem_cons,List.mem_append];exact .inr (.inr (.inl hbm))))))
 ·intro t htm;have htm2:t∈o.ss.set j s':=htm;rw [e2] at htm2;simp only [List.mem_append,List.mem_singleton] at htm2
  have old:∀ t∈o.ss,(t∈o.ss.take j∨t∈o.ss.drop (j+1))->SeAt w' B t:=by
   intro t hto hts;refine(h.sets t hto).keep (fun b hbm=>keep b (by simp only [fpO,List.mem_cons,List.mem_append,List.mem_flatMap];exact .inr (.inr (.inr ⟨t,hto,hbm⟩))) (hsep b ?_))
   rcases hts with hts|hts
   ·left;simp only [List.mem_cons,List.mem_append,List.mem_flatMap];exact .inr (.inr (.inr ⟨t,hts,hbm⟩))
   ·right;exact List.mem_flatMap.2 ⟨t,hts,hbm⟩
  rcases htm2 with(hts|rfl)|hts
  ·exact old t (List.mem_of_mem_take hts) (.inl hts)
  ·exact hs
  ·exact old t (List.mem_of_mem_drop hts) (.inr hts)
 ·rw [f2];exact nd_seg hnd2 hlt hn hm
 ·intro b hbm;rw [f2] at hbm;rw [f1]
  rcases List.mem_append.1 hbm with hbm|hbm
  ·exact .inl (List.mem_append.2 (.inl hbm))
  ·rcases List.mem_append.1 hbm with hbm|hbm
   ·rcases hm b hbm with h1|h1
    ·exact .inl (List.mem_append.2 (.inr (List.mem_append.2 (.inl h1))))
    ·exact .inr h1
   ·exact .inl (List.mem_append.2 (.inr (List.mem_append.2 (.inr hbm))))
theorem tr_owner{w w':World}{B th:Nat}{rv:Value}{os:List GOw}{p:Nat}{o o':GOw}{F:List Nat}(h:TrAt w B th rv os)(hp:os[p]? =some o)(ho:OwAt w' B o')(hb:o'.blk=o.blk)(hl:o'.lv=o.lv)(hn:(fpO o').Nodup)
 (hm:∀ b∈fpO o',b∈fpO o∨w.heap.size<=b) (hF:Outs F w w') (hFo:∀ b∈F,b∈fpT th rv os->b∈fpO o):
 TrAt w' B th rv (os.set p o')∧∀ b∈fpT th rv (os.set p o'),b∈fpT th rv os∨w.heap.size<=b:=by
 obtain⟨e1,e2⟩:=set_split hp o'
 have f1:fpT th rv os=(th::(rv.ownBlock.toList++(os.take p).flatMap fpO))++(fpO o++(os.drop (p+1)).flatMap fpO):=by
  conv=>lhs;rw [fpT,e1]
  simp
 have f2:fpT th rv (os.set p o')=(th::(rv.ownBlock.toList++(os.take p).flatMap fpO))++(fpO o'++(os.drop (p+1)).flatMap fpO):=by
  rw [fpT,e2];simp
 have hnd2:=h.nodup;rw [f1] at hnd2;have hlt:∀ x∈(th::(rv.ownBlock.toList++(os.take p).flatMap fpO))++(fpO o++(os.drop (p+1)).flatMap fpO),x<w.heap.size:=fun x hx=>h.lt x (by rw [f1];exact hx)
 have hsep:∀ b,b∈(th::(rv.ownBlock.toList++(os.take p).flatMap fpO))∨b∈(os.drop (p+1)).flatMap fpO->b∉fpO o:=by
  intro b hb hbs;rw [List.nodup_append,List.nodup_append] at hnd2;obtain⟨_,⟨_,_,h3⟩,h4⟩:=hnd2
  rcases hb with hb|hb
  ·exact h4 b hb b (List.mem_append.2 (.inl hbs)) rfl
  ·exact h3 b hbs b hb rfl
 have keep:∀ b∈fpT th rv os,b∉fpO o->w'.heap[b]? =w.heap[b]? :=fun b hbo hbs=>hF.block b (h.lt b hbo) (fun hbF=>hbs (hFo b hbF hbo))
 refine⟨⟨?_,?_,?_,?_⟩,?_⟩
 ·exact blk_keep h.head (keep _ (by simp [fpT]) (hsep _ (.inl (by simp))))
 ·have e3:owRs (os.set p o')=owRs os:=by
   rw [e2]
   conv=>rhs;rw [e1]
   simp [owRs,hb,hl]
  rw [e3];refine own_keep h.rows (fun b hbm=>keep b (by simp only [fpT,List.mem_cons,List.mem_append];exact .inr (.inl hbm)) (hsep b (.inl (by simp only [List.mem_cons,List.mem_append];exact .inr (.inl hbm)))))
 ·intro t htm;rw [e2] at htm;simp only [List.mem_append,List.mem_singleton] at htm
  have old:∀ t∈os,(t∈os.take p∨t∈os.drop (p+1))->OwAt w' B t:=by
   intro t hto hts;refine(h.owners t hto).keep (fun b hbm=>keep b (by simp only [fpT,List.mem_cons,List.mem_append,List.mem_flatMap];exact .inr (.inr ⟨t,hto,hbm⟩)) (hsep b ?_))
   rcases hts with hts|hts
   ·left;simp only [List.mem_cons,List.mem_append,List.mem_flatMap];exact .inr (.inr ⟨t,hts,hbm⟩)
   ·right;exact List.mem_flatMap.2 ⟨t,hts,hbm⟩
  rcases htm with(hts|rfl)|hts
  ·exact old t (List.mem_of_mem_take hts) (.inl hts)
  ·exact ho
  ·exact old t (List.mem_of_mem_drop hts) (.inr hts)
 ·rw [f2];exact nd_seg hnd2 hlt hn hm
 ·intro b hbm;rw [f2] at hbm;rw [f1]
  rcases List.mem_append.1 hbm with hbm|hbm
  ·exact .inl (List.mem_append.2 (.inl hbm))
  ·rcases List.mem_append.1 hbm with hbm|hbm
   ·rcases hm b hbm with h1|h1
    ·exact .inl (List.mem_append.2 (.inr (List.mem_append.2 (.inl h1))))
    ·exact .inr h1
   ·exact .inl (List.mem_append.2 (.inr (List.mem_append.2 (.inr hbm))))
set_option maxRecDepth 100000 in
set_option maxHeartbeats 1600000 in
theorem getI_in(g B:Nat)(cmpv rv key:Value)(rs:List (Value×Value))(cf:Nat->Int)(k:Nat)(p:Value×Value)(w:World)(hg:Blk w g #[cmpv,rv] 175)(h:w.ownsRow B 177 2 rv rs.length (rowCs rs))(hl:rs.length<=1000000)
 (hf:∀ (tb i:Nat) (p:Value×Value),rs[i]? =some p->∀ W,Below w.heap.size w W->Blk W tb #[.pointer (some ⟨g,0,none⟩)] 110->Calls Tryz.prog 160 #[.agg #[p.1,p.2],key,.pointer (some ⟨tb,0,none⟩)] W fun e w'=>e=.returned (.int .i64 (cf i))∧Below W.heap.size W w')
 (hm:∀ a b,a<=b->b<rs.length->cf b<0->cf a<0) (hk:Fnd rs.length cf k) (hp:rs[k]? =some p) (h0:cf k=0):
 Calls Tryz.prog 119 #[.pointer (some ⟨g,0,none⟩),key] w fun e w'=>e=.returned (.tuple #[p.2,.bool true])∧Below w.heap.size w w':=by
 have hpl:=placeI_any g cmpv rv key rs cf w hg (CRow.of_owns h) hl hf hm;have hkl:=(List.getElem?_eq_some_iff.1 hp).1;have at1:=rowCs_at rs k 1 p hp (by decide);obtain⟨_,a,cap,rfl,hcap,hmx,hc⟩:=CRow.of_owns h;obtain⟨b,off,rfl,hcell⟩:=hc (by omega);have c1:=hcell _ _ at1;have HK:=Nm.hide hk;have H0:=Nm.hide (And.intro hkl h0);unfold maxLen at hmx;have n1:(0:Int)<=(k:Int):=by omega
 have n2:(k:Int)<(rs.length:Int):=by omega
 clear hf hm hk hp h0 h hcell hc at1;go_enter Tryz.func119,Tryz.ntmps119;go_wp2_with fail
 refine hpl.mono ?_;rintro e w1 ⟨k',hk',rfl,b1⟩;obtain rfl:=Fnd.unique HK.out hk';rw [decide_eq_true H0.out.1,decide_eq_true H0.out.2];have kg:=blk_below hg b1;have rg:=fun i=>blk_cell kg i
 have d1:w1.cell? ⟨b,off+k*2+1,none⟩=some p.2:=(b1.cell (World.block_lt_of_cell? w _ c1)).trans c1;have tt:(true&&true)=true:=rfl;clear hpl hk' c1 H0;go_wp2;go_ret2;exact⟨rfl,b1⟩
set_option maxRecDepth 100000 in
set_option maxHeartbeats 1600000 in
theorem getI_out(g B:Nat)(cmpv rv key:Value)(rs:List (Value×Value))(cf:Nat->Int)(k:Nat)(w:World)(hg:Blk w g #[cmpv,rv] 175)(h:w.ownsRow B 177 2 rv rs.length (rowCs rs))(hl:rs.length<=1000000)
 (hf:∀ (tb i:Nat) (p:Value×Value),rs[i]? =some p->∀ W,Below w.heap.size w W->Blk W tb #[.pointer (some ⟨g,0,none⟩)] 110->Calls Tryz.prog 160 #[.agg #[p.1,p.2],key,.pointer (some ⟨tb,0,none⟩)] W fun e w'=>e=.returned (.int .i64 (cf i))∧Below W.heap.size W w')
 (hm:∀ a b,a<=b->b<rs.length->cf b<0->cf a<0) (hk:Fnd rs.length cf k) (h0:¬(k<rs.length∧cf k=0)):
 Calls Tryz.prog 119 #[.pointer (some ⟨g,0,none⟩),key] w fun e w'=>e=.returned (.tuple #[.pointer none,.bool false])∧Below w.heap.size w w':=by
 have hpl:=placeI_any g cmpv rv key rs cf w hg (CRow.of_owns h) hl hf hm;have HK:=Nm.hide hk
 have H0:Hid ((decide (k<rs.length)&&decide (cf k=0))=false):=by
  show _=_
  rw [Bool.and_eq_false_iff]
  by_cases hx:k<rs.length
  ·exact .inr (decide_eq_false (fun h=>h0 ⟨hx,h⟩))
  ·exact .inl (decide_eq_false hx)
 clear hf hm hk h0 h;go_enter Tryz.func119,Tryz.ntmps119;go_wp2_with fail
 refine hpl.mono ?_;rintro e w1 ⟨k',hk',rfl,b1⟩;obtain rfl:=Fnd.unique HK.out hk';rw [H0.out];clear hpl hk' H0;go_wp2;go_ret2;exact⟨rfl,b1⟩
set_option maxRecDepth 100000 in
set_option maxHeartbeats 1600000 in
theorem getL_in(g B:Nat)(cmpv rv key:Value)(rs:List (Value×Value))(cf:Nat->Int)(k:Nat)(p:Value×Value)(w:World)(hg:Blk w g #[cmpv,rv] 149)(h:w.ownsRow B 145 2 rv rs.length (rowCs rs))(hl:rs.length<=1000000)
 (hf:∀ (tb i:Nat) (p:Value×Value),rs[i]? =some p->∀ W,Below w.heap.size w W->Blk W tb #[.pointer (some ⟨g,0,none⟩)] 92->Calls Tryz.prog 125 #[.agg #[p.1,p.2],key,.pointer (some ⟨tb,0,none⟩)] W fun e w'=>e=.returned (.int .i64 (cf i))∧Below W.heap.size W w')
 (hm:∀ a b,a<=b->b<rs.length->cf b<0->cf a<0) (hk:Fnd rs.length cf k) (hp:rs[k]? =some p) (h0:cf k=0):
 Calls Tryz.prog 54 #[.pointer (some ⟨g,0,none⟩),key] w fun e w'=>e=.returned (.tuple #[p.2,.bool true])∧Below w.heap.size w w':=by
 have hpl:=placeL_any g cmpv rv key rs cf w hg (CRow.of_owns h) hl hf hm;have hkl:=(List.getElem?_eq_some_iff.1 hp).1;have at1:=rowCs_at rs k 1 p hp (by decide);obtain⟨_,a,cap,rfl,hcap,hmx,hc⟩:=CRow.of_owns h;obtain⟨b,off,rfl,hcell⟩:=hc (by omega);have c1:=hcell _ _ at1;have HK:=Nm.hide hk;have H0:=Nm.hide (And.intro hkl h0);unfold maxLen at hmx;have n1:(0:Int)<=(k:Int):=by omega
 have n2:(k:Int)<(rs.length:Int):=by omega
 clear hf hm hk hp h0 h hcell hc at1;go_enter Tryz.func54,Tryz.ntmps54;go_wp2_with fail
 refine hpl.mono ?_;rintro e w1 ⟨k',hk',rfl,b1⟩;obtain rfl:=Fnd.unique HK.out hk';rw [decide_eq_true H0.out.1,decide_eq_true H0.out.2];have kg:=blk_below hg b1;have rg:=fun i=>blk_cell kg i
 have d1:w1.cell? ⟨b,off+k*2+1,none⟩=some p.2:=(b1.cell (World.block_lt_of_cell? w _ c1)).trans c1;have tt:(true&&true)=true:=rfl;clear hpl hk' c1 H0;go_wp2;go_ret2;exact⟨rfl,b1⟩
set_option maxRecDepth 100000 in
set_option maxHeartbeats 1600000 in
theorem getL_out(g B:Nat)(cmpv rv key:Value)(rs:List (Value×Value))(cf:Nat->Int)(k:Nat)(w:World)(hg:Blk w g #[cmpv,rv] 149)(h:w.ownsRow B 145 2 rv rs.length (rowCs rs))(hl:rs.length<=1000000)
 (hf:∀ (tb i:Nat) (p:Value×Value),rs[i]? =some p->∀ W,Below w.heap.size w W->Blk W tb #[.pointer (some ⟨g,0,none⟩)] 92->Calls Tryz.prog 125 #[.agg #[p.1,p.2],key,.pointer (some ⟨tb,0,none⟩)] W fun e w'=>e=.returned (.int .i64 (cf i))∧Below W.heap.size W w')
 (hm:∀ a b,a<=b->b<rs.length->cf b<0->cf a<0) (hk:Fnd rs.length cf k) (h0:¬(k<rs.length∧cf k=0)):
 Calls Tryz.prog 54 #[.pointer (some ⟨g,0,none⟩),key] w fun e w'=>e=.returned (.tuple #[.pointer none,.bool false])∧Below w.heap.size w w':=by
 have hpl:=placeL_any g cmpv rv key rs cf w hg (CRow.of_owns h) hl hf hm;have HK:=Nm.hide hk
 have H0:Hid ((decide (k<rs.length)&&decide (cf k=0))=false):=by
  show _=_
  rw [Bool.and_eq_false_iff]
  by_cases hx:k<rs.length
  ·exact .inr (decide_eq_false (fun h=>h0 ⟨hx,h⟩))
  ·exact .inl (decide_eq_false hx)
 clear hf hm hk h0 h;go_enter Tryz.func54,Tryz.ntmps54;go_wp2_with fail
 refine hpl.mono ?_;rintro e w1 ⟨k',hk',rfl,b1⟩;obtain rfl:=Fnd.unique HK.out hk';rw [H0.out];clear hpl hk' H0;go_wp2;go_ret2;exact⟨rfl,b1⟩
def kinB(x y:It):Bool:=decide (y.fo=x.fo)&&decide (y.r.ty=x.r.ty)
def dupI(pre:List It)(x:It):Bool:=pre.any fun y=>kinB x y&&decide (y.dt=x.dt)
def mixI(pre:List It)(x:It):Bool:=match pre.find? (kinB x) with
 |some y=>decide (y.r.tt≠x.r.tt)
 |none=>false
def outI(b:Bool)(x:It):It:={x with out:=x.out||b}
def twI(l:List It):List It:=l.mapIdx fun i x=>outI (dupI (l.take i) x) x
def badI(l:List It):Int:=match firstI (fun i x=>mixI (l.take i) x) l with
 |some i=>i
 |none=> -1
theorem twI_len(l:List It):(twI l).length=l.length:=by simp [twI]
theorem twI_get{l:List It}{i:Nat}{x:It}(h:l[i]? =some x):(twI l)[i]? =some (outI (dupI (l.take i) x) x):=by
 simp [twI,h]
theorem dupI_take{l:List It}{k:Nat}{y:It}(x:It)(h:l[k]? =some y):dupI (l.take (k+1)) x=(dupI (l.take k) x||(kinB x y&&decide (y.dt=x.dt))):=by
 obtain⟨hi,e⟩:=List.getElem?_eq_some_iff.1 h;rw [List.take_succ_eq_append_getElem hi,e];simp [dupI]
theorem find_take_no{l:List It}{k:Nat}{p:It->Bool}(h:∀ (j:Nat) (y:It),j<k->l[j]? =some y->p y=false):(l.take k).find? p=none:=by
 rw [List.find?_eq_none];intro y hy;obtain⟨j,hj,e⟩:=List.getElem_of_mem hy;have hj':=hj;rw [List.length_take] at hj';have h2:l[j]? =some y:=by rw [<- e,List.getElem_take,List.getElem?_eq_getElem (by omega)]
 simp [h j y (by omega) h2]
theorem find_take_at{l:List It}{k f:Nat}{y:It}{p:It->Bool}(hf:f<k)(hy:l[f]? =some y)(hp:p y=true)(h:∀ (j:Nat) (z:It),j<f->l[j]? =some z->p z=false):(l.take k).find? p=some y:=by
 rw [List.find?_eq_some_iff_getElem];obtain⟨hl,e⟩:=List.getElem?_eq_some_iff.1 hy;refine⟨hp,f,by rw [List.length_take];omega,by rw [List.getElem_take];exact e,fun j hj=>?_⟩;rw [List.getElem_take];have:=h j l[j] hj (List.getElem?_eq_getElem (by omega));simp [this]
def midI(l:List It)(i k:Nat):List It:=(twI l).take i++(l.drop i).mapIdx fun j x=>if j=0 then outI (dupI (l.take k) x) x else x
theorem midI_len(l:List It)(i k:Nat):(midI l i k).length=l.length:=by
 simp [midI,twI_len];omega
theorem midI_lo{l:List It}{i k j:Nat}{x:It}(h:l[j]? =some x)(hj:j<i):(midI l i k)[j]? =some (outI (dupI (l.take j) x) x):=by
 have hlt:=(List.getElem?_eq_some_iff.1 h).1;rw [midI,List.getElem?_append_left (by rw [List.length_take,twI_len];omega),List.getElem?_take_of_lt hj,twI_get h]
theorem midI_at{l:List It}{i k:Nat}{x:It}(h:l[i]? =some x):(midI l i k)[i]? =some (outI (dupI (l.take k) x) x):=by
 have hlt:=(List.getElem?_eq_some_iff.1 h).1;rw [midI,List.getElem?_append_right (by rw [List.length_take,twI_len];omega)];simp [twI_len,Nat.min_eq_left (Nat.le_of_lt hlt),h]
theorem midI_hi{l:List It}{i k j:Nat}{x:It}(h:l[j]? =some x)(hj:i<j):(midI l i k)[j]? =some x:=by
 have hlt:=(List.getElem?_eq_some_iff.1 h).1;rw [midI,List.getElem?_append_right (by rw [List.length_take,twI_len];omega)];simp only [List.length_take,twI_len,Nat.min_eq_left (by omega:i<=l.length),List.getElem?_mapIdx,List.getElem?_drop];rw [show i+(j-i)=j by omega,h]
 simp;omega
theorem midI_ext{l m:List It}{i k:Nat}(hl:m.length=l.length)(h:∀ (j:Nat) (x:It),l[j]? =some x->m[j]? =(midI l i k)[j]?):m=midI l i k:=by
 apply List.ext_getElem?;intro j
 by_cases hj:j<l.length
 ·exact h j _ (List.getElem?_eq_getElem hj)
 ·rw [List.getElem?_eq_none (by omega),List.getElem?_eq_none (by rw [midI_len];omega)]
theorem midI_start(l:List It):midI l 0 0=l:=by
 symm;refine midI_ext rfl (fun j x h=>?_)
 rcases Nat.eq_zero_or_pos j with rfl|hj
 ·rw [midI_at h,h];simp [outI,dupI]
 ·rw [midI_hi h hj,h]
theorem midI_next{l:List It}{i:Nat}(hi:i<l.length):midI l i i=midI l (i+1) 0:=by
 refine midI_ext (midI_len _ _ _) (fun j x h=>?_)
 by_cases h1:j<i
 ·rw [midI_lo h h1,midI_lo h (by omega)]
 ·by_cases h2:j=i
  ·subst h2;rw [midI_at h,midI_lo h (by omega)]
  ·by_cases h3:j=i+1
   ·subst h3;rw [midI_hi h (by omega),midI_at h];simp [outI,dupI]
   ·rw [midI_hi h (by omega),midI_hi h (by omega)]
theorem midI_end{l:List It}:midI l l.length 0=twI l:=by
 symm;refine midI_ext (twI_len l) (fun j x h=>?_);have hlt:=(List.getElem?_eq_some_iff.1 h).1;rw [midI_lo h hlt,twI_get h]
theorem midI_same{l:List It}{i k:Nat}{x y:It}(hx:l[i]? =some x)(hy:l[k]? =some y)(h:(kinB x y&&decide (y.dt=x.dt))=false):midI l i (k+1)=midI l i k:=by
 refine midI_ext (midI_len _ _ _) (fun j z hz=>?_)
 by_cases h1:j<i
 ·rw [midI_lo hz h1,midI_lo hz h1]
 ·by_cases h2:j=i
  ·subst h2;rw [hx] at hz;obtain rfl:=Option.some.inj hz;rw [midI_at hx,midI_at hx,dupI_take x hy,h,Bool.or_false]
  ·rw [midI_hi hz (by omega),midI_hi hz (by omega)]
theorem midI_out{l:List It}{i k:Nat}{x y:It}(hx:l[i]? =some x)(hy:l[k]? =some y)(h:(kinB x y&&decide (y.dt=x.dt))=true):(midI l i k).set i {x with out:=true}=midI l i (k+1):=by
 refine midI_ext (by rw [List.length_set,midI_len]) (fun j z hz=>?_);have hlt:=(List.getElem?_eq_some_iff.1 hx).1;rw [List.getElem?_set]
 by_cases h1:j<i
 ·rw [if_neg (by omega),midI_lo hz h1,midI_lo hz h1]
 ·by_cases h2:j=i
  ·subst h2;rw [hx] at hz;obtain rfl:=Option.some.inj hz;rw [if_pos rfl,if_pos (by rw [midI_len];exact hlt),midI_at hx,dupI_take x hy,h,Bool.or_true,outI,Bool.or_true]
  ·rw [if_neg (by omega),midI_hi hz (by omega),midI_hi hz (by omega)]
theorem itCs_set:∀ (l:List It) (i:Nat) (x:It),l[i]? =some x->(itCs l).set (i*8+7) (.bool true)=itCs (l.set i {x with out:=true}):=by
 intro l
 induction l with
 |nil=>intro i x h;simp at h
 |cons y l ih=>
  intro i x h;have e:∀ z zs,itCs (z::zs)=itC z++itCs zs:=by intro z zs;simp [itCs]
  cases i with
  |zero=>
   simp at h;subst h;rw [List.set_cons_zero,e,e,List.set_append_left _ _ (by simp [itC])]
   rfl
  |succ i=>
   simp at h;have hl:(itC y).length=8:=rfl;rw [List.set_cons_succ,e,e,List.set_append_right _ _ (by omega),hl,show(i+1)*8+7-8=i*8+7 by omega,ih i x h]
def sortF:Nat->List It->List It
 |0,l=>l
 |n+1,l=>if l.length<2 then l else List.merge (sortF n (l.take (l.length / 2))) (sortF n (l.drop (l.length / 2))) befI
def sortI(l:List It):List It:=sortF l.length l
theorem sortF_small{n:Nat}{l:List It}(h:l.length<2):sortF n l=l:=by
 cases n with
 |zero=>rfl
 |succ n=>rw [sortF,if_pos h]
theorem sortF_big{n:Nat}{l:List It}(h:¬l.length<2):sortF (n+1) l=List.merge (sortF n (l.take (l.length / 2))) (sortF n (l.drop (l.length / 2))) befI:=by rw [sortF,if_neg h]
theorem sortF_perm:∀ (n:Nat) (l:List It),(sortF n l).Perm l:=by
 intro n
 induction n with
 |zero=>intro l;exact .refl _
 |succ n ih=>
  intro l
  by_cases h:l.length<2
  ·rw [sortF_small h]
  ·rw [sortF_big h];have h1:(List.merge (sortF n (l.take (l.length / 2))) (sortF n (l.drop (l.length / 2))) befI).Perm (sortF n (l.take (l.length / 2))++sortF n (l.drop (l.length / 2))):=List.merge_perm_append _;refine h1.trans ?_;refine((ih _).append (ih _)).trans ?_;rw [List.take_append_drop]
theorem sortF_len(n:Nat)(l:List It):(sortF n l).length=l.length:=(sortF_perm n l).length_eq
theorem sortF_mem{n:Nat}{l:List It}{x:It}:x∈sortF n l↔x∈l:=(sortF_perm n l).mem_iff
theorem itCs_take(l:List It)(h:Nat):itCs (l.take h)=(itCs l).take (h*8):=by
 induction l generalizing h with
 |nil=>simp [itCs]
 |cons x l ih=>
  have e:∀ z zs,itCs (z::zs)=itC z++itCs zs:=by intro z zs;simp [itCs]
  have hl:(itC x).length=8:=rfl
  cases h with
  |zero=>simp [itCs]
  |succ h=>
   rw [List.take_succ_cons,e,e,ih,List.take_append,hl,List.take_of_length_le (l:=itC x) (i:=(h+1)*8) (by omega),show(h+1)*8-8=h*8 by omega]
theorem itCs_drop(l:List It)(h:Nat):itCs (l.drop h)=(itCs l).drop (h*8):=by
 induction l generalizing h with
 |nil=>simp [itCs]
 |cons x l ih=>
  have e:∀ z zs,itCs (z::zs)=itC z++itCs zs:=by intro z zs;simp [itCs]
  have hl:(itC x).length=8:=rfl
  cases h with
  |zero=>simp
  |succ h=>
   rw [List.drop_succ_cons,e,ih,List.drop_append,hl,List.drop_of_length_le (l:=itC x) (i:=(h+1)*8) (by omega),show(h+1)*8-8=h*8 by omega,List.nil_append]
theorem cr_take{w:World}{b off n cap h:Nat}{l:List It}(hr:CRow w (.slice (some ⟨b,off,none⟩) n cap) l.length 8 (itCs l))(hh:h<=l.length):CRow w (.slice (some ⟨b,off,none⟩) h cap) (l.take h).length 8 (itCs (l.take h)):=by
 obtain⟨h0,a,c,e,h1,h2,h3⟩:=hr;simp only [Value.slice.injEq] at e;obtain⟨rfl,rfl,rfl⟩:=e;have hl:(l.take h).length=h:=by rw [List.length_take];omega
 rw [hl];refine⟨by rw [itCs_len,hl],_,_,rfl,by omega,h2,fun hp=>⟨b,off,rfl,fun i x hx=>?_⟩⟩;rw [itCs_take] at hx;obtain⟨b',off',e,hc⟩:=h3 (by omega);cases e
 refine hc i x ?_;rw [List.getElem?_take] at hx
 split at hx
 ·exact hx
 ·cases hx
theorem cr_drop{w:World}{b off n cap h:Nat}{l:List It}(hr:CRow w (.slice (some ⟨b,off,none⟩) n cap) l.length 8 (itCs l))(hh:h<l.length):CRow w (.slice (some ⟨b,off+h*8,none⟩) (l.length-h) (cap-h)) (l.drop h).length 8 (itCs (l.drop h)):=by
 obtain⟨h0,a,c,e,h1,h2,h3⟩:=hr;simp only [Value.slice.injEq] at e;obtain⟨rfl,rfl,rfl⟩:=e;have hl:(l.drop h).length=l.length-h:=List.length_drop;rw [hl];refine⟨by rw [itCs_len,hl],_,_,rfl,by omega,by omega,fun hp=>⟨b,off+h*8,rfl,fun i x hx=>?_⟩⟩;rw [itCs_drop,List.getElem?_drop] at hx;obtain⟨b',off',e,hc⟩:=h3 (by omega);cases e
 have:=hc (h*8+i) x hx;rw [Nat.add_assoc];exact this
theorem merge_left{a b:List It}{i:Nat}{x:It}(hx:a[i]? =some x):List.merge (a.drop i) (b.drop b.length) befI=x::List.merge (a.drop (i+1)) (b.drop b.length) befI:=by
 obtain⟨hi,e⟩:=List.getElem?_eq_some_iff.1 hx;rw [List.drop_length,List.merge_right,List.merge_right,List.drop_eq_getElem_cons hi,e]
theorem merge_one{a b:List It}{i k:Nat}{x y:It}(hx:a[i]? =some x)(hy:b[k]? =some y)(h:befI x y=true):List.merge (a.drop i) (b.drop k) befI=x::List.merge (a.drop (i+1)) (b.drop k) befI:=by
 obtain⟨hi,e⟩:=List.getElem?_eq_some_iff.1 hx;obtain⟨hk,e2⟩:=List.getElem?_eq_some_iff.1 hy;rw [List.drop_eq_getElem_cons hi,e,List.drop_eq_getElem_cons hk,e2,List.cons_merge_cons,if_pos h]
theorem merge_two{a b:List It}{i k:Nat}{x y:It}(hx:a[i]? =some x)(hy:b[k]? =some y)(h:befI x y=false):List.merge (a.drop i) (b.drop k) befI=y::List.merge (a.drop i) (b.drop (k+1)) befI:=by
 obtain⟨hi,e⟩:=List.getElem?_eq_some_iff.1 hx;obtain⟨hk,e2⟩:=List.getElem?_eq_some_iff.1 hy;rw [List.drop_eq_getElem_cons hi,e,List.drop_eq_getElem_cons hk,e2,List.cons_merge_cons,if_neg (by simp [h])]
theorem merge_right'{a b:List It}{k:Nat}{y:It}(hy:b[k]? =some y):List.merge (a.drop a.length) (b.drop k) befI=y::List.merge (a.drop a.length) (b.drop (k+1)) befI:=by
 obtain⟨hk,e⟩:=List.getElem?_eq_some_iff.1 hy;rw [List.drop_length,List.nil_merge,List.nil_merge,List.drop_eq_getElem_cons hk,e]
end Go.Proofs.YtahpiciofdfipaaGreat
namespace Go.Proofs.YtahpiciofdfipaaGreat
open Go.RowKit
set_option maxRecDepth 100000 in
set_option maxHeartbeats 800000 in
theorem specIsUnder_any(a b:ByteArray)(w:World)(ha:a.size<=maxLen)(hb:b.size<=maxLen):
 Calls Tryz.prog 13 #[.string a,.string b] w fun e w'=>e=.returned (.bool (isUnderS a b))∧Below w.heap.size w w':=by
 have hsa:=l01Split_any a w ha;have hsb:=fun W=>l01Split_any b W hb
 cases hqa:Nm.split a with
 |none=>
  have HA:=Nm.hide (isUnder_left (b:=b) hqa);rw [hqa] at hsa;clear hqa;go_enter Tryz.func13,Tryz.ntmps13;go_wp2_with fail
  refine hsa.mono ?_;rintro e w1 ⟨v,rfl,hown,hbel⟩;go_wp2_with fail
  refine(hsb _).mono ?_;rintro e w2 ⟨v2,rfl,hown2,hbel2⟩;go_wp2;go_ret;rw [HA.out]
  exact⟨rfl,Nm.below_two hbel hbel2⟩
 |some xs=>
  rw [hqa] at hsa
  cases hqb:Nm.split b with
  |none=>
   have HA:=Nm.hide (isUnder_right (a:=a) hqb);rw [hqb] at hsb;clear hqa hqb;go_enter Tryz.func13,Tryz.ntmps13;go_wp2_with fail
   refine hsa.mono ?_;rintro e w1 ⟨v,rfl,hown,hbel⟩;go_wp2_with fail
   refine(hsb _).mono ?_;rintro e w2 ⟨v2,rfl,hown2,hbel2⟩;go_wp2;go_ret;rw [HA.out]
   exact⟨rfl,Nm.below_two hbel hbel2⟩
  |some ys=>
   have HA:=Nm.hide (isUnder_some hqa hqb);have hund:=under_same hqa hqb;have hza:=Nm.split_size hqa;have hzb:=Nm.split_size hqb;have hla:=Nm.length_le_wsum xs;have hlb:=Nm.length_le_wsum ys;rw [hqb] at hsb;clear hqa hqb;go_enter Tryz.func13,Tryz.ntmps13;go_wp2_with fail
   refine hsa.mono ?_;rintro e w1 ⟨v,rfl,hown,hbel⟩;go_wp2_with fail
   refine(hsb _).mono ?_;rintro e w2 ⟨v2,rfl,hown2,hbel2⟩;have r1:=(Nm.SRow.of_owns hown).below hbel2;have r2:=Nm.SRow.of_owns hown2;simp only [Option.getD_some] at r1 r2;have hbw:=Nm.below_two hbel hbel2;obtain⟨a1,cap1,rfl,hcap1,hmx1,hnl1,hc1⟩:=r1;obtain⟨a2,cap2,rfl,hcap2,hmx2,hnl2,hc2⟩:=r2;have hrow:Nm.SRow w2 (.slice a1 xs.length cap1) xs:=⟨a1,cap1,rfl,hcap1,hmx1,hnl1,hc1⟩;clear hown hown2 hsa hsb hnl1 hnl2 hbel hbel2 hc1 hc2
   by_cases hl:xs.length<ys.length
   ·have HU:=Nm.hide (under_short hl);have hd:decide (xs.length<ys.length)=true:=by simpa using hl
    clear hrow;go_wp2;go_ret;rw [HA.out,HU.out];exact⟨rfl,hbw⟩
   ·have HU:=Nm.hide (hund (by omega))
    have hss:=fun W=>specSameName_any ⟨(Nm.joinL (xs.drop (xs.length-ys.length))).toArray⟩ b W (by
     show(Nm.joinL (xs.drop (xs.length-ys.length))).toArray.size<=maxLen
     rw [List.size_toArray,Nm.joinL_length];have:=Nm.wsum_drop_le xs (xs.length-ys.length);unfold maxLen
     omega) hb
    obtain⟨d,hd⟩:∃ d,d=xs.length-ys.length:=⟨_,rfl⟩;rw [<- hd] at HU hss;have hq:(xs.length:Int)-(ys.length:Int)=(d:Int):=by omega
    have hdl:d<=xs.length:=by omega
    have hyx:ys.length<=xs.length:=by omega
    have hwd:=Nm.wsum_drop_le xs d;have hjn:=fun V hr=>l01Join_any V (xs.drop d) w2 hr (by omega)
    have hd1:=fun e:cap1=d=>hrow.drop_all e
    have hd2:=hrow.drop (k:=d) hdl;have hdd:decide (xs.length<ys.length)=false:=by simp;omega
    generalize ByteArray.mk (Nm.joinL (xs.drop d)).toArray=J at*;clear hd hl hrow hund
    by_cases hck:cap1=d
    ·have Hc:=hjn _ (hd1 hck);clear hjn hd1 hd2;subst hck;rw [show xs.length-cap1=0 by omega] at Hc;go_wp2_with fail
     refine Hc.mono ?_;rintro e w3 ⟨rfl,hbel3⟩;go_wp2_with fail
     refine(hss _).mono ?_;rintro e w4 ⟨rfl,hbel4⟩;go_wp2;go_ret;rw [HA.out,<- HU.out];exact⟨rfl,Nm.below_two hbw (Nm.below_two hbel3 hbel4)⟩
    ·have Hc:=hjn _ hd2;clear hjn hd1 hd2;go_wp2_with fail
     refine Hc.mono ?_;rintro e w3 ⟨rfl,hbel3⟩;go_wp2_with fail
     refine(hss _).mono ?_;rintro e w4 ⟨rfl,hbel4⟩;go_wp2;go_ret;rw [HA.out,<- HU.out];exact⟨rfl,Nm.below_two hbw (Nm.below_two hbel3 hbel4)⟩
end Go.Proofs.YtahpiciofdfipaaGreat
namespace Go.Proofs.YtahpiciofdfipaaGreat
open Go.RowKit
set_option linter.unusedVariables false
def ru1(l:List It)(fo:ByteArray)(i:Nat)(x:It):Bool:= !x.out&&decide (x.r.ty=6)&&(decide (x.fo≠fo)||hasI (l.take i) fo 6)
def ru2(x:It):Bool:= !x.out&&starB x.fo&&(decide (x.r.ty=2)||decide (x.r.ty=39))
def ru3(l:List It)(i:Nat)(x:It):Bool:= !x.out&&(decide (x.r.ty=5)||decide (x.r.ty=39))&&hasI (l.take i) x.fo x.r.ty
def ru4(l:List It)(x:It):Bool:= !x.out&&decide (x.r.ty≠5)&&decide (x.r.ty≠47)&&hasI l x.fo 5
def be5(x y:It):Bool:= !y.out&&decide (y.r.ty=39)&&decide (y.fo≠x.fo)&&isUnderS x.fo y.fo
def ru5(l:List It)(x:It):Bool:= !x.out&&l.any fun y=>be5 x y
theorem rulesI_eq(l:List It)(fo:ByteArray):rulesI l fo=
 match firstI (ru1 l fo) l with
 |some i=>(20,i)
 |none=>if !hasI l fo 6 then(20,-1) else if !hasI l fo 2 then(21,-1) else
  match firstI (fun _ x=>ru2 x) l with
  |some i=>(26,i)
  |none=>match firstI (ru3 l) l with
   |some i=>(23,i)
   |none=>match firstI (fun _ x=>ru4 l x) l with
    |some i=>(23,i)
    |none=>match firstI (fun _ x=>ru5 l x) l with
     |some i=>(25,i)
     |none=>(0,0):=rfl
theorem first_next{p:Nat->It->Bool}{l:List It}{k:Nat}{x:It}(hno:∀ (i:Nat) (y:It),i<k->l[i]? =some y->p i y=false)(hk:l[k]? =some x)(hp:p k x=false):∀ (i:Nat) (y:It),i<k+1->l[i]? =some y->p i y=false:=by
 intro i y hi hy
 by_cases h:i=k
 ·subst h;rw [hk] at hy;obtain rfl:=Option.some.inj hy;exact hp
 ·exact hno i y (by omega) hy
theorem any_next{p:It->Bool}{l:List It}{k:Nat}{y:It}(h:(l.take k).any p=false)(hk:l[k]? =some y)(hp:p y=false):(l.take (k+1)).any p=false:=by
 obtain⟨hi,e⟩:=List.getElem?_eq_some_iff.1 hk;rw [List.take_succ_eq_append_getElem hi,e,List.any_append,h];simp [hp]
set_option maxRecDepth 100000 in
set_option maxHeartbeats 1600000 in
theorem l06Starred_any(s:ByteArray)(w:World)(hs:s.size<=maxLen):Calls Tryz.prog 70 #[.string s] w fun e w'=>e=.returned (.bool (starB s))∧w'=w:=by
 unfold maxLen at hs;obtain⟨Q,hQ⟩:∃ Q,Q=starB s:=⟨_,rfl⟩;rw [<- hQ];unfold starB at hQ
 by_cases h1:1<s.size
 ·have i1:(1:Int)<(s.size:Int):=by omega
  rw [decide_eq_true h1,Bool.true_and,<- ba_eq] at hQ;have HQ:=Nm.hide hQ;clear hQ;go_enter Tryz.func70,Tryz.ntmps70;go_wp2;go_ret;exact⟨by rw [HQ.out,show(⟨#[1,42]⟩:ByteArray).toList=[1,42] from by rw [ByteArray.toList_eq]];rfl,rfl⟩
 ·have i1:(s.size:Int)<=1:=by omega
  rw [decide_eq_false h1,Bool.false_and] at hQ;subst hQ;go_enter Tryz.func70,Tryz.ntmps70;go_wp2;go_ret;exact⟨rfl,rfl⟩
end Go.Proofs.YtahpiciofdfipaaGreat
namespace Go.Proofs.YtahpiciofdfipaaGreat
open Go.RowKit Go.Shelf
set_option linter.unusedVariables false
attribute [local go_sem] Oper.semAt_some
def RwsI{α:Type}(kf:α->Int)(vf:α->Addr)(n₀:Nat)(W:World)(sv:Value)(zs:List α):Prop:=
 (sv=.slice none 0 0∧zs=[])∨∃ b off cap,sv=.slice (some ⟨b,off,none⟩) zs.length cap∧b<n₀∧(zs.length<=cap∧cap<=maxLen)∧
  ∀ (i:Nat) (x:α),zs[i]? =some x->W.cell? ⟨b,off+i*2,none⟩=some (Value.int .i64 (kf x))∧W.cell? ⟨b,off+i*2+1,none⟩=some (Value.pointer (some (vf x)))
theorem RwsI.below{α:Type}{kf:α->Int}{vf:α->Addr}{n₀:Nat}{W W':World}{sv:Value}{zs:List α}(h:RwsI kf vf n₀ W sv zs)(hB:Below n₀ W W'):RwsI kf vf n₀ W' sv zs:=by
 rcases h with h|⟨b,off,cap,e,hb,hcp,hc⟩
 ·exact .inl h
 ·exact .inr ⟨b,off,cap,e,hb,hcp,fun i x hx=>⟨(hB.cell (p:=⟨b,off+i*2,none⟩) hb).trans (hc i x hx).1,(hB.cell (p:=⟨b,off+i*2+1,none⟩) hb).trans (hc i x hx).2⟩⟩
theorem rwsI_own{α:Type}(kf:α->Int)(vf:α->Addr){w:World}{B e:Nat}{v:Value}(zs:List α)(h:w.ownsRow B e 2 v zs.length (rowCs (zs.map fun x=>((Value.int .i64 (kf x)),(Value.pointer (some (vf x))))))):RwsI kf vf w.heap.size w v zs:=by
 have h':=h
 rcases h.2 with⟨rfl,h0⟩|⟨q,cap,cur,rfl,hb,hh,hc1,hc2,hcs,ht⟩
 ·exact .inl ⟨rfl,List.length_eq_zero_iff.1 h0⟩
 ·refine .inr ⟨q,0,cap,rfl,(Array.getElem?_eq_some_iff.1 hh).1,⟨hc1,hc2⟩,fun i x hx=>?_⟩;have hi:=(List.getElem?_eq_some_iff.1 hx).1;have hm:(zs.map fun x=>((Value.int .i64 (kf x)),(Value.pointer (some (vf x)))))[i]? =some ((Value.int .i64 (kf x)),(Value.pointer (some (vf x)))):=by simp [hx]
  have a0:=rowCs_at _ i 0 _ hm (by decide);have a1:=rowCs_at _ i 1 _ hm (by decide);have c0:=h'.cellAt (i*2) (by omega);have c1:=h'.cellAt (i*2+1) (by omega);exact⟨by rw [Nat.zero_add,c0];exact a0,by rw [Nat.zero_add,c1];exact a1⟩
set_option maxRecDepth 100000 in
set_option maxHeartbeats 2000000 in
theorem all1nI_in{α:Type}(F:Fence)(n:Nat)(h7:F.fn 118)(hro:F.round=none)(l tb g:Nat)(J:List α->World->Prop)(W:World)
 (kb:W.cell? ⟨tb,0,none⟩=some (.pointer (some ⟨g,0,none⟩))) (kg:W.cell? ⟨g,1,none⟩=some (.slice none 0 0)) (h0:J [] W):
 CallsIn F n Tryz.prog 118 #[.func (.yield l) #[] #[],.pointer (some ⟨tb,0,none⟩)] W fun e W'=>(∃ v,e=.returned v)∧J [] W':=by
 refine callsIn_of_wp Tryz.func118 rfl h7 ?_ hro;simp only [Tryz.ntmps118,List.size_toArray,List.length_cons,List.length_nil,Nat.reduceAdd,Nat.reduceSub,Array.replicate_succ,Array.replicate_zero,List.push_toArray,List.append_toArray,List.nil_append,List.cons_append]
 gi_wp2
 gi_loopw [10] (fun i wr=>i=.int .i64 0∧J [] wr) (fun _ _=>0)
 case atStart=>exact⟨rfl,h0⟩
 case round=>
  obtain⟨rfl,hJs⟩:=hrel
  gi_wp2
  go_end0
  exact⟨⟨_,rfl⟩,hJs⟩
set_option maxRecDepth 100000 in
set_option maxHeartbeats 2000000 in
theorem allI_in(F:Fence)(n:Nat)(h6:F.fn 84)(hro:F.round=none)(p:Option Addr)(w:World):
 CallsIn F n Tryz.prog 84 #[.pointer p] w fun e w'=>e=.returned (.func (.func 118) #[] #[.pointer (some ⟨w.heap.size,0,none⟩)])∧w'=w.alloc (.cells #[.pointer p] 110):=by
 refine callsIn_of_wp Tryz.func84 rfl h6 ?_ hro;simp only [Tryz.ntmps84,List.size_toArray,List.length_cons,List.length_nil,Nat.reduceAdd,Nat.reduceSub,Array.replicate_succ,Array.replicate_zero,List.push_toArray,List.append_toArray,List.nil_append,List.cons_append]
 gi_wp2
 go_ret;exact⟨rfl,rfl⟩
theorem allStopsI{α:Type}(kf:α->Int)(vf:α->Addr)(F:Fence)(n:Nat)(h7:F.fn 118)(hro:F.round=none)(hn:1<=n)(tb g n₀:Nat)(sv:Value)(zs:List α)(hl:zs.length<=1000000)(w:World)(htb:tb<w.heap.size)(hg:g<n₀)(hn₀:n₀<=w.heap.size)
 (kb:w.cell? ⟨tb,0,none⟩=some (.pointer (some ⟨g,0,none⟩))) (kg:w.cell? ⟨g,1,none⟩=some sv) (hR:RwsI kf vf n₀ w sv zs):
 SeqStopsK F n Tryz.prog 118 #[.pointer (some ⟨tb,0,none⟩)] (fun x:α=>#[(Value.int .i64 (kf x)),(Value.pointer (some (vf x)))]) (Below n₀) (fun ys=>ys=zs) (fun pre=>pre<+:zs) zs.length w:=fun l J Jx W hW hJ _ hY h0=>by
 have kb':=(hW.cell (p:=⟨tb,0,none⟩) htb).trans kb;have kg':=(hW.cell (p:=⟨g,1,none⟩) (Nat.lt_of_lt_of_le hg hn₀)).trans kg
 rcases hR.below (hW.mono hn₀) with⟨rfl,rfl⟩|⟨b,off,cap,rfl,hb,hcp,hcs⟩
 ·exact(all1nI_in F n h7 hro l tb g J W kb' kg' h0).mono fun e W' ⟨he,hj⟩=>⟨he,.inl ⟨_,rfl,hj⟩⟩
 ·exact all1I_in kf vf F n h7 hro hn l tb g n₀ b off cap (.pointer none) zs hl hcp hb J Jx (fun s W1 W2 hs hgr=>hJ s W1 W2 none hs hgr (fun r e=>by cases e)) hY W kb' kg' hcs (Nat.le_trans hn₀ hW.size) h0
end Go.Proofs.YtahpiciofdfipaaGreat
namespace Go.Proofs.YtahpiciofdfipaaGreat
open Go.RowKit
def DfP(w:World)(e:Ending)(w':World):Prop:=∃ (o name:ByteArray) (v:Value) (ps:List Zp),e=.returned (.tuple #[.agg #[.string o,v],.string name])∧o.size<=2000∧name.size<=2000∧ZL ps∧ZRow w' v ps∧Below w.heap.size w w'
end Go.Proofs.YtahpiciofdfipaaGreat
namespace Go.Proofs.YtahpiciofdfipaaGreat
open Go.RowKit
set_option linter.unusedVariables false
theorem own_some{w:World}{B e s n:Nat}{v:Value}{xs:List Value}(h:w.ownsRow B e s v n xs)(hn:0<n):∃ g c,v=.slice (some ⟨g,0,none⟩) n c:=by
 rcases h.2 with⟨_,h0⟩|⟨g,c,_,e,_⟩
 ·omega
 ·exact⟨g,c,e⟩
theorem run_append_none{P:Program}{t ty e:TypeId}{i:TypeInfo}(ht:P.underlying t=some (.slice e))(hi:P.info? e=some i)(ad:Option Addr)(n c:Nat)(hn:n<=c)(w:World):
 (Builtin.append_ #[t,t] ty #[.slice ad n c,.slice none 0 0]).run P w=.ok (.slice ad n c) w:=by
 have hs:Go.Src P i.size t (.slice none 0 0) 0 [] w:=Go.Src.ofNil w ht 0
 cases ad with
 |none=>simp [Builtin.append_,run_underlying ht,sizeOf,typeInfo,hi,hs.len,hn,hs.cells]
 |some a=>simp [Builtin.append_,run_underlying ht,sizeOf,typeInfo,hi,hs.len,hn,hs.cells,storeCells]
theorem wpList_append_none{P:Program}{ops:Array Oper}{rest:List Oper}{o:Oper}{a:Act}{Q:Exit->Act->World->Prop}(w:World)(hgd:o.guard=none)(s x:Operand)(t:TypeId)
 (ho:o.op=.call {callee:=.builtin .append,args:=#[s,x],argTypes:=#[t,t]}) (e:TypeId) (i:TypeInfo) (ht:P.underlying t=some (.slice e)) (hi:P.info? e=some i) (ad:Option Addr) (n c:Nat)
 (hs:a.eval s=.slice ad n c) (hx:a.eval x=.slice none 0 0) (hn:n<=c) (h:wpList P ops Q rest (a.put o.dst (.slice ad n c)) w):wpList P ops Q (o::rest) a w:=by
 refine wpList_plain hgd fun K hK=>?_
 have hr:=run_append_none (P:=P) (ty:=o.type) ht hi ad n c hn w;unfold Oper.wp execOp;simp only [ho,resolve,invoke,builtin,Sem.run_bind,Sem.run_pure,Result.andThen_ok,List.map_toArray,List.map_cons,List.map_nil,hs,hx,hr];exact hK _ _ h
set_option maxRecDepth 100000 in
set_option maxHeartbeats 3200000 in
theorem implZoneRecords_any(o:ByteArray)(v:Value)(ps:List Zp)(w:World)(h:ZRow w v ps)(hs:zsum ps<=1048576)(hf:∀ p∈ps,∀ x∈p.1.da,x.size<=1048576):
 Calls Tryz.prog 45 #[.agg #[.string o,v]] w fun e w'=>∃ u,e=.returned u∧w'.ownsRow w.heap.size 79 5 u (zoneRecs ps).length (rvVs (zoneRecs ps))∧Below w.heap.size w w':=by
 obtain⟨i0,hi,hz0,hz1,hz2⟩:=info_parts Tryz.infoRri
 have hpl:∀ p∈ps,p.1.own.size<=1048576∧p.1.da.length<=1048576:=by
  intro p hp;have:=zsum_mem ps p hp;unfold zs1 at this;omega
 obtain⟨RS,hRS⟩:∃ R,R=zoneRecs ps:=⟨_,rfl⟩;rw [<- hRS];unfold zoneRecs at hRS;have hB0:=(Below.refl w.heap.size w).alloc (Nat.le_refl _) (.cells #[.string o,v] 25);have hbx:=blk_new w #[.string o,v] 25;have hrowW:=h;have hsm:=isSmall_any o v ps _ (h.below hB0) (fun p hp=>(hpl p hp).2);obtain⟨⟨_,a,cap,rfl,hcap,hmx,_⟩,_⟩:=h;unfold maxLen at hmx
 by_cases hsmall:ps.length<=500∧dsum ps<=500
 ·rw [decide_eq_true hsmall] at hsm;have hRS2:RS=recsAll ps:=by rw [hRS,if_neg (by omega)]
  obtain⟨hs1,hs2⟩:=hsmall;have hs1':(ps.length:Int)<=500:=by omega
  clear hRS;have hdd:∀ k,dsum (ps.take k)<=500:=fun k=>by have:=dsum_take_le ps k;omega
  have hrl:=fun k=>recsAll_len (ps.take k)
  have hstep:=fun(k:Nat) (x:Zp) (h:ps[k]? =some x)=>recsAll_step h
  have hdst:=fun(k:Nat) (x:Zp) (h:ps[k]? =some x)=>dsum_step ps k x h
  go_enter Tryz.func45,Tryz.ntmps45;go_wp2_with (go_at_call 72;refine hsm.mono ?_;rintro e w1 ⟨rfl,hb1⟩;have q1:w1.cell? ⟨w.heap.size,1,none⟩=some (.slice a ps.length cap):=(blk_cell (blk_below hbx hb1) 1).trans rfl)
  have hB1:=Nm.below_two hB0 hb1;clear hsm hB0 hbx hb1 q1
  go_loopw [3,12] (fun vo vi wr=>∃ k:Nat,k<=ps.length∧vi=.int .i64 k∧wr.ownsRow w.heap.size 79 5 vo (recsAll (ps.take k)).length (rvVs (recsAll (ps.take k)))∧Below w.heap.size w wr) (fun _ vi _=>ps.length-(intOf vi).toNat)
  case atStart=>exact⟨0,Nat.zero_le _,rfl,⟨rfl,.inl ⟨rfl,rfl⟩⟩,hB1⟩
  case round=>
   obtain⟨k,hk,rfl,oO,hbel⟩:=hrel;clear hB1
   by_cases hlt:k<ps.length
   ·obtain⟨x,hxk⟩:∃ x,ps[k]? =some x:=⟨_,List.getElem?_eq_getElem hlt⟩;obtain⟨⟨_,a',cap',hv,_,_,hc⟩,hsr⟩:=hrowW.below hbel;simp only [Value.slice.injEq] at hv;obtain⟨rfl,_,rfl⟩:=hv;obtain⟨b,off,rfl,hcell⟩:=hc (by omega);obtain⟨c0,c1,c2,c3⟩:=zp_cells hcell hxk;have hmem:=List.mem_of_getElem? hxk;obtain⟨dva,dvc,hdv⟩:∃ a c,x.2=.slice a x.1.da.length c:=by obtain⟨a,c,e,_⟩:=hsr x hmem;exact⟨a,c,e⟩
    have hBa:=(Below.refl wr.heap.size wr).alloc (Nat.le_refl _) (.cells #[.string x.1.own,.int .i64 x.1.ty,.int .i64 x.1.tt,x.2] 44);have hone:=records_any x.1 x.2 _ ((hsr x hmem).below hBa) (hpl x hmem).2 (hpl x hmem).1 (hf x hmem);have hbl:Below w.heap.size w (wr.alloc (.cells #[.string x.1.own,.int .i64 x.1.ty,.int .i64 x.1.tt,x.2] 44)):=hbel.alloc hbel.size _;have oO1:=own_below oO hBa;have hsp:=hstep k x hxk;have hld:=hdst k x hxk;have hd1:=hdd (k+1);have hl0:=hrl k;have hl1:=recsOf_len x.1;have i1:(0:Int)<=(k:Int):=by omega
    have i2:(k:Int)<(ps.length:Int):=by omega
    have hlen:(recsAll (ps.take k)).length+(recsOf x.1).length<=500:=by omega
    have HT:Hid (rvVs (recsAll (ps.take k))++rvVs (recsOf x.1)=rvVs (recsAll (ps.take (k+1)))):=by show _=_;rw [hsp,rvVs_app]
    have HL:Hid ((recsAll (ps.take k)).length+(recsOf x.1).length=(recsAll (ps.take (k+1))).length):=by show _=_;rw [hsp,List.length_append]
    have h1c:=rvs_one (recsOf x.1);have hrlen:=rvVs_len (recsOf x.1);have hemp:x.1.da=[]->recsOf x.1=[]:=by intro h;simp [recsOf,h]
    clear hcell hc hsr hstep hdst hrl hdd hsp hld hl0 hmem hxk;generalize recsAll (ps.take k)=R0 at*;generalize hR1:recsAll (ps.take (k+1))=R1 at*;generalize recsOf x.1=R2 at*
    by_cases hda:x.1.da=[]
    ·have hR2:=hemp hda;subst hR2;have hone2:Calls Tryz.prog 73 #[.agg #[.string x.1.own,.int .i64 x.1.ty,.int .i64 x.1.tt,x.2]] (wr.alloc (.cells #[.string x.1.own,.int .i64 x.1.ty,.int .i64 x.1.tt,x.2] 44)) fun e w'=>e=.returned (.slice none 0 0)∧Below (wr.alloc (.cells #[.string x.1.own,.int .i64 x.1.ty,.int .i64 x.1.tt,x.2] 44)).heap.size (wr.alloc (.cells #[.string x.1.own,.int .i64 x.1.ty,.int .i64 x.1.tt,x.2] 44)) w':=hone.mono (by rintro e w' ⟨u,rfl,_,hn,hb⟩;exact⟨by rw [hn hda],hb⟩)
     clear hone hda hemp;obtain⟨⟨o1,ty,tt,da⟩,dv⟩:=x;simp only at c0 c1 c2 c3 hone2 hbl oO1 hdv
     subst hdv;obtain⟨oa,oc,hov⟩:=own_sl oO;subst hov
     have hoc:R0.length<=oc:=by
      rcases oO.2 with⟨h0,h1⟩|⟨g,c,_,h0,_,_,h1,_⟩
      ·rw [h1];exact Nat.zero_le _
      ·simp only [Value.slice.injEq] at h0;omega
     go_wp2_with (first|(go_at_call 73;refine hone2.mono ?_;rintro e w2 ⟨rfl,hb2⟩;have oO2:=own_below oO1 hb2;have hbb:=Nm.below_two hbl hb2)|(at_builtin;refine wpList_append_none _ rfl (.tmp 16) (.tmp 18) 49 rfl 79 i0 Tryz.underlying49 hi oa R0.length oc rfl rfl hoc ?_))
     have eT:=HT.out;rw [show rvVs ([]:List Rr)=[] from rfl,List.append_nil] at eT;have ho9:=oO2;rw [eT] at ho9;have hL:=HL.out;simp at hL;go_roundw
     case rel=>exact⟨k+1,by omega,by go_num,by rw [hR1,<- hL];exact ho9,hbb⟩
     case measure=>simp [intOf];omega
    ·have hm:0<R2.length:=by
      rw [hl1]
      cases hq:x.1.da with
      |nil=>exact absurd hq hda
      |cons _ _=>simp
     clear hemp hda hl1;obtain⟨⟨o1,ty,tt,da⟩,dv⟩:=x;simp only at c0 c1 c2 c3 hone hbl oO1 hdv
     subst hdv;obtain⟨oa,oc,hov⟩:=own_sl oO;subst hov;go_wp2_with (first|(go_at_call 73;refine hone.mono ?_;rintro e w2 ⟨u,rfl,hu,_,hb2⟩;obtain⟨ug,uc,hg⟩:=own_some hu hm;subst hg;have oO2:=own_below oO1 hb2;have hbb:=Nm.below_two hbl hb2)|(at_builtin;refine wpList_append_own _ rfl (.tmp 16) (.tmp 18) 49 rfl w.heap.size 79 i0 _ 5 56 Tryz.underlying49 hi hz0 hz1 hz2 rfl (by decide) (.slice oa R0.length oc) R0.length (rvVs R0) rfl oO2 ⟨ug,0,none⟩ R2.length uc (rvVs R2) rfl hrlen (fun j y hy=>by rw [Nm.addr_add,Nat.zero_add,hu.cellAt j (by have:=(List.getElem?_eq_some_iff.1 hy).1;omega)];exact hy) h1c (by unfold maxLen;omega) (by omega) hbb.size ?_;intro va wa ho9 hg9 hnl9))
     rw [HT.out,HL.out] at ho9;have b9:Below w.heap.size w wa:=hbb.grown hg9 hbb.size (fun g hg=>(oO2.lt g hg).1);go_wp2;go_roundw
     case rel=>exact⟨k+1,by omega,by go_num,by rw [hR1];exact ho9,b9⟩
     case measure=>simp [intOf];omega
   ·have hkl:k=ps.length:=by omega
    subst hkl;have i2:(ps.length:Int)<=(ps.length:Int):=by omega
    rw [List.take_length,<- hRS2] at oO;clear hrowW hstep hdst hrl hdd hRS2 hpl hf;go_wp2;go_ret;exact⟨_,rfl,oO,hbel⟩
 ·rw [decide_eq_false hsmall] at hsm;obtain rfl:RS=[]:=by rw [hRS,if_pos (by omega)]
  clear hRS hrowW hsmall;go_enter Tryz.func45,Tryz.ntmps45;go_wp2_with (go_at_call 72;refine hsm.mono ?_;rintro e w1 ⟨rfl,hb1⟩)
  go_ret;exact⟨_,rfl,⟨rfl,.inl ⟨rfl,rfl⟩⟩,Nm.below_two hB0 hb1⟩
end Go.Proofs.YtahpiciofdfipaaGreat
namespace Go.Proofs.YtahpiciofdfipaaGreat
open Go.RowKit
end Go.Proofs.YtahpiciofdfipaaGreat
namespace Go.Proofs.YtahpiciofdfipaaGreat
open Go.RowKit
def CodeIn(w:World)(a:Option Addr)(n:Nat):Prop:=
 n=0∨∃ b off,a=some ⟨b,off,none⟩∧∀ i,i<n->∃ c:Int,w.cell? ⟨b,off+i,none⟩=some (.int .u8 c)∧0<=c∧c<256
def Beg(w wr:World)(a:Option Addr)(n cap:Nat)(st:Int):Prop:=
 wr.heap[w.heap.size]? =some (.cells #[.slice none 0 0,.int .i64 0,.int .u64 0] 66 (0,0))∧
 wr.heap[w.heap.size+1]? =some (.cells #[.slice a n cap,.int .i64 0,.int .u64 st] 66 (0,0))∧Below w.heap.size w wr
theorem beg_set{w wr:World}{a:Option Addr}{n cap:Nat}{st:Int}(h:Beg w wr a n cap st)(s2:Int):Beg w (wr.setCell ⟨w.heap.size+1,2,none⟩ (.int .u64 s2)) a n cap s2:=by
 obtain⟨h1,h2,h3⟩:=h;refine⟨?_,?_,h3.setCell (by simp) _⟩
 ·rw [heap_setCell_other wr ⟨w.heap.size+1,2,none⟩ w.heap.size _ (by simp)];exact h1
 ·rw [heap_setCell_same wr (w.heap.size+1) 2 _ _ _ h2];rfl
theorem beg_drew{w wr:World}{a:Option Addr}{n cap:Nat}{st:Int}(h:Beg w wr a n cap st):Beg w wr.drew a n cap st:=⟨h.1,h.2.1,h.2.2.drew⟩
set_option maxRecDepth 100000 in
set_option maxHeartbeats 400000 in
theorem l01Begin_any(a:Option Addr)(n cap:Nat)(w:World)(h:CodeIn w a n)(hn:n<=1048576):
 Calls Tryz.prog 28 #[.slice a n cap] w fun e w'=>∃ st:Int,e=.returned (.agg #[.slice a n cap,.int .i64 0,.int .u64 st])∧Below w.heap.size w w':=by
 go_enter Tryz.func28,Tryz.ntmps28;go_wp2
 go_loopw [4] (fun i wr=>∃ (k:Nat) (st:Int),k<=n∧i=.int .i64 k∧Beg w wr a n cap st) (fun i _=>n-(intOf i).toNat)
 case atStart=>
  refine⟨0,1469598103934665603,Nat.zero_le _,rfl,?_,?_,((Below.refl _ _).alloc (Nat.le_refl _) _).alloc (by simp) _⟩
  ·exact((MapKept.heap_alloc (w.alloc _) _).2 _ (by simp)).trans (heap_alloc_new w _)
  ·have:=heap_alloc_new (w.alloc (.cells #[.slice none 0 0,.int .i64 0,.int .u64 0] 66 (0,0))) (.cells #[.slice a n cap,.int .i64 0,.int .u64 1469598103934665603] 66 (0,0));rw [World.size_alloc] at this;exact this
 case round=>
  obtain⟨k,st,hk,rfl,hbeg⟩:=hrel;have HB:=fun s2=>Nm.hide (beg_set hbeg s2)
  have HB0:=Nm.hide hbeg.2.2;obtain⟨hb0,hb1,hbel⟩:=hbeg;have c0:=cell_of_row wr (w.heap.size+1) 0 _ _ _ hb1;have c1:=cell_of_row wr (w.heap.size+1) 1 _ _ _ hb1;have c2:=cell_of_row wr (w.heap.size+1) 2 _ _ _ hb1;have f2:=frozen_of_row wr (w.heap.size+1) 2 _ _ hb1;have e0:=cell_of_row wr w.heap.size 0 _ _ _ hb0;have e1:=cell_of_row wr w.heap.size 1 _ _ _ hb0;have e2:=cell_of_row wr w.heap.size 2 _ _ _ hb0;have g0:=frozen_of_row wr w.heap.size 0 _ _ hb0;have g1:=frozen_of_row wr w.heap.size 1 _ _ hb0;have g2:=frozen_of_row wr w.heap.size 2 _ _ hb0;simp at c0 c1 c2 e0 e1 e2
  by_cases hlt:k<n
  ·obtain⟨b,off,rfl,hcode⟩:=h.resolve_left (by omega);obtain⟨c,hc,hc0,hc1⟩:=hcode k hlt;have hbl:=World.block_lt_of_cell? w _ hc;have hcr:=(hbel.cell hbl).trans hc;clear hb0 hb1 hbel hcode hc h;go_wp2;go_region
   go_wp2;go_roundw
   case rel=>exact⟨k+1,_,by omega,by go_num,beg_drew (HB _).out⟩
   case measure=>simp [intOf];omega
  ·have hke:k=n:=by omega
   subst hke;clear hb0 hb1 hbel h;have r0:=fun v=>World.cell?_setCell_same wr ⟨w.heap.size,0,none⟩ v e0
   have r1:=fun u v=>World.cell?_setCell_same (wr.setCell ⟨w.heap.size,0,none⟩ u) ⟨w.heap.size,1,none⟩ v ((World.cell?_setCell_other wr ⟨w.heap.size,0,none⟩ ⟨w.heap.size,1,none⟩ u (by simp)).trans e1)
   have r2:=fun t u v=>World.cell?_setCell_same ((wr.setCell ⟨w.heap.size,0,none⟩ t).setCell ⟨w.heap.size,1,none⟩ u) ⟨w.heap.size,2,none⟩ v ((World.cell?_setCell_other _ ⟨w.heap.size,1,none⟩ ⟨w.heap.size,2,none⟩ u (by simp)).trans ((World.cell?_setCell_other wr ⟨w.heap.size,0,none⟩ ⟨w.heap.size,2,none⟩ t (by simp)).trans e2))
   go_wp2;refine bodyPost_ret (v:=.agg #[.slice a k cap,.int .i64 0,.int .u64 st]) ?_ rfl ⟨st,rfl,((HB0.out.setCell (Nat.le_refl _) _).setCell (Nat.le_refl _) _).setCell (Nat.le_refl _) _⟩;simp [results,Tryz.results28,go_sem,r0,r1,r2,Result.andThen]
end Go.Proofs.YtahpiciofdfipaaGreat
namespace Go.Proofs.YtahpiciofdfipaaGreat
open Go.RowKit
theorem code_below{w w1:World}{a:Option Addr}{n:Nat}(h:CodeIn w a n)(hb:Below w.heap.size w w1):CodeIn w1 a n:=by
 rcases h with h|⟨b,off,e,hc⟩
 ·exact .inl h
 ·refine .inr ⟨b,off,e,fun j hj=>?_⟩;obtain⟨c,hc1,hc2⟩:=hc j hj;exact⟨c,(hb.cell (World.block_lt_of_cell? w _ hc1)).trans hc1,hc2⟩
theorem code_at{w w1:World}{a:Option Addr}{n:Nat}(h:CodeIn w a n)(hb:Below w.heap.size w w1):CodeAt w1 w.heap.size a n:=by
 rcases h with h|⟨b,off,e,hc⟩
 ·exact .inl h
 ·rcases Nat.eq_zero_or_pos n with hn|hn
  ·exact .inl hn
  refine .inr ⟨b,off,e,?_,fun j hj=>?_⟩
  ·obtain⟨c,hc1,_⟩:=hc 0 hn;have:b<w.heap.size:=World.block_lt_of_cell? w _ hc1;omega
  ·obtain⟨c,hc1,hc2⟩:=hc j hj;exact⟨c,(hb.cell (World.block_lt_of_cell? w _ hc1)).trans hc1,hc2⟩
theorem src_made{w:World}{a:Option Addr}{n cap:Nat}(h:CodeIn w a n)(hn:n<=1048576)(st:Int):
 Src (w.alloc (.cells #[.slice a n cap,.int .i64 0,.int .u64 st] 66 (0,0))) w.heap.size a n cap:=
 ⟨0,st,heap_alloc_new w _,Int.le_refl _,Int.natCast_nonneg _,hn,code_at h ((Below.refl _ _).alloc (Nat.le_refl _) _)⟩
end Go.Proofs.YtahpiciofdfipaaGreat
namespace Go.Proofs.YtahpiciofdfipaaGreat
open Go.RowKit
def InC(w wr:World)(g:Nat)(a:Option Addr)(n cap gr m rc:Nat)(ls:List ByteArray)(gb:Nat)(l:List UInt8):Prop:=
 wr.ownsRow w.heap.size 9 1 (.slice (some ⟨gr,0,none⟩) m rc) m (ls.map Value.string)∧Src wr g a n cap∧w.grownBy wr (some g)∧BRow wr gb l∧gr≠gb∧w.heap.size<=gb
theorem code_ne{w:World}{g n gb:Nat}{a:Option Addr}(h:CodeAt w g a n)(hb:w.heap.size<=gb):n=0∨∀ b off,a=some ⟨b,off,none⟩->b≠gb:=by
 rcases Nat.eq_zero_or_pos n with hn|hn
 ·exact .inl hn
 refine .inr fun b off e=>?_
 rcases h with h0|⟨b',off',e',_,hc⟩
 ·omega
 ·rw [e] at e';simp only [Option.some.injEq,Addr.mk.injEq,and_true] at e';obtain⟨rfl,rfl⟩:=e';obtain⟨c,hc1,_⟩:=hc 0 (by omega);have:b<w.heap.size:=World.block_lt_of_cell? w _ hc1;omega
theorem inc_next{w wr w1:World}{g n cap gr m rc gb:Nat}{a:Option Addr}{ls:List ByteArray}{l:List UInt8}(hg:g<w.heap.size)(h:InC w wr g a n cap gr m rc ls gb l)(hs:Src w1 g a n cap)(hgr:wr.grownBy w1 (some g)):InC w w1 g a n cap gr m rc ls gb l:=by
 obtain⟨h1,h2,h3,h4,h5,h6⟩:=h;exact⟨h1.kept hgr (row_src h1 h2 (by decide)),hs,grown_step h3 hgr,brow_grown h4 hgr (by omega),h5,h6⟩
theorem inc_set{w wr:World}{g n cap gr m rc gb k:Nat}{a:Option Addr}{ls:List ByteArray}{l:List UInt8}(hg:g<w.heap.size)(hcode:CodeAt w g a n)(h:InC w wr g a n cap gr m rc ls gb l)(hk:k<l.length)(z:Int)(hz0:0<=z)(hz1:z<256):
 ∃ l',l'.length=l.length∧InC w (wr.setCell ⟨gb,k,none⟩ (.int .u8 z)) g a n cap gr m rc ls gb l':=by
 obtain⟨h1,h2,h3,h4,h5,h6⟩:=h;obtain⟨d,rfl⟩:=byte_of_int hz0 hz1;refine⟨l.set k d,by simp,h1.kept (row:=some gb) ⟨rfl,rfl,rfl,by simp,fun q _ hq=>heap_setCell_other wr ⟨gb,k,none⟩ q _ (fun e=>hq (by simp [e]))⟩ (.inr (by simpa [Value.ownBlock] using h5)),src_setOther h2 (by omega) (code_ne hcode h6),grown_set h3 h6,h4.set hk,h5,h6⟩
theorem wsum_set{ls:List ByteArray}{k:Nat}{x y:ByteArray}(h:ls[k]? =some x)(he:y.size=x.size):Nm.wsum (ls.set k y)=Nm.wsum ls:=by
 have hk:k<ls.length:=(List.getElem?_eq_some_iff.1 h).1;have hx:ls[k]=x:=(List.getElem?_eq_some_iff.1 h).2
 have e1:ls=ls.take k++(x::ls.drop (k+1)):=by
  rw [<- hx,<- List.drop_eq_getElem_cons hk,List.take_append_drop]
 have e2:ls.set k y=ls.take k++(y::ls.drop (k+1)):=by
  rw [List.set_eq_take_append_cons_drop,if_pos hk]
 rw [e2,Nm.wsum_append]
 conv=>rhs;rw [e1,Nm.wsum_append]
 simp [Nm.wsum,he]
theorem inc_stored{w wr:World}{g n cap gr m rc gb k:Nat}{a:Option Addr}{ls:List ByteArray}{l:List UInt8}(hg:g<w.heap.size)(hcode:CodeAt w g a n)(h:InC w wr g a n cap gr m rc ls gb l)(hw:w.heap.size<=gr)(y:ByteArray):
 (wr.setCell ⟨gr,k,none⟩ (.string y)).ownsRow w.heap.size 9 1 (.slice (some ⟨gr,0,none⟩) m rc) m ((ls.set k y).map Value.string)∧Src (wr.setCell ⟨gr,k,none⟩ (.string y)) g a n cap∧w.grownBy (wr.setCell ⟨gr,k,none⟩ (.string y)) (some g):=by
 obtain⟨h1,h2,h3,h4,h5,h6⟩:=h;refine⟨?_,src_setOther h2 (by omega) (code_ne hcode hw),grown_set h3 hw⟩;have:=(h1.stored k (.string y)).1;rw [List.map_set];exact this
theorem inc_start{w wr W:World}{g n cap gr m rc:Nat}{a:Option Addr}{ls:List ByteArray}{l:List UInt8}(h1:wr.ownsRow w.heap.size 9 1 (.slice (some ⟨gr,0,none⟩) m rc) m (ls.map Value.string))(h2:Src wr g a n cap)(h3:w.grownBy wr (some g))(hb:Below wr.heap.size wr W)(hr:BRow W wr.heap.size l):
 InC w W g a n cap gr m rc ls wr.heap.size l:=by
 have hlt:=h1.lt gr rfl;exact⟨h1.kept (row:=none) ⟨hb.os,hb.tape,hb.output,hb.size,fun k hk _=>hb.block k hk⟩ (.inr (by simp [Value.ownBlock])),src_below h2 hb,grown_below h3 hb,hr,by omega,h3.size⟩
set_option maxRecDepth 100000 in
set_option maxHeartbeats 1600000 in
theorem l01Case_any(g:Nat)(a:Option Addr)(n cap:Nat)(nm:ByteArray)(w:World)(h:Src w g a n cap)(hz:nm.size<=maxLen):
 Calls Tryz.prog 63 #[.pointer (some ⟨g,0,none⟩),.string nm] w fun e w'=>∃ s:ByteArray,e=.returned (.string s)∧s.size<=255∧Src w' g a n cap∧w.grownBy w' (some g):=by
 obtain⟨hcode,hglt⟩:=src_code h;have hsp:=l01Split_any nm w hz
 have hws:Nm.wsum ((Nm.split nm).getD [])<=254:=by
  cases hq:Nm.split nm with
  |none=>simp [Nm.wsum]
  |some ls=>have:=Nm.split_size hq;simp;omega
 generalize (Nm.split nm).getD []=ls at*;generalize (Nm.split nm).isSome=ok at*;go_enter Tryz.func63,Tryz.ntmps63;go_wp2_with fail
 refine hsp.mono ?_;rintro e w1 ⟨v,rfl,hown,hbel⟩;have hs1:=src_below h hbel;have hg1:=grown_below (World.grownBy.refl w (some g)) hbel;clear hsp h hbel
 by_cases hn:ls=[]
 ·subst hn;have hr:=Nm.SRow.of_owns (ls:=[]) hown;have hr':=hr;obtain⟨ra,rcap,rfl,hcap,hmx,hnl,hc⟩:=hr';clear hown hc hnl;go_wp2
  go_loop [7] (fun i=>i=.int .i64 0) (fun _=>0)
  case atStart=>rfl
  case round=>
   subst hrel;go_wp2_with (go_at_call 24;refine(l01Join_any _ [] _ hr (by simp [Nm.wsum])).mono ?_;rintro e w2 ⟨rfl,hbel2⟩)
   go_ret;exact⟨_,rfl,by rw [mkj_size];simp [Nm.wsum],src_below hs1 hbel2,grown_below hg1 hbel2⟩
 ·have hlp:0<ls.length:=List.length_pos_iff.2 hn
  obtain⟨gr,rc,cur,rfl,hg⟩:∃ g cap cur,v=.slice (some ⟨g,0,none⟩) ls.length cap∧w.heap.size<=g∧ls.length<=cap∧cap<=maxLen∧w1.heap[g]? =some (.cells cur 9 (0,0)):=by
   rcases hown.2 with⟨rfl,h0⟩|⟨g,cap,cur,rfl,hb,hg,hnc,hm,_⟩
   ·omega
   ·exact⟨g,cap,cur,rfl,hb,hnc,hm,hg⟩
  obtain⟨hwg,hnc,hm,_⟩:=hg;unfold maxLen at hm;generalize hm0:ls.length=m at*;go_wp2
  go_loopw [7] (fun i wr=>∃ (k:Nat) (ls2:List ByteArray),k<=m∧i=.int .i64 k∧ls2.length=m∧Nm.wsum ls2<=254∧wr.ownsRow w.heap.size 9 1 (.slice (some ⟨gr,0,none⟩) m rc) m (ls2.map Value.string)∧Src wr g a n cap∧w.grownBy wr (some g))
   (fun i _=>m-(intOf i).toNat)
  case atStart=>exact⟨0,ls,Nat.zero_le _,rfl,hm0,hws,hown,hs1,hg1⟩
  case round=>
   obtain⟨k,ls2,hk,rfl,hl2,hw2,hown2,hs2,hg2⟩:=hrel;clear hown hs1 hg1 hws hm0 hn;have hsz2:=hg2.size
   by_cases hlt:k<m
   ·obtain⟨x,hx⟩:∃ x,ls2[k]? =some x:=⟨_,List.getElem?_eq_getElem (by omega)⟩
    have hxz:x.size<=254:=by
     have:=wsum_set (y:=x) hx rfl;have h1:=Nm.wsum_step hx;have h2:=Nm.wsum_take_le ls2 (k+1);omega
    have hcx:wr.cell? ⟨gr,k,none⟩=some (.string x):=by
     rw [hown2.cellAt k (by omega)];simp [hx]
    obtain⟨cp,W,hcp,hcpm,hrun,hrow,hbw⟩:=new_bytes x wr;have hcpm':=hcpm (by unfold maxLen;omega);unfold maxLen at hcpm';have hinc:=inc_start hown2 hs2 hg2 hbw hrow;have hxl:x.data.toList.length=x.size:=by simp
    clear hcpm hrow hbw hown2 hs2 hg2;go_wp2
    go_loopw [9] (fun i w2=>∃ (j:Nat) (l:List UInt8),j<=x.size∧i=.int .i64 j∧l.length=x.size∧InC w w2 g a n cap gr m rc ls2 wr.heap.size l)
     (fun i _=>x.size-(intOf i).toNat)
    case atStart=>exact⟨0,_,Nat.zero_le _,rfl,hxl,hinc⟩
    case round=>
     rename World=>w2
     obtain⟨j,l,hj,rfl,hll,hin⟩:=hrel;clear hinc hrun hcx
     by_cases hjt:j<x.size
     ·obtain⟨c,hc⟩:∃ c,l[j]? =some c:=⟨_,List.getElem?_eq_getElem (by omega)⟩;obtain⟨hcc,hcf⟩:=hin.2.2.2.1 j c hc;have hc255:(c.toNat:Int)<256:=by have:=c.toNat_lt;omega
      by_cases h97:97<=c.toNat
      ·by_cases h122:c.toNat<=122
       ·have d1:decide ((97:Int)<=(c.toNat:Int))=true:=by simp;omega
        have d2:decide ((c.toNat:Int)<=122)=true:=by simp;omega
        have d3:(97:Int)<=(c.toNat:Int):=by omega
        have d4:(c.toNat:Int)<=122:=by omega
        clear h97 h122;go_wp2_with fail
        refine(l01Next_any g a n cap 3 _ hin.2.1 (by decide)).mono ?_;rintro e w3 ⟨r,rfl,hr0,hr1,hs3,hg3⟩;have hin3:=inc_next hglt hin hs3 hg3;obtain⟨hcc3,hcf3⟩:=hin3.2.2.2.1 j c hc;clear hcc hcf hr1 hs3 hg3
        by_cases hr:r=0
        ·subst hr;obtain⟨l',hl',hin'⟩:=inc_set hglt hcode hin3 (k:=j) (by omega) ((c.toNat:Int)-32) (by omega) (by omega);have HI:=Nm.hide hin';clear hin' hin3 hin hc;go_wp2;go_roundw
         case rel=>exact⟨j+1,l',by omega,by go_num,by omega,HI.out⟩
         case measure=>simp [intOf];omega
        ·have hr':(r==0)=false:=by rw [beq_eq_false_iff_ne];exact hr
         clear hcc3 hcf3;go_wp2;go_roundw
         case rel=>exact⟨j+1,l,by omega,by go_num,hll,hin3⟩
         case measure=>simp [intOf];omega
       ·have d1:decide ((97:Int)<=(c.toNat:Int))=true:=by simp;omega
        have d2:decide ((c.toNat:Int)<=122)=false:=by simp;omega
        have d3:(97:Int)<=(c.toNat:Int):=by omega
        have d4:(122:Int)<(c.toNat:Int):=by omega
        go_wp2;go_roundw
        case rel=>exact⟨j+1,l,by omega,by go_num,hll,hin⟩
        case measure=>simp [intOf];omega
      ·have d1:decide ((97:Int)<=(c.toNat:Int))=false:=by simp;omega
       have d3:(c.toNat:Int)<97:=by omega
       go_wp2;go_roundw
       case rel=>exact⟨j+1,l,by omega,by go_num,hll,hin⟩
       case measure=>simp [intOf];omega
     ·have hje:j=x.size:=by omega
      subst hje;have hcv:=conv_brow (cap:=cp) (k:=x.size) hin.2.2.2.1 (by omega);have hys:=mk_size (l.take x.size);generalize ByteArray.mk (l.take x.size).toArray=y at*;have hyz:y.size=x.size:=by rw [hys,List.length_take];omega
      have hcr:w2.cell? ⟨gr,k,none⟩=some (.string x):=by
       rw [hin.1.cellAt k (by omega)];simp [hx]
      have hfr:=hin.1.frozenAt k;have HI:=Nm.hide (inc_stored (k:=k) hglt hcode hin hwg y);have hwy:=wsum_set hx hyz;clear hin hys hjt;go_wp2;go_roundw
      case rel=>exact⟨k+1,_,by omega,by go_num,by simpa using hl2,by omega,HI.out.1,HI.out.2.1,HI.out.2.2⟩
      case measure=>simp [intOf];omega
   ·have hkl:k=m:=by omega
    subst hkl;go_wp2_with (go_at_call 24;refine(l01Join_any _ ls2 _ (Nm.SRow.of_owns (by rw [hl2];exact hown2)) (by omega)).mono ?_;rintro e w3 ⟨rfl,hb3⟩)
    go_ret;exact⟨_,rfl,by rw [mkj_size];omega,src_below hs2 hb3,grown_below hg2 hb3⟩
end Go.Proofs.YtahpiciofdfipaaGreat
namespace Go.Proofs.YtahpiciofdfipaaGreat
open Go.RowKit
set_option linter.unusedVariables false
structure Dr (w0:World) (g:Nat) (a:Option Addr) (n cap:Nat) (w:World):Prop where
 s:Src w g a n cap
 gr:w0.grownBy w (some g)
 lt:g<w0.heap.size
 code:CodeAt w0 g a n
theorem Dr.start{w:World}{g n cap:Nat}{a:Option Addr}(h:Src w g a n cap):Dr w g a n cap w:=⟨h,World.grownBy.refl _ _,(src_code h).2,(src_code h).1⟩
theorem Dr.step{w0 w w1:World}{g n cap:Nat}{a:Option Addr}(d:Dr w0 g a n cap w)(h:Src w1 g a n cap)(hg:w.grownBy w1 (some g)):Dr w0 g a n cap w1:=⟨h,grown_step d.gr hg,d.lt,d.code⟩
theorem Dr.below{w0 w w1:World}{g n cap:Nat}{a:Option Addr}(d:Dr w0 g a n cap w)(h:Below w.heap.size w w1):Dr w0 g a n cap w1:=⟨src_below d.s h,grown_below d.gr h,d.lt,d.code⟩
theorem Dr.alloc{w0 w:World}{g n cap:Nat}{a:Option Addr}(d:Dr w0 g a n cap w)(o:Obj):Dr w0 g a n cap (w.alloc o):=d.below ((Below.refl _ _).alloc (Nat.le_refl _) _)
theorem Dr.row{w0 w w1:World}{g n cap:Nat}{a:Option Addr}{row:Option Nat}(d:Dr w0 g a n cap w)(hg:w.grownBy w1 row)(hr:∀ k,row=some k->w0.heap.size<=k):Dr w0 g a n cap w1:=⟨src_grown d.s hg hr d.lt d.code,grown_own d.gr hg hr,d.lt,d.code⟩
theorem Dr.keep{w0 w w1:World}{g n cap e sz m:Nat}{a:Option Addr}{v:Value}{xs:List Value}(d:Dr w0 g a n cap w)(h:w.ownsRow w0.heap.size e sz v m xs)(hg:w.grownBy w1 (some g)):w1.ownsRow w0.heap.size e sz v m xs:=by
 refine h.kept hg ?_
 cases hv:v.ownBlock with
 |none=>exact .inl rfl
 |some k=>
  have h1:=(h.lt k hv).1;have h2:=d.lt;right;simp only [ne_eq,Option.some.injEq];omega
theorem Dr.size{w0 w:World}{g n cap:Nat}{a:Option Addr}(d:Dr w0 g a n cap w):w0.heap.size<=w.heap.size:=d.gr.size
def ZR(r:Rr):Prop:=r.own.size<=1000∧r.da.size<=3200
theorem zr_snoc{xs:List Rr}{y:Rr}(h:∀ r∈xs,ZR r)(hy:ZR y):∀ r∈xs++[y],ZR r:=by
 intro r hr
 rcases List.mem_append.1 hr with hr|hr
 ·exact h r hr
 ·simp at hr;subst hr;exact hy
set_option maxRecDepth 100000 in
set_option maxHeartbeats 3200000 in
theorem l05Add_any{w0:World}{g n cap:Nat}{a:Option Addr}(v:Value)(xs:List Rr)(o:ByteArray)(t:Int)(d:ByteArray)(w:World)(D:Dr w0 g a n cap w)(hr:w.ownsRow w0.heap.size 79 5 v xs.length (rvVs xs))(hl:xs.length<=10000)(hx:∀ r∈xs,ZR r)(ho:o.size<=1000)(hd:d.size<=3200):
 Calls Tryz.prog 96 #[.pointer (some ⟨g,0,none⟩),v,.string o,.int .i64 t,.string d] w fun e w'=>∃ u y,e=.returned u∧ZR y∧w'.ownsRow w0.heap.size 79 5 u (xs++[y]).length (rvVs (xs++[y]))∧Dr w0 g a n cap w':=by
 obtain⟨i0,hi,hz0,hz1,hz2⟩:=info_parts Tryz.infoRRc;have HSM:=Nm.hide (fun(x:Rr) (hx:x.own.size<=1000) W=>specSameName_any x.own o W (by unfold maxLen;omega) (by unfold maxLen;omega));have HX:=Nm.hide hx;obtain⟨va,vc,rfl⟩:=own_sl hr;obtain⟨_,va',vc',ee,hcap,hmx,hc⟩:=CRow.of_owns hr;simp only [Value.slice.injEq] at ee;obtain⟨rfl,_,rfl⟩:=ee;have HR:=Nm.hide hr;have HD:=Nm.hide D;clear hx hr D;go_enter Tryz.func96,Tryz.ntmps96;go_wp2
 go_loopw [11,12] (fun tv iv wr=>∃ (k:Nat) (tt:Int),k<=xs.length∧iv=.int .i64 k∧tv=.int .i64 tt∧Below w.heap.size w wr) (fun _ i _=>xs.length-(intOf i).toNat)
 case atStart=>exact⟨0,3600,Nat.zero_le _,rfl,rfl,Below.refl _ _⟩
 case round=>
  obtain⟨k,tt,hk,rfl,rfl,hb⟩:=hrel
  by_cases hlt:k<xs.length
  ·obtain⟨x,hxk⟩:∃ x,xs[k]? =some x:=⟨_,List.getElem?_eq_getElem hlt⟩;obtain⟨b,off,rfl,hcell⟩:=hc (by omega);obtain⟨c0,c1,c2,c3,c4⟩:=rv_cells hcell hxk;have put:∀ {O:Nat} {z:Value},w.cell? ⟨b,O,none⟩=some z->wr.cell? ⟨b,O,none⟩=some z:=fun h=>(hb.cell (World.block_lt_of_cell? w _ h)).trans h
   replace c0:=put c0
   replace c1:=put c1
   replace c3:=put c3
   have hsm:=HSM.out x (HX.out x (List.mem_of_getElem? hxk)).1 wr;have i1:(0:Int)<=(k:Int):=by omega
   have i2:(k:Int)<(xs.length:Int):=by omega
   clear c2 c4 hcell hxk put hc;obtain⟨ow,ty,cl,tx,da⟩:=x;simp only at c0 c1 c3 hsm
   by_cases e1:ty=t
   ·have n1:(ty==t)=true:=by simp [e1]
    cases hsb:sameS ow o with
    |true=>
     rw [hsb] at hsm;clear hsb e1;go_wp2_with fail
     refine hsm.mono ?_;rintro e w2 ⟨rfl,b2⟩;have d3:=(b2.cell (World.block_lt_of_cell? wr _ c3)).trans c3;have hb2:=Nm.below_two hb b2;clear hsm c0 c1 c3 hb b2;go_wp2;go_roundw
     case rel=>exact⟨k+1,tx,hlt,by go_num,rfl,hb2⟩
     case measure=>simp [intOf];omega
    |false=>
     rw [hsb] at hsm;clear hsb e1;go_wp2_with fail
     refine hsm.mono ?_;rintro e w2 ⟨rfl,b2⟩;have hb2:=Nm.below_two hb b2;clear hsm c0 c1 c3 hb b2;go_wp2;go_roundw
     case rel=>exact⟨k+1,tt,hlt,by go_num,rfl,hb2⟩
     case measure=>simp [intOf];omega
   ·have n1:(ty==t)=false:=by simpa using e1
    clear e1 hsm c0 c3;go_wp2;go_roundw
    case rel=>exact⟨k+1,tt,hlt,by go_num,rfl,hb⟩
    case measure=>simp [intOf];omega
  ·have hkl:k=xs.length:=by omega
   subst hkl;have D1:=HD.out.below hb;have hr1:=own_below HR.out hb;have i3:¬(xs.length:Int)<(xs.length:Int):=by omega
   clear hc HR HD HSM HX hb hk hlt;go_wp2_with fail
   refine(l01Next_any g a n cap 12 _ D1.s (by decide)).mono ?_;rintro e w2 ⟨q,rfl,hq0,hq1,hs2,hg2⟩;have D2:=D1.step hs2 hg2;have hr2:=D1.keep hr1 hg2;clear D1 hr1 hs2 hg2 hq1
   by_cases hq:q=0
   ·subst hq;go_wp2_with fail
    refine(l01Case_any g a n cap o _ D2.s (by unfold maxLen;omega)).mono ?_;rintro e w3 ⟨s,rfl,hs,hs3,hg3⟩;have D3:=D2.step hs3 hg3;have hr3:=D2.keep hr2 hg3;have hs1:s.size<=1000:=by omega
    clear D2 hr2 hs3 hg3;have hz:=(D3).size;go_wp2_with (at_builtin;refine wpList_append_own _ rfl (.tmp 46) (.tmp 52) 49 rfl w0.heap.size 79 i0 _ 5 56 Tryz.underlying49 hi hz0 hz1 hz2 rfl (by decide) _ _ _ rfl ((hr3).alloc _) ⟨(w3).heap.size,0,none⟩ 1 1 [.string s,.int .i64 t,.int .i64 1,.int .i64 tt,.string d] rfl rfl (cell_newV w3 #[.string s,.int .i64 t,.int .i64 1,.int .i64 tt,.string d] 79) (by intro u hu;simp at hu;rcases hu with rfl|rfl|rfl|rfl|rfl<;>rfl) (by unfold maxLen;omega) (by omega) (by simp;omega) ?_)
    intro v9 w9 hown9 hgrow9 _;have D9:=((D3).alloc (.cells #[.string s,.int .i64 t,.int .i64 1,.int .i64 tt,.string d] 79)).row hgrow9 (fun k hk=>((hr3).lt k hk).1);clear hgrow9 hz;go_wp2;go_ret;refine⟨_,⟨s,t,1,tt,d⟩,rfl,⟨hs1,hd⟩,?_,D9⟩;rw [rvVs_app,List.length_append];exact hown9
   ·have n2:(q==0)=false:=by rw [beq_eq_false_iff_ne];exact hq
    have hz:=(D2).size;go_wp2_with (at_builtin;refine wpList_append_own _ rfl (.tmp 46) (.tmp 52) 49 rfl w0.heap.size 79 i0 _ 5 56 Tryz.underlying49 hi hz0 hz1 hz2 rfl (by decide) _ _ _ rfl ((hr2).alloc _) ⟨(w2).heap.size,0,none⟩ 1 1 [.string o,.int .i64 t,.int .i64 1,.int .i64 tt,.string d] rfl rfl (cell_newV w2 #[.string o,.int .i64 t,.int .i64 1,.int .i64 tt,.string d] 79) (by intro u hu;simp at hu;rcases hu with rfl|rfl|rfl|rfl|rfl<;>rfl) (by unfold maxLen;omega) (by omega) (by simp;omega) ?_)
    intro v9 w9 hown9 hgrow9 _;have D9:=((D2).alloc (.cells #[.string o,.int .i64 t,.int .i64 1,.int .i64 tt,.string d] 79)).row hgrow9 (fun k hk=>((hr2).lt k hk).1);clear hgrow9 hz;go_wp2;go_ret;refine⟨_,⟨o,t,1,tt,d⟩,rfl,⟨ho,hd⟩,?_,D9⟩;rw [rvVs_app,List.length_append];exact hown9
set_option maxRecDepth 100000 in
set_option maxHeartbeats 400000 in
theorem l01Parts_any(a:Option Addr)(n cap:Nat)(w:World)(hn:n<=1048576):
 Calls Tryz.prog 31 #[.slice a n cap,.int .i64 60] w fun e w'=>∃ k:Nat,e=.returned (.int .i64 (k:Int))∧k<=30∧w'=w:=by
 have hq:((n:Int).tdiv 60)=((n / 60:Nat):Int):=by rw [Int.tdiv_eq_ediv_of_nonneg (by omega)];rfl
 by_cases h:30<n / 60
 ·have h':(30:Int)<((n / 60:Nat):Int):=by omega
  go_enter Tryz.func31,Tryz.ntmps31;go_wp2;go_ret;exact⟨30,rfl,Nat.le_refl _,rfl⟩
 ·have h':¬(30:Int)<((n / 60:Nat):Int):=by omega
  go_enter Tryz.func31,Tryz.ntmps31;go_wp2;go_ret;exact⟨n / 60,rfl,by omega,rfl⟩
section
variable {w0 w:World}{g n cap:Nat}{a:Option Addr}
theorem Dr.cell(d:Dr w0 g a n cap w){b o:Nat}{x:Value}(h:w0.cell? ⟨b,o,none⟩=some x)(hne:b≠g):w.cell? ⟨b,o,none⟩=some x:=d.gr.cell h (by simp;exact hne)
theorem Dr.set(d:Dr w0 g a n cap w){b i:Nat}(h:w0.heap.size<=b)(x:Value):Dr w0 g a n cap (w.setCell ⟨b,i,none⟩ x):=
 d.row (row:=some b) ⟨rfl,rfl,rfl,by simp,fun k _ hk=>heap_setCell_other w ⟨b,i,none⟩ k x (fun e=>hk (by simp [e]))⟩ (fun k hk=>by simp at hk;omega)
end
theorem own_apart2{w:World}{B C e f s r m k:Nat}{v u:Value}{xs ys:List Value}(h:w.ownsRow B e s v m xs)(h':w.ownsRow C f r u k ys)(hne:e≠f):∀ q,v.ownBlock=some q->u.ownBlock≠some q:=by
 intro q hq hq'
 rcases h.2 with⟨rfl,_⟩|⟨q1,c1,cur1,rfl,_,g1,_⟩
 ·simp [Value.ownBlock] at hq
 ·rcases h'.2 with⟨rfl,_⟩|⟨q2,c2,cur2,rfl,_,g2,_⟩
  ·simp [Value.ownBlock] at hq'
  ·simp only [Value.ownBlock,Option.some.injEq] at hq hq';subst hq;subst hq';rw [g1] at g2;simp at g2;exact hne g2.2
theorem ZOwn.other{w w':World}{B C f r m:Nat}{v u:Value}{ps:List Zp}{ys:List Value}(h:ZOwn w B v ps)(ho:w.ownsRow C f r u m ys)(h1:f≠44)(h2:f≠9)(hg:w.grownBy w' u.ownBlock):ZOwn w' B v ps:=
 h.beside hg (fun q hq=>own_apart2 ho h.outer h1 q hq) (fun q hq p hp=>by
  obtain⟨i,hi⟩:=List.getElem?_of_mem hp
  exact own_apart2 ho (h.inner i p hi) h2 q hq)
theorem ZOwn.blk{w:World}{B c i:Nat}{v x:Value}{ps:List Zp}{cs:Array Value}{T:TypeId}(h:ZOwn w B v ps)(hk:Blk w c cs T)(h1:44≠T)(h2:9≠T):ZOwn (w.setCell ⟨c,i,none⟩ x) B v ps:=
 h.beside (b:=some c) ⟨rfl,rfl,rfl,by simp,fun k _ hk=>heap_setCell_other w ⟨c,i,none⟩ k x (fun e=>hk (by simp [e]))⟩ (fun q hq=>by cases hq;exact own_nb h.outer hk h1) (fun q hq p hp=>by
  cases hq
  obtain⟨j,hj⟩:=List.getElem?_of_mem hp
  exact own_nb (h.inner j p hj) hk h2)
theorem own_setB{w:World}{B e s m c i:Nat}{v x:Value}{xs:List Value}{cs:Array Value}{T:TypeId}(h:w.ownsRow B e s v m xs)(hk:Blk w c cs T)(hne:e≠T):(w.setCell ⟨c,i,none⟩ x).ownsRow B e s v m xs:=
 h.kept (row:=some c) ⟨rfl,rfl,rfl,by simp,fun k _ hk=>heap_setCell_other w ⟨c,i,none⟩ k x (fun e=>hk (by simp [e]))⟩ (.inr (own_nb h hk hne))
end Go.Proofs.YtahpiciofdfipaaGreat
namespace Go.Proofs.YtahpiciofdfipaaGreat
open Go.RowKit
theorem srow_news{w:World}{ad:Addr}{n cap:Nat}{xs:List ByteArray}(h:Nm.SRow w (.slice (some ad) n cap) xs):∀ j u,(xs.map Value.string)[j]? =some u->w.cell? (ad.add j)=some u:=by
 obtain⟨a',cap',e,h1,h2,h3,h4⟩:=h;simp only [Value.slice.injEq] at e;obtain⟨rfl,_,rfl⟩:=e;intro j u hj;have hne:xs≠[]:=by intro h;rw [h] at hj;simp at hj
 obtain⟨b,off,e2,hc⟩:=h4 hne;simp only [Option.some.injEq] at e2;subst e2;rw [List.getElem?_map] at hj
 cases hx:xs[j]? with
 |none=>rw [hx] at hj;simp at hj
 |some x=>
  rw [hx] at hj;simp at hj;rw [Nm.addr_add,<- hj];exact hc j x hx
theorem strs_oneCell(xs:List ByteArray):∀ u∈xs.map Value.string,u.oneCell'=true:=by
 intro u hu;obtain⟨x,_,rfl⟩:=List.mem_map.1 hu;rfl
end Go.Proofs.YtahpiciofdfipaaGreat
namespace Go.Proofs.YtahpiciofdfipaaGreat
open Go.RowKit
set_option linter.unusedVariables false
def bigL(v n:Nat):List UInt8:=(List.range n).map fun i=>UInt8.ofNat (v / 2 ^ (8*(n-1-i)))
theorem bigL_len(v n:Nat):(bigL v n).length=n:=by simp [bigL]
theorem bigL_take{v n j:Nat}(h:j<n):Nm.bys ((bigL v n).take (j+1))=Nm.bys ((bigL v n).take j)++[.int .u8 ((v:Int) / 2 ^ (8*(n-1-j)) % 256)]:=by
 have hx:(bigL v n)[j]? =some (UInt8.ofNat (v / 2 ^ (8*(n-1-j)))):=by simp [bigL,h]
 have e:((UInt8.ofNat (v / 2 ^ (8*(n-1-j)))).toNat:Int)=(v:Int) / 2 ^ (8*(n-1-j)) % 256:=by
  rw [UInt8.toNat_ofNat',Int.natCast_emod,Int.natCast_ediv,Int.natCast_pow];rfl
 rw [List.take_add_one,hx,Nm.bys_append,<- e];rfl
set_option maxRecDepth 100000 in
set_option maxHeartbeats 1600000 in
theorem l02PutN_any(v n:Nat)(w:World)(hv:v<=4611686018427387904)(hn1:1<=n)(hn:n<=8):
 Calls Tryz.prog 126 #[.int .i64 (v:Int),.int .i64 (n:Int)] w fun e w'=>e=.returned (.string ⟨(bigL v n).toArray⟩)∧Below w.heap.size w w':=by
 obtain⟨j0,hj,k0,k1,k2⟩:=info_parts Tryz.infoBy;have i3:(n:Int)<=8:=by omega
 have i4:(1:Int)<=(n:Int):=by omega
 have hro:=World.ownsRow_made (base:=w.heap.size) (size:=1) (e:=5) w #[] 0 (Nat.le_refl _) (by decide) rfl;have hBs:=(Below.refl w.heap.size w).alloc (Nat.le_refl _) (.cells #[] 5);go_enter Tryz.func126,Tryz.ntmps126;go_wp2
 go_loopw [5,6] (fun u i wr=>∃ j:Nat,j<=n∧i=.int .i64 ((n:Int)-1-(j:Int))∧wr.ownsRow w.heap.size 5 1 u j (Nm.bys ((bigL v n).take j))∧Below w.heap.size w wr) (fun _ i _=>(intOf i+1).toNat)
 case atStart=>exact⟨0,by omega,by congr 1;omega,hro,hBs⟩
 case round=>
  clear hro hBs;obtain⟨j,hj8,rfl,hown,hbel⟩:=hrel;obtain⟨xa,xc,rfl⟩:=own_sl hown;have hBr:=hbel.size
  by_cases hlt:j<n
  ·obtain⟨i,hi⟩:∃ i:Nat,(n:Int)-1-(j:Int)=(i:Int):=⟨n-1-j,by omega⟩;have hi7:i<=7:=by omega
   rw [hi];have i1:(0:Int)<=(i:Int):=by omega
   have i2:(i:Int)<=7:=by omega
   have HT:=Nm.hide (show Nm.bys ((bigL v n).take (j+1))=Nm.bys ((bigL v n).take j)++[.int .u8 ((v:Int) / 2 ^ (8*i) % 256)] by
    have h7:n-1-j=i:=by omega
    rw [bigL_take hlt,h7])
   have HI:=Nm.hide hi;clear hi;go_wp2_with (at_builtin;refine wpList_append_own _ rfl (.tmp 14) (.tmp 21) 22 rfl w.heap.size 5 j0 (.int .u8 0) 1 1 Tryz.underlying22 hj k0 k1 k2 rfl (by decide) _ _ _ rfl (hown.alloc _) ⟨wr.heap.size,0,none⟩ 1 1 [.int .u8 ((v:Int) / 2 ^ (8*i) % 256)] rfl rfl (cell_one_new _ _ _) (Nm.one_cell _ rfl) (by unfold maxLen;omega) (by omega) (by simp;omega) ?_;intro vb wb hown8 hgrow8 hnl8;clear hnl8)
   rw [<- HT.out] at hown8;have hrow:∀ q,Value.ownBlock (.slice xa j xc)=some q->w.heap.size<=q:=fun q hq=>(hown.lt q hq).1
   have hB8:Below w.heap.size w wb:=(hbel.alloc hBr _).grown hgrow8 (by rw [World.size_alloc];omega) hrow;obtain⟨za,zc,rfl⟩:=own_sl hown8;clear hgrow8 hown hbel;have hi:=HI.out;go_roundw
   case rel=>exact⟨j+1,by omega,by go_num,hown8,hB8⟩
   case measure=>simp [intOf]
  ·obtain rfl:j=n:=by omega
   rw [List.take_of_length_le (by rw [bigL_len];omega)] at hown;have HC:=Nm.conv_own (P:=Tryz.prog) (src:=22) (dst:=9) Tryz.underlying22 Tryz.underlying5 Tryz.underlying9 hown (by omega);obtain⟨g,cap,hv',hcv⟩:=HC;cases hv'
   have hneg:¬(0:Int)<=(j:Int)-1-(j:Int):=by omega
   go_wp2;go_ret;exact⟨rfl,hbel⟩
theorem bigZ(v n:Nat):(⟨(bigL v n).toArray⟩:ByteArray).size=n:=by rw [mk_len,bigL_len]
theorem l02PutZ_any(v n:Nat)(w:World)(hv:v<=4611686018427387904)(hn1:1<=n)(hn:n<=8):
 Calls Tryz.prog 126 #[.int .i64 (v:Int),.int .i64 (n:Int)] w fun e w'=>∃ s:ByteArray,e=.returned (.string s)∧s.size=n∧Below w.heap.size w w':=
 (l02PutN_any v n w hv hn1 hn).mono fun e w' ⟨h1,h2⟩=>⟨_,h1,bigZ v n,h2⟩
def soaD(ap b:ByteArray):ByteArray:=subS [⟨#[110,115,49]⟩] ap++subS [⟨#[97,100,109,105,110]⟩] ap++b
set_option maxRecDepth 100000 in
set_option maxHeartbeats 3200000 in
theorem l05Soa_any(ap:ByteArray)(sr lo:Nat)(tt:Int)(w:World)(ha:ap.size<=1000)(hs:sr<=4294967296)(hlo:lo<=4294967296):
 Calls Tryz.prog 95 #[.string ap,.int .i64 (sr:Int),.int .i64 tt,.int .i64 (lo:Int)] w fun e w'=>∃ b:ByteArray,e=.returned (.agg #[.string ap,.int .i64 6,.int .i64 1,.int .i64 tt,.string (soaD ap b)])∧b.size=20∧Below w.heap.size w w':=by
 have hS1:∀ (W:World) (p:Nat),p=W.heap.size->Calls Tryz.prog 61 #[.slice (some ⟨p,0,none⟩) 1 1,.string ap] (W.alloc (.cells #[.string ⟨#[110,115,49]⟩] 9)) fun e w'=>∃ s:ByteArray,e=.returned (.string s)∧s=subS [⟨#[110,115,49]⟩] ap∧Below W.heap.size W w':=fun W p hp=>by
  subst hp;exact(l05SubS_any _ _ ap _ (srow1 W ⟨#[110,115,49]⟩) (by decide) (by omega)).mono fun e w' ⟨h1,h3⟩=>⟨_,h1,rfl,Nm.below_two ((Below.refl _ _).alloc (Nat.le_refl _) _) h3⟩
 have hS2:∀ (W:World) (p:Nat),p=W.heap.size->Calls Tryz.prog 61 #[.slice (some ⟨p,0,none⟩) 1 1,.string ap] (W.alloc (.cells #[.string ⟨#[97,100,109,105,110]⟩] 9)) fun e w'=>∃ s:ByteArray,e=.returned (.string s)∧s=subS [⟨#[97,100,109,105,110]⟩] ap∧Below W.heap.size W w':=fun W p hp=>by
  subst hp;exact(l05SubS_any _ _ ap _ (srow1 W ⟨#[97,100,109,105,110]⟩) (by decide) (by omega)).mono fun e w' ⟨h1,h3⟩=>⟨_,h1,rfl,Nm.below_two ((Below.refl _ _).alloc (Nat.le_refl _) _) h3⟩
 have hP1:=fun W=>l02PutZ_any sr 4 W (by omega) (by decide) (by decide)
 have hP2:=fun W=>l02PutZ_any 7200 4 W (by decide) (by decide) (by decide)
 have hP3:=fun W=>l02PutZ_any 900 4 W (by decide) (by decide) (by decide)
 have hP4:=fun W=>l02PutZ_any 86400 4 W (by decide) (by decide) (by decide)
 have hP5:=fun W=>l02PutZ_any lo 4 W (by omega) (by decide) (by decide)
 have b0:=(Below.refl w.heap.size w).alloc (Nat.le_refl _) (.cells #[.string ByteArray.empty,.int .i64 0,.int .i64 0,.int .i64 0,.string ByteArray.empty] 79);have k0:=blk_new w #[.string ByteArray.empty,.int .i64 0,.int .i64 0,.int .i64 0,.string ByteArray.empty] 79;go_enter Tryz.func95,Tryz.ntmps95;go_wp2_with fail
 refine(hS1 _ _ (by simp)).mono ?_;rintro e w1 ⟨s1,rfl,z1,b1⟩;have Z1:=Nm.hide z1;have y1:s1.size<=2000:=by rw [z1,sub_len,show Nm.wsum [(⟨#[110,115,49]⟩:ByteArray)]=4 from rfl];omega
 clear z1;have bw1:=Nm.below_two b0 b1;have k1:=blk_below k0 b1;go_wp2_with fail
 refine(hS2 _ _ (by simp)).mono ?_;rintro e w2 ⟨s2,rfl,z2,b2⟩;have Z2:=Nm.hide z2;have y2:s2.size<=2000:=by rw [z2,sub_len,show Nm.wsum [(⟨#[97,100,109,105,110]⟩:ByteArray)]=6 from rfl];omega
 clear z2;have bw2:=Nm.below_two bw1 b2;have k2:=blk_below k1 b2;go_wp2_with fail
 refine(hP1 _).mono ?_;rintro e w3 ⟨s3,rfl,z3,b3⟩;have Z3:=Nm.hide z3;have y3:s3.size<=2000:=by omega
 clear z3;have bw3:=Nm.below_two bw2 b3;have k3:=blk_below k2 b3;go_wp2_with fail
 refine(hP2 _).mono ?_;rintro e w4 ⟨s4,rfl,z4,b4⟩;have Z4:=Nm.hide z4;have y4:s4.size<=2000:=by omega
 clear z4;have bw4:=Nm.below_two bw3 b4;have k4:=blk_below k3 b4;go_wp2_with fail
 refine(hP3 _).mono ?_;rintro e w5 ⟨s5,rfl,z5,b5⟩;have Z5:=Nm.hide z5;have y5:s5.size<=2000:=by omega
 clear z5;have bw5:=Nm.below_two bw4 b5;have k5:=blk_below k4 b5;go_wp2_with fail
 refine(hP4 _).mono ?_;rintro e w6 ⟨s6,rfl,z6,b6⟩;have Z6:=Nm.hide z6;have y6:s6.size<=2000:=by omega
 clear z6;have bw6:=Nm.below_two bw5 b6;have k6:=blk_below k5 b6;go_wp2_with fail
 refine(hP5 _).mono ?_;rintro e w7 ⟨s7,rfl,z7,b7⟩;have Z7:=Nm.hide z7;have y7:s7.size<=2000:=by omega
 clear z7;have bw7:=Nm.below_two bw6 b7;have k7:=blk_below k6 b7;have fz:=fun i=>blk_frozen k7 i
 have rz:=fun i=>blk_cell k7 i
 have HD:Hid ((s3++s4++s5++s6++s7).size=20):=by
  show _=_
  simp only [ByteArray.size_append];have h3:=Z3.out;have h4:=Z4.out;have h5:=Z5.out;have h6:=Z6.out;have h7:=Z7.out;omega
 have HV:Hid (s1++s2++s3++s4++s5++s6++s7=soaD ap (s3++s4++s5++s6++s7)):=by
  show _=_
  rw [soaD,<- Z1.out,<- Z2.out];simp only [ByteArray.append_assoc]
 have kE:=setAll_new [.string ap,.int .i64 6,.int .i64 1,.int .i64 tt,.string (s1++s2++s3++s4++s5++s6++s7)] k7 rfl;have eE:setAll w7 w.heap.size 0 [.string ap,.int .i64 6,.int .i64 1,.int .i64 tt,.string (s1++s2++s3++s4++s5++s6++s7)]=(((((w7).setCell ⟨w.heap.size,0,none⟩ (.string ap)).setCell ⟨w.heap.size,1,none⟩ (.int .i64 6)).setCell ⟨w.heap.size,2,none⟩ (.int .i64 1)).setCell ⟨w.heap.size,3,none⟩ (.int .i64 tt)).setCell ⟨w.heap.size,4,none⟩ (.string (s1++s2++s3++s4++s5++s6++s7)):=rfl
 have bE:Below w.heap.size w (setAll w7 w.heap.size 0 [.string ap,.int .i64 6,.int .i64 1,.int .i64 tt,.string (s1++s2++s3++s4++s5++s6++s7)]):=by
  rw [eE];exact((((bw7.setCell (Nat.le_refl _) _).setCell (Nat.le_refl _) _).setCell (Nat.le_refl _) _).setCell (Nat.le_refl _) _).setCell (Nat.le_refl _) _
 have HE:=Nm.hide (And.intro eE (And.intro bE (fun i=>blk_cell kE i)));clear eE bE kE bw1 bw2 bw3 bw4 bw5 bw6 bw7 k0 k1 k2 k3 k4 k5 k6 k7 b0 b1 b2 b3 b4 b5 b6 b7;go_wp2;obtain⟨eE,bE,rE⟩:=HE.out;rw [<- eE];refine bodyPost_ret (v:=.agg #[.string ap,.int .i64 6,.int .i64 1,.int .i64 tt,.string (s1++s2++s3++s4++s5++s6++s7)]) ?_ rfl ⟨s3++s4++s5++s6++s7,by rw [<- HV.out],HD.out,bE⟩;simp [results,Tryz.results95,go_sem,Result.andThen,rE]
end Go.Proofs.YtahpiciofdfipaaGreat
namespace Go.Proofs.YtahpiciofdfipaaGreat
open Go.RowKit
set_option linter.unusedVariables false
end Go.Proofs.YtahpiciofdfipaaGreat
namespace Go.Proofs.YtahpiciofdfipaaGreat
open Go.RowKit
set_option linter.unusedVariables false
theorem ex_list(d:ByteArray)(a b:Nat):(d.extract a b).data.toList=(d.data.toList.drop a).take (b-a):=by
 simp [ByteArray.data_extract,Array.toList_extract,List.extract_eq_take_drop]
theorem nameF_app(x r:ByteArray):∀ (f i:Nat),(Dt.nameF f x i).size≠0->Dt.nameF f (x++r) i=Dt.nameF f x i:=by
 intro f
 induction f with
 |zero=>intro i h;simp [Dt.nameF] at h
 |succ f ih=>
  intro i h;rw [Dt.nameF] at h ⊢;rw [Dt.nameF]
  by_cases h1:i<x.size∧i<255
  ·rw [dif_pos h1] at h ⊢;have h2:i<(x++r).size∧i<255:=by rw [ByteArray.size_append];omega
   have hg:(x++r)[i]=x[i]:=by
    have e1:(x++r).data.toList[i]? =some (x++r)[i]:=Nm.get_data h2.1;have e2:x.data.toList[i]? =some x[i]:=Nm.get_data h1.1;rw [ByteArray.data_append,Array.toList_append,List.getElem?_append_left (by simpa using h1.1),e2] at e1;exact(Option.some.inj e1).symm
   rw [dif_pos h2,hg]
   by_cases h3:x[i].toNat=0
   ·rw [if_pos h3,if_pos h3];apply Nm.ba_ext;rw [ex_list,ex_list,ByteArray.data_append,Array.toList_append];simp only [List.drop_zero];rw [List.take_append_of_le_length (by simp;omega)]
   ·rw [if_neg h3] at h ⊢;rw [if_neg h3]
    by_cases h4:63<x[i].toNat
    ·rw [if_pos h4] at h;simp at h
    ·rw [if_neg h4] at h ⊢;rw [if_neg h4];exact ih _ h
  ·rw [dif_neg h1] at h;simp at h
theorem nameAt_app{x r:ByteArray}(h:(Nm.split x).isSome=true):Dt.nameAtS (x++r)=x:=by
 obtain⟨h1,h2⟩:=(Dt.name_iff x).1 h
 have e:Dt.nameAtS x=x:=by
  have:=Dt.name_ext x h1;rw [<- this,h2,Dt.ext_all]
 rw [Dt.nameAtS,nameF_app x r 256 0 h1];exact e
def bA(l:List UInt8):ByteArray:=⟨l.toArray⟩
def LOK:List UInt8->List ByteArray->Prop
 |[],[]=>True
 |c::cs,x::xs=>((c=110->(Nm.split x).isSome=true)∧(c=98->x.size=1))∧LOK cs xs
 |_,_=>False
theorem LOK.snoc:∀ {cs:List UInt8} {xs:List ByteArray} {c:UInt8} {x:ByteArray},LOK cs xs->(c=110->(Nm.split x).isSome=true)->(c=98->x.size=1)->LOK (cs++[c]) (xs++[x]):=by
 intro cs
 induction cs with
 |nil=>
  intro xs c x h h1 h2
  cases xs with
  |nil=>exact⟨⟨h1,h2⟩,trivial⟩
  |cons y ys=>exact absurd h (by simp [LOK])
 |cons d cs ih=>
  intro xs c x h h1 h2
  cases xs with
  |nil=>exact absurd h (by simp [LOK])
  |cons y ys=>exact⟨h.1,ih h.2 h1 h2⟩
theorem cat_cons(x:ByteArray)(xs:List ByteArray):bA (Dt.catL (x::xs))=x++bA (Dt.catL xs):=by
 apply Nm.ba_ext;simp [bA,Dt.catL]
theorem rest_of(x r:ByteArray):(x++r).extract x.size (x++r).size=r:=by
 apply Nm.ba_ext;rw [ex_list,ByteArray.data_append,Array.toList_append,List.drop_left' (by simp),ByteArray.size_append,Nat.add_sub_cancel_left,List.take_of_length_le (by simp)]
theorem head_of(x r:ByteArray):(x++r).extract 0 x.size=x:=by
 apply Nm.ba_ext;rw [ex_list,ByteArray.data_append,Array.toList_append,List.drop_zero,Nat.sub_zero,List.take_left' (by simp)]
theorem parts_drawn:∀ (cs:List UInt8) (xs:List ByteArray),LOK cs xs->(∀ c∈cs,c=110∨c=98)->Dt.parts (cs.map Dt.letP) (bA (Dt.catL xs))=some xs:=by
 intro cs
 induction cs with
 |nil=>
  intro xs h hc
  cases xs with
  |nil=>rfl
  |cons y ys=>exact absurd h (by simp [LOK])
 |cons c cs ih=>
  intro xs h hc
  cases xs with
  |nil=>exact absurd h (by simp [LOK])
  |cons x xs=>
   obtain⟨⟨h1,h2⟩,h3⟩:=h;have hi:=ih xs h3 (fun d hd=>hc d (List.mem_cons_of_mem _ hd))
   have hsz:Dt.sz (Dt.letP c) (x++bA (Dt.catL xs))=some x.size:=by
    rcases hc c (List.mem_cons_self ..) with rfl|rfl
    ·have hs:=h1 rfl;have hz:x.size≠0:=by obtain⟨k1,k2⟩:=(Dt.name_iff x).1 hs;omega
     show Dt.sz .nm _=_
     rw [Dt.sz,nameAt_app hs,if_neg hz]
    ·have hs:=h2 rfl;show Dt.sz (.bs 1) _=_
     rw [Dt.sz,if_pos (by rw [ByteArray.size_append];omega),hs]
   rw [List.map_cons,Dt.parts,cat_cons,hsz];simp only
   rw [rest_of,hi,head_of];rfl
theorem form_pointed{t:Nat}(h:pointed t):∀ c∈(Dt.formS t).data.toList,c=110∨c=98:=by
 rcases h with rfl|rfl|rfl|rfl|rfl<;>decide
theorem code_drawn{t:Nat}{xs:List ByteArray}(ht:t∈drTs)(hp:pointed t)(h:LOK (Dt.formS t).data.toList xs)(hz:(bA (Dt.catL xs)).size<=65535):cutCode t (bA (Dt.catL xs))=0:=by
 have hpt:=parts_drawn _ xs h (form_pointed hp);have hr:=drTs_ok ht;exact(code_some (by omega) (by omega) (by rw [<- Dt.forms_agree,Dt.spans_of_parts,Dt.specP,hpt];rfl)).1
def zTs:List Nat:=[16,13,33,35,257,99]
def letZ(c:UInt8):Nat:=if c=110 then 1000 else if c=115 then 771 else 300
def wtZ(cs:List UInt8):Nat:=(cs.map letZ).sum
theorem wtZ_snoc(cs:List UInt8)(c:UInt8):wtZ (cs++[c])=wtZ cs+letZ c:=by simp [wtZ]
theorem wtZ_take(cs:List UInt8)(k:Nat):wtZ (cs.take k)<=wtZ cs:=by
 have e:wtZ cs=wtZ (cs.take k)+wtZ (cs.drop k):=by
  simp only [wtZ];rw [<- List.sum_append,<- List.map_append,List.take_append_drop]
 omega
theorem formZ{t:Nat}(h:t∈zTs):wtZ (Dt.formS t).data.toList<=3100∧∀ c∈(Dt.formS t).data.toList,c≠109:=by
 simp only [zTs,List.mem_cons,List.not_mem_nil,or_false] at h
 rcases h with rfl|rfl|rfl|rfl|rfl|rfl<;>decide
set_option maxRecDepth 100000 in
set_option maxHeartbeats 3200000 in
theorem l02DataZ_any(t:Nat)(ht:t∈zTs)(g:Nat)(a:Option Addr)(n cap:Nat)(w:World)(h:Src w g a n cap):
 Calls Tryz.prog 128 #[.pointer (some ⟨g,0,none⟩),.int .i64 (t:Int)] w fun e w'=>∃ d:ByteArray,e=.returned (.string d)∧d.size<=3100∧Src w' g a n cap∧w.grownBy w' (some g):=by
 have hform:=l02Form_any t;obtain⟨hf1,hf2⟩:=form_ok t;obtain⟨hwt,hno⟩:=formZ ht;generalize Dt.formS t=f at*;go_enter Tryz.func128,Tryz.ntmps128;go_wp2_with (go_at_call 67;refine(hform _).mono ?_;rintro e wx ⟨rfl,hwx⟩;obtain rfl:=hwx.symm;clear hwx)
 go_loopw [6,7] (fun o i wr=>∃ (k:Nat) (D:ByteArray),k<=f.size∧i=.int .i64 k∧o=.string D∧D.size<=wtZ (f.data.toList.take k)∧Src wr g a n cap∧w.grownBy wr (some g)) (fun _ i _=>f.size-(intOf i).toNat)
 case atStart=>exact⟨0,⟨#[]⟩,Nat.zero_le _,rfl,rfl,Nat.zero_le _,h,World.grownBy.refl _ _⟩
 case round=>
  obtain⟨k,D,hk,rfl,rfl,hsz,hsrc,hgr⟩:=hrel;clear h hform;have hwk:wtZ (f.data.toList.take k)<=3100:=Nat.le_trans (wtZ_take _ k) hwt
  by_cases hlt:k<f.size
  ·have hlt':(k:Int)<(f.size:Int):=by omega
   have HT:Hid (f.data.toList.take (k+1)=f.data.toList.take k++[f[k]]):=by
    show _=_
    rw [List.take_add_one,Nm.get_data hlt];rfl
   have hnk:f[k]≠109:=hno _ (by
    have:=Nm.get_data hlt
    exact List.mem_of_getElem? this)
   clear hno
   rcases hf2 k hlt with hc|hc|hc|hc|hc|hc|hc
   ·skip
    have hv:f[k].toNat=110:=by rw [hc];rfl
    have q0:((f[k].toNat:Int)==110)=true:=by rw [beq_iff_eq];omega
    have hw:letZ f[k]=1000:=by rw [hc];rfl
    clear hf2 hnk
    go_wp2_with (
     go_at_call 59
     refine(l01Name_any g a n cap _ hsrc).mono ?_;rintro e w3 ⟨x,rfl,hx1,hx2,hsE,hg3⟩;have hgE:=grown_step hgr hg3
     have hfit:D.size+x.size<=9223372036854775807:=by omega)
    go_roundw
    case rel=>exact⟨k+1,D++x,by omega,by go_num,rfl,by rw [HT.out,wtZ_snoc,ByteArray.size_append];omega,hsE,hgE⟩
    case measure=>simp [intOf];omega
   ·skip
    have hv:f[k].toNat=98:=by rw [hc];rfl
    have q0:((f[k].toNat:Int)==110)=false:=by rw [beq_eq_false_iff_ne];omega
    have q1:((f[k].toNat:Int)==98)=true:=by rw [beq_iff_eq];omega
    have hw:letZ f[k]=300:=by rw [hc];rfl
    clear hf2 hnk;go_wp2_with fail
    refine(l01Next_any g a n cap 3 _ hsrc (by decide)).mono ?_;rintro e w3 ⟨r,rfl,hr0,hr1,hs3,hg3⟩;have hgg3:=grown_step hgr hg3
    by_cases hz:r=0
    ·subst hz
     go_wp2_with (
      go_at_call 97
      refine(l01Bytes_any g a n cap 1 _ hs3 (by decide) (by decide)).mono ?_;rintro e w4 ⟨x,rfl,hx,hsE,hg4⟩;have hgE:=grown_step hgg3 hg4
      have hfit:D.size+x.size<=9223372036854775807:=by omega)
     go_roundw
     case rel=>exact⟨k+1,D++x,by omega,by go_num,rfl,by rw [HT.out,wtZ_snoc,ByteArray.size_append];omega,hsE,hgE⟩
     case measure=>simp [intOf];omega
    ·have hz':(r==0)=false:=by rw [beq_eq_false_iff_ne];exact hz
     have hsE:=hs3;have hgE:=hgg3;have hx1:(⟨#[0]⟩:ByteArray).size=1:=rfl;have hfit:D.size+1<=9223372036854775807:=by omega
     go_wp2;go_roundw
     case rel=>exact⟨k+1,D++(⟨#[0]⟩:ByteArray),by omega,by go_num,rfl,by rw [HT.out,wtZ_snoc,ByteArray.size_append];omega,hsE,hgE⟩
     case measure=>simp [intOf];omega
   ·skip
    have hv:f[k].toNat=116:=by rw [hc];rfl
    have q0:((f[k].toNat:Int)==110)=false:=by rw [beq_eq_false_iff_ne];omega
    have q1:((f[k].toNat:Int)==98)=false:=by rw [beq_eq_false_iff_ne];omega
    have q2:((f[k].toNat:Int)==116)=true:=by rw [beq_iff_eq];omega
    have hw:letZ f[k]=300:=by rw [hc];rfl
    clear hf2 hnk
    go_wp2_with (
     go_at_call 149
     refine(l02Short_any g a n cap _ hsrc).mono ?_;rintro e w3 ⟨x,rfl,hx1,hx2,hsE,hg3⟩;have hgE:=grown_step hgr hg3
     have hfit:D.size+x.size<=9223372036854775807:=by omega)
    go_roundw
    case rel=>exact⟨k+1,D++x,by omega,by go_num,rfl,by rw [HT.out,wtZ_snoc,ByteArray.size_append];omega,hsE,hgE⟩
    case measure=>simp [intOf];omega
   ·skip
    have hv:f[k].toNat=115:=by rw [hc];rfl
    have q0:((f[k].toNat:Int)==110)=false:=by rw [beq_eq_false_iff_ne];omega
    have q1:((f[k].toNat:Int)==98)=false:=by rw [beq_eq_false_iff_ne];omega
    have q2:((f[k].toNat:Int)==116)=false:=by rw [beq_eq_false_iff_ne];omega
    have q3:((f[k].toNat:Int)==115)=true:=by rw [beq_iff_eq];omega
    have hw:letZ f[k]=771:=by rw [hc];rfl
    clear hf2 hnk;go_wp2_with fail
    refine(l01Next_any g a n cap 3 _ hsrc (by decide)).mono ?_;rintro e w3 ⟨r,rfl,hr0,hr1,hs3,hg3⟩;have hr2:=hr1 (by decide);obtain⟨r,rfl⟩:=Int.eq_ofNat_of_zero_le hr0;have hgg3:=grown_step hgr hg3;clear hr1 hg3;go_wp2
    go_loopw [6,9] (fun o i wr=>∃ (j:Nat) (y:ByteArray),j<=1+r∧i=.int .i64 j∧o=.string (D++y)∧y.size<=257*j∧Src wr g a n cap∧w.grownBy wr (some g)) (fun _ i _=>1+r-(intOf i).toNat)
    case atStart=>exact⟨0,ByteArray.empty,by omega,rfl,by simp,by decide,hs3,hgg3⟩
    case round=>
     obtain⟨j,y,hj,rfl,rfl,hy,hs5,hg5⟩:=hrel;clear hs3 hgg3
     by_cases hlj:j<1+r
     ·have hlj':(j:Int)<1+(r:Int):=by omega
      go_wp2_with (
       go_at_call 149
       refine(l02Short_any g a n cap _ hs5).mono ?_;rintro e w6 ⟨x,rfl,hx1,hx2,hs6,hg6⟩;have hg56:=grown_step hg5 hg6
       have hfit:(D++y).size+x.size<=9223372036854775807:=by rw [ByteArray.size_append];omega)
      go_roundw
      case rel=>exact⟨j+1,y++x,by omega,by go_num,by rw [ByteArray.append_assoc],by rw [ByteArray.size_append];omega,hs6,hg56⟩
      case measure=>simp [intOf];omega
     ·obtain rfl:j=1+r:=by omega
      have hsE:=hs5;have hgE:=hg5;go_wp2;go_roundw
      case rel=>exact⟨k+1,D++y,by omega,by go_num,rfl,by rw [HT.out,wtZ_snoc,ByteArray.size_append];omega,hsE,hgE⟩
      case measure=>simp [intOf];omega
   ·skip
    have hv:f[k].toNat=99:=by rw [hc];rfl
    have q0:((f[k].toNat:Int)==110)=false:=by rw [beq_eq_false_iff_ne];omega
    have q1:((f[k].toNat:Int)==98)=false:=by rw [beq_eq_false_iff_ne];omega
    have q2:((f[k].toNat:Int)==116)=false:=by rw [beq_eq_false_iff_ne];omega
    have q3:((f[k].toNat:Int)==115)=false:=by rw [beq_eq_false_iff_ne];omega
    have q4:((f[k].toNat:Int)==99)=true:=by rw [beq_iff_eq];omega
    have hw:letZ f[k]=300:=by rw [hc];rfl
    clear hf2 hnk
    go_wp2_with (
     go_at_call 149
     refine(l02Short_any g a n cap _ hsrc).mono ?_;rintro e w3 ⟨x,rfl,hx1,hx2,hsE,hg3⟩;have hgE:=grown_step hgr hg3;have hx1':(1:Int)<=(x.size:Int):=by omega
     have hxe:(x.extract 1 x.size).size=x.size-1:=by simp
     have hd5:(⟨#[5]⟩:ByteArray).size=1:=rfl
     have hdi:(⟨#[105,115,115,117,101]⟩:ByteArray).size=5:=rfl)
    go_roundw
    case rel=>exact⟨k+1,D++(⟨#[5]⟩++(⟨#[105,115,115,117,101]⟩++x.extract 1 x.size)),by omega,by go_num,by rw [ByteArray.append_assoc,ByteArray.append_assoc],by rw [HT.out,wtZ_snoc,ByteArray.size_append,ByteArray.size_append,ByteArray.size_append];omega,hsE,hgE⟩
    case measure=>simp [intOf];omega
   ·exact absurd hc hnk
   ·skip
    have hv:f[k].toNat=42:=by rw [hc];rfl
    have q0:((f[k].toNat:Int)==110)=false:=by rw [beq_eq_false_iff_ne];omega
    have q1:((f[k].toNat:Int)==98)=false:=by rw [beq_eq_false_iff_ne];omega
    have q2:((f[k].toNat:Int)==116)=false:=by rw [beq_eq_false_iff_ne];omega
    have q3:((f[k].toNat:Int)==115)=false:=by rw [beq_eq_false_iff_ne];omega
    have q4:((f[k].toNat:Int)==99)=false:=by rw [beq_eq_false_iff_ne];omega
    have q5:((f[k].toNat:Int)==109)=false:=by rw [beq_eq_false_iff_ne];omega
    have q6:((f[k].toNat:Int)==42)=true:=by rw [beq_iff_eq];omega
    have hw:letZ f[k]=300:=by rw [hc];rfl
    clear hf2 hnk
    go_wp2_with first
     |(
      go_at_call 30
      refine(l01Next_any g a n cap 12 _ hsrc (by decide)).mono ?_;rintro e w3 ⟨r,rfl,hr0,hr1,hs3,hg3⟩;have hr2:=hr1 (by decide)
      have hgg3:=grown_step hgr hg3)
     |(
      go_at_call 97
      refine(l01Bytes_any g a n cap r _ hs3 (by omega) (by omega)).mono ?_;rintro e w4 ⟨x,rfl,hx,hsE,hg4⟩;have hgE:=grown_step hgg3 hg4
      have hfit:D.size+x.size<=9223372036854775807:=by omega)
    go_roundw
    case rel=>exact⟨k+1,D++x,by omega,by go_num,rfl,by rw [HT.out,wtZ_snoc,ByteArray.size_append];omega,hsE,hgE⟩
    case measure=>simp [intOf];omega
  ·obtain rfl:k=f.size:=by omega
   have hall:f.data.toList.take f.size=f.data.toList:=List.take_of_length_le (by simp);rw [hall] at hsz;have i1:(f.size:Int)<=(f.size:Int):=by omega
   go_wp2;go_ret;exact⟨_,rfl,by omega,hsrc,hgr⟩
end Go.Proofs.YtahpiciofdfipaaGreat
