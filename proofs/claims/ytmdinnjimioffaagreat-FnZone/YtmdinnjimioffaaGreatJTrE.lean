import Derived.Test.YtmdinnjimioffaaGreatJTrD
import Derived.Test.YtmdinnjimioffaaGreatJTbII
import Derived.Test.YtmdinnjimioffaaGreatJTbIL
import Derived.Test.YtmdinnjimioffaaGreatJSameM
import Derived.Test.YtmdinnjimioffaaGreatJCmp2
import Derived.Test.YtmdinnjimioffaaGreatJTrM
import Derived.Test.YtmdinnjimioffaaGreatJData2
import Derived.Test.YtmdinnjimioffaaGreatJSSplit
import Derived.Test.YtmdinnjimioffaaGreatJMath
import Derived.Deep.LoopGhost
import Derived.Test.YtmdinnjimioffaaGreatJCmp
import Derived.Test.YtmdinnjimioffaaGreatZrI
import Derived.Deep.AppendSrc
namespace Go.Proofs.YtmdinnjimioffaaGreat
open Go.RowKit
set_option linter.unusedVariables false
theorem flat_ins{α:Type}(f:α->List Nat)(k:Nat)(x:α)(l:List α):((insAt k x l).flatMap f).Perm (f x++l.flatMap f):=by
 rw [insAt,List.append_assoc,List.flatMap_append,List.flatMap_append];have e:l.flatMap f=(l.take k).flatMap f++(l.drop k).flatMap f:=by rw [<- List.flatMap_append,List.take_append_drop]
 rw [e];simp only [List.flatMap_cons,List.flatMap_nil,List.append_nil];rw [<- List.append_assoc,<- List.append_assoc];exact List.Perm.append_right _ List.perm_append_comm
theorem own_list(v:Value):v.ownBlock.toList.Nodup:=by cases v.ownBlock<;>simp
theorem nd_grow{N M:Nat}{A r r' X Y:List Nat}(h:(A++(r++X)).Nodup)(hlt:∀ x∈A++(r++X),x<N)(hY:Y.Nodup)(hY1:∀ y∈Y,N<=y∧y<M)(hr':r'.Nodup)(hr:r'=r∨∀ x∈r',M<=x)(hNM:N<=M):(A++(r'++(Y++X))).Nodup:=by
 rw [List.nodup_append,List.nodup_append] at h;obtain⟨hA,⟨hr0,hX,hrX⟩,hAX⟩:=h;have lA:∀ x∈A,x<N:=fun x hx=>hlt x (by simp [hx])
 have lr:∀ x∈r,x<N:=fun x hx=>hlt x (by simp [hx])
 have lX:∀ x∈X,x<N:=fun x hx=>hlt x (by simp [hx])
 rw [List.nodup_append,List.nodup_append,List.nodup_append];refine⟨hA,⟨hr',⟨hY,hX,fun a ha b hb=>?_⟩,fun a ha b hb=>?_⟩,fun a ha b hb=>?_⟩
 ·have:=(hY1 a ha).1;have:=lX b hb;omega
 ·rcases hr with rfl|hr
  ·rcases List.mem_append.1 hb with hb|hb
   ·have:=(hY1 b hb).1;have:=lr a ha;omega
   ·exact hrX a ha b hb
  ·rcases List.mem_append.1 hb with hb|hb
   ·have:=(hY1 b hb).2;have:=hr a ha;omega
   ·have:=lX b hb;have:=hr a ha;omega
 ·rcases List.mem_append.1 hb with hb|hb
  ·rcases hr with rfl|hr
   ·exact hAX a ha b (List.mem_append.2 (.inl hb))
   ·have:=lA a ha;have:=hr b hb;omega
  ·rcases List.mem_append.1 hb with hb|hb
   ·have:=(hY1 b hb).1;have:=lA a ha;omega
   ·exact hAX a ha b (List.mem_append.2 (.inr hb))
def sCmp(ty:Int)(s:GSe):Int:=Nm.cmpI s.ty ty
def SeS(l:List GSe):Prop:=l.Pairwise fun a b=>a.ty<b.ty
def GotS(ty tt:Int)(at_:Nat)(l:List GSe)(s:GSe)(l':List GSe):Prop:=
 (isIn (sCmp ty) l=true∧l'=l∧l[posOf (sCmp ty) l]? =some s∧s.ty=ty)∨(isIn (sCmp ty) l=false∧l'=insAt (posOf (sCmp ty) l) s l∧s.ty=ty∧s.tt=tt∧s.fi=at_∧s.da=[])
theorem cmpI_neg{a b:Int}:Nm.cmpI a b<0↔a<b:=by
 constructor
 ·intro h
  rcases Int.lt_or_le a b with h1|h1
  ·exact h1
  ·rcases Int.lt_or_eq_of_le h1 with h2|h2
   ·rw [Nm.cmpI_gt h2] at h;omega
   ·rw [Nm.cmpI_eq h2.symm] at h;omega
 ·intro h;rw [Nm.cmpI_lt h];decide
theorem cmpI_zero{a b:Int}(h:Nm.cmpI a b=0):a=b:=by
 rcases Int.lt_trichotomy a b with h1|h1|h1
 ·rw [Nm.cmpI_lt h1] at h;omega
 ·exact h1
 ·rw [Nm.cmpI_gt h1] at h;omega
set_option maxHeartbeats 800000 in
theorem set_any(o:GOw)(B rb ab at_:Nat)(ty tt:Int)(r0 r1 r2 r4:Value)(w:World)(h:OwAt w B o)(hnd:(fpO o).Nodup)(hB:B<=w.heap.size)(hl:o.ss.length<=500000)(hd:SeS o.ss)(kr:Blk w rb #[r0,r1,r2,.int .i64 tt,r4] 33)(ka:Blk w ab #[.int .i64 (at_:Int)] 3):
 Calls Tryz.prog 118 #[ptr o.hd,.int .i64 ty,.func (.func 119) #[] #[ptr rb,ptr ab]] w fun e w'=>∃ s rv' ss',e=.returned (ptr s.blk)∧GotS ty tt at_ o.ss s ss'∧OwAt w' B {o with rv:=rv',ss:=ss'}∧(fpO {o with rv:=rv',ss:=ss'}).Nodup∧Outs (fpO o) w w'∧∀ b∈fpO {o with rv:=rv',ss:=ss'},b∈fpO o∨w.heap.size<=b:=by
 have hdl:(seRs o.ss).length=o.ss.length:=by simp [seRs]
 have hcf:∀ (tb i:Nat) (p:Value×Value),(seRs o.ss)[i]? =some p->∀ W,Below w.heap.size w W->Blk W tb #[.pointer (some ⟨o.hd,0,none⟩)] 106->Calls Tryz.prog 145 #[.agg #[p.1,p.2],.int .i64 ty,.pointer (some ⟨tb,0,none⟩)] W fun e w'=>e=.returned (.int .i64 (cfOf (sCmp ty) o.ss i))∧Below W.heap.size W w':=by
  intro tb i p hp W hW kb;simp only [seRs,List.getElem?_map,Option.map_eq_some_iff] at hp;obtain⟨q,hq,rfl⟩:=hp;rw [cfOf_at hq];exact place1I_any tb o.hd o.rv (ptr q.blk) q.ty ty W kb (blk_below h.head hW)
 have hmono:=mono_of_pair (f:=sCmp ty) hd (fun a b hab hb=>by
  rw [sCmp,cmpI_neg] at hb ⊢
  omega)
 have hfnd:=posOf_fnd o.ss hmono
 cases hin:isIn (sCmp ty) o.ss with
 |true=>
  obtain⟨x,hx,hx0⟩:=isIn_some hin;have hx':(seRs o.ss)[posOf (sCmp ty) o.ss]? =some (.int .i64 x.ty,ptr x.blk):=by simp [seRs,hx]
  refine(valueOfI_in o.hd B cmpIv o.rv (.int .i64 ty) _ (seRs o.ss) (cfOf (sCmp ty) o.ss) (posOf (sCmp ty) o.ss) _ w h.head h.rows (by omega) hcf (by rw [hdl];exact hmono) (by rw [hdl];exact hfnd) hx' (by rw [cfOf_at hx];exact hx0)).mono ?_;rintro e w' ⟨rfl,hb⟩
  exact⟨x,o.rv,o.ss,rfl,.inl ⟨hin,rfl,hx,cmpI_zero hx0⟩,h.keep (fun b hm=>hb.block b (h.lt b hm)),hnd,Outs.below hb,fun b hbm=>.inl hbm⟩
 |false=>
  have hout:=valueOfI_out o.hd B cmpIv o.rv ty #[ptr rb,ptr ab] (seRs o.ss) (cfOf (sCmp ty) o.ss) (posOf (sCmp ty) o.ss) w none (NewS tt at_) h.head h.rows (by omega) hcf (by rw [hdl];exact hmono) (by rw [hdl];exact hfnd) (by rw [hdl];exact isIn_not hin)
   (fun p hp=>by
    simp only [seRs,List.mem_map] at hp;obtain⟨q,_,rfl⟩:=hp
    exact⟨rfl,rfl⟩) hB
   (fun W hW=>lay2_any rb ab at_ tt r0 r1 r2 r4 W (blk_below kr hW) (blk_below ka hW)) (by simp) (by simp)
  refine hout.mono ?_;rintro e w' ⟨ux,W,w1,rv',rfl,hW,hg1,⟨hd1,sb,rfl,hh1,hs1,hne,kh1,ks1⟩,kg',ho',hK,hloc⟩;have hW1:Below w.heap.size w w1:=⟨hg1.os.trans hW.os,hg1.tape.trans hW.tape,hg1.output.trans hW.output,Nat.le_trans hW.size hg1.size,fun k hk=>(hg1.block k (Nat.lt_of_lt_of_le hk hW.size) (by simp)).trans (hW.block k hk)⟩;have hsW:=hW.size;have hsb:=blk_lt ks1;have hhb:=blk_lt kh1;have holt:∀ x,o.rv.ownBlock=some x->x<w.heap.size:=fun x hx=>(h.rows.lt x hx).2
  have hohd:=blk_lt h.head
  -- the old parts
  have keep:∀ b,b<w.heap.size->b≠o.hd->o.rv.ownBlock≠some b->w'.heap[b]? =w.heap[b]? :=fun b hb h1 h2=>(hK.block b (Nat.lt_of_lt_of_le hb hW1.size) h1 h2).trans (hW1.block b hb)
  have hnd':=hnd;simp only [fpO,List.nodup_cons,List.nodup_append,List.mem_cons,List.mem_append,not_or] at hnd';obtain⟨⟨a1,a2,a3⟩,⟨a4,a5⟩,a6,a7,a8⟩:=hnd';refine⟨⟨sb,hd1,.slice none 0 0,ty,tt,at_,[]⟩,rv',insAt (posOf (sCmp ty) o.ss) ⟨sb,hd1,.slice none 0 0,ty,tt,at_,[]⟩ o.ss,rfl,.inr ⟨hin,rfl,rfl,rfl,rfl,rfl⟩,⟨?_,kg',?_,?_⟩,?_,?_,?_⟩
  ·exact blk_keep h.node (keep o.blk (blk_lt h.node) a1 (fun e=>a2 (by rw [e];simp)))
  ·have e1:seRs (insAt (posOf (sCmp ty) o.ss) ⟨sb,hd1,.slice none 0 0,ty,tt,at_,[]⟩ o.ss)=(seRs o.ss).take (posOf (sCmp ty) o.ss)++[(Value.int .i64 ty,Value.pointer (some ⟨sb,0,none⟩))]++(seRs o.ss).drop (posOf (sCmp ty) o.ss):=by simp [seRs,insAt,ptr]
   show w'.ownsRow B _ 2 rv' (seRs (insAt (posOf (sCmp ty) o.ss) ⟨sb,hd1,.slice none 0 0,ty,tt,at_,[]⟩ o.ss)).length (rowCs (seRs (insAt (posOf (sCmp ty) o.ss) ⟨sb,hd1,.slice none 0 0,ty,tt,at_,[]⟩ o.ss)))
   rw [e1]
   have hle:((seRs o.ss).take (posOf (sCmp ty) o.ss)++[(Value.int .i64 ty,Value.pointer (some ⟨sb,0,none⟩))]++(seRs o.ss).drop (posOf (sCmp ty) o.ss)).length=(seRs o.ss).length+1:=by
    have:=hfnd.1;simp
    omega
   rw [hle];exact ho'
  ·intro s hs
   have hcase:s∈o.ss∨s=⟨sb,hd1,.slice none 0 0,ty,tt,at_,[]⟩:=by
    simp only [insAt,List.mem_append,List.mem_singleton] at hs
    rcases hs with(hs|hs)|hs
    ·exact .inl (List.mem_of_mem_take hs)
    ·exact .inr hs
    ·exact .inl (List.mem_of_mem_drop hs)
   rcases hcase with hs|rfl
   ·refine(h.sets s hs).keep (fun b hb=>keep b ((h.sets s hs).lt b hb) ?_ ?_)
    ·intro e;exact a5 (List.mem_flatMap.2 ⟨s,hs,by rw [<- e];exact hb⟩)
    ·intro e;exact a8 b (by rw [e];simp) b (List.mem_flatMap.2 ⟨s,hs,hb⟩) rfl
   ·exact⟨hK.blk ks1 (show sb≠o.hd by omega) (fun e=>by have:=holt sb e;omega),hK.blk kh1 (show hd1≠o.hd by omega) (fun e=>by have:=holt hd1 e;omega),World.ownsRow_nil _ _ _ _⟩
  ·have hp:(fpO {o with rv:=rv',ss:=insAt (posOf (sCmp ty) o.ss) ⟨sb,hd1,.slice none 0 0,ty,tt,at_,[]⟩ o.ss}).Perm ([o.blk,o.hd]++(rv'.ownBlock.toList++([sb,hd1]++o.ss.flatMap fpS))):=by
    show(o.blk::o.hd::(rv'.ownBlock.toList++_)).Perm _
    refine List.Perm.cons _ (List.Perm.cons _ (List.Perm.append_left _ ?_));exact flat_ins fpS _ _ _
   rw [hp.nodup_iff]
   refine nd_grow (N:=w.heap.size) (M:=w1.heap.size) (r:=o.rv.ownBlock.toList) hnd (h.lt) (by simp;omega) (by
    intro y hy;simp at hy
    rcases hy with rfl|rfl<;>omega) (own_list _) ?_ hW1.size
   rcases hloc with h1|h1
   ·left;rw [h1]
   ·right;intro x hx
    cases hr:rv'.ownBlock with
    |none=>rw [hr] at hx;simp at hx
    |some q=>
     rw [hr] at hx;simp at hx;subst hx;exact h1 _ hr
  ·refine⟨hK.os.trans hW1.os,hK.tape.trans hW1.tape,hK.output.trans hW1.output,Nat.le_trans hW1.size hK.size,fun k hk hn=>keep k hk (fun e=>hn (by rw [e];simp [fpO])) (fun e=>hn (by simp only [fpO,List.mem_cons,List.mem_append];exact .inr (.inr (.inl (by rw [e];simp)))))⟩
  ·intro b hb
   have hp:(fpO {o with rv:=rv',ss:=insAt (posOf (sCmp ty) o.ss) ⟨sb,hd1,.slice none 0 0,ty,tt,at_,[]⟩ o.ss}).Perm ([o.blk,o.hd]++(rv'.ownBlock.toList++([sb,hd1]++o.ss.flatMap fpS))):=by
    show(o.blk::o.hd::(rv'.ownBlock.toList++_)).Perm _
    refine List.Perm.cons _ (List.Perm.cons _ (List.Perm.append_left _ ?_));exact flat_ins fpS _ _ _
   rw [hp.mem_iff] at hb;simp only [List.mem_append,List.mem_cons,List.not_mem_nil,or_false] at hb
   rcases hb with(rfl|rfl)|hb|(rfl|rfl)|hb
   ·left;simp [fpO]
   ·left;simp [fpO]
   ·rcases hloc with h1|h1
    ·left;rw [h1] at hb;simp only [fpO,List.mem_cons,List.mem_append];exact .inr (.inr (.inl hb))
    ·right
     cases hr:rv'.ownBlock with
     |none=>rw [hr] at hb;simp at hb
     |some q=>
      rw [hr] at hb;simp at hb;subst hb;have:=h1 _ hr;have:=hW1.size;omega
   ·right;omega
   ·right;omega
   ·left;simp only [fpO,List.mem_cons,List.mem_append];exact .inr (.inr (.inr hb))
def rowBlk:Value->Option Nat
 |.slice (some a) _ _=>some a.block
 |_=>none
structure LabOK (w:World) (fp:List Nat) (v:Value) (lab:List ByteArray):Prop where
 row:Nm.SRow w v lab
 far:lab≠[]->∀ b,rowBlk v=some b->b∉fp∧b<w.heap.size
 fit:(∀ x∈lab,x.size<=1000000000)∧lab.length<=1000000000
def LabAt(w:World)(fp:List Nat)(os:List GOw):Prop:=∀ o∈os,LabOK w fp o.lv o.lab
theorem srow_keep{w w':World}{v:Value}{lab:List ByteArray}(h:Nm.SRow w v lab)(he:lab≠[]->∀ b,rowBlk v=some b->w'.heap[b]? =w.heap[b]?):Nm.SRow w' v lab:=by
 obtain⟨a,cap,rfl,h1,h2,h3,h4⟩:=h;refine⟨a,cap,rfl,h1,h2,h3,fun hne=>?_⟩;obtain⟨b,off,rfl,hc⟩:=h4 hne;refine⟨b,off,rfl,fun k x hx=>?_⟩;rw [World.cell?_of_block (w:=w) (he hne b rfl)];exact hc k x hx
theorem LabOK.outs{w w':World}{fp fp':List Nat}{v:Value}{lab:List ByteArray}(h:LabOK w fp v lab)(ho:Outs fp w w')(hf:∀ b∈fp',b∈fp∨w.heap.size<=b):LabOK w' fp' v lab:=by
 refine⟨srow_keep h.row (fun hne b hb=>?_),fun hne b hb=>?_,h.fit⟩
 ·obtain⟨h1,h2⟩:=h.far hne b hb;exact ho.block b h2 h1
 ·obtain⟨h1,h2⟩:=h.far hne b hb;refine⟨fun hm=>?_,Nat.lt_of_lt_of_le h2 ho.size⟩
  rcases hf b hm with h3|h3
  ·exact h1 h3
  ·omega
def oCmp(lab:List ByteArray)(o:GOw):Int:=Nm.cmpLs o.lab lab
def OwS(l:List GOw):Prop:=l.Pairwise fun a b=>Nm.cmpLs a.lab b.lab<0
theorem cmpLs_lt_trans{a b c:List ByteArray}(h1:Nm.cmpLs a b<0)(h2:Nm.cmpLs b c<0):Nm.cmpLs a c<0:=by
 have h3:=cmpLs_trans (a:=a) (b:=b) (c:=c) (by omega) (by omega)
 rcases Int.lt_or_eq_of_le h3 with h|h
 ·exact h
 ·exfalso
  have h4:=cmpLs_anti a c;have h5:=cmpLs_trans (a:=b) (b:=c) (c:=a) (by omega) (by rw [h4];omega);have h6:=cmpLs_anti a b;omega
def GotO(own:ByteArray)(lv:Value)(lab:List ByteArray)(l:List GOw)(o:GOw)(l':List GOw):Prop:=
 (isIn (oCmp lab) l=true∧l'=l∧l[posOf (oCmp lab) l]? =some o∧Nm.cmpLs o.lab lab=0)∨(isIn (oCmp lab) l=false∧l'=insAt (posOf (oCmp lab) l) o l∧o.lab=lab∧o.lv=lv∧o.nm=own∧o.ss=[])
set_option maxHeartbeats 800000 in
theorem owner_any(th:Nat)(rv:Value)(os:List GOw)(B rb lb:Nat)(own:ByteArray)(la:Option Addr)(ln lc:Nat)(lab:List ByteArray)(r1 r2 r3 r4:Value)(w:World)(h:TrAt w B th rv os)(hB:B<=w.heap.size)(hl:os.length<=500000)(hd:OwS os)(hLab:LabAt w (fpT th rv os) os)(hlab:LabOK w (fpT th rv os) (.slice la ln lc) lab)(kr:Blk w rb #[.string own,r1,r2,r3,r4] 33)(kl:Blk w lb #[.slice la ln lc] 67)(hs:own.size<=1000000000):
 Calls Tryz.prog 114 #[ptr th,.slice la ln lc,.func (.func 115) #[] #[ptr rb,ptr lb]] w fun e w'=>∃ o rv' os',e=.returned (ptr o.blk)∧GotO own (.slice la ln lc) lab os o os'∧TrAt w' B th rv' os'∧Outs (fpT th rv os) w w'∧∀ b∈fpT th rv' os',b∈fpT th rv os∨w.heap.size<=b:=by
 have hdl:(owRs os).length=os.length:=by simp [owRs]
 have hcf:∀ (tb i:Nat) (p:Value×Value),(owRs os)[i]? =some p->∀ W,Below w.heap.size w W->Blk W tb #[.pointer (some ⟨th,0,none⟩)] 68->Calls Tryz.prog 152 #[.agg #[p.1,p.2],.slice la ln lc,.pointer (some ⟨tb,0,none⟩)] W fun e w'=>e=.returned (.int .i64 (cfOf (oCmp lab) os i))∧Below W.heap.size W w':=by
  intro tb i p hp W hW kb;simp only [owRs,List.getElem?_map,Option.map_eq_some_iff] at hp;obtain⟨q,hq,rfl⟩:=hp;rw [cfOf_at hq];have hq2:=hLab q (List.mem_of_getElem? hq);exact place1L_any tb th rv (ptr q.blk) q.lv (.slice la ln lc) q.lab lab W kb (blk_below h.head hW) (hq2.row.below hW) (hlab.row.below hW) hq2.fit.1 hq2.fit.2 hlab.fit.2
 have hmono:=mono_of_pair (f:=oCmp lab) hd (fun a b hab hb=>by
  exact cmpLs_lt_trans hab hb)
 have hfnd:=posOf_fnd os hmono
 cases hin:isIn (oCmp lab) os with
 |true=>
  obtain⟨x,hx,hx0⟩:=isIn_some hin;have hx':(owRs os)[posOf (oCmp lab) os]? =some (x.lv,ptr x.blk):=by simp [owRs,hx]
  refine(valueOfL_in th B cmpLv rv (.slice la ln lc) _ (owRs os) (cfOf (oCmp lab) os) (posOf (oCmp lab) os) _ w h.head h.rows (by omega) hcf (by rw [hdl];exact hmono) (by rw [hdl];exact hfnd) hx' (by rw [cfOf_at hx];exact hx0)).mono ?_;rintro e w' ⟨rfl,hb⟩
  exact⟨x,rv,os,rfl,.inl ⟨hin,rfl,hx,hx0⟩,h.keep (fun b hm=>hb.block b (h.lt b hm)),Outs.below hb,fun b hbm=>.inl hbm⟩
 |false=>
  have hout:=valueOfL_out th B cmpLv rv la ln lc #[ptr rb,ptr lb] (owRs os) (cfOf (oCmp lab) os) (posOf (oCmp lab) os) w none (NewO own (.slice la ln lc)) h.head h.rows (by omega) hcf (by rw [hdl];exact hmono) (by rw [hdl];exact hfnd) (by rw [hdl];exact isIn_not hin)
   (fun p hp=>by
    simp only [owRs,List.mem_map] at hp;obtain⟨q,hq,rfl⟩:=hp;obtain⟨qa,qc,e,_⟩:=(hLab q hq).row;refine⟨?_,rfl⟩;show q.lv.oneCell'=true
    rw [e]
    rfl) hB
   (fun W hW=>lay1_any rb lb own r1 r2 r3 r4 la ln lc W (blk_below kr hW) (blk_below kl hW) hs) (by simp) (by simp)
  refine hout.mono ?_;rintro e w' ⟨ux,W,w1,rv',rfl,hW,hg1,⟨hd1,sb,rfl,hh1,hs1,hne,kh1,ks1⟩,kg',ho',hK,hloc⟩;have hW1:Below w.heap.size w w1:=⟨hg1.os.trans hW.os,hg1.tape.trans hW.tape,hg1.output.trans hW.output,Nat.le_trans hW.size hg1.size,fun k hk=>(hg1.block k (Nat.lt_of_lt_of_le hk hW.size) (by simp)).trans (hW.block k hk)⟩;have hsW:=hW.size;have hsb:=blk_lt ks1;have hhb:=blk_lt kh1;have holt:∀ x,rv.ownBlock=some x->x<w.heap.size:=fun x hx=>(h.rows.lt x hx).2
  have hohd:=blk_lt h.head;have keep:∀ b,b<w.heap.size->b≠th->rv.ownBlock≠some b->w'.heap[b]? =w.heap[b]? :=fun b hb h1 h2=>(hK.block b (Nat.lt_of_lt_of_le hb hW1.size) h1 h2).trans (hW1.block b hb)
  have hnd':=h.nodup;simp only [fpT,List.nodup_cons,List.nodup_append,List.mem_append,not_or] at hnd';obtain⟨⟨a2,a3⟩,a6,a7,a8⟩:=hnd';obtain⟨on,hon⟩:∃ on:GOw,on=⟨sb,hd1,.slice none 0 0,.slice la ln lc,lab,own,[]⟩:=⟨_,rfl⟩
  have hp:(fpT th rv' (insAt (posOf (oCmp lab) os) on os)).Perm ([th]++(rv'.ownBlock.toList++([sb,hd1]++os.flatMap fpO))):=by
   show(th::(rv'.ownBlock.toList++_)).Perm _
   refine List.Perm.cons _ (List.Perm.append_left _ ?_);have:=flat_ins fpO (posOf (oCmp lab) os) on os;rw [show fpO on=[sb,hd1] by rw [hon];rfl] at this;exact this
  refine⟨on,rv',insAt (posOf (oCmp lab) os) on os,by rw [hon];rfl,.inr ⟨hin,rfl,by rw [hon],by rw [hon],by rw [hon],by rw [hon]⟩,⟨kg',?_,?_,?_⟩,?_,?_⟩
  ·have e1:owRs (insAt (posOf (oCmp lab) os) on os)=(owRs os).take (posOf (oCmp lab) os)++[(Value.slice la ln lc,Value.pointer (some ⟨sb,0,none⟩))]++(owRs os).drop (posOf (oCmp lab) os):=by rw [hon];simp [owRs,insAt,ptr]
   rw [e1]
   have hle:((owRs os).take (posOf (oCmp lab) os)++[(Value.slice la ln lc,Value.pointer (some ⟨sb,0,none⟩))]++(owRs os).drop (posOf (oCmp lab) os)).length=(owRs os).length+1:=by
    have:=hfnd.1;simp
    omega
   rw [hle];exact ho'
  ·intro o ho
   have hcase:o∈os∨o=on:=by
    simp only [insAt,List.mem_append,List.mem_singleton] at ho
    rcases ho with(ho|ho)|ho
    ·exact .inl (List.mem_of_mem_take ho)
    ·exact .inr ho
    ·exact .inl (List.mem_of_mem_drop ho)
   rcases hcase with ho|rfl
   ·refine(h.owners o ho).keep (fun b hb=>keep b ((h.owners o ho).lt b hb) ?_ ?_)
    ·intro e;exact a3 (List.mem_flatMap.2 ⟨o,ho,by rw [<- e];exact hb⟩)
    ·intro e;exact a8 b (by rw [e];simp) b (List.mem_flatMap.2 ⟨o,ho,hb⟩) rfl
   ·rw [hon];exact⟨hK.blk ks1 (show sb≠th by omega) (fun e=>by have:=holt sb e;omega),hK.blk kh1 (show hd1≠th by omega) (fun e=>by have:=holt hd1 e;omega),World.ownsRow_nil _ _ _ _,by simp⟩
  ·rw [hp.nodup_iff]
   refine nd_grow (N:=w.heap.size) (M:=w1.heap.size) (r:=rv.ownBlock.toList) h.nodup (h.lt) (by simp;omega) (by
    intro y hy;simp at hy
    rcases hy with rfl|rfl<;>omega) (own_list _) ?_ hW1.size
   rcases hloc with h1|h1
   ·left;rw [h1]
   ·right;intro x hx
    cases hr:rv'.ownBlock with
    |none=>rw [hr] at hx;simp at hx
    |some q=>
     rw [hr] at hx;simp at hx;subst hx;exact h1 _ hr
  ·refine⟨hK.os.trans hW1.os,hK.tape.trans hW1.tape,hK.output.trans hW1.output,Nat.le_trans hW1.size hK.size,fun k hk hn=>keep k hk (fun e=>hn (by rw [e];simp [fpT])) (fun e=>hn (by simp only [fpT,List.mem_cons,List.mem_append];exact .inr (.inl (by rw [e];simp))))⟩
  ·intro b hb;rw [hp.mem_iff] at hb;simp only [List.mem_append,List.mem_cons,List.not_mem_nil,or_false] at hb
   rcases hb with rfl|hb|(rfl|rfl)|hb
   ·left;simp [fpT]
   ·rcases hloc with h1|h1
    ·left;rw [h1] at hb;simp only [fpT,List.mem_cons,List.mem_append];exact .inr (.inl hb)
    ·right
     cases hr:rv'.ownBlock with
     |none=>rw [hr] at hb;simp at hb
     |some q=>
      rw [hr] at hb;simp at hb;subst hb;have:=h1 _ hr;have:=hW1.size;omega
   ·right;omega
   ·right;omega
   ·left;simp only [fpT,List.mem_cons,List.mem_append];exact .inr (.inr hb)
theorem set_split{α:Type}{l:List α}{j:Nat}{x:α}(h:l[j]? =some x)(y:α):l=l.take j++[x]++l.drop (j+1)∧l.set j y=l.take j++[y]++l.drop (j+1):=by
 obtain⟨hj,e⟩:=List.getElem?_eq_some_iff.1 h;constructor
 ·rw [List.append_assoc,List.singleton_append,<- e,List.getElem_cons_drop,List.take_append_drop]
 ·rw [List.set_eq_take_append_cons_drop,if_pos hj,List.append_assoc];rfl
theorem nd_seg{N:Nat}{X A A' Y:List Nat}(h:(X++(A++Y)).Nodup)(hlt:∀ x∈X++(A++Y),x<N)(hA:A'.Nodup)(hm:∀ a∈A',a∈A∨N<=a):(X++(A'++Y)).Nodup:=by
 rw [List.nodup_append,List.nodup_append] at h;obtain⟨hX,⟨hA0,hY,hAY⟩,hXA⟩:=h;rw [List.nodup_append,List.nodup_append];refine⟨hX,⟨hA,hY,fun a ha b hb=>?_⟩,fun a ha b hb=>?_⟩
 ·rcases hm a ha with h1|h1
  ·exact hAY a h1 b hb
  ·have:=hlt b (by simp [hb]);omega
 ·rcases List.mem_append.1 hb with hb|hb
  ·rcases hm b hb with h1|h1
   ·exact hXA a ha b (List.mem_append.2 (.inl h1))
   ·have:=hlt a (by simp [ha]);omega
  ·exact hXA a ha b (List.mem_append.2 (.inr hb))
theorem ow_set{w w':World}{B:Nat}{o:GOw}{j:Nat}{s s':GSe}{F:List Nat}(h:OwAt w B o)(hnd:(fpO o).Nodup)(hj:o.ss[j]? =some s)(hs:SeAt w' B s')(hb:s'.blk=s.blk)(ht:s'.ty=s.ty)(hn:(fpS s').Nodup)
 (hm:∀ b∈fpS s',b∈fpS s∨w.heap.size<=b) (hF:Outs F w w') (hFo:∀ b∈F,b∈fpO o->b∈fpS s):
 OwAt w' B {o with ss:=o.ss.set j s'}∧(fpO {o with ss:=o.ss.set j s'}).Nodup∧∀ b∈fpO {o with ss:=o.ss.set j s'},b∈fpO o∨w.heap.size<=b:=by
 obtain⟨e1,e2⟩:=set_split hj s'
 have f1:fpO o=(o.blk::o.hd::(o.rv.ownBlock.toList++(o.ss.take j).flatMap fpS))++(fpS s++(o.ss.drop (j+1)).flatMap fpS):=by
  conv=>lhs;rw [fpO,e1]
  simp
 have f2:fpO {o with ss:=o.ss.set j s'}=(o.blk::o.hd::(o.rv.ownBlock.toList++(o.ss.take j).flatMap fpS))++(fpS s'++(o.ss.drop (j+1)).flatMap fpS):=by
  show o.blk::o.hd::(o.rv.ownBlock.toList++(o.ss.set j s').flatMap fpS)=_
  rw [e2];simp
 have hnd2:=hnd;rw [f1] at hnd2;have hlt:∀ x∈(o.blk::o.hd::(o.rv.ownBlock.toList++(o.ss.take j).flatMap fpS))++(fpS s++(o.ss.drop (j+1)).flatMap fpS),x<w.heap.size:=fun x hx=>h.lt x (by rw [f1];exact hx)
 have hsep:∀ b,b∈(o.blk::o.hd::(o.rv.ownBlock.toList++(o.ss.take j).flatMap fpS))∨b∈(o.ss.drop (j+1)).flatMap fpS->b∉fpS s:=by
  intro b hb hbs;rw [List.nodup_append,List.nodup_append] at hnd2;obtain⟨_,⟨_,_,h3⟩,h4⟩:=hnd2
  rcases hb with hb|hb
  ·exact h4 b hb b (List.mem_append.2 (.inl hbs)) rfl
  ·exact h3 b hbs b hb rfl
 have keep:∀ b∈fpO o,b∉fpS s->w'.heap[b]? =w.heap[b]? :=fun b hbo hbs=>hF.block b (h.lt b hbo) (fun hbF=>hbs (hFo b hbF hbo))
 refine⟨⟨?_,?_,?_,?_⟩,?_,?_⟩
 ·exact blk_keep h.node (keep _ (by simp [fpO]) (hsep _ (.inl (by simp))))
 ·exact blk_keep h.head (keep _ (by simp [fpO]) (hsep _ (.inl (by simp))))
 ·have e3:seRs (o.ss.set j s')=seRs o.ss:=by
   rw [e2]
   conv=>rhs;rw [e1]
   simp [seRs,hb,ht]
  show w'.ownsRow B _ 2 o.rv (seRs (o.ss.set j s')).length (rowCs (seRs (o.ss.set j s')))
  rw [e3];refine own_keep h.rows (fun b hbm=>keep b (by simp only [fpO,List.mem_cons,List.mem_append];exact .inr (.inr (.inl hbm))) (hsep b (.inl (by simp only [List.mem_cons,List.mem_append];exact .inr (.inr (.inl hbm))))))
 ·intro t htm;have htm2:t∈o.ss.set j s':=htm;rw [e2] at htm2;simp only [List.mem_append,List.mem_singleton] at htm2
  have old:∀ t∈o.ss,(t∈o.ss.take j∨t∈o.ss.drop (j+1))->SeAt w' B t:=by
   intro t hto hts;refine(h.sets t hto).keep (fun b hbm=>keep b (by simp only [fpO,List.mem_cons,List.mem_append,List.mem_flatMap];exact .inr (.inr (.inr ⟨t,hto,hbm⟩))) (hsep b ?_))
   rcases hts with hts|hts
   ·left;simp only [List.mem_cons,List.mem_append,List.mem_flatMap];exact .inr (.inr (.inr ⟨t,hts,hbm⟩))
   ·right;exact List.mem_flatMap.2 ⟨t,hts,hbm⟩
  rcases htm2 with(hts|rfl)|hts
  ·exact old t (List.mem_of_mem_take hts) (.inl hts)
  ·exact hs
  ·exact old t (List.mem_of_mem_drop hts) (.inr hts)
 ·rw [f2];exact nd_seg hnd2 hlt hn hm
 ·intro b hbm;rw [f2] at hbm;rw [f1]
  rcases List.mem_append.1 hbm with hbm|hbm
  ·exact .inl (List.mem_append.2 (.inl hbm))
  ·rcases List.mem_append.1 hbm with hbm|hbm
   ·rcases hm b hbm with h1|h1
    ·exact .inl (List.mem_append.2 (.inr (List.mem_append.2 (.inl h1))))
    ·exact .inr h1
   ·exact .inl (List.mem_append.2 (.inr (List.mem_append.2 (.inr hbm))))
theorem tr_owner{w w':World}{B th:Nat}{rv:Value}{os:List GOw}{p:Nat}{o o':GOw}{F:List Nat}(h:TrAt w B th rv os)(hp:os[p]? =some o)(ho:OwAt w' B o')(hb:o'.blk=o.blk)(hl:o'.lv=o.lv)(hn:(fpO o').Nodup)
 (hm:∀ b∈fpO o',b∈fpO o∨w.heap.size<=b) (hF:Outs F w w') (hFo:∀ b∈F,b∈fpT th rv os->b∈fpO o):
 TrAt w' B th rv (os.set p o')∧∀ b∈fpT th rv (os.set p o'),b∈fpT th rv os∨w.heap.size<=b:=by
 obtain⟨e1,e2⟩:=set_split hp o'
 have f1:fpT th rv os=(th::(rv.ownBlock.toList++(os.take p).flatMap fpO))++(fpO o++(os.drop (p+1)).flatMap fpO):=by
  conv=>lhs;rw [fpT,e1]
  simp
 have f2:fpT th rv (os.set p o')=(th::(rv.ownBlock.toList++(os.take p).flatMap fpO))++(fpO o'++(os.drop (p+1)).flatMap fpO):=by
  rw [fpT,e2];simp
 have hnd2:=h.nodup;rw [f1] at hnd2;have hlt:∀ x∈(th::(rv.ownBlock.toList++(os.take p).flatMap fpO))++(fpO o++(os.drop (p+1)).flatMap fpO),x<w.heap.size:=fun x hx=>h.lt x (by rw [f1];exact hx)
 have hsep:∀ b,b∈(th::(rv.ownBlock.toList++(os.take p).flatMap fpO))∨b∈(os.drop (p+1)).flatMap fpO->b∉fpO o:=by
  intro b hb hbs;rw [List.nodup_append,List.nodup_append] at hnd2;obtain⟨_,⟨_,_,h3⟩,h4⟩:=hnd2
  rcases hb with hb|hb
  ·exact h4 b hb b (List.mem_append.2 (.inl hbs)) rfl
  ·exact h3 b hbs b hb rfl
 have keep:∀ b∈fpT th rv os,b∉fpO o->w'.heap[b]? =w.heap[b]? :=fun b hbo hbs=>hF.block b (h.lt b hbo) (fun hbF=>hbs (hFo b hbF hbo))
 refine⟨⟨?_,?_,?_,?_⟩,?_⟩
 ·exact blk_keep h.head (keep _ (by simp [fpT]) (hsep _ (.inl (by simp))))
 ·have e3:owRs (os.set p o')=owRs os:=by
   rw [e2]
   conv=>rhs;rw [e1]
   simp [owRs,hb,hl]
  rw [e3];refine own_keep h.rows (fun b hbm=>keep b (by simp only [fpT,List.mem_cons,List.mem_append];exact .inr (.inl hbm)) (hsep b (.inl (by simp only [List.mem_cons,List.mem_append];exact .inr (.inl hbm)))))
 ·intro t htm;rw [e2] at htm;simp only [List.mem_append,List.mem_singleton] at htm
  have old:∀ t∈os,(t∈os.take p∨t∈os.drop (p+1))->OwAt w' B t:=by
   intro t hto hts;refine(h.owners t hto).keep (fun b hbm=>keep b (by simp only [fpT,List.mem_cons,List.mem_append,List.mem_flatMap];exact .inr (.inr ⟨t,hto,hbm⟩)) (hsep b ?_))
   rcases hts with hts|hts
   ·left;simp only [List.mem_cons,List.mem_append,List.mem_flatMap];exact .inr (.inr ⟨t,hts,hbm⟩)
   ·right;exact List.mem_flatMap.2 ⟨t,hts,hbm⟩
  rcases htm with(hts|rfl)|hts
  ·exact old t (List.mem_of_mem_take hts) (.inl hts)
  ·exact ho
  ·exact old t (List.mem_of_mem_drop hts) (.inr hts)
 ·rw [f2];exact nd_seg hnd2 hlt hn hm
 ·intro b hbm;rw [f2] at hbm;rw [f1]
  rcases List.mem_append.1 hbm with hbm|hbm
  ·exact .inl (List.mem_append.2 (.inl hbm))
  ·rcases List.mem_append.1 hbm with hbm|hbm
   ·rcases hm b hbm with h1|h1
    ·exact .inl (List.mem_append.2 (.inr (List.mem_append.2 (.inl h1))))
    ·exact .inr h1
   ·exact .inl (List.mem_append.2 (.inr (List.mem_append.2 (.inr hbm))))
end Go.Proofs.YtmdinnjimioffaaGreat
namespace Go.Proofs.YtmdinnjimioffaaGreat
open Go.RowKit
theorem under_short{xs ys:List ByteArray}(h:xs.length<ys.length):underB xs ys=false:=by
 rw [underB,decide_eq_false (by omega)];rfl
theorem under_long{xs ys:List ByteArray}(h:ys.length<=xs.length):underB xs ys=decide (Nm.cmpLs (xs.drop (xs.length-ys.length)) ys=0):=by
 rw [underB,decide_eq_true h];rfl
set_option maxRecDepth 100000 in
set_option maxHeartbeats 800000 in
theorem under_any(v u:Value)(xs ys:List ByteArray)(w:World)(h:Nm.SRow w v xs)(h':Nm.SRow w u ys)(hxs:∀ x∈xs,x.size<=1000000000)(hlx:xs.length<=1000000000)(hly:ys.length<=1000000000):
 Calls Tryz.prog 113 #[v,u] w fun e w'=>e=.returned (.bool (underB xs ys))∧∃ m,w'=w.drewN m:=by
 have hrow:=h;obtain⟨a,cap,rfl,hcap,hmx,hnl,hc⟩:=h;have hu:=h';obtain⟨a',cap',rfl,hcap',hmx',hnl',hc'⟩:=h';clear hc hc' hnl hnl'
 by_cases hl:xs.length<ys.length
 ·have HA:=Nm.hide (under_short hl);have hd:decide ((0:Int)<=(xs.length:Int)-(ys.length:Int))=false:=by simp;omega
  have hd':(xs.length:Int)-(ys.length:Int)<0:=by omega
  clear hrow hu;go_enter Tryz.func113,Tryz.ntmps113;go_wp2;go_ret;rw [HA.out];exact⟨rfl,0,rfl⟩
 ·have HA:=Nm.hide (under_long (xs:=xs) (ys:=ys) (by omega));obtain⟨d,hd⟩:∃ d,d=xs.length-ys.length:=⟨_,rfl⟩;rw [<- hd] at HA;have hq:(xs.length:Int)-(ys.length:Int)=(d:Int):=by omega
  have hdl:d<=xs.length:=by omega
  have hg:decide ((0:Int)<=(d:Int))=true:=by simp
  have hcmp:=fun V hr=>compare_any V (.slice a' ys.length cap') (xs.drop d) ys w hr hu (fun x hx=>hxs x (List.mem_of_mem_drop hx)) (by rw [List.length_drop];omega) hly
  have hd1:=fun e:cap=d=>hrow.drop_all e
  have hd2:=hrow.drop (k:=d) hdl;generalize Nm.cmpLs (xs.drop d) ys=o at*;have HD:Hid ((o==0)=decide (o=0)):=by show _=_;rw [Bool.eq_iff_iff];simp
  clear hd hl hxs hrow hu
  by_cases hck:cap=d
  ·have Hc:=hcmp _ (hd1 hck);clear hcmp hd1 hd2;subst hck;rw [show xs.length-cap=0 by omega] at Hc;go_enter Tryz.func113,Tryz.ntmps113;go_wp2_with fail
   refine Hc.mono ?_;rintro e w1 ⟨rfl,m,rfl⟩;go_wp2;go_ret;rw [HA.out,<- HD.out];exact⟨rfl,_,rfl⟩
  ·have Hc:=hcmp _ hd2;clear hcmp hd1 hd2;go_enter Tryz.func113,Tryz.ntmps113;go_wp2_with fail
   refine Hc.mono ?_;rintro e w1 ⟨rfl,m,rfl⟩;go_wp2;go_ret;rw [HA.out,<- HD.out];exact⟨rfl,_,rfl⟩
end Go.Proofs.YtmdinnjimioffaaGreat
namespace Go.Proofs.YtmdinnjimioffaaGreat
open Go.RowKit
set_option maxRecDepth 100000 in
set_option maxHeartbeats 800000 in
theorem specIsUnder_any(a b:ByteArray)(w:World)(ha:a.size<=maxLen)(hb:b.size<=maxLen):
 Calls Tryz.prog 48 #[.string a,.string b] w fun e w'=>e=.returned (.bool (isUnderS a b))∧Below w.heap.size w w':=by
 have hsa:=l01Split_any a w ha;have hsb:=fun W=>l01Split_any b W hb
 cases hqa:Nm.split a with
 |none=>
  have HA:=Nm.hide (isUnder_left (b:=b) hqa);rw [hqa] at hsa;clear hqa;go_enter Tryz.func48,Tryz.ntmps48;go_wp2_with fail
  refine hsa.mono ?_;rintro e w1 ⟨v,rfl,hown,hbel⟩;go_wp2_with fail
  refine(hsb _).mono ?_;rintro e w2 ⟨v2,rfl,hown2,hbel2⟩;go_wp2;go_ret;rw [HA.out]
  exact⟨rfl,Nm.below_two hbel hbel2⟩
 |some xs=>
  rw [hqa] at hsa
  cases hqb:Nm.split b with
  |none=>
   have HA:=Nm.hide (isUnder_right (a:=a) hqb);rw [hqb] at hsb;clear hqa hqb;go_enter Tryz.func48,Tryz.ntmps48;go_wp2_with fail
   refine hsa.mono ?_;rintro e w1 ⟨v,rfl,hown,hbel⟩;go_wp2_with fail
   refine(hsb _).mono ?_;rintro e w2 ⟨v2,rfl,hown2,hbel2⟩;go_wp2;go_ret;rw [HA.out]
   exact⟨rfl,Nm.below_two hbel hbel2⟩
  |some ys=>
   have HA:=Nm.hide (isUnder_some hqa hqb);have hund:=under_same hqa hqb;have hza:=Nm.split_size hqa;have hzb:=Nm.split_size hqb;have hla:=Nm.length_le_wsum xs;have hlb:=Nm.length_le_wsum ys;rw [hqb] at hsb;clear hqa hqb;go_enter Tryz.func48,Tryz.ntmps48;go_wp2_with fail
   refine hsa.mono ?_;rintro e w1 ⟨v,rfl,hown,hbel⟩;go_wp2_with fail
   refine(hsb _).mono ?_;rintro e w2 ⟨v2,rfl,hown2,hbel2⟩;have r1:=(Nm.SRow.of_owns hown).below hbel2;have r2:=Nm.SRow.of_owns hown2;simp only [Option.getD_some] at r1 r2;have hbw:=Nm.below_two hbel hbel2;obtain⟨a1,cap1,rfl,hcap1,hmx1,hnl1,hc1⟩:=r1;obtain⟨a2,cap2,rfl,hcap2,hmx2,hnl2,hc2⟩:=r2;have hrow:Nm.SRow w2 (.slice a1 xs.length cap1) xs:=⟨a1,cap1,rfl,hcap1,hmx1,hnl1,hc1⟩;clear hown hown2 hsa hsb hnl1 hnl2 hbel hbel2 hc1 hc2
   by_cases hl:xs.length<ys.length
   ·have HU:=Nm.hide (under_short hl);have hd:decide (xs.length<ys.length)=true:=by simpa using hl
    clear hrow;go_wp2;go_ret;rw [HA.out,HU.out];exact⟨rfl,hbw⟩
   ·have HU:=Nm.hide (hund (by omega))
    have hss:=fun W=>specSameName_any ⟨(Nm.joinL (xs.drop (xs.length-ys.length))).toArray⟩ b W (by
     show(Nm.joinL (xs.drop (xs.length-ys.length))).toArray.size<=maxLen
     rw [List.size_toArray,Nm.joinL_length];have:=Nm.wsum_drop_le xs (xs.length-ys.length);unfold maxLen
     omega) hb
    obtain⟨d,hd⟩:∃ d,d=xs.length-ys.length:=⟨_,rfl⟩;rw [<- hd] at HU hss;have hq:(xs.length:Int)-(ys.length:Int)=(d:Int):=by omega
    have hdl:d<=xs.length:=by omega
    have hyx:ys.length<=xs.length:=by omega
    have hwd:=Nm.wsum_drop_le xs d;have hjn:=fun V hr=>l01Join_any V (xs.drop d) w2 hr (by omega)
    have hd1:=fun e:cap1=d=>hrow.drop_all e
    have hd2:=hrow.drop (k:=d) hdl;have hdd:decide (xs.length<ys.length)=false:=by simp;omega
    generalize ByteArray.mk (Nm.joinL (xs.drop d)).toArray=J at*;clear hd hl hrow hund
    by_cases hck:cap1=d
    ·have Hc:=hjn _ (hd1 hck);clear hjn hd1 hd2;subst hck;rw [show xs.length-cap1=0 by omega] at Hc;go_wp2_with fail
     refine Hc.mono ?_;rintro e w3 ⟨rfl,hbel3⟩;go_wp2_with fail
     refine(hss _).mono ?_;rintro e w4 ⟨rfl,hbel4⟩;go_wp2;go_ret;rw [HA.out,<- HU.out];exact⟨rfl,Nm.below_two hbw (Nm.below_two hbel3 hbel4)⟩
    ·have Hc:=hjn _ hd2;clear hjn hd1 hd2;go_wp2_with fail
     refine Hc.mono ?_;rintro e w3 ⟨rfl,hbel3⟩;go_wp2_with fail
     refine(hss _).mono ?_;rintro e w4 ⟨rfl,hbel4⟩;go_wp2;go_ret;rw [HA.out,<- HU.out];exact⟨rfl,Nm.below_two hbw (Nm.below_two hbel3 hbel4)⟩
end Go.Proofs.YtmdinnjimioffaaGreat
namespace Go.Proofs.YtmdinnjimioffaaGreat
open Go.RowKit
theorem owns_bel{w w':World}{B e n:Nat}{v:Value}{xs:List Value}(h:w.ownsRow B e 1 v n xs)(hb:Below w.heap.size w w'):w'.ownsRow B e 1 v n xs:=by
 refine⟨h.1,?_⟩
 rcases h.2 with h0|⟨g,cap,cur,h1,h2,h3,h4⟩
 ·exact .inl h0
 ·exact .inr ⟨g,cap,cur,h1,h2,by rw [hb.block g (Array.getElem?_eq_some_iff.1 h3).1];exact h3,h4⟩
end Go.Proofs.YtmdinnjimioffaaGreat
namespace Go.Proofs.YtmdinnjimioffaaGreat
open Go.RowKit
set_option maxRecDepth 100000 in
set_option maxHeartbeats 1600000 in
theorem l01Name_any(g:Nat)(a:Option Addr)(n cap:Nat)(w:World)(h:Src w g a n cap):
 Calls Tryz.prog 40 #[.pointer (some ⟨g,0,none⟩)] w fun e w'=>∃ s:ByteArray,e=.returned (.string s)∧1<=s.size∧s.size<=1000∧Src w' g a n cap∧w.grownBy w' (some g):=by
 obtain⟨i0,hi,hz0,hz1,hz2⟩:=info_parts Tryz.infoStr;obtain⟨hcode,hglt⟩:=src_code h;go_enter Tryz.func40,Tryz.ntmps40;go_wp2_with fail
 refine(l01Next_any g a n cap 5 _ (src_below h ((Below.refl _ _).alloc (Nat.le_refl _) _)) (by decide)).mono ?_;rintro e w1 ⟨m,rfl,hm0,hm1,hsrc1,hgr1⟩;have hm2:=hm1 (by decide);obtain⟨m,rfl⟩:=Int.eq_ofNat_of_zero_le hm0
 have hrow1:w1.ownsRow w.heap.size 9 1 (.slice (some ⟨w.heap.size,0,none⟩) 0 0) 0 []:=
  (World.ownsRow_made w #[] 0 (Nat.le_refl _) (by decide) rfl).kept hgr1 (.inr (by simp only [Value.ownBlock,ne_eq,Option.some.injEq];omega))
 have hg1:w.grownBy w1 (some g):=grown_step (grown_alloc (World.grownBy.refl _ _) _) hgr1;clear hm1 hgr1 h;go_wp2_with fail
 go_loopw [3,5] (fun v i wr=>∃ (k:Nat) (ls:List ByteArray),k<=m∧i=.int .i64 k∧wr.ownsRow w.heap.size 9 1 v ls.length (ls.map Value.string)∧Nm.wsum ls<=64*k∧ls.length=k∧Src wr g a n cap∧w.grownBy wr (some g))
  (fun _ i _=>m-(intOf i).toNat)
 case atStart=>exact⟨0,[],Nat.zero_le _,rfl,hrow1,by simp [Nm.wsum],rfl,hsrc1,hg1⟩
 case round=>
  obtain⟨k,ls,hk,rfl,hown,hws,hlk,hsrc,hgr⟩:=hrel;have hsz:=hgr.size;clear hrow1 hsrc1 hg1;have HLK:=Nm.hide hlk;clear hlk
  by_cases hlt:k<m
  ·go_wp2_with (first|(go_at_call 39;refine(l01Label_any g a n cap _ hsrc).mono ?_;rintro e w3 ⟨x,rfl,hx,hsrc3,hgr3⟩;have hown3:=hown.kept hgr3 (row_src hown hsrc (by decide));have hg3:=grown_step hgr hgr3;have hsz3:=hg3.size)|(at_builtin;refine wpList_append_own _ rfl (.tmp 15) (.tmp 18) 51 rfl w.heap.size 9 i0 (.string ByteArray.empty) 1 16 Tryz.underlying51 hi hz0 hz1 hz2 rfl (by decide) _ _ _ rfl (hown3.alloc _) ⟨w3.heap.size,0,none⟩ 1 1 [.string x] rfl rfl (cell_one_new _ _ _) (Nm.one_cell _ rfl) (by have:=HLK.out;unfold maxLen;omega) (by have:=HLK.out;omega) (by simp;omega) ?_;intro vb wb hown4 hgrow4 hnl4;clear hnl4;have R:=str_step hown3 hsrc3 hg3 hglt hcode hown4 hgrow4;clear hown4 hgrow4))
   go_roundw
   case rel=>exact⟨k+1,_,by omega,by go_num,R.1,by rw [wsum_snoc];omega,by have:=HLK.out;simp;omega,R.2.1,R.2.2⟩
   case measure=>simp [intOf];omega
  ·have hke:k=m:=by omega
   subst hke;go_wp2_with fail
   refine(l01Next_any g a n cap 3 _ hsrc (by decide)).mono ?_;rintro e w2 ⟨q,rfl,hq0,hq1,hsrc2,hgr2⟩;have hown2:=hown.kept hgr2 (row_src hown hsrc (by decide));have hg2:=grown_step hgr hgr2;have hsz2:=hg2.size;have hbl:Nm.wsum ls<=300:=by omega
   clear hq1 hown hsrc hgr hgr2 hlt
   by_cases hq:0<q
   ·go_wp2_with (at_builtin;refine wpList_append_own _ rfl (.tmp 23) (.tmp 24) 51 rfl w.heap.size 9 i0 (.string ByteArray.empty) 1 16 Tryz.underlying51 hi hz0 hz1 hz2 rfl (by decide) _ _ _ rfl (hown2.alloc _) ⟨w2.heap.size,0,none⟩ 1 1 [.string ⟨#[101,120,97,109,112,108,101]⟩] rfl rfl (cell_one_new _ _ _) (Nm.one_cell _ rfl) (by have:=HLK.out;unfold maxLen;omega) (by have:=HLK.out;omega) (by simp;omega) ?_;intro vb wb hown4 hgrow4 hnl4;clear hnl4;have R:=str_step hown2 hsrc2 hg2 hglt hcode hown4 hgrow4;clear hown4 hgrow4)
    have hw9:Nm.wsum (ls++[⟨#[101,120,97,109,112,108,101]⟩])<=400:=by
     rw [wsum_snoc];have:(ByteArray.mk #[101,120,97,109,112,108,101]).size=7:=rfl;omega
    obtain⟨hownC,hsC,hgC⟩:=R;generalize ls++[⟨#[101,120,97,109,112,108,101]⟩]=ls2 at hownC hw9;clear hown2 hsrc2 hg2;refine(l01Next_any g a n cap 20 _ hsC (by decide)).mono ?_;rintro e wn ⟨p,rfl,hp0,hp1,hsN,hgN⟩;have hownN:=hownC.kept hgN (row_src hownC hsC (by decide));have hgNN:=grown_step hgC hgN;have hszN:=hgNN.size;clear hp1 hownC hsC hgC hgN
    by_cases hp:p=0
    ·subst hp;clear hownN;go_wp2_with fail
     go_loopg [3] 300 (fun gh v wr=>∃ ls3:List ByteArray,wr.ownsRow w.heap.size 9 1 v ls3.length (ls3.map Value.string)∧Nm.wsum ls3+gh=300∧Nm.wsum ls3<=252∧Src wr g a n cap∧w.grownBy wr (some g))
     case atStart=>exact⟨[],World.ownsRow_made wn #[] 0 hszN (by decide) rfl,by simp [Nm.wsum],by simp [Nm.wsum],src_below hsN ((Below.refl _ _).alloc (Nat.le_refl _) _),grown_alloc hgNN _⟩
     case round=>
      obtain⟨ls3,hown3,hgh,hw3,hs3,hg3⟩:=hrel;have hl3:=Nm.length_le_wsum ls3;clear hsN hgNN hszN;go_wp2_with fail
      refine(l01Join_any _ ls3 _ (Nm.SRow.of_owns hown3) (by omega)).mono ?_;rintro e wj ⟨rfl,hbj⟩;have hownj:=owns_bel hown3 hbj;have hsj:=src_below hs3 hbj;have hgj:=grown_below hg3 hbj;have hszj:=hgj.size;have hjs:=mkj_size ls3;have hjn:=fun W hq=>l01Join_any u3 ls3 W hq (by omega)
      generalize ByteArray.mk (Nm.joinL ls3).toArray=J at*;clear hown3 hs3 hg3 hbj
      by_cases hlt:Nm.wsum ls3+1<190
      ·have hJ:(J.size:Int)<190:=by omega
       clear hjs hjn;go_wp2_with (first|(go_at_call 14;refine(l01Next_any g a n cap 63 _ hsj (by decide)).mono ?_;rintro e w5 ⟨r,rfl,hr0,hr1,hs5,hg5⟩;have hr2:=hr1 (by decide);have hown5:=hownj.kept hg5 (row_src hownj hsj (by decide));have hgg5:=grown_step hgj hg5;clear hr1)|(go_at_call 37;refine(l01Bytes_any g a n cap _ _ hs5 (by omega) (by omega)).mono ?_;rintro e w6 ⟨x,rfl,hx,hs6,hg6⟩;have hown6:=hown5.kept hg6 (row_src hown5 hs5 (by decide));have hgg6:=grown_step hgg5 hg6;have hsz6:=hgg6.size)|(at_builtin;refine wpList_append_own _ rfl (.tmp 34) (.tmp 40) 51 rfl w.heap.size 9 i0 (.string ByteArray.empty) 1 16 Tryz.underlying51 hi hz0 hz1 hz2 rfl (by decide) _ _ _ rfl (hown6.alloc _) ⟨w6.heap.size,0,none⟩ 1 1 [.string x] rfl rfl (cell_one_new _ _ _) (Nm.one_cell _ rfl) (by unfold maxLen;omega) (by omega) (by simp;omega) ?_;intro vb wb hown7 hgrow7 hnl7;clear hnl7;have R7:=str_step hown6 hs6 hgg6 hglt hcode hown7 hgrow7;clear hown7 hgrow7))
       have hsn:=wsum_snoc ls3 x
       go_roundg (300-Nm.wsum (ls3++[x]))
       case measure=>omega
       case rel=>exact⟨_,R7.1,by omega,by omega,R7.2.1,R7.2.2⟩
      ·have hJ:(190:Int)<=(J.size:Int):=by omega
       have hJ2:(J.size:Int)<=253:=by omega
       go_wp2_with fail
       refine(hjn _ (Nm.SRow.of_owns hownj)).mono ?_;rintro e wk ⟨rfl,hbk⟩;have hownk:=owns_bel hownj hbk;have hsk:=src_below hsj hbk;have hgk:=grown_below hgj hbk;have hszk:=hgk.size;clear hownj hsj hgj hbk
       by_cases hroom:J.size<=253∧191<=J.size
       ·have r1:(0:Int)<254-(J.size:Int):=by omega
        have r2:254-(J.size:Int)<=63:=by omega
        have r1':(0:Int)<255-(J.size:Int)-1:=by omega
        have r2':255-(J.size:Int)-1<=63:=by omega
        go_wp2_with (first|(go_at_call 37;refine(l01Bytes_any g a n cap _ _ hsk (by omega) (by omega)).mono ?_;rintro e w6 ⟨x,rfl,hx,hs6,hg6⟩;have hown6:=hownk.kept hg6 (row_src hownk hsk (by decide));have hgg6:=grown_step hgk hg6;have hsz6:=hgg6.size)|(at_builtin;refine wpList_append_own _ rfl (.tmp 53) (.tmp 57) 51 rfl w.heap.size 9 i0 (.string ByteArray.empty) 1 16 Tryz.underlying51 hi hz0 hz1 hz2 rfl (by decide) _ _ _ rfl (hown6.alloc _) ⟨w6.heap.size,0,none⟩ 1 1 [.string x] rfl rfl (cell_one_new _ _ _) (Nm.one_cell _ rfl) (by unfold maxLen;omega) (by omega) (by simp;omega) ?_;intro vb wb hown7 hgrow7 hnl7;clear hnl7;have R7:=str_step hown6 hs6 hgg6 hglt hcode hown7 hgrow7;clear hown7 hgrow7))
        obtain⟨hown8,hs8,hg8⟩:=R7;have hsn:=wsum_snoc ls3 x;have hj8:=mkj_size (ls3++[x]);refine(l01Join_any _ (ls3++[x]) _ (Nm.SRow.of_owns hown8) (by omega)).mono ?_;rintro e w9 ⟨rfl,hb9⟩;have hown9:=owns_bel hown8 hb9;have hs9:=src_below hs8 hb9;have hg9:=grown_below hg8 hb9;have hjn9:=fun V W hq=>l01Join_any V (ls3++[x]) W hq (by omega)
        generalize ByteArray.mk (Nm.joinL (ls3++[x])).toArray=J8 at*;have hJ8:(J8.size:Int)<=255:=by omega
        have HJ8:Hid (1<=J8.size∧J8.size<=1000):=by show _∧_;omega
        clear hj8 hjs;go_wp2_with fail
        refine(hjn9 _ _ (Nm.SRow.of_owns hown9)).mono ?_;rintro e w10 ⟨rfl,hb10⟩;go_wp2;go_ret;exact⟨_,rfl,HJ8.out.1,HJ8.out.2,src_below hs9 hb10,grown_below hg9 hb10⟩
       ·have r1:(63:Int)<255-(J.size:Int)-1:=by omega
        have r0:(0:Int)<255-(J.size:Int)-1:=by omega
        have r2:decide (255-(J.size:Int)-1<=63)=false:=by simp;omega
        go_wp2_with fail
        refine(hjn _ (Nm.SRow.of_owns hownk)).mono ?_;rintro e w9 ⟨rfl,hb9⟩;have hown9:=owns_bel hownk hb9;have hs9:=src_below hsk hb9;have hg9:=grown_below hgk hb9;have hJ8:(J.size:Int)<=255:=by omega
        have HJ8:Hid (1<=J.size∧J.size<=1000):=by show _∧_;omega
        clear hjs;go_wp2_with fail
        refine(hjn _ (Nm.SRow.of_owns hown9)).mono ?_;rintro e w10 ⟨rfl,hb10⟩;go_wp2;go_ret;exact⟨_,rfl,HJ8.out.1,HJ8.out.2,src_below hs9 hb10,grown_below hg9 hb10⟩
    ·have hp':(p==0)=false:=by rw [beq_eq_false_iff_ne];exact hp
     go_wp2_with fail
     refine(l01Join_any _ ls2 _ (Nm.SRow.of_owns hownN) (by omega)).mono ?_;rintro e wz ⟨rfl,hbz⟩;have hjz:=mkj_size ls2;generalize ByteArray.mk (Nm.joinL ls2).toArray=J at*;have HJ8:Hid (1<=J.size∧J.size<=1000):=by show _∧_;omega
     clear hjz;go_wp2;go_ret;exact⟨_,rfl,HJ8.out.1,HJ8.out.2,src_below hsN hbz,grown_below hgNN hbz⟩
   ·have hq':q<=0:=by omega
    have hw9:Nm.wsum ls<=400:=by omega
    have hownC:=hown2;have hsC:=hsrc2;have hgC:=hg2;clear hown2 hsrc2 hg2;go_wp2_with fail
    refine(l01Next_any g a n cap 20 _ hsC (by decide)).mono ?_;rintro e wn ⟨p,rfl,hp0,hp1,hsN,hgN⟩;have hownN:=hownC.kept hgN (row_src hownC hsC (by decide));have hgNN:=grown_step hgC hgN;have hszN:=hgNN.size;clear hp1 hownC hsC hgC hgN
    by_cases hp:p=0
    ·subst hp;clear hownN;go_wp2_with fail
     go_loopg [3] 300 (fun gh v wr=>∃ ls3:List ByteArray,wr.ownsRow w.heap.size 9 1 v ls3.length (ls3.map Value.string)∧Nm.wsum ls3+gh=300∧Nm.wsum ls3<=252∧Src wr g a n cap∧w.grownBy wr (some g))
     case atStart=>exact⟨[],World.ownsRow_made wn #[] 0 hszN (by decide) rfl,by simp [Nm.wsum],by simp [Nm.wsum],src_below hsN ((Below.refl _ _).alloc (Nat.le_refl _) _),grown_alloc hgNN _⟩
     case round=>
      obtain⟨ls3,hown3,hgh,hw3,hs3,hg3⟩:=hrel;have hl3:=Nm.length_le_wsum ls3;clear hsN hgNN hszN;go_wp2_with fail
      refine(l01Join_any _ ls3 _ (Nm.SRow.of_owns hown3) (by omega)).mono ?_;rintro e wj ⟨rfl,hbj⟩;have hownj:=owns_bel hown3 hbj;have hsj:=src_below hs3 hbj;have hgj:=grown_below hg3 hbj;have hszj:=hgj.size;have hjs:=mkj_size ls3;have hjn:=fun W hq=>l01Join_any u3 ls3 W hq (by omega)
      generalize ByteArray.mk (Nm.joinL ls3).toArray=J at*;clear hown3 hs3 hg3 hbj
      by_cases hlt:Nm.wsum ls3+1<190
      ·have hJ:(J.size:Int)<190:=by omega
       clear hjs hjn;go_wp2_with (first|(go_at_call 14;refine(l01Next_any g a n cap 63 _ hsj (by decide)).mono ?_;rintro e w5 ⟨r,rfl,hr0,hr1,hs5,hg5⟩;have hr2:=hr1 (by decide);have hown5:=hownj.kept hg5 (row_src hownj hsj (by decide));have hgg5:=grown_step hgj hg5;clear hr1)|(go_at_call 37;refine(l01Bytes_any g a n cap _ _ hs5 (by omega) (by omega)).mono ?_;rintro e w6 ⟨x,rfl,hx,hs6,hg6⟩;have hown6:=hown5.kept hg6 (row_src hown5 hs5 (by decide));have hgg6:=grown_step hgg5 hg6;have hsz6:=hgg6.size)|(at_builtin;refine wpList_append_own _ rfl (.tmp 34) (.tmp 40) 51 rfl w.heap.size 9 i0 (.string ByteArray.empty) 1 16 Tryz.underlying51 hi hz0 hz1 hz2 rfl (by decide) _ _ _ rfl (hown6.alloc _) ⟨w6.heap.size,0,none⟩ 1 1 [.string x] rfl rfl (cell_one_new _ _ _) (Nm.one_cell _ rfl) (by unfold maxLen;omega) (by omega) (by simp;omega) ?_;intro vb wb hown7 hgrow7 hnl7;clear hnl7;have R7:=str_step hown6 hs6 hgg6 hglt hcode hown7 hgrow7;clear hown7 hgrow7))
       have hsn:=wsum_snoc ls3 x
       go_roundg (300-Nm.wsum (ls3++[x]))
       case measure=>omega
       case rel=>exact⟨_,R7.1,by omega,by omega,R7.2.1,R7.2.2⟩
      ·have hJ:(190:Int)<=(J.size:Int):=by omega
       have hJ2:(J.size:Int)<=253:=by omega
       go_wp2_with fail
       refine(hjn _ (Nm.SRow.of_owns hownj)).mono ?_;rintro e wk ⟨rfl,hbk⟩;have hownk:=owns_bel hownj hbk;have hsk:=src_below hsj hbk;have hgk:=grown_below hgj hbk;have hszk:=hgk.size;clear hownj hsj hgj hbk
       by_cases hroom:J.size<=253∧191<=J.size
       ·have r1:(0:Int)<254-(J.size:Int):=by omega
        have r2:254-(J.size:Int)<=63:=by omega
        have r1':(0:Int)<255-(J.size:Int)-1:=by omega
        have r2':255-(J.size:Int)-1<=63:=by omega
        go_wp2_with (first|(go_at_call 37;refine(l01Bytes_any g a n cap _ _ hsk (by omega) (by omega)).mono ?_;rintro e w6 ⟨x,rfl,hx,hs6,hg6⟩;have hown6:=hownk.kept hg6 (row_src hownk hsk (by decide));have hgg6:=grown_step hgk hg6;have hsz6:=hgg6.size)|(at_builtin;refine wpList_append_own _ rfl (.tmp 53) (.tmp 57) 51 rfl w.heap.size 9 i0 (.string ByteArray.empty) 1 16 Tryz.underlying51 hi hz0 hz1 hz2 rfl (by decide) _ _ _ rfl (hown6.alloc _) ⟨w6.heap.size,0,none⟩ 1 1 [.string x] rfl rfl (cell_one_new _ _ _) (Nm.one_cell _ rfl) (by unfold maxLen;omega) (by omega) (by simp;omega) ?_;intro vb wb hown7 hgrow7 hnl7;clear hnl7;have R7:=str_step hown6 hs6 hgg6 hglt hcode hown7 hgrow7;clear hown7 hgrow7))
        obtain⟨hown8,hs8,hg8⟩:=R7;have hsn:=wsum_snoc ls3 x;have hj8:=mkj_size (ls3++[x]);refine(l01Join_any _ (ls3++[x]) _ (Nm.SRow.of_owns hown8) (by omega)).mono ?_;rintro e w9 ⟨rfl,hb9⟩;have hown9:=owns_bel hown8 hb9;have hs9:=src_below hs8 hb9;have hg9:=grown_below hg8 hb9;have hjn9:=fun V W hq=>l01Join_any V (ls3++[x]) W hq (by omega)
        generalize ByteArray.mk (Nm.joinL (ls3++[x])).toArray=J8 at*;have hJ8:(J8.size:Int)<=255:=by omega
        have HJ8:Hid (1<=J8.size∧J8.size<=1000):=by show _∧_;omega
        clear hj8 hjs;go_wp2_with fail
        refine(hjn9 _ _ (Nm.SRow.of_owns hown9)).mono ?_;rintro e w10 ⟨rfl,hb10⟩;go_wp2;go_ret;exact⟨_,rfl,HJ8.out.1,HJ8.out.2,src_below hs9 hb10,grown_below hg9 hb10⟩
       ·have r1:(63:Int)<255-(J.size:Int)-1:=by omega
        have r0:(0:Int)<255-(J.size:Int)-1:=by omega
        have r2:decide (255-(J.size:Int)-1<=63)=false:=by simp;omega
        go_wp2_with fail
        refine(hjn _ (Nm.SRow.of_owns hownk)).mono ?_;rintro e w9 ⟨rfl,hb9⟩;have hown9:=owns_bel hownk hb9;have hs9:=src_below hsk hb9;have hg9:=grown_below hgk hb9;have hJ8:(J.size:Int)<=255:=by omega
        have HJ8:Hid (1<=J.size∧J.size<=1000):=by show _∧_;omega
        clear hjs;go_wp2_with fail
        refine(hjn _ (Nm.SRow.of_owns hown9)).mono ?_;rintro e w10 ⟨rfl,hb10⟩;go_wp2;go_ret;exact⟨_,rfl,HJ8.out.1,HJ8.out.2,src_below hs9 hb10,grown_below hg9 hb10⟩
    ·have hp':(p==0)=false:=by rw [beq_eq_false_iff_ne];exact hp
     go_wp2_with fail
     refine(l01Join_any _ ls _ (Nm.SRow.of_owns hownN) (by omega)).mono ?_;rintro e wz ⟨rfl,hbz⟩;have hjz:=mkj_size ls;generalize ByteArray.mk (Nm.joinL ls).toArray=J at*;have HJ8:Hid (1<=J.size∧J.size<=1000):=by show _∧_;omega
     clear hjz;go_wp2;go_ret;exact⟨_,rfl,HJ8.out.1,HJ8.out.2,src_below hsN hbz,grown_below hgNN hbz⟩
end Go.Proofs.YtmdinnjimioffaaGreat
namespace Go.Proofs.YtmdinnjimioffaaGreat
open Go.RowKit
set_option linter.unusedVariables false
def bA(l:List UInt8):ByteArray:=⟨l.toArray⟩
theorem own_some{w:World}{B e s n:Nat}{v:Value}{xs:List Value}(h:w.ownsRow B e s v n xs)(hn:0<n):∃ g c,v=.slice (some ⟨g,0,none⟩) n c:=by
 rcases h.2 with⟨_,h0⟩|⟨g,c,_,e,_⟩
 ·omega
 ·exact⟨g,c,e⟩
theorem run_append_none{P:Program}{t ty e:TypeId}{i:TypeInfo}(ht:P.underlying t=some (.slice e))(hi:P.info? e=some i)(ad:Option Addr)(n c:Nat)(hn:n<=c)(w:World):
 (Builtin.append_ #[t,t] ty #[.slice ad n c,.slice none 0 0]).run P w=.ok (.slice ad n c) w:=by
 have hs:Go.Src P i.size t (.slice none 0 0) 0 [] w:=Go.Src.ofNil w ht 0
 cases ad with
 |none=>simp [Builtin.append_,run_underlying ht,sizeOf,typeInfo,hi,hs.len,hn,hs.cells]
 |some a=>simp [Builtin.append_,run_underlying ht,sizeOf,typeInfo,hi,hs.len,hn,hs.cells,storeCells]
theorem wpList_append_none{P:Program}{ops:Array Oper}{rest:List Oper}{o:Oper}{a:Act}{Q:Exit->Act->World->Prop}(w:World)(hgd:o.guard=none)(s x:Operand)(t:TypeId)
 (ho:o.op=.call {callee:=.builtin .append,args:=#[s,x],argTypes:=#[t,t]}) (e:TypeId) (i:TypeInfo) (ht:P.underlying t=some (.slice e)) (hi:P.info? e=some i) (ad:Option Addr) (n c:Nat)
 (hs:a.eval s=.slice ad n c) (hx:a.eval x=.slice none 0 0) (hn:n<=c) (h:wpList P ops Q rest (a.put o.dst (.slice ad n c)) w):wpList P ops Q (o::rest) a w:=by
 refine wpList_plain hgd fun K hK=>?_
 have hr:=run_append_none (P:=P) (ty:=o.type) ht hi ad n c hn w;unfold Oper.wp execOp;simp only [ho,resolve,invoke,builtin,Sem.run_bind,Sem.run_pure,Result.andThen_ok,List.map_toArray,List.map_cons,List.map_nil,hs,hx,hr];exact hK _ _ h
set_option maxRecDepth 100000 in
set_option maxHeartbeats 3200000 in
theorem implZoneRecords_any(o:ByteArray)(v:Value)(ps:List Zp)(w:World)(h:ZRow w v ps)(hs:zsum ps<=1048576)(hf:∀ p∈ps,∀ x∈p.1.da,x.size<=1048576):
 Calls Tryz.prog 8 #[.agg #[.string o,v]] w fun e w'=>∃ u,e=.returned u∧w'.ownsRow w.heap.size 33 5 u (zoneRecs ps).length (rvVs (zoneRecs ps))∧Below w.heap.size w w':=by
 obtain⟨i0,hi,hz0,hz1,hz2⟩:=info_parts Tryz.infoRri
 have hpl:∀ p∈ps,p.1.own.size<=1048576∧p.1.da.length<=1048576:=by
  intro p hp;have:=zsum_mem ps p hp;unfold zs1 at this;omega
 obtain⟨RS,hRS⟩:∃ R,R=zoneRecs ps:=⟨_,rfl⟩;rw [<- hRS];unfold zoneRecs at hRS;have hB0:=(Below.refl w.heap.size w).alloc (Nat.le_refl _) (.cells #[.string o,v] 28);have hbx:=blk_new w #[.string o,v] 28;have hrowW:=h;have hsm:=isSmall_any o v ps _ (h.below hB0) (fun p hp=>(hpl p hp).2);obtain⟨⟨_,a,cap,rfl,hcap,hmx,_⟩,_⟩:=h;unfold maxLen at hmx
 by_cases hsmall:ps.length<=500∧dsum ps<=500
 ·rw [decide_eq_true hsmall] at hsm;have hRS2:RS=recsAll ps:=by rw [hRS,if_neg (by omega)]
  obtain⟨hs1,hs2⟩:=hsmall;have hs1':(ps.length:Int)<=500:=by omega
  clear hRS;have hdd:∀ k,dsum (ps.take k)<=500:=fun k=>by have:=dsum_take_le ps k;omega
  have hrl:=fun k=>recsAll_len (ps.take k)
  have hstep:=fun(k:Nat) (x:Zp) (h:ps[k]? =some x)=>recsAll_step h
  have hdst:=fun(k:Nat) (x:Zp) (h:ps[k]? =some x)=>dsum_step ps k x h
  go_enter Tryz.func8,Tryz.ntmps8;go_wp2_with (go_at_call 31;refine hsm.mono ?_;rintro e w1 ⟨rfl,hb1⟩;have q1:w1.cell? ⟨w.heap.size,1,none⟩=some (.slice a ps.length cap):=(blk_cell (blk_below hbx hb1) 1).trans rfl)
  have hB1:=Nm.below_two hB0 hb1;clear hsm hB0 hbx hb1 q1
  go_loopw [3,12] (fun vo vi wr=>∃ k:Nat,k<=ps.length∧vi=.int .i64 k∧wr.ownsRow w.heap.size 33 5 vo (recsAll (ps.take k)).length (rvVs (recsAll (ps.take k)))∧Below w.heap.size w wr) (fun _ vi _=>ps.length-(intOf vi).toNat)
  case atStart=>exact⟨0,Nat.zero_le _,rfl,⟨rfl,.inl ⟨rfl,rfl⟩⟩,hB1⟩
  case round=>
   obtain⟨k,hk,rfl,oO,hbel⟩:=hrel;clear hB1
   by_cases hlt:k<ps.length
   ·obtain⟨x,hxk⟩:∃ x,ps[k]? =some x:=⟨_,List.getElem?_eq_getElem hlt⟩;obtain⟨⟨_,a',cap',hv,_,_,hc⟩,hsr⟩:=hrowW.below hbel;simp only [Value.slice.injEq] at hv;obtain⟨rfl,_,rfl⟩:=hv;obtain⟨b,off,rfl,hcell⟩:=hc (by omega);obtain⟨c0,c1,c2,c3⟩:=zp_cells hcell hxk;have hmem:=List.mem_of_getElem? hxk;obtain⟨dva,dvc,hdv⟩:∃ a c,x.2=.slice a x.1.da.length c:=by obtain⟨a,c,e,_⟩:=hsr x hmem;exact⟨a,c,e⟩
    have hBa:=(Below.refl wr.heap.size wr).alloc (Nat.le_refl _) (.cells #[.string x.1.own,.int .i64 x.1.ty,.int .i64 x.1.tt,x.2] 65);have hone:=records_any x.1 x.2 _ ((hsr x hmem).below hBa) (hpl x hmem).2 (hpl x hmem).1 (hf x hmem);have hbl:Below w.heap.size w (wr.alloc (.cells #[.string x.1.own,.int .i64 x.1.ty,.int .i64 x.1.tt,x.2] 65)):=hbel.alloc hbel.size _;have oO1:=own_below oO hBa;have hsp:=hstep k x hxk;have hld:=hdst k x hxk;have hd1:=hdd (k+1);have hl0:=hrl k;have hl1:=recsOf_len x.1;have i1:(0:Int)<=(k:Int):=by omega
    have i2:(k:Int)<(ps.length:Int):=by omega
    have hlen:(recsAll (ps.take k)).length+(recsOf x.1).length<=500:=by omega
    have HT:Hid (rvVs (recsAll (ps.take k))++rvVs (recsOf x.1)=rvVs (recsAll (ps.take (k+1)))):=by show _=_;rw [hsp,rvVs_app]
    have HL:Hid ((recsAll (ps.take k)).length+(recsOf x.1).length=(recsAll (ps.take (k+1))).length):=by show _=_;rw [hsp,List.length_append]
    have h1c:=rvs_one (recsOf x.1);have hrlen:=rvVs_len (recsOf x.1);have hemp:x.1.da=[]->recsOf x.1=[]:=by intro h;simp [recsOf,h]
    clear hcell hc hsr hstep hdst hrl hdd hsp hld hl0 hmem hxk;generalize recsAll (ps.take k)=R0 at*;generalize hR1:recsAll (ps.take (k+1))=R1 at*;generalize recsOf x.1=R2 at*
    by_cases hda:x.1.da=[]
    ·have hR2:=hemp hda;subst hR2;have hone2:Calls Tryz.prog 32 #[.agg #[.string x.1.own,.int .i64 x.1.ty,.int .i64 x.1.tt,x.2]] (wr.alloc (.cells #[.string x.1.own,.int .i64 x.1.ty,.int .i64 x.1.tt,x.2] 65)) fun e w'=>e=.returned (.slice none 0 0)∧Below (wr.alloc (.cells #[.string x.1.own,.int .i64 x.1.ty,.int .i64 x.1.tt,x.2] 65)).heap.size (wr.alloc (.cells #[.string x.1.own,.int .i64 x.1.ty,.int .i64 x.1.tt,x.2] 65)) w':=hone.mono (by rintro e w' ⟨u,rfl,_,hn,hb⟩;exact⟨by rw [hn hda],hb⟩)
     clear hone hda hemp;obtain⟨⟨o1,ty,tt,da⟩,dv⟩:=x;simp only at c0 c1 c2 c3 hone2 hbl oO1 hdv
     subst hdv;obtain⟨oa,oc,hov⟩:=own_sl oO;subst hov
     have hoc:R0.length<=oc:=by
      rcases oO.2 with⟨h0,h1⟩|⟨g,c,_,h0,_,_,h1,_⟩
      ·rw [h1];exact Nat.zero_le _
      ·simp only [Value.slice.injEq] at h0;omega
     go_wp2_with (first|(go_at_call 32;refine hone2.mono ?_;rintro e w2 ⟨rfl,hb2⟩;have oO2:=own_below oO1 hb2;have hbb:=Nm.below_two hbl hb2)|(at_builtin;refine wpList_append_none _ rfl (.tmp 16) (.tmp 18) 23 rfl 33 i0 Tryz.underlying23 hi oa R0.length oc rfl rfl hoc ?_))
     have eT:=HT.out;rw [show rvVs ([]:List Rr)=[] from rfl,List.append_nil] at eT;have ho9:=oO2;rw [eT] at ho9;have hL:=HL.out;simp at hL;go_roundw
     case rel=>exact⟨k+1,by omega,by go_num,by rw [hR1,<- hL];exact ho9,hbb⟩
     case measure=>simp [intOf];omega
    ·have hm:0<R2.length:=by
      rw [hl1]
      cases hq:x.1.da with
      |nil=>exact absurd hq hda
      |cons _ _=>simp
     clear hemp hda hl1;obtain⟨⟨o1,ty,tt,da⟩,dv⟩:=x;simp only at c0 c1 c2 c3 hone hbl oO1 hdv
     subst hdv;obtain⟨oa,oc,hov⟩:=own_sl oO;subst hov;go_wp2_with (first|(go_at_call 32;refine hone.mono ?_;rintro e w2 ⟨u,rfl,hu,_,hb2⟩;obtain⟨ug,uc,hg⟩:=own_some hu hm;subst hg;have oO2:=own_below oO1 hb2;have hbb:=Nm.below_two hbl hb2)|(at_builtin;refine wpList_append_own _ rfl (.tmp 16) (.tmp 18) 23 rfl w.heap.size 33 i0 _ 5 56 Tryz.underlying23 hi hz0 hz1 hz2 rfl (by decide) (.slice oa R0.length oc) R0.length (rvVs R0) rfl oO2 ⟨ug,0,none⟩ R2.length uc (rvVs R2) rfl hrlen (fun j y hy=>by rw [Nm.addr_add,Nat.zero_add,hu.cellAt j (by have:=(List.getElem?_eq_some_iff.1 hy).1;omega)];exact hy) h1c (by unfold maxLen;omega) (by omega) hbb.size ?_;intro va wa ho9 hg9 hnl9))
     rw [HT.out,HL.out] at ho9;have b9:Below w.heap.size w wa:=hbb.grown hg9 hbb.size (fun g hg=>(oO2.lt g hg).1);go_wp2;go_roundw
     case rel=>exact⟨k+1,by omega,by go_num,by rw [hR1];exact ho9,b9⟩
     case measure=>simp [intOf];omega
   ·have hkl:k=ps.length:=by omega
    subst hkl;have i2:(ps.length:Int)<=(ps.length:Int):=by omega
    rw [List.take_length,<- hRS2] at oO;clear hrowW hstep hdst hrl hdd hRS2 hpl hf;go_wp2;go_ret;exact⟨_,rfl,oO,hbel⟩
 ·rw [decide_eq_false hsmall] at hsm;obtain rfl:RS=[]:=by rw [hRS,if_pos (by omega)]
  clear hRS hrowW hsmall;go_enter Tryz.func8,Tryz.ntmps8;go_wp2_with (go_at_call 31;refine hsm.mono ?_;rintro e w1 ⟨rfl,hb1⟩)
  go_ret;exact⟨_,rfl,⟨rfl,.inl ⟨rfl,rfl⟩⟩,Nm.below_two hB0 hb1⟩
end Go.Proofs.YtmdinnjimioffaaGreat
