import Derived.Test.YtfmolgdfjklmpaaGreatJFnT
import Derived.Test.YtfmolgdfjklmpaaGreatJCmp2
import Derived.Test.YtfmolgdfjklmpaaGreatJMath
import Derived.Test.YtfmolgdfjklmpaaGreatJBzC
import Derived.Test.YtfmolgdfjklmpaaGreatFoldD
import Derived.Sort.OwnSorted
import Derived.Lib.SlicesCompact
import Derived.Test.YtfmolgdfjklmpaaGreatJSls
import Derived.Test.YtfmolgdfjklmpaaGreatJFnS
namespace Go.Proofs.YtfmolgdfjklmpaaGreat
open Go.RowKit
set_option linter.unusedVariables false
def keyOfR(q:Rr):SK:=(Nm.small q.own,q.ty)
def ktB(x:SK)(r:Rr):Bool:=decide (r.cl=1)&&decide (keyOfR r=x)
def wntK(xs:List Rr)(x:SK):List ByteArray:=(xs.filter (ktB x)).map fun r=>foldR x.2 r.da
theorem wntK_yes{xs:List Rr}{q:Rr}(hq:q.cl=1):wntK (xs++[q]) (keyOfR q)=wntK xs (keyOfR q)++[foldR q.ty q.da]:=by
 rw [wntK,List.filter_append,List.map_append,wntK];have:ktB (keyOfR q) q=true:=by simp [ktB,hq]
 rw [show [q].filter (ktB (keyOfR q))=[q] by simp [this]];rfl
theorem wntK_no{xs:List Rr}{q:Rr}{x:SK}(h:q.cl=1->x≠keyOfR q):wntK (xs++[q]) x=wntK xs x:=by
 rw [wntK,List.filter_append,List.map_append,wntK]
 have hk:ktB x q=false:=by
  rw [ktB,Bool.and_eq_false_iff,decide_eq_false_iff_not,decide_eq_false_iff_not]
  rcases Classical.em (q.cl=1) with e|e
  ·exact .inr fun e2=>h e e2.symm
  ·exact .inl e
 rw [show [q].filter (ktB x)=[] by simp [hk]];simp
theorem wntK_len(xs:List Rr)(x:SK):(wntK xs x).length<=xs.length:=by
 rw [wntK,List.length_map];exact List.length_filter_le _ _
structure WCo (B:Nat) (xs:List Rr) (r:Nat) (L:List (SK×Value)) (W:World):Prop where
 m:KMap W r L
 own:∀ p∈L,W.ownsRow B 9 1 p.2 (wntK xs p.1).length ((wntK xs p.1).map Value.string)
 cov:∀ q∈xs,q.cl=1->keyOfR q∈L.map (·.1)
 dis:∀ (i j:Nat) (p q:SK×Value),i≠j->L[i]? =some p->L[j]? =some q->∀ g,p.2.ownBlock=some g->q.2.ownBlock≠some g
 lr:B<=r
def WSt(B:Nat)(xs:List Rr)(r:Nat)(L:List (SK×Value))(W:World):Prop:=WCo B xs r L W∧∀ p∈L,wntK xs p.1≠[]
theorem row_not_map{W:World}{B r n:Nat}{T:TypeId}{s:Nat}{v:Value}{es:List Value}{L:List (SK×Value)}(h:W.ownsRow B T s v n es)(hm:KMap W r L):v.ownBlock≠some r:=by
 obtain⟨ms,hb,_⟩:=hm
 rcases h.2 with⟨rfl,_⟩|⟨g,cap,cur,rfl,_,hg,_⟩
 ·simp [Value.ownBlock]
 ·intro e;simp [Value.ownBlock] at e
  subst e;rw [hb] at hg;cases hg
section
variable {B r:Nat}{xs:List Rr}{L:List (SK×Value)}{W:World}
theorem wst_nil(w:World):WSt w.heap.size [] w.heap.size [] (w.alloc (.map #[] 0)):=
 ⟨⟨kmap_made w,fun p hp=>(by cases hp),fun q hq=>(by cases hq),fun i j p q _ h=>(by simp at h),Nat.le_refl _⟩,fun p hp=>(by cases hp)⟩
theorem WCo.below{W':World}(h:WCo B xs r L W)(hb:Below W.heap.size W W'):WCo B xs r L W':=
 ⟨h.m.kept (hb.block r h.m.lt),fun p hp=>own_below (h.own p hp) hb,h.cov,h.dis,h.lr⟩
theorem WSt.below{W':World}(h:WSt B xs r L W)(hb:Below W.heap.size W W'):WSt B xs r L W':=⟨h.1.below hb,h.2⟩
theorem WSt.skip{q:Rr}(h:WSt B xs r L W)(hq:q.cl≠1):WSt B (xs++[q]) r L W:=by
 have e:∀ x,wntK (xs++[q]) x=wntK xs x:=fun x=>wntK_no fun e=>absurd e hq
 refine⟨⟨h.1.m,fun p hp=>by rw [e];exact h.1.own p hp,fun y hy hc=>?_,h.1.dis,h.1.lr⟩,fun p hp=>by rw [e];exact h.2 p hp⟩
 rcases List.mem_append.1 hy with hy|hy
 ·exact h.1.cov y hy hc
 ·simp at hy;subst hy;exact absurd hc hq
theorem zrT(W:World):(zeroValue 46).run Tryz.prog W=.ok (.slice none 0 0) W:=by kernel_rfl
theorem wntK_none(h:WCo B xs r L W){x:SK}(hx:∀ p∈L,p.1≠x):wntK xs x=[]:=by
 rw [wntK]
 have:xs.filter (ktB x)=[]:=by
  rw [List.filter_eq_nil_iff];intro q hq hk;simp only [ktB,Bool.and_eq_true,decide_eq_true_eq] at hk;obtain⟨p,hp,e⟩:=List.mem_map.1 (h.cov q hq hk.1);exact hx p hp (e.trans hk.2)
 rw [this];rfl
theorem WSt.entry(h:WSt B xs r L W){x:SK}(hx:SFit x):
 ∃ (v:Value) (j:Nat) (W':World) (L':List (SK×Value)),(Instr.mapEntry 142 (.map (some r)) (skV x)).run Tryz.prog W=.ok (.tuple #[v,.int .i64 (j:Int)]) W'∧W.grownBy W' (some r)∧W'.heap.size=W.heap.size∧WCo B xs r L' W'∧L'[j]? =some (x,v)∧∀ p∈L',wntK xs p.1≠[]∨p.1=x:=by
 obtain⟨v,j,W',L',h1,h2,h3,h4,h5,h6⟩:=h.1.m.entry Tryz.underlying142 zrT hx;refine⟨v,j,W',L',h1,h2,h3,?_,h5,?_⟩
 ·have ho:∀ p∈L,W'.ownsRow B 9 1 p.2 (wntK xs p.1).length ((wntK xs p.1).map Value.string):=fun p hp=>(h.1.own p hp).kept h2 (.inr (row_not_map (h.1.own p hp) h.1.m))
  rcases h6 with rfl|⟨hno,hj,rfl,rfl⟩
  ·exact⟨h4,ho,h.1.cov,h.1.dis,h.1.lr⟩
  ·have hw:=wntK_none h.1 hno;refine⟨h4,fun p hp=>?_,fun q hq hc=>?_,?_,h.1.lr⟩
   ·rcases List.mem_append.1 hp with hp|hp
    ·exact ho p hp
    ·simp at hp;subst hp;rw [hw];exact World.ownsRow_nil _ _ _ _
   ·rw [List.map_append];exact List.mem_append_left _ (h.1.cov q hq hc)
   ·intro i k p q hik hp hq g hg
    have key:∀ (i:Nat) (p:SK×Value),(L++[(x,Value.slice none 0 0)])[i]? =some p->∀ g,p.2.ownBlock=some g->L[i]? =some p:=by
     intro i p hp g hg
     rcases Nat.lt_or_ge i L.length with hi|hi
     ·rwa [List.getElem?_append_left hi] at hp
     ·rw [List.getElem?_append_right hi] at hp
      have:p=(x,.slice none 0 0):=by
       rcases Nat.eq_zero_or_pos (i-L.length) with e|e
       ·rw [e] at hp;simpa using hp.symm
       ·rw [List.getElem?_eq_none (by simp;omega)] at hp;cases hp
      subst this;simp [Value.ownBlock] at hg
    intro hg2;exact h.1.dis i k p q hik (key i p hp g hg) (key k q hq g hg2) g hg hg2
 ·intro p hp
  rcases h6 with rfl|⟨hno,hj,rfl,rfl⟩
  ·exact .inl (h.2 p hp)
  ·rcases List.mem_append.1 hp with hp|hp
   ·exact .inl (h.2 p hp)
   ·simp at hp;subst hp;exact .inr rfl
theorem WCo.done{q:Rr}{j:Nat}{v va:Value}{W2 W3:World}(h:WCo B xs r L W)(hj:L[j]? =some (keyOfR q,v))(hq:q.cl=1)
 (ho:W2.ownsRow B 9 1 va ((wntK xs (keyOfR q)).length+1) ((wntK xs (keyOfR q)).map Value.string++[.string (foldR q.ty q.da)])) (hg:W.grownBy W2 v.ownBlock) (hat:va.ownBlock=v.ownBlock∨va.ownBlock=some W.heap.size)
 (hg3:W2.grownBy W3 (some r)) (hm:KMap W3 r (L.set j (keyOfR q,va))) (hin:∀ p∈L,wntK xs p.1≠[]∨p.1=keyOfR q):WSt B (xs++[q]) r (L.set j (keyOfR q,va)) W3:=by
 have hjl:j<L.length:=(List.getElem?_eq_some_iff.1 hj).1;have hvo:=h.own _ (List.mem_of_getElem? hj);have hm2:KMap W2 r L:=h.m.kept (hg.block r h.m.lt (fun e=>row_not_map hvo h.m e.symm));have hnd:(L.map (·.1)).Nodup:=by obtain⟨_,_,_,_,_,hn⟩:=h.m;exact hn
 have hne:∀ (i:Nat) (p:SK×Value),i≠j->L[i]? =some p->p.1≠keyOfR q:=by
  intro i p hij hp e;have h1:(L.map (·.1))[i]? =some (keyOfR q):=by rw [List.getElem?_map,hp,<- e];rfl
  have h2:(L.map (·.1))[j]? =some (keyOfR q):=by rw [List.getElem?_map,hj];rfl
  obtain⟨hi1,e1⟩:=List.getElem?_eq_some_iff.1 h1;obtain⟨hj1,e2⟩:=List.getElem?_eq_some_iff.1 h2;exact hij ((List.getElem_inj (h₀:=hi1) (h₁:=hj1) hnd).1 (e1.trans e2.symm))
 have hgetS:∀ (i:Nat) (p:SK×Value),(L.set j (keyOfR q,va))[i]? =some p->(i=j∧p=(keyOfR q,va))∨(i≠j∧L[i]? =some p):=by
  intro i p hp
  rcases Nat.decEq i j with e|rfl
  ·rw [List.getElem?_set_ne (Ne.symm e)] at hp;exact .inr ⟨e,hp⟩
  ·rw [List.getElem?_set_self hjl] at hp;exact .inl ⟨rfl,(Option.some.inj hp).symm⟩
 refine⟨⟨hm,fun p hp=>?_,fun y hy hc=>?_,?_,h.lr⟩,fun p hp=>?_⟩
 ·obtain⟨i,hi,rfl⟩:=List.mem_iff_getElem.1 hp
  rcases hgetS i _ (List.getElem?_eq_getElem hi) with⟨rfl,e⟩|⟨hij,e⟩
  ·rw [e];show W3.ownsRow B _ 1 va (wntK (xs++[q]) (keyOfR q)).length ((wntK (xs++[q]) (keyOfR q)).map Value.string)
   rw [wntK_yes hq,List.length_append,List.map_append];exact ho.kept hg3 (.inr (row_not_map ho hm2))
  ·generalize (L.set j (keyOfR q,va))[i]=p at*;rw [wntK_no fun _=>hne i p hij e];have h1:=h.own p (List.mem_of_getElem? e);refine(h1.kept hg ?_).kept hg3 (.inr (row_not_map h1 h.m))
   cases e3:p.2.ownBlock with
   |none=>exact .inl rfl
   |some g=>exact .inr fun e4=>h.dis i j p _ hij e hj g e3 e4.symm
 ·have:(L.set j (keyOfR q,va)).map (·.1)=L.map (·.1):=by
   rw [List.map_set];exact Go.WideElems.set_self _ _ _ (by rw [List.getElem?_map,hj];rfl)
  rw [this]
  rcases List.mem_append.1 hy with hy|hy
  ·exact h.cov y hy hc
  ·simp at hy;subst hy;exact List.mem_map.2 ⟨_,List.mem_of_getElem? hj,rfl⟩
 ·intro i k p p' hik hp hp' g hpg hpg';have old:∀ (i:Nat) (p:SK×Value),L[i]? =some p->∀ g,p.2.ownBlock=some g->g<W.heap.size:=fun i p hp g hg=>((h.own p (List.mem_of_getElem? hp)).lt g hg).2
  rcases hgetS i p hp with⟨rfl,rfl⟩|⟨hij,e⟩<;>rcases hgetS k p' hp' with⟨rfl,rfl⟩|⟨hkj,e'⟩
  ·exact hik rfl
  ·rcases hat with ha|ha
   ·exact h.dis i k _ p' hik hj e' g (ha▸hpg) hpg'
   ·have h1:=old k p' e' g hpg';have h2:va.ownBlock=some g:=hpg;rw [ha] at h2;simp at h2;omega
  ·rcases hat with ha|ha
   ·exact h.dis i k p _ hik e hj g hpg (ha▸hpg')
   ·have h1:=old i p e g hpg;have h2:va.ownBlock=some g:=hpg';rw [ha] at h2;simp at h2;omega
  ·exact h.dis i k p p' hik e e' g hpg hpg'
 ·obtain⟨i,hi,rfl⟩:=List.mem_iff_getElem.1 hp
  rcases hgetS i _ (List.getElem?_eq_getElem hi) with⟨rfl,e⟩|⟨hij,e⟩
  ·rw [e];show wntK (xs++[q]) (keyOfR q)≠[]
   rw [wntK_yes hq];simp
  ·generalize (L.set j (keyOfR q,va))[i]=p at*;have hk:=hne i p hij e;rw [wntK_no fun _=>hk];exact(hin p (List.mem_of_getElem? e)).resolve_right hk
end
def kyB(ss:List Sz)(xs:List Rr)(x:SK):Bool:=samB (wntK xs x) (seD ss x.1 x.2)
theorem split_small{a:ByteArray}{ls:List ByteArray}(h:Nm.split a=some ls):Nm.split (Nm.small a)=some (ls.map Nm.small):=by
 have:=split_fold h
 rwa [Nm.foldS_some h] at this
theorem same_small{a b:ByteArray}(hb:(Nm.split b).isSome=true):sameS a (Nm.small b)=sameS a b:=by
 obtain⟨ls,h⟩:=Option.isSome_iff_exists.1 hb;rw [sameS,sameS,split_small h,h,Nm.ordS,Nm.ordS,<- Nm.small_data,<- Nm.small_data,small_small];rfl
theorem seD_small{ss:List Sz}{n:ByteArray}(hn:(Nm.split n).isSome=true)(t:Int):seD ss (Nm.small n) t=seD ss n t:=by
 have:fndZ ss (Nm.small n) t=fndZ ss n t:=by
  rw [fndZ,fndZ];congr 1;funext s
  rw [same_small hn]
 rw [seD,this,seD]
theorem wnt_key{xs:List Rr}{q:Rr}(hx:∀ r∈xs,(Nm.split r.own).isSome=true)(hq:(Nm.split q.own).isSome=true):wnt xs q.own q.ty=wntK xs (keyOfR q):=by
 rw [wnt,wntK]
 have:xs.filter (wtB q.own q.ty)=xs.filter (ktB (keyOfR q)):=by
  apply List.filter_congr;intro r hr;obtain⟨a,ha⟩:=Option.isSome_iff_exists.1 (hx r hr);obtain⟨b,hb⟩:=Option.isSome_iff_exists.1 hq;rw [wtB,ktB,same_some ha hb,Bool.eq_iff_iff];simp only [Bool.and_eq_true,decide_eq_true_eq,keyOfR,Prod.mk.injEq]
  have hs:Nm.ordS r.own q.own=0↔Nm.small r.own=Nm.small q.own:=by
   rw [Nm.ordS,ordL_zero,<- Nm.small_data,<- Nm.small_data];exact⟨fun e=>Nm.ba_ext e,fun e=>by rw [e]⟩
  rw [hs];constructor
  ·rintro⟨⟨a,b⟩,c⟩;exact⟨a,c,b⟩
  ·rintro⟨a,c,b⟩;exact⟨⟨a,b⟩,c⟩
 rw [this];rfl
theorem ky_ex{ss:List Sz}{xs:List Rr}{q:Rr}(hx:∀ r∈xs,(Nm.split r.own).isSome=true)(hq:q∈xs):exB ss xs q.own q.ty=kyB ss xs (keyOfR q):=by
 rw [exB,kyB,wnt_key hx (hx q hq)];show _=samB _ (seD ss (Nm.small q.own) q.ty)
 rw [seD_small (hx q hq)]
theorem key_in{xs:List Rr}{x:SK}(h:wntK xs x≠[]):∃ q∈xs,q.cl=1∧keyOfR q=x:=by
 cases e:xs.filter (ktB x) with
 |nil=>rw [wntK,e] at h;exact absurd rfl h
 |cons q qs=>
  have hm:q∈xs.filter (ktB x):=by rw [e];exact List.mem_cons_self ..
  obtain⟨h1,h2⟩:=List.mem_filter.1 hm;simp only [ktB,Bool.and_eq_true,decide_eq_true_eq] at h2;exact⟨q,h1,h2⟩
theorem bad_yes{B r:Nat}{ss:List Sz}{xs:List Rr}{L:List (SK×Value)}{W:World}(h:WSt B xs r L W)(hx:∀ r∈xs,(Nm.split r.own).isSome=true){p:SK×Value}(hp:p∈L)(hb:kyB ss xs p.1=false):xs.any (bdB ss xs)=true:=by
 obtain⟨q,hq,hc,e⟩:=key_in (h.2 p hp);rw [List.any_eq_true];refine⟨q,hq,?_⟩;rw [bdB,ky_ex hx hq,e,hb,hc];rfl
theorem bad_no{B r:Nat}{ss:List Sz}{xs:List Rr}{L:List (SK×Value)}{W:World}(h:WSt B xs r L W)(hx:∀ r∈xs,(Nm.split r.own).isSome=true)(hb:∀ p∈L,kyB ss xs p.1=true):xs.any (bdB ss xs)=false:=by
 rw [List.any_eq_false];intro q hq hbd;rw [bdB,Bool.and_eq_true,decide_eq_true_eq,ky_ex hx hq] at hbd;obtain⟨p,hp,e⟩:=List.mem_map.1 (h.1.cov q hq hbd.1);rw [<- e,hb p hp] at hbd;exact absurd hbd.2 (by decide)
end Go.Proofs.YtfmolgdfjklmpaaGreat
namespace Go.Proofs.YtfmolgdfjklmpaaGreat
open Go.RowKit Go.Sort
set_option linter.unusedVariables false
def ssB(ds:List ByteArray):List (List UInt8):=ds.map fun d=>d.data.toList
def baL(l:List UInt8):ByteArray:=⟨l.toArray⟩
def srt(ds:List ByteArray):List ByteArray:=((ssB ds).mergeSort fun x y=>decide (x<=y)).map baL
def cpt(ds:List ByteArray):List ByteArray:=(Lib.compact (ssB ds)).map baL
theorem ss_enc(ds:List ByteArray):(ssB ds).map encStr=ds.map Value.string:=by
 rw [ssB,List.map_map];exact List.map_congr_left fun d _=>rfl
theorem ba_enc(l:List (List UInt8)):(l.map baL).map Value.string=l.map encStr:=by
 rw [List.map_map];exact List.map_congr_left fun d _=>rfl
theorem ss_ba(l:List (List UInt8)):ssB (l.map baL)=l:=by
 rw [ssB,List.map_map]
 conv=>rhs;rw [<- List.map_id l]
 exact List.map_congr_left fun d _=>by simp [baL]
theorem srt_len(ds:List ByteArray):(srt ds).length=ds.length:=by simp [srt,ssB]
theorem srt_mem{ds:List ByteArray}{x:ByteArray}:x∈srt ds↔x∈ds:=by
 rw [srt,List.mem_map];constructor
 ·rintro⟨l,hl,rfl⟩
  rw [List.mem_mergeSort,ssB,List.mem_map] at hl;obtain⟨d,hd,rfl⟩:=hl;exact hd
 ·intro h;refine⟨x.data.toList,?_,rfl⟩;rw [List.mem_mergeSort,ssB,List.mem_map];exact⟨x,h,rfl⟩
theorem bless_lt:∀ (x y:List UInt8),Op.bytesLess x y=decide (x<y)
 |[],[]=>by simp [Op.bytesLess]
 |_::_,[]=>by simp [Op.bytesLess]
 |[],_::_=>by simp [Op.bytesLess]
 |a::x,b::y=>by
  rw [Op.bytesLess,bless_lt x y];simp only [List.cons_lt_cons_iff]
  by_cases h1:a<b<;>by_cases h2:a=b<;>by_cases h3:x<y<;>simp [h1,h2,h3]
theorem lt_ord{x y:List UInt8}:x<y↔Nm.ordL x y<0:=by rw [<- less_ord,bless_lt,decide_eq_true_eq]
theorem le_ord{x y:List UInt8}(h:x<=y)(hn:x≠y):Nm.ordL x y<0:=by
 rw [<- lt_ord]
 rcases Classical.em (x<y) with h1|h1
 ·exact h1
 ·exact absurd (List.le_antisymm h (List.not_lt.1 h1)) hn
theorem cpt_up{l:List (List UInt8)}(h:l.Pairwise fun x y=>x<=y):((Lib.compact l).map baL).Pairwise (fun x y=>Nm.ordL x.data.toList y.data.toList<0):=by
 rw [List.pairwise_map,Lib.compact,Lib.compactUpTo,List.pairwise_map];have hr:(List.range l.length).Pairwise (· < ·):=List.pairwise_lt_range
 have hle:∀ i j,i<=j->j<l.length->l.toArray[i]! <=l.toArray[j]! :=by
  intro i j hij hj
  rcases Nat.lt_or_eq_of_le hij with hlt|rfl
  ·have h1:=List.pairwise_iff_getElem.1 h i j (by omega) hj hlt;simpa [getElem!_pos,show i<l.length by omega,hj] using h1
  ·exact List.le_refl _
 have hf:=(hr.and (List.pairwise_of_forall_mem_list (r:=fun _ j=>j<l.length) fun i hi j hj=>List.mem_range.1 hj)).filter (Lib.keeps l.toArray);refine List.Pairwise.imp_of_mem (R:=fun i j=>i<j∧j<l.length) ?_ hf;intro i j hi hj ⟨hij,hjl⟩;have hk:=(List.mem_filter.1 hj).2;simp only [Lib.keeps,decide_eq_true_eq] at hk
 have hne:l.toArray[j]! ≠l.toArray[j-1]! :=by
  rcases hk with h0|h0
  ·omega
  ·exact h0
 show Nm.ordL (baL l.toArray[i]!).data.toList (baL l.toArray[j]!).data.toList<0
 have e:∀ z:List UInt8,(baL z).data.toList=z:=fun z=>by simp [baL]
 rw [e,e];have h1:=hle i (j-1) (by omega) (by omega);have h2:=le_ord (hle (j-1) j (by omega) hjl) (fun e=>hne e.symm)
 rcases Classical.em (l.toArray[i]! =l.toArray[j-1]!) with e1|e1
 ·rw [e1];exact h2
 ·exact ordL_lt_trans (le_ord h1 e1) h2
theorem cpt_mem{l:List (List UInt8)}{x:List UInt8}:x∈Lib.compact l↔x∈l:=by
 rw [Lib.compact,Lib.compactUpTo,List.mem_map];constructor
 ·rintro⟨j,hj,rfl⟩
  have:=List.mem_range.1 (List.mem_filter.1 hj).1;simp [getElem!_pos,this]
 ·intro hx;obtain⟨k,hk,rfl⟩:=List.mem_iff_getElem.1 hx
  have key:∀ k,k<l.length->∃ j,j∈(List.range l.length).filter (Lib.keeps l.toArray)∧l.toArray[j]! =l.toArray[k]! :=by
   intro k
   induction k with
   |zero=>intro hk;exact⟨0,List.mem_filter.2 ⟨List.mem_range.2 hk,by simp [Lib.keeps]⟩,rfl⟩
   |succ k ih=>
    intro hk
    rcases Classical.em (l.toArray[k+1]! =l.toArray[k]!) with e|e
    ·obtain⟨j,h1,h2⟩:=ih (by omega);exact⟨j,h1,h2.trans e.symm⟩
    ·exact⟨k+1,List.mem_filter.2 ⟨List.mem_range.2 hk,by simp only [Lib.keeps,decide_eq_true_eq];exact .inr e⟩,rfl⟩
  obtain⟨j,h1,h2⟩:=key k hk;exact⟨j,h1,by rw [h2];simp [getElem!_pos,hk]⟩
theorem cs_up(ds:List ByteArray):(cpt (srt ds)).Pairwise (fun x y=>Nm.ordL x.data.toList y.data.toList<0):=by
 rw [cpt,srt,ss_ba];refine cpt_up ?_;have:=List.pairwise_mergeSort (le:=fun x y:List UInt8=>decide (x<=y)) (fun a b c h1 h2=>by simp only [decide_eq_true_eq] at*;exact List.le_trans h1 h2) (fun a b=>by simp only [Bool.or_eq_true,decide_eq_true_eq];exact List.le_total a b) (ssB ds);exact this.imp fun {x y} h=>by simpa using h
theorem cs_mem{ds:List ByteArray}{x:ByteArray}:x∈cpt (srt ds)↔x∈ds:=by
 rw [<- srt_mem (ds:=ds),cpt,List.mem_map];constructor
 ·rintro⟨l,hl,rfl⟩
  rw [cpt_mem,ssB,List.mem_map] at hl;obtain⟨d,hd,rfl⟩:=hl;exact hd
 ·intro h;exact⟨x.data.toList,by rw [cpt_mem,ssB,List.mem_map];exact⟨x,h,rfl⟩,rfl⟩
theorem cs_same{ds ys:List ByteArray}(h:ys.Pairwise (fun x y=>Nm.ordL x.data.toList y.data.toList<0)):decide (cpt (srt ds)=ys)=samB ds ys:=by
 rw [Bool.eq_iff_iff,decide_eq_true_eq,sam_iff];constructor
 ·rintro rfl x;exact cs_mem.symm
 ·intro hs;exact up_eq (cs_up ds) h (fun x=>cs_mem.trans (hs x))
section
variable {w:World}{B:Nat}{v:Value}{ds:List ByteArray}
theorem sortS_any(h:w.ownsRow B 9 1 v ds.length (ds.map Value.string))(hn:v.ownBlock≠none)(hl:ds.length<=1000000):
 Calls Tryz.prog 93 #[v] w fun e w'=>e=.returned (.tuple #[])∧w'.ownsRow B 9 1 v ds.length ((srt ds).map Value.string)∧w.grownBy w' v.ownBlock:=by
 rcases h.2 with⟨rfl,_⟩|⟨g,cap,cur,rfl,hbase,hb,h1,h2,h3,h4⟩
 ·exact absurd rfl hn
 ·have hsl:(ssB ds).length=ds.length:=by simp [ssB]
  have hH:Holds encStr w g 0 (ssB ds).toArray:=holds_of_block hb (by rw [hsl,ss_enc];simpa using h4);have hc:=Tryz.slices_Sort_string g 0 cap (ssB ds) w hH (Array.getElem?_eq_some_iff.1 hb).1 (by omega);rw [hsl] at hc;refine hc.mono ?_;rintro e w' ⟨rfl,n,os,rfl⟩;have ho:=ownsRow_sorted (w:=w) (base:=B) (n:=n) (os:=os) (ss:=ssB ds) (ts:=(ssB ds).mergeSort fun x y=>decide (x<=y)) (by simp) hbase hb (by omega) h2 h3;rw [hsl] at ho;refine⟨rfl,?_,grownBy_sorted _⟩;rw [srt,ba_enc];exact ho
theorem grow_none(w:World):grow w #[]=w:=by simp [grow]
theorem compactS_any(h:w.ownsRow B 9 1 v ds.length (ds.map Value.string))(hn:v.ownBlock≠none)(hl:ds.length<=1000000):
 Calls Tryz.prog 94 #[v] w fun e w'=>∃ u,e=.returned u∧w'.ownsRow B 9 1 u (cpt ds).length ((cpt ds).map Value.string)∧w.grownBy w' v.ownBlock:=by
 rcases h.2 with⟨rfl,_⟩|⟨g,cap,cur,rfl,hbase,hb,h1,h2,h3,h4⟩
 ·exact absurd rfl hn
 ·have hsl:(ssB ds).length=ds.length:=by simp [ssB]
  have hH:Holds encStr w g 0 (ssB ds).toArray:=holds_of_block hb (by rw [hsl,ss_enc];simpa using h4);have hc:=Tryz.slices_Compact_string g 0 cap (ssB ds) w hH (by omega) (by omega);rw [hsl] at hc;refine hc.mono ?_;rintro e w' ⟨rfl,q,rfl⟩;have hcl:(Lib.compact (ssB ds)).length<=ds.length:=by rw [<- hsl,Lib.compact,Lib.compactUpTo,List.length_map];exact Nat.le_trans (List.length_filter_le _ _) (by simp)
  have hle:(Lib.compact (ssB ds)++List.replicate (ds.length-(Lib.compact (ssB ds)).length) ([]:List UInt8)).length=ds.length:=by simp;omega
  have hs:=heap_sorted (w:=w) (g:=g) (n:=q) (os:=#[]) (Lib.compact (ssB ds)++List.replicate (ds.length-(Lib.compact (ssB ds)).length) ([]:List UInt8)).toArray hb;have hg:=grownBy_sorted (w:=w) (g:=g) (n:=q) (os:=#[]) (Lib.compact (ssB ds)++List.replicate (ds.length-(Lib.compact (ssB ds)).length) ([]:List UInt8)).toArray;rw [grow_none] at hs hg;have ht:=take_putCells cur (Lib.compact (ssB ds)++List.replicate (ds.length-(Lib.compact (ssB ds)).length) ([]:List UInt8)) (by rw [hle];omega);have hcp:(cpt ds).length=(Lib.compact (ssB ds)).length:=by simp [cpt]
  refine⟨_,rfl,⟨by simp,.inr ⟨g,cap,_,by rw [hcp],hbase,hs,by omega,h2,by simp [putCells,h3],?_⟩⟩,hg⟩;have:=congrArg (List.take (Lib.compact (ssB ds)).length) ht;rw [List.take_take,hle,Nat.min_eq_left hcl] at this;rw [Nat.mul_one,hcp,this,cpt,ba_enc,List.map_append,List.take_append_of_le_length (by simp),List.take_of_length_le (by simp)]
end
end Go.Proofs.YtfmolgdfjklmpaaGreat
namespace Go.Proofs.YtfmolgdfjklmpaaGreat
open Go.RowKit
set_option linter.unusedVariables false
theorem kgrown_two{w w1 w2:World}{r u:Option Nat}(h:w.grownBy w1 r)(h2:w1.grownBy w2 u)(hu:∀ k,u=some k->k<w.heap.size->r=some k):w.grownBy w2 r:=
 ⟨h2.os.trans h.os,h2.tape.trans h.tape,h2.output.trans h.output,Nat.le_trans h.size h2.size,fun k hk hr=>(h2.block k (Nat.lt_of_lt_of_le hk h.size) (fun e=>hr (hu k e.symm hk).symm)).trans (h.block k hk hr)⟩
theorem kgrown_below{w w1:World}{r:Option Nat}(h:Below w.heap.size w w1):w.grownBy w1 r:=⟨h.os,h.tape,h.output,h.size,fun k hk _=>h.block k hk⟩
theorem kgrown_next{w w1 w2:World}{r:Option Nat}(h:w.grownBy w1 r)(h2:Below w1.heap.size w1 w2):w.grownBy w2 r:=kgrown_two h (kgrown_below (r:=none) h2) (fun k e=>by cases e)
theorem row_not_iter{W:World}{B it n:Nat}{T:TypeId}{s:Nat}{v:Value}{es:List Value}{m:Option Nat}{a c:Nat}{seen:Array Nat}(h:W.ownsRow B T s v n es)(hb:W.heap[it]? =some (.mapIter m a seen c)):v.ownBlock≠some it:=by
 rcases h.2 with⟨rfl,_⟩|⟨g,cap,cur,rfl,_,hg,_⟩
 ·simp [Value.ownBlock]
 ·intro e;simp [Value.ownBlock] at e
  subst e;rw [hb] at hg;cases hg
theorem row_some{W:World}{B n:Nat}{T:TypeId}{s:Nat}{v:Value}{es:List Value}(h:W.ownsRow B T s v n es)(hn:n≠0):v.ownBlock≠none:=by
 rcases h.2 with⟨rfl,e⟩|⟨g,cap,cur,rfl,_,hg,_⟩
 ·exact absurd e hn
 ·simp [Value.ownBlock]
def itN(n it:Nat)(w:World):Nat:=match w.heap[it]? with
 |some (.mapIter _ _ seen _)=>n-seen.size
 |_=>0
structure RSt (B r it:Nat) (xs:List Rr) (L:List (SK×Value)) (ss:List Sz) (seen:Array Nat) (W:World):Prop where
 m:KMap W r L
 i:∃ c0,W.heap[it]? =some (.mapIter (some r) L.length seen c0)∧L.length<=c0
 nd:seen.toList.Nodup
 lt:∀ i∈seen.toList,i<L.length
 ok:∀ i∈seen.toList,∀ p,L[i]? =some p->kyB ss xs p.1=true
 own:∀ (i:Nat) (p:SK×Value),L[i]? =some p->i∉seen.toList->W.ownsRow B 9 1 p.2 (wntK xs p.1).length ((wntK xs p.1).map Value.string)
 dis:∀ (i j:Nat) (p q:SK×Value),i≠j->L[i]? =some p->L[j]? =some q->∀ g,p.2.ownBlock=some g->q.2.ownBlock≠some g
section
variable {B r it:Nat}{xs:List Rr}{L:List (SK×Value)}{ss:List Sz}{seen:Array Nat}{W:World}
theorem rst_start(h:WSt B xs r L W):RSt B r W.heap.size xs L ss #[] (W.alloc (.mapIter (some r) L.length #[] L.length)):=by
 have hb:=(Below.refl W.heap.size W).alloc (Nat.le_refl _) (.mapIter (some r) L.length #[] L.length);have h2:=h.1.below hb;refine⟨h2.m,⟨L.length,?_,Nat.le_refl _⟩,by simp,by simp,by simp,fun i p hp _=>h2.own p (List.mem_of_getElem? hp),h2.dis⟩
 show(W.heap.push _)[W.heap.size]? =_
 simp
theorem RSt.range_run(h:KMap W r L):(Instr.range 142 (.map (some r))).run Tryz.prog W=.ok (.pointer (some ⟨W.heap.size,0,none⟩)) (W.alloc (.mapIter (some r) L.length #[] L.length)):=by
 obtain⟨es,hb,hes,_⟩:=h;rw [<- km_len hes];exact run_range_map W _ _ _ r es es.size Tryz.underlying142 hb
theorem RSt.neq(h:RSt B r it xs L ss seen W):r≠it:=by
 rintro rfl;obtain⟨es,hb,_⟩:=h.m;obtain⟨c0,hi,_⟩:=h.i;rw [hb] at hi;cases hi
theorem RSt.few(h:RSt B r it xs L ss seen W){i:Nat}(hi:i<L.length)(hn:i∉seen.toList):seen.size<L.length:=by
 have:=nd_le (a:=i::seen.toList) (b:=List.range L.length) (List.nodup_cons.2 ⟨hn,h.nd⟩) (fun x hx=>by
  rw [List.mem_range]
  rcases List.mem_cons.1 hx with rfl|hx
  ·exact hi
  ·exact h.lt x hx)
 simp at this;omega
theorem RSt.left(h:RSt B r it xs L ss seen W):itN L.length it W=L.length-seen.size:=by
 obtain⟨c0,hi,_⟩:=h.i;rw [itN,hi]
theorem RSt.next(h:RSt B r it xs L ss seen W)(ty:TypeId):
 ((∀ p∈L,kyB ss xs p.1=true)∧(Instr.next (.pointer (some ⟨it,0,none⟩)) false ty).run Tryz.prog W=.ok (.tuple #[.bool false]) W)∨
 ∃ (i:Nat) (x:SK) (v:Value) (W':World),L[i]? =some (x,v)∧i∉seen.toList∧(Instr.next (.pointer (some ⟨it,0,none⟩)) false ty).run Tryz.prog W=.ok (.tuple #[.bool true,skV x,v]) W'∧(Instr.entry (.pointer (some ⟨it,0,none⟩))).run Tryz.prog W'=.ok (.tuple #[skV x,v]) W'∧W.grownBy W' (some it)∧KMap W' r L∧W'.heap[it]? =some (.mapIter (some r) L.length (seen.push i) L.length)∧W'.ownsRow B 9 1 v (wntK xs x).length ((wntK xs x).map Value.string):=by
 obtain⟨c0,hi,hc⟩:=h.i
 rcases h.m.next ty hi hc h.neq with⟨hall,hrun⟩|⟨i,x,v,W',hL,hs,hrun,hg,hsz,hm,hi',he⟩
 ·refine .inl ⟨fun p hp=>?_,hrun⟩;obtain⟨i,hil,rfl⟩:=List.mem_iff_getElem.1 hp;exact h.ok i (hall i hil) _ (List.getElem?_eq_getElem hil)
 ·refine .inr ⟨i,x,v,W',hL,hs,hrun,he,hg,hm,hi',?_⟩;have ho:=h.own i _ hL hs;exact ho.kept hg (.inr (row_not_iter ho hi))
theorem RSt.step{i:Nat}{x:SK}{v:Value}{W1 W2:World}(h:RSt B r it xs L ss seen W)(hL:L[i]? =some (x,v))(hs:i∉seen.toList)(hg:W.grownBy W1 (some it))(hm:KMap W1 r L)(hi:W1.heap[it]? =some (.mapIter (some r) L.length (seen.push i) L.length))(hv:W1.ownsRow B 9 1 v (wntK xs x).length ((wntK xs x).map Value.string))(hg2:W1.grownBy W2 v.ownBlock)(hk:kyB ss xs x=true):RSt B r it xs L ss (seen.push i) W2:=by
 have hil:i<L.length:=(List.getElem?_eq_some_iff.1 hL).1;obtain⟨c0,hi0,_⟩:=h.i;have hrl:=hm.lt;have hitl:it<W1.heap.size:=(Array.getElem?_eq_some_iff.1 hi).1;refine⟨hm.kept (hg2.block r hrl (fun e=>row_not_map hv hm e.symm)),⟨L.length,(hg2.block it hitl (fun e=>row_not_iter hv hi e.symm)).trans hi,Nat.le_refl _⟩,?_,?_,?_,?_,h.dis⟩
 ·rw [Array.toList_push,List.nodup_append];refine⟨h.nd,by simp,fun a ha b hb=>?_⟩;simp at hb;subst hb;exact fun e=>hs (e▸ha)
 ·intro k hk;rw [Array.toList_push] at hk
  rcases List.mem_append.1 hk with hk|hk
  ·exact h.lt k hk
  ·simp at hk;subst hk;exact hil
 ·intro k hk2 p hp;rw [Array.toList_push] at hk2
  rcases List.mem_append.1 hk2 with hk2|hk2
  ·exact h.ok k hk2 p hp
  ·simp at hk2;subst hk2;rw [hL] at hp;obtain rfl:=Option.some.inj hp;exact hk
 ·intro k p hp hn;rw [Array.toList_push,List.mem_append,not_or] at hn;have hki:k≠i:=by simpa using hn.2
  have ho:=h.own k p hp hn.1;refine(ho.kept hg (.inr (row_not_iter ho hi0))).kept hg2 ?_
  cases e3:p.2.ownBlock with
  |none=>exact .inl rfl
  |some g=>exact .inr fun e4=>h.dis k i p _ hki hp hL g e3 e4.symm
end
def NdV(N:Nd)(w:World)(e:Ending)(w':World):Prop:=∃ u,e=.returned (.agg #[.int .i64 N.kd,.string N.clo,.string N.cut,u])∧w'.ownsRow w.heap.size 2 1 u N.ty.length (intCells N.ty)∧Below w.heap.size w w'
theorem node_store{w w2:World}{b B n:Nat}{kd:Int}{x y:ByteArray}{v:Value}{xs:List Value}(k:Blk w2 b #[.int .i64 0,.string ⟨#[]⟩,.string ⟨#[]⟩,.slice none 0 0] 38)(ho:w2.ownsRow B 2 1 v n xs)(hne:v.ownBlock≠some b)(hb:Below w.heap.size w w2)(hlb:w.heap.size<=b):
 Blk ((((w2.setCell ⟨b,0,none⟩ (.int .i64 kd)).setCell ⟨b,1,none⟩ (.string x)).setCell ⟨b,2,none⟩ (.string y)).setCell ⟨b,3,none⟩ v) b #[.int .i64 kd,.string x,.string y,v] 38∧
 ((((w2.setCell ⟨b,0,none⟩ (.int .i64 kd)).setCell ⟨b,1,none⟩ (.string x)).setCell ⟨b,2,none⟩ (.string y)).setCell ⟨b,3,none⟩ v).ownsRow B 2 1 v n xs∧
 Below w.heap.size w ((((w2.setCell ⟨b,0,none⟩ (.int .i64 kd)).setCell ⟨b,1,none⟩ (.string x)).setCell ⟨b,2,none⟩ (.string y)).setCell ⟨b,3,none⟩ v):=by
 have k4:=blk_set (blk_set (blk_set (blk_set k 0 (.int .i64 kd)) 1 (.string x)) 2 (.string y)) 3 v;simp only [List.setIfInBounds_toArray,List.set_cons_zero,List.set_cons_succ] at k4;have ho4:=own_far (y:=v) (i:=3) (g:=b) (own_far (y:=.string y) (i:=2) (g:=b) (own_far (y:=.string x) (i:=1) (g:=b) (own_far (y:=.int .i64 kd) (i:=0) (g:=b) ho hne) hne) hne) hne;exact⟨k4,ho4,(((hb.setCell (p:=⟨b,0,none⟩) hlb (.int .i64 kd)).setCell (p:=⟨b,1,none⟩) hlb (.string x)).setCell (p:=⟨b,2,none⟩) hlb (.string y)).setCell (p:=⟨b,3,none⟩) hlb v⟩
structure NdS (w W:World) (zb p:Nat) (a b c u:Value) (l:List Int):Prop where
 z:Blk W zb #[.int .i64 0,.string ⟨#[]⟩,.string ⟨#[]⟩,.slice none 0 0] 38
 k:Blk W p #[a,b,c,u] 38
 le:w.heap.size<=zb
 lt:zb<p
 row:W.ownsRow w.heap.size 2 1 u l.length (intCells l)
 far:∀ g,u.ownBlock=some g->p<g
 be:Below w.heap.size w W
theorem NdS.below{w W W':World}{zb p:Nat}{a b c u:Value}{l:List Int}(h:NdS w W zb p a b c u l)(hb:Below W.heap.size W W'):NdS w W' zb p a b c u l:=
 ⟨blk_below h.z hb,blk_below h.k hb,h.le,h.lt,own_below h.row hb,h.far,Nm.below_two h.be hb⟩
theorem NdS.put{w W:World}{zb p i:Nat}{a b c u y a' b' c':Value}{l:List Int}(h:NdS w W zb p a b c u l)(e:(#[a,b,c,u]:Array Value).setIfInBounds i y=#[a',b',c',u]):NdS w (W.setCell ⟨p,i,none⟩ y) zb p a' b' c' u l:=
 ⟨blk_far h.z (by have:=h.lt;omega),by rw [<- e];exact blk_set h.k i y,h.le,h.lt,own_far h.row (fun e=>by have:=h.far _ e;omega),h.far,h.be.setCell (p:=⟨p,i,none⟩) (by have:=h.lt;have:=h.le;show w.heap.size<=p;omega) y⟩
theorem NdS.set0{w W:World}{zb p:Nat}{a b c u y:Value}{l:List Int}(h:NdS w W zb p a b c u l):NdS w (W.setCell ⟨p,0,none⟩ y) zb p y b c u l:=h.put rfl
theorem NdS.set1{w W:World}{zb p:Nat}{a b c u y:Value}{l:List Int}(h:NdS w W zb p a b c u l):NdS w (W.setCell ⟨p,1,none⟩ y) zb p a y c u l:=h.put rfl
theorem NdS.set2{w W:World}{zb p:Nat}{a b c u y:Value}{l:List Int}(h:NdS w W zb p a b c u l):NdS w (W.setCell ⟨p,2,none⟩ y) zb p a b y u l:=h.put rfl
theorem NdS.set3{w W W':World}{zb p:Nat}{a b c u y:Value}{l m:List Int}(h:NdS w W zb p a b c u l)(hb:Below W.heap.size W W')(ho:W'.ownsRow W.heap.size 2 1 y m.length (intCells m)):NdS w (W'.setCell ⟨p,3,none⟩ y) zb p a b c y m:=by
 have h':=h.below hb;have hp:=blk_lt h.k;have hf:∀ g,y.ownBlock=some g->p<g:=fun g e=>by have:=(ho.lt g e).1;omega
 exact⟨blk_far h'.z (by have:=h.lt;omega),blk_set h'.k 3 y,h.le,h.lt,own_far (own_base ho h.be.size) (fun e=>by have:=hf _ e;omega),hf,h'.be.setCell (p:=⟨p,3,none⟩) (by have:=h.lt;have:=h.le;show w.heap.size<=p;omega) y⟩
theorem NdS.start{w w2 w3:World}{zb:Nat}(k:Blk w2 zb #[.int .i64 0,.string ⟨#[]⟩,.string ⟨#[]⟩,.slice none 0 0] 38)(hz:w.heap.size<=zb)(hb:Below w.heap.size w w2)(h3:Below (w2.alloc (.cells #[.int .i64 0,.string ⟨#[]⟩,.string ⟨#[]⟩,.slice none 0 0] 38)).heap.size (w2.alloc (.cells #[.int .i64 0,.string ⟨#[]⟩,.string ⟨#[]⟩,.slice none 0 0] 38)) w3):
 NdS w w3 zb w2.heap.size (.int .i64 0) (.string ⟨#[]⟩) (.string ⟨#[]⟩) (.slice none 0 0) []:=
 ⟨blk_below (blk_alloc k _) h3,blk_below (blk_new w2 #[.int .i64 0,.string ⟨#[]⟩,.string ⟨#[]⟩,.slice none 0 0] 38) h3,hz,blk_lt k,World.ownsRow_nil _ _ _ _,by simp [Value.ownBlock],Nm.below_two (hb.alloc hb.size _) h3⟩
theorem NdS.done{w W:World}{zb p:Nat}{kd:Int}{x y:ByteArray}{u:Value}{l:List Int}(h:NdS w W zb p (.int .i64 kd) (.string x) (.string y) u l):
 Blk ((((W.setCell ⟨zb,0,none⟩ (.int .i64 kd)).setCell ⟨zb,1,none⟩ (.string x)).setCell ⟨zb,2,none⟩ (.string y)).setCell ⟨zb,3,none⟩ u) zb #[.int .i64 kd,.string x,.string y,u] 38∧
 NdV ⟨kd,x,y,l⟩ w (.returned (.agg #[.int .i64 kd,.string x,.string y,u])) ((((W.setCell ⟨zb,0,none⟩ (.int .i64 kd)).setCell ⟨zb,1,none⟩ (.string x)).setCell ⟨zb,2,none⟩ (.string y)).setCell ⟨zb,3,none⟩ u):=by
 obtain⟨h1,h2,h3⟩:=node_store (kd:=kd) (x:=x) (y:=y) h.z h.row (fun e=>by have:=h.far _ e;have:=h.lt;omega) h.be h.le;exact⟨h1,_,rfl,h2,h3⟩
end Go.Proofs.YtfmolgdfjklmpaaGreat
