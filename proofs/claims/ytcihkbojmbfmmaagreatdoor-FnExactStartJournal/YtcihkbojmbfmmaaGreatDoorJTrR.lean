import Derived.Test.YtcihkbojmbfmmaaGreatDoorJTbIL
import Derived.Test.YtcihkbojmbfmmaaGreatDoorJMath
import Derived.Test.YtcihkbojmbfmmaaGreatDoorRows
import Derived.WalkSpells
import Derived.WalkLawsBesides
import Derived.Test.YtcihkbojmbfmmaaGreatDoorJTrN
namespace Go.Proofs.YtcihkbojmbfmmaaGreatDoor
open Go.RowKit
set_option linter.unusedVariables false
theorem set_split{α:Type}{l:List α}{j:Nat}{x:α}(h:l[j]? =some x)(y:α):l=l.take j++[x]++l.drop (j+1)∧l.set j y=l.take j++[y]++l.drop (j+1):=by
 obtain⟨hj,e⟩:=List.getElem?_eq_some_iff.1 h;constructor
 ·rw [List.append_assoc,List.singleton_append,<- e,List.getElem_cons_drop,List.take_append_drop]
 ·rw [List.set_eq_take_append_cons_drop,if_pos hj,List.append_assoc];rfl
theorem nd_seg{N:Nat}{X A A' Y:List Nat}(h:(X++(A++Y)).Nodup)(hlt:∀ x∈X++(A++Y),x<N)(hA:A'.Nodup)(hm:∀ a∈A',a∈A∨N<=a):(X++(A'++Y)).Nodup:=by
 rw [List.nodup_append,List.nodup_append] at h;obtain⟨hX,⟨hA0,hY,hAY⟩,hXA⟩:=h;rw [List.nodup_append,List.nodup_append];refine⟨hX,⟨hA,hY,fun a ha b hb=>?_⟩,fun a ha b hb=>?_⟩
 ·rcases hm a ha with h1|h1
  ·exact hAY a h1 b hb
  ·have:=hlt b (by simp [hb]);omega
 ·rcases List.mem_append.1 hb with hb|hb
  ·rcases hm b hb with h1|h1
   ·exact hXA a ha b (List.mem_append.2 (.inl h1))
   ·have:=hlt a (by simp [ha]);omega
  ·exact hXA a ha b (List.mem_append.2 (.inr hb))
theorem ow_set{w w':World}{B:Nat}{o:GOw}{j:Nat}{s s':GSe}{F:List Nat}(h:OwAt w B o)(hnd:(fpO o).Nodup)(hj:o.ss[j]? =some s)(hs:SeAt w' B s')(hb:s'.blk=s.blk)(ht:s'.ty=s.ty)(hn:(fpS s').Nodup)
 (hm:∀ b∈fpS s',b∈fpS s∨w.heap.size<=b) (hF:Outs F w w') (hFo:∀ b∈F,b∈fpO o->b∈fpS s):
 OwAt w' B {o with ss:=o.ss.set j s'}∧(fpO {o with ss:=o.ss.set j s'}).Nodup∧∀ b∈fpO {o with ss:=o.ss.set j s'},b∈fpO o∨w.heap.size<=b:=by
 obtain⟨e1,e2⟩:=set_split hj s'
 have f1:fpO o=(o.blk::o.hd::(o.rv.ownBlock.toList++(o.ss.take j).flatMap fpS))++(fpS s++(o.ss.drop (j+1)).flatMap fpS):=by
  conv=>lhs;rw [fpO,e1]
  simp
 have f2:fpO {o with ss:=o.ss.set j s'}=(o.blk::o.hd::(o.rv.ownBlock.toList++(o.ss.take j).flatMap fpS))++(fpS s'++(o.ss.drop (j+1)).flatMap fpS):=by
  show o.blk::o.hd::(o.rv.ownBlock.toList++(o.ss.set j s').flatMap fpS)=_
  rw [e2];simp
 have hnd2:=hnd;rw [f1] at hnd2;have hlt:∀ x∈(o.blk::o.hd::(o.rv.ownBlock.toList++(o.ss.take j).flatMap fpS))++(fpS s++(o.ss.drop (j+1)).flatMap fpS),x<w.heap.size:=fun x hx=>h.lt x (by rw [f1];exact hx)
 have hsep:∀ b,b∈(o.blk::o.hd::(o.rv.ownBlock.toList++(o.ss.take j).flatMap fpS))∨b∈(o.ss.drop (j+1)).flatMap fpS->b∉fpS s:=by
  intro b hb hbs;rw [List.nodup_append,List.nodup_append] at hnd2;obtain⟨_,⟨_,_,h3⟩,h4⟩:=hnd2
  rcases hb with hb|hb
  ·exact h4 b hb b (List.mem_append.2 (.inl hbs)) rfl
  ·exact h3 b hbs b hb rfl
 have keep:∀ b∈fpO o,b∉fpS s->w'.heap[b]? =w.heap[b]? :=fun b hbo hbs=>hF.block b (h.lt b hbo) (fun hbF=>hbs (hFo b hbF hbo))
 refine⟨⟨?_,?_,?_,?_⟩,?_,?_⟩
 ·exact blk_keep h.node (keep _ (by simp [fpO]) (hsep _ (.inl (by simp))))
 ·exact blk_keep h.head (keep _ (by simp [fpO]) (hsep _ (.inl (by simp))))
 ·have e3:seRs (o.ss.set j s')=seRs o.ss:=by
   rw [e2]
   conv=>rhs;rw [e1]
   simp [seRs,hb,ht]
  show w'.ownsRow B _ 2 o.rv (seRs (o.ss.set j s')).length (rowCs (seRs (o.ss.set j s')))
  rw [e3];refine own_keep h.rows (fun b hbm=>keep b (by simp only [fpO,List.mem_cons,List.mem_append];exact .inr (.inr (.inl hbm))) (hsep b (.inl (by simp only [List.mem_cons,List.mem_append];exact .inr (.inr (.inl hbm))))))
 ·intro t htm;have htm2:t∈o.ss.set j s':=htm;rw [e2] at htm2;simp only [List.mem_append,List.mem_singleton] at htm2
  have old:∀ t∈o.ss,(t∈o.ss.take j∨t∈o.ss.drop (j+1))->SeAt w' B t:=by
   intro t hto hts;refine(h.sets t hto).keep (fun b hbm=>keep b (by simp only [fpO,List.mem_cons,List.mem_append,List.mem_flatMap];exact .inr (.inr (.inr ⟨t,hto,hbm⟩))) (hsep b ?_))
   rcases hts with hts|hts
   ·left;simp only [List.mem_cons,List.mem_append,List.mem_flatMap];exact .inr (.inr (.inr ⟨t,hts,hbm⟩))
   ·right;exact List.mem_flatMap.2 ⟨t,hts,hbm⟩
  rcases htm2 with(hts|rfl)|hts
  ·exact old t (List.mem_of_mem_take hts) (.inl hts)
  ·exact hs
  ·exact old t (List.mem_of_mem_drop hts) (.inr hts)
 ·rw [f2];exact nd_seg hnd2 hlt hn hm
 ·intro b hbm;rw [f2] at hbm;rw [f1]
  rcases List.mem_append.1 hbm with hbm|hbm
  ·exact .inl (List.mem_append.2 (.inl hbm))
  ·rcases List.mem_append.1 hbm with hbm|hbm
   ·rcases hm b hbm with h1|h1
    ·exact .inl (List.mem_append.2 (.inr (List.mem_append.2 (.inl h1))))
    ·exact .inr h1
   ·exact .inl (List.mem_append.2 (.inr (List.mem_append.2 (.inr hbm))))
theorem tr_owner{w w':World}{B th:Nat}{rv:Value}{os:List GOw}{p:Nat}{o o':GOw}{F:List Nat}(h:TrAt w B th rv os)(hp:os[p]? =some o)(ho:OwAt w' B o')(hb:o'.blk=o.blk)(hl:o'.lv=o.lv)(hn:(fpO o').Nodup)
 (hm:∀ b∈fpO o',b∈fpO o∨w.heap.size<=b) (hF:Outs F w w') (hFo:∀ b∈F,b∈fpT th rv os->b∈fpO o):
 TrAt w' B th rv (os.set p o')∧∀ b∈fpT th rv (os.set p o'),b∈fpT th rv os∨w.heap.size<=b:=by
 obtain⟨e1,e2⟩:=set_split hp o'
 have f1:fpT th rv os=(th::(rv.ownBlock.toList++(os.take p).flatMap fpO))++(fpO o++(os.drop (p+1)).flatMap fpO):=by
  conv=>lhs;rw [fpT,e1]
  simp
 have f2:fpT th rv (os.set p o')=(th::(rv.ownBlock.toList++(os.take p).flatMap fpO))++(fpO o'++(os.drop (p+1)).flatMap fpO):=by
  rw [fpT,e2];simp
 have hnd2:=h.nodup;rw [f1] at hnd2;have hlt:∀ x∈(th::(rv.ownBlock.toList++(os.take p).flatMap fpO))++(fpO o++(os.drop (p+1)).flatMap fpO),x<w.heap.size:=fun x hx=>h.lt x (by rw [f1];exact hx)
 have hsep:∀ b,b∈(th::(rv.ownBlock.toList++(os.take p).flatMap fpO))∨b∈(os.drop (p+1)).flatMap fpO->b∉fpO o:=by
  intro b hb hbs;rw [List.nodup_append,List.nodup_append] at hnd2;obtain⟨_,⟨_,_,h3⟩,h4⟩:=hnd2
  rcases hb with hb|hb
  ·exact h4 b hb b (List.mem_append.2 (.inl hbs)) rfl
  ·exact h3 b hbs b hb rfl
 have keep:∀ b∈fpT th rv os,b∉fpO o->w'.heap[b]? =w.heap[b]? :=fun b hbo hbs=>hF.block b (h.lt b hbo) (fun hbF=>hbs (hFo b hbF hbo))
 refine⟨⟨?_,?_,?_,?_⟩,?_⟩
 ·exact blk_keep h.head (keep _ (by simp [fpT]) (hsep _ (.inl (by simp))))
 ·have e3:owRs (os.set p o')=owRs os:=by
   rw [e2]
   conv=>rhs;rw [e1]
   simp [owRs,hb,hl]
  rw [e3];refine own_keep h.rows (fun b hbm=>keep b (by simp only [fpT,List.mem_cons,List.mem_append];exact .inr (.inl hbm)) (hsep b (.inl (by simp only [List.mem_cons,List.mem_append];exact .inr (.inl hbm)))))
 ·intro t htm;rw [e2] at htm;simp only [List.mem_append,List.mem_singleton] at htm
  have old:∀ t∈os,(t∈os.take p∨t∈os.drop (p+1))->OwAt w' B t:=by
   intro t hto hts;refine(h.owners t hto).keep (fun b hbm=>keep b (by simp only [fpT,List.mem_cons,List.mem_append,List.mem_flatMap];exact .inr (.inr ⟨t,hto,hbm⟩)) (hsep b ?_))
   rcases hts with hts|hts
   ·left;simp only [List.mem_cons,List.mem_append,List.mem_flatMap];exact .inr (.inr ⟨t,hts,hbm⟩)
   ·right;exact List.mem_flatMap.2 ⟨t,hts,hbm⟩
  rcases htm with(hts|rfl)|hts
  ·exact old t (List.mem_of_mem_take hts) (.inl hts)
  ·exact ho
  ·exact old t (List.mem_of_mem_drop hts) (.inr hts)
 ·rw [f2];exact nd_seg hnd2 hlt hn hm
 ·intro b hbm;rw [f2] at hbm;rw [f1]
  rcases List.mem_append.1 hbm with hbm|hbm
  ·exact .inl (List.mem_append.2 (.inl hbm))
  ·rcases List.mem_append.1 hbm with hbm|hbm
   ·rcases hm b hbm with h1|h1
    ·exact .inl (List.mem_append.2 (.inr (List.mem_append.2 (.inl h1))))
    ·exact .inr h1
   ·exact .inl (List.mem_append.2 (.inr (List.mem_append.2 (.inr hbm))))
end Go.Proofs.YtcihkbojmbfmmaaGreatDoor
namespace Go.Proofs.YtcihkbojmbfmmaaGreatDoor.Dt
open Go.RowKit
def alnumB(c:UInt8):Bool:=(decide (48<=c.toNat)&&decide (c.toNat<=57))||((decide (97<=c.toNat)&&decide (c.toNat<=122))||(decide (65<=c.toNat)&&decide (c.toNat<=90)))
def txtS(s:ByteArray):ByteArray:=
 if h:0<s.size then(if s[0].toNat+1<=s.size then s.extract 0 (s[0].toNat+1) else ByteArray.empty) else ByteArray.empty
def nameF:Nat->ByteArray->Nat->ByteArray
 |0,_,_=>ByteArray.empty
 |f+1,s,i=>
  if h:i<s.size∧i<255 then
   if s[i].toNat=0 then s.extract 0 (i+1)
   else if 63<s[i].toNat then ByteArray.empty
   else nameF f s (i+s[i].toNat+1)
  else ByteArray.empty
def nameAtS(s:ByteArray):ByteArray:=nameF 256 s 0
theorem nameF_enough:∀ (f g:Nat) (s:ByteArray) (i:Nat),255<f+i->255<g+i->nameF f s i=nameF g s i:=by
 intro f
 induction f with
 |zero=>
  intro g s i hf hg
  cases g with
  |zero=>rfl
  |succ g=>rw [nameF,nameF,dif_neg (by omega)]
 |succ f ih=>
  intro g s i hf hg
  cases g with
  |zero=>rw [nameF,nameF,dif_neg (by omega)]
  |succ g=>
   rw [nameF,nameF]
   by_cases h:i<s.size∧i<255
   ·rw [dif_pos h,dif_pos h,ih g s _ (by omega) (by omega)]
   ·rw [dif_neg h,dif_neg h]
def formS(t:Int):ByteArray:=
 if t=1 then⟨#[98,98,98,98]⟩
 else if t=2∨t=5∨t=12∨t=39 then⟨#[110]⟩
 else if t=6 then⟨#[110,110,98,98,98,98,98,98,98,98,98,98,98,98,98,98,98,98,98,98,98,98]⟩
 else if t=13 then⟨#[116,116]⟩
 else if t=15 then⟨#[98,98,110]⟩
 else if t=16 then⟨#[115]⟩
 else if t=28 then⟨#[98,98,98,98,98,98,98,98,98,98,98,98,98,98,98,98]⟩
 else if t=33 then⟨#[98,98,98,98,98,98,110]⟩
 else if t=35 then⟨#[98,98,98,98,116,116,116,110]⟩
 else if t=47 then⟨#[110,109]⟩
 else if t=257 then⟨#[98,99]⟩
 else⟨#[42]⟩
end Go.Proofs.YtcihkbojmbfmmaaGreatDoor.Dt
namespace Go.Proofs.YtcihkbojmbfmmaaGreatDoor
open Go.RowKit
set_option linter.unusedVariables false
def mapF:Nat->Int->ByteArray->Bool
 |0,_,_=>true
 |f+1,last,s=>
  if s.size=0 then true
  else if h:2<=s.size then
   if h2:last<(s[0].toNat:Int)∧1<=s[1].toNat∧s[1].toNat<=32∧s[1].toNat+2<=s.size then
    if s[s[1].toNat+1].toNat=0 then false else mapF f (s[0].toNat:Int) (s.extract (s[1].toNat+2) s.size)
   else false
  else false
theorem mapF_enough:∀ (f g:Nat) (last:Int) (s:ByteArray),s.size<f->s.size<g->mapF f last s=mapF g last s:=by
 intro f
 induction f with
 |zero=>intro g last s hf;omega
 |succ f ih=>
  intro g last s hf hg
  cases g with
  |zero=>omega
  |succ g=>
   rw [mapF,mapF]
   by_cases h0:s.size=0
   ·rw [if_pos h0,if_pos h0]
   rw [if_neg h0,if_neg h0]
   by_cases h:2<=s.size
   ·rw [dif_pos h,dif_pos h]
    by_cases h2:last<(s[0].toNat:Int)∧1<=s[1].toNat∧s[1].toNat<=32∧s[1].toNat+2<=s.size
    ·rw [dif_pos h2,dif_pos h2]
     by_cases h3:s[s[1].toNat+1].toNat=0
     ·rw [if_pos h3,if_pos h3]
     ·rw [if_neg h3,if_neg h3];have he:(s.extract (s[1].toNat+2) s.size).size=s.size-(s[1].toNat+2):=by simp
      exact ih g _ _ (by omega) (by omega)
    ·rw [dif_neg h2,dif_neg h2]
   ·rw [dif_neg h,dif_neg h]
def mapS(s:ByteArray):Bool:=mapF (s.size+1) (-1) s
theorem map_end{f:Nat}{last:Int}{s:ByteArray}(h:s.size=0):mapF (f+1) last s=true:=by rw [mapF,if_pos h]
theorem map_one{f:Nat}{last:Int}{s:ByteArray}(h:s.size=1):mapF (f+1) last s=false:=by rw [mapF,if_neg (by omega),dif_neg (by omega)]
theorem map_no{f:Nat}{last:Int}{s:ByteArray}(h:2<=s.size)(h2:¬(last<(s[0].toNat:Int)∧1<=s[1].toNat∧s[1].toNat<=32∧s[1].toNat+2<=s.size)):mapF (f+1) last s=false:=by
 rw [mapF,if_neg (by omega),dif_pos h,dif_neg h2]
theorem map_zero{f:Nat}{last:Int}{s:ByteArray}(h:2<=s.size)(h2:last<(s[0].toNat:Int)∧1<=s[1].toNat∧s[1].toNat<=32∧s[1].toNat+2<=s.size)(h3:(s[s[1].toNat+1]'(by omega)).toNat=0):mapF (f+1) last s=false:=by
 rw [mapF,if_neg (by omega),dif_pos h,dif_pos h2,if_pos h3]
theorem map_step{last:Int}{s:ByteArray}(h:2<=s.size)(h2:last<(s[0].toNat:Int)∧1<=s[1].toNat∧s[1].toNat<=32∧s[1].toNat+2<=s.size)(h3:(s[s[1].toNat+1]'(by omega)).toNat≠0):
 mapF (s.size+1) last s=mapF ((s.extract (s[1].toNat+2) s.size).size+1) (s[0].toNat:Int) (s.extract (s[1].toNat+2) s.size):=by
 rw [mapF,if_neg (by omega),dif_pos h,dif_pos h2,if_neg h3];have he:(s.extract (s[1].toNat+2) s.size).size=s.size-(s[1].toNat+2):=by simp
 exact mapF_enough _ _ _ _ (by omega) (by omega)
theorem not_empty{s:ByteArray}(h:0<s.size):(s.toList==[])=false∧(s.toList != [])=true:=by
 have:s.toList≠[]:=by
  rw [ByteArray.toList_eq];intro e;have h9:=congrArg List.length e;rw [Array.length_toList] at h9;have h8:s.size=0:=h9;omega
 simp [this]
theorem beq_empty{s:ByteArray}(h:s.size=0):(s.toList==[])=true∧(s.toList != [])=false:=by
 have:s.toList=[]:=List.length_eq_zero_iff.1 (by rw [Nm.tl_len];exact h);simp [this]
end Go.Proofs.YtcihkbojmbfmmaaGreatDoor
namespace Go.Proofs.YtcihkbojmbfmmaaGreatDoor.Dt
open Go.RowKit
def txsF:Nat->ByteArray->Nat
 |0,_=>0
 |f+1,d=>if(txtS d).size=0 then 0 else(txtS d).size+txsF f (d.extract (txtS d).size d.size)
theorem txt_le(d:ByteArray):(txtS d).size<=d.size:=by
 unfold txtS;split
 ·split
  ·simp;omega
  ·simp
 ·simp
theorem txsF_enough:∀ (f g:Nat) (d:ByteArray),d.size<f->d.size<g->txsF f d=txsF g d:=by
 intro f
 induction f with
 |zero=>intro g d hf;omega
 |succ f ih=>
  intro g d hf hg
  cases g with
  |zero=>omega
  |succ g=>
   rw [txsF,txsF]
   by_cases h:(txtS d).size=0
   ·rw [if_pos h,if_pos h]
   ·have:=txt_le d;rw [if_neg h,if_neg h,ih g _ (by simp;omega) (by simp;omega)]
def txsS(d:ByteArray):Nat:=txsF (d.size+1) d
theorem txs_none{d:ByteArray}(h:(txtS d).size=0):txsS d=0:=by rw [txsS,txsF,if_pos h]
theorem txs_step{d:ByteArray}(h:(txtS d).size≠0):txsS d=(txtS d).size+txsS (d.extract (txtS d).size d.size):=by
 have:=txt_le d;rw [txsS,txsF,if_neg h,txsF_enough _ ((d.extract (txtS d).size d.size).size+1) _ (by simp;omega) (by simp)];rfl
theorem txsF_le:∀ (f:Nat) (d:ByteArray),txsF f d<=d.size:=by
 intro f
 induction f with
 |zero=>intro d;simp [txsF]
 |succ f ih=>
  intro d;rw [txsF];split
  ·omega
  ·have:=ih (d.extract (txtS d).size d.size);have h2:=txt_le d;simp at this;omega
theorem txs_le(d:ByteArray):txsS d<=d.size:=txsF_le _ d
def tagB(d:ByteArray):Bool:=decide (2<=(txtS d).size)&&decide ((txtS d).size<=16)&&((txtS d).data.toList.drop 1).all alnumB
abbrev Pc:Type:=Option (Option (Option (Option (Option (Option (Option (Option Nat)))))))
abbrev Pc.nm:Pc:=none
abbrev Pc.tx:Pc:=some none
abbrev Pc.txs:Pc:=some (some none)
abbrev Pc.txe:Pc:=some (some (some none))
abbrev Pc.tag:Pc:=some (some (some (some none)))
abbrev Pc.tagr:Pc:=some (some (some (some (some none))))
abbrev Pc.mp:Pc:=some (some (some (some (some (some none)))))
abbrev Pc.rs:Pc:=some (some (some (some (some (some (some none))))))
abbrev Pc.bs(n:Nat):Pc:=some (some (some (some (some (some (some (some n)))))))
theorem Pc.elim{P:Pc->Prop}(p:Pc)(nm:P Pc.nm)(bs:∀ n,P (Pc.bs n))(tx:P Pc.tx)(txs:P Pc.txs)(txe:P Pc.txe)(tag:P Pc.tag)(tagr:P Pc.tagr)(mp:P Pc.mp)(rs:P Pc.rs):P p:=by
 rcases p with _|_|_|_|_|_|_|_|n
 ·exact nm
 ·exact tx
 ·exact txs
 ·exact txe
 ·exact tag
 ·exact tagr
 ·exact mp
 ·exact rs
 ·exact bs n
def Pc.isN:Pc->Bool
 |none=>true
 |some _=>false
def sz:Pc->ByteArray->Option Nat
 |none,d=>if(nameAtS d).size=0 then none else some (nameAtS d).size
 |some none,d=>if(txtS d).size=0 then none else some (txtS d).size
 |some (some none),d=>if txsS d=0 then none else some (txsS d)
 |some (some (some none)),d=>if txsS d=0∨txsS d≠d.size then none else some d.size
 |some (some (some (some none))),d=>if tagB d then some (txtS d).size else none
 |some (some (some (some (some none)))),d=>if tagB d then some d.size else none
 |some (some (some (some (some (some none))))),d=>if mapS d then some d.size else none
 |some (some (some (some (some (some (some none)))))),d=>some d.size
 |some (some (some (some (some (some (some (some n))))))),d=>if n<=d.size then some n else none
theorem nameF_le:∀ (f:Nat) (s:ByteArray) (i:Nat),(nameF f s i).size<=s.size:=by
 intro f
 induction f with
 |zero=>intro s i;simp [nameF]
 |succ f ih=>
  intro s i;rw [nameF];split
  ·split
   ·simp;omega
   ·split
    ·simp
    ·exact ih _ _
  ·simp
theorem name_le(s:ByteArray):(nameAtS s).size<=s.size:=nameF_le _ _ _
theorem sz_le{p:Pc}{d:ByteArray}{n:Nat}(h:sz p d=some n):n<=d.size:=by
 have h1:=name_le d;have h2:=txt_le d;have h3:=txs_le d;cases p using Pc.elim<;>simp only [sz] at h
 all_goals first
  |(split at h
    ·simp at h
    ·simp at h;omega)
  |(split at h
    ·simp at h;omega
    ·simp at h)
  |(simp at h;omega)
def parts:List Pc->ByteArray->Option (List ByteArray)
 |[],d=>if d.size=0 then some [] else none
 |p::r,d=>
  match sz p d with
  |none=>none
  |some n=>(parts r (d.extract n d.size)).map (fun l=>d.extract 0 n::l)
def spans:List Pc->Nat->ByteArray->Option (List (Nat×Nat))
 |[],_,d=>if d.size=0 then some [] else none
 |p::r,a,d=>
  match sz p d with
  |none=>none
  |some n=>(spans r (a+n) (d.extract n d.size)).map (fun l=>if p.isN then(a,a+n)::l else l)
def spansOf:List Pc->List ByteArray->Nat->List (Nat×Nat)
 |p::r,x::xs,a=>if p.isN then(a,a+x.size)::spansOf r xs (a+x.size) else spansOf r xs (a+x.size)
 |_,_,_=>[]
theorem spans_of_parts:∀ (fs:List Pc) (d:ByteArray) (a:Nat),spans fs a d=(parts fs d).map (fun ps=>spansOf fs ps a):=by
 intro fs
 induction fs with
 |nil=>intro d a;rw [spans,parts];split<;>simp [spansOf]
 |cons p r ih=>
  intro d a;rw [spans,parts]
  cases h:sz p d with
  |none=>simp
  |some n=>
   have hn:=sz_le h;simp only [ih]
   cases parts r (d.extract n d.size) with
   |none=>simp
   |some l=>
    have:(d.extract 0 n).size=n:=by simp;omega
    simp [spansOf,this]
theorem spans_bs(m n:Nat)(r:List Pc)(a:Nat)(d:ByteArray):spans (.bs m::.bs n::r) a d=spans (.bs (m+n)::r) a d:=by
 rw [spans,spans];simp only [sz]
 by_cases h:m<=d.size
 ·rw [if_pos h];simp only [spans,sz];have e:(d.extract m d.size).size=d.size-m:=by simp
  rw [e]
  by_cases h2:m+n<=d.size
  ·rw [if_pos (by omega),if_pos h2]
   have e2:(d.extract m d.size).extract n (d.size-m)=d.extract (m+n) d.size:=by
    rw [ByteArray.extract_extract];congr 1;omega
   simp only [e2,Pc.isN,Nat.add_assoc];simp
  ·rw [if_neg (by omega),if_neg h2];simp
 ·rw [if_neg h,if_neg (by omega)]
theorem spans_tag(a:Nat)(d:ByteArray):spans [.tagr] a d=spans [.tag,.rs] a d:=by
 have h2:=txt_le d;simp only [spans,sz]
 by_cases h:tagB d
 ·simp [h,Pc.isN]
 ·simp [h]
theorem spans_txs(a:Nat)(d:ByteArray):spans [.txs] a d=spans [.txe] a d:=by
 have h3:=txs_le d;simp only [spans,sz]
 by_cases h:txsS d=0
 ·simp [h]
 ·by_cases h2:txsS d=d.size
  ·have h4:d.size≠0:=by omega
   simp [h2,h4,Pc.isN]
  ·simp [h,h2]
   omega
def letP(c:UInt8):Pc:=
 if c=110 then .nm else if c=98 then .bs 1 else if c=116 then .tx else if c=115 then .txs else if c=99 then .tagr else if c=109 then .mp else .rs
def specP(t:Int):List Pc:=(formS t).data.toList.map letP
def implP(t:Int):List Pc:=
 if t=1 then [.bs 4]
 else if t=28 then [.bs 16]
 else if t=2∨t=5∨t=12∨t=39 then [.nm]
 else if t=15 then [.bs 2,.nm]
 else if t=6 then [.nm,.nm,.bs 20]
 else if t=33 then [.bs 6,.nm]
 else if t=16 then [.txe]
 else if t=13 then [.tx,.tx]
 else if t=35 then [.bs 4,.tx,.tx,.tx,.nm]
 else if t=257 then [.bs 1,.tag,.rs]
 else if t=47 then [.nm,.mp]
 else [.rs]
theorem spans_cons{p:Pc}{r r':List Pc}(h:∀ a d,spans r a d=spans r' a d)(a:Nat)(d:ByteArray):spans (p::r) a d=spans (p::r') a d:=by
 rw [spans,spans]
 cases sz p d with
 |none=>rfl
 |some n=>simp only [h]
theorem forms_agree(t:Int)(a:Nat)(d:ByteArray):spans (specP t) a d=spans (implP t) a d:=by
 unfold specP implP formS
 by_cases h1:t=1
 ·subst h1;simp [letP,spans_bs]
 by_cases h2:t=2∨t=5∨t=12∨t=39
 ·have:t≠28:=by omega
  simp [h1,h2,this,letP]
 by_cases h3:t=6
 ·subst h3;simp [letP]
  refine spans_cons (fun a d=>?_) a d;refine spans_cons (fun a d=>?_) a d;simp [spans_bs]
 by_cases h4:t=13
 ·subst h4;simp [letP]
 by_cases h5:t=15
 ·subst h5;simp [letP,spans_bs]
 by_cases h6:t=16
 ·subst h6;simp [letP,spans_txs]
 by_cases h7:t=28
 ·subst h7;simp [letP,spans_bs]
 by_cases h8:t=33
 ·subst h8;simp [letP,spans_bs]
 by_cases h9:t=35
 ·subst h9;simp [letP,spans_bs]
 by_cases h10:t=47
 ·subst h10;simp [letP]
 by_cases h11:t=257
 ·subst h11;simp [letP]
  exact spans_cons (fun a d=>spans_tag a d) a d
 simp [h1,h2,h3,h4,h5,h6,h7,h8,h9,h10,h11,letP]
end Go.Proofs.YtcihkbojmbfmmaaGreatDoor.Dt
namespace Go.Proofs.YtcihkbojmbfmmaaGreatDoor.Dt
open Go.RowKit
set_option linter.unusedVariables false
theorem ext_get{s:ByteArray}{i e:Nat}(h:i<e)(he:e<=s.size):(s.extract i e)[0]'(by simp;omega)=s[i]:=by
 rw [ByteArray.getElem_extract];simp
theorem ext_ext{s:ByteArray}{i e n:Nat}(h:i+n<=e)(he:e<=s.size):(s.extract i e).extract n (s.extract i e).size=s.extract (i+n) e:=by
 rw [ByteArray.extract_extract];congr 1;simp
 omega
theorem nameF_name:∀ (f:Nat) (s:ByteArray) (i:Nat),(nameF f s i).size≠0->
 ∃ e,i<e∧e<=255∧e<=s.size∧nameF f s i=s.extract 0 e∧∀ g,e-i<g->(Nm.splitF g (s.extract i e)).isSome=true:=by
 intro f
 induction f with
 |zero=>intro s i h;simp [nameF] at h
 |succ f ih=>
  intro s i h;rw [nameF] at h ⊢
  by_cases h1:i<s.size∧i<255
  ·rw [dif_pos h1] at h ⊢
   by_cases h2:s[i].toNat=0
   ·rw [if_pos h2];refine⟨i+1,by omega,by omega,by omega,rfl,?_⟩;intro g hg;obtain⟨g,rfl⟩:∃ k,g=k+1:=⟨g-1,by omega⟩;rw [Nm.splitF_end g _ (by simp;omega) (by rw [ext_get (by omega) (by omega)];exact h2) (by simp;omega)];rfl
   ·rw [if_neg h2] at h ⊢
    by_cases h3:63<s[i].toNat
    ·rw [if_pos h3] at h;simp at h
    ·rw [if_neg h3] at h ⊢;obtain⟨e,e1,e2,e3,e4,e5⟩:=ih s _ h;refine⟨e,by omega,e2,e3,e4,?_⟩;intro g hg;obtain⟨g,rfl⟩:∃ k,g=k+1:=⟨g-1,by omega⟩;have hp:0<(s.extract i e).size:=by simp;omega
     have h0:(s.extract i e)[0]=s[i]:=ext_get (by omega) e3;rw [Nm.splitF_step g _ hp (by rw [h0];exact h2) (by rw [h0];omega) (by rw [h0];simp;omega),h0,ext_ext (by omega) e3];have:=e5 g (by omega);rw [show i+(s[i].toNat+1)=i+s[i].toNat+1 by omega];simpa using this
  ·rw [dif_neg h1] at h;simp at h
theorem nameAt_name{s:ByteArray}(h:(nameAtS s).size≠0):(Nm.split (nameAtS s)).isSome=true:=by
 obtain⟨e,e1,e2,e3,e4,e5⟩:=nameF_name 256 s 0 h;have e6:nameAtS s=s.extract 0 e:=e4;rw [e6,Nm.split_short _ (by simp;omega)];exact e5 256 (by omega)
theorem ext_all(s:ByteArray):s.extract 0 s.size=s:=by simp
theorem splitF_nameF:∀ (g:Nat) (f:Nat) (s:ByteArray) (i:Nat),s.size<=255->255<f+i->i<=s.size->(Nm.splitF g (s.extract i s.size)).isSome=true->nameF f s i=s:=by
 intro g
 induction g with
 |zero=>intro f s i _ _ _ h;simp [Nm.splitF] at h
 |succ g ih=>
  intro f s i hs hf hi h
  by_cases hp:i<s.size
  ·obtain⟨f,rfl⟩:∃ k,f=k+1:=⟨f-1,by omega⟩;have hz:(s.extract i s.size).size=s.size-i:=by simp
   have hq:0<(s.extract i s.size).size:=by omega
   have h0:(s.extract i s.size)[0]=s[i]:=ext_get hp (Nat.le_refl _);rw [nameF,dif_pos ⟨hp,by omega⟩]
   by_cases h2:s[i].toNat=0
   ·rw [if_pos h2]
    by_cases h3:(s.extract i s.size).size=1
    ·rw [show i+1=s.size by omega];exact ext_all s
    ·rw [Nm.splitF_zero g _ hq (by rw [h0];exact h2) h3] at h;simp at h
   ·rw [if_neg h2]
    by_cases h3:63<s[i].toNat∨s.size-i<s[i].toNat+1
    ·rw [Nm.splitF_bad g _ hq (by rw [h0];exact h2) (by rw [h0,hz];exact h3)] at h;simp at h
    ·rw [if_neg (by omega)];rw [Nm.splitF_step g _ hq (by rw [h0];exact h2) (by rw [h0];omega) (by rw [h0,hz];omega),h0,ext_ext (by omega) (Nat.le_refl _)] at h;refine ih f s _ hs (by omega) (by omega) ?_;rw [show i+(s[i].toNat+1)=i+s[i].toNat+1 by omega] at h;simpa using h
  ·rw [Nm.splitF_empty _ _ (by simp;omega)] at h;simp at h
theorem name_iff(s:ByteArray):(Nm.split s).isSome=true↔(nameAtS s).size≠0∧(nameAtS s).size=s.size:=by
 constructor
 ·intro h
  by_cases hl:s.size<=255
  ·rw [Nm.split_short s hl] at h;have e:nameAtS s=s:=splitF_nameF 256 256 s 0 hl (by omega) (by omega) (by simpa using h);rw [e];refine⟨?_,rfl⟩;intro h0;rw [Nm.splitF_empty _ _ h0] at h;simp at h
  ·rw [Nm.split_long s (by omega)] at h;simp at h
 ·rintro⟨h0,h⟩
  obtain⟨e,e1,e2,e3,e4,e5⟩:=nameF_name 256 s 0 h0;have e6:nameAtS s=s.extract 0 e:=e4;have e7:e=s.size:=by rw [e6] at h;simp at h;omega
  have e8:nameAtS s=s:=by rw [e6,e7];exact ext_all s
  have:=nameAt_name h0
  rwa [e8] at this
def catL(ps:List ByteArray):List UInt8:=(ps.map (fun x=>x.data.toList)).flatten
def foldL:List Pc->List ByteArray->List UInt8
 |p::r,x::xs=>(if p.isN then Nm.smallL x.data.toList else x.data.toList)++foldL r xs
 |_,_=>[]
theorem ext_cat(d:ByteArray)(n:Nat)(h:n<=d.size):(d.extract 0 n).data.toList++(d.extract n d.size).data.toList=d.data.toList:=by
 have e1:(d.extract 0 n).data.toList=d.data.toList.take n:=by simp
 have e2:(d.extract n d.size).data.toList=d.data.toList.drop n:=by
  simp only [ByteArray.data_extract,Array.toList_extract];rw [List.extract_eq_take_drop,List.take_of_length_le (by simp)]
 rw [e1,e2,List.take_append_drop]
theorem parts_cat:∀ (fs:List Pc) (d:ByteArray) (ps:List ByteArray),parts fs d=some ps->fs.length=ps.length∧catL ps=d.data.toList∧
 ∀ (i:Nat) (p:Pc) (x:ByteArray),fs[i]? =some p->ps[i]? =some x->p.isN=true->(Nm.split x).isSome=true:=by
 intro fs
 induction fs with
 |nil=>
  intro d ps h;rw [parts] at h
  split at h
  ·rename_i h0;simp at h;subst h;refine⟨rfl,?_,?_⟩
   ·have:d.data.toList.length=0:=by simpa using h0
    rw [List.length_eq_zero_iff.1 this];rfl
   ·intro i p x h;simp at h
  ·simp at h
 |cons p r ih=>
  intro d ps h;rw [parts] at h
  cases hs:sz p d with
  |none=>rw [hs] at h;simp at h
  |some n=>
   rw [hs] at h;have hn:=sz_le hs
   cases hr:parts r (d.extract n d.size) with
   |none=>simp [hr] at h
   |some l=>
    simp [hr] at h
    obtain⟨i1,i2,i3⟩:=ih _ _ hr;subst h;refine⟨by simp [i1],?_,?_⟩
    ·have:catL (d.extract 0 n::l)=(d.extract 0 n).data.toList++catL l:=by simp [catL]
     rw [this,i2,ext_cat d n hn]
    ·intro i q x hq hx hN
     cases i with
     |zero=>
      simp at hq hx;subst hq;subst hx;cases p using Pc.elim<;>simp [Pc.isN] at hN
      simp only [sz] at hs
      split at hs
      ·simp at hs
      ·rename_i h0;simp at hs;obtain⟨e,e1,e2,e3,e4,e5⟩:=nameF_name 256 d 0 h0;have e6:nameAtS d=d.extract 0 e:=e4;have e7:e=n:=by rw [e6] at hs;simp at hs;omega
       rw [<- e7,<- e6]
       exact nameAt_name h0
     |succ i=>
      simp at hq hx;exact i3 i q x hq hx hN
def lowIn(s:Nat×Nat)(l:List UInt8):List UInt8:=l.take s.1++(Nm.smallL ((l.drop s.1).take (s.2-s.1))++l.drop s.2)
def lowAll(sp:List (Nat×Nat))(l:List UInt8):List UInt8:=sp.foldl (fun l s=>lowIn s l) l
theorem lowAll_parts:∀ (fs:List Pc) (ps:List ByteArray) (pre:List UInt8),fs.length=ps.length->lowAll (spansOf fs ps pre.length) (pre++catL ps)=pre++foldL fs ps:=by
 intro fs
 induction fs with
 |nil=>
  intro ps pre h;have:ps=[]:=List.length_eq_zero_iff.1 (by simpa using h.symm);subst this
  simp [spansOf,lowAll,foldL,catL]
 |cons p r ih=>
  intro ps pre h
  cases ps with
  |nil=>simp at h
  |cons x xs=>
   have hl:r.length=xs.length:=by simpa using h
   have hx:x.data.toList.length=x.size:=by simp
   have hc:catL (x::xs)=x.data.toList++catL xs:=by simp [catL]
   rw [spansOf,hc,foldL]
   cases hN:p.isN with
   |true=>
    simp only [if_true]
    have e1:lowIn (pre.length,pre.length+x.size) (pre++(x.data.toList++catL xs))=(pre++Nm.smallL x.data.toList)++catL xs:=by
     have k1:(pre++(x.data.toList++catL xs)).take pre.length=pre:=List.take_left' rfl;have k2:(pre++(x.data.toList++catL xs)).drop pre.length=x.data.toList++catL xs:=List.drop_left' rfl;have k3:(x.data.toList++catL xs).take x.size=x.data.toList:=List.take_left' hx
     have k4:(pre++(x.data.toList++catL xs)).drop (pre.length+x.size)=catL xs:=by
      rw [<- List.append_assoc];exact List.drop_left' (by rw [List.length_append,hx])
     simp only [lowIn];rw [k1,k2,Nat.add_sub_cancel_left,k3,k4,List.append_assoc]
    have e2:lowAll ((pre.length,pre.length+x.size)::spansOf r xs (pre.length+x.size)) (pre++(x.data.toList++catL xs))=lowAll (spansOf r xs (pre.length+x.size)) ((pre++Nm.smallL x.data.toList)++catL xs):=by
     rw [<- e1];rfl
    have e3:pre.length+x.size=(pre++Nm.smallL x.data.toList).length:=by simp [Nm.smallL]
    rw [e2,e3,ih xs _ hl]
    simp
   |false=>
    simp only [if_false,Bool.false_eq_true];have e3:pre.length+x.size=(pre++x.data.toList).length:=by simp
    rw [e3,<- List.append_assoc,ih xs _ hl];simp
def foldDS(t:Int)(d:ByteArray):ByteArray:=
 match spans (implP t) 0 d with
 |none=>ByteArray.empty
 |some sp=>⟨(lowAll sp d.data.toList).toArray⟩
theorem foldDS_some{t:Int}{d:ByteArray}{ps:List ByteArray}(h:parts (specP t) d=some ps):foldDS t d=⟨(foldL (specP t) ps).toArray⟩:=by
 obtain⟨h1,h2,h3⟩:=parts_cat _ _ _ h;rw [foldDS,<- forms_agree,spans_of_parts,h];have:=lowAll_parts (specP t) ps [] h1;simp only [List.length_nil,List.nil_append] at this;rw [h2] at this;simp only [Option.map_some,this]
end Go.Proofs.YtcihkbojmbfmmaaGreatDoor.Dt
namespace Go.Proofs.YtcihkbojmbfmmaaGreatDoor.Dt
open Go.RowKit
def PAt(fs:List Pc)(d0:ByteArray)(ps:List ByteArray)(r:List Pc)(d:ByteArray):Prop:=
 parts fs d0=(parts r d).map (fun t=>ps++t)
theorem pat_start(fs:List Pc)(d0:ByteArray):PAt fs d0 [] fs d0:=by simp [PAt]
theorem pat_end{fs:List Pc}{d0 d:ByteArray}{ps:List ByteArray}(h:PAt fs d0 ps [] d)(h0:d.size=0):parts fs d0=some ps:=by
 rw [h,parts,if_pos h0];simp
theorem pat_left{fs:List Pc}{d0 d:ByteArray}{ps:List ByteArray}(h:PAt fs d0 ps [] d)(h0:d.size≠0):parts fs d0=none:=by
 rw [h,parts,if_neg h0];rfl
theorem pat_none{fs r:List Pc}{p:Pc}{d0 d:ByteArray}{ps:List ByteArray}(h:PAt fs d0 ps (p::r) d)(h0:sz p d=none):parts fs d0=none:=by
 rw [h,parts,h0];rfl
theorem pat_step{fs r:List Pc}{p:Pc}{d0 d x:ByteArray}{ps:List ByteArray}{n:Nat}(h:PAt fs d0 ps (p::r) d)(h0:sz p d=some n)(hx:d.extract 0 n=x):PAt fs d0 (ps++[x]) r (d.extract x.size d.size):=by
 have hn:=sz_le h0;have e:x.size=n:=by rw [<- hx];simp;omega
 rw [PAt,h,parts,h0,Option.map_map,hx,e];congr 1;funext t;simp
theorem drop_let{f:ByteArray}{k:Nat}(hk:k<f.size):(f.data.toList.map letP).drop k=letP f[k]::(f.data.toList.map letP).drop (k+1):=by
 have hl:k<(f.data.toList.map letP).length:=by simpa using hk
 rw [List.drop_eq_getElem_cons hl];simp
 rfl
theorem name_ext(d:ByteArray)(h:(nameAtS d).size≠0):d.extract 0 (nameAtS d).size=nameAtS d:=by
 obtain⟨e,e1,e2,e3,e4,e5⟩:=nameF_name 256 d 0 h;have e6:nameAtS d=d.extract 0 e:=e4;have e7:(nameAtS d).size=e:=by rw [e6];simp;omega
 rw [e7,e6]
theorem txt_ext(d:ByteArray):d.extract 0 (txtS d).size=txtS d:=by
 by_cases h:0<d.size
 ·by_cases h1:d[0].toNat+1<=d.size
  ·have e:txtS d=d.extract 0 (d[0].toNat+1):=by rw [txtS,dif_pos h,if_pos h1]
   have e7:(txtS d).size=d[0].toNat+1:=by rw [e];simp;omega
   rw [e7,e]
  ·have e:txtS d=ByteArray.empty:=by rw [txtS,dif_pos h,if_neg h1]
   rw [e];simp
 ·have e:txtS d=ByteArray.empty:=by rw [txtS,dif_neg h]
  rw [e];simp
theorem ext_none(d:ByteArray):d.extract d.size d.size=ByteArray.empty:=by
 apply Nm.ba_ext;simp
def TAt(d p:ByteArray):Prop:=p.size<=d.size∧d.extract 0 p.size=p∧txsS d=p.size+txsS (d.extract p.size d.size)
theorem tat_start(d:ByteArray):TAt d ⟨#[]⟩:=by
 have e:(⟨#[]⟩:ByteArray).size=0:=rfl;refine⟨by omega,?_,?_⟩
 ·rw [e];apply Nm.ba_ext;simp
 ·rw [e];simp
theorem tat_end{d p:ByteArray}(h:TAt d p)(h0:(txtS (d.extract p.size d.size)).size=0):txsS d=p.size:=by
 rw [h.2.2,txs_none h0];rfl
theorem tat_step{d p:ByteArray}(h:TAt d p)(h0:(txtS (d.extract p.size d.size)).size≠0):TAt d (p++txtS (d.extract p.size d.size)):=by
 obtain⟨h1,h2,h3⟩:=h;have ht:=txt_le (d.extract p.size d.size);have hte:=txt_ext (d.extract p.size d.size);generalize hT:txtS (d.extract p.size d.size)=T at*;have hz:(p++T).size=p.size+T.size:=by simp
 have hd:(d.extract p.size d.size).size=d.size-p.size:=by simp
 refine⟨by omega,?_,?_⟩
 ·apply Nm.ba_ext;rw [hz];have e1:(p++T).data.toList=p.data.toList++T.data.toList:=by simp
  rw [e1,<- hte]
  conv=>rhs;arg 1;rw [<- h2]
  simp only [ByteArray.data_extract,Array.toList_extract,List.extract_eq_take_drop];simp
  rw [List.take_add];congr 1;rw [List.take_take,Nat.min_eq_left (by omega)]
 ·rw [hz,h3,txs_step (by rw [hT];exact h0),hT];have e:(d.extract p.size d.size).extract T.size (d.extract p.size d.size).size=d.extract (p.size+T.size) d.size:=ext_ext (by omega) (Nat.le_refl _);rw [e];omega
theorem tag_short{d:ByteArray}(h:(txtS d).size<2∨16<(txtS d).size):tagB d=false:=by
 rw [tagB]
 rcases h with h|h
 ·simp;omega
 ·simp;omega
theorem tag_bad{d:ByteArray}{k:Nat}(hk:1<=k)(hl:k<(txtS d).size)(h:alnumB (txtS d)[k]=false):tagB d=false:=by
 rw [tagB,Bool.and_eq_false_iff];right;rw [List.all_eq_false];refine⟨(txtS d)[k],?_,by simp [h]⟩
 have:((txtS d).data.toList.drop 1)[k-1]? =some (txtS d)[k]:=by
  rw [List.getElem?_drop,show 1+(k-1)=k by omega];exact Nm.get_data hl
 exact List.mem_of_getElem? this
theorem tag_good{d:ByteArray}(h2:2<=(txtS d).size)(h16:(txtS d).size<=16)(h:∀ j,1<=j->(hj:j<(txtS d).size)->alnumB (txtS d)[j]=true):tagB d=true:=by
 rw [tagB];simp only [h2,h16,decide_true,Bool.true_and,List.all_eq_true];intro c hc;obtain⟨i,hi⟩:=List.getElem?_of_mem hc;rw [List.getElem?_drop] at hi
 have hl:1+i<(txtS d).size:=by
  have:=(List.getElem?_eq_some_iff.1 hi).1;simpa using this
 rw [Nm.get_data hl] at hi;simp at hi;rw [<- hi];exact h _ (by omega) hl
end Go.Proofs.YtcihkbojmbfmmaaGreatDoor.Dt
namespace Go.Proofs.YtcihkbojmbfmmaaGreatDoor
open Go.RowKit
def cutCode(t:Int)(d:ByteArray):Int:=
 if t<0∨65535<t then 6 else if 65535<d.size then 7 else if(Dt.spans (Dt.implP t) 0 d).isSome then 0 else 7
def cutS(t:Int)(d:ByteArray):Option (List (Nat×Nat)):=if t<0∨65535<t then none else if 65535<d.size then none else Dt.spans (Dt.implP t) 0 d
def spanCells(sp:List (Nat×Nat)):List Value:=sp.flatMap fun s=>[.int .i64 (s.1:Int),.int .i64 (s.2:Int)]
theorem spanCells_append(a b:List (Nat×Nat)):spanCells (a++b)=spanCells a++spanCells b:=by simp [spanCells]
def CAt(fs:List Dt.Pc)(d:ByteArray)(sp:List (Nat×Nat))(r:List Dt.Pc)(a:Nat):Prop:=
 Dt.spans fs 0 d=(Dt.spans r a (d.extract a d.size)).map (fun t=>sp++t)
theorem cat_start(fs:List Dt.Pc)(d:ByteArray):CAt fs d [] fs 0:=by simp [CAt]
theorem cat_end{fs:List Dt.Pc}{d:ByteArray}{sp:List (Nat×Nat)}{a:Nat}(h:CAt fs d sp [] a)(h0:d.size<=a):Dt.spans fs 0 d=some sp:=by
 rw [h,Dt.spans,if_pos (by simp;omega)];simp
theorem cat_left{fs:List Dt.Pc}{d:ByteArray}{sp:List (Nat×Nat)}{a:Nat}(h:CAt fs d sp [] a)(h0:a<d.size):Dt.spans fs 0 d=none:=by
 rw [h,Dt.spans,if_neg (by simp;omega)];rfl
theorem cat_none{fs r:List Dt.Pc}{p:Dt.Pc}{d:ByteArray}{sp:List (Nat×Nat)}{a:Nat}(h:CAt fs d sp (p::r) a)(h0:Dt.sz p (d.extract a d.size)=none):Dt.spans fs 0 d=none:=by
 rw [h,Dt.spans,h0];rfl
theorem cat_step{fs r:List Dt.Pc}{p:Dt.Pc}{d:ByteArray}{sp:List (Nat×Nat)}{a n:Nat}(h:CAt fs d sp (p::r) a)(ha:a<=d.size)(h0:Dt.sz p (d.extract a d.size)=some n):
 CAt fs d (sp++if p.isN then [(a,a+n)] else []) r (a+n)∧a+n<=d.size:=by
 have hn:=Dt.sz_le h0;have hz:(d.extract a d.size).size=d.size-a:=by simp
 refine⟨?_,by omega⟩;rw [CAt,h,Dt.spans,h0,Option.map_map,Dt.ext_ext (by omega) (Nat.le_refl _)];congr 1;funext t
 cases p.isN<;>simp
theorem code_type{t:Int}{d:ByteArray}(h:t<0∨65535<t):cutCode t d=6∧cutS t d=none:=by
 rw [cutCode,cutS,if_pos h,if_pos h];exact⟨rfl,rfl⟩
theorem code_long{t:Int}{d:ByteArray}(h:¬(t<0∨65535<t))(h1:65535<d.size):cutCode t d=7∧cutS t d=none:=by
 rw [cutCode,cutS,if_neg h,if_neg h,if_pos h1,if_pos h1];exact⟨rfl,rfl⟩
theorem code_none{t:Int}{d:ByteArray}(h:¬(t<0∨65535<t))(h1:¬65535<d.size)(h2:Dt.spans (Dt.implP t) 0 d=none):cutCode t d=7∧cutS t d=none:=by
 rw [cutCode,cutS,if_neg h,if_neg h,if_neg h1,if_neg h1,h2];exact⟨rfl,rfl⟩
theorem code_some{t:Int}{d:ByteArray}{sp:List (Nat×Nat)}(h:¬(t<0∨65535<t))(h1:¬65535<d.size)(h2:Dt.spans (Dt.implP t) 0 d=some sp):cutCode t d=0∧cutS t d=some sp:=by
 rw [cutCode,cutS,if_neg h,if_neg h,if_neg h1,if_neg h1,h2];exact⟨rfl,rfl⟩
theorem implP_len(t:Int):(Dt.implP t).length<=5:=by
 unfold Dt.implP
 repeat' split
 all_goals simp
end Go.Proofs.YtcihkbojmbfmmaaGreatDoor
namespace Go.Proofs.YtcihkbojmbfmmaaGreatDoor
open Go.RowKit
theorem code_zero{t:Int}{d:ByteArray}:cutCode t d=0↔ ∃ sp,cutS t d=some sp:=by
 by_cases h:t<0∨65535<t
 ·obtain⟨h1,h2⟩:=code_type (d:=d) h;rw [h1,h2];simp
 ·by_cases h1:65535<d.size
  ·obtain⟨h2,h3⟩:=code_long h h1;rw [h2,h3];simp
  ·cases hq:Dt.spans (Dt.implP t) 0 d with
   |none=>obtain⟨h2,h3⟩:=code_none h h1 hq;rw [h2,h3];simp
   |some sp=>obtain⟨h2,h3⟩:=code_some h h1 hq;rw [h2,h3];simp
theorem good_parts{t:Int}{d:ByteArray}(h:cutCode t d=0):∃ ps,Dt.parts (Dt.specP t) d=some ps∧cutS t d=some (Dt.spansOf (Dt.specP t) ps 0)∧d.size<=65535:=by
 obtain⟨sp,hsp⟩:=code_zero.1 h
 by_cases ht:t<0∨65535<t
 ·rw [(code_type (d:=d) ht).2] at hsp;cases hsp
 ·by_cases h1:65535<d.size
  ·rw [(code_long ht h1).2] at hsp;cases hsp
  ·have e:cutS t d=Dt.spans (Dt.implP t) 0 d:=by rw [cutS,if_neg ht,if_neg h1]
   rw [e,<- Dt.forms_agree,Dt.spans_of_parts] at hsp
   cases hq:Dt.parts (Dt.specP t) d with
   |none=>rw [hq] at hsp;simp at hsp
   |some ps=>
    refine⟨ps,rfl,?_,by omega⟩;rw [e,<- Dt.forms_agree,Dt.spans_of_parts,hq];rfl
theorem part_le:∀ (ps:List ByteArray) (x:ByteArray),x∈ps->x.size<=(Dt.catL ps).length:=by
 intro ps
 induction ps with
 |nil=>intro x h;simp at h
 |cons y ps ih=>
  intro x h;have e:(Dt.catL (y::ps)).length=y.size+(Dt.catL ps).length:=by simp [Dt.catL]
  rcases List.mem_cons.1 h with rfl|h
  ·omega
  ·have:=ih x h;omega
theorem isN_let(c:UInt8):(Dt.letP c).isN=decide (c.toNat=110):=by
 by_cases h:c=110
 ·subst h;rfl
 ·have h':c.toNat≠110:=fun e=>h (UInt8.toNat_inj.1 (by simpa using e))
  simp only [h',decide_false];unfold Dt.letP;rw [if_neg h]
  repeat' split
  all_goals rfl
theorem spans_few:∀ (fs:List Dt.Pc) (a:Nat) (d:ByteArray) (sp:List (Nat×Nat)),Dt.spans fs a d=some sp->sp.length<=fs.length:=by
 intro fs
 induction fs with
 |nil=>
  intro a d sp h;rw [Dt.spans] at h
  split at h
  ·simp at h;subst h;simp
  ·simp at h
 |cons p r ih=>
  intro a d sp h;rw [Dt.spans] at h
  cases hq:Dt.sz p d with
  |none=>rw [hq] at h;simp at h
  |some n=>
   rw [hq] at h
   cases hr:Dt.spans r (a+n) (d.extract n d.size) with
   |none=>simp [hr] at h
   |some l=>
    have:=ih _ _ _ hr;simp [hr] at h
    subst h;cases p.isN<;>simp<;>omega
theorem cut_few(t:Int)(d:ByteArray):((cutS t d).getD []).length<=5:=by
 cases h:cutS t d with
 |none=>simp
 |some sp=>
  rw [cutS] at h
  split at h
  ·cases h
  ·split at h
   ·cases h
   ·have h1:=spans_few _ _ _ _ h;have h2:=implP_len t
    simp;omega
end Go.Proofs.YtcihkbojmbfmmaaGreatDoor
namespace Go.Proofs.YtcihkbojmbfmmaaGreatDoor
open Go.RowKit
def BRow(w:World)(g:Nat)(l:List UInt8):Prop:=∀ j c,l[j]? =some c->w.cell? ⟨g,j,none⟩=some (.int .u8 c.toNat)∧w.frozen? ⟨g,j,none⟩=false
theorem BRow.set{w:World}{g k:Nat}{l:List UInt8}{d:UInt8}(h:BRow w g l)(hk:k<l.length):BRow (w.setCell ⟨g,k,none⟩ (.int .u8 d.toNat)) g (l.set k d):=by
 intro j c hj;obtain⟨x,hx⟩:∃ x,l[k]? =some x:=⟨_,List.getElem?_eq_getElem hk⟩
 by_cases e:k=j
 ·subst e;rw [List.getElem?_set_self hk] at hj;simp at hj;subst hj;exact⟨World.cell?_setCell_same _ _ _ (h k x hx).1,by rw [World.frozen?_setCell];exact(h k x hx).2⟩
 ·rw [List.getElem?_set_ne e] at hj;refine⟨?_,by rw [World.frozen?_setCell];exact(h j c hj).2⟩;rw [World.cell?_setCell_other w ⟨g,k,none⟩ ⟨g,j,none⟩ _ (by intro h;cases h;exact e rfl)];exact(h j c hj).1
theorem new_bytes(s:ByteArray)(w:World):∃ cap W,s.size<=cap∧(s.size<=maxLen->cap<=maxLen)∧
 (convert 9 26 (.string s)).run Tryz.prog w=.ok (.slice (some ⟨w.heap.size,0,none⟩) s.size cap) W∧BRow W w.heap.size s.data.toList∧Below w.heap.size w W:=by
 refine⟨_,_,grownCap_ge w s.size 0 5,grownCap_le_maxLen w s.size 0 5,run_bytes_of_string w 9 26 5 s Tryz.underlying9 Tryz.underlying26 Tryz.underlying5,?_,?_⟩
 ·intro j c hj
  have hj':j<s.data.size:=by
   have:=(List.getElem?_eq_some_iff.1 hj).1;simpa using this
  have hc:s.data[j]=c:=by
   have:=(List.getElem?_eq_some_iff.1 hj).2;simpa using this
  constructor
  ·have e:=cell_of_row (w.drew.alloc (.cells (bytesRow s (grownCap w s.size 0 5)) 5 ((bytesRow s (grownCap w s.size 0 5)).size,(bytesRow s (grownCap w s.size 0 5)).size+1))) w.heap.size j _ 5 _ (heap_alloc_new w.drew _);rw [e,bytesRow_at s _ j hj',hc]
  ·have e:=World.frozen?_alloc_mark w.drew (bytesRow s (grownCap w s.size 0 5)) 5 (bytesRow s (grownCap w s.size 0 5)).size ((bytesRow s (grownCap w s.size 0 5)).size+1) j;rw [show w.heap.size=w.drew.heap.size from rfl,e];have:s.data.size<=(bytesRow s (grownCap w s.size 0 5)).size:=by simp [bytesRow]
   simp;omega
 ·exact((Below.refl _ w).drew).alloc (Nat.le_refl _) _
end Go.Proofs.YtcihkbojmbfmmaaGreatDoor
namespace Go.Proofs.YtcihkbojmbfmmaaGreatDoor
open Go.RowKit
theorem span_cellsN{sp:List (Nat×Nat)}{k:Nat}{x:Nat×Nat}(h:sp[k]? =some x):(spanCells sp)[k*2]? =some (.int .i64 (x.1:Int))∧(spanCells sp)[k*2+1]? =some (.int .i64 (x.2:Int)):=by
 induction sp generalizing k with
 |nil=>simp at h
 |cons y sp ih=>
  cases k with
  |zero=>simp at h;subst h;simp [spanCells]
  |succ k=>
   simp at h;have:=ih h;have e:spanCells (y::sp)=[.int .i64 (y.1:Int),.int .i64 (y.2:Int)]++spanCells sp:=by simp [spanCells]
   rw [e,show(k+1)*2=k*2+2 by omega,show k*2+2+1=(k*2+1)+2 by omega];simpa using this
theorem spans_in:∀ (fs:List Dt.Pc) (a:Nat) (d:ByteArray) (sp:List (Nat×Nat)),Dt.spans fs a d=some sp->∀ s∈sp,a<=s.1∧s.1<=s.2∧s.2<=a+d.size:=by
 intro fs
 induction fs with
 |nil=>
  intro a d sp h;rw [Dt.spans] at h
  split at h
  ·simp at h;subst h;simp
  ·simp at h
 |cons p r ih=>
  intro a d sp h;rw [Dt.spans] at h
  cases hq:Dt.sz p d with
  |none=>rw [hq] at h;simp at h
  |some n=>
   have hn:=Dt.sz_le hq;rw [hq] at h
   cases hr:Dt.spans r (a+n) (d.extract n d.size) with
   |none=>simp [hr] at h
   |some l=>
    have hi:=ih _ _ _ hr;have hz:(d.extract n d.size).size=d.size-n:=by simp
    have hi2:∀ s∈l,a<=s.1∧s.1<=s.2∧s.2<=a+d.size:=by
     intro s hs;have:=hi s hs;omega
    simp [hr] at h
    subst h;cases p.isN
    ·simpa using hi2
    ·intro s hs;simp at hs
     rcases hs with rfl|hs
     ·simp;omega
     ·exact hi2 s hs
theorem low_in_len(a b:Nat)(l:List UInt8)(h:a<=b)(hb:b<=l.length):(Dt.lowIn (a,b) l).length=l.length:=by
 simp [Dt.lowIn,Nm.smallL];omega
theorem low_in_self(a:Nat)(l:List UInt8):Dt.lowIn (a,a) l=l:=by
 simp [Dt.lowIn,Nm.smallL]
theorem low_in_get(a i:Nat)(l:List UInt8)(h:a<=i)(hi:i<l.length):(Dt.lowIn (a,i) l)[i]? =l[i]? :=by
 have h1:(l.take a++Nm.smallL ((l.drop a).take (i-a))).length=i:=by simp [Nm.smallL];omega
 simp only [Dt.lowIn];rw [<- List.append_assoc,List.getElem?_append_right (by omega),h1,Nat.sub_self,List.getElem?_drop,Nat.add_zero]
theorem low_in_set(a i:Nat)(l:List UInt8)(c:UInt8)(h:a<=i)(hc:l[i]? =some c):(Dt.lowIn (a,i) l).set i (Nm.low c)=Dt.lowIn (a,i+1) l:=by
 obtain⟨hi,he⟩:=List.getElem?_eq_some_iff.1 hc;have h1:(l.take a++Nm.smallL ((l.drop a).take (i-a))).length=i:=by simp [Nm.smallL];omega
 have h2:(l.drop a).take (i+1-a)=(l.drop a).take (i-a)++[c]:=by
  rw [show i+1-a=(i-a)+1 by omega];apply Nm.take_step;rw [List.getElem?_drop,show a+(i-a)=i by omega];exact hc
 simp only [Dt.lowIn];rw [<- List.append_assoc,List.set_append_right _ _ (by omega),h1,Nat.sub_self,h2,List.drop_eq_getElem_cons hi,List.set_cons_zero];simp [Nm.smallL]
theorem low_all_len:∀ (sp:List (Nat×Nat)) (l:List UInt8),(∀ s∈sp,s.1<=s.2∧s.2<=l.length)->(Dt.lowAll sp l).length=l.length:=by
 intro sp
 induction sp with
 |nil=>intro l _;rfl
 |cons s sp ih=>
  intro l h;have h0:=h s (List.mem_cons_self);have e:=low_in_len s.1 s.2 l h0.1 h0.2
  show(Dt.lowAll sp (Dt.lowIn s l)).length=l.length
  rw [ih,e];intro s' hs';rw [e];exact h s' (List.mem_cons_of_mem _ hs')
theorem low_all_step{sp:List (Nat×Nat)}{k:Nat}{s:Nat×Nat}(h:sp[k]? =some s)(l:List UInt8):Dt.lowAll (sp.take (k+1)) l=Dt.lowIn s (Dt.lowAll (sp.take k) l):=by
 rw [Nm.take_step h,Dt.lowAll,List.foldl_append];rfl
theorem new_bytes2(s:ByteArray)(w:World):∃ cap W,s.size<=cap∧(s.size<=maxLen->cap<=maxLen)∧
 (convert 9 26 (.string s)).run Tryz.prog w=.ok (.slice (some ⟨w.heap.size,0,none⟩) s.size cap) W∧BRow W w.heap.size s.data.toList∧Below w.heap.size w W∧w.heap.size<W.heap.size:=by
 obtain⟨cap,W,h1,h2,h3,h4,h5⟩:=new_bytes s w;refine⟨cap,W,h1,h2,h3,h4,h5,?_⟩;have hr:=run_bytes_of_string w 9 26 5 s Tryz.underlying9 Tryz.underlying26 Tryz.underlying5;rw [h3] at hr;cases hr
 simp
theorem BRow.alloc{w:World}{g:Nat}{l:List UInt8}(h:BRow w g l)(hg:g<w.heap.size)(o:Obj):BRow (w.alloc o) g l:=by
 intro j c hj;obtain⟨h1,h2⟩:=h j c hj;have hb:Below w.heap.size w (w.alloc o):=(Below.refl _ _).alloc (Nat.le_refl _) _;refine⟨(hb.cell hg).trans h1,?_⟩;have e:=hb.block g hg;simp only [World.frozen?,e];exact h2
theorem BRow.str{w:World}{g n cap:Nat}{l:List UInt8}(h:BRow w g l)(hl:l.length=n):(convert 26 9 (.slice (some ⟨g,0,none⟩) n cap)).run Tryz.prog w=.ok (.string ⟨l.toArray⟩) w:=by
 subst hl;refine run_convert_bytes_back w 26 9 5 ⟨g,0,none⟩ cap l Tryz.underlying26 Tryz.underlying5 Tryz.underlying9 ?_;intro j hj;rw [Nm.addr_add,Nat.zero_add];exact(h j _ (List.getElem?_eq_getElem hj)).1
set_option maxRecDepth 100000 in
set_option maxHeartbeats 1600000 in
theorem foldNames_any(d:ByteArray)(v:Value)(sp:List (Nat×Nat))(w:World)(hrow:CRow w v sp.length 2 (spanCells sp))(hsp:∀ s∈sp,s.1<=s.2∧s.2<=d.size)(hd:d.size<=1000000000)(hl:sp.length<=1000000):
 Calls Tryz.prog 167 #[.string d,v] w fun e w'=>e=.returned (.string ⟨(Dt.lowAll sp d.data.toList).toArray⟩)∧Below w.heap.size w w':=by
 obtain⟨cap,W,hcap,hmx,hrun,hbr,hbel,hgW⟩:=new_bytes2 d w;obtain⟨_,a,capv,rfl,hcapv,hmxv,hc⟩:=hrow;have hmx':=hmx (by unfold maxLen;omega);unfold maxLen at hmx';have hdl:d.data.toList.length=d.size:=by simp
 have hll:∀ k,(Dt.lowAll (sp.take k) d.data.toList).length=d.size:=by
  intro k;rw [low_all_len,hdl];intro s hs;rw [hdl];exact hsp s (List.mem_of_mem_take hs)
 clear hmx;go_enter Tryz.func167,Tryz.ntmps167;go_wp2
 go_loopw [13] (fun i wr=>∃ k:Nat,k<=sp.length∧i=.int .i64 k∧BRow wr w.heap.size (Dt.lowAll (sp.take k) d.data.toList)∧w.heap.size<wr.heap.size∧Below w.heap.size w wr)
  (fun i _=>sp.length-(intOf i).toNat)
 case atStart=>
  exact⟨0,Nat.zero_le _,rfl,by simpa [Dt.lowAll] using hbr,hgW,hbel⟩
 case round=>
  obtain⟨k,hk,rfl,hbk,hgz,hbelk⟩:=hrel;clear hrun hbr hbel
  by_cases hlt:k<sp.length
  ·obtain⟨x,hx⟩:∃ x,sp[k]? =some x:=⟨_,List.getElem?_eq_getElem hlt⟩;obtain⟨s1,s2⟩:=span_cellsN hx;obtain⟨hx1,hx2⟩:=hsp x (List.mem_of_getElem? hx);have HST:=Nm.hide (low_all_step hx d.data.toList);have hlk:=hll k;generalize Dt.lowAll (sp.take k) d.data.toList=l at*;obtain⟨b,off,rfl,hcell⟩:=hc (by omega);have put:∀ {B O:Nat} {z:Value},w.cell? ⟨B,O,none⟩=some z->wr.cell? ⟨B,O,none⟩=some z:=fun h=>(hbelk.cell (World.block_lt_of_cell? w _ h)).trans h
   have c1:=put (hcell _ _ s1);have c2:=put (hcell _ _ s2);rw [<- Nat.add_assoc] at c2;clear hc hcell s1 s2 put hx;obtain⟨wo,hwo⟩:∃ wo,wo=wr:=⟨wr,rfl⟩;subst hwo;have hB0:=hbk.alloc hgz (.cells #[.int .i64 (x.1:Int),.int .i64 (x.2:Int)] 236);have hW0:Below w.heap.size w (wo.alloc (.cells #[.int .i64 (x.1:Int),.int .i64 (x.2:Int)] 236)):=hbelk.alloc (by omega) _;have hC0:(wo.alloc (.cells #[.int .i64 (x.1:Int),.int .i64 (x.2:Int)] 236)).cell? ⟨wo.heap.size,1,none⟩=some (.int .i64 (x.2:Int)):=by rw [World.cell?_alloc_new];rfl
   have hz0:wo.heap.size<(wo.alloc (.cells #[.int .i64 (x.1:Int),.int .i64 (x.2:Int)] 236)).heap.size:=by simp
   go_wp2
   go_loopw [8] (fun v wq=>∃ i:Nat,x.1<=i∧i<=x.2∧v=.int .i64 i∧BRow wq w.heap.size (Dt.lowIn (x.1,i) l)∧wq.cell? ⟨wo.heap.size,1,none⟩=some (.int .i64 (x.2:Int))∧wo.heap.size<wq.heap.size∧Below w.heap.size w wq)
    (fun v _=>x.2-(intOf v).toNat)
   case atStart=>exact⟨x.1,Nat.le_refl _,hx1,rfl,by rw [low_in_self];exact hB0,hC0,hz0,hW0⟩
   case round=>
    obtain⟨i,hi1,hi2,rfl,hbq,hcq,hzq,hbelq⟩:=hrel;clear hB0 hW0 hC0 hz0 c1 c2 hbk
    by_cases hil:i<x.2
    ·have hil':(i:Int)<(x.2:Int):=by omega
     have hid:i<d.size:=by omega
     have hid':(i:Int)<(d.size:Int):=by omega
     obtain⟨c,hlc⟩:∃ c,l[i]? =some c:=⟨_,List.getElem?_eq_getElem (by omega)⟩;have hgi:(Dt.lowIn (x.1,i) l)[i]? =some c:=(low_in_get x.1 i l hi1 (by omega)).trans hlc;obtain⟨hc1,hc2⟩:=hbq i c hgi;have hbs:=hbq.set (k:=i) (d:=Nm.low c) (by rw [low_in_len _ _ _ hi1 (by omega)];omega);rw [low_in_set _ _ _ _ hi1 hlc] at hbs;have HBS:=Nm.hide hbs
     have HC:Hid ((wr.setCell ⟨w.heap.size,i,none⟩ (.int .u8 (Nm.low c).toNat)).cell? ⟨wo.heap.size,1,none⟩=some (.int .i64 (x.2:Int))):=by
      show _=_
      rw [World.cell?_setCell_other wr ⟨w.heap.size,i,none⟩ ⟨wo.heap.size,1,none⟩ _ (by intro h;have:=congrArg Addr.block h;simp at this;omega)];exact hcq
     have HW:Hid (Below w.heap.size w (wr.setCell ⟨w.heap.size,i,none⟩ (.int .u8 (Nm.low c).toNat))):=hbelq.setCell (Nat.le_refl _) _;have HZ:Hid (wo.heap.size<(wr.setCell ⟨w.heap.size,i,none⟩ (.int .u8 (Nm.low c).toNat)).heap.size):=by show _<_;simpa using hzq
     clear hbs hgi hbq hlc;go_wp2_with (go_at_call 157;refine(foldByte_any _ _).mono ?_;rintro e w3 ⟨rfl,hw⟩;obtain rfl:wr=w3:=hw.symm;clear hw)
     go_roundw
     case rel=>exact⟨i+1,by omega,by omega,by go_num,HBS.out,HC.out,HZ.out,HW.out⟩
     case measure=>simp [intOf];omega
    ·have hil':(x.2:Int)<=(i:Int):=by omega
     obtain rfl:i=x.2:=by omega
     rw [show((x.1,x.2):Nat×Nat)=x from rfl,<- HST.out] at hbq;have HBQ:=Nm.hide hbq;have hgq:w.heap.size<wr.heap.size:=by omega
     clear hbq hil;go_wp2;go_roundw
     case rel=>exact⟨k+1,by omega,by go_num,HBQ.out,hgq,hbelq⟩
     case measure=>simp [intOf];omega
  ·have hlt':(sp.length:Int)<=(k:Int):=by omega
   rw [List.take_of_length_le (by omega)] at hbk;have hl0:=hll sp.length;rw [List.take_of_length_le (by omega)] at hl0;obtain⟨R,HR,hstr⟩:∃ R,Hid (R=(⟨(Dt.lowAll sp d.data.toList).toArray⟩:ByteArray))∧(convert 26 9 (.slice (some ⟨w.heap.size,0,none⟩) d.size cap)).run Tryz.prog wr=.ok (.string R) wr:=⟨_,rfl,hbk.str (cap:=cap) hl0⟩;clear hbk hc hl0;go_wp2;go_ret;rw [<- HR.out];exact⟨rfl,hbelk⟩
end Go.Proofs.YtcihkbojmbfmmaaGreatDoor
namespace Go.Proofs.YtcihkbojmbfmmaaGreatDoor
open Go.RowKit
set_option maxRecDepth 100000 in
set_option maxHeartbeats 800000 in
theorem l02Alnum_any(c:UInt8)(w:World):
 Calls Tryz.prog 104 #[.int .u8 c.toNat] w fun e w'=>e=.returned (.bool (Dt.alnumB c))∧w'=w:=by
 have key:∀ b,Dt.alnumB c=b->Hid (Dt.alnumB c=b):=fun _ h=>h
 by_cases h1:48<=c.toNat
 ·by_cases h2:c.toNat<=57
  ·have HA:=key true (by simp [Dt.alnumB,h1,h2]);have d1:(48:Int)<=(c.toNat:Int):=by omega
   have d2:(c.toNat:Int)<=57:=by omega
   go_enter Tryz.func104,Tryz.ntmps104;go_wp2;go_ret;rw [HA.out];exact⟨rfl,rfl⟩
  ·by_cases h3:97<=c.toNat
   ·by_cases h4:c.toNat<=122
    ·have HA:=key true (by simp [Dt.alnumB,h1,h2,h3,h4]);have d1:(48:Int)<=(c.toNat:Int):=by omega
     have d2:(57:Int)<(c.toNat:Int):=by omega
     have e2:decide ((c.toNat:Int)<=57)=false:=by simp;omega
     have d3:(97:Int)<=(c.toNat:Int):=by omega
     have d4:(c.toNat:Int)<=122:=by omega
     go_enter Tryz.func104,Tryz.ntmps104;go_wp2;go_ret;rw [HA.out];exact⟨rfl,rfl⟩
    ·have HA:=key false (by simp [Dt.alnumB];omega);have d1:(48:Int)<=(c.toNat:Int):=by omega
     have d2:(57:Int)<(c.toNat:Int):=by omega
     have e2:decide ((c.toNat:Int)<=57)=false:=by simp;omega
     have d3:(97:Int)<=(c.toNat:Int):=by omega
     have d4:(122:Int)<(c.toNat:Int):=by omega
     have e4:decide ((c.toNat:Int)<=122)=false:=by simp;omega
     have d5:(65:Int)<=(c.toNat:Int):=by omega
     have d6:(90:Int)<(c.toNat:Int):=by omega
     have e6:decide ((c.toNat:Int)<=90)=false:=by simp;omega
     go_enter Tryz.func104,Tryz.ntmps104;go_wp2;go_ret;rw [HA.out];exact⟨rfl,rfl⟩
   ·by_cases h5:65<=c.toNat∧c.toNat<=90
    ·have HA:=key true (by simp [Dt.alnumB];omega);have d1:(48:Int)<=(c.toNat:Int):=by omega
     have d2:(57:Int)<(c.toNat:Int):=by omega
     have e2:decide ((c.toNat:Int)<=57)=false:=by simp;omega
     have d3:(c.toNat:Int)<97:=by omega
     have d5:(65:Int)<=(c.toNat:Int):=by omega
     have d6:(c.toNat:Int)<=90:=by omega
     go_enter Tryz.func104,Tryz.ntmps104;go_wp2;go_ret;rw [HA.out];exact⟨rfl,rfl⟩
    ·have HA:=key false (by simp [Dt.alnumB];omega);have d1:(48:Int)<=(c.toNat:Int):=by omega
     have d2:(57:Int)<(c.toNat:Int):=by omega
     have e2:decide ((c.toNat:Int)<=57)=false:=by simp;omega
     have d3:(c.toNat:Int)<97:=by omega
     by_cases h6:65<=c.toNat
     ·have d5:(65:Int)<=(c.toNat:Int):=by omega
      have d6:(90:Int)<(c.toNat:Int):=by omega
      have e6:decide ((c.toNat:Int)<=90)=false:=by simp;omega
      go_enter Tryz.func104,Tryz.ntmps104;go_wp2;go_ret;rw [HA.out];exact⟨rfl,rfl⟩
     ·have d5:(c.toNat:Int)<65:=by omega
      go_enter Tryz.func104,Tryz.ntmps104;go_wp2;go_ret;rw [HA.out];exact⟨rfl,rfl⟩
 ·have HA:=key false (by simp [Dt.alnumB];omega);have d1:(c.toNat:Int)<48:=by omega
  have d3:(c.toNat:Int)<97:=by omega
  have d5:(c.toNat:Int)<65:=by omega
  go_enter Tryz.func104,Tryz.ntmps104;go_wp2;go_ret;rw [HA.out];exact⟨rfl,rfl⟩
set_option maxRecDepth 100000 in
set_option maxHeartbeats 800000 in
theorem l02Form_any(t:Int)(w:World):
 Calls Tryz.prog 77 #[.int .i64 t] w fun e w'=>e=.returned (.string (Dt.formS t))∧w'=w:=by
 by_cases h:t=1∨t=2∨t=5∨t=6∨t=12∨t=13∨t=15∨t=16∨t=28∨t=33∨t=35∨t=39∨t=47∨t=257
 ·rcases h with rfl|rfl|rfl|rfl|rfl|rfl|rfl|rfl|rfl|rfl|rfl|rfl|rfl|rfl
  all_goals
   go_enter Tryz.func77,Tryz.ntmps77;go_wp2;go_ret;exact⟨rfl,rfl⟩
 ·have HA:Hid (Dt.formS t=⟨#[42]⟩):=by
   show _=_
   unfold Dt.formS;simp only [show ¬t=1 by omega,show ¬(t=2∨t=5∨t=12∨t=39) by omega,show ¬t=6 by omega,show ¬t=13 by omega,show ¬t=15 by omega,show ¬t=16 by omega,show ¬t=28 by omega,show ¬t=33 by omega,show ¬t=35 by omega,show ¬t=47 by omega,show ¬t=257 by omega,if_false]
  have b1:(t==1)=false:=by rw [beq_eq_false_iff_ne];omega
  have b2:(t==2)=false:=by rw [beq_eq_false_iff_ne];omega
  have b3:(t==5)=false:=by rw [beq_eq_false_iff_ne];omega
  have b4:(t==6)=false:=by rw [beq_eq_false_iff_ne];omega
  have b5:(t==12)=false:=by rw [beq_eq_false_iff_ne];omega
  have b6:(t==13)=false:=by rw [beq_eq_false_iff_ne];omega
  have b7:(t==15)=false:=by rw [beq_eq_false_iff_ne];omega
  have b8:(t==16)=false:=by rw [beq_eq_false_iff_ne];omega
  have b9:(t==28)=false:=by rw [beq_eq_false_iff_ne];omega
  have b10:(t==33)=false:=by rw [beq_eq_false_iff_ne];omega
  have b11:(t==35)=false:=by rw [beq_eq_false_iff_ne];omega
  have b12:(t==39)=false:=by rw [beq_eq_false_iff_ne];omega
  have b13:(t==47)=false:=by rw [beq_eq_false_iff_ne];omega
  have b14:(t==257)=false:=by rw [beq_eq_false_iff_ne];omega
  clear h;go_enter Tryz.func77,Tryz.ntmps77;go_wp2;go_ret;rw [HA.out];exact⟨rfl,rfl⟩
theorem txt_short{s:ByteArray}(h:0<s.size)(h1:s.size<s[0].toNat+1):Dt.txtS s=ByteArray.empty:=by
 rw [Dt.txtS,dif_pos h,if_neg (by omega)]
theorem txt_good{s:ByteArray}(h:0<s.size)(h1:s[0].toNat+1<=s.size):Dt.txtS s=s.extract 0 (s[0].toNat+1):=by
 rw [Dt.txtS,dif_pos h,if_pos h1]
theorem txt_none{s:ByteArray}(h:s.size=0):Dt.txtS s=ByteArray.empty:=by
 rw [Dt.txtS,dif_neg (by omega)]
set_option maxRecDepth 100000 in
set_option maxHeartbeats 800000 in
theorem l02Text_any(s:ByteArray)(w:World)(hs:s.size<=maxLen):
 Calls Tryz.prog 103 #[.string s] w fun e w'=>e=.returned (.string (Dt.txtS s))∧w'=w:=by
 unfold maxLen at hs
 by_cases h0:s.size=0
 ·have HA:=Nm.hide (txt_none h0)
  have he:s=ByteArray.empty:=by
   apply ByteArray.ext;exact Array.eq_empty_of_size_eq_zero h0
  subst he;go_enter Tryz.func103,Tryz.ntmps103;go_wp2;go_ret;rw [HA.out];exact⟨rfl,rfl⟩
 ·have hp:0<s.size:=by omega
  have hp':(0:Int)<(s.size:Int):=by omega
  have he:(s.toList==[])=false:=by
   rw [beq_eq_false_iff_ne,ByteArray.toList_eq];intro e;have h9:=congrArg List.length e;rw [Array.length_toList] at h9;exact h0 h9
  have hc:(s[0].toNat:Int)<256:=by have:=s[0].toNat_lt;omega
  by_cases h1:s.size<s[0].toNat+1
  ·have HA:=Nm.hide (txt_short hp h1);have h1':(s.size:Int)<(s[0].toNat:Int)+1:=by omega
   go_enter Tryz.func103,Tryz.ntmps103;go_wp2;go_ret;rw [HA.out];exact⟨rfl,rfl⟩
  ·have HA:=Nm.hide (txt_good hp (by omega));have h1':(s[0].toNat:Int)+1<=(s.size:Int):=by omega
   go_enter Tryz.func103,Tryz.ntmps103;go_wp2;go_ret;rw [HA.out];exact⟨rfl,rfl⟩
end Go.Proofs.YtcihkbojmbfmmaaGreatDoor
namespace Go.Proofs.YtcihkbojmbfmmaaGreatDoor
open Go.RowKit
theorem name_zero{s:ByteArray}{i:Nat}(h:i<s.size)(h2:i<255)(h0:s[i].toNat=0):Dt.nameF 256 s i=s.extract 0 (i+1):=by
 rw [Dt.nameF,dif_pos ⟨h,h2⟩,if_pos h0]
theorem name_big{s:ByteArray}{i:Nat}(h:i<s.size)(h2:i<255)(h0:63<s[i].toNat):Dt.nameF 256 s i=ByteArray.empty:=by
 rw [Dt.nameF,dif_pos ⟨h,h2⟩,if_neg (by omega),if_pos h0]
theorem name_step{s:ByteArray}{i:Nat}(h:i<s.size)(h2:i<255)(h0:s[i].toNat≠0)(h1:s[i].toNat<=63):Dt.nameF 256 s i=Dt.nameF 256 s (i+s[i].toNat+1):=by
 rw [Dt.nameF,dif_pos ⟨h,h2⟩,if_neg h0,if_neg (by omega)];exact Dt.nameF_enough _ _ _ _ (by omega) (by omega)
theorem name_end{s:ByteArray}{i:Nat}(h:¬(i<s.size∧i<255)):Dt.nameF 256 s i=ByteArray.empty:=by
 rw [Dt.nameF,dif_neg h]
set_option maxRecDepth 100000 in
set_option maxHeartbeats 800000 in
theorem l02NameAt_any(s:ByteArray)(w:World):
 Calls Tryz.prog 102 #[.string s] w fun e w'=>e=.returned (.string (Dt.nameAtS s))∧w'=w:=by
 have H0:Dt.nameAtS s=Dt.nameF 256 s 0:=rfl;go_enter Tryz.func102,Tryz.ntmps102;go_wp2
 go_loop [3] (fun v=>∃ i:Nat,i<=400∧v=.int .i64 i∧Dt.nameAtS s=Dt.nameF 256 s i) (fun v=>400-(intOf v).toNat)
 case atStart=>exact⟨0,by omega,rfl,H0⟩
 case round=>
  obtain⟨i,hi,rfl,hn⟩:=hrel;clear H0
  by_cases h1:i<s.size
  ·have h1':(i:Int)<(s.size:Int):=by omega
   by_cases h2:i<255
   ·have h2':(i:Int)<255:=by omega
    have hc:(s[i].toNat:Int)<256:=by have:=s[i].toNat_lt;omega
    by_cases h3:s[i].toNat=0
    ·have HN:=Nm.hide (hn.trans (name_zero h1 h2 h3));have h3':((s[i].toNat:Int)==0)=true:=by rw [beq_iff_eq];omega
     clear hn;go_wp2;go_ret;rw [HN.out];exact⟨rfl,rfl⟩
    ·have h3':((s[i].toNat:Int)==0)=false:=by rw [beq_eq_false_iff_ne];omega
     by_cases h4:63<s[i].toNat
     ·have HN:=Nm.hide (hn.trans (name_big h1 h2 h4));have h4':(63:Int)<(s[i].toNat:Int):=by omega
      clear hn;go_wp2;go_ret;rw [HN.out];exact⟨rfl,rfl⟩
     ·have HN:=Nm.hide (hn.trans (name_step h1 h2 h3 (by omega)));have h4':(s[i].toNat:Int)<=63:=by omega
      clear hn;go_wp2
      go_round
      case rel=>exact⟨i+s[i].toNat+1,by omega,by go_num,HN.out⟩
      case measure=>simp [intOf];omega
   ·have HN:=Nm.hide (hn.trans (name_end (by omega)));have h2':(255:Int)<=(i:Int):=by omega
    clear hn;go_wp2;go_ret;rw [HN.out];exact⟨rfl,rfl⟩
  ·have HN:=Nm.hide (hn.trans (name_end (by omega)));have h1':(s.size:Int)<=(i:Int):=by omega
   clear hn;go_wp2;go_ret;rw [HN.out];exact⟨rfl,rfl⟩
end Go.Proofs.YtcihkbojmbfmmaaGreatDoor
