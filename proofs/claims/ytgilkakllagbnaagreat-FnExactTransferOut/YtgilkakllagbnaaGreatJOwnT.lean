import Derived.Test.YtgilkakllagbnaaGreatJMath
import Derived.Test.YtgilkakllagbnaaGreatRows
import Derived.WalkSpells
import Derived.WalkLawsBesides
namespace Go.Proofs.YtgilkakllagbnaaGreat
open Go.RowKit
set_option linter.unusedVariables false
theorem own_sl{w:World}{B e s n:Nat}{v:Value}{xs:List Value}(h:w.ownsRow B e s v n xs):∃ a cap,v=.slice a n cap:=by
 rcases h.2 with⟨rfl,rfl⟩|⟨g,cap,cur,rfl,_⟩
 ·exact⟨_,_,rfl⟩
 ·exact⟨_,_,rfl⟩
theorem own_far{W:World}{B e s n g i:Nat}{v y:Value}{xs:List Value}(h:W.ownsRow B e s v n xs)(hg:v.ownBlock≠some g):(W.setCell ⟨g,i,none⟩ y).ownsRow B e s v n xs:=by
 refine⟨h.1,?_⟩
 rcases h.2 with h0|⟨g',cap,cur,rfl,hb,hh,r⟩
 ·exact .inl h0
 ·refine .inr ⟨g',cap,cur,rfl,hb,?_,r⟩;rw [heap_setCell_other W ⟨g,i,none⟩ g' _ (fun e=>hg (by simp [Value.ownBlock,e]))];exact hh
theorem own_far_lt{W:World}{B e s n g i:Nat}{v y:Value}{xs:List Value}(h:W.ownsRow B e s v n xs)(hg:g<B):(W.setCell ⟨g,i,none⟩ y).ownsRow B e s v n xs:=by
 refine own_far h (fun e=>?_);have:=(h.lt g e).1;omega
theorem own_ne{W:World}{B e s n B' e' s' m g cap:Nat}{v:Value}{xs ys:List Value}(h:W.ownsRow B e s v n xs)(h':W.ownsRow B' e' s' (.slice (some ⟨g,0,none⟩) m cap) m ys)(hne:e≠e'):v.ownBlock≠some g:=by
 intro he
 rcases h'.2 with⟨h0,_⟩|⟨g',cap',cur',e1,_,hh',_⟩
 ·cases h0
 ·cases e1
  rcases h.2 with⟨rfl,_⟩|⟨g2,cap2,cur2,rfl,_,hh,_⟩
  ·cases he
  ·simp only [Value.ownBlock,Option.some.injEq] at he;subst he;rw [hh] at hh';simp only [Option.some.injEq,Obj.cells.injEq] at hh';exact hne hh'.2.1
end Go.Proofs.YtgilkakllagbnaaGreat
namespace Go.Proofs.YtgilkakllagbnaaGreat.Dt
open Go.RowKit
def txsF:Nat->ByteArray->Nat
 |0,_=>0
 |f+1,d=>if(txtS d).size=0 then 0 else(txtS d).size+txsF f (d.extract (txtS d).size d.size)
theorem txt_le(d:ByteArray):(txtS d).size<=d.size:=by
 unfold txtS;split
 ·split
  ·simp;omega
  ·simp
 ·simp
theorem txsF_enough:∀ (f g:Nat) (d:ByteArray),d.size<f->d.size<g->txsF f d=txsF g d:=by
 intro f
 induction f with
 |zero=>intro g d hf;omega
 |succ f ih=>
  intro g d hf hg
  cases g with
  |zero=>omega
  |succ g=>
   rw [txsF,txsF]
   by_cases h:(txtS d).size=0
   ·rw [if_pos h,if_pos h]
   ·have:=txt_le d;rw [if_neg h,if_neg h,ih g _ (by simp;omega) (by simp;omega)]
def txsS(d:ByteArray):Nat:=txsF (d.size+1) d
theorem txs_none{d:ByteArray}(h:(txtS d).size=0):txsS d=0:=by rw [txsS,txsF,if_pos h]
theorem txs_step{d:ByteArray}(h:(txtS d).size≠0):txsS d=(txtS d).size+txsS (d.extract (txtS d).size d.size):=by
 have:=txt_le d;rw [txsS,txsF,if_neg h,txsF_enough _ ((d.extract (txtS d).size d.size).size+1) _ (by simp;omega) (by simp)];rfl
theorem txsF_le:∀ (f:Nat) (d:ByteArray),txsF f d<=d.size:=by
 intro f
 induction f with
 |zero=>intro d;simp [txsF]
 |succ f ih=>
  intro d;rw [txsF];split
  ·omega
  ·have:=ih (d.extract (txtS d).size d.size);have h2:=txt_le d;simp at this;omega
theorem txs_le(d:ByteArray):txsS d<=d.size:=txsF_le _ d
def tagB(d:ByteArray):Bool:=decide (2<=(txtS d).size)&&decide ((txtS d).size<=16)&&((txtS d).data.toList.drop 1).all alnumB
abbrev Pc:Type:=Option (Option (Option (Option (Option (Option (Option (Option Nat)))))))
abbrev Pc.nm:Pc:=none
abbrev Pc.tx:Pc:=some none
abbrev Pc.txs:Pc:=some (some none)
abbrev Pc.txe:Pc:=some (some (some none))
abbrev Pc.tag:Pc:=some (some (some (some none)))
abbrev Pc.tagr:Pc:=some (some (some (some (some none))))
abbrev Pc.mp:Pc:=some (some (some (some (some (some none)))))
abbrev Pc.rs:Pc:=some (some (some (some (some (some (some none))))))
abbrev Pc.bs(n:Nat):Pc:=some (some (some (some (some (some (some (some n)))))))
theorem Pc.elim{P:Pc->Prop}(p:Pc)(nm:P Pc.nm)(bs:∀ n,P (Pc.bs n))(tx:P Pc.tx)(txs:P Pc.txs)(txe:P Pc.txe)(tag:P Pc.tag)(tagr:P Pc.tagr)(mp:P Pc.mp)(rs:P Pc.rs):P p:=by
 rcases p with _|_|_|_|_|_|_|_|n
 ·exact nm
 ·exact tx
 ·exact txs
 ·exact txe
 ·exact tag
 ·exact tagr
 ·exact mp
 ·exact rs
 ·exact bs n
def Pc.isN:Pc->Bool
 |none=>true
 |some _=>false
def sz:Pc->ByteArray->Option Nat
 |none,d=>if(nameAtS d).size=0 then none else some (nameAtS d).size
 |some none,d=>if(txtS d).size=0 then none else some (txtS d).size
 |some (some none),d=>if txsS d=0 then none else some (txsS d)
 |some (some (some none)),d=>if txsS d=0∨txsS d≠d.size then none else some d.size
 |some (some (some (some none))),d=>if tagB d then some (txtS d).size else none
 |some (some (some (some (some none)))),d=>if tagB d then some d.size else none
 |some (some (some (some (some (some none))))),d=>if mapS d then some d.size else none
 |some (some (some (some (some (some (some none)))))),d=>some d.size
 |some (some (some (some (some (some (some (some n))))))),d=>if n<=d.size then some n else none
theorem nameF_le:∀ (f:Nat) (s:ByteArray) (i:Nat),(nameF f s i).size<=s.size:=by
 intro f
 induction f with
 |zero=>intro s i;simp [nameF]
 |succ f ih=>
  intro s i;rw [nameF];split
  ·split
   ·simp;omega
   ·split
    ·simp
    ·exact ih _ _
  ·simp
theorem name_le(s:ByteArray):(nameAtS s).size<=s.size:=nameF_le _ _ _
theorem sz_le{p:Pc}{d:ByteArray}{n:Nat}(h:sz p d=some n):n<=d.size:=by
 have h1:=name_le d;have h2:=txt_le d;have h3:=txs_le d;cases p using Pc.elim<;>simp only [sz] at h
 all_goals first
  |(split at h
    ·simp at h
    ·simp at h;omega)
  |(split at h
    ·simp at h;omega
    ·simp at h)
  |(simp at h;omega)
def parts:List Pc->ByteArray->Option (List ByteArray)
 |[],d=>if d.size=0 then some [] else none
 |p::r,d=>
  match sz p d with
  |none=>none
  |some n=>(parts r (d.extract n d.size)).map (fun l=>d.extract 0 n::l)
def spans:List Pc->Nat->ByteArray->Option (List (Nat×Nat))
 |[],_,d=>if d.size=0 then some [] else none
 |p::r,a,d=>
  match sz p d with
  |none=>none
  |some n=>(spans r (a+n) (d.extract n d.size)).map (fun l=>if p.isN then(a,a+n)::l else l)
def spansOf:List Pc->List ByteArray->Nat->List (Nat×Nat)
 |p::r,x::xs,a=>if p.isN then(a,a+x.size)::spansOf r xs (a+x.size) else spansOf r xs (a+x.size)
 |_,_,_=>[]
theorem spans_of_parts:∀ (fs:List Pc) (d:ByteArray) (a:Nat),spans fs a d=(parts fs d).map (fun ps=>spansOf fs ps a):=by
 intro fs
 induction fs with
 |nil=>intro d a;rw [spans,parts];split<;>simp [spansOf]
 |cons p r ih=>
  intro d a;rw [spans,parts]
  cases h:sz p d with
  |none=>simp
  |some n=>
   have hn:=sz_le h;simp only [ih]
   cases parts r (d.extract n d.size) with
   |none=>simp
   |some l=>
    have:(d.extract 0 n).size=n:=by simp;omega
    simp [spansOf,this]
theorem spans_bs(m n:Nat)(r:List Pc)(a:Nat)(d:ByteArray):spans (.bs m::.bs n::r) a d=spans (.bs (m+n)::r) a d:=by
 rw [spans,spans];simp only [sz]
 by_cases h:m<=d.size
 ·rw [if_pos h];simp only [spans,sz];have e:(d.extract m d.size).size=d.size-m:=by simp
  rw [e]
  by_cases h2:m+n<=d.size
  ·rw [if_pos (by omega),if_pos h2]
   have e2:(d.extract m d.size).extract n (d.size-m)=d.extract (m+n) d.size:=by
    rw [ByteArray.extract_extract];congr 1;omega
   simp only [e2,Pc.isN,Nat.add_assoc];simp
  ·rw [if_neg (by omega),if_neg h2];simp
 ·rw [if_neg h,if_neg (by omega)]
theorem spans_tag(a:Nat)(d:ByteArray):spans [.tagr] a d=spans [.tag,.rs] a d:=by
 have h2:=txt_le d;simp only [spans,sz]
 by_cases h:tagB d
 ·simp [h,Pc.isN]
 ·simp [h]
theorem spans_txs(a:Nat)(d:ByteArray):spans [.txs] a d=spans [.txe] a d:=by
 have h3:=txs_le d;simp only [spans,sz]
 by_cases h:txsS d=0
 ·simp [h]
 ·by_cases h2:txsS d=d.size
  ·have h4:d.size≠0:=by omega
   simp [h2,h4,Pc.isN]
  ·simp [h,h2]
   omega
def letP(c:UInt8):Pc:=
 if c=110 then .nm else if c=98 then .bs 1 else if c=116 then .tx else if c=115 then .txs else if c=99 then .tagr else if c=109 then .mp else .rs
def specP(t:Int):List Pc:=(formS t).data.toList.map letP
def implP(t:Int):List Pc:=
 if t=1 then [.bs 4]
 else if t=28 then [.bs 16]
 else if t=2∨t=5∨t=12∨t=39 then [.nm]
 else if t=15 then [.bs 2,.nm]
 else if t=6 then [.nm,.nm,.bs 20]
 else if t=33 then [.bs 6,.nm]
 else if t=16 then [.txe]
 else if t=13 then [.tx,.tx]
 else if t=35 then [.bs 4,.tx,.tx,.tx,.nm]
 else if t=257 then [.bs 1,.tag,.rs]
 else if t=47 then [.nm,.mp]
 else [.rs]
theorem spans_cons{p:Pc}{r r':List Pc}(h:∀ a d,spans r a d=spans r' a d)(a:Nat)(d:ByteArray):spans (p::r) a d=spans (p::r') a d:=by
 rw [spans,spans]
 cases sz p d with
 |none=>rfl
 |some n=>simp only [h]
theorem forms_agree(t:Int)(a:Nat)(d:ByteArray):spans (specP t) a d=spans (implP t) a d:=by
 unfold specP implP formS
 by_cases h1:t=1
 ·subst h1;simp [letP,spans_bs]
 by_cases h2:t=2∨t=5∨t=12∨t=39
 ·have:t≠28:=by omega
  simp [h1,h2,this,letP]
 by_cases h3:t=6
 ·subst h3;simp [letP]
  refine spans_cons (fun a d=>?_) a d;refine spans_cons (fun a d=>?_) a d;simp [spans_bs]
 by_cases h4:t=13
 ·subst h4;simp [letP]
 by_cases h5:t=15
 ·subst h5;simp [letP,spans_bs]
 by_cases h6:t=16
 ·subst h6;simp [letP,spans_txs]
 by_cases h7:t=28
 ·subst h7;simp [letP,spans_bs]
 by_cases h8:t=33
 ·subst h8;simp [letP,spans_bs]
 by_cases h9:t=35
 ·subst h9;simp [letP,spans_bs]
 by_cases h10:t=47
 ·subst h10;simp [letP]
 by_cases h11:t=257
 ·subst h11;simp [letP]
  exact spans_cons (fun a d=>spans_tag a d) a d
 simp [h1,h2,h3,h4,h5,h6,h7,h8,h9,h10,h11,letP]
end Go.Proofs.YtgilkakllagbnaaGreat.Dt
namespace Go.Proofs.YtgilkakllagbnaaGreat.Dt
open Go.RowKit
set_option linter.unusedVariables false
theorem ext_get{s:ByteArray}{i e:Nat}(h:i<e)(he:e<=s.size):(s.extract i e)[0]'(by simp;omega)=s[i]:=by
 rw [ByteArray.getElem_extract];simp
theorem ext_ext{s:ByteArray}{i e n:Nat}(h:i+n<=e)(he:e<=s.size):(s.extract i e).extract n (s.extract i e).size=s.extract (i+n) e:=by
 rw [ByteArray.extract_extract];congr 1;simp
 omega
theorem nameF_name:∀ (f:Nat) (s:ByteArray) (i:Nat),(nameF f s i).size≠0->
 ∃ e,i<e∧e<=255∧e<=s.size∧nameF f s i=s.extract 0 e∧∀ g,e-i<g->(Nm.splitF g (s.extract i e)).isSome=true:=by
 intro f
 induction f with
 |zero=>intro s i h;simp [nameF] at h
 |succ f ih=>
  intro s i h;rw [nameF] at h ⊢
  by_cases h1:i<s.size∧i<255
  ·rw [dif_pos h1] at h ⊢
   by_cases h2:s[i].toNat=0
   ·rw [if_pos h2];refine⟨i+1,by omega,by omega,by omega,rfl,?_⟩;intro g hg;obtain⟨g,rfl⟩:∃ k,g=k+1:=⟨g-1,by omega⟩;rw [Nm.splitF_end g _ (by simp;omega) (by rw [ext_get (by omega) (by omega)];exact h2) (by simp;omega)];rfl
   ·rw [if_neg h2] at h ⊢
    by_cases h3:63<s[i].toNat
    ·rw [if_pos h3] at h;simp at h
    ·rw [if_neg h3] at h ⊢;obtain⟨e,e1,e2,e3,e4,e5⟩:=ih s _ h;refine⟨e,by omega,e2,e3,e4,?_⟩;intro g hg;obtain⟨g,rfl⟩:∃ k,g=k+1:=⟨g-1,by omega⟩;have hp:0<(s.extract i e).size:=by simp;omega
     have h0:(s.extract i e)[0]=s[i]:=ext_get (by omega) e3;rw [Nm.splitF_step g _ hp (by rw [h0];exact h2) (by rw [h0];omega) (by rw [h0];simp;omega),h0,ext_ext (by omega) e3];have:=e5 g (by omega);rw [show i+(s[i].toNat+1)=i+s[i].toNat+1 by omega];simpa using this
  ·rw [dif_neg h1] at h;simp at h
theorem nameAt_name{s:ByteArray}(h:(nameAtS s).size≠0):(Nm.split (nameAtS s)).isSome=true:=by
 obtain⟨e,e1,e2,e3,e4,e5⟩:=nameF_name 256 s 0 h;have e6:nameAtS s=s.extract 0 e:=e4;rw [e6,Nm.split_short _ (by simp;omega)];exact e5 256 (by omega)
theorem ext_all(s:ByteArray):s.extract 0 s.size=s:=by simp
theorem splitF_nameF:∀ (g:Nat) (f:Nat) (s:ByteArray) (i:Nat),s.size<=255->255<f+i->i<=s.size->(Nm.splitF g (s.extract i s.size)).isSome=true->nameF f s i=s:=by
 intro g
 induction g with
 |zero=>intro f s i _ _ _ h;simp [Nm.splitF] at h
 |succ g ih=>
  intro f s i hs hf hi h
  by_cases hp:i<s.size
  ·obtain⟨f,rfl⟩:∃ k,f=k+1:=⟨f-1,by omega⟩;have hz:(s.extract i s.size).size=s.size-i:=by simp
   have hq:0<(s.extract i s.size).size:=by omega
   have h0:(s.extract i s.size)[0]=s[i]:=ext_get hp (Nat.le_refl _);rw [nameF,dif_pos ⟨hp,by omega⟩]
   by_cases h2:s[i].toNat=0
   ·rw [if_pos h2]
    by_cases h3:(s.extract i s.size).size=1
    ·rw [show i+1=s.size by omega];exact ext_all s
    ·rw [Nm.splitF_zero g _ hq (by rw [h0];exact h2) h3] at h;simp at h
   ·rw [if_neg h2]
    by_cases h3:63<s[i].toNat∨s.size-i<s[i].toNat+1
    ·rw [Nm.splitF_bad g _ hq (by rw [h0];exact h2) (by rw [h0,hz];exact h3)] at h;simp at h
    ·rw [if_neg (by omega)];rw [Nm.splitF_step g _ hq (by rw [h0];exact h2) (by rw [h0];omega) (by rw [h0,hz];omega),h0,ext_ext (by omega) (Nat.le_refl _)] at h;refine ih f s _ hs (by omega) (by omega) ?_;rw [show i+(s[i].toNat+1)=i+s[i].toNat+1 by omega] at h;simpa using h
  ·rw [Nm.splitF_empty _ _ (by simp;omega)] at h;simp at h
theorem name_iff(s:ByteArray):(Nm.split s).isSome=true↔(nameAtS s).size≠0∧(nameAtS s).size=s.size:=by
 constructor
 ·intro h
  by_cases hl:s.size<=255
  ·rw [Nm.split_short s hl] at h;have e:nameAtS s=s:=splitF_nameF 256 256 s 0 hl (by omega) (by omega) (by simpa using h);rw [e];refine⟨?_,rfl⟩;intro h0;rw [Nm.splitF_empty _ _ h0] at h;simp at h
  ·rw [Nm.split_long s (by omega)] at h;simp at h
 ·rintro⟨h0,h⟩
  obtain⟨e,e1,e2,e3,e4,e5⟩:=nameF_name 256 s 0 h0;have e6:nameAtS s=s.extract 0 e:=e4;have e7:e=s.size:=by rw [e6] at h;simp at h;omega
  have e8:nameAtS s=s:=by rw [e6,e7];exact ext_all s
  have:=nameAt_name h0
  rwa [e8] at this
def catL(ps:List ByteArray):List UInt8:=(ps.map (fun x=>x.data.toList)).flatten
def foldL:List Pc->List ByteArray->List UInt8
 |p::r,x::xs=>(if p.isN then Nm.smallL x.data.toList else x.data.toList)++foldL r xs
 |_,_=>[]
theorem ext_cat(d:ByteArray)(n:Nat)(h:n<=d.size):(d.extract 0 n).data.toList++(d.extract n d.size).data.toList=d.data.toList:=by
 have e1:(d.extract 0 n).data.toList=d.data.toList.take n:=by simp
 have e2:(d.extract n d.size).data.toList=d.data.toList.drop n:=by
  simp only [ByteArray.data_extract,Array.toList_extract];rw [List.extract_eq_take_drop,List.take_of_length_le (by simp)]
 rw [e1,e2,List.take_append_drop]
theorem parts_cat:∀ (fs:List Pc) (d:ByteArray) (ps:List ByteArray),parts fs d=some ps->fs.length=ps.length∧catL ps=d.data.toList∧
 ∀ (i:Nat) (p:Pc) (x:ByteArray),fs[i]? =some p->ps[i]? =some x->p.isN=true->(Nm.split x).isSome=true:=by
 intro fs
 induction fs with
 |nil=>
  intro d ps h;rw [parts] at h
  split at h
  ·rename_i h0;simp at h;subst h;refine⟨rfl,?_,?_⟩
   ·have:d.data.toList.length=0:=by simpa using h0
    rw [List.length_eq_zero_iff.1 this];rfl
   ·intro i p x h;simp at h
  ·simp at h
 |cons p r ih=>
  intro d ps h;rw [parts] at h
  cases hs:sz p d with
  |none=>rw [hs] at h;simp at h
  |some n=>
   rw [hs] at h;have hn:=sz_le hs
   cases hr:parts r (d.extract n d.size) with
   |none=>simp [hr] at h
   |some l=>
    simp [hr] at h
    obtain⟨i1,i2,i3⟩:=ih _ _ hr;subst h;refine⟨by simp [i1],?_,?_⟩
    ·have:catL (d.extract 0 n::l)=(d.extract 0 n).data.toList++catL l:=by simp [catL]
     rw [this,i2,ext_cat d n hn]
    ·intro i q x hq hx hN
     cases i with
     |zero=>
      simp at hq hx;subst hq;subst hx;cases p using Pc.elim<;>simp [Pc.isN] at hN
      simp only [sz] at hs
      split at hs
      ·simp at hs
      ·rename_i h0;simp at hs;obtain⟨e,e1,e2,e3,e4,e5⟩:=nameF_name 256 d 0 h0;have e6:nameAtS d=d.extract 0 e:=e4;have e7:e=n:=by rw [e6] at hs;simp at hs;omega
       rw [<- e7,<- e6]
       exact nameAt_name h0
     |succ i=>
      simp at hq hx;exact i3 i q x hq hx hN
def lowIn(s:Nat×Nat)(l:List UInt8):List UInt8:=l.take s.1++(Nm.smallL ((l.drop s.1).take (s.2-s.1))++l.drop s.2)
def lowAll(sp:List (Nat×Nat))(l:List UInt8):List UInt8:=sp.foldl (fun l s=>lowIn s l) l
theorem lowAll_parts:∀ (fs:List Pc) (ps:List ByteArray) (pre:List UInt8),fs.length=ps.length->lowAll (spansOf fs ps pre.length) (pre++catL ps)=pre++foldL fs ps:=by
 intro fs
 induction fs with
 |nil=>
  intro ps pre h;have:ps=[]:=List.length_eq_zero_iff.1 (by simpa using h.symm);subst this
  simp [spansOf,lowAll,foldL,catL]
 |cons p r ih=>
  intro ps pre h
  cases ps with
  |nil=>simp at h
  |cons x xs=>
   have hl:r.length=xs.length:=by simpa using h
   have hx:x.data.toList.length=x.size:=by simp
   have hc:catL (x::xs)=x.data.toList++catL xs:=by simp [catL]
   rw [spansOf,hc,foldL]
   cases hN:p.isN with
   |true=>
    simp only [if_true]
    have e1:lowIn (pre.length,pre.length+x.size) (pre++(x.data.toList++catL xs))=(pre++Nm.smallL x.data.toList)++catL xs:=by
     have k1:(pre++(x.data.toList++catL xs)).take pre.length=pre:=List.take_left' rfl;have k2:(pre++(x.data.toList++catL xs)).drop pre.length=x.data.toList++catL xs:=List.drop_left' rfl;have k3:(x.data.toList++catL xs).take x.size=x.data.toList:=List.take_left' hx
     have k4:(pre++(x.data.toList++catL xs)).drop (pre.length+x.size)=catL xs:=by
      rw [<- List.append_assoc];exact List.drop_left' (by rw [List.length_append,hx])
     simp only [lowIn];rw [k1,k2,Nat.add_sub_cancel_left,k3,k4,List.append_assoc]
    have e2:lowAll ((pre.length,pre.length+x.size)::spansOf r xs (pre.length+x.size)) (pre++(x.data.toList++catL xs))=lowAll (spansOf r xs (pre.length+x.size)) ((pre++Nm.smallL x.data.toList)++catL xs):=by
     rw [<- e1];rfl
    have e3:pre.length+x.size=(pre++Nm.smallL x.data.toList).length:=by simp [Nm.smallL]
    rw [e2,e3,ih xs _ hl]
    simp
   |false=>
    simp only [if_false,Bool.false_eq_true];have e3:pre.length+x.size=(pre++x.data.toList).length:=by simp
    rw [e3,<- List.append_assoc,ih xs _ hl];simp
def foldDS(t:Int)(d:ByteArray):ByteArray:=
 match spans (implP t) 0 d with
 |none=>ByteArray.empty
 |some sp=>⟨(lowAll sp d.data.toList).toArray⟩
theorem foldDS_some{t:Int}{d:ByteArray}{ps:List ByteArray}(h:parts (specP t) d=some ps):foldDS t d=⟨(foldL (specP t) ps).toArray⟩:=by
 obtain⟨h1,h2,h3⟩:=parts_cat _ _ _ h;rw [foldDS,<- forms_agree,spans_of_parts,h];have:=lowAll_parts (specP t) ps [] h1;simp only [List.length_nil,List.nil_append] at this;rw [h2] at this;simp only [Option.map_some,this]
end Go.Proofs.YtgilkakllagbnaaGreat.Dt
namespace Go.Proofs.YtgilkakllagbnaaGreat.Dt
open Go.RowKit
def PAt(fs:List Pc)(d0:ByteArray)(ps:List ByteArray)(r:List Pc)(d:ByteArray):Prop:=
 parts fs d0=(parts r d).map (fun t=>ps++t)
theorem pat_start(fs:List Pc)(d0:ByteArray):PAt fs d0 [] fs d0:=by simp [PAt]
theorem pat_end{fs:List Pc}{d0 d:ByteArray}{ps:List ByteArray}(h:PAt fs d0 ps [] d)(h0:d.size=0):parts fs d0=some ps:=by
 rw [h,parts,if_pos h0];simp
theorem pat_left{fs:List Pc}{d0 d:ByteArray}{ps:List ByteArray}(h:PAt fs d0 ps [] d)(h0:d.size≠0):parts fs d0=none:=by
 rw [h,parts,if_neg h0];rfl
theorem pat_none{fs r:List Pc}{p:Pc}{d0 d:ByteArray}{ps:List ByteArray}(h:PAt fs d0 ps (p::r) d)(h0:sz p d=none):parts fs d0=none:=by
 rw [h,parts,h0];rfl
theorem pat_step{fs r:List Pc}{p:Pc}{d0 d x:ByteArray}{ps:List ByteArray}{n:Nat}(h:PAt fs d0 ps (p::r) d)(h0:sz p d=some n)(hx:d.extract 0 n=x):PAt fs d0 (ps++[x]) r (d.extract x.size d.size):=by
 have hn:=sz_le h0;have e:x.size=n:=by rw [<- hx];simp;omega
 rw [PAt,h,parts,h0,Option.map_map,hx,e];congr 1;funext t;simp
theorem drop_let{f:ByteArray}{k:Nat}(hk:k<f.size):(f.data.toList.map letP).drop k=letP f[k]::(f.data.toList.map letP).drop (k+1):=by
 have hl:k<(f.data.toList.map letP).length:=by simpa using hk
 rw [List.drop_eq_getElem_cons hl];simp
 rfl
theorem name_ext(d:ByteArray)(h:(nameAtS d).size≠0):d.extract 0 (nameAtS d).size=nameAtS d:=by
 obtain⟨e,e1,e2,e3,e4,e5⟩:=nameF_name 256 d 0 h;have e6:nameAtS d=d.extract 0 e:=e4;have e7:(nameAtS d).size=e:=by rw [e6];simp;omega
 rw [e7,e6]
theorem txt_ext(d:ByteArray):d.extract 0 (txtS d).size=txtS d:=by
 by_cases h:0<d.size
 ·by_cases h1:d[0].toNat+1<=d.size
  ·have e:txtS d=d.extract 0 (d[0].toNat+1):=by rw [txtS,dif_pos h,if_pos h1]
   have e7:(txtS d).size=d[0].toNat+1:=by rw [e];simp;omega
   rw [e7,e]
  ·have e:txtS d=ByteArray.empty:=by rw [txtS,dif_pos h,if_neg h1]
   rw [e];simp
 ·have e:txtS d=ByteArray.empty:=by rw [txtS,dif_neg h]
  rw [e];simp
theorem ext_none(d:ByteArray):d.extract d.size d.size=ByteArray.empty:=by
 apply Nm.ba_ext;simp
def TAt(d p:ByteArray):Prop:=p.size<=d.size∧d.extract 0 p.size=p∧txsS d=p.size+txsS (d.extract p.size d.size)
theorem tat_start(d:ByteArray):TAt d ⟨#[]⟩:=by
 have e:(⟨#[]⟩:ByteArray).size=0:=rfl;refine⟨by omega,?_,?_⟩
 ·rw [e];apply Nm.ba_ext;simp
 ·rw [e];simp
theorem tat_end{d p:ByteArray}(h:TAt d p)(h0:(txtS (d.extract p.size d.size)).size=0):txsS d=p.size:=by
 rw [h.2.2,txs_none h0];rfl
theorem tat_step{d p:ByteArray}(h:TAt d p)(h0:(txtS (d.extract p.size d.size)).size≠0):TAt d (p++txtS (d.extract p.size d.size)):=by
 obtain⟨h1,h2,h3⟩:=h;have ht:=txt_le (d.extract p.size d.size);have hte:=txt_ext (d.extract p.size d.size);generalize hT:txtS (d.extract p.size d.size)=T at*;have hz:(p++T).size=p.size+T.size:=by simp
 have hd:(d.extract p.size d.size).size=d.size-p.size:=by simp
 refine⟨by omega,?_,?_⟩
 ·apply Nm.ba_ext;rw [hz];have e1:(p++T).data.toList=p.data.toList++T.data.toList:=by simp
  rw [e1,<- hte]
  conv=>rhs;arg 1;rw [<- h2]
  simp only [ByteArray.data_extract,Array.toList_extract,List.extract_eq_take_drop];simp
  rw [List.take_add];congr 1;rw [List.take_take,Nat.min_eq_left (by omega)]
 ·rw [hz,h3,txs_step (by rw [hT];exact h0),hT];have e:(d.extract p.size d.size).extract T.size (d.extract p.size d.size).size=d.extract (p.size+T.size) d.size:=ext_ext (by omega) (Nat.le_refl _);rw [e];omega
theorem tag_short{d:ByteArray}(h:(txtS d).size<2∨16<(txtS d).size):tagB d=false:=by
 rw [tagB]
 rcases h with h|h
 ·simp;omega
 ·simp;omega
theorem tag_bad{d:ByteArray}{k:Nat}(hk:1<=k)(hl:k<(txtS d).size)(h:alnumB (txtS d)[k]=false):tagB d=false:=by
 rw [tagB,Bool.and_eq_false_iff];right;rw [List.all_eq_false];refine⟨(txtS d)[k],?_,by simp [h]⟩
 have:((txtS d).data.toList.drop 1)[k-1]? =some (txtS d)[k]:=by
  rw [List.getElem?_drop,show 1+(k-1)=k by omega];exact Nm.get_data hl
 exact List.mem_of_getElem? this
theorem tag_good{d:ByteArray}(h2:2<=(txtS d).size)(h16:(txtS d).size<=16)(h:∀ j,1<=j->(hj:j<(txtS d).size)->alnumB (txtS d)[j]=true):tagB d=true:=by
 rw [tagB];simp only [h2,h16,decide_true,Bool.true_and,List.all_eq_true];intro c hc;obtain⟨i,hi⟩:=List.getElem?_of_mem hc;rw [List.getElem?_drop] at hi
 have hl:1+i<(txtS d).size:=by
  have:=(List.getElem?_eq_some_iff.1 hi).1;simpa using this
 rw [Nm.get_data hl] at hi;simp at hi;rw [<- hi];exact h _ (by omega) hl
end Go.Proofs.YtgilkakllagbnaaGreat.Dt
namespace Go.Proofs.YtgilkakllagbnaaGreat
open Go.RowKit
def szV(o:Option Nat):Value:=.tuple #[.int .i64 ((o.getD 0:Nat):Int),.bool o.isSome]
theorem nsz_none{s:ByteArray}{i:Nat}(h:Dt.nameAtS s=Dt.nameF 256 s i)(h1:Dt.nameF 256 s i=ByteArray.empty):szV (Dt.sz .nm s)=.tuple #[.int .i64 0,.bool false]:=by
 have:(Dt.nameAtS s).size=0:=by rw [h,h1];rfl
 rw [Dt.sz,if_pos this];rfl
theorem nsz_zero{s:ByteArray}{i:Nat}(h:Dt.nameAtS s=Dt.nameF 256 s i)(h1:i<s.size)(h2:i<255)(h0:s[i].toNat=0):szV (Dt.sz .nm s)=.tuple #[.int .i64 ((i:Int)+1),.bool true]:=by
 have e:Dt.nameF 256 s i=s.extract 0 (i+1):=by rw [Dt.nameF,dif_pos ⟨h1,h2⟩,if_pos h0]
 have e1:(Dt.nameAtS s).size=i+1:=by rw [h,e];simp;omega
 rw [Dt.sz,if_neg (by omega),e1];rfl
theorem nsz_step{s:ByteArray}{i:Nat}(h:Dt.nameAtS s=Dt.nameF 256 s i)(h1:i<s.size)(h2:i<255)(h0:s[i].toNat≠0)(h3:s[i].toNat<=63):Dt.nameAtS s=Dt.nameF 256 s (i+(1+s[i].toNat)):=by
 rw [h,Dt.nameF,dif_pos ⟨h1,h2⟩,if_neg h0,if_neg (by omega),show i+s[i].toNat+1=i+(1+s[i].toNat) by omega];exact Dt.nameF_enough _ _ _ _ (by omega) (by omega)
theorem nsz_big{s:ByteArray}{i:Nat}(h1:i<s.size)(h2:i<255)(h0:63<s[i].toNat):Dt.nameF 256 s i=ByteArray.empty:=by
 rw [Dt.nameF,dif_pos ⟨h1,h2⟩,if_neg (by omega),if_pos h0]
theorem nsz_end{s:ByteArray}{i:Nat}(h:¬(i<s.size∧i<255)):Dt.nameF 256 s i=ByteArray.empty:=by
 rw [Dt.nameF,dif_neg h]
set_option maxRecDepth 100000 in
set_option maxHeartbeats 800000 in
theorem nameSize_any(s:ByteArray)(w:World):
 Calls Tryz.prog 171 #[.string s] w fun e w'=>e=.returned (szV (Dt.sz .nm s))∧w'=w:=by
 have H0:Dt.nameAtS s=Dt.nameF 256 s 0:=rfl;go_enter Tryz.func171,Tryz.ntmps171;go_wp2
 go_loop [4] (fun v=>∃ i:Nat,i<255∧v=.int .i64 i∧Dt.nameAtS s=Dt.nameF 256 s i) (fun v=>400-(intOf v).toNat)
 case atStart=>exact⟨0,by omega,rfl,H0⟩
 case round=>
  obtain⟨i,hi,rfl,hn⟩:=hrel;clear H0
  by_cases h1:i<s.size
  ·have h1':(i:Int)<(s.size:Int):=by omega
   have hc:(s[i].toNat:Int)<256:=by have:=s[i].toNat_lt;omega
   by_cases h3:s[i].toNat=0
   ·have HN:=Nm.hide (nsz_zero hn h1 hi h3);have h3':((s[i].toNat:Int)==0)=true:=by rw [beq_iff_eq];omega
    clear hn h3;go_wp2;go_ret2;rw [HN.out];exact⟨rfl,rfl⟩
   ·have h3':((s[i].toNat:Int)==0)=false:=by rw [beq_eq_false_iff_ne];omega
    have h3'':(0:Int)<(s[i].toNat:Int):=by omega
    by_cases h4:63<s[i].toNat
    ·have HN:=Nm.hide (nsz_none hn (nsz_big h1 hi h4));have h4':(63:Int)<(s[i].toNat:Int):=by omega
     clear hn h3;go_wp2_with (go_at_call 186;go_in)
     go_ret2;rw [HN.out];exact⟨rfl,rfl⟩
    ·have h4':(s[i].toNat:Int)<=63:=by omega
     have hst:=nsz_step hn h1 hi h3 (by omega)
     by_cases h5:255<=i+(1+s[i].toNat)
     ·have HN:=Nm.hide (nsz_none hst (nsz_end (by omega)));have h5':(255:Int)<=(i:Int)+(1+(s[i].toNat:Int)):=by omega
      clear hn h3 hst;go_wp2_with (go_at_call 186;go_in)
      go_ret2;rw [HN.out];exact⟨rfl,rfl⟩
     ·have HN:=Nm.hide hst;have h5':(i:Int)+(1+(s[i].toNat:Int))<255:=by omega
      clear hn h3 hst;go_wp2_with (go_at_call 186;go_in)
      go_round
      case rel=>exact⟨i+(1+s[i].toNat),by omega,by go_num,HN.out⟩
      case measure=>simp [intOf];omega
  ·have HN:=Nm.hide (nsz_none hn (nsz_end (by omega)));have h1':(s.size:Int)<=(i:Int):=by omega
   clear hn;go_wp2;go_ret2;rw [HN.out];exact⟨rfl,rfl⟩
end Go.Proofs.YtgilkakllagbnaaGreat
namespace Go.Proofs.YtgilkakllagbnaaGreat.Nm
open Go.RowKit
def cmpI(a b:Int):Int:=if a<b then -1 else if b<a then 1 else 0
def ordL(a b:List UInt8):Int:=if Op.bytesLess a b=true then -1 else if a=b then 0 else 1
theorem cmpI_lt{a b:Int}(h:a<b):cmpI a b= -1:=if_pos h
theorem cmpI_gt{a b:Int}(h:b<a):cmpI a b=1:=by rw [cmpI,if_neg (by omega),if_pos h]
theorem cmpI_eq{a b:Int}(h:a=b):cmpI a b=0:=by rw [cmpI,if_neg (by omega),if_neg (by omega)]
theorem cmpI_ne{a b:Int}(h:a≠b):cmpI a b≠0:=by
 by_cases h1:a<b
 ·rw [cmpI_lt h1];decide
 ·rw [cmpI_gt (by omega)];decide
theorem ordL_nil:ordL [] []=0:=rfl
theorem ordL_left(y:UInt8)(b:List UInt8):ordL [] (y::b)= -1:=rfl
theorem ordL_right(x:UInt8)(a:List UInt8):ordL (x::a) []=1:=rfl
theorem ordL_same(x:UInt8)(a b:List UInt8):ordL (x::a) (x::b)=ordL a b:=by
 simp [ordL,Op.bytesLess]
theorem ordL_ne{x y:UInt8}(a b:List UInt8)(h:x≠y):ordL (x::a) (y::b)=cmpI x.toNat y.toNat:=by
 have hn:x.toNat≠y.toNat:=fun e=>h (UInt8.toNat_inj.1 e)
 by_cases hl:x<y
 ·have hl':(x.toNat:Int)<(y.toNat:Int):=by have:=UInt8.lt_iff_toNat_lt.1 hl;omega
  rw [cmpI_lt hl'];simp [ordL,Op.bytesLess,hl]
 ·have hl':(y.toNat:Int)<(x.toNat:Int):=by
   have:¬x.toNat<y.toNat:=fun e=>hl (UInt8.lt_iff_toNat_lt.2 e)
   omega
  rw [cmpI_gt hl'];simp [ordL,Op.bytesLess,hl,h]
theorem ord_at:∀ (k:Nat) (a b:List UInt8) (x y:UInt8),a.take k=b.take k->a[k]? =some x->b[k]? =some y->x≠y->ordL a b=cmpI x.toNat y.toNat:=by
 intro k
 induction k with
 |zero=>
  intro a b x y _ hx hy hne
  cases a with
  |nil=>simp at hx
  |cons c a=>
   cases b with
   |nil=>simp at hy
   |cons d b=>
    simp at hx hy;subst hx hy
    exact ordL_ne a b hne
 |succ k ih=>
  intro a b x y ht hx hy hne
  cases a with
  |nil=>simp at hx
  |cons c a=>
   cases b with
   |nil=>simp at hy
   |cons d b=>
    simp at ht hx hy;obtain⟨rfl,ht⟩:=ht;rw [ordL_same];exact ih a b x y ht hx hy hne
theorem ord_end:∀ (k:Nat) (a b:List UInt8),a.take k=b.take k->k<=a.length->k<=b.length->(k=a.length∨k=b.length)->ordL a b=cmpI a.length b.length:=by
 intro k
 induction k with
 |zero=>
  intro a b _ _ _ h
  cases a with
  |nil=>
   cases b with
   |nil=>rfl
   |cons d b=>rw [ordL_left,cmpI_lt (by simp)]
  |cons c a=>
   cases b with
   |nil=>rw [ordL_right,cmpI_gt (by simp)]
   |cons d b=>simp at h
 |succ k ih=>
  intro a b ht h1 h2 h
  cases a with
  |nil=>simp at h1
  |cons c a=>
   cases b with
   |nil=>simp at h2
   |cons d b=>
    simp at ht h1 h2 h;obtain⟨rfl,ht⟩:=ht;rw [ordL_same,ih a b ht h1 h2 h];simp only [List.length_cons,cmpI];congr 1
    ·simp
    ·congr 1;simp
theorem take_snoc_eq{a b:List UInt8}{k:Nat}{x y:UInt8}(h:a.take k=b.take k)(hx:a[k]? =some x)(hy:b[k]? =some y)(e:x=y):a.take (k+1)=b.take (k+1):=by
 rw [take_step hx,take_step hy,h,e]
theorem small_get{x:ByteArray}{j:Nat}(h:j<x.size):(smallL x.data.toList)[j]? =some (low x[j]):=by
 simp only [smallL,List.getElem?_map,get_data h,Option.map_some]
theorem smallL_length(x:ByteArray):(smallL x.data.toList).length=x.size:=by simp [smallL]
def ordS(x y:ByteArray):Int:=ordL (smallL x.data.toList) (smallL y.data.toList)
def cmpRev:List ByteArray->List ByteArray->Int
 |[],[]=>0
 |[],_::_=> -1
 |_::_,[]=>1
 |x::a,y::b=>if ordS x y=0 then cmpRev a b else ordS x y
def cmpLs(xs ys:List ByteArray):Int:=cmpRev xs.reverse ys.reverse
theorem cmp_stop{a b:List ByteArray}{k:Nat}{x y:ByteArray}(hx:a[k]? =some x)(hy:b[k]? =some y)(h:ordS x y≠0):cmpRev (a.drop k) (b.drop k)=ordS x y:=by
 obtain⟨h1,rfl⟩:=List.getElem?_eq_some_iff.1 hx;obtain⟨h2,rfl⟩:=List.getElem?_eq_some_iff.1 hy;rw [List.drop_eq_getElem_cons h1,List.drop_eq_getElem_cons h2,cmpRev,if_neg h]
theorem cmp_go{a b:List ByteArray}{k:Nat}{x y:ByteArray}(hx:a[k]? =some x)(hy:b[k]? =some y)(h:ordS x y=0):cmpRev (a.drop k) (b.drop k)=cmpRev (a.drop (k+1)) (b.drop (k+1)):=by
 obtain⟨h1,rfl⟩:=List.getElem?_eq_some_iff.1 hx;obtain⟨h2,rfl⟩:=List.getElem?_eq_some_iff.1 hy;rw [List.drop_eq_getElem_cons h1,List.drop_eq_getElem_cons h2,cmpRev,if_pos h]
theorem cmp_end{a b:List ByteArray}{k:Nat}(h1:k<=a.length)(h2:k<=b.length)(h:k=a.length∨k=b.length):cmpRev (a.drop k) (b.drop k)=cmpI a.length b.length:=by
 rcases h with h|h
 ·rw [List.drop_of_length_le (by omega)]
  by_cases e:k=b.length
  ·rw [List.drop_of_length_le (by omega),cmpI_eq (by omega)];rfl
  ·rw [List.drop_eq_getElem_cons (by omega:k<b.length),cmpI_lt (by omega)];rfl
 ·rw [List.drop_of_length_le (l:=b) (by omega)]
  by_cases e:k=a.length
  ·rw [List.drop_of_length_le (by omega),cmpI_eq (by omega)];rfl
  ·rw [List.drop_eq_getElem_cons (by omega:k<a.length),cmpI_gt (by omega)];rfl
theorem rev_get{ls:List ByteArray}{k:Nat}(h:k<ls.length){x:ByteArray}(hx:ls[ls.length-(k+1)]? =some x):ls.reverse[k]? =some x:=by
 rw [List.getElem?_reverse h,<- hx];congr 1;omega
def cmpS(a b:ByteArray):Int:=
 match split a,split b with
 |some xs,some ys=>cmpLs xs ys
 |_,_=>0
end Go.Proofs.YtgilkakllagbnaaGreat.Nm
