import Derived.Test.YtfmolgdfjklmpaaGreatJSCheck
import Derived.Test.YtfmolgdfjklmpaaGreatJZbH
import Derived.Test.YtfmolgdfjklmpaaGreatDraw3
import Derived.Handy
import Derived.Test.YtfmolgdfjklmpaaGreatJMath
import Derived.Test.YtfmolgdfjklmpaaGreatJZrM
import Derived.Test.YtfmolgdfjklmpaaGreatJTrM
import Derived.Test.YtfmolgdfjklmpaaGreatJTrD
namespace Go.Proofs.YtfmolgdfjklmpaaGreat
open Go.RowKit
set_option linter.unusedVariables false
def kinB(x y:It):Bool:=decide (y.fo=x.fo)&&decide (y.r.ty=x.r.ty)
def dupI(pre:List It)(x:It):Bool:=pre.any fun y=>kinB x y&&decide (y.dt=x.dt)
def mixI(pre:List It)(x:It):Bool:=match pre.find? (kinB x) with
 |some y=>decide (y.r.tt≠x.r.tt)
 |none=>false
def outI(b:Bool)(x:It):It:={x with out:=x.out||b}
def twI(l:List It):List It:=l.mapIdx fun i x=>outI (dupI (l.take i) x) x
def badI(l:List It):Int:=match firstI (fun i x=>mixI (l.take i) x) l with
 |some i=>i
 |none=> -1
theorem twI_len(l:List It):(twI l).length=l.length:=by simp [twI]
theorem twI_get{l:List It}{i:Nat}{x:It}(h:l[i]? =some x):(twI l)[i]? =some (outI (dupI (l.take i) x) x):=by
 simp [twI,h]
theorem dupI_take{l:List It}{k:Nat}{y:It}(x:It)(h:l[k]? =some y):dupI (l.take (k+1)) x=(dupI (l.take k) x||(kinB x y&&decide (y.dt=x.dt))):=by
 obtain⟨hi,e⟩:=List.getElem?_eq_some_iff.1 h;rw [List.take_succ_eq_append_getElem hi,e];simp [dupI]
theorem find_take_no{l:List It}{k:Nat}{p:It->Bool}(h:∀ (j:Nat) (y:It),j<k->l[j]? =some y->p y=false):(l.take k).find? p=none:=by
 rw [List.find?_eq_none];intro y hy;obtain⟨j,hj,e⟩:=List.getElem_of_mem hy;have hj':=hj;rw [List.length_take] at hj';have h2:l[j]? =some y:=by rw [<- e,List.getElem_take,List.getElem?_eq_getElem (by omega)]
 simp [h j y (by omega) h2]
theorem find_take_at{l:List It}{k f:Nat}{y:It}{p:It->Bool}(hf:f<k)(hy:l[f]? =some y)(hp:p y=true)(h:∀ (j:Nat) (z:It),j<f->l[j]? =some z->p z=false):(l.take k).find? p=some y:=by
 rw [List.find?_eq_some_iff_getElem];obtain⟨hl,e⟩:=List.getElem?_eq_some_iff.1 hy;refine⟨hp,f,by rw [List.length_take];omega,by rw [List.getElem_take];exact e,fun j hj=>?_⟩;rw [List.getElem_take];have:=h j l[j] hj (List.getElem?_eq_getElem (by omega));simp [this]
def midI(l:List It)(i k:Nat):List It:=(twI l).take i++(l.drop i).mapIdx fun j x=>if j=0 then outI (dupI (l.take k) x) x else x
theorem midI_len(l:List It)(i k:Nat):(midI l i k).length=l.length:=by
 simp [midI,twI_len];omega
theorem midI_lo{l:List It}{i k j:Nat}{x:It}(h:l[j]? =some x)(hj:j<i):(midI l i k)[j]? =some (outI (dupI (l.take j) x) x):=by
 have hlt:=(List.getElem?_eq_some_iff.1 h).1;rw [midI,List.getElem?_append_left (by rw [List.length_take,twI_len];omega),List.getElem?_take_of_lt hj,twI_get h]
theorem midI_at{l:List It}{i k:Nat}{x:It}(h:l[i]? =some x):(midI l i k)[i]? =some (outI (dupI (l.take k) x) x):=by
 have hlt:=(List.getElem?_eq_some_iff.1 h).1;rw [midI,List.getElem?_append_right (by rw [List.length_take,twI_len];omega)];simp [twI_len,Nat.min_eq_left (Nat.le_of_lt hlt),h]
theorem midI_hi{l:List It}{i k j:Nat}{x:It}(h:l[j]? =some x)(hj:i<j):(midI l i k)[j]? =some x:=by
 have hlt:=(List.getElem?_eq_some_iff.1 h).1;rw [midI,List.getElem?_append_right (by rw [List.length_take,twI_len];omega)];simp only [List.length_take,twI_len,Nat.min_eq_left (by omega:i<=l.length),List.getElem?_mapIdx,List.getElem?_drop];rw [show i+(j-i)=j by omega,h]
 simp;omega
theorem midI_ext{l m:List It}{i k:Nat}(hl:m.length=l.length)(h:∀ (j:Nat) (x:It),l[j]? =some x->m[j]? =(midI l i k)[j]?):m=midI l i k:=by
 apply List.ext_getElem?;intro j
 by_cases hj:j<l.length
 ·exact h j _ (List.getElem?_eq_getElem hj)
 ·rw [List.getElem?_eq_none (by omega),List.getElem?_eq_none (by rw [midI_len];omega)]
theorem midI_start(l:List It):midI l 0 0=l:=by
 symm;refine midI_ext rfl (fun j x h=>?_)
 rcases Nat.eq_zero_or_pos j with rfl|hj
 ·rw [midI_at h,h];simp [outI,dupI]
 ·rw [midI_hi h hj,h]
theorem midI_next{l:List It}{i:Nat}(hi:i<l.length):midI l i i=midI l (i+1) 0:=by
 refine midI_ext (midI_len _ _ _) (fun j x h=>?_)
 by_cases h1:j<i
 ·rw [midI_lo h h1,midI_lo h (by omega)]
 ·by_cases h2:j=i
  ·subst h2;rw [midI_at h,midI_lo h (by omega)]
  ·by_cases h3:j=i+1
   ·subst h3;rw [midI_hi h (by omega),midI_at h];simp [outI,dupI]
   ·rw [midI_hi h (by omega),midI_hi h (by omega)]
theorem midI_end{l:List It}:midI l l.length 0=twI l:=by
 symm;refine midI_ext (twI_len l) (fun j x h=>?_);have hlt:=(List.getElem?_eq_some_iff.1 h).1;rw [midI_lo h hlt,twI_get h]
theorem midI_same{l:List It}{i k:Nat}{x y:It}(hx:l[i]? =some x)(hy:l[k]? =some y)(h:(kinB x y&&decide (y.dt=x.dt))=false):midI l i (k+1)=midI l i k:=by
 refine midI_ext (midI_len _ _ _) (fun j z hz=>?_)
 by_cases h1:j<i
 ·rw [midI_lo hz h1,midI_lo hz h1]
 ·by_cases h2:j=i
  ·subst h2;rw [hx] at hz;obtain rfl:=Option.some.inj hz;rw [midI_at hx,midI_at hx,dupI_take x hy,h,Bool.or_false]
  ·rw [midI_hi hz (by omega),midI_hi hz (by omega)]
theorem midI_out{l:List It}{i k:Nat}{x y:It}(hx:l[i]? =some x)(hy:l[k]? =some y)(h:(kinB x y&&decide (y.dt=x.dt))=true):(midI l i k).set i {x with out:=true}=midI l i (k+1):=by
 refine midI_ext (by rw [List.length_set,midI_len]) (fun j z hz=>?_);have hlt:=(List.getElem?_eq_some_iff.1 hx).1;rw [List.getElem?_set]
 by_cases h1:j<i
 ·rw [if_neg (by omega),midI_lo hz h1,midI_lo hz h1]
 ·by_cases h2:j=i
  ·subst h2;rw [hx] at hz;obtain rfl:=Option.some.inj hz;rw [if_pos rfl,if_pos (by rw [midI_len];exact hlt),midI_at hx,dupI_take x hy,h,Bool.or_true,outI,Bool.or_true]
  ·rw [if_neg (by omega),midI_hi hz (by omega),midI_hi hz (by omega)]
theorem itCs_set:∀ (l:List It) (i:Nat) (x:It),l[i]? =some x->(itCs l).set (i*8+7) (.bool true)=itCs (l.set i {x with out:=true}):=by
 intro l
 induction l with
 |nil=>intro i x h;simp at h
 |cons y l ih=>
  intro i x h;have e:∀ z zs,itCs (z::zs)=itC z++itCs zs:=by intro z zs;simp [itCs]
  cases i with
  |zero=>
   simp at h;subst h;rw [List.set_cons_zero,e,e,List.set_append_left _ _ (by simp [itC])]
   rfl
  |succ i=>
   simp at h;have hl:(itC y).length=8:=rfl;rw [List.set_cons_succ,e,e,List.set_append_right _ _ (by omega),hl,show(i+1)*8+7-8=i*8+7 by omega,ih i x h]
def sortF:Nat->List It->List It
 |0,l=>l
 |n+1,l=>if l.length<2 then l else List.merge (sortF n (l.take (l.length / 2))) (sortF n (l.drop (l.length / 2))) befI
def sortI(l:List It):List It:=sortF l.length l
theorem sortF_small{n:Nat}{l:List It}(h:l.length<2):sortF n l=l:=by
 cases n with
 |zero=>rfl
 |succ n=>rw [sortF,if_pos h]
theorem sortF_big{n:Nat}{l:List It}(h:¬l.length<2):sortF (n+1) l=List.merge (sortF n (l.take (l.length / 2))) (sortF n (l.drop (l.length / 2))) befI:=by rw [sortF,if_neg h]
theorem sortF_perm:∀ (n:Nat) (l:List It),(sortF n l).Perm l:=by
 intro n
 induction n with
 |zero=>intro l;exact .refl _
 |succ n ih=>
  intro l
  by_cases h:l.length<2
  ·rw [sortF_small h]
  ·rw [sortF_big h];have h1:(List.merge (sortF n (l.take (l.length / 2))) (sortF n (l.drop (l.length / 2))) befI).Perm (sortF n (l.take (l.length / 2))++sortF n (l.drop (l.length / 2))):=List.merge_perm_append _;refine h1.trans ?_;refine((ih _).append (ih _)).trans ?_;rw [List.take_append_drop]
theorem sortF_len(n:Nat)(l:List It):(sortF n l).length=l.length:=(sortF_perm n l).length_eq
theorem sortF_mem{n:Nat}{l:List It}{x:It}:x∈sortF n l↔x∈l:=(sortF_perm n l).mem_iff
theorem itCs_take(l:List It)(h:Nat):itCs (l.take h)=(itCs l).take (h*8):=by
 induction l generalizing h with
 |nil=>simp [itCs]
 |cons x l ih=>
  have e:∀ z zs,itCs (z::zs)=itC z++itCs zs:=by intro z zs;simp [itCs]
  have hl:(itC x).length=8:=rfl
  cases h with
  |zero=>simp [itCs]
  |succ h=>
   rw [List.take_succ_cons,e,e,ih,List.take_append,hl,List.take_of_length_le (l:=itC x) (i:=(h+1)*8) (by omega),show(h+1)*8-8=h*8 by omega]
theorem itCs_drop(l:List It)(h:Nat):itCs (l.drop h)=(itCs l).drop (h*8):=by
 induction l generalizing h with
 |nil=>simp [itCs]
 |cons x l ih=>
  have e:∀ z zs,itCs (z::zs)=itC z++itCs zs:=by intro z zs;simp [itCs]
  have hl:(itC x).length=8:=rfl
  cases h with
  |zero=>simp
  |succ h=>
   rw [List.drop_succ_cons,e,ih,List.drop_append,hl,List.drop_of_length_le (l:=itC x) (i:=(h+1)*8) (by omega),show(h+1)*8-8=h*8 by omega,List.nil_append]
theorem cr_take{w:World}{b off n cap h:Nat}{l:List It}(hr:CRow w (.slice (some ⟨b,off,none⟩) n cap) l.length 8 (itCs l))(hh:h<=l.length):CRow w (.slice (some ⟨b,off,none⟩) h cap) (l.take h).length 8 (itCs (l.take h)):=by
 obtain⟨h0,a,c,e,h1,h2,h3⟩:=hr;simp only [Value.slice.injEq] at e;obtain⟨rfl,rfl,rfl⟩:=e;have hl:(l.take h).length=h:=by rw [List.length_take];omega
 rw [hl];refine⟨by rw [itCs_len,hl],_,_,rfl,by omega,h2,fun hp=>⟨b,off,rfl,fun i x hx=>?_⟩⟩;rw [itCs_take] at hx;obtain⟨b',off',e,hc⟩:=h3 (by omega);cases e
 refine hc i x ?_;rw [List.getElem?_take] at hx
 split at hx
 ·exact hx
 ·cases hx
theorem cr_drop{w:World}{b off n cap h:Nat}{l:List It}(hr:CRow w (.slice (some ⟨b,off,none⟩) n cap) l.length 8 (itCs l))(hh:h<l.length):CRow w (.slice (some ⟨b,off+h*8,none⟩) (l.length-h) (cap-h)) (l.drop h).length 8 (itCs (l.drop h)):=by
 obtain⟨h0,a,c,e,h1,h2,h3⟩:=hr;simp only [Value.slice.injEq] at e;obtain⟨rfl,rfl,rfl⟩:=e;have hl:(l.drop h).length=l.length-h:=List.length_drop;rw [hl];refine⟨by rw [itCs_len,hl],_,_,rfl,by omega,by omega,fun hp=>⟨b,off+h*8,rfl,fun i x hx=>?_⟩⟩;rw [itCs_drop,List.getElem?_drop] at hx;obtain⟨b',off',e,hc⟩:=h3 (by omega);cases e
 have:=hc (h*8+i) x hx;rw [Nat.add_assoc];exact this
theorem merge_left{a b:List It}{i:Nat}{x:It}(hx:a[i]? =some x):List.merge (a.drop i) (b.drop b.length) befI=x::List.merge (a.drop (i+1)) (b.drop b.length) befI:=by
 obtain⟨hi,e⟩:=List.getElem?_eq_some_iff.1 hx;rw [List.drop_length,List.merge_right,List.merge_right,List.drop_eq_getElem_cons hi,e]
theorem merge_one{a b:List It}{i k:Nat}{x y:It}(hx:a[i]? =some x)(hy:b[k]? =some y)(h:befI x y=true):List.merge (a.drop i) (b.drop k) befI=x::List.merge (a.drop (i+1)) (b.drop k) befI:=by
 obtain⟨hi,e⟩:=List.getElem?_eq_some_iff.1 hx;obtain⟨hk,e2⟩:=List.getElem?_eq_some_iff.1 hy;rw [List.drop_eq_getElem_cons hi,e,List.drop_eq_getElem_cons hk,e2,List.cons_merge_cons,if_pos h]
theorem merge_two{a b:List It}{i k:Nat}{x y:It}(hx:a[i]? =some x)(hy:b[k]? =some y)(h:befI x y=false):List.merge (a.drop i) (b.drop k) befI=y::List.merge (a.drop i) (b.drop (k+1)) befI:=by
 obtain⟨hi,e⟩:=List.getElem?_eq_some_iff.1 hx;obtain⟨hk,e2⟩:=List.getElem?_eq_some_iff.1 hy;rw [List.drop_eq_getElem_cons hi,e,List.drop_eq_getElem_cons hk,e2,List.cons_merge_cons,if_neg (by simp [h])]
theorem merge_right'{a b:List It}{k:Nat}{y:It}(hy:b[k]? =some y):List.merge (a.drop a.length) (b.drop k) befI=y::List.merge (a.drop a.length) (b.drop (k+1)) befI:=by
 obtain⟨hk,e⟩:=List.getElem?_eq_some_iff.1 hy;rw [List.drop_length,List.nil_merge,List.nil_merge,List.drop_eq_getElem_cons hk,e]
def ru1(l:List It)(fo:ByteArray)(i:Nat)(x:It):Bool:= !x.out&&decide (x.r.ty=6)&&(decide (x.fo≠fo)||hasI (l.take i) fo 6)
def ru2(x:It):Bool:= !x.out&&starB x.fo&&(decide (x.r.ty=2)||decide (x.r.ty=39))
def ru3(l:List It)(i:Nat)(x:It):Bool:= !x.out&&(decide (x.r.ty=5)||decide (x.r.ty=39))&&hasI (l.take i) x.fo x.r.ty
def ru4(l:List It)(x:It):Bool:= !x.out&&decide (x.r.ty≠5)&&decide (x.r.ty≠47)&&hasI l x.fo 5
def be5(x y:It):Bool:= !y.out&&decide (y.r.ty=39)&&decide (y.fo≠x.fo)&&isUnderS x.fo y.fo
def ru5(l:List It)(x:It):Bool:= !x.out&&l.any fun y=>be5 x y
theorem rulesI_eq(l:List It)(fo:ByteArray):rulesI l fo=
 match firstI (ru1 l fo) l with
 |some i=>(20,i)
 |none=>if !hasI l fo 6 then(20,-1) else if !hasI l fo 2 then(21,-1) else
  match firstI (fun _ x=>ru2 x) l with
  |some i=>(26,i)
  |none=>match firstI (ru3 l) l with
   |some i=>(23,i)
   |none=>match firstI (fun _ x=>ru4 l x) l with
    |some i=>(23,i)
    |none=>match firstI (fun _ x=>ru5 l x) l with
     |some i=>(25,i)
     |none=>(0,0):=rfl
theorem first_next{p:Nat->It->Bool}{l:List It}{k:Nat}{x:It}(hno:∀ (i:Nat) (y:It),i<k->l[i]? =some y->p i y=false)(hk:l[k]? =some x)(hp:p k x=false):∀ (i:Nat) (y:It),i<k+1->l[i]? =some y->p i y=false:=by
 intro i y hi hy
 by_cases h:i=k
 ·subst h;rw [hk] at hy;obtain rfl:=Option.some.inj hy;exact hp
 ·exact hno i y (by omega) hy
theorem any_next{p:It->Bool}{l:List It}{k:Nat}{y:It}(h:(l.take k).any p=false)(hk:l[k]? =some y)(hp:p y=false):(l.take (k+1)).any p=false:=by
 obtain⟨hi,e⟩:=List.getElem?_eq_some_iff.1 hk;rw [List.take_succ_eq_append_getElem hi,e,List.any_append,h];simp [hp]
set_option maxRecDepth 100000 in
set_option maxHeartbeats 1600000 in
theorem l06Starred_any(s:ByteArray)(w:World)(hs:s.size<=maxLen):Calls Tryz.prog 65 #[.string s] w fun e w'=>e=.returned (.bool (starB s))∧w'=w:=by
 unfold maxLen at hs;obtain⟨Q,hQ⟩:∃ Q,Q=starB s:=⟨_,rfl⟩;rw [<- hQ];unfold starB at hQ
 by_cases h1:1<s.size
 ·have i1:(1:Int)<(s.size:Int):=by omega
  rw [decide_eq_true h1,Bool.true_and,<- ba_eq] at hQ;have HQ:=Nm.hide hQ;clear hQ;go_enter Tryz.func65,Tryz.ntmps65;go_wp2;go_ret;exact⟨by rw [HQ.out,show(⟨#[1,42]⟩:ByteArray).toList=[1,42] from by rw [ByteArray.toList_eq]];rfl,rfl⟩
 ·have i1:(s.size:Int)<=1:=by omega
  rw [decide_eq_false h1,Bool.false_and] at hQ;subst hQ;go_enter Tryz.func65,Tryz.ntmps65;go_wp2;go_ret;exact⟨rfl,rfl⟩
end Go.Proofs.YtfmolgdfjklmpaaGreat
namespace Go.Proofs.YtfmolgdfjklmpaaGreat
open Go.RowKit
end Go.Proofs.YtfmolgdfjklmpaaGreat
namespace Go.Proofs.YtfmolgdfjklmpaaGreat
open Go.RowKit
def CodeIn(w:World)(a:Option Addr)(n:Nat):Prop:=
 n=0∨∃ b off,a=some ⟨b,off,none⟩∧∀ i,i<n->∃ c:Int,w.cell? ⟨b,off+i,none⟩=some (.int .u8 c)∧0<=c∧c<256
def Beg(w wr:World)(a:Option Addr)(n cap:Nat)(st:Int):Prop:=
 wr.heap[w.heap.size]? =some (.cells #[.slice none 0 0,.int .i64 0,.int .u64 0] 63 (0,0))∧
 wr.heap[w.heap.size+1]? =some (.cells #[.slice a n cap,.int .i64 0,.int .u64 st] 63 (0,0))∧Below w.heap.size w wr
theorem beg_set{w wr:World}{a:Option Addr}{n cap:Nat}{st:Int}(h:Beg w wr a n cap st)(s2:Int):Beg w (wr.setCell ⟨w.heap.size+1,2,none⟩ (.int .u64 s2)) a n cap s2:=by
 obtain⟨h1,h2,h3⟩:=h;refine⟨?_,?_,h3.setCell (by simp) _⟩
 ·rw [heap_setCell_other wr ⟨w.heap.size+1,2,none⟩ w.heap.size _ (by simp)];exact h1
 ·rw [heap_setCell_same wr (w.heap.size+1) 2 _ _ _ h2];rfl
theorem beg_drew{w wr:World}{a:Option Addr}{n cap:Nat}{st:Int}(h:Beg w wr a n cap st):Beg w wr.drew a n cap st:=⟨h.1,h.2.1,h.2.2.drew⟩
set_option maxRecDepth 100000 in
set_option maxHeartbeats 400000 in
theorem l01Begin_any(a:Option Addr)(n cap:Nat)(w:World)(h:CodeIn w a n)(hn:n<=1048576):
 Calls Tryz.prog 24 #[.slice a n cap] w fun e w'=>∃ st:Int,e=.returned (.agg #[.slice a n cap,.int .i64 0,.int .u64 st])∧Below w.heap.size w w':=by
 go_enter Tryz.func24,Tryz.ntmps24;go_wp2
 go_loopw [4] (fun i wr=>∃ (k:Nat) (st:Int),k<=n∧i=.int .i64 k∧Beg w wr a n cap st) (fun i _=>n-(intOf i).toNat)
 case atStart=>
  refine⟨0,1469598103934665603,Nat.zero_le _,rfl,?_,?_,((Below.refl _ _).alloc (Nat.le_refl _) _).alloc (by simp) _⟩
  ·exact((MapKept.heap_alloc (w.alloc _) _).2 _ (by simp)).trans (heap_alloc_new w _)
  ·have:=heap_alloc_new (w.alloc (.cells #[.slice none 0 0,.int .i64 0,.int .u64 0] 63 (0,0))) (.cells #[.slice a n cap,.int .i64 0,.int .u64 1469598103934665603] 63 (0,0));rw [World.size_alloc] at this;exact this
 case round=>
  obtain⟨k,st,hk,rfl,hbeg⟩:=hrel;have HB:=fun s2=>Nm.hide (beg_set hbeg s2)
  have HB0:=Nm.hide hbeg.2.2;obtain⟨hb0,hb1,hbel⟩:=hbeg;have c0:=cell_of_row wr (w.heap.size+1) 0 _ _ _ hb1;have c1:=cell_of_row wr (w.heap.size+1) 1 _ _ _ hb1;have c2:=cell_of_row wr (w.heap.size+1) 2 _ _ _ hb1;have f2:=frozen_of_row wr (w.heap.size+1) 2 _ _ hb1;have e0:=cell_of_row wr w.heap.size 0 _ _ _ hb0;have e1:=cell_of_row wr w.heap.size 1 _ _ _ hb0;have e2:=cell_of_row wr w.heap.size 2 _ _ _ hb0;have g0:=frozen_of_row wr w.heap.size 0 _ _ hb0;have g1:=frozen_of_row wr w.heap.size 1 _ _ hb0;have g2:=frozen_of_row wr w.heap.size 2 _ _ hb0;simp at c0 c1 c2 e0 e1 e2
  by_cases hlt:k<n
  ·obtain⟨b,off,rfl,hcode⟩:=h.resolve_left (by omega);obtain⟨c,hc,hc0,hc1⟩:=hcode k hlt;have hbl:=World.block_lt_of_cell? w _ hc;have hcr:=(hbel.cell hbl).trans hc;clear hb0 hb1 hbel hcode hc h;go_wp2;go_region
   go_wp2;go_roundw
   case rel=>exact⟨k+1,_,by omega,by go_num,beg_drew (HB _).out⟩
   case measure=>simp [intOf];omega
  ·have hke:k=n:=by omega
   subst hke;clear hb0 hb1 hbel h;have r0:=fun v=>World.cell?_setCell_same wr ⟨w.heap.size,0,none⟩ v e0
   have r1:=fun u v=>World.cell?_setCell_same (wr.setCell ⟨w.heap.size,0,none⟩ u) ⟨w.heap.size,1,none⟩ v ((World.cell?_setCell_other wr ⟨w.heap.size,0,none⟩ ⟨w.heap.size,1,none⟩ u (by simp)).trans e1)
   have r2:=fun t u v=>World.cell?_setCell_same ((wr.setCell ⟨w.heap.size,0,none⟩ t).setCell ⟨w.heap.size,1,none⟩ u) ⟨w.heap.size,2,none⟩ v ((World.cell?_setCell_other _ ⟨w.heap.size,1,none⟩ ⟨w.heap.size,2,none⟩ u (by simp)).trans ((World.cell?_setCell_other wr ⟨w.heap.size,0,none⟩ ⟨w.heap.size,2,none⟩ t (by simp)).trans e2))
   go_wp2;refine bodyPost_ret (v:=.agg #[.slice a k cap,.int .i64 0,.int .u64 st]) ?_ rfl ⟨st,rfl,((HB0.out.setCell (Nat.le_refl _) _).setCell (Nat.le_refl _) _).setCell (Nat.le_refl _) _⟩;simp [results,Tryz.results24,go_sem,r0,r1,r2,Result.andThen]
end Go.Proofs.YtfmolgdfjklmpaaGreat
namespace Go.Proofs.YtfmolgdfjklmpaaGreat
open Go.RowKit
theorem code_below{w w1:World}{a:Option Addr}{n:Nat}(h:CodeIn w a n)(hb:Below w.heap.size w w1):CodeIn w1 a n:=by
 rcases h with h|⟨b,off,e,hc⟩
 ·exact .inl h
 ·refine .inr ⟨b,off,e,fun j hj=>?_⟩;obtain⟨c,hc1,hc2⟩:=hc j hj;exact⟨c,(hb.cell (World.block_lt_of_cell? w _ hc1)).trans hc1,hc2⟩
theorem code_at{w w1:World}{a:Option Addr}{n:Nat}(h:CodeIn w a n)(hb:Below w.heap.size w w1):CodeAt w1 w.heap.size a n:=by
 rcases h with h|⟨b,off,e,hc⟩
 ·exact .inl h
 ·rcases Nat.eq_zero_or_pos n with hn|hn
  ·exact .inl hn
  refine .inr ⟨b,off,e,?_,fun j hj=>?_⟩
  ·obtain⟨c,hc1,_⟩:=hc 0 hn;have:b<w.heap.size:=World.block_lt_of_cell? w _ hc1;omega
  ·obtain⟨c,hc1,hc2⟩:=hc j hj;exact⟨c,(hb.cell (World.block_lt_of_cell? w _ hc1)).trans hc1,hc2⟩
theorem src_made{w:World}{a:Option Addr}{n cap:Nat}(h:CodeIn w a n)(hn:n<=1048576)(st:Int):
 Src (w.alloc (.cells #[.slice a n cap,.int .i64 0,.int .u64 st] 63 (0,0))) w.heap.size a n cap:=
 ⟨0,st,heap_alloc_new w _,Int.le_refl _,Int.natCast_nonneg _,hn,code_at h ((Below.refl _ _).alloc (Nat.le_refl _) _)⟩
end Go.Proofs.YtfmolgdfjklmpaaGreat
namespace Go.Proofs.YtfmolgdfjklmpaaGreat
open Go.RowKit
set_option linter.unusedVariables false
theorem bigL_len(v n:Nat):(bigL v n).length=n:=by simp [bigL]
theorem bigL_take{v n j:Nat}(h:j<n):Nm.bys ((bigL v n).take (j+1))=Nm.bys ((bigL v n).take j)++[.int .u8 ((v:Int) / 2 ^ (8*(n-1-j)) % 256)]:=by
 have hx:(bigL v n)[j]? =some (UInt8.ofNat (v / 2 ^ (8*(n-1-j)))):=by simp [bigL,h]
 have e:((UInt8.ofNat (v / 2 ^ (8*(n-1-j)))).toNat:Int)=(v:Int) / 2 ^ (8*(n-1-j)) % 256:=by
  rw [UInt8.toNat_ofNat',Int.natCast_emod,Int.natCast_ediv,Int.natCast_pow];rfl
 rw [List.take_add_one,hx,Nm.bys_append,<- e];rfl
set_option maxRecDepth 100000 in
set_option maxHeartbeats 1600000 in
theorem l02PutN_any(v n:Nat)(w:World)(hv:v<=4611686018427387904)(hn1:1<=n)(hn:n<=8):
 Calls Tryz.prog 139 #[.int .i64 (v:Int),.int .i64 (n:Int)] w fun e w'=>e=.returned (.string ⟨(bigL v n).toArray⟩)∧Below w.heap.size w w':=by
 obtain⟨j0,hj,k0,k1,k2⟩:=info_parts Tryz.infoBy;have i3:(n:Int)<=8:=by omega
 have i4:(1:Int)<=(n:Int):=by omega
 have hro:=World.ownsRow_made (base:=w.heap.size) (size:=1) (e:=5) w #[] 0 (Nat.le_refl _) (by decide) rfl;have hBs:=(Below.refl w.heap.size w).alloc (Nat.le_refl _) (.cells #[] 5);go_enter Tryz.func139,Tryz.ntmps139;go_wp2
 go_loopw [5,6] (fun u i wr=>∃ j:Nat,j<=n∧i=.int .i64 ((n:Int)-1-(j:Int))∧wr.ownsRow w.heap.size 5 1 u j (Nm.bys ((bigL v n).take j))∧Below w.heap.size w wr) (fun _ i _=>(intOf i+1).toNat)
 case atStart=>exact⟨0,by omega,by congr 1;omega,hro,hBs⟩
 case round=>
  clear hro hBs;obtain⟨j,hj8,rfl,hown,hbel⟩:=hrel;obtain⟨xa,xc,rfl⟩:=own_sl hown;have hBr:=hbel.size
  by_cases hlt:j<n
  ·obtain⟨i,hi⟩:∃ i:Nat,(n:Int)-1-(j:Int)=(i:Int):=⟨n-1-j,by omega⟩;have hi7:i<=7:=by omega
   rw [hi];have i1:(0:Int)<=(i:Int):=by omega
   have i2:(i:Int)<=7:=by omega
   have HT:=Nm.hide (show Nm.bys ((bigL v n).take (j+1))=Nm.bys ((bigL v n).take j)++[.int .u8 ((v:Int) / 2 ^ (8*i) % 256)] by
    have h7:n-1-j=i:=by omega
    rw [bigL_take hlt,h7])
   have HI:=Nm.hide hi;clear hi;go_wp2_with (at_builtin;refine wpList_append_own _ rfl (.tmp 14) (.tmp 21) 22 rfl w.heap.size 5 j0 (.int .u8 0) 1 1 Tryz.underlying22 hj k0 k1 k2 rfl (by decide) _ _ _ rfl (hown.alloc _) ⟨wr.heap.size,0,none⟩ 1 1 [.int .u8 ((v:Int) / 2 ^ (8*i) % 256)] rfl rfl (cell_one_new _ _ _) (Nm.one_cell _ rfl) (by unfold maxLen;omega) (by omega) (by simp;omega) ?_;intro vb wb hown8 hgrow8 hnl8;clear hnl8)
   rw [<- HT.out] at hown8;have hrow:∀ q,Value.ownBlock (.slice xa j xc)=some q->w.heap.size<=q:=fun q hq=>(hown.lt q hq).1
   have hB8:Below w.heap.size w wb:=(hbel.alloc hBr _).grown hgrow8 (by rw [World.size_alloc];omega) hrow;obtain⟨za,zc,rfl⟩:=own_sl hown8;clear hgrow8 hown hbel;have hi:=HI.out;go_roundw
   case rel=>exact⟨j+1,by omega,by go_num,hown8,hB8⟩
   case measure=>simp [intOf]
  ·obtain rfl:j=n:=by omega
   rw [List.take_of_length_le (by rw [bigL_len];omega)] at hown;have HC:=Nm.conv_own (P:=Tryz.prog) (src:=22) (dst:=9) Tryz.underlying22 Tryz.underlying5 Tryz.underlying9 hown (by omega);obtain⟨g,cap,hv',hcv⟩:=HC;cases hv'
   have hneg:¬(0:Int)<=(j:Int)-1-(j:Int):=by omega
   go_wp2;go_ret;exact⟨rfl,hbel⟩
theorem bigZ(v n:Nat):(⟨(bigL v n).toArray⟩:ByteArray).size=n:=by rw [mk_len,bigL_len]
theorem l02PutZ_any(v n:Nat)(w:World)(hv:v<=4611686018427387904)(hn1:1<=n)(hn:n<=8):
 Calls Tryz.prog 139 #[.int .i64 (v:Int),.int .i64 (n:Int)] w fun e w'=>∃ s:ByteArray,e=.returned (.string s)∧s.size=n∧Below w.heap.size w w':=
 (l02PutN_any v n w hv hn1 hn).mono fun e w' ⟨h1,h2⟩=>⟨_,h1,bigZ v n,h2⟩
def soaD(ap b:ByteArray):ByteArray:=subS [⟨#[110,115,49]⟩] ap++subS [⟨#[97,100,109,105,110]⟩] ap++b
set_option maxRecDepth 100000 in
set_option maxHeartbeats 3200000 in
theorem l05Soa_any(ap:ByteArray)(sr lo:Nat)(tt:Int)(w:World)(ha:ap.size<=1000)(hs:sr<=4294967296)(hlo:lo<=4294967296):
 Calls Tryz.prog 97 #[.string ap,.int .i64 (sr:Int),.int .i64 tt,.int .i64 (lo:Int)] w fun e w'=>∃ b:ByteArray,e=.returned (.agg #[.string ap,.int .i64 6,.int .i64 1,.int .i64 tt,.string (soaD ap b)])∧b.size=20∧Below w.heap.size w w':=by
 have hS1:∀ (W:World) (p:Nat),p=W.heap.size->Calls Tryz.prog 55 #[.slice (some ⟨p,0,none⟩) 1 1,.string ap] (W.alloc (.cells #[.string ⟨#[110,115,49]⟩] 9)) fun e w'=>∃ s:ByteArray,e=.returned (.string s)∧s=subS [⟨#[110,115,49]⟩] ap∧Below W.heap.size W w':=fun W p hp=>by
  subst hp;exact(l05SubS_any _ _ ap _ (srow1 W ⟨#[110,115,49]⟩) (by decide) (by omega)).mono fun e w' ⟨h1,h3⟩=>⟨_,h1,rfl,Nm.below_two ((Below.refl _ _).alloc (Nat.le_refl _) _) h3⟩
 have hS2:∀ (W:World) (p:Nat),p=W.heap.size->Calls Tryz.prog 55 #[.slice (some ⟨p,0,none⟩) 1 1,.string ap] (W.alloc (.cells #[.string ⟨#[97,100,109,105,110]⟩] 9)) fun e w'=>∃ s:ByteArray,e=.returned (.string s)∧s=subS [⟨#[97,100,109,105,110]⟩] ap∧Below W.heap.size W w':=fun W p hp=>by
  subst hp;exact(l05SubS_any _ _ ap _ (srow1 W ⟨#[97,100,109,105,110]⟩) (by decide) (by omega)).mono fun e w' ⟨h1,h3⟩=>⟨_,h1,rfl,Nm.below_two ((Below.refl _ _).alloc (Nat.le_refl _) _) h3⟩
 have hP1:=fun W=>l02PutZ_any sr 4 W (by omega) (by decide) (by decide)
 have hP2:=fun W=>l02PutZ_any 7200 4 W (by decide) (by decide) (by decide)
 have hP3:=fun W=>l02PutZ_any 900 4 W (by decide) (by decide) (by decide)
 have hP4:=fun W=>l02PutZ_any 86400 4 W (by decide) (by decide) (by decide)
 have hP5:=fun W=>l02PutZ_any lo 4 W (by omega) (by decide) (by decide)
 have b0:=(Below.refl w.heap.size w).alloc (Nat.le_refl _) (.cells #[.string ByteArray.empty,.int .i64 0,.int .i64 0,.int .i64 0,.string ByteArray.empty] 33);have k0:=blk_new w #[.string ByteArray.empty,.int .i64 0,.int .i64 0,.int .i64 0,.string ByteArray.empty] 33;go_enter Tryz.func97,Tryz.ntmps97;go_wp2_with fail
 refine(hS1 _ _ (by simp)).mono ?_;rintro e w1 ⟨s1,rfl,z1,b1⟩;have Z1:=Nm.hide z1;have y1:s1.size<=2000:=by rw [z1,sub_len,show Nm.wsum [(⟨#[110,115,49]⟩:ByteArray)]=4 from rfl];omega
 clear z1;have bw1:=Nm.below_two b0 b1;have k1:=blk_below k0 b1;go_wp2_with fail
 refine(hS2 _ _ (by simp)).mono ?_;rintro e w2 ⟨s2,rfl,z2,b2⟩;have Z2:=Nm.hide z2;have y2:s2.size<=2000:=by rw [z2,sub_len,show Nm.wsum [(⟨#[97,100,109,105,110]⟩:ByteArray)]=6 from rfl];omega
 clear z2;have bw2:=Nm.below_two bw1 b2;have k2:=blk_below k1 b2;go_wp2_with fail
 refine(hP1 _).mono ?_;rintro e w3 ⟨s3,rfl,z3,b3⟩;have Z3:=Nm.hide z3;have y3:s3.size<=2000:=by omega
 clear z3;have bw3:=Nm.below_two bw2 b3;have k3:=blk_below k2 b3;go_wp2_with fail
 refine(hP2 _).mono ?_;rintro e w4 ⟨s4,rfl,z4,b4⟩;have Z4:=Nm.hide z4;have y4:s4.size<=2000:=by omega
 clear z4;have bw4:=Nm.below_two bw3 b4;have k4:=blk_below k3 b4;go_wp2_with fail
 refine(hP3 _).mono ?_;rintro e w5 ⟨s5,rfl,z5,b5⟩;have Z5:=Nm.hide z5;have y5:s5.size<=2000:=by omega
 clear z5;have bw5:=Nm.below_two bw4 b5;have k5:=blk_below k4 b5;go_wp2_with fail
 refine(hP4 _).mono ?_;rintro e w6 ⟨s6,rfl,z6,b6⟩;have Z6:=Nm.hide z6;have y6:s6.size<=2000:=by omega
 clear z6;have bw6:=Nm.below_two bw5 b6;have k6:=blk_below k5 b6;go_wp2_with fail
 refine(hP5 _).mono ?_;rintro e w7 ⟨s7,rfl,z7,b7⟩;have Z7:=Nm.hide z7;have y7:s7.size<=2000:=by omega
 clear z7;have bw7:=Nm.below_two bw6 b7;have k7:=blk_below k6 b7;have fz:=fun i=>blk_frozen k7 i
 have rz:=fun i=>blk_cell k7 i
 have HD:Hid ((s3++s4++s5++s6++s7).size=20):=by
  show _=_
  simp only [ByteArray.size_append];have h3:=Z3.out;have h4:=Z4.out;have h5:=Z5.out;have h6:=Z6.out;have h7:=Z7.out;omega
 have HV:Hid (s1++s2++s3++s4++s5++s6++s7=soaD ap (s3++s4++s5++s6++s7)):=by
  show _=_
  rw [soaD,<- Z1.out,<- Z2.out];simp only [ByteArray.append_assoc]
 have kE:=setAll_new [.string ap,.int .i64 6,.int .i64 1,.int .i64 tt,.string (s1++s2++s3++s4++s5++s6++s7)] k7 rfl;have eE:setAll w7 w.heap.size 0 [.string ap,.int .i64 6,.int .i64 1,.int .i64 tt,.string (s1++s2++s3++s4++s5++s6++s7)]=(((((w7).setCell ⟨w.heap.size,0,none⟩ (.string ap)).setCell ⟨w.heap.size,1,none⟩ (.int .i64 6)).setCell ⟨w.heap.size,2,none⟩ (.int .i64 1)).setCell ⟨w.heap.size,3,none⟩ (.int .i64 tt)).setCell ⟨w.heap.size,4,none⟩ (.string (s1++s2++s3++s4++s5++s6++s7)):=rfl
 have bE:Below w.heap.size w (setAll w7 w.heap.size 0 [.string ap,.int .i64 6,.int .i64 1,.int .i64 tt,.string (s1++s2++s3++s4++s5++s6++s7)]):=by
  rw [eE];exact((((bw7.setCell (Nat.le_refl _) _).setCell (Nat.le_refl _) _).setCell (Nat.le_refl _) _).setCell (Nat.le_refl _) _).setCell (Nat.le_refl _) _
 have HE:=Nm.hide (And.intro eE (And.intro bE (fun i=>blk_cell kE i)));clear eE bE kE bw1 bw2 bw3 bw4 bw5 bw6 bw7 k0 k1 k2 k3 k4 k5 k6 k7 b0 b1 b2 b3 b4 b5 b6 b7;go_wp2;obtain⟨eE,bE,rE⟩:=HE.out;rw [<- eE];refine bodyPost_ret (v:=.agg #[.string ap,.int .i64 6,.int .i64 1,.int .i64 tt,.string (s1++s2++s3++s4++s5++s6++s7)]) ?_ rfl ⟨s3++s4++s5++s6++s7,by rw [<- HV.out],HD.out,bE⟩;simp [results,Tryz.results97,go_sem,Result.andThen,rE]
theorem ex_list(d:ByteArray)(a b:Nat):(d.extract a b).data.toList=(d.data.toList.drop a).take (b-a):=by
 simp [ByteArray.data_extract,Array.toList_extract,List.extract_eq_take_drop]
theorem nameF_app(x r:ByteArray):∀ (f i:Nat),(Dt.nameF f x i).size≠0->Dt.nameF f (x++r) i=Dt.nameF f x i:=by
 intro f
 induction f with
 |zero=>intro i h;simp [Dt.nameF] at h
 |succ f ih=>
  intro i h;rw [Dt.nameF] at h ⊢;rw [Dt.nameF]
  by_cases h1:i<x.size∧i<255
  ·rw [dif_pos h1] at h ⊢;have h2:i<(x++r).size∧i<255:=by rw [ByteArray.size_append];omega
   have hg:(x++r)[i]=x[i]:=by
    have e1:(x++r).data.toList[i]? =some (x++r)[i]:=Nm.get_data h2.1;have e2:x.data.toList[i]? =some x[i]:=Nm.get_data h1.1;rw [ByteArray.data_append,Array.toList_append,List.getElem?_append_left (by simpa using h1.1),e2] at e1;exact(Option.some.inj e1).symm
   rw [dif_pos h2,hg]
   by_cases h3:x[i].toNat=0
   ·rw [if_pos h3,if_pos h3];apply Nm.ba_ext;rw [ex_list,ex_list,ByteArray.data_append,Array.toList_append];simp only [List.drop_zero];rw [List.take_append_of_le_length (by simp;omega)]
   ·rw [if_neg h3] at h ⊢;rw [if_neg h3]
    by_cases h4:63<x[i].toNat
    ·rw [if_pos h4] at h;simp at h
    ·rw [if_neg h4] at h ⊢;rw [if_neg h4];exact ih _ h
  ·rw [dif_neg h1] at h;simp at h
theorem nameAt_app{x r:ByteArray}(h:(Nm.split x).isSome=true):Dt.nameAtS (x++r)=x:=by
 obtain⟨h1,h2⟩:=(Dt.name_iff x).1 h
 have e:Dt.nameAtS x=x:=by
  have:=Dt.name_ext x h1;rw [<- this,h2,Dt.ext_all]
 rw [Dt.nameAtS,nameF_app x r 256 0 h1];exact e
def bA(l:List UInt8):ByteArray:=⟨l.toArray⟩
def LOK:List UInt8->List ByteArray->Prop
 |[],[]=>True
 |c::cs,x::xs=>((c=110->(Nm.split x).isSome=true)∧(c=98->x.size=1))∧LOK cs xs
 |_,_=>False
theorem LOK.snoc:∀ {cs:List UInt8} {xs:List ByteArray} {c:UInt8} {x:ByteArray},LOK cs xs->(c=110->(Nm.split x).isSome=true)->(c=98->x.size=1)->LOK (cs++[c]) (xs++[x]):=by
 intro cs
 induction cs with
 |nil=>
  intro xs c x h h1 h2
  cases xs with
  |nil=>exact⟨⟨h1,h2⟩,trivial⟩
  |cons y ys=>exact absurd h (by simp [LOK])
 |cons d cs ih=>
  intro xs c x h h1 h2
  cases xs with
  |nil=>exact absurd h (by simp [LOK])
  |cons y ys=>exact⟨h.1,ih h.2 h1 h2⟩
theorem cat_cons(x:ByteArray)(xs:List ByteArray):bA (Dt.catL (x::xs))=x++bA (Dt.catL xs):=by
 apply Nm.ba_ext;simp [bA,Dt.catL]
theorem rest_of(x r:ByteArray):(x++r).extract x.size (x++r).size=r:=by
 apply Nm.ba_ext;rw [ex_list,ByteArray.data_append,Array.toList_append,List.drop_left' (by simp),ByteArray.size_append,Nat.add_sub_cancel_left,List.take_of_length_le (by simp)]
theorem head_of(x r:ByteArray):(x++r).extract 0 x.size=x:=by
 apply Nm.ba_ext;rw [ex_list,ByteArray.data_append,Array.toList_append,List.drop_zero,Nat.sub_zero,List.take_left' (by simp)]
theorem parts_drawn:∀ (cs:List UInt8) (xs:List ByteArray),LOK cs xs->(∀ c∈cs,c=110∨c=98)->Dt.parts (cs.map Dt.letP) (bA (Dt.catL xs))=some xs:=by
 intro cs
 induction cs with
 |nil=>
  intro xs h hc
  cases xs with
  |nil=>rfl
  |cons y ys=>exact absurd h (by simp [LOK])
 |cons c cs ih=>
  intro xs h hc
  cases xs with
  |nil=>exact absurd h (by simp [LOK])
  |cons x xs=>
   obtain⟨⟨h1,h2⟩,h3⟩:=h;have hi:=ih xs h3 (fun d hd=>hc d (List.mem_cons_of_mem _ hd))
   have hsz:Dt.sz (Dt.letP c) (x++bA (Dt.catL xs))=some x.size:=by
    rcases hc c (List.mem_cons_self ..) with rfl|rfl
    ·have hs:=h1 rfl;have hz:x.size≠0:=by obtain⟨k1,k2⟩:=(Dt.name_iff x).1 hs;omega
     show Dt.sz .nm _=_
     rw [Dt.sz,nameAt_app hs,if_neg hz]
    ·have hs:=h2 rfl;show Dt.sz (.bs 1) _=_
     rw [Dt.sz,if_pos (by rw [ByteArray.size_append];omega),hs]
   rw [List.map_cons,Dt.parts,cat_cons,hsz];simp only
   rw [rest_of,hi,head_of];rfl
theorem form_pointed{t:Nat}(h:pointed t):∀ c∈(Dt.formS t).data.toList,c=110∨c=98:=by
 rcases h with rfl|rfl|rfl|rfl|rfl<;>decide
theorem code_drawn{t:Nat}{xs:List ByteArray}(ht:t∈drTs)(hp:pointed t)(h:LOK (Dt.formS t).data.toList xs)(hz:(bA (Dt.catL xs)).size<=65535):cutCode t (bA (Dt.catL xs))=0:=by
 have hpt:=parts_drawn _ xs h (form_pointed hp);have hr:=drTs_ok ht;exact(code_some (by omega) (by omega) (by rw [<- Dt.forms_agree,Dt.spans_of_parts,Dt.specP,hpt];rfl)).1
end Go.Proofs.YtfmolgdfjklmpaaGreat
