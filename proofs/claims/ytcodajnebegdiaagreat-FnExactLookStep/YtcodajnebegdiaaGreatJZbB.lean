import Derived.Test.YtcodajnebegdiaaGreatJTbGI
import Derived.Test.YtcodajnebegdiaaGreatJMath
import Derived.Test.YtcodajnebegdiaaGreatJSSmall
import Derived.RegionTactic
import Derived.Test.YtcodajnebegdiaaGreatJBlocks
import Derived.WalkKit
import Derived.Test.YtcodajnebegdiaaGreatJTrN
namespace Go.Proofs.YtcodajnebegdiaaGreat
open Go.RowKit
set_option linter.unusedVariables false
def befI(a b:It):Bool:=if a.fo=b.fo then(if a.r.ty=b.r.ty then Op.bytesLess a.dt.toList b.dt.toList else decide (a.r.ty<b.r.ty)) else decide (Nm.cmpS a.fo b.fo<0)
set_option maxRecDepth 100000 in
set_option maxHeartbeats 1600000 in
theorem l06Before_any(a b:It)(w:World)(ha:a.fo.size<=maxLen)(hb:b.fo.size<=maxLen):
 Calls Tryz.prog 131 #[.agg (itC a).toArray,.agg (itC b).toArray] w fun e w'=>e=.returned (.bool (befI a b))∧Below w.heap.size w w':=by
 have hB:=((Below.refl w.heap.size w).alloc (Nat.le_refl _) (.cells (itC a).toArray 123)).alloc (by simp) (.cells (itC b).toArray 123);have hcm:=fun W=>specCompareNames_any a.fo b.fo W ha hb
 have e0:=ba_eq a.fo b.fo;obtain⟨Q,hQ⟩:∃ Q,Q=befI a b:=⟨_,rfl⟩;rw [<- hQ];unfold befI at hQ;obtain⟨⟨o,ty,cl,tt,da⟩,f1,d1,ou⟩:=a;obtain⟨⟨o2,ty2,cl2,tt2,da2⟩,f2,d2,ou2⟩:=b;simp only [itC] at*
 by_cases hf:f1=f2
 ·subst hf;rw [if_pos rfl] at hQ;have nf:(f1.toList != f1.toList)=false:=by simp
  clear e0 hcm
  by_cases ht:ty=ty2
  ·subst ht;rw [if_pos rfl] at hQ;have nt:(ty != ty)=false:=by simp
   subst hQ;go_enter Tryz.func131,Tryz.ntmps131;go_wp2;go_ret;exact⟨rfl,hB⟩
  ·rw [if_neg ht] at hQ;subst hQ;have nt:(ty != ty2)=true:=by rw [bne_iff_ne];exact ht
   go_enter Tryz.func131,Tryz.ntmps131;go_wp2;go_ret;exact⟨rfl,hB⟩
 ·rw [if_neg hf] at hQ;subst hQ;rw [decide_eq_false hf] at e0;have nf:(f1.toList != f2.toList)=true:=by rw [bne,e0];rfl
  have e9:¬f1.toList=f2.toList:=by simpa using e0
  generalize Nm.cmpS f1 f2=CC at*;go_enter Tryz.func131,Tryz.ntmps131;go_wp2_with fail
  refine(hcm _).mono ?_;rintro e w1 ⟨rfl,b1⟩;go_wp2;go_ret;exact⟨rfl,Nm.below_two hB b1⟩
def kinB(x y:It):Bool:=decide (y.fo=x.fo)&&decide (y.r.ty=x.r.ty)
def dupI(pre:List It)(x:It):Bool:=pre.any fun y=>kinB x y&&decide (y.dt=x.dt)
def mixI(pre:List It)(x:It):Bool:=match pre.find? (kinB x) with
 |some y=>decide (y.r.tt≠x.r.tt)
 |none=>false
def outI(b:Bool)(x:It):It:={x with out:=x.out||b}
def twI(l:List It):List It:=l.mapIdx fun i x=>outI (dupI (l.take i) x) x
def badI(l:List It):Int:=match firstI (fun i x=>mixI (l.take i) x) l with
 |some i=>i
 |none=> -1
theorem twI_len(l:List It):(twI l).length=l.length:=by simp [twI]
theorem twI_get{l:List It}{i:Nat}{x:It}(h:l[i]? =some x):(twI l)[i]? =some (outI (dupI (l.take i) x) x):=by
 simp [twI,h]
theorem dupI_take{l:List It}{k:Nat}{y:It}(x:It)(h:l[k]? =some y):dupI (l.take (k+1)) x=(dupI (l.take k) x||(kinB x y&&decide (y.dt=x.dt))):=by
 obtain⟨hi,e⟩:=List.getElem?_eq_some_iff.1 h;rw [List.take_succ_eq_append_getElem hi,e];simp [dupI]
theorem find_take_no{l:List It}{k:Nat}{p:It->Bool}(h:∀ (j:Nat) (y:It),j<k->l[j]? =some y->p y=false):(l.take k).find? p=none:=by
 rw [List.find?_eq_none];intro y hy;obtain⟨j,hj,e⟩:=List.getElem_of_mem hy;have hj':=hj;rw [List.length_take] at hj';have h2:l[j]? =some y:=by rw [<- e,List.getElem_take,List.getElem?_eq_getElem (by omega)]
 simp [h j y (by omega) h2]
theorem find_take_at{l:List It}{k f:Nat}{y:It}{p:It->Bool}(hf:f<k)(hy:l[f]? =some y)(hp:p y=true)(h:∀ (j:Nat) (z:It),j<f->l[j]? =some z->p z=false):(l.take k).find? p=some y:=by
 rw [List.find?_eq_some_iff_getElem];obtain⟨hl,e⟩:=List.getElem?_eq_some_iff.1 hy;refine⟨hp,f,by rw [List.length_take];omega,by rw [List.getElem_take];exact e,fun j hj=>?_⟩;rw [List.getElem_take];have:=h j l[j] hj (List.getElem?_eq_getElem (by omega));simp [this]
def midI(l:List It)(i k:Nat):List It:=(twI l).take i++(l.drop i).mapIdx fun j x=>if j=0 then outI (dupI (l.take k) x) x else x
theorem midI_len(l:List It)(i k:Nat):(midI l i k).length=l.length:=by
 simp [midI,twI_len];omega
theorem midI_lo{l:List It}{i k j:Nat}{x:It}(h:l[j]? =some x)(hj:j<i):(midI l i k)[j]? =some (outI (dupI (l.take j) x) x):=by
 have hlt:=(List.getElem?_eq_some_iff.1 h).1;rw [midI,List.getElem?_append_left (by rw [List.length_take,twI_len];omega),List.getElem?_take_of_lt hj,twI_get h]
theorem midI_at{l:List It}{i k:Nat}{x:It}(h:l[i]? =some x):(midI l i k)[i]? =some (outI (dupI (l.take k) x) x):=by
 have hlt:=(List.getElem?_eq_some_iff.1 h).1;rw [midI,List.getElem?_append_right (by rw [List.length_take,twI_len];omega)];simp [twI_len,Nat.min_eq_left (Nat.le_of_lt hlt),h]
theorem midI_hi{l:List It}{i k j:Nat}{x:It}(h:l[j]? =some x)(hj:i<j):(midI l i k)[j]? =some x:=by
 have hlt:=(List.getElem?_eq_some_iff.1 h).1;rw [midI,List.getElem?_append_right (by rw [List.length_take,twI_len];omega)];simp only [List.length_take,twI_len,Nat.min_eq_left (by omega:i<=l.length),List.getElem?_mapIdx,List.getElem?_drop];rw [show i+(j-i)=j by omega,h]
 simp;omega
theorem midI_ext{l m:List It}{i k:Nat}(hl:m.length=l.length)(h:∀ (j:Nat) (x:It),l[j]? =some x->m[j]? =(midI l i k)[j]?):m=midI l i k:=by
 apply List.ext_getElem?;intro j
 by_cases hj:j<l.length
 ·exact h j _ (List.getElem?_eq_getElem hj)
 ·rw [List.getElem?_eq_none (by omega),List.getElem?_eq_none (by rw [midI_len];omega)]
theorem midI_start(l:List It):midI l 0 0=l:=by
 symm;refine midI_ext rfl (fun j x h=>?_)
 rcases Nat.eq_zero_or_pos j with rfl|hj
 ·rw [midI_at h,h];simp [outI,dupI]
 ·rw [midI_hi h hj,h]
theorem midI_next{l:List It}{i:Nat}(hi:i<l.length):midI l i i=midI l (i+1) 0:=by
 refine midI_ext (midI_len _ _ _) (fun j x h=>?_)
 by_cases h1:j<i
 ·rw [midI_lo h h1,midI_lo h (by omega)]
 ·by_cases h2:j=i
  ·subst h2;rw [midI_at h,midI_lo h (by omega)]
  ·by_cases h3:j=i+1
   ·subst h3;rw [midI_hi h (by omega),midI_at h];simp [outI,dupI]
   ·rw [midI_hi h (by omega),midI_hi h (by omega)]
theorem midI_end{l:List It}:midI l l.length 0=twI l:=by
 symm;refine midI_ext (twI_len l) (fun j x h=>?_);have hlt:=(List.getElem?_eq_some_iff.1 h).1;rw [midI_lo h hlt,twI_get h]
theorem midI_same{l:List It}{i k:Nat}{x y:It}(hx:l[i]? =some x)(hy:l[k]? =some y)(h:(kinB x y&&decide (y.dt=x.dt))=false):midI l i (k+1)=midI l i k:=by
 refine midI_ext (midI_len _ _ _) (fun j z hz=>?_)
 by_cases h1:j<i
 ·rw [midI_lo hz h1,midI_lo hz h1]
 ·by_cases h2:j=i
  ·subst h2;rw [hx] at hz;obtain rfl:=Option.some.inj hz;rw [midI_at hx,midI_at hx,dupI_take x hy,h,Bool.or_false]
  ·rw [midI_hi hz (by omega),midI_hi hz (by omega)]
theorem midI_out{l:List It}{i k:Nat}{x y:It}(hx:l[i]? =some x)(hy:l[k]? =some y)(h:(kinB x y&&decide (y.dt=x.dt))=true):(midI l i k).set i {x with out:=true}=midI l i (k+1):=by
 refine midI_ext (by rw [List.length_set,midI_len]) (fun j z hz=>?_);have hlt:=(List.getElem?_eq_some_iff.1 hx).1;rw [List.getElem?_set]
 by_cases h1:j<i
 ·rw [if_neg (by omega),midI_lo hz h1,midI_lo hz h1]
 ·by_cases h2:j=i
  ·subst h2;rw [hx] at hz;obtain rfl:=Option.some.inj hz;rw [if_pos rfl,if_pos (by rw [midI_len];exact hlt),midI_at hx,dupI_take x hy,h,Bool.or_true,outI,Bool.or_true]
  ·rw [if_neg (by omega),midI_hi hz (by omega),midI_hi hz (by omega)]
theorem itCs_set:∀ (l:List It) (i:Nat) (x:It),l[i]? =some x->(itCs l).set (i*8+7) (.bool true)=itCs (l.set i {x with out:=true}):=by
 intro l
 induction l with
 |nil=>intro i x h;simp at h
 |cons y l ih=>
  intro i x h;have e:∀ z zs,itCs (z::zs)=itC z++itCs zs:=by intro z zs;simp [itCs]
  cases i with
  |zero=>
   simp at h;subst h;rw [List.set_cons_zero,e,e,List.set_append_left _ _ (by simp [itC])]
   rfl
  |succ i=>
   simp at h;have hl:(itC y).length=8:=rfl;rw [List.set_cons_succ,e,e,List.set_append_right _ _ (by omega),hl,show(i+1)*8+7-8=i*8+7 by omega,ih i x h]
def sortF:Nat->List It->List It
 |0,l=>l
 |n+1,l=>if l.length<2 then l else List.merge (sortF n (l.take (l.length / 2))) (sortF n (l.drop (l.length / 2))) befI
def sortI(l:List It):List It:=sortF l.length l
theorem sortF_small{n:Nat}{l:List It}(h:l.length<2):sortF n l=l:=by
 cases n with
 |zero=>rfl
 |succ n=>rw [sortF,if_pos h]
theorem sortF_big{n:Nat}{l:List It}(h:¬l.length<2):sortF (n+1) l=List.merge (sortF n (l.take (l.length / 2))) (sortF n (l.drop (l.length / 2))) befI:=by rw [sortF,if_neg h]
theorem sortF_perm:∀ (n:Nat) (l:List It),(sortF n l).Perm l:=by
 intro n
 induction n with
 |zero=>intro l;exact .refl _
 |succ n ih=>
  intro l
  by_cases h:l.length<2
  ·rw [sortF_small h]
  ·rw [sortF_big h];have h1:(List.merge (sortF n (l.take (l.length / 2))) (sortF n (l.drop (l.length / 2))) befI).Perm (sortF n (l.take (l.length / 2))++sortF n (l.drop (l.length / 2))):=List.merge_perm_append _;refine h1.trans ?_;refine((ih _).append (ih _)).trans ?_;rw [List.take_append_drop]
theorem sortF_len(n:Nat)(l:List It):(sortF n l).length=l.length:=(sortF_perm n l).length_eq
theorem sortF_mem{n:Nat}{l:List It}{x:It}:x∈sortF n l↔x∈l:=(sortF_perm n l).mem_iff
theorem itCs_take(l:List It)(h:Nat):itCs (l.take h)=(itCs l).take (h*8):=by
 induction l generalizing h with
 |nil=>simp [itCs]
 |cons x l ih=>
  have e:∀ z zs,itCs (z::zs)=itC z++itCs zs:=by intro z zs;simp [itCs]
  have hl:(itC x).length=8:=rfl
  cases h with
  |zero=>simp [itCs]
  |succ h=>
   rw [List.take_succ_cons,e,e,ih,List.take_append,hl,List.take_of_length_le (l:=itC x) (i:=(h+1)*8) (by omega),show(h+1)*8-8=h*8 by omega]
theorem itCs_drop(l:List It)(h:Nat):itCs (l.drop h)=(itCs l).drop (h*8):=by
 induction l generalizing h with
 |nil=>simp [itCs]
 |cons x l ih=>
  have e:∀ z zs,itCs (z::zs)=itC z++itCs zs:=by intro z zs;simp [itCs]
  have hl:(itC x).length=8:=rfl
  cases h with
  |zero=>simp
  |succ h=>
   rw [List.drop_succ_cons,e,ih,List.drop_append,hl,List.drop_of_length_le (l:=itC x) (i:=(h+1)*8) (by omega),show(h+1)*8-8=h*8 by omega,List.nil_append]
theorem cr_take{w:World}{b off n cap h:Nat}{l:List It}(hr:CRow w (.slice (some ⟨b,off,none⟩) n cap) l.length 8 (itCs l))(hh:h<=l.length):CRow w (.slice (some ⟨b,off,none⟩) h cap) (l.take h).length 8 (itCs (l.take h)):=by
 obtain⟨h0,a,c,e,h1,h2,h3⟩:=hr;simp only [Value.slice.injEq] at e;obtain⟨rfl,rfl,rfl⟩:=e;have hl:(l.take h).length=h:=by rw [List.length_take];omega
 rw [hl];refine⟨by rw [itCs_len,hl],_,_,rfl,by omega,h2,fun hp=>⟨b,off,rfl,fun i x hx=>?_⟩⟩;rw [itCs_take] at hx;obtain⟨b',off',e,hc⟩:=h3 (by omega);cases e
 refine hc i x ?_;rw [List.getElem?_take] at hx
 split at hx
 ·exact hx
 ·cases hx
theorem cr_drop{w:World}{b off n cap h:Nat}{l:List It}(hr:CRow w (.slice (some ⟨b,off,none⟩) n cap) l.length 8 (itCs l))(hh:h<l.length):CRow w (.slice (some ⟨b,off+h*8,none⟩) (l.length-h) (cap-h)) (l.drop h).length 8 (itCs (l.drop h)):=by
 obtain⟨h0,a,c,e,h1,h2,h3⟩:=hr;simp only [Value.slice.injEq] at e;obtain⟨rfl,rfl,rfl⟩:=e;have hl:(l.drop h).length=l.length-h:=List.length_drop;rw [hl];refine⟨by rw [itCs_len,hl],_,_,rfl,by omega,by omega,fun hp=>⟨b,off+h*8,rfl,fun i x hx=>?_⟩⟩;rw [itCs_drop,List.getElem?_drop] at hx;obtain⟨b',off',e,hc⟩:=h3 (by omega);cases e
 have:=hc (h*8+i) x hx;rw [Nat.add_assoc];exact this
theorem merge_left{a b:List It}{i:Nat}{x:It}(hx:a[i]? =some x):List.merge (a.drop i) (b.drop b.length) befI=x::List.merge (a.drop (i+1)) (b.drop b.length) befI:=by
 obtain⟨hi,e⟩:=List.getElem?_eq_some_iff.1 hx;rw [List.drop_length,List.merge_right,List.merge_right,List.drop_eq_getElem_cons hi,e]
theorem merge_one{a b:List It}{i k:Nat}{x y:It}(hx:a[i]? =some x)(hy:b[k]? =some y)(h:befI x y=true):List.merge (a.drop i) (b.drop k) befI=x::List.merge (a.drop (i+1)) (b.drop k) befI:=by
 obtain⟨hi,e⟩:=List.getElem?_eq_some_iff.1 hx;obtain⟨hk,e2⟩:=List.getElem?_eq_some_iff.1 hy;rw [List.drop_eq_getElem_cons hi,e,List.drop_eq_getElem_cons hk,e2,List.cons_merge_cons,if_pos h]
theorem merge_two{a b:List It}{i k:Nat}{x y:It}(hx:a[i]? =some x)(hy:b[k]? =some y)(h:befI x y=false):List.merge (a.drop i) (b.drop k) befI=y::List.merge (a.drop i) (b.drop (k+1)) befI:=by
 obtain⟨hi,e⟩:=List.getElem?_eq_some_iff.1 hx;obtain⟨hk,e2⟩:=List.getElem?_eq_some_iff.1 hy;rw [List.drop_eq_getElem_cons hi,e,List.drop_eq_getElem_cons hk,e2,List.cons_merge_cons,if_neg (by simp [h])]
theorem merge_right'{a b:List It}{k:Nat}{y:It}(hy:b[k]? =some y):List.merge (a.drop a.length) (b.drop k) befI=y::List.merge (a.drop a.length) (b.drop (k+1)) befI:=by
 obtain⟨hk,e⟩:=List.getElem?_eq_some_iff.1 hy;rw [List.drop_length,List.nil_merge,List.nil_merge,List.drop_eq_getElem_cons hk,e]
def RB(w:World)(g:Nat)(r:Rr):Prop:=w.cell? ⟨g,0,none⟩=some (.string r.own)∧w.cell? ⟨g,1,none⟩=some (.int .i64 r.ty)∧w.cell? ⟨g,2,none⟩=some (.int .i64 r.cl)∧w.cell? ⟨g,3,none⟩=some (.int .i64 r.tt)∧w.cell? ⟨g,4,none⟩=some (.string r.da)
theorem RB.below{w W:World}{g:Nat}{r:Rr}(h:RB w g r)(hb:Below w.heap.size w W):RB W g r:=by
 obtain⟨a,b,c,d,e⟩:=h;have put:∀ {O:Nat} {z:Value},w.cell? ⟨g,O,none⟩=some z->W.cell? ⟨g,O,none⟩=some z:=fun h=>(hb.cell (World.block_lt_of_cell? w _ h)).trans h
 exact⟨put a,put b,put c,put d,put e⟩
theorem RB.new(w:World)(r:Rr)(t:Nat):RB (w.alloc (.cells #[.string r.own,.int .i64 r.ty,.int .i64 r.cl,.int .i64 r.tt,.string r.da] t)) w.heap.size r:=by
 refine⟨?_,?_,?_,?_,?_⟩<;>simp
end Go.Proofs.YtcodajnebegdiaaGreat
namespace Go.Proofs.YtcodajnebegdiaaGreat
open Go.RowKit
set_option maxRecDepth 100000 in
set_option maxHeartbeats 400000 in
theorem specNameOK_any(s:ByteArray)(w:World)(hs:s.size<=maxLen):
 Calls Tryz.prog 21 #[.string s] w fun e w'=>e=.returned (.bool (Nm.split s).isSome)∧Below w.heap.size w w':=by
 go_enter Tryz.func21,Tryz.ntmps21;go_wp2_with (go_at_call 39;refine(l01Split_any s _ hs).mono ?_;rintro e w1 ⟨v,rfl,hown,hbel⟩)
 go_ret;exact⟨rfl,by assumption⟩
end Go.Proofs.YtcodajnebegdiaaGreat
namespace Go.Proofs.YtcodajnebegdiaaGreat
open Go.RowKit
set_option linter.unusedVariables false
set_option maxRecDepth 100000 in
set_option maxHeartbeats 400000 in
theorem within_any(n m:Int)(w:World):Calls Tryz.prog 51 #[.int .i64 n,.int .i64 m] w fun e w'=>e=.returned (.bool (decide (0<=n)&&decide (n<=m)))∧w'=w:=by
 by_cases h0:0<=n
 ·by_cases h1:n<=m
  ·have e:(decide (0<=n)&&decide (n<=m))=true:=by simp [h0,h1]
   rw [e];clear e;go_enter Tryz.func51,Tryz.ntmps51;go_wp2;go_ret;exact⟨rfl,rfl⟩
  ·have h1':m<n:=by omega
   have e:(decide (0<=n)&&decide (n<=m))=false:=by simp [h0,h1]
   rw [e];clear e;go_enter Tryz.func51,Tryz.ntmps51;go_wp2;go_ret;exact⟨rfl,rfl⟩
 ·have h0':n<0:=by omega
  have e:(decide (0<=n)&&decide (n<=m))=false:=by simp [h0]
  rw [e];clear e;go_enter Tryz.func51,Tryz.ntmps51;go_wp2;go_ret;exact⟨rfl,rfl⟩
set_option maxRecDepth 100000 in
set_option maxHeartbeats 400000 in
theorem l04In_any(n m:Int)(w:World):Calls Tryz.prog 122 #[.int .i64 n,.int .i64 m] w fun e w'=>e=.returned (.bool (decide (0<=n)&&decide (n<=m)))∧w'=w:=by
 by_cases h0:0<=n
 ·by_cases h1:n<=m
  ·have e:(decide (0<=n)&&decide (n<=m))=true:=by simp [h0,h1]
   rw [e];clear e;go_enter Tryz.func122,Tryz.ntmps122;go_wp2;go_ret;exact⟨rfl,rfl⟩
  ·have h1':m<n:=by omega
   have e:(decide (0<=n)&&decide (n<=m))=false:=by simp [h0,h1]
   rw [e];clear e;go_enter Tryz.func122,Tryz.ntmps122;go_wp2;go_ret;exact⟨rfl,rfl⟩
 ·have h0':n<0:=by omega
  have e:(decide (0<=n)&&decide (n<=m))=false:=by simp [h0]
  rw [e];clear e;go_enter Tryz.func122,Tryz.ntmps122;go_wp2;go_ret;exact⟨rfl,rfl⟩
def metaB(t:Int):Bool:=t==0||t==41||(decide (249<=t)&&decide (t<=255))
set_option maxRecDepth 100000 in
set_option maxHeartbeats 400000 in
theorem isMeta_any(t:Int)(w:World):Calls Tryz.prog 195 #[.int .i64 t] w fun e w'=>e=.returned (.bool (metaB t))∧w'=w:=by
 by_cases h0:t=0
 ·subst h0;go_enter Tryz.func195,Tryz.ntmps195;go_wp2;go_ret;exact⟨rfl,rfl⟩
 ·have e0:(t==0)=false:=by rw [beq_eq_false_iff_ne];exact h0
  by_cases h1:t=41
  ·subst h1;go_enter Tryz.func195,Tryz.ntmps195;go_wp2;go_ret;exact⟨rfl,rfl⟩
  ·have e1:(t==41)=false:=by rw [beq_eq_false_iff_ne];exact h1
   by_cases h2:249<=t
   ·by_cases h3:t<=255
    ·have HM:Hid (metaB t=true):=by show _=_;simp [metaB,h2,h3]
     go_enter Tryz.func195,Tryz.ntmps195;go_wp2;go_ret;rw [HM.out];exact⟨rfl,rfl⟩
    ·have h3':255<t:=by omega
     have HM:Hid (metaB t=false):=by show _=_;simp [metaB,h0,h1];omega
     go_enter Tryz.func195,Tryz.ntmps195;go_wp2;go_ret;rw [HM.out];exact⟨rfl,rfl⟩
   ·have h2':t<249:=by omega
    have HM:Hid (metaB t=false):=by show _=_;simp [metaB,h0,h1];omega
    go_enter Tryz.func195,Tryz.ntmps195;go_wp2;go_ret;rw [HM.out];exact⟨rfl,rfl⟩
set_option maxRecDepth 100000 in
set_option maxHeartbeats 400000 in
theorem l05Meta_any(t:Int)(w:World):Calls Tryz.prog 123 #[.int .i64 t] w fun e w'=>e=.returned (.bool (metaB t))∧w'=w:=by
 by_cases h0:t=0
 ·subst h0;go_enter Tryz.func123,Tryz.ntmps123;go_wp2;go_ret;exact⟨rfl,rfl⟩
 ·have e0:(t==0)=false:=by rw [beq_eq_false_iff_ne];exact h0
  by_cases h1:t=41
  ·subst h1;go_enter Tryz.func123,Tryz.ntmps123;go_wp2;go_ret;exact⟨rfl,rfl⟩
  ·have e1:(t==41)=false:=by rw [beq_eq_false_iff_ne];exact h1
   by_cases h2:249<=t
   ·by_cases h3:t<=255
    ·have HM:Hid (metaB t=true):=by show _=_;simp [metaB,h2,h3]
     go_enter Tryz.func123,Tryz.ntmps123;go_wp2;go_ret;rw [HM.out];exact⟨rfl,rfl⟩
    ·have h3':255<t:=by omega
     have HM:Hid (metaB t=false):=by show _=_;simp [metaB,h0,h1];omega
     go_enter Tryz.func123,Tryz.ntmps123;go_wp2;go_ret;rw [HM.out];exact⟨rfl,rfl⟩
   ·have h2':t<249:=by omega
    have HM:Hid (metaB t=false):=by show _=_;simp [metaB,h0,h1];omega
    go_enter Tryz.func123,Tryz.ntmps123;go_wp2;go_ret;rw [HM.out];exact⟨rfl,rfl⟩
end Go.Proofs.YtcodajnebegdiaaGreat
namespace Go.Proofs.YtcodajnebegdiaaGreat
open Go.RowKit
theorem nok_true{s:ByteArray}(h:(Nm.split s).isSome=true):Dt.sz .nm s=some s.size:=by
 obtain⟨h1,h2⟩:=(Dt.name_iff s).1 h;rw [Dt.sz,if_neg h1,h2]
theorem nok_false{s:ByteArray}(h:(Nm.split s).isSome=false):Dt.sz .nm s=none∨∃ n,Dt.sz .nm s=some n∧n≠s.size:=by
 by_cases h0:(Dt.nameAtS s).size=0
 ·left;rw [Dt.sz,if_pos h0]
 ·right;refine⟨_,by rw [Dt.sz,if_neg h0],?_⟩;intro e;rw [(Dt.name_iff s).2 ⟨h0,e⟩] at h;simp at h
set_option maxRecDepth 100000 in
set_option maxHeartbeats 400000 in
theorem implNameOK_same(s:ByteArray)(w:World):
 Calls Tryz.prog 99 #[.string s] w fun e w'=>e=.returned (.bool (Nm.split s).isSome)∧w'=w:=by
 have hcall:=nameSize_any s
 cases hq:(Nm.split s).isSome with
 |true=>
  rw [nok_true hq] at hcall;simp only [szV,Option.getD_some,Option.isSome_some] at hcall;clear hq;go_enter Tryz.func99,Tryz.ntmps99;go_wp2_with (go_at_call 145;refine(hcall _).mono ?_;rintro e w1 ⟨rfl,rfl⟩)
  go_ret
  exact⟨rfl,rfl⟩
 |false=>
  rcases nok_false hq with h|⟨n,h,hn⟩
  ·rw [h] at hcall;simp only [szV,Option.getD_none,Option.isSome_none] at hcall;clear hq h;go_enter Tryz.func99,Tryz.ntmps99;go_wp2_with (go_at_call 145;refine(hcall _).mono ?_;rintro e w1 ⟨rfl,rfl⟩)
   go_ret;exact⟨rfl,rfl⟩
  ·rw [h] at hcall;simp only [szV,Option.getD_some,Option.isSome_some] at hcall;have hb:((n:Int)==(s.size:Int))=false:=by rw [beq_eq_false_iff_ne];omega
   have hb2:(n==s.size)=false:=by rw [beq_eq_false_iff_ne];omega
   clear hq h;go_enter Tryz.func99,Tryz.ntmps99;go_wp2_with (go_at_call 145;refine(hcall _).mono ?_;rintro e w1 ⟨rfl,rfl⟩)
   go_ret;exact⟨rfl,rfl⟩
end Go.Proofs.YtcodajnebegdiaaGreat
namespace Go.Proofs.YtcodajnebegdiaaGreat
open Go.RowKit
set_option maxRecDepth 100000 in
set_option maxHeartbeats 800000 in
theorem splitName_any(s:ByteArray)(w:World)(_:s.size<=maxLen):
 Calls Tryz.prog 50 #[.string s] w fun e w'=>∃ v,e=.returned (.tuple #[v,.bool (Nm.split s).isSome])∧
  w'.ownsRow w.heap.size 9 1 v ((Nm.split s).getD []).length (((Nm.split s).getD []).map Value.string)∧Below w.heap.size w w':=by
 obtain⟨i0,hi,hz0,hz1,hz2⟩:=info_parts Tryz.infoStr;have hcall:=implNameOK_same s
 cases hq:Nm.split s with
 |none=>
  rw [hq] at hcall;simp only [Option.isSome_none] at hcall;clear hq;go_enter Tryz.func50,Tryz.ntmps50;go_wp2_with (go_at_call 99;refine(hcall _).mono ?_;rintro e w1 ⟨rfl,hw⟩;obtain rfl:w=w1:=hw.symm;clear hw)
  go_ret2
  exact⟨_,rfl,World.ownsRow_nil _ _ _ _,Below.refl _ _⟩
 |some L=>
  have hz:=Nm.split_size hq;have hst:=Nm.at_start s hz.2;have HQ:=Nm.hide hq;rw [hq] at hcall;simp only [Option.isSome_some] at hcall;clear hq;have hz2':=hz.2;clear hz;go_enter Tryz.func50,Tryz.ntmps50;go_wp2_with (go_at_call 99;refine(hcall _).mono ?_;rintro e w1 ⟨rfl,hw⟩;obtain rfl:w=w1:=hw.symm;clear hw)
  go_loopw [4,5] (fun v x wr=>∃ (ls:List ByteArray) (r:ByteArray),x=.string r∧Nm.At s ls r∧ls.length+r.size<=255∧wr.ownsRow w.heap.size 9 1 v ls.length (ls.map Value.string)∧Below w.heap.size w wr)
   (fun _ x _=>match x with|.string r=>r.size|_=>0)
  case atStart=>exact⟨[],s,rfl,hst,by simp;omega,World.ownsRow_nil _ _ _ _,Below.refl _ _⟩
  case round=>
   obtain⟨ls,r,rfl,hat,hb,hown,hbel⟩:=hrel;clear hst;have hq:=HQ.out
   by_cases h0:r.size=0
   ·rw [Nm.at_empty hat h0] at hq;simp at hq
   ·have hp:0<r.size:=by omega
    have hn:(r[0].toNat:Int)<256:=by have:=r[0].toNat_lt;omega
    by_cases h1:r.size=1∧r[0].toNat=0
    ·have hL:L=ls:=by
      have:=Nm.at_end hat hp h1.2 h1.1;rw [hq] at this;simpa using this
     have e1:=Nm.tl_one hp h1.1 h1.2;have e1':(r.toList != [0])=false:=by rw [bne,e1];rfl
     clear h1 hq HQ;go_wp2;go_ret2;rw [hL];exact⟨_,rfl,hown,hbel⟩
    ·have e1:=Nm.tl_not_one hp h1;have e1':(r.toList != [0])=true:=by rw [bne,e1];rfl
     by_cases h2:r[0].toNat=0
     ·rw [Nm.at_zero hat hp h2 (fun h=>h1 ⟨h,h2⟩)] at hq;simp at hq
     ·by_cases h3:63<r[0].toNat∨r.size<r[0].toNat+1
      ·rw [Nm.at_bad hat hp h2 h3] at hq;simp at hq
      ·have e4:(r[0].toNat:Int)<=63:=by omega
       have e5:(r[0].toNat:Int)+1<=(r.size:Int):=by omega
       have e5':1+r[0].toNat<=r.size:=by omega
       have hi0:(0:Int)<(r.size:Int):=by omega
       have HN:Hid (Nm.At s (ls++[r.extract 1 (r[0].toNat+1)]) (r.extract (r[0].toNat+1) r.size)):=Nm.at_step hat hp h2 (by omega) (by omega);have hsz:=hbel.size;clear h2 h1 h0 h3 hq HQ;go_wp2_with (at_builtin;refine wpList_append_own _ rfl (.tmp 16) (.tmp 21) 53 rfl w.heap.size 9 i0 (.string ByteArray.empty) 1 16 Tryz.underlying53 hi hz0 hz1 hz2 rfl (by decide) _ _ _ rfl (hown.alloc _) ⟨wr.heap.size,0,none⟩ 1 1 [.string (r.extract 1 (1+r[0].toNat))] rfl rfl (cell_new1 _ _ _) (Nm.one_cell _ rfl) (by unfold maxLen;omega) (by omega) (by simp;omega) ?_)
       intro v' w1 hown' hgrow _;have R:=own_step hsz hown hbel _ hown' hgrow;clear hown' hgrow hown hbel;go_wp2;go_roundw
       case rel=>exact⟨_,_,rfl,by simpa [Nat.add_comm] using HN.out,by simp;omega,R.1,R.2⟩
       case measure=>simp;omega
end Go.Proofs.YtcodajnebegdiaaGreat
namespace Go.Proofs.YtcodajnebegdiaaGreat
open Go.RowKit
theorem under_short{xs ys:List ByteArray}(h:xs.length<ys.length):underB xs ys=false:=by
 rw [underB,decide_eq_false (by omega)];rfl
theorem under_long{xs ys:List ByteArray}(h:ys.length<=xs.length):underB xs ys=decide (Nm.cmpLs (xs.drop (xs.length-ys.length)) ys=0):=by
 rw [underB,decide_eq_true h];rfl
set_option maxRecDepth 100000 in
set_option maxHeartbeats 800000 in
theorem under_any(v u:Value)(xs ys:List ByteArray)(w:World)(h:Nm.SRow w v xs)(h':Nm.SRow w u ys)(hxs:∀ x∈xs,x.size<=1000000000)(hlx:xs.length<=1000000000)(hly:ys.length<=1000000000):
 Calls Tryz.prog 52 #[v,u] w fun e w'=>e=.returned (.bool (underB xs ys))∧∃ m,w'=w.drewN m:=by
 have hrow:=h;obtain⟨a,cap,rfl,hcap,hmx,hnl,hc⟩:=h;have hu:=h';obtain⟨a',cap',rfl,hcap',hmx',hnl',hc'⟩:=h';clear hc hc' hnl hnl'
 by_cases hl:xs.length<ys.length
 ·have HA:=Nm.hide (under_short hl);have hd:decide ((0:Int)<=(xs.length:Int)-(ys.length:Int))=false:=by simp;omega
  have hd':(xs.length:Int)-(ys.length:Int)<0:=by omega
  clear hrow hu;go_enter Tryz.func52,Tryz.ntmps52;go_wp2;go_ret;rw [HA.out];exact⟨rfl,0,rfl⟩
 ·have HA:=Nm.hide (under_long (xs:=xs) (ys:=ys) (by omega));obtain⟨d,hd⟩:∃ d,d=xs.length-ys.length:=⟨_,rfl⟩;rw [<- hd] at HA;have hq:(xs.length:Int)-(ys.length:Int)=(d:Int):=by omega
  have hdl:d<=xs.length:=by omega
  have hg:decide ((0:Int)<=(d:Int))=true:=by simp
  have hcmp:=fun V hr=>compare_any V (.slice a' ys.length cap') (xs.drop d) ys w hr hu (fun x hx=>hxs x (List.mem_of_mem_drop hx)) (by rw [List.length_drop];omega) hly
  have hd1:=fun e:cap=d=>hrow.drop_all e
  have hd2:=hrow.drop (k:=d) hdl;generalize Nm.cmpLs (xs.drop d) ys=o at*;have HD:Hid ((o==0)=decide (o=0)):=by show _=_;rw [Bool.eq_iff_iff];simp
  clear hd hl hxs hrow hu
  by_cases hck:cap=d
  ·have Hc:=hcmp _ (hd1 hck);clear hcmp hd1 hd2;subst hck;rw [show xs.length-cap=0 by omega] at Hc;go_enter Tryz.func52,Tryz.ntmps52;go_wp2_with fail
   refine Hc.mono ?_;rintro e w1 ⟨rfl,m,rfl⟩;go_wp2;go_ret;rw [HA.out,<- HD.out];exact⟨rfl,_,rfl⟩
  ·have Hc:=hcmp _ hd2;clear hcmp hd1 hd2;go_enter Tryz.func52,Tryz.ntmps52;go_wp2_with fail
   refine Hc.mono ?_;rintro e w1 ⟨rfl,m,rfl⟩;go_wp2;go_ret;rw [HA.out,<- HD.out];exact⟨rfl,_,rfl⟩
end Go.Proofs.YtcodajnebegdiaaGreat
namespace Go.Proofs.YtcodajnebegdiaaGreat
open Go.RowKit
set_option maxRecDepth 100000 in
set_option maxHeartbeats 800000 in
theorem specSameName_any(a b:ByteArray)(w:World)(ha:a.size<=maxLen)(hb:b.size<=maxLen):
 Calls Tryz.prog 90 #[.string a,.string b] w fun e w'=>e=.returned (.bool (sameS a b))∧Below w.heap.size w w':=by
 have hsa:=specFoldName_any a w ha;have hsb:=fun W=>specFoldName_any b W hb
 cases hqa:Nm.split a with
 |none=>
  have HA:=Nm.hide (same_left (b:=b) hqa);rw [Nm.foldS_none hqa] at hsa;have he:(ByteArray.empty).toList.isEmpty=true:=Nm.tl_empty rfl;clear hqa;go_enter Tryz.func90,Tryz.ntmps90;go_wp2_with fail
  refine hsa.mono ?_;rintro e w1 ⟨rfl,hbel⟩;go_wp2;go_ret;rw [HA.out]
  exact⟨rfl,hbel⟩
 |some xs=>
  rw [Nm.foldS_some hqa] at hsa;have he:=small_pos hqa
  cases hqb:Nm.split b with
  |none=>
   have HA:=Nm.hide (same_right (a:=a) hqb);rw [Nm.foldS_none hqb] at hsb
   have hne:((Nm.small a).toList==(ByteArray.empty).toList)=false:=by
    rw [beq_eq_false_iff_ne];intro e;rw [e] at he;rw [Nm.tl_empty rfl] at he;simp at he
   clear hqa hqb;generalize Nm.small a=x at*;go_enter Tryz.func90,Tryz.ntmps90;go_wp2_with fail
   refine hsa.mono ?_;rintro e w1 ⟨rfl,hbel⟩;go_wp2_with fail
   refine(hsb _).mono ?_;rintro e w2 ⟨rfl,hbel2⟩;go_wp2;go_ret;rw [HA.out]
   exact⟨rfl,Nm.below_two hbel hbel2⟩
  |some ys=>
   have HA:=Nm.hide (same_some hqa hqb);have HE:=Nm.hide (small_eq a b);rw [Nm.foldS_some hqb] at hsb;clear hqa hqb;generalize Nm.small a=x at*;generalize Nm.small b=y at*;go_enter Tryz.func90,Tryz.ntmps90;go_wp2_with fail
   refine hsa.mono ?_;rintro e w1 ⟨rfl,hbel⟩;go_wp2_with fail
   refine(hsb _).mono ?_;rintro e w2 ⟨rfl,hbel2⟩;go_wp2;go_ret;rw [HA.out,<- HE.out];exact⟨rfl,Nm.below_two hbel hbel2⟩
end Go.Proofs.YtcodajnebegdiaaGreat
namespace Go.Proofs.YtcodajnebegdiaaGreat
open Go.RowKit
set_option maxRecDepth 100000 in
set_option maxHeartbeats 800000 in
theorem specIsUnder_any(a b:ByteArray)(w:World)(ha:a.size<=maxLen)(hb:b.size<=maxLen):
 Calls Tryz.prog 86 #[.string a,.string b] w fun e w'=>e=.returned (.bool (isUnderS a b))∧Below w.heap.size w w':=by
 have hsa:=l01Split_any a w ha;have hsb:=fun W=>l01Split_any b W hb
 cases hqa:Nm.split a with
 |none=>
  have HA:=Nm.hide (isUnder_left (b:=b) hqa);rw [hqa] at hsa;clear hqa;go_enter Tryz.func86,Tryz.ntmps86;go_wp2_with fail
  refine hsa.mono ?_;rintro e w1 ⟨v,rfl,hown,hbel⟩;go_wp2_with fail
  refine(hsb _).mono ?_;rintro e w2 ⟨v2,rfl,hown2,hbel2⟩;go_wp2;go_ret;rw [HA.out]
  exact⟨rfl,Nm.below_two hbel hbel2⟩
 |some xs=>
  rw [hqa] at hsa
  cases hqb:Nm.split b with
  |none=>
   have HA:=Nm.hide (isUnder_right (a:=a) hqb);rw [hqb] at hsb;clear hqa hqb;go_enter Tryz.func86,Tryz.ntmps86;go_wp2_with fail
   refine hsa.mono ?_;rintro e w1 ⟨v,rfl,hown,hbel⟩;go_wp2_with fail
   refine(hsb _).mono ?_;rintro e w2 ⟨v2,rfl,hown2,hbel2⟩;go_wp2;go_ret;rw [HA.out]
   exact⟨rfl,Nm.below_two hbel hbel2⟩
  |some ys=>
   have HA:=Nm.hide (isUnder_some hqa hqb);have hund:=under_same hqa hqb;have hza:=Nm.split_size hqa;have hzb:=Nm.split_size hqb;have hla:=Nm.length_le_wsum xs;have hlb:=Nm.length_le_wsum ys;rw [hqb] at hsb;clear hqa hqb;go_enter Tryz.func86,Tryz.ntmps86;go_wp2_with fail
   refine hsa.mono ?_;rintro e w1 ⟨v,rfl,hown,hbel⟩;go_wp2_with fail
   refine(hsb _).mono ?_;rintro e w2 ⟨v2,rfl,hown2,hbel2⟩;have r1:=(Nm.SRow.of_owns hown).below hbel2;have r2:=Nm.SRow.of_owns hown2;simp only [Option.getD_some] at r1 r2;have hbw:=Nm.below_two hbel hbel2;obtain⟨a1,cap1,rfl,hcap1,hmx1,hnl1,hc1⟩:=r1;obtain⟨a2,cap2,rfl,hcap2,hmx2,hnl2,hc2⟩:=r2;have hrow:Nm.SRow w2 (.slice a1 xs.length cap1) xs:=⟨a1,cap1,rfl,hcap1,hmx1,hnl1,hc1⟩;clear hown hown2 hsa hsb hnl1 hnl2 hbel hbel2 hc1 hc2
   by_cases hl:xs.length<ys.length
   ·have HU:=Nm.hide (under_short hl);have hd:decide (xs.length<ys.length)=true:=by simpa using hl
    clear hrow;go_wp2;go_ret;rw [HA.out,HU.out];exact⟨rfl,hbw⟩
   ·have HU:=Nm.hide (hund (by omega))
    have hss:=fun W=>specSameName_any ⟨(Nm.joinL (xs.drop (xs.length-ys.length))).toArray⟩ b W (by
     show(Nm.joinL (xs.drop (xs.length-ys.length))).toArray.size<=maxLen
     rw [List.size_toArray,Nm.joinL_length];have:=Nm.wsum_drop_le xs (xs.length-ys.length);unfold maxLen
     omega) hb
    obtain⟨d,hd⟩:∃ d,d=xs.length-ys.length:=⟨_,rfl⟩;rw [<- hd] at HU hss;have hq:(xs.length:Int)-(ys.length:Int)=(d:Int):=by omega
    have hdl:d<=xs.length:=by omega
    have hyx:ys.length<=xs.length:=by omega
    have hwd:=Nm.wsum_drop_le xs d;have hjn:=fun V hr=>l01Join_any V (xs.drop d) w2 hr (by omega)
    have hd1:=fun e:cap1=d=>hrow.drop_all e
    have hd2:=hrow.drop (k:=d) hdl;have hdd:decide (xs.length<ys.length)=false:=by simp;omega
    generalize ByteArray.mk (Nm.joinL (xs.drop d)).toArray=J at*;clear hd hl hrow hund
    by_cases hck:cap1=d
    ·have Hc:=hjn _ (hd1 hck);clear hjn hd1 hd2;subst hck;rw [show xs.length-cap1=0 by omega] at Hc;go_wp2_with fail
     refine Hc.mono ?_;rintro e w3 ⟨rfl,hbel3⟩;go_wp2_with fail
     refine(hss _).mono ?_;rintro e w4 ⟨rfl,hbel4⟩;go_wp2;go_ret;rw [HA.out,<- HU.out];exact⟨rfl,Nm.below_two hbw (Nm.below_two hbel3 hbel4)⟩
    ·have Hc:=hjn _ hd2;clear hjn hd1 hd2;go_wp2_with fail
     refine Hc.mono ?_;rintro e w3 ⟨rfl,hbel3⟩;go_wp2_with fail
     refine(hss _).mono ?_;rintro e w4 ⟨rfl,hbel4⟩;go_wp2;go_ret;rw [HA.out,<- HU.out];exact⟨rfl,Nm.below_two hbw (Nm.below_two hbel3 hbel4)⟩
end Go.Proofs.YtcodajnebegdiaaGreat
