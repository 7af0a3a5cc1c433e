import Derived.Test.YtahpiciofdfipaaGreatJBzD
namespace Go.Proofs.YtahpiciofdfipaaGreat
open Go.RowKit
set_option linter.unusedVariables false
def nmStep(last:List ByteArray)(out:List (List ByteArray))(y:List ByteArray):List (List ByteArray):=if(decide (0<out.length)&&underB last y)=true then out else out++[y]
def nmIn(last lab:List ByteArray):Nat->List (List ByteArray)->List (List ByteArray)
 |0,out=>out
 |n+1,out=>nmIn last lab n (nmStep last out (lab.drop n))
def nmOne(al:List ByteArray)(s:List (List ByteArray)×List ByteArray)(lab:List ByteArray):List (List ByteArray)×List ByteArray:=(nmIn s.2 lab (lab.length-al.length+1) s.1,lab)
def nmT(al:List ByteArray)(os:List GOw):List (List ByteArray)×List ByteArray:=(os.map (·.lab)).foldl (nmOne al) ([],[])
theorem nmT_snoc(al:List ByteArray)(os:List GOw)(q:GOw):nmT al (os++[q])=nmOne al (nmT al os) q.lab:=by
 simp [nmT,List.foldl_append]
def NmF(os:List GOw)(al x:List ByteArray):Prop:=∃ i q,First (fun r:GOw=>underB r.lab x=true) os i q∧al.length<=x.length∧x=q.lab.drop (q.lab.length-x.length)
def nmNew(p:List ByteArray->Bool)(lab:List ByteArray):Nat->List (List ByteArray)
 |0=>[]
 |n+1=>(if p (lab.drop n)=true then [] else [lab.drop n])++nmNew p lab n
theorem nmNew_congr{p p':List ByteArray->Bool}{lab:List ByteArray}:∀ (n:Nat),(∀ k,k<n->p (lab.drop k)=p' (lab.drop k))->nmNew p lab n=nmNew p' lab n
 |0,_=>rfl
 |n+1,h=>by rw [nmNew,nmNew,h n (by omega),nmNew_congr n (fun k hk=>h k (by omega))]
theorem nmNew_mem{p:List ByteArray->Bool}{lab x:List ByteArray}:∀ {n:Nat},x∈nmNew p lab n↔ ∃ k,k<n∧x=lab.drop k∧p x=false
 |0=>by simp [nmNew]
 |n+1=>by
  rw [nmNew,List.mem_append,nmNew_mem (n:=n)];constructor
  ·rintro(h|⟨k,hk,e,hp⟩)
   ·split at h
    ·cases h
    ·rename_i hp;have e:=List.mem_singleton.1 h;exact⟨n,by omega,e,by rw [e];simpa using hp⟩
   ·exact⟨k,by omega,e,hp⟩
  ·rintro⟨k,hk,e,hp⟩
   rcases Nat.lt_or_ge k n with h|h
   ·exact .inr ⟨k,h,e,hp⟩
   ·obtain rfl:k=n:=by omega
    left;rw [<- e,if_neg (by rw [hp];decide)];exact List.mem_singleton.2 rfl
theorem nmIn_more{last lab:List ByteArray}:∀ (n:Nat) (out:List (List ByteArray)),0<out.length->nmIn last lab n out=out++nmNew (underB last) lab n
 |0,out,_=>by simp [nmIn,nmNew]
 |n+1,out,h=>by
  rw [nmIn,nmNew,nmStep];simp only [h,decide_true,Bool.true_and];split
  ·rw [nmIn_more n out h];rfl
  ·rw [nmIn_more n _ (by simp)];simp
theorem suf_under(lab:List ByteArray){j k:Nat}(h:j<=k)(hk:k<=lab.length):underB (lab.drop j) (lab.drop k)=true:=by
 refine under_iff.2 ⟨by simp;omega,?_⟩;rw [List.drop_drop,List.length_drop,List.length_drop,show j+(lab.length-j-(lab.length-k))=k by omega];exact cmpLs_self _
theorem suf_lt(lab:List ByteArray){j k:Nat}(h:j<k)(hk:k<=lab.length):Nm.cmpLs (lab.drop k) (lab.drop j)<0:=by
 have h1:=under_le (suf_under lab (Nat.le_of_lt h) hk)
 rcases Int.lt_or_eq_of_le h1 with h2|h2
 ·exact h2
 ·have:=len_same h2;simp at this;omega
theorem nmNew_pw{p:List ByteArray->Bool}{lab:List ByteArray}:∀ (n:Nat),n<=lab.length+1->(nmNew p lab n).Pairwise fun a b=>Nm.cmpLs a b<0
 |0,_=>List.Pairwise.nil
 |n+1,h=>by
  rw [nmNew];refine List.pairwise_append.2 ⟨?_,nmNew_pw n (by omega),fun a ha b hb=>?_⟩
  ·split
   ·exact List.Pairwise.nil
   ·exact List.pairwise_singleton _ _
  ·obtain⟨k,hk,rfl,-⟩:=nmNew_mem.1 hb
   split at ha
   ·cases ha
   ·rw [List.mem_singleton.1 ha];exact suf_lt lab hk (by omega)
theorem under_betw{t o n:List ByteArray}(h:underB n t=true)(h1:Nm.cmpLs t o<=0)(h2:Nm.cmpLs o n<0):underB o t=true:=by
 rcases Int.lt_or_eq_of_le h1 with h3|h3
 ·exact under_mid h h3 h2
 ·exact under_self (cmpLs_symm h3)
structure NmI (al:List ByteArray) (pre:List GOw):Prop where
 pw:(nmT al pre).1.Pairwise fun a b=>Nm.cmpLs a b<0
 mem:∀ x,x∈(nmT al pre).1↔NmF pre al x
 last:∀ q,pre.getLast? =some q->(nmT al pre).2=q.lab
 ne:pre≠[]->0<(nmT al pre).1.length
theorem nm_inv(al:List ByteArray)(os:List GOw):OwS os->(∀ q∈os,underB q.lab al=true)->NmI al os:=by
 refine snoc_ind (P:=fun os=>OwS os->(∀ q∈os,underB q.lab al=true)->NmI al os) ?_ (fun pre q ih hS hU=>?_) os
 ·intro _ _;refine⟨List.Pairwise.nil,fun x=>⟨fun h=>(by cases h),?_⟩,by simp,by simp⟩
  rintro⟨i,q,hF,-⟩
  simp [First] at hF
 ·obtain⟨hS1,-,hS2⟩:=List.pairwise_append.1 hS;have hI:=ih hS1 (fun r hr=>hU r (List.mem_append_left _ hr));have hq:=hU q (by simp);have hal:=(under_iff.1 hq).1;have hlt:∀ r∈pre,Nm.cmpLs r.lab q.lab<0:=fun r hr=>hS2 r hr q (by simp)
  have hE:nmIn (nmT al pre).2 q.lab (q.lab.length-al.length+1) (nmT al pre).1=(nmT al pre).1++nmNew (fun y=>pre.any fun r=>underB r.lab y) q.lab (q.lab.length-al.length+1):=by
   rcases List.eq_nil_or_concat pre with rfl|⟨pre',r0,rfl⟩
   ·show nmIn [] q.lab (q.lab.length-al.length+1) []=[]++_
    rw [nmIn,nmNew];simp only [nmStep,List.length_nil,Nat.lt_irrefl,decide_false,Bool.false_and,Bool.false_eq_true,if_false,List.any_nil,List.nil_append];rw [nmIn_more _ _ (by simp)];congr 1;refine nmNew_congr _ (fun k hk=>?_);rw [underB];simp
    omega
   ·have hne:pre'++[r0]≠[]:=by simp
    rw [List.concat_eq_append] at*;rw [nmIn_more _ _ (hI.ne hne),hI.last r0 (by simp)];congr 1;refine nmNew_congr _ (fun k hk=>?_);apply Bool.eq_iff_iff.2;rw [List.any_eq_true];constructor
    ·exact fun h=>⟨r0,by simp,h⟩
    ·rintro⟨r,hr,h⟩
     have hqk:underB q.lab (q.lab.drop k)=true:=by
      have:=suf_under q.lab (Nat.zero_le k) (by omega)
      rwa [List.drop_zero] at this
     rcases List.mem_append.1 hr with hr'|hr'
     ·have h1:=(List.pairwise_append.1 hS1).2.2 r hr' r0 (by simp);refine under_betw hqk ?_ (hlt r0 (by simp));have h2:=under_le h;exact cmpLs_trans h2 (by omega)
     ·rw [List.mem_singleton.1 hr'] at h;exact h
  have hT:nmT al (pre++[q])=((nmT al pre).1++nmNew (fun y=>pre.any fun r=>underB r.lab y) q.lab (q.lab.length-al.length+1),q.lab):=by
   rw [nmT_snoc,nmOne,hE]
  have hmemE:∀ x,x∈nmNew (fun y=>pre.any fun r=>underB r.lab y) q.lab (q.lab.length-al.length+1)↔ ∃ k,k<=q.lab.length-al.length∧x=q.lab.drop k∧∀ r∈pre,underB r.lab x=false:=by
   intro x;rw [nmNew_mem];constructor
   ·rintro⟨k,h1,h2,h3⟩
    refine⟨k,by omega,h2,fun r hr=>?_⟩;rw [List.any_eq_false] at h3;simpa using h3 r hr
   ·rintro⟨k,h1,h2,h3⟩
    refine⟨k,by omega,h2,?_⟩;rw [List.any_eq_false];intro r hr;rw [h3 r hr];decide
  have hfst:∀ x i r,First (fun r:GOw=>underB r.lab x=true) (pre++[q]) i r↔First (fun r:GOw=>underB r.lab x=true) pre i r∨(i=pre.length∧r=q∧underB q.lab x=true∧∀ r∈pre,underB r.lab x=false):=by
   intro x i r;constructor
   ·rintro⟨h1,h2,h3⟩
    rcases Nat.lt_or_ge i pre.length with h|h
    ·left;rw [List.getElem?_append_left h] at h1;exact⟨h1,h2,fun j y hj hy=>h3 j y hj (by rw [List.getElem?_append_left (by omega)];exact hy)⟩
    ·right;rw [List.getElem?_append_right h] at h1
     have hi:i-pre.length=0:=by
      have:=(List.getElem?_eq_some_iff.1 h1).1;simp at this;omega
     rw [hi] at h1;simp at h1;subst h1;refine⟨by omega,rfl,h2,fun r hr=>?_⟩;obtain⟨j,hj⟩:=List.getElem?_of_mem hr;have hjl:=(List.getElem?_eq_some_iff.1 hj).1;have:=h3 j r (by omega) (by rw [List.getElem?_append_left hjl];exact hj);simpa using this
   ·rintro(h|⟨rfl,rfl,h2,h3⟩)
    ·exact h.snoc q
    ·exact First.new (fun y hy=>by rw [h3 y hy];decide) h2
  refine⟨?_,fun x=>?_,fun r hr=>?_,fun _=>?_⟩
  ·rw [hT];refine List.pairwise_append.2 ⟨hI.pw,nmNew_pw _ (by omega),fun x hx y hy=>?_⟩;obtain⟨i,r,hF,hxl,ex⟩:=(hI.mem x).1 hx;obtain⟨k,hk,ey,hno⟩:=(hmemE y).1 hy;have hrm:=hF.mem
   rcases Int.lt_or_le (Nm.cmpLs x y) 0 with h|h
   ·exact h
   ·exfalso
    have h1:Nm.cmpLs y x<=0:=by have:=cmpLs_anti x y;omega
    have h2:=under_le hF.2.1
    have hqy:underB q.lab y=true:=by
     have:=suf_under q.lab (Nat.zero_le k) (by omega);rw [List.drop_zero,<- ey] at this;exact this
    have h3:=hno r hrm;rw [under_betw hqy (cmpLs_trans h1 h2) (hlt r hrm)] at h3;cases h3
  ·rw [hT];show x∈(nmT al pre).1++_↔_
   rw [List.mem_append,hI.mem,hmemE];constructor
   ·rintro(⟨i,r,hF,h1,h2⟩|⟨k,hk,ex,hno⟩)
    ·exact⟨i,r,(hfst x i r).2 (.inl hF),h1,h2⟩
    ·have hxl:x.length=q.lab.length-k:=by rw [ex,List.length_drop]
     refine⟨pre.length,q,(hfst x _ q).2 (.inr ⟨rfl,rfl,?_,hno⟩),by omega,by rw [hxl,show q.lab.length-(q.lab.length-k)=k by omega];exact ex⟩;have:=suf_under q.lab (Nat.zero_le k) (by omega);rw [List.drop_zero,<- ex] at this;exact this
   ·rintro⟨i,r,hF,h1,h2⟩
    rcases(hfst x i r).1 hF with hF|⟨-,rfl,h3,h4⟩
    ·exact .inl ⟨i,r,hF,h1,h2⟩
    ·exact .inr ⟨_,by omega,h2,h4⟩
  ·rw [hT];simp at hr;rw [hr]
  ·rw [hT];simp only [List.length_append]
   rcases List.eq_nil_or_concat pre with rfl|⟨pre',r0,rfl⟩
   ·have:q.lab.drop (q.lab.length-al.length)∈nmNew (fun y=>([]:List GOw).any fun r=>underB r.lab y) q.lab (q.lab.length-al.length+1):=(hmemE _).2 ⟨_,Nat.le_refl _,rfl,by simp⟩;have:=List.length_pos_of_mem this;omega
   ·have:=hI.ne (by simp);omega
abbrev Ne:Type:=List ByteArray×Bool
def ancE(al lab:List ByteArray):List Ne:=(List.range (lab.length-al.length+1)).map fun k=>(lab.drop k,decide (k=0))
def allE(al:List ByteArray)(ls:List (List ByteArray)):List Ne:=ls.flatMap (ancE al)
def leN(a b:Ne):Bool:=decide (Nm.cmpLs a.1 b.1<=0)
def srtN:Nat->List Ne->List Ne
 |0,l=>l
 |n+1,l=>if l.length<2 then l else List.merge (srtN n (l.take (l.length / 2))) (srtN n (l.drop (l.length / 2))) leN
def ddStep(s:List (List ByteArray)×Option (List ByteArray))(e:Ne):List (List ByteArray)×Option (List ByteArray):=match s.2 with
 |none=>(s.1++[e.1],some e.1)
 |some p=>if Nm.cmpLs p e.1≠0 then(s.1++[e.1],some e.1) else if e.2=true then(s.1.dropLast++[e.1],some e.1) else(s.1,some e.1)
def ddN(l:List Ne):List (List ByteArray)×Option (List ByteArray):=l.foldl ddStep ([],none)
theorem ddN_snoc(l:List Ne)(e:Ne):ddN (l++[e])=ddStep (ddN l) e:=by simp [ddN,List.foldl_append]
theorem srtN_small{n:Nat}{l:List Ne}(h:l.length<2):srtN n l=l:=by
 cases n with
 |zero=>rfl
 |succ n=>rw [srtN,if_pos h]
theorem srtN_big{n:Nat}{l:List Ne}(h:¬l.length<2):srtN (n+1) l=List.merge (srtN n (l.take (l.length / 2))) (srtN n (l.drop (l.length / 2))) leN:=by rw [srtN,if_neg h]
theorem srtN_perm:∀ (n:Nat) (l:List Ne),(srtN n l).Perm l:=by
 intro n
 induction n with
 |zero=>intro l;exact .refl _
 |succ n ih=>
  intro l
  by_cases h:l.length<2
  ·rw [srtN_small h]
  ·rw [srtN_big h];have h1:(List.merge (srtN n (l.take (l.length / 2))) (srtN n (l.drop (l.length / 2))) leN).Perm (srtN n (l.take (l.length / 2))++srtN n (l.drop (l.length / 2))):=List.merge_perm_append _;refine h1.trans ?_;refine((ih _).append (ih _)).trans ?_;rw [List.take_append_drop]
theorem srtN_mem{n:Nat}{l:List Ne}{x:Ne}:x∈srtN n l↔x∈l:=(srtN_perm n l).mem_iff
theorem leN_iff{a b:Ne}:leN a b=true↔Nm.cmpLs a.1 b.1<=0:=by rw [leN];simp
theorem mergeN_pw:∀ (A B:List Ne),A.Pairwise (fun a b=>leN a b=true)->B.Pairwise (fun a b=>leN a b=true)->(List.merge A B leN).Pairwise (fun a b=>leN a b=true):=by
 intro A
 induction A with
 |nil=>intro B _ hB;rw [List.nil_merge];exact hB
 |cons a A ihA=>
  intro B
  induction B with
  |nil=>intro hA _;rw [List.merge_right];exact hA
  |cons b B ihB=>
   intro hA hB;obtain⟨ha,hA'⟩:=List.pairwise_cons.1 hA;obtain⟨hb,hB'⟩:=List.pairwise_cons.1 hB;rw [List.cons_merge_cons]
   by_cases h:leN a b=true
   ·rw [if_pos h];refine List.pairwise_cons.2 ⟨fun z hz=>?_,ihA _ hA' hB⟩
    rcases List.mem_append.1 ((List.merge_perm_append _).mem_iff.1 hz) with hz|hz
    ·exact ha z hz
    ·rcases List.mem_cons.1 hz with rfl|hz
     ·exact h
     ·exact leN_iff.2 (cmpLs_trans (leN_iff.1 h) (leN_iff.1 (hb z hz)))
   ·rw [if_neg h]
    have hba:Nm.cmpLs b.1 a.1<=0:=by
     rw [leN_iff] at h;have:=cmpLs_anti a.1 b.1;omega
    refine List.pairwise_cons.2 ⟨fun z hz=>?_,ihB hA hB'⟩
    rcases List.mem_append.1 ((List.merge_perm_append _).mem_iff.1 hz) with hz|hz
    ·rcases List.mem_cons.1 hz with rfl|hz
     ·exact leN_iff.2 hba
     ·exact leN_iff.2 (cmpLs_trans hba (leN_iff.1 (ha z hz)))
    ·exact hb z hz
theorem srtN_pw:∀ (n:Nat) (l:List Ne),l.length<=n+1->(srtN n l).Pairwise (fun a b=>leN a b=true):=by
 intro n
 induction n with
 |zero=>intro l h;rw [srtN];exact few_pw (by omega)
 |succ n ih=>
  intro l h
  by_cases hs:l.length<2
  ·rw [srtN_small hs];exact few_pw hs
  ·rw [srtN_big hs];exact mergeN_pw _ _ (ih _ (by simp;omega)) (ih _ (by simp;omega))
def smN(y:List ByteArray)(e:Ne):Bool:=decide (Nm.cmpLs e.1 y=0)
theorem mergeN_filter(y:List ByteArray):∀ (A B:List Ne),A.Pairwise (fun a b=>leN a b=true)->(List.merge A B leN).filter (smN y)=A.filter (smN y)++B.filter (smN y):=by
 intro A
 induction A with
 |nil=>intro B _;rw [List.nil_merge];rfl
 |cons a A ihA=>
  intro B
  induction B with
  |nil=>intro hA;rw [List.merge_right];simp
  |cons b B ihB=>
   intro hA;obtain⟨ha,hA'⟩:=List.pairwise_cons.1 hA;rw [List.cons_merge_cons]
   by_cases h:leN a b=true
   ·rw [if_pos h,List.filter_cons,List.filter_cons,ihA _ hA']
    split<;>rfl
   ·rw [if_neg h,List.filter_cons,ihB hA,List.filter_cons (xs:=B)];split
    ·rename_i hb;have hb0:Nm.cmpLs b.1 y=0:=by simpa [smN] using hb
     have e:(a::A).filter (smN y)=[]:=by
      rw [List.filter_eq_nil_iff];intro z hz hzy;have hz0:Nm.cmpLs z.1 y=0:=by simpa [smN] using hzy
      have hzb:Nm.cmpLs z.1 b.1=0:=by rw [cmpLs_eq_left hz0];exact cmpLs_symm hb0
      apply h;rw [leN_iff]
      rcases List.mem_cons.1 hz with rfl|hz
      ·omega
      ·exact cmpLs_trans (leN_iff.1 (ha z hz)) (by omega)
     rw [e];rfl
    ·rfl
theorem srtN_filter(y:List ByteArray):∀ (n:Nat) (l:List Ne),l.length<=n+1->(srtN n l).filter (smN y)=l.filter (smN y):=by
 intro n
 induction n with
 |zero=>intro l _;rfl
 |succ n ih=>
  intro l h
  by_cases hs:l.length<2
  ·rw [srtN_small hs]
  ·rw [srtN_big hs,mergeN_filter y _ _ (srtN_pw n _ (by simp;omega)),ih _ (by simp;omega),ih _ (by simp;omega),<- List.filter_append,List.take_append_drop]
def ltr(g:List Ne):List ByteArray:=match (g.filter (·.2)).getLast? with
 |some e=>e.1
 |none=>match g.head? with
  |some e=>e.1
  |none=>[]
theorem ltr_flag{g:List Ne}{e:Ne}(h:e.2=true):ltr (g++[e])=e.1:=by
 rw [ltr,List.filter_append];simp [h]
theorem ltr_un{g:List Ne}{e:Ne}(h:e.2=false)(hg:g≠[]):ltr (g++[e])=ltr g:=by
 rw [ltr,ltr,List.filter_append];have e1:[e].filter (·.2)=[]:=by simp [h]
 rw [e1,List.append_nil]
 cases g with
 |nil=>exact absurd rfl hg
 |cons x g=>rfl
theorem ltr_one(e:Ne):ltr [e]=e.1:=by
 cases h:e.2 with
 |true=>exact ltr_flag (g:=[]) h
 |false=>rw [ltr];simp [h]
theorem ltr_mem{g:List Ne}(hg:g≠[]):(∃ e∈g,e.2=true∧ltr g=e.1)∨(∃ e,g.head? =some e∧ltr g=e.1):=by
 rw [ltr]
 cases hq:(g.filter (·.2)).getLast? with
 |some e=>
  have hm:=List.mem_filter.1 (List.mem_of_getLast? hq)
  exact .inl ⟨e,hm.1,hm.2,rfl⟩
 |none=>
  cases g with
  |nil=>exact absurd rfl hg
  |cons x g=>exact .inr ⟨x,rfl,rfl⟩
theorem cmpLs_le_lt{a b c:List ByteArray}(h1:Nm.cmpLs a b<=0)(h2:Nm.cmpLs b c<0):Nm.cmpLs a c<0:=by
 rcases Int.lt_or_le (Nm.cmpLs a c) 0 with h|h
 ·exact h
 ·have h3:Nm.cmpLs c a<=0:=by have:=cmpLs_anti a c;omega
  have h4:=cmpLs_trans h3 h1;have:=cmpLs_anti b c;omega
structure DdI (S:List Ne):Prop where
 pw:(ddN S).1.Pairwise fun a b=>Nm.cmpLs a b<0
 prev:(ddN S).2=S.getLast?.map (·.1)
 lst:∀ e,S.getLast? =some e->∃ L x,(ddN S).1=L++[x]∧Nm.cmpLs x e.1=0
 mem:∀ x,x∈(ddN S).1↔(∃ e∈S,Nm.cmpLs e.1 x=0)∧x=ltr (S.filter (smN x))
theorem smN_iff{x:List ByteArray}{e:Ne}:smN x e=true↔Nm.cmpLs e.1 x=0:=by rw [smN];simp
theorem filter_off{x:List ByteArray}{S:List Ne}{e:Ne}(h:¬Nm.cmpLs e.1 x=0):(S++[e]).filter (smN x)=S.filter (smN x):=by
 rw [List.filter_append];have:[e].filter (smN x)=[]:=by rw [List.filter_eq_nil_iff];intro z hz hq;rw [List.mem_singleton.1 hz] at hq;exact h (smN_iff.1 hq)
 rw [this,List.append_nil]
theorem filter_on{x:List ByteArray}{S:List Ne}{e:Ne}(h:Nm.cmpLs e.1 x=0):(S++[e]).filter (smN x)=S.filter (smN x)++[e]:=by
 rw [List.filter_append];have:[e].filter (smN x)=[e]:=by rw [List.filter_eq_self];intro z hz;rw [List.mem_singleton.1 hz];exact smN_iff.2 h
 rw [this]
theorem ex_off{x:List ByteArray}{S:List Ne}{e:Ne}(h:¬Nm.cmpLs e.1 x=0):(∃ z∈S++[e],Nm.cmpLs z.1 x=0)↔ ∃ z∈S,Nm.cmpLs z.1 x=0:=by
 constructor
 ·rintro⟨z,hz,h0⟩
  rcases List.mem_append.1 hz with hz|hz
  ·exact⟨z,hz,h0⟩
  ·rw [List.mem_singleton.1 hz] at h0;exact absurd h0 h
 ·rintro⟨z,hz,h0⟩
  exact⟨z,List.mem_append_left _ hz,h0⟩
theorem dd_inv(S:List Ne):S.Pairwise (fun a b=>leN a b=true)->DdI S:=by
 refine snoc_ind (P:=fun S=>S.Pairwise (fun a b=>leN a b=true)->DdI S) ?_ (fun S e ih hS=>?_) S
 ·intro _;exact⟨List.Pairwise.nil,rfl,by simp,by simp [ddN]⟩
 ·obtain⟨hS1,-,hS2⟩:=List.pairwise_append.1 hS;have hI:=ih hS1;have hle:∀ z∈S,Nm.cmpLs z.1 e.1<=0:=fun z hz=>leN_iff.1 (hS2 z hz e (by simp))
  have hself:=cmpLs_self e.1
  have hnew:(∀ z∈S,Nm.cmpLs z.1 e.1<0)->ddN (S++[e])=((ddN S).1++[e.1],some e.1)->DdI (S++[e]):=by
   intro hlt hT
   have hno:∀ x,Nm.cmpLs e.1 x=0->¬∃ z∈S,Nm.cmpLs z.1 x=0:=by
    rintro x hx ⟨z,hz,h0⟩;have:=hlt z hz;rw [cmpLs_eq_left h0,cmpLs_eq_right hx,cmpLs_self] at this;omega
   refine⟨?_,by rw [hT];simp,fun e' he'=>?_,fun x=>?_⟩
   ·rw [hT];refine List.pairwise_append.2 ⟨hI.pw,List.pairwise_singleton _ _,fun x hx y hy=>?_⟩;rw [List.mem_singleton.1 hy];obtain⟨⟨z,hz,h0⟩,-⟩:=(hI.mem x).1 hx;rw [<- cmpLs_eq_left h0];exact hlt z hz
   ·rw [hT];simp at he';exact⟨(ddN S).1,e.1,rfl,by rw [<- he'];exact hself⟩
   ·rw [hT];show x∈(ddN S).1++[e.1]↔_
    rw [List.mem_append,hI.mem]
    by_cases hx:Nm.cmpLs e.1 x=0
    ·have hnx:=hno x hx
     have hf:S.filter (smN x)=[]:=by
      rw [List.filter_eq_nil_iff];exact fun z hz hq=>hnx ⟨z,hz,smN_iff.1 hq⟩
     rw [filter_on hx,hf,List.nil_append,ltr_one];constructor
     ·rintro(⟨h,-⟩|h)
      ·exact absurd h hnx
      ·exact⟨⟨e,by simp,hx⟩,List.mem_singleton.1 h⟩
     ·rintro⟨-,h⟩
      exact .inr (List.mem_singleton.2 h)
    ·rw [filter_off hx,ex_off hx];constructor
     ·rintro(h|h)
      ·exact h
      ·rw [List.mem_singleton.1 h] at hx;exact absurd hself hx
     ·exact fun h=>.inl h
  cases hl:S.getLast? with
  |none=>
   have hS0:S=[]:=by simpa using hl
   refine hnew (by rw [hS0];simp) ?_
   rw [ddN_snoc,ddStep,hI.prev,hl];rfl
  |some p=>
   have hpm:=List.mem_of_getLast? hl
   have hlast:∀ z∈S,Nm.cmpLs z.1 p.1<=0:=by
    intro z hz;obtain⟨S',rfl⟩:=List.getLast?_eq_some_iff.1 hl
    rcases List.mem_append.1 hz with hz|hz
    ·exact leN_iff.1 ((List.pairwise_append.1 hS1).2.2 z hz p (by simp))
    ·rw [List.mem_singleton.1 hz,cmpLs_self];omega
   by_cases hpe:Nm.cmpLs p.1 e.1=0
   ·obtain⟨L,x0,hL,hx0⟩:=hI.lst p hl;have hx0e:Nm.cmpLs x0 e.1=0:=by rw [cmpLs_eq_left hx0];exact hpe
    have hpw:=hI.pw;rw [hL] at hpw;obtain⟨hp1,-,hp2⟩:=List.pairwise_append.1 hpw
    cases hf:e.2 with
    |true=>
     have hT:ddN (S++[e])=(L++[e.1],some e.1):=by
      rw [ddN_snoc,ddStep,hI.prev,hl];simp only [Option.map_some];rw [if_neg (by simpa using hpe),if_pos hf,hL];simp
     refine⟨?_,by rw [hT];simp,fun e' he'=>?_,fun x=>?_⟩
     ·rw [hT];refine List.pairwise_append.2 ⟨hp1,List.pairwise_singleton _ _,fun a ha y hy=>?_⟩;rw [List.mem_singleton.1 hy,<- cmpLs_eq_right hx0e];exact hp2 a ha x0 (by simp)
     ·rw [hT];simp at he';exact⟨L,e.1,rfl,by rw [<- he'];exact hself⟩
     ·rw [hT];show x∈L++[e.1]↔_
      by_cases hx:Nm.cmpLs e.1 x=0
      ·rw [filter_on hx,ltr_flag hf];constructor
       ·intro h
        rcases List.mem_append.1 h with h|h
        ·have:=hp2 x h x0 (by simp);rw [cmpLs_eq_right hx0e,cmpLs_eq_right hx,cmpLs_self] at this;omega
        ·exact⟨⟨e,by simp,hx⟩,List.mem_singleton.1 h⟩
       ·rintro⟨-,h⟩
        exact List.mem_append_right _ (List.mem_singleton.2 h)
      ·rw [filter_off hx,ex_off hx,<- hI.mem,hL,List.mem_append,List.mem_append];constructor
       ·rintro(h|h)
        ·exact .inl h
        ·rw [List.mem_singleton.1 h] at hx;exact absurd hself hx
       ·rintro(h|h)
        ·exact .inl h
        ·rw [List.mem_singleton.1 h] at hx;exact absurd (cmpLs_symm hx0e) hx
    |false=>
     have hT:ddN (S++[e])=((ddN S).1,some e.1):=by
      rw [ddN_snoc,ddStep,hI.prev,hl];simp only [Option.map_some];rw [if_neg (by simpa using hpe),if_neg (by rw [hf];decide)]
     refine⟨by rw [hT];exact hI.pw,by rw [hT];simp,fun e' he'=>?_,fun x=>?_⟩
     ·rw [hT];simp at he';exact⟨L,x0,hL,by rw [<- he'];exact hx0e⟩
     ·rw [hT];show x∈(ddN S).1↔_
      rw [hI.mem]
      by_cases hx:Nm.cmpLs e.1 x=0
      ·have hpx:Nm.cmpLs p.1 x=0:=by rw [cmpLs_eq_left hpe];exact hx
       have hne:S.filter (smN x)≠[]:=fun h=>by
        have:=List.filter_eq_nil_iff.1 h p hpm;exact this (smN_iff.2 hpx)
       rw [filter_on hx,ltr_un hf hne];constructor
       ·rintro⟨-,h⟩;exact⟨⟨e,by simp,hx⟩,h⟩
       ·rintro⟨-,h⟩;exact⟨⟨p,hpm,hpx⟩,h⟩
      ·rw [filter_off hx,ex_off hx]
   ·have hpl:Nm.cmpLs p.1 e.1<0:=by have:=hle p hpm;omega
    refine hnew (fun z hz=>cmpLs_le_lt (hlast z hz) hpl) ?_;rw [ddN_snoc,ddStep,hI.prev,hl];simp only [Option.map_some];rw [if_pos hpe]
theorem rng_one{p:Nat->Bool}{k0:Nat}:∀ (N:Nat),(∀ k,k<N->p k=decide (k=k0))->(List.range N).filter p=if k0<N then [k0] else []
 |0,_=>rfl
 |N+1,h=>by
  rw [List.range_succ,List.filter_append,rng_one N (fun k hk=>h k (by omega)),List.filter_cons,h N (by omega)]
  by_cases h1:k0<N
  ·have h2:¬N=k0:=by omega
   have h3:k0<N+1:=by omega
   simp [h1,h2,h3]
  ·by_cases h2:N=k0
   ·subst h2;simp
   ·have h3:¬k0<N+1:=by omega
    simp [h1,h2,h3]
def entX(x lab:List ByteArray):Ne:=(lab.drop (lab.length-x.length),decide (lab.length=x.length))
theorem ancE_filter{al lab x:List ByteArray}(hal:al.length<=lab.length)(hx:al.length<=x.length):(ancE al lab).filter (smN x)=if underB lab x=true then [entX x lab] else []:=by
 rw [ancE,List.filter_map]
 by_cases hu:underB lab x=true
 ·obtain⟨u1,u2⟩:=under_iff.1 hu;rw [if_pos hu,rng_one (k0:=lab.length-x.length) _ (fun k hk=>?_),if_pos (by omega)]
  ·simp only [List.map_cons,List.map_nil,entX];congr 2;apply decide_eq_decide.2;omega
  ·show smN x (lab.drop k,decide (k=0))=_
   by_cases h:k=lab.length-x.length
   ·rw [decide_eq_true h];exact smN_iff.2 (by rw [h];exact u2)
   ·rw [decide_eq_false h];rw [<- Bool.not_eq_true,smN_iff];intro e;have:=len_same e;simp at this;omega
 ·rw [if_neg hu]
  have e:(List.range (lab.length-al.length+1)).filter (smN x∘fun k=>(lab.drop k,decide (k=0)))=[]:=by
   rw [List.filter_eq_nil_iff];intro k hk hq;have h0:Nm.cmpLs (lab.drop k) x=0:=smN_iff.1 hq;have hk':=List.mem_range.1 hk;have hl:=len_same h0;rw [List.length_drop] at hl;apply hu;refine under_iff.2 ⟨by omega,?_⟩;rw [<- hl,show lab.length-(lab.length-k)=k by omega];exact h0
  rw [e];rfl
theorem allE_filter{al x:List ByteArray}(hx:al.length<=x.length):∀ (ls:List (List ByteArray)),(∀ l∈ls,al.length<=l.length)->(allE al ls).filter (smN x)=(ls.filter (underB · x)).map (entX x)
 |[],_=>rfl
 |l::ls,h=>by
  rw [allE,List.flatMap_cons,List.filter_append,ancE_filter (h l (by simp)) hx,List.filter_cons];have ih:=allE_filter hx ls (fun z hz=>h z (List.mem_cons_of_mem _ hz));rw [allE] at ih;rw [ih]
  split<;>rfl
theorem find_gr(p:List ByteArray->Bool):∀ (os:List GOw),(∀ q∈os,∃ s,s∈q.ss)->((grT os).map (·.1.lab)).find? p=(os.find? fun q=>p q.lab).map (·.lab)
 |[],_=>rfl
 |q::os,h=>by
  have ih:=find_gr p os (fun r hr=>h r (List.mem_cons_of_mem _ hr));obtain⟨s,hs⟩:=h q (by simp);rw [grT,List.flatMap_cons,List.map_append,List.find?_append,List.find?_cons];rw [grT] at ih;rw [ih]
  cases hp:p q.lab with
  |true=>
   cases hq:q.ss with
   |nil=>rw [hq] at hs;cases hs
   |cons s0 ss=>simp [hp]
  |false=>
   have e:((q.ss.map fun s=>(q,s)).map (·.1.lab)).find? p=none:=by
    rw [List.find?_eq_none];intro z hz;rw [List.map_map] at hz;obtain⟨s',-,rfl⟩:=List.mem_map.1 hz;simp [hp]
   rw [e];rfl
theorem ltr_first{os:List GOw}{o:ByteArray}{al x:List ByteArray}(h:TZ os o al)(hx:al.length<=x.length){i:Nat}{q0:GOw}(hF:First (fun r:GOw=>underB r.lab x=true) os i q0):ltr ((allE al ((grT os).map (·.1.lab))).filter (smN x))=q0.lab.drop (q0.lab.length-x.length):=by
 have hls:∀ l∈(grT os).map (·.1.lab),∃ q∈os,l=q.lab:=by
  intro l hl;obtain⟨g,hg,rfl⟩:=List.mem_map.1 hl;exact⟨g.1,(grT_mem.1 hg).1,rfl⟩
 rw [allE_filter hx _ (fun l hl=>by obtain⟨q,hq,rfl⟩:=hls l hl;exact(under_iff.1 (h.und q hq)).1)]
 have hfd:((grT os).map (·.1.lab)).find? (underB · x)=some q0.lab:=by
  rw [find_gr _ os h.full,hF.find (fun q=>underB q.lab x) (fun y hy=>Iff.rfl)];rfl
 have hne:(((grT os).map (·.1.lab)).filter (underB · x)).map (entX x)≠[]:=by
  intro e;have e2:=List.map_eq_nil_iff.1 e;have e3:=List.filter_eq_nil_iff.1 e2 _ (List.mem_of_find?_eq_some hfd);exact e3 (List.find?_some (p:=(underB · x)) hfd)
 rcases ltr_mem hne with⟨e,he,hfl,hl⟩|⟨e,he,hl⟩
 ·rw [hl];obtain⟨lab,hlab,rfl⟩:=List.mem_map.1 he;obtain⟨hm,hu⟩:=List.mem_filter.1 hlab;obtain⟨q,hq,rfl⟩:=hls lab hm;have hlen:q.lab.length=x.length:=by simpa [entX] using hfl
  obtain⟨u1,u2⟩:=under_iff.1 hu;rw [hlen,Nat.sub_self,List.drop_zero] at u2;have h1:=under_le hF.2.1;have h2:Nm.cmpLs q.lab q0.lab<=0:=by rw [cmpLs_eq_left u2];exact h1
  have h3:Nm.cmpLs q0.lab q.lab<=0:=by
   obtain⟨j,hj⟩:=List.getElem?_of_mem hq;have hi:=List.getElem?_eq_some_iff.1 hF.1;have hj':=List.getElem?_eq_some_iff.1 hj
   rcases Nat.lt_trichotomy i j with h|h'|h'
   ·have:=List.pairwise_iff_getElem.1 (TZ.srt (by assumption)).1 i j hi.1 hj'.1 h;rw [hi.2,hj'.2] at this;omega
   ·subst h';rw [hF.1] at hj;rw [Option.some.inj hj,cmpLs_self];omega
   ·exact absurd hu (hF.2.2 j q h' hj)
  have h4:q0=q:=h.one q0 hF.mem q hq (by have:=cmpLs_anti q.lab q0.lab;omega);rw [h4];rfl
 ·rw [hl];rw [List.head?_map,List.head?_filter,hfd] at he;rw [<- Option.some.inj he];rfl
theorem names_eq{os:List GOw}{o:ByteArray}{al:List ByteArray}(h:TZ os o al)(n:Nat)(hn:(allE al ((grT os).map (·.1.lab))).length<=n+1):(ddN (srtN n (allE al ((grT os).map (·.1.lab))))).1=(nmT al os).1:=by
 have hD:=dd_inv _ (srtN_pw n _ hn);have hN:=nm_inv al os h.srt.1 h.und;refine sorted_eq (R:=fun a b=>Nm.cmpLs a b<0) (fun a=>by rw [cmpLs_self];omega) (fun a b c h1 h2=>cmpLs_lt_trans h1 h2) _ _ hD.pw hN.pw (fun x=>?_);rw [hD.mem,hN.mem,srtN_filter x n _ hn];constructor
 ·rintro⟨⟨e,he,h0⟩,hx⟩
  have he':=srtN_mem.1 he;obtain⟨l,hl,hel⟩:=List.mem_flatMap.1 he';obtain⟨g,hg,rfl⟩:=List.mem_map.1 hl;obtain⟨k,hk,rfl⟩:=List.mem_map.1 hel;have hk':=List.mem_range.1 hk;have hq:=(grT_mem.1 hg).1;have hal:=(under_iff.1 (h.und g.1 hq)).1;have hlen:=len_same h0;simp only [List.length_drop] at hlen;have hu:underB g.1.lab x=true:=under_iff.2 ⟨by omega,by rw [<- hlen,show g.1.lab.length-(g.1.lab.length-k)=k by omega];exact h0⟩;obtain⟨i,q0,hF⟩:=First.ex (P:=fun r:GOw=>underB r.lab x=true) ⟨g.1,hq,hu⟩;have hxa:al.length<=x.length:=by omega
  exact⟨i,q0,hF,hxa,by rw [<- ltr_first h hxa hF];exact hx⟩
 ·rintro⟨i,q,hF,hxa,ex⟩
  refine⟨?_,by rw [ltr_first h hxa hF];exact ex⟩;have hq:=hF.mem;obtain⟨s,hs⟩:=h.full q hq;have hul:=(under_iff.1 hF.2.1).1;refine⟨(q.lab.drop (q.lab.length-x.length),decide (q.lab.length-x.length=0)),srtN_mem.2 (List.mem_flatMap.2 ⟨q.lab,List.mem_map.2 ⟨(q,s),grT_mem.2 ⟨hq,hs⟩,rfl⟩,List.mem_map.2 ⟨_,List.mem_range.2 (by omega),rfl⟩⟩),?_⟩;show Nm.cmpLs (q.lab.drop (q.lab.length-x.length)) x=0
  rw [<- ex];exact cmpLs_self _
theorem grp_da{l srt:List It}:∀ (k:Nat),∀ s∈grpK l srt k,s.da≠[]
 |0,s,hs=>by cases hs
 |k+1,s,hs=>by
  have ih:=grp_da (l:=l) (srt:=srt) k;rw [grpK] at hs
  cases hx:srt[k]? with
  |none=>rw [hx] at hs;exact ih s hs
  |some x=>
   rw [hx] at hs;simp only at hs
   split at hs
   ·rcases List.mem_append.1 hs with h|h
    ·exact ih s h
    ·rw [List.mem_singleton.1 h];simp
   ·rw [addLast] at hs
    cases hl:(grpK l srt k).getLast? with
    |none=>rw [hl] at hs;cases hs
    |some s0=>
     rw [hl] at hs
     rcases List.mem_append.1 hs with h|h
     ·exact ih s ((List.dropLast_sublist _).subset h)
     ·rw [List.mem_singleton.1 h];simp
theorem zOK_bad{ps:List Zp}{o:ByteArray}(hz:zOK ps o=true):badOne o (zoneRecs ps) 0=none∧∃ al,Nm.split o=some al:=by
 have h0:=(zOK_recs hz).1
 cases ha:Nm.split o with
 |none=>rw [bldE,if_pos (by rw [ha];rfl)] at h0;exact absurd h0 (by decide)
 |some al=>
  refine⟨?_,al,rfl⟩;rw [bldE,if_neg (by rw [ha];simp)] at h0
  split at h0
  ·exact absurd h0 (by simp)
  ·cases hb:badOne o (zoneRecs ps) 0 with
   |some c=>rw [hb] at h0;exact absurd h0 (bad_some _ _ c.1 c.2 hb)
   |none=>rfl
theorem zOK_own{ps:List Zp}{o:ByteArray}{al:List ByteArray}(hz:zOK ps o=true)(ha:Nm.split o=some al):∀ p∈ps,∃ lab,Nm.split p.1.own=some lab∧underB lab al=true:=by
 intro p hp;have hm:p.1∈bldZ (zoneRecs ps):=by rw [(zOK_recs hz).2];exact List.mem_map_of_mem hp
 have hd:=grp_da _ _ hm;obtain⟨d,ds,hd⟩:=List.exists_cons_of_ne_nil hd
 have hr:(⟨p.1.own,p.1.ty,1,p.1.tt,d⟩:Rr)∈zoneRecs ps:=by
  rw [zoneRecs,if_neg (fun hc=>by rw [zOK_big hc] at hz;cases hz)];exact List.mem_flatMap.2 ⟨p,hp,List.mem_map.2 ⟨d,by rw [hd];simp,rfl⟩⟩
 have h1:=one_ok (bad_none _ _ (zOK_bad hz).1 _ hr);simp only at h1
 cases hs:Nm.split p.1.own with
 |none=>rw [hs] at h1;cases h1.1
 |some lab=>
  refine⟨lab,rfl,?_⟩;rw [<- isUnder_some hs ha];exact h1.2
def labO(x:ByteArray):List ByteArray:=(Nm.split x).getD []
def zAll(ps:List Zp)(o:ByteArray):List Ne:=allE (labO o) (ps.map fun p=>labO p.1.own)
def zNm(ps:List Zp)(o:ByteArray):List (List ByteArray):=(ddN (srtN (zAll ps o).length (zAll ps o))).1
def znR(ps:List Zp)(o:ByteArray):List (List ByteArray)×Int:=if zOK ps o=true then(zNm ps o,0) else([],32)
def ZnP(r:List (List ByteArray)×Int)(w:World)(e:Ending)(w':World):Prop:=∃ u,e=.returned (.tuple #[u,.int .i64 r.2])∧w'.ownsRow w.heap.size 9 1 u r.1.length (r.1.map fun x=>Value.string (joB x))∧Below w.heap.size w w'
theorem znP_none{w w':World}(h:Below w.heap.size w w'):ZnP ([],32) w (.returned (.tuple #[.slice none 0 0,.int .i64 32])) w':=
 ⟨_,rfl,World.ownsRow_nil _ _ _ _,h⟩
theorem znm_tree{ps:List Zp}{o:ByteArray}{al:List ByteArray}{os:List GOw}(h:TZ os o al)(hzs:ps.map (·.1)=zoneT os):zNm ps o=(nmT al os).1:=by
 have e:(ps.map fun p=>labO p.1.own)=(grT os).map (·.1.lab):=by
  have e1:(ps.map fun p=>labO p.1.own)=(ps.map (·.1)).map fun s=>labO s.own:=by rw [List.map_map];rfl
  rw [e1,hzs,zoneT,List.map_map];refine List.map_congr_left (fun g hg=>?_)
  show(Nm.split g.1.nm).getD []=g.1.lab
  rw [h.nm g.1 (grT_mem.1 hg).1];rfl
 have ea:zAll ps o=allE al ((grT os).map (·.1.lab)):=by rw [zAll,e,labO,h.ap];rfl
 rw [zNm,ea,names_eq h _ (Nat.le_succ _)]
end Go.Proofs.YtahpiciofdfipaaGreat
