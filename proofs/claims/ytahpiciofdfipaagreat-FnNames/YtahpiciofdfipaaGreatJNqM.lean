import Derived.Test.YtahpiciofdfipaaGreatJNzM
import Derived.Test.YtahpiciofdfipaaGreatJFnN
import Derived.Test.YtahpiciofdfipaaGreatJTrM
import Derived.Test.YtahpiciofdfipaaGreatJBzD
import Derived.Test.YtahpiciofdfipaaGreatJZbG
import Derived.Test.YtahpiciofdfipaaGreatJTrD
import Derived.Test.YtahpiciofdfipaaGreatJFnV
import Derived.Test.YtahpiciofdfipaaGreatJData1
import Derived.Test.YtahpiciofdfipaaGreatJOwnT
import Derived.Test.YtahpiciofdfipaaGreatJUnderM
import Derived.Test.YtahpiciofdfipaaGreatZbZ
namespace Go.Proofs.YtahpiciofdfipaaGreat
open Go.RowKit
set_option linter.unusedVariables false
def amg(l:List ByteArray)(name:ByteArray):Bool:=l.any fun x=>sameS x name
def nmsZ(ps:List Zp)(o:ByteArray):List ByteArray:=(zNm ps o).map joB
theorem dd_has{S:List Ne}(h:DdI S){e:Ne}(he:e∈S):∃ x∈(ddN S).1,Nm.cmpLs e.1 x=0:=by
 have hg:S.filter (smN e.1)≠[]:=by
  intro h0;have:e∈S.filter (smN e.1):=List.mem_filter.2 ⟨he,smN_iff.2 (cmpLs_self e.1)⟩;rw [h0] at this;cases this
 have hx:∃ e'∈S.filter (smN e.1),ltr (S.filter (smN e.1))=e'.1:=by
  rcases ltr_mem hg with⟨e',h1,_,h2⟩|⟨e',h1,h2⟩
  ·exact⟨e',h1,h2⟩
  ·exact⟨e',List.mem_of_head? h1,h2⟩
 obtain⟨e',h1,h2⟩:=hx;have h3:=smN_iff.1 (List.mem_filter.1 h1).2
 have h4:smN (ltr (S.filter (smN e.1)))=smN e.1:=by
  funext z
  rw [h2,smN,smN,cmpLs_eq_right h3]
 have h5:Nm.cmpLs e.1 (ltr (S.filter (smN e.1)))=0:=by
  rw [h2];have:=cmpLs_anti e'.1 e.1;omega
 exact⟨ltr (S.filter (smN e.1)),(h.mem _).2 ⟨⟨e,he,h5⟩,by rw [h4]⟩,h5⟩
section
variable {ps:List Zp}{o:ByteArray}{al:List ByteArray}
theorem zn_inv(ps:List Zp)(o:ByteArray):DdI (srtN (zAll ps o).length (zAll ps o)):=dd_inv _ (srtN_pw _ _ (by omega))
theorem zn_ent{x:List ByteArray}(h:x∈zNm ps o):∃ e∈zAll ps o,x=e.1:=by
 obtain⟨⟨e,he,h1⟩,h2⟩:=((zn_inv ps o).mem x).1 h
 have hg:(srtN (zAll ps o).length (zAll ps o)).filter (smN x)≠[]:=by
  intro h0;have:e∈(srtN (zAll ps o).length (zAll ps o)).filter (smN x):=List.mem_filter.2 ⟨he,smN_iff.2 h1⟩;rw [h0] at this;cases this
 rcases ltr_mem hg with⟨e',h3,_,h4⟩|⟨e',h3,h4⟩
 ·exact⟨e',srtN_mem.1 (List.mem_filter.1 h3).1,h2.trans h4⟩
 ·exact⟨e',srtN_mem.1 (List.mem_filter.1 (List.mem_of_head? h3)).1,h2.trans h4⟩
theorem zAll_mem(hz:zOK ps o=true)(ha:Nm.split o=some al){x:List ByteArray}:(∃ e∈zAll ps o,e.1=x)↔ ∃ p∈ps,∃ lab,Nm.split p.1.own=some lab∧underB lab al=true∧∃ k,k<=lab.length-al.length∧x=lab.drop k:=by
 have hal:labO o=al:=by rw [labO,ha];rfl
 constructor
 ·rintro⟨e,he,rfl⟩
  rw [zAll,allE,List.mem_flatMap] at he;obtain⟨l,hl,he⟩:=he;obtain⟨p,hp,rfl⟩:=List.mem_map.1 hl;obtain⟨lab,h1,h2⟩:=zOK_own hz ha p hp;have hl2:labO p.1.own=lab:=by rw [labO,h1];rfl
  rw [hl2,hal,ancE,List.mem_map] at he;obtain⟨k,hk,rfl⟩:=he;rw [List.mem_range] at hk;exact⟨p,hp,lab,h1,h2,k,by omega,rfl⟩
 ·rintro⟨p,hp,lab,h1,h2,k,hk,rfl⟩
  have hl2:labO p.1.own=lab:=by rw [labO,h1];rfl
  refine⟨(lab.drop k,decide (k=0)),?_,rfl⟩;rw [zAll,allE,List.mem_flatMap];refine⟨lab,List.mem_map.2 ⟨p,hp,hl2⟩,?_⟩;rw [hal,ancE,List.mem_map];exact⟨k,List.mem_range.2 (by omega),rfl⟩
theorem zn_gl(hz:zOK ps o=true)(ha:Nm.split o=some al){x:List ByteArray}(h:x∈zNm ps o):Gl x∧underB x al=true∧∃ p∈ps,∃ lab,Nm.split p.1.own=some lab∧underB lab x=true:=by
 obtain⟨e,he,rfl⟩:=zn_ent h;obtain⟨p,hp,lab,h1,h2,k,hk,h3⟩:=(zAll_mem hz ha).1 ⟨e,he,rfl⟩;have h4:=(under_iff.1 h2).1;rw [h3];refine⟨(gl_split h1).drop k,under_drop h2 (by omega),p,hp,lab,h1,under_iff.2 ⟨by simp,?_⟩⟩;rw [List.length_drop,show lab.length-(lab.length-k)=k by omega];exact cmpLs_self _
theorem amg_iff{l:List (List ByteArray)}(hl:∀ x∈l,Gl x){y:List ByteArray}(hy:Gl y):amg (l.map joB) (joB y)=true↔ ∃ x∈l,Nm.cmpLs x y=0:=by
 rw [amg,List.any_map,List.any_eq_true];constructor
 ·rintro⟨x,hx,h⟩
  rw [Function.comp,same_cmp (hl x hx).jo hy.jo] at h;exact⟨x,hx,of_decide_eq_true h⟩
 ·rintro⟨x,hx,h⟩
  refine⟨x,hx,?_⟩;rw [Function.comp,same_cmp (hl x hx).jo hy.jo];exact decide_eq_true h
theorem amg_th(hz:zOK ps o=true)(ha:Nm.split o=some al){y:List ByteArray}(hy:Gl y)(hu:underB y al=true):amg (nmsZ ps o) (joB y)=ps.any fun p=>isUnderS p.1.own (joB y):=by
 have e:amg (nmsZ ps o) (joB y)=true↔(ps.any fun p=>isUnderS p.1.own (joB y))=true:=by
  rw [nmsZ,amg_iff (fun x hx=>(zn_gl hz ha hx).1) hy,List.any_eq_true];constructor
  ·rintro⟨x,hx,h⟩
   obtain⟨_,_,p,hp,lab,h1,h2⟩:=zn_gl hz ha hx;refine⟨p,hp,?_⟩;rw [isUnder_some h1 hy.jo];exact under_trans h2 (under_self h)
  ·rintro⟨p,hp,h⟩
   obtain⟨lab,h1,h2⟩:=zOK_own hz ha p hp;rw [isUnder_some h1 hy.jo] at h;obtain⟨u1,u2⟩:=under_iff.1 h;obtain⟨v1,v2⟩:=under_iff.1 hu;obtain⟨e,he,h3⟩:=(zAll_mem hz ha).2 ⟨p,hp,lab,h1,h2,lab.length-y.length,by omega,rfl⟩;obtain⟨x,hx,h4⟩:=dd_has (zn_inv ps o) (srtN_mem.2 he);refine⟨x,hx,?_⟩;rw [h3] at h4;rw [<- cmpLs_eq_left h4];exact u2
 cases h1:amg (nmsZ ps o) (joB y)<;>cases h2:(ps.any fun p=>isUnderS p.1.own (joB y))<;>simp_all
theorem nq_name(hz:zOK ps o=true){name:ByteArray}(hn:(Nm.split name).isSome=true)(hu:isUnderS name o=true):amg (nmsZ ps o) name=thZ ps o name:=by
 obtain⟨al,ha⟩:=(zOK_bad hz).2;obtain⟨lab,hl⟩:=Option.isSome_iff_exists.1 hn;rw [isUnder_some hl ha] at hu;have:=amg_th hz ha (gl_split hl) hu;rw [split_jo hl] at this;rw [this,thZ,isUnder_some hl ha,hu,Bool.true_and]
theorem nq_apex(hz:zOK ps o=true):amg (nmsZ ps o) o=true:=by
 obtain⟨al,ha⟩:=(zOK_bad hz).2;obtain⟨p,hp,xs,h1,h2⟩:=apex_in hz ha;have:=amg_th hz ha (gl_split ha) (under_self (cmpLs_self al));rw [split_jo ha] at this;rw [this,List.any_eq_true];exact⟨p,hp,by rw [isUnder_some h1 ha];exact under_self h2⟩
theorem nq_pos(hz:zOK ps o=true):0<(nmsZ ps o).length:=by
 have h:=nq_apex hz;rw [amg,List.any_eq_true] at h;obtain⟨x,hx,_⟩:=h;exact List.length_pos_of_mem hx
theorem nq_own(hz:zOK ps o=true):∀ p∈ps,amg (nmsZ ps o) p.1.own=true:=by
 intro p hp;obtain⟨al,ha⟩:=(zOK_bad hz).2;obtain⟨lab,h1,h2⟩:=zOK_own hz ha p hp;have:=amg_th hz ha (gl_split h1) h2;rw [split_jo h1] at this;rw [this,List.any_eq_true];exact⟨p,hp,by rw [isUnder_some h1 h1];exact under_self (cmpLs_self lab)⟩
theorem nq_ord(hz:zOK ps o=true){i:Nat}{x y:ByteArray}(hx:(nmsZ ps o)[i]? =some x)(hy:(nmsZ ps o)[i+1]? =some y):Nm.cmpS x y<0:=by
 obtain⟨al,ha⟩:=(zOK_bad hz).2;rw [nmsZ,List.getElem?_map] at hx hy
 cases h1:(zNm ps o)[i]? with
 |none=>rw [h1] at hx;cases hx
 |some a=>
  cases h2:(zNm ps o)[i+1]? with
  |none=>rw [h2] at hy;cases hy
  |some b=>
   rw [h1] at hx;rw [h2] at hy;obtain rfl:=Option.some.inj hx;obtain rfl:=Option.some.inj hy;have ga:=(zn_gl hz ha (List.mem_of_getElem? h1)).1;have gb:=(zn_gl hz ha (List.mem_of_getElem? h2)).1;rw [Nm.cmpS,ga.jo,gb.jo];obtain⟨l1,e1⟩:=List.getElem?_eq_some_iff.1 h1;obtain⟨l2,e2⟩:=List.getElem?_eq_some_iff.1 h2;have:=List.pairwise_iff_getElem.1 (zn_inv ps o).pw i (i+1) l1 l2 (by omega);simp only
   rw [<- e1,<- e2];exact this
theorem nq_up(hz:zOK ps o=true){x:ByteArray}(hx:x∈nmsZ ps o)(hs:sameS x o=false):amg (nmsZ ps o) (ancS x 1).1=true:=by
 obtain⟨al,ha⟩:=(zOK_bad hz).2;rw [nmsZ,List.mem_map] at hx;obtain⟨y,hy,rfl⟩:=hx;obtain⟨g,u,p,hp,lab,h1,h2⟩:=zn_gl hz ha hy;rw [same_cmp g.jo ha,decide_eq_false_iff_not] at hs;have hl:al.length<y.length:=(under_len u).2 hs
 have e:(ancS (joB y) 1).1=joB (y.drop 1):=by
  rw [ancS,g.jo];simp only
  rw [if_pos ⟨by omega,by omega⟩];rfl
 rw [e,amg_th hz ha (g.drop 1) (under_drop u (by omega)),List.any_eq_true];refine⟨p,hp,?_⟩;rw [isUnder_some h1 (g.drop 1).jo];refine under_trans h2 (under_iff.2 ⟨by simp,?_⟩);rw [List.length_drop,show y.length-(y.length-1)=1 by omega];exact cmpLs_self _
theorem nq_upz(hz:zOK ps o=true){x:ByteArray}(hx:x∈nmsZ ps o):x.size<=255∧(ancS x 1).1.size<=255:=by
 obtain⟨al,ha⟩:=(zOK_bad hz).2;rw [nmsZ,List.mem_map] at hx;obtain⟨y,hy,rfl⟩:=hx;have g:=(zn_gl hz ha hy).1;refine⟨jo_size g,?_⟩;rw [ancS,g.jo];simp only
 split
 ·exact jo_size (g.drop _)
 ·decide
theorem clo_stopZ(th:ByteArray->Bool):∀ (y:List ByteArray),(∃ j,j<=y.length∧th (joB (y.drop j))=true)->∃ k,k<=y.length∧cloZ th y=y.drop k∧th (joB (y.drop k))=true∧(th (joB y)=true->k=0)∧(th (joB y)=false->0<k)
 |[],⟨j,hj,h⟩=>by
  have h0:th (joB [])=true:=by simpa using h
  exact⟨0,Nat.le_refl _,rfl,h0,fun _=>rfl,fun h=>by rw [h0] at h;cases h⟩
 |x::xs,⟨j,hj,h⟩=>by
  cases h0:th (joB (x::xs)) with
  |true=>exact⟨0,Nat.zero_le _,by rw [cloZ,if_pos h0];rfl,h0,fun _=>rfl,fun h=>by cases h⟩
  |false=>
   cases j with
   |zero=>rw [List.drop_zero,h0] at h;cases h
   |succ j=>
    obtain⟨k,h1,h2,h3,_,_⟩:=clo_stopZ th xs ⟨j,by simpa using hj,by simpa using h⟩;exact⟨k+1,by simpa using h1,by rw [cloZ,if_neg (by rw [h0];simp),h2];rfl,by simpa using h3,fun h9=>Bool.noConfusion h9,fun _=>Nat.succ_pos _⟩
theorem nq_node(hz:zOK ps o=true){name:ByteArray}(hn:(Nm.split name).isSome=true)(hu:isUnderS name o=true):
 amg (nmsZ ps o) (ndZ ps o name).clo=true∧isUnderS name (ndZ ps o name).clo=true∧sameS (ndZ ps o name).clo name=thZ ps o name∧(ndZ ps o name).clo.size<=255∧
 ((ndZ ps o name).cut≠⟨#[]⟩->(ndZ ps o name).kd=4∨(ndZ ps o name).kd=5)∧((ndZ ps o name).cut=⟨#[]⟩->(thZ ps o name=true->(ndZ ps o name).kd=3∨(ndZ ps o name).kd=2)∧(thZ ps o name=false->(ndZ ps o name).kd=1)):=by
 obtain⟨al,ha⟩:=(zOK_bad hz).2;obtain⟨lab,hl⟩:=Option.isSome_iff_exists.1 hn;have hu':=hu;rw [isUnder_some hl ha] at hu;have gl:=gl_split hl;obtain⟨k,h1,h2,h3,h4,h5⟩:=clo_stopZ (thZ ps o) lab (thz_ex hz ha hl hu);rw [split_jo hl] at h4 h5;have e:(ndZ ps o name).clo=joB (lab.drop k):=by rw [ndZ,if_pos hu',hl];simp only [Option.getD_some];rw [h2]
 have ek:(ndZ ps o name).kd=kdZ name (joB (lab.drop k)) (ndZ ps o name).cut (typZ (ps.map (·.1)) name):=by rw [ndZ,if_pos hu',hl];simp only [Option.getD_some];rw [h2]
 have hund:underB lab (lab.drop k)=true:=under_iff.2 ⟨by simp,by rw [List.length_drop,show lab.length-(lab.length-k)=k by omega];exact cmpLs_self _⟩
 have hty:0<(typZ (ps.map (·.1)) name).length->thZ ps o name=true:=by
  intro h;rw [typZ,List.length_map] at h;obtain⟨s,hs⟩:=List.exists_mem_of_length_pos h;obtain⟨h6,h7⟩:=List.mem_filter.1 hs;obtain⟨p,hp,rfl⟩:=List.mem_map.1 h6;obtain⟨xs,hx,_⟩:=zOK_own hz ha p hp;rw [same_cmp hx hl] at h7;rw [thZ,hu',Bool.true_and,List.any_eq_true];exact⟨p,hp,by rw [isUnder_some hx hl];exact under_self (of_decide_eq_true h7)⟩
 have hclo:joB (lab.drop k)=name↔thZ ps o name=true:=by
  constructor
  ·intro h;rw [<- h];exact h3
  ·intro h;rw [h4 h,List.drop_zero,split_jo hl]
 rw [e];refine⟨?_,by rw [isUnder_some hl (gl.drop k).jo];exact hund,?_,jo_size (gl.drop k),fun hc=>?_,fun hc=>⟨fun ht=>?_,fun ht=>?_⟩⟩
 ·have h6:=h3;rw [thZ,Bool.and_eq_true] at h6;rw [isUnder_some (gl.drop k).jo ha] at h6;rw [amg_th hz ha (gl.drop k) h6.1];exact h6.2
 ·rw [same_cmp (gl.drop k).jo hl]
  cases ht:thZ ps o name with
  |true=>rw [h4 ht,List.drop_zero,cmpLs_self];rfl
  |false=>
   rw [decide_eq_false_iff_not];intro h0;have h6:=len_same h0;have h7:=h5 ht;rw [List.length_drop] at h6;omega
 ·rw [ek,kdZ_some hc];split
  ·exact .inl rfl
  ·exact .inr rfl
 ·rw [ek,hc,kdZ_none,if_pos (hclo.2 ht)];split
  ·exact .inl rfl
  ·exact .inr rfl
 ·rw [ek,hc,kdZ_none,if_neg (fun h=>by rw [hty h] at ht;cases ht),if_neg (fun h=>by rw [hclo.1 h] at ht;cases ht)]
structure NqF (ps:List Zp) (o name:ByteArray) (N:List ByteArray) (kd:Int) (clo cut:ByteArray) (T:Bool):Prop where
 pos:0<N.length
 ap:amg N o=true
 sz:∀ x∈N,x.size<=255∧(ancS x 1).1.size<=255
 ord:∀ (i:Nat) x y,N[i]? =some x->N[i+1]? =some y->Nm.cmpS x y<0
 up:∀ x∈N,sameS x o=false->amg N (ancS x 1).1=true
 own:∀ p∈ps,amg N p.1.own=true
 out:isUnderS name o=false->kd=0
 nm:isUnderS name o=true->amg N name=T∧amg N clo=true∧isUnderS name clo=true∧sameS clo name=T∧clo.size<=255∧(cut≠⟨#[]⟩->kd=4∨kd=5)∧(cut=⟨#[]⟩->(T=true->kd=3∨kd=2)∧(T=false->kd=1))
theorem nq_all(hz:zOK ps o=true){name:ByteArray}(hn:(Nm.split name).isSome=true):∃ (nd:Nd) (T:Bool),ndR ps o name=(nd,0)∧NqF ps o name (nmsZ ps o) nd.kd nd.clo nd.cut T:=by
 refine⟨ndZ ps o name,thZ ps o name,by rw [ndR,if_pos ⟨hz,hn⟩],nq_pos hz,nq_apex hz,fun x hx=>nq_upz hz hx,fun i x y hx hy=>nq_ord hz hx hy,fun x hx hs=>nq_up hz hx hs,nq_own hz,fun h=>?_,fun h=>?_⟩
 ·rw [ndZ,if_neg (by rw [h];simp)];rfl
 ·obtain⟨h1,h2,h3,h4,h5,h6⟩:=nq_node hz hn h;exact⟨nq_name hz hn h,h1,h2,h3,h4,h5,h6⟩
end
def cntS(ss:List Sz):Nat:=(ss.map fun s=>s.da.length).sum
theorem cnt_app(a b:List Sz):cntS (a++b)=cntS a+cntS b:=by simp [cntS]
theorem grp_cnt(l srt:List It):∀ k,k<=srt.length->cntS (grpK l srt k)=k:=by
 intro k
 induction k with
 |zero=>intro _;rfl
 |succ k ih=>
  intro hk;have ihk:=ih (by omega);rw [grpK,List.getElem?_eq_getElem (by omega)];simp only
  split
  ·rw [cnt_app,ihk];rfl
  ·rename_i hn;rw [addLast]
   cases hl:(grpK l srt k).getLast? with
   |none=>
    rw [List.getLast?_eq_none_iff] at hl;rw [hl] at ihk;have k0:k=0:=ihk.symm;subst k0
    exact absurd rfl hn
   |some s=>
    obtain⟨pre,e⟩:∃ pre,grpK l srt k=pre++[s]:=by
     obtain⟨pre,e⟩:=List.getLast?_eq_some_iff.1 hl;exact⟨pre,e⟩
    rw [e] at ihk ⊢;simp only [List.dropLast_concat];rw [cnt_app] at ihk ⊢;simp only [cntS,List.map_cons,List.map_nil,List.sum_cons,List.sum_nil,List.length_append,List.length_cons,List.length_nil] at ihk ⊢;omega
theorem its_len(xs:List Rr):(itsOf xs).length=xs.length:=by simp [itsOf,twI]
theorem its_at{xs:List Rr}{i:Nat}{x:Rr}(h:xs[i]? =some x):(itsOf xs)[i]? =some (outI (dupI ((xs.map itemOf).take i) (itemOf x)) (itemOf x)):=by
 rw [itsOf,twI,List.getElem?_mapIdx,List.getElem?_map,h];rfl
theorem its_r{xs:List Rr}{x:It}(h:x∈itsOf xs):x.r∈xs∧x.fo=Nm.foldS x.r.own:=by
 obtain⟨i,hi⟩:=List.getElem?_of_mem h
 cases hx:xs[i]? with
 |none=>
  have h1:=(List.getElem?_eq_some_iff.1 hi).1;rw [its_len] at h1;rw [List.getElem?_eq_none_iff] at hx
  omega
 |some r=>
  have h2:=its_at hx;rw [hi] at h2;obtain rfl:=Option.some.inj h2;exact⟨List.mem_of_getElem? hx,rfl⟩
theorem own_is{l:List It}{x:It}(h:x∈l):∃ y∈l,ownI l x.fo=y.r.own:=by
 rw [ownI]
 cases e:l.find? (fun y=>decide (y.fo=x.fo)) with
 |some y=>exact⟨y,List.mem_of_find?_eq_some e,rfl⟩
 |none=>
  have:=List.find?_eq_none.1 e x h;simp at this
def ZS(s:Sz):Prop:=s.own.size<=1000∧∀ d∈s.da,d.size<=3200
theorem grp_bd{l srt:List It}(hs:∀ x∈srt,x∈l)(hl:∀ x∈l,ZR x.r):∀ (k:Nat),k<=srt.length->∀ s∈grpK l srt k,ZS s:=by
 intro k
 induction k with
 |zero=>intro _ s h;simp [grpK] at h
 |succ k ih=>
  intro hk;have ih':=ih (by omega);obtain⟨x,hx⟩:∃ x,srt[k]? =some x:=⟨_,List.getElem?_eq_getElem (by omega)⟩;have hxl:=hs x (List.mem_of_getElem? hx)
  cases hn:newSet srt k x with
  |true=>
   rw [grpK_new hx hn];intro s h
   rcases List.mem_append.1 h with h|h
   ·exact ih' s h
   ·simp at h;subst h;obtain⟨y,hy,e⟩:=own_is hxl;refine⟨by show(ownI l x.fo).size<=1000;rw [e];exact(hl y hy).1,fun d hd=>?_⟩;simp at hd;subst hd
    exact(hl x hxl).2
  |false=>
   have hk0:0<k:=by
    rcases Nat.eq_zero_or_pos k with h|h
    ·subst h;simp [newSet] at hn
    ·exact h
   obtain⟨qs,s,e⟩:=grpK_last (l:=l) (srt:=srt) k hk0 (by omega);rw [grpK_old hx hn e];rw [e] at ih';intro t ht
   rcases List.mem_append.1 ht with h|h
   ·exact ih' t (List.mem_append.2 (.inl h))
   ·simp at h;subst h;have h3:=ih' s (by simp);refine⟨h3.1,fun d hd=>?_⟩
    rcases List.mem_append.1 hd with hd|hd
    ·exact h3.2 d hd
    ·simp at hd;subst hd;exact(hl x hxl).2
theorem srt_its{xs:List Rr}{x:It}(h:x∈srtOf xs):x∈itsOf xs:=by
 rw [srtOf,sortI] at h;have:=sortF_mem.1 h;exact(List.mem_filter.1 this).1
theorem srt_le(xs:List Rr):(srtOf xs).length<=xs.length:=by
 rw [srtOf,sortI,sortF_len,restOf];refine Nat.le_trans (List.length_filter_le _ _) ?_;rw [its_len];exact Nat.le_refl _
structure ZB (ps:List Zp) (N:Nat):Prop where
 one:∀ p∈ps,ZS p.1
 len:ps.length<=N
 cnt:cntS (ps.map (·.1))<=N
theorem zb_nil(N:Nat):ZB [] N:=⟨by simp,Nat.zero_le _,Nat.zero_le _⟩
theorem bld_zb{xs:List Rr}{ps:List Zp}{N:Nat}(h:∀ r∈xs,ZR r)(hl:xs.length<=N)(hp:ps.map (·.1)=bldZ xs):ZB ps N:=by
 have h1:=srt_le xs;have h2:=grpK_len (l:=itsOf xs) (srt:=srtOf xs) (srtOf xs).length (Nat.le_refl _);have h3:=congrArg List.length hp;rw [List.length_map] at h3;refine⟨fun p hp'=>?_,?_,?_⟩
 ·have hm:p.1∈bldZ xs:=by rw [<- hp];exact List.mem_map_of_mem hp'
  exact grp_bd (fun x hx=>srt_its hx) (fun x hx=>h x.r (its_r hx).1) _ (Nat.le_refl _) _ hm
 ·rw [h3];exact Nat.le_trans h2.1 (by omega)
 ·rw [hp,bldZ,grp_cnt _ _ _ (Nat.le_refl _)];omega
theorem ssum_bd:∀ {l:List ByteArray} {M:Nat},(∀ d∈l,d.size<=M)->ssum l<=M*l.length
 |[],M,_=>Nat.zero_le _
 |d::l,M,h=>by
  have h1:=ssum_bd (l:=l) (fun x hx=>h x (List.mem_cons_of_mem _ hx));have h2:=h d (List.mem_cons_self ..);simp only [ssum,List.length_cons,Nat.mul_add,Nat.mul_one];omega
theorem zsum_bd:∀ {ps:List Zp},(∀ p∈ps,ZS p.1)->zsum ps<=1000*ps.length+3201*cntS (ps.map (·.1))
 |[],_=>Nat.zero_le _
 |p::ps,h=>by
  have h1:=zsum_bd (ps:=ps) (fun x hx=>h x (List.mem_cons_of_mem _ hx));have h2:=h p (List.mem_cons_self ..);have h3:=ssum_bd h2.2;have h4:=h2.1;simp only [zsum,zs1,List.length_cons,List.map_cons,cntS,List.sum_cons,Nat.mul_add] at h1 ⊢;omega
theorem ZB.sum{ps:List Zp}{N:Nat}(h:ZB ps N)(hN:N<=240):zsum ps<=1048576:=by
 have h1:=zsum_bd h.one;have h2:=h.len;have h3:=h.cnt;omega
set_option maxRecDepth 100000 in
set_option maxHeartbeats 400000 in
theorem specLabels_any(s:ByteArray)(w:World)(hs:s.size<=maxLen):
 Calls Tryz.prog 62 #[.string s] w fun e w'=>∃ v,e=.returned v∧w'.ownsRow w.heap.size 9 1 v ((Nm.split s).getD []).length (((Nm.split s).getD []).map Value.string)∧Below w.heap.size w w':=by
 go_enter Tryz.func62,Tryz.ntmps62;go_wp2_with (go_at_call 19;refine(l01Split_any s _ hs).mono ?_;rintro e w1 ⟨v,rfl,hown,hbel⟩)
 go_ret;exact⟨_,rfl,hown,hbel⟩
structure ZT (ps:List Zp) (N:Nat):Prop where
 one:∀ p∈ps,p.1.own.size<=2000∧∀ d∈p.1.da,d.size<=3200
 len:ps.length<=N
 cnt:cntS (ps.map (·.1))<=N
theorem zt_nil(N:Nat):ZT [] N:=⟨by simp,Nat.zero_le _,Nat.zero_le _⟩
theorem ZB.zt{ps:List Zp}{N:Nat}(h:ZB ps N):ZT ps N:=⟨fun p hp=>⟨by have:=(h.one p hp).1;omega,(h.one p hp).2⟩,h.len,h.cnt⟩
theorem ZT.tail{p:Zp}{ps:List Zp}{N:Nat}(h:ZT (p::ps) N):ZT ps N:=
 ⟨fun q hq=>h.one q (List.mem_cons_of_mem _ hq),by have:=h.len;simp at this;omega,by have:=h.cnt;simp only [cntS,List.map_cons,List.sum_cons] at this ⊢;omega⟩
theorem cnt_mem:∀ {ps:List Zp} {p:Zp},p∈ps->p.1.da.length<=cntS (ps.map (·.1))
 |q::ps,p,h=>by
  rcases List.mem_cons.1 h with rfl|h
  ·simp only [cntS,List.map_cons,List.sum_cons];omega
  ·have:=cnt_mem h;simp only [cntS,List.map_cons,List.sum_cons] at this ⊢;omega
theorem cnt_set:∀ {ps:List Zp} {j:Nat} {p q:Zp},ps[j]? =some p->q.1.da.length<=p.1.da.length->cntS ((ps.set j q).map (·.1))<=cntS (ps.map (·.1))
 |[],j,p,q,h,_=>by simp at h
 |r::ps,0,p,q,h,hq=>by
  simp at h;subst h;simp only [List.set_cons_zero,cntS,List.map_cons,List.sum_cons]
  omega
 |r::ps,j+1,p,q,h,hq=>by
  have:=cnt_set (ps:=ps) (j:=j) (p:=p) (q:=q) (by simpa using h) hq;simp only [List.set_cons_succ,cntS,List.map_cons,List.sum_cons] at this ⊢;omega
theorem ZT.set{ps:List Zp}{N j:Nat}{p q:Zp}(h:ZT ps N)(hp:ps[j]? =some p)(ho:q.1.own.size<=2000)(hd:∀ d∈q.1.da,d∈p.1.da)(hl:q.1.da.length<=p.1.da.length):ZT (ps.set j q) N:=by
 refine⟨fun r hr=>?_,by rw [List.length_set];exact h.len,Nat.le_trans (cnt_set hp hl) h.cnt⟩
 rcases List.mem_or_eq_of_mem_set hr with hr|rfl
 ·exact h.one r hr
 ·exact⟨ho,fun d hq=>(h.one p (List.mem_of_getElem? hp)).2 d (hd d hq)⟩
theorem ztsum_bd:∀ {ps:List Zp},(∀ p∈ps,p.1.own.size<=2000∧∀ d∈p.1.da,d.size<=3200)->zsum ps<=2000*ps.length+3201*cntS (ps.map (·.1))
 |[],_=>Nat.zero_le _
 |p::ps,h=>by
  have h1:=ztsum_bd (ps:=ps) (fun x hx=>h x (List.mem_cons_of_mem _ hx));have h2:=h p (List.mem_cons_self ..);have h3:=ssum_bd h2.2;have h4:=h2.1;simp only [zsum,zs1,List.length_cons,List.map_cons,cntS,List.sum_cons,Nat.mul_add] at h1 ⊢;omega
theorem ZT.zl{ps:List Zp}{N:Nat}(h:ZT ps N)(hN:N<=200):ZL ps:=by
 have h1:=ztsum_bd h.one;have h2:=h.len;have h3:=h.cnt;refine⟨by omega,by omega,fun p hp=>⟨by have:=(h.one p hp).1;omega,by have:=cnt_mem hp;omega,fun d hd=>by have:=(h.one p hp).2 d hd;omega⟩⟩
theorem ZB.twice{ps:List Zp}{N:Nat}{p:Zp}(h:ZB ps N)(hp:p∈ps)(hN:N<=126):ZL (ps++[p]):=by
 have h0:∀ q∈ps++[p],ZS q.1:=fun q hq=>by
  rcases List.mem_append.1 hq with hq|hq
  ·exact h.one q hq
  ·rw [List.mem_singleton.1 hq];exact h.one p hp
 have h1:=zsum_bd h0;have h2:=h.len;have h3:=h.cnt;have h4:=cnt_mem hp;have h5:cntS ((ps++[p]).map (·.1))=cntS (ps.map (·.1))+p.1.da.length:=by rw [List.map_append,cnt_app];simp [cntS]
 have h6:(ps++[p]).length=ps.length+1:=by simp
 rw [h5,h6] at h1;refine⟨by omega,by omega,fun q hq=>⟨by have:=(h0 q hq).1;omega,?_,fun d hd=>by have:=(h0 q hq).2 d hd;omega⟩⟩
 rcases List.mem_append.1 hq with hq|hq
 ·have:=cnt_mem hq;omega
 ·rw [List.mem_singleton.1 hq];omega
theorem bz_drawn{list:List Rr}{ap:ByteArray}{w w':World}{e:Ending}{C N:Nat}(h:BzPost list ap w e w')(hz:∀ r∈list,ZR r)(hl:list.length<=N)(ha:ap.size<=20)(hC:C<=w.heap.size):
 Below w.heap.size w w'∧∃ (o:ByteArray) (v:Value) (ps:List Zp) (c i:Int),e=.returned (.tuple #[.agg #[.string o,v],.int .i64 c,.int .i64 i])∧o.size<=20∧Hid (ZB ps N∧(c=0->0<ps.length∧o=ap)∧((bldE list ap).1=0->c=0))∧ZOwn w' C v ps:=by
 obtain⟨hb,h1,h2⟩:=h;refine⟨hb,?_⟩
 by_cases hc:(bldE list ap).1=0
 ·obtain⟨v,ps,rfl,hp,ho⟩:=h1 hc;exact⟨ap,v,ps,0,0,rfl,ha,⟨bld_zb hz hl hp,fun _=>⟨by have h3:=congrArg List.length hp;rw [List.length_map] at h3;rw [h3];exact bld_pos hc,rfl⟩,fun _=>rfl⟩,ho.base hC⟩
 ·exact⟨_,_,[],_,_,h2 hc,by decide,⟨zb_nil N,fun h=>absurd h hc,fun h=>absurd h hc⟩,ZOwn.nil _ _⟩
end Go.Proofs.YtahpiciofdfipaaGreat
