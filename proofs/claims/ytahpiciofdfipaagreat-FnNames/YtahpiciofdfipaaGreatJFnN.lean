import Derived.Test.YtahpiciofdfipaaGreatJFnV
import Derived.Test.YtahpiciofdfipaaGreatJTiN
import Derived.Test.YtahpiciofdfipaaGreatJUnderM
import Derived.Test.YtahpiciofdfipaaGreatJOwnT
import Derived.Test.YtahpiciofdfipaaGreatDwC
import Derived.Test.YtahpiciofdfipaaGreatJZbG
namespace Go.Proofs.YtahpiciofdfipaaGreat
open Go.RowKit
set_option linter.unusedVariables false
theorem isIn_own{os:List GOw}(h:OwS os)(lab:List ByteArray):(isIn (oCmp lab) os=true∧∃ q∈os,os[posOf (oCmp lab) os]? =some q∧Nm.cmpLs q.lab lab=0)∨(isIn (oCmp lab) os=false∧∀ q∈os,Nm.cmpLs q.lab lab≠0):=by
 rcases place_split (f:=oCmp lab) h (oCmp_mono lab) with⟨hi,A,C,e,hp,ha,hc⟩|⟨hi,A,o,C,e,hp,h0,ha,hc⟩
 ·refine .inr ⟨hi,fun q hq h1=>?_⟩;rw [e] at hq
  rcases List.mem_append.1 hq with hq|hq
  ·have:=ha q hq;rw [oCmp] at this;omega
  ·have:=hc q hq;rw [oCmp] at this;omega
 ·obtain⟨x,hx,h0⟩:=isIn_some hi;exact .inl ⟨hi,x,List.mem_of_getElem? hx,hx,h0⟩
def tyF(lab:List ByteArray)(q:GOw):List Int:=if Nm.cmpLs q.lab lab=0 then q.ss.map (·.ty) else []
theorem typ_flat{name:ByteArray}{lab:List ByteArray}(hn:Nm.split name=some lab):∀ (os:List GOw),(∀ q∈os,Nm.split q.nm=some q.lab)->typZ (zoneT os) name=os.flatMap (tyF lab)
 |[],_=>rfl
 |q::os,h=>by
  have ih:=typ_flat hn os (fun r hr=>h r (List.mem_cons_of_mem _ hr))
  have e1:zoneT (q::os)=(q.ss.map fun s=>szT (q,s))++zoneT os:=by
   simp [zoneT,grT,List.flatMap_cons,List.map_append,List.map_map,Function.comp_def]
  have e2:typZ (zoneT (q::os)) name=typZ (q.ss.map fun s=>szT (q,s)) name++typZ (zoneT os) name:=by
   rw [e1,typZ,typZ,typZ,List.filter_append,List.map_append]
  rw [e2,ih,List.flatMap_cons];congr 1;have hs:sameS q.nm name=decide (Nm.cmpLs q.lab lab=0):=same_cmp (h q List.mem_cons_self) hn;rw [typZ,tyF]
  by_cases hc:Nm.cmpLs q.lab lab=0
  ·rw [if_pos hc,List.filter_eq_self.2 (fun z hz=>by obtain⟨s,-,rfl⟩:=List.mem_map.1 hz;show sameS q.nm name=true;rw [hs];simpa using hc)];rw [List.map_map];rfl
  ·rw [if_neg hc,List.filter_eq_nil_iff.2 (fun z hz=>by obtain⟨s,-,rfl⟩:=List.mem_map.1 hz;show ¬sameS q.nm name=true;rw [hs];simpa using hc)];rfl
theorem flat_no{lab:List ByteArray}{os:List GOw}(h:∀ q∈os,Nm.cmpLs q.lab lab≠0):os.flatMap (tyF lab)=[]:=by
 rw [List.flatMap_eq_nil_iff];intro q hq;rw [tyF,if_neg (h q hq)]
theorem flat_yes{lab:List ByteArray}:∀ {os:List GOw},OwS os->∀ q∈os,Nm.cmpLs q.lab lab=0->os.flatMap (tyF lab)=q.ss.map (·.ty)
 |[],_,_,hq,_=>by cases hq
 |r::os,h,q,hq,h0=>by
  obtain⟨h1,h2⟩:=List.pairwise_cons.1 h;rw [List.flatMap_cons]
  rcases List.mem_cons.1 hq with rfl|hq
  ·rw [flat_no (lab:=lab) (fun x hx e=>by have:=h1 x hx;rw [cmpLs_eq_left h0,] at this;have h9:=cmpLs_symm e;omega),tyF,if_pos h0,List.append_nil]
  ·have:=h1 q hq;rw [flat_yes h2 q hq h0,tyF,if_neg (fun e=>by rw [cmpLs_eq_left e] at this;have h9:=cmpLs_symm h0;omega)];rfl
theorem TZ.ty{o name:ByteArray}{al lab:List ByteArray}{os:List GOw}(h:TZ os o al)(hn:Nm.split name=some lab):tyT os lab=typZ (zoneT os) name∧(isIn (oCmp lab) os=true↔0<(typZ (zoneT os) name).length):=by
 rw [typ_flat hn os h.nm,tyT]
 rcases isIn_own h.srt.1 lab with⟨hi,q,hq,hp,h0⟩|⟨hi,hno⟩
 ·rw [flat_yes h.srt.1 q hq h0,hi,hp];refine⟨rfl,fun _=>?_,fun _=>rfl⟩;obtain⟨s,hs⟩:=h.full q hq;have:=List.length_pos_of_mem hs;simpa using this
 ·rw [flat_no hno,hi];simp
theorem cut_some{os:List GOw}{lab:List ByteArray}(hs:OwS os∧∀ q∈os,SeS q.ss):∀ (n:Nat),(cutT os lab n=none∧∀ m,m<n->hasT (lab.drop m) 2 os=false)∨(∃ m q,m<n∧cutT os lab n=some q∧q∈os∧Nm.cmpLs q.lab (lab.drop m)=0∧(∃ s∈q.ss,s.ty=2)∧∀ m',m<m'->m'<n->hasT (lab.drop m') 2 os=false)
 |0=>.inl ⟨rfl,fun m hm=>by omega⟩
 |n+1=>by
  cases hh:hasT (lab.drop n) 2 os with
  |true=>
   refine .inr ⟨n,?_⟩;obtain⟨q,hq,h0,h2⟩:=(hasT_iff hs _ _).1 hh
   rcases isIn_own hs.1 (lab.drop n) with⟨hi,r,hr,hp,hr0⟩|⟨hi,hno⟩
   ·have hsr:∃ s∈r.ss,s.ty=2:=by
     rw [hasT,hp,hi] at hh;exact(isIn_set (hs.2 r hr) 2).1 hh
    exact⟨r,by omega,by rw [cutT,if_pos hh];exact hp,hr,hr0,hsr,fun m' h1 h2=>by omega⟩
   ·exact absurd h0 (hno q hq)
  |false=>
   have e:cutT os lab (n+1)=cutT os lab n:=by rw [cutT,if_neg (by rw [hh];decide)]
   rw [e]
   rcases cut_some hs n with⟨h1,h2⟩|⟨m,q,h1,h2,h3,h4,h5,h6⟩
   ·refine .inl ⟨h1,fun m hm=>?_⟩
    rcases Nat.lt_or_ge m n with h|h
    ·exact h2 m h
    ·obtain rfl:m=n:=by omega
     exact hh
   ·refine .inr ⟨m,q,by omega,h2,h3,h4,h5,fun m' ha hb=>?_⟩
    rcases Nat.lt_or_ge m' n with h|h
    ·exact h6 m' ha h
    ·obtain rfl:m'=n:=by omega
     exact hh
theorem cutStep_or(o name best:ByteArray)(s:Sz):(cutStep o name best s=s.own∧candZ o name s=true∧(best=⟨#[]⟩∨labN s.own<labN best))∨(cutStep o name best s=best∧(candZ o name s=false∨(best≠⟨#[]⟩∧labN best<=labN s.own))):=by
 rw [cutStep];split
 ·rename_i h;simp only [Bool.and_eq_true,Bool.or_eq_true,decide_eq_true_eq] at h;exact .inl ⟨rfl,h⟩
 ·rename_i h;refine .inr ⟨rfl,?_⟩
  cases hc:candZ o name s with
  |false=>exact .inl rfl
  |true=>
   rw [hc] at h;simp only [Bool.true_and,Bool.or_eq_true,decide_eq_true_eq,not_or,Nat.not_lt] at h;exact .inr h
theorem cutZ_cases(o name:ByteArray)(hne:∀ s:Sz,candZ o name s=true->s.own≠⟨#[]⟩)(ss:List Sz):(cutZ ss o name=⟨#[]⟩∧∀ s∈ss,candZ o name s=false)∨(∃ s∈ss,cutZ ss o name=s.own∧candZ o name s=true∧∀ t∈ss,candZ o name t=true->labN s.own<=labN t.own):=by
 refine snoc_ind (P:=fun ss=>(cutZ ss o name=⟨#[]⟩∧∀ s∈ss,candZ o name s=false)∨(∃ s∈ss,cutZ ss o name=s.own∧candZ o name s=true∧∀ t∈ss,candZ o name t=true->labN s.own<=labN t.own)) (.inl ⟨rfl,by simp⟩) (fun l a ih=>?_) ss;have e:cutZ (l++[a]) o name=cutStep o name (cutZ l o name) a:=by simp [cutZ,List.foldl_append]
 rw [e]
 rcases ih with⟨h1,h2⟩|⟨s,hs,h1,h2,h3⟩
 ·rw [h1]
  rcases cutStep_or o name ⟨#[]⟩ a with⟨e1,e2,e3⟩|⟨e1,e2|⟨e2,-⟩⟩
  ·refine .inr ⟨a,by simp,e1,e2,fun t ht hc=>?_⟩
   rcases List.mem_append.1 ht with ht|ht
   ·rw [h2 t ht] at hc;cases hc
   ·rw [List.mem_singleton.1 ht];exact Nat.le_refl _
  ·refine .inl ⟨e1,fun s hs=>?_⟩
   rcases List.mem_append.1 hs with hs|hs
   ·exact h2 s hs
   ·rw [List.mem_singleton.1 hs];exact e2
  ·exact absurd rfl e2
 ·rw [h1]
  rcases cutStep_or o name s.own a with⟨e1,e2,e3⟩|⟨e1,e2⟩
  ·have e4:labN a.own<labN s.own:=by
    rcases e3 with e3|e3
    ·exact absurd e3 (hne s h2)
    ·exact e3
   refine .inr ⟨a,by simp,e1,e2,fun t ht hc=>?_⟩
   rcases List.mem_append.1 ht with ht|ht
   ·have:=h3 t ht hc;omega
   ·rw [List.mem_singleton.1 ht];exact Nat.le_refl _
  ·refine .inr ⟨s,by simp [hs],e1,h2,fun t ht hc=>?_⟩
   rcases List.mem_append.1 ht with ht|ht
   ·exact h3 t ht hc
   ·rw [List.mem_singleton.1 ht] at hc ⊢
    rcases e2 with e2|e2
    ·rw [e2] at hc;cases hc
    ·exact e2.2
theorem split_ne{a:ByteArray}{xs:List ByteArray}(h:Nm.split a=some xs):a≠⟨#[]⟩:=by
 rintro rfl;have:=(Nm.split_size h).1;simp [ByteArray.size] at this
theorem cand_ne{o name:ByteArray}{s:Sz}(h:candZ o name s=true):s.own≠⟨#[]⟩:=by
 rw [candZ,Bool.and_eq_true] at h;intro e;have h2:=h.2;rw [isUnder_right (by rw [e];cases hq:Nm.split ⟨#[]⟩ with|none=>rfl|some xs=>exact absurd rfl (split_ne hq))] at h2;cases h2
theorem labN_eq{a:ByteArray}{xs:List ByteArray}(h:Nm.split a=some xs):labN a=xs.length:=by rw [labN,h];rfl
theorem TZ.cand{o name:ByteArray}{al lab:List ByteArray}{os:List GOw}(h:TZ os o al)(hn:Nm.split name=some lab){q:GOw}{s:GSe}(hq:q∈os):candZ o name (szT (q,s))=true↔s.ty=2∧al.length<q.lab.length∧underB lab q.lab=true:=by
 have e1:sameS q.nm o=decide (Nm.cmpLs q.lab al=0):=same_cmp (h.nm q hq) h.ap;have e2:isUnderS name q.nm=underB lab q.lab:=isUnder_some hn (h.nm q hq)
 show(decide (s.ty=2)&& !sameS q.nm o&&isUnderS name q.nm)=true↔_
 rw [e1,e2,under_len (h.und q hq)];simp only [Bool.and_eq_true,decide_eq_true_eq,Bool.not_eq_true',decide_eq_false_iff_not];rw [and_assoc]
theorem TZ.cut{o name:ByteArray}{al lab:List ByteArray}{os:List GOw}(h:TZ os o al)(hn:Nm.split name=some lab)(hu:underB lab al=true):cutN (cutT os lab (lab.length-al.length))=cutZ (zoneT os) o name:=by
 have hal:=(under_iff.1 hu).1
 rcases cut_some (lab:=lab) h.srt (lab.length-al.length) with⟨c1,c2⟩|⟨m,q,c1,c2,c3,c4,⟨s,hs,hs2⟩,c6⟩
 ·rw [c1]
  rcases cutZ_cases o name (fun s hs=>cand_ne hs) (zoneT os) with⟨z1,z2⟩|⟨z,hz,z1,z2,z3⟩
  ·rw [z1];rfl
  ·exfalso
   obtain⟨g,hg,rfl⟩:=List.mem_map.1 hz;obtain⟨g1,g2⟩:=grT_mem.1 hg;obtain⟨k1,k2,k3⟩:=(h.cand hn g1).1 z2;obtain⟨u1,u2⟩:=under_iff.1 k3;have h1:=c2 (lab.length-g.1.lab.length) (by omega);rw [(hasT_iff h.srt _ _).2 ⟨g.1,g1,cmpLs_symm u2,g.2,g2,k1⟩] at h1;cases h1
 ·rw [c2];have hlq:q.lab.length=lab.length-m:=by rw [len_same c4,List.length_drop]
  have hcq:candZ o name (szT (q,s))=true:=(h.cand hn c3).2 ⟨hs2,by omega,under_iff.2 ⟨by omega,by rw [hlq,show lab.length-(lab.length-m)=m by omega];exact cmpLs_symm c4⟩⟩
  rcases cutZ_cases o name (fun s hs=>cand_ne hs) (zoneT os) with⟨z1,z2⟩|⟨z,hz,z1,z2,z3⟩
  ·rw [z2 _ (List.mem_map_of_mem (grT_mem.2 ⟨c3,hs⟩))] at hcq;cases hcq
  ·obtain⟨g,hg,rfl⟩:=List.mem_map.1 hz;obtain⟨g1,g2⟩:=grT_mem.1 hg;obtain⟨k1,k2,k3⟩:=(h.cand hn g1).1 z2;obtain⟨u1,u2⟩:=under_iff.1 k3;have hle:labN g.1.nm<=labN q.nm:=z3 _ (List.mem_map_of_mem (grT_mem.2 ⟨c3,hs⟩)) hcq;rw [labN_eq (h.nm g.1 g1),labN_eq (h.nm q c3)] at hle
   have hge:¬m<lab.length-g.1.lab.length:=fun hlt=>by
    have h1:=c6 (lab.length-g.1.lab.length) hlt (by omega);rw [(hasT_iff h.srt _ _).2 ⟨g.1,g1,cmpLs_symm u2,g.2,g2,k1⟩] at h1;cases h1
   have hm:lab.length-g.1.lab.length=m:=by omega
   rw [hm] at u2;have e:=h.one q c3 g.1 g1 (by rw [cmpLs_eq_left c4];exact u2);rw [z1,e];rfl
theorem clo_drop(os:List GOw):∀ (y:List ByteArray),∃ k,k<=y.length∧cloT os y=y.drop k
 |[]=>⟨0,Nat.le_refl _,rfl⟩
 |x::xs=>by
  rw [cloT];split
  ·exact⟨0,Nat.zero_le _,rfl⟩
  ·obtain⟨k,hk,e⟩:=clo_drop os xs;exact⟨k+1,by simpa using hk,by rw [e];rfl⟩
theorem kdZ_none(name clo:ByteArray)(ty:List Int):kdZ name clo ⟨#[]⟩ ty=if 0<ty.length then 3 else if clo=name then 2 else 1:=by rw [kdZ,if_neg (by simp)]
theorem kdZ_some{name clo cut:ByteArray}{ty:List Int}(h:cut≠⟨#[]⟩):kdZ name clo cut ty=if sameS cut name=true then 4 else 5:=by rw [kdZ,if_pos h]
theorem TZ.nd{ps:List Zp}{o name:ByteArray}{al lab:List ByteArray}{os:List GOw}(h:TZ os o al)(hzs:ps.map (·.1)=zoneT os)(hn:Nm.split name=some lab):ndT os al lab=ndZ ps o name:=by
 have hg:=gl_split hn;rw [ndT,ndZ,isUnder_some hn h.ap,hn]
 cases hu:underB lab al with
 |false=>rfl
 |true=>
  simp only [if_true,Option.getD_some];rw [hzs,<- h.clo hzs lab hg hu,<- h.cut hn hu,<- (h.ty hn).1];congr 1;obtain⟨k,hk,ek⟩:=clo_drop os lab;have hty:=(h.ty hn).2;rw [<- (h.ty hn).1] at hty
  rcases cut_some (lab:=lab) h.srt (lab.length-al.length) with⟨c1,c2⟩|⟨m,q,c1,c2,c3,c4,-,c6⟩
  ·rw [c1,kdT,cutN,kdZ_none]
   cases hi:isIn (oCmp lab) os with
   |true=>simp only [if_true,if_pos (hty.1 hi)]
   |false=>
    have hnt:¬0<(tyT os lab).length:=fun e=>by rw [hty.2 e] at hi;cases hi
    simp only [Bool.false_eq_true,if_false,if_neg hnt]
    have e2:(cloT os lab).length=lab.length↔joB (cloT os lab)=name:=by
     rw [ek];constructor
     ·intro e;rw [List.length_drop] at e
      rcases Nat.eq_zero_or_pos k with rfl|hk0
      ·rw [List.drop_zero];exact split_jo hn
      ·have h0:lab.length=0:=by omega
       rw [show lab.drop k=lab by rw [List.length_eq_zero_iff.1 h0];simp];exact split_jo hn
     ·intro e;rw [jo_inj (hg.drop k) hg (by rw [e,split_jo hn])]
    by_cases hc:(cloT os lab).length=lab.length
    ·rw [if_pos hc,if_pos (e2.1 hc)]
    ·rw [if_neg hc,if_neg (fun e=>hc (e2.2 e))]
  ·rw [c2,kdT,cutN,kdZ_some (split_ne (h.nm q c3)),same_cmp (h.nm q c3) hn];have hlq:q.lab.length=lab.length-m:=by rw [len_same c4,List.length_drop]
   by_cases hm:q.lab.length=lab.length
   ·have e:lab.drop m=lab:=by
     rcases Nat.eq_zero_or_pos m with rfl|h0
     ·rfl
     ·have h1:lab.length=0:=by omega
      rw [List.length_eq_zero_iff.1 h1];simp
    rw [e] at c4;rw [if_pos hm,if_pos (by simpa using c4)]
   ·rw [if_neg hm,if_neg (fun e=>hm (len_same (by simpa using e)))]
def NdV(N:Nd)(w:World)(e:Ending)(w':World):Prop:=∃ u,e=.returned (.agg #[.int .i64 N.kd,.string N.clo,.string N.cut,u])∧w'.ownsRow w.heap.size 2 1 u N.ty.length (intCells N.ty)∧Below w.heap.size w w'
theorem node_store{w w2:World}{b B n:Nat}{kd:Int}{x y:ByteArray}{v:Value}{xs:List Value}(k:Blk w2 b #[.int .i64 0,.string ⟨#[]⟩,.string ⟨#[]⟩,.slice none 0 0] 32)(ho:w2.ownsRow B 2 1 v n xs)(hne:v.ownBlock≠some b)(hb:Below w.heap.size w w2)(hlb:w.heap.size<=b):
 Blk ((((w2.setCell ⟨b,0,none⟩ (.int .i64 kd)).setCell ⟨b,1,none⟩ (.string x)).setCell ⟨b,2,none⟩ (.string y)).setCell ⟨b,3,none⟩ v) b #[.int .i64 kd,.string x,.string y,v] 32∧
 ((((w2.setCell ⟨b,0,none⟩ (.int .i64 kd)).setCell ⟨b,1,none⟩ (.string x)).setCell ⟨b,2,none⟩ (.string y)).setCell ⟨b,3,none⟩ v).ownsRow B 2 1 v n xs∧
 Below w.heap.size w ((((w2.setCell ⟨b,0,none⟩ (.int .i64 kd)).setCell ⟨b,1,none⟩ (.string x)).setCell ⟨b,2,none⟩ (.string y)).setCell ⟨b,3,none⟩ v):=by
 have k4:=blk_set (blk_set (blk_set (blk_set k 0 (.int .i64 kd)) 1 (.string x)) 2 (.string y)) 3 v;simp only [List.setIfInBounds_toArray,List.set_cons_zero,List.set_cons_succ] at k4;have ho4:=own_far (y:=v) (i:=3) (g:=b) (own_far (y:=.string y) (i:=2) (g:=b) (own_far (y:=.string x) (i:=1) (g:=b) (own_far (y:=.int .i64 kd) (i:=0) (g:=b) ho hne) hne) hne) hne;exact⟨k4,ho4,(((hb.setCell (p:=⟨b,0,none⟩) hlb (.int .i64 kd)).setCell (p:=⟨b,1,none⟩) hlb (.string x)).setCell (p:=⟨b,2,none⟩) hlb (.string y)).setCell (p:=⟨b,3,none⟩) hlb v⟩
structure NdS (w W:World) (zb p:Nat) (a b c u:Value) (l:List Int):Prop where
 z:Blk W zb #[.int .i64 0,.string ⟨#[]⟩,.string ⟨#[]⟩,.slice none 0 0] 32
 k:Blk W p #[a,b,c,u] 32
 le:w.heap.size<=zb
 lt:zb<p
 row:W.ownsRow w.heap.size 2 1 u l.length (intCells l)
 far:∀ g,u.ownBlock=some g->p<g
 be:Below w.heap.size w W
theorem NdS.below{w W W':World}{zb p:Nat}{a b c u:Value}{l:List Int}(h:NdS w W zb p a b c u l)(hb:Below W.heap.size W W'):NdS w W' zb p a b c u l:=
 ⟨blk_below h.z hb,blk_below h.k hb,h.le,h.lt,own_below h.row hb,h.far,Nm.below_two h.be hb⟩
theorem NdS.put{w W:World}{zb p i:Nat}{a b c u y a' b' c':Value}{l:List Int}(h:NdS w W zb p a b c u l)(e:(#[a,b,c,u]:Array Value).setIfInBounds i y=#[a',b',c',u]):NdS w (W.setCell ⟨p,i,none⟩ y) zb p a' b' c' u l:=
 ⟨blk_far h.z (by have:=h.lt;omega),by rw [<- e];exact blk_set h.k i y,h.le,h.lt,own_far h.row (fun e=>by have:=h.far _ e;omega),h.far,h.be.setCell (p:=⟨p,i,none⟩) (by have:=h.lt;have:=h.le;show w.heap.size<=p;omega) y⟩
theorem NdS.set0{w W:World}{zb p:Nat}{a b c u y:Value}{l:List Int}(h:NdS w W zb p a b c u l):NdS w (W.setCell ⟨p,0,none⟩ y) zb p y b c u l:=h.put rfl
theorem NdS.set1{w W:World}{zb p:Nat}{a b c u y:Value}{l:List Int}(h:NdS w W zb p a b c u l):NdS w (W.setCell ⟨p,1,none⟩ y) zb p a y c u l:=h.put rfl
theorem NdS.set2{w W:World}{zb p:Nat}{a b c u y:Value}{l:List Int}(h:NdS w W zb p a b c u l):NdS w (W.setCell ⟨p,2,none⟩ y) zb p a b y u l:=h.put rfl
theorem NdS.set3{w W W':World}{zb p:Nat}{a b c u y:Value}{l m:List Int}(h:NdS w W zb p a b c u l)(hb:Below W.heap.size W W')(ho:W'.ownsRow W.heap.size 2 1 y m.length (intCells m)):NdS w (W'.setCell ⟨p,3,none⟩ y) zb p a b c y m:=by
 have h':=h.below hb;have hp:=blk_lt h.k;have hf:∀ g,y.ownBlock=some g->p<g:=fun g e=>by have:=(ho.lt g e).1;omega
 exact⟨blk_far h'.z (by have:=h.lt;omega),blk_set h'.k 3 y,h.le,h.lt,own_far (own_base ho h.be.size) (fun e=>by have:=hf _ e;omega),hf,h'.be.setCell (p:=⟨p,3,none⟩) (by have:=h.lt;have:=h.le;show w.heap.size<=p;omega) y⟩
theorem NdS.start{w w2 w3:World}{zb:Nat}(k:Blk w2 zb #[.int .i64 0,.string ⟨#[]⟩,.string ⟨#[]⟩,.slice none 0 0] 32)(hz:w.heap.size<=zb)(hb:Below w.heap.size w w2)(h3:Below (w2.alloc (.cells #[.int .i64 0,.string ⟨#[]⟩,.string ⟨#[]⟩,.slice none 0 0] 32)).heap.size (w2.alloc (.cells #[.int .i64 0,.string ⟨#[]⟩,.string ⟨#[]⟩,.slice none 0 0] 32)) w3):
 NdS w w3 zb w2.heap.size (.int .i64 0) (.string ⟨#[]⟩) (.string ⟨#[]⟩) (.slice none 0 0) []:=
 ⟨blk_below (blk_alloc k _) h3,blk_below (blk_new w2 #[.int .i64 0,.string ⟨#[]⟩,.string ⟨#[]⟩,.slice none 0 0] 32) h3,hz,blk_lt k,World.ownsRow_nil _ _ _ _,by simp [Value.ownBlock],Nm.below_two (hb.alloc hb.size _) h3⟩
theorem NdS.done{w W:World}{zb p:Nat}{kd:Int}{x y:ByteArray}{u:Value}{l:List Int}(h:NdS w W zb p (.int .i64 kd) (.string x) (.string y) u l):
 Blk ((((W.setCell ⟨zb,0,none⟩ (.int .i64 kd)).setCell ⟨zb,1,none⟩ (.string x)).setCell ⟨zb,2,none⟩ (.string y)).setCell ⟨zb,3,none⟩ u) zb #[.int .i64 kd,.string x,.string y,u] 32∧
 NdV ⟨kd,x,y,l⟩ w (.returned (.agg #[.int .i64 kd,.string x,.string y,u])) ((((W.setCell ⟨zb,0,none⟩ (.int .i64 kd)).setCell ⟨zb,1,none⟩ (.string x)).setCell ⟨zb,2,none⟩ (.string y)).setCell ⟨zb,3,none⟩ u):=by
 obtain⟨h1,h2,h3⟩:=node_store (kd:=kd) (x:=x) (y:=y) h.z h.row (fun e=>by have:=h.far _ e;have:=h.lt;omega) h.be h.le;exact⟨h1,_,rfl,h2,h3⟩
set_option maxRecDepth 100000 in
set_option maxHeartbeats 6400000 in
theorem l05Records_any(g:Nat)(a:Option Addr)(n cap:Nat)(parts:Nat)(w:World)(h:Src w g a n cap)(hp:parts<=1000):
 Calls Tryz.prog 58 #[.pointer (some ⟨g,0,none⟩),.int .i64 (parts:Int)] w fun e w'=>∃ (ap b:ByteArray) (v:Value) (xs:List Rr),e=.returned (.tuple #[.string ap,v])∧ap∈apNs∧b.size=20∧frsR ap b<+:xs∧3<=xs.length∧xs.length<=3+3*parts∧Dl w g a n cap v xs w':=by
 obtain⟨i0,hi,hz0,hz1,hz2⟩:=info_parts Tryz.infoRRc;have hsw:=(Dr.start h).size;go_enter Tryz.func58,Tryz.ntmps58;go_wp2_with fail
 refine(l05Apex_any g a n cap _ h).mono ?_;rintro e w1 ⟨ap,rfl,hap,hs1,hg1⟩;obtain⟨ha1,ha2⟩:=ap_size hap;have HAP:=Nm.hide hap;have D1:=(Dr.start h).step hs1 hg1;clear hs1 hg1 h;go_wp2_with fail
 refine(l01Next_any g a n cap 5000 _ D1.s (by decide)).mono ?_;rintro e w2 ⟨lo,rfl,hlo0,hlo1,hs2,hg2⟩;have hlo2:=hlo1 (by decide);have D2:=D1.step hs2 hg2;clear hs2 hg2 D1 hlo1;go_wp2_with fail
 refine(l01Next_any g a n cap 2147483648 _ D2.s (by decide)).mono ?_;rintro e w3 ⟨sr,rfl,hsr0,hsr1,hs3,hg3⟩;have hsr2:=hsr1 (by decide);have D3:=D2.step hs3 hg3;obtain⟨lo,rfl⟩:=Int.eq_ofNat_of_zero_le hlo0;obtain⟨sr,rfl⟩:=Int.eq_ofNat_of_zero_le hsr0;clear hs3 hg3 D2 hsr1;go_wp2_with fail
 refine(l05Soa_any ap sr lo 3600 _ (by omega) (by omega) (by omega)).mono ?_;rintro e w4 ⟨b,rfl,hb,b4⟩
 have hd:(soaD ap b).size<=3200:=by
  rw [soaD,ByteArray.size_append,ByteArray.size_append,sub_len,sub_len,show Nm.wsum [(⟨#[110,115,49]⟩:ByteArray)]=4 from rfl,show Nm.wsum [(⟨#[97,100,109,105,110]⟩:ByteArray)]=6 from rfl];omega
 have HD0:∃ d,Hid (d=soaD ap b):=⟨_,rfl⟩;obtain⟨d,HD⟩:=HD0;rw [<- HD.out] at hd ⊢;have HB:=Nm.hide hb;clear hb;have D4:=D3.below b4;have hz4:=D4.size
 have L4:Dl w g a n cap (.slice (some ⟨w4.heap.size,0,none⟩) 1 1) [⟨ap,6,1,3600,d⟩] (w4.alloc (.cells #[.string ap,.int .i64 6,.int .i64 1,.int .i64 3600,.string d] 79)):=
  ⟨D4.alloc _,World.ownsRow_lit (base:=w.heap.size) (e:=79) (size:=5) w4 #[.string ap,.int .i64 6,.int .i64 1,.int .i64 3600,.string d] 1 hz4 (by decide) rfl,by intro r hr;simp at hr;subst hr;exact⟨by show ap.size<=1000;omega,by show d.size<=3200;omega⟩⟩
 clear D3 D4 b4;go_wp2_with fail
 refine(L4.subS1 ⟨#[110,115,49]⟩ ap (by decide) (by omega) (by simp)).mono ?_;rintro e w5 ⟨s5,rfl,hs5,z5,L5⟩
 replace z5:s5.size=4+ap.size:=z5
 have y5:s5.size<=100:=by omega
 have HS5:=Nm.hide hs5;clear z5 hs5;have hz5:=L5.d.size;clear L4;go_wp2_with (at_builtin;refine wpList_append_own _ rfl (.tmp 21) (.tmp 27) 49 rfl w.heap.size 79 i0 _ 5 56 Tryz.underlying49 hi hz0 hz1 hz2 rfl (by decide) _ _ _ rfl ((L5.r).alloc _) ⟨w5.heap.size,0,none⟩ 1 1 [.string ap,.int .i64 2,.int .i64 1,.int .i64 3600,.string s5] rfl rfl (cell_newV w5 #[.string ap,.int .i64 2,.int .i64 1,.int .i64 3600,.string s5] 79) (by intro u hu;simp at hu;rcases hu with rfl|rfl|rfl|rfl|rfl<;>rfl) (by unfold maxLen;simp) (by simp) (by simp;omega) ?_)
 intro v6 w6 hown6 hgrow6 _
 have L6:Dl w g a n cap v6 [⟨ap,6,1,3600,d⟩,⟨ap,2,1,3600,s5⟩] w6:=
  ⟨(L5.d.alloc (.cells #[.string ap,.int .i64 2,.int .i64 1,.int .i64 3600,.string s5] 79)).row hgrow6 (fun k hk=>(L5.r.lt k hk).1),hown6,by
    intro r hr;simp at hr
    rcases hr with rfl|rfl
    ·exact⟨by show ap.size<=1000;omega,by show d.size<=3200;omega⟩
    ·exact⟨by show ap.size<=1000;omega,by show s5.size<=3200;omega⟩⟩
 obtain⟨va6,vc6,rfl⟩:=own_sl L6.r;clear L5 hown6 hgrow6;go_wp2_with fail
 refine(L6.sub1 ⟨#[110,115,49]⟩ ap (by decide) (by omega) (by simp)).mono ?_;rintro e w7 ⟨s7,rfl,z7,L7⟩
 replace z7:s7.size=4+ap.size:=z7
 have y7:s7.size<=100:=by omega
 clear z7;clear L6;go_wp2_with fail
 refine L7.bytes4.mono ?_;rintro e w8 ⟨d8,rfl,z8,L8⟩;clear L7;go_wp2_with fail
 refine(L8.add s7 1 d8 (by simp) (by omega) (by omega)).mono ?_;rintro e w9 ⟨u9,ys9,rfl,len9,lb9,L9⟩;obtain⟨va9,vc9,rfl⟩:=own_sl L9.r;have HL9:Hid (ys9.length=3∧frsR ap b<+:ys9):=⟨len9.out.2,by rw [frsR,<- HD.out,<- HS5.out];exact len9.out.1⟩;clear L8 len9 lb9;go_wp2
 go_loopw [8,9,10] (fun v av iv wr=>∃ (k:Nat) (ab:ByteArray) (xs:List Rr),k<=parts∧iv=.int .i64 k∧av=.string ab∧1<=ab.size∧ab.size<=30∧Hid (frsR ap b<+:xs∧3<=xs.length)∧xs.length<=3+3*k∧Dl w g a n cap v xs wr) (fun _ _ i _=>parts-(intOf i).toNat)
 case atStart=>exact⟨0,ap,ys9,Nat.zero_le _,rfl,rfl,ha1,by omega,⟨HL9.out.2,by have:=HL9.out.1;omega⟩,by have:=HL9.out.1;omega,L9⟩
 case round=>
  clear L9 HL9;obtain⟨k,ab,xs,hk,rfl,rfl,hb1,hb2,hx1,hx2,L⟩:=hrel;obtain⟨va,vc,rfl⟩:=own_sl L.r
  by_cases hlt:k<parts
  ·have i2:(k:Int)<(parts:Int):=by omega
   go_wp2_with fail
   refine(l05Part_any _ xs ab _ L (by omega) hb1 (by omega)).mono ?_;rintro e wA ⟨u,ys,rfl,hy1,LA⟩;obtain⟨vaA,vcA,rfl⟩:=own_sl LA.r;have HY:Hid ((frsR ap b<+:ys∧3<=ys.length)∧ys.length<=3+3*(k+1)):=⟨⟨hx1.out.1.trans hy1.1,by have h1:=hy1.1.length_le;have h2:=hx1.out.2;omega⟩,by have:=hy1.2;omega⟩;clear L hy1;go_wp2_with fail
   refine(LA.next 5 (by decide) (by decide)).mono ?_;rintro e wB ⟨r,rfl,hr0,hr1,LB⟩;clear LA
   by_cases hr:r=0
   ·subst hr;go_wp2_with fail
    refine LB.label.mono ?_;rintro e wC ⟨lb,rfl,hl1,hl2,LC⟩;clear LB;go_wp2_with fail
    refine(LC.sub1 lb ap (by omega) (by omega) (by simp)).mono ?_;rintro e wD ⟨s,rfl,zs,LD⟩;have hs1:2<=s.size:=by omega
    have i3:(1:Int)<(s.size:Int):=by omega
    have hs2:s.size<=30:=by omega
    clear LC zs
    by_cases hc:((s[1].toNat:Int)==42)=true
    ·go_wp2;go_roundw
     case rel=>exact⟨k+1,ap,ys,hlt,by go_num,rfl,ha1,by omega,HY.out.1,HY.out.2,LD⟩
     case measure=>simp [intOf];omega
    ·have hc':((s[1].toNat:Int)==42)=false:=by simpa using hc
     clear hc;go_wp2;go_roundw
     case rel=>exact⟨k+1,s,ys,hlt,by go_num,rfl,by omega,hs2,HY.out.1,HY.out.2,LD⟩
     case measure=>simp [intOf];omega
   ·have n0:(r==0)=false:=by rw [beq_eq_false_iff_ne];exact hr
    go_wp2;go_roundw
    case rel=>exact⟨k+1,ab,ys,hlt,by go_num,rfl,hb1,hb2,HY.out.1,HY.out.2,LB⟩
    case measure=>simp [intOf];omega
  ·have hkl:k=parts:=by omega
   subst hkl;have i3:¬(k:Int)<(k:Int):=by omega
   go_wp2;go_ret2;exact⟨ap,b,_,rfl,HAP.out,HB.out,xs,hx1.out.1,hx1.out.2,hx2,L⟩
end Go.Proofs.YtahpiciofdfipaaGreat
