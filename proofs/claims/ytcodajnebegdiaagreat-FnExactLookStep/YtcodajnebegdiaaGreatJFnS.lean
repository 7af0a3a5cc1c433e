import Derived.Test.YtcodajnebegdiaaGreatJZbB
import Derived.Test.YtcodajnebegdiaaGreatJZbA
import Derived.Test.YtcodajnebegdiaaGreatJBzL
import Derived.Test.YtcodajnebegdiaaGreatJCzM
import Derived.Test.YtcodajnebegdiaaGreatJBzFBelow
import Derived.Test.YtcodajnebegdiaaGreatJMath
import Derived.Test.YtcodajnebegdiaaGreatJOrdS
import Derived.Test.YtcodajnebegdiaaGreatJTbGI
import Derived.Test.YtcodajnebegdiaaGreatRows
import Derived.WalkSpells
import Derived.WalkLawsBesides
namespace Go.Proofs.YtcodajnebegdiaaGreat
open Go.RowKit
set_option linter.unusedVariables false
def thZ(ps:List Zp)(o name:ByteArray):Bool:=isUnderS name o&&ps.any fun p=>isUnderS p.1.own name
set_option maxRecDepth 100000 in
set_option maxHeartbeats 800000 in
theorem l06There_any(o name:ByteArray)(v:Value)(ps:List Zp)(w:World)(h:ZRow w v ps)(hf:∀ p∈ps,p.1.own.size<=1048576)(hn:name.size<=maxLen)(ho:o.size<=maxLen):
 Calls Tryz.prog 46 #[.agg #[.string o,v],.string name] w fun e w'=>e=.returned (.bool (thZ ps o name))∧Below w.heap.size w w':=by
 obtain⟨va,vc,rfl⟩:∃ va vc,v=.slice va ps.length vc:=by obtain⟨⟨_,a,c,e,_⟩,_⟩:=h;exact⟨a,c,e⟩
 have b0:=(Below.refl w.heap.size w).alloc (Nat.le_refl _) (.cells #[.string o,.slice va ps.length vc] 32);have k0:=blk_new w #[.string o,.slice va ps.length vc] 32;have hu0:=specIsUnder_any name o (w.alloc (.cells #[.string o,.slice va ps.length vc] 32)) hn ho;have HU:=Nm.hide (fun(x:ByteArray) (hx:x.size<=1048576) W=>specIsUnder_any x name W (by unfold maxLen;omega) hn);have HZ:=Nm.hide (fun W (hW:Below w.heap.size w W)=>h.below hW);have HF:=Nm.hide hf;have r0:=fun i=>blk_cell k0 i
 have hps:ps.length<=maxLen:=by obtain⟨⟨_,a,c,e,h1,h2,_⟩,_⟩:=h;simp only [Value.slice.injEq] at e;omega
 unfold maxLen at hps;obtain⟨R,hR⟩:∃ R,R=thZ ps o name:=⟨_,rfl⟩;rw [<- hR];rw [thZ] at hR;clear h hf
 cases hub:isUnderS name o with
 |false=>
  rw [hub] at hu0 hR;have HR:Hid (R=false):=hR;clear hub hR;go_enter Tryz.func46,Tryz.ntmps46;go_wp2_with fail
  refine hu0.mono ?_;rintro e w1 ⟨rfl,b1⟩;go_wp2;go_ret
  exact⟨by rw [HR.out];rfl,Nm.below_two b0 b1⟩
 |true=>
  rw [hub] at hu0 hR;have HR:Hid (R=ps.any fun p=>isUnderS p.1.own name):=by show _=_;rw [hR];rfl
  clear hub hR;go_enter Tryz.func46,Tryz.ntmps46;go_wp2_with fail
  refine hu0.mono ?_;rintro e w1 ⟨rfl,b1⟩;have k1:=blk_below k0 b1;have bw1:=Nm.below_two b0 b1;clear hu0 k0 r0 b0 b1;go_wp2
  go_loopw [5] (fun i wr=>∃ (j:Nat),j<=ps.length∧i=.int .i64 j∧Below w.heap.size w wr∧Blk wr w.heap.size #[.string o,.slice va ps.length vc] 32∧∀ i p,i<j->ps[i]? =some p->isUnderS p.1.own name=false) (fun i _=>ps.length-(intOf i).toNat)
  case atStart=>exact⟨0,Nat.zero_le _,rfl,bw1,k1,fun i p hi=>by omega⟩
  case round=>
   clear k1 bw1;obtain⟨j,hj,rfl,hb,kz,hno⟩:=hrel;have HNO:=Nm.hide hno;have rz:=fun i=>blk_cell kz i
   clear hno
   by_cases hlt:j<ps.length
   ·obtain⟨q,hq⟩:∃ q,ps[j]? =some q:=⟨_,List.getElem?_eq_getElem hlt⟩;obtain⟨⟨_,a9,c9,e9,_,_,hc9⟩,hd9⟩:=HZ.out _ hb;simp only [Value.slice.injEq] at e9;obtain⟨rfl,_,rfl⟩:=e9;obtain⟨b,off,rfl,hcell⟩:=hc9 (by omega);obtain⟨d0,d1,d2,d3⟩:=zp_cells hcell hq;have hqm:=List.mem_of_getElem? hq;have hus:=HU.out q.1.own (HF.out q hqm) wr;have n1:(0:Int)<=(j:Int):=by omega
    have n2:(j:Int)<(ps.length:Int):=by omega
    have HQ:=Nm.hide (And.intro hq hqm);clear hc9 hd9 hcell hq hqm d1 d2 d3
    cases hub:isUnderS q.1.own name with
    |true=>
     rw [hub] at hus;have HT:Hid (R=true):=by show _=_;rw [HR.out,List.any_eq_true];exact⟨q,HQ.out.2,hub⟩
     clear hub;go_wp2_with fail
     refine hus.mono ?_;rintro e w2 ⟨rfl,b2⟩;go_wp2;go_ret
     exact⟨by rw [HT.out];rfl,Nm.below_two hb b2⟩
    |false=>
     rw [hub] at hus
     have HN:Hid (∀ i p,i<j+1->ps[i]? =some p->isUnderS p.1.own name=false):=fun i p hi hp=>by
      rcases Nat.lt_or_ge i j with h1|h1
      ·exact HNO.out i p h1 hp
      ·obtain rfl:i=j:=by omega
       rw [HQ.out.1] at hp;obtain rfl:=Option.some.inj hp;exact hub
     clear hub;go_wp2_with (go_at_call 86;refine hus.mono ?_;rintro e w2 ⟨rfl,b2⟩)
     go_roundw
     case rel=>exact⟨j+1,hlt,by go_num,Nm.below_two hb b2,blk_below kz b2,HN.out⟩
     case measure=>simp [intOf];omega
   ·obtain rfl:j=ps.length:=by omega
    have i9:(ps.length:Int)<=(ps.length:Int):=by omega
    have HT:Hid (R=false):=by
     show _=_
     rw [HR.out,List.any_eq_false];intro p hp;obtain⟨i,hi⟩:=List.getElem?_of_mem hp;rw [HNO.out i p (List.getElem?_eq_some_iff.1 hi).1 hi];decide
    go_wp2;go_ret;exact⟨by rw [HT.out];rfl,hb⟩
structure Nd where
 kd:Int
 clo:ByteArray
 cut:ByteArray
 ty:List Int
def nd0:Nd:=⟨0,⟨#[]⟩,⟨#[]⟩,[]⟩
def labN(x:ByteArray):Nat:=((Nm.split x).getD []).length
def candZ(o name:ByteArray)(s:Sz):Bool:=decide (s.ty=2)&& !sameS s.own o&&isUnderS name s.own
def cutStep(o name best:ByteArray)(s:Sz):ByteArray:=if(candZ o name s&&(decide (best=⟨#[]⟩)||decide (labN s.own<labN best)))=true then s.own else best
def cutZ(ss:List Sz)(o name:ByteArray):ByteArray:=ss.foldl (cutStep o name) ⟨#[]⟩
def typZ(ss:List Sz)(name:ByteArray):List Int:=(ss.filter fun s=>sameS s.own name).map (·.ty)
def cloZ(th:ByteArray->Bool):List ByteArray->List ByteArray
 |[]=>[]
 |x::xs=>if th (joB (x::xs))=true then x::xs else cloZ th xs
def kdZ(name clo cut:ByteArray)(ty:List Int):Int:=
 if cut≠⟨#[]⟩ then(if sameS cut name=true then 4 else 5) else if 0<ty.length then 3 else if clo=name then 2 else 1
def ndZ(ps:List Zp)(o name:ByteArray):Nd:=
 if isUnderS name o=true then
  ⟨kdZ name (joB (cloZ (thZ ps o) ((Nm.split name).getD []))) (cutZ (ps.map (·.1)) o name) (typZ (ps.map (·.1)) name),joB (cloZ (thZ ps o) ((Nm.split name).getD [])),cutZ (ps.map (·.1)) o name,typZ (ps.map (·.1)) name⟩
 else nd0
def tyT(os:List GOw)(lab:List ByteArray):List Int:=if isIn (oCmp lab) os=true then(match os[posOf (oCmp lab) os]? with|some q=>q.ss.map (·.ty)|none=>[]) else []
def cutN:Option GOw->ByteArray
 |some q=>q.nm
 |none=>⟨#[]⟩
def kdT(lab clo:List ByteArray)(cut:Option GOw)(own:Bool):Int:=match cut with
 |some q=>if q.lab.length=lab.length then 4 else 5
 |none=>if own=true then 3 else if clo.length=lab.length then 2 else 1
def ndT(os:List GOw)(al lab:List ByteArray):Nd:=
 if underB lab al=true then⟨kdT lab (cloT os lab) (cutT os lab (lab.length-al.length)) (isIn (oCmp lab) os),joB (cloT os lab),cutN (cutT os lab (lab.length-al.length)),tyT os lab⟩ else nd0
theorem thz_ex{ps:List Zp}{o name:ByteArray}{al lab:List ByteArray}(hz:zOK ps o=true)(ha:Nm.split o=some al)(hn:Nm.split name=some lab)(hu:underB lab al=true):∃ j,j<=lab.length∧thZ ps o (joB (lab.drop j))=true:=by
 obtain⟨p,hp,xs,h1,h2⟩:=apex_in hz ha;obtain⟨u1,u2⟩:=under_iff.1 hu;have hj:=((gl_split hn).drop (lab.length-al.length)).jo;refine⟨lab.length-al.length,by omega,?_⟩;rw [thZ,isUnder_some hj ha,under_self u2,Bool.true_and,List.any_eq_true];refine⟨p,hp,?_⟩;rw [isUnder_some h1 hj];exact under_self (by rw [cmpLs_eq_right u2];exact h2)
theorem TZ.zmem{ps:List Zp}{o:ByteArray}{al:List ByteArray}{os:List GOw}(h:TZ os o al)(hzs:ps.map (·.1)=zoneT os)(P:ByteArray->Bool):(ps.any fun p=>P p.1.own)=true↔ ∃ q∈os,P q.nm=true:=by
 have e:(ps.any fun p=>P p.1.own)=(zoneT os).any fun z=>P z.own:=by rw [<- hzs,List.any_map];rfl
 rw [e,List.any_eq_true];constructor
 ·rintro⟨z,hz,hp⟩
  obtain⟨g,hg,rfl⟩:=List.mem_map.1 hz;exact⟨g.1,(grT_mem.1 hg).1,hp⟩
 ·rintro⟨q,hq,hp⟩
  obtain⟨s,hs⟩:=h.full q hq;exact⟨szT (q,s),List.mem_map_of_mem (grT_mem.2 ⟨hq,hs⟩),hp⟩
theorem TZ.th{ps:List Zp}{o:ByteArray}{al:List ByteArray}{os:List GOw}(h:TZ os o al)(hzs:ps.map (·.1)=zoneT os){y:List ByteArray}(hy:Gl y)(hu:underB y al=true):thT y os=thZ ps o (joB y):=by
 rw [thZ,isUnder_some hy.jo h.ap,hu,Bool.true_and];apply Bool.eq_iff_iff.2;rw [thT_iff h.srt.1,h.zmem hzs (fun x=>isUnderS x (joB y))]
 constructor<;>rintro⟨q,hq,hp⟩<;>refine⟨q,hq,?_⟩
 ·rw [isUnder_some (h.nm q hq) hy.jo];exact hp
 ·rw [isUnder_some (h.nm q hq) hy.jo] at hp;exact hp
theorem TZ.topT{o:ByteArray}{al:List ByteArray}{os:List GOw}(h:TZ os o al){y:List ByteArray}(hu:Nm.cmpLs y al=0):thT y os=true:=by
 obtain⟨q,hq,e⟩:=h.top;exact(thT_iff h.srt.1 y).2 ⟨q,hq,under_self (by rw [cmpLs_eq_right hu];exact e)⟩
theorem TZ.clo{ps:List Zp}{o:ByteArray}{al:List ByteArray}{os:List GOw}(h:TZ os o al)(hzs:ps.map (·.1)=zoneT os):∀ (y:List ByteArray),Gl y->underB y al=true->cloT os y=cloZ (thZ ps o) y
 |[],_,_=>rfl
 |x::xs,hy,hu=>by
  rw [cloT,cloZ,h.th hzs hy hu]
  cases hq:thZ ps o (joB (x::xs)) with
  |true=>rfl
  |false=>
   simp only [Bool.false_eq_true,if_false];refine h.clo hzs xs hy.tail ?_;obtain⟨u1,u2⟩:=under_iff.1 hu
   rcases Nat.lt_or_ge al.length (x::xs).length with h1|h1
   ·exact under_drop hu (k:=1) (by omega)
   ·rw [show(x::xs).length-al.length=0 by omega,List.drop_zero] at u2;have:=h.topT u2;rw [h.th hzs hy hu,hq] at this;cases this
theorem TZ.hex{o:ByteArray}{al lab:List ByteArray}{os:List GOw}(h:TZ os o al)(hu:underB lab al=true):∃ j,j<=lab.length∧thT (lab.drop j) os=true:=by
 obtain⟨u1,u2⟩:=under_iff.1 hu;exact⟨lab.length-al.length,by omega,h.topT u2⟩
theorem isIn_own{os:List GOw}(h:OwS os)(lab:List ByteArray):(isIn (oCmp lab) os=true∧∃ q∈os,os[posOf (oCmp lab) os]? =some q∧Nm.cmpLs q.lab lab=0)∨(isIn (oCmp lab) os=false∧∀ q∈os,Nm.cmpLs q.lab lab≠0):=by
 rcases place_split (f:=oCmp lab) h (oCmp_mono lab) with⟨hi,A,C,e,hp,ha,hc⟩|⟨hi,A,o,C,e,hp,h0,ha,hc⟩
 ·refine .inr ⟨hi,fun q hq h1=>?_⟩;rw [e] at hq
  rcases List.mem_append.1 hq with hq|hq
  ·have:=ha q hq;rw [oCmp] at this;omega
  ·have:=hc q hq;rw [oCmp] at this;omega
 ·obtain⟨x,hx,h0⟩:=isIn_some hi;exact .inl ⟨hi,x,List.mem_of_getElem? hx,hx,h0⟩
def tyF(lab:List ByteArray)(q:GOw):List Int:=if Nm.cmpLs q.lab lab=0 then q.ss.map (·.ty) else []
theorem typ_flat{name:ByteArray}{lab:List ByteArray}(hn:Nm.split name=some lab):∀ (os:List GOw),(∀ q∈os,Nm.split q.nm=some q.lab)->typZ (zoneT os) name=os.flatMap (tyF lab)
 |[],_=>rfl
 |q::os,h=>by
  have ih:=typ_flat hn os (fun r hr=>h r (List.mem_cons_of_mem _ hr))
  have e1:zoneT (q::os)=(q.ss.map fun s=>szT (q,s))++zoneT os:=by
   simp [zoneT,grT,List.flatMap_cons,List.map_append,List.map_map,Function.comp_def]
  have e2:typZ (zoneT (q::os)) name=typZ (q.ss.map fun s=>szT (q,s)) name++typZ (zoneT os) name:=by
   rw [e1,typZ,typZ,typZ,List.filter_append,List.map_append]
  rw [e2,ih,List.flatMap_cons];congr 1;have hs:sameS q.nm name=decide (Nm.cmpLs q.lab lab=0):=same_cmp (h q List.mem_cons_self) hn;rw [typZ,tyF]
  by_cases hc:Nm.cmpLs q.lab lab=0
  ·rw [if_pos hc,List.filter_eq_self.2 (fun z hz=>by obtain⟨s,-,rfl⟩:=List.mem_map.1 hz;show sameS q.nm name=true;rw [hs];simpa using hc)];rw [List.map_map];rfl
  ·rw [if_neg hc,List.filter_eq_nil_iff.2 (fun z hz=>by obtain⟨s,-,rfl⟩:=List.mem_map.1 hz;show ¬sameS q.nm name=true;rw [hs];simpa using hc)];rfl
theorem flat_no{lab:List ByteArray}{os:List GOw}(h:∀ q∈os,Nm.cmpLs q.lab lab≠0):os.flatMap (tyF lab)=[]:=by
 rw [List.flatMap_eq_nil_iff];intro q hq;rw [tyF,if_neg (h q hq)]
theorem flat_yes{lab:List ByteArray}:∀ {os:List GOw},OwS os->∀ q∈os,Nm.cmpLs q.lab lab=0->os.flatMap (tyF lab)=q.ss.map (·.ty)
 |[],_,_,hq,_=>by cases hq
 |r::os,h,q,hq,h0=>by
  obtain⟨h1,h2⟩:=List.pairwise_cons.1 h;rw [List.flatMap_cons]
  rcases List.mem_cons.1 hq with rfl|hq
  ·rw [flat_no (lab:=lab) (fun x hx e=>by have:=h1 x hx;rw [cmpLs_eq_left h0,] at this;have h9:=cmpLs_symm e;omega),tyF,if_pos h0,List.append_nil]
  ·have:=h1 q hq;rw [flat_yes h2 q hq h0,tyF,if_neg (fun e=>by rw [cmpLs_eq_left e] at this;have h9:=cmpLs_symm h0;omega)];rfl
theorem TZ.ty{o name:ByteArray}{al lab:List ByteArray}{os:List GOw}(h:TZ os o al)(hn:Nm.split name=some lab):tyT os lab=typZ (zoneT os) name∧(isIn (oCmp lab) os=true↔0<(typZ (zoneT os) name).length):=by
 rw [typ_flat hn os h.nm,tyT]
 rcases isIn_own h.srt.1 lab with⟨hi,q,hq,hp,h0⟩|⟨hi,hno⟩
 ·rw [flat_yes h.srt.1 q hq h0,hi,hp];refine⟨rfl,fun _=>?_,fun _=>rfl⟩;obtain⟨s,hs⟩:=h.full q hq;have:=List.length_pos_of_mem hs;simpa using this
 ·rw [flat_no hno,hi];simp
theorem cut_some{os:List GOw}{lab:List ByteArray}(hs:OwS os∧∀ q∈os,SeS q.ss):∀ (n:Nat),(cutT os lab n=none∧∀ m,m<n->hasT (lab.drop m) 2 os=false)∨(∃ m q,m<n∧cutT os lab n=some q∧q∈os∧Nm.cmpLs q.lab (lab.drop m)=0∧(∃ s∈q.ss,s.ty=2)∧∀ m',m<m'->m'<n->hasT (lab.drop m') 2 os=false)
 |0=>.inl ⟨rfl,fun m hm=>by omega⟩
 |n+1=>by
  cases hh:hasT (lab.drop n) 2 os with
  |true=>
   refine .inr ⟨n,?_⟩;obtain⟨q,hq,h0,h2⟩:=(hasT_iff hs _ _).1 hh
   rcases isIn_own hs.1 (lab.drop n) with⟨hi,r,hr,hp,hr0⟩|⟨hi,hno⟩
   ·have hsr:∃ s∈r.ss,s.ty=2:=by
     rw [hasT,hp,hi] at hh;exact(isIn_set (hs.2 r hr) 2).1 hh
    exact⟨r,by omega,by rw [cutT,if_pos hh];exact hp,hr,hr0,hsr,fun m' h1 h2=>by omega⟩
   ·exact absurd h0 (hno q hq)
  |false=>
   have e:cutT os lab (n+1)=cutT os lab n:=by rw [cutT,if_neg (by rw [hh];decide)]
   rw [e]
   rcases cut_some hs n with⟨h1,h2⟩|⟨m,q,h1,h2,h3,h4,h5,h6⟩
   ·refine .inl ⟨h1,fun m hm=>?_⟩
    rcases Nat.lt_or_ge m n with h|h
    ·exact h2 m h
    ·obtain rfl:m=n:=by omega
     exact hh
   ·refine .inr ⟨m,q,by omega,h2,h3,h4,h5,fun m' ha hb=>?_⟩
    rcases Nat.lt_or_ge m' n with h|h
    ·exact h6 m' ha h
    ·obtain rfl:m'=n:=by omega
     exact hh
theorem cutStep_or(o name best:ByteArray)(s:Sz):(cutStep o name best s=s.own∧candZ o name s=true∧(best=⟨#[]⟩∨labN s.own<labN best))∨(cutStep o name best s=best∧(candZ o name s=false∨(best≠⟨#[]⟩∧labN best<=labN s.own))):=by
 rw [cutStep];split
 ·rename_i h;simp only [Bool.and_eq_true,Bool.or_eq_true,decide_eq_true_eq] at h;exact .inl ⟨rfl,h⟩
 ·rename_i h;refine .inr ⟨rfl,?_⟩
  cases hc:candZ o name s with
  |false=>exact .inl rfl
  |true=>
   rw [hc] at h;simp only [Bool.true_and,Bool.or_eq_true,decide_eq_true_eq,not_or,Nat.not_lt] at h;exact .inr h
theorem cutZ_cases(o name:ByteArray)(hne:∀ s:Sz,candZ o name s=true->s.own≠⟨#[]⟩)(ss:List Sz):(cutZ ss o name=⟨#[]⟩∧∀ s∈ss,candZ o name s=false)∨(∃ s∈ss,cutZ ss o name=s.own∧candZ o name s=true∧∀ t∈ss,candZ o name t=true->labN s.own<=labN t.own):=by
 refine snoc_ind (P:=fun ss=>(cutZ ss o name=⟨#[]⟩∧∀ s∈ss,candZ o name s=false)∨(∃ s∈ss,cutZ ss o name=s.own∧candZ o name s=true∧∀ t∈ss,candZ o name t=true->labN s.own<=labN t.own)) (.inl ⟨rfl,by simp⟩) (fun l a ih=>?_) ss;have e:cutZ (l++[a]) o name=cutStep o name (cutZ l o name) a:=by simp [cutZ,List.foldl_append]
 rw [e]
 rcases ih with⟨h1,h2⟩|⟨s,hs,h1,h2,h3⟩
 ·rw [h1]
  rcases cutStep_or o name ⟨#[]⟩ a with⟨e1,e2,e3⟩|⟨e1,e2|⟨e2,-⟩⟩
  ·refine .inr ⟨a,by simp,e1,e2,fun t ht hc=>?_⟩
   rcases List.mem_append.1 ht with ht|ht
   ·rw [h2 t ht] at hc;cases hc
   ·rw [List.mem_singleton.1 ht];exact Nat.le_refl _
  ·refine .inl ⟨e1,fun s hs=>?_⟩
   rcases List.mem_append.1 hs with hs|hs
   ·exact h2 s hs
   ·rw [List.mem_singleton.1 hs];exact e2
  ·exact absurd rfl e2
 ·rw [h1]
  rcases cutStep_or o name s.own a with⟨e1,e2,e3⟩|⟨e1,e2⟩
  ·have e4:labN a.own<labN s.own:=by
    rcases e3 with e3|e3
    ·exact absurd e3 (hne s h2)
    ·exact e3
   refine .inr ⟨a,by simp,e1,e2,fun t ht hc=>?_⟩
   rcases List.mem_append.1 ht with ht|ht
   ·have:=h3 t ht hc;omega
   ·rw [List.mem_singleton.1 ht];exact Nat.le_refl _
  ·refine .inr ⟨s,by simp [hs],e1,h2,fun t ht hc=>?_⟩
   rcases List.mem_append.1 ht with ht|ht
   ·exact h3 t ht hc
   ·rw [List.mem_singleton.1 ht] at hc ⊢
    rcases e2 with e2|e2
    ·rw [e2] at hc;cases hc
    ·exact e2.2
theorem split_ne{a:ByteArray}{xs:List ByteArray}(h:Nm.split a=some xs):a≠⟨#[]⟩:=by
 rintro rfl;have:=(Nm.split_size h).1;simp [ByteArray.size] at this
theorem cand_ne{o name:ByteArray}{s:Sz}(h:candZ o name s=true):s.own≠⟨#[]⟩:=by
 rw [candZ,Bool.and_eq_true] at h;intro e;have h2:=h.2;rw [isUnder_right (by rw [e];cases hq:Nm.split ⟨#[]⟩ with|none=>rfl|some xs=>exact absurd rfl (split_ne hq))] at h2;cases h2
theorem labN_eq{a:ByteArray}{xs:List ByteArray}(h:Nm.split a=some xs):labN a=xs.length:=by rw [labN,h];rfl
theorem TZ.cand{o name:ByteArray}{al lab:List ByteArray}{os:List GOw}(h:TZ os o al)(hn:Nm.split name=some lab){q:GOw}{s:GSe}(hq:q∈os):candZ o name (szT (q,s))=true↔s.ty=2∧al.length<q.lab.length∧underB lab q.lab=true:=by
 have e1:sameS q.nm o=decide (Nm.cmpLs q.lab al=0):=same_cmp (h.nm q hq) h.ap;have e2:isUnderS name q.nm=underB lab q.lab:=isUnder_some hn (h.nm q hq)
 show(decide (s.ty=2)&& !sameS q.nm o&&isUnderS name q.nm)=true↔_
 rw [e1,e2,under_len (h.und q hq)];simp only [Bool.and_eq_true,decide_eq_true_eq,Bool.not_eq_true',decide_eq_false_iff_not];rw [and_assoc]
theorem TZ.cut{o name:ByteArray}{al lab:List ByteArray}{os:List GOw}(h:TZ os o al)(hn:Nm.split name=some lab)(hu:underB lab al=true):cutN (cutT os lab (lab.length-al.length))=cutZ (zoneT os) o name:=by
 have hal:=(under_iff.1 hu).1
 rcases cut_some (lab:=lab) h.srt (lab.length-al.length) with⟨c1,c2⟩|⟨m,q,c1,c2,c3,c4,⟨s,hs,hs2⟩,c6⟩
 ·rw [c1]
  rcases cutZ_cases o name (fun s hs=>cand_ne hs) (zoneT os) with⟨z1,z2⟩|⟨z,hz,z1,z2,z3⟩
  ·rw [z1];rfl
  ·exfalso
   obtain⟨g,hg,rfl⟩:=List.mem_map.1 hz;obtain⟨g1,g2⟩:=grT_mem.1 hg;obtain⟨k1,k2,k3⟩:=(h.cand hn g1).1 z2;obtain⟨u1,u2⟩:=under_iff.1 k3;have h1:=c2 (lab.length-g.1.lab.length) (by omega);rw [(hasT_iff h.srt _ _).2 ⟨g.1,g1,cmpLs_symm u2,g.2,g2,k1⟩] at h1;cases h1
 ·rw [c2];have hlq:q.lab.length=lab.length-m:=by rw [len_same c4,List.length_drop]
  have hcq:candZ o name (szT (q,s))=true:=(h.cand hn c3).2 ⟨hs2,by omega,under_iff.2 ⟨by omega,by rw [hlq,show lab.length-(lab.length-m)=m by omega];exact cmpLs_symm c4⟩⟩
  rcases cutZ_cases o name (fun s hs=>cand_ne hs) (zoneT os) with⟨z1,z2⟩|⟨z,hz,z1,z2,z3⟩
  ·rw [z2 _ (List.mem_map_of_mem (grT_mem.2 ⟨c3,hs⟩))] at hcq;cases hcq
  ·obtain⟨g,hg,rfl⟩:=List.mem_map.1 hz;obtain⟨g1,g2⟩:=grT_mem.1 hg;obtain⟨k1,k2,k3⟩:=(h.cand hn g1).1 z2;obtain⟨u1,u2⟩:=under_iff.1 k3;have hle:labN g.1.nm<=labN q.nm:=z3 _ (List.mem_map_of_mem (grT_mem.2 ⟨c3,hs⟩)) hcq;rw [labN_eq (h.nm g.1 g1),labN_eq (h.nm q c3)] at hle
   have hge:¬m<lab.length-g.1.lab.length:=fun hlt=>by
    have h1:=c6 (lab.length-g.1.lab.length) hlt (by omega);rw [(hasT_iff h.srt _ _).2 ⟨g.1,g1,cmpLs_symm u2,g.2,g2,k1⟩] at h1;cases h1
   have hm:lab.length-g.1.lab.length=m:=by omega
   rw [hm] at u2;have e:=h.one q c3 g.1 g1 (by rw [cmpLs_eq_left c4];exact u2);rw [z1,e];rfl
theorem clo_drop(os:List GOw):∀ (y:List ByteArray),∃ k,k<=y.length∧cloT os y=y.drop k
 |[]=>⟨0,Nat.le_refl _,rfl⟩
 |x::xs=>by
  rw [cloT];split
  ·exact⟨0,Nat.zero_le _,rfl⟩
  ·obtain⟨k,hk,e⟩:=clo_drop os xs;exact⟨k+1,by simpa using hk,by rw [e];rfl⟩
theorem kdZ_none(name clo:ByteArray)(ty:List Int):kdZ name clo ⟨#[]⟩ ty=if 0<ty.length then 3 else if clo=name then 2 else 1:=by rw [kdZ,if_neg (by simp)]
theorem kdZ_some{name clo cut:ByteArray}{ty:List Int}(h:cut≠⟨#[]⟩):kdZ name clo cut ty=if sameS cut name=true then 4 else 5:=by rw [kdZ,if_pos h]
theorem TZ.nd{ps:List Zp}{o name:ByteArray}{al lab:List ByteArray}{os:List GOw}(h:TZ os o al)(hzs:ps.map (·.1)=zoneT os)(hn:Nm.split name=some lab):ndT os al lab=ndZ ps o name:=by
 have hg:=gl_split hn;rw [ndT,ndZ,isUnder_some hn h.ap,hn]
 cases hu:underB lab al with
 |false=>rfl
 |true=>
  simp only [if_true,Option.getD_some];rw [hzs,<- h.clo hzs lab hg hu,<- h.cut hn hu,<- (h.ty hn).1];congr 1;obtain⟨k,hk,ek⟩:=clo_drop os lab;have hty:=(h.ty hn).2;rw [<- (h.ty hn).1] at hty
  rcases cut_some (lab:=lab) h.srt (lab.length-al.length) with⟨c1,c2⟩|⟨m,q,c1,c2,c3,c4,-,c6⟩
  ·rw [c1,kdT,cutN,kdZ_none]
   cases hi:isIn (oCmp lab) os with
   |true=>simp only [if_true,if_pos (hty.1 hi)]
   |false=>
    have hnt:¬0<(tyT os lab).length:=fun e=>by rw [hty.2 e] at hi;cases hi
    simp only [Bool.false_eq_true,if_false,if_neg hnt]
    have e2:(cloT os lab).length=lab.length↔joB (cloT os lab)=name:=by
     rw [ek];constructor
     ·intro e;rw [List.length_drop] at e
      rcases Nat.eq_zero_or_pos k with rfl|hk0
      ·rw [List.drop_zero];exact split_jo hn
      ·have h0:lab.length=0:=by omega
       rw [show lab.drop k=lab by rw [List.length_eq_zero_iff.1 h0];simp];exact split_jo hn
     ·intro e;rw [jo_inj (hg.drop k) hg (by rw [e,split_jo hn])]
    by_cases hc:(cloT os lab).length=lab.length
    ·rw [if_pos hc,if_pos (e2.1 hc)]
    ·rw [if_neg hc,if_neg (fun e=>hc (e2.2 e))]
  ·rw [c2,kdT,cutN,kdZ_some (split_ne (h.nm q c3)),same_cmp (h.nm q c3) hn];have hlq:q.lab.length=lab.length-m:=by rw [len_same c4,List.length_drop]
   by_cases hm:q.lab.length=lab.length
   ·have e:lab.drop m=lab:=by
     rcases Nat.eq_zero_or_pos m with rfl|h0
     ·rfl
     ·have h1:lab.length=0:=by omega
      rw [List.length_eq_zero_iff.1 h1];simp
    rw [e] at c4;rw [if_pos hm,if_pos (by simpa using c4)]
   ·rw [if_neg hm,if_neg (fun e=>hm (len_same (by simpa using e)))]
def fndZ(ss:List Sz)(name:ByteArray)(t:Int):Option Sz:=ss.find? fun s=>decide (s.ty=t)&&sameS s.own name
theorem fnd_at{os:List GOw}{name:ByteArray}{lab:List ByteArray}{t:Int}(hn:Nm.split name=some lab)(hnm:∀ o∈os,Nm.split o.nm=some o.lab):∀ g∈grT os,(decide ((szT g).ty=t)&&sameS (szT g).own name)=(decide (g.2.ty=t)&&decide (Nm.cmpLs g.1.lab lab=0)):=by
 intro g hg;obtain⟨h1,h2⟩:=grT_mem.1 hg;simp only [szT];rw [same_cmp (hnm g.1 h1) hn];congr 1
theorem fnd_no{os:List GOw}{name:ByteArray}{lab:List ByteArray}{t:Int}(hn:Nm.split name=some lab)(hnm:∀ o∈os,Nm.split o.nm=some o.lab)(h:∀ o∈os,Nm.cmpLs o.lab lab=0->∀ s∈o.ss,s.ty≠t):fndZ (zoneT os) name t=none:=by
 rw [fndZ,List.find?_eq_none];intro z hz;obtain⟨g,hg,rfl⟩:=List.mem_map.1 hz;have hg':=grT_mem.1 hg;rw [fnd_at hn hnm g hg];simp only [Bool.and_eq_true,decide_eq_true_eq,not_and];intro h1 h2;exact h g.1 hg'.1 h2 g.2 hg'.2 h1
def sz0:Sz:=⟨⟨#[]⟩,0,0,[]⟩
def FsP(r:Option Sz)(w:World)(e:Ending)(w':World):Prop:=∃ v,e=.returned (.tuple #[.agg #[.string (r.getD sz0).own,.int .i64 (r.getD sz0).ty,.int .i64 (r.getD sz0).tt,v],.bool r.isSome])∧w'.ownsRow w.heap.size 9 1 v (r.getD sz0).da.length ((r.getD sz0).da.map Value.string)∧Below w.heap.size w w'
theorem fsP_none{w w':World}(h:Below w.heap.size w w'):FsP none w (.returned (.tuple #[.agg #[.string ⟨#[]⟩,.int .i64 0,.int .i64 0,.slice none 0 0],.bool false])) w':=
 ⟨_,rfl,World.ownsRow_nil _ _ _ _,h⟩
theorem set_store{w w2:World}{b B n:Nat}{x:ByteArray}{ty tt:Int}{v:Value}{xs:List Value}(k:Blk w2 b #[.string ⟨#[]⟩,.int .i64 0,.int .i64 0,.slice none 0 0] 76)(ho:w2.ownsRow B 9 1 v n xs)(hne:v.ownBlock≠some b)(hb:Below w.heap.size w w2)(hlb:w.heap.size<=b):
 Blk ((((w2.setCell ⟨b,0,none⟩ (.string x)).setCell ⟨b,1,none⟩ (.int .i64 ty)).setCell ⟨b,2,none⟩ (.int .i64 tt)).setCell ⟨b,3,none⟩ v) b #[.string x,.int .i64 ty,.int .i64 tt,v] 76∧
 ((((w2.setCell ⟨b,0,none⟩ (.string x)).setCell ⟨b,1,none⟩ (.int .i64 ty)).setCell ⟨b,2,none⟩ (.int .i64 tt)).setCell ⟨b,3,none⟩ v).ownsRow B 9 1 v n xs∧
 Below w.heap.size w ((((w2.setCell ⟨b,0,none⟩ (.string x)).setCell ⟨b,1,none⟩ (.int .i64 ty)).setCell ⟨b,2,none⟩ (.int .i64 tt)).setCell ⟨b,3,none⟩ v):=by
 have k4:=blk_set (blk_set (blk_set (blk_set k 0 (.string x)) 1 (.int .i64 ty)) 2 (.int .i64 tt)) 3 v;simp only [List.setIfInBounds_toArray,List.set_cons_zero,List.set_cons_succ] at k4;have ho4:=own_far (y:=v) (i:=3) (g:=b) (own_far (y:=.int .i64 tt) (i:=2) (g:=b) (own_far (y:=.int .i64 ty) (i:=1) (g:=b) (own_far (y:=.string x) (i:=0) (g:=b) ho hne) hne) hne) hne;exact⟨k4,ho4,(((hb.setCell (p:=⟨b,0,none⟩) hlb (.string x)).setCell (p:=⟨b,1,none⟩) hlb (.int .i64 ty)).setCell (p:=⟨b,2,none⟩) hlb (.int .i64 tt)).setCell (p:=⟨b,3,none⟩) hlb v⟩
theorem ow_one{os:List GOw}(h:OwS os){o q:GOw}(ho:o∈os)(hq:q∈os)(e:Nm.cmpLs o.lab q.lab=0):o=q:=by
 obtain⟨i,hi⟩:=List.getElem?_of_mem ho;obtain⟨j,hj⟩:=List.getElem?_of_mem hq;have hi':=List.getElem?_eq_some_iff.1 hi;have hj':=List.getElem?_eq_some_iff.1 hj;have hp:=List.pairwise_iff_getElem.1 h
 rcases Nat.lt_trichotomy i j with h1|h1|h1
 ·have:=hp i j hi'.1 hj'.1 h1;rw [hi'.2,hj'.2] at this;omega
 ·subst h1;rw [hi] at hj;exact Option.some.inj hj
 ·have:=hp j i hj'.1 hi'.1 h1;rw [hi'.2,hj'.2] at this;have h2:=cmpLs_anti o.lab q.lab;omega
set_option maxRecDepth 100000 in
set_option maxHeartbeats 800000 in
theorem ownerSet_no(o:GOw)(ty:Int)(B:Nat)(w:World)(h:OwAt w B o)(hl:o.ss.length<=500000)(hd:SeS o.ss)(hn:isIn (sCmp ty) o.ss=false):
 Calls Tryz.prog 104 #[ptr o.blk,.int .i64 ty] w (FsP none w):=by
 have hB0:=(Below.refl w.heap.size w).alloc (Nat.le_refl _) (.cells #[.string ⟨#[]⟩,.int .i64 0,.int .i64 0,.slice none 0 0] 76);have kZ:=blk_new w #[.string ⟨#[]⟩,.int .i64 0,.int .i64 0,.slice none 0 0] 76;have h1:=h.below hB0
 have hg:=(getSet_any o B ty _ h1 hl hd).mono (R':=fun e w'=>Below (w.heap.size+1) (w.alloc (.cells #[.string ⟨#[]⟩,.int .i64 0,.int .i64 0,.slice none 0 0] 76)) w'∧e=.returned (.tuple #[.pointer none,.bool false])) (by
  rintro e w' ⟨hb,⟨h2,_⟩|⟨_,rfl⟩⟩
  ·rw [hn] at h2;cases h2
  ·exact⟨by simpa using hb,rfl⟩)
 have rn:=fun i=>blk_cell h1.node i
 unfold ptr at hg rn ⊢;clear h h1 hd hn;go_enter Tryz.func104,Tryz.ntmps104;go_wp2_with fail
 refine hg.mono ?_;rintro e w1 ⟨hb1,rfl⟩;have bw1:Below w.heap.size w w1:=hB0.trans (hb1.mono (Nat.le_succ _));have kZ1:Blk w1 w.heap.size _ _:=blk_below kZ (by simpa using hb1);have rz:=fun i=>blk_cell kZ1 i
 have fz:=fun i=>blk_frozen kZ1 i
 obtain⟨k4,-,bw4⟩:=set_store (x:=⟨#[]⟩) (ty:=0) (tt:=0) kZ1 (World.ownsRow_nil w1 0 9 1) (by simp [Value.ownBlock]) bw1 (Nat.le_refl _);have rk:=fun i=>blk_cell k4 i
 clear hg rn hb1 kZ kZ1;go_wp2_with fail
 refine bodyPost_ret (v:=.tuple #[.agg #[.string ⟨#[]⟩,.int .i64 0,.int .i64 0,.slice none 0 0],.bool false]) ?_ rfl (fsP_none bw4);simp [results,Tryz.f104,go_sem,rk]
theorem ownerSet_fs(o:GOw)(s:GSe)(B:Nat)(w:World)(h:OwAt w B o)(hl:o.ss.length<=500000)(hd:SeS o.ss)(hs:s∈o.ss)(hsl:s.da.length<=1000000):
 Calls Tryz.prog 104 #[ptr o.blk,.int .i64 s.ty] w (FsP (some (szT (o,s))) w):=by
 refine(ownerSet_any o s B w h hl hd hs hsl).mono ?_;rintro e w' ⟨v,rfl,ho,hb⟩;refine⟨v,rfl,?_,hb⟩;simpa [szT,List.map_map,Function.comp_def] using ho
def TsP(os:List GOw)(lab:List ByteArray)(ty:Int)(w:World)(e:Ending)(w':World):Prop:=
 (∃ o s,o∈os∧s∈o.ss∧Nm.cmpLs o.lab lab=0∧s.ty=ty∧FsP (some (szT (o,s))) w e w')∨
 ((∀ o∈os,Nm.cmpLs o.lab lab=0->∀ s∈o.ss,s.ty≠ty)∧FsP none w e w')
set_option maxRecDepth 100000 in
set_option maxHeartbeats 1600000 in
theorem treeSet_any(bb oo th:Nat)(rv:Value)(os:List GOw)(B:Nat)(na:Option Addr)(nl nc:Nat)(lab:List ByteArray)(ty:Int)(w:World)(h:TrAt w B th rv os)(hl:os.length<=500000)(hd:TrS os)(hLab:LabAt w (fpT th rv os) os)(hn:Nm.SRow w (.slice na nl nc) lab)(hnl:lab.length<=1000000000)(hc:w.cell? ⟨bb,oo+1,none⟩=some (ptr th))(hbb:bb<w.heap.size):
 Calls Tryz.prog 57 #[.pointer (some ⟨bb,oo,none⟩),.slice na nl nc,.int .i64 ty] w (TsP os lab ty w):=by
 have hB0:=(Below.refl w.heap.size w).alloc (Nat.le_refl _) (.cells #[.string ⟨#[]⟩,.int .i64 0,.int .i64 0,.slice none 0 0] 76);have kZ:=blk_new w #[.string ⟨#[]⟩,.int .i64 0,.int .i64 0,.slice none 0 0] 76;have hLab0:LabAt (w.alloc (.cells #[.string ⟨#[]⟩,.int .i64 0,.int .i64 0,.slice none 0 0] 76)) (fpT th rv os) os:=fun o ho=>(hLab o ho).outs (Outs.below hB0) (fun b hb=>.inl hb)
 have hg:=getOwner_any th rv os B (.slice na nl nc) lab _ (h.below hB0) hl hd.1 hLab0 (hn.below hB0) hnl;have hcs:∀ W,Below w.heap.size w W->W.cell? ⟨bb,oo+1,none⟩=some (ptr th):=fun W hW=>by rw [<- hc];exact hW.cell (p:=⟨bb,oo+1,none⟩) hbb
 have hc0:=hcs _ hB0
 have HO:Hid (∀ o∈os,∀ W,Below w.heap.size w W->(∃ s∈o.ss,s.ty=ty∧Calls Tryz.prog 104 #[ptr o.blk,.int .i64 ty] W (FsP (some (szT (o,s))) W))∨((∀ s∈o.ss,s.ty≠ty)∧Calls Tryz.prog 104 #[ptr o.blk,.int .i64 ty] W (FsP none W))):=by
  intro o ho W hW;have hd2:=hd.2 o ho;have hoA:=(h.below hW).owners o ho
  cases hin:isIn (sCmp ty) o.ss with
  |true=>
   obtain⟨s,hs,rfl⟩:=(isIn_set hd2.1 ty).1 hin
   exact .inl ⟨s,hs,rfl,ownerSet_fs o s B W hoA (by omega) hd2.1 hs (by have:=(hd2.2.2 s hs).2;omega)⟩
  |false=>
   refine .inr ⟨fun s hs e=>?_,ownerSet_no o ty B W hoA (by omega) hd2.1 hin⟩;rw [(isIn_set hd2.1 ty).2 ⟨s,hs,e⟩] at hin;cases hin
 have HN:Hid (isIn (oCmp lab) os=false->∀ o∈os,Nm.cmpLs o.lab lab=0->∀ s∈o.ss,s.ty≠ty):=by
  intro hno o ho h1 s hs h2;have:=(hasT_iff ⟨hd.1,fun o ho=>(hd.2 o ho).1⟩ lab ty).2 ⟨o,ho,h1,s,hs,h2⟩;rw [hasT] at this
  cases hq:os[posOf (oCmp lab) os]? with
  |none=>rw [hq] at this;cases this
  |some q=>rw [hq,hno] at this;cases this
 have HS:Hid (OwS os):=hd.1;unfold ptr at hc0 hg HO;clear h hd hLab hn hLab0 hcs hc;go_enter Tryz.func57,Tryz.ntmps57;go_wp2_with fail
 refine hg.mono ?_;rintro e w1 ⟨hb1,⟨hin,o,ho,hcm,rfl⟩|⟨hin,rfl⟩⟩
 ·have bw1:Below w.heap.size w w1:=Nm.below_two hB0 hb1;have kZ1:Blk w1 w.heap.size _ _:=blk_below kZ hb1;have hom:=List.mem_of_getElem? ho;have HCM:=Nm.hide (And.intro hcm hom)
  rcases HO.out o hom w1 bw1 with⟨s,hs,hst,hcall⟩|⟨hno,hcall⟩
  ·have HR:=Nm.hide (And.intro hs hst);clear hg hin ho hcm hom hs hst HO hb1 kZ hc0;go_wp2_with fail
   refine hcall.mono ?_;rintro e w2 ⟨v,rfl,hov,b2⟩;obtain⟨va,vc,rfl⟩:=own_sl hov;have kZ2:=blk_below kZ1 b2;have rz:=fun i=>blk_cell kZ2 i
   have fz:=fun i=>blk_frozen kZ2 i
   have hlt:w.heap.size<w1.heap.size:=blk_lt kZ1;obtain⟨k4,ho4,bw4⟩:=set_store (x:=(szT (o,s)).own) (ty:=(szT (o,s)).ty) (tt:=(szT (o,s)).tt) kZ2 hov (fun e=>by have:=(hov.lt _ e).1;omega) (Nm.below_two bw1 b2) (Nat.le_refl _);have rk:=fun i=>blk_cell k4 i
   have HP:Hid (TsP os lab ty w (.returned (.tuple #[.agg #[.string (szT (o,s)).own,.int .i64 (szT (o,s)).ty,.int .i64 (szT (o,s)).tt,.slice va (szT (o,s)).da.length vc],.bool true])) _):=.inl ⟨o,s,HCM.out.2,HR.out.1,HCM.out.1,HR.out.2,_,rfl,own_base ho4 bw1.size,bw4⟩;simp only [Option.getD_some,Option.isSome_some];simp only [Option.getD_some] at rk;generalize szT (o,s)=Z at*;clear kZ1 kZ2 hlt k4 ho4 bw4 hov hcall;go_wp2_with fail
   refine bodyPost_ret (v:=.tuple #[.agg #[.string Z.own,.int .i64 Z.ty,.int .i64 Z.tt,.slice va Z.da.length vc],.bool true]) ?_ rfl HP.out;simp [results,Tryz.f57,go_sem,rk]
  ·have HR:=Nm.hide hno
   have HQ:Hid (∀ q∈os,Nm.cmpLs q.lab lab=0->∀ s∈q.ss,s.ty≠ty):=by
    intro q hq hq0 s hs;have:q=o:=ow_one HS.out hq hom (by rw [cmpLs_eq_right (cmpLs_symm hcm)] at hq0;exact hq0);subst this;exact hno s hs
   clear hg hin ho hcm hom hno HO hb1 kZ hc0;go_wp2_with fail
   refine hcall.mono ?_;rintro e w2 ⟨v,rfl,hov,b2⟩;obtain⟨va,vc,rfl⟩:=own_sl hov;have kZ2:=blk_below kZ1 b2;have rz:=fun i=>blk_cell kZ2 i
   have fz:=fun i=>blk_frozen kZ2 i
   have hlt:w.heap.size<w1.heap.size:=blk_lt kZ1;obtain⟨k4,ho4,bw4⟩:=set_store (x:=⟨#[]⟩) (ty:=0) (tt:=0) kZ2 hov (fun e=>by have:=(hov.lt _ e).1;omega) (Nm.below_two bw1 b2) (Nat.le_refl _);have rk:=fun i=>blk_cell k4 i
   have HP:Hid (TsP os lab ty w (.returned (.tuple #[.agg #[.string ⟨#[]⟩,.int .i64 0,.int .i64 0,.slice va 0 vc],.bool false])) _):=.inr ⟨HQ.out,_,rfl,own_base ho4 bw1.size,bw4⟩;simp only [Option.getD_none,Option.isSome_none,sz0,List.length_nil] at rk ⊢;clear kZ1 kZ2 hlt k4 ho4 bw4 hov hcall;go_wp2_with fail
   refine bodyPost_ret (v:=.tuple #[.agg #[.string ⟨#[]⟩,.int .i64 0,.int .i64 0,.slice va 0 vc],.bool false]) ?_ rfl HP.out;simp [results,Tryz.f57,go_sem,rk]
 ·have bw1:Below w.heap.size w w1:=Nm.below_two hB0 hb1;have kZ1:Blk w1 w.heap.size _ _:=blk_below kZ hb1;have rz:=fun i=>blk_cell kZ1 i
  have fz:=fun i=>blk_frozen kZ1 i
  obtain⟨k4,-,bw4⟩:=set_store (x:=⟨#[]⟩) (ty:=0) (tt:=0) kZ1 (World.ownsRow_nil w1 0 9 1) (by simp [Value.ownBlock]) bw1 (Nat.le_refl _);have rk:=fun i=>blk_cell k4 i
  have HP:=Nm.hide (HN.out hin);clear hg hin kZ kZ1 hb1 hc0 k4;go_wp2_with fail
  refine bodyPost_ret (v:=.tuple #[.agg #[.string ⟨#[]⟩,.int .i64 0,.int .i64 0,.slice none 0 0],.bool false]) ?_ rfl (.inr ⟨HP.out,fsP_none bw4⟩);simp [results,Tryz.f57,go_sem,rk]
end Go.Proofs.YtcodajnebegdiaaGreat
namespace Go.Proofs.YtcodajnebegdiaaGreat
open Go.RowKit
theorem Tryz.infoU8:(Tryz.prog.info? 5).map (fun i=>(i.zero,i.size,i.bytes))=some (some (.int .u8 0),1,1):=by kernel_rfl
set_option maxRecDepth 100000 in
set_option maxHeartbeats 400000 in
theorem wireSize_any(v:Value)(ls:List ByteArray)(w:World)(h:Nm.SRow w v ls)(hlen:Nm.wsum ls<=1000000000):
 Calls Tryz.prog 152 #[v] w fun e w'=>e=.returned (.int .i64 ((1+Nm.wsum ls:Nat):Int))∧w'=w:=by
 obtain⟨a,cap,rfl,hcap,hmx,hnl,hc⟩:=h;have hll:=Nm.length_le_wsum ls
 by_cases hne:ls=[]
 ·subst hne;go_enter Tryz.func152,Tryz.ntmps152;go_wp2
  go_loop [3,8] (fun t i=>t=.int .i64 1∧i=.int .i64 0) (fun _ _=>0)
  case atStart=>exact⟨rfl,rfl⟩
  case round=>
   obtain⟨rfl,rfl⟩:=hrel;go_wp2;go_ret;exact⟨rfl,rfl⟩
 ·obtain⟨b,off,rfl,hcell⟩:=hc hne;clear hc hnl hne;go_enter Tryz.func152,Tryz.ntmps152;go_wp2
  go_loop [3,8] (fun t i=>∃ k:Nat,k<=ls.length∧i=.int .i64 k∧t=.int .i64 ((1+Nm.wsum (ls.take k):Nat):Int)) (fun _ i=>ls.length-(intOf i).toNat)
  case atStart=>exact⟨0,Nat.zero_le _,rfl,rfl⟩
  case round=>
   obtain⟨k,hk,rfl,rfl⟩:=hrel;have hw:=Nm.wsum_take_le ls k
   by_cases hlt:k<ls.length
   ·obtain⟨x,hx⟩:∃ x,ls[k]? =some x:=⟨_,List.getElem?_eq_getElem hlt⟩;have hcx:=hcell k x hx;have HS:Hid (Nm.wsum (ls.take (k+1))=Nm.wsum (ls.take k)+(1+x.size)):=Nm.wsum_step hx;have hw1:Nm.wsum (ls.take k)+(1+x.size)<=Nm.wsum ls:=by rw [<- HS.out];exact Nm.wsum_take_le ls (k+1)
    clear hx hcell;go_wp2
    go_round
    case rel=>exact⟨k+1,by omega,by go_num,by rw [HS.out];go_num⟩
    case measure=>simp [intOf];omega
   ·go_wp2;go_ret;have:k=ls.length:=by omega
    subst this;rw [List.take_length];exact⟨rfl,rfl⟩
def wireS(ls:List ByteArray):ByteArray:=if 255<1+Nm.wsum ls then ByteArray.empty else⟨(Nm.joinL ls).toArray⟩
def wireC(ls:List ByteArray):Int:=if 255<1+Nm.wsum ls then 3 else 0
theorem wireS_short{ls:List ByteArray}(h:Nm.wsum ls<=254):wireS ls=⟨(Nm.joinL ls).toArray⟩:=if_neg (by omega)
theorem wireC_short{ls:List ByteArray}(h:Nm.wsum ls<=254):wireC ls=0:=if_neg (by omega)
theorem byte_len(x:ByteArray)(h:x.size<=255):[Value.int .u8 (x.size:Int)]=Nm.bys [UInt8.ofNat x.size]:=by
 simp [Nm.bys];omega
set_option maxRecDepth 100000 in
set_option maxHeartbeats 800000 in
theorem wire_any(v:Value)(ls:List ByteArray)(w:World)(h:Nm.SRow w v ls)(hlen:Nm.wsum ls<=1000000000):
 Calls Tryz.prog 106 #[v] w fun e w'=>e=.returned (.tuple #[.string (wireS ls),.int .i64 (wireC ls)])∧Below w.heap.size w w':=by
 have hws:=wireSize_any v ls w h hlen;obtain⟨j0,hj,k0,k1,k2⟩:=info_parts Tryz.infoU8;obtain⟨a,cap,rfl,hcap,hmx,hnl,hc⟩:=h;have hll:=Nm.length_le_wsum ls
 by_cases hlong:255<1+Nm.wsum ls
 ·have HS:Hid (wireS ls=ByteArray.empty):=if_pos hlong;have HC:Hid (wireC ls=3):=if_pos hlong;have hl':(255:Int)<((1+Nm.wsum ls:Nat):Int):=by omega
  clear hc;go_enter Tryz.func106,Tryz.ntmps106;go_wp2_with fail
  refine hws.mono ?_;rintro e w1 ⟨rfl,rfl⟩;go_wp2;go_ret2;rw [HS.out,HC.out];exact⟨rfl,Below.refl _ _⟩
 ·have HS:Hid (wireS ls=⟨(Nm.joinL ls).toArray⟩):=if_neg hlong;have HC:Hid (wireC ls=0):=if_neg hlong;have hl':((1+Nm.wsum ls:Nat):Int)<=255:=by omega
  go_enter Tryz.func106,Tryz.ntmps106;go_wp2_with fail
  refine hws.mono ?_;rintro e w1 ⟨rfl,rfl⟩;go_wp2_with (at_make;refine wpList_make_own _ rfl _ _ 165 rfl w1.heap.size 5 j0 (.int .u8 0) 1 Tryz.underlying165 hj k0 k1 .i64 .i64 _ (1+Nm.wsum ls) rfl rfl rfl (by rw [k2];omega) (by unfold maxLen;omega) (Nat.le_refl _) ?_;intro w2 hown0 hgrow0)
  go_loopw [5,16] (fun v i wr=>∃ k:Nat,k<=ls.length∧i=.int .i64 k∧wr.ownsRow w1.heap.size 5 1 v (Nm.wsum (ls.take k)) (Nm.bys (Nm.preL (ls.take k)))∧Below w1.heap.size w1 wr)
   (fun _ i _=>ls.length-(intOf i).toNat)
  case atStart=>exact⟨0,Nat.zero_le _,rfl,hown0,(Below.refl _ w1).grown hgrow0 (Nat.le_refl _) (fun k hk=>by cases hk)⟩
  case round=>
   obtain⟨k,hk,rfl,hown,hbel⟩:=hrel;have hw:=Nm.wsum_take_le ls k;have hsz:=hbel.size
   by_cases hlt:k<ls.length
   ·obtain⟨x,hx⟩:∃ x,ls[k]? =some x:=⟨_,List.getElem?_eq_getElem hlt⟩;obtain⟨b,off,rfl,hcell⟩:=hc (by intro h;rw [h] at hlt;simp at hlt);have hcx:wr.cell? ⟨b,off+k,none⟩=some (.string x):=(hbel.cell (World.block_lt_of_cell? w1 _ (hcell k x hx))).trans (hcell k x hx);have HW:Hid (Nm.wsum (ls.take (k+1))=Nm.wsum (ls.take k)+(1+x.size)):=Nm.wsum_step hx;have HP:Hid (Nm.preL (ls.take (k+1))=Nm.preL (ls.take k)++(UInt8.ofNat x.size::x.data.toList)):=Nm.preL_step hx;have hw1:Nm.wsum (ls.take k)+(1+x.size)<=Nm.wsum ls:=by rw [<- HW.out];exact Nm.wsum_take_le ls (k+1)
    clear hx hcell hc hnl hws hown0 hgrow0;go_wp2_with (first|(at_builtin;refine wpList_append_own _ rfl (.tmp 20) (.tmp 24) 165 rfl w1.heap.size 5 j0 (.int .u8 0) 1 1 Tryz.underlying165 hj k0 k1 k2 rfl (by decide) _ _ _ rfl (hown.alloc _) ⟨wr.heap.size,0,none⟩ 1 1 [.int .u8 (x.size:Int)] rfl rfl (cell_one_new _ _ _) (Nm.one_cell _ rfl) (by unfold maxLen;omega) (by omega) (by simp;omega) ?_;intro va wa hown1 hgrow1 hnl1;clear hnl1;rw [byte_len x (by omega)] at hown1;have R1:=Nm.bys_step (x:=[UInt8.ofNat x.size]) (by simp;omega) (hown.alloc _) (hbel.alloc hsz _) hown1 hgrow1;clear hown1 hgrow1)|(at_builtin;refine Go.Lib.wpList_append_own_string _ rfl (.tmp 26) (.tmp 27) 165 9 rfl w1.heap.size 5 j0 Tryz.underlying165 Tryz.underlying9 hj k0 k1 k2 _ _ _ rfl R1.1 x rfl (by unfold maxLen;omega) (by omega) R1.2.size ?_;intro vb wb hown2 hgrow2 hnl2;clear hnl2;have R2:=Nm.bys_step_str R1.2.size R1.1 R1.2 hown2 hgrow2;clear hown2 hgrow2))
    go_roundw
    case rel=>exact⟨k+1,by omega,by go_num,by rw [HW.out,HP.out];simpa [Nat.add_assoc] using R2.1,R2.2⟩
    case measure=>simp [intOf];omega
   ·have hkl:k=ls.length:=by omega
    subst hkl;rw [List.take_length] at hown;clear hc hnl hws hown0 hgrow0 hw hlt;have hone:(ByteArray.mk #[0]).size=1:=rfl;go_wp2_with (at_builtin;refine Go.Lib.wpList_append_own_string _ rfl (.tmp 30) _ 165 9 rfl w1.heap.size 5 j0 Tryz.underlying165 Tryz.underlying9 hj k0 k1 k2 _ _ _ rfl hown ⟨#[0]⟩ rfl (by unfold maxLen;omega) (by omega) hsz ?_;intro vb wb hown2 hgrow2 hnl2;clear hnl2;have R2:=Nm.bys_step_str hsz hown hbel hown2 hgrow2;clear hown2 hgrow2;obtain⟨g,cp,rfl,hcv⟩:=Nm.conv_own (P:=Tryz.prog) Tryz.underlying165 Tryz.underlying5 Tryz.underlying9 R2.1 (by omega);rw [hone] at hcv)
    go_ret2;rw [HS.out,HC.out];exact⟨rfl,R2.2⟩
end Go.Proofs.YtcodajnebegdiaaGreat
namespace Go.Proofs.YtcodajnebegdiaaGreat
open Go.RowKit
def badB(x:ByteArray):Bool:=decide (x.size<1∨63<x.size)
def makeS(ls:List ByteArray):ByteArray×Int:=
 if 127<ls.length then(ByteArray.empty,3)
 else if ls.any badB then(ByteArray.empty,2)
 else if 255<1+Nm.wsum ls then(ByteArray.empty,3)
 else(⟨(Nm.joinL ls).toArray⟩,0)
theorem wsum_good:∀ (ls:List ByteArray),ls.any badB=false->Nm.wsum ls<=64*ls.length:=by
 intro ls
 induction ls with
 |nil=>intro _;simp [Nm.wsum]
 |cons x r ih=>
  intro h;simp only [List.any_cons,Bool.or_eq_false_iff] at h;have h1:¬(x.size<1∨63<x.size):=by simpa [badB] using h.1
  have:=ih h.2;simp only [Nm.wsum,List.length_cons];omega
theorem any_step{ls:List ByteArray}{k:Nat}{x:ByteArray}(h:ls[k]? =some x)(h0:(ls.take k).any badB=false)(hg:¬(x.size<1∨63<x.size)):(ls.take (k+1)).any badB=false:=by
 have:badB x=false:=by simpa [badB] using hg
 rw [Nm.take_step h];simp [h0,this]
theorem any_bad{ls:List ByteArray}{k:Nat}{x:ByteArray}(h:ls[k]? =some x)(hg:x.size<1∨63<x.size):ls.any badB=true:=by
 rw [List.any_eq_true];exact⟨x,List.mem_of_getElem? h,by simpa [badB] using hg⟩
theorem make_bad{ls:List ByteArray}(h:ls.length<=127)(hb:ls.any badB=true):makeS ls=(ByteArray.empty,2):=by
 rw [makeS,if_neg (by omega),if_pos hb]
theorem make_many{ls:List ByteArray}(h:127<ls.length):makeS ls=(ByteArray.empty,3):=by rw [makeS,if_pos h]
theorem make_long{ls:List ByteArray}(h:ls.length<=127)(hb:ls.any badB=false)(hl:255<1+Nm.wsum ls):makeS ls=(ByteArray.empty,3):=by
 rw [makeS,if_neg (by omega),if_neg (by simp [hb]),if_pos hl]
theorem make_good{ls:List ByteArray}(h:ls.length<=127)(hb:ls.any badB=false)(hl:¬255<1+Nm.wsum ls):makeS ls=(⟨(Nm.joinL ls).toArray⟩,0):=by
 rw [makeS,if_neg (by omega),if_neg (by simp [hb]),if_neg hl]
theorem make_wire{ls:List ByteArray}(h:ls.length<=127)(hb:ls.any badB=false):makeS ls=(wireS ls,wireC ls):=by
 by_cases hl:255<1+Nm.wsum ls
 ·rw [make_long h hb hl,wireS,wireC,if_pos hl,if_pos hl]
 ·rw [make_good h hb hl,wireS,wireC,if_neg hl,if_neg hl]
end Go.Proofs.YtcodajnebegdiaaGreat
