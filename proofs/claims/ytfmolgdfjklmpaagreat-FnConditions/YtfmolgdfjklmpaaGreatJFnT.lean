import Derived.Test.YtfmolgdfjklmpaaGreatJCzM
import Derived.Test.YtfmolgdfjklmpaaGreatJTrL
import Derived.Test.YtfmolgdfjklmpaaGreatJSCheck
import Derived.Test.YtfmolgdfjklmpaaGreatJMath
import Derived.Test.YtfmolgdfjklmpaaGreatJFnS
import Derived.Test.YtfmolgdfjklmpaaGreatJBzY
import Derived.Test.YtfmolgdfjklmpaaGreatJTrD
namespace Go.Proofs.YtfmolgdfjklmpaaGreat
open Go.RowKit
set_option linter.unusedVariables false
end Go.Proofs.YtfmolgdfjklmpaaGreat
namespace Go.Proofs.YtfmolgdfjklmpaaGreat
open Go.RowKit
set_option linter.unusedVariables false
def cutV:Option GOw->Value
 |some o=>.tuple #[ptr o.blk,.bool true]
 |none=>.tuple #[.pointer none,.bool false]
structure Nd where
 kd:Int
 clo:ByteArray
 cut:ByteArray
 ty:List Int
def nd0:Nd:=⟨0,⟨#[]⟩,⟨#[]⟩,[]⟩
def labN(x:ByteArray):Nat:=((Nm.split x).getD []).length
def candZ(o name:ByteArray)(s:Sz):Bool:=decide (s.ty=2)&& !sameS s.own o&&isUnderS name s.own
def cutStep(o name best:ByteArray)(s:Sz):ByteArray:=if(candZ o name s&&(decide (best=⟨#[]⟩)||decide (labN s.own<labN best)))=true then s.own else best
def cutZ(ss:List Sz)(o name:ByteArray):ByteArray:=ss.foldl (cutStep o name) ⟨#[]⟩
def typZ(ss:List Sz)(name:ByteArray):List Int:=(ss.filter fun s=>sameS s.own name).map (·.ty)
def cloZ(th:ByteArray->Bool):List ByteArray->List ByteArray
 |[]=>[]
 |x::xs=>if th (joB (x::xs))=true then x::xs else cloZ th xs
def kdZ(name clo cut:ByteArray)(ty:List Int):Int:=
 if cut≠⟨#[]⟩ then(if sameS cut name=true then 4 else 5) else if 0<ty.length then 3 else if clo=name then 2 else 1
def ndZ(ps:List Zp)(o name:ByteArray):Nd:=
 if isUnderS name o=true then
  ⟨kdZ name (joB (cloZ (thZ ps o) ((Nm.split name).getD []))) (cutZ (ps.map (·.1)) o name) (typZ (ps.map (·.1)) name),joB (cloZ (thZ ps o) ((Nm.split name).getD [])),cutZ (ps.map (·.1)) o name,typZ (ps.map (·.1)) name⟩
 else nd0
def ndR(ps:List Zp)(o name:ByteArray):Nd×Int:=if zOK ps o=true∧(Nm.split name).isSome=true then(ndZ ps o name,0) else(nd0,32)
def tyT(os:List GOw)(lab:List ByteArray):List Int:=if isIn (oCmp lab) os=true then(match os[posOf (oCmp lab) os]? with|some q=>q.ss.map (·.ty)|none=>[]) else []
theorem thz_ex{ps:List Zp}{o name:ByteArray}{al lab:List ByteArray}(hz:zOK ps o=true)(ha:Nm.split o=some al)(hn:Nm.split name=some lab)(hu:underB lab al=true):∃ j,j<=lab.length∧thZ ps o (joB (lab.drop j))=true:=by
 obtain⟨p,hp,xs,h1,h2⟩:=apex_in hz ha;obtain⟨u1,u2⟩:=under_iff.1 hu;have hj:=((gl_split hn).drop (lab.length-al.length)).jo;refine⟨lab.length-al.length,by omega,?_⟩;rw [thZ,isUnder_some hj ha,under_self u2,Bool.true_and,List.any_eq_true];refine⟨p,hp,?_⟩;rw [isUnder_some h1 hj];exact under_self (by rw [cmpLs_eq_right u2];exact h2)
def hasN(ss:List Sz)(n:ByteArray):Bool:=decide (0<(typZ ss n).length)
def hasS(ss:List Sz)(n:ByteArray)(t:Int):Bool:=(fndZ ss n t).isSome
def cnC(ss:List Sz)(o:ByteArray)(r:Rr):Int:=
 if r.tt≠0 then 1
 else if isUnderS r.own o=false then 10
 else if r.cl=1 then(if ownB r.ty r.da=true then 0 else 1)
 else if(r.cl≠255∧r.cl≠254)∨r.da.size≠0 then 1
 else if r.cl=255 then(if r.ty=255 then(if hasN ss r.own=true then 0 else 3) else if hasS ss r.own r.ty=true then 0 else 8)
 else(if r.ty=255 then(if hasN ss r.own=true then 6 else 0) else if hasS ss r.own r.ty=true then 7 else 0)
def wtB(n:ByteArray)(t:Int)(r:Rr):Bool:=decide (r.cl=1)&&decide (r.ty=t)&&sameS r.own n
def wnt(xs:List Rr)(n:ByteArray)(t:Int):List ByteArray:=(xs.filter (wtB n t)).map fun r=>foldR t r.da
def seD(ss:List Sz)(n:ByteArray)(t:Int):List ByteArray:=((fndZ ss n t).getD sz0).da.map (foldR t)
def samB(a b:List ByteArray):Bool:=a.all (fun x=>b.any fun y=>y.data.toList==x.data.toList)&&b.all (fun x=>a.any fun y=>y.data.toList==x.data.toList)
def exB(ss:List Sz)(xs:List Rr)(n:ByteArray)(t:Int):Bool:=samB (wnt xs n t) (seD ss n t)
def bdB(ss:List Sz)(xs:List Rr)(r:Rr):Bool:=decide (r.cl=1)&& !exB ss xs r.own r.ty
def cnF(ss:List Sz)(o:ByteArray):List Rr->Option Int
 |[]=>none
 |r::rs=>if cnC ss o r=0 then cnF ss o rs else some (cnC ss o r)
def cnS(ss:List Sz)(o:ByteArray)(xs:List Rr):Int:=(cnF ss o xs).getD (if xs.any (bdB ss xs)=true then 8 else 0)
theorem cnF_none{ss:List Sz}{o:ByteArray}:∀ {xs:List Rr},(∀ r∈xs,cnC ss o r=0)->cnF ss o xs=none
 |[],_=>rfl
 |r::rs,h=>by
  rw [cnF,if_pos (h r (List.mem_cons_self ..))];exact cnF_none fun x hx=>h x (List.mem_cons_of_mem _ hx)
theorem cnF_at{ss:List Sz}{o:ByteArray}:∀ {xs:List Rr} {k:Nat} {r:Rr},(∀ j y,j<k->xs[j]? =some y->cnC ss o y=0)->xs[k]? =some r->cnC ss o r≠0->cnF ss o xs=some (cnC ss o r)
 |[],k,r,_,h,_=>by simp at h
 |x::xs,0,r,_,h,hn=>by
  simp at h;subst h
  rw [cnF,if_neg hn]
 |x::xs,k+1,r,h,hx,hn=>by
  rw [cnF,if_pos (h 0 x (by omega) rfl)];exact cnF_at (k:=k) (fun j y hj hy=>h (j+1) y (by omega) (by simpa using hy)) (by simpa using hx) hn
theorem ba_in{l:List ByteArray}{x:ByteArray}:(l.any fun y=>y.data.toList==x.data.toList)=true↔x∈l:=by
 rw [List.any_eq_true];constructor
 ·rintro⟨y,hy,e⟩
  have e1:y.data.toList=x.data.toList:=by simpa using e
  have:y=x:=by
   cases y;cases x
   simp at e1;rw [e1]
  exact this▸hy
 ·exact fun h=>⟨x,h,by simp⟩
theorem sam_iff{a b:List ByteArray}:samB a b=true↔ ∀ x,x∈a↔x∈b:=by
 rw [samB,Bool.and_eq_true,List.all_eq_true,List.all_eq_true];constructor
 ·rintro⟨h1,h2⟩ x
  exact⟨fun h=>ba_in.1 (h1 x h),fun h=>ba_in.1 (h2 x h)⟩
 ·exact fun h=>⟨fun x hx=>ba_in.2 ((h x).1 hx),fun x hx=>ba_in.2 ((h x).2 hx)⟩
theorem nd_le{α:Type}:∀ {a b:List α},a.Nodup->(∀ x∈a,x∈b)->a.length<=b.length
 |[],b,_,_=>Nat.zero_le _
 |x::a,b,h,hs=>by
  obtain⟨h1,h2⟩:=List.nodup_cons.1 h;obtain⟨p,q,rfl⟩:=List.append_of_mem (hs x (List.mem_cons_self ..))
  have:=nd_le (a:=a) (b:=p++q) h2 (fun y hy=>by
   have hm:=hs y (List.mem_cons_of_mem _ hy);simp only [List.mem_append,List.mem_cons] at hm ⊢
   rcases hm with hm|rfl|hm
   ·exact .inl hm
   ·exact absurd hy h1
   ·exact .inr hm)
  simp only [List.length_append,List.length_cons] at this ⊢;omega
theorem up_eq:∀ {a b:List ByteArray},a.Pairwise (fun x y=>Nm.ordL x.data.toList y.data.toList<0)->b.Pairwise (fun x y=>Nm.ordL x.data.toList y.data.toList<0)->(∀ x,x∈a↔x∈b)->a=b
 |[],[],_,_,_=>rfl
 |[],y::b,_,_,h=>absurd ((h y).2 (List.mem_cons_self ..)) (by simp)
 |x::a,[],_,_,h=>absurd ((h x).1 (List.mem_cons_self ..)) (by simp)
 |x::a,y::b,ha,hb,h=>by
  obtain⟨a1,a2⟩:=List.pairwise_cons.1 ha;obtain⟨b1,b2⟩:=List.pairwise_cons.1 hb;have irr:∀ (l:List UInt8),¬Nm.ordL l l<0:=fun l=>by rw [(ordL_zero l l).2 rfl];omega
  have e:x=y:=by
   rcases List.mem_cons.1 ((h x).1 (List.mem_cons_self ..)) with e|hx
   ·exact e
   ·rcases List.mem_cons.1 ((h y).2 (List.mem_cons_self ..)) with e|hy
    ·exact e.symm
    ·exact absurd (ordL_lt_trans (a1 y hy) (b1 x hx)) (irr _)
  subst e;congr 1;refine up_eq a2 b2 fun z=>?_
  have hz:=h z;simp only [List.mem_cons] at hz;constructor
  ·intro hm
   rcases hz.1 (.inr hm) with rfl|h2
   ·exact absurd (a1 z hm) (irr _)
   ·exact h2
  ·intro hm
   rcases hz.2 (.inr hm) with rfl|h2
   ·exact absurd (b1 z hm) (irr _)
   ·exact h2
section
variable {l:List It}{os:List GOw}{name:ByteArray}{lab:List ByteArray}
theorem hasS_tree(hT:TInv l os)(hl:∀ y∈l,GoodI y)(hn:Nm.split name=some lab)(t:Int):hasT lab t os=hasS (zoneT os) name t:=by
 rw [hasS]
 cases e:hasT lab t os with
 |true=>
  obtain⟨c,hc,h1,s,hs,h2⟩:=(hasT_iff ⟨hT.sorted.1,fun o ho=>(hT.sorted.2 o ho).1⟩ lab t).1 e;rw [fnd_yes hT hl hn hc hs h1 h2]
  rfl
 |false=>
  rw [fnd_no hn (fun o ho=>hT.nm hl ho) (fun c hc h1 s hs h2=>by
   have:=(hasT_iff ⟨hT.sorted.1,fun o ho=>(hT.sorted.2 o ho).1⟩ lab t).2 ⟨c,hc,h1,s,hs,h2⟩;rw [e] at this
   cases this)]
  rfl
theorem key_fold(hT:TInv l os)(hl:∀ y∈l,GoodI y){c:GOw}{s:GSe}(hc:c∈os)(hs:s∈c.ss){p:ByteArray×ByteArray}(hp:p∈s.da):p.1=foldR s.ty p.2:=by
 obtain⟨i,x,hF,h2⟩:=hT.dat c hc s hs p hp;have h3:=hF.2.1;have hg:=hl x hF.mem;rw [<- h3.2,hg.2.2.1,h3.1.2,h2]
theorem seD_yes(hT:TInv l os)(hl:∀ y∈l,GoodI y)(hn:Nm.split name=some lab){t:Int}{c:GOw}{s:GSe}(hc:c∈os)(hs:s∈c.ss)(h1:Nm.cmpLs c.lab lab=0)(h2:s.ty=t):seD (zoneT os) name t=s.da.map (·.1):=by
 rw [seD,fnd_yes hT hl hn hc hs h1 h2,Option.getD_some]
 show(s.da.map (·.2)).map (foldR t)=_
 rw [List.map_map];refine List.map_congr_left fun p hp=>?_
 rw [key_fold hT hl hc hs hp,h2];rfl
theorem seD_no(hT:TInv l os)(hl:∀ y∈l,GoodI y)(hn:Nm.split name=some lab){t:Int}(h:∀ c∈os,Nm.cmpLs c.lab lab=0->∀ s∈c.ss,s.ty≠t):seD (zoneT os) name t=[]:=by
 rw [seD,fnd_no hn (fun o ho=>hT.nm hl ho) h];rfl
theorem seD_up(hT:TInv l os)(hl:∀ y∈l,GoodI y)(hn:Nm.split name=some lab)(t:Int):(seD (zoneT os) name t).Pairwise (fun x y=>Nm.ordL x.data.toList y.data.toList<0):=by
 rcases Classical.em (∃ c∈os,Nm.cmpLs c.lab lab=0∧∃ s∈c.ss,s.ty=t) with⟨c,hc,h1,s,hs,h2⟩|h
 ·rw [seD_yes hT hl hn hc hs h1 h2,List.pairwise_map];exact(hT.sorted.2 c hc).2 s hs
 ·rw [seD_no hT hl hn (fun c hc h1 s hs h2=>h ⟨c,hc,h1,s,hs,h2⟩)];exact List.Pairwise.nil
end
theorem isIn_own{os:List GOw}(h:OwS os)(lab:List ByteArray):(isIn (oCmp lab) os=true∧∃ q∈os,os[posOf (oCmp lab) os]? =some q∧Nm.cmpLs q.lab lab=0)∨(isIn (oCmp lab) os=false∧∀ q∈os,Nm.cmpLs q.lab lab≠0):=by
 rcases place_split (f:=oCmp lab) h (oCmp_mono lab) with⟨hi,A,C,e,hp,ha,hc⟩|⟨hi,A,o,C,e,hp,h0,ha,hc⟩
 ·refine .inr ⟨hi,fun q hq h1=>?_⟩;rw [e] at hq
  rcases List.mem_append.1 hq with hq|hq
  ·have:=ha q hq;rw [oCmp] at this;omega
  ·have:=hc q hq;rw [oCmp] at this;omega
 ·obtain⟨x,hx,h0⟩:=isIn_some hi;exact .inl ⟨hi,x,List.mem_of_getElem? hx,hx,h0⟩
def tyF(lab:List ByteArray)(q:GOw):List Int:=if Nm.cmpLs q.lab lab=0 then q.ss.map (·.ty) else []
theorem typ_flat{name:ByteArray}{lab:List ByteArray}(hn:Nm.split name=some lab):∀ (os:List GOw),(∀ q∈os,Nm.split q.nm=some q.lab)->typZ (zoneT os) name=os.flatMap (tyF lab)
 |[],_=>rfl
 |q::os,h=>by
  have ih:=typ_flat hn os (fun r hr=>h r (List.mem_cons_of_mem _ hr))
  have e1:zoneT (q::os)=(q.ss.map fun s=>szT (q,s))++zoneT os:=by
   simp [zoneT,grT,List.flatMap_cons,List.map_append,List.map_map,Function.comp_def]
  have e2:typZ (zoneT (q::os)) name=typZ (q.ss.map fun s=>szT (q,s)) name++typZ (zoneT os) name:=by
   rw [e1,typZ,typZ,typZ,List.filter_append,List.map_append]
  rw [e2,ih,List.flatMap_cons];congr 1;have hs:sameS q.nm name=decide (Nm.cmpLs q.lab lab=0):=same_cmp (h q List.mem_cons_self) hn;rw [typZ,tyF]
  by_cases hc:Nm.cmpLs q.lab lab=0
  ·rw [if_pos hc,List.filter_eq_self.2 (fun z hz=>by obtain⟨s,-,rfl⟩:=List.mem_map.1 hz;show sameS q.nm name=true;rw [hs];simpa using hc)];rw [List.map_map];rfl
  ·rw [if_neg hc,List.filter_eq_nil_iff.2 (fun z hz=>by obtain⟨s,-,rfl⟩:=List.mem_map.1 hz;show ¬sameS q.nm name=true;rw [hs];simpa using hc)];rfl
theorem flat_no{lab:List ByteArray}{os:List GOw}(h:∀ q∈os,Nm.cmpLs q.lab lab≠0):os.flatMap (tyF lab)=[]:=by
 rw [List.flatMap_eq_nil_iff];intro q hq;rw [tyF,if_neg (h q hq)]
theorem flat_yes{lab:List ByteArray}:∀ {os:List GOw},OwS os->∀ q∈os,Nm.cmpLs q.lab lab=0->os.flatMap (tyF lab)=q.ss.map (·.ty)
 |[],_,_,hq,_=>by cases hq
 |r::os,h,q,hq,h0=>by
  obtain⟨h1,h2⟩:=List.pairwise_cons.1 h;rw [List.flatMap_cons]
  rcases List.mem_cons.1 hq with rfl|hq
  ·rw [flat_no (lab:=lab) (fun x hx e=>by have:=h1 x hx;rw [cmpLs_eq_left h0,] at this;have h9:=cmpLs_symm e;omega),tyF,if_pos h0,List.append_nil]
  ·have:=h1 q hq;rw [flat_yes h2 q hq h0,tyF,if_neg (fun e=>by rw [cmpLs_eq_left e] at this;have h9:=cmpLs_symm h0;omega)];rfl
theorem TZ.ty{o name:ByteArray}{al lab:List ByteArray}{os:List GOw}(h:TZ os o al)(hn:Nm.split name=some lab):tyT os lab=typZ (zoneT os) name∧(isIn (oCmp lab) os=true↔0<(typZ (zoneT os) name).length):=by
 rw [typ_flat hn os h.nm,tyT]
 rcases isIn_own h.srt.1 lab with⟨hi,q,hq,hp,h0⟩|⟨hi,hno⟩
 ·rw [flat_yes h.srt.1 q hq h0,hi,hp];refine⟨rfl,fun _=>?_,fun _=>rfl⟩;obtain⟨s,hs⟩:=h.full q hq;have:=List.length_pos_of_mem hs;simpa using this
 ·rw [flat_no hno,hi];simp
theorem cutStep_or(o name best:ByteArray)(s:Sz):(cutStep o name best s=s.own∧candZ o name s=true∧(best=⟨#[]⟩∨labN s.own<labN best))∨(cutStep o name best s=best∧(candZ o name s=false∨(best≠⟨#[]⟩∧labN best<=labN s.own))):=by
 rw [cutStep];split
 ·rename_i h;simp only [Bool.and_eq_true,Bool.or_eq_true,decide_eq_true_eq] at h;exact .inl ⟨rfl,h⟩
 ·rename_i h;refine .inr ⟨rfl,?_⟩
  cases hc:candZ o name s with
  |false=>exact .inl rfl
  |true=>
   rw [hc] at h;simp only [Bool.true_and,Bool.or_eq_true,decide_eq_true_eq,not_or,Nat.not_lt] at h;exact .inr h
theorem cutZ_cases(o name:ByteArray)(hne:∀ s:Sz,candZ o name s=true->s.own≠⟨#[]⟩)(ss:List Sz):(cutZ ss o name=⟨#[]⟩∧∀ s∈ss,candZ o name s=false)∨(∃ s∈ss,cutZ ss o name=s.own∧candZ o name s=true∧∀ t∈ss,candZ o name t=true->labN s.own<=labN t.own):=by
 refine snoc_ind (P:=fun ss=>(cutZ ss o name=⟨#[]⟩∧∀ s∈ss,candZ o name s=false)∨(∃ s∈ss,cutZ ss o name=s.own∧candZ o name s=true∧∀ t∈ss,candZ o name t=true->labN s.own<=labN t.own)) (.inl ⟨rfl,by simp⟩) (fun l a ih=>?_) ss;have e:cutZ (l++[a]) o name=cutStep o name (cutZ l o name) a:=by simp [cutZ,List.foldl_append]
 rw [e]
 rcases ih with⟨h1,h2⟩|⟨s,hs,h1,h2,h3⟩
 ·rw [h1]
  rcases cutStep_or o name ⟨#[]⟩ a with⟨e1,e2,e3⟩|⟨e1,e2|⟨e2,-⟩⟩
  ·refine .inr ⟨a,by simp,e1,e2,fun t ht hc=>?_⟩
   rcases List.mem_append.1 ht with ht|ht
   ·rw [h2 t ht] at hc;cases hc
   ·rw [List.mem_singleton.1 ht];exact Nat.le_refl _
  ·refine .inl ⟨e1,fun s hs=>?_⟩
   rcases List.mem_append.1 hs with hs|hs
   ·exact h2 s hs
   ·rw [List.mem_singleton.1 hs];exact e2
  ·exact absurd rfl e2
 ·rw [h1]
  rcases cutStep_or o name s.own a with⟨e1,e2,e3⟩|⟨e1,e2⟩
  ·have e4:labN a.own<labN s.own:=by
    rcases e3 with e3|e3
    ·exact absurd e3 (hne s h2)
    ·exact e3
   refine .inr ⟨a,by simp,e1,e2,fun t ht hc=>?_⟩
   rcases List.mem_append.1 ht with ht|ht
   ·have:=h3 t ht hc;omega
   ·rw [List.mem_singleton.1 ht];exact Nat.le_refl _
  ·refine .inr ⟨s,by simp [hs],e1,h2,fun t ht hc=>?_⟩
   rcases List.mem_append.1 ht with ht|ht
   ·exact h3 t ht hc
   ·rw [List.mem_singleton.1 ht] at hc ⊢
    rcases e2 with e2|e2
    ·rw [e2] at hc;cases hc
    ·exact e2.2
theorem split_ne{a:ByteArray}{xs:List ByteArray}(h:Nm.split a=some xs):a≠⟨#[]⟩:=by
 rintro rfl;have:=(Nm.split_size h).1;simp [ByteArray.size] at this
theorem cand_ne{o name:ByteArray}{s:Sz}(h:candZ o name s=true):s.own≠⟨#[]⟩:=by
 rw [candZ,Bool.and_eq_true] at h;intro e;have h2:=h.2;rw [isUnder_right (by rw [e];cases hq:Nm.split ⟨#[]⟩ with|none=>rfl|some xs=>exact absurd rfl (split_ne hq))] at h2;cases h2
end Go.Proofs.YtfmolgdfjklmpaaGreat
