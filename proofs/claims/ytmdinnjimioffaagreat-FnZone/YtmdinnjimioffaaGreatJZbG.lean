import Derived.Test.YtmdinnjimioffaaGreatJZtM
import Derived.Test.YtmdinnjimioffaaGreatZbA
import Derived.Test.YtmdinnjimioffaaGreatJTrG
import Derived.Test.YtmdinnjimioffaaGreatJFoldD
import Derived.RegionTactic
import Derived.Test.YtmdinnjimioffaaGreatCut
import Derived.Test.YtmdinnjimioffaaGreatJTrD
import Derived.Test.YtmdinnjimioffaaGreatJTrP
import Derived.Test.YtmdinnjimioffaaGreatJTrM
namespace Go.Proofs.YtmdinnjimioffaaGreat
open Go.RowKit
set_option linter.unusedVariables false
def itemOf(r:Rr):It:=⟨r,Nm.foldS r.own,foldR r.ty r.da,false⟩
def badOne(apex:ByteArray):List Rr->Nat->Option (Int×Nat)
 |[],_=>none
 |r::rs,i=>if oneC r apex=0 then badOne apex rs (i+1) else some (oneC r apex,i)
theorem badOne_at{apex:ByteArray}:∀ (l:List Rr) (k i:Nat) (r:Rr),(∀ (j:Nat) (x:Rr),j<k->l[j]? =some x->oneC x apex=0)->l[k]? =some r->oneC r apex≠0->badOne apex l i=some (oneC r apex,i+k):=by
 intro l
 induction l with
 |nil=>intro k i r _ h;simp at h
 |cons x l ih=>
  intro k i r hno hr hp
  cases k with
  |zero=>
   simp at hr;subst hr
   rw [badOne,if_neg hp];rfl
  |succ k=>
   simp at hr;rw [badOne,if_pos (hno 0 x (by omega) rfl),ih k (i+1) r (fun j y hj hy=>hno (j+1) y (by omega) (by simpa using hy)) hr hp];congr 2;omega
theorem badOne_no{apex:ByteArray}:∀ (l:List Rr) (i:Nat),(∀ (j:Nat) (x:Rr),j<l.length->l[j]? =some x->oneC x apex=0)->badOne apex l i=none:=by
 intro l
 induction l with
 |nil=>intro i _;rfl
 |cons x l ih=>
  intro i hno;rw [badOne,if_pos (hno 0 x (by simp) rfl)];exact ih (i+1) (fun j y hj hy=>hno (j+1) y (by simp;omega) (by simpa using hy))
def addLast(acc:List Sz)(d:ByteArray):List Sz:=match acc.getLast? with
 |some s=>acc.dropLast++[{s with da:=s.da++[d]}]
 |none=>[]
def newSet(srt:List It)(k:Nat)(x:It):Bool:=match k with
 |0=>true
 |k+1=>match srt[k]? with
  |some y=>decide (y.fo≠x.fo)||decide (y.r.ty≠x.r.ty)
  |none=>true
def grpK(l srt:List It):Nat->List Sz
 |0=>[]
 |k+1=>match srt[k]? with
  |some x=>if newSet srt k x then grpK l srt k++[⟨ownI l x.fo,x.r.ty,x.r.tt,[x.r.da]⟩] else addLast (grpK l srt k) x.r.da
  |none=>grpK l srt k
theorem grpK_new{l srt:List It}{k:Nat}{x:It}(h:srt[k]? =some x)(hn:newSet srt k x=true):grpK l srt (k+1)=grpK l srt k++[⟨ownI l x.fo,x.r.ty,x.r.tt,[x.r.da]⟩]:=by
 rw [grpK,h];simp [hn]
theorem grpK_old{l srt:List It}{k:Nat}{x:It}{qs:List Sz}{s:Sz}(h:srt[k]? =some x)(hn:newSet srt k x=false)(hg:grpK l srt k=qs++[s]):grpK l srt (k+1)=qs++[{s with da:=s.da++[x.r.da]}]:=by
 rw [grpK,h];simp [hn,hg,addLast]
theorem grpK_last{l srt:List It}:∀ (k:Nat),0<k->k<=srt.length->∃ qs s,grpK l srt k=qs++[s]:=by
 intro k
 induction k with
 |zero=>intro h;omega
 |succ k ih=>
  intro _ hk;obtain⟨x,hx⟩:∃ x,srt[k]? =some x:=⟨_,List.getElem?_eq_getElem (by omega)⟩
  cases hn:newSet srt k x with
  |true=>exact⟨_,_,grpK_new hx hn⟩
  |false=>
   have hk0:0<k:=by
    rcases Nat.eq_zero_or_pos k with h|h
    ·subst h;simp [newSet] at hn
    ·exact h
   obtain⟨qs,s,e⟩:=ih hk0 (by omega);exact⟨_,_,grpK_old hx hn e⟩
theorem grpK_len{l srt:List It}:∀ (k:Nat),k<=srt.length->(grpK l srt k).length<=k∧∀ s∈grpK l srt k,s.da.length<=k:=by
 intro k
 induction k with
 |zero=>intro _;exact⟨Nat.le_refl _,by simp [grpK]⟩
 |succ k ih=>
  intro hk;obtain⟨h1,h2⟩:=ih (by omega);obtain⟨x,hx⟩:∃ x,srt[k]? =some x:=⟨_,List.getElem?_eq_getElem (by omega)⟩
  cases hn:newSet srt k x with
  |true=>
   rw [grpK_new hx hn];refine⟨by simp;omega,fun s hs=>?_⟩
   rcases List.mem_append.1 hs with h|h
   ·have:=h2 s h;omega
   ·simp at h;subst h;simp
  |false=>
   have hk0:0<k:=by
    rcases Nat.eq_zero_or_pos k with h|h
    ·subst h;simp [newSet] at hn
    ·exact h
   obtain⟨qs,s,e⟩:=grpK_last (l:=l) (srt:=srt) k hk0 (by omega);rw [grpK_old hx hn e];rw [e] at h1 h2;refine⟨by simp at h1 ⊢;omega,fun t ht=>?_⟩
   rcases List.mem_append.1 ht with h|h
   ·have:=h2 t (List.mem_append.2 (.inl h));omega
   ·simp at h;subst h;have:=h2 s (by simp)
    simp;omega
def itsOf(list:List Rr):List It:=twI (list.map itemOf)
def restOf(list:List Rr):List It:=(itsOf list).filter fun x=> !x.out
def srtOf(list:List Rr):List It:=sortI (restOf list)
def bldZ(list:List Rr):List Sz:=grpK (itsOf list) (srtOf list) (srtOf list).length
def bldE(list:List Rr)(apex:ByteArray):Int×Int:=
 if(Nm.split apex).isSome=false then(32,-1) else if 500<list.length then(12,-1) else
 match badOne apex list 0 with
 |some (c,i)=>(c,i)
 |none=>if 0<=badI (list.map itemOf) then(24,badI (list.map itemOf)) else if(rulesI (itsOf list) (Nm.foldS apex)).1≠0 then rulesI (itsOf list) (Nm.foldS apex) else(0,0)
structure Ld where
 at_:Nat
 ty:Int
 ob:Nat
 sb:Nat
def ldC(x:Ld):List Value:=[.int .i64 (x.at_:Int),.int .i64 x.ty,.pointer (some ⟨x.ob,0,none⟩),.pointer (some ⟨x.sb,0,none⟩)]
def ldVs(l:List Ld):List Value:=l.flatMap ldC
theorem ld_at:∀ (l:List Ld) (k j:Nat) (x:Ld),l[k]? =some x->j<4->(ldVs l)[k*4+j]? =(ldC x)[j]? :=by
 intro l
 induction l with
 |nil=>intro k j x h;simp at h
 |cons y l ih=>
  intro k j x h hj;have e:ldVs (y::l)=ldC y++ldVs l:=by simp [ldVs]
  have hy:(ldC y).length=4:=rfl;rw [e]
  cases k with
  |zero=>
   simp at h;subst h;rw [List.getElem?_append_left (by omega)]
   simp
  |succ k=>
   simp at h;rw [List.getElem?_append_right (by omega),hy,show(k+1)*4+j-4=k*4+j by omega];exact ih k j x h hj
def fstR(f:Ld->Bool)(code:Int)(l:List Ld):Value:=match l.find? f with
 |some x=>.tuple #[.int .i64 code,.int .i64 (x.at_:Int)]
 |none=>.tuple #[.int .i64 0,.int .i64 0]
theorem fst_no{f:Ld->Bool}{code:Int}{l:List Ld}(h:∀ j x,j<l.length->l[j]? =some x->f x=false):fstR f code l=.tuple #[.int .i64 0,.int .i64 0]:=by
 have:l.find? f=none:=by
  rw [List.find?_eq_none];intro x hx;obtain⟨j,hj⟩:=List.mem_iff_getElem?.1 hx;rw [h j x (List.getElem?_eq_some_iff.1 hj).1 hj];simp
 rw [fstR,this]
theorem fst_at{f:Ld->Bool}{code:Int}:∀ {l:List Ld} {k:Nat} {x:Ld},(∀ j y,j<k->l[j]? =some y->f y=false)->l[k]? =some x->f x=true->fstR f code l=.tuple #[.int .i64 code,.int .i64 (x.at_:Int)]:=by
 intro l
 induction l with
 |nil=>intro k x _ h;simp at h
 |cons y l ih=>
  intro k x hno hx hf
  cases k with
  |zero=>
   simp at hx;subst hx
   rw [fstR,List.find?_cons_of_pos hf]
  |succ k=>
   have hy:f y=false:=hno 0 y (by omega) rfl;have:=ih (k:=k) (x:=x) (fun j z hj hz=>hno (j+1) z (by omega) (by simpa using hz)) (by simpa using hx) hf;rw [fstR] at this ⊢;rw [List.find?_cons_of_neg (by simp [hy])];exact this
end Go.Proofs.YtmdinnjimioffaaGreat
namespace Go.Proofs.YtmdinnjimioffaaGreat
open Go.RowKit
set_option maxRecDepth 100000 in
set_option maxHeartbeats 400000 in
theorem implCheckData_any(t:Int)(d:ByteArray)(w:World)(hd:d.size<=2000000):
 Calls Tryz.prog 112 #[.int .i64 t,.string d] w fun e w'=>e=.returned (.int .i64 (cutCode t d))∧Below w.heap.size w w':=by
 have hcall:=cutData_any t d w hd;go_enter Tryz.func112,Tryz.ntmps112;go_wp2_with (go_at_call 135;refine hcall.mono ?_;rintro e w2 ⟨v,rfl,_,_,hbel⟩)
 go_ret;exact⟨rfl,hbel⟩
end Go.Proofs.YtmdinnjimioffaaGreat
namespace Go.Proofs.YtmdinnjimioffaaGreat
open Go.RowKit
set_option linter.unusedVariables false
def frsR(ap b:ByteArray):List Rr:=[⟨ap,6,1,3600,soaD ap b⟩,⟨ap,2,1,3600,subS [⟨#[110,115,49]⟩] ap⟩]
section
variable {w0 w:World}{g n cap:Nat}{a:Option Addr}
theorem Dr.set(d:Dr w0 g a n cap w){b i:Nat}(h:w0.heap.size<=b)(x:Value):Dr w0 g a n cap (w.setCell ⟨b,i,none⟩ x):=
 d.row (row:=some b) ⟨rfl,rfl,rfl,by simp,fun k _ hk=>heap_setCell_other w ⟨b,i,none⟩ k x (fun e=>hk (by simp [e]))⟩ (fun k hk=>by simp at hk;omega)
end
set_option maxRecDepth 100000 in
set_option maxHeartbeats 400000 in
theorem l01Parts_any(a:Option Addr)(n cap:Nat)(w:World)(hn:n<=1048576):
 Calls Tryz.prog 15 #[.slice a n cap,.int .i64 60] w fun e w'=>∃ k:Nat,e=.returned (.int .i64 (k:Int))∧k<=30∧w'=w:=by
 have hq:((n:Int).tdiv 60)=((n / 60:Nat):Int):=by rw [Int.tdiv_eq_ediv_of_nonneg (by omega)];rfl
 by_cases h:30<n / 60
 ·have h':(30:Int)<((n / 60:Nat):Int):=by omega
  go_enter Tryz.func15,Tryz.ntmps15;go_wp2;go_ret;exact⟨30,rfl,Nat.le_refl _,rfl⟩
 ·have h':¬(30:Int)<((n / 60:Nat):Int):=by omega
  go_enter Tryz.func15,Tryz.ntmps15;go_wp2;go_ret;exact⟨n / 60,rfl,by omega,rfl⟩
end Go.Proofs.YtmdinnjimioffaaGreat
