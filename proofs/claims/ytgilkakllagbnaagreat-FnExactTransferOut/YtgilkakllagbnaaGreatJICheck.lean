import Derived.Test.YtgilkakllagbnaaGreatCut
import Derived.Test.YtgilkakllagbnaaGreatJStB
import Derived.Test.YtgilkakllagbnaaGreatJTbGI
import Derived.Test.YtgilkakllagbnaaGreatJZnM
import Derived.Test.YtgilkakllagbnaaGreatJFoldD
import Derived.RegionTactic
import Derived.BigQuiet
namespace Go.Proofs.YtgilkakllagbnaaGreat
open Go.RowKit
set_option maxRecDepth 100000 in
set_option maxHeartbeats 400000 in
theorem implCheckData_any(t:Int)(d:ByteArray)(w:World)(hd:d.size<=2000000):
 Calls Tryz.prog 89 #[.int .i64 t,.string d] w fun e w'=>e=.returned (.int .i64 (cutCode t d))∧Below w.heap.size w w':=by
 have hcall:=cutData_any t d w hd;go_enter Tryz.func89,Tryz.ntmps89;go_wp2_with (go_at_call 121;refine hcall.mono ?_;rintro e w2 ⟨v,rfl,_,_,hbel⟩)
 go_ret;exact⟨rfl,hbel⟩
end Go.Proofs.YtgilkakllagbnaaGreat
namespace Go.Proofs.YtgilkakllagbnaaGreat
open Go.RowKit
set_option linter.unusedVariables false
def itemOf(r:Rr):It:=⟨r,Nm.foldS r.own,foldR r.ty r.da,false⟩
def badOne(apex:ByteArray):List Rr->Nat->Option (Int×Nat)
 |[],_=>none
 |r::rs,i=>if oneC r apex=0 then badOne apex rs (i+1) else some (oneC r apex,i)
theorem badOne_at{apex:ByteArray}:∀ (l:List Rr) (k i:Nat) (r:Rr),(∀ (j:Nat) (x:Rr),j<k->l[j]? =some x->oneC x apex=0)->l[k]? =some r->oneC r apex≠0->badOne apex l i=some (oneC r apex,i+k):=by
 intro l
 induction l with
 |nil=>intro k i r _ h;simp at h
 |cons x l ih=>
  intro k i r hno hr hp
  cases k with
  |zero=>
   simp at hr;subst hr
   rw [badOne,if_neg hp];rfl
  |succ k=>
   simp at hr;rw [badOne,if_pos (hno 0 x (by omega) rfl),ih k (i+1) r (fun j y hj hy=>hno (j+1) y (by omega) (by simpa using hy)) hr hp];congr 2;omega
theorem badOne_no{apex:ByteArray}:∀ (l:List Rr) (i:Nat),(∀ (j:Nat) (x:Rr),j<l.length->l[j]? =some x->oneC x apex=0)->badOne apex l i=none:=by
 intro l
 induction l with
 |nil=>intro i _;rfl
 |cons x l ih=>
  intro i hno;rw [badOne,if_pos (hno 0 x (by simp) rfl)];exact ih (i+1) (fun j y hj hy=>hno (j+1) y (by simp;omega) (by simpa using hy))
def addLast(acc:List Sz)(d:ByteArray):List Sz:=match acc.getLast? with
 |some s=>acc.dropLast++[{s with da:=s.da++[d]}]
 |none=>[]
def newSet(srt:List It)(k:Nat)(x:It):Bool:=match k with
 |0=>true
 |k+1=>match srt[k]? with
  |some y=>decide (y.fo≠x.fo)||decide (y.r.ty≠x.r.ty)
  |none=>true
def grpK(l srt:List It):Nat->List Sz
 |0=>[]
 |k+1=>match srt[k]? with
  |some x=>if newSet srt k x then grpK l srt k++[⟨ownI l x.fo,x.r.ty,x.r.tt,[x.r.da]⟩] else addLast (grpK l srt k) x.r.da
  |none=>grpK l srt k
theorem grpK_new{l srt:List It}{k:Nat}{x:It}(h:srt[k]? =some x)(hn:newSet srt k x=true):grpK l srt (k+1)=grpK l srt k++[⟨ownI l x.fo,x.r.ty,x.r.tt,[x.r.da]⟩]:=by
 rw [grpK,h];simp [hn]
theorem grpK_old{l srt:List It}{k:Nat}{x:It}{qs:List Sz}{s:Sz}(h:srt[k]? =some x)(hn:newSet srt k x=false)(hg:grpK l srt k=qs++[s]):grpK l srt (k+1)=qs++[{s with da:=s.da++[x.r.da]}]:=by
 rw [grpK,h];simp [hn,hg,addLast]
theorem grpK_last{l srt:List It}:∀ (k:Nat),0<k->k<=srt.length->∃ qs s,grpK l srt k=qs++[s]:=by
 intro k
 induction k with
 |zero=>intro h;omega
 |succ k ih=>
  intro _ hk;obtain⟨x,hx⟩:∃ x,srt[k]? =some x:=⟨_,List.getElem?_eq_getElem (by omega)⟩
  cases hn:newSet srt k x with
  |true=>exact⟨_,_,grpK_new hx hn⟩
  |false=>
   have hk0:0<k:=by
    rcases Nat.eq_zero_or_pos k with h|h
    ·subst h;simp [newSet] at hn
    ·exact h
   obtain⟨qs,s,e⟩:=ih hk0 (by omega);exact⟨_,_,grpK_old hx hn e⟩
theorem grpK_len{l srt:List It}:∀ (k:Nat),k<=srt.length->(grpK l srt k).length<=k∧∀ s∈grpK l srt k,s.da.length<=k:=by
 intro k
 induction k with
 |zero=>intro _;exact⟨Nat.le_refl _,by simp [grpK]⟩
 |succ k ih=>
  intro hk;obtain⟨h1,h2⟩:=ih (by omega);obtain⟨x,hx⟩:∃ x,srt[k]? =some x:=⟨_,List.getElem?_eq_getElem (by omega)⟩
  cases hn:newSet srt k x with
  |true=>
   rw [grpK_new hx hn];refine⟨by simp;omega,fun s hs=>?_⟩
   rcases List.mem_append.1 hs with h|h
   ·have:=h2 s h;omega
   ·simp at h;subst h;simp
  |false=>
   have hk0:0<k:=by
    rcases Nat.eq_zero_or_pos k with h|h
    ·subst h;simp [newSet] at hn
    ·exact h
   obtain⟨qs,s,e⟩:=grpK_last (l:=l) (srt:=srt) k hk0 (by omega);rw [grpK_old hx hn e];rw [e] at h1 h2;refine⟨by simp at h1 ⊢;omega,fun t ht=>?_⟩
   rcases List.mem_append.1 ht with h|h
   ·have:=h2 t (List.mem_append.2 (.inl h));omega
   ·simp at h;subst h;have:=h2 s (by simp)
    simp;omega
def itsOf(list:List Rr):List It:=twI (list.map itemOf)
def restOf(list:List Rr):List It:=(itsOf list).filter fun x=> !x.out
def srtOf(list:List Rr):List It:=sortI (restOf list)
def bldZ(list:List Rr):List Sz:=grpK (itsOf list) (srtOf list) (srtOf list).length
def bldE(list:List Rr)(apex:ByteArray):Int×Int:=
 if(Nm.split apex).isSome=false then(32,-1) else if 500<list.length then(12,-1) else
 match badOne apex list 0 with
 |some (c,i)=>(c,i)
 |none=>if 0<=badI (list.map itemOf) then(24,badI (list.map itemOf)) else if(rulesI (itsOf list) (Nm.foldS apex)).1≠0 then rulesI (itsOf list) (Nm.foldS apex) else(0,0)
structure Ld where
 at_:Nat
 ty:Int
 ob:Nat
 sb:Nat
def ldC(x:Ld):List Value:=[.int .i64 (x.at_:Int),.int .i64 x.ty,.pointer (some ⟨x.ob,0,none⟩),.pointer (some ⟨x.sb,0,none⟩)]
def ldVs(l:List Ld):List Value:=l.flatMap ldC
theorem ld_at:∀ (l:List Ld) (k j:Nat) (x:Ld),l[k]? =some x->j<4->(ldVs l)[k*4+j]? =(ldC x)[j]? :=by
 intro l
 induction l with
 |nil=>intro k j x h;simp at h
 |cons y l ih=>
  intro k j x h hj;have e:ldVs (y::l)=ldC y++ldVs l:=by simp [ldVs]
  have hy:(ldC y).length=4:=rfl;rw [e]
  cases k with
  |zero=>
   simp at h;subst h;rw [List.getElem?_append_left (by omega)]
   simp
  |succ k=>
   simp at h;rw [List.getElem?_append_right (by omega),hy,show(k+1)*4+j-4=k*4+j by omega];exact ih k j x h hj
def fstR(f:Ld->Bool)(code:Int)(l:List Ld):Value:=match l.find? f with
 |some x=>.tuple #[.int .i64 code,.int .i64 (x.at_:Int)]
 |none=>.tuple #[.int .i64 0,.int .i64 0]
theorem fst_no{f:Ld->Bool}{code:Int}{l:List Ld}(h:∀ j x,j<l.length->l[j]? =some x->f x=false):fstR f code l=.tuple #[.int .i64 0,.int .i64 0]:=by
 have:l.find? f=none:=by
  rw [List.find?_eq_none];intro x hx;obtain⟨j,hj⟩:=List.mem_iff_getElem?.1 hx;rw [h j x (List.getElem?_eq_some_iff.1 hj).1 hj];simp
 rw [fstR,this]
theorem fst_at{f:Ld->Bool}{code:Int}:∀ {l:List Ld} {k:Nat} {x:Ld},(∀ j y,j<k->l[j]? =some y->f y=false)->l[k]? =some x->f x=true->fstR f code l=.tuple #[.int .i64 code,.int .i64 (x.at_:Int)]:=by
 intro l
 induction l with
 |nil=>intro k x _ h;simp at h
 |cons y l ih=>
  intro k x hno hx hf
  cases k with
  |zero=>
   simp at hx;subst hx
   rw [fstR,List.find?_cons_of_pos hf]
  |succ k=>
   have hy:f y=false:=hno 0 y (by omega) rfl;have:=ih (k:=k) (x:=x) (fun j z hj hz=>hno (j+1) z (by omega) (by simpa using hz)) (by simpa using hx) hf;rw [fstR] at this ⊢;rw [List.find?_cons_of_neg (by simp [hy])];exact this
set_option maxRecDepth 100000 in
set_option maxHeartbeats 800000 in
theorem checkNS_any(bb:Nat)(na:Option Addr)(nl nc:Nat)(HB:Bool)(w:World)(hk:w.cell? ⟨bb,3,none⟩=some (.slice na nl nc))
 (hh:∀ W,Below w.heap.size w W->Calls Tryz.prog 135 #[.pointer (some ⟨bb,3,none⟩),.slice na nl nc,.int .i64 2] W fun e w'=>e=.returned (.bool HB)∧Below W.heap.size W w'):
 Calls Tryz.prog 112 #[.pointer (some ⟨bb,0,none⟩)] w fun e w'=>e=.returned (if HB=true then .tuple #[.int .i64 0,.int .i64 0] else .tuple #[.int .i64 21,.int .i64 (-1)])∧Below w.heap.size w w':=by
 have kd:w.drew.cell? ⟨bb,3,none⟩=some (.slice na nl nc):=hk;have hd:=hh w.drew (Below.refl _ w).drew;clear hh;go_enter Tryz.func112,Tryz.ntmps112;go_wp2;go_region_with (go_at_call 135;refine hd.mono ?_;rintro e w1 ⟨rfl,b1⟩)
 all_goals (cases HB<;>(go_wp2;go_ret2;exact⟨rfl,Nm.below_two (Below.refl _ w).drew b1⟩))
end Go.Proofs.YtgilkakllagbnaaGreat
