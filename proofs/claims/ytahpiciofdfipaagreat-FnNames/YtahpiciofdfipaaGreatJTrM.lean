import Derived.Test.YtahpiciofdfipaaGreatJCmpM
import Derived.Test.YtahpiciofdfipaaGreatRows
import Derived.WalkSpells
import Derived.WalkLawsBesides
import Derived.RegionTactic
import Derived.Test.YtahpiciofdfipaaGreatJMath
import Derived.Lib.Bytealg
import Derived.Deep.AppendSrc
import Derived.Deep.Upon
namespace Go.Proofs.YtahpiciofdfipaaGreat
open Go.RowKit
set_option linter.unusedVariables false
def cfOf{α:Type}(f:α->Int)(l:List α)(i:Nat):Int:=match l[i]? with
 |some x=>f x
 |none=>0
def posOf{α:Type}(f:α->Int)(l:List α):Nat:=(l.takeWhile fun x=>decide (f x<0)).length
theorem cfOf_at{α:Type}{f:α->Int}{l:List α}{i:Nat}{x:α}(h:l[i]? =some x):cfOf f l i=f x:=by rw [cfOf,h]
theorem posOf_fnd{α:Type}{f:α->Int}:∀ (l:List α),(∀ a b,a<=b->b<l.length->cfOf f l b<0->cfOf f l a<0)->Fnd l.length (cfOf f l) (posOf f l):=by
 intro l
 induction l with
 |nil=>intro _;exact⟨Nat.le_refl _,fun i hi=>by simp [posOf] at hi,fun i _ h2=>by simp at h2⟩
 |cons x l ih=>
  intro hm;have hsh:∀ i,cfOf f (x::l) (i+1)=cfOf f l i:=fun i=>by simp [cfOf]
  have hz:cfOf f (x::l) 0=f x:=rfl
  by_cases hx:f x<0
  ·have hp:posOf f (x::l)=posOf f l+1:=by simp [posOf,hx]
   obtain⟨h1,h2,h3⟩:=ih (fun a b hab hb hc=>by
    have:=hm (a+1) (b+1) (by omega) (by simp;omega) (by rw [hsh];exact hc);rw [hsh] at this
    exact this)
   rw [hp];refine⟨by simp;omega,fun i hi=>?_,fun i h4 h5=>?_⟩
   ·cases i with
    |zero=>exact hx
    |succ i=>rw [hsh];exact h2 i (by omega)
   ·cases i with
    |zero=>omega
    |succ i=>rw [hsh];exact h3 i (by omega) (by simp at h5;omega)
  ·have hp:posOf f (x::l)=0:=by simp [posOf,hx]
   rw [hp];refine⟨Nat.zero_le _,fun i hi=>by omega,fun i _ h5=>?_⟩
   rcases Int.lt_or_le (cfOf f (x::l) i) 0 with h|h
   ·have:=hm 0 i (Nat.zero_le _) h5 h;rw [hz] at this;exact absurd this hx
   ·exact h
def insAt{α:Type}(k:Nat)(x:α)(l:List α):List α:=l.take k++[x]++l.drop k
def isIn{α:Type}(f:α->Int)(l:List α):Bool:=decide (posOf f l<l.length)&&decide (cfOf f l (posOf f l)=0)
def putF{α:Type}(f:α->Int)(x:α)(l:List α):List α:=if isIn f l then l else insAt (posOf f l) x l
theorem isIn_some{α:Type}{f:α->Int}{l:List α}(h:isIn f l=true):∃ x,l[posOf f l]? =some x∧f x=0:=by
 simp only [isIn,Bool.and_eq_true,decide_eq_true_eq] at h;obtain⟨h1,h2⟩:=h;refine⟨_,List.getElem?_eq_getElem h1,?_⟩;rw [cfOf_at (List.getElem?_eq_getElem h1)] at h2;exact h2
theorem isIn_not{α:Type}{f:α->Int}{l:List α}(h:isIn f l=false):¬(posOf f l<l.length∧cfOf f l (posOf f l)=0):=by
 rintro⟨h1,h2⟩
 rw [isIn,decide_eq_true h1,decide_eq_true h2] at h;cases h
theorem mono_of_pair{α:Type}{f:α->Int}{R:α->α->Prop}{l:List α}(hp:l.Pairwise R)(hR:∀ a b,R a b->f b<0->f a<0):∀ a b,a<=b->b<l.length->cfOf f l b<0->cfOf f l a<0:=by
 intro a b hab hb hc
 rcases Nat.lt_or_eq_of_le hab with h|h
 ·have:=List.pairwise_iff_getElem.1 hp a b (by omega) hb h;rw [cfOf_at (List.getElem?_eq_getElem hb)] at hc;rw [cfOf_at (List.getElem?_eq_getElem (by omega:a<l.length))];exact hR _ _ this hc
 ·subst h;exact hc
theorem blk_ne{w:World}{a b:Nat}{c d:Array Value}{T T':TypeId}(h1:Blk w a c T)(h2:Blk w b d T')(hne:T≠T'):a≠b:=by
 intro e;subst e;rw [Blk,h1] at h2;simp only [Option.some.injEq,Obj.cells.injEq] at h2;exact hne h2.2.1
theorem own_nb{W:World}{B e s n b:Nat}{v:Value}{xs:List Value}{cs:Array Value}{T:TypeId}(h:W.ownsRow B e s v n xs)(hb:Blk W b cs T)(hne:e≠T):v.ownBlock≠some b:=by
 intro he
 rcases h.2 with⟨rfl,_⟩|⟨g,cap,cur,rfl,_,hh,_⟩
 ·cases he
 ·simp only [Value.ownBlock,Option.some.injEq] at he;subst he;rw [Blk,hh] at hb;simp only [Option.some.injEq,Obj.cells.injEq] at hb;exact hne hb.2.1
structure Rr where
 own:ByteArray
 ty:Int
 cl:Int
 tt:Int
 da:ByteArray
def rvV(r:Rr):List Value:=[.string r.own,.int .i64 r.ty,.int .i64 r.cl,.int .i64 r.tt,.string r.da]
def rvVs(xs:List Rr):List Value:=xs.flatMap rvV
theorem rvVs_cons(x:Rr)(xs:List Rr):rvVs (x::xs)=rvV x++rvVs xs:=by simp [rvVs]
theorem rvVs_app(a b:List Rr):rvVs (a++b)=rvVs a++rvVs b:=by simp [rvVs]
theorem rvVs_len(xs:List Rr):(rvVs xs).length=xs.length*5:=by
 induction xs with
 |nil=>rfl
 |cons x xs ih=>
  have:(rvV x).length=5:=rfl;rw [rvVs_cons,List.length_append,ih,List.length_cons,this];omega
theorem rvVs_at:∀ (xs:List Rr) (k j:Nat) (x:Rr),xs[k]? =some x->j<5->(rvVs xs)[k*5+j]? =(rvV x)[j]? :=by
 intro xs
 induction xs with
 |nil=>intro k j x h;simp at h
 |cons y xs ih=>
  intro k j x h hj;have hl:(rvV y).length=5:=rfl
  cases k with
  |zero=>
   simp at h;subst h
   rw [rvVs_cons,Nat.zero_mul,Nat.zero_add,List.getElem?_append_left (by omega)]
  |succ k=>
   simp at h;rw [rvVs_cons,List.getElem?_append_right (by omega),hl,show(k+1)*5+j-5=k*5+j by omega];exact ih k j x h hj
theorem rv_cells{w:World}{xs:List Rr}{b off k:Nat}{x:Rr}(hc:∀ (i:Nat) (y:Value),(rvVs xs)[i]? =some y->w.cell? ⟨b,off+i,none⟩=some y)(h:xs[k]? =some x):
 w.cell? ⟨b,off+k*5,none⟩=some (.string x.own)∧w.cell? ⟨b,off+k*5+1,none⟩=some (.int .i64 x.ty)∧w.cell? ⟨b,off+k*5+2,none⟩=some (.int .i64 x.cl)∧w.cell? ⟨b,off+k*5+3,none⟩=some (.int .i64 x.tt)∧w.cell? ⟨b,off+k*5+4,none⟩=some (.string x.da):=
 ⟨hc (k*5) _ ((rvVs_at xs k 0 x h (by decide)).trans rfl),hc (k*5+1) _ ((rvVs_at xs k 1 x h (by decide)).trans rfl),hc (k*5+2) _ ((rvVs_at xs k 2 x h (by decide)).trans rfl),hc (k*5+3) _ ((rvVs_at xs k 3 x h (by decide)).trans rfl),hc (k*5+4) _ ((rvVs_at xs k 4 x h (by decide)).trans rfl)⟩
end Go.Proofs.YtahpiciofdfipaaGreat
namespace Go.Proofs.YtahpiciofdfipaaGreat
open Go.RowKit
set_option maxRecDepth 100000 in
set_option maxHeartbeats 400000 in
theorem l01Order_any(a b:ByteArray)(w:World):
 Calls Tryz.prog 25 #[.string a,.string b] w fun e w'=>e=.returned (.int .i64 (Nm.ordL a.toList b.toList))∧w'=w:=by
 cases h1:Op.bytesLess a.toList b.toList with
 |true=>
  have HC:Hid (Nm.ordL a.toList b.toList= -1):=by show _=_;simp [Nm.ordL,h1]
  go_enter Tryz.func25,Tryz.ntmps25;go_wp2;go_ret;rw [HC.out]
  exact⟨rfl,rfl⟩
 |false=>
  cases h2:(a.toList==b.toList) with
  |true=>
   have HC:Hid (Nm.ordL a.toList b.toList=0):=by show _=_;rw [Nm.ordL,if_neg (by simp [h1]),if_pos (beq_iff_eq.1 h2)]
   go_enter Tryz.func25,Tryz.ntmps25;go_wp2;go_ret;rw [HC.out]
   exact⟨rfl,rfl⟩
  |false=>
   have HC:Hid (Nm.ordL a.toList b.toList=1):=by show _=_;simp [Nm.ordL,h1,beq_eq_false_iff_ne.1 h2]
   go_enter Tryz.func25,Tryz.ntmps25;go_wp2;go_ret;rw [HC.out];exact⟨rfl,rfl⟩
end Go.Proofs.YtahpiciofdfipaaGreat
namespace Go.Proofs.YtahpiciofdfipaaGreat
open Go.RowKit
set_option linter.unusedVariables false
def RB(w:World)(g:Nat)(r:Rr):Prop:=w.cell? ⟨g,0,none⟩=some (.string r.own)∧w.cell? ⟨g,1,none⟩=some (.int .i64 r.ty)∧w.cell? ⟨g,2,none⟩=some (.int .i64 r.cl)∧w.cell? ⟨g,3,none⟩=some (.int .i64 r.tt)∧w.cell? ⟨g,4,none⟩=some (.string r.da)
theorem RB.below{w W:World}{g:Nat}{r:Rr}(h:RB w g r)(hb:Below w.heap.size w W):RB W g r:=by
 obtain⟨a,b,c,d,e⟩:=h;have put:∀ {O:Nat} {z:Value},w.cell? ⟨g,O,none⟩=some z->W.cell? ⟨g,O,none⟩=some z:=fun h=>(hb.cell (World.block_lt_of_cell? w _ h)).trans h
 exact⟨put a,put b,put c,put d,put e⟩
theorem RB.new(w:World)(r:Rr)(t:Nat):RB (w.alloc (.cells #[.string r.own,.int .i64 r.ty,.int .i64 r.cl,.int .i64 r.tt,.string r.da] t)) w.heap.size r:=by
 refine⟨?_,?_,?_,?_,?_⟩<;>simp
set_option maxRecDepth 100000 in
set_option maxHeartbeats 400000 in
theorem within_any(n m:Int)(w:World):Calls Tryz.prog 129 #[.int .i64 n,.int .i64 m] w fun e w'=>e=.returned (.bool (decide (0<=n)&&decide (n<=m)))∧w'=w:=by
 by_cases h0:0<=n
 ·by_cases h1:n<=m
  ·have e:(decide (0<=n)&&decide (n<=m))=true:=by simp [h0,h1]
   rw [e];clear e;go_enter Tryz.func129,Tryz.ntmps129;go_wp2;go_ret;exact⟨rfl,rfl⟩
  ·have h1':m<n:=by omega
   have e:(decide (0<=n)&&decide (n<=m))=false:=by simp [h0,h1]
   rw [e];clear e;go_enter Tryz.func129,Tryz.ntmps129;go_wp2;go_ret;exact⟨rfl,rfl⟩
 ·have h0':n<0:=by omega
  have e:(decide (0<=n)&&decide (n<=m))=false:=by simp [h0]
  rw [e];clear e;go_enter Tryz.func129,Tryz.ntmps129;go_wp2;go_ret;exact⟨rfl,rfl⟩
set_option maxRecDepth 100000 in
set_option maxHeartbeats 400000 in
theorem l04In_any(n m:Int)(w:World):Calls Tryz.prog 64 #[.int .i64 n,.int .i64 m] w fun e w'=>e=.returned (.bool (decide (0<=n)&&decide (n<=m)))∧w'=w:=by
 by_cases h0:0<=n
 ·by_cases h1:n<=m
  ·have e:(decide (0<=n)&&decide (n<=m))=true:=by simp [h0,h1]
   rw [e];clear e;go_enter Tryz.func64,Tryz.ntmps64;go_wp2;go_ret;exact⟨rfl,rfl⟩
  ·have h1':m<n:=by omega
   have e:(decide (0<=n)&&decide (n<=m))=false:=by simp [h0,h1]
   rw [e];clear e;go_enter Tryz.func64,Tryz.ntmps64;go_wp2;go_ret;exact⟨rfl,rfl⟩
 ·have h0':n<0:=by omega
  have e:(decide (0<=n)&&decide (n<=m))=false:=by simp [h0]
  rw [e];clear e;go_enter Tryz.func64,Tryz.ntmps64;go_wp2;go_ret;exact⟨rfl,rfl⟩
def metaB(t:Int):Bool:=t==0||t==41||(decide (249<=t)&&decide (t<=255))
set_option maxRecDepth 100000 in
set_option maxHeartbeats 400000 in
theorem isMeta_any(t:Int)(w:World):Calls Tryz.prog 130 #[.int .i64 t] w fun e w'=>e=.returned (.bool (metaB t))∧w'=w:=by
 by_cases h0:t=0
 ·subst h0;go_enter Tryz.func130,Tryz.ntmps130;go_wp2;go_ret;exact⟨rfl,rfl⟩
 ·have e0:(t==0)=false:=by rw [beq_eq_false_iff_ne];exact h0
  by_cases h1:t=41
  ·subst h1;go_enter Tryz.func130,Tryz.ntmps130;go_wp2;go_ret;exact⟨rfl,rfl⟩
  ·have e1:(t==41)=false:=by rw [beq_eq_false_iff_ne];exact h1
   by_cases h2:249<=t
   ·by_cases h3:t<=255
    ·have HM:Hid (metaB t=true):=by show _=_;simp [metaB,h2,h3]
     go_enter Tryz.func130,Tryz.ntmps130;go_wp2;go_ret;rw [HM.out];exact⟨rfl,rfl⟩
    ·have h3':255<t:=by omega
     have HM:Hid (metaB t=false):=by show _=_;simp [metaB,h0,h1];omega
     go_enter Tryz.func130,Tryz.ntmps130;go_wp2;go_ret;rw [HM.out];exact⟨rfl,rfl⟩
   ·have h2':t<249:=by omega
    have HM:Hid (metaB t=false):=by show _=_;simp [metaB,h0,h1];omega
    go_enter Tryz.func130,Tryz.ntmps130;go_wp2;go_ret;rw [HM.out];exact⟨rfl,rfl⟩
set_option maxRecDepth 100000 in
set_option maxHeartbeats 400000 in
theorem l05Meta_any(t:Int)(w:World):Calls Tryz.prog 65 #[.int .i64 t] w fun e w'=>e=.returned (.bool (metaB t))∧w'=w:=by
 by_cases h0:t=0
 ·subst h0;go_enter Tryz.func65,Tryz.ntmps65;go_wp2;go_ret;exact⟨rfl,rfl⟩
 ·have e0:(t==0)=false:=by rw [beq_eq_false_iff_ne];exact h0
  by_cases h1:t=41
  ·subst h1;go_enter Tryz.func65,Tryz.ntmps65;go_wp2;go_ret;exact⟨rfl,rfl⟩
  ·have e1:(t==41)=false:=by rw [beq_eq_false_iff_ne];exact h1
   by_cases h2:249<=t
   ·by_cases h3:t<=255
    ·have HM:Hid (metaB t=true):=by show _=_;simp [metaB,h2,h3]
     go_enter Tryz.func65,Tryz.ntmps65;go_wp2;go_ret;rw [HM.out];exact⟨rfl,rfl⟩
    ·have h3':255<t:=by omega
     have HM:Hid (metaB t=false):=by show _=_;simp [metaB,h0,h1];omega
     go_enter Tryz.func65,Tryz.ntmps65;go_wp2;go_ret;rw [HM.out];exact⟨rfl,rfl⟩
   ·have h2':t<249:=by omega
    have HM:Hid (metaB t=false):=by show _=_;simp [metaB,h0,h1];omega
    go_enter Tryz.func65,Tryz.ntmps65;go_wp2;go_ret;rw [HM.out];exact⟨rfl,rfl⟩
end Go.Proofs.YtahpiciofdfipaaGreat
namespace Go.Proofs.YtahpiciofdfipaaGreat
open Go.RowKit
def ssum:List ByteArray->Nat
 |[]=>0
 |l::r=>l.size+ssum r
end Go.Proofs.YtahpiciofdfipaaGreat
namespace Go.Proofs.YtahpiciofdfipaaGreat
open Go.RowKit
set_option linter.unusedVariables false
structure Sz where
 own:ByteArray
 ty:Int
 tt:Int
 da:List ByteArray
abbrev Zp:Type:=Sz×Value
def zpV(p:Zp):List Value:=[.string p.1.own,.int .i64 p.1.ty,.int .i64 p.1.tt,p.2]
def zpVs(ps:List Zp):List Value:=ps.flatMap zpV
theorem zpVs_cons(x:Zp)(xs:List Zp):zpVs (x::xs)=zpV x++zpVs xs:=by simp [zpVs]
theorem zpVs_app(a b:List Zp):zpVs (a++b)=zpVs a++zpVs b:=by simp [zpVs]
theorem zpVs_len(xs:List Zp):(zpVs xs).length=xs.length*4:=by
 induction xs with
 |nil=>rfl
 |cons x xs ih=>
  have:(zpV x).length=4:=rfl;rw [zpVs_cons,List.length_append,ih,List.length_cons,this];omega
theorem zpVs_at:∀ (xs:List Zp) (k j:Nat) (x:Zp),xs[k]? =some x->j<4->(zpVs xs)[k*4+j]? =(zpV x)[j]? :=by
 intro xs
 induction xs with
 |nil=>intro k j x h;simp at h
 |cons y xs ih=>
  intro k j x h hj;have hl:(zpV y).length=4:=rfl
  cases k with
  |zero=>
   simp at h;subst h
   rw [zpVs_cons,Nat.zero_mul,Nat.zero_add,List.getElem?_append_left (by omega)]
  |succ k=>
   simp at h;rw [zpVs_cons,List.getElem?_append_right (by omega),hl,show(k+1)*4+j-4=k*4+j by omega];exact ih k j x h hj
theorem zp_cells{w:World}{xs:List Zp}{b off k:Nat}{x:Zp}(hc:∀ (i:Nat) (y:Value),(zpVs xs)[i]? =some y->w.cell? ⟨b,off+i,none⟩=some y)(h:xs[k]? =some x):
 w.cell? ⟨b,off+k*4,none⟩=some (.string x.1.own)∧w.cell? ⟨b,off+k*4+1,none⟩=some (.int .i64 x.1.ty)∧w.cell? ⟨b,off+k*4+2,none⟩=some (.int .i64 x.1.tt)∧w.cell? ⟨b,off+k*4+3,none⟩=some x.2:=
 ⟨hc (k*4) _ ((zpVs_at xs k 0 x h (by decide)).trans rfl),hc (k*4+1) _ ((zpVs_at xs k 1 x h (by decide)).trans rfl),hc (k*4+2) _ ((zpVs_at xs k 2 x h (by decide)).trans rfl),hc (k*4+3) _ ((zpVs_at xs k 3 x h (by decide)).trans rfl)⟩
def ZRow(w:World)(v:Value)(ps:List Zp):Prop:=CRow w v ps.length 4 (zpVs ps)∧∀ p∈ps,Nm.SRow w p.2 p.1.da
theorem ZRow.below{w W:World}{v:Value}{ps:List Zp}(h:ZRow w v ps)(hb:Below w.heap.size w W):ZRow W v ps:=⟨h.1.below hb,fun p hp=>(h.2 p hp).below hb⟩
def zs1(s:Sz):Nat:=s.own.size+(s.da.length+ssum s.da)
def zsum:List Zp->Nat
 |[]=>0
 |x::xs=>zs1 x.1+zsum xs
theorem zsum_mem:∀ (xs:List Zp) (x:Zp),x∈xs->zs1 x.1<=zsum xs:=by
 intro xs
 induction xs with
 |nil=>intro x h;simp at h
 |cons y xs ih=>
  intro x h
  rcases List.mem_cons.1 h with rfl|h
  ·simp only [zsum];omega
  ·have:=ih x h;simp only [zsum];omega
end Go.Proofs.YtahpiciofdfipaaGreat
namespace Go.Proofs.YtahpiciofdfipaaGreat
open Go.RowKit
def ancS(s:ByteArray)(n:Int):ByteArray×Int:=
 match Nm.split s with
 |none=>(ByteArray.empty,32)
 |some ls=>if 0<=n∧n<=ls.length then(⟨(Nm.joinL (ls.drop n.toNat)).toArray⟩,0) else(ByteArray.empty,32)
end Go.Proofs.YtahpiciofdfipaaGreat
namespace Go.Proofs.YtahpiciofdfipaaGreat.Nm
open Go.RowKit
def marks:List UInt8:=[46,92,34,59,40,41,64,36]
theorem bys_mark(c:UInt8):[Value.int .u8 (c.toNat:Int)]=bys [c]:=rfl
end Go.Proofs.YtahpiciofdfipaaGreat.Nm
namespace Go.Proofs.YtahpiciofdfipaaGreat
open Go.RowKit
set_option linter.unusedVariables false
theorem Tryz.infoRRc:(Tryz.prog.info? 79).map (fun i=>(i.zero,i.size,i.bytes))=some (some (.agg #[.string ByteArray.empty,.int .i64 0,.int .i64 0,.int .i64 0,.string ByteArray.empty]),5,56):=by kernel_rfl
structure Only (p:Nat) (w w':World):Prop where
 os:w'.os=w.os
 tape:w'.tape=w.tape
 output:w'.output=w.output
 size:w.heap.size<=w'.heap.size
 block:∀ k,k<w.heap.size->k≠p->w'.heap[k]? =w.heap[k]?
end Go.Proofs.YtahpiciofdfipaaGreat
namespace Go.Proofs.YtahpiciofdfipaaGreat.Nm
open Go.RowKit
section
variable {s:ByteArray}{st:Bool}{k:Nat}{now:List UInt8}{done:List ByteArray}
end
end Go.Proofs.YtahpiciofdfipaaGreat.Nm
namespace Go.Proofs.YtahpiciofdfipaaGreat
open Go.RowKit
end Go.Proofs.YtahpiciofdfipaaGreat
namespace Go.Proofs.YtahpiciofdfipaaGreat
open Go.RowKit
set_option linter.unusedVariables false
end Go.Proofs.YtahpiciofdfipaaGreat
