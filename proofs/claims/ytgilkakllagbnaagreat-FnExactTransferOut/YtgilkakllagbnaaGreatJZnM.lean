import Derived.Test.YtgilkakllagbnaaGreatJMath
import Derived.Test.YtgilkakllagbnaaGreatJRrM
import Derived.Test.YtgilkakllagbnaaGreatRows
import Derived.WalkSpells
import Derived.WalkLawsBesides
import Derived.RegionTactic
import Derived.ChangeAlike
import Derived.BigRegion
import Derived.Test.YtgilkakllagbnaaGreatJOwnT
import Derived.Maps.Own
import Derived.DeepKeys4
import Derived.Deep.RegionHeld3
namespace Go.Proofs.YtgilkakllagbnaaGreat
open Go.RowKit
set_option linter.unusedVariables false
structure Sz where
 own:ByteArray
 ty:Int
 tt:Int
 da:List ByteArray
abbrev Zp:Type:=Sz×Value
def zpV(p:Zp):List Value:=[.string p.1.own,.int .i64 p.1.ty,.int .i64 p.1.tt,p.2]
def zpVs(ps:List Zp):List Value:=ps.flatMap zpV
theorem zpVs_cons(x:Zp)(xs:List Zp):zpVs (x::xs)=zpV x++zpVs xs:=by simp [zpVs]
theorem zpVs_app(a b:List Zp):zpVs (a++b)=zpVs a++zpVs b:=by simp [zpVs]
theorem zpVs_len(xs:List Zp):(zpVs xs).length=xs.length*4:=by
 induction xs with
 |nil=>rfl
 |cons x xs ih=>
  have:(zpV x).length=4:=rfl;rw [zpVs_cons,List.length_append,ih,List.length_cons,this];omega
theorem zpVs_at:∀ (xs:List Zp) (k j:Nat) (x:Zp),xs[k]? =some x->j<4->(zpVs xs)[k*4+j]? =(zpV x)[j]? :=by
 intro xs
 induction xs with
 |nil=>intro k j x h;simp at h
 |cons y xs ih=>
  intro k j x h hj;have hl:(zpV y).length=4:=rfl
  cases k with
  |zero=>
   simp at h;subst h
   rw [zpVs_cons,Nat.zero_mul,Nat.zero_add,List.getElem?_append_left (by omega)]
  |succ k=>
   simp at h;rw [zpVs_cons,List.getElem?_append_right (by omega),hl,show(k+1)*4+j-4=k*4+j by omega];exact ih k j x h hj
theorem zp_cells{w:World}{xs:List Zp}{b off k:Nat}{x:Zp}(hc:∀ (i:Nat) (y:Value),(zpVs xs)[i]? =some y->w.cell? ⟨b,off+i,none⟩=some y)(h:xs[k]? =some x):
 w.cell? ⟨b,off+k*4,none⟩=some (.string x.1.own)∧w.cell? ⟨b,off+k*4+1,none⟩=some (.int .i64 x.1.ty)∧w.cell? ⟨b,off+k*4+2,none⟩=some (.int .i64 x.1.tt)∧w.cell? ⟨b,off+k*4+3,none⟩=some x.2:=
 ⟨hc (k*4) _ ((zpVs_at xs k 0 x h (by decide)).trans rfl),hc (k*4+1) _ ((zpVs_at xs k 1 x h (by decide)).trans rfl),hc (k*4+2) _ ((zpVs_at xs k 2 x h (by decide)).trans rfl),hc (k*4+3) _ ((zpVs_at xs k 3 x h (by decide)).trans rfl)⟩
def ZRow(w:World)(v:Value)(ps:List Zp):Prop:=CRow w v ps.length 4 (zpVs ps)∧∀ p∈ps,Nm.SRow w p.2 p.1.da
theorem ZRow.below{w W:World}{v:Value}{ps:List Zp}(h:ZRow w v ps)(hb:Below w.heap.size w W):ZRow W v ps:=⟨h.1.below hb,fun p hp=>(h.2 p hp).below hb⟩
def zs1(s:Sz):Nat:=s.own.size+(s.da.length+ssum s.da)
def zsum:List Zp->Nat
 |[]=>0
 |x::xs=>zs1 x.1+zsum xs
theorem zsum_step:∀ (xs:List Zp) (k:Nat) (x:Zp),xs[k]? =some x->zsum (xs.take (k+1))=zsum (xs.take k)+zs1 x.1:=by
 intro xs
 induction xs with
 |nil=>intro k x h;simp at h
 |cons y xs ih=>
  intro k x h
  cases k with
  |zero=>simp at h;subst h;simp [zsum]
  |succ k=>
   simp at h;have:=ih k x h;simp only [List.take_succ_cons,zsum];omega
theorem zsum_take_le:∀ (xs:List Zp) (k:Nat),zsum (xs.take k)<=zsum xs:=by
 intro xs
 induction xs with
 |nil=>intro k;simp [zsum]
 |cons y xs ih=>
  intro k
  cases k with
  |zero=>simp [zsum]
  |succ k=>have:=ih k;simp only [List.take_succ_cons,zsum];omega
theorem zsum_mem:∀ (xs:List Zp) (x:Zp),x∈xs->zs1 x.1<=zsum xs:=by
 intro xs
 induction xs with
 |nil=>intro x h;simp at h
 |cons y xs ih=>
  intro x h
  rcases List.mem_cons.1 h with rfl|h
  ·simp only [zsum];omega
  ·have:=ih x h;simp only [zsum];omega
def szZ1(s:Sz)(L:Int):Int:=if(zs1 s:Int)<=L then L-zs1 s else -1
def szZS(ps:List Zp)(L:Int):Int:=if(ps.length:Int)+(zsum ps:Int)<=L then L-ps.length-zsum ps else -1
def szZ(a:ByteArray)(ps:List Zp)(L:Int):Int:=if(a.size:Int)+ps.length+(zsum ps:Int)<=L then L-a.size-ps.length-zsum ps else -1
def ZFit(ps:List Zp):Prop:=∀ p∈ps,p.1.own.size<=maxLen∧∀ x∈p.1.da,x.size<=maxLen
end Go.Proofs.YtgilkakllagbnaaGreat
namespace Go.Proofs.YtgilkakllagbnaaGreat
open Go.RowKit
set_option maxRecDepth 100000 in
set_option maxHeartbeats 800000 in
theorem l01Join_any(v:Value)(ls:List ByteArray)(w:World)(h:Nm.SRow w v ls)(hlen:Nm.wsum ls<=1000000000):
 Calls Tryz.prog 99 #[v] w fun e w'=>e=.returned (.string ⟨(Nm.joinL ls).toArray⟩)∧Below w.heap.size w w':=by
 obtain⟨a,cap,rfl,hcap,hmx,hnl,hc⟩:=h;have hll:=Nm.length_le_wsum ls;go_enter Tryz.func99,Tryz.ntmps99;go_wp2
 go_loopw [3,4] (fun t i wr=>∃ (k:Nat) (s:ByteArray),k<=ls.length∧i=.int .i64 k∧t=.string s∧Hid (s.data.toList=Nm.preL (ls.take k))∧Below w.heap.size w wr)
  (fun _ i _=>ls.length-(intOf i).toNat)
 case atStart=>exact⟨0,_,Nat.zero_le _,rfl,rfl,rfl,Below.refl _ _⟩
 case round=>
  obtain⟨k,s,hk,rfl,rfl,HS,hbel⟩:=hrel;have hw:=Nm.wsum_take_le ls k;have hsz:=hbel.size;have hss:s.size=Nm.wsum (ls.take k):=by rw [<- size_list,HS.out,Nm.preL_length]
  have hss':s.size<=1000000000:=by omega
  by_cases hlt:k<ls.length
  ·obtain⟨x,hx⟩:∃ x,ls[k]? =some x:=⟨_,List.getElem?_eq_getElem hlt⟩;obtain⟨b,off,rfl,hcell⟩:=hc (by intro h;rw [h] at hlt;simp at hlt);have hbk:b<wr.heap.size:=Nat.lt_of_lt_of_le (World.block_lt_of_cell? w _ (hcell k x hx)) hsz;have hcx:wr.cell? ⟨b,off+k,none⟩=some (.string x):=(hbel.cell (World.block_lt_of_cell? w _ (hcell k x hx))).trans (hcell k x hx);have HP:Hid (Nm.preL (ls.take (k+1))=Nm.preL (ls.take k)++(UInt8.ofNat x.size::x.data.toList)):=Nm.preL_step hx
   have hw1:s.size+(1+x.size)<=1000000000:=by
    have h1:=Nm.wsum_step hx;have h2:=Nm.wsum_take_le ls (k+1);omega
   have hcv:=fun n=>conv_one_drew n wr
   clear hx hcell hc hnl hss hw;go_wp2;go_region
   all_goals
    go_wp2;go_roundw
    case rel=>exact⟨k+1,_,by omega,by go_num,rfl,by show _=_;rw [HP.out,<- HS.out];simp [byte_mod],(hbel.alloc hsz _).drew⟩
    case measure=>simp [intOf];omega
  ·have hkl:k=ls.length:=by omega
   subst hkl;rw [List.take_length] at HS;clear hc hnl hw hlt hss;have hone:(ByteArray.mk #[0]).size=1:=rfl;go_wp2;go_ret;exact⟨ret_str (ba_ext (by simp [Nm.joinL,HS.out])),hbel⟩
end Go.Proofs.YtgilkakllagbnaaGreat
namespace Go.Proofs.YtgilkakllagbnaaGreat
open Go.RowKit
theorem cmpS_left{a b:ByteArray}(h:Nm.split a=none):Nm.cmpS a b=0:=by simp [Nm.cmpS,h]
theorem cmpS_right{a b:ByteArray}(h:Nm.split b=none):Nm.cmpS a b=0:=by
 cases ha:Nm.split a<;>simp [Nm.cmpS,h,ha]
theorem cmpS_some{a b:ByteArray}{xs ys:List ByteArray}(ha:Nm.split a=some xs)(hb:Nm.split b=some ys):Nm.cmpS a b=Nm.cmpLs xs ys:=by simp [Nm.cmpS,ha,hb]
end Go.Proofs.YtgilkakllagbnaaGreat
namespace Go.Proofs.YtgilkakllagbnaaGreat
open Go.RowKit
set_option maxRecDepth 100000 in
set_option maxHeartbeats 400000 in
theorem l01Order_any(a b:ByteArray)(w:World):
 Calls Tryz.prog 150 #[.string a,.string b] w fun e w'=>e=.returned (.int .i64 (Nm.ordL a.toList b.toList))∧w'=w:=by
 cases h1:Op.bytesLess a.toList b.toList with
 |true=>
  have HC:Hid (Nm.ordL a.toList b.toList= -1):=by show _=_;simp [Nm.ordL,h1]
  go_enter Tryz.func150,Tryz.ntmps150;go_wp2;go_ret;rw [HC.out]
  exact⟨rfl,rfl⟩
 |false=>
  cases h2:(a.toList==b.toList) with
  |true=>
   have HC:Hid (Nm.ordL a.toList b.toList=0):=by show _=_;rw [Nm.ordL,if_neg (by simp [h1]),if_pos (beq_iff_eq.1 h2)]
   go_enter Tryz.func150,Tryz.ntmps150;go_wp2;go_ret;rw [HC.out]
   exact⟨rfl,rfl⟩
  |false=>
   have HC:Hid (Nm.ordL a.toList b.toList=1):=by show _=_;simp [Nm.ordL,h1,beq_eq_false_iff_ne.1 h2]
   go_enter Tryz.func150,Tryz.ntmps150;go_wp2;go_ret;rw [HC.out];exact⟨rfl,rfl⟩
end Go.Proofs.YtgilkakllagbnaaGreat
namespace Go.Proofs.YtgilkakllagbnaaGreat
open Go.RowKit
set_option linter.unusedVariables false
def RB(w:World)(g:Nat)(r:Rr):Prop:=w.cell? ⟨g,0,none⟩=some (.string r.own)∧w.cell? ⟨g,1,none⟩=some (.int .i64 r.ty)∧w.cell? ⟨g,2,none⟩=some (.int .i64 r.cl)∧w.cell? ⟨g,3,none⟩=some (.int .i64 r.tt)∧w.cell? ⟨g,4,none⟩=some (.string r.da)
theorem RB.below{w W:World}{g:Nat}{r:Rr}(h:RB w g r)(hb:Below w.heap.size w W):RB W g r:=by
 obtain⟨a,b,c,d,e⟩:=h;have put:∀ {O:Nat} {z:Value},w.cell? ⟨g,O,none⟩=some z->W.cell? ⟨g,O,none⟩=some z:=fun h=>(hb.cell (World.block_lt_of_cell? w _ h)).trans h
 exact⟨put a,put b,put c,put d,put e⟩
theorem RB.new(w:World)(r:Rr)(t:Nat):RB (w.alloc (.cells #[.string r.own,.int .i64 r.ty,.int .i64 r.cl,.int .i64 r.tt,.string r.da] t)) w.heap.size r:=by
 refine⟨?_,?_,?_,?_,?_⟩<;>simp
end Go.Proofs.YtgilkakllagbnaaGreat
namespace Go.Proofs.YtgilkakllagbnaaGreat
open Go Go.Maps Go.MapKept Go.ChangeMaps
set_option linter.unusedVariables false
abbrev rvA(r:Rr):Value:=.agg #[.string r.own,.int .i64 r.ty,.int .i64 r.cl,.int .i64 r.tt,.string r.da]
def RFit(r:Rr):Prop:=r.own.size<=maxLen∧r.da.size<=maxLen∧(Lit.int .i64 r.ty).wf=true∧(Lit.int .i64 r.cl).wf=true∧(Lit.int .i64 r.tt).wf=true
def eqR(a b:Rr):Bool:=a.own.data.toList==b.own.data.toList&&a.ty==b.ty&&a.cl==b.cl&&a.tt==b.tt&&a.da.data.toList==b.da.data.toList
theorem eqR_iff(a b:Rr):eqR a b=true↔a=b:=by
 have hb:∀ x y:ByteArray,x.data.toList=y.data.toList->x=y:=by
  intro x y h;cases x;cases y
  simp at h;rw [h]
 cases a;cases b
 simp only [eqR,Bool.and_eq_true,beq_iff_eq,Rr.mk.injEq];constructor
 ·rintro⟨⟨⟨⟨h1,h2⟩,h3⟩,h4⟩,h5⟩
  exact⟨hb _ _ h1,h2,h3,h4,hb _ _ h5⟩
 ·rintro⟨rfl,rfl,rfl,rfl,rfl⟩
  exact⟨⟨⟨⟨rfl,rfl⟩,rfl⟩,rfl⟩,rfl⟩
section
variable {w:World}{r:Nat}{L:List (Rr×Nat)}{t e:TypeId}
end
end Go.Proofs.YtgilkakllagbnaaGreat
namespace Go.Proofs.YtgilkakllagbnaaGreat
open Go.RowKit
set_option linter.unusedVariables false
theorem strv_ne(s:ByteArray):(s.toList != s.toList)=false∧(s.toList==s.toList)=true:=by simp
set_option maxRecDepth 100000 in
set_option maxHeartbeats 400000 in
theorem eqRV_any(s t:ByteArray)(x y z:Int)(w:World):
 Calls Tryz.prog 37 #[.agg #[.string s,.int .i64 x,.int .i64 y,.int .i64 z,.string t],.agg #[.string s,.int .i64 x,.int .i64 y,.int .i64 z,.string t]] w fun e w'=>e=.returned (.bool true)∧Below w.heap.size w w':=by
 have e1:(x != x)=false:=by simp
 have e2:(y != y)=false:=by simp
 have e5:(z != z)=false:=by simp
 obtain⟨e3,e4⟩:=strv_ne s;obtain⟨e6,e7⟩:=strv_ne t;go_enter Tryz.func37,Tryz.ntmps37;go_wp2;go_ret;exact⟨rfl,((Below.refl _ _).alloc (Nat.le_refl _) _).alloc (by simp) _⟩
set_option maxRecDepth 100000 in
set_option maxHeartbeats 1600000 in
theorem eqRVS_any(v u:Value)(xs:List Rr)(w:World)(h:CRow w v xs.length 5 (rvVs xs))(h':CRow w u xs.length 5 (rvVs xs)):
 Calls Tryz.prog 10 #[v,u] w fun e w'=>e=.returned (.bool true)∧Below w.heap.size w w':=by
 obtain⟨_,a,cap,rfl,hcap,hmx,hc⟩:=h;obtain⟨_,a',cap',rfl,hcap',hmx',hc'⟩:=h';unfold maxLen at hmx hmx';have hne:((xs.length:Int) != (xs.length:Int))=false:=by simp
 go_enter Tryz.func10,Tryz.ntmps10;go_wp2
 go_loopw [5] (fun i wr=>∃ k:Nat,k<=xs.length∧i=.int .i64 k∧Below w.heap.size w wr) (fun i _=>xs.length-(intOf i).toNat)
 case atStart=>exact⟨0,Nat.zero_le _,rfl,Below.refl _ _⟩
 case round=>
  obtain⟨k,hk,rfl,hbel⟩:=hrel
  by_cases hlt:k<xs.length
  ·obtain⟨x,hx⟩:∃ x,xs[k]? =some x:=⟨_,List.getElem?_eq_getElem hlt⟩;obtain⟨b,off,rfl,hcell⟩:=hc (by omega);obtain⟨b',off',rfl,hcell'⟩:=hc' (by omega);have R1:=rv_cells hcell hx;have R2:=rv_cells hcell' hx;obtain⟨o,ty,cl,tt,da⟩:=x;simp only at R1 R2
   have hS:∀ W,Below w.heap.size w W->((W.cell? ⟨b,off+k*5,none⟩=some (.string o)∧W.cell? ⟨b,off+k*5+1,none⟩=some (.int .i64 ty)∧W.cell? ⟨b,off+k*5+2,none⟩=some (.int .i64 cl)∧W.cell? ⟨b,off+k*5+3,none⟩=some (.int .i64 tt)∧W.cell? ⟨b,off+k*5+4,none⟩=some (.string da))∧(W.cell? ⟨b',off'+k*5,none⟩=some (.string o)∧W.cell? ⟨b',off'+k*5+1,none⟩=some (.int .i64 ty)∧W.cell? ⟨b',off'+k*5+2,none⟩=some (.int .i64 cl)∧W.cell? ⟨b',off'+k*5+3,none⟩=some (.int .i64 tt)∧W.cell? ⟨b',off'+k*5+4,none⟩=some (.string da)))∧Below w.heap.size w W:=by
    intro W hW;have put:∀ {B O:Nat} {z:Value},w.cell? ⟨B,O,none⟩=some z->W.cell? ⟨B,O,none⟩=some z:=fun h=>(hW.cell (World.block_lt_of_cell? w _ h)).trans h
    exact⟨⟨⟨put R1.1,put R1.2.1,put R1.2.2.1,put R1.2.2.2.1,put R1.2.2.2.2⟩,⟨put R2.1,put R2.2.1,put R2.2.2.1,put R2.2.2.2.1,put R2.2.2.2.2⟩⟩,hW⟩
   have hS0:=hS wr.drew hbel.drew;have heq:=fun W (hW:Below w.heap.size w W)=>(eqRV_any o da ty cl tt W).mono (R':=fun e w'=>e=.returned (.bool true)∧Below w.heap.size w w') (by rintro e w' ⟨he,hb⟩;exact⟨he,hW.trans (hb.mono hW.size)⟩)
   have i1:(0:Int)<=(k:Int):=by omega
   have i2:(k:Int)<(xs.length:Int):=by omega
   clear hc hc' hcell hcell' hx R1 R2;go_wp2;go_region_held3 (fun W=>((W.cell? ⟨b,off+k*5,none⟩=some (.string o)∧W.cell? ⟨b,off+k*5+1,none⟩=some (.int .i64 ty)∧W.cell? ⟨b,off+k*5+2,none⟩=some (.int .i64 cl)∧W.cell? ⟨b,off+k*5+3,none⟩=some (.int .i64 tt)∧W.cell? ⟨b,off+k*5+4,none⟩=some (.string da))∧(W.cell? ⟨b',off'+k*5,none⟩=some (.string o)∧W.cell? ⟨b',off'+k*5+1,none⟩=some (.int .i64 ty)∧W.cell? ⟨b',off'+k*5+2,none⟩=some (.int .i64 cl)∧W.cell? ⟨b',off'+k*5+3,none⟩=some (.int .i64 tt)∧W.cell? ⟨b',off'+k*5+4,none⟩=some (.string da)))∧Below w.heap.size w W) (first|with_reducible assumption|with_reducible exact hS0) ((first|(go_at_call 37;refine(heq _ hS0.2).mono ?_;rintro e w' ⟨rfl,hb1⟩;have hS1:=hS _ hb1)))
   go_wp2;go_roundw
   case rel=>exact⟨k+1,by omega,by go_num,hS1.2⟩
   case measure=>simp [intOf];omega
  ·clear hc hc';have i2:(xs.length:Int)<=(k:Int):=by omega
   go_wp2;go_ret;exact⟨rfl,hbel⟩
end Go.Proofs.YtgilkakllagbnaaGreat
