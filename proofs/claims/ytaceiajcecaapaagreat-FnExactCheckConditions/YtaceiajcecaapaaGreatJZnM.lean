import Derived.Test.YtaceiajcecaapaaGreatJCRow
import Derived.Test.YtaceiajcecaapaaGreatJMath
import Derived.Laws.CopyRow
import Derived.Lib.AppendZerosOnto
import Derived.Lib.Overlaps
import Derived.RangeFuncNested
import Derived.RangeFuncBound
import Derived.RangeFuncCalls
import Derived.RangeFuncLeaves
import Derived.Shelf.Abstract
import Derived.Shelf.RegionOpen
import Derived.WalkKit
import Derived.OwnWalkIn
import Derived.TacticsInMore
import Derived.LoopNIn
import Derived.LoopIn
namespace Go.Proofs.YtaceiajcecaapaaGreat
open Go.RowKit
set_option linter.unusedVariables false
structure Sz where
 own:ByteArray
 ty:Int
 tt:Int
 da:List ByteArray
abbrev Zp:Type:=Sz×Value
def zpV(p:Zp):List Value:=[.string p.1.own,.int .i64 p.1.ty,.int .i64 p.1.tt,p.2]
def zpVs(ps:List Zp):List Value:=ps.flatMap zpV
theorem zpVs_cons(x:Zp)(xs:List Zp):zpVs (x::xs)=zpV x++zpVs xs:=by simp [zpVs]
theorem zpVs_app(a b:List Zp):zpVs (a++b)=zpVs a++zpVs b:=by simp [zpVs]
theorem zpVs_len(xs:List Zp):(zpVs xs).length=xs.length*4:=by
 induction xs with
 |nil=>rfl
 |cons x xs ih=>
  have:(zpV x).length=4:=rfl;rw [zpVs_cons,List.length_append,ih,List.length_cons,this];omega
theorem zpVs_at:∀ (xs:List Zp) (k j:Nat) (x:Zp),xs[k]? =some x->j<4->(zpVs xs)[k*4+j]? =(zpV x)[j]? :=by
 intro xs
 induction xs with
 |nil=>intro k j x h;simp at h
 |cons y xs ih=>
  intro k j x h hj;have hl:(zpV y).length=4:=rfl
  cases k with
  |zero=>
   simp at h;subst h
   rw [zpVs_cons,Nat.zero_mul,Nat.zero_add,List.getElem?_append_left (by omega)]
  |succ k=>
   simp at h;rw [zpVs_cons,List.getElem?_append_right (by omega),hl,show(k+1)*4+j-4=k*4+j by omega];exact ih k j x h hj
theorem zp_cells{w:World}{xs:List Zp}{b off k:Nat}{x:Zp}(hc:∀ (i:Nat) (y:Value),(zpVs xs)[i]? =some y->w.cell? ⟨b,off+i,none⟩=some y)(h:xs[k]? =some x):
 w.cell? ⟨b,off+k*4,none⟩=some (.string x.1.own)∧w.cell? ⟨b,off+k*4+1,none⟩=some (.int .i64 x.1.ty)∧w.cell? ⟨b,off+k*4+2,none⟩=some (.int .i64 x.1.tt)∧w.cell? ⟨b,off+k*4+3,none⟩=some x.2:=
 ⟨hc (k*4) _ ((zpVs_at xs k 0 x h (by decide)).trans rfl),hc (k*4+1) _ ((zpVs_at xs k 1 x h (by decide)).trans rfl),hc (k*4+2) _ ((zpVs_at xs k 2 x h (by decide)).trans rfl),hc (k*4+3) _ ((zpVs_at xs k 3 x h (by decide)).trans rfl)⟩
def ZRow(w:World)(v:Value)(ps:List Zp):Prop:=CRow w v ps.length 4 (zpVs ps)∧∀ p∈ps,Nm.SRow w p.2 p.1.da
theorem ZRow.below{w W:World}{v:Value}{ps:List Zp}(h:ZRow w v ps)(hb:Below w.heap.size w W):ZRow W v ps:=⟨h.1.below hb,fun p hp=>(h.2 p hp).below hb⟩
def zs1(s:Sz):Nat:=s.own.size+(s.da.length+ssum s.da)
def zsum:List Zp->Nat
 |[]=>0
 |x::xs=>zs1 x.1+zsum xs
theorem zsum_step:∀ (xs:List Zp) (k:Nat) (x:Zp),xs[k]? =some x->zsum (xs.take (k+1))=zsum (xs.take k)+zs1 x.1:=by
 intro xs
 induction xs with
 |nil=>intro k x h;simp at h
 |cons y xs ih=>
  intro k x h
  cases k with
  |zero=>simp at h;subst h;simp [zsum]
  |succ k=>
   simp at h;have:=ih k x h;simp only [List.take_succ_cons,zsum];omega
theorem zsum_take_le:∀ (xs:List Zp) (k:Nat),zsum (xs.take k)<=zsum xs:=by
 intro xs
 induction xs with
 |nil=>intro k;simp [zsum]
 |cons y xs ih=>
  intro k
  cases k with
  |zero=>simp [zsum]
  |succ k=>have:=ih k;simp only [List.take_succ_cons,zsum];omega
theorem zsum_mem:∀ (xs:List Zp) (x:Zp),x∈xs->zs1 x.1<=zsum xs:=by
 intro xs
 induction xs with
 |nil=>intro x h;simp at h
 |cons y xs ih=>
  intro x h
  rcases List.mem_cons.1 h with rfl|h
  ·simp only [zsum];omega
  ·have:=ih x h;simp only [zsum];omega
def szZ1(s:Sz)(L:Int):Int:=if(zs1 s:Int)<=L then L-zs1 s else -1
def szZS(ps:List Zp)(L:Int):Int:=if(ps.length:Int)+(zsum ps:Int)<=L then L-ps.length-zsum ps else -1
def szZ(a:ByteArray)(ps:List Zp)(L:Int):Int:=if(a.size:Int)+ps.length+(zsum ps:Int)<=L then L-a.size-ps.length-zsum ps else -1
def ZFit(ps:List Zp):Prop:=∀ p∈ps,p.1.own.size<=maxLen∧∀ x∈p.1.da,x.size<=maxLen
def rowCs(rs:List (Value×Value)):List Value:=rs.flatMap fun p=>[p.1,p.2]
theorem rowCs_at:∀ (rs:List (Value×Value)) (k j:Nat) (x:Value×Value),rs[k]? =some x->j<2->(rowCs rs)[k*2+j]? =[x.1,x.2][j]? :=by
 intro rs
 induction rs with
 |nil=>intro k j x h;simp at h
 |cons y rs ih=>
  intro k j x h hj;have e:rowCs (y::rs)=[y.1,y.2]++rowCs rs:=by simp [rowCs]
  cases k with
  |zero=>
   simp at h;subst h
   rw [e,Nat.zero_mul,Nat.zero_add,List.getElem?_append_left (by simpa using hj)]
  |succ k=>
   simp at h;rw [e,List.getElem?_append_right (by simp;omega),show(k+1)*2+j - [y.1,y.2].length=k*2+j by simp;omega];exact ih k j x h hj
def Fnd(n:Nat)(cf:Nat->Int)(k:Nat):Prop:=k<=n∧(∀ i,i<k->cf i<0)∧(∀ i,k<=i->i<n->0<=cf i)
theorem Fnd.unique{n:Nat}{cf:Nat->Int}{a b:Nat}(ha:Fnd n cf a)(hb:Fnd n cf b):a=b:=by
 obtain⟨a1,a2,a3⟩:=ha;obtain⟨b1,b2,b3⟩:=hb
 rcases Nat.lt_trichotomy a b with h|h|h
 ·have h1:=b2 a h;have h2:=a3 a (Nat.le_refl _) (by omega);omega
 ·exact h
 ·have h1:=a2 b h;have h2:=b3 b (Nat.le_refl _) (by omega);omega
theorem rowCs_take(rs:List (Value×Value))(k:Nat):rowCs (rs.take k)=(rowCs rs).take (k*2):=by
 induction rs generalizing k with
 |nil=>simp [rowCs]
 |cons x rs ih=>
  have e:∀ z zs,rowCs (z::zs)=[z.1,z.2]++rowCs zs:=by intro z zs;simp [rowCs]
  cases k with
  |zero=>simp [rowCs]
  |succ k=>
   rw [List.take_succ_cons,e,e,ih,List.take_append,List.take_of_length_le (l:=[x.1,x.2]) (i:=(k+1)*2) (by simp;omega),show(k+1)*2 - [x.1,x.2].length=k*2 by simp;omega]
theorem rowCs_drop(rs:List (Value×Value))(k:Nat):rowCs (rs.drop k)=(rowCs rs).drop (k*2):=by
 induction rs generalizing k with
 |nil=>simp [rowCs]
 |cons x rs ih=>
  have e:∀ z zs,rowCs (z::zs)=[z.1,z.2]++rowCs zs:=by intro z zs;simp [rowCs]
  cases k with
  |zero=>simp
  |succ k=>
   rw [List.drop_succ_cons,e,ih,List.drop_append,List.drop_of_length_le (l:=[x.1,x.2]) (i:=(k+1)*2) (by simp;omega),show(k+1)*2 - [x.1,x.2].length=k*2 by simp;omega,List.nil_append]
theorem rowCs_ins(rs:List (Value×Value))(k:Nat)(a b:Value):(rowCs rs).take (k*2)++[a,b]++(rowCs rs).drop (k*2)=rowCs (rs.take k++[(a,b)]++rs.drop k):=by
 rw [<- rowCs_take,<- rowCs_drop];simp [rowCs]
theorem rowCs_one{rs:List (Value×Value)}(h:∀ p∈rs,p.1.oneCell'=true∧p.2.oneCell'=true):∀ u∈rowCs rs,u.oneCell'=true:=by
 intro u hu;simp only [rowCs,List.mem_flatMap] at hu;obtain⟨p,hp,hu⟩:=hu;simp at hu
 rcases hu with rfl|rfl
 ·exact(h p hp).1
 ·exact(h p hp).2
structure Kp2 (g:Nat) (rb:Option Nat) (w w':World):Prop where
 os:w'.os=w.os
 tape:w'.tape=w.tape
 output:w'.output=w.output
 size:w.heap.size<=w'.heap.size
 block:∀ k,k<w.heap.size->k≠g->rb≠some k->w'.heap[k]? =w.heap[k]?
theorem Kp2.blk{g b:Nat}{rb:Option Nat}{w w':World}{cs:Array Value}{T:TypeId}(h:Kp2 g rb w w')(hb:Blk w b cs T)(h1:b≠g)(h2:rb≠some b):Blk w' b cs T:=(h.block b (blk_lt hb) h1 h2).trans hb
theorem isNaN64_any(a:Int)(w:World):Calls Tryz.prog 174 #[.int .i64 a] w fun e w'=>e=.returned (.bool false)∧w'=w:=by
 have e:(a != a)=false:=by simp
 go_enter Tryz.func174,Tryz.ntmps174;go_wp2;go_ret;exact⟨rfl,rfl⟩
theorem cmp64_any(a b:Int)(w:World):Calls Tryz.prog 145 #[.int .i64 a,.int .i64 b] w fun e w'=>e=.returned (.int .i64 (Nm.cmpI a b))∧w'=w:=by
 have h1:=fun x W=>isNaN64_any x W
 by_cases hlt:a<b
 ·rw [Nm.cmpI_lt hlt];go_enter Tryz.func145,Tryz.ntmps145;go_wp2_with (go_at_call 174;refine(h1 _ _).mono ?_;rintro e w' ⟨rfl,hw'⟩;obtain rfl:=hw'.symm)
  go_ret;exact⟨rfl,rfl⟩
 ·by_cases hgt:b<a
  ·rw [Nm.cmpI_gt hgt];go_enter Tryz.func145,Tryz.ntmps145;go_wp2_with (go_at_call 174;refine(h1 _ _).mono ?_;rintro e w' ⟨rfl,hw'⟩;obtain rfl:=hw'.symm)
   go_ret;exact⟨rfl,rfl⟩
  ·obtain rfl:a=b:=by omega
   rw [Nm.cmpI_eq rfl];go_enter Tryz.func145,Tryz.ntmps145;go_wp2_with (go_at_call 174;refine(h1 _ _).mono ?_;rintro e w' ⟨rfl,hw'⟩;obtain rfl:=hw'.symm)
   go_ret;exact⟨rfl,rfl⟩
end Go.Proofs.YtaceiajcecaapaaGreat
namespace Go.Proofs.YtaceiajcecaapaaGreat
open Go.RowKit
theorem splitF_of:∀ (zs:List ByteArray) (f:Nat) (r:ByteArray),r.data.toList=Nm.joinL zs->(∀ x∈zs,1<=x.size∧x.size<=63)->r.size<f->Nm.splitF f r=some zs:=by
 intro zs
 induction zs with
 |nil=>
  intro f r hd _ hf;have hsz:r.size=1:=by have:=congrArg List.length hd;simpa [Nm.joinL,Nm.preL] using this
  have hp:0<r.size:=by omega
  have h0:r[0].toNat=0:=by
   have e:=Nm.get_data hp;rw [hd] at e;have:r[0]=0:=by simpa [Nm.joinL,Nm.preL] using e.symm
   rw [this];rfl
  obtain⟨g,rfl⟩:∃ g,f=g+1:=⟨f-1,by omega⟩
  exact Nm.splitF_end g r hp h0 hsz
 |cons x t ih=>
  intro f r hd hx hf;have hx0:=hx x List.mem_cons_self
  have hlen:r.size=(1+x.size)+Nm.wsum t+1:=by
   have:=congrArg List.length hd;rw [Nm.joinL_length] at this;simp only [Nm.wsum] at this;simpa using this
  have hp:0<r.size:=by omega
  have e0:r[0]=UInt8.ofNat x.size:=by
   have e:=Nm.get_data hp;rw [hd] at e;simpa [Nm.joinL,Nm.preL] using e.symm
  have hn:r[0].toNat=x.size:=by rw [e0];simp;omega
  have hd2:r.data.toList=UInt8.ofNat x.size::(x.data.toList++Nm.joinL t):=by rw [hd];simp [Nm.joinL,Nm.preL]
  have xl:x.data.toList.length=x.size:=by simp
  have c1:r.extract 1 (x.size+1)=x:=by
   apply Nm.ba_ext;have e1:(r.extract 1 (x.size+1)).data.toList=(r.data.toList.drop 1).take x.size:=by simp
   rw [e1,hd2,List.drop_succ_cons,List.drop_zero,<- xl,List.take_left]
  have c2:(r.extract (x.size+1) r.size).data.toList=Nm.joinL t:=by
   have e2:(r.extract (x.size+1) r.size).data.toList=(r.data.toList.drop 1).drop x.size:=by
    simp only [ByteArray.data_extract,Array.toList_extract,List.drop_drop];rw [List.extract_eq_take_drop,List.take_of_length_le (by simp)];congr 1;omega
   rw [e2,hd2,List.drop_succ_cons,List.drop_zero,<- xl,List.drop_left]
  obtain⟨g,rfl⟩:∃ g,f=g+1:=⟨f-1,by omega⟩;rw [Nm.splitF_step g r hp (by omega) (by omega) (by omega),hn,c1,ih g _ c2 (fun y hy=>hx y (List.mem_cons_of_mem _ hy)) (by simp;omega)];rfl
theorem split_of_join{zs:List ByteArray}(h:∀ x∈zs,1<=x.size∧x.size<=63)(hw:Nm.wsum zs<=254):Nm.split ⟨(Nm.joinL zs).toArray⟩=some zs:=by
 have hsz:(ByteArray.mk (Nm.joinL zs).toArray).size=Nm.wsum zs+1:=by
  show(Nm.joinL zs).toArray.size=_
  rw [List.size_toArray,Nm.joinL_length]
 rw [Nm.split_short _ (by omega)];exact splitF_of zs 256 _ (by simp) h (by omega)
theorem ordS_zero(x y:ByteArray):Nm.ordS x y=0↔Nm.small x=Nm.small y:=by
 rw [Nm.ordS,ordL_zero];constructor
 ·intro h;apply Nm.ba_ext;rw [Nm.small_data,Nm.small_data,h]
 ·intro h;rw [<- Nm.small_data,<- Nm.small_data,h]
theorem cmpRev_zero:∀ (a b:List ByteArray),Nm.cmpRev a b=0↔a.map Nm.small=b.map Nm.small:=by
 intro a
 induction a with
 |nil=>
  intro b
  cases b with
  |nil=>simp [Nm.cmpRev]
  |cons y b=>simp [Nm.cmpRev]
 |cons x a ih=>
  intro b
  cases b with
  |nil=>simp [Nm.cmpRev]
  |cons y b=>
   rw [Nm.cmpRev]
   by_cases h:Nm.ordS x y=0
   ·rw [if_pos h,ih b];simp [(ordS_zero x y).1 h]
   ·rw [if_neg h];have hne:Nm.small x≠Nm.small y:=fun e=>h ((ordS_zero x y).2 e)
    simp [h,hne]
theorem cmpLs_zero(a b:List ByteArray):Nm.cmpLs a b=0↔a.map Nm.small=b.map Nm.small:=by
 rw [Nm.cmpLs,cmpRev_zero,List.map_reverse,List.map_reverse];constructor
 ·intro h;exact List.reverse_inj.1 h
 ·intro h;rw [h]
theorem smallL_joinL{zs:List ByteArray}(h:∀ x∈zs,1<=x.size∧x.size<=63):Nm.smallL (Nm.joinL zs)=Nm.joinL (zs.map Nm.small):=by
 simp only [Nm.joinL];rw [Nm.preL_small zs (fun x hx=>(h x hx).2)];simp [Nm.smallL,Nm.low]
theorem join_inj{a b:List ByteArray}(ha:∀ x∈a,1<=x.size∧x.size<=63)(hb:∀ x∈b,1<=x.size∧x.size<=63)(wa:Nm.wsum a<=254)(wb:Nm.wsum b<=254)(h:Nm.joinL a=Nm.joinL b):a=b:=by
 have h1:=split_of_join ha wa;have h2:=split_of_join hb wb;rw [h] at h1;rw [h1] at h2;exact Option.some.inj h2
theorem small_ok{zs:List ByteArray}(h:∀ x∈zs,1<=x.size∧x.size<=63):∀ x∈zs.map Nm.small,1<=x.size∧x.size<=63:=by
 intro x hx;obtain⟨y,hy,rfl⟩:=List.mem_map.1 hx;rw [Nm.small_size];exact h y hy
def underB(xs ys:List ByteArray):Bool:=decide (ys.length<=xs.length)&&decide (Nm.cmpLs (xs.drop (xs.length-ys.length)) ys=0)
theorem ord_join{zs ys:List ByteArray}{b:ByteArray}(hz:∀ x∈zs,1<=x.size∧x.size<=63)(wz:Nm.wsum zs<=254)(hb:Nm.split b=some ys):
 Nm.ordS ⟨(Nm.joinL zs).toArray⟩ b=0↔Nm.cmpLs zs ys=0:=by
 obtain⟨hj,hy⟩:=Nm.split_join hb;obtain⟨wy,wy2⟩:=Nm.split_size hb;rw [Nm.ordS,ordL_zero,cmpLs_zero];simp only
 rw [<- hj,smallL_joinL hz,smallL_joinL hy];constructor
 ·intro h;exact join_inj (small_ok hz) (small_ok hy) (by rw [Nm.wsum_small];omega) (by rw [Nm.wsum_small];omega) h
 ·intro h;rw [h]
def isUnderS(a b:ByteArray):Bool:=
 match Nm.split a,Nm.split b with
 |some xs,some ys=>underB xs ys
 |_,_=>false
theorem isUnder_left{a b:ByteArray}(h:Nm.split a=none):isUnderS a b=false:=by simp [isUnderS,h]
theorem isUnder_right{a b:ByteArray}(h:Nm.split b=none):isUnderS a b=false:=by
 cases ha:Nm.split a<;>simp [isUnderS,h,ha]
theorem isUnder_some{a b:ByteArray}{xs ys:List ByteArray}(ha:Nm.split a=some xs)(hb:Nm.split b=some ys):isUnderS a b=underB xs ys:=by simp [isUnderS,ha,hb]
theorem drop_ok{xs:List ByteArray}(h:∀ x∈xs,1<=x.size∧x.size<=63)(k:Nat):∀ x∈xs.drop k,1<=x.size∧x.size<=63:=
 fun x hx=>h x (List.mem_of_mem_drop hx)
theorem under_same{xs ys:List ByteArray}{a b:ByteArray}(ha:Nm.split a=some xs)(hb:Nm.split b=some ys)(hl:ys.length<=xs.length):
 sameS ⟨(Nm.joinL (xs.drop (xs.length-ys.length))).toArray⟩ b=underB xs ys:=by
 have hx:=(Nm.split_join ha).2;have hw:=Nm.split_size ha;have hd:=Nm.wsum_drop_le xs (xs.length-ys.length);have hs:=split_of_join (drop_ok hx (xs.length-ys.length)) (by omega);rw [same_some hs hb,underB];simp only [hl,decide_true,Bool.true_and];rw [Bool.eq_iff_iff];simp only [decide_eq_true_eq];exact ord_join (drop_ok hx _) (by omega) hb
end Go.Proofs.YtaceiajcecaapaaGreat
namespace Go.Proofs.YtaceiajcecaapaaGreat
open Go.RowKit
theorem cmpI_anti(a b:Int):Nm.cmpI b a= -Nm.cmpI a b:=by
 unfold Nm.cmpI
 split<;>split<;>first|omega|(split<;>omega)|skip
 all_goals simp_all<;>omega
theorem cmpI_le{a b:Int}(h:a≠b):Nm.cmpI a b<=0↔a<b:=by
 by_cases h1:a<b
 ·rw [Nm.cmpI_lt h1];simp [h1]
 ·rw [Nm.cmpI_gt (by omega)];simp [h1]
theorem ordL_anti:∀ (a b:List UInt8),Nm.ordL b a= -Nm.ordL a b
 |[],[]=>rfl
 |[],y::b=>rfl
 |x::a,[]=>rfl
 |x::a,y::b=>by
  by_cases h:x=y
  ·subst h;rw [Nm.ordL_same,Nm.ordL_same];exact ordL_anti a b
  ·rw [Nm.ordL_ne a b h,Nm.ordL_ne b a (Ne.symm h)];exact cmpI_anti _ _
theorem ordL_range(a b:List UInt8): -1<=Nm.ordL a b∧Nm.ordL a b<=1:=by
 unfold Nm.ordL;split
 ·omega
 ·split<;>omega
theorem ordL_trans:∀ (a b c:List UInt8),Nm.ordL a b<=0->Nm.ordL b c<=0->Nm.ordL a c<=0
 |[],b,[],_,_=>by rw [Nm.ordL_nil];decide
 |[],b,z::c,_,_=>by rw [Nm.ordL_left];decide
 |x::a,[],c,h,_=>by rw [Nm.ordL_right] at h;omega
 |x::a,y::b,[],_,h=>by rw [Nm.ordL_right] at h;omega
 |x::a,y::b,z::c,h1,h2=>by
  have inj:∀ {p q:UInt8},p≠q->(p.toNat:Int)≠(q.toNat:Int):=fun h e=>h (UInt8.toNat_inj.1 (by omega))
  by_cases hxy:x=y
  ·subst hxy
   by_cases hyz:x=z
   ·subst hyz;rw [Nm.ordL_same] at h1 h2 ⊢;exact ordL_trans a b c h1 h2
   ·rw [Nm.ordL_ne _ _ hyz] at h2 ⊢;exact h2
  ·rw [Nm.ordL_ne _ _ hxy,cmpI_le (inj hxy)] at h1
   by_cases hyz:y=z
   ·subst hyz;rw [Nm.ordL_ne _ _ hxy,cmpI_le (inj hxy)];exact h1
   ·rw [Nm.ordL_ne _ _ hyz,cmpI_le (inj hyz)] at h2;have hxz:x≠z:=fun e=>by subst e;omega
    rw [Nm.ordL_ne _ _ hxz,cmpI_le (inj hxz)];omega
theorem ordS_anti(x y:ByteArray):Nm.ordS y x= -Nm.ordS x y:=ordL_anti _ _
theorem ordS_swap{x y:ByteArray}(h:Nm.ordS x y=0)(z:ByteArray):Nm.ordS x z=Nm.ordS y z∧Nm.ordS z x=Nm.ordS z y:=by
 have e:=(ordL_zero _ _).1 h;unfold Nm.ordS;rw [e];exact⟨rfl,rfl⟩
theorem cmpRev_anti:∀ (a b:List ByteArray),Nm.cmpRev b a= -Nm.cmpRev a b
 |[],[]=>rfl
 |[],y::b=>rfl
 |x::a,[]=>rfl
 |x::a,y::b=>by
  rw [Nm.cmpRev,Nm.cmpRev,ordS_anti x y]
  by_cases h:Nm.ordS x y=0
  ·rw [if_pos h,if_pos (by omega)];exact cmpRev_anti a b
  ·rw [if_neg h,if_neg (by omega)]
theorem cmpRev_range:∀ (a b:List ByteArray),-1<=Nm.cmpRev a b∧Nm.cmpRev a b<=1
 |[],[]=>by rw [Nm.cmpRev];decide
 |[],y::b=>by rw [Nm.cmpRev];decide
 |x::a,[]=>by rw [Nm.cmpRev];decide
 |x::a,y::b=>by
  rw [Nm.cmpRev];split
  ·exact cmpRev_range a b
  ·exact ordL_range _ _
theorem cmpRev_trans:∀ (a b c:List ByteArray),Nm.cmpRev a b<=0->Nm.cmpRev b c<=0->Nm.cmpRev a c<=0
 |[],b,[],_,_=>by rw [Nm.cmpRev];decide
 |[],b,z::c,_,_=>by rw [Nm.cmpRev];decide
 |x::a,[],c,h,_=>by rw [Nm.cmpRev] at h;omega
 |x::a,y::b,[],_,h=>by rw [Nm.cmpRev] at h;omega
 |x::a,y::b,z::c,h1,h2=>by
  rw [Nm.cmpRev] at h1 h2 ⊢
  by_cases hxy:Nm.ordS x y=0
  ·rw [if_pos hxy] at h1;rw [(ordS_swap hxy z).1]
   by_cases hyz:Nm.ordS y z=0
   ·rw [if_pos hyz] at h2 ⊢;exact cmpRev_trans a b c h1 h2
   ·rw [if_neg hyz] at h2 ⊢;exact h2
  ·rw [if_neg hxy] at h1
   by_cases hyz:Nm.ordS y z=0
   ·rw [<- (ordS_swap hyz x).2,if_neg hxy];exact h1
   ·rw [if_neg hyz] at h2;have h3:Nm.ordS x z<=0:=ordL_trans _ _ _ h1 h2
    have hxz:Nm.ordS x z≠0:=by
     intro e;have e1:=(ordS_swap e y).1;have e2:=ordS_anti y z;omega
    rw [if_neg hxz];exact h3
theorem cmpLs_anti(a b:List ByteArray):Nm.cmpLs b a= -Nm.cmpLs a b:=cmpRev_anti _ _
theorem cmpLs_range(a b:List ByteArray): -1<=Nm.cmpLs a b∧Nm.cmpLs a b<=1:=cmpRev_range _ _
theorem cmpLs_trans{a b c:List ByteArray}(h1:Nm.cmpLs a b<=0)(h2:Nm.cmpLs b c<=0):Nm.cmpLs a c<=0:=cmpRev_trans _ _ _ h1 h2
theorem cmpLs_trans'{a b c:List ByteArray}(h1:0<=Nm.cmpLs a b)(h2:0<=Nm.cmpLs b c):0<=Nm.cmpLs a c:=by
 have e1:=cmpLs_anti a b;have e2:=cmpLs_anti b c;have e3:=cmpLs_anti a c;have:=cmpLs_trans (a:=c) (b:=b) (c:=a) (by omega) (by omega);omega
theorem same_cmp{a b:ByteArray}{xs ys:List ByteArray}(ha:Nm.split a=some xs)(hb:Nm.split b=some ys):sameS a b=decide (Nm.cmpLs xs ys=0):=by
 have ja:=Nm.split_join ha;have wa:=Nm.split_size ha;have h1:=ord_join ja.2 (by omega) hb
 have ea:(⟨(Nm.joinL xs).toArray⟩:ByteArray)=a:=by
  apply ByteArray.ext;apply Array.toList_inj.1;simpa using ja.1
 rw [same_some ha hb];rw [ea] at h1;simp only [h1]
end Go.Proofs.YtaceiajcecaapaaGreat
namespace Go.Proofs.YtaceiajcecaapaaGreat
open Go.RowKit
set_option linter.unusedVariables false
theorem own_sl{w:World}{B e s n:Nat}{v:Value}{xs:List Value}(h:w.ownsRow B e s v n xs):∃ a cap,v=.slice a n cap:=by
 rcases h.2 with⟨rfl,rfl⟩|⟨g,cap,cur,rfl,_⟩
 ·exact⟨_,_,rfl⟩
 ·exact⟨_,_,rfl⟩
theorem own_far{W:World}{B e s n g i:Nat}{v y:Value}{xs:List Value}(h:W.ownsRow B e s v n xs)(hg:v.ownBlock≠some g):(W.setCell ⟨g,i,none⟩ y).ownsRow B e s v n xs:=by
 refine⟨h.1,?_⟩
 rcases h.2 with h0|⟨g',cap,cur,rfl,hb,hh,r⟩
 ·exact .inl h0
 ·refine .inr ⟨g',cap,cur,rfl,hb,?_,r⟩;rw [heap_setCell_other W ⟨g,i,none⟩ g' _ (fun e=>hg (by simp [Value.ownBlock,e]))];exact hh
theorem own_far_lt{W:World}{B e s n g i:Nat}{v y:Value}{xs:List Value}(h:W.ownsRow B e s v n xs)(hg:g<B):(W.setCell ⟨g,i,none⟩ y).ownsRow B e s v n xs:=by
 refine own_far h (fun e=>?_);have:=(h.lt g e).1;omega
theorem own_ne{W:World}{B e s n B' e' s' m g cap:Nat}{v:Value}{xs ys:List Value}(h:W.ownsRow B e s v n xs)(h':W.ownsRow B' e' s' (.slice (some ⟨g,0,none⟩) m cap) m ys)(hne:e≠e'):v.ownBlock≠some g:=by
 intro he
 rcases h'.2 with⟨h0,_⟩|⟨g',cap',cur',e1,_,hh',_⟩
 ·cases h0
 ·cases e1
  rcases h.2 with⟨rfl,_⟩|⟨g2,cap2,cur2,rfl,_,hh,_⟩
  ·cases he
  ·simp only [Value.ownBlock,Option.some.injEq] at he;subst he;rw [hh] at hh';simp only [Option.some.injEq,Obj.cells.injEq] at hh';exact hne hh'.2.1
structure GSe where
 blk:Nat
 hd:Nat
 rv:Value
 ty:Int
 tt:Int
 fi:Nat
 da:List (ByteArray×ByteArray)
structure GOw where
 blk:Nat
 hd:Nat
 rv:Value
 lv:Value
 lab:List ByteArray
 nm:ByteArray
 ss:List GSe
def ptr(b:Nat):Value:=.pointer (some ⟨b,0,none⟩)
def daRs(l:List (ByteArray×ByteArray)):List (Value×Value):=l.map fun p=>(.string p.1,.string p.2)
def seRs(l:List GSe):List (Value×Value):=l.map fun s=>(.int .i64 s.ty,ptr s.blk)
def owRs(l:List GOw):List (Value×Value):=l.map fun o=>(o.lv,ptr o.blk)
def cmpSv:Value:=.func (.func 149) #[] #[]
def cmpIv:Value:=.func (.func 145) #[] #[]
def cmpLv:Value:=.func (.func 104) #[] #[]
def fpS(s:GSe):List Nat:=s.blk::s.hd::s.rv.ownBlock.toList
def fpO(o:GOw):List Nat:=o.blk::o.hd::(o.rv.ownBlock.toList++o.ss.flatMap fpS)
def fpT(th:Nat)(rv:Value)(os:List GOw):List Nat:=th::(rv.ownBlock.toList++os.flatMap fpO)
structure SeAt (w:World) (B:Nat) (s:GSe):Prop where
 node:Blk w s.blk #[.int .i64 s.tt,.int .i64 (s.fi:Int),ptr s.hd] 154
 head:Blk w s.hd #[cmpSv,s.rv] 233
 rows:w.ownsRow B 236 2 s.rv (daRs s.da).length (rowCs (daRs s.da))
structure OwAt (w:World) (B:Nat) (o:GOw):Prop where
 node:Blk w o.blk #[.string o.nm,o.lv,ptr o.hd] 115
 head:Blk w o.hd #[cmpIv,o.rv] 170
 rows:w.ownsRow B 172 2 o.rv (seRs o.ss).length (rowCs (seRs o.ss))
 sets:∀ s∈o.ss,SeAt w B s
structure TrAt (w:World) (B th:Nat) (rv:Value) (os:List GOw):Prop where
 head:Blk w th #[cmpLv,rv] 163
 rows:w.ownsRow B 165 2 rv (owRs os).length (rowCs (owRs os))
 owners:∀ o∈os,OwAt w B o
 nodup:(fpT th rv os).Nodup
theorem blk_keep{w w':World}{b:Nat}{cs:Array Value}{T:TypeId}(h:Blk w b cs T)(he:w'.heap[b]? =w.heap[b]?):Blk w' b cs T:=he.trans h
theorem own_keep{w w':World}{B e s n:Nat}{v:Value}{xs:List Value}(h:w.ownsRow B e s v n xs)(he:∀ b∈v.ownBlock.toList,w'.heap[b]? =w.heap[b]?):w'.ownsRow B e s v n xs:=by
 refine⟨h.1,?_⟩
 rcases h.2 with h0|⟨q,cap,cur,rfl,hb,hh,r⟩
 ·exact .inl h0
 ·exact .inr ⟨q,cap,cur,rfl,hb,(he q (by simp [Value.ownBlock])).trans hh,r⟩
theorem SeAt.keep{w w':World}{B:Nat}{s:GSe}(h:SeAt w B s)(he:∀ b∈fpS s,w'.heap[b]? =w.heap[b]?):SeAt w' B s:=
 ⟨blk_keep h.node (he _ (by simp [fpS])),blk_keep h.head (he _ (by simp [fpS])),own_keep h.rows (fun b hb=>he b (by simp only [fpS,List.mem_cons];exact .inr (.inr hb)))⟩
theorem OwAt.keep{w w':World}{B:Nat}{o:GOw}(h:OwAt w B o)(he:∀ b∈fpO o,w'.heap[b]? =w.heap[b]?):OwAt w' B o:=
 ⟨blk_keep h.node (he _ (by simp [fpO])),blk_keep h.head (he _ (by simp [fpO])),own_keep h.rows (fun b hb=>he b (by simp only [fpO,List.mem_cons,List.mem_append];exact .inr (.inr (.inl hb)))),
  fun s hs=>(h.sets s hs).keep (fun b hb=>he b (by simp only [fpO,List.mem_cons,List.mem_append,List.mem_flatMap];exact .inr (.inr (.inr ⟨s,hs,hb⟩))))⟩
theorem TrAt.keep{w w':World}{B th:Nat}{rv:Value}{os:List GOw}(h:TrAt w B th rv os)(he:∀ b∈fpT th rv os,w'.heap[b]? =w.heap[b]?):TrAt w' B th rv os:=
 ⟨blk_keep h.head (he _ (by simp [fpT])),own_keep h.rows (fun b hb=>he b (by simp only [fpT,List.mem_cons,List.mem_append];exact .inr (.inl hb))),
  fun o ho=>(h.owners o ho).keep (fun b hb=>he b (by simp only [fpT,List.mem_cons,List.mem_append,List.mem_flatMap];exact .inr (.inr ⟨o,ho,hb⟩))),h.nodup⟩
theorem own_lt{w:World}{B e s n:Nat}{v:Value}{xs:List Value}(h:w.ownsRow B e s v n xs):∀ b∈v.ownBlock.toList,b<w.heap.size:=by
 intro b hb
 cases hv:v.ownBlock with
 |none=>rw [hv] at hb;simp at hb
 |some q=>
  rw [hv] at hb;simp at hb;subst hb;exact(h.lt _ hv).2
theorem SeAt.lt{w:World}{B:Nat}{s:GSe}(h:SeAt w B s):∀ b∈fpS s,b<w.heap.size:=by
 intro b hb;simp only [fpS,List.mem_cons] at hb
 rcases hb with rfl|rfl|hb
 ·exact blk_lt h.node
 ·exact blk_lt h.head
 ·exact own_lt h.rows b hb
theorem OwAt.lt{w:World}{B:Nat}{o:GOw}(h:OwAt w B o):∀ b∈fpO o,b<w.heap.size:=by
 intro b hb;simp only [fpO,List.mem_cons,List.mem_append,List.mem_flatMap] at hb
 rcases hb with rfl|rfl|hb|⟨s,hs,hb⟩
 ·exact blk_lt h.node
 ·exact blk_lt h.head
 ·exact own_lt h.rows b hb
 ·exact(h.sets s hs).lt b hb
theorem TrAt.lt{w:World}{B th:Nat}{rv:Value}{os:List GOw}(h:TrAt w B th rv os):∀ b∈fpT th rv os,b<w.heap.size:=by
 intro b hb;simp only [fpT,List.mem_cons,List.mem_append,List.mem_flatMap] at hb
 rcases hb with rfl|hb|⟨o,ho,hb⟩
 ·exact blk_lt h.head
 ·exact own_lt h.rows b hb
 ·exact(h.owners o ho).lt b hb
theorem TrAt.below{w w':World}{B th:Nat}{rv:Value}{os:List GOw}(h:TrAt w B th rv os)(hb:Below w.heap.size w w'):TrAt w' B th rv os:=
 h.keep (fun b hm=>hb.block b (h.lt b hm))
structure Outs (fp:List Nat) (w w':World):Prop where
 os:w'.os=w.os
 tape:w'.tape=w.tape
 output:w'.output=w.output
 size:w.heap.size<=w'.heap.size
 block:∀ k,k<w.heap.size->k∉fp->w'.heap[k]? =w.heap[k]?
theorem Outs.below{fp:List Nat}{w w':World}(h:Below w.heap.size w w'):Outs fp w w':=⟨h.os,h.tape,h.output,h.size,fun k hk _=>h.block k hk⟩
theorem Outs.trans{fp fp':List Nat}{w w1 w2:World}(h:Outs fp w w1)(h2:Outs fp' w1 w2)(hs:∀ k∈fp',k∈fp∨w.heap.size<=k):Outs fp w w2:=
 ⟨h2.os.trans h.os,h2.tape.trans h.tape,h2.output.trans h.output,Nat.le_trans h.size h2.size,fun k hk hn=>by
  rw [h2.block k (Nat.lt_of_lt_of_le hk h.size) (fun hm=>by rcases hs k hm with h1|h1;exact hn h1;omega)]
  exact h.block k hk hn⟩
theorem Outs.wide{fp fp':List Nat}{w w':World}(h:Outs fp w w')(hs:∀ k∈fp,k∈fp'):Outs fp' w w':=⟨h.os,h.tape,h.output,h.size,fun k hk hn=>h.block k hk (fun hm=>hn (hs k hm))⟩
theorem run_copy_rowK{P:Program}(w:World)(dT sT ty elem:TypeId)(g o dLen dCap:Nat)(a:Addr)(sLen sCap:Nat)(cur:Array Value)(t:TypeId)(cs:List Value)(sz:Nat)
 (hu:P.underlying dT=some (.slice elem)) (hs:(P.info? elem).map (·.size)=some sz)
 (hg:w.heap[g]? =some (.cells cur t (0,0))) (hn:cs.length=Nat.min sLen dLen*sz)
 (hsrc:∀ j v,cs[j]? =some v->w.cell? (a.add j)=some v) (hfit:o+cs.length<=cur.size) (h1:∀ v∈cs,v.oneCell'=true):
 (Builtin.copy_ #[dT,sT] ty #[.slice (some ⟨g,o,none⟩) dLen dCap,.slice (some a) sLen sCap]).run P w=
  .ok (goInt (Nat.min sLen dLen)) (w.setRow g (cur.toList.take o++cs++cur.toList.drop (o+cs.length)).toArray):=by
 have hl:=run_loadCells_list (P:=P) w a cs hsrc;have hst:=run_storeCells_at P g o t cs 0 cur w hg (by simpa using hfit) h1
 cases hq:P.info? elem with
 |none=>simp [hq] at hs
 |some i=>
  have hi:i.size=sz:=by simpa [hq] using hs
  simp [Builtin.copy_,run_underlying hu,Builtin.lenOf,Builtin.firstCells,sizeOf,typeInfo,hq,hi,<- hn,hl,hst]
theorem wpList_app_ranT{P:Program}{ops:Array Oper}{rest:List Oper}{o:Oper}{a:Act}{w:World}{Q:Exit->Act->World->Prop}(hgd:o.guard=none)(s x:Operand)(t t2:TypeId)
 (ho:o.op=.call {callee:=.builtin .append,args:=#[s,x],argTypes:=#[t,t2]}) (v u v':Value) (w':World) (hs:a.eval s=v) (hx:a.eval x=u)
 (hr:(Builtin.append_ #[t,t2] o.type #[v,u]).run P w=.ok v' w') (h:wpList P ops Q rest (a.put o.dst v') w'):wpList P ops Q (o::rest) a w:=
 wpList_plain hgd fun _ hK=>by
  unfold Oper.wp execOp;simp only [ho,resolve,invoke,builtin,Sem.run_bind,Sem.run_pure,Result.andThen_ok,List.map_toArray,List.map_cons,List.map_nil,hs,hx,hr];exact hK _ _ h
theorem setRow_blk{w:World}{g:Nat}{cur:Array Value}{t:TypeId}(hg:Blk w g cur t)(cs:Array Value):Blk (w.setRow g cs) g cs t:=by
 unfold Blk at*;have hlt:=(Array.getElem?_eq_some_iff.1 hg).1;have he:=(Array.getElem?_eq_some_iff.1 hg).2;simp [World.setRow,Array.getElem?_modify,hg]
theorem setRow_size(w:World)(g:Nat)(cs:Array Value):(w.setRow g cs).heap.size=w.heap.size:=by simp [World.setRow]
theorem setRow_grown(w:World)(g:Nat)(cs:Array Value):w.grownBy (w.setRow g cs) (some g):=
 ⟨rfl,rfl,rfl,by rw [setRow_size];exact Nat.le_refl _,fun k hk hne=>setRow_other w g k cs (fun e=>hne (by rw [e]))⟩
theorem own_of_blk{w:World}{B e s g n cap:Nat}{cur:Array Value}{xs:List Value}(hg:Blk w g cur e)(hB:B<=g)(hn:n<=cap)(hm:cap<=maxLen)(hs:cur.size=cap*s)(ht:cur.toList.take (n*s)=xs):w.ownsRow B e s (.slice (some ⟨g,0,none⟩) n cap) n xs:=by
 refine⟨?_,.inr ⟨g,cap,cur,rfl,hB,hg,hn,hm,hs,ht⟩⟩;rw [<- ht,List.length_take,Array.length_toList,hs,Nat.min_eq_left (Nat.mul_le_mul_right _ hn)]
theorem ins_room{cur xs:List Value}{i n cap:Nat}(x0 x1:Value)(hcl:cur.length=cap*2)(ht:cur.take (n*2)=xs)(hi:i<n)(hr:n+1<=cap):
 ∀ c1,c1=cur.take ((i+1)*2)++xs.drop (i*2)++cur.drop ((i+1)*2+(xs.drop (i*2)).length)->c1.length=cap*2∧∀ c2,c2=c1.take (i*2)++[x0,x1]++c1.drop (i*2+[x0,x1].length)->c2.length=cap*2∧c2.take ((n+1)*2)=xs.take (i*2)++[x0,x1]++xs.drop (i*2):=by
 intro c1 h1;have hxl:xs.length=n*2:=by rw [<- ht,List.length_take];omega
 have hdl:(xs.drop (i*2)).length=(n-i)*2:=by rw [List.length_drop,hxl];omega
 have htl:(cur.take ((i+1)*2)).length=(i+1)*2:=by rw [List.length_take];omega
 have hl1:c1.length=cap*2:=by rw [h1];simp only [List.length_append,htl,hdl,List.length_drop];omega
 refine⟨hl1,fun c2 h2=>?_⟩
 have e1:c1.take (i*2)=xs.take (i*2):=by
  rw [h1,List.append_assoc,List.take_append,htl,List.take_take,show i*2-(i+1)*2=0 by omega,List.take_zero,List.append_nil,<- ht,List.take_take];congr 1;omega
 have e2:c1.drop (i*2+[x0,x1].length)=xs.drop (i*2)++cur.drop ((i+1)*2+(xs.drop (i*2)).length):=by
  rw [show i*2+[x0,x1].length=(i+1)*2 by simp;omega,h1,List.append_assoc,List.drop_append,htl,Nat.sub_self,List.drop_zero,List.drop_of_length_le (Nat.le_of_eq htl),List.nil_append]
 have hxt:(xs.take (i*2)).length=i*2:=by rw [List.length_take,hxl];omega
 rw [e1,e2] at h2;have hl3:(xs.take (i*2)++[x0,x1]++xs.drop (i*2)).length=(n+1)*2:=by simp only [List.length_append,hxt,hdl,List.length_cons,List.length_nil];omega
 have e3:c2=(xs.take (i*2)++[x0,x1]++xs.drop (i*2))++cur.drop ((i+1)*2+(xs.drop (i*2)).length):=by rw [h2];simp only [List.append_assoc]
 refine⟨?_,?_⟩
 ·rw [e3,List.length_append,hl3,List.length_drop,hcl,hdl];omega
 ·rw [e3,<- hl3,List.take_left]
theorem ins_grow{xs z:List Value}{i n cap:Nat}(x0 x1:Value)(hxl:xs.length=n*2)(hi:i<n)(hr:n+1<=cap)(hz:(xs.take (i*2)++z).length=cap*2):
 ∀ c1,c1=(xs.take (i*2)++z).take (i*2)++[x0,x1]++(xs.take (i*2)++z).drop (i*2+[x0,x1].length)->c1.length=cap*2∧∀ c2,c2=c1.take ((i+1)*2)++xs.drop (i*2)++c1.drop ((i+1)*2+(xs.drop (i*2)).length)->c2.length=cap*2∧c2.take ((n+1)*2)=xs.take (i*2)++[x0,x1]++xs.drop (i*2):=by
 intro c1 h1;have hxt:(xs.take (i*2)).length=i*2:=by rw [List.length_take,hxl];omega
 have hdl:(xs.drop (i*2)).length=(n-i)*2:=by rw [List.length_drop,hxl];omega
 have e1:(xs.take (i*2)++z).take (i*2)=xs.take (i*2):=by
  have:=List.take_left (l₁:=xs.take (i*2)) (l₂:=z);rw [hxt] at this;exact this
 rw [e1] at h1
 have hl1:c1.length=cap*2:=by
  rw [h1];simp only [List.length_append,hxt,List.length_drop,List.length_cons,List.length_nil] at hz ⊢;omega
 refine⟨hl1,fun c2 h2=>?_⟩;have hl2:(xs.take (i*2)++[x0,x1]).length=(i+1)*2:=by simp only [List.length_append,hxt,List.length_cons,List.length_nil];omega
 have e2:c1.take ((i+1)*2)=xs.take (i*2)++[x0,x1]:=by rw [h1,<- hl2,List.take_left]
 rw [e2] at h2;have hl3:(xs.take (i*2)++[x0,x1]++xs.drop (i*2)).length=(n+1)*2:=by rw [List.length_append,hl2,hdl];omega
 refine⟨?_,?_⟩
 ·rw [h2,List.length_append,hl3,List.length_drop,hl1,hdl];omega
 ·rw [h2,<- hl3,List.take_left]
end Go.Proofs.YtaceiajcecaapaaGreat
namespace Go.Proofs.YtaceiajcecaapaaGreat
open Go.RowKit Go.Shelf
set_option linter.unusedVariables false
attribute [local go_sem] Oper.semAt_some
set_option maxRecDepth 100000 in
set_option maxHeartbeats 2000000 in
theorem all1I_in{α:Type}(kf:α->Int)(vf:α->Addr)(F:Fence)(n:Nat)(h7:F.fn 120)(hro:F.round=none)(hn:1<=n)(l tb g n₀ b off cap:Nat)(cmpv:Value)(zs:List α)(hl:zs.length<=1000000)(hcap:zs.length<=cap∧cap<=maxLen)(hb:b<n₀)(J Jx:List α->World->Prop)
 (hJ:∀ s W W',J s W->W.grownBy W' none->J s W')
 (hY:∀ pre x W,J pre W->pre.length<zs.length->YieldAt F (n-1) Tryz.prog l #[(Value.int .i64 (kf x)),(Value.pointer (some (vf x)))] W fun e W'=>
  (e=.returned (.bool true)∧J (pre++[x]) W'∧Below n₀ W W')∨(e=.returned (.bool false)∧Jx (pre++[x]) W'))
 (W:World) (kb:W.cell? ⟨tb,0,none⟩=some (.pointer (some ⟨g,0,none⟩))) (kg:W.cell? ⟨g,1,none⟩=some (.slice (some ⟨b,off,none⟩) zs.length cap))
 (hc:∀ (i:Nat) (x:α),zs[i]? =some x->W.cell? ⟨b,off+i*2,none⟩=some (Value.int .i64 (kf x))∧W.cell? ⟨b,off+i*2+1,none⟩=some (Value.pointer (some (vf x)))) (hn₀:n₀<=W.heap.size) (h0:J [] W):
 CallsIn F n Tryz.prog 120 #[.func (.yield l) #[] #[],.pointer (some ⟨tb,0,none⟩)] W fun e W'=>(∃ v,e=.returned v)∧
  ((∃ ys,ys=zs∧J ys W')∨(∃ pre,pre<+:zs∧Jx pre W')):=by
 obtain⟨hcap1,hcap2⟩:=hcap;unfold maxLen at hcap2;refine callsIn_of_wp Tryz.func120 rfl h7 ?_ hro;simp only [Tryz.ntmps120,List.size_toArray,List.length_cons,List.length_nil,Nat.reduceAdd,Nat.reduceSub,Array.replicate_succ,Array.replicate_zero,List.push_toArray,List.append_toArray,List.nil_append,List.cons_append]
 gi_wp2
 gi_loopw [10] (fun i wr=>∃ k:Nat,k<=zs.length∧i=.int .i64 k∧J (zs.take k) wr∧Below n₀ W wr)
  (fun i _=>zs.length-(intOf i).toNat)
 case atStart=>exact⟨0,Nat.zero_le _,rfl,by simpa using h0,Below.refl _ _⟩
 case round=>
  obtain⟨k,hk,rfl,hJs,hnx⟩:=hrel
  by_cases hlt:k<zs.length
  ·obtain⟨x,hx⟩:∃ x,zs[k]? =some x:=⟨_,List.getElem?_eq_getElem hlt⟩;obtain⟨c0,c1⟩:=hc k x hx;have d0:wr.cell? ⟨b,off+k*2,none⟩=some (Value.int .i64 (kf x)):=(hnx.cell (p:=⟨b,off+k*2,none⟩) hb).trans c0;have d1:wr.cell? ⟨b,off+k*2+1,none⟩=some (Value.pointer (some (vf x))):=(hnx.cell (p:=⟨b,off+k*2+1,none⟩) hb).trans c1;have hal:∀ o:Obj,wr.grownBy (wr.alloc o) none:=fun o=>⟨rfl,rfl,rfl,by simp,fun q hq _=>heap_alloc_old wr _ hq⟩
   obtain⟨fn,tmps,assign,body,hy,hR⟩:=hY _ x (wr.alloc (.cells #[(Value.int .i64 (kf x)),(Value.pointer (some (vf x)))] 172)) (hJ _ _ _ hJs (hal _)) (by rw [List.length_take];omega);have n1:(0:Int)<=(k:Int):=by omega
   have n2:(k:Int)<(zs.length:Int):=by omega
   have hbw:Below n₀ W (wr.alloc (.cells #[(Value.int .i64 (kf x)),(Value.pointer (some (vf x)))] 172)):=hnx.alloc (Nat.le_trans hn₀ hnx.size) _
   have HT:Hid (zs.take (k+1)=zs.take k++[x]):=by
    obtain⟨hk',e⟩:=List.getElem?_eq_some_iff.1 hx;show _=_
    rw [List.take_succ_eq_append_getElem hk',e]
   clear hc c0 c1 hx
   gi_wp2
   refine hR.mono ?_;rintro e W3 (⟨rfl,hJ3,hk3⟩|⟨rfl,hJx3⟩)
   ·gi_wp2
    go_roundw
    case rel=>exact⟨k+1,by omega,by go_num,by rw [HT.out];exact hJ3,hbw.trans hk3⟩
    case measure=>simp [intOf];omega
   ·gi_wp2
    refine bodyPost_ret (results_none rfl _ _ _) rfl ?_;exact⟨⟨_,rfl⟩,.inr ⟨_,by rw [<- HT.out];exact List.take_prefix _ _,hJx3⟩⟩
  ·obtain rfl:k=zs.length:=by omega
   have n2:(zs.length:Int)<=(zs.length:Int):=by omega
   rw [List.take_length] at hJs;clear hc
   gi_wp2
   go_end0
   exact⟨⟨_,rfl⟩,.inl ⟨_,rfl,hJs⟩⟩
end Go.Proofs.YtaceiajcecaapaaGreat
