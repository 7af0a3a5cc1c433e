import Derived.Test.YtfmolgdfjklmpaaGreatJMath
import Derived.Test.YtfmolgdfjklmpaaGreatJCutM
import Derived.Test.YtfmolgdfjklmpaaGreatJSls
import Derived.RegionTactic
import Derived.RangeFuncNested
import Derived.RangeFuncBound
import Derived.RangeFuncCalls
import Derived.RangeFuncLeaves
import Derived.Shelf.Abstract
import Derived.Shelf.RegionOpen
import Derived.WalkKit
import Derived.OwnWalkIn
import Derived.TacticsInMore
import Derived.LoopNIn
import Derived.LoopIn
import Derived.Test.YtfmolgdfjklmpaaGreatRows
import Derived.WalkSpells
import Derived.WalkLawsBesides
import Derived.BigRegion
import Derived.Deep.OwnRows
import Derived.OpenShut
import Derived.Deep.AppendSrc
import Derived.Lib.AppendZerosOnto
import Derived.Deep.WholeRow
namespace Go.Proofs.YtfmolgdfjklmpaaGreat
open Go.RowKit
set_option linter.unusedVariables false
def cfOf{α:Type}(f:α->Int)(l:List α)(i:Nat):Int:=match l[i]? with
 |some x=>f x
 |none=>0
def posOf{α:Type}(f:α->Int)(l:List α):Nat:=(l.takeWhile fun x=>decide (f x<0)).length
theorem cfOf_at{α:Type}{f:α->Int}{l:List α}{i:Nat}{x:α}(h:l[i]? =some x):cfOf f l i=f x:=by rw [cfOf,h]
theorem posOf_fnd{α:Type}{f:α->Int}:∀ (l:List α),(∀ a b,a<=b->b<l.length->cfOf f l b<0->cfOf f l a<0)->Fnd l.length (cfOf f l) (posOf f l):=by
 intro l
 induction l with
 |nil=>intro _;exact⟨Nat.le_refl _,fun i hi=>by simp [posOf] at hi,fun i _ h2=>by simp at h2⟩
 |cons x l ih=>
  intro hm;have hsh:∀ i,cfOf f (x::l) (i+1)=cfOf f l i:=fun i=>by simp [cfOf]
  have hz:cfOf f (x::l) 0=f x:=rfl
  by_cases hx:f x<0
  ·have hp:posOf f (x::l)=posOf f l+1:=by simp [posOf,hx]
   obtain⟨h1,h2,h3⟩:=ih (fun a b hab hb hc=>by
    have:=hm (a+1) (b+1) (by omega) (by simp;omega) (by rw [hsh];exact hc);rw [hsh] at this
    exact this)
   rw [hp];refine⟨by simp;omega,fun i hi=>?_,fun i h4 h5=>?_⟩
   ·cases i with
    |zero=>exact hx
    |succ i=>rw [hsh];exact h2 i (by omega)
   ·cases i with
    |zero=>omega
    |succ i=>rw [hsh];exact h3 i (by omega) (by simp at h5;omega)
  ·have hp:posOf f (x::l)=0:=by simp [posOf,hx]
   rw [hp];refine⟨Nat.zero_le _,fun i hi=>by omega,fun i _ h5=>?_⟩
   rcases Int.lt_or_le (cfOf f (x::l) i) 0 with h|h
   ·have:=hm 0 i (Nat.zero_le _) h5 h;rw [hz] at this;exact absurd this hx
   ·exact h
def insAt{α:Type}(k:Nat)(x:α)(l:List α):List α:=l.take k++[x]++l.drop k
def isIn{α:Type}(f:α->Int)(l:List α):Bool:=decide (posOf f l<l.length)&&decide (cfOf f l (posOf f l)=0)
def putF{α:Type}(f:α->Int)(x:α)(l:List α):List α:=if isIn f l then l else insAt (posOf f l) x l
theorem isIn_some{α:Type}{f:α->Int}{l:List α}(h:isIn f l=true):∃ x,l[posOf f l]? =some x∧f x=0:=by
 simp only [isIn,Bool.and_eq_true,decide_eq_true_eq] at h;obtain⟨h1,h2⟩:=h;refine⟨_,List.getElem?_eq_getElem h1,?_⟩;rw [cfOf_at (List.getElem?_eq_getElem h1)] at h2;exact h2
theorem isIn_not{α:Type}{f:α->Int}{l:List α}(h:isIn f l=false):¬(posOf f l<l.length∧cfOf f l (posOf f l)=0):=by
 rintro⟨h1,h2⟩
 rw [isIn,decide_eq_true h1,decide_eq_true h2] at h;cases h
theorem mono_of_pair{α:Type}{f:α->Int}{R:α->α->Prop}{l:List α}(hp:l.Pairwise R)(hR:∀ a b,R a b->f b<0->f a<0):∀ a b,a<=b->b<l.length->cfOf f l b<0->cfOf f l a<0:=by
 intro a b hab hb hc
 rcases Nat.lt_or_eq_of_le hab with h|h
 ·have:=List.pairwise_iff_getElem.1 hp a b (by omega) hb h;rw [cfOf_at (List.getElem?_eq_getElem hb)] at hc;rw [cfOf_at (List.getElem?_eq_getElem (by omega:a<l.length))];exact hR _ _ this hc
 ·subst h;exact hc
theorem blk_ne{w:World}{a b:Nat}{c d:Array Value}{T T':TypeId}(h1:Blk w a c T)(h2:Blk w b d T')(hne:T≠T'):a≠b:=by
 intro e;subst e;rw [Blk,h1] at h2;simp only [Option.some.injEq,Obj.cells.injEq] at h2;exact hne h2.2.1
theorem own_nb{W:World}{B e s n b:Nat}{v:Value}{xs:List Value}{cs:Array Value}{T:TypeId}(h:W.ownsRow B e s v n xs)(hb:Blk W b cs T)(hne:e≠T):v.ownBlock≠some b:=by
 intro he
 rcases h.2 with⟨rfl,_⟩|⟨g,cap,cur,rfl,_,hh,_⟩
 ·cases he
 ·simp only [Value.ownBlock,Option.some.injEq] at he;subst he;rw [Blk,hh] at hb;simp only [Option.some.injEq,Obj.cells.injEq] at hb;exact hne hb.2.1
end Go.Proofs.YtfmolgdfjklmpaaGreat
namespace Go.Proofs.YtfmolgdfjklmpaaGreat
open Go.RowKit
theorem bless_self:∀ l:List UInt8,Op.bytesLess l l=false:=by
 intro l
 induction l with
 |nil=>rfl
 |cons x l ih=>simp [Op.bytesLess,ih]
theorem ordL_zero(a b:List UInt8):Nm.ordL a b=0↔a=b:=by
 constructor
 ·intro h
  by_cases h1:Op.bytesLess a b=true
  ·rw [Nm.ordL,if_pos h1] at h;omega
  ·rw [Nm.ordL,if_neg h1] at h
   by_cases h2:a=b
   ·exact h2
   ·rw [if_neg h2] at h;omega
 ·intro h;subst h;rw [Nm.ordL,if_neg (by simp [bless_self]),if_pos rfl]
def sameS(a b:ByteArray):Bool:=(Nm.split a).isSome&&(Nm.split b).isSome&&decide (Nm.ordS a b=0)
theorem same_left{a b:ByteArray}(h:Nm.split a=none):sameS a b=false:=by simp [sameS,h]
theorem same_right{a b:ByteArray}(h:Nm.split b=none):sameS a b=false:=by simp [sameS,h]
theorem same_some{a b:ByteArray}{xs ys:List ByteArray}(ha:Nm.split a=some xs)(hb:Nm.split b=some ys):sameS a b=decide (Nm.ordS a b=0):=by simp [sameS,ha,hb]
theorem small_pos{a:ByteArray}{xs:List ByteArray}(h:Nm.split a=some xs):(Nm.small a).toList.isEmpty=false:=by
 apply Nm.tl_not_empty;rw [Nm.small_size];have:=Nm.split_size h;omega
theorem small_eq(a b:ByteArray):((Nm.small a).toList==(Nm.small b).toList)=decide (Nm.ordS a b=0):=by
 rw [Bool.eq_iff_iff];simp only [beq_iff_eq,decide_eq_true_eq,Nm.ordS,ordL_zero];rw [ByteArray.toList_eq,ByteArray.toList_eq,Nm.small_data,Nm.small_data]
end Go.Proofs.YtfmolgdfjklmpaaGreat
namespace Go.Proofs.YtfmolgdfjklmpaaGreat
open Go.RowKit
theorem splitF_of:∀ (zs:List ByteArray) (f:Nat) (r:ByteArray),r.data.toList=Nm.joinL zs->(∀ x∈zs,1<=x.size∧x.size<=63)->r.size<f->Nm.splitF f r=some zs:=by
 intro zs
 induction zs with
 |nil=>
  intro f r hd _ hf;have hsz:r.size=1:=by have:=congrArg List.length hd;simpa [Nm.joinL,Nm.preL] using this
  have hp:0<r.size:=by omega
  have h0:r[0].toNat=0:=by
   have e:=Nm.get_data hp;rw [hd] at e;have:r[0]=0:=by simpa [Nm.joinL,Nm.preL] using e.symm
   rw [this];rfl
  obtain⟨g,rfl⟩:∃ g,f=g+1:=⟨f-1,by omega⟩
  exact Nm.splitF_end g r hp h0 hsz
 |cons x t ih=>
  intro f r hd hx hf;have hx0:=hx x List.mem_cons_self
  have hlen:r.size=(1+x.size)+Nm.wsum t+1:=by
   have:=congrArg List.length hd;rw [Nm.joinL_length] at this;simp only [Nm.wsum] at this;simpa using this
  have hp:0<r.size:=by omega
  have e0:r[0]=UInt8.ofNat x.size:=by
   have e:=Nm.get_data hp;rw [hd] at e;simpa [Nm.joinL,Nm.preL] using e.symm
  have hn:r[0].toNat=x.size:=by rw [e0];simp;omega
  have hd2:r.data.toList=UInt8.ofNat x.size::(x.data.toList++Nm.joinL t):=by rw [hd];simp [Nm.joinL,Nm.preL]
  have xl:x.data.toList.length=x.size:=by simp
  have c1:r.extract 1 (x.size+1)=x:=by
   apply Nm.ba_ext;have e1:(r.extract 1 (x.size+1)).data.toList=(r.data.toList.drop 1).take x.size:=by simp
   rw [e1,hd2,List.drop_succ_cons,List.drop_zero,<- xl,List.take_left]
  have c2:(r.extract (x.size+1) r.size).data.toList=Nm.joinL t:=by
   have e2:(r.extract (x.size+1) r.size).data.toList=(r.data.toList.drop 1).drop x.size:=by
    simp only [ByteArray.data_extract,Array.toList_extract,List.drop_drop];rw [List.extract_eq_take_drop,List.take_of_length_le (by simp)];congr 1;omega
   rw [e2,hd2,List.drop_succ_cons,List.drop_zero,<- xl,List.drop_left]
  obtain⟨g,rfl⟩:∃ g,f=g+1:=⟨f-1,by omega⟩;rw [Nm.splitF_step g r hp (by omega) (by omega) (by omega),hn,c1,ih g _ c2 (fun y hy=>hx y (List.mem_cons_of_mem _ hy)) (by simp;omega)];rfl
theorem split_of_join{zs:List ByteArray}(h:∀ x∈zs,1<=x.size∧x.size<=63)(hw:Nm.wsum zs<=254):Nm.split ⟨(Nm.joinL zs).toArray⟩=some zs:=by
 have hsz:(ByteArray.mk (Nm.joinL zs).toArray).size=Nm.wsum zs+1:=by
  show(Nm.joinL zs).toArray.size=_
  rw [List.size_toArray,Nm.joinL_length]
 rw [Nm.split_short _ (by omega)];exact splitF_of zs 256 _ (by simp) h (by omega)
theorem ordS_zero(x y:ByteArray):Nm.ordS x y=0↔Nm.small x=Nm.small y:=by
 rw [Nm.ordS,ordL_zero];constructor
 ·intro h;apply Nm.ba_ext;rw [Nm.small_data,Nm.small_data,h]
 ·intro h;rw [<- Nm.small_data,<- Nm.small_data,h]
theorem cmpRev_zero:∀ (a b:List ByteArray),Nm.cmpRev a b=0↔a.map Nm.small=b.map Nm.small:=by
 intro a
 induction a with
 |nil=>
  intro b
  cases b with
  |nil=>simp [Nm.cmpRev]
  |cons y b=>simp [Nm.cmpRev]
 |cons x a ih=>
  intro b
  cases b with
  |nil=>simp [Nm.cmpRev]
  |cons y b=>
   rw [Nm.cmpRev]
   by_cases h:Nm.ordS x y=0
   ·rw [if_pos h,ih b];simp [(ordS_zero x y).1 h]
   ·rw [if_neg h];have hne:Nm.small x≠Nm.small y:=fun e=>h ((ordS_zero x y).2 e)
    simp [h,hne]
theorem cmpLs_zero(a b:List ByteArray):Nm.cmpLs a b=0↔a.map Nm.small=b.map Nm.small:=by
 rw [Nm.cmpLs,cmpRev_zero,List.map_reverse,List.map_reverse];constructor
 ·intro h;exact List.reverse_inj.1 h
 ·intro h;rw [h]
theorem smallL_joinL{zs:List ByteArray}(h:∀ x∈zs,1<=x.size∧x.size<=63):Nm.smallL (Nm.joinL zs)=Nm.joinL (zs.map Nm.small):=by
 simp only [Nm.joinL];rw [Nm.preL_small zs (fun x hx=>(h x hx).2)];simp [Nm.smallL,Nm.low]
theorem join_inj{a b:List ByteArray}(ha:∀ x∈a,1<=x.size∧x.size<=63)(hb:∀ x∈b,1<=x.size∧x.size<=63)(wa:Nm.wsum a<=254)(wb:Nm.wsum b<=254)(h:Nm.joinL a=Nm.joinL b):a=b:=by
 have h1:=split_of_join ha wa;have h2:=split_of_join hb wb;rw [h] at h1;rw [h1] at h2;exact Option.some.inj h2
theorem small_ok{zs:List ByteArray}(h:∀ x∈zs,1<=x.size∧x.size<=63):∀ x∈zs.map Nm.small,1<=x.size∧x.size<=63:=by
 intro x hx;obtain⟨y,hy,rfl⟩:=List.mem_map.1 hx;rw [Nm.small_size];exact h y hy
def underB(xs ys:List ByteArray):Bool:=decide (ys.length<=xs.length)&&decide (Nm.cmpLs (xs.drop (xs.length-ys.length)) ys=0)
theorem ord_join{zs ys:List ByteArray}{b:ByteArray}(hz:∀ x∈zs,1<=x.size∧x.size<=63)(wz:Nm.wsum zs<=254)(hb:Nm.split b=some ys):
 Nm.ordS ⟨(Nm.joinL zs).toArray⟩ b=0↔Nm.cmpLs zs ys=0:=by
 obtain⟨hj,hy⟩:=Nm.split_join hb;obtain⟨wy,wy2⟩:=Nm.split_size hb;rw [Nm.ordS,ordL_zero,cmpLs_zero];simp only
 rw [<- hj,smallL_joinL hz,smallL_joinL hy];constructor
 ·intro h;exact join_inj (small_ok hz) (small_ok hy) (by rw [Nm.wsum_small];omega) (by rw [Nm.wsum_small];omega) h
 ·intro h;rw [h]
def isUnderS(a b:ByteArray):Bool:=
 match Nm.split a,Nm.split b with
 |some xs,some ys=>underB xs ys
 |_,_=>false
theorem isUnder_left{a b:ByteArray}(h:Nm.split a=none):isUnderS a b=false:=by simp [isUnderS,h]
theorem isUnder_right{a b:ByteArray}(h:Nm.split b=none):isUnderS a b=false:=by
 cases ha:Nm.split a<;>simp [isUnderS,h,ha]
theorem isUnder_some{a b:ByteArray}{xs ys:List ByteArray}(ha:Nm.split a=some xs)(hb:Nm.split b=some ys):isUnderS a b=underB xs ys:=by simp [isUnderS,ha,hb]
theorem drop_ok{xs:List ByteArray}(h:∀ x∈xs,1<=x.size∧x.size<=63)(k:Nat):∀ x∈xs.drop k,1<=x.size∧x.size<=63:=
 fun x hx=>h x (List.mem_of_mem_drop hx)
theorem under_same{xs ys:List ByteArray}{a b:ByteArray}(ha:Nm.split a=some xs)(hb:Nm.split b=some ys)(hl:ys.length<=xs.length):
 sameS ⟨(Nm.joinL (xs.drop (xs.length-ys.length))).toArray⟩ b=underB xs ys:=by
 have hx:=(Nm.split_join ha).2;have hw:=Nm.split_size ha;have hd:=Nm.wsum_drop_le xs (xs.length-ys.length);have hs:=split_of_join (drop_ok hx (xs.length-ys.length)) (by omega);rw [same_some hs hb,underB];simp only [hl,decide_true,Bool.true_and];rw [Bool.eq_iff_iff];simp only [decide_eq_true_eq];exact ord_join (drop_ok hx _) (by omega) hb
end Go.Proofs.YtfmolgdfjklmpaaGreat
namespace Go.Proofs.YtfmolgdfjklmpaaGreat
open Go.RowKit
theorem cmpI_anti(a b:Int):Nm.cmpI b a= -Nm.cmpI a b:=by
 unfold Nm.cmpI
 split<;>split<;>first|omega|(split<;>omega)|skip
 all_goals simp_all<;>omega
theorem cmpI_le{a b:Int}(h:a≠b):Nm.cmpI a b<=0↔a<b:=by
 by_cases h1:a<b
 ·rw [Nm.cmpI_lt h1];simp [h1]
 ·rw [Nm.cmpI_gt (by omega)];simp [h1]
theorem ordL_anti:∀ (a b:List UInt8),Nm.ordL b a= -Nm.ordL a b
 |[],[]=>rfl
 |[],y::b=>rfl
 |x::a,[]=>rfl
 |x::a,y::b=>by
  by_cases h:x=y
  ·subst h;rw [Nm.ordL_same,Nm.ordL_same];exact ordL_anti a b
  ·rw [Nm.ordL_ne a b h,Nm.ordL_ne b a (Ne.symm h)];exact cmpI_anti _ _
theorem ordL_range(a b:List UInt8): -1<=Nm.ordL a b∧Nm.ordL a b<=1:=by
 unfold Nm.ordL;split
 ·omega
 ·split<;>omega
theorem ordL_trans:∀ (a b c:List UInt8),Nm.ordL a b<=0->Nm.ordL b c<=0->Nm.ordL a c<=0
 |[],b,[],_,_=>by rw [Nm.ordL_nil];decide
 |[],b,z::c,_,_=>by rw [Nm.ordL_left];decide
 |x::a,[],c,h,_=>by rw [Nm.ordL_right] at h;omega
 |x::a,y::b,[],_,h=>by rw [Nm.ordL_right] at h;omega
 |x::a,y::b,z::c,h1,h2=>by
  have inj:∀ {p q:UInt8},p≠q->(p.toNat:Int)≠(q.toNat:Int):=fun h e=>h (UInt8.toNat_inj.1 (by omega))
  by_cases hxy:x=y
  ·subst hxy
   by_cases hyz:x=z
   ·subst hyz;rw [Nm.ordL_same] at h1 h2 ⊢;exact ordL_trans a b c h1 h2
   ·rw [Nm.ordL_ne _ _ hyz] at h2 ⊢;exact h2
  ·rw [Nm.ordL_ne _ _ hxy,cmpI_le (inj hxy)] at h1
   by_cases hyz:y=z
   ·subst hyz;rw [Nm.ordL_ne _ _ hxy,cmpI_le (inj hxy)];exact h1
   ·rw [Nm.ordL_ne _ _ hyz,cmpI_le (inj hyz)] at h2;have hxz:x≠z:=fun e=>by subst e;omega
    rw [Nm.ordL_ne _ _ hxz,cmpI_le (inj hxz)];omega
theorem ordS_anti(x y:ByteArray):Nm.ordS y x= -Nm.ordS x y:=ordL_anti _ _
theorem ordS_swap{x y:ByteArray}(h:Nm.ordS x y=0)(z:ByteArray):Nm.ordS x z=Nm.ordS y z∧Nm.ordS z x=Nm.ordS z y:=by
 have e:=(ordL_zero _ _).1 h;unfold Nm.ordS;rw [e];exact⟨rfl,rfl⟩
theorem cmpRev_anti:∀ (a b:List ByteArray),Nm.cmpRev b a= -Nm.cmpRev a b
 |[],[]=>rfl
 |[],y::b=>rfl
 |x::a,[]=>rfl
 |x::a,y::b=>by
  rw [Nm.cmpRev,Nm.cmpRev,ordS_anti x y]
  by_cases h:Nm.ordS x y=0
  ·rw [if_pos h,if_pos (by omega)];exact cmpRev_anti a b
  ·rw [if_neg h,if_neg (by omega)]
theorem cmpRev_range:∀ (a b:List ByteArray),-1<=Nm.cmpRev a b∧Nm.cmpRev a b<=1
 |[],[]=>by rw [Nm.cmpRev];decide
 |[],y::b=>by rw [Nm.cmpRev];decide
 |x::a,[]=>by rw [Nm.cmpRev];decide
 |x::a,y::b=>by
  rw [Nm.cmpRev];split
  ·exact cmpRev_range a b
  ·exact ordL_range _ _
theorem cmpRev_trans:∀ (a b c:List ByteArray),Nm.cmpRev a b<=0->Nm.cmpRev b c<=0->Nm.cmpRev a c<=0
 |[],b,[],_,_=>by rw [Nm.cmpRev];decide
 |[],b,z::c,_,_=>by rw [Nm.cmpRev];decide
 |x::a,[],c,h,_=>by rw [Nm.cmpRev] at h;omega
 |x::a,y::b,[],_,h=>by rw [Nm.cmpRev] at h;omega
 |x::a,y::b,z::c,h1,h2=>by
  rw [Nm.cmpRev] at h1 h2 ⊢
  by_cases hxy:Nm.ordS x y=0
  ·rw [if_pos hxy] at h1;rw [(ordS_swap hxy z).1]
   by_cases hyz:Nm.ordS y z=0
   ·rw [if_pos hyz] at h2 ⊢;exact cmpRev_trans a b c h1 h2
   ·rw [if_neg hyz] at h2 ⊢;exact h2
  ·rw [if_neg hxy] at h1
   by_cases hyz:Nm.ordS y z=0
   ·rw [<- (ordS_swap hyz x).2,if_neg hxy];exact h1
   ·rw [if_neg hyz] at h2;have h3:Nm.ordS x z<=0:=ordL_trans _ _ _ h1 h2
    have hxz:Nm.ordS x z≠0:=by
     intro e;have e1:=(ordS_swap e y).1;have e2:=ordS_anti y z;omega
    rw [if_neg hxz];exact h3
theorem cmpLs_anti(a b:List ByteArray):Nm.cmpLs b a= -Nm.cmpLs a b:=cmpRev_anti _ _
theorem cmpLs_range(a b:List ByteArray): -1<=Nm.cmpLs a b∧Nm.cmpLs a b<=1:=cmpRev_range _ _
theorem cmpLs_trans{a b c:List ByteArray}(h1:Nm.cmpLs a b<=0)(h2:Nm.cmpLs b c<=0):Nm.cmpLs a c<=0:=cmpRev_trans _ _ _ h1 h2
theorem cmpLs_trans'{a b c:List ByteArray}(h1:0<=Nm.cmpLs a b)(h2:0<=Nm.cmpLs b c):0<=Nm.cmpLs a c:=by
 have e1:=cmpLs_anti a b;have e2:=cmpLs_anti b c;have e3:=cmpLs_anti a c;have:=cmpLs_trans (a:=c) (b:=b) (c:=a) (by omega) (by omega);omega
theorem same_cmp{a b:ByteArray}{xs ys:List ByteArray}(ha:Nm.split a=some xs)(hb:Nm.split b=some ys):sameS a b=decide (Nm.cmpLs xs ys=0):=by
 have ja:=Nm.split_join ha;have wa:=Nm.split_size ha;have h1:=ord_join ja.2 (by omega) hb
 have ea:(⟨(Nm.joinL xs).toArray⟩:ByteArray)=a:=by
  apply ByteArray.ext;apply Array.toList_inj.1;simpa using ja.1
 rw [same_some ha hb];rw [ea] at h1;simp only [h1]
end Go.Proofs.YtfmolgdfjklmpaaGreat
namespace Go.Proofs.YtfmolgdfjklmpaaGreat
open Go.RowKit
set_option linter.unusedVariables false
structure GSe where
 blk:Nat
 hd:Nat
 rv:Value
 ty:Int
 tt:Int
 fi:Nat
 da:List (ByteArray×ByteArray)
structure GOw where
 blk:Nat
 hd:Nat
 rv:Value
 lv:Value
 lab:List ByteArray
 nm:ByteArray
 ss:List GSe
def ptr(b:Nat):Value:=.pointer (some ⟨b,0,none⟩)
def daRs(l:List (ByteArray×ByteArray)):List (Value×Value):=l.map fun p=>(.string p.1,.string p.2)
def seRs(l:List GSe):List (Value×Value):=l.map fun s=>(.int .i64 s.ty,ptr s.blk)
def owRs(l:List GOw):List (Value×Value):=l.map fun o=>(o.lv,ptr o.blk)
def cmpSv:Value:=.func (.func 152) #[] #[]
def cmpIv:Value:=.func (.func 148) #[] #[]
def cmpLv:Value:=.func (.func 108) #[] #[]
def fpS(s:GSe):List Nat:=s.blk::s.hd::s.rv.ownBlock.toList
def fpO(o:GOw):List Nat:=o.blk::o.hd::(o.rv.ownBlock.toList++o.ss.flatMap fpS)
def fpT(th:Nat)(rv:Value)(os:List GOw):List Nat:=th::(rv.ownBlock.toList++os.flatMap fpO)
structure SeAt (w:World) (B:Nat) (s:GSe):Prop where
 node:Blk w s.blk #[.int .i64 s.tt,.int .i64 (s.fi:Int),ptr s.hd] 164
 head:Blk w s.hd #[cmpSv,s.rv] 239
 rows:w.ownsRow B 242 2 s.rv (daRs s.da).length (rowCs (daRs s.da))
structure OwAt (w:World) (B:Nat) (o:GOw):Prop where
 node:Blk w o.blk #[.string o.nm,o.lv,ptr o.hd] 127
 head:Blk w o.hd #[cmpIv,o.rv] 180
 rows:w.ownsRow B 182 2 o.rv (seRs o.ss).length (rowCs (seRs o.ss))
 sets:∀ s∈o.ss,SeAt w B s
structure TrAt (w:World) (B th:Nat) (rv:Value) (os:List GOw):Prop where
 head:Blk w th #[cmpLv,rv] 173
 rows:w.ownsRow B 175 2 rv (owRs os).length (rowCs (owRs os))
 owners:∀ o∈os,OwAt w B o
 nodup:(fpT th rv os).Nodup
theorem blk_keep{w w':World}{b:Nat}{cs:Array Value}{T:TypeId}(h:Blk w b cs T)(he:w'.heap[b]? =w.heap[b]?):Blk w' b cs T:=he.trans h
theorem own_keep{w w':World}{B e s n:Nat}{v:Value}{xs:List Value}(h:w.ownsRow B e s v n xs)(he:∀ b∈v.ownBlock.toList,w'.heap[b]? =w.heap[b]?):w'.ownsRow B e s v n xs:=by
 refine⟨h.1,?_⟩
 rcases h.2 with h0|⟨q,cap,cur,rfl,hb,hh,r⟩
 ·exact .inl h0
 ·exact .inr ⟨q,cap,cur,rfl,hb,(he q (by simp [Value.ownBlock])).trans hh,r⟩
theorem SeAt.keep{w w':World}{B:Nat}{s:GSe}(h:SeAt w B s)(he:∀ b∈fpS s,w'.heap[b]? =w.heap[b]?):SeAt w' B s:=
 ⟨blk_keep h.node (he _ (by simp [fpS])),blk_keep h.head (he _ (by simp [fpS])),own_keep h.rows (fun b hb=>he b (by simp only [fpS,List.mem_cons];exact .inr (.inr hb)))⟩
theorem OwAt.keep{w w':World}{B:Nat}{o:GOw}(h:OwAt w B o)(he:∀ b∈fpO o,w'.heap[b]? =w.heap[b]?):OwAt w' B o:=
 ⟨blk_keep h.node (he _ (by simp [fpO])),blk_keep h.head (he _ (by simp [fpO])),own_keep h.rows (fun b hb=>he b (by simp only [fpO,List.mem_cons,List.mem_append];exact .inr (.inr (.inl hb)))),
  fun s hs=>(h.sets s hs).keep (fun b hb=>he b (by simp only [fpO,List.mem_cons,List.mem_append,List.mem_flatMap];exact .inr (.inr (.inr ⟨s,hs,hb⟩))))⟩
theorem TrAt.keep{w w':World}{B th:Nat}{rv:Value}{os:List GOw}(h:TrAt w B th rv os)(he:∀ b∈fpT th rv os,w'.heap[b]? =w.heap[b]?):TrAt w' B th rv os:=
 ⟨blk_keep h.head (he _ (by simp [fpT])),own_keep h.rows (fun b hb=>he b (by simp only [fpT,List.mem_cons,List.mem_append];exact .inr (.inl hb))),
  fun o ho=>(h.owners o ho).keep (fun b hb=>he b (by simp only [fpT,List.mem_cons,List.mem_append,List.mem_flatMap];exact .inr (.inr ⟨o,ho,hb⟩))),h.nodup⟩
theorem own_lt{w:World}{B e s n:Nat}{v:Value}{xs:List Value}(h:w.ownsRow B e s v n xs):∀ b∈v.ownBlock.toList,b<w.heap.size:=by
 intro b hb
 cases hv:v.ownBlock with
 |none=>rw [hv] at hb;simp at hb
 |some q=>
  rw [hv] at hb;simp at hb;subst hb;exact(h.lt _ hv).2
theorem SeAt.lt{w:World}{B:Nat}{s:GSe}(h:SeAt w B s):∀ b∈fpS s,b<w.heap.size:=by
 intro b hb;simp only [fpS,List.mem_cons] at hb
 rcases hb with rfl|rfl|hb
 ·exact blk_lt h.node
 ·exact blk_lt h.head
 ·exact own_lt h.rows b hb
theorem OwAt.lt{w:World}{B:Nat}{o:GOw}(h:OwAt w B o):∀ b∈fpO o,b<w.heap.size:=by
 intro b hb;simp only [fpO,List.mem_cons,List.mem_append,List.mem_flatMap] at hb
 rcases hb with rfl|rfl|hb|⟨s,hs,hb⟩
 ·exact blk_lt h.node
 ·exact blk_lt h.head
 ·exact own_lt h.rows b hb
 ·exact(h.sets s hs).lt b hb
theorem TrAt.lt{w:World}{B th:Nat}{rv:Value}{os:List GOw}(h:TrAt w B th rv os):∀ b∈fpT th rv os,b<w.heap.size:=by
 intro b hb;simp only [fpT,List.mem_cons,List.mem_append,List.mem_flatMap] at hb
 rcases hb with rfl|hb|⟨o,ho,hb⟩
 ·exact blk_lt h.head
 ·exact own_lt h.rows b hb
 ·exact(h.owners o ho).lt b hb
theorem TrAt.below{w w':World}{B th:Nat}{rv:Value}{os:List GOw}(h:TrAt w B th rv os)(hb:Below w.heap.size w w'):TrAt w' B th rv os:=
 h.keep (fun b hm=>hb.block b (h.lt b hm))
structure Outs (fp:List Nat) (w w':World):Prop where
 os:w'.os=w.os
 tape:w'.tape=w.tape
 output:w'.output=w.output
 size:w.heap.size<=w'.heap.size
 block:∀ k,k<w.heap.size->k∉fp->w'.heap[k]? =w.heap[k]?
theorem Outs.below{fp:List Nat}{w w':World}(h:Below w.heap.size w w'):Outs fp w w':=⟨h.os,h.tape,h.output,h.size,fun k hk _=>h.block k hk⟩
theorem Outs.trans{fp fp':List Nat}{w w1 w2:World}(h:Outs fp w w1)(h2:Outs fp' w1 w2)(hs:∀ k∈fp',k∈fp∨w.heap.size<=k):Outs fp w w2:=
 ⟨h2.os.trans h.os,h2.tape.trans h.tape,h2.output.trans h.output,Nat.le_trans h.size h2.size,fun k hk hn=>by
  rw [h2.block k (Nat.lt_of_lt_of_le hk h.size) (fun hm=>by rcases hs k hm with h1|h1;exact hn h1;omega)]
  exact h.block k hk hn⟩
theorem Outs.wide{fp fp':List Nat}{w w':World}(h:Outs fp w w')(hs:∀ k∈fp,k∈fp'):Outs fp' w w':=⟨h.os,h.tape,h.output,h.size,fun k hk hn=>h.block k hk (fun hm=>hn (hs k hm))⟩
end Go.Proofs.YtfmolgdfjklmpaaGreat
namespace Go.Proofs.YtfmolgdfjklmpaaGreat
open Go.RowKit
theorem code_zero{t:Int}{d:ByteArray}:cutCode t d=0↔ ∃ sp,cutS t d=some sp:=by
 by_cases h:t<0∨65535<t
 ·obtain⟨h1,h2⟩:=code_type (d:=d) h;rw [h1,h2];simp
 ·by_cases h1:65535<d.size
  ·obtain⟨h2,h3⟩:=code_long h h1;rw [h2,h3];simp
  ·cases hq:Dt.spans (Dt.implP t) 0 d with
   |none=>obtain⟨h2,h3⟩:=code_none h h1 hq;rw [h2,h3];simp
   |some sp=>obtain⟨h2,h3⟩:=code_some h h1 hq;rw [h2,h3];simp
theorem good_parts{t:Int}{d:ByteArray}(h:cutCode t d=0):∃ ps,Dt.parts (Dt.specP t) d=some ps∧cutS t d=some (Dt.spansOf (Dt.specP t) ps 0)∧d.size<=65535:=by
 obtain⟨sp,hsp⟩:=code_zero.1 h
 by_cases ht:t<0∨65535<t
 ·rw [(code_type (d:=d) ht).2] at hsp;cases hsp
 ·by_cases h1:65535<d.size
  ·rw [(code_long ht h1).2] at hsp;cases hsp
  ·have e:cutS t d=Dt.spans (Dt.implP t) 0 d:=by rw [cutS,if_neg ht,if_neg h1]
   rw [e,<- Dt.forms_agree,Dt.spans_of_parts] at hsp
   cases hq:Dt.parts (Dt.specP t) d with
   |none=>rw [hq] at hsp;simp at hsp
   |some ps=>
    refine⟨ps,rfl,?_,by omega⟩;rw [e,<- Dt.forms_agree,Dt.spans_of_parts,hq];rfl
theorem part_le:∀ (ps:List ByteArray) (x:ByteArray),x∈ps->x.size<=(Dt.catL ps).length:=by
 intro ps
 induction ps with
 |nil=>intro x h;simp at h
 |cons y ps ih=>
  intro x h;have e:(Dt.catL (y::ps)).length=y.size+(Dt.catL ps).length:=by simp [Dt.catL]
  rcases List.mem_cons.1 h with rfl|h
  ·omega
  ·have:=ih x h;omega
theorem isN_let(c:UInt8):(Dt.letP c).isN=decide (c.toNat=110):=by
 by_cases h:c=110
 ·subst h;rfl
 ·have h':c.toNat≠110:=fun e=>h (UInt8.toNat_inj.1 (by simpa using e))
  simp only [h',decide_false];unfold Dt.letP;rw [if_neg h]
  repeat' split
  all_goals rfl
theorem spans_few:∀ (fs:List Dt.Pc) (a:Nat) (d:ByteArray) (sp:List (Nat×Nat)),Dt.spans fs a d=some sp->sp.length<=fs.length:=by
 intro fs
 induction fs with
 |nil=>
  intro a d sp h;rw [Dt.spans] at h
  split at h
  ·simp at h;subst h;simp
  ·simp at h
 |cons p r ih=>
  intro a d sp h;rw [Dt.spans] at h
  cases hq:Dt.sz p d with
  |none=>rw [hq] at h;simp at h
  |some n=>
   rw [hq] at h
   cases hr:Dt.spans r (a+n) (d.extract n d.size) with
   |none=>simp [hr] at h
   |some l=>
    have:=ih _ _ _ hr;simp [hr] at h
    subst h;cases p.isN<;>simp<;>omega
theorem cut_few(t:Int)(d:ByteArray):((cutS t d).getD []).length<=5:=by
 cases h:cutS t d with
 |none=>simp
 |some sp=>
  rw [cutS] at h
  split at h
  ·cases h
  ·split at h
   ·cases h
   ·have h1:=spans_few _ _ _ _ h;have h2:=implP_len t
    simp;omega
end Go.Proofs.YtfmolgdfjklmpaaGreat
namespace Go.Proofs.YtfmolgdfjklmpaaGreat
open Go.RowKit
theorem name_zero{s:ByteArray}{i:Nat}(h:i<s.size)(h2:i<255)(h0:s[i].toNat=0):Dt.nameF 256 s i=s.extract 0 (i+1):=by
 rw [Dt.nameF,dif_pos ⟨h,h2⟩,if_pos h0]
theorem name_big{s:ByteArray}{i:Nat}(h:i<s.size)(h2:i<255)(h0:63<s[i].toNat):Dt.nameF 256 s i=ByteArray.empty:=by
 rw [Dt.nameF,dif_pos ⟨h,h2⟩,if_neg (by omega),if_pos h0]
theorem name_step{s:ByteArray}{i:Nat}(h:i<s.size)(h2:i<255)(h0:s[i].toNat≠0)(h1:s[i].toNat<=63):Dt.nameF 256 s i=Dt.nameF 256 s (i+s[i].toNat+1):=by
 rw [Dt.nameF,dif_pos ⟨h,h2⟩,if_neg h0,if_neg (by omega)];exact Dt.nameF_enough _ _ _ _ (by omega) (by omega)
theorem name_end{s:ByteArray}{i:Nat}(h:¬(i<s.size∧i<255)):Dt.nameF 256 s i=ByteArray.empty:=by
 rw [Dt.nameF,dif_neg h]
set_option maxRecDepth 100000 in
set_option maxHeartbeats 800000 in
theorem l02NameAt_any(s:ByteArray)(w:World):
 Calls Tryz.prog 102 #[.string s] w fun e w'=>e=.returned (.string (Dt.nameAtS s))∧w'=w:=by
 have H0:Dt.nameAtS s=Dt.nameF 256 s 0:=rfl;go_enter Tryz.func102,Tryz.ntmps102;go_wp2
 go_loop [3] (fun v=>∃ i:Nat,i<=400∧v=.int .i64 i∧Dt.nameAtS s=Dt.nameF 256 s i) (fun v=>400-(intOf v).toNat)
 case atStart=>exact⟨0,by omega,rfl,H0⟩
 case round=>
  obtain⟨i,hi,rfl,hn⟩:=hrel;clear H0
  by_cases h1:i<s.size
  ·have h1':(i:Int)<(s.size:Int):=by omega
   by_cases h2:i<255
   ·have h2':(i:Int)<255:=by omega
    have hc:(s[i].toNat:Int)<256:=by have:=s[i].toNat_lt;omega
    by_cases h3:s[i].toNat=0
    ·have HN:=Nm.hide (hn.trans (name_zero h1 h2 h3));have h3':((s[i].toNat:Int)==0)=true:=by rw [beq_iff_eq];omega
     clear hn;go_wp2;go_ret;rw [HN.out];exact⟨rfl,rfl⟩
    ·have h3':((s[i].toNat:Int)==0)=false:=by rw [beq_eq_false_iff_ne];omega
     by_cases h4:63<s[i].toNat
     ·have HN:=Nm.hide (hn.trans (name_big h1 h2 h4));have h4':(63:Int)<(s[i].toNat:Int):=by omega
      clear hn;go_wp2;go_ret;rw [HN.out];exact⟨rfl,rfl⟩
     ·have HN:=Nm.hide (hn.trans (name_step h1 h2 h3 (by omega)));have h4':(s[i].toNat:Int)<=63:=by omega
      clear hn;go_wp2
      go_round
      case rel=>exact⟨i+s[i].toNat+1,by omega,by go_num,HN.out⟩
      case measure=>simp [intOf];omega
   ·have HN:=Nm.hide (hn.trans (name_end (by omega)));have h2':(255:Int)<=(i:Int):=by omega
    clear hn;go_wp2;go_ret;rw [HN.out];exact⟨rfl,rfl⟩
  ·have HN:=Nm.hide (hn.trans (name_end (by omega)));have h1':(s.size:Int)<=(i:Int):=by omega
   clear hn;go_wp2;go_ret;rw [HN.out];exact⟨rfl,rfl⟩
end Go.Proofs.YtfmolgdfjklmpaaGreat
namespace Go.Proofs.YtfmolgdfjklmpaaGreat
open Go.RowKit
theorem set_small{ls:List ByteArray}{k:Nat}{x:ByteArray}(h:ls[k]? =some x):
 ((ls.take k).map (fun y=>Value.string (Nm.small y))++(ls.drop k).map Value.string).set k (.string (Nm.small x))=(ls.take (k+1)).map (fun y=>Value.string (Nm.small y))++(ls.drop (k+1)).map Value.string:=by
 have hk:k<ls.length:=(List.getElem?_eq_some_iff.1 h).1;have hx:ls[k]=x:=(List.getElem?_eq_some_iff.1 h).2;have hl:((ls.take k).map (fun y=>Value.string (Nm.small y))).length=k:=by simp;omega
 rw [Nm.take_step h,List.set_append_right _ _ (by omega),hl,List.drop_eq_getElem_cons hk,hx];simp
set_option maxRecDepth 100000 in
set_option maxHeartbeats 800000 in
theorem specFoldName_any(s:ByteArray)(w:World)(hs:s.size<=maxLen):
 Calls Tryz.prog 33 #[.string s] w fun e w'=>e=.returned (.string (Nm.foldS s))∧Below w.heap.size w w':=by
 have hsp:=l01Split_any s w hs
 cases hq:Nm.split s with
 |none=>
  have HA:=Nm.hide (Nm.foldS_none hq);rw [hq] at hsp;clear hq;go_enter Tryz.func33,Tryz.ntmps33;go_wp2_with fail
  refine hsp.mono ?_;rintro e w1 ⟨v,rfl,hown,hbel⟩;go_wp2;go_ret;rw [HA.out]
  exact⟨rfl,hbel⟩
 |some ls=>
  have hz:=Nm.split_size hq;have HA:=Nm.hide (Nm.foldS_some hq);have HJ:=Nm.hide (Nm.joinL_small hq);have hxs:=(Nm.split_join hq).2;have hll:=Nm.length_le_wsum ls;rw [hq] at hsp;clear hq;go_enter Tryz.func33,Tryz.ntmps33;go_wp2_with fail
  refine hsp.mono ?_;rintro e w1 ⟨v,rfl,hown,hbel⟩;simp only [Option.getD_some] at hown;clear hsp
  by_cases hn:ls=[]
  ·subst hn;have hrow:=Nm.SRow.of_owns hown;obtain⟨a,cap,rfl,hcap,hmx,hnl,hc⟩:=hrow;have hr:=Nm.SRow.of_owns hown;clear hown hc hnl;go_wp2
   go_loop [5] (fun i=>i=.int .i64 0) (fun _=>0)
   case atStart=>rfl
   case round=>
    subst hrel;go_wp2_with (go_at_call 16;refine(l01Join_any _ [] _ hr (by simp [Nm.wsum])).mono ?_;rintro e w2 ⟨rfl,hbel2⟩)
    go_ret;rw [HA.out,<- HJ.out];exact⟨rfl,Nm.below_two hbel hbel2⟩
  ·have hlp:0<ls.length:=List.length_pos_iff.2 hn
   obtain⟨g,cap,cur,rfl,hg⟩:∃ g cap cur,v=.slice (some ⟨g,0,none⟩) ls.length cap∧w.heap.size<=g∧ls.length<=cap∧cap<=maxLen∧w1.heap[g]? =some (.cells cur 9 (0,0)):=by
    rcases hown.2 with⟨rfl,h0⟩|⟨g,cap,cur,rfl,hb,hg,hnc,hm,_⟩
    ·omega
    ·exact⟨g,cap,cur,rfl,hb,hnc,hm,hg⟩
   obtain⟨hwg,hnc,hm,_⟩:=hg;unfold maxLen at hm;go_wp2
   go_loopw [5] (fun i wr=>∃ k:Nat,k<=ls.length∧i=.int .i64 k∧wr.ownsRow w.heap.size 9 1 (.slice (some ⟨g,0,none⟩) ls.length cap) ls.length ((ls.take k).map (fun y=>Value.string (Nm.small y))++(ls.drop k).map Value.string)∧Below w.heap.size w wr)
    (fun i _=>ls.length-(intOf i).toNat)
   case atStart=>exact⟨0,Nat.zero_le _,rfl,by simpa using hown,hbel⟩
   case round=>
    obtain⟨k,hk,rfl,hownk,hbelk⟩:=hrel;have hszk:=hbelk.size;clear hown hbel
    by_cases hlt:k<ls.length
    ·obtain⟨x,hx⟩:∃ x,ls[k]? =some x:=⟨_,List.getElem?_eq_getElem hlt⟩;have hxz:=hxs x (List.mem_of_getElem? hx)
     have hcx:wr.cell? ⟨g,k,none⟩=some (.string x):=by
      rw [hownk.cellAt k (by omega),List.getElem?_append_right (by simp;omega)];simp [Nat.min_eq_left hk,hx]
     have HSET:=Nm.hide (set_small hx);go_wp2_with (go_at_call 61;refine(l01Small_any x _ (by omega)).mono ?_;rintro e w3 ⟨rfl,hbel3⟩;have hown3:=hownk.kept (w':=w3) (row:=none) ⟨hbel3.os,hbel3.tape,hbel3.output,hbel3.size,fun k hk _=>hbel3.block k hk⟩ (.inr (by simp [Value.ownBlock]));have hst:=hown3.stored k (.string (Nm.small x));rw [HSET.out] at hst;have hfz:=hown3.frozenAt k;have hc3:w3.cell? ⟨g,k,none⟩=some (.string x):=(hbel3.cell (World.block_lt_of_cell? wr _ hcx)).trans hcx;have HR:=Nm.hide hst;have HB:Hid (Below w.heap.size w (w3.setCell ⟨g,k,none⟩ (.string (Nm.small x)))):=(hbelk.trans (hbel3.mono hszk)).setCell hwg _;clear hst hown3)
     go_roundw
     case rel=>exact⟨k+1,by omega,by go_num,HR.out.1,HB.out⟩
     case measure=>simp [intOf];omega
    ·have hkl:k=ls.length:=by omega
     subst hkl
     have hr:Nm.SRow wr (.slice (some ⟨g,0,none⟩) ls.length cap) (ls.map Nm.small):=by
      apply Nm.SRow.of_owns (B:=w.heap.size) (e:=9);simpa [Function.comp_def] using hownk
     have hws:=Nm.wsum_small ls;clear hownk hlt;go_wp2_with (go_at_call 16;refine(l01Join_any _ (ls.map Nm.small) _ hr (by omega)).mono ?_;rintro e w2 ⟨rfl,hbel2⟩)
     go_ret;rw [HA.out,<- HJ.out];exact⟨rfl,Nm.below_two hbelk hbel2⟩
end Go.Proofs.YtfmolgdfjklmpaaGreat
namespace Go.Proofs.YtfmolgdfjklmpaaGreat
open Go.RowKit
set_option linter.unusedVariables false
structure It where
 r:Rr
 fo:ByteArray
 dt:ByteArray
 out:Bool
def itC(x:It):List Value:=[.string x.r.own,.int .i64 x.r.ty,.int .i64 x.r.cl,.int .i64 x.r.tt,.string x.r.da,.string x.fo,.string x.dt,.bool x.out]
def itCs(l:List It):List Value:=l.flatMap itC
theorem itCs_snoc(l:List It)(x:It):itCs (l++[x])=itCs l++itC x:=by simp [itCs]
theorem itCs_len(l:List It):(itCs l).length=l.length*8:=by
 induction l with
 |nil=>rfl
 |cons x l ih=>
  have e:itCs (x::l)=itC x++itCs l:=by simp [itCs]
  rw [e,List.length_append,ih];simp [itC]
  omega
theorem itCs_at:∀ (xs:List It) (k j:Nat) (x:It),xs[k]? =some x->j<8->(itCs xs)[k*8+j]? =(itC x)[j]? :=by
 intro xs
 induction xs with
 |nil=>intro k j x h;simp at h
 |cons y xs ih=>
  intro k j x h hj;have e:itCs (y::xs)=itC y++itCs xs:=by simp [itCs]
  have hl:(itC y).length=8:=rfl
  cases k with
  |zero=>
   simp at h;subst h
   rw [e,Nat.zero_mul,Nat.zero_add,List.getElem?_append_left (by omega)]
  |succ k=>
   simp at h;rw [e,List.getElem?_append_right (by omega),hl,show(k+1)*8+j-8=k*8+j by omega];exact ih k j x h hj
def hasI(l:List It)(fo:ByteArray)(t:Int):Bool:=l.any fun x=> !x.out&&decide (x.fo=fo)&&decide (x.r.ty=t)
def firstI(p:Nat->It->Bool)(l:List It):Option Nat:=(List.range l.length).find? fun i=>match l[i]? with
 |some x=>p i x
 |none=>false
theorem firstI_at{p:Nat->It->Bool}{l:List It}{k:Nat}{x:It}(hno:∀ i,i<k->∀ y,l[i]? =some y->p i y=false)(hk:l[k]? =some x)(hp:p k x=true):firstI p l=some k:=by
 have hlt:=(List.getElem?_eq_some_iff.1 hk).1;rw [firstI,List.find?_eq_some_iff_getElem];refine⟨by rw [hk];exact hp,k,by simpa using hlt,by simp,fun j hj=>?_⟩;have hjl:j<l.length:=by omega
 simp only [List.getElem_range];rw [List.getElem?_eq_getElem hjl];simp [hno j hj _ (List.getElem?_eq_getElem hjl)]
theorem firstI_no{p:Nat->It->Bool}{l:List It}(hno:∀ i,i<l.length->∀ y,l[i]? =some y->p i y=false):firstI p l=none:=by
 rw [firstI,List.find?_eq_none];intro i hi;simp at hi;rw [List.getElem?_eq_getElem hi];simp [hno i hi _ (List.getElem?_eq_getElem hi)]
def starB(s:ByteArray):Bool:=decide (1<s.size)&&decide (s.extract 0 2=⟨#[1,42]⟩)
def rulesI(l:List It)(fo:ByteArray):Int×Int:=
 match firstI (fun i x=> !x.out&&decide (x.r.ty=6)&&(decide (x.fo≠fo)||hasI (l.take i) fo 6)) l with
 |some i=>(20,i)
 |none=>if !hasI l fo 6 then(20,-1) else if !hasI l fo 2 then(21,-1) else
  match firstI (fun _ x=> !x.out&&starB x.fo&&(decide (x.r.ty=2)||decide (x.r.ty=39))) l with
  |some i=>(26,i)
  |none=>match firstI (fun i x=> !x.out&&(decide (x.r.ty=5)||decide (x.r.ty=39))&&hasI (l.take i) x.fo x.r.ty) l with
   |some i=>(23,i)
   |none=>match firstI (fun _ x=> !x.out&&decide (x.r.ty≠5)&&decide (x.r.ty≠47)&&hasI l x.fo 5) l with
    |some i=>(23,i)
    |none=>match firstI (fun _ x=> !x.out&&l.any fun y=> !y.out&&decide (y.r.ty=39)&&decide (y.fo≠x.fo)&&isUnderS x.fo y.fo) l with
     |some i=>(25,i)
     |none=>(0,0)
def RB(w:World)(g:Nat)(r:Rr):Prop:=w.cell? ⟨g,0,none⟩=some (.string r.own)∧w.cell? ⟨g,1,none⟩=some (.int .i64 r.ty)∧w.cell? ⟨g,2,none⟩=some (.int .i64 r.cl)∧w.cell? ⟨g,3,none⟩=some (.int .i64 r.tt)∧w.cell? ⟨g,4,none⟩=some (.string r.da)
theorem RB.below{w W:World}{g:Nat}{r:Rr}(h:RB w g r)(hb:Below w.heap.size w W):RB W g r:=by
 obtain⟨a,b,c,d,e⟩:=h;have put:∀ {O:Nat} {z:Value},w.cell? ⟨g,O,none⟩=some z->W.cell? ⟨g,O,none⟩=some z:=fun h=>(hb.cell (World.block_lt_of_cell? w _ h)).trans h
 exact⟨put a,put b,put c,put d,put e⟩
theorem RB.new(w:World)(r:Rr)(t:Nat):RB (w.alloc (.cells #[.string r.own,.int .i64 r.ty,.int .i64 r.cl,.int .i64 r.tt,.string r.da] t)) w.heap.size r:=by
 refine⟨?_,?_,?_,?_,?_⟩<;>simp
end Go.Proofs.YtfmolgdfjklmpaaGreat
namespace Go.Proofs.YtfmolgdfjklmpaaGreat
open Go.RowKit
set_option maxRecDepth 100000 in
set_option maxHeartbeats 400000 in
theorem specNameOK_any(s:ByteArray)(w:World)(hs:s.size<=maxLen):
 Calls Tryz.prog 22 #[.string s] w fun e w'=>e=.returned (.bool (Nm.split s).isSome)∧Below w.heap.size w w':=by
 go_enter Tryz.func22,Tryz.ntmps22;go_wp2_with (go_at_call 14;refine(l01Split_any s _ hs).mono ?_;rintro e w1 ⟨v,rfl,hown,hbel⟩)
 go_ret;exact⟨rfl,by assumption⟩
end Go.Proofs.YtfmolgdfjklmpaaGreat
namespace Go.Proofs.YtfmolgdfjklmpaaGreat
open Go.RowKit
set_option linter.unusedVariables false
set_option maxRecDepth 100000 in
set_option maxHeartbeats 400000 in
theorem l04In_any(n m:Int)(w:World):Calls Tryz.prog 58 #[.int .i64 n,.int .i64 m] w fun e w'=>e=.returned (.bool (decide (0<=n)&&decide (n<=m)))∧w'=w:=by
 by_cases h0:0<=n
 ·by_cases h1:n<=m
  ·have e:(decide (0<=n)&&decide (n<=m))=true:=by simp [h0,h1]
   rw [e];clear e;go_enter Tryz.func58,Tryz.ntmps58;go_wp2;go_ret;exact⟨rfl,rfl⟩
  ·have h1':m<n:=by omega
   have e:(decide (0<=n)&&decide (n<=m))=false:=by simp [h0,h1]
   rw [e];clear e;go_enter Tryz.func58,Tryz.ntmps58;go_wp2;go_ret;exact⟨rfl,rfl⟩
 ·have h0':n<0:=by omega
  have e:(decide (0<=n)&&decide (n<=m))=false:=by simp [h0]
  rw [e];clear e;go_enter Tryz.func58,Tryz.ntmps58;go_wp2;go_ret;exact⟨rfl,rfl⟩
end Go.Proofs.YtfmolgdfjklmpaaGreat
namespace Go.Proofs.YtfmolgdfjklmpaaGreat
open Go.RowKit
theorem nok_true{s:ByteArray}(h:(Nm.split s).isSome=true):Dt.sz .nm s=some s.size:=by
 obtain⟨h1,h2⟩:=(Dt.name_iff s).1 h;rw [Dt.sz,if_neg h1,h2]
theorem nok_false{s:ByteArray}(h:(Nm.split s).isSome=false):Dt.sz .nm s=none∨∃ n,Dt.sz .nm s=some n∧n≠s.size:=by
 by_cases h0:(Dt.nameAtS s).size=0
 ·left;rw [Dt.sz,if_pos h0]
 ·right;refine⟨_,by rw [Dt.sz,if_neg h0],?_⟩;intro e;rw [(Dt.name_iff s).2 ⟨h0,e⟩] at h;simp at h
set_option maxRecDepth 100000 in
set_option maxHeartbeats 400000 in
theorem implNameOK_same(s:ByteArray)(w:World):
 Calls Tryz.prog 128 #[.string s] w fun e w'=>e=.returned (.bool (Nm.split s).isSome)∧w'=w:=by
 have hcall:=nameSize_any s
 cases hq:(Nm.split s).isSome with
 |true=>
  rw [nok_true hq] at hcall;simp only [szV,Option.getD_some,Option.isSome_some] at hcall;clear hq;go_enter Tryz.func128,Tryz.ntmps128;go_wp2_with (go_at_call 158;refine(hcall _).mono ?_;rintro e w1 ⟨rfl,rfl⟩)
  go_ret
  exact⟨rfl,rfl⟩
 |false=>
  rcases nok_false hq with h|⟨n,h,hn⟩
  ·rw [h] at hcall;simp only [szV,Option.getD_none,Option.isSome_none] at hcall;clear hq h;go_enter Tryz.func128,Tryz.ntmps128;go_wp2_with (go_at_call 158;refine(hcall _).mono ?_;rintro e w1 ⟨rfl,rfl⟩)
   go_ret;exact⟨rfl,rfl⟩
  ·rw [h] at hcall;simp only [szV,Option.getD_some,Option.isSome_some] at hcall;have hb:((n:Int)==(s.size:Int))=false:=by rw [beq_eq_false_iff_ne];omega
   have hb2:(n==s.size)=false:=by rw [beq_eq_false_iff_ne];omega
   clear hq h;go_enter Tryz.func128,Tryz.ntmps128;go_wp2_with (go_at_call 158;refine(hcall _).mono ?_;rintro e w1 ⟨rfl,rfl⟩)
   go_ret;exact⟨rfl,rfl⟩
theorem implNameOK_any(s:ByteArray)(w:World)(_:s.size<=maxLen):
 Calls Tryz.prog 128 #[.string s] w fun e w'=>e=.returned (.bool (Nm.split s).isSome)∧Below w.heap.size w w':=by
 refine(implNameOK_same s w).mono ?_;rintro e w' ⟨rfl,rfl⟩;exact⟨rfl,Below.refl _ _⟩
end Go.Proofs.YtfmolgdfjklmpaaGreat
namespace Go.Proofs.YtfmolgdfjklmpaaGreat
open Go
section
variable {P:Program}{ops:Array Oper}{Q:Exit->Act->World->Prop}{md:Region.Mode}{S:World->Prop}{Ls:List Nat}
def wpAnyS(P:Program)(md:Region.Mode)(ops:Array Oper)(Q:Exit->Act->World->Prop)(S:World->Prop)(Ls:List Nat):Nat->Array Bool->Act->World->Prop
 |0,listed,a,w=>Region.ready md ops listed=[]∧Q .normal a w
 |fuel+1,listed,a,w=>
  (Region.ready md ops listed=[]->Q .normal a w)∧
  ∀ i∈Region.ready md ops listed,wpOp P ops Q i (fun a' w'=>(i∈Ls∨S w')∧wpAnyS P md ops Q S Ls fuel (listed.setIfInBounds i true) a' w') a w
theorem wpAny_of_S:∀ (fuel:Nat) (listed:Array Bool) (a:Act) (w:World),wpAnyS P md ops Q S Ls fuel listed a w->wpAny P md ops Q fuel listed a w
 |0,_,_,_,h=>h
 |fuel+1,_,_,_,h=>⟨h.1,fun i hi=>wpOp_mono (fun a' w' h'=>wpAny_of_S fuel _ a' w' h'.2) (h.2 i hi)⟩
theorem late_waits{listed:Array Bool}{i j:Nat}(hL:Ls.all (fun L=>waitsFor md ops L i)=true)(hi:i∈Region.ready md ops listed)(hj:j∈Region.ready md ops listed):j∉Ls:=fun h=>last_waits (List.all_eq_true.1 hL j h) hi hj rfl
theorem wpAnyS_first{i:Nat}{oi:Oper}{v:Value}(hi:ops[i]? =some oi)(hsel:∀ (j:Nat) (o:Oper) cs b,ops[j]? =some o->o.op≠ .select cs b)
 (hQ:∀ c a w,Q (.panic c) (a.put oi.dst v) w->Q (.panic c) a w) (hL:Ls.all (fun L=>waitsFor md ops L i)=true) (fuel:Nat):
 ∀ (listed:Array Bool) (a:Act) (w:World),Untouched md ops oi i listed->i∈Region.ready md ops listed->YieldsIf P ops S oi v a->S w->
   wpAnyS P md ops Q S Ls fuel (listed.setIfInBounds i true) (a.put oi.dst v) w->wpAnyS P md ops Q S Ls (fuel+1) listed a w:=by
 induction fuel with
 |zero=>
  intro listed a w _ hr hy hS H;refine⟨fun h=>absurd (h▸hr) (by simp),fun j hj=>?_⟩
  rcases Nat.decEq j i with hne|rfl
  ·exact absurd (H.1▸ready_mono hj hne) (by simp)
  ·exact hy.wpOp hi hS ⟨.inr hS,H⟩
 |succ fuel ih=>
  intro listed a w hun hr hy hS H;refine⟨fun h=>absurd (h▸hr) (by simp),fun j hj=>?_⟩
  rcases Nat.decEq j i with hne|rfl
  ·obtain⟨hju,oj,hoj,_⟩:=mem_ready.1 hj;have hstep:=wpOp_putIf hoj (hun j oj hoj hne hju (ready_free hr hj hoj)) (fun cs b=>hsel i oi cs b hi) (fun cs b=>hsel j oj cs b hoj) hQ hy (H.2 j (ready_mono hj hne));refine wpOp_mono (fun a' w' ⟨hy',hS',hW⟩=>?_) hstep;have hSw:=hS'.resolve_left (late_waits hL hr hj);exact⟨.inr hSw,ih _ a' w' (hun.more hju) (ready_mono hr (Ne.symm hne)) hy' hSw (by rw [Array.setIfInBounds_comm _ _ hne];exact hW)⟩
  ·exact hy.wpOp hi hS ⟨.inr hS,H⟩
theorem wpAnyS_take{i:Nat}{oi:Oper}{v:Value}{fuel:Nat}{listed:Array Bool}{a:Act}{w:World}(hi:ops[i]? =some oi)
 (hs:Region.noSelect ops=true) (hf:Region.free md ops listed i=true) (hr:(Region.ready md ops listed).contains i=true) (hL:Ls.all (fun L=>waitsFor md ops L i)=true)
 (hQ:∀ c a w,Q (.panic c) (a.put oi.dst v) w->Q (.panic c) a w) (hy:YieldsIf P ops S oi v a) (hS:S w)
 (h:wpAnyS P md ops Q S Ls fuel (listed.setIfInBounds i true) (a.put oi.dst v) w):wpAnyS P md ops Q S Ls (fuel+1) listed a w:=
 wpAnyS_first hi (Region.noSelect_spec hs) hQ hL fuel listed a w (Region.free_spec hi hf) (by simpa using hr) hy hS h
theorem wpAnyS_one{i:Nat}{o:Oper}{fuel:Nat}{listed:Array Bool}{a:Act}{w:World}(hr:Region.ready md ops listed=[i])(ho:ops[i]? =some o)
 (h:∀ K':Act->World->Prop,Shut (∀ a w,S w->(S w->wpAnyS P md ops Q S Ls fuel (listed.setIfInBounds i true) a w)->K' a w)->if Region.wanted o (yielded ops a.tmps)=true then Oper.wp P o a w K' Q else K' (a.put o.dst undef) w):
 wpAnyS P md ops Q S Ls (fuel+1) listed a w:=by
 refine⟨fun h0=>(by rw [hr] at h0;cases h0),fun j hj=>?_⟩;rw [hr] at hj;obtain rfl:j=i:=by simpa using hj
 exact wpOp_step ho (fun K' hK=>h K' (fun a w hS hW=>hK a w ⟨.inr hS,hW hS⟩))
theorem wpAnyS_late{i:Nat}{o:Oper}{fuel:Nat}{listed:Array Bool}{a:Act}{w:World}(hr:Region.ready md ops listed=[i])(ho:ops[i]? =some o)(hl:Ls.contains i=true)
 (h:∀ K':Act->World->Prop,Shut (∀ a w,wpAnyS P md ops Q S Ls fuel (listed.setIfInBounds i true) a w->K' a w)->if Region.wanted o (yielded ops a.tmps)=true then Oper.wp P o a w K' Q else K' (a.put o.dst undef) w):
 wpAnyS P md ops Q S Ls (fuel+1) listed a w:=by
 refine⟨fun h0=>(by rw [hr] at h0;cases h0),fun j hj=>?_⟩;rw [hr] at hj;obtain rfl:j=i:=by simpa using hj
 exact wpOp_step ho (fun K' hK=>h K' (fun a w hW=>hK a w ⟨.inl (by simpa using hl),hW⟩))
theorem wpAnyS_done{fuel:Nat}{listed:Array Bool}{a:Act}{w:World}(hr:Region.ready md ops listed=[])(hq:Q .normal a w):wpAnyS P md ops Q S Ls fuel listed a w:=by
 cases fuel with
 |zero=>exact⟨hr,hq⟩
 |succ n=>exact⟨fun _=>hq,by rw [hr];intro i hi;cases hi⟩
theorem wp_region_S{id:Nat}{a:Act}{w:World}(S:World->Prop)(Ls:List Nat)(hm:P.follows .mixedOrders=true)(hS:S w.drew)
 (h:S w.drew->wpAnyS P .any ops Q S Ls ops.size (Array.replicate ops.size false) a w.drew):(Code.region id ops true).wp P Q a w:=
 wp_region_any hm (wpAny_of_S _ _ _ _ (h hS))
end
end Go.Proofs.YtfmolgdfjklmpaaGreat
namespace Go.Proofs.YtfmolgdfjklmpaaGreat
open Go.RowKit Go.Shelf
set_option linter.unusedVariables false
attribute [local go_sem] Oper.semAt_some
set_option maxRecDepth 100000 in
set_option maxHeartbeats 2000000 in
theorem all1L_in{α:Type}(ka:α->Option Addr)(kn kc:α->Nat)(vf:α->Addr)(F:Fence)(n:Nat)(h7:F.fn 123)(hro:F.round=none)(hn:1<=n)(l tb g n₀ b off cap:Nat)(cmpv:Value)(zs:List α)(hl:zs.length<=1000000)(hcap:zs.length<=cap∧cap<=maxLen)(hb:b<n₀)(J Jx:List α->World->Prop)
 (hJ:∀ s W W',J s W->W.grownBy W' none->J s W')
 (hY:∀ pre x W,J pre W->pre.length<zs.length->YieldAt F (n-1) Tryz.prog l #[(Value.slice (ka x) (kn x) (kc x)),(Value.pointer (some (vf x)))] W fun e W'=>
  (e=.returned (.bool true)∧J (pre++[x]) W'∧Below n₀ W W')∨(e=.returned (.bool false)∧Jx (pre++[x]) W'))
 (W:World) (kb:W.cell? ⟨tb,0,none⟩=some (.pointer (some ⟨g,0,none⟩))) (kg:W.cell? ⟨g,1,none⟩=some (.slice (some ⟨b,off,none⟩) zs.length cap))
 (hc:∀ (i:Nat) (x:α),zs[i]? =some x->W.cell? ⟨b,off+i*2,none⟩=some (Value.slice (ka x) (kn x) (kc x))∧W.cell? ⟨b,off+i*2+1,none⟩=some (Value.pointer (some (vf x)))) (hn₀:n₀<=W.heap.size) (h0:J [] W):
 CallsIn F n Tryz.prog 123 #[.func (.yield l) #[] #[],.pointer (some ⟨tb,0,none⟩)] W fun e W'=>(∃ v,e=.returned v)∧
  ((∃ ys,ys=zs∧J ys W')∨(∃ pre,pre<+:zs∧Jx pre W')):=by
 obtain⟨hcap1,hcap2⟩:=hcap;unfold maxLen at hcap2;refine callsIn_of_wp Tryz.func123 rfl h7 ?_ hro;simp only [Tryz.ntmps123,List.size_toArray,List.length_cons,List.length_nil,Nat.reduceAdd,Nat.reduceSub,Array.replicate_succ,Array.replicate_zero,List.push_toArray,List.append_toArray,List.nil_append,List.cons_append]
 gi_wp2
 gi_loopw [10] (fun i wr=>∃ k:Nat,k<=zs.length∧i=.int .i64 k∧J (zs.take k) wr∧Below n₀ W wr)
  (fun i _=>zs.length-(intOf i).toNat)
 case atStart=>exact⟨0,Nat.zero_le _,rfl,by simpa using h0,Below.refl _ _⟩
 case round=>
  obtain⟨k,hk,rfl,hJs,hnx⟩:=hrel
  by_cases hlt:k<zs.length
  ·obtain⟨x,hx⟩:∃ x,zs[k]? =some x:=⟨_,List.getElem?_eq_getElem hlt⟩;obtain⟨c0,c1⟩:=hc k x hx;have d0:wr.cell? ⟨b,off+k*2,none⟩=some (Value.slice (ka x) (kn x) (kc x)):=(hnx.cell (p:=⟨b,off+k*2,none⟩) hb).trans c0;have d1:wr.cell? ⟨b,off+k*2+1,none⟩=some (Value.pointer (some (vf x))):=(hnx.cell (p:=⟨b,off+k*2+1,none⟩) hb).trans c1;have hal:∀ o:Obj,wr.grownBy (wr.alloc o) none:=fun o=>⟨rfl,rfl,rfl,by simp,fun q hq _=>heap_alloc_old wr _ hq⟩
   obtain⟨fn,tmps,assign,body,hy,hR⟩:=hY _ x (wr.alloc (.cells #[(Value.slice (ka x) (kn x) (kc x)),(Value.pointer (some (vf x)))] 175)) (hJ _ _ _ hJs (hal _)) (by rw [List.length_take];omega);have n1:(0:Int)<=(k:Int):=by omega
   have n2:(k:Int)<(zs.length:Int):=by omega
   have hbw:Below n₀ W (wr.alloc (.cells #[(Value.slice (ka x) (kn x) (kc x)),(Value.pointer (some (vf x)))] 175)):=hnx.alloc (Nat.le_trans hn₀ hnx.size) _
   have HT:Hid (zs.take (k+1)=zs.take k++[x]):=by
    obtain⟨hk',e⟩:=List.getElem?_eq_some_iff.1 hx;show _=_
    rw [List.take_succ_eq_append_getElem hk',e]
   clear hc c0 c1 hx
   gi_wp2
   refine hR.mono ?_;rintro e W3 (⟨rfl,hJ3,hk3⟩|⟨rfl,hJx3⟩)
   ·gi_wp2
    go_roundw
    case rel=>exact⟨k+1,by omega,by go_num,by rw [HT.out];exact hJ3,hbw.trans hk3⟩
    case measure=>simp [intOf];omega
   ·gi_wp2
    refine bodyPost_ret (results_none rfl _ _ _) rfl ?_;exact⟨⟨_,rfl⟩,.inr ⟨_,by rw [<- HT.out];exact List.take_prefix _ _,hJx3⟩⟩
  ·obtain rfl:k=zs.length:=by omega
   have n2:(zs.length:Int)<=(zs.length:Int):=by omega
   rw [List.take_length] at hJs;clear hc
   gi_wp2
   go_end0
   exact⟨⟨_,rfl⟩,.inl ⟨_,rfl,hJs⟩⟩
end Go.Proofs.YtfmolgdfjklmpaaGreat
namespace Go.Proofs.YtfmolgdfjklmpaaGreat
open Go.RowKit Go.Shelf
set_option linter.unusedVariables false
attribute [local go_sem] Oper.semAt_some
set_option maxRecDepth 100000 in
set_option maxHeartbeats 2000000 in
theorem all1I_in{α:Type}(kf:α->Int)(vf:α->Addr)(F:Fence)(n:Nat)(h7:F.fn 124)(hro:F.round=none)(hn:1<=n)(l tb g n₀ b off cap:Nat)(cmpv:Value)(zs:List α)(hl:zs.length<=1000000)(hcap:zs.length<=cap∧cap<=maxLen)(hb:b<n₀)(J Jx:List α->World->Prop)
 (hJ:∀ s W W',J s W->W.grownBy W' none->J s W')
 (hY:∀ pre x W,J pre W->pre.length<zs.length->YieldAt F (n-1) Tryz.prog l #[(Value.int .i64 (kf x)),(Value.pointer (some (vf x)))] W fun e W'=>
  (e=.returned (.bool true)∧J (pre++[x]) W'∧Below n₀ W W')∨(e=.returned (.bool false)∧Jx (pre++[x]) W'))
 (W:World) (kb:W.cell? ⟨tb,0,none⟩=some (.pointer (some ⟨g,0,none⟩))) (kg:W.cell? ⟨g,1,none⟩=some (.slice (some ⟨b,off,none⟩) zs.length cap))
 (hc:∀ (i:Nat) (x:α),zs[i]? =some x->W.cell? ⟨b,off+i*2,none⟩=some (Value.int .i64 (kf x))∧W.cell? ⟨b,off+i*2+1,none⟩=some (Value.pointer (some (vf x)))) (hn₀:n₀<=W.heap.size) (h0:J [] W):
 CallsIn F n Tryz.prog 124 #[.func (.yield l) #[] #[],.pointer (some ⟨tb,0,none⟩)] W fun e W'=>(∃ v,e=.returned v)∧
  ((∃ ys,ys=zs∧J ys W')∨(∃ pre,pre<+:zs∧Jx pre W')):=by
 obtain⟨hcap1,hcap2⟩:=hcap;unfold maxLen at hcap2;refine callsIn_of_wp Tryz.func124 rfl h7 ?_ hro;simp only [Tryz.ntmps124,List.size_toArray,List.length_cons,List.length_nil,Nat.reduceAdd,Nat.reduceSub,Array.replicate_succ,Array.replicate_zero,List.push_toArray,List.append_toArray,List.nil_append,List.cons_append]
 gi_wp2
 gi_loopw [10] (fun i wr=>∃ k:Nat,k<=zs.length∧i=.int .i64 k∧J (zs.take k) wr∧Below n₀ W wr)
  (fun i _=>zs.length-(intOf i).toNat)
 case atStart=>exact⟨0,Nat.zero_le _,rfl,by simpa using h0,Below.refl _ _⟩
 case round=>
  obtain⟨k,hk,rfl,hJs,hnx⟩:=hrel
  by_cases hlt:k<zs.length
  ·obtain⟨x,hx⟩:∃ x,zs[k]? =some x:=⟨_,List.getElem?_eq_getElem hlt⟩;obtain⟨c0,c1⟩:=hc k x hx;have d0:wr.cell? ⟨b,off+k*2,none⟩=some (Value.int .i64 (kf x)):=(hnx.cell (p:=⟨b,off+k*2,none⟩) hb).trans c0;have d1:wr.cell? ⟨b,off+k*2+1,none⟩=some (Value.pointer (some (vf x))):=(hnx.cell (p:=⟨b,off+k*2+1,none⟩) hb).trans c1;have hal:∀ o:Obj,wr.grownBy (wr.alloc o) none:=fun o=>⟨rfl,rfl,rfl,by simp,fun q hq _=>heap_alloc_old wr _ hq⟩
   obtain⟨fn,tmps,assign,body,hy,hR⟩:=hY _ x (wr.alloc (.cells #[(Value.int .i64 (kf x)),(Value.pointer (some (vf x)))] 182)) (hJ _ _ _ hJs (hal _)) (by rw [List.length_take];omega);have n1:(0:Int)<=(k:Int):=by omega
   have n2:(k:Int)<(zs.length:Int):=by omega
   have hbw:Below n₀ W (wr.alloc (.cells #[(Value.int .i64 (kf x)),(Value.pointer (some (vf x)))] 182)):=hnx.alloc (Nat.le_trans hn₀ hnx.size) _
   have HT:Hid (zs.take (k+1)=zs.take k++[x]):=by
    obtain⟨hk',e⟩:=List.getElem?_eq_some_iff.1 hx;show _=_
    rw [List.take_succ_eq_append_getElem hk',e]
   clear hc c0 c1 hx
   gi_wp2
   refine hR.mono ?_;rintro e W3 (⟨rfl,hJ3,hk3⟩|⟨rfl,hJx3⟩)
   ·gi_wp2
    go_roundw
    case rel=>exact⟨k+1,by omega,by go_num,by rw [HT.out];exact hJ3,hbw.trans hk3⟩
    case measure=>simp [intOf];omega
   ·gi_wp2
    refine bodyPost_ret (results_none rfl _ _ _) rfl ?_;exact⟨⟨_,rfl⟩,.inr ⟨_,by rw [<- HT.out];exact List.take_prefix _ _,hJx3⟩⟩
  ·obtain rfl:k=zs.length:=by omega
   have n2:(zs.length:Int)<=(zs.length:Int):=by omega
   rw [List.take_length] at hJs;clear hc
   gi_wp2
   go_end0
   exact⟨⟨_,rfl⟩,.inl ⟨_,rfl,hJs⟩⟩
end Go.Proofs.YtfmolgdfjklmpaaGreat
namespace Go.Proofs.YtfmolgdfjklmpaaGreat
open Go.RowKit
set_option linter.unusedVariables false
theorem Tryz.infoRRc:(Tryz.prog.info? 33).map (fun i=>(i.zero,i.size,i.bytes))=some (some (.agg #[.string ByteArray.empty,.int .i64 0,.int .i64 0,.int .i64 0,.string ByteArray.empty]),5,56):=by kernel_rfl
structure Only (p:Nat) (w w':World):Prop where
 os:w'.os=w.os
 tape:w'.tape=w.tape
 output:w'.output=w.output
 size:w.heap.size<=w'.heap.size
 block:∀ k,k<w.heap.size->k≠p->w'.heap[k]? =w.heap[k]?
end Go.Proofs.YtfmolgdfjklmpaaGreat
namespace Go.Proofs.YtfmolgdfjklmpaaGreat
open Go.RowKit
theorem mkj_size(ls:List ByteArray):(⟨(Nm.joinL ls).toArray⟩:ByteArray).size=Nm.wsum ls+1:=by
 rw [mk_size,Nm.joinL_length]
theorem wsum_snoc(ls:List ByteArray)(x:ByteArray):Nm.wsum (ls++[x])=Nm.wsum ls+(1+x.size):=by
 rw [Nm.wsum_append];simp [Nm.wsum]
theorem str_step{w w3 wb:World}{g n cap e:Nat}{a:Option Addr}{v vb:Value}{ls:List ByteArray}{x:ByteArray}{o:Obj}
 (hown:w3.ownsRow w.heap.size e 1 v ls.length (ls.map Value.string)) (hsrc:Src w3 g a n cap) (hg:w.grownBy w3 (some g)) (hlt:g<w.heap.size) (hcode:CodeAt w g a n)
 (hown':wb.ownsRow w.heap.size e 1 vb (ls.length+1) (ls.map Value.string++[.string x])) (hgrow:(w3.alloc o).grownBy wb v.ownBlock):
 wb.ownsRow w.heap.size e 1 vb (ls++[x]).length ((ls++[x]).map Value.string)∧Src wb g a n cap∧w.grownBy wb (some g):=by
 have hrow:∀ q,v.ownBlock=some q->w.heap.size<=q:=fun q hq=>(hown.lt q hq).1
 exact⟨by simpa using hown',src_grown (src_below hsrc ((Below.refl _ _).alloc (Nat.le_refl _) _)) hgrow hrow hlt hcode,grown_own (grown_alloc hg _) hgrow hrow⟩
end Go.Proofs.YtfmolgdfjklmpaaGreat
namespace Go.Proofs.YtfmolgdfjklmpaaGreat
open Go.RowKit
set_option linter.unusedVariables false
def RowB(w:World)(a:Option Addr)(len cap:Nat)(zs:List Int):Prop:=
 (a=none∧len=0∧cap=0∧zs=[])∨
 ∃ x,a=some x∧len<=cap∧cap<=maxLen∧zs.length=cap∧(∀ i,i<zs.length->w.cell? (x.add i)=some (.int .u8 (zs.getD i 0)))∧∀ n∈zs,(Lit.int .u8 n).wf=true
theorem u8_wf{z:Int}(h:(Lit.int .u8 z).wf=true):((UInt8.ofNat z.toNat).toNat:Int)=z:=by
 have h2:=bounds_u8 h;simp
 omega
theorem rowB{w:World}{a:Option Addr}{n cap:Nat}{zs:List Int}(h:RowB w a n cap zs):∃ l:List UInt8,l.length=n∧CRow w (.slice a n cap) n 1 (Nm.bys l):=by
 rcases h with⟨rfl,rfl,rfl,rfl⟩|⟨x,rfl,hl,hm,hz,hc,hw⟩
 ·exact⟨[],rfl,rfl,none,0,rfl,Nat.le_refl _,by decide,fun h=>by omega⟩
 ·have hlen:((zs.take n).map (fun z=>UInt8.ofNat z.toNat)).length=n:=by simp;omega
  refine⟨(zs.take n).map (fun z=>UInt8.ofNat z.toNat),hlen,by rw [Nm.bys_length,hlen,Nat.mul_one],some x,cap,rfl,hl,hm,fun hp=>?_⟩
  have hs:x.spot=none:=by
   have:=World.cell?_spot (hc 0 (by omega));simpa [Addr.add] using this
  obtain⟨b,off,sp⟩:=x;simp only at hs
  subst hs;refine⟨b,off,rfl,fun i y hy=>?_⟩
  have hi:i<n:=by
   have:=(List.getElem?_eq_some_iff.1 hy).1
   rwa [Nm.bys_length,hlen] at this
  rw [<- Nm.addr_add,hc i (by omega),<- hy];have hz:zs[i]? =some (zs.getD i 0):=by rw [List.getD_eq_getElem?_getD,List.getElem?_eq_getElem (by omega)];rfl
  rw [Nm.bys,List.getElem?_map,List.getElem?_map,List.getElem?_take,if_pos hi,hz];simp only [Option.map_some];rw [u8_wf (hw _ (List.mem_of_getElem? hz))]
theorem Tryz.infoBy:(Tryz.prog.info? 5).map (fun i=>(i.zero,i.size,i.bytes))=some (some (.int .u8 0),1,1):=by kernel_rfl
abbrev BySl(w:World)(v:Value)(l:List UInt8):Prop:=CRow w v l.length 1 (Nm.bys l)
theorem wpList_app_ran{P:Program}{ops:Array Oper}{rest:List Oper}{o:Oper}{a:Act}{w:World}{Q:Exit->Act->World->Prop}(hgd:o.guard=none)(s x:Operand)(t t2:TypeId)
 (ho:o.op=.call {callee:=.builtin .append,args:=#[s,x],argTypes:=#[t,t2]}) (v u v':Value) (w':World) (hs:a.eval s=v) (hx:a.eval x=u)
 (hr:(Builtin.append_ #[t,t2] o.type #[v,u]).run P w=.ok v' w') (h:wpList P ops Q rest (a.put o.dst v') w'):wpList P ops Q (o::rest) a w:=
 wpList_plain hgd fun _ hK=>by
  unfold Oper.wp execOp;simp only [ho,resolve,invoke,builtin,Sem.run_bind,Sem.run_pure,Result.andThen_ok,List.map_toArray,List.map_cons,List.map_nil,hs,hx,hr];exact hK _ _ h
end Go.Proofs.YtfmolgdfjklmpaaGreat
namespace Go.Proofs.YtfmolgdfjklmpaaGreat
open Go.RowKit
end Go.Proofs.YtfmolgdfjklmpaaGreat
namespace Go.Proofs.YtfmolgdfjklmpaaGreat
open Go.RowKit
set_option linter.unusedVariables false
abbrev Wd:=BitVec 32
def wV(x:Wd):Value:=.int .u32 (x.toNat:Int)
def turnW(x:Wd)(n:Nat):Wd:=(x>>>n)|||(x<<<(32-n))
def s0W(x:Wd):Wd:=turnW x 7 ^^^ turnW x 18 ^^^ (x>>>3)
def s1W(y:Wd):Wd:=turnW y 17 ^^^ turnW y 19 ^^^ (y>>>10)
def wF(m:Nat->Wd)(i:Nat):Wd:=if h:i<16 then m i else wF m (i-16)+s0W (wF m (i-15))+wF m (i-7)+s1W (wF m (i-2))
structure Sv where
 a:Wd
 b:Wd
 c:Wd
 d:Wd
 e:Wd
 f:Wd
 g:Wd
 h:Wd
def H0:Sv:=⟨1779033703,3144134277,1013904242,2773480762,1359893119,2600822924,528734635,1541459225⟩
def wA(m:Nat->Wd)(i:Nat):Array Value:=((List.range 64).map fun j=>if j<i then wV (wF m j) else .int .u32 0).toArray
end Go.Proofs.YtfmolgdfjklmpaaGreat
namespace Go.Proofs.YtfmolgdfjklmpaaGreat
open Go.RowKit
set_option linter.unusedVariables false
end Go.Proofs.YtfmolgdfjklmpaaGreat
namespace Go.Proofs.YtfmolgdfjklmpaaGreat
open Go.RowKit
set_option linter.unusedVariables false
end Go.Proofs.YtfmolgdfjklmpaaGreat
namespace Go.Proofs.YtfmolgdfjklmpaaGreat
open Go.RowKit
end Go.Proofs.YtfmolgdfjklmpaaGreat
namespace Go.Proofs.YtfmolgdfjklmpaaGreat
open Go.RowKit
def put2(n:Nat):List UInt8:=[UInt8.ofNat (n / 256),UInt8.ofNat (n % 256)]
end Go.Proofs.YtfmolgdfjklmpaaGreat
namespace Go.Proofs.YtfmolgdfjklmpaaGreat
abbrev pointed(t:Nat):Prop:=t=2∨t=5∨t=6∨t=12∨t=15
end Go.Proofs.YtfmolgdfjklmpaaGreat
namespace Go.Proofs.YtfmolgdfjklmpaaGreat
open Go.RowKit
set_option linter.unusedVariables false
end Go.Proofs.YtfmolgdfjklmpaaGreat
