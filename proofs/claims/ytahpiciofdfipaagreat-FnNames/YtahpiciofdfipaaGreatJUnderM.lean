import Derived.Test.YtahpiciofdfipaaGreatJSameM
import Derived.Test.YtahpiciofdfipaaGreatJCmpM
import Derived.Test.YtahpiciofdfipaaGreatJTrM
import Derived.Deep.QuietTactic
import Derived.BigQuiet
import Derived.Test.YtahpiciofdfipaaGreatJMath
import Derived.WalkKit
import Derived.Test.YtahpiciofdfipaaGreatJOwnT
import Derived.Test.YtahpiciofdfipaaGreatRows
import Derived.WalkSpells
import Derived.WalkLawsBesides
import Derived.Test.YtahpiciofdfipaaGreatJData1
import Derived.Maps.AppendAt
import Derived.Laws.IdiomCopy
import Derived.Laws.CopyOwn
import Derived.Lib.AppendStr
namespace Go.Proofs.YtahpiciofdfipaaGreat
open Go.RowKit
theorem splitF_of:∀ (zs:List ByteArray) (f:Nat) (r:ByteArray),r.data.toList=Nm.joinL zs->(∀ x∈zs,1<=x.size∧x.size<=63)->r.size<f->Nm.splitF f r=some zs:=by
 intro zs
 induction zs with
 |nil=>
  intro f r hd _ hf;have hsz:r.size=1:=by have:=congrArg List.length hd;simpa [Nm.joinL,Nm.preL] using this
  have hp:0<r.size:=by omega
  have h0:r[0].toNat=0:=by
   have e:=Nm.get_data hp;rw [hd] at e;have:r[0]=0:=by simpa [Nm.joinL,Nm.preL] using e.symm
   rw [this];rfl
  obtain⟨g,rfl⟩:∃ g,f=g+1:=⟨f-1,by omega⟩
  exact Nm.splitF_end g r hp h0 hsz
 |cons x t ih=>
  intro f r hd hx hf;have hx0:=hx x List.mem_cons_self
  have hlen:r.size=(1+x.size)+Nm.wsum t+1:=by
   have:=congrArg List.length hd;rw [Nm.joinL_length] at this;simp only [Nm.wsum] at this;simpa using this
  have hp:0<r.size:=by omega
  have e0:r[0]=UInt8.ofNat x.size:=by
   have e:=Nm.get_data hp;rw [hd] at e;simpa [Nm.joinL,Nm.preL] using e.symm
  have hn:r[0].toNat=x.size:=by rw [e0];simp;omega
  have hd2:r.data.toList=UInt8.ofNat x.size::(x.data.toList++Nm.joinL t):=by rw [hd];simp [Nm.joinL,Nm.preL]
  have xl:x.data.toList.length=x.size:=by simp
  have c1:r.extract 1 (x.size+1)=x:=by
   apply Nm.ba_ext;have e1:(r.extract 1 (x.size+1)).data.toList=(r.data.toList.drop 1).take x.size:=by simp
   rw [e1,hd2,List.drop_succ_cons,List.drop_zero,<- xl,List.take_left]
  have c2:(r.extract (x.size+1) r.size).data.toList=Nm.joinL t:=by
   have e2:(r.extract (x.size+1) r.size).data.toList=(r.data.toList.drop 1).drop x.size:=by
    simp only [ByteArray.data_extract,Array.toList_extract,List.drop_drop];rw [List.extract_eq_take_drop,List.take_of_length_le (by simp)];congr 1;omega
   rw [e2,hd2,List.drop_succ_cons,List.drop_zero,<- xl,List.drop_left]
  obtain⟨g,rfl⟩:∃ g,f=g+1:=⟨f-1,by omega⟩;rw [Nm.splitF_step g r hp (by omega) (by omega) (by omega),hn,c1,ih g _ c2 (fun y hy=>hx y (List.mem_cons_of_mem _ hy)) (by simp;omega)];rfl
theorem split_of_join{zs:List ByteArray}(h:∀ x∈zs,1<=x.size∧x.size<=63)(hw:Nm.wsum zs<=254):Nm.split ⟨(Nm.joinL zs).toArray⟩=some zs:=by
 have hsz:(ByteArray.mk (Nm.joinL zs).toArray).size=Nm.wsum zs+1:=by
  show(Nm.joinL zs).toArray.size=_
  rw [List.size_toArray,Nm.joinL_length]
 rw [Nm.split_short _ (by omega)];exact splitF_of zs 256 _ (by simp) h (by omega)
theorem ordS_zero(x y:ByteArray):Nm.ordS x y=0↔Nm.small x=Nm.small y:=by
 rw [Nm.ordS,ordL_zero];constructor
 ·intro h;apply Nm.ba_ext;rw [Nm.small_data,Nm.small_data,h]
 ·intro h;rw [<- Nm.small_data,<- Nm.small_data,h]
theorem cmpRev_zero:∀ (a b:List ByteArray),Nm.cmpRev a b=0↔a.map Nm.small=b.map Nm.small:=by
 intro a
 induction a with
 |nil=>
  intro b
  cases b with
  |nil=>simp [Nm.cmpRev]
  |cons y b=>simp [Nm.cmpRev]
 |cons x a ih=>
  intro b
  cases b with
  |nil=>simp [Nm.cmpRev]
  |cons y b=>
   rw [Nm.cmpRev]
   by_cases h:Nm.ordS x y=0
   ·rw [if_pos h,ih b];simp [(ordS_zero x y).1 h]
   ·rw [if_neg h];have hne:Nm.small x≠Nm.small y:=fun e=>h ((ordS_zero x y).2 e)
    simp [h,hne]
theorem cmpLs_zero(a b:List ByteArray):Nm.cmpLs a b=0↔a.map Nm.small=b.map Nm.small:=by
 rw [Nm.cmpLs,cmpRev_zero,List.map_reverse,List.map_reverse];constructor
 ·intro h;exact List.reverse_inj.1 h
 ·intro h;rw [h]
theorem smallL_joinL{zs:List ByteArray}(h:∀ x∈zs,1<=x.size∧x.size<=63):Nm.smallL (Nm.joinL zs)=Nm.joinL (zs.map Nm.small):=by
 simp only [Nm.joinL];rw [Nm.preL_small zs (fun x hx=>(h x hx).2)];simp [Nm.smallL,Nm.low]
theorem join_inj{a b:List ByteArray}(ha:∀ x∈a,1<=x.size∧x.size<=63)(hb:∀ x∈b,1<=x.size∧x.size<=63)(wa:Nm.wsum a<=254)(wb:Nm.wsum b<=254)(h:Nm.joinL a=Nm.joinL b):a=b:=by
 have h1:=split_of_join ha wa;have h2:=split_of_join hb wb;rw [h] at h1;rw [h1] at h2;exact Option.some.inj h2
theorem small_ok{zs:List ByteArray}(h:∀ x∈zs,1<=x.size∧x.size<=63):∀ x∈zs.map Nm.small,1<=x.size∧x.size<=63:=by
 intro x hx;obtain⟨y,hy,rfl⟩:=List.mem_map.1 hx;rw [Nm.small_size];exact h y hy
def underB(xs ys:List ByteArray):Bool:=decide (ys.length<=xs.length)&&decide (Nm.cmpLs (xs.drop (xs.length-ys.length)) ys=0)
theorem ord_join{zs ys:List ByteArray}{b:ByteArray}(hz:∀ x∈zs,1<=x.size∧x.size<=63)(wz:Nm.wsum zs<=254)(hb:Nm.split b=some ys):
 Nm.ordS ⟨(Nm.joinL zs).toArray⟩ b=0↔Nm.cmpLs zs ys=0:=by
 obtain⟨hj,hy⟩:=Nm.split_join hb;obtain⟨wy,wy2⟩:=Nm.split_size hb;rw [Nm.ordS,ordL_zero,cmpLs_zero];simp only
 rw [<- hj,smallL_joinL hz,smallL_joinL hy];constructor
 ·intro h;exact join_inj (small_ok hz) (small_ok hy) (by rw [Nm.wsum_small];omega) (by rw [Nm.wsum_small];omega) h
 ·intro h;rw [h]
def isUnderS(a b:ByteArray):Bool:=
 match Nm.split a,Nm.split b with
 |some xs,some ys=>underB xs ys
 |_,_=>false
theorem isUnder_left{a b:ByteArray}(h:Nm.split a=none):isUnderS a b=false:=by simp [isUnderS,h]
theorem isUnder_right{a b:ByteArray}(h:Nm.split b=none):isUnderS a b=false:=by
 cases ha:Nm.split a<;>simp [isUnderS,h,ha]
theorem isUnder_some{a b:ByteArray}{xs ys:List ByteArray}(ha:Nm.split a=some xs)(hb:Nm.split b=some ys):isUnderS a b=underB xs ys:=by simp [isUnderS,ha,hb]
theorem drop_ok{xs:List ByteArray}(h:∀ x∈xs,1<=x.size∧x.size<=63)(k:Nat):∀ x∈xs.drop k,1<=x.size∧x.size<=63:=
 fun x hx=>h x (List.mem_of_mem_drop hx)
theorem under_same{xs ys:List ByteArray}{a b:ByteArray}(ha:Nm.split a=some xs)(hb:Nm.split b=some ys)(hl:ys.length<=xs.length):
 sameS ⟨(Nm.joinL (xs.drop (xs.length-ys.length))).toArray⟩ b=underB xs ys:=by
 have hx:=(Nm.split_join ha).2;have hw:=Nm.split_size ha;have hd:=Nm.wsum_drop_le xs (xs.length-ys.length);have hs:=split_of_join (drop_ok hx (xs.length-ys.length)) (by omega);rw [same_some hs hb,underB];simp only [hl,decide_true,Bool.true_and];rw [Bool.eq_iff_iff];simp only [decide_eq_true_eq];exact ord_join (drop_ok hx _) (by omega) hb
end Go.Proofs.YtahpiciofdfipaaGreat
namespace Go.Proofs.YtahpiciofdfipaaGreat
open Go.RowKit
theorem cmpI_anti(a b:Int):Nm.cmpI b a= -Nm.cmpI a b:=by
 unfold Nm.cmpI
 split<;>split<;>first|omega|(split<;>omega)|skip
 all_goals simp_all<;>omega
theorem cmpI_le{a b:Int}(h:a≠b):Nm.cmpI a b<=0↔a<b:=by
 by_cases h1:a<b
 ·rw [Nm.cmpI_lt h1];simp [h1]
 ·rw [Nm.cmpI_gt (by omega)];simp [h1]
theorem ordL_anti:∀ (a b:List UInt8),Nm.ordL b a= -Nm.ordL a b
 |[],[]=>rfl
 |[],y::b=>rfl
 |x::a,[]=>rfl
 |x::a,y::b=>by
  by_cases h:x=y
  ·subst h;rw [Nm.ordL_same,Nm.ordL_same];exact ordL_anti a b
  ·rw [Nm.ordL_ne a b h,Nm.ordL_ne b a (Ne.symm h)];exact cmpI_anti _ _
theorem ordL_range(a b:List UInt8): -1<=Nm.ordL a b∧Nm.ordL a b<=1:=by
 unfold Nm.ordL;split
 ·omega
 ·split<;>omega
theorem ordL_trans:∀ (a b c:List UInt8),Nm.ordL a b<=0->Nm.ordL b c<=0->Nm.ordL a c<=0
 |[],b,[],_,_=>by rw [Nm.ordL_nil];decide
 |[],b,z::c,_,_=>by rw [Nm.ordL_left];decide
 |x::a,[],c,h,_=>by rw [Nm.ordL_right] at h;omega
 |x::a,y::b,[],_,h=>by rw [Nm.ordL_right] at h;omega
 |x::a,y::b,z::c,h1,h2=>by
  have inj:∀ {p q:UInt8},p≠q->(p.toNat:Int)≠(q.toNat:Int):=fun h e=>h (UInt8.toNat_inj.1 (by omega))
  by_cases hxy:x=y
  ·subst hxy
   by_cases hyz:x=z
   ·subst hyz;rw [Nm.ordL_same] at h1 h2 ⊢;exact ordL_trans a b c h1 h2
   ·rw [Nm.ordL_ne _ _ hyz] at h2 ⊢;exact h2
  ·rw [Nm.ordL_ne _ _ hxy,cmpI_le (inj hxy)] at h1
   by_cases hyz:y=z
   ·subst hyz;rw [Nm.ordL_ne _ _ hxy,cmpI_le (inj hxy)];exact h1
   ·rw [Nm.ordL_ne _ _ hyz,cmpI_le (inj hyz)] at h2;have hxz:x≠z:=fun e=>by subst e;omega
    rw [Nm.ordL_ne _ _ hxz,cmpI_le (inj hxz)];omega
theorem ordS_anti(x y:ByteArray):Nm.ordS y x= -Nm.ordS x y:=ordL_anti _ _
theorem ordS_swap{x y:ByteArray}(h:Nm.ordS x y=0)(z:ByteArray):Nm.ordS x z=Nm.ordS y z∧Nm.ordS z x=Nm.ordS z y:=by
 have e:=(ordL_zero _ _).1 h;unfold Nm.ordS;rw [e];exact⟨rfl,rfl⟩
theorem cmpRev_anti:∀ (a b:List ByteArray),Nm.cmpRev b a= -Nm.cmpRev a b
 |[],[]=>rfl
 |[],y::b=>rfl
 |x::a,[]=>rfl
 |x::a,y::b=>by
  rw [Nm.cmpRev,Nm.cmpRev,ordS_anti x y]
  by_cases h:Nm.ordS x y=0
  ·rw [if_pos h,if_pos (by omega)];exact cmpRev_anti a b
  ·rw [if_neg h,if_neg (by omega)]
theorem cmpRev_range:∀ (a b:List ByteArray),-1<=Nm.cmpRev a b∧Nm.cmpRev a b<=1
 |[],[]=>by rw [Nm.cmpRev];decide
 |[],y::b=>by rw [Nm.cmpRev];decide
 |x::a,[]=>by rw [Nm.cmpRev];decide
 |x::a,y::b=>by
  rw [Nm.cmpRev];split
  ·exact cmpRev_range a b
  ·exact ordL_range _ _
theorem cmpRev_trans:∀ (a b c:List ByteArray),Nm.cmpRev a b<=0->Nm.cmpRev b c<=0->Nm.cmpRev a c<=0
 |[],b,[],_,_=>by rw [Nm.cmpRev];decide
 |[],b,z::c,_,_=>by rw [Nm.cmpRev];decide
 |x::a,[],c,h,_=>by rw [Nm.cmpRev] at h;omega
 |x::a,y::b,[],_,h=>by rw [Nm.cmpRev] at h;omega
 |x::a,y::b,z::c,h1,h2=>by
  rw [Nm.cmpRev] at h1 h2 ⊢
  by_cases hxy:Nm.ordS x y=0
  ·rw [if_pos hxy] at h1;rw [(ordS_swap hxy z).1]
   by_cases hyz:Nm.ordS y z=0
   ·rw [if_pos hyz] at h2 ⊢;exact cmpRev_trans a b c h1 h2
   ·rw [if_neg hyz] at h2 ⊢;exact h2
  ·rw [if_neg hxy] at h1
   by_cases hyz:Nm.ordS y z=0
   ·rw [<- (ordS_swap hyz x).2,if_neg hxy];exact h1
   ·rw [if_neg hyz] at h2;have h3:Nm.ordS x z<=0:=ordL_trans _ _ _ h1 h2
    have hxz:Nm.ordS x z≠0:=by
     intro e;have e1:=(ordS_swap e y).1;have e2:=ordS_anti y z;omega
    rw [if_neg hxz];exact h3
theorem cmpLs_anti(a b:List ByteArray):Nm.cmpLs b a= -Nm.cmpLs a b:=cmpRev_anti _ _
theorem cmpLs_range(a b:List ByteArray): -1<=Nm.cmpLs a b∧Nm.cmpLs a b<=1:=cmpRev_range _ _
theorem cmpLs_trans{a b c:List ByteArray}(h1:Nm.cmpLs a b<=0)(h2:Nm.cmpLs b c<=0):Nm.cmpLs a c<=0:=cmpRev_trans _ _ _ h1 h2
theorem cmpLs_trans'{a b c:List ByteArray}(h1:0<=Nm.cmpLs a b)(h2:0<=Nm.cmpLs b c):0<=Nm.cmpLs a c:=by
 have e1:=cmpLs_anti a b;have e2:=cmpLs_anti b c;have e3:=cmpLs_anti a c;have:=cmpLs_trans (a:=c) (b:=b) (c:=a) (by omega) (by omega);omega
theorem same_cmp{a b:ByteArray}{xs ys:List ByteArray}(ha:Nm.split a=some xs)(hb:Nm.split b=some ys):sameS a b=decide (Nm.cmpLs xs ys=0):=by
 have ja:=Nm.split_join ha;have wa:=Nm.split_size ha;have h1:=ord_join ja.2 (by omega) hb
 have ea:(⟨(Nm.joinL xs).toArray⟩:ByteArray)=a:=by
  apply ByteArray.ext;apply Array.toList_inj.1;simpa using ja.1
 rw [same_some ha hb];rw [ea] at h1;simp only [h1]
end Go.Proofs.YtahpiciofdfipaaGreat
namespace Go.Proofs.YtahpiciofdfipaaGreat
open Go.RowKit
theorem cell_drewN(w:World)(m:Nat)(a:Addr):(w.drewN m).cell? a=w.cell? a:=by simp
set_option maxRecDepth 100000 in
set_option maxHeartbeats 800000 in
theorem compare_any(v u:Value)(xs ys:List ByteArray)(w:World)(h:Nm.SRow w v xs)(h':Nm.SRow w u ys)(hxs:∀ x∈xs,x.size<=1000000000)(hlx:xs.length<=1000000000)(hly:ys.length<=1000000000):
 Calls Tryz.prog 88 #[v,u] w fun e w'=>e=.returned (.int .i64 (Nm.cmpLs xs ys))∧∃ m,w'=w.drewN m:=by
 obtain⟨a,cap,rfl,hcap,hmx,hnl,hc⟩:=h;obtain⟨a',cap',rfl,hcap',hmx',hnl',hc'⟩:=h';clear hnl hnl';go_enter Tryz.func88,Tryz.ntmps88;go_wp2
 go_loopw [5] (fun i wr=>∃ k:Nat,k<=xs.length∧k<=ys.length∧i=.int .i64 ((k:Int)+1)∧Hid (Nm.cmpLs xs ys=Nm.cmpRev (xs.reverse.drop k) (ys.reverse.drop k))∧∃ m,Hid (wr=w.drewN m))
  (fun i _=>xs.length+1-(intOf i).toNat)
 case atStart=>exact⟨0,Nat.zero_le _,Nat.zero_le _,rfl,by show _=_;simp [Nm.cmpLs],0,rfl⟩
 case round=>
  obtain⟨k,hka,hkb,rfl,HT,m,HW⟩:=hrel
  by_cases h1:k<xs.length∧k<ys.length
  ·obtain⟨h1,h2⟩:=h1;have i1:(k:Int)+1<=(xs.length:Int):=by omega
   have i2:(k:Int)+1<=(ys.length:Int):=by omega
   obtain⟨x,hx⟩:∃ x,xs[xs.length-(k+1)]? =some x:=⟨_,List.getElem?_eq_getElem (by omega)⟩;obtain⟨y,hy⟩:∃ y,ys[ys.length-(k+1)]? =some y:=⟨_,List.getElem?_eq_getElem (by omega)⟩;obtain⟨b,off,rfl,hcell⟩:=hc (by intro h;rw [h] at h1;simp at h1);obtain⟨b',off',rfl,hcell'⟩:=hc' (by intro h;rw [h] at h2;simp at h2);have hcx:wr.cell? ⟨b,off+(xs.length-(k+1)),none⟩=some (.string x):=by rw [HW.out,cell_drewN];exact hcell _ _ hx
   have hcy:wr.cell? ⟨b',off'+(ys.length-(k+1)),none⟩=some (.string y):=by rw [HW.out,cell_drewN];exact hcell' _ _ hy
   have hxz:=hxs x (List.mem_of_getElem? hx);have q1:(0:Int)<=(xs.length:Int)-((k:Int)+1):=by omega
   have q2:(xs.length:Int)-((k:Int)+1)<(xs.length:Int):=by omega
   have q3:((xs.length:Int)-((k:Int)+1)).toNat=xs.length-(k+1):=by omega
   have q4:(0:Int)<=(ys.length:Int)-((k:Int)+1):=by omega
   have q5:(ys.length:Int)-((k:Int)+1)<(ys.length:Int):=by omega
   have q6:((ys.length:Int)-((k:Int)+1)).toNat=ys.length-(k+1):=by omega
   have hrx:=Nm.rev_get h1 hx;have hry:=Nm.rev_get h2 hy
   by_cases he:Nm.ordS x y=0
   ·have HN:Hid (Nm.cmpLs xs ys=Nm.cmpRev (xs.reverse.drop (k+1)) (ys.reverse.drop (k+1))):=HT.out.trans (Nm.cmp_go hrx hry he);have hcf:=fun W=>compareFolded_any x y W hxz
    rw [he] at hcf;have hz:((0:Int) != 0)=false:=rfl;clear he hx hy hrx hry hcell hcell' hc hc' hxs;go_wp2;go_quiet ((go_at_call 122;exact Calls.quiet_of (hcf _)))
    go_wp2;go_roundw
    case rel=>exact⟨k+1,by omega,by omega,by go_num,HN,_,by show _=_;rw [HW.out,World.drewN_drewN]⟩
    case measure=>simp [intOf];omega
   ·have HO:Hid (Nm.cmpLs xs ys=Nm.ordS x y):=HT.out.trans (Nm.cmp_stop hrx hry he);have hcf:=fun W=>compareFolded_any x y W hxz
    have hz:(Nm.ordS x y != 0)=true:=by rw [bne_iff_ne];exact he
    generalize Nm.ordS x y=o at*;clear he hx hy hrx hry hcell hcell' hc hc' hxs;go_wp2;go_quiet ((go_at_call 122;exact Calls.quiet_of (hcf _)))
    go_wp2;go_ret;rw [HO.out];exact⟨rfl,_,by rw [HW.out,World.drewN_drewN]⟩
  ·have HO:Hid (Nm.cmpLs xs ys=Nm.cmpI xs.length ys.length):=by
    show _=_
    rw [HT.out,Nm.cmp_end (by simpa using hka) (by simpa using hkb) (by simp;omega)];simp
   clear hc hc' hxs
   by_cases h2:k<xs.length
   ·have g1:(k:Int)+1<=(xs.length:Int):=by omega
    have g2:(ys.length:Int)<(k:Int)+1:=by omega
    clear h1;go_wp2_with fail
    refine(cmpInt_any _ _ _).mono ?_;rintro e w3 ⟨rfl,rfl⟩;go_wp2;go_ret;rw [HO.out];exact⟨rfl,_,HW.out⟩
   ·have g1:(xs.length:Int)<(k:Int)+1:=by omega
    clear h1;go_wp2_with fail
    refine(cmpInt_any _ _ _).mono ?_;rintro e w3 ⟨rfl,rfl⟩;go_wp2;go_ret;rw [HO.out];exact⟨rfl,_,HW.out⟩
end Go.Proofs.YtahpiciofdfipaaGreat
namespace Go.Proofs.YtahpiciofdfipaaGreat
open Go.RowKit
set_option linter.unusedVariables false
structure It where
 r:Rr
 fo:ByteArray
 dt:ByteArray
 out:Bool
def itC(x:It):List Value:=[.string x.r.own,.int .i64 x.r.ty,.int .i64 x.r.cl,.int .i64 x.r.tt,.string x.r.da,.string x.fo,.string x.dt,.bool x.out]
def itCs(l:List It):List Value:=l.flatMap itC
theorem itCs_snoc(l:List It)(x:It):itCs (l++[x])=itCs l++itC x:=by simp [itCs]
theorem itCs_len(l:List It):(itCs l).length=l.length*8:=by
 induction l with
 |nil=>rfl
 |cons x l ih=>
  have e:itCs (x::l)=itC x++itCs l:=by simp [itCs]
  rw [e,List.length_append,ih];simp [itC]
  omega
theorem itCs_at:∀ (xs:List It) (k j:Nat) (x:It),xs[k]? =some x->j<8->(itCs xs)[k*8+j]? =(itC x)[j]? :=by
 intro xs
 induction xs with
 |nil=>intro k j x h;simp at h
 |cons y xs ih=>
  intro k j x h hj;have e:itCs (y::xs)=itC y++itCs xs:=by simp [itCs]
  have hl:(itC y).length=8:=rfl
  cases k with
  |zero=>
   simp at h;subst h
   rw [e,Nat.zero_mul,Nat.zero_add,List.getElem?_append_left (by omega)]
  |succ k=>
   simp at h;rw [e,List.getElem?_append_right (by omega),hl,show(k+1)*8+j-8=k*8+j by omega];exact ih k j x h hj
def hasI(l:List It)(fo:ByteArray)(t:Int):Bool:=l.any fun x=> !x.out&&decide (x.fo=fo)&&decide (x.r.ty=t)
def firstI(p:Nat->It->Bool)(l:List It):Option Nat:=(List.range l.length).find? fun i=>match l[i]? with
 |some x=>p i x
 |none=>false
theorem firstI_at{p:Nat->It->Bool}{l:List It}{k:Nat}{x:It}(hno:∀ i,i<k->∀ y,l[i]? =some y->p i y=false)(hk:l[k]? =some x)(hp:p k x=true):firstI p l=some k:=by
 have hlt:=(List.getElem?_eq_some_iff.1 hk).1;rw [firstI,List.find?_eq_some_iff_getElem];refine⟨by rw [hk];exact hp,k,by simpa using hlt,by simp,fun j hj=>?_⟩;have hjl:j<l.length:=by omega
 simp only [List.getElem_range];rw [List.getElem?_eq_getElem hjl];simp [hno j hj _ (List.getElem?_eq_getElem hjl)]
theorem firstI_no{p:Nat->It->Bool}{l:List It}(hno:∀ i,i<l.length->∀ y,l[i]? =some y->p i y=false):firstI p l=none:=by
 rw [firstI,List.find?_eq_none];intro i hi;simp at hi;rw [List.getElem?_eq_getElem hi];simp [hno i hi _ (List.getElem?_eq_getElem hi)]
def starB(s:ByteArray):Bool:=decide (1<s.size)&&decide (s.extract 0 2=⟨#[1,42]⟩)
def rulesI(l:List It)(fo:ByteArray):Int×Int:=
 match firstI (fun i x=> !x.out&&decide (x.r.ty=6)&&(decide (x.fo≠fo)||hasI (l.take i) fo 6)) l with
 |some i=>(20,i)
 |none=>if !hasI l fo 6 then(20,-1) else if !hasI l fo 2 then(21,-1) else
  match firstI (fun _ x=> !x.out&&starB x.fo&&(decide (x.r.ty=2)||decide (x.r.ty=39))) l with
  |some i=>(26,i)
  |none=>match firstI (fun i x=> !x.out&&(decide (x.r.ty=5)||decide (x.r.ty=39))&&hasI (l.take i) x.fo x.r.ty) l with
   |some i=>(23,i)
   |none=>match firstI (fun _ x=> !x.out&&decide (x.r.ty≠5)&&decide (x.r.ty≠47)&&hasI l x.fo 5) l with
    |some i=>(23,i)
    |none=>match firstI (fun _ x=> !x.out&&l.any fun y=> !y.out&&decide (y.r.ty=39)&&decide (y.fo≠x.fo)&&isUnderS x.fo y.fo) l with
     |some i=>(25,i)
     |none=>(0,0)
theorem it_cells{w:World}{xs:List It}{b off k:Nat}{x:It}(hc:∀ (i:Nat) (y:Value),(itCs xs)[i]? =some y->w.cell? ⟨b,off+i,none⟩=some y)(h:xs[k]? =some x):
 w.cell? ⟨b,off+k*8,none⟩=some (.string x.r.own)∧w.cell? ⟨b,off+k*8+1,none⟩=some (.int .i64 x.r.ty)∧w.cell? ⟨b,off+k*8+2,none⟩=some (.int .i64 x.r.cl)∧w.cell? ⟨b,off+k*8+3,none⟩=some (.int .i64 x.r.tt)∧w.cell? ⟨b,off+k*8+4,none⟩=some (.string x.r.da)∧w.cell? ⟨b,off+k*8+5,none⟩=some (.string x.fo)∧w.cell? ⟨b,off+k*8+6,none⟩=some (.string x.dt)∧w.cell? ⟨b,off+k*8+7,none⟩=some (.bool x.out):=
 ⟨hc (k*8) _ ((itCs_at xs k 0 x h (by decide)).trans rfl),hc (k*8+1) _ ((itCs_at xs k 1 x h (by decide)).trans rfl),hc (k*8+2) _ ((itCs_at xs k 2 x h (by decide)).trans rfl),hc (k*8+3) _ ((itCs_at xs k 3 x h (by decide)).trans rfl),hc (k*8+4) _ ((itCs_at xs k 4 x h (by decide)).trans rfl),hc (k*8+5) _ ((itCs_at xs k 5 x h (by decide)).trans rfl),hc (k*8+6) _ ((itCs_at xs k 6 x h (by decide)).trans rfl),hc (k*8+7) _ ((itCs_at xs k 7 x h (by decide)).trans rfl)⟩
theorem hasI_take{l:List It}{k:Nat}{x:It}(fo:ByteArray)(t:Int)(h:l[k]? =some x):hasI (l.take (k+1)) fo t=(hasI (l.take k) fo t||(!x.out&&decide (x.fo=fo)&&decide (x.r.ty=t))):=by
 obtain⟨hi,e⟩:=List.getElem?_eq_some_iff.1 h;rw [List.take_succ_eq_append_getElem hi,e];simp [hasI]
theorem ba_eq(a b:ByteArray):(a.toList==b.toList)=decide (a=b):=by
 by_cases h:a=b
 ·subst h;simp
 ·rw [decide_eq_false h,beq_eq_false_iff_ne];intro e;apply h;rw [ByteArray.toList_eq,ByteArray.toList_eq] at e;cases a;cases b
  congr 1;exact Array.toList_inj.1 e
set_option maxRecDepth 100000 in
set_option maxHeartbeats 1600000 in
theorem l06Has_any(v:Value)(l:List It)(n:Nat)(fo:ByteArray)(t:Int)(w:World)(h:CRow w v l.length 8 (itCs l))(hn:n<=l.length)(hl:l.length<=1000000):
 Calls Tryz.prog 69 #[v,.int .i64 (n:Int),.string fo,.int .i64 t] w fun e w'=>e=.returned (.bool (hasI (l.take n) fo t))∧w'=w:=by
 obtain⟨_,a,cap,rfl,hcap,hmx,hc⟩:=h;unfold maxLen at hmx;go_enter Tryz.func69,Tryz.ntmps69;go_wp2
 go_loop [9] (fun i=>∃ k:Nat,k<=n∧i=.int .i64 k∧Hid (hasI (l.take k) fo t=false)) (fun i=>n-(intOf i).toNat)
 case atStart=>exact⟨0,Nat.zero_le _,rfl,rfl⟩
 case round=>
  obtain⟨k,hk,rfl,HA⟩:=hrel
  by_cases hlt:k<n
  ·obtain⟨x,hxk⟩:∃ x,l[k]? =some x:=⟨_,List.getElem?_eq_getElem (by omega)⟩;obtain⟨b,off,rfl,hcell⟩:=hc (by omega);obtain⟨c0,c1,c2,c3,c4,c5,c6,c7⟩:=it_cells hcell hxk;have i1:(0:Int)<=(k:Int):=by omega
   have i2:(k:Int)<(l.length:Int):=by omega
   have i3:(k:Int)<(n:Int):=by omega
   have hst:=hasI_take fo t hxk;have e0:=ba_eq x.fo fo;have e1:(x.r.ty==t)=decide (x.r.ty=t):=by by_cases h:x.r.ty=t<;>simp [h]
   rw [HA.out,Bool.false_or,<- e0,<- e1] at hst;have HST:=Nm.hide hst;clear hc hcell hxk hst e0 e1 HA;obtain⟨⟨o,ty,cl,tt,da⟩,f1,d1,ou⟩:=x;simp only at*
   have hend:hasI (l.take (k+1)) fo t=true->hasI (l.take n) fo t=true:=by
    intro h1
    have e:l.take n=l.take (k+1)++(l.drop (k+1)).take (n-(k+1)):=by
     conv=>lhs;rw [show n=(k+1)+(n-(k+1)) by omega]
     rw [List.take_add]
    rw [e];simp only [hasI,List.any_append,Bool.or_eq_true] at h1 ⊢;exact .inl h1
   have HEND:=Nm.hide hend;clear hend
   cases hO:ou with
   |true=>
    subst hO;have HN:Hid (hasI (l.take (k+1)) fo t=false):=by show _=_;rw [HST.out];rfl
    clear HST HEND;go_wp2
    go_round
    case rel=>exact⟨k+1,by omega,by go_num,HN⟩
    case measure=>simp [intOf];omega
   |false=>
    subst hO
    cases hF:(f1.toList==fo.toList) with
    |false=>
     have HN:Hid (hasI (l.take (k+1)) fo t=false):=by show _=_;rw [HST.out,hF];rfl
     clear HST HEND;go_wp2
     go_round
     case rel=>exact⟨k+1,by omega,by go_num,HN⟩
     case measure=>simp [intOf];omega
    |true=>
     cases hT:(ty==t) with
     |false=>
      have HN:Hid (hasI (l.take (k+1)) fo t=false):=by show _=_;rw [HST.out,hF,hT];rfl
      clear HST HEND;go_wp2
      go_round
      case rel=>exact⟨k+1,by omega,by go_num,HN⟩
      case measure=>simp [intOf];omega
     |true=>
      have HN:Hid (hasI (l.take n) fo t=true):=HEND.out (by rw [HST.out,hF,hT];rfl);clear HST HEND;go_wp2;go_ret;exact⟨by rw [HN.out];rfl,rfl⟩
  ·obtain rfl:k=n:=by omega
   have i3:(k:Int)<=(k:Int):=by omega
   clear hc;go_wp2;go_ret;exact⟨by rw [HA.out];rfl,rfl⟩
def ownI(l:List It)(fo:ByteArray):ByteArray:=match l.find? (fun x=>decide (x.fo=fo)) with
 |some x=>x.r.own
 |none=>fo
set_option maxRecDepth 100000 in
set_option maxHeartbeats 1600000 in
theorem l06Owner_any(v:Value)(l:List It)(fo:ByteArray)(w:World)(h:CRow w v l.length 8 (itCs l))(hl:l.length<=1000000):
 Calls Tryz.prog 41 #[v,.string fo] w fun e w'=>e=.returned (.string (ownI l fo))∧w'=w:=by
 obtain⟨_,a,cap,rfl,hcap,hmx,hc⟩:=h;unfold maxLen at hmx;go_enter Tryz.func41,Tryz.ntmps41;go_wp2
 go_loop [5] (fun i=>∃ k:Nat,k<=l.length∧i=.int .i64 k∧Hid (∀ j y,j<k->l[j]? =some y->decide (y.fo=fo)=false)) (fun i=>l.length-(intOf i).toNat)
 case atStart=>exact⟨0,Nat.zero_le _,rfl,by show ∀ _,_;intro j y hj;omega⟩
 case round=>
  obtain⟨k,hk,rfl,HA⟩:=hrel
  by_cases hlt:k<l.length
  ·obtain⟨x,hxk⟩:∃ x,l[k]? =some x:=⟨_,List.getElem?_eq_getElem hlt⟩;obtain⟨b,off,rfl,hcell⟩:=hc (by omega);obtain⟨c0,c1,c2,c3,c4,c5,c6,c7⟩:=it_cells hcell hxk;have i1:(0:Int)<=(k:Int):=by omega
   have i2:(k:Int)<(l.length:Int):=by omega
   have e0:=ba_eq x.fo fo;have HXK:=Nm.hide hxk;clear hc hcell hxk
   cases hF:decide (x.fo=fo) with
   |false=>
    have HA2:Hid (∀ j y,j<k+1->l[j]? =some y->decide (y.fo=fo)=false):=by
     show ∀ _,_
     intro j y hj hy
     by_cases hjk:j=k
     ·subst hjk;rw [HXK.out] at hy;obtain rfl:=Option.some.inj hy;exact hF
     ·exact HA.out j y (by omega) hy
    rw [hF] at e0;clear hF;obtain⟨⟨o,ty,cl,tt,da⟩,f1,d1,ou⟩:=x;simp only at*
    go_wp2
    go_round
    case rel=>exact⟨k+1,by omega,by go_num,HA2⟩
    case measure=>simp [intOf];omega
   |true=>
    have HO:Hid (ownI l fo=x.r.own):=by
     show _=_
     have:l.find? (fun x=>decide (x.fo=fo))=some x:=by
      rw [List.find?_eq_some_iff_getElem];obtain⟨hk',e⟩:=List.getElem?_eq_some_iff.1 HXK.out;refine⟨hF,k,hk',e,fun j hj=>?_⟩;have:=HA.out j l[j] hj (List.getElem?_eq_getElem (by omega));simp only [this];decide
     rw [ownI,this]
    rw [hF] at e0;clear hF;obtain⟨⟨o,ty,cl,tt,da⟩,f1,d1,ou⟩:=x;simp only at*
    go_wp2;go_ret;exact⟨by rw [HO.out];rfl,rfl⟩
  ·obtain rfl:k=l.length:=by omega
   have HO:Hid (ownI l fo=fo):=by
    show _=_
    have:l.find? (fun x=>decide (x.fo=fo))=none:=by
     rw [List.find?_eq_none];intro x hx;obtain⟨j,hj,e⟩:=List.getElem_of_mem hx;have:=HA.out j x hj (by rw [List.getElem?_eq_getElem hj,e]);simpa using this
    rw [ownI,this]
   have i3:(l.length:Int)<=(l.length:Int):=by omega
   clear hc;go_wp2;go_ret;exact⟨by rw [HO.out];rfl,rfl⟩
end Go.Proofs.YtahpiciofdfipaaGreat
namespace Go.Proofs.YtahpiciofdfipaaGreat
open Go.RowKit
theorem nok_true{s:ByteArray}(h:(Nm.split s).isSome=true):Dt.sz .nm s=some s.size:=by
 obtain⟨h1,h2⟩:=(Dt.name_iff s).1 h;rw [Dt.sz,if_neg h1,h2]
theorem nok_false{s:ByteArray}(h:(Nm.split s).isSome=false):Dt.sz .nm s=none∨∃ n,Dt.sz .nm s=some n∧n≠s.size:=by
 by_cases h0:(Dt.nameAtS s).size=0
 ·left;rw [Dt.sz,if_pos h0]
 ·right;refine⟨_,by rw [Dt.sz,if_neg h0],?_⟩;intro e;rw [(Dt.name_iff s).2 ⟨h0,e⟩] at h;simp at h
set_option maxRecDepth 100000 in
set_option maxHeartbeats 400000 in
theorem implNameOK_same(s:ByteArray)(w:World):
 Calls Tryz.prog 50 #[.string s] w fun e w'=>e=.returned (.bool (Nm.split s).isSome)∧w'=w:=by
 have hcall:=nameSize_any s
 cases hq:(Nm.split s).isSome with
 |true=>
  rw [nok_true hq] at hcall;simp only [szV,Option.getD_some,Option.isSome_some] at hcall;clear hq;go_enter Tryz.func50,Tryz.ntmps50;go_wp2_with (go_at_call 87;refine(hcall _).mono ?_;rintro e w1 ⟨rfl,rfl⟩)
  go_ret
  exact⟨rfl,rfl⟩
 |false=>
  rcases nok_false hq with h|⟨n,h,hn⟩
  ·rw [h] at hcall;simp only [szV,Option.getD_none,Option.isSome_none] at hcall;clear hq h;go_enter Tryz.func50,Tryz.ntmps50;go_wp2_with (go_at_call 87;refine(hcall _).mono ?_;rintro e w1 ⟨rfl,rfl⟩)
   go_ret;exact⟨rfl,rfl⟩
  ·rw [h] at hcall;simp only [szV,Option.getD_some,Option.isSome_some] at hcall;have hb:((n:Int)==(s.size:Int))=false:=by rw [beq_eq_false_iff_ne];omega
   have hb2:(n==s.size)=false:=by rw [beq_eq_false_iff_ne];omega
   clear hq h;go_enter Tryz.func50,Tryz.ntmps50;go_wp2_with (go_at_call 87;refine(hcall _).mono ?_;rintro e w1 ⟨rfl,rfl⟩)
   go_ret;exact⟨rfl,rfl⟩
end Go.Proofs.YtahpiciofdfipaaGreat
namespace Go.Proofs.YtahpiciofdfipaaGreat
open Go.RowKit
set_option maxRecDepth 100000 in
set_option maxHeartbeats 800000 in
theorem splitName_any(s:ByteArray)(w:World)(_:s.size<=maxLen):
 Calls Tryz.prog 21 #[.string s] w fun e w'=>∃ v,e=.returned (.tuple #[v,.bool (Nm.split s).isSome])∧
  w'.ownsRow w.heap.size 9 1 v ((Nm.split s).getD []).length (((Nm.split s).getD []).map Value.string)∧Below w.heap.size w w':=by
 obtain⟨i0,hi,hz0,hz1,hz2⟩:=info_parts Tryz.infoStr;have hcall:=implNameOK_same s
 cases hq:Nm.split s with
 |none=>
  rw [hq] at hcall;simp only [Option.isSome_none] at hcall;clear hq;go_enter Tryz.func21,Tryz.ntmps21;go_wp2_with (go_at_call 50;refine(hcall _).mono ?_;rintro e w1 ⟨rfl,hw⟩;obtain rfl:w=w1:=hw.symm;clear hw)
  go_ret2
  exact⟨_,rfl,World.ownsRow_nil _ _ _ _,Below.refl _ _⟩
 |some L=>
  have hz:=Nm.split_size hq;have hst:=Nm.at_start s hz.2;have HQ:=Nm.hide hq;rw [hq] at hcall;simp only [Option.isSome_some] at hcall;clear hq;have hz2':=hz.2;clear hz;go_enter Tryz.func21,Tryz.ntmps21;go_wp2_with (go_at_call 50;refine(hcall _).mono ?_;rintro e w1 ⟨rfl,hw⟩;obtain rfl:w=w1:=hw.symm;clear hw)
  go_loopw [4,5] (fun v x wr=>∃ (ls:List ByteArray) (r:ByteArray),x=.string r∧Nm.At s ls r∧ls.length+r.size<=255∧wr.ownsRow w.heap.size 9 1 v ls.length (ls.map Value.string)∧Below w.heap.size w wr)
   (fun _ x _=>match x with|.string r=>r.size|_=>0)
  case atStart=>exact⟨[],s,rfl,hst,by simp;omega,World.ownsRow_nil _ _ _ _,Below.refl _ _⟩
  case round=>
   obtain⟨ls,r,rfl,hat,hb,hown,hbel⟩:=hrel;clear hst;have hq:=HQ.out
   by_cases h0:r.size=0
   ·rw [Nm.at_empty hat h0] at hq;simp at hq
   ·have hp:0<r.size:=by omega
    have hn:(r[0].toNat:Int)<256:=by have:=r[0].toNat_lt;omega
    by_cases h1:r.size=1∧r[0].toNat=0
    ·have hL:L=ls:=by
      have:=Nm.at_end hat hp h1.2 h1.1;rw [hq] at this;simpa using this
     have e1:=Nm.tl_one hp h1.1 h1.2;have e1':(r.toList != [0])=false:=by rw [bne,e1];rfl
     clear h1 hq HQ;go_wp2;go_ret2;rw [hL];exact⟨_,rfl,hown,hbel⟩
    ·have e1:=Nm.tl_not_one hp h1;have e1':(r.toList != [0])=true:=by rw [bne,e1];rfl
     by_cases h2:r[0].toNat=0
     ·rw [Nm.at_zero hat hp h2 (fun h=>h1 ⟨h,h2⟩)] at hq;simp at hq
     ·by_cases h3:63<r[0].toNat∨r.size<r[0].toNat+1
      ·rw [Nm.at_bad hat hp h2 h3] at hq;simp at hq
      ·have e4:(r[0].toNat:Int)<=63:=by omega
       have e5:(r[0].toNat:Int)+1<=(r.size:Int):=by omega
       have e5':1+r[0].toNat<=r.size:=by omega
       have hi0:(0:Int)<(r.size:Int):=by omega
       have HN:Hid (Nm.At s (ls++[r.extract 1 (r[0].toNat+1)]) (r.extract (r[0].toNat+1) r.size)):=Nm.at_step hat hp h2 (by omega) (by omega);have hsz:=hbel.size;clear h2 h1 h0 h3 hq HQ;go_wp2_with (at_builtin;refine wpList_append_own _ rfl (.tmp 16) (.tmp 21) 57 rfl w.heap.size 9 i0 (.string ByteArray.empty) 1 16 Tryz.underlying57 hi hz0 hz1 hz2 rfl (by decide) _ _ _ rfl (hown.alloc _) ⟨wr.heap.size,0,none⟩ 1 1 [.string (r.extract 1 (1+r[0].toNat))] rfl rfl (cell_new1 _ _ _) (Nm.one_cell _ rfl) (by unfold maxLen;omega) (by omega) (by simp;omega) ?_)
       intro v' w1 hown' hgrow _;have R:=own_step hsz hown hbel _ hown' hgrow;clear hown' hgrow hown hbel;go_wp2;go_roundw
       case rel=>exact⟨_,_,rfl,by simpa [Nat.add_comm] using HN.out,by simp;omega,R.1,R.2⟩
       case measure=>simp;omega
end Go.Proofs.YtahpiciofdfipaaGreat
namespace Go.Proofs.YtahpiciofdfipaaGreat
open Go.RowKit
set_option linter.unusedVariables false
theorem own_besideZ{W W1:World}{B e s m:Nat}{v:Value}{b:Option Nat}{xs:List Value}(h:W.ownsRow B e s v m xs)(hg:W.grownBy W1 b)(ha:∀ g,b=some g->v.ownBlock≠some g):W1.ownsRow B e s v m xs:=by
 refine h.kept hg ?_
 cases b with
 |none=>
  cases hv:v.ownBlock with
  |none=>exact .inl rfl
  |some k=>right;simp
 |some k=>right;exact ha k rfl
theorem own_kindsZ{W:World}{B e s m B' e' s' m':Nat}{v u:Value}{xs ys:List Value}(h:W.ownsRow B e s v m xs)(h':W.ownsRow B' e' s' u m' ys)(hne:e≠e'):∀ g,u.ownBlock=some g->v.ownBlock≠some g:=by
 intro g hu hv
 rcases h'.2 with⟨rfl,_⟩|⟨g',cap',cur',rfl,_,hh',_⟩
 ·cases hu
 ·rcases h.2 with⟨rfl,_⟩|⟨g2,cap2,cur2,rfl,_,hh,_⟩
  ·cases hv
  ·simp only [Value.ownBlock,Option.some.injEq] at hu hv;subst hu;subst hv;rw [hh] at hh';simp only [Option.some.injEq,Obj.cells.injEq] at hh';exact hne hh'.2.1
structure ZOwn (w:World) (B:Nat) (v:Value) (ps:List Zp):Prop where
 outer:w.ownsRow B 44 4 v ps.length (zpVs ps)
 inner:∀ (i:Nat) (p:Zp),ps[i]? =some p->w.ownsRow B 9 1 p.2 p.1.da.length (p.1.da.map Value.string)
 apart:∀ (i j:Nat) (p q:Zp),ps[i]? =some p->ps[j]? =some q->i≠j->∀ g,p.2.ownBlock=some g->q.2.ownBlock≠some g
theorem ZOwn.nil(w:World)(B:Nat):ZOwn w B (.slice none 0 0) []:=⟨World.ownsRow_nil _ _ _ _,by simp,by simp⟩
theorem ZOwn.below{w w':World}{B:Nat}{v:Value}{ps:List Zp}(h:ZOwn w B v ps)(hb:Below w.heap.size w w'):ZOwn w' B v ps:=
 ⟨own_below h.outer hb,fun i p hp=>own_below (h.inner i p hp) hb,h.apart⟩
theorem ZOwn.base{w:World}{B B':Nat}{v:Value}{ps:List Zp}(h:ZOwn w B v ps)(hb:B'<=B):ZOwn w B' v ps:=
 ⟨own_base h.outer hb,fun i p hp=>own_base (h.inner i p hp) hb,h.apart⟩
theorem ZOwn.beside{w w':World}{B:Nat}{v:Value}{ps:List Zp}{b:Option Nat}(h:ZOwn w B v ps)(hg:w.grownBy w' b)(hv:∀ g,b=some g->v.ownBlock≠some g)(hi:∀ g,b=some g->∀ p∈ps,p.2.ownBlock≠some g):ZOwn w' B v ps:=
 ⟨own_besideZ h.outer hg hv,fun i p hp=>own_besideZ (h.inner i p hp) hg (fun g e=>hi g e p (List.mem_of_getElem? hp)),h.apart⟩
theorem ZOwn.far{w:World}{B g i:Nat}{v y:Value}{ps:List Zp}(h:ZOwn w B v ps)(hg:g<B):ZOwn (w.setCell ⟨g,i,none⟩ y) B v ps:=
 ⟨own_far_lt h.outer hg,fun i p hp=>own_far_lt (h.inner i p hp) hg,h.apart⟩
theorem snoc_cases{α:Type}{xs:List α}{y x:α}{i:Nat}(hx:(xs++[y])[i]? =some x):(i<xs.length∧xs[i]? =some x)∨(i=xs.length∧x=y):=by
 by_cases hi:i<xs.length
 ·rw [List.getElem?_append_left hi] at hx;exact .inl ⟨hi,hx⟩
 ·rw [List.getElem?_append_right (by omega)] at hx
  have h0:i-xs.length=0:=by
   rcases Nat.eq_zero_or_pos (i-xs.length) with h|h
   ·exact h
   ·rw [List.getElem?_eq_none (by simp;omega)] at hx;cases hx
  rw [h0] at hx;simp at hx;exact .inr ⟨by omega,hx.symm⟩
theorem ZOwn.snoc{w w2:World}{B:Nat}{v v' u:Value}{s:Sz}{ps:List Zp}(h:ZOwn w B v ps)
 (hu:w.ownsRow B 9 1 u s.da.length (s.da.map Value.string)) (ha:∀ p∈ps,∀ g,p.2.ownBlock=some g->u.ownBlock≠some g)
 (ho:w2.ownsRow B 44 4 v' (ps.length+1) (zpVs ps++zpV (s,u))) (hg:w.grownBy w2 v.ownBlock):ZOwn w2 B v' (ps++[(s,u)]):=by
 have e:zpVs (ps++[(s,u)])=zpVs ps++zpV (s,u):=by simp [zpVs]
 refine⟨by rw [e];simpa using ho,fun i p hp=>?_,fun i j p q hp hq hne g hg1=>?_⟩
 ·rcases snoc_cases hp with⟨_,hp'⟩|⟨_,rfl⟩
  ·have:=h.inner i p hp';exact own_besideZ this hg (own_kindsZ this h.outer (by decide))
  ·exact own_besideZ hu hg (own_kindsZ hu h.outer (by decide))
 ·rcases snoc_cases hp with⟨hi,hp'⟩|⟨hi,rfl⟩<;>rcases snoc_cases hq with⟨hj,hq'⟩|⟨hj,rfl⟩
  ·exact h.apart i j p q hp' hq' hne g hg1
  ·exact ha p (List.mem_of_getElem? hp') g hg1
  ·intro e;exact ha q (List.mem_of_getElem? hq') g e hg1
  ·omega
theorem ZOwn.more{w w1:World}{B g cap:Nat}{u u':Value}{s:Sz}{d:ByteArray}{ps:List Zp}(h:ZOwn w B (.slice (some ⟨g,0,none⟩) (ps.length+1) cap) (ps++[(s,u)]))
 (ho:w1.ownsRow B 9 1 u' (s.da.length+1) (s.da.map Value.string++[.string d])) (hg:w.grownBy w1 u.ownBlock) (hat:u'.ownBlock=u.ownBlock∨∀ g,u'.ownBlock=some g->w.heap.size<=g):
 ZOwn (w1.setCell ⟨g,ps.length*4+3,none⟩ u') B (.slice (some ⟨g,0,none⟩) (ps.length+1) cap) (ps++[({s with da:=s.da++[d]},u')]):=by
 have hlast:(ps++[(s,u)])[ps.length]? =some (s,u):=by simp
 have hiL:=h.inner _ _ hlast
 have o1:w1.ownsRow B 44 4 (.slice (some ⟨g,0,none⟩) (ps.length+1) cap) (ps.length+1) (zpVs (ps++[(s,u)])):=by
  have:=h.outer;rw [List.length_append] at this;exact own_besideZ this hg (own_kindsZ this hiL (by decide))
 have hlt:∀ (i:Nat) (p:Zp),ps[i]? =some p->(ps++[(s,u)])[i]? =some p:=fun i p hp=>by rw [List.getElem?_append_left (List.getElem?_eq_some_iff.1 hp).1];exact hp
 have hin:∀ (i:Nat) (p:Zp),ps[i]? =some p->w1.ownsRow B 9 1 p.2 p.1.da.length (p.1.da.map Value.string):=by
  intro i p hp;have hpl:=(List.getElem?_eq_some_iff.1 hp).1;exact own_besideZ (h.inner i p (hlt i p hp)) hg (fun g' e e'=>h.apart i ps.length p (s,u) (hlt i p hp) hlast (by omega) g' e' e)
 have hapL:∀ (i:Nat) (p:Zp),ps[i]? =some p->∀ g,p.2.ownBlock=some g->u'.ownBlock≠some g:=by
  intro i p hp g' e e';have hpl:=(List.getElem?_eq_some_iff.1 hp).1
  rcases hat with h1|h1
  ·rw [h1] at e';exact h.apart i ps.length p (s,u) (hlt i p hp) hlast (by omega) g' e e'
  ·have h2:=h1 g' e';have h3:=((h.inner i p (hlt i p hp)).lt g' e).2;omega
 have e1:(zpVs (ps++[(s,u)])).set (ps.length*4+3) u'=zpVs (ps++[({s with da:=s.da++[d]},u')]):=by
  rw [zpVs_app,zpVs_app,List.set_append_right _ _ (by rw [zpVs_len];omega),zpVs_len,show ps.length*4+3-ps.length*4=3 by omega];rfl
 have hst:=o1.stored (ps.length*4+3) u';rw [e1] at hst;have far:∀ {v:Value} {n:Nat} {xs:List Value},w1.ownsRow B 9 1 v n xs->(w1.setCell ⟨g,ps.length*4+3,none⟩ u').ownsRow B 9 1 v n xs:=fun hx=>own_far hx (own_kindsZ hx o1 (by decide) g rfl)
 refine⟨by simpa using hst.1,fun i p hp=>?_,fun i j p q hp hq hne g' hg1=>?_⟩
 ·rcases snoc_cases hp with⟨_,hp'⟩|⟨_,rfl⟩
  ·exact far (hin i p hp')
  ·have:=far ho;simpa using this
 ·rcases snoc_cases hp with⟨hi,hp'⟩|⟨hi,rfl⟩<;>rcases snoc_cases hq with⟨hj,hq'⟩|⟨hj,rfl⟩
  ·exact h.apart i j p q (hlt i p hp') (hlt j q hq') hne g' hg1
  ·exact hapL i p hp' g' hg1
  ·intro e;exact hapL j q hq' g' e hg1
  ·omega
end Go.Proofs.YtahpiciofdfipaaGreat
namespace Go.Proofs.YtahpiciofdfipaaGreat
open Go.RowKit
theorem Tryz.infoU8:(Tryz.prog.info? 5).map (fun i=>(i.zero,i.size,i.bytes))=some (some (.int .u8 0),1,1):=by kernel_rfl
set_option maxRecDepth 100000 in
set_option maxHeartbeats 400000 in
theorem wireSize_any(v:Value)(ls:List ByteArray)(w:World)(h:Nm.SRow w v ls)(hlen:Nm.wsum ls<=1000000000):
 Calls Tryz.prog 90 #[v] w fun e w'=>e=.returned (.int .i64 ((1+Nm.wsum ls:Nat):Int))∧w'=w:=by
 obtain⟨a,cap,rfl,hcap,hmx,hnl,hc⟩:=h;have hll:=Nm.length_le_wsum ls
 by_cases hne:ls=[]
 ·subst hne;go_enter Tryz.func90,Tryz.ntmps90;go_wp2
  go_loop [3,8] (fun t i=>t=.int .i64 1∧i=.int .i64 0) (fun _ _=>0)
  case atStart=>exact⟨rfl,rfl⟩
  case round=>
   obtain⟨rfl,rfl⟩:=hrel;go_wp2;go_ret;exact⟨rfl,rfl⟩
 ·obtain⟨b,off,rfl,hcell⟩:=hc hne;clear hc hnl hne;go_enter Tryz.func90,Tryz.ntmps90;go_wp2
  go_loop [3,8] (fun t i=>∃ k:Nat,k<=ls.length∧i=.int .i64 k∧t=.int .i64 ((1+Nm.wsum (ls.take k):Nat):Int)) (fun _ i=>ls.length-(intOf i).toNat)
  case atStart=>exact⟨0,Nat.zero_le _,rfl,rfl⟩
  case round=>
   obtain⟨k,hk,rfl,rfl⟩:=hrel;have hw:=Nm.wsum_take_le ls k
   by_cases hlt:k<ls.length
   ·obtain⟨x,hx⟩:∃ x,ls[k]? =some x:=⟨_,List.getElem?_eq_getElem hlt⟩;have hcx:=hcell k x hx;have HS:Hid (Nm.wsum (ls.take (k+1))=Nm.wsum (ls.take k)+(1+x.size)):=Nm.wsum_step hx;have hw1:Nm.wsum (ls.take k)+(1+x.size)<=Nm.wsum ls:=by rw [<- HS.out];exact Nm.wsum_take_le ls (k+1)
    clear hx hcell;go_wp2
    go_round
    case rel=>exact⟨k+1,by omega,by go_num,by rw [HS.out];go_num⟩
    case measure=>simp [intOf];omega
   ·go_wp2;go_ret;have:k=ls.length:=by omega
    subst this;rw [List.take_length];exact⟨rfl,rfl⟩
def wireS(ls:List ByteArray):ByteArray:=if 255<1+Nm.wsum ls then ByteArray.empty else⟨(Nm.joinL ls).toArray⟩
def wireC(ls:List ByteArray):Int:=if 255<1+Nm.wsum ls then 3 else 0
theorem wireS_short{ls:List ByteArray}(h:Nm.wsum ls<=254):wireS ls=⟨(Nm.joinL ls).toArray⟩:=if_neg (by omega)
theorem wireC_short{ls:List ByteArray}(h:Nm.wsum ls<=254):wireC ls=0:=if_neg (by omega)
theorem byte_len(x:ByteArray)(h:x.size<=255):[Value.int .u8 (x.size:Int)]=Nm.bys [UInt8.ofNat x.size]:=by
 simp [Nm.bys];omega
set_option maxRecDepth 100000 in
set_option maxHeartbeats 800000 in
theorem wire_any(v:Value)(ls:List ByteArray)(w:World)(h:Nm.SRow w v ls)(hlen:Nm.wsum ls<=1000000000):
 Calls Tryz.prog 53 #[v] w fun e w'=>e=.returned (.tuple #[.string (wireS ls),.int .i64 (wireC ls)])∧Below w.heap.size w w':=by
 have hws:=wireSize_any v ls w h hlen;obtain⟨j0,hj,k0,k1,k2⟩:=info_parts Tryz.infoU8;obtain⟨a,cap,rfl,hcap,hmx,hnl,hc⟩:=h;have hll:=Nm.length_le_wsum ls
 by_cases hlong:255<1+Nm.wsum ls
 ·have HS:Hid (wireS ls=ByteArray.empty):=if_pos hlong;have HC:Hid (wireC ls=3):=if_pos hlong;have hl':(255:Int)<((1+Nm.wsum ls:Nat):Int):=by omega
  clear hc;go_enter Tryz.func53,Tryz.ntmps53;go_wp2_with fail
  refine hws.mono ?_;rintro e w1 ⟨rfl,rfl⟩;go_wp2;go_ret2;rw [HS.out,HC.out];exact⟨rfl,Below.refl _ _⟩
 ·have HS:Hid (wireS ls=⟨(Nm.joinL ls).toArray⟩):=if_neg hlong;have HC:Hid (wireC ls=0):=if_neg hlong;have hl':((1+Nm.wsum ls:Nat):Int)<=255:=by omega
  go_enter Tryz.func53,Tryz.ntmps53;go_wp2_with fail
  refine hws.mono ?_;rintro e w1 ⟨rfl,rfl⟩;go_wp2_with (at_make;refine wpList_make_own _ rfl _ _ 22 rfl w1.heap.size 5 j0 (.int .u8 0) 1 Tryz.underlying22 hj k0 k1 .i64 .i64 _ (1+Nm.wsum ls) rfl rfl rfl (by rw [k2];omega) (by unfold maxLen;omega) (Nat.le_refl _) ?_;intro w2 hown0 hgrow0)
  go_loopw [5,16] (fun v i wr=>∃ k:Nat,k<=ls.length∧i=.int .i64 k∧wr.ownsRow w1.heap.size 5 1 v (Nm.wsum (ls.take k)) (Nm.bys (Nm.preL (ls.take k)))∧Below w1.heap.size w1 wr)
   (fun _ i _=>ls.length-(intOf i).toNat)
  case atStart=>exact⟨0,Nat.zero_le _,rfl,hown0,(Below.refl _ w1).grown hgrow0 (Nat.le_refl _) (fun k hk=>by cases hk)⟩
  case round=>
   obtain⟨k,hk,rfl,hown,hbel⟩:=hrel;have hw:=Nm.wsum_take_le ls k;have hsz:=hbel.size
   by_cases hlt:k<ls.length
   ·obtain⟨x,hx⟩:∃ x,ls[k]? =some x:=⟨_,List.getElem?_eq_getElem hlt⟩;obtain⟨b,off,rfl,hcell⟩:=hc (by intro h;rw [h] at hlt;simp at hlt);have hcx:wr.cell? ⟨b,off+k,none⟩=some (.string x):=(hbel.cell (World.block_lt_of_cell? w1 _ (hcell k x hx))).trans (hcell k x hx);have HW:Hid (Nm.wsum (ls.take (k+1))=Nm.wsum (ls.take k)+(1+x.size)):=Nm.wsum_step hx;have HP:Hid (Nm.preL (ls.take (k+1))=Nm.preL (ls.take k)++(UInt8.ofNat x.size::x.data.toList)):=Nm.preL_step hx;have hw1:Nm.wsum (ls.take k)+(1+x.size)<=Nm.wsum ls:=by rw [<- HW.out];exact Nm.wsum_take_le ls (k+1)
    clear hx hcell hc hnl hws hown0 hgrow0;go_wp2_with (first|(at_builtin;refine wpList_append_own _ rfl (.tmp 20) (.tmp 24) 22 rfl w1.heap.size 5 j0 (.int .u8 0) 1 1 Tryz.underlying22 hj k0 k1 k2 rfl (by decide) _ _ _ rfl (hown.alloc _) ⟨wr.heap.size,0,none⟩ 1 1 [.int .u8 (x.size:Int)] rfl rfl (cell_one_new _ _ _) (Nm.one_cell _ rfl) (by unfold maxLen;omega) (by omega) (by simp;omega) ?_;intro va wa hown1 hgrow1 hnl1;clear hnl1;rw [byte_len x (by omega)] at hown1;have R1:=Nm.bys_step (x:=[UInt8.ofNat x.size]) (by simp;omega) (hown.alloc _) (hbel.alloc hsz _) hown1 hgrow1;clear hown1 hgrow1)|(at_builtin;refine Go.Lib.wpList_append_own_string _ rfl (.tmp 26) (.tmp 27) 22 9 rfl w1.heap.size 5 j0 Tryz.underlying22 Tryz.underlying9 hj k0 k1 k2 _ _ _ rfl R1.1 x rfl (by unfold maxLen;omega) (by omega) R1.2.size ?_;intro vb wb hown2 hgrow2 hnl2;clear hnl2;have R2:=Nm.bys_step_str R1.2.size R1.1 R1.2 hown2 hgrow2;clear hown2 hgrow2))
    go_roundw
    case rel=>exact⟨k+1,by omega,by go_num,by rw [HW.out,HP.out];simpa [Nat.add_assoc] using R2.1,R2.2⟩
    case measure=>simp [intOf];omega
   ·have hkl:k=ls.length:=by omega
    subst hkl;rw [List.take_length] at hown;clear hc hnl hws hown0 hgrow0 hw hlt;have hone:(ByteArray.mk #[0]).size=1:=rfl;go_wp2_with (at_builtin;refine Go.Lib.wpList_append_own_string _ rfl (.tmp 30) _ 22 9 rfl w1.heap.size 5 j0 Tryz.underlying22 Tryz.underlying9 hj k0 k1 k2 _ _ _ rfl hown ⟨#[0]⟩ rfl (by unfold maxLen;omega) (by omega) hsz ?_;intro vb wb hown2 hgrow2 hnl2;clear hnl2;have R2:=Nm.bys_step_str hsz hown hbel hown2 hgrow2;clear hown2 hgrow2;obtain⟨g,cp,rfl,hcv⟩:=Nm.conv_own (P:=Tryz.prog) Tryz.underlying22 Tryz.underlying5 Tryz.underlying9 R2.1 (by omega);rw [hone] at hcv)
    go_ret2;rw [HS.out,HC.out];exact⟨rfl,R2.2⟩
end Go.Proofs.YtahpiciofdfipaaGreat
namespace Go.Proofs.YtahpiciofdfipaaGreat
open Go.RowKit
set_option linter.unusedVariables false
theorem ZOwn.zrow{w:World}{B:Nat}{v:Value}{ps:List Zp}(h:ZOwn w B v ps):ZRow w v ps:=
 ⟨CRow.of_owns h.outer,fun p hp=>by obtain⟨i,hi⟩:=List.getElem?_of_mem hp;exact Nm.SRow.of_owns (h.inner i p hi)⟩
end Go.Proofs.YtahpiciofdfipaaGreat
namespace Go.Proofs.YtahpiciofdfipaaGreat
open Go.RowKit
theorem Tryz.infoU8d:(Tryz.prog.info? 5).map (fun i=>(i.zero,i.size,i.bytes))=some (some (.int .u8 0),1,1):=by kernel_rfl
theorem conv_emptyd(c:Nat)(W:World):(convert 22 9 (.slice (some ⟨c,0,none⟩) 0 0)).run Tryz.prog W=.ok (.string ByteArray.empty) W:=
 run_convert_bytes_back W 22 9 5 ⟨c,0,none⟩ 0 [] Tryz.underlying22 Tryz.underlying5 Tryz.underlying9 (by intro j hj;simp at hj)
theorem byte_of_int{r:Int}(h0:0<=r)(h1:r<256):∃ c:UInt8,(c.toNat:Int)=r:=by
 refine⟨UInt8.ofNat r.toNat,?_⟩;simp
 omega
set_option maxRecDepth 100000 in
set_option maxHeartbeats 800000 in
theorem l01Bytes_any(g:Nat)(a:Option Addr)(n cap:Nat)(N:Int)(w:World)(h:Src w g a n cap)(hN0:0<=N)(hN:N<=1048576):
 Calls Tryz.prog 97 #[.pointer (some ⟨g,0,none⟩),.int .i64 N] w fun e w'=>∃ s:ByteArray,e=.returned (.string s)∧(s.size:Int)=N∧Src w' g a n cap∧w.grownBy w' (some g):=by
 obtain⟨j0,hj,k0,k1,k2⟩:=info_parts Tryz.infoU8d;obtain⟨m,rfl⟩:=Int.eq_ofNat_of_zero_le hN0;have hcd:=src_code h
 by_cases hz:m=0
 ·subst hz;have hcv:=fun W=>conv_emptyd w.heap.size W
  go_enter Tryz.func97,Tryz.ntmps97;go_wp2
  go_loop [5,6] (fun v i=>v=.slice (some ⟨w.heap.size,0,none⟩) 0 0∧i=.int .i64 0) (fun _ _=>0)
  case atStart=>exact⟨rfl,rfl⟩
  case round=>
   obtain⟨rfl,rfl⟩:=hrel;go_wp2;go_ret;exact⟨ByteArray.empty,rfl,rfl,src_below h ((Below.refl _ _).alloc (Nat.le_refl _) _),grown_alloc (World.grownBy.refl _ _) _⟩
 ·go_enter Tryz.func97,Tryz.ntmps97;go_wp2
  go_loopw [5,6] (fun v i wr=>∃ (k:Nat) (l:List UInt8),k<=m∧i=.int .i64 k∧wr.ownsRow w.heap.size 5 1 v k (Nm.bys l)∧Src wr g a n cap∧w.grownBy wr (some g))
   (fun _ i _=>m-(intOf i).toNat)
  case atStart=>exact⟨0,[],Nat.zero_le _,rfl,World.ownsRow_made w #[] 0 (Nat.le_refl _) (by decide) rfl,src_below h ((Below.refl _ _).alloc (Nat.le_refl _) _),grown_alloc (World.grownBy.refl _ _) _⟩
  case round=>
   obtain⟨k,l,hk,rfl,hown,hsrc,hgr⟩:=hrel;have hsz:=hgr.size;clear h
   by_cases hlt:k<m
   ·go_wp2_with (first|(go_at_call 30;refine(l01Next_any g a n cap 256 _ hsrc (by decide)).mono ?_;rintro e w3 ⟨r,rfl,hr0,hr1,hsrc3,hgr3⟩;have hr2:=hr1 (by decide);obtain⟨c,hc⟩:=byte_of_int hr0 hr2;subst hc;have hown3:=hown.kept hgr3 (row_src hown hsrc (by decide));have hg3:=grown_step hgr hgr3;have hsz3:=hg3.size;clear hr1)|(at_builtin;refine wpList_append_own _ rfl (.tmp 13) (.tmp 17) 22 rfl w.heap.size 5 j0 (.int .u8 0) 1 1 Tryz.underlying22 hj k0 k1 k2 rfl (by decide) _ _ _ rfl (hown3.alloc _) ⟨w3.heap.size,0,none⟩ 1 1 [.int .u8 (c.toNat:Int)] rfl rfl (cell_one_new _ _ _) (Nm.one_cell _ rfl) (by unfold maxLen;omega) (by omega) (by simp;omega) ?_;intro vb wb hown4 hgrow4 hnl4;clear hnl4;have hrow:∀ q,Value.ownBlock _=some q->w.heap.size<=q:=fun q hq=>(hown3.lt q hq).1;have hs4:=src_grown (src_below hsrc3 ((Below.refl _ _).alloc (Nat.le_refl _) _)) hgrow4 hrow hcd.2 hcd.1;have hg4:=grown_own (grown_alloc hg3 _) hgrow4 hrow;rw [Nm.bys_mark,<- Nm.bys_append] at hown4;clear hgrow4 hown3))
    go_roundw
    case rel=>exact⟨k+1,_,by omega,by go_num,hown4,hs4,hg4⟩
    case measure=>simp [intOf];omega
   ·have hke:k=m:=by omega
    subst hke;have hll:l.length=k:=by have:=hown.1;rw [Nm.bys_length] at this;omega
    obtain⟨g6,cp6,rfl,hcv⟩:=Nm.conv_own (P:=Tryz.prog) Tryz.underlying22 Tryz.underlying5 Tryz.underlying9 hown (by omega);have hms:=mk_size l;clear hown hlt;go_wp2;go_ret;exact⟨_,rfl,by rw [hms];omega,hsrc,hgr⟩
end Go.Proofs.YtahpiciofdfipaaGreat
namespace Go.Proofs.YtahpiciofdfipaaGreat
open Go.RowKit
set_option linter.unusedVariables false
theorem mk_len(l:List UInt8):(⟨l.toArray⟩:ByteArray).size=l.length:=by simp [ByteArray.size]
theorem join_len(ls:List ByteArray):(⟨(Nm.joinL ls).toArray⟩:ByteArray).size=Nm.wsum ls+1:=by rw [mk_len,Nm.joinL_length]
theorem srow_new(w:World)(ls:List ByteArray)(hl:ls.length<=maxLen):Nm.SRow (w.alloc (.cells (ls.map Value.string).toArray 9)) (.slice (some ⟨w.heap.size,0,none⟩) ls.length ls.length) ls:=by
 refine⟨_,_,rfl,Nat.le_refl _,hl,fun h=>absurd h (by simp),fun _=>⟨_,_,rfl,fun i x hx=>?_⟩⟩;have k:=blk_new w (ls.map Value.string).toArray 9;rw [Nat.zero_add,blk_cell k i];simp [hx]
def subS(ls:List ByteArray)(ab:ByteArray):ByteArray:=(⟨(Nm.joinL ls).toArray⟩:ByteArray).extract 0 (Nm.wsum ls)++ab
theorem sub_len(ls:List ByteArray)(ab:ByteArray):(subS ls ab).size=Nm.wsum ls+ab.size:=by
 rw [subS,ByteArray.size_append,ByteArray.size_extract,join_len];omega
set_option maxRecDepth 100000 in
set_option maxHeartbeats 1600000 in
theorem l05SubS_any(v:Value)(ls:List ByteArray)(ab:ByteArray)(w:World)(h:Nm.SRow w v ls)(hl:Nm.wsum ls<=100000)(ha:ab.size<=1000000):
 Calls Tryz.prog 61 #[v,.string ab] w fun e w'=>e=.returned (.string (subS ls ab))∧Below w.heap.size w w':=by
 have hj:=fun W (hW:Below w.heap.size w W)=>l01Join_any v ls W (h.below hW) (by omega)
 have hs:=join_len ls
 have HE:Hid (∀ J:ByteArray,(⟨(Nm.joinL ls).toArray⟩:ByteArray)=J->subS ls ab=J.extract 0 (Nm.wsum ls)++ab):=by
  rintro J rfl;rfl
 obtain⟨J,hJ⟩:∃ J:ByteArray,(⟨(Nm.joinL ls).toArray⟩:ByteArray)=J:=⟨_,rfl⟩;have HE2:=Nm.hide (HE.out J hJ);rw [HE2.out];simp only [hJ] at hj hs;have h1:(1:Int)<=(J.size:Int):=by omega
 have h2:J.size<=100001:=by omega
 have h3:(J.size:Int)-1<=(J.size:Int):=by omega
 obtain⟨X,hX⟩:∃ X,X=Nm.wsum ls:=⟨_,rfl⟩;rw [<- hX];have HS:Hid (J.size-1=X):=by show _=_;omega
 obtain⟨va,vn,vc,rfl⟩:∃ a n c,v=.slice a n c:=by obtain⟨a,c,e,_⟩:=h;exact⟨a,_,c,e⟩
 clear h hs HE HE2 hJ hX;go_enter Tryz.func61,Tryz.ntmps61;go_wp2_with fail
 refine(hj _ (Below.refl _ _)).mono ?_;rintro e w1 ⟨rfl,b1⟩;go_wp2_with fail
 refine(hj _ b1).mono ?_;rintro e w2 ⟨rfl,b2⟩;have bw:=Nm.below_two b1 b2;clear b1 b2 hj;go_wp2;go_ret;refine⟨?_,bw⟩;rw [<- HS.out];rfl
theorem l05Sub_any(v:Value)(ls:List ByteArray)(ab:ByteArray)(w:World)(h:Nm.SRow w v ls)(hl:Nm.wsum ls<=100000)(ha:ab.size<=1000000):
 Calls Tryz.prog 61 #[v,.string ab] w fun e w'=>∃ s:ByteArray,e=.returned (.string s)∧s.size=Nm.wsum ls+ab.size∧Below w.heap.size w w':=
 (l05SubS_any v ls ab w h hl ha).mono fun e w' ⟨h1,h2⟩=>⟨_,h1,sub_len ls ab,h2⟩
theorem srow1(w:World)(x:ByteArray):Nm.SRow (w.alloc (.cells #[.string x] 9)) (.slice (some ⟨w.heap.size,0,none⟩) 1 1) [x]:=srow_new w [x] (show 1<=maxLen by decide)
theorem srow2(w:World)(x y:ByteArray):Nm.SRow (w.alloc (.cells #[.string x,.string y] 9)) (.slice (some ⟨w.heap.size,0,none⟩) 2 2) [x,y]:=srow_new w [x,y] (show 2<=maxLen by decide)
theorem srow3(w:World)(x y z:ByteArray):Nm.SRow (w.alloc (.cells #[.string x,.string y,.string z] 9)) (.slice (some ⟨w.heap.size,0,none⟩) 3 3) [x,y,z]:=srow_new w [x,y,z] (show 3<=maxLen by decide)
theorem src_new{w:World}{g n cap:Nat}{a:Option Addr}(h:Src w g a n cap)(o:Obj):Src (w.alloc o) g a n cap:=src_below h ((Below.refl _ _).alloc (Nat.le_refl _) _)
end Go.Proofs.YtahpiciofdfipaaGreat
namespace Go.Proofs.YtahpiciofdfipaaGreat
open Go.RowKit
set_option maxRecDepth 100000 in
set_option maxHeartbeats 1600000 in
theorem l01Label_any(g:Nat)(a:Option Addr)(n cap:Nat)(w:World)(h:Src w g a n cap):
 Calls Tryz.prog 99 #[.pointer (some ⟨g,0,none⟩)] w fun e w'=>∃ s:ByteArray,e=.returned (.string s)∧s.size<=63∧Src w' g a n cap∧w.grownBy w' (some g):=by
 have hcv:=fun(x:Int) (W:World)=>conv_one x W
 have hs1:∀ c:UInt8,(ByteArray.mk #[c]).size=1:=fun _=>rfl
 have hs2:(ByteArray.mk #[110,115]).size=2:=rfl;go_enter Tryz.func99,Tryz.ntmps99;go_wp2_with fail
 refine(l01Next_any g a n cap 12 _ h (by decide)).mono ?_;rintro e w1 ⟨r,rfl,hr0,hr1,hsrc,hgr⟩;have hr2:=hr1 (by decide);clear hr1 h
 rcases(by omega:r=0∨r=1∨r=2∨r=3∨r=4∨r=5∨6<=r) with rfl|rfl|rfl|rfl|rfl|rfl|h6
 ·go_wp2;go_ret;exact⟨_,rfl,by decide,hsrc,hgr⟩
 ·go_wp2_with (first|(go_at_call 30;refine(l01Next_any g a n cap 4 _ hsrc (by decide)).mono ?_;rintro e w2 ⟨q,rfl,hq0,hq1,hsrc2,hgr2⟩;have hq2:=hq1 (by decide);clear hq1)|(go_at_call 97;refine(l01Bytes_any g a n cap (1+q) _ hsrc2 (by omega) (by omega)).mono ?_;rintro e w3 ⟨s3,rfl,hs3,hsrc3,hgr3⟩))
  go_ret;exact⟨_,rfl,by omega,hsrc3,grown_step (grown_step hgr hgr2) hgr3⟩
 ·go_wp2;go_ret;exact⟨_,rfl,by decide,hsrc,hgr⟩
 ·go_wp2;go_ret;exact⟨_,rfl,by decide,hsrc,hgr⟩
 ·go_wp2;go_ret;exact⟨_,rfl,by decide,hsrc,hgr⟩
 ·go_wp2_with (go_at_call 30;refine(l01Next_any g a n cap 3 _ hsrc (by decide)).mono ?_;rintro e w2 ⟨q,rfl,hq0,hq1,hsrc2,hgr2⟩;have hq2:=hq1 (by decide);clear hq1)
  go_ret;exact⟨_,rfl,by rw [ByteArray.size_append,hs2,hs1];decide,src_below hsrc2 ((Below.refl _ _).alloc (Nat.le_refl _) _),grown_alloc (grown_step hgr hgr2) _⟩
 ·go_wp2_with (go_at_call 30;refine(l01Next_any g a n cap 4 _ hsrc (by decide)).mono ?_;rintro e w2 ⟨q,rfl,hq0,hq1,hsrc2,hgr2⟩;have hq2:=hq1 (by decide);clear hq1)
  go_ret;exact⟨_,rfl,by rw [hs1];decide,src_below hsrc2 ((Below.refl _ _).alloc (Nat.le_refl _) _),grown_alloc (grown_step hgr hgr2) _⟩
end Go.Proofs.YtahpiciofdfipaaGreat
namespace Go.Proofs.YtahpiciofdfipaaGreat
open Go.RowKit
set_option linter.unusedVariables false
def apNs:List ByteArray:=[⟨(Nm.joinL [⟨#[122]⟩,⟨#[101,120,97,109,112,108,101]⟩]).toArray⟩,⟨(Nm.joinL [⟨#[69,120,97,109,112,108,101]⟩]).toArray⟩,⟨#[0]⟩,⟨(Nm.joinL [⟨#[101,120,97,109,112,108,101]⟩]).toArray⟩]
theorem ap_size{s:ByteArray}(h:s∈apNs):1<=s.size∧s.size<=20:=by
 simp only [apNs,List.mem_cons,List.not_mem_nil,or_false] at h
 rcases h with rfl|rfl|rfl|rfl<;>decide
set_option maxRecDepth 100000 in
set_option maxHeartbeats 1600000 in
theorem l05Apex_any(g:Nat)(a:Option Addr)(n cap:Nat)(w:World)(h:Src w g a n cap):
 Calls Tryz.prog 94 #[.pointer (some ⟨g,0,none⟩)] w fun e w'=>∃ s:ByteArray,e=.returned (.string s)∧s∈apNs∧Src w' g a n cap∧w.grownBy w' (some g):=by
 go_enter Tryz.func94,Tryz.ntmps94;go_wp2_with fail
 refine(l01Next_any g a n cap 6 _ h (by decide)).mono ?_;rintro e w1 ⟨r,rfl,hr0,hr1,hsrc,hgr⟩;have hr2:=hr1 (by decide);clear hr1 h
 by_cases e0:r=0
 ·subst e0;have hj:=l01Join_any _ [⟨#[122]⟩,⟨#[101,120,97,109,112,108,101]⟩] _ (srow2 w1 ⟨#[122]⟩ ⟨#[101,120,97,109,112,108,101]⟩) (by decide);have hz:(⟨(Nm.joinL [⟨#[122]⟩,⟨#[101,120,97,109,112,108,101]⟩]).toArray⟩:ByteArray)∈apNs:=by simp [apNs]
  generalize (⟨(Nm.joinL [⟨#[122]⟩,⟨#[101,120,97,109,112,108,101]⟩]).toArray⟩:ByteArray)=J at*;have HZ:=Nm.hide hz;clear hz;go_wp2_with fail
  refine hj.mono ?_;rintro e w2 ⟨rfl,b2⟩;go_wp2;go_ret;exact⟨_,rfl,HZ.out,src_below (src_new hsrc _) b2,grown_below (grown_alloc hgr _) b2⟩
 ·have q0:(r==0)=false:=by rw [beq_eq_false_iff_ne];exact e0
  by_cases e1:r=1
  ·subst e1;have hj:=l01Join_any _ [⟨#[69,120,97,109,112,108,101]⟩] _ (srow1 w1 ⟨#[69,120,97,109,112,108,101]⟩) (by decide);have hz:(⟨(Nm.joinL [⟨#[69,120,97,109,112,108,101]⟩]).toArray⟩:ByteArray)∈apNs:=by simp [apNs]
   generalize (⟨(Nm.joinL [⟨#[69,120,97,109,112,108,101]⟩]).toArray⟩:ByteArray)=J at*;have HZ:=Nm.hide hz;clear hz e0;go_wp2_with fail
   refine hj.mono ?_;rintro e w2 ⟨rfl,b2⟩;go_wp2;go_ret;exact⟨_,rfl,HZ.out,src_below (src_new hsrc _) b2,grown_below (grown_alloc hgr _) b2⟩
  ·have q1:(r==1)=false:=by rw [beq_eq_false_iff_ne];exact e1
   by_cases e2:r=2
   ·subst e2;go_wp2;go_ret;exact⟨_,rfl,by simp [apNs],hsrc,hgr⟩
   ·have q2:(r==2)=false:=by rw [beq_eq_false_iff_ne];exact e2
    have hj:=l01Join_any _ [⟨#[101,120,97,109,112,108,101]⟩] _ (srow1 w1 ⟨#[101,120,97,109,112,108,101]⟩) (by decide);have hz:(⟨(Nm.joinL [⟨#[101,120,97,109,112,108,101]⟩]).toArray⟩:ByteArray)∈apNs:=by simp [apNs]
    generalize (⟨(Nm.joinL [⟨#[101,120,97,109,112,108,101]⟩]).toArray⟩:ByteArray)=J at*;have HZ:=Nm.hide hz;clear hz e0 e1 e2;go_wp2_with fail
    refine hj.mono ?_;rintro e w2 ⟨rfl,b2⟩;go_wp2;go_ret;exact⟨_,rfl,HZ.out,src_below (src_new hsrc _) b2,grown_below (grown_alloc hgr _) b2⟩
def spl(cs:Array Value):Nat->List Value->Array Value
 |_,[]=>cs
 |o,v::r=>spl (cs.setIfInBounds o v) (o+1) r
end Go.Proofs.YtahpiciofdfipaaGreat
namespace Go.Proofs.YtahpiciofdfipaaGreat
open Go.RowKit
theorem put_step{W wr w1:World}{v v':Value}{B e n:Nat}{l:List Value}{x:Value}(hB:B<=wr.heap.size)
 (hown:wr.ownsRow B e 1 v n l) (hbel:Below B W wr) (o:Obj) (hgrow:(wr.alloc o).grownBy w1 v.ownBlock)
 (hown':w1.ownsRow B e 1 v' (n+1) (l++[x])):
 w1.ownsRow B e 1 v' (n+1) (l++[x])∧Below B W w1:=by
 refine⟨hown',?_⟩;refine(hbel.alloc hB o).grown hgrow (by simp;omega) ?_;intro k hk;exact(hown.lt k hk).1
end Go.Proofs.YtahpiciofdfipaaGreat
namespace Go.Proofs.YtahpiciofdfipaaGreat
open Go.RowKit
set_option linter.unusedVariables false
def drTs:List Nat:=[1,2,5,6,12,13,15,16,28,33,35,39,47,257,1,2,15,28,99,65280]
theorem drTs_ok{t:Nat}(h:t∈drTs):1<=t∧t<65536:=by
 simp [drTs] at h
 omega
end Go.Proofs.YtahpiciofdfipaaGreat
