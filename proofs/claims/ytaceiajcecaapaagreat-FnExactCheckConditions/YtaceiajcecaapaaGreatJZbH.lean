import Derived.Test.YtaceiajcecaapaaGreatJTrM
import Derived.Test.YtaceiajcecaapaaGreatJCRow
import Derived.Deep.QuietTactic
import Derived.BigQuiet
import Derived.Test.YtaceiajcecaapaaGreatSCmp
import Derived.Test.YtaceiajcecaapaaGreatJRrM
import Derived.RegionTactic
import Derived.Test.YtaceiajcecaapaaGreatJZnM
namespace Go.Proofs.YtaceiajcecaapaaGreat
open Go.RowKit
set_option linter.unusedVariables false
theorem it_cells{w:World}{xs:List It}{b off k:Nat}{x:It}(hc:∀ (i:Nat) (y:Value),(itCs xs)[i]? =some y->w.cell? ⟨b,off+i,none⟩=some y)(h:xs[k]? =some x):
 w.cell? ⟨b,off+k*8,none⟩=some (.string x.r.own)∧w.cell? ⟨b,off+k*8+1,none⟩=some (.int .i64 x.r.ty)∧w.cell? ⟨b,off+k*8+2,none⟩=some (.int .i64 x.r.cl)∧w.cell? ⟨b,off+k*8+3,none⟩=some (.int .i64 x.r.tt)∧w.cell? ⟨b,off+k*8+4,none⟩=some (.string x.r.da)∧w.cell? ⟨b,off+k*8+5,none⟩=some (.string x.fo)∧w.cell? ⟨b,off+k*8+6,none⟩=some (.string x.dt)∧w.cell? ⟨b,off+k*8+7,none⟩=some (.bool x.out):=
 ⟨hc (k*8) _ ((itCs_at xs k 0 x h (by decide)).trans rfl),hc (k*8+1) _ ((itCs_at xs k 1 x h (by decide)).trans rfl),hc (k*8+2) _ ((itCs_at xs k 2 x h (by decide)).trans rfl),hc (k*8+3) _ ((itCs_at xs k 3 x h (by decide)).trans rfl),hc (k*8+4) _ ((itCs_at xs k 4 x h (by decide)).trans rfl),hc (k*8+5) _ ((itCs_at xs k 5 x h (by decide)).trans rfl),hc (k*8+6) _ ((itCs_at xs k 6 x h (by decide)).trans rfl),hc (k*8+7) _ ((itCs_at xs k 7 x h (by decide)).trans rfl)⟩
theorem hasI_take{l:List It}{k:Nat}{x:It}(fo:ByteArray)(t:Int)(h:l[k]? =some x):hasI (l.take (k+1)) fo t=(hasI (l.take k) fo t||(!x.out&&decide (x.fo=fo)&&decide (x.r.ty=t))):=by
 obtain⟨hi,e⟩:=List.getElem?_eq_some_iff.1 h;rw [List.take_succ_eq_append_getElem hi,e];simp [hasI]
theorem ba_eq(a b:ByteArray):(a.toList==b.toList)=decide (a=b):=by
 by_cases h:a=b
 ·subst h;simp
 ·rw [decide_eq_false h,beq_eq_false_iff_ne];intro e;apply h;rw [ByteArray.toList_eq,ByteArray.toList_eq] at e;cases a;cases b
  congr 1;exact Array.toList_inj.1 e
set_option maxRecDepth 100000 in
set_option maxHeartbeats 1600000 in
theorem l06Has_any(v:Value)(l:List It)(n:Nat)(fo:ByteArray)(t:Int)(w:World)(h:CRow w v l.length 8 (itCs l))(hn:n<=l.length)(hl:l.length<=1000000):
 Calls Tryz.prog 98 #[v,.int .i64 (n:Int),.string fo,.int .i64 t] w fun e w'=>e=.returned (.bool (hasI (l.take n) fo t))∧w'=w:=by
 obtain⟨_,a,cap,rfl,hcap,hmx,hc⟩:=h;unfold maxLen at hmx;go_enter Tryz.func98,Tryz.ntmps98;go_wp2
 go_loop [9] (fun i=>∃ k:Nat,k<=n∧i=.int .i64 k∧Hid (hasI (l.take k) fo t=false)) (fun i=>n-(intOf i).toNat)
 case atStart=>exact⟨0,Nat.zero_le _,rfl,rfl⟩
 case round=>
  obtain⟨k,hk,rfl,HA⟩:=hrel
  by_cases hlt:k<n
  ·obtain⟨x,hxk⟩:∃ x,l[k]? =some x:=⟨_,List.getElem?_eq_getElem (by omega)⟩;obtain⟨b,off,rfl,hcell⟩:=hc (by omega);obtain⟨c0,c1,c2,c3,c4,c5,c6,c7⟩:=it_cells hcell hxk;have i1:(0:Int)<=(k:Int):=by omega
   have i2:(k:Int)<(l.length:Int):=by omega
   have i3:(k:Int)<(n:Int):=by omega
   have hst:=hasI_take fo t hxk;have e0:=ba_eq x.fo fo;have e1:(x.r.ty==t)=decide (x.r.ty=t):=by by_cases h:x.r.ty=t<;>simp [h]
   rw [HA.out,Bool.false_or,<- e0,<- e1] at hst;have HST:=Nm.hide hst;clear hc hcell hxk hst e0 e1 HA;obtain⟨⟨o,ty,cl,tt,da⟩,f1,d1,ou⟩:=x;simp only at*
   have hend:hasI (l.take (k+1)) fo t=true->hasI (l.take n) fo t=true:=by
    intro h1
    have e:l.take n=l.take (k+1)++(l.drop (k+1)).take (n-(k+1)):=by
     conv=>lhs;rw [show n=(k+1)+(n-(k+1)) by omega]
     rw [List.take_add]
    rw [e];simp only [hasI,List.any_append,Bool.or_eq_true] at h1 ⊢;exact .inl h1
   have HEND:=Nm.hide hend;clear hend
   cases hO:ou with
   |true=>
    subst hO;have HN:Hid (hasI (l.take (k+1)) fo t=false):=by show _=_;rw [HST.out];rfl
    clear HST HEND;go_wp2
    go_round
    case rel=>exact⟨k+1,by omega,by go_num,HN⟩
    case measure=>simp [intOf];omega
   |false=>
    subst hO
    cases hF:(f1.toList==fo.toList) with
    |false=>
     have HN:Hid (hasI (l.take (k+1)) fo t=false):=by show _=_;rw [HST.out,hF];rfl
     clear HST HEND;go_wp2
     go_round
     case rel=>exact⟨k+1,by omega,by go_num,HN⟩
     case measure=>simp [intOf];omega
    |true=>
     cases hT:(ty==t) with
     |false=>
      have HN:Hid (hasI (l.take (k+1)) fo t=false):=by show _=_;rw [HST.out,hF,hT];rfl
      clear HST HEND;go_wp2
      go_round
      case rel=>exact⟨k+1,by omega,by go_num,HN⟩
      case measure=>simp [intOf];omega
     |true=>
      have HN:Hid (hasI (l.take n) fo t=true):=HEND.out (by rw [HST.out,hF,hT];rfl);clear HST HEND;go_wp2;go_ret;exact⟨by rw [HN.out];rfl,rfl⟩
  ·obtain rfl:k=n:=by omega
   have i3:(k:Int)<=(k:Int):=by omega
   clear hc;go_wp2;go_ret;exact⟨by rw [HA.out];rfl,rfl⟩
def ownI(l:List It)(fo:ByteArray):ByteArray:=match l.find? (fun x=>decide (x.fo=fo)) with
 |some x=>x.r.own
 |none=>fo
set_option maxRecDepth 100000 in
set_option maxHeartbeats 1600000 in
theorem l06Owner_any(v:Value)(l:List It)(fo:ByteArray)(w:World)(h:CRow w v l.length 8 (itCs l))(hl:l.length<=1000000):
 Calls Tryz.prog 50 #[v,.string fo] w fun e w'=>e=.returned (.string (ownI l fo))∧w'=w:=by
 obtain⟨_,a,cap,rfl,hcap,hmx,hc⟩:=h;unfold maxLen at hmx;go_enter Tryz.func50,Tryz.ntmps50;go_wp2
 go_loop [5] (fun i=>∃ k:Nat,k<=l.length∧i=.int .i64 k∧Hid (∀ j y,j<k->l[j]? =some y->decide (y.fo=fo)=false)) (fun i=>l.length-(intOf i).toNat)
 case atStart=>exact⟨0,Nat.zero_le _,rfl,by show ∀ _,_;intro j y hj;omega⟩
 case round=>
  obtain⟨k,hk,rfl,HA⟩:=hrel
  by_cases hlt:k<l.length
  ·obtain⟨x,hxk⟩:∃ x,l[k]? =some x:=⟨_,List.getElem?_eq_getElem hlt⟩;obtain⟨b,off,rfl,hcell⟩:=hc (by omega);obtain⟨c0,c1,c2,c3,c4,c5,c6,c7⟩:=it_cells hcell hxk;have i1:(0:Int)<=(k:Int):=by omega
   have i2:(k:Int)<(l.length:Int):=by omega
   have e0:=ba_eq x.fo fo;have HXK:=Nm.hide hxk;clear hc hcell hxk
   cases hF:decide (x.fo=fo) with
   |false=>
    have HA2:Hid (∀ j y,j<k+1->l[j]? =some y->decide (y.fo=fo)=false):=by
     show ∀ _,_
     intro j y hj hy
     by_cases hjk:j=k
     ·subst hjk;rw [HXK.out] at hy;obtain rfl:=Option.some.inj hy;exact hF
     ·exact HA.out j y (by omega) hy
    rw [hF] at e0;clear hF;obtain⟨⟨o,ty,cl,tt,da⟩,f1,d1,ou⟩:=x;simp only at*
    go_wp2
    go_round
    case rel=>exact⟨k+1,by omega,by go_num,HA2⟩
    case measure=>simp [intOf];omega
   |true=>
    have HO:Hid (ownI l fo=x.r.own):=by
     show _=_
     have:l.find? (fun x=>decide (x.fo=fo))=some x:=by
      rw [List.find?_eq_some_iff_getElem];obtain⟨hk',e⟩:=List.getElem?_eq_some_iff.1 HXK.out;refine⟨hF,k,hk',e,fun j hj=>?_⟩;have:=HA.out j l[j] hj (List.getElem?_eq_getElem (by omega));simp only [this];decide
     rw [ownI,this]
    rw [hF] at e0;clear hF;obtain⟨⟨o,ty,cl,tt,da⟩,f1,d1,ou⟩:=x;simp only at*
    go_wp2;go_ret;exact⟨by rw [HO.out];rfl,rfl⟩
  ·obtain rfl:k=l.length:=by omega
   have HO:Hid (ownI l fo=fo):=by
    show _=_
    have:l.find? (fun x=>decide (x.fo=fo))=none:=by
     rw [List.find?_eq_none];intro x hx;obtain⟨j,hj,e⟩:=List.getElem_of_mem hx;have:=HA.out j x hj (by rw [List.getElem?_eq_getElem hj,e]);simpa using this
    rw [ownI,this]
   have i3:(l.length:Int)<=(l.length:Int):=by omega
   clear hc;go_wp2;go_ret;exact⟨by rw [HO.out];rfl,rfl⟩
def befI(a b:It):Bool:=if a.fo=b.fo then(if a.r.ty=b.r.ty then Op.bytesLess a.dt.toList b.dt.toList else decide (a.r.ty<b.r.ty)) else decide (Nm.cmpS a.fo b.fo<0)
set_option maxRecDepth 100000 in
set_option maxHeartbeats 1600000 in
theorem l06Before_any(a b:It)(w:World)(ha:a.fo.size<=maxLen)(hb:b.fo.size<=maxLen):
 Calls Tryz.prog 100 #[.agg (itC a).toArray,.agg (itC b).toArray] w fun e w'=>e=.returned (.bool (befI a b))∧Below w.heap.size w w':=by
 have hB:=((Below.refl w.heap.size w).alloc (Nat.le_refl _) (.cells (itC a).toArray 88)).alloc (by simp) (.cells (itC b).toArray 88);have hcm:=fun W=>specCompareNames_any a.fo b.fo W ha hb
 have e0:=ba_eq a.fo b.fo;obtain⟨Q,hQ⟩:∃ Q,Q=befI a b:=⟨_,rfl⟩;rw [<- hQ];unfold befI at hQ;obtain⟨⟨o,ty,cl,tt,da⟩,f1,d1,ou⟩:=a;obtain⟨⟨o2,ty2,cl2,tt2,da2⟩,f2,d2,ou2⟩:=b;simp only [itC] at*
 by_cases hf:f1=f2
 ·subst hf;rw [if_pos rfl] at hQ;have nf:(f1.toList != f1.toList)=false:=by simp
  clear e0 hcm
  by_cases ht:ty=ty2
  ·subst ht;rw [if_pos rfl] at hQ;have nt:(ty != ty)=false:=by simp
   subst hQ;go_enter Tryz.func100,Tryz.ntmps100;go_wp2;go_ret;exact⟨rfl,hB⟩
  ·rw [if_neg ht] at hQ;subst hQ;have nt:(ty != ty2)=true:=by rw [bne_iff_ne];exact ht
   go_enter Tryz.func100,Tryz.ntmps100;go_wp2;go_ret;exact⟨rfl,hB⟩
 ·rw [if_neg hf] at hQ;subst hQ;rw [decide_eq_false hf] at e0;have nf:(f1.toList != f2.toList)=true:=by rw [bne,e0];rfl
  have e9:¬f1.toList=f2.toList:=by simpa using e0
  generalize Nm.cmpS f1 f2=CC at*;go_enter Tryz.func100,Tryz.ntmps100;go_wp2_with fail
  refine(hcm _).mono ?_;rintro e w1 ⟨rfl,b1⟩;go_wp2;go_ret;exact⟨rfl,Nm.below_two hB b1⟩
set_option maxRecDepth 100000 in
set_option maxHeartbeats 400000 in
theorem l04In_any(n m:Int)(w:World):Calls Tryz.prog 93 #[.int .i64 n,.int .i64 m] w fun e w'=>e=.returned (.bool (decide (0<=n)&&decide (n<=m)))∧w'=w:=by
 by_cases h0:0<=n
 ·by_cases h1:n<=m
  ·have e:(decide (0<=n)&&decide (n<=m))=true:=by simp [h0,h1]
   rw [e];clear e;go_enter Tryz.func93,Tryz.ntmps93;go_wp2;go_ret;exact⟨rfl,rfl⟩
  ·have h1':m<n:=by omega
   have e:(decide (0<=n)&&decide (n<=m))=false:=by simp [h0,h1]
   rw [e];clear e;go_enter Tryz.func93,Tryz.ntmps93;go_wp2;go_ret;exact⟨rfl,rfl⟩
 ·have h0':n<0:=by omega
  have e:(decide (0<=n)&&decide (n<=m))=false:=by simp [h0]
  rw [e];clear e;go_enter Tryz.func93,Tryz.ntmps93;go_wp2;go_ret;exact⟨rfl,rfl⟩
end Go.Proofs.YtaceiajcecaapaaGreat
namespace Go.Proofs.YtaceiajcecaapaaGreat
open Go.RowKit
theorem under_short{xs ys:List ByteArray}(h:xs.length<ys.length):underB xs ys=false:=by
 rw [underB,decide_eq_false (by omega)];rfl
theorem under_long{xs ys:List ByteArray}(h:ys.length<=xs.length):underB xs ys=decide (Nm.cmpLs (xs.drop (xs.length-ys.length)) ys=0):=by
 rw [underB,decide_eq_true h];rfl
set_option maxRecDepth 100000 in
set_option maxHeartbeats 800000 in
theorem under_any(v u:Value)(xs ys:List ByteArray)(w:World)(h:Nm.SRow w v xs)(h':Nm.SRow w u ys)(hxs:∀ x∈xs,x.size<=1000000000)(hlx:xs.length<=1000000000)(hly:ys.length<=1000000000):
 Calls Tryz.prog 82 #[v,u] w fun e w'=>e=.returned (.bool (underB xs ys))∧∃ m,w'=w.drewN m:=by
 have hrow:=h;obtain⟨a,cap,rfl,hcap,hmx,hnl,hc⟩:=h;have hu:=h';obtain⟨a',cap',rfl,hcap',hmx',hnl',hc'⟩:=h';clear hc hc' hnl hnl'
 by_cases hl:xs.length<ys.length
 ·have HA:=Nm.hide (under_short hl);have hd:decide ((0:Int)<=(xs.length:Int)-(ys.length:Int))=false:=by simp;omega
  have hd':(xs.length:Int)-(ys.length:Int)<0:=by omega
  clear hrow hu;go_enter Tryz.func82,Tryz.ntmps82;go_wp2;go_ret;rw [HA.out];exact⟨rfl,0,rfl⟩
 ·have HA:=Nm.hide (under_long (xs:=xs) (ys:=ys) (by omega));obtain⟨d,hd⟩:∃ d,d=xs.length-ys.length:=⟨_,rfl⟩;rw [<- hd] at HA;have hq:(xs.length:Int)-(ys.length:Int)=(d:Int):=by omega
  have hdl:d<=xs.length:=by omega
  have hg:decide ((0:Int)<=(d:Int))=true:=by simp
  have hcmp:=fun V hr=>compare_any V (.slice a' ys.length cap') (xs.drop d) ys w hr hu (fun x hx=>hxs x (List.mem_of_mem_drop hx)) (by rw [List.length_drop];omega) hly
  have hd1:=fun e:cap=d=>hrow.drop_all e
  have hd2:=hrow.drop (k:=d) hdl;generalize Nm.cmpLs (xs.drop d) ys=o at*;have HD:Hid ((o==0)=decide (o=0)):=by show _=_;rw [Bool.eq_iff_iff];simp
  clear hd hl hxs hrow hu
  by_cases hck:cap=d
  ·have Hc:=hcmp _ (hd1 hck);clear hcmp hd1 hd2;subst hck;rw [show xs.length-cap=0 by omega] at Hc;go_enter Tryz.func82,Tryz.ntmps82;go_wp2_with fail
   refine Hc.mono ?_;rintro e w1 ⟨rfl,m,rfl⟩;go_wp2;go_ret;rw [HA.out,<- HD.out];exact⟨rfl,_,rfl⟩
  ·have Hc:=hcmp _ hd2;clear hcmp hd1 hd2;go_enter Tryz.func82,Tryz.ntmps82;go_wp2_with fail
   refine Hc.mono ?_;rintro e w1 ⟨rfl,m,rfl⟩;go_wp2;go_ret;rw [HA.out,<- HD.out];exact⟨rfl,_,rfl⟩
end Go.Proofs.YtaceiajcecaapaaGreat
