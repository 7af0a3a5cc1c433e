import Derived.Test.YtgilkakllagbnaaGreatJStI
import Derived.Test.YtgilkakllagbnaaGreatJZnM
import Derived.Test.YtgilkakllagbnaaGreatJClone
import Derived.Test.YtgilkakllagbnaaGreatJData1
import Derived.Deep.RegionHeld3
import Derived.Test.YtgilkakllagbnaaGreatJRrM
import Derived.RegionTactic
import Derived.BigRegion
namespace Go.Proofs.YtgilkakllagbnaaGreat
open Go.RowKit
set_option linter.unusedVariables false
theorem isSOA_any(r:Rr)(w:World):
 Calls Tryz.prog 61 #[.agg #[.string r.own,.int .i64 r.ty,.int .i64 r.cl,.int .i64 r.tt,.string r.da]] w fun e w'=>e=.returned (.bool (is6 r))∧Below w.heap.size w w':=by
 have hB:=(Below.refl w.heap.size w).alloc (Nat.le_refl _) (.cells #[.string r.own,.int .i64 r.ty,.int .i64 r.cl,.int .i64 r.tt,.string r.da] 56);obtain⟨o,ty,cl,tt,da⟩:=r;simp only at*
 have e1:(ty==6)=decide (ty=6):=by by_cases h:ty=6<;>simp [h]
 go_enter Tryz.func61,Tryz.ntmps61;go_wp2;go_ret;exact⟨rfl,hB⟩
def soI(xs:List Rr):Int:=match xs.findIdx? (is6) with
 |some k=>k
 |none=> -1
set_option maxRecDepth 100000 in
set_option maxHeartbeats 1600000 in
theorem indexSOA_any(v:Value)(xs:List Rr)(w:World)(h:CRow w v xs.length 5 (rvVs xs)):
 Calls Tryz.prog 60 #[v,.func (.func 61) #[] #[]] w fun e w'=>e=.returned (.int .i64 (soI xs))∧Below w.heap.size w w':=by
 obtain⟨_,a,cap,rfl,hcap,hmx,hc⟩:=h;unfold maxLen at hmx;go_enter Tryz.func60,Tryz.ntmps60;go_wp2
 go_loopw [8] (fun i wr=>∃ k:Nat,k<=xs.length∧i=.int .i64 k∧Hid (∀ j y,j<k->xs[j]? =some y->is6 y=false)∧Below w.heap.size w wr) (fun i _=>xs.length-(intOf i).toNat)
 case atStart=>exact⟨0,Nat.zero_le _,rfl,by show ∀ _,_;intro j y hj;omega,Below.refl _ _⟩
 case round=>
  obtain⟨k,hk,rfl,HA,hbel⟩:=hrel
  by_cases hlt:k<xs.length
  ·obtain⟨x,hxk⟩:∃ x,xs[k]? =some x:=⟨_,List.getElem?_eq_getElem hlt⟩;obtain⟨b,off,rfl,hcell⟩:=hc (by omega);obtain⟨c0,c1,c2,c3,c4⟩:=rv_cells hcell hxk;have put:∀ {O:Nat} {z:Value},w.cell? ⟨b,O,none⟩=some z->wr.cell? ⟨b,O,none⟩=some z:=fun h=>(hbel.cell (World.block_lt_of_cell? w _ h)).trans h
   replace c0:=put c0
   replace c1:=put c1
   replace c2:=put c2
   replace c3:=put c3
   replace c4:=put c4
   have hone:=isSOA_any x wr;have i1:(0:Int)<=(k:Int):=by omega
   have i2:(k:Int)<(xs.length:Int):=by omega
   have HXK:=Nm.hide hxk
   cases hok:is6 x with
   |false=>
    have HA2:Hid (∀ j y,j<k+1->xs[j]? =some y->is6 y=false):=by
     show ∀ _,_
     intro j y hj hy
     by_cases hjk:j=k
     ·subst hjk;rw [HXK.out] at hy;obtain rfl:=Option.some.inj hy;exact hok
     ·exact HA.out j y (by omega) hy
    rw [hok] at hone;clear hok hxk hcell hc put;obtain⟨o,ty,cl,tt,da⟩:=x;simp only at*
    go_wp2_with fail
    refine hone.mono ?_;rintro e w1 ⟨rfl,hb1⟩;have hbel1:=Nm.below_two hbel hb1;go_wp2;go_roundw
    case rel=>exact⟨k+1,by omega,by go_num,HA2,hbel1⟩
    case measure=>simp [intOf];omega
   |true=>
    have HO:Hid (soI xs=(k:Int)):=by
     show _=_
     have:xs.findIdx? (is6)=some k:=by
      rw [List.findIdx?_eq_some_iff_getElem];obtain⟨hk',e⟩:=List.getElem?_eq_some_iff.1 HXK.out;refine⟨hk',by rw [e];exact hok,fun j hj=>?_⟩;have:=HA.out j xs[j] hj (List.getElem?_eq_getElem (by omega));simp only [this];decide
     rw [soI,this]
    rw [hok] at hone;clear hok hxk hcell hc put;obtain⟨o,ty,cl,tt,da⟩:=x;simp only at*
    go_wp2_with fail
    refine hone.mono ?_;rintro e w1 ⟨rfl,hb1⟩;have hbel1:=Nm.below_two hbel hb1;go_wp2;go_ret;exact⟨by rw [HO.out];rfl,hbel1⟩
  ·have hkl:k=xs.length:=by omega
   have HO:Hid (soI xs= -1):=by
    show _=_
    have:xs.findIdx? (is6)=none:=by
     rw [List.findIdx?_eq_none_iff];intro x hx;obtain⟨j,hj,e⟩:=List.getElem_of_mem hx;exact HA.out j x (by omega) (by rw [List.getElem?_eq_getElem hj,e])
    rw [soI,this]
   subst hkl;have i2:¬(xs.length:Int)<(xs.length:Int):=by omega
   clear hc;go_wp2;go_ret;exact⟨by rw [HO.out];rfl,hbel⟩
theorem soI_find{xs:List Rr}{r:Rr}(h:xs.find? is6=some r):∃ k:Nat,k<xs.length∧xs[k]? =some r∧soI xs=(k:Int):=by
 obtain⟨hp,k,hk,e,hlt⟩:=List.find?_eq_some_iff_getElem.1 h
 have hf:xs.findIdx? is6=some k:=by
  rw [List.findIdx?_eq_some_iff_getElem];exact⟨hk,by rw [e];exact hp,fun j hj=>by have:=hlt j hj;simpa using this⟩
 exact⟨k,hk,by rw [List.getElem?_eq_getElem hk,e],by rw [soI,hf]⟩
end Go.Proofs.YtgilkakllagbnaaGreat
namespace Go.Proofs.YtgilkakllagbnaaGreat
open Go.RowKit
theorem ord_small(x y:ByteArray):Nm.ordL (Nm.small x).toList (Nm.small y).toList=Nm.ordS x y:=by
 rw [ByteArray.toList_eq,ByteArray.toList_eq,Nm.small_data,Nm.small_data];rfl
set_option maxRecDepth 100000 in
set_option maxHeartbeats 800000 in
theorem specCompareNames_any(a b:ByteArray)(w:World)(ha:a.size<=maxLen)(hb:b.size<=maxLen):
 Calls Tryz.prog 127 #[.string a,.string b] w fun e w'=>e=.returned (.int .i64 (Nm.cmpS a b))∧Below w.heap.size w w':=by
 have hsa:=l01Split_any a w ha;have hsb:=fun W=>l01Split_any b W hb
 cases hqa:Nm.split a with
 |none=>
  have HA:=Nm.hide (cmpS_left (b:=b) hqa);rw [hqa] at hsa;clear hqa;go_enter Tryz.func127,Tryz.ntmps127;go_wp2_with fail
  refine hsa.mono ?_;rintro e w1 ⟨v,rfl,hown,hbel⟩;go_wp2_with fail
  refine(hsb _).mono ?_;rintro e w2 ⟨v2,rfl,hown2,hbel2⟩;go_wp2;go_ret;rw [HA.out]
  exact⟨rfl,Nm.below_two hbel hbel2⟩
 |some xs=>
  rw [hqa] at hsa
  cases hqb:Nm.split b with
  |none=>
   have HA:=Nm.hide (cmpS_right (a:=a) hqb);rw [hqb] at hsb;clear hqa hqb;go_enter Tryz.func127,Tryz.ntmps127;go_wp2_with fail
   refine hsa.mono ?_;rintro e w1 ⟨v,rfl,hown,hbel⟩;go_wp2_with fail
   refine(hsb _).mono ?_;rintro e w2 ⟨v2,rfl,hown2,hbel2⟩;go_wp2;go_ret;rw [HA.out]
   exact⟨rfl,Nm.below_two hbel hbel2⟩
  |some ys=>
   have HA:=Nm.hide (cmpS_some hqa hqb);have hxs:=(Nm.split_join hqa).2;have hys:=(Nm.split_join hqb).2;have hza:=Nm.split_size hqa;have hzb:=Nm.split_size hqb;have hla:=Nm.length_le_wsum xs;have hlb:=Nm.length_le_wsum ys;rw [hqb] at hsb;clear hqa hqb;go_enter Tryz.func127,Tryz.ntmps127;go_wp2_with fail
   refine hsa.mono ?_;rintro e w1 ⟨v,rfl,hown,hbel⟩;go_wp2_with fail
   refine(hsb _).mono ?_;rintro e w2 ⟨v2,rfl,hown2,hbel2⟩;have r1:=(Nm.SRow.of_owns hown).below hbel2;have r2:=Nm.SRow.of_owns hown2;simp only [Option.getD_some] at r1 r2;have hbw:=Nm.below_two hbel hbel2;obtain⟨a1,cap1,rfl,hcap1,hmx1,hnl1,hc1⟩:=r1;obtain⟨a2,cap2,rfl,hcap2,hmx2,hnl2,hc2⟩:=r2;clear hown hown2 hsa hsb hnl1 hnl2 hbel hbel2;go_wp2
   go_loopw [9] (fun i wr=>∃ k:Nat,k<=xs.length∧k<=ys.length∧i=.int .i64 ((k:Int)+1)∧Hid (Nm.cmpLs xs ys=Nm.cmpRev (xs.reverse.drop k) (ys.reverse.drop k))∧Below w2.heap.size w2 wr)
    (fun i _=>xs.length+1-(intOf i).toNat)
   case atStart=>exact⟨0,Nat.zero_le _,Nat.zero_le _,rfl,by show _=_;simp [Nm.cmpLs],Below.refl _ _⟩
   case round=>
    obtain⟨k,hka,hkb,rfl,HT,hbr⟩:=hrel
    by_cases h1:k<xs.length∧k<ys.length
    ·obtain⟨h1,h2⟩:=h1;have i1:(k:Int)+1<=(xs.length:Int):=by omega
     have i2:(k:Int)+1<=(ys.length:Int):=by omega
     obtain⟨x,hx⟩:∃ x,xs[xs.length-(k+1)]? =some x:=⟨_,List.getElem?_eq_getElem (by omega)⟩;obtain⟨y,hy⟩:∃ y,ys[ys.length-(k+1)]? =some y:=⟨_,List.getElem?_eq_getElem (by omega)⟩;obtain⟨b1,off1,rfl,hcell1⟩:=hc1 (by intro h;rw [h] at h1;simp at h1);obtain⟨b2,off2,rfl,hcell2⟩:=hc2 (by intro h;rw [h] at h2;simp at h2);have hx2:=hcell1 _ _ hx;have hy2:=hcell2 _ _ hy;have hcx:wr.cell? ⟨b1,off1+(xs.length-(k+1)),none⟩=some (.string x):=(hbr.cell (World.block_lt_of_cell? w2 _ hx2)).trans hx2;have hcy:wr.cell? ⟨b2,off2+(ys.length-(k+1)),none⟩=some (.string y):=(hbr.cell (World.block_lt_of_cell? w2 _ hy2)).trans hy2;have hxz:=hxs x (List.mem_of_getElem? hx);have hyz:=hys y (List.mem_of_getElem? hy);have q1:(0:Int)<=(xs.length:Int)-((k:Int)+1):=by omega
     have q2:(xs.length:Int)-((k:Int)+1)<(xs.length:Int):=by omega
     have q3:((xs.length:Int)-((k:Int)+1)).toNat=xs.length-(k+1):=by omega
     have q4:(0:Int)<=(ys.length:Int)-((k:Int)+1):=by omega
     have q5:(ys.length:Int)-((k:Int)+1)<(ys.length:Int):=by omega
     have q6:((ys.length:Int)-((k:Int)+1)).toNat=ys.length-(k+1):=by omega
     have p1:IntKind.i64.wrap ((xs.length:Int)-((k:Int)+1))=(xs.length:Int)-((k:Int)+1):=wrap_small _ (by omega) (by omega);have p2:IntKind.i64.wrap ((ys.length:Int)-((k:Int)+1))=(ys.length:Int)-((k:Int)+1):=wrap_small _ (by omega) (by omega);have hrx:=Nm.rev_get h1 hx;have hry:=Nm.rev_get h2 hy;have hb1:=World.block_lt_of_cell? w2 _ hx2;have hb2:=World.block_lt_of_cell? w2 _ hy2
     have hsm:∀ (z:ByteArray) (W:World),z.size<=63->(W.cell? ⟨b1,off1+(xs.length-(k+1)),none⟩=some (.string x)∧W.cell? ⟨b2,off2+(ys.length-(k+1)),none⟩=some (.string y)∧Below w2.heap.size w2 W)->
      Calls Tryz.prog 98 #[.string z] W fun e w'=>e=.returned (.string (Nm.small z))∧(w'.cell? ⟨b1,off1+(xs.length-(k+1)),none⟩=some (.string x)∧w'.cell? ⟨b2,off2+(ys.length-(k+1)),none⟩=some (.string y)∧Below w2.heap.size w2 w'):=by
      intro z W hz hS;refine(l01Small_any z W (by omega)).mono ?_;rintro e w' ⟨rfl,hbs⟩;have hsz:=hS.2.2.size;exact⟨rfl,(hbs.cell (World.block_lt_of_cell? W _ hS.1)).trans hS.1,(hbs.cell (World.block_lt_of_cell? W _ hS.2.1)).trans hS.2.1,hS.2.2.trans (hbs.mono hsz)⟩
     have hor:=fun W=>l01Order_any (Nm.small x) (Nm.small y) W
     rw [ord_small] at hor;have hS0:wr.drew.cell? ⟨b1,off1+(xs.length-(k+1)),none⟩=some (.string x)∧wr.drew.cell? ⟨b2,off2+(ys.length-(k+1)),none⟩=some (.string y)∧Below w2.heap.size w2 wr.drew:=⟨hcx,hcy,hbr.drew⟩
     by_cases he:Nm.ordS x y=0
     ·have HN:Hid (Nm.cmpLs xs ys=Nm.cmpRev (xs.reverse.drop (k+1)) (ys.reverse.drop (k+1))):=HT.out.trans (Nm.cmp_go hrx hry he);rw [he] at hor;have hz:((0:Int) != 0)=false:=rfl;clear he hx hy hrx hry hcell1 hcell2 hc1 hc2 hxs hys hx2 hy2;go_wp2;go_region_held3 (fun w'=>w'.cell? ⟨b1,off1+(xs.length-(k+1)),none⟩=some (.string x)∧w'.cell? ⟨b2,off2+(ys.length-(k+1)),none⟩=some (.string y)∧Below w2.heap.size w2 w') (first|assumption|exact hS0) ((first|(go_at_call 98;refine(hsm _ _ (by omega) (by first|assumption|exact hS0)).mono ?_;rintro e w' ⟨rfl,hS1⟩)|(go_at_call 150;refine(hor _).mono ?_;rintro e w' ⟨rfl,rfl⟩)))
      go_wp2;go_roundw
      case rel=>exact⟨k+1,by omega,by omega,by go_num,HN,hS1.2.2⟩
      case measure=>simp [intOf];omega
     ·have HO:Hid (Nm.cmpLs xs ys=Nm.ordS x y):=HT.out.trans (Nm.cmp_stop hrx hry he);have hz:(Nm.ordS x y != 0)=true:=by rw [bne_iff_ne];exact he
      generalize Nm.ordS x y=o at*;clear he hx hy hrx hry hcell1 hcell2 hc1 hc2 hxs hys hx2 hy2;go_wp2;go_region_held3 (fun w'=>w'.cell? ⟨b1,off1+(xs.length-(k+1)),none⟩=some (.string x)∧w'.cell? ⟨b2,off2+(ys.length-(k+1)),none⟩=some (.string y)∧Below w2.heap.size w2 w') (first|assumption|exact hS0) ((first|(go_at_call 98;refine(hsm _ _ (by omega) (by first|assumption|exact hS0)).mono ?_;rintro e w' ⟨rfl,hS1⟩)|(go_at_call 150;refine(hor _).mono ?_;rintro e w' ⟨rfl,rfl⟩)))
      go_wp2;go_ret;rw [HA.out,HO.out];exact⟨rfl,Nm.below_two hbw hS1.2.2⟩
    ·have HO:Hid (Nm.cmpLs xs ys=Nm.cmpI xs.length ys.length):=by
      show _=_
      rw [HT.out,Nm.cmp_end (by simpa using hka) (by simpa using hkb) (by simp;omega)];simp
     clear hc1 hc2 hxs hys
     have hlast:(xs.length<ys.length∧Hid (Nm.cmpI xs.length ys.length= -1))∨(ys.length<xs.length∧Hid (Nm.cmpI xs.length ys.length=1))∨(xs.length=ys.length∧Hid (Nm.cmpI xs.length ys.length=0)):=by
      rcases Nat.lt_trichotomy xs.length ys.length with h|h|h
      ·exact .inl ⟨h,Nm.cmpI_lt (by omega)⟩
      ·exact .inr (.inr ⟨h,Nm.cmpI_eq (by omega)⟩)
      ·exact .inr (.inl ⟨h,Nm.cmpI_gt (by omega)⟩)
     rcases hlast with⟨hl,HC⟩|⟨hl,HC⟩|⟨hl,HC⟩
     ·have g1:(xs.length:Int)<(k:Int)+1:=by omega
      clear h1;go_wp2;go_ret;rw [HA.out,HO.out,HC.out];exact⟨rfl,Nm.below_two hbw hbr⟩
     ·have g1:(k:Int)+1<=(xs.length:Int):=by omega
      have g2:(ys.length:Int)<(k:Int)+1:=by omega
      clear h1;go_wp2;go_ret;rw [HA.out,HO.out,HC.out];exact⟨rfl,Nm.below_two hbw hbr⟩
     ·have g1:(xs.length:Int)<(k:Int)+1:=by omega
      have g2:ys.length<=xs.length:=by omega
      have g3:xs.length<=ys.length:=by omega
      clear h1 hl;go_wp2;go_ret;rw [HA.out,HO.out,HC.out];exact⟨rfl,Nm.below_two hbw hbr⟩
end Go.Proofs.YtgilkakllagbnaaGreat
namespace Go.Proofs.YtgilkakllagbnaaGreat
open Go.RowKit
set_option linter.unusedVariables false
def szR(r:Rr)(L:Int):Int:=if(r.own.size:Int)+r.da.size<=L then L-r.own.size-r.da.size else -1
set_option maxRecDepth 100000 in
set_option maxHeartbeats 800000 in
theorem szRR_any(r:Rr)(L:Int)(w:World)(h0:0<=L)(h1:L<=1048576)(ho:r.own.size<=maxLen)(hd:r.da.size<=maxLen):
 Calls Tryz.prog 43 #[.agg #[.string r.own,.int .i64 r.ty,.int .i64 r.cl,.int .i64 r.tt,.string r.da],.int .i64 L] w fun e w'=>e=.returned (.int .i64 (szR r L))∧Below w.heap.size w w':=by
 unfold maxLen at ho hd;obtain⟨o,ty,cl,tt,da⟩:=r;simp only at ho hd
 have hB:=(Below.refl w.heap.size w).alloc (Nat.le_refl _) (.cells #[.string o,.int .i64 ty,.int .i64 cl,.int .i64 tt,.string da] 47)
 by_cases hm:L-o.size<0
 ·have HS:Hid (szR ⟨o,ty,cl,tt,da⟩ L= -1):=if_neg (by simp only;omega);go_enter Tryz.func43,Tryz.ntmps43;go_wp2;go_ret;rw [HS.out];exact⟨rfl,hB⟩
 ·have hm':0<=L-o.size:=by omega
  by_cases hn:L-o.size-da.size<0
  ·have HS:Hid (szR ⟨o,ty,cl,tt,da⟩ L= -1):=if_neg (by simp only;omega);go_enter Tryz.func43,Tryz.ntmps43;go_wp2;go_ret;rw [HS.out];exact⟨rfl,hB⟩
  ·have hn':0<=L-o.size-da.size:=by omega
   have HS:Hid (szR ⟨o,ty,cl,tt,da⟩ L=L-o.size-da.size):=if_pos (by simp only;omega);go_enter Tryz.func43,Tryz.ntmps43;go_wp2;go_ret;rw [HS.out];exact⟨rfl,hB⟩
set_option maxRecDepth 100000 in
set_option maxHeartbeats 1600000 in
theorem szRRS_any(v:Value)(xs:List Rr)(L:Int)(w:World)(h:CRow w v xs.length 5 (rvVs xs))(hx:∀ r∈xs,r.own.size<=maxLen∧r.da.size<=maxLen)(h0:0<=L)(h1:L<=1048576):
 Calls Tryz.prog 44 #[v,.int .i64 L] w fun e w'=>e=.returned (.int .i64 (szRS xs L))∧Below w.heap.size w w':=by
 obtain⟨_,a,cap,rfl,hcap,hmx,hc⟩:=h;unfold maxLen at hmx
 by_cases hm:L<xs.length
 ·have HS:Hid (szRS xs L= -1):=if_neg (by omega);have hm':L-(xs.length:Int)<0:=by omega
  clear hx hc;go_enter Tryz.func44,Tryz.ntmps44;go_wp2;go_ret;rw [HS.out];exact⟨rfl,Below.refl _ _⟩
 ·have hl:(xs.length:Int)<=1048576:=by omega
  have hm':(0:Int)<=L-(xs.length:Int):=by omega
  have hsz:=fun(r:Rr) (hr:r∈xs) (K:Int) (W:World) (h0:0<=K) (h1:K<=1048576)=>szRR_any r K W h0 h1 (hx r hr).1 (hx r hr).2
  go_enter Tryz.func44,Tryz.ntmps44;go_wp2
  go_loopw [1,5] (fun t i wr=>∃ k:Nat,k<=xs.length∧i=.int .i64 k∧t=.int .i64 (L-xs.length-rsum (xs.take k))∧Hid ((xs.length:Int)+rsum (xs.take k)<=L)∧Below w.heap.size w wr) (fun _ i _=>xs.length-(intOf i).toNat)
  case atStart=>exact⟨0,Nat.zero_le _,rfl,by simp [rsum],by show _<=L;simp [rsum];omega,Below.refl _ _⟩
  case round=>
   obtain⟨k,hk,rfl,rfl,hle,hbel⟩:=hrel
   by_cases hlt:k<xs.length
   ·obtain⟨x,hxk⟩:∃ x,xs[k]? =some x:=⟨_,List.getElem?_eq_getElem hlt⟩;obtain⟨b,off,rfl,hcell⟩:=hc (by omega);obtain⟨c0,c1,c2,c3,c4⟩:=rv_cells hcell hxk;have put:∀ {O:Nat} {z:Value},w.cell? ⟨b,O,none⟩=some z->wr.cell? ⟨b,O,none⟩=some z:=fun h=>(hbel.cell (World.block_lt_of_cell? w _ h)).trans h
    replace c0:=put c0
    replace c1:=put c1
    replace c2:=put c2
    replace c3:=put c3
    replace c4:=put c4
    have HS:Hid (rsum (xs.take (k+1))=rsum (xs.take k)+(x.own.size+x.da.size)):=rsum_step xs k x hxk;have hs1:Hid (rsum (xs.take (k+1))<=rsum xs):=rsum_take_le xs (k+1);have hone:=hsz x (List.mem_of_getElem? hxk) (L-xs.length-rsum (xs.take k)) wr (by have:=hle.out;omega) (by omega);have i1:(0:Int)<=(k:Int):=by omega
    have i2:(k:Int)<(xs.length:Int):=by omega
    by_cases hb:(x.own.size:Int)+x.da.size<=L-xs.length-rsum (xs.take k)
    ·have e1:szR x (L-xs.length-rsum (xs.take k))=L-xs.length-rsum (xs.take (k+1)):=by
      have:=HS.out;rw [szR,if_pos hb];omega
     have hnn:0<=L-(xs.length:Int)-rsum (xs.take (k+1)):=by have:=HS.out;omega
     have hle2:Hid ((xs.length:Int)+rsum (xs.take (k+1))<=L):=by show _<=L;omega
     rw [e1] at hone;clear hxk hcell hc hx hsz HS hb e1 hs1;generalize hL2:(L-(xs.length:Int)-(rsum (xs.take (k+1)):Int))=L2 at*;generalize (L-(xs.length:Int)-(rsum (xs.take k):Int))=L1 at*;go_wp2_with (go_at_call 43;refine hone.mono ?_;rintro e w1 ⟨rfl,hb1⟩)
     go_roundw
     case rel=>exact⟨k+1,by omega,by go_num,by rw [hL2],hle2,Nm.below_two hbel hb1⟩
     case measure=>simp [intOf];omega
    ·have HZ:Hid (szRS xs L= -1):=if_neg (by have:=HS.out;have:=hs1.out;omega);have e1:szR x (L-xs.length-rsum (xs.take k))= -1:=if_neg hb;rw [e1] at hone;clear hxk hcell hc hx hsz HS hb e1 hs1;generalize (L-(xs.length:Int)-(rsum (xs.take k):Int))=L1 at*;go_wp2_with (go_at_call 43;refine hone.mono ?_;rintro e w1 ⟨rfl,hb1⟩)
     go_ret;rw [HZ.out];exact⟨rfl,Nm.below_two hbel hb1⟩
   ·have hkl:k=xs.length:=by omega
    have HZ:Hid (szRS xs L=L-xs.length-rsum (xs.take k)):=by
     have:=hle.out;rw [hkl,List.take_length] at this ⊢;exact if_pos this
    have i2:(xs.length:Int)<=(k:Int):=by omega
    clear hc hx hsz;generalize (L-(xs.length:Int)-(rsum (xs.take k):Int))=L1 at*;go_wp2;go_ret;rw [HZ.out];exact⟨rfl,hbel⟩
set_option maxRecDepth 100000 in
set_option maxHeartbeats 1600000 in
theorem toRR_any(r:Rr)(w:World):
 Calls Tryz.prog 56 #[.agg #[.string r.own,.int .i64 r.ty,.int .i64 r.cl,.int .i64 r.tt,.string r.da]] w fun e w'=>e=.returned (.agg #[.string r.own,.int .i64 r.ty,.int .i64 r.cl,.int .i64 r.tt,.string r.da])∧Below w.heap.size w w':=by
 obtain⟨o,ty,cl,tt,da⟩:=r;go_enter Tryz.func56,Tryz.ntmps56;go_wp2;refine bodyPost_ret (v:=.agg #[.string o,.int .i64 ty,.int .i64 cl,.int .i64 tt,.string da]) ?_ rfl ⟨rfl,?_⟩
 ·simp [results,Tryz.results56,go_sem,Result.andThen]
 ·exact(((Below.refl _ _).alloc (Nat.le_refl _) _).alloc (by simp) _).alloc (by simp;omega) _
theorem set5{cs:List Value}{k:Nat}{A:List Value}(a b c d e:Value)(hl:k*5+5<=cs.length)(h:cs.take (k*5)=A):
 (((((cs.set (k*5) a).set (k*5+1) b).set (k*5+2) c).set (k*5+3) d).set (k*5+4) e).take ((k+1)*5)=A++[a,b,c,d,e]:=by
 have hs:cs=cs.take (k*5)++cs.drop (k*5):=(List.take_append_drop _ _).symm;have hdl:5<=(cs.drop (k*5)).length:=by simp;omega
 have hpl:(cs.take (k*5)).length=k*5:=by simp;omega
 rw [h] at hs hpl;obtain⟨q,hq⟩:∃ q,q=cs.drop (k*5):=⟨_,rfl⟩;rw [<- hq] at hs hdl
 match q,hdl with
 |y0::y1::y2::y3::y4::r,_=>
  rw [hs];simp only [List.set_append,hpl,Nat.lt_irrefl,if_false,Nat.sub_self,show ¬(k*5+1<k*5) by omega,show ¬(k*5+2<k*5) by omega,show ¬(k*5+3<k*5) by omega,show ¬(k*5+4<k*5) by omega,Nat.add_sub_cancel_left];simp only [List.set_cons_zero,List.set_cons_succ];rw [List.take_append,hpl,show(k+1)*5-k*5=5 by omega,List.take_of_length_le (by omega)];rfl
theorem Tryz.infoRrz:(Tryz.prog.info? 56).map (fun i=>(i.zero,i.size,i.bytes))=some (some (.agg #[.string ByteArray.empty,.int .i64 0,.int .i64 0,.int .i64 0,.string ByteArray.empty]),5,56):=by kernel_rfl
theorem five_at{w:World}{B e g n cap k:Nat}{cs:List Value}(h:w.ownsRow B e 5 (.slice (some ⟨g,0,none⟩) n cap) n cs)(hk:k<n)(j:Nat)(hj:j<5):∃ y,w.cell? ⟨g,k*5+j,none⟩=some y:=by
 rw [h.cellAt (k*5+j) (by omega)];have:=h.1;exact⟨_,List.getElem?_eq_getElem (by omega)⟩
set_option maxRecDepth 100000 in
set_option maxHeartbeats 1600000 in
theorem toRRS_any(v:Value)(xs:List Rr)(w:World)(h:CRow w v xs.length 5 (rvVs xs))(hlen:xs.length<=1048576):
 Calls Tryz.prog 57 #[v] w fun e w'=>∃ u,e=.returned u∧w'.ownsRow w.heap.size 56 5 u xs.length (rvVs xs)∧Below w.heap.size w w':=by
 obtain⟨i0,hi,hz0,hz1,hz2⟩:=info_parts Tryz.infoRrz;obtain⟨_,a,cap,rfl,hcap,hmx,hc⟩:=h;unfold maxLen at hmx;have hto:=fun(r:Rr) W=>toRR_any r W
 go_enter Tryz.func57,Tryz.ntmps57;go_wp2_with (at_make;refine wpList_make_full _ rfl (.tmp 6) (.tmp 6) 28 rfl w.heap.size 56 i0 _ 5 Tryz.underlying28 hi hz0 hz1 .i64 .i64 _ _ xs.length rfl rfl rfl rfl (by rw [hz2];omega) (by unfold maxLen;omega) (Nat.le_refl _) ?_;intro w2 hown0 hgrow0)
 generalize hcs0:(madeCells (Value.agg #[.string ByteArray.empty,.int .i64 0,.int .i64 0,.int .i64 0,.string ByteArray.empty]).cells (xs.length*5)).toList=cs0 at hown0;clear hcs0
 go_loopw [4] (fun i wr=>∃ (k:Nat) (cs:List Value),k<=xs.length∧i=.int .i64 k∧wr.ownsRow w.heap.size 56 5 (.slice (some ⟨w.heap.size,0,none⟩) xs.length xs.length) xs.length cs∧Hid (cs.take (k*5)=rvVs (xs.take k))∧Below w.heap.size w wr)
  (fun i _=>xs.length-(intOf i).toNat)
 case atStart=>exact⟨0,cs0,Nat.zero_le _,rfl,hown0,by show _=_;simp [rvVs],(Below.refl _ w).grown hgrow0 (Nat.le_refl _) (fun k hk=>by cases hk)⟩
 case round=>
  obtain⟨k,cs,hk,rfl,hown,HT,hbel⟩:=hrel;clear hown0 hgrow0
  by_cases hlt:k<xs.length
  ·obtain⟨x,hx⟩:∃ x,xs[k]? =some x:=⟨_,List.getElem?_eq_getElem hlt⟩;obtain⟨b,off,rfl,hcell⟩:=hc (by omega);obtain⟨c0,c1,c2,c3,c4⟩:=rv_cells hcell hx;have put:∀ {O:Nat} {z:Value},w.cell? ⟨b,O,none⟩=some z->wr.cell? ⟨b,O,none⟩=some z:=fun h=>(hbel.cell (World.block_lt_of_cell? w _ h)).trans h
   replace c0:=put c0
   replace c1:=put c1
   replace c2:=put c2
   replace c3:=put c3
   replace c4:=put c4
   have i1:(0:Int)<=(k:Int):=by omega
   have i2:(k:Int)<(xs.length:Int):=by omega
   have hset:=set5 (.string x.own) (.int .i64 x.ty) (.int .i64 x.cl) (.int .i64 x.tt) (.string x.da) (by have:=hown.1;omega) HT.out
   have HT2:Hid ((((((cs.set (k*5) (.string x.own)).set (k*5+1) (.int .i64 x.ty)).set (k*5+2) (.int .i64 x.cl)).set (k*5+3) (.int .i64 x.tt)).set (k*5+4) (.string x.da)).take ((k+1)*5)=rvVs (xs.take (k+1))):=by
    show _=_
    rw [hset,List.take_add_one,hx,rvVs_app];rfl
   clear hcell hc hset HT;obtain⟨o,ty,cl,tt,da⟩:=x;simp only at c0 c1 c2 c3 c4 HT2
   have hone:=hto ⟨o,ty,cl,tt,da⟩ wr;simp only at hone
   clear hto hx;go_wp2_with (go_at_call 56;refine hone.mono ?_;rintro e w1 ⟨rfl,hb1⟩;have ho1:=own_below hown hb1;obtain⟨y0,hy0⟩:=five_at ho1 hlt 0 (by decide);obtain⟨y1,hy1⟩:=five_at ho1 hlt 1 (by decide);obtain⟨y2,hy2⟩:=five_at ho1 hlt 2 (by decide);obtain⟨y3,hy3⟩:=five_at ho1 hlt 3 (by decide);obtain⟨y4,hy4⟩:=five_at ho1 hlt 4 (by decide);rw [Nat.add_zero] at hy0;have fz:=ho1.frozenAt;clear hone)
   go_roundw
   case rel=>exact⟨k+1,_,by omega,by go_num,(((((ho1.stored (k*5) _).1.stored (k*5+1) _).1.stored (k*5+2) _).1.stored (k*5+3) _).1.stored (k*5+4) _).1,HT2,(((((Nm.below_two hbel hb1).setCell (Nat.le_refl _) _).setCell (Nat.le_refl _) _).setCell (Nat.le_refl _) _).setCell (Nat.le_refl _) _).setCell (Nat.le_refl _) _⟩
   case measure=>simp [intOf];omega
  ·have hkl:k=xs.length:=by omega
   have hcs:cs=rvVs xs:=by
    have e:=HT.out;have hl:=hown.1;rw [hkl,List.take_length,List.take_of_length_le (by omega)] at e;exact e
   subst hcs;have i2:(xs.length:Int)<=(k:Int):=by omega
   clear hc hlt HT hto;go_wp2;go_ret;exact⟨_,rfl,hown,hbel⟩
end Go.Proofs.YtgilkakllagbnaaGreat
