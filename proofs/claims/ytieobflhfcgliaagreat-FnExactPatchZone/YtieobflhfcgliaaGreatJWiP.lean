import Derived.Test.YtieobflhfcgliaaGreatJMath
import Derived.RegionTactic
import Derived.Test.YtieobflhfcgliaaGreatJTbGI
import Derived.Test.YtieobflhfcgliaaGreatJSSmall
import Derived.Deep.RegionHeld3
namespace Go.Proofs.YtieobflhfcgliaaGreat
open Go.RowKit
set_option linter.unusedVariables false
set_option maxRecDepth 100000 in
set_option maxHeartbeats 400000 in
theorem within_any(n m:Int)(w:World):Calls Tryz.prog 95 #[.int .i64 n,.int .i64 m] w fun e w'=>e=.returned (.bool (decide (0<=n)&&decide (n<=m)))∧w'=w:=by
 by_cases h0:0<=n
 ·by_cases h1:n<=m
  ·have e:(decide (0<=n)&&decide (n<=m))=true:=by simp [h0,h1]
   rw [e];clear e;go_enter Tryz.func95,Tryz.ntmps95;go_wp2;go_ret;exact⟨rfl,rfl⟩
  ·have h1':m<n:=by omega
   have e:(decide (0<=n)&&decide (n<=m))=false:=by simp [h0,h1]
   rw [e];clear e;go_enter Tryz.func95,Tryz.ntmps95;go_wp2;go_ret;exact⟨rfl,rfl⟩
 ·have h0':n<0:=by omega
  have e:(decide (0<=n)&&decide (n<=m))=false:=by simp [h0]
  rw [e];clear e;go_enter Tryz.func95,Tryz.ntmps95;go_wp2;go_ret;exact⟨rfl,rfl⟩
set_option maxRecDepth 100000 in
set_option maxHeartbeats 400000 in
theorem l04In_any(n m:Int)(w:World):Calls Tryz.prog 48 #[.int .i64 n,.int .i64 m] w fun e w'=>e=.returned (.bool (decide (0<=n)&&decide (n<=m)))∧w'=w:=by
 by_cases h0:0<=n
 ·by_cases h1:n<=m
  ·have e:(decide (0<=n)&&decide (n<=m))=true:=by simp [h0,h1]
   rw [e];clear e;go_enter Tryz.func48,Tryz.ntmps48;go_wp2;go_ret;exact⟨rfl,rfl⟩
  ·have h1':m<n:=by omega
   have e:(decide (0<=n)&&decide (n<=m))=false:=by simp [h0,h1]
   rw [e];clear e;go_enter Tryz.func48,Tryz.ntmps48;go_wp2;go_ret;exact⟨rfl,rfl⟩
 ·have h0':n<0:=by omega
  have e:(decide (0<=n)&&decide (n<=m))=false:=by simp [h0]
  rw [e];clear e;go_enter Tryz.func48,Tryz.ntmps48;go_wp2;go_ret;exact⟨rfl,rfl⟩
end Go.Proofs.YtieobflhfcgliaaGreat
namespace Go.Proofs.YtieobflhfcgliaaGreat
open Go.RowKit
theorem ord_small(x y:ByteArray):Nm.ordL (Nm.small x).toList (Nm.small y).toList=Nm.ordS x y:=by
 rw [ByteArray.toList_eq,ByteArray.toList_eq,Nm.small_data,Nm.small_data];rfl
set_option maxRecDepth 100000 in
set_option maxHeartbeats 800000 in
theorem specCompareNames_any(a b:ByteArray)(w:World)(ha:a.size<=maxLen)(hb:b.size<=maxLen):
 Calls Tryz.prog 130 #[.string a,.string b] w fun e w'=>e=.returned (.int .i64 (Nm.cmpS a b))∧Below w.heap.size w w':=by
 have hsa:=l01Split_any a w ha;have hsb:=fun W=>l01Split_any b W hb
 cases hqa:Nm.split a with
 |none=>
  have HA:=Nm.hide (cmpS_left (b:=b) hqa);rw [hqa] at hsa;clear hqa;go_enter Tryz.func130,Tryz.ntmps130;go_wp2_with fail
  refine hsa.mono ?_;rintro e w1 ⟨v,rfl,hown,hbel⟩;go_wp2_with fail
  refine(hsb _).mono ?_;rintro e w2 ⟨v2,rfl,hown2,hbel2⟩;go_wp2;go_ret;rw [HA.out]
  exact⟨rfl,Nm.below_two hbel hbel2⟩
 |some xs=>
  rw [hqa] at hsa
  cases hqb:Nm.split b with
  |none=>
   have HA:=Nm.hide (cmpS_right (a:=a) hqb);rw [hqb] at hsb;clear hqa hqb;go_enter Tryz.func130,Tryz.ntmps130;go_wp2_with fail
   refine hsa.mono ?_;rintro e w1 ⟨v,rfl,hown,hbel⟩;go_wp2_with fail
   refine(hsb _).mono ?_;rintro e w2 ⟨v2,rfl,hown2,hbel2⟩;go_wp2;go_ret;rw [HA.out]
   exact⟨rfl,Nm.below_two hbel hbel2⟩
  |some ys=>
   have HA:=Nm.hide (cmpS_some hqa hqb);have hxs:=(Nm.split_join hqa).2;have hys:=(Nm.split_join hqb).2;have hza:=Nm.split_size hqa;have hzb:=Nm.split_size hqb;have hla:=Nm.length_le_wsum xs;have hlb:=Nm.length_le_wsum ys;rw [hqb] at hsb;clear hqa hqb;go_enter Tryz.func130,Tryz.ntmps130;go_wp2_with fail
   refine hsa.mono ?_;rintro e w1 ⟨v,rfl,hown,hbel⟩;go_wp2_with fail
   refine(hsb _).mono ?_;rintro e w2 ⟨v2,rfl,hown2,hbel2⟩;have r1:=(Nm.SRow.of_owns hown).below hbel2;have r2:=Nm.SRow.of_owns hown2;simp only [Option.getD_some] at r1 r2;have hbw:=Nm.below_two hbel hbel2;obtain⟨a1,cap1,rfl,hcap1,hmx1,hnl1,hc1⟩:=r1;obtain⟨a2,cap2,rfl,hcap2,hmx2,hnl2,hc2⟩:=r2;clear hown hown2 hsa hsb hnl1 hnl2 hbel hbel2;go_wp2
   go_loopw [9] (fun i wr=>∃ k:Nat,k<=xs.length∧k<=ys.length∧i=.int .i64 ((k:Int)+1)∧Hid (Nm.cmpLs xs ys=Nm.cmpRev (xs.reverse.drop k) (ys.reverse.drop k))∧Below w2.heap.size w2 wr)
    (fun i _=>xs.length+1-(intOf i).toNat)
   case atStart=>exact⟨0,Nat.zero_le _,Nat.zero_le _,rfl,by show _=_;simp [Nm.cmpLs],Below.refl _ _⟩
   case round=>
    obtain⟨k,hka,hkb,rfl,HT,hbr⟩:=hrel
    by_cases h1:k<xs.length∧k<ys.length
    ·obtain⟨h1,h2⟩:=h1;have i1:(k:Int)+1<=(xs.length:Int):=by omega
     have i2:(k:Int)+1<=(ys.length:Int):=by omega
     obtain⟨x,hx⟩:∃ x,xs[xs.length-(k+1)]? =some x:=⟨_,List.getElem?_eq_getElem (by omega)⟩;obtain⟨y,hy⟩:∃ y,ys[ys.length-(k+1)]? =some y:=⟨_,List.getElem?_eq_getElem (by omega)⟩;obtain⟨b1,off1,rfl,hcell1⟩:=hc1 (by intro h;rw [h] at h1;simp at h1);obtain⟨b2,off2,rfl,hcell2⟩:=hc2 (by intro h;rw [h] at h2;simp at h2);have hx2:=hcell1 _ _ hx;have hy2:=hcell2 _ _ hy;have hcx:wr.cell? ⟨b1,off1+(xs.length-(k+1)),none⟩=some (.string x):=(hbr.cell (World.block_lt_of_cell? w2 _ hx2)).trans hx2;have hcy:wr.cell? ⟨b2,off2+(ys.length-(k+1)),none⟩=some (.string y):=(hbr.cell (World.block_lt_of_cell? w2 _ hy2)).trans hy2;have hxz:=hxs x (List.mem_of_getElem? hx);have hyz:=hys y (List.mem_of_getElem? hy);have q1:(0:Int)<=(xs.length:Int)-((k:Int)+1):=by omega
     have q2:(xs.length:Int)-((k:Int)+1)<(xs.length:Int):=by omega
     have q3:((xs.length:Int)-((k:Int)+1)).toNat=xs.length-(k+1):=by omega
     have q4:(0:Int)<=(ys.length:Int)-((k:Int)+1):=by omega
     have q5:(ys.length:Int)-((k:Int)+1)<(ys.length:Int):=by omega
     have q6:((ys.length:Int)-((k:Int)+1)).toNat=ys.length-(k+1):=by omega
     have p1:IntKind.i64.wrap ((xs.length:Int)-((k:Int)+1))=(xs.length:Int)-((k:Int)+1):=wrap_small _ (by omega) (by omega);have p2:IntKind.i64.wrap ((ys.length:Int)-((k:Int)+1))=(ys.length:Int)-((k:Int)+1):=wrap_small _ (by omega) (by omega);have hrx:=Nm.rev_get h1 hx;have hry:=Nm.rev_get h2 hy;have hb1:=World.block_lt_of_cell? w2 _ hx2;have hb2:=World.block_lt_of_cell? w2 _ hy2
     have hsm:∀ (z:ByteArray) (W:World),z.size<=63->(W.cell? ⟨b1,off1+(xs.length-(k+1)),none⟩=some (.string x)∧W.cell? ⟨b2,off2+(ys.length-(k+1)),none⟩=some (.string y)∧Below w2.heap.size w2 W)->
      Calls Tryz.prog 101 #[.string z] W fun e w'=>e=.returned (.string (Nm.small z))∧(w'.cell? ⟨b1,off1+(xs.length-(k+1)),none⟩=some (.string x)∧w'.cell? ⟨b2,off2+(ys.length-(k+1)),none⟩=some (.string y)∧Below w2.heap.size w2 w'):=by
      intro z W hz hS;refine(l01Small_any z W (by omega)).mono ?_;rintro e w' ⟨rfl,hbs⟩;have hsz:=hS.2.2.size;exact⟨rfl,(hbs.cell (World.block_lt_of_cell? W _ hS.1)).trans hS.1,(hbs.cell (World.block_lt_of_cell? W _ hS.2.1)).trans hS.2.1,hS.2.2.trans (hbs.mono hsz)⟩
     have hor:=fun W=>l01Order_any (Nm.small x) (Nm.small y) W
     rw [ord_small] at hor;have hS0:wr.drew.cell? ⟨b1,off1+(xs.length-(k+1)),none⟩=some (.string x)∧wr.drew.cell? ⟨b2,off2+(ys.length-(k+1)),none⟩=some (.string y)∧Below w2.heap.size w2 wr.drew:=⟨hcx,hcy,hbr.drew⟩
     by_cases he:Nm.ordS x y=0
     ·have HN:Hid (Nm.cmpLs xs ys=Nm.cmpRev (xs.reverse.drop (k+1)) (ys.reverse.drop (k+1))):=HT.out.trans (Nm.cmp_go hrx hry he);rw [he] at hor;have hz:((0:Int) != 0)=false:=rfl;clear he hx hy hrx hry hcell1 hcell2 hc1 hc2 hxs hys hx2 hy2;go_wp2;go_region_held3 (fun w'=>w'.cell? ⟨b1,off1+(xs.length-(k+1)),none⟩=some (.string x)∧w'.cell? ⟨b2,off2+(ys.length-(k+1)),none⟩=some (.string y)∧Below w2.heap.size w2 w') (first|assumption|exact hS0) ((first|(go_at_call 101;refine(hsm _ _ (by omega) (by first|assumption|exact hS0)).mono ?_;rintro e w' ⟨rfl,hS1⟩)|(go_at_call 153;refine(hor _).mono ?_;rintro e w' ⟨rfl,rfl⟩)))
      go_wp2;go_roundw
      case rel=>exact⟨k+1,by omega,by omega,by go_num,HN,hS1.2.2⟩
      case measure=>simp [intOf];omega
     ·have HO:Hid (Nm.cmpLs xs ys=Nm.ordS x y):=HT.out.trans (Nm.cmp_stop hrx hry he);have hz:(Nm.ordS x y != 0)=true:=by rw [bne_iff_ne];exact he
      generalize Nm.ordS x y=o at*;clear he hx hy hrx hry hcell1 hcell2 hc1 hc2 hxs hys hx2 hy2;go_wp2;go_region_held3 (fun w'=>w'.cell? ⟨b1,off1+(xs.length-(k+1)),none⟩=some (.string x)∧w'.cell? ⟨b2,off2+(ys.length-(k+1)),none⟩=some (.string y)∧Below w2.heap.size w2 w') (first|assumption|exact hS0) ((first|(go_at_call 101;refine(hsm _ _ (by omega) (by first|assumption|exact hS0)).mono ?_;rintro e w' ⟨rfl,hS1⟩)|(go_at_call 153;refine(hor _).mono ?_;rintro e w' ⟨rfl,rfl⟩)))
      go_wp2;go_ret;rw [HA.out,HO.out];exact⟨rfl,Nm.below_two hbw hS1.2.2⟩
    ·have HO:Hid (Nm.cmpLs xs ys=Nm.cmpI xs.length ys.length):=by
      show _=_
      rw [HT.out,Nm.cmp_end (by simpa using hka) (by simpa using hkb) (by simp;omega)];simp
     clear hc1 hc2 hxs hys
     have hlast:(xs.length<ys.length∧Hid (Nm.cmpI xs.length ys.length= -1))∨(ys.length<xs.length∧Hid (Nm.cmpI xs.length ys.length=1))∨(xs.length=ys.length∧Hid (Nm.cmpI xs.length ys.length=0)):=by
      rcases Nat.lt_trichotomy xs.length ys.length with h|h|h
      ·exact .inl ⟨h,Nm.cmpI_lt (by omega)⟩
      ·exact .inr (.inr ⟨h,Nm.cmpI_eq (by omega)⟩)
      ·exact .inr (.inl ⟨h,Nm.cmpI_gt (by omega)⟩)
     rcases hlast with⟨hl,HC⟩|⟨hl,HC⟩|⟨hl,HC⟩
     ·have g1:(xs.length:Int)<(k:Int)+1:=by omega
      clear h1;go_wp2;go_ret;rw [HA.out,HO.out,HC.out];exact⟨rfl,Nm.below_two hbw hbr⟩
     ·have g1:(k:Int)+1<=(xs.length:Int):=by omega
      have g2:(ys.length:Int)<(k:Int)+1:=by omega
      clear h1;go_wp2;go_ret;rw [HA.out,HO.out,HC.out];exact⟨rfl,Nm.below_two hbw hbr⟩
     ·have g1:(xs.length:Int)<(k:Int)+1:=by omega
      have g2:ys.length<=xs.length:=by omega
      have g3:xs.length<=ys.length:=by omega
      clear h1 hl;go_wp2;go_ret;rw [HA.out,HO.out,HC.out];exact⟨rfl,Nm.below_two hbw hbr⟩
end Go.Proofs.YtieobflhfcgliaaGreat
namespace Go.Proofs.YtieobflhfcgliaaGreat
open Go.RowKit
set_option linter.unusedVariables false
def befI(a b:It):Bool:=if a.fo=b.fo then(if a.r.ty=b.r.ty then Op.bytesLess a.dt.toList b.dt.toList else decide (a.r.ty<b.r.ty)) else decide (Nm.cmpS a.fo b.fo<0)
set_option maxRecDepth 100000 in
set_option maxHeartbeats 1600000 in
theorem l06Before_any(a b:It)(w:World)(ha:a.fo.size<=maxLen)(hb:b.fo.size<=maxLen):
 Calls Tryz.prog 107 #[.agg (itC a).toArray,.agg (itC b).toArray] w fun e w'=>e=.returned (.bool (befI a b))∧Below w.heap.size w w':=by
 have hB:=((Below.refl w.heap.size w).alloc (Nat.le_refl _) (.cells (itC a).toArray 104)).alloc (by simp) (.cells (itC b).toArray 104);have hcm:=fun W=>specCompareNames_any a.fo b.fo W ha hb
 have e0:=ba_eq a.fo b.fo;obtain⟨Q,hQ⟩:∃ Q,Q=befI a b:=⟨_,rfl⟩;rw [<- hQ];unfold befI at hQ;obtain⟨⟨o,ty,cl,tt,da⟩,f1,d1,ou⟩:=a;obtain⟨⟨o2,ty2,cl2,tt2,da2⟩,f2,d2,ou2⟩:=b;simp only [itC] at*
 by_cases hf:f1=f2
 ·subst hf;rw [if_pos rfl] at hQ;have nf:(f1.toList != f1.toList)=false:=by simp
  clear e0 hcm
  by_cases ht:ty=ty2
  ·subst ht;rw [if_pos rfl] at hQ;have nt:(ty != ty)=false:=by simp
   subst hQ;go_enter Tryz.func107,Tryz.ntmps107;go_wp2;go_ret;exact⟨rfl,hB⟩
  ·rw [if_neg ht] at hQ;subst hQ;have nt:(ty != ty2)=true:=by rw [bne_iff_ne];exact ht
   go_enter Tryz.func107,Tryz.ntmps107;go_wp2;go_ret;exact⟨rfl,hB⟩
 ·rw [if_neg hf] at hQ;subst hQ;rw [decide_eq_false hf] at e0;have nf:(f1.toList != f2.toList)=true:=by rw [bne,e0];rfl
  have e9:¬f1.toList=f2.toList:=by simpa using e0
  generalize Nm.cmpS f1 f2=CC at*;go_enter Tryz.func107,Tryz.ntmps107;go_wp2_with fail
  refine(hcm _).mono ?_;rintro e w1 ⟨rfl,b1⟩;go_wp2;go_ret;exact⟨rfl,Nm.below_two hB b1⟩
def kinB(x y:It):Bool:=decide (y.fo=x.fo)&&decide (y.r.ty=x.r.ty)
def dupI(pre:List It)(x:It):Bool:=pre.any fun y=>kinB x y&&decide (y.dt=x.dt)
def mixI(pre:List It)(x:It):Bool:=match pre.find? (kinB x) with
 |some y=>decide (y.r.tt≠x.r.tt)
 |none=>false
def outI(b:Bool)(x:It):It:={x with out:=x.out||b}
def twI(l:List It):List It:=l.mapIdx fun i x=>outI (dupI (l.take i) x) x
def badI(l:List It):Int:=match firstI (fun i x=>mixI (l.take i) x) l with
 |some i=>i
 |none=> -1
theorem twI_len(l:List It):(twI l).length=l.length:=by simp [twI]
theorem twI_get{l:List It}{i:Nat}{x:It}(h:l[i]? =some x):(twI l)[i]? =some (outI (dupI (l.take i) x) x):=by
 simp [twI,h]
theorem dupI_take{l:List It}{k:Nat}{y:It}(x:It)(h:l[k]? =some y):dupI (l.take (k+1)) x=(dupI (l.take k) x||(kinB x y&&decide (y.dt=x.dt))):=by
 obtain⟨hi,e⟩:=List.getElem?_eq_some_iff.1 h;rw [List.take_succ_eq_append_getElem hi,e];simp [dupI]
theorem find_take_no{l:List It}{k:Nat}{p:It->Bool}(h:∀ (j:Nat) (y:It),j<k->l[j]? =some y->p y=false):(l.take k).find? p=none:=by
 rw [List.find?_eq_none];intro y hy;obtain⟨j,hj,e⟩:=List.getElem_of_mem hy;have hj':=hj;rw [List.length_take] at hj';have h2:l[j]? =some y:=by rw [<- e,List.getElem_take,List.getElem?_eq_getElem (by omega)]
 simp [h j y (by omega) h2]
theorem find_take_at{l:List It}{k f:Nat}{y:It}{p:It->Bool}(hf:f<k)(hy:l[f]? =some y)(hp:p y=true)(h:∀ (j:Nat) (z:It),j<f->l[j]? =some z->p z=false):(l.take k).find? p=some y:=by
 rw [List.find?_eq_some_iff_getElem];obtain⟨hl,e⟩:=List.getElem?_eq_some_iff.1 hy;refine⟨hp,f,by rw [List.length_take];omega,by rw [List.getElem_take];exact e,fun j hj=>?_⟩;rw [List.getElem_take];have:=h j l[j] hj (List.getElem?_eq_getElem (by omega));simp [this]
def midI(l:List It)(i k:Nat):List It:=(twI l).take i++(l.drop i).mapIdx fun j x=>if j=0 then outI (dupI (l.take k) x) x else x
theorem midI_len(l:List It)(i k:Nat):(midI l i k).length=l.length:=by
 simp [midI,twI_len];omega
theorem midI_lo{l:List It}{i k j:Nat}{x:It}(h:l[j]? =some x)(hj:j<i):(midI l i k)[j]? =some (outI (dupI (l.take j) x) x):=by
 have hlt:=(List.getElem?_eq_some_iff.1 h).1;rw [midI,List.getElem?_append_left (by rw [List.length_take,twI_len];omega),List.getElem?_take_of_lt hj,twI_get h]
theorem midI_at{l:List It}{i k:Nat}{x:It}(h:l[i]? =some x):(midI l i k)[i]? =some (outI (dupI (l.take k) x) x):=by
 have hlt:=(List.getElem?_eq_some_iff.1 h).1;rw [midI,List.getElem?_append_right (by rw [List.length_take,twI_len];omega)];simp [twI_len,Nat.min_eq_left (Nat.le_of_lt hlt),h]
theorem midI_hi{l:List It}{i k j:Nat}{x:It}(h:l[j]? =some x)(hj:i<j):(midI l i k)[j]? =some x:=by
 have hlt:=(List.getElem?_eq_some_iff.1 h).1;rw [midI,List.getElem?_append_right (by rw [List.length_take,twI_len];omega)];simp only [List.length_take,twI_len,Nat.min_eq_left (by omega:i<=l.length),List.getElem?_mapIdx,List.getElem?_drop];rw [show i+(j-i)=j by omega,h]
 simp;omega
theorem midI_ext{l m:List It}{i k:Nat}(hl:m.length=l.length)(h:∀ (j:Nat) (x:It),l[j]? =some x->m[j]? =(midI l i k)[j]?):m=midI l i k:=by
 apply List.ext_getElem?;intro j
 by_cases hj:j<l.length
 ·exact h j _ (List.getElem?_eq_getElem hj)
 ·rw [List.getElem?_eq_none (by omega),List.getElem?_eq_none (by rw [midI_len];omega)]
theorem midI_start(l:List It):midI l 0 0=l:=by
 symm;refine midI_ext rfl (fun j x h=>?_)
 rcases Nat.eq_zero_or_pos j with rfl|hj
 ·rw [midI_at h,h];simp [outI,dupI]
 ·rw [midI_hi h hj,h]
theorem midI_next{l:List It}{i:Nat}(hi:i<l.length):midI l i i=midI l (i+1) 0:=by
 refine midI_ext (midI_len _ _ _) (fun j x h=>?_)
 by_cases h1:j<i
 ·rw [midI_lo h h1,midI_lo h (by omega)]
 ·by_cases h2:j=i
  ·subst h2;rw [midI_at h,midI_lo h (by omega)]
  ·by_cases h3:j=i+1
   ·subst h3;rw [midI_hi h (by omega),midI_at h];simp [outI,dupI]
   ·rw [midI_hi h (by omega),midI_hi h (by omega)]
theorem midI_end{l:List It}:midI l l.length 0=twI l:=by
 symm;refine midI_ext (twI_len l) (fun j x h=>?_);have hlt:=(List.getElem?_eq_some_iff.1 h).1;rw [midI_lo h hlt,twI_get h]
theorem midI_same{l:List It}{i k:Nat}{x y:It}(hx:l[i]? =some x)(hy:l[k]? =some y)(h:(kinB x y&&decide (y.dt=x.dt))=false):midI l i (k+1)=midI l i k:=by
 refine midI_ext (midI_len _ _ _) (fun j z hz=>?_)
 by_cases h1:j<i
 ·rw [midI_lo hz h1,midI_lo hz h1]
 ·by_cases h2:j=i
  ·subst h2;rw [hx] at hz;obtain rfl:=Option.some.inj hz;rw [midI_at hx,midI_at hx,dupI_take x hy,h,Bool.or_false]
  ·rw [midI_hi hz (by omega),midI_hi hz (by omega)]
theorem midI_out{l:List It}{i k:Nat}{x y:It}(hx:l[i]? =some x)(hy:l[k]? =some y)(h:(kinB x y&&decide (y.dt=x.dt))=true):(midI l i k).set i {x with out:=true}=midI l i (k+1):=by
 refine midI_ext (by rw [List.length_set,midI_len]) (fun j z hz=>?_);have hlt:=(List.getElem?_eq_some_iff.1 hx).1;rw [List.getElem?_set]
 by_cases h1:j<i
 ·rw [if_neg (by omega),midI_lo hz h1,midI_lo hz h1]
 ·by_cases h2:j=i
  ·subst h2;rw [hx] at hz;obtain rfl:=Option.some.inj hz;rw [if_pos rfl,if_pos (by rw [midI_len];exact hlt),midI_at hx,dupI_take x hy,h,Bool.or_true,outI,Bool.or_true]
  ·rw [if_neg (by omega),midI_hi hz (by omega),midI_hi hz (by omega)]
theorem itCs_set:∀ (l:List It) (i:Nat) (x:It),l[i]? =some x->(itCs l).set (i*8+7) (.bool true)=itCs (l.set i {x with out:=true}):=by
 intro l
 induction l with
 |nil=>intro i x h;simp at h
 |cons y l ih=>
  intro i x h;have e:∀ z zs,itCs (z::zs)=itC z++itCs zs:=by intro z zs;simp [itCs]
  cases i with
  |zero=>
   simp at h;subst h;rw [List.set_cons_zero,e,e,List.set_append_left _ _ (by simp [itC])]
   rfl
  |succ i=>
   simp at h;have hl:(itC y).length=8:=rfl;rw [List.set_cons_succ,e,e,List.set_append_right _ _ (by omega),hl,show(i+1)*8+7-8=i*8+7 by omega,ih i x h]
def sortF:Nat->List It->List It
 |0,l=>l
 |n+1,l=>if l.length<2 then l else List.merge (sortF n (l.take (l.length / 2))) (sortF n (l.drop (l.length / 2))) befI
def sortI(l:List It):List It:=sortF l.length l
theorem sortF_small{n:Nat}{l:List It}(h:l.length<2):sortF n l=l:=by
 cases n with
 |zero=>rfl
 |succ n=>rw [sortF,if_pos h]
theorem sortF_big{n:Nat}{l:List It}(h:¬l.length<2):sortF (n+1) l=List.merge (sortF n (l.take (l.length / 2))) (sortF n (l.drop (l.length / 2))) befI:=by rw [sortF,if_neg h]
theorem sortF_perm:∀ (n:Nat) (l:List It),(sortF n l).Perm l:=by
 intro n
 induction n with
 |zero=>intro l;exact .refl _
 |succ n ih=>
  intro l
  by_cases h:l.length<2
  ·rw [sortF_small h]
  ·rw [sortF_big h];have h1:(List.merge (sortF n (l.take (l.length / 2))) (sortF n (l.drop (l.length / 2))) befI).Perm (sortF n (l.take (l.length / 2))++sortF n (l.drop (l.length / 2))):=List.merge_perm_append _;refine h1.trans ?_;refine((ih _).append (ih _)).trans ?_;rw [List.take_append_drop]
theorem sortF_len(n:Nat)(l:List It):(sortF n l).length=l.length:=(sortF_perm n l).length_eq
theorem sortF_mem{n:Nat}{l:List It}{x:It}:x∈sortF n l↔x∈l:=(sortF_perm n l).mem_iff
theorem itCs_take(l:List It)(h:Nat):itCs (l.take h)=(itCs l).take (h*8):=by
 induction l generalizing h with
 |nil=>simp [itCs]
 |cons x l ih=>
  have e:∀ z zs,itCs (z::zs)=itC z++itCs zs:=by intro z zs;simp [itCs]
  have hl:(itC x).length=8:=rfl
  cases h with
  |zero=>simp [itCs]
  |succ h=>
   rw [List.take_succ_cons,e,e,ih,List.take_append,hl,List.take_of_length_le (l:=itC x) (i:=(h+1)*8) (by omega),show(h+1)*8-8=h*8 by omega]
theorem itCs_drop(l:List It)(h:Nat):itCs (l.drop h)=(itCs l).drop (h*8):=by
 induction l generalizing h with
 |nil=>simp [itCs]
 |cons x l ih=>
  have e:∀ z zs,itCs (z::zs)=itC z++itCs zs:=by intro z zs;simp [itCs]
  have hl:(itC x).length=8:=rfl
  cases h with
  |zero=>simp
  |succ h=>
   rw [List.drop_succ_cons,e,ih,List.drop_append,hl,List.drop_of_length_le (l:=itC x) (i:=(h+1)*8) (by omega),show(h+1)*8-8=h*8 by omega,List.nil_append]
theorem cr_take{w:World}{b off n cap h:Nat}{l:List It}(hr:CRow w (.slice (some ⟨b,off,none⟩) n cap) l.length 8 (itCs l))(hh:h<=l.length):CRow w (.slice (some ⟨b,off,none⟩) h cap) (l.take h).length 8 (itCs (l.take h)):=by
 obtain⟨h0,a,c,e,h1,h2,h3⟩:=hr;simp only [Value.slice.injEq] at e;obtain⟨rfl,rfl,rfl⟩:=e;have hl:(l.take h).length=h:=by rw [List.length_take];omega
 rw [hl];refine⟨by rw [itCs_len,hl],_,_,rfl,by omega,h2,fun hp=>⟨b,off,rfl,fun i x hx=>?_⟩⟩;rw [itCs_take] at hx;obtain⟨b',off',e,hc⟩:=h3 (by omega);cases e
 refine hc i x ?_;rw [List.getElem?_take] at hx
 split at hx
 ·exact hx
 ·cases hx
theorem cr_drop{w:World}{b off n cap h:Nat}{l:List It}(hr:CRow w (.slice (some ⟨b,off,none⟩) n cap) l.length 8 (itCs l))(hh:h<l.length):CRow w (.slice (some ⟨b,off+h*8,none⟩) (l.length-h) (cap-h)) (l.drop h).length 8 (itCs (l.drop h)):=by
 obtain⟨h0,a,c,e,h1,h2,h3⟩:=hr;simp only [Value.slice.injEq] at e;obtain⟨rfl,rfl,rfl⟩:=e;have hl:(l.drop h).length=l.length-h:=List.length_drop;rw [hl];refine⟨by rw [itCs_len,hl],_,_,rfl,by omega,by omega,fun hp=>⟨b,off+h*8,rfl,fun i x hx=>?_⟩⟩;rw [itCs_drop,List.getElem?_drop] at hx;obtain⟨b',off',e,hc⟩:=h3 (by omega);cases e
 have:=hc (h*8+i) x hx;rw [Nat.add_assoc];exact this
theorem merge_left{a b:List It}{i:Nat}{x:It}(hx:a[i]? =some x):List.merge (a.drop i) (b.drop b.length) befI=x::List.merge (a.drop (i+1)) (b.drop b.length) befI:=by
 obtain⟨hi,e⟩:=List.getElem?_eq_some_iff.1 hx;rw [List.drop_length,List.merge_right,List.merge_right,List.drop_eq_getElem_cons hi,e]
theorem merge_one{a b:List It}{i k:Nat}{x y:It}(hx:a[i]? =some x)(hy:b[k]? =some y)(h:befI x y=true):List.merge (a.drop i) (b.drop k) befI=x::List.merge (a.drop (i+1)) (b.drop k) befI:=by
 obtain⟨hi,e⟩:=List.getElem?_eq_some_iff.1 hx;obtain⟨hk,e2⟩:=List.getElem?_eq_some_iff.1 hy;rw [List.drop_eq_getElem_cons hi,e,List.drop_eq_getElem_cons hk,e2,List.cons_merge_cons,if_pos h]
theorem merge_two{a b:List It}{i k:Nat}{x y:It}(hx:a[i]? =some x)(hy:b[k]? =some y)(h:befI x y=false):List.merge (a.drop i) (b.drop k) befI=y::List.merge (a.drop i) (b.drop (k+1)) befI:=by
 obtain⟨hi,e⟩:=List.getElem?_eq_some_iff.1 hx;obtain⟨hk,e2⟩:=List.getElem?_eq_some_iff.1 hy;rw [List.drop_eq_getElem_cons hi,e,List.drop_eq_getElem_cons hk,e2,List.cons_merge_cons,if_neg (by simp [h])]
theorem merge_right'{a b:List It}{k:Nat}{y:It}(hy:b[k]? =some y):List.merge (a.drop a.length) (b.drop k) befI=y::List.merge (a.drop a.length) (b.drop (k+1)) befI:=by
 obtain⟨hk,e⟩:=List.getElem?_eq_some_iff.1 hy;rw [List.drop_length,List.nil_merge,List.nil_merge,List.drop_eq_getElem_cons hk,e]
def RB(w:World)(g:Nat)(r:Rr):Prop:=w.cell? ⟨g,0,none⟩=some (.string r.own)∧w.cell? ⟨g,1,none⟩=some (.int .i64 r.ty)∧w.cell? ⟨g,2,none⟩=some (.int .i64 r.cl)∧w.cell? ⟨g,3,none⟩=some (.int .i64 r.tt)∧w.cell? ⟨g,4,none⟩=some (.string r.da)
theorem RB.below{w W:World}{g:Nat}{r:Rr}(h:RB w g r)(hb:Below w.heap.size w W):RB W g r:=by
 obtain⟨a,b,c,d,e⟩:=h;have put:∀ {O:Nat} {z:Value},w.cell? ⟨g,O,none⟩=some z->W.cell? ⟨g,O,none⟩=some z:=fun h=>(hb.cell (World.block_lt_of_cell? w _ h)).trans h
 exact⟨put a,put b,put c,put d,put e⟩
theorem RB.new(w:World)(r:Rr)(t:Nat):RB (w.alloc (.cells #[.string r.own,.int .i64 r.ty,.int .i64 r.cl,.int .i64 r.tt,.string r.da] t)) w.heap.size r:=by
 refine⟨?_,?_,?_,?_,?_⟩<;>simp
end Go.Proofs.YtieobflhfcgliaaGreat
namespace Go.Proofs.YtieobflhfcgliaaGreat
open Go.RowKit
set_option maxRecDepth 100000 in
set_option maxHeartbeats 400000 in
theorem specNameOK_any(s:ByteArray)(w:World)(hs:s.size<=maxLen):
 Calls Tryz.prog 72 #[.string s] w fun e w'=>e=.returned (.bool (Nm.split s).isSome)∧Below w.heap.size w w':=by
 go_enter Tryz.func72,Tryz.ntmps72;go_wp2_with (go_at_call 98;refine(l01Split_any s _ hs).mono ?_;rintro e w1 ⟨v,rfl,hown,hbel⟩)
 go_ret;exact⟨rfl,by assumption⟩
end Go.Proofs.YtieobflhfcgliaaGreat
namespace Go.Proofs.YtieobflhfcgliaaGreat
open Go.RowKit
set_option linter.unusedVariables false
def metaB(t:Int):Bool:=t==0||t==41||(decide (249<=t)&&decide (t<=255))
set_option maxRecDepth 100000 in
set_option maxHeartbeats 400000 in
theorem isMeta_any(t:Int)(w:World):Calls Tryz.prog 157 #[.int .i64 t] w fun e w'=>e=.returned (.bool (metaB t))∧w'=w:=by
 by_cases h0:t=0
 ·subst h0;go_enter Tryz.func157,Tryz.ntmps157;go_wp2;go_ret;exact⟨rfl,rfl⟩
 ·have e0:(t==0)=false:=by rw [beq_eq_false_iff_ne];exact h0
  by_cases h1:t=41
  ·subst h1;go_enter Tryz.func157,Tryz.ntmps157;go_wp2;go_ret;exact⟨rfl,rfl⟩
  ·have e1:(t==41)=false:=by rw [beq_eq_false_iff_ne];exact h1
   by_cases h2:249<=t
   ·by_cases h3:t<=255
    ·have HM:Hid (metaB t=true):=by show _=_;simp [metaB,h2,h3]
     go_enter Tryz.func157,Tryz.ntmps157;go_wp2;go_ret;rw [HM.out];exact⟨rfl,rfl⟩
    ·have h3':255<t:=by omega
     have HM:Hid (metaB t=false):=by show _=_;simp [metaB,h0,h1];omega
     go_enter Tryz.func157,Tryz.ntmps157;go_wp2;go_ret;rw [HM.out];exact⟨rfl,rfl⟩
   ·have h2':t<249:=by omega
    have HM:Hid (metaB t=false):=by show _=_;simp [metaB,h0,h1];omega
    go_enter Tryz.func157,Tryz.ntmps157;go_wp2;go_ret;rw [HM.out];exact⟨rfl,rfl⟩
set_option maxRecDepth 100000 in
set_option maxHeartbeats 400000 in
theorem l05Meta_any(t:Int)(w:World):Calls Tryz.prog 99 #[.int .i64 t] w fun e w'=>e=.returned (.bool (metaB t))∧w'=w:=by
 by_cases h0:t=0
 ·subst h0;go_enter Tryz.func99,Tryz.ntmps99;go_wp2;go_ret;exact⟨rfl,rfl⟩
 ·have e0:(t==0)=false:=by rw [beq_eq_false_iff_ne];exact h0
  by_cases h1:t=41
  ·subst h1;go_enter Tryz.func99,Tryz.ntmps99;go_wp2;go_ret;exact⟨rfl,rfl⟩
  ·have e1:(t==41)=false:=by rw [beq_eq_false_iff_ne];exact h1
   by_cases h2:249<=t
   ·by_cases h3:t<=255
    ·have HM:Hid (metaB t=true):=by show _=_;simp [metaB,h2,h3]
     go_enter Tryz.func99,Tryz.ntmps99;go_wp2;go_ret;rw [HM.out];exact⟨rfl,rfl⟩
    ·have h3':255<t:=by omega
     have HM:Hid (metaB t=false):=by show _=_;simp [metaB,h0,h1];omega
     go_enter Tryz.func99,Tryz.ntmps99;go_wp2;go_ret;rw [HM.out];exact⟨rfl,rfl⟩
   ·have h2':t<249:=by omega
    have HM:Hid (metaB t=false):=by show _=_;simp [metaB,h0,h1];omega
    go_enter Tryz.func99,Tryz.ntmps99;go_wp2;go_ret;rw [HM.out];exact⟨rfl,rfl⟩
end Go.Proofs.YtieobflhfcgliaaGreat
