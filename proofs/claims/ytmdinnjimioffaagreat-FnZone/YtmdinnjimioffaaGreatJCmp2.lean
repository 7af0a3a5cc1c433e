import Derived.Test.YtmdinnjimioffaaGreatJCmp
import Derived.Test.YtmdinnjimioffaaGreatJCmpM
import Derived.Deep.QuietTactic
import Derived.BigQuiet
import Derived.Test.YtmdinnjimioffaaGreatJFoldM
import Derived.Test.YtmdinnjimioffaaGreatRows
import Derived.WalkSpells
import Derived.WalkLawsBesides
import Derived.RangeFuncNested
import Derived.RangeFuncBound
import Derived.RangeFuncCalls
import Derived.RangeFuncLeaves
import Derived.Shelf.Abstract
import Derived.Shelf.RegionOpen
import Derived.WalkKit
import Derived.OwnWalkIn
import Derived.TacticsInMore
import Derived.LoopNIn
import Derived.LoopIn
namespace Go.Proofs.YtmdinnjimioffaaGreat
open Go.RowKit
theorem cell_drewN(w:World)(m:Nat)(a:Addr):(w.drewN m).cell? a=w.cell? a:=by simp
set_option maxRecDepth 100000 in
set_option maxHeartbeats 800000 in
theorem compare_any(v u:Value)(xs ys:List ByteArray)(w:World)(h:Nm.SRow w v xs)(h':Nm.SRow w u ys)(hxs:∀ x∈xs,x.size<=1000000000)(hlx:xs.length<=1000000000)(hly:ys.length<=1000000000):
 Calls Tryz.prog 84 #[v,u] w fun e w'=>e=.returned (.int .i64 (Nm.cmpLs xs ys))∧∃ m,w'=w.drewN m:=by
 obtain⟨a,cap,rfl,hcap,hmx,hnl,hc⟩:=h;obtain⟨a',cap',rfl,hcap',hmx',hnl',hc'⟩:=h';clear hnl hnl';go_enter Tryz.func84,Tryz.ntmps84;go_wp2
 go_loopw [5] (fun i wr=>∃ k:Nat,k<=xs.length∧k<=ys.length∧i=.int .i64 ((k:Int)+1)∧Hid (Nm.cmpLs xs ys=Nm.cmpRev (xs.reverse.drop k) (ys.reverse.drop k))∧∃ m,Hid (wr=w.drewN m))
  (fun i _=>xs.length+1-(intOf i).toNat)
 case atStart=>exact⟨0,Nat.zero_le _,Nat.zero_le _,rfl,by show _=_;simp [Nm.cmpLs],0,rfl⟩
 case round=>
  obtain⟨k,hka,hkb,rfl,HT,m,HW⟩:=hrel
  by_cases h1:k<xs.length∧k<ys.length
  ·obtain⟨h1,h2⟩:=h1;have i1:(k:Int)+1<=(xs.length:Int):=by omega
   have i2:(k:Int)+1<=(ys.length:Int):=by omega
   obtain⟨x,hx⟩:∃ x,xs[xs.length-(k+1)]? =some x:=⟨_,List.getElem?_eq_getElem (by omega)⟩;obtain⟨y,hy⟩:∃ y,ys[ys.length-(k+1)]? =some y:=⟨_,List.getElem?_eq_getElem (by omega)⟩;obtain⟨b,off,rfl,hcell⟩:=hc (by intro h;rw [h] at h1;simp at h1);obtain⟨b',off',rfl,hcell'⟩:=hc' (by intro h;rw [h] at h2;simp at h2);have hcx:wr.cell? ⟨b,off+(xs.length-(k+1)),none⟩=some (.string x):=by rw [HW.out,cell_drewN];exact hcell _ _ hx
   have hcy:wr.cell? ⟨b',off'+(ys.length-(k+1)),none⟩=some (.string y):=by rw [HW.out,cell_drewN];exact hcell' _ _ hy
   have hxz:=hxs x (List.mem_of_getElem? hx);have q1:(0:Int)<=(xs.length:Int)-((k:Int)+1):=by omega
   have q2:(xs.length:Int)-((k:Int)+1)<(xs.length:Int):=by omega
   have q3:((xs.length:Int)-((k:Int)+1)).toNat=xs.length-(k+1):=by omega
   have q4:(0:Int)<=(ys.length:Int)-((k:Int)+1):=by omega
   have q5:(ys.length:Int)-((k:Int)+1)<(ys.length:Int):=by omega
   have q6:((ys.length:Int)-((k:Int)+1)).toNat=ys.length-(k+1):=by omega
   have hrx:=Nm.rev_get h1 hx;have hry:=Nm.rev_get h2 hy
   by_cases he:Nm.ordS x y=0
   ·have HN:Hid (Nm.cmpLs xs ys=Nm.cmpRev (xs.reverse.drop (k+1)) (ys.reverse.drop (k+1))):=HT.out.trans (Nm.cmp_go hrx hry he);have hcf:=fun W=>compareFolded_any x y W hxz
    rw [he] at hcf;have hz:((0:Int) != 0)=false:=rfl;clear he hx hy hrx hry hcell hcell' hc hc' hxs;go_wp2;go_quiet ((go_at_call 108;exact Calls.quiet_of (hcf _)))
    go_wp2;go_roundw
    case rel=>exact⟨k+1,by omega,by omega,by go_num,HN,_,by show _=_;rw [HW.out,World.drewN_drewN]⟩
    case measure=>simp [intOf];omega
   ·have HO:Hid (Nm.cmpLs xs ys=Nm.ordS x y):=HT.out.trans (Nm.cmp_stop hrx hry he);have hcf:=fun W=>compareFolded_any x y W hxz
    have hz:(Nm.ordS x y != 0)=true:=by rw [bne_iff_ne];exact he
    generalize Nm.ordS x y=o at*;clear he hx hy hrx hry hcell hcell' hc hc' hxs;go_wp2;go_quiet ((go_at_call 108;exact Calls.quiet_of (hcf _)))
    go_wp2;go_ret;rw [HO.out];exact⟨rfl,_,by rw [HW.out,World.drewN_drewN]⟩
  ·have HO:Hid (Nm.cmpLs xs ys=Nm.cmpI xs.length ys.length):=by
    show _=_
    rw [HT.out,Nm.cmp_end (by simpa using hka) (by simpa using hkb) (by simp;omega)];simp
   clear hc hc' hxs
   by_cases h2:k<xs.length
   ·have g1:(k:Int)+1<=(xs.length:Int):=by omega
    have g2:(ys.length:Int)<(k:Int)+1:=by omega
    clear h1;go_wp2_with fail
    refine(cmpInt_any _ _ _).mono ?_;rintro e w3 ⟨rfl,rfl⟩;go_wp2;go_ret;rw [HO.out];exact⟨rfl,_,HW.out⟩
   ·have g1:(xs.length:Int)<(k:Int)+1:=by omega
    clear h1;go_wp2_with fail
    refine(cmpInt_any _ _ _).mono ?_;rintro e w3 ⟨rfl,rfl⟩;go_wp2;go_ret;rw [HO.out];exact⟨rfl,_,HW.out⟩
end Go.Proofs.YtmdinnjimioffaaGreat
namespace Go.Proofs.YtmdinnjimioffaaGreat
open Go.RowKit
set_option linter.unusedVariables false
set_option maxRecDepth 100000 in
set_option maxHeartbeats 3200000 in
theorem bsfS_any(v tgt cp:Value)(rs:List (Value×Value))(cf:Nat->Int)(w:World)(h:CRow w v rs.length 2 (rowCs rs))(hl:rs.length<=1000000)
 (hf:∀ (i:Nat) (p:Value×Value),rs[i]? =some p->∀ W,Below w.heap.size w W->Calls Tryz.prog 159 #[.agg #[p.1,p.2],tgt,cp] W fun e w'=>e=.returned (.int .i64 (cf i))∧Below W.heap.size W w')
 (hm:∀ a b,a<=b->b<rs.length->cf b<0->cf a<0):
 Calls Tryz.prog 158 #[v,tgt,.func (.func 159) #[] #[cp]] w fun e w'=>∃ k:Nat,Fnd rs.length cf k∧e=.returned (.tuple #[.int .i64 (k:Int),.bool (decide (k<rs.length)&&decide (cf k=0))])∧Below w.heap.size w w':=by
 obtain⟨_,a,cap,rfl,hcap,hmx,hc⟩:=h;unfold maxLen at hmx;have HM:=Nm.hide hm;clear hm;go_enter Tryz.func158,Tryz.ntmps158;go_wp2
 go_loopw [9,10] (fun vi vj wr=>∃ i j:Nat,i<=j∧j<=rs.length∧vi=.int .i64 i∧vj=.int .i64 j∧Hid ((∀ q,q<i->cf q<0)∧(∀ q,j<=q->q<rs.length->0<=cf q))∧Below w.heap.size w wr) (fun vi vj _=>(intOf vj).toNat-(intOf vi).toNat)
 case atStart=>exact⟨0,rs.length,Nat.zero_le _,Nat.le_refl _,rfl,rfl,⟨fun q hq=>by omega,fun q h1 h2=>by omega⟩,Below.refl _ _⟩
 case round=>
  obtain⟨i,j,hij,hjl,rfl,rfl,HI,hbel⟩:=hrel
  by_cases hlt:i<j
  ·obtain⟨m,hm⟩:∃ m,m=(i+j) / 2:=⟨_,rfl⟩;have hm1:i<=m:=by omega
   have hm2:m<j:=by omega
   have g1:((i:Int)+(j:Int)) / 2=(m:Int):=by omega
   obtain⟨p,hp⟩:∃ p,rs[m]? =some p:=⟨_,List.getElem?_eq_getElem (by omega)⟩;have at0:=rowCs_at rs m 0 p hp (by decide);have at1:=rowCs_at rs m 1 p hp (by decide);obtain⟨b,off,rfl,hcell⟩:=hc (by omega);have put:∀ {B O:Nat} {z:Value},w.cell? ⟨B,O,none⟩=some z->wr.cell? ⟨B,O,none⟩=some z:=fun h=>(hbel.cell (World.block_lt_of_cell? w _ h)).trans h
   have c0:wr.cell? ⟨b,off+m*2,none⟩=some p.1:=put (hcell _ _ at0);have c1:wr.cell? ⟨b,off+m*2+1,none⟩=some p.2:=put (hcell _ _ at1);have hcl:=hf m p hp wr hbel;have n1:(0:Int)<=(m:Int):=by omega
   have n2:(m:Int)<(rs.length:Int):=by omega
   have n3:(i:Int)<(j:Int):=by omega
   have n4:(j:Int)<=1000000:=by omega
   clear hcell hc at0 at1 hp put hf hm
   by_cases hneg:cf m<0
   ·have HI2:Hid ((∀ q,q<m+1->cf q<0)∧(∀ q,j<=q->q<rs.length->0<=cf q)):=⟨fun q hq=>HM.out q m (by omega) (by omega) hneg,HI.out.2⟩;clear HI;go_wp2_with fail
    refine hcl.mono ?_;rintro e w1 ⟨rfl,b1⟩;go_wp2;go_roundw
    case rel=>exact⟨m+1,j,by omega,hjl,by go_num,rfl,HI2,Nm.below_two hbel b1⟩
    case measure=>simp [intOf];omega
   ·have HI2:Hid ((∀ q,q<i->cf q<0)∧(∀ q,m<=q->q<rs.length->0<=cf q)):=⟨HI.out.1,fun q h1 h2=>by
     rcases Int.lt_or_le (cf q) 0 with h|h
     ·exact absurd (HM.out m q h1 h2 h) hneg
     ·exact h⟩
    have n5:0<=cf m:=by omega
    clear HI hneg;go_wp2_with fail
    refine hcl.mono ?_;rintro e w1 ⟨rfl,b1⟩;go_wp2;go_roundw
    case rel=>exact⟨i,m,hm1,by omega,rfl,rfl,HI2,Nm.below_two hbel b1⟩
    case measure=>simp [intOf];omega
  ·obtain rfl:i=j:=by omega
   have HF:Hid (Fnd rs.length cf i):=⟨hjl,HI.out⟩;have n3:¬(i:Int)<(i:Int):=by omega
   clear HI HM
   by_cases hil:i<rs.length
   ·obtain⟨p,hp⟩:∃ p,rs[i]? =some p:=⟨_,List.getElem?_eq_getElem hil⟩;have at0:=rowCs_at rs i 0 p hp (by decide);have at1:=rowCs_at rs i 1 p hp (by decide);obtain⟨b,off,rfl,hcell⟩:=hc (by omega);have put:∀ {B O:Nat} {z:Value},w.cell? ⟨B,O,none⟩=some z->wr.cell? ⟨B,O,none⟩=some z:=fun h=>(hbel.cell (World.block_lt_of_cell? w _ h)).trans h
    have c0:wr.cell? ⟨b,off+i*2,none⟩=some p.1:=put (hcell _ _ at0);have c1:wr.cell? ⟨b,off+i*2+1,none⟩=some p.2:=put (hcell _ _ at1);have hcl:=hf i p hp wr hbel;have n1:(0:Int)<=(i:Int):=by omega
    have n2:(i:Int)<(rs.length:Int):=by omega
    have HIL:=Nm.hide hil;clear hcell hc at0 at1 hp put hf hil;have e0:(cf i==0)=decide (cf i=0):=by by_cases h:cf i=0<;>simp [h]
    have HE0:=Nm.hide e0;clear e0;go_wp2_with fail
    refine hcl.mono ?_;rintro e w1 ⟨rfl,b1⟩;go_wp2;go_ret2;refine⟨i,HF.out,?_,Nm.below_two hbel b1⟩;rw [decide_eq_true HIL.out,Bool.true_and,<- HE0.out];rfl
   ·have hie:i=rs.length:=by omega
    have n2:(rs.length:Int)<=(i:Int):=by omega
    have HIL:=Nm.hide hil;clear hc hf hil hie;go_wp2;go_ret2;refine⟨i,HF.out,?_,hbel⟩;rw [decide_eq_false HIL.out,Bool.false_and];rfl
set_option maxRecDepth 100000 in
set_option maxHeartbeats 1600000 in
theorem placeS_any(g:Nat)(cmpv rv key:Value)(rs:List (Value×Value))(cf:Nat->Int)(w:World)(hg:Blk w g #[cmpv,rv] 192)(h:CRow w rv rs.length 2 (rowCs rs))(hl:rs.length<=1000000)
 (hf:∀ (tb i:Nat) (p:Value×Value),rs[i]? =some p->∀ W,Below w.heap.size w W->Blk W tb #[.pointer (some ⟨g,0,none⟩)] 132->Calls Tryz.prog 159 #[.agg #[p.1,p.2],key,.pointer (some ⟨tb,0,none⟩)] W fun e w'=>e=.returned (.int .i64 (cf i))∧Below W.heap.size W w')
 (hm:∀ a b,a<=b->b<rs.length->cf b<0->cf a<0):
 Calls Tryz.prog 141 #[.pointer (some ⟨g,0,none⟩),key] w fun e w'=>∃ k:Nat,Fnd rs.length cf k∧e=.returned (.tuple #[.int .i64 (k:Int),.bool (decide (k<rs.length)&&decide (cf k=0))])∧Below w.heap.size w w':=by
 have hB0:=(Below.refl w.heap.size w).alloc (Nat.le_refl _) (.cells #[.pointer (some ⟨g,0,none⟩)] 132);have kb:=blk_new w #[.pointer (some ⟨g,0,none⟩)] 132;have hs:=bsfS_any rv key (.pointer (some ⟨w.heap.size,0,none⟩)) rs cf _ (h.below hB0) hl (fun i p hp W hW=>hf w.heap.size i p hp W (Nm.below_two hB0 hW) (blk_below kb hW)) hm;have kg:=blk_below hg hB0;have rg:=fun i=>blk_cell kg i
 have hmf:∀ (fn:Fn) (first cap:Array Value) (w:World),(Instr.makeFunc fn first cap).run Tryz.prog w=.ok (.func fn first cap) w:=fun _ _ _ _=>rfl
 obtain⟨_,a,cap,rfl,_⟩:=h;clear hf hm;go_enter Tryz.func141,Tryz.ntmps141;go_wp2_with fail
 refine hs.mono ?_;rintro e w1 ⟨k,hk,rfl,b1⟩;have HK:=Nm.hide hk;obtain⟨OK,hOK⟩:∃ OK,(decide (k<rs.length)&&decide (cf k=0))=OK:=⟨_,rfl⟩;rw [hOK];have HOK:=Nm.hide hOK;clear hOK hk hs;go_wp2;go_ret2;exact⟨k,HK.out,by rw [HOK.out];rfl,Nm.below_two hB0 b1⟩
end Go.Proofs.YtmdinnjimioffaaGreat
namespace Go.Proofs.YtmdinnjimioffaaGreat
open Go.RowKit
theorem Tryz.infoU8s:(Tryz.prog.info? 5).map (fun i=>(i.zero,i.size,i.bytes))=some (some (.int .u8 0),1,1):=by kernel_rfl
theorem conv_nil(c:Nat)(W:World):(convert 22 9 (.slice (some ⟨c,0,none⟩) 0 0)).run Tryz.prog W=.ok (.string ByteArray.empty) W:=by
 exact run_convert_bytes_back W 22 9 5 ⟨c,0,none⟩ 0 [] Tryz.underlying22 Tryz.underlying5 Tryz.underlying9 (by intro j hj;simp at hj)
set_option maxRecDepth 100000 in
set_option maxHeartbeats 800000 in
theorem l01Small_any(s:ByteArray)(w:World)(hs:s.size<=1000000000):
 Calls Tryz.prog 49 #[.string s] w fun e w'=>e=.returned (.string (Nm.small s))∧Below w.heap.size w w':=by
 obtain⟨j0,hj,k0,k1,k2⟩:=info_parts Tryz.infoU8s
 by_cases hz:s.size=0
 ·have hc:=fun W=>conv_nil w.heap.size W
  have HE:Hid (Nm.small s=ByteArray.empty):=by
   show _=_
   apply Nm.ba_ext;rw [Nm.small_data,List.length_eq_zero_iff.1 (show s.data.toList.length=0 by simpa using hz)];rfl
  have hz':(s.size:Int)<=0:=by omega
  go_enter Tryz.func49,Tryz.ntmps49;go_wp2
  go_loop [3,4] (fun v i=>v=.slice (some ⟨w.heap.size,0,none⟩) 0 0∧i=.int .i64 0) (fun _ _=>0)
  case atStart=>exact⟨rfl,rfl⟩
  case round=>
   obtain⟨rfl,rfl⟩:=hrel;go_wp2;go_ret;rw [HE.out];exact⟨rfl,(Below.refl _ _).alloc (Nat.le_refl _) _⟩
 ·go_enter Tryz.func49,Tryz.ntmps49;go_wp2
  go_loopw [3,4] (fun v i wr=>∃ k:Nat,k<=s.size∧i=.int .i64 k∧wr.ownsRow w.heap.size 5 1 v k (Nm.bys (Nm.smallL (s.data.toList.take k)))∧Below w.heap.size w wr)
   (fun _ i _=>s.size-(intOf i).toNat)
  case atStart=>exact⟨0,Nat.zero_le _,rfl,World.ownsRow_made w #[] 0 (Nat.le_refl _) (by decide) rfl,(Below.refl _ _).alloc (Nat.le_refl _) _⟩
  case round=>
   obtain⟨k,hk,rfl,hown,hbel⟩:=hrel;have hsz:=hbel.size
   by_cases hlt:k<s.size
   ·have HS:=Nm.hide (Nm.smallL_step (Nm.get_data hlt));have hcl:(s[k].toNat:Int)<256:=by have:=s[k].toNat_lt;omega
    by_cases hup:65<=s[k].toNat∧s[k].toNat<=90
    ·have HL:=Nm.hide (Nm.low_up hup);have d1:decide ((65:Int)<=(s[k].toNat:Int))=true:=by simp;omega
     have d2:decide ((s[k].toNat:Int)<=90)=true:=by simp;omega
     have hb1:(s[k].toNat:Int)<=90:=by omega
     clear hup;go_wp2_with (at_builtin;refine wpList_append_own _ rfl (.tmp 24) (.tmp 26) 22 rfl w.heap.size 5 j0 (.int .u8 0) 1 1 Tryz.underlying22 hj k0 k1 k2 rfl (by decide) _ _ _ rfl (hown.alloc _) ⟨wr.heap.size,0,none⟩ 1 1 [.int .u8 ((s[k].toNat:Int)+32)] rfl rfl (cell_one_new _ _ _) (Nm.one_cell _ rfl) (by unfold maxLen;omega) (by omega) (by simp;omega) ?_;intro vb wb hown2 hgrow2 hnl2;clear hnl2;rw [<- HL.out] at hown2;have R2:=Nm.bys_step (x:=[Nm.low s[k]]) (by simp;omega) (hown.alloc _) (hbel.alloc hsz _) hown2 hgrow2;clear hown2 hgrow2)
     go_roundw
     case rel=>exact⟨k+1,by omega,by go_num,by rw [HS.out];exact R2.1,R2.2⟩
     case measure=>simp [intOf];omega
    ·have HL:=Nm.hide (Nm.low_id hup)
     by_cases hlo:65<=s[k].toNat
     ·have d1:decide ((65:Int)<=(s[k].toNat:Int))=true:=by simp;omega
      have d2:decide ((s[k].toNat:Int)<=90)=false:=by simp;omega
      clear hup;go_wp2_with (at_builtin;refine wpList_append_own _ rfl (.tmp 24) (.tmp 26) 22 rfl w.heap.size 5 j0 (.int .u8 0) 1 1 Tryz.underlying22 hj k0 k1 k2 rfl (by decide) _ _ _ rfl (hown.alloc _) ⟨wr.heap.size,0,none⟩ 1 1 [.int .u8 (s[k].toNat:Int)] rfl rfl (cell_one_new _ _ _) (Nm.one_cell _ rfl) (by unfold maxLen;omega) (by omega) (by simp;omega) ?_;intro vb wb hown2 hgrow2 hnl2;clear hnl2;have R2:=Nm.bys_step (x:=[s[k]]) (by simp;omega) (hown.alloc _) (hbel.alloc hsz _) hown2 hgrow2;clear hown2 hgrow2)
      go_roundw
      case rel=>exact⟨k+1,by omega,by go_num,by rw [HS.out,HL.out];exact R2.1,R2.2⟩
      case measure=>simp [intOf];omega
     ·have d1:decide ((65:Int)<=(s[k].toNat:Int))=false:=by simp;omega
      clear hup;go_wp2_with (at_builtin;refine wpList_append_own _ rfl (.tmp 24) (.tmp 26) 22 rfl w.heap.size 5 j0 (.int .u8 0) 1 1 Tryz.underlying22 hj k0 k1 k2 rfl (by decide) _ _ _ rfl (hown.alloc _) ⟨wr.heap.size,0,none⟩ 1 1 [.int .u8 (s[k].toNat:Int)] rfl rfl (cell_one_new _ _ _) (Nm.one_cell _ rfl) (by unfold maxLen;omega) (by omega) (by simp;omega) ?_;intro vb wb hown2 hgrow2 hnl2;clear hnl2;have R2:=Nm.bys_step (x:=[s[k]]) (by simp;omega) (hown.alloc _) (hbel.alloc hsz _) hown2 hgrow2;clear hown2 hgrow2)
      go_roundw
      case rel=>exact⟨k+1,by omega,by go_num,by rw [HS.out,HL.out];exact R2.1,R2.2⟩
      case measure=>simp [intOf];omega
   ·have hkl:k=s.size:=by omega
    subst hkl;obtain⟨g,cp,rfl,hcv⟩:=Nm.conv_own (P:=Tryz.prog) Tryz.underlying22 Tryz.underlying5 Tryz.underlying9 hown (by omega);rw [List.take_of_length_le (by simp)] at hcv;have he:(⟨(Nm.smallL s.data.toList).toArray⟩:ByteArray)=Nm.small s:=rfl;rw [he] at hcv;clear hown hlt he;go_wp2;go_ret;exact⟨rfl,hbel⟩
end Go.Proofs.YtmdinnjimioffaaGreat
namespace Go.Proofs.YtmdinnjimioffaaGreat
open Go.RowKit Go.Shelf
set_option linter.unusedVariables false
attribute [local go_sem] Oper.semAt_some
set_option maxRecDepth 100000 in
set_option maxHeartbeats 2000000 in
theorem all1I_in{α:Type}(kf:α->Int)(vf:α->Addr)(F:Fence)(n:Nat)(h7:F.fn 100)(hro:F.round=none)(hn:1<=n)(l tb g n₀ b off cap:Nat)(cmpv:Value)(zs:List α)(hl:zs.length<=1000000)(hcap:zs.length<=cap∧cap<=maxLen)(hb:b<n₀)(J Jx:List α->World->Prop)
 (hJ:∀ s W W',J s W->W.grownBy W' none->J s W')
 (hY:∀ pre x W,J pre W->pre.length<zs.length->YieldAt F (n-1) Tryz.prog l #[(Value.int .i64 (kf x)),(Value.pointer (some (vf x)))] W fun e W'=>
  (e=.returned (.bool true)∧J (pre++[x]) W'∧Below n₀ W W')∨(e=.returned (.bool false)∧Jx (pre++[x]) W'))
 (W:World) (kb:W.cell? ⟨tb,0,none⟩=some (.pointer (some ⟨g,0,none⟩))) (kg:W.cell? ⟨g,1,none⟩=some (.slice (some ⟨b,off,none⟩) zs.length cap))
 (hc:∀ (i:Nat) (x:α),zs[i]? =some x->W.cell? ⟨b,off+i*2,none⟩=some (Value.int .i64 (kf x))∧W.cell? ⟨b,off+i*2+1,none⟩=some (Value.pointer (some (vf x)))) (hn₀:n₀<=W.heap.size) (h0:J [] W):
 CallsIn F n Tryz.prog 100 #[.func (.yield l) #[] #[],.pointer (some ⟨tb,0,none⟩)] W fun e W'=>(∃ v,e=.returned v)∧
  ((∃ ys,ys=zs∧J ys W')∨(∃ pre,pre<+:zs∧Jx pre W')):=by
 obtain⟨hcap1,hcap2⟩:=hcap;unfold maxLen at hcap2;refine callsIn_of_wp Tryz.func100 rfl h7 ?_ hro;simp only [Tryz.ntmps100,List.size_toArray,List.length_cons,List.length_nil,Nat.reduceAdd,Nat.reduceSub,Array.replicate_succ,Array.replicate_zero,List.push_toArray,List.append_toArray,List.nil_append,List.cons_append]
 gi_wp2
 gi_loopw [10] (fun i wr=>∃ k:Nat,k<=zs.length∧i=.int .i64 k∧J (zs.take k) wr∧Below n₀ W wr)
  (fun i _=>zs.length-(intOf i).toNat)
 case atStart=>exact⟨0,Nat.zero_le _,rfl,by simpa using h0,Below.refl _ _⟩
 case round=>
  obtain⟨k,hk,rfl,hJs,hnx⟩:=hrel
  by_cases hlt:k<zs.length
  ·obtain⟨x,hx⟩:∃ x,zs[k]? =some x:=⟨_,List.getElem?_eq_getElem hlt⟩;obtain⟨c0,c1⟩:=hc k x hx;have d0:wr.cell? ⟨b,off+k*2,none⟩=some (Value.int .i64 (kf x)):=(hnx.cell (p:=⟨b,off+k*2,none⟩) hb).trans c0;have d1:wr.cell? ⟨b,off+k*2+1,none⟩=some (Value.pointer (some (vf x))):=(hnx.cell (p:=⟨b,off+k*2+1,none⟩) hb).trans c1;have hal:∀ o:Obj,wr.grownBy (wr.alloc o) none:=fun o=>⟨rfl,rfl,rfl,by simp,fun q hq _=>heap_alloc_old wr _ hq⟩
   obtain⟨fn,tmps,assign,body,hy,hR⟩:=hY _ x (wr.alloc (.cells #[(Value.int .i64 (kf x)),(Value.pointer (some (vf x)))] 154)) (hJ _ _ _ hJs (hal _)) (by rw [List.length_take];omega);have n1:(0:Int)<=(k:Int):=by omega
   have n2:(k:Int)<(zs.length:Int):=by omega
   have hbw:Below n₀ W (wr.alloc (.cells #[(Value.int .i64 (kf x)),(Value.pointer (some (vf x)))] 154)):=hnx.alloc (Nat.le_trans hn₀ hnx.size) _
   have HT:Hid (zs.take (k+1)=zs.take k++[x]):=by
    obtain⟨hk',e⟩:=List.getElem?_eq_some_iff.1 hx;show _=_
    rw [List.take_succ_eq_append_getElem hk',e]
   clear hc c0 c1 hx
   gi_wp2
   refine hR.mono ?_;rintro e W3 (⟨rfl,hJ3,hk3⟩|⟨rfl,hJx3⟩)
   ·gi_wp2
    go_roundw
    case rel=>exact⟨k+1,by omega,by go_num,by rw [HT.out];exact hJ3,hbw.trans hk3⟩
    case measure=>simp [intOf];omega
   ·gi_wp2
    refine bodyPost_ret (results_none rfl _ _ _) rfl ?_;exact⟨⟨_,rfl⟩,.inr ⟨_,by rw [<- HT.out];exact List.take_prefix _ _,hJx3⟩⟩
  ·obtain rfl:k=zs.length:=by omega
   have n2:(zs.length:Int)<=(zs.length:Int):=by omega
   rw [List.take_length] at hJs;clear hc
   gi_wp2
   go_end0
   exact⟨⟨_,rfl⟩,.inl ⟨_,rfl,hJs⟩⟩
end Go.Proofs.YtmdinnjimioffaaGreat
