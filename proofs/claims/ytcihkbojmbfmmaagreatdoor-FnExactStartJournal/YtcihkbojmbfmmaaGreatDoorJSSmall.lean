import Derived.Test.YtcihkbojmbfmmaaGreatDoorJMath
import Derived.Test.YtcihkbojmbfmmaaGreatDoorRows
import Derived.WalkSpells
import Derived.WalkLawsBesides
import Derived.RegionTactic
import Derived.ChangeAlike
import Derived.BigRegion
import Derived.Test.YtcihkbojmbfmmaaGreatDoorJTrR
import Derived.Test.YtcihkbojmbfmmaaGreatDoorJSCheck
import Derived.Test.YtcihkbojmbfmmaaGreatDoorCut
namespace Go.Proofs.YtcihkbojmbfmmaaGreatDoor
open Go.RowKit
theorem Tryz.infoU8s:(Tryz.prog.info? 5).map (fun i=>(i.zero,i.size,i.bytes))=some (some (.int .u8 0),1,1):=by kernel_rfl
theorem conv_nil(c:Nat)(W:World):(convert 26 9 (.slice (some ⟨c,0,none⟩) 0 0)).run Tryz.prog W=.ok (.string ByteArray.empty) W:=by
 exact run_convert_bytes_back W 26 9 5 ⟨c,0,none⟩ 0 [] Tryz.underlying26 Tryz.underlying5 Tryz.underlying9 (by intro j hj;simp at hj)
set_option maxRecDepth 100000 in
set_option maxHeartbeats 800000 in
theorem l01Small_any(s:ByteArray)(w:World)(hs:s.size<=1000000000):
 Calls Tryz.prog 75 #[.string s] w fun e w'=>e=.returned (.string (Nm.small s))∧Below w.heap.size w w':=by
 obtain⟨j0,hj,k0,k1,k2⟩:=info_parts Tryz.infoU8s
 by_cases hz:s.size=0
 ·have hc:=fun W=>conv_nil w.heap.size W
  have HE:Hid (Nm.small s=ByteArray.empty):=by
   show _=_
   apply Nm.ba_ext;rw [Nm.small_data,List.length_eq_zero_iff.1 (show s.data.toList.length=0 by simpa using hz)];rfl
  have hz':(s.size:Int)<=0:=by omega
  go_enter Tryz.func75,Tryz.ntmps75;go_wp2
  go_loop [3,4] (fun v i=>v=.slice (some ⟨w.heap.size,0,none⟩) 0 0∧i=.int .i64 0) (fun _ _=>0)
  case atStart=>exact⟨rfl,rfl⟩
  case round=>
   obtain⟨rfl,rfl⟩:=hrel;go_wp2;go_ret;rw [HE.out];exact⟨rfl,(Below.refl _ _).alloc (Nat.le_refl _) _⟩
 ·go_enter Tryz.func75,Tryz.ntmps75;go_wp2
  go_loopw [3,4] (fun v i wr=>∃ k:Nat,k<=s.size∧i=.int .i64 k∧wr.ownsRow w.heap.size 5 1 v k (Nm.bys (Nm.smallL (s.data.toList.take k)))∧Below w.heap.size w wr)
   (fun _ i _=>s.size-(intOf i).toNat)
  case atStart=>exact⟨0,Nat.zero_le _,rfl,World.ownsRow_made w #[] 0 (Nat.le_refl _) (by decide) rfl,(Below.refl _ _).alloc (Nat.le_refl _) _⟩
  case round=>
   obtain⟨k,hk,rfl,hown,hbel⟩:=hrel;have hsz:=hbel.size
   by_cases hlt:k<s.size
   ·have HS:=Nm.hide (Nm.smallL_step (Nm.get_data hlt));have hcl:(s[k].toNat:Int)<256:=by have:=s[k].toNat_lt;omega
    by_cases hup:65<=s[k].toNat∧s[k].toNat<=90
    ·have HL:=Nm.hide (Nm.low_up hup);have d1:decide ((65:Int)<=(s[k].toNat:Int))=true:=by simp;omega
     have d2:decide ((s[k].toNat:Int)<=90)=true:=by simp;omega
     have hb1:(s[k].toNat:Int)<=90:=by omega
     clear hup;go_wp2_with (at_builtin;refine wpList_append_own _ rfl (.tmp 24) (.tmp 26) 26 rfl w.heap.size 5 j0 (.int .u8 0) 1 1 Tryz.underlying26 hj k0 k1 k2 rfl (by decide) _ _ _ rfl (hown.alloc _) ⟨wr.heap.size,0,none⟩ 1 1 [.int .u8 ((s[k].toNat:Int)+32)] rfl rfl (cell_one_new _ _ _) (Nm.one_cell _ rfl) (by unfold maxLen;omega) (by omega) (by simp;omega) ?_;intro vb wb hown2 hgrow2 hnl2;clear hnl2;rw [<- HL.out] at hown2;have R2:=Nm.bys_step (x:=[Nm.low s[k]]) (by simp;omega) (hown.alloc _) (hbel.alloc hsz _) hown2 hgrow2;clear hown2 hgrow2)
     go_roundw
     case rel=>exact⟨k+1,by omega,by go_num,by rw [HS.out];exact R2.1,R2.2⟩
     case measure=>simp [intOf];omega
    ·have HL:=Nm.hide (Nm.low_id hup)
     by_cases hlo:65<=s[k].toNat
     ·have d1:decide ((65:Int)<=(s[k].toNat:Int))=true:=by simp;omega
      have d2:decide ((s[k].toNat:Int)<=90)=false:=by simp;omega
      clear hup;go_wp2_with (at_builtin;refine wpList_append_own _ rfl (.tmp 24) (.tmp 26) 26 rfl w.heap.size 5 j0 (.int .u8 0) 1 1 Tryz.underlying26 hj k0 k1 k2 rfl (by decide) _ _ _ rfl (hown.alloc _) ⟨wr.heap.size,0,none⟩ 1 1 [.int .u8 (s[k].toNat:Int)] rfl rfl (cell_one_new _ _ _) (Nm.one_cell _ rfl) (by unfold maxLen;omega) (by omega) (by simp;omega) ?_;intro vb wb hown2 hgrow2 hnl2;clear hnl2;have R2:=Nm.bys_step (x:=[s[k]]) (by simp;omega) (hown.alloc _) (hbel.alloc hsz _) hown2 hgrow2;clear hown2 hgrow2)
      go_roundw
      case rel=>exact⟨k+1,by omega,by go_num,by rw [HS.out,HL.out];exact R2.1,R2.2⟩
      case measure=>simp [intOf];omega
     ·have d1:decide ((65:Int)<=(s[k].toNat:Int))=false:=by simp;omega
      clear hup;go_wp2_with (at_builtin;refine wpList_append_own _ rfl (.tmp 24) (.tmp 26) 26 rfl w.heap.size 5 j0 (.int .u8 0) 1 1 Tryz.underlying26 hj k0 k1 k2 rfl (by decide) _ _ _ rfl (hown.alloc _) ⟨wr.heap.size,0,none⟩ 1 1 [.int .u8 (s[k].toNat:Int)] rfl rfl (cell_one_new _ _ _) (Nm.one_cell _ rfl) (by unfold maxLen;omega) (by omega) (by simp;omega) ?_;intro vb wb hown2 hgrow2 hnl2;clear hnl2;have R2:=Nm.bys_step (x:=[s[k]]) (by simp;omega) (hown.alloc _) (hbel.alloc hsz _) hown2 hgrow2;clear hown2 hgrow2)
      go_roundw
      case rel=>exact⟨k+1,by omega,by go_num,by rw [HS.out,HL.out];exact R2.1,R2.2⟩
      case measure=>simp [intOf];omega
   ·have hkl:k=s.size:=by omega
    subst hkl;obtain⟨g,cp,rfl,hcv⟩:=Nm.conv_own (P:=Tryz.prog) Tryz.underlying26 Tryz.underlying5 Tryz.underlying9 hown (by omega);rw [List.take_of_length_le (by simp)] at hcv;have he:(⟨(Nm.smallL s.data.toList).toArray⟩:ByteArray)=Nm.small s:=rfl;rw [he] at hcv;clear hown hlt he;go_wp2;go_ret;exact⟨rfl,hbel⟩
end Go.Proofs.YtcihkbojmbfmmaaGreatDoor
namespace Go.Proofs.YtcihkbojmbfmmaaGreatDoor
open Go.RowKit
set_option maxRecDepth 100000 in
set_option maxHeartbeats 800000 in
theorem l01Split_any(s:ByteArray)(w:World)(hs:s.size<=maxLen):
 Calls Tryz.prog 70 #[.string s] w fun e w'=>∃ v,e=.returned (.tuple #[v,.bool (Nm.split s).isSome])∧
  w'.ownsRow w.heap.size 9 1 v ((Nm.split s).getD []).length (((Nm.split s).getD []).map Value.string)∧Below w.heap.size w w':=by
 unfold maxLen at hs;obtain⟨i0,hi,hz0,hz1,hz2⟩:=info_parts Tryz.infoStr
 by_cases hlong:255<s.size
 ·have H:Hid (Nm.split s=none):=Nm.split_long s hlong;have hl:(255:Int)<(s.size:Int):=by omega
  go_enter Tryz.func70,Tryz.ntmps70;go_wp2;go_ret2;rw [H.out];exact⟨_,rfl,World.ownsRow_nil _ _ _ _,(Below.refl _ _).alloc (Nat.le_refl _) _⟩
 by_cases hshort:s.size=0
 ·have H:Hid (Nm.split s=none):=Nm.at_empty (Nm.at_start s (by omega)) hshort;have hl:(s.size:Int)<1:=by omega
  go_enter Tryz.func70,Tryz.ntmps70;go_wp2;go_ret2;rw [H.out];exact⟨_,rfl,World.ownsRow_nil _ _ _ _,(Below.refl _ _).alloc (Nat.le_refl _) _⟩
 ·have hl:(s.size:Int)<=255:=by omega
  have hl1:(1:Int)<=(s.size:Int):=by omega
  have hst:=Nm.at_start s (by omega);go_enter Tryz.func70,Tryz.ntmps70;go_wp2
  go_loopw [4,5] (fun v x wr=>∃ (ls:List ByteArray) (r:ByteArray),x=.string r∧Nm.At s ls r∧ls.length+r.size<=255∧wr.ownsRow w.heap.size 9 1 v ls.length (ls.map Value.string)∧Below w.heap.size w wr)
   (fun _ x _=>match x with|.string r=>r.size|_=>0)
  case atStart=>exact⟨[],s,rfl,hst,by simp;omega,World.ownsRow_made w #[] 0 (Nat.le_refl _) (by decide) rfl,(Below.refl _ _).alloc (Nat.le_refl _) _⟩
  case round=>
   obtain⟨ls,r,rfl,hat,hb,hown,hbel⟩:=hrel;clear hst
   by_cases h0:r.size=0
   ·have HN:Hid (Nm.split s=none):=Nm.at_empty hat h0;have e2:=Nm.tl_empty h0;go_wp2;go_ret2;rw [HN.out];exact⟨_,rfl,World.ownsRow_nil _ _ _ _,hbel⟩
   ·have hp:0<r.size:=by omega
    have hn:(r[0].toNat:Int)<256:=by have:=r[0].toNat_lt;omega
    have e2:=Nm.tl_not_empty hp
    by_cases h2:r[0].toNat=0
    ·have e3:((r[0].toNat:Int)==0)=true:=by simp [h2]
     by_cases h1:r.size=1
     ·have HN:Hid (Nm.split s=some ls):=Nm.at_end hat hp h2 h1;have e4:((r.size:Int) != 1)=false:=by simp [h1]
      clear h1 h2;go_wp2;go_ret2;rw [HN.out];exact⟨_,rfl,hown,hbel⟩
     ·have HN:Hid (Nm.split s=none):=Nm.at_zero hat hp h2 h1;have e4:((r.size:Int) != 1)=true:=by rw [bne_iff_ne];omega
      clear h1 h2;go_wp2;go_ret2;rw [HN.out];exact⟨_,rfl,World.ownsRow_nil _ _ _ _,hbel⟩
    ·have e3:((r[0].toNat:Int)==0)=false:=by rw [beq_eq_false_iff_ne];omega
     have e3':(0:Int)<(r[0].toNat:Int):=by omega
     by_cases h3:63<r[0].toNat
     ·have HN:Hid (Nm.split s=none):=Nm.at_bad hat hp h2 (.inl h3);have e4:(63:Int)<(r[0].toNat:Int):=by omega
      clear h2 h0 h3;go_wp2;go_ret2;rw [HN.out];exact⟨_,rfl,World.ownsRow_nil _ _ _ _,hbel⟩
     ·have e4:(r[0].toNat:Int)<=63:=by omega
      by_cases h4:r.size<r[0].toNat+1
      ·have HN:Hid (Nm.split s=none):=Nm.at_bad hat hp h2 (.inr h4);have e5:(r.size:Int)<(r[0].toNat:Int)+1:=by omega
       clear h2 h0 h3 h4;go_wp2;go_ret2;rw [HN.out];exact⟨_,rfl,World.ownsRow_nil _ _ _ _,hbel⟩
      ·have e5:(r[0].toNat:Int)+1<=(r.size:Int):=by omega
       have HN:Hid (Nm.At s (ls++[r.extract 1 (r[0].toNat+1)]) (r.extract (r[0].toNat+1) r.size)):=Nm.at_step hat hp h2 (by omega) (by omega);have hsz:=hbel.size;clear h2 h0 h3 h4;go_wp2_with (at_builtin;refine wpList_append_own _ rfl (.tmp 37) (.tmp 42) 48 rfl w.heap.size 9 i0 (.string ByteArray.empty) 1 16 Tryz.underlying48 hi hz0 hz1 hz2 rfl (by decide) _ _ _ rfl (hown.alloc _) ⟨wr.heap.size,0,none⟩ 1 1 [.string (r.extract 1 (r[0].toNat+1))] rfl rfl ?c1 ?c2 ?c3 ?c4 ?c5 ?_)
       case c1=>
        intro j u hj
        match j,hj with
        |0,hj=>simp at hj;subst hj;simp [Addr.add]
       case c2=>exact Nm.one_cell _ rfl
       case c3=>unfold maxLen;omega
       case c4=>omega
       case c5=>simp;omega
       ·intro v' w1 hown' hgrow _;have R:=own_step hsz hown hbel _ hown' hgrow;clear hown' hgrow hown hbel;go_wp2;go_roundw
        case rel=>exact⟨_,_,rfl,HN.out,by simp;omega,R.1,R.2⟩
        case measure=>simp;omega
end Go.Proofs.YtcihkbojmbfmmaaGreatDoor
namespace Go.Proofs.YtcihkbojmbfmmaaGreatDoor
open Go.RowKit
theorem conv_one(n:Int)(W:World):
 (convert 26 9 (.slice (some ⟨W.heap.size,0,none⟩) 1 1)).run Tryz.prog (W.alloc (.cells #[.int .u8 n] 5))=.ok (.string ⟨#[UInt8.ofNat n.toNat]⟩) (W.alloc (.cells #[.int .u8 n] 5)):=by
 rw [run_convert_bytes_string _ 26 9 5 _ _ _ Tryz.underlying26 Tryz.underlying5 Tryz.underlying9];have hl:=run_loadCells_list (P:=Tryz.prog) (W.alloc (.cells #[.int .u8 n] 5)) ⟨W.heap.size,0,none⟩ ([n].map (Value.int .u8)) (fun j v hj=>cell_one_new W (.int .u8 n) 5 j v hj);rw [run_bytesToString _ _ 1 1 [n] hl];rfl
theorem conv_one_drew(n:Int)(W:World):
 (convert 26 9 (.slice (some ⟨W.heap.size,0,none⟩) 1 1)).run Tryz.prog (W.alloc (.cells #[.int .u8 n] 5)).drew=.ok (.string ⟨#[UInt8.ofNat n.toNat]⟩) (W.alloc (.cells #[.int .u8 n] 5)).drew:=
 conv_one n W.drew
theorem ret_str{a b:ByteArray}(h:a=b):Ending.returned (.string a)=.returned (.string b):=by rw [h]
theorem byte_mod(n:Nat):UInt8.ofNat (n % 256)=UInt8.ofNat n:=by
 apply UInt8.toNat_inj.1;simp
theorem ba_ext{a b:ByteArray}(h:a.data.toList=b.data.toList):a=b:=by
 apply ByteArray.ext;exact Array.toList_inj.1 h
theorem size_list(s:ByteArray):s.data.toList.length=s.size:=by simp
end Go.Proofs.YtcihkbojmbfmmaaGreatDoor
namespace Go.Proofs.YtcihkbojmbfmmaaGreatDoor
open Go.RowKit
set_option maxRecDepth 100000 in
set_option maxHeartbeats 800000 in
theorem l01Join_any(v:Value)(ls:List ByteArray)(w:World)(h:Nm.SRow w v ls)(hlen:Nm.wsum ls<=1000000000):
 Calls Tryz.prog 76 #[v] w fun e w'=>e=.returned (.string ⟨(Nm.joinL ls).toArray⟩)∧Below w.heap.size w w':=by
 obtain⟨a,cap,rfl,hcap,hmx,hnl,hc⟩:=h;have hll:=Nm.length_le_wsum ls;go_enter Tryz.func76,Tryz.ntmps76;go_wp2
 go_loopw [3,4] (fun t i wr=>∃ (k:Nat) (s:ByteArray),k<=ls.length∧i=.int .i64 k∧t=.string s∧Hid (s.data.toList=Nm.preL (ls.take k))∧Below w.heap.size w wr)
  (fun _ i _=>ls.length-(intOf i).toNat)
 case atStart=>exact⟨0,_,Nat.zero_le _,rfl,rfl,rfl,Below.refl _ _⟩
 case round=>
  obtain⟨k,s,hk,rfl,rfl,HS,hbel⟩:=hrel;have hw:=Nm.wsum_take_le ls k;have hsz:=hbel.size;have hss:s.size=Nm.wsum (ls.take k):=by rw [<- size_list,HS.out,Nm.preL_length]
  have hss':s.size<=1000000000:=by omega
  by_cases hlt:k<ls.length
  ·obtain⟨x,hx⟩:∃ x,ls[k]? =some x:=⟨_,List.getElem?_eq_getElem hlt⟩;obtain⟨b,off,rfl,hcell⟩:=hc (by intro h;rw [h] at hlt;simp at hlt);have hbk:b<wr.heap.size:=Nat.lt_of_lt_of_le (World.block_lt_of_cell? w _ (hcell k x hx)) hsz;have hcx:wr.cell? ⟨b,off+k,none⟩=some (.string x):=(hbel.cell (World.block_lt_of_cell? w _ (hcell k x hx))).trans (hcell k x hx);have HP:Hid (Nm.preL (ls.take (k+1))=Nm.preL (ls.take k)++(UInt8.ofNat x.size::x.data.toList)):=Nm.preL_step hx
   have hw1:s.size+(1+x.size)<=1000000000:=by
    have h1:=Nm.wsum_step hx;have h2:=Nm.wsum_take_le ls (k+1);omega
   have hcv:=fun n=>conv_one_drew n wr
   clear hx hcell hc hnl hss hw;go_wp2;go_region
   all_goals
    go_wp2;go_roundw
    case rel=>exact⟨k+1,_,by omega,by go_num,rfl,by show _=_;rw [HP.out,<- HS.out];simp [byte_mod],(hbel.alloc hsz _).drew⟩
    case measure=>simp [intOf];omega
  ·have hkl:k=ls.length:=by omega
   subst hkl;rw [List.take_length] at HS;clear hc hnl hw hlt hss;have hone:(ByteArray.mk #[0]).size=1:=rfl;go_wp2;go_ret;exact⟨ret_str (ba_ext (by simp [Nm.joinL,HS.out])),hbel⟩
end Go.Proofs.YtcihkbojmbfmmaaGreatDoor
namespace Go.Proofs.YtcihkbojmbfmmaaGreatDoor
open Go.RowKit
theorem set_small{ls:List ByteArray}{k:Nat}{x:ByteArray}(h:ls[k]? =some x):
 ((ls.take k).map (fun y=>Value.string (Nm.small y))++(ls.drop k).map Value.string).set k (.string (Nm.small x))=(ls.take (k+1)).map (fun y=>Value.string (Nm.small y))++(ls.drop (k+1)).map Value.string:=by
 have hk:k<ls.length:=(List.getElem?_eq_some_iff.1 h).1;have hx:ls[k]=x:=(List.getElem?_eq_some_iff.1 h).2;have hl:((ls.take k).map (fun y=>Value.string (Nm.small y))).length=k:=by simp;omega
 rw [Nm.take_step h,List.set_append_right _ _ (by omega),hl,List.drop_eq_getElem_cons hk,hx];simp
set_option maxRecDepth 100000 in
set_option maxHeartbeats 800000 in
theorem specFoldName_any(s:ByteArray)(w:World)(hs:s.size<=maxLen):
 Calls Tryz.prog 45 #[.string s] w fun e w'=>e=.returned (.string (Nm.foldS s))∧Below w.heap.size w w':=by
 have hsp:=l01Split_any s w hs
 cases hq:Nm.split s with
 |none=>
  have HA:=Nm.hide (Nm.foldS_none hq);rw [hq] at hsp;clear hq;go_enter Tryz.func45,Tryz.ntmps45;go_wp2_with fail
  refine hsp.mono ?_;rintro e w1 ⟨v,rfl,hown,hbel⟩;go_wp2;go_ret;rw [HA.out]
  exact⟨rfl,hbel⟩
 |some ls=>
  have hz:=Nm.split_size hq;have HA:=Nm.hide (Nm.foldS_some hq);have HJ:=Nm.hide (Nm.joinL_small hq);have hxs:=(Nm.split_join hq).2;have hll:=Nm.length_le_wsum ls;rw [hq] at hsp;clear hq;go_enter Tryz.func45,Tryz.ntmps45;go_wp2_with fail
  refine hsp.mono ?_;rintro e w1 ⟨v,rfl,hown,hbel⟩;simp only [Option.getD_some] at hown;clear hsp
  by_cases hn:ls=[]
  ·subst hn;have hrow:=Nm.SRow.of_owns hown;obtain⟨a,cap,rfl,hcap,hmx,hnl,hc⟩:=hrow;have hr:=Nm.SRow.of_owns hown;clear hown hc hnl;go_wp2
   go_loop [5] (fun i=>i=.int .i64 0) (fun _=>0)
   case atStart=>rfl
   case round=>
    subst hrel;go_wp2_with (go_at_call 76;refine(l01Join_any _ [] _ hr (by simp [Nm.wsum])).mono ?_;rintro e w2 ⟨rfl,hbel2⟩)
    go_ret;rw [HA.out,<- HJ.out];exact⟨rfl,Nm.below_two hbel hbel2⟩
  ·have hlp:0<ls.length:=List.length_pos_iff.2 hn
   obtain⟨g,cap,cur,rfl,hg⟩:∃ g cap cur,v=.slice (some ⟨g,0,none⟩) ls.length cap∧w.heap.size<=g∧ls.length<=cap∧cap<=maxLen∧w1.heap[g]? =some (.cells cur 9 (0,0)):=by
    rcases hown.2 with⟨rfl,h0⟩|⟨g,cap,cur,rfl,hb,hg,hnc,hm,_⟩
    ·omega
    ·exact⟨g,cap,cur,rfl,hb,hnc,hm,hg⟩
   obtain⟨hwg,hnc,hm,_⟩:=hg;unfold maxLen at hm;go_wp2
   go_loopw [5] (fun i wr=>∃ k:Nat,k<=ls.length∧i=.int .i64 k∧wr.ownsRow w.heap.size 9 1 (.slice (some ⟨g,0,none⟩) ls.length cap) ls.length ((ls.take k).map (fun y=>Value.string (Nm.small y))++(ls.drop k).map Value.string)∧Below w.heap.size w wr)
    (fun i _=>ls.length-(intOf i).toNat)
   case atStart=>exact⟨0,Nat.zero_le _,rfl,by simpa using hown,hbel⟩
   case round=>
    obtain⟨k,hk,rfl,hownk,hbelk⟩:=hrel;have hszk:=hbelk.size;clear hown hbel
    by_cases hlt:k<ls.length
    ·obtain⟨x,hx⟩:∃ x,ls[k]? =some x:=⟨_,List.getElem?_eq_getElem hlt⟩;have hxz:=hxs x (List.mem_of_getElem? hx)
     have hcx:wr.cell? ⟨g,k,none⟩=some (.string x):=by
      rw [hownk.cellAt k (by omega),List.getElem?_append_right (by simp;omega)];simp [Nat.min_eq_left hk,hx]
     have HSET:=Nm.hide (set_small hx);go_wp2_with (go_at_call 75;refine(l01Small_any x _ (by omega)).mono ?_;rintro e w3 ⟨rfl,hbel3⟩;have hown3:=hownk.kept (w':=w3) (row:=none) ⟨hbel3.os,hbel3.tape,hbel3.output,hbel3.size,fun k hk _=>hbel3.block k hk⟩ (.inr (by simp [Value.ownBlock]));have hst:=hown3.stored k (.string (Nm.small x));rw [HSET.out] at hst;have hfz:=hown3.frozenAt k;have hc3:w3.cell? ⟨g,k,none⟩=some (.string x):=(hbel3.cell (World.block_lt_of_cell? wr _ hcx)).trans hcx;have HR:=Nm.hide hst;have HB:Hid (Below w.heap.size w (w3.setCell ⟨g,k,none⟩ (.string (Nm.small x)))):=(hbelk.trans (hbel3.mono hszk)).setCell hwg _;clear hst hown3)
     go_roundw
     case rel=>exact⟨k+1,by omega,by go_num,HR.out.1,HB.out⟩
     case measure=>simp [intOf];omega
    ·have hkl:k=ls.length:=by omega
     subst hkl
     have hr:Nm.SRow wr (.slice (some ⟨g,0,none⟩) ls.length cap) (ls.map Nm.small):=by
      apply Nm.SRow.of_owns (B:=w.heap.size) (e:=9);simpa [Function.comp_def] using hownk
     have hws:=Nm.wsum_small ls;clear hownk hlt;go_wp2_with (go_at_call 76;refine(l01Join_any _ (ls.map Nm.small) _ hr (by omega)).mono ?_;rintro e w2 ⟨rfl,hbel2⟩)
     go_ret;rw [HA.out,<- HJ.out];exact⟨rfl,Nm.below_two hbelk hbel2⟩
end Go.Proofs.YtcihkbojmbfmmaaGreatDoor
namespace Go.Proofs.YtcihkbojmbfmmaaGreatDoor
open Go.RowKit
def foldR(t:Int)(d:ByteArray):ByteArray:=if cutCode t d=0 then Dt.foldDS t d else⟨#[]⟩
theorem foldR_bad{t:Int}{d:ByteArray}(h:cutCode t d≠0):foldR t d=⟨#[]⟩:=by rw [foldR,if_neg h]
theorem cut_spans{t:Int}{d:ByteArray}{sp:List (Nat×Nat)}(h:cutS t d=some sp):Dt.spans (Dt.implP t) 0 d=some sp∧d.size<=65535:=by
 rw [cutS] at h
 split at h
 ·cases h
 ·split at h
  ·cases h
  ·exact⟨h,by omega⟩
theorem foldR_good{t:Int}{d:ByteArray}{sp:List (Nat×Nat)}(h:cutS t d=some sp):foldR t d=⟨(Dt.lowAll sp d.data.toList).toArray⟩:=by
 rw [foldR,if_pos (code_zero.2 ⟨sp,h⟩),Dt.foldDS,(cut_spans h).1]
set_option maxRecDepth 100000 in
set_option maxHeartbeats 400000 in
theorem implFoldData_any(t:Int)(d:ByteArray)(w:World)(hd:d.size<=2000000):
 Calls Tryz.prog 148 #[.int .i64 t,.string d] w fun e w'=>e=.returned (.string (foldR t d))∧Below w.heap.size w w':=by
 have hcall:=cutData_any t d w hd
 by_cases hq:cutCode t d=0
 ·obtain⟨sp,hsp⟩:=code_zero.1 hq;have HR:=Nm.hide (foldR_good hsp)
  have hin:∀ s∈sp,s.1<=s.2∧s.2<=d.size:=by
   intro s hs;have:=spans_in _ _ _ _ (cut_spans hsp).1 s hs;omega
  have hfew:sp.length<=1000000:=by
   have h1:=cut_few t d;rw [hsp] at h1;simp at h1;omega
  rw [hq] at hcall
  have hcall:Calls Tryz.prog 159 #[.int .i64 t,.string d] w fun e w'=>∃ v,e=.returned (.tuple #[v,.int .i64 0])∧CRow w' v sp.length 2 (spanCells sp)∧Below w.heap.size w w':=by
   refine hcall.mono ?_;rintro e w' ⟨v,rfl,h1,_,h2⟩;exact⟨v,rfl,CRow.of_owns (h1 sp hsp),h2⟩
  clear hq hsp;go_enter Tryz.func148,Tryz.ntmps148;go_wp2_with (first|(go_at_call 159;refine hcall.mono ?_;rintro e w2 ⟨v,rfl,hrow,hbel⟩)|(go_at_call 167;refine(foldNames_any d v sp w2 hrow hin (by omega) hfew).mono ?_;rintro e w3 ⟨rfl,hb3⟩))
  go_ret;rw [HR.out];exact⟨rfl,Nm.below_two hbel hb3⟩
 ·have HR:=Nm.hide (foldR_bad hq);have hb:(cutCode t d != 0)=true:=by rw [bne_iff_ne];exact hq
  generalize cutCode t d=c at*;clear hq;go_enter Tryz.func148,Tryz.ntmps148;go_wp2_with (go_at_call 159;refine hcall.mono ?_;rintro e w2 ⟨v,rfl,_,_,hbel⟩)
  go_ret;rw [HR.out];exact⟨rfl,hbel⟩
def GAt(fs:List Dt.Pc)(ps:List ByteArray)(o:ByteArray)(k:Nat):Prop:=
 Dt.foldL fs ps=o.data.toList++Dt.foldL (fs.drop k) (ps.drop k)
theorem gat_start(fs:List Dt.Pc)(ps:List ByteArray):GAt fs ps ⟨#[]⟩ 0:=by simp [GAt]
theorem gat_step{fs:List Dt.Pc}{ps:List ByteArray}{o:ByteArray}{k:Nat}{p:Dt.Pc}{x:ByteArray}(h:GAt fs ps o k)(hp:fs[k]? =some p)(hx:ps[k]? =some x):
 GAt fs ps (o++if p.isN then Nm.small x else x) (k+1):=by
 obtain⟨h1,e1⟩:=List.getElem?_eq_some_iff.1 hp;obtain⟨h2,e2⟩:=List.getElem?_eq_some_iff.1 hx;rw [GAt,h,List.drop_eq_getElem_cons h1,List.drop_eq_getElem_cons h2,e1,e2,Dt.foldL];cases p.isN<;>simp [Nm.small_data]
theorem gat_end{fs:List Dt.Pc}{ps:List ByteArray}{o:ByteArray}{k:Nat}(h:GAt fs ps o k)(hk:ps.length<=k):o=⟨(Dt.foldL fs ps).toArray⟩:=by
 rw [h,List.drop_eq_nil_of_le hk];have e:Dt.foldL (fs.drop k) []=[]:=by cases fs.drop k<;>simp [Dt.foldL]
 rw [e];apply Nm.ba_ext;simp
set_option maxRecDepth 100000 in
set_option maxHeartbeats 1600000 in
theorem specFoldData_any(t:Int)(d:ByteArray)(w:World):
 Calls Tryz.prog 46 #[.int .i64 t,.string d] w fun e w'=>e=.returned (.string (foldR t d))∧Below w.heap.size w w':=by
 have hcall:=fun w=>specCheckData_any t d w
 by_cases hq:cutCode t d=0
 ·obtain⟨ps,hps,hcs,hds⟩:=good_parts hq;obtain⟨hfl,hcat,hnm⟩:=Dt.parts_cat _ _ _ hps;have hparts:=fun w=>l02Parts_any (Dt.formS t) d w (form_ok t) hds
  have hform:=l02Form_any t;have hokf:=form_ok t
  have hple:∀ x∈ps,x.size<=65535:=by
   intro x hx;have h1:=part_le ps x hx;rw [hcat] at h1;simp at h1;omega
  have hpl:ps.length<=100:=by
   have h1:=hokf.1;rw [<- hfl,Dt.specP];simpa using h1
  have hplf:ps.length<=(Dt.formS t).size:=by
   rw [<- hfl,Dt.specP];simp
  have hst:=gat_start (Dt.specP t) ps
  have hend:∀ (o:ByteArray) (k:Nat),GAt (Dt.specP t) ps o k->ps.length<=k->foldR t d=o:=by
   intro o k h1 h2;rw [gat_end h1 h2,foldR,if_pos hq,Dt.foldDS_some hps]
  have hget:∀ (k:Nat) (hk:k<(Dt.formS t).size),(Dt.specP t)[k]? =some (Dt.letP (Dt.formS t)[k]):=by
   intro k hk;rw [Dt.specP,List.getElem?_map,Nm.get_data hk];rfl
  have hstep:∀ (o:ByteArray) (k:Nat) (x:ByteArray),GAt (Dt.specP t) ps o k->(hk:k<(Dt.formS t).size)->ps[k]? =some x->GAt (Dt.specP t) ps (o++if decide ((Dt.formS t)[k].toNat=110) then Nm.small x else x) (k+1):=by
   intro o k x h1 hk hx;have:=gat_step h1 (hget k hk) hx
   rwa [isN_let] at this
  have hfold:∀ (k:Nat) (x:ByteArray),(hk:k<(Dt.formS t).size)->ps[k]? =some x->(Dt.formS t)[k].toNat=110->Nm.foldS x=Nm.small x:=by
   intro k x hk hx hN;have h1:=hnm k _ x (hget k hk) hx (by rw [isN_let,hN];rfl);obtain⟨ls,hls⟩:=Option.isSome_iff_exists.1 h1;exact Nm.foldS_some hls
  rw [Dt.specP] at hps;rw [hq] at hcall;have HE:=Nm.hide hend;have HS:=Nm.hide hstep;have HF:=Nm.hide hfold;clear hend hstep hfold hget hnm hcs hfl hcat hq hokf;generalize Dt.formS t=f at*
  have hparts:∀ w:World,Calls Tryz.prog 78 #[.string f,.string d] w fun e w'=>∃ v,e=.returned (.tuple #[v,.bool true])∧CRow w' v ps.length 1 (ps.map Value.string)∧Below w.heap.size w w':=by
   intro w;refine(hparts w).mono ?_;rintro e w' ⟨v,rfl,h1,h2⟩;exact⟨v,by rw [hps];rfl,CRow.of_owns (h1 _ hps),h2⟩
  clear hps;generalize foldR t d=FR at*;go_enter Tryz.func46,Tryz.ntmps46;go_wp2_with (first|(go_at_call 73;refine(hcall _).mono ?_;rintro e w1 ⟨rfl,hb1⟩)|(go_at_call 77;refine(hform _).mono ?_;rintro e w2 ⟨rfl,hw⟩;obtain rfl:w1=w2:=hw.symm;clear hw)|(go_at_call 78;refine(hparts _).mono ?_;rintro e w3 ⟨vp,rfl,hrow,hb3⟩))
  have hb03:Below w.heap.size w w3:=Nm.below_two hb1 hb3;obtain⟨_,ap,capp,rfl,hcapp,hmxp,hc⟩:=hrow;clear hcall hparts hform hb1 hb3
  go_loopw [8,9] (fun v i wr=>∃ (k:Nat) (o:ByteArray),k<=ps.length∧i=.int .i64 k∧v=.string o∧o.size<=k*65535∧Hid (GAt (Dt.specP t) ps o k)∧Below w3.heap.size w3 wr)
   (fun _ i _=>ps.length-(intOf i).toNat)
  case atStart=>exact⟨0,⟨#[]⟩,Nat.zero_le _,rfl,rfl,by show 0<=_;omega,hst,Below.refl _ _⟩
  case round=>
   obtain⟨k,o,hk,rfl,rfl,ho,HA,hbel⟩:=hrel;clear hst
   by_cases hlt:k<ps.length
   ·have hlt':(k:Int)<(ps.length:Int):=by omega
    obtain⟨x,hx⟩:∃ x,ps[k]? =some x:=⟨_,List.getElem?_eq_getElem hlt⟩;have hxs:=hple x (List.mem_of_getElem? hx);have hkf:k<f.size:=by omega
    have hkf':(k:Int)<(f.size:Int):=by omega
    have HX:=Nm.hide (HS.out o k x HA.out hkf hx);obtain⟨b,off,rfl,hcell⟩:=hc (by omega);have hcx0:=hcell k (.string x) (by simp [hx]);have hcx:wr.cell? ⟨b,off+k,none⟩=some (.string x):=(hbel.cell (World.block_lt_of_cell? w3 _ hcx0)).trans hcx0;have hFN:=HF.out k x hkf hx;clear hc hcell hx hcx0
    by_cases hN:f[k].toNat=110
    ·have q1:((f[k].toNat:Int)==110)=true:=by rw [beq_iff_eq];omega
     simp only [hN,decide_true,if_true] at HX;have hfn:=fun w=>specFoldName_any x w (by unfold maxLen;omega)
     rw [hFN hN] at hfn;have hss:=Nm.small_size x;generalize Nm.small x=y at*;have hsum:o.size+y.size<=9223372036854775807:=by omega
     clear hN HA hFN HF HS;go_wp2_with (go_at_call 45;refine(hfn _).mono ?_;rintro e w4 ⟨rfl,hb4⟩;have HB:Hid (Below w3.heap.size w3 w4):=Nm.below_two hbel hb4;clear hb4)
     go_roundw
     case rel=>exact⟨k+1,_,by omega,by go_num,rfl,by simp;omega,HX,HB.out⟩
     case measure=>simp [intOf];omega
    ·have q1:((f[k].toNat:Int)==110)=false:=by rw [beq_eq_false_iff_ne];omega
     simp only [hN,decide_false,Bool.false_eq_true,if_false] at HX;have hsum:o.size+x.size<=9223372036854775807:=by omega
     clear hN HA hFN HF HS;go_wp2;go_roundw
     case rel=>exact⟨k+1,_,by omega,by go_num,rfl,by simp;omega,HX,hbel⟩
     case measure=>simp [intOf];omega
   ·have hlt':(ps.length:Int)<=(k:Int):=by omega
    have HR:=Nm.hide (HE.out o k HA.out (by omega));clear hc;go_wp2;go_ret;rw [HR.out];exact⟨rfl,Nm.below_two hb03 hbel⟩
 ·have HR:=Nm.hide (foldR_bad hq);have hb:(cutCode t d != 0)=true:=by rw [bne_iff_ne];exact hq
  generalize cutCode t d=c at*;clear hq;go_enter Tryz.func46,Tryz.ntmps46;go_wp2_with (go_at_call 73;refine(hcall _).mono ?_;rintro e w1 ⟨rfl,hb1⟩)
  go_ret;rw [HR.out];exact⟨rfl,hb1⟩
end Go.Proofs.YtcihkbojmbfmmaaGreatDoor
