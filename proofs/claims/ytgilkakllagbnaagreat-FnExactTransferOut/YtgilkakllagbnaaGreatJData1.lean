import Derived.Test.YtgilkakllagbnaaGreatJMath
import Derived.Test.YtgilkakllagbnaaGreatRows
import Derived.WalkSpells
import Derived.WalkLawsBesides
namespace Go.Proofs.YtgilkakllagbnaaGreat
open Go.RowKit
set_option maxRecDepth 100000 in
set_option maxHeartbeats 800000 in
theorem l02Alnum_any(c:UInt8)(w:World):
 Calls Tryz.prog 125 #[.int .u8 c.toNat] w fun e w'=>e=.returned (.bool (Dt.alnumB c))∧w'=w:=by
 have key:∀ b,Dt.alnumB c=b->Hid (Dt.alnumB c=b):=fun _ h=>h
 by_cases h1:48<=c.toNat
 ·by_cases h2:c.toNat<=57
  ·have HA:=key true (by simp [Dt.alnumB,h1,h2]);have d1:(48:Int)<=(c.toNat:Int):=by omega
   have d2:(c.toNat:Int)<=57:=by omega
   go_enter Tryz.func125,Tryz.ntmps125;go_wp2;go_ret;rw [HA.out];exact⟨rfl,rfl⟩
  ·by_cases h3:97<=c.toNat
   ·by_cases h4:c.toNat<=122
    ·have HA:=key true (by simp [Dt.alnumB,h1,h2,h3,h4]);have d1:(48:Int)<=(c.toNat:Int):=by omega
     have d2:(57:Int)<(c.toNat:Int):=by omega
     have e2:decide ((c.toNat:Int)<=57)=false:=by simp;omega
     have d3:(97:Int)<=(c.toNat:Int):=by omega
     have d4:(c.toNat:Int)<=122:=by omega
     go_enter Tryz.func125,Tryz.ntmps125;go_wp2;go_ret;rw [HA.out];exact⟨rfl,rfl⟩
    ·have HA:=key false (by simp [Dt.alnumB];omega);have d1:(48:Int)<=(c.toNat:Int):=by omega
     have d2:(57:Int)<(c.toNat:Int):=by omega
     have e2:decide ((c.toNat:Int)<=57)=false:=by simp;omega
     have d3:(97:Int)<=(c.toNat:Int):=by omega
     have d4:(122:Int)<(c.toNat:Int):=by omega
     have e4:decide ((c.toNat:Int)<=122)=false:=by simp;omega
     have d5:(65:Int)<=(c.toNat:Int):=by omega
     have d6:(90:Int)<(c.toNat:Int):=by omega
     have e6:decide ((c.toNat:Int)<=90)=false:=by simp;omega
     go_enter Tryz.func125,Tryz.ntmps125;go_wp2;go_ret;rw [HA.out];exact⟨rfl,rfl⟩
   ·by_cases h5:65<=c.toNat∧c.toNat<=90
    ·have HA:=key true (by simp [Dt.alnumB];omega);have d1:(48:Int)<=(c.toNat:Int):=by omega
     have d2:(57:Int)<(c.toNat:Int):=by omega
     have e2:decide ((c.toNat:Int)<=57)=false:=by simp;omega
     have d3:(c.toNat:Int)<97:=by omega
     have d5:(65:Int)<=(c.toNat:Int):=by omega
     have d6:(c.toNat:Int)<=90:=by omega
     go_enter Tryz.func125,Tryz.ntmps125;go_wp2;go_ret;rw [HA.out];exact⟨rfl,rfl⟩
    ·have HA:=key false (by simp [Dt.alnumB];omega);have d1:(48:Int)<=(c.toNat:Int):=by omega
     have d2:(57:Int)<(c.toNat:Int):=by omega
     have e2:decide ((c.toNat:Int)<=57)=false:=by simp;omega
     have d3:(c.toNat:Int)<97:=by omega
     by_cases h6:65<=c.toNat
     ·have d5:(65:Int)<=(c.toNat:Int):=by omega
      have d6:(90:Int)<(c.toNat:Int):=by omega
      have e6:decide ((c.toNat:Int)<=90)=false:=by simp;omega
      go_enter Tryz.func125,Tryz.ntmps125;go_wp2;go_ret;rw [HA.out];exact⟨rfl,rfl⟩
     ·have d5:(c.toNat:Int)<65:=by omega
      go_enter Tryz.func125,Tryz.ntmps125;go_wp2;go_ret;rw [HA.out];exact⟨rfl,rfl⟩
 ·have HA:=key false (by simp [Dt.alnumB];omega);have d1:(c.toNat:Int)<48:=by omega
  have d3:(c.toNat:Int)<97:=by omega
  have d5:(c.toNat:Int)<65:=by omega
  go_enter Tryz.func125,Tryz.ntmps125;go_wp2;go_ret;rw [HA.out];exact⟨rfl,rfl⟩
set_option maxRecDepth 100000 in
set_option maxHeartbeats 800000 in
theorem l02Form_any(t:Int)(w:World):
 Calls Tryz.prog 100 #[.int .i64 t] w fun e w'=>e=.returned (.string (Dt.formS t))∧w'=w:=by
 by_cases h:t=1∨t=2∨t=5∨t=6∨t=12∨t=13∨t=15∨t=16∨t=28∨t=33∨t=35∨t=39∨t=47∨t=257
 ·rcases h with rfl|rfl|rfl|rfl|rfl|rfl|rfl|rfl|rfl|rfl|rfl|rfl|rfl|rfl
  all_goals
   go_enter Tryz.func100,Tryz.ntmps100;go_wp2;go_ret;exact⟨rfl,rfl⟩
 ·have HA:Hid (Dt.formS t=⟨#[42]⟩):=by
   show _=_
   unfold Dt.formS;simp only [show ¬t=1 by omega,show ¬(t=2∨t=5∨t=12∨t=39) by omega,show ¬t=6 by omega,show ¬t=13 by omega,show ¬t=15 by omega,show ¬t=16 by omega,show ¬t=28 by omega,show ¬t=33 by omega,show ¬t=35 by omega,show ¬t=47 by omega,show ¬t=257 by omega,if_false]
  have b1:(t==1)=false:=by rw [beq_eq_false_iff_ne];omega
  have b2:(t==2)=false:=by rw [beq_eq_false_iff_ne];omega
  have b3:(t==5)=false:=by rw [beq_eq_false_iff_ne];omega
  have b4:(t==6)=false:=by rw [beq_eq_false_iff_ne];omega
  have b5:(t==12)=false:=by rw [beq_eq_false_iff_ne];omega
  have b6:(t==13)=false:=by rw [beq_eq_false_iff_ne];omega
  have b7:(t==15)=false:=by rw [beq_eq_false_iff_ne];omega
  have b8:(t==16)=false:=by rw [beq_eq_false_iff_ne];omega
  have b9:(t==28)=false:=by rw [beq_eq_false_iff_ne];omega
  have b10:(t==33)=false:=by rw [beq_eq_false_iff_ne];omega
  have b11:(t==35)=false:=by rw [beq_eq_false_iff_ne];omega
  have b12:(t==39)=false:=by rw [beq_eq_false_iff_ne];omega
  have b13:(t==47)=false:=by rw [beq_eq_false_iff_ne];omega
  have b14:(t==257)=false:=by rw [beq_eq_false_iff_ne];omega
  clear h;go_enter Tryz.func100,Tryz.ntmps100;go_wp2;go_ret;rw [HA.out];exact⟨rfl,rfl⟩
theorem txt_short{s:ByteArray}(h:0<s.size)(h1:s.size<s[0].toNat+1):Dt.txtS s=ByteArray.empty:=by
 rw [Dt.txtS,dif_pos h,if_neg (by omega)]
theorem txt_good{s:ByteArray}(h:0<s.size)(h1:s[0].toNat+1<=s.size):Dt.txtS s=s.extract 0 (s[0].toNat+1):=by
 rw [Dt.txtS,dif_pos h,if_pos h1]
theorem txt_none{s:ByteArray}(h:s.size=0):Dt.txtS s=ByteArray.empty:=by
 rw [Dt.txtS,dif_neg (by omega)]
set_option maxRecDepth 100000 in
set_option maxHeartbeats 800000 in
theorem l02Text_any(s:ByteArray)(w:World)(hs:s.size<=maxLen):
 Calls Tryz.prog 124 #[.string s] w fun e w'=>e=.returned (.string (Dt.txtS s))∧w'=w:=by
 unfold maxLen at hs
 by_cases h0:s.size=0
 ·have HA:=Nm.hide (txt_none h0)
  have he:s=ByteArray.empty:=by
   apply ByteArray.ext;exact Array.eq_empty_of_size_eq_zero h0
  subst he;go_enter Tryz.func124,Tryz.ntmps124;go_wp2;go_ret;rw [HA.out];exact⟨rfl,rfl⟩
 ·have hp:0<s.size:=by omega
  have hp':(0:Int)<(s.size:Int):=by omega
  have he:(s.toList==[])=false:=by
   rw [beq_eq_false_iff_ne,ByteArray.toList_eq];intro e;have h9:=congrArg List.length e;rw [Array.length_toList] at h9;exact h0 h9
  have hc:(s[0].toNat:Int)<256:=by have:=s[0].toNat_lt;omega
  by_cases h1:s.size<s[0].toNat+1
  ·have HA:=Nm.hide (txt_short hp h1);have h1':(s.size:Int)<(s[0].toNat:Int)+1:=by omega
   go_enter Tryz.func124,Tryz.ntmps124;go_wp2;go_ret;rw [HA.out];exact⟨rfl,rfl⟩
  ·have HA:=Nm.hide (txt_good hp (by omega));have h1':(s[0].toNat:Int)+1<=(s.size:Int):=by omega
   go_enter Tryz.func124,Tryz.ntmps124;go_wp2;go_ret;rw [HA.out];exact⟨rfl,rfl⟩
end Go.Proofs.YtgilkakllagbnaaGreat
namespace Go.Proofs.YtgilkakllagbnaaGreat
open Go.RowKit
set_option maxRecDepth 100000 in
set_option maxHeartbeats 800000 in
theorem l01Split_any(s:ByteArray)(w:World)(hs:s.size<=maxLen):
 Calls Tryz.prog 94 #[.string s] w fun e w'=>∃ v,e=.returned (.tuple #[v,.bool (Nm.split s).isSome])∧
  w'.ownsRow w.heap.size 9 1 v ((Nm.split s).getD []).length (((Nm.split s).getD []).map Value.string)∧Below w.heap.size w w':=by
 unfold maxLen at hs;obtain⟨i0,hi,hz0,hz1,hz2⟩:=info_parts Tryz.infoStr
 by_cases hlong:255<s.size
 ·have H:Hid (Nm.split s=none):=Nm.split_long s hlong;have hl:(255:Int)<(s.size:Int):=by omega
  go_enter Tryz.func94,Tryz.ntmps94;go_wp2;go_ret2;rw [H.out];exact⟨_,rfl,World.ownsRow_nil _ _ _ _,(Below.refl _ _).alloc (Nat.le_refl _) _⟩
 by_cases hshort:s.size=0
 ·have H:Hid (Nm.split s=none):=Nm.at_empty (Nm.at_start s (by omega)) hshort;have hl:(s.size:Int)<1:=by omega
  go_enter Tryz.func94,Tryz.ntmps94;go_wp2;go_ret2;rw [H.out];exact⟨_,rfl,World.ownsRow_nil _ _ _ _,(Below.refl _ _).alloc (Nat.le_refl _) _⟩
 ·have hl:(s.size:Int)<=255:=by omega
  have hl1:(1:Int)<=(s.size:Int):=by omega
  have hst:=Nm.at_start s (by omega);go_enter Tryz.func94,Tryz.ntmps94;go_wp2
  go_loopw [4,5] (fun v x wr=>∃ (ls:List ByteArray) (r:ByteArray),x=.string r∧Nm.At s ls r∧ls.length+r.size<=255∧wr.ownsRow w.heap.size 9 1 v ls.length (ls.map Value.string)∧Below w.heap.size w wr)
   (fun _ x _=>match x with|.string r=>r.size|_=>0)
  case atStart=>exact⟨[],s,rfl,hst,by simp;omega,World.ownsRow_made w #[] 0 (Nat.le_refl _) (by decide) rfl,(Below.refl _ _).alloc (Nat.le_refl _) _⟩
  case round=>
   obtain⟨ls,r,rfl,hat,hb,hown,hbel⟩:=hrel;clear hst
   by_cases h0:r.size=0
   ·have HN:Hid (Nm.split s=none):=Nm.at_empty hat h0;have e2:=Nm.tl_empty h0;go_wp2;go_ret2;rw [HN.out];exact⟨_,rfl,World.ownsRow_nil _ _ _ _,hbel⟩
   ·have hp:0<r.size:=by omega
    have hn:(r[0].toNat:Int)<256:=by have:=r[0].toNat_lt;omega
    have e2:=Nm.tl_not_empty hp
    by_cases h2:r[0].toNat=0
    ·have e3:((r[0].toNat:Int)==0)=true:=by simp [h2]
     by_cases h1:r.size=1
     ·have HN:Hid (Nm.split s=some ls):=Nm.at_end hat hp h2 h1;have e4:((r.size:Int) != 1)=false:=by simp [h1]
      clear h1 h2;go_wp2;go_ret2;rw [HN.out];exact⟨_,rfl,hown,hbel⟩
     ·have HN:Hid (Nm.split s=none):=Nm.at_zero hat hp h2 h1;have e4:((r.size:Int) != 1)=true:=by rw [bne_iff_ne];omega
      clear h1 h2;go_wp2;go_ret2;rw [HN.out];exact⟨_,rfl,World.ownsRow_nil _ _ _ _,hbel⟩
    ·have e3:((r[0].toNat:Int)==0)=false:=by rw [beq_eq_false_iff_ne];omega
     have e3':(0:Int)<(r[0].toNat:Int):=by omega
     by_cases h3:63<r[0].toNat
     ·have HN:Hid (Nm.split s=none):=Nm.at_bad hat hp h2 (.inl h3);have e4:(63:Int)<(r[0].toNat:Int):=by omega
      clear h2 h0 h3;go_wp2;go_ret2;rw [HN.out];exact⟨_,rfl,World.ownsRow_nil _ _ _ _,hbel⟩
     ·have e4:(r[0].toNat:Int)<=63:=by omega
      by_cases h4:r.size<r[0].toNat+1
      ·have HN:Hid (Nm.split s=none):=Nm.at_bad hat hp h2 (.inr h4);have e5:(r.size:Int)<(r[0].toNat:Int)+1:=by omega
       clear h2 h0 h3 h4;go_wp2;go_ret2;rw [HN.out];exact⟨_,rfl,World.ownsRow_nil _ _ _ _,hbel⟩
      ·have e5:(r[0].toNat:Int)+1<=(r.size:Int):=by omega
       have HN:Hid (Nm.At s (ls++[r.extract 1 (r[0].toNat+1)]) (r.extract (r[0].toNat+1) r.size)):=Nm.at_step hat hp h2 (by omega) (by omega);have hsz:=hbel.size;clear h2 h0 h3 h4;go_wp2_with (at_builtin;refine wpList_append_own _ rfl (.tmp 37) (.tmp 42) 78 rfl w.heap.size 9 i0 (.string ByteArray.empty) 1 16 Tryz.underlying78 hi hz0 hz1 hz2 rfl (by decide) _ _ _ rfl (hown.alloc _) ⟨wr.heap.size,0,none⟩ 1 1 [.string (r.extract 1 (r[0].toNat+1))] rfl rfl ?c1 ?c2 ?c3 ?c4 ?c5 ?_)
       case c1=>
        intro j u hj
        match j,hj with
        |0,hj=>simp at hj;subst hj;simp [Addr.add]
       case c2=>exact Nm.one_cell _ rfl
       case c3=>unfold maxLen;omega
       case c4=>omega
       case c5=>simp;omega
       ·intro v' w1 hown' hgrow _;have R:=own_step hsz hown hbel _ hown' hgrow;clear hown' hgrow hown hbel;go_wp2;go_roundw
        case rel=>exact⟨_,_,rfl,HN.out,by simp;omega,R.1,R.2⟩
        case measure=>simp;omega
end Go.Proofs.YtgilkakllagbnaaGreat
