import Derived.Test.YtaceiajcecaapaaGreatJMath
import Derived.Test.YtaceiajcecaapaaGreatRows
import Derived.WalkSpells
import Derived.WalkLawsBesides
namespace Go.Proofs.YtaceiajcecaapaaGreat
open Go.RowKit
set_option maxRecDepth 100000 in
set_option maxHeartbeats 800000 in
theorem l02Alnum_any(c:UInt8)(w:World):
 Calls Tryz.prog 137 #[.int .u8 c.toNat] w fun e w'=>e=.returned (.bool (Dt.alnumB c))∧w'=w:=by
 have key:∀ b,Dt.alnumB c=b->Hid (Dt.alnumB c=b):=fun _ h=>h
 by_cases h1:48<=c.toNat
 ·by_cases h2:c.toNat<=57
  ·have HA:=key true (by simp [Dt.alnumB,h1,h2]);have d1:(48:Int)<=(c.toNat:Int):=by omega
   have d2:(c.toNat:Int)<=57:=by omega
   go_enter Tryz.func137,Tryz.ntmps137;go_wp2;go_ret;rw [HA.out];exact⟨rfl,rfl⟩
  ·by_cases h3:97<=c.toNat
   ·by_cases h4:c.toNat<=122
    ·have HA:=key true (by simp [Dt.alnumB,h1,h2,h3,h4]);have d1:(48:Int)<=(c.toNat:Int):=by omega
     have d2:(57:Int)<(c.toNat:Int):=by omega
     have e2:decide ((c.toNat:Int)<=57)=false:=by simp;omega
     have d3:(97:Int)<=(c.toNat:Int):=by omega
     have d4:(c.toNat:Int)<=122:=by omega
     go_enter Tryz.func137,Tryz.ntmps137;go_wp2;go_ret;rw [HA.out];exact⟨rfl,rfl⟩
    ·have HA:=key false (by simp [Dt.alnumB];omega);have d1:(48:Int)<=(c.toNat:Int):=by omega
     have d2:(57:Int)<(c.toNat:Int):=by omega
     have e2:decide ((c.toNat:Int)<=57)=false:=by simp;omega
     have d3:(97:Int)<=(c.toNat:Int):=by omega
     have d4:(122:Int)<(c.toNat:Int):=by omega
     have e4:decide ((c.toNat:Int)<=122)=false:=by simp;omega
     have d5:(65:Int)<=(c.toNat:Int):=by omega
     have d6:(90:Int)<(c.toNat:Int):=by omega
     have e6:decide ((c.toNat:Int)<=90)=false:=by simp;omega
     go_enter Tryz.func137,Tryz.ntmps137;go_wp2;go_ret;rw [HA.out];exact⟨rfl,rfl⟩
   ·by_cases h5:65<=c.toNat∧c.toNat<=90
    ·have HA:=key true (by simp [Dt.alnumB];omega);have d1:(48:Int)<=(c.toNat:Int):=by omega
     have d2:(57:Int)<(c.toNat:Int):=by omega
     have e2:decide ((c.toNat:Int)<=57)=false:=by simp;omega
     have d3:(c.toNat:Int)<97:=by omega
     have d5:(65:Int)<=(c.toNat:Int):=by omega
     have d6:(c.toNat:Int)<=90:=by omega
     go_enter Tryz.func137,Tryz.ntmps137;go_wp2;go_ret;rw [HA.out];exact⟨rfl,rfl⟩
    ·have HA:=key false (by simp [Dt.alnumB];omega);have d1:(48:Int)<=(c.toNat:Int):=by omega
     have d2:(57:Int)<(c.toNat:Int):=by omega
     have e2:decide ((c.toNat:Int)<=57)=false:=by simp;omega
     have d3:(c.toNat:Int)<97:=by omega
     by_cases h6:65<=c.toNat
     ·have d5:(65:Int)<=(c.toNat:Int):=by omega
      have d6:(90:Int)<(c.toNat:Int):=by omega
      have e6:decide ((c.toNat:Int)<=90)=false:=by simp;omega
      go_enter Tryz.func137,Tryz.ntmps137;go_wp2;go_ret;rw [HA.out];exact⟨rfl,rfl⟩
     ·have d5:(c.toNat:Int)<65:=by omega
      go_enter Tryz.func137,Tryz.ntmps137;go_wp2;go_ret;rw [HA.out];exact⟨rfl,rfl⟩
 ·have HA:=key false (by simp [Dt.alnumB];omega);have d1:(c.toNat:Int)<48:=by omega
  have d3:(c.toNat:Int)<97:=by omega
  have d5:(c.toNat:Int)<65:=by omega
  go_enter Tryz.func137,Tryz.ntmps137;go_wp2;go_ret;rw [HA.out];exact⟨rfl,rfl⟩
set_option maxRecDepth 100000 in
set_option maxHeartbeats 800000 in
theorem l02Form_any(t:Int)(w:World):
 Calls Tryz.prog 96 #[.int .i64 t] w fun e w'=>e=.returned (.string (Dt.formS t))∧w'=w:=by
 by_cases h:t=1∨t=2∨t=5∨t=6∨t=12∨t=13∨t=15∨t=16∨t=28∨t=33∨t=35∨t=39∨t=47∨t=257
 ·rcases h with rfl|rfl|rfl|rfl|rfl|rfl|rfl|rfl|rfl|rfl|rfl|rfl|rfl|rfl
  all_goals
   go_enter Tryz.func96,Tryz.ntmps96;go_wp2;go_ret;exact⟨rfl,rfl⟩
 ·have HA:Hid (Dt.formS t=⟨#[42]⟩):=by
   show _=_
   unfold Dt.formS;simp only [show ¬t=1 by omega,show ¬(t=2∨t=5∨t=12∨t=39) by omega,show ¬t=6 by omega,show ¬t=13 by omega,show ¬t=15 by omega,show ¬t=16 by omega,show ¬t=28 by omega,show ¬t=33 by omega,show ¬t=35 by omega,show ¬t=47 by omega,show ¬t=257 by omega,if_false]
  have b1:(t==1)=false:=by rw [beq_eq_false_iff_ne];omega
  have b2:(t==2)=false:=by rw [beq_eq_false_iff_ne];omega
  have b3:(t==5)=false:=by rw [beq_eq_false_iff_ne];omega
  have b4:(t==6)=false:=by rw [beq_eq_false_iff_ne];omega
  have b5:(t==12)=false:=by rw [beq_eq_false_iff_ne];omega
  have b6:(t==13)=false:=by rw [beq_eq_false_iff_ne];omega
  have b7:(t==15)=false:=by rw [beq_eq_false_iff_ne];omega
  have b8:(t==16)=false:=by rw [beq_eq_false_iff_ne];omega
  have b9:(t==28)=false:=by rw [beq_eq_false_iff_ne];omega
  have b10:(t==33)=false:=by rw [beq_eq_false_iff_ne];omega
  have b11:(t==35)=false:=by rw [beq_eq_false_iff_ne];omega
  have b12:(t==39)=false:=by rw [beq_eq_false_iff_ne];omega
  have b13:(t==47)=false:=by rw [beq_eq_false_iff_ne];omega
  have b14:(t==257)=false:=by rw [beq_eq_false_iff_ne];omega
  clear h;go_enter Tryz.func96,Tryz.ntmps96;go_wp2;go_ret;rw [HA.out];exact⟨rfl,rfl⟩
theorem txt_short{s:ByteArray}(h:0<s.size)(h1:s.size<s[0].toNat+1):Dt.txtS s=ByteArray.empty:=by
 rw [Dt.txtS,dif_pos h,if_neg (by omega)]
theorem txt_good{s:ByteArray}(h:0<s.size)(h1:s[0].toNat+1<=s.size):Dt.txtS s=s.extract 0 (s[0].toNat+1):=by
 rw [Dt.txtS,dif_pos h,if_pos h1]
theorem txt_none{s:ByteArray}(h:s.size=0):Dt.txtS s=ByteArray.empty:=by
 rw [Dt.txtS,dif_neg (by omega)]
set_option maxRecDepth 100000 in
set_option maxHeartbeats 800000 in
theorem l02Text_any(s:ByteArray)(w:World)(hs:s.size<=maxLen):
 Calls Tryz.prog 136 #[.string s] w fun e w'=>e=.returned (.string (Dt.txtS s))∧w'=w:=by
 unfold maxLen at hs
 by_cases h0:s.size=0
 ·have HA:=Nm.hide (txt_none h0)
  have he:s=ByteArray.empty:=by
   apply ByteArray.ext;exact Array.eq_empty_of_size_eq_zero h0
  subst he;go_enter Tryz.func136,Tryz.ntmps136;go_wp2;go_ret;rw [HA.out];exact⟨rfl,rfl⟩
 ·have hp:0<s.size:=by omega
  have hp':(0:Int)<(s.size:Int):=by omega
  have he:(s.toList==[])=false:=by
   rw [beq_eq_false_iff_ne,ByteArray.toList_eq];intro e;have h9:=congrArg List.length e;rw [Array.length_toList] at h9;exact h0 h9
  have hc:(s[0].toNat:Int)<256:=by have:=s[0].toNat_lt;omega
  by_cases h1:s.size<s[0].toNat+1
  ·have HA:=Nm.hide (txt_short hp h1);have h1':(s.size:Int)<(s[0].toNat:Int)+1:=by omega
   go_enter Tryz.func136,Tryz.ntmps136;go_wp2;go_ret;rw [HA.out];exact⟨rfl,rfl⟩
  ·have HA:=Nm.hide (txt_good hp (by omega));have h1':(s[0].toNat:Int)+1<=(s.size:Int):=by omega
   go_enter Tryz.func136,Tryz.ntmps136;go_wp2;go_ret;rw [HA.out];exact⟨rfl,rfl⟩
end Go.Proofs.YtaceiajcecaapaaGreat
