import Derived.Test.YthdpacepbbcocaaGreatJAls
set_option linter.unusedVariables false
set_option maxRecDepth 100000
set_option maxHeartbeats 800000
namespace Go.Proofs.YthdpacepbbcocaaGreat
open Go.RowKit
theorem Ue(s0:ByteArray)(w:World)(hs:s0.size<=maxLen):
 Calls Tryz.prog 129 #[.string s0] w fun e w'=>e=.returned (.bool (Em s0))∧w'=w:=by
 unfold maxLen at hs;go_enter Tryz.func129,Tryz.ntmps129;go_wp2
 go_loop [3,0] (fun v u=>∃ (last:Int) (s:ByteArray),-1<=last∧last<256∧v=.int .i64 last∧u=.string s∧s.size<=s0.size∧Em s0=AY (s.size+1) last s)
  (fun _ u=>match u with|.string s=>s.size|_=>0)
 case atStart=>exact⟨-1,s0,by omega,by omega,rfl,rfl,aN _,rfl⟩
 obtain⟨last,s,hl0,CX,rfl,rfl,hz,hn⟩:=hrel
 by_cases h0:s.size=0
 ·have HN:=Nm.aF (hn.trans (aAf h0))
  have he:s=ByteArray.empty:=by
   apply ByteArray.ext;exact Array.eq_empty_of_size_eq_zero h0
  subst he;clear hn;go_wp2;go_ret;rw [HN.out];exact⟨rfl,rfl⟩
 obtain⟨e1,e2⟩:=jM (s:=s) (by omega)
 by_cases h1:s.size=1
 ·have HN:=Nm.aF (hn.trans (aAg h1));have YZ:(s.size:Int)<2:=by omega
  clear hn;go_wp2;go_ret;rw [HN.out];exact⟨rfl,rfl⟩
 have h2:2<=s.size:=by omega
 have Sb:(2:Int)<=(s.size:Int):=by omega
 have VU:(s[0].toNat:Int)<256:=by have:=s[0].toNat_lt;omega
 have iK:(s[1].toNat:Int)<256:=by have:=s[1].toNat_lt;omega
 have i0:(0:Int)<(s.size:Int):=by omega
 have i1:(1:Int)<(s.size:Int):=by omega
 by_cases ha:last<(s[0].toNat:Int)
 ·by_cases hb:1<=s[1].toNat
  ·have JD:(1:Int)<=(s[1].toNat:Int):=by omega
   by_cases Mg:s[1].toNat<=32
   ·have aMo:(s[1].toNat:Int)<=32:=by omega
    by_cases hd:s[1].toNat+2<=s.size
    ·have ZE:(s[1].toNat:Int)+2<=(s.size:Int):=by omega
     have hi:s[1].toNat+1<s.size:=by omega
     have Jg:(s[1].toNat:Int)+1<(s.size:Int):=by omega
     by_cases h3:s[s[1].toNat+1].toNat=0
     ·have HN:=Nm.aF (hn.trans (Kb h2 ⟨ha,hb,Mg,hd⟩ h3));have h3':((s[s[1].toNat+1].toNat:Int)==0)=true:=by rw [beq_iff_eq];omega
      clear hn;go_wp2;go_ret;rw [HN.out];exact⟨rfl,rfl⟩
     have HN:=Nm.aF (hn.trans (Kc h2 ⟨ha,hb,Mg,hd⟩ h3));have h3':((s[s[1].toNat+1].toNat:Int)==0)=false:=by rw [dC];omega
     have Si:(s.extract (s[1].toNat+2) s.size).size=s.size-(s[1].toNat+2):=by simp
     clear hn;go_wp2
     go_round
     case rel=>exact⟨_,_,by omega,by omega,rfl,rfl,by omega,HN.out⟩
     simp only [Si];omega
    have HN:=Nm.aF (hn.trans (EF h2 (by omega)));have ZE:(s.size:Int)<(s[1].toNat:Int)+2:=by omega
    clear hn;go_wp2;go_ret;rw [HN.out];exact⟨rfl,rfl⟩
   have HN:=Nm.aF (hn.trans (EF h2 (by omega)));have aMo:(32:Int)<(s[1].toNat:Int):=by omega
   clear hn;go_wp2;go_ret;rw [HN.out];exact⟨rfl,rfl⟩
  have HN:=Nm.aF (hn.trans (EF h2 (by omega)));have JD:(s[1].toNat:Int)<1:=by omega
  clear hn;go_wp2;go_ret;rw [HN.out];exact⟨rfl,rfl⟩
 have HN:=Nm.aF (hn.trans (EF h2 (by omega)));have Sl:(s[0].toNat:Int)<=last:=by omega
 clear hn;go_wp2;go_ret;rw [HN.out];exact⟨rfl,rfl⟩
