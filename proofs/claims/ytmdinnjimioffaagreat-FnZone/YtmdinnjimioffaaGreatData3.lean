import Derived.Test.YtmdinnjimioffaaGreatJDataM
import Derived.Test.YtmdinnjimioffaaGreatRows
import Derived.WalkSpells
import Derived.WalkLawsBesides
namespace Go.Proofs.YtmdinnjimioffaaGreat
open Go.RowKit
set_option linter.unusedVariables false
set_option maxRecDepth 100000 in
set_option maxHeartbeats 800000 in
theorem l02Map_any(s0:ByteArray)(w:World)(hs:s0.size<=maxLen):
 Calls Tryz.prog 80 #[.string s0] w fun e w'=>e=.returned (.bool (mapS s0))∧w'=w:=by
 unfold maxLen at hs;go_enter Tryz.func80,Tryz.ntmps80;go_wp2
 go_loop [3,0] (fun v u=>∃ (last:Int) (s:ByteArray),-1<=last∧last<256∧v=.int .i64 last∧u=.string s∧s.size<=s0.size∧mapS s0=mapF (s.size+1) last s)
  (fun _ u=>match u with|.string s=>s.size|_=>0)
 case atStart=>exact⟨-1,s0,by omega,by omega,rfl,rfl,Nat.le_refl _,rfl⟩
 case round=>
  obtain⟨last,s,hl0,hl1,rfl,rfl,hz,hn⟩:=hrel
  by_cases h0:s.size=0
  ·have HN:=Nm.hide (hn.trans (map_end h0))
   have he:s=ByteArray.empty:=by
    apply ByteArray.ext;exact Array.eq_empty_of_size_eq_zero h0
   subst he;clear hn;go_wp2;go_ret;rw [HN.out];exact⟨rfl,rfl⟩
  ·obtain⟨e1,e2⟩:=not_empty (s:=s) (by omega)
   by_cases h1:s.size=1
   ·have HN:=Nm.hide (hn.trans (map_one h1));have h1':(s.size:Int)<2:=by omega
    clear hn;go_wp2;go_ret;rw [HN.out];exact⟨rfl,rfl⟩
   ·have h2:2<=s.size:=by omega
    have h2':(2:Int)<=(s.size:Int):=by omega
    have hc0:(s[0].toNat:Int)<256:=by have:=s[0].toNat_lt;omega
    have hc1:(s[1].toNat:Int)<256:=by have:=s[1].toNat_lt;omega
    have i0:(0:Int)<(s.size:Int):=by omega
    have i1:(1:Int)<(s.size:Int):=by omega
    by_cases ha:last<(s[0].toNat:Int)
    ·by_cases hb:1<=s[1].toNat
     ·have hb':(1:Int)<=(s[1].toNat:Int):=by omega
      by_cases hcc:s[1].toNat<=32
      ·have hcc':(s[1].toNat:Int)<=32:=by omega
       by_cases hd:s[1].toNat+2<=s.size
       ·have hd':(s[1].toNat:Int)+2<=(s.size:Int):=by omega
        have hi:s[1].toNat+1<s.size:=by omega
        have hi':(s[1].toNat:Int)+1<(s.size:Int):=by omega
        by_cases h3:s[s[1].toNat+1].toNat=0
        ·have HN:=Nm.hide (hn.trans (map_zero h2 ⟨ha,hb,hcc,hd⟩ h3));have h3':((s[s[1].toNat+1].toNat:Int)==0)=true:=by rw [beq_iff_eq];omega
         clear hn;go_wp2;go_ret;rw [HN.out];exact⟨rfl,rfl⟩
        ·have HN:=Nm.hide (hn.trans (map_step h2 ⟨ha,hb,hcc,hd⟩ h3));have h3':((s[s[1].toNat+1].toNat:Int)==0)=false:=by rw [beq_eq_false_iff_ne];omega
         have hes:(s.extract (s[1].toNat+2) s.size).size=s.size-(s[1].toNat+2):=by simp
         clear hn;go_wp2
         go_round
         case rel=>exact⟨_,_,by omega,by omega,rfl,rfl,by omega,HN.out⟩
         case measure=>simp only [hes];omega
       ·have HN:=Nm.hide (hn.trans (map_no h2 (by omega)));have hd':(s.size:Int)<(s[1].toNat:Int)+2:=by omega
        clear hn;go_wp2;go_ret;rw [HN.out];exact⟨rfl,rfl⟩
      ·have HN:=Nm.hide (hn.trans (map_no h2 (by omega)));have hcc':(32:Int)<(s[1].toNat:Int):=by omega
       clear hn;go_wp2;go_ret;rw [HN.out];exact⟨rfl,rfl⟩
     ·have HN:=Nm.hide (hn.trans (map_no h2 (by omega)));have hb':(s[1].toNat:Int)<1:=by omega
      clear hn;go_wp2;go_ret;rw [HN.out];exact⟨rfl,rfl⟩
    ·have HN:=Nm.hide (hn.trans (map_no h2 (by omega)));have ha':(s[0].toNat:Int)<=last:=by omega
     clear hn;go_wp2;go_ret;rw [HN.out];exact⟨rfl,rfl⟩
end Go.Proofs.YtmdinnjimioffaaGreat
