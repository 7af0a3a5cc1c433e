import Derived.Test.YtaceiajcecaapaaGreatJZnM
import Derived.Test.YtaceiajcecaapaaGreatJTrM
import Derived.Deep.QuietTactic
import Derived.BigQuiet
namespace Go.Proofs.YtaceiajcecaapaaGreat
open Go.RowKit
set_option linter.unusedVariables false
set_option maxRecDepth 100000 in
set_option maxHeartbeats 1600000 in
theorem place1S_any(tb g:Nat)(rv:Value)(k d t:ByteArray)(w:World)(kb:Blk w tb #[.pointer (some ⟨g,0,none⟩)] 152)(kg:Blk w g #[cmpSv,rv] 233):
 Calls Tryz.prog 198 #[.agg #[.string k,.string d],.string t,.pointer (some ⟨tb,0,none⟩)] w fun e w'=>e=.returned (.int .i64 (Nm.ordL k.data.toList t.data.toList))∧Below w.heap.size w w':=by
 have hB:=(Below.refl w.heap.size w).alloc (Nat.le_refl _) (.cells #[.string k,.string d] 236);have rb:=fun i=>blk_cell (blk_below kb hB) i
 have rg:=fun i=>blk_cell (blk_below kg hB) i
 have hc:=fun W=>compare_any' k t W
 unfold cmpSv at rg;generalize Nm.ordL k.data.toList t.data.toList=C at*;go_enter Tryz.func198,Tryz.ntmps198;go_wp2;go_quiet ((go_at_call 149;exact Calls.quiet_of_same (hc _)))
 go_wp2;go_ret;exact⟨rfl,Go.below_drewN hB _⟩
set_option maxRecDepth 100000 in
set_option maxHeartbeats 1600000 in
theorem place1I_any(tb g:Nat)(rv pv:Value)(k t:Int)(w:World)(kb:Blk w tb #[.pointer (some ⟨g,0,none⟩)] 113)(kg:Blk w g #[cmpIv,rv] 170):
 Calls Tryz.prog 180 #[.agg #[.int .i64 k,pv],.int .i64 t,.pointer (some ⟨tb,0,none⟩)] w fun e w'=>e=.returned (.int .i64 (Nm.cmpI k t))∧Below w.heap.size w w':=by
 have hB:=(Below.refl w.heap.size w).alloc (Nat.le_refl _) (.cells #[.int .i64 k,pv] 172);have rb:=fun i=>blk_cell (blk_below kb hB) i
 have rg:=fun i=>blk_cell (blk_below kg hB) i
 have hc:=fun W=>cmp64_any k t W
 unfold cmpIv at rg;generalize Nm.cmpI k t=C at*;go_enter Tryz.func180,Tryz.ntmps180;go_wp2;go_quiet ((go_at_call 145;exact Calls.quiet_of_same (hc _)))
 go_wp2;go_ret;exact⟨rfl,Go.below_drewN hB _⟩
set_option maxRecDepth 100000 in
set_option maxHeartbeats 1600000 in
theorem place1L_any(tb g:Nat)(rv pv kv tv:Value)(ks ts:List ByteArray)(w:World)(kb:Blk w tb #[.pointer (some ⟨g,0,none⟩)] 69)(kg:Blk w g #[cmpLv,rv] 163)
 (hk:Nm.SRow w kv ks) (ht:Nm.SRow w tv ts) (hks:∀ x∈ks,x.size<=1000000000) (hkl:ks.length<=1000000000) (htl:ts.length<=1000000000):
 Calls Tryz.prog 184 #[.agg #[kv,pv],tv,.pointer (some ⟨tb,0,none⟩)] w fun e w'=>e=.returned (.int .i64 (Nm.cmpLs ks ts))∧Below w.heap.size w w':=by
 have hB:=(Below.refl w.heap.size w).alloc (Nat.le_refl _) (.cells #[kv,pv] 165);have rb:=fun i=>blk_cell (blk_below kb hB) i
 have rg:=fun i=>blk_cell (blk_below kg hB) i
 have hc:=fun m=>compare_any kv tv ks ts _ (hk.below (Go.below_drewN hB m)) (ht.below (Go.below_drewN hB m)) hks hkl htl
 unfold cmpLv at rg;obtain⟨ka,kc,rfl,_⟩:=hk;obtain⟨ta,tc,rfl,_⟩:=ht;generalize Nm.cmpLs ks ts=C at*;go_enter Tryz.func184,Tryz.ntmps184;go_wp2;go_quiet ((go_at_call 104;exact Calls.quiet_of (hc _)))
 go_wp2;go_ret;exact⟨rfl,Go.below_drewN hB _⟩
end Go.Proofs.YtaceiajcecaapaaGreat
