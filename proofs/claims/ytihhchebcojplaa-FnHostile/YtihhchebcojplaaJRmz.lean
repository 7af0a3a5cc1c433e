import Derived.Test.YtihhchebcojplaaJSRt
import Derived.Test.YtihhchebcojplaaJRmb
import Derived.Test.YtihhchebcojplaaJRmd
import Derived.Test.YtihhchebcojplaaJDcM
import Derived.Tactics
import Derived.Tactics2
import Derived.Defers
import Derived.Recover
import Derived.Laws.Pointers
/- (*reader).message by its contract: all its cases. -/
namespace Go.Proofs.Ytihhchebcojplaa
open Go.RowKit
set_option linter.unusedVariables false

set_option maxRecDepth 100000 in
set_option maxHeartbeats 3200000 in
theorem message_any (g : Nat) (a : Option Addr) (l : List UInt8) (cap : Nat) (w : World) (h : Rd w g (.slice a l.length cap) 0) (hfar : ∀ w', w.grownBy w' (some g) → BySl w' (.slice a l.length cap) l) (hnn0 : l.length ≤ 100000000) :
    Calls Try.prog 17 #[.pointer (some ⟨g, 0, none⟩)] w fun e w' =>
      (∃ m p q x y z, msgS l = .ok m p ∧ e = .returned (.agg (msA (n16 l 0) (n16 l 2) q x y z)) ∧ Lists w' w.heap.size m q x y z ∧ w.grownBy w' (some g)) ∨
      (∃ c, msgS l = .bad c ∧ e = .panicked (fault c) ∧ w.grownBy w' (some g)) := by
  have hglt := rd_lt h
  have c0 : w.cell? ⟨g, 0, none⟩ = some (.slice a l.length cap) := by rw [cell_of_row _ _ _ _ _ _ h]; rfl
  have hbe : Below w.heap.size w (w.alloc (.cells ms0 29)) := (Below.refl _ _).alloc (Nat.le_refl _) _
  have hb0 := blk_new w ms0 29
  have hr0 := rd_below h hbe
  have hg0 := hgr_below (World.grownBy.refl w (some g)) hbe
  simp only [ms0] at hbe hb0 hr0 hg0
  by_cases hbig : 65535 < l.length
  · have hbig' : (65535 : Int) < (l.length : Int) := by omega
    have HM : Hid (msgS l = .bad 11) := by rw [Hid, msgS, if_pos hbig]
    have c1 := (blk_cell (rd_blk hr0) 0)
    go_enter Try.func17, Try.ntmps17
    go_wp2_with (go_at_call 33; refine (fail_any 11 _).mono ?_; rintro e w9 ⟨rfl, hw⟩; obtain rfl := hw.symm; clear hw)
    refine bp_panic rfl ?_
    exact .inr ⟨_, HM.out, rfl, hg0⟩
  · have hbig' : (l.length : Int) ≤ 65535 := by omega
    have hnn : l.length ≤ 1048576 := by omega
    have hhd := head_any g a l cap _ hr0 (fun W hW => hfar W (hgr_step hg0 hW)) hnn
    have c1 := (blk_cell (rd_blk hr0) 0)
    by_cases hsh : l.length < 12
    · have HM : Hid (msgS l = .bad 8) := by rw [Hid, msgS, if_neg hbig, if_pos hsh]
      have hhd' := hhd.mono (R' := fun e w' => e = .panicked (fault 8) ∧ w.grownBy w' (some g)) (by
        rintro e w' (⟨hx, _⟩ | ⟨_, he, hg⟩)
        · omega
        · exact ⟨he, hgr_step hg0 hg⟩)
      clear hhd
      go_enter Try.func17, Try.ntmps17
      go_wp2_with (go_at_call 34; refine hhd'.mono ?_; rintro e w9 ⟨rfl, hg9⟩)
      refine bp_panic rfl ?_
      exact .inr ⟨_, HM.out, rfl, hg9⟩
    · by_cases hcnt : 400 < n16 l 4 + n16 l 6 + n16 l 8 + n16 l 10
      · have hhd' := hhd.mono (R' := fun e w' => e = .returned (.tuple #[.agg (hdA (n16 l 0) (n16 l 2)), .agg (ctA l)]) ∧ Rd w' g (.slice a l.length cap) 12 ∧ w.grownBy w' (some g)) (by
          rintro e w' (⟨_, he, hr, hg⟩ | ⟨hx, _⟩)
          · exact ⟨he, hr, hgr_step hg0 hg⟩
          · omega)
        clear hhd hb0 hr0 hbe
        have q4 := n16_lt l 4
        have q6 := n16_lt l 6
        have q8 := n16_lt l 8
        have q10 := n16_lt l 10
        simp only [hdA, ctA] at hhd'
        have HM : Hid (msgS l = .bad 12) := by rw [Hid, msgS, if_neg hbig, if_neg hsh, if_pos hcnt]
        have hcnt' : (400 : Int) < (n16 l 4 : Int) + (n16 l 6 : Int) + (n16 l 8 : Int) + (n16 l 10 : Int) := by omega
        go_enter Try.func17, Try.ntmps17
        go_wp2_with (first | (go_at_call 34; refine hhd'.mono ?_; rintro e w2 ⟨rfl, hr2, hg2⟩) | (go_at_call 33; refine (fail_any 12 _).mono ?_; rintro e w9 ⟨rfl, hw⟩; obtain rfl := hw.symm; clear hw))
        refine bp_panic rfl ?_
        refine .inr ⟨_, HM.out, rfl, ?_⟩
        exact hgr_below hg2 (((Below.refl _ _).alloc (Nat.le_refl _) _).alloc (by simp) _)
      · have HM : msgS l = listsS l := by rw [msgS, if_neg hbig, if_neg hsh, if_neg hcnt]
        rw [HM]
        cases hd1 : manyS (quS l) (n16 l 4) 12 [] using Rs.elim with
        | bad c => exact (message_a g a l cap w h hfar hnn hbig hsh hcnt hd1).mono (fun e w' h => .inr ⟨c, listsS_q hd1, h.1, h.2⟩)
        | ok qs p1 =>
          cases hd2 : manyS (rrS l) (n16 l 6) p1 [] using Rs.elim with
          | bad c => exact (message_b g a l cap w h hfar hnn hbig hsh hcnt hd1 hd2).mono (fun e w' h => .inr ⟨c, listsS_a hd1 hd2, h.1, h.2⟩)
          | ok an p2 =>
            cases hd3 : manyS (rrS l) (n16 l 8) p2 [] using Rs.elim with
            | bad c => exact (message_c g a l cap w h hfar hnn hbig hsh hcnt hd1 hd2 hd3).mono (fun e w' h => .inr ⟨c, listsS_u hd1 hd2 hd3, h.1, h.2⟩)
            | ok au p3 =>
              cases hd4 : manyS (rrS l) (n16 l 10) p3 [] using Rs.elim with
              | bad c => exact (message_d g a l cap w h hfar hnn hbig hsh hcnt hd1 hd2 hd3 hd4).mono (fun e w' h => .inr ⟨c, listsS_e hd1 hd2 hd3 hd4, h.1, h.2⟩)
              | ok ex p4 =>
                have hL := listsS_ok hd1 hd2 hd3 hd4
                refine (message_e g a l cap w h hfar hnn hbig hsh hcnt hd1 hd2 hd3 hd4).mono ?_
                rintro e w' (⟨ht, he, hg⟩ | ⟨ht, q, x, y, z, he, hls, hg⟩)
                · rw [if_pos ht] at hL
                  exact .inr ⟨10, hL, he, hg⟩
                · rw [if_neg ht] at hL
                  exact .inl ⟨_, _, q, x, y, z, hL, he, hls, hg⟩
end Go.Proofs.Ytihhchebcojplaa
/- impl.codeOf and the deferred functions by their contracts. -/
namespace Go.Proofs.Ytihhchebcojplaa
open Go.RowKit
set_option linter.unusedVariables false

set_option maxRecDepth 100000 in
set_option maxHeartbeats 400000 in
theorem codeOf_nil (w : World) :
    Calls Try.prog 16 #[.nilIface] w fun e w' => e = .returned (.int .i64 0) ∧ w' = w := by
  go_enter Try.func16, Try.ntmps16
  go_wp2
  go_ret
  exact ⟨rfl, rfl⟩

set_option maxRecDepth 100000 in
set_option maxHeartbeats 400000 in
theorem codeOf_fault (c : Int) (w : World) :
    Calls Try.prog 16 #[.iface 80 (.agg #[.int .i64 c])] w fun e w' => e = .returned (.int .i64 c) ∧ Below w.heap.size w w' := by
  have hm : ∀ w : World, (Instr.typeAssert (.iface 80 (.agg #[.int .i64 c])) 20 80 true).run Try.prog w = .ok (.tuple #[.agg #[.int .i64 c], .bool true]) w := fun _ => by kernel_rfl
  go_enter Try.func16, Try.ntmps16
  go_wp2
  go_ret
  exact ⟨rfl, (Below.refl _ _).alloc (Nat.le_refl _) _⟩
end Go.Proofs.Ytihhchebcojplaa
