import Derived.Test.YtmaopfagkffccaaGreatJCrI
import Derived.Test.YtmaopfagkffccaaGreatJMath
/- slices.Clone of questions by its contract. -/
namespace Go.Proofs.YtmaopfagkffccaaGreat
open Go.RowKit
set_option linter.unusedVariables false

theorem Tryz.infoQuc : (Tryz.prog.info? 63).map (fun i => (i.zero, i.size, i.bytes)) = some (some (.agg #[.string ByteArray.empty, .int .i64 0, .int .i64 0]), 3, 32) := by kernel_rfl

set_option maxRecDepth 100000 in
set_option maxHeartbeats 1600000 in
theorem cloneQu_any (v : Value) (xs : List Qr) (w : World) (h : CRow w v xs.length 3 (qvVs xs)) (hl : xs.length ≤ 1048576) :
    Calls Tryz.prog 44 #[v] w fun e w' => ∃ u, e = .returned u ∧ w'.ownsRow w.heap.size 63 3 u xs.length (qvVs xs) ∧ Below w.heap.size w w' := by
  obtain ⟨i0, hi, hz0, hz1, hz2⟩ := info_parts Tryz.infoQuc
  obtain ⟨hln, a, cap, rfl, hcap, hmx, hc⟩ := h
  cases a with
  | none =>
    have hx : xs.length = 0 := by
      rcases Nat.eq_zero_or_pos xs.length with h | h
      · exact h
      · obtain ⟨b, off, e, _⟩ := hc h
        cases e
    obtain rfl : xs = [] := List.length_eq_zero_iff.1 hx
    have hnil : ∀ W, (binOp .eql 30 (.slice none 0 cap) (.slice none 0 0)).run Tryz.prog W = .ok (.bool true) W := fun W => by kernel_rfl
    simp only [List.length_nil] at *
    clear hc
    go_enter Tryz.func44, Tryz.ntmps44
    go_wp2
    go_ret
    exact ⟨_, rfl, World.ownsRow_nil _ _ _ _, Below.refl _ _⟩
  | some A =>
    have hB := (Below.refl w.heap.size w).alloc (Nat.le_refl _) (.cells #[] 63)
    have hown := World.ownsRow_made (base := w.heap.size) (size := 3) (e := 63) w #[] 0 (by simp) (by decide) rfl
    have hnil : ∀ W, (binOp .eql 30 (.slice (some A) xs.length cap) (.slice none 0 0)).run Tryz.prog W = .ok (.bool false) W := fun W => by kernel_rfl
    rcases Nat.eq_zero_or_pos xs.length with hx | hp
    · obtain rfl : xs = [] := List.length_eq_zero_iff.1 hx
      simp only [List.length_nil] at *
      clear hc
      go_enter Tryz.func44, Tryz.ntmps44
      go_wp2_with (at_builtin; refine wpList_append_own _ rfl (.tmp 5) (.tmp 6) 30 rfl w.heap.size 63 i0 _ 3 32 Tryz.underlying30 hi hz0 hz1 hz2 rfl (by decide) _ _ _ rfl hown A 0 cap [] rfl rfl (fun j u hj => by simp at hj) (fun u hu => by simp at hu) (by unfold maxLen; omega) (by omega) hB.size ?_; intro va wa hown9 hgrow9 hnl9)
      go_ret
      exact ⟨_, rfl, hown9, hB.grown hgrow9 hB.size (fun k hk => (hown.lt k hk).1)⟩
    · obtain ⟨b, off, eA, hcell⟩ := hc hp
      cases eA
      have hcell' : ∀ (j : Nat) (u : Value), (qvVs xs)[j]? = some u → (w.alloc (.cells #[] 63)).cell? ((⟨b, off, none⟩ : Addr).add j) = some u := by
        intro j u hj
        rw [Nm.addr_add]
        have h1 := hcell j u hj
        exact (hB.cell (World.block_lt_of_cell? w _ h1)).trans h1
      have hone : ∀ u ∈ qvVs xs, u.oneCell' = true := by
        intro u hu
        simp only [qvVs, List.mem_flatMap] at hu
        obtain ⟨r, _, hr⟩ := hu
        simp [qvV] at hr
        rcases hr with rfl | rfl | rfl <;> rfl
      clear hc hcell
      go_enter Tryz.func44, Tryz.ntmps44
      go_wp2_with (at_builtin; refine wpList_append_own _ rfl (.tmp 5) (.tmp 6) 30 rfl w.heap.size 63 i0 _ 3 32 Tryz.underlying30 hi hz0 hz1 hz2 rfl (by decide) _ _ _ rfl hown ⟨b, off, none⟩ xs.length cap (qvVs xs) rfl (by rw [qvVs_len]) hcell' hone (by unfold maxLen; omega) (by omega) hB.size ?_; intro va wa hown9 hgrow9 hnl9)
      go_ret
      rw [Nat.zero_add] at hown9
      exact ⟨_, rfl, hown9, hB.grown hgrow9 hB.size (fun k hk => (hown.lt k hk).1)⟩
end Go.Proofs.YtmaopfagkffccaaGreat
