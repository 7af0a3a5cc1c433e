import Derived.Test.YtkiadnglbjamfaaJPfM
import Derived.Test.YtkiadnglbjamfaaSMapT
import Derived.Test.YtkiadnglbjamfaaJCRow
import Derived.Test.YtkiadnglbjamfaaJMath
import Derived.Test.YtkiadnglbjamfaaRows
import Derived.WalkSpells
import Derived.WalkLawsBesides
/- spec.l08Bit by its contract. -/
namespace Go.Proofs.Ytkiadnglbjamfaa
open Go.RowKit
set_option linter.unusedVariables false

theorem has_take_no {ty : List Int} {t x : Int} {k : Nat} (h : hasB (ty.take k) t = false) (hx : ty[k]? = some x) (hne : x ≠ t) : hasB (ty.take (k + 1)) t = false := by
  rw [List.take_add_one, hx]
  simp only [hasB, List.any_append, Option.toList_some, List.any_cons, List.any_nil, Bool.or_false, Bool.or_eq_false_iff, decide_eq_false_iff_not]
  exact ⟨h, fun e => hne e.symm⟩
theorem has_yes {ty : List Int} {t : Int} {k : Nat} (hx : ty[k]? = some t) : hasB ty t = true := by
  simp only [hasB, List.any_eq_true, decide_eq_true_eq]
  exact ⟨t, List.mem_of_getElem? hx, rfl⟩

set_option maxRecDepth 100000 in
set_option maxHeartbeats 800000 in
theorem l08Bit_any (x0 x4 x5 b : ByteArray) (x1 x2 x3 t : Int) (w : World) (hb : b.size ≤ 2000000) :
    Calls Try.prog 33 #[.agg #[.string x0, .int .i64 x1, .int .i64 x2, .int .i64 x3, .string x4, .string x5, .string b], .int .i64 t] w fun e w' => e = .returned (.bool (hasB (tysOf b) t)) ∧ Below w.heap.size w w' := by
  have hmt := fun W => specMapTypes_any b W hb
  have hB := (Below.refl w.heap.size w).alloc (Nat.le_refl _) (.cells #[.string x0, .int .i64 x1, .int .i64 x2, .int .i64 x3, .string x4, .string x5, .string b] 38)
  rw [tysOf]
  generalize mapL (mapS b) (typesOf (blocksS b)) = ty at *
  generalize mapC (mapS b) = c at *
  go_enter Try.func33, Try.ntmps33
  go_wp2_with fail
  refine (hmt _).mono ?_
  rintro e w1 ⟨v, rfl, hown, hb1⟩
  have hbel1 := Nm.below_two hB hb1
  obtain ⟨_, a, cap, rfl, hcap, hmx, hc⟩ := CRow.of_owns hown
  unfold maxLen at hmx
  clear hmt hB hb1 hown
  go_wp2
  go_loopw [7] (fun i wr => ∃ k : Nat, k ≤ ty.length ∧ i = .int .i64 k ∧ hasB (ty.take k) t = false ∧ Below w1.heap.size w1 wr) (fun i _ => ty.length - (intOf i).toNat)
  case atStart => exact ⟨0, Nat.zero_le _, rfl, rfl, Below.refl _ _⟩
  case round =>
    obtain ⟨k, hk, rfl, hno, hbel⟩ := hrel
    have HR := Nm.hide (And.intro hno (Nm.below_two hbel1 hbel))
    by_cases hlt : k < ty.length
    · obtain ⟨x, hx⟩ : ∃ x, ty[k]? = some x := ⟨_, List.getElem?_eq_getElem hlt⟩
      obtain ⟨bb, off, rfl, hcell⟩ := hc (by omega)
      have hcx := hcell k (.int .i64 x) (by simp [intCells, hx])
      have hcr : wr.cell? ⟨bb, off + k, none⟩ = some (.int .i64 x) := (hbel.cell (World.block_lt_of_cell? w1 _ hcx)).trans hcx
      have HX := Nm.hide hx
      have i1 : (0 : Int) ≤ (k : Int) := by omega
      have i2 : (k : Int) < (ty.length : Int) := by omega
      have HB := Nm.hide hbel
      clear hc hcell hcx hx hno hbel
      by_cases he : x = t
      · subst he
        go_wp2
        go_ret
        rw [has_yes HX.out]
        exact ⟨rfl, HR.out.2⟩
      · have he' : (x == t) = false := by rw [beq_eq_false_iff_ne]; exact he
        go_wp2
        go_roundw
        case rel => exact ⟨k + 1, by omega, by go_num, has_take_no HR.out.1 HX.out he, HB.out⟩
        case measure => simp [intOf]; omega
    · have hke : k = ty.length := by omega
      subst hke
      clear hc hno hbel
      go_wp2
      go_ret
      have := HR.out.1
      rw [List.take_length] at this
      rw [this]
      exact ⟨rfl, HR.out.2⟩
end Go.Proofs.Ytkiadnglbjamfaa
/- spec.l01Small by its contract. -/
namespace Go.Proofs.Ytkiadnglbjamfaa
open Go.RowKit

theorem Try.infoU8s : (Try.prog.info? 5).map (fun i => (i.zero, i.size, i.bytes)) = some (some (.int .u8 0), 1, 1) := by kernel_rfl

theorem conv_nil (c : Nat) (W : World) : (convert 74 9 (.slice (some ⟨c, 0, none⟩) 0 0)).run Try.prog W = .ok (.string ByteArray.empty) W := by
  exact run_convert_bytes_back W 74 9 5 ⟨c, 0, none⟩ 0 [] Try.underlying74 Try.underlying5 Try.underlying9 (by intro j hj; simp at hj)

set_option maxRecDepth 100000 in
set_option maxHeartbeats 800000 in
theorem l01Small_any (s : ByteArray) (w : World) (hs : s.size ≤ 1000000000) :
    Calls Try.prog 57 #[.string s] w fun e w' => e = .returned (.string (Nm.small s)) ∧ Below w.heap.size w w' := by
  obtain ⟨j0, hj, k0, k1, k2⟩ := info_parts Try.infoU8s
  by_cases hz : s.size = 0
  · have hc := fun W => conv_nil w.heap.size W
    have HE : Hid (Nm.small s = ByteArray.empty) := by
      show _ = _
      apply Nm.ba_ext
      rw [Nm.small_data, List.length_eq_zero_iff.1 (show s.data.toList.length = 0 by simpa using hz)]
      rfl
    have hz' : (s.size : Int) ≤ 0 := by omega
    go_enter Try.func57, Try.ntmps57
    go_wp2
    go_loop [3, 4] (fun v i => v = .slice (some ⟨w.heap.size, 0, none⟩) 0 0 ∧ i = .int .i64 0) (fun _ _ => 0)
    case atStart => exact ⟨rfl, rfl⟩
    case round =>
      obtain ⟨rfl, rfl⟩ := hrel
      go_wp2
      go_ret
      rw [HE.out]
      exact ⟨rfl, (Below.refl _ _).alloc (Nat.le_refl _) _⟩
  · go_enter Try.func57, Try.ntmps57
    go_wp2
    go_loopw [3, 4] (fun v i wr => ∃ k : Nat, k ≤ s.size ∧ i = .int .i64 k ∧ wr.ownsRow w.heap.size 5 1 v k (Nm.bys (Nm.smallL (s.data.toList.take k))) ∧ Below w.heap.size w wr)
      (fun _ i _ => s.size - (intOf i).toNat)
    case atStart => exact ⟨0, Nat.zero_le _, rfl, World.ownsRow_made w #[] 0 (Nat.le_refl _) (by decide) rfl, (Below.refl _ _).alloc (Nat.le_refl _) _⟩
    case round =>
      obtain ⟨k, hk, rfl, hown, hbel⟩ := hrel
      have hsz := hbel.size
      by_cases hlt : k < s.size
      · have HS := Nm.hide (Nm.smallL_step (Nm.get_data hlt))
        have hcl : (s[k].toNat : Int) < 256 := by have := s[k].toNat_lt; omega
        by_cases hup : 65 ≤ s[k].toNat ∧ s[k].toNat ≤ 90
        · have HL := Nm.hide (Nm.low_up hup)
          have d1 : decide ((65 : Int) ≤ (s[k].toNat : Int)) = true := by simp; omega
          have d2 : decide ((s[k].toNat : Int) ≤ 90) = true := by simp; omega
          have hb1 : (s[k].toNat : Int) ≤ 90 := by omega
          clear hup
          go_wp2_with (at_builtin; refine wpList_append_own _ rfl (.tmp 24) (.tmp 26) 74 rfl w.heap.size 5 j0 (.int .u8 0) 1 1 Try.underlying74 hj k0 k1 k2 rfl (by decide) _ _ _ rfl (hown.alloc _) ⟨wr.heap.size, 0, none⟩ 1 1 [.int .u8 ((s[k].toNat : Int) + 32)] rfl rfl (cell_one_new _ _ _) (Nm.one_cell _ rfl) (by unfold maxLen; omega) (by omega) (by simp; omega) ?_; intro vb wb hown2 hgrow2 hnl2; clear hnl2; rw [← HL.out] at hown2; have R2 := Nm.bys_step (x := [Nm.low s[k]]) (by simp; omega) (hown.alloc _) (hbel.alloc hsz _) hown2 hgrow2; clear hown2 hgrow2)
          go_roundw
          case rel => exact ⟨k + 1, by omega, by go_num, by rw [HS.out]; exact R2.1, R2.2⟩
          case measure => simp [intOf]; omega
        · have HL := Nm.hide (Nm.low_id hup)
          by_cases hlo : 65 ≤ s[k].toNat
          · have d1 : decide ((65 : Int) ≤ (s[k].toNat : Int)) = true := by simp; omega
            have d2 : decide ((s[k].toNat : Int) ≤ 90) = false := by simp; omega
            clear hup
            go_wp2_with (at_builtin; refine wpList_append_own _ rfl (.tmp 24) (.tmp 26) 74 rfl w.heap.size 5 j0 (.int .u8 0) 1 1 Try.underlying74 hj k0 k1 k2 rfl (by decide) _ _ _ rfl (hown.alloc _) ⟨wr.heap.size, 0, none⟩ 1 1 [.int .u8 (s[k].toNat : Int)] rfl rfl (cell_one_new _ _ _) (Nm.one_cell _ rfl) (by unfold maxLen; omega) (by omega) (by simp; omega) ?_; intro vb wb hown2 hgrow2 hnl2; clear hnl2; have R2 := Nm.bys_step (x := [s[k]]) (by simp; omega) (hown.alloc _) (hbel.alloc hsz _) hown2 hgrow2; clear hown2 hgrow2)
            go_roundw
            case rel => exact ⟨k + 1, by omega, by go_num, by rw [HS.out, HL.out]; exact R2.1, R2.2⟩
            case measure => simp [intOf]; omega
          · have d1 : decide ((65 : Int) ≤ (s[k].toNat : Int)) = false := by simp; omega
            clear hup
            go_wp2_with (at_builtin; refine wpList_append_own _ rfl (.tmp 24) (.tmp 26) 74 rfl w.heap.size 5 j0 (.int .u8 0) 1 1 Try.underlying74 hj k0 k1 k2 rfl (by decide) _ _ _ rfl (hown.alloc _) ⟨wr.heap.size, 0, none⟩ 1 1 [.int .u8 (s[k].toNat : Int)] rfl rfl (cell_one_new _ _ _) (Nm.one_cell _ rfl) (by unfold maxLen; omega) (by omega) (by simp; omega) ?_; intro vb wb hown2 hgrow2 hnl2; clear hnl2; have R2 := Nm.bys_step (x := [s[k]]) (by simp; omega) (hown.alloc _) (hbel.alloc hsz _) hown2 hgrow2; clear hown2 hgrow2)
            go_roundw
            case rel => exact ⟨k + 1, by omega, by go_num, by rw [HS.out, HL.out]; exact R2.1, R2.2⟩
            case measure => simp [intOf]; omega
      · have hkl : k = s.size := by omega
        subst hkl
        obtain ⟨g, cp, rfl, hcv⟩ := Nm.conv_own (P := Try.prog) Try.underlying74 Try.underlying5 Try.underlying9 hown (by omega)
        rw [List.take_of_length_le (by simp)] at hcv
        have he : (⟨(Nm.smallL s.data.toList).toArray⟩ : ByteArray) = Nm.small s := rfl
        rw [he] at hcv
        clear hown hlt he
        go_wp2
        go_ret
        exact ⟨rfl, hbel⟩
end Go.Proofs.Ytkiadnglbjamfaa
