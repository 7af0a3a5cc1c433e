import Derived.Test.YtechmpdfbpehiaaGreatDoorIWr4
import Derived.Laws.EntriesVeiled
/- justWords' writer by its contract. -/
namespace Go.Proofs.YtechmpdfbpehiaaGreatDoor
open Go.RowKit

/-- The forms lie there: two function values each, the second a writer of the kind. -/
def Forms (w : World) (gf : Nat) (ks : List Nat) : Prop := ∀ (i K : Nat), ks[i]? = some K → ∃ f x y v, w.cell? ⟨gf, i * 2, none⟩ = some (.func f x y) ∧ w.cell? ⟨gf, i * 2 + 1, none⟩ = some v ∧ WVal w K v

set_option maxRecDepth 100000 in
set_option maxHeartbeats 4000000 in
theorem justWrite_any (S4 S6 : ByteArray → ByteArray × Int) (ks : List Nat) (d : ByteArray) (w : World) (gf gc cap : Nat) (hgc : w.cell? ⟨gc, 0, none⟩ = some (.slice (some ⟨gf, 0, none⟩) ks.length cap)) (hf : Forms w gf ks) (hok : okAll ks d) (hd : d.size ≤ 1000000) (hs : Shows S4 S6 w) (hks : ks.length ≤ 100) :
    Calls Tryz.prog 105 #[.string d, .pointer (some ⟨gc, 0, none⟩)] w fun e w' => ∃ v, e = .returned v ∧ w'.ownsRow w.heap.size 9 1 v (writeAll S4 S6 ks d).length ((writeAll S4 S6 ks d).map Value.string) ∧ Below w.heap.size w w' := by
  obtain ⟨i0, hi, hz0, hz1, hz2⟩ := info_parts Tryz.infoStr
  obtain ⟨A, HA⟩ : ∃ A, Hid (A = writeAll S4 S6 ks d) := ⟨_, rfl⟩
  rw [← HA.out]
  have HOK := Nm.hide hok
  have HF := Nm.hide hf
  have HS := Nm.hide hs
  have hks' : (ks.length : Int) ≤ 100 := by omega
  have hst : Hid (A = [] ++ writeAll S4 S6 (ks.drop 0) d) := by show _ = _; rw [HA.out]; rfl
  have HO0 : Hid (okAll (ks.drop 0) d) := hok
  clear hok hf hs HA HOK
  go_enter Tryz.func105, Tryz.ntmps105
  go_wp2
  go_loopw [0, 4, 11] (fun dv v i wr => ∃ (k : Nat) (r : ByteArray) (l : List ByteArray), k ≤ ks.length ∧ i = .int .i64 k ∧ dv = .string r ∧ Hid (r.size ≤ 1000000 ∧ l.length = k) ∧ Hid (okAll (ks.drop k) r) ∧ Hid (A = l ++ writeAll S4 S6 (ks.drop k) r) ∧ wr.ownsRow w.heap.size 9 1 v l.length (l.map Value.string) ∧ Below w.heap.size w wr)
    (fun _ _ i _ => ks.length - (intOf i).toNat)
  case atStart => exact ⟨0, d, [], Nat.zero_le _, rfl, rfl, ⟨hd, rfl⟩, HO0, hst, World.ownsRow_nil _ _ _ _, Below.refl _ _⟩
  case round =>
    obtain ⟨k, r, l, hk, rfl, rfl, HN, HO, HW, hown, hbel⟩ := hrel
    clear hst HO0
    have hsz := hbel.size
    have hlk := HN.out.2
    have hr1 := HN.out.1
    by_cases hlt : k < ks.length
    · have hlt' : (k : Int) < (ks.length : Int) := by omega
      obtain ⟨K, hK⟩ : ∃ K, ks[k]? = some K := ⟨_, List.getElem?_eq_getElem hlt⟩
      have hdrop : ks.drop k = K :: ks.drop (k + 1) := by
        rw [List.drop_eq_getElem_cons hlt]
        congr 1
        exact (List.getElem?_eq_some_iff.1 hK).2
      obtain ⟨fr, fx, fy, v, c1, c2, hv⟩ := HF.out k K hK
      have ho := HO.out
      have hwv := HW.out
      rw [hdrop] at ho hwv
      obtain ⟨F, cp, rfl, hF, hcall⟩ := write_calls S4 S6 hv ho.1 hr1 HS.out
      have hn := wrN_le ho.1
      have HO2 : Hid (okAll (ks.drop (k + 1)) (r.extract (wrN K r) r.size)) := ho.2
      have HW2 : Hid (A = (l ++ [wrT S4 S6 K r]) ++ writeAll S4 S6 (ks.drop (k + 1)) (r.extract (wrN K r) r.size)) := by show _ = _; rw [hwv, writeAll]; simp
      have e1 : wr.cell? ⟨gf, k * 2, none⟩ = some (.func fr fx fy) := (hbel.cell (World.block_lt_of_cell? w _ c1)).trans c1
      have e2 : wr.cell? ⟨gf, k * 2 + 1, none⟩ = some (.func (.func F) #[] cp) := (hbel.cell (World.block_lt_of_cell? w _ c2)).trans c2
      simp only [wrV] at hcall
      generalize wrT S4 S6 K r = T at *
      generalize wrN K r = n at *
      have HN2 : Hid ((r.extract n r.size).size ≤ 1000000 ∧ (l ++ [T]).length = k + 1) := ⟨by simp; omega, by simp [hlk]⟩
      have hn' : (n : Int) ≤ (r.size : Int) := by omega
      clear ho hwv hv c1 c2 hdrop hK HO HW HN
      rcases hF with rfl | rfl | rfl | rfl | rfl | rfl
      · go_wp2_with (first | (go_at_call 91; refine (hcall _ (by first | exact hbel.alloc hsz _ | exact (hbel.alloc hsz _).setCell _ _ _)).mono ?_; rintro e w2 ⟨rfl, hb2⟩; have hown2 := own_below (hown.alloc _) hb2; have hbel2 := (hbel.alloc hsz _).trans (hb2.mono (by simp; omega)); have hsz2 := hbel2.size) | (at_builtin; refine wpList_append_own _ rfl (.tmp 22) (.tmp 24) 55 rfl w.heap.size 9 i0 (.string ByteArray.empty) 1 16 Tryz.underlying55 hi hz0 hz1 hz2 rfl (by decide) _ _ _ rfl (hown2.alloc _) ⟨w2.heap.size, 0, none⟩ 1 1 [.string T] rfl rfl (cell_new1 _ _ _) (Nm.one_cell _ rfl) (by unfold maxLen; omega) (by omega) (by simp; omega) ?_))
        intro v' w4 hown' hgrow _
        rw [← hlk] at hown'
        obtain ⟨o4, b4⟩ := own_step hsz2 hown2 hbel2 _ hown' hgrow
        clear hown' hgrow hown hbel
        go_wp2
        go_roundw
        case rel => exact ⟨k + 1, r.extract n r.size, l ++ [T], by omega, by go_num, rfl, HN2.out, HO2, HW2, o4, b4⟩
        case measure => simp [intOf]; omega
      · go_wp2_with (first | (go_at_call 95; refine (hcall _ (by first | exact hbel.alloc hsz _ | exact (hbel.alloc hsz _).setCell _ _ _)).mono ?_; rintro e w2 ⟨rfl, hb2⟩; have hown2 := own_below (hown.alloc _) hb2; have hbel2 := (hbel.alloc hsz _).trans (hb2.mono (by simp; omega)); have hsz2 := hbel2.size) | (at_builtin; refine wpList_append_own _ rfl (.tmp 22) (.tmp 24) 55 rfl w.heap.size 9 i0 (.string ByteArray.empty) 1 16 Tryz.underlying55 hi hz0 hz1 hz2 rfl (by decide) _ _ _ rfl (hown2.alloc _) ⟨w2.heap.size, 0, none⟩ 1 1 [.string T] rfl rfl (cell_new1 _ _ _) (Nm.one_cell _ rfl) (by unfold maxLen; omega) (by omega) (by simp; omega) ?_))
        intro v' w4 hown' hgrow _
        rw [← hlk] at hown'
        obtain ⟨o4, b4⟩ := own_step hsz2 hown2 hbel2 _ hown' hgrow
        clear hown' hgrow hown hbel
        go_wp2
        go_roundw
        case rel => exact ⟨k + 1, r.extract n r.size, l ++ [T], by omega, by go_num, rfl, HN2.out, HO2, HW2, o4, b4⟩
        case measure => simp [intOf]; omega
      · go_wp2_with (first | (go_at_call 117; refine (hcall _ (by first | exact hbel.alloc hsz _ | exact (hbel.alloc hsz _).setCell _ _ _)).mono ?_; rintro e w2 ⟨rfl, hb2⟩; have hown2 := own_below (hown.alloc _) hb2; have hbel2 := (hbel.alloc hsz _).trans (hb2.mono (by simp; omega)); have hsz2 := hbel2.size) | (at_builtin; refine wpList_append_own _ rfl (.tmp 22) (.tmp 24) 55 rfl w.heap.size 9 i0 (.string ByteArray.empty) 1 16 Tryz.underlying55 hi hz0 hz1 hz2 rfl (by decide) _ _ _ rfl (hown2.alloc _) ⟨w2.heap.size, 0, none⟩ 1 1 [.string T] rfl rfl (cell_new1 _ _ _) (Nm.one_cell _ rfl) (by unfold maxLen; omega) (by omega) (by simp; omega) ?_))
        intro v' w4 hown' hgrow _
        rw [← hlk] at hown'
        obtain ⟨o4, b4⟩ := own_step hsz2 hown2 hbel2 _ hown' hgrow
        clear hown' hgrow hown hbel
        go_wp2
        go_roundw
        case rel => exact ⟨k + 1, r.extract n r.size, l ++ [T], by omega, by go_num, rfl, HN2.out, HO2, HW2, o4, b4⟩
        case measure => simp [intOf]; omega
      · go_wp2_with (first | (go_at_call 119; refine (hcall _ (by first | exact hbel.alloc hsz _ | exact (hbel.alloc hsz _).setCell _ _ _)).mono ?_; rintro e w2 ⟨rfl, hb2⟩; have hown2 := own_below (hown.alloc _) hb2; have hbel2 := (hbel.alloc hsz _).trans (hb2.mono (by simp; omega)); have hsz2 := hbel2.size) | (at_builtin; refine wpList_append_own _ rfl (.tmp 22) (.tmp 24) 55 rfl w.heap.size 9 i0 (.string ByteArray.empty) 1 16 Tryz.underlying55 hi hz0 hz1 hz2 rfl (by decide) _ _ _ rfl (hown2.alloc _) ⟨w2.heap.size, 0, none⟩ 1 1 [.string T] rfl rfl (cell_new1 _ _ _) (Nm.one_cell _ rfl) (by unfold maxLen; omega) (by omega) (by simp; omega) ?_))
        intro v' w4 hown' hgrow _
        rw [← hlk] at hown'
        obtain ⟨o4, b4⟩ := own_step hsz2 hown2 hbel2 _ hown' hgrow
        clear hown' hgrow hown hbel
        go_wp2
        go_roundw
        case rel => exact ⟨k + 1, r.extract n r.size, l ++ [T], by omega, by go_num, rfl, HN2.out, HO2, HW2, o4, b4⟩
        case measure => simp [intOf]; omega
      · go_wp2_with (first | (go_at_call 107; refine (hcall _ (by first | exact hbel.alloc hsz _ | exact (hbel.alloc hsz _).setCell _ _ _)).mono ?_; rintro e w2 ⟨rfl, hb2⟩; have hown2 := own_below (hown.alloc _) hb2; have hbel2 := (hbel.alloc hsz _).trans (hb2.mono (by simp; omega)); have hsz2 := hbel2.size) | (at_builtin; refine wpList_append_own _ rfl (.tmp 22) (.tmp 24) 55 rfl w.heap.size 9 i0 (.string ByteArray.empty) 1 16 Tryz.underlying55 hi hz0 hz1 hz2 rfl (by decide) _ _ _ rfl (hown2.alloc _) ⟨w2.heap.size, 0, none⟩ 1 1 [.string T] rfl rfl (cell_new1 _ _ _) (Nm.one_cell _ rfl) (by unfold maxLen; omega) (by omega) (by simp; omega) ?_))
        intro v' w4 hown' hgrow _
        rw [← hlk] at hown'
        obtain ⟨o4, b4⟩ := own_step hsz2 hown2 hbel2 _ hown' hgrow
        clear hown' hgrow hown hbel
        go_wp2
        go_roundw
        case rel => exact ⟨k + 1, r.extract n r.size, l ++ [T], by omega, by go_num, rfl, HN2.out, HO2, HW2, o4, b4⟩
        case measure => simp [intOf]; omega
      · go_wp2_with (first | (go_at_call 99; refine (hcall _ (by first | exact hbel.alloc hsz _ | exact (hbel.alloc hsz _).setCell _ _ _)).mono ?_; rintro e w2 ⟨rfl, hb2⟩; have hown2 := own_below (hown.alloc _) hb2; have hbel2 := (hbel.alloc hsz _).trans (hb2.mono (by simp; omega)); have hsz2 := hbel2.size) | (at_builtin; refine wpList_append_own _ rfl (.tmp 22) (.tmp 24) 55 rfl w.heap.size 9 i0 (.string ByteArray.empty) 1 16 Tryz.underlying55 hi hz0 hz1 hz2 rfl (by decide) _ _ _ rfl (hown2.alloc _) ⟨w2.heap.size, 0, none⟩ 1 1 [.string T] rfl rfl (cell_new1 _ _ _) (Nm.one_cell _ rfl) (by unfold maxLen; omega) (by omega) (by simp; omega) ?_))
        intro v' w4 hown' hgrow _
        rw [← hlk] at hown'
        obtain ⟨o4, b4⟩ := own_step hsz2 hown2 hbel2 _ hown' hgrow
        clear hown' hgrow hown hbel
        go_wp2
        go_roundw
        case rel => exact ⟨k + 1, r.extract n r.size, l ++ [T], by omega, by go_num, rfl, HN2.out, HO2, HW2, o4, b4⟩
        case measure => simp [intOf]; omega
    · have hlt' : (ks.length : Int) ≤ (k : Int) := by omega
      have hA := HW.out
      rw [List.drop_eq_nil_of_le (by omega), writeAll, List.append_nil] at hA
      clear HO HW HN
      go_wp2
      go_ret
      rw [hA]
      exact ⟨_, rfl, hown, hbel⟩
end Go.Proofs.YtechmpdfbpehiaaGreatDoor
