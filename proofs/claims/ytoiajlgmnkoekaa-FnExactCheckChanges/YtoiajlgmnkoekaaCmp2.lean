import Derived.Test.YtoiajlgmnkoekaaCmp
/- (labelList).compare by its contract. -/
namespace Go.Proofs.Ytoiajlgmnkoekaa
open Go.RowKit

theorem cell_drewN (w : World) (m : Nat) (a : Addr) : (w.drewN m).cell? a = w.cell? a := by simp

set_option maxRecDepth 100000 in
set_option maxHeartbeats 800000 in
theorem compare_any (v u : Value) (xs ys : List ByteArray) (w : World) (h : Nm.SRow w v xs) (h' : Nm.SRow w u ys) (hxs : ∀ x ∈ xs, x.size ≤ 1000000000) (hlx : xs.length ≤ 1000000000) (hly : ys.length ≤ 1000000000) :
    Calls Try.prog 33 #[v, u] w fun e w' => e = .returned (.int .i64 (Nm.cmpLs xs ys)) ∧ ∃ m, w' = w.drewN m := by
  obtain ⟨a, cap, rfl, hcap, hmx, hnl, hc⟩ := h
  obtain ⟨a', cap', rfl, hcap', hmx', hnl', hc'⟩ := h'
  clear hnl hnl'
  go_enter Try.func33, Try.ntmps33
  go_wp2
  go_loopw [5] (fun i wr => ∃ k : Nat, k ≤ xs.length ∧ k ≤ ys.length ∧ i = .int .i64 ((k : Int) + 1) ∧ Hid (Nm.cmpLs xs ys = Nm.cmpRev (xs.reverse.drop k) (ys.reverse.drop k)) ∧ ∃ m, Hid (wr = w.drewN m))
    (fun i _ => xs.length + 1 - (intOf i).toNat)
  case atStart => exact ⟨0, Nat.zero_le _, Nat.zero_le _, rfl, by show _ = _; simp [Nm.cmpLs], 0, rfl⟩
  case round =>
    obtain ⟨k, hka, hkb, rfl, HT, m, HW⟩ := hrel
    by_cases h1 : k < xs.length ∧ k < ys.length
    · obtain ⟨h1, h2⟩ := h1
      have i1 : (k : Int) + 1 ≤ (xs.length : Int) := by omega
      have i2 : (k : Int) + 1 ≤ (ys.length : Int) := by omega
      obtain ⟨x, hx⟩ : ∃ x, xs[xs.length - (k + 1)]? = some x := ⟨_, List.getElem?_eq_getElem (by omega)⟩
      obtain ⟨y, hy⟩ : ∃ y, ys[ys.length - (k + 1)]? = some y := ⟨_, List.getElem?_eq_getElem (by omega)⟩
      obtain ⟨b, off, rfl, hcell⟩ := hc (by intro h; rw [h] at h1; simp at h1)
      obtain ⟨b', off', rfl, hcell'⟩ := hc' (by intro h; rw [h] at h2; simp at h2)
      have hcx : wr.cell? ⟨b, off + (xs.length - (k + 1)), none⟩ = some (.string x) := by rw [HW.out, cell_drewN]; exact hcell _ _ hx
      have hcy : wr.cell? ⟨b', off' + (ys.length - (k + 1)), none⟩ = some (.string y) := by rw [HW.out, cell_drewN]; exact hcell' _ _ hy
      have hxz := hxs x (List.mem_of_getElem? hx)
      have q1 : (0 : Int) ≤ (xs.length : Int) - ((k : Int) + 1) := by omega
      have q2 : (xs.length : Int) - ((k : Int) + 1) < (xs.length : Int) := by omega
      have q3 : ((xs.length : Int) - ((k : Int) + 1)).toNat = xs.length - (k + 1) := by omega
      have q4 : (0 : Int) ≤ (ys.length : Int) - ((k : Int) + 1) := by omega
      have q5 : (ys.length : Int) - ((k : Int) + 1) < (ys.length : Int) := by omega
      have q6 : ((ys.length : Int) - ((k : Int) + 1)).toNat = ys.length - (k + 1) := by omega
      have hrx := Nm.rev_get h1 hx
      have hry := Nm.rev_get h2 hy
      by_cases he : Nm.ordS x y = 0
      · have HN : Hid (Nm.cmpLs xs ys = Nm.cmpRev (xs.reverse.drop (k + 1)) (ys.reverse.drop (k + 1))) := HT.out.trans (Nm.cmp_go hrx hry he)
        have hcf := fun W => compareFolded_any x y W hxz
        rw [he] at hcf
        have hz : ((0 : Int) != 0) = false := rfl
        clear he hx hy hrx hry hcell hcell' hc hc' hxs
        go_wp2
        go_quiet ((go_at_call 45; exact Calls.quiet_of (hcf _)))
        go_wp2
        go_roundw
        case rel => exact ⟨k + 1, by omega, by omega, by go_num, HN, _, by show _ = _; rw [HW.out, World.drewN_drewN]⟩
        case measure => simp [intOf]; omega
      · have HO : Hid (Nm.cmpLs xs ys = Nm.ordS x y) := HT.out.trans (Nm.cmp_stop hrx hry he)
        have hcf := fun W => compareFolded_any x y W hxz
        have hz : (Nm.ordS x y != 0) = true := by rw [bne_iff_ne]; exact he
        generalize Nm.ordS x y = o at *
        clear he hx hy hrx hry hcell hcell' hc hc' hxs
        go_wp2
        go_quiet ((go_at_call 45; exact Calls.quiet_of (hcf _)))
        go_wp2
        go_ret
        rw [HO.out]
        exact ⟨rfl, _, by rw [HW.out, World.drewN_drewN]⟩
    · have HO : Hid (Nm.cmpLs xs ys = Nm.cmpI xs.length ys.length) := by
        show _ = _
        rw [HT.out, Nm.cmp_end (by simpa using hka) (by simpa using hkb) (by simp; omega)]
        simp
      clear hc hc' hxs
      by_cases h2 : k < xs.length
      · have g1 : (k : Int) + 1 ≤ (xs.length : Int) := by omega
        have g2 : (ys.length : Int) < (k : Int) + 1 := by omega
        clear h1
        go_wp2_with fail
        refine (cmpInt_any _ _ _).mono ?_
        rintro e w3 ⟨rfl, rfl⟩
        go_wp2
        go_ret
        rw [HO.out]
        exact ⟨rfl, _, HW.out⟩
      · have g1 : (xs.length : Int) < (k : Int) + 1 := by omega
        clear h1
        go_wp2_with fail
        refine (cmpInt_any _ _ _).mono ?_
        rintro e w3 ⟨rfl, rfl⟩
        go_wp2
        go_ret
        rw [HO.out]
        exact ⟨rfl, _, HW.out⟩
end Go.Proofs.Ytoiajlgmnkoekaa
