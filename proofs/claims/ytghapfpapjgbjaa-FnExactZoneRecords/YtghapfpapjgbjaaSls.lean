/- laws.szStringS and laws.toStringS by their contracts. -/
import Derived.Test.YtghapfpapjgbjaaOwnS
import Derived.Test.YtghapfpapjgbjaaCRow
import Derived.Test.YtghapfpapjgbjaaLab
namespace Go.Proofs.Ytghapfpapjgbjaa
open Go.RowKit

def ssum : List ByteArray → Nat
  | [] => 0
  | l :: r => l.size + ssum r

theorem ssum_append (a b : List ByteArray) : ssum (a ++ b) = ssum a + ssum b := by
  induction a with
  | nil => simp [ssum]
  | cons x a ih => simp only [List.cons_append, ssum, ih]; omega

theorem ssum_step {ls : List ByteArray} {k : Nat} {x : ByteArray} (h : ls[k]? = some x) : ssum (ls.take (k + 1)) = ssum (ls.take k) + x.size := by
  rw [Nm.take_step h, ssum_append]; simp [ssum]

theorem ssum_take_le (ls : List ByteArray) (k : Nat) : ssum (ls.take k) ≤ ssum ls := by
  have e := ssum_append (ls.take k) (ls.drop k)
  rw [List.take_append_drop] at e; omega

theorem wsum_eq (ls : List ByteArray) : Nm.wsum ls = ls.length + ssum ls := by
  induction ls with
  | nil => simp [Nm.wsum, ssum]
  | cons x a ih => simp only [Nm.wsum, ssum, List.length_cons, ih]; omega

def szS (ls : List ByteArray) (L : Int) : Int := if (ls.length : Int) + (ssum ls : Int) ≤ L then L - ls.length - ssum ls else -1

theorem ret_i64 {a b : Int} (h : a = b) : Ending.returned (.int .i64 a) = .returned (.int .i64 b) := by rw [h]

set_option maxRecDepth 100000 in
set_option maxHeartbeats 800000 in
theorem szStringS_any (v : Value) (ls : List ByteArray) (L : Int) (w : World) (h : Nm.SRow w v ls) (hx : ∀ x ∈ ls, x.size ≤ maxLen) (h0 : 0 ≤ L) (h1 : L ≤ 1048576) :
    Calls Try.prog 29 #[v, .int .i64 L] w fun e w' => e = .returned (.int .i64 (szS ls L)) ∧ w' = w := by
  obtain ⟨a, cap, rfl, hcap, hmx, hnl, hc⟩ := h
  unfold maxLen at hmx hx
  clear hnl
  by_cases hm : L < ls.length
  · have HS : Hid (szS ls L = -1) := if_neg (by omega)
    have hl : (ls.length : Int) ≤ 9223372036854775807 := by omega
    have hm' : L - (ls.length : Int) < 0 := by omega
    clear hx hc
    go_enter Try.func29, Try.ntmps29
    go_wp2
    go_ret
    rw [HS.out]
    exact ⟨rfl, rfl⟩
  · have hl : (ls.length : Int) ≤ 1048576 := by omega
    have hm' : (0 : Int) ≤ L - (ls.length : Int) := by omega
    go_enter Try.func29, Try.ntmps29
    go_wp2
    go_loop [1, 5] (fun t i => ∃ k : Nat, k ≤ ls.length ∧ i = .int .i64 k ∧ t = .int .i64 (L - ls.length - ssum (ls.take k)) ∧ (ls.length : Int) + ssum (ls.take k) ≤ L) (fun _ i => ls.length - (intOf i).toNat)
    case atStart => exact ⟨0, Nat.zero_le _, rfl, by simp [ssum], by simp [ssum]; omega⟩
    case round =>
      obtain ⟨k, hk, rfl, rfl, hle⟩ := hrel
      by_cases hlt : k < ls.length
      · obtain ⟨x, hxk⟩ : ∃ x, ls[k]? = some x := ⟨_, List.getElem?_eq_getElem hlt⟩
        obtain ⟨b, off, rfl, hcell⟩ := hc (by intro h; rw [h] at hlt; simp at hlt)
        have hcx := hcell k x hxk
        have hxs := hx x (List.mem_of_getElem? hxk)
        have HS : Hid (ssum (ls.take (k + 1)) = ssum (ls.take k) + x.size) := ssum_step hxk
        have hs1 : Hid (ssum (ls.take (k + 1)) ≤ ssum ls) := ssum_take_le ls (k + 1)
        clear hxk hcell hc hx
        by_cases hb : L - ls.length - ssum (ls.take k) - x.size < 0
        · have HZ : Hid (szS ls L = -1) := if_neg (by have := HS.out; have := hs1.out; omega)
          go_wp2
          go_ret
          rw [HZ.out]
          exact ⟨rfl, rfl⟩
        · have hb' : 0 ≤ L - ls.length - ssum (ls.take k) - x.size := by omega
          clear hb
          go_wp2
          go_round
          case rel => exact ⟨k + 1, by omega, by go_num, by rw [HS.out]; go_num, by rw [HS.out]; omega⟩
          case measure => simp [intOf]; omega
      · have hkl : k = ls.length := by omega
        subst hkl
        rw [List.take_length] at *
        have HZ : Hid (szS ls L = L - ls.length - ssum ls) := if_pos (by omega)
        clear hx hc hlt
        go_wp2
        go_ret
        rw [HZ.out]
        exact ⟨rfl, rfl⟩

theorem made_str (n : Nat) : (madeCells (Value.string ByteArray.empty).cells (n * 1)).toList = List.replicate n (.string ByteArray.empty) := by
  rw [Nat.mul_one]; exact toList_madeCells_one _ n

theorem set_step {ls : List ByteArray} {k : Nat} {x : ByteArray} (h : ls[k]? = some x) (z : Value) :
    ((ls.take k).map Value.string ++ List.replicate (ls.length - k) z).set k (.string x) = (ls.take (k + 1)).map Value.string ++ List.replicate (ls.length - (k + 1)) z := by
  have hk : k < ls.length := (List.getElem?_eq_some_iff.1 h).1
  have hl : ((ls.take k).map Value.string).length = k := by simp; omega
  obtain ⟨m, hm⟩ : ∃ m, ls.length - k = m + 1 := ⟨ls.length - k - 1, by omega⟩
  have hm' : ls.length - (k + 1) = m := by omega
  rw [hm, hm', Nm.take_step h, List.set_append_right _ _ (by omega), hl]
  simp [List.replicate_succ]

set_option maxRecDepth 100000 in
set_option maxHeartbeats 800000 in
theorem toStringS_any (v : Value) (ls : List ByteArray) (w : World) (h : Nm.SRow w v ls) (hlen : ls.length ≤ 1048576) :
    Calls Try.prog 30 #[v] w fun e w' => ∃ u, e = .returned u ∧ w'.ownsRow w.heap.size 9 1 u ls.length (ls.map Value.string) ∧ Below w.heap.size w w' := by
  obtain ⟨i0, hi, hz0, hz1, hz2⟩ := info_parts Try.infoStr
  obtain ⟨a, cap, rfl, hcap, hmx, hnl, hc⟩ := h
  unfold maxLen at hmx
  clear hnl
  go_enter Try.func30, Try.ntmps30
  go_wp2_with (at_make; refine wpList_make_full _ rfl (.tmp 6) (.tmp 6) 41 rfl w.heap.size 9 i0 (.string ByteArray.empty) 1 Try.underlying41 hi hz0 hz1 .i64 .i64 _ _ ls.length rfl rfl rfl rfl (by rw [hz2]; omega) (by unfold maxLen; omega) (Nat.le_refl _) ?_; intro w2 hown0 hgrow0)
  rw [made_str] at hown0
  go_loopw [4] (fun i wr => ∃ k : Nat, k ≤ ls.length ∧ i = .int .i64 k ∧ wr.ownsRow w.heap.size 9 1 (.slice (some ⟨w.heap.size, 0, none⟩) ls.length ls.length) ls.length ((ls.take k).map Value.string ++ List.replicate (ls.length - k) (.string ByteArray.empty)) ∧ Below w.heap.size w wr)
    (fun i _ => ls.length - (intOf i).toNat)
  case atStart => exact ⟨0, Nat.zero_le _, rfl, by simpa using hown0, (Below.refl _ w).grown hgrow0 (Nat.le_refl _) (fun k hk => by cases hk)⟩
  case round =>
    obtain ⟨k, hk, rfl, hown, hbel⟩ := hrel
    clear hown0 hgrow0
    by_cases hlt : k < ls.length
    · obtain ⟨x, hx⟩ : ∃ x, ls[k]? = some x := ⟨_, List.getElem?_eq_getElem hlt⟩
      obtain ⟨b, off, rfl, hcell⟩ := hc (by intro h; rw [h] at hlt; simp at hlt)
      have hcx : wr.cell? ⟨b, off + k, none⟩ = some (.string x) := (hbel.cell (World.block_lt_of_cell? w _ (hcell k x hx))).trans (hcell k x hx)
      have hst := hown.stored k (.string x)
      rw [set_step hx] at hst
      have hfz := hown.frozenAt k
      obtain ⟨y, hy⟩ : ∃ y, wr.cell? ⟨w.heap.size, k, none⟩ = some y := by
        rw [hown.cellAt k (by omega)]
        exact ⟨_, List.getElem?_eq_getElem (by simp; omega)⟩
      have HR := Nm.hide hst
      have HB : Hid (Below w.heap.size w (wr.setCell ⟨w.heap.size, k, none⟩ (.string x))) := hbel.setCell (Nat.le_refl _) _
      clear hx hcell hc hst hown
      go_wp2
      go_roundw
      case rel => exact ⟨k + 1, by omega, by go_num, HR.out.1, HB.out⟩
      case measure => simp [intOf]; omega
    · have hkl : k = ls.length := by omega
      subst hkl
      clear hc hlt
      go_wp2
      go_ret
      exact ⟨_, rfl, by simpa using hown, hbel⟩
end Go.Proofs.Ytghapfpapjgbjaa
