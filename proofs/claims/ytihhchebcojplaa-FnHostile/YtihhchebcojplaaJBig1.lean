import Derived.Test.YtihhchebcojplaaJWtG
import Derived.Test.YtihhchebcojplaaJMath
import Derived.Test.YtihhchebcojplaaJNumM
import Derived.Test.YtihhchebcojplaaRows
import Derived.WalkSpells
import Derived.WalkLawsBesides
import Derived.Test.YtihhchebcojplaaJDcM
import Derived.Test.YtihhchebcojplaaJByS
import Derived.Test.YtihhchebcojplaaJDnM
/- impl.readBig by its contract. -/
namespace Go.Proofs.Ytihhchebcojplaa
open Go.RowKit

theorem or4 (a b c d : Nat) (ha : a < 256) (hb : b < 256) (hc : c < 256) (hd : d < 256) :
    bits .or .i64 (bits .or .i64 (bits .or .i64 ((a : Int) * 16777216) ((b : Int) * 65536)) ((c : Int) * 256)) (d : Int) = ((((a * 256 + b) * 256 + c) * 256 + d : Nat) : Int) := by
  have e1 : (a : Int) * 16777216 = ((2 ^ 24 * a : Nat) : Int) := by omega
  have e2 : (b : Int) * 65536 = ((b * 65536 : Nat) : Int) := by omega
  have e3 : (c : Int) * 256 = ((c * 256 : Nat) : Int) := by omega
  rw [e1, e2, e3, or_join 24 a _ (by omega) (by omega)]
  have e4 : 2 ^ 24 * a + b * 65536 = 2 ^ 16 * (a * 256 + b) := by omega
  rw [e4, or_join 16 _ _ (by omega) (by omega)]
  have e5 : 2 ^ 16 * (a * 256 + b) + c * 256 = 2 ^ 8 * ((a * 256 + b) * 256 + c) := by omega
  rw [e5, or_join 8 _ _ (by omega) (by omega)]
  congr 1
  omega

def num4 (a b c d : UInt8) : Nat := ((a.toNat * 256 + b.toNat) * 256 + c.toNat) * 256 + d.toNat

theorem big_step (m : Nat) (c : UInt8) (h : m < 281474976710656) : bits .or .i64 ((m : Int) * 256) (c.toNat : Int) = ((m * 256 + c.toNat : Nat) : Int) := by
  have hc := c.toNat_lt
  have e : (m : Int) * 256 = ((2 ^ 8 * m : Nat) : Int) := by omega
  rw [e, or_join 8 m _ (by omega) (by omega)]
  congr 1
  omega

set_option maxRecDepth 100000 in
set_option maxHeartbeats 400000 in
theorem readBig_any (s : ByteArray) (w : World) (hs : s.size ≤ 6) :
    Calls Try.prog 76 #[.string s] w fun e w' => e = .returned (.int .i64 (numL s.data.toList)) ∧ w' = w := by
  go_enter Try.func76, Try.ntmps76
  go_wp2
  go_loop [3, 7] (fun u v => ∃ k : Nat, k ≤ s.size ∧ v = .int .i64 k ∧ u = .int .i64 (numL (s.data.toList.take k))) (fun _ v => s.size - (intOf v).toNat)
  case atStart => exact ⟨0, Nat.zero_le _, rfl, rfl⟩
  case round =>
    obtain ⟨k, hk, rfl, rfl⟩ := hrel
    by_cases hlt : k < s.size
    · have hd := Nm.get_data hlt
      have e1 : s.data.toList.take (k + 1) = s.data.toList.take k ++ [s[k]] := Nm.take_step hd
      have hb := numL_small (l := s.data.toList.take k) (by simp; omega)
      have e2 := numL_snoc (s.data.toList.take k) s[k]
      rw [← e1] at e2
      have hc : (s[k].toNat : Int) < 256 := by have := s[k].toNat_lt; omega
      have hlt' : (k : Int) < (s.size : Int) := by omega
      have HB := Nm.hide (big_step (numL (s.data.toList.take k)) s[k] hb)
      generalize numL (s.data.toList.take k) = m at *
      clear e1 hd
      go_wp2
      go_round
      case rel => exact ⟨k + 1, by omega, by go_num, by rw [e2, ← HB.out]⟩
      case measure => simp [intOf]; omega
    · have hke : k = s.size := by omega
      subst hke
      have et : s.data.toList.take s.size = s.data.toList := List.take_of_length_le (by simp)
      rw [et]
      go_wp2
      go_ret
      exact ⟨rfl, rfl⟩
end Go.Proofs.Ytihhchebcojplaa
/- (*reader).number by its contract. -/
namespace Go.Proofs.Ytihhchebcojplaa
open Go.RowKit
set_option linter.unusedVariables false

theorem by_drop {l : List UInt8} {p size : Nat} : Nm.bys ((l.drop p).take size) = ((Nm.bys l).drop p).take size := by
  simp [Nm.bys]

/-- What take tells leads to the bytes from the place on. -/
theorem cut_row {w : World} {a : Option Addr} {l : List UInt8} {cap p size : Nat} (h : BySl w (.slice a l.length cap) l) (hp : p + size ≤ l.length) : CRow w (cutV a cap p size) size 1 (Nm.bys ((l.drop p).take size)) := by
  obtain ⟨_, a', cap', e, h1, h2, h3⟩ := h
  simp only [Value.slice.injEq] at e
  obtain ⟨rfl, _, rfl⟩ := e
  have hlen : (Nm.bys ((l.drop p).take size)).length = size * 1 := by rw [Nm.bys_length]; simp; omega
  refine ⟨hlen, ?_⟩
  by_cases hcp : cap = p
  · refine ⟨a, 0, by rw [cutV, if_pos hcp], by omega, by omega, fun h => by omega⟩
  · refine ⟨a.map (fun x => x.add p), cap - p, by rw [cutV, if_neg hcp], by omega, by omega, fun h => ?_⟩
    obtain ⟨b, off, rfl, hc⟩ := h3 (by omega)
    refine ⟨b, off + p, by simp [Nm.addr_add], fun i x hx => ?_⟩
    rw [by_drop, List.getElem?_take] at hx
    split at hx
    · rw [List.getElem?_drop] at hx
      rw [Nat.add_assoc]
      exact hc _ _ hx
    · cases hx

theorem cut_str {w : World} {v : Value} {l : List UInt8} {n : Nat} (h : CRow w v n 1 (Nm.bys l)) : (convert 22 9 v).run Try.prog w = .ok (.string ⟨l.toArray⟩) w := by
  obtain ⟨hl, a, cap, rfl, h1, h2, h3⟩ := h
  rw [Nm.bys_length, Nat.mul_one] at hl
  subst hl
  rcases Nat.eq_zero_or_pos l.length with h0 | hpos
  · have : l = [] := List.length_eq_zero_iff.1 h0
    subst this
    cases a with
    | none => exact (run_convert_bytes_string w 22 9 5 none 0 cap Try.underlying22 Try.underlying5 Try.underlying9).trans rfl
    | some x => exact run_convert_bytes_back w 22 9 5 x cap [] Try.underlying22 Try.underlying5 Try.underlying9 (by intro j hj; simp at hj)
  · obtain ⟨b, off, rfl, hc⟩ := h3 hpos
    refine run_convert_bytes_back w 22 9 5 ⟨b, off, none⟩ cap l Try.underlying22 Try.underlying5 Try.underlying9 ?_
    intro j hj
    rw [Nm.addr_add]
    exact hc j _ (by simp [Nm.bys, hj])

set_option maxRecDepth 100000 in
set_option maxHeartbeats 800000 in
theorem number_any (g : Nat) (a : Option Addr) (l : List UInt8) (cap p size : Nat) (w : World) (h : Rd w g (.slice a l.length cap) p) (hl : BySl w (.slice a l.length cap) l) (hfar : ∀ w', w.grownBy w' (some g) → BySl w' (.slice a l.length cap) l) (hp : p ≤ l.length) (hnn : l.length ≤ 1048576) (hs : size ≤ 6) :
    Calls Try.prog 55 #[.pointer (some ⟨g, 0, none⟩), .int .i64 size] w fun e w' =>
      (p + size ≤ l.length ∧ e = .returned (.int .i64 (numL ((l.drop p).take size))) ∧ Rd w' g (.slice a l.length cap) (p + size) ∧ w.grownBy w' (some g)) ∨
      (l.length < p + size ∧ e = .panicked (fault 8) ∧ w.grownBy w' (some g)) := by
  have hcap : l.length ≤ cap := by
    obtain ⟨_, a', cap', e, h1, _⟩ := hl
    simp only [Value.slice.injEq] at e
    obtain ⟨rfl, _, rfl⟩ := e
    exact h1
  have ht := take_any g a l.length cap p size w h hp hcap hnn (by omega)
  by_cases hlt : p + size ≤ l.length
  · have hcv := fun W (h : w.grownBy W (some g)) => cut_str (cut_row (hfar W h) hlt)
    have hrb := fun W => readBig_any ⟨((l.drop p).take size).toArray⟩ W (by show ((l.drop p).take size).toArray.size ≤ 6; simp; omega)
    generalize hq : cutV a cap p size = q at *
    have hlt2 : ¬ l.length < p + size := by omega
    simp only [hlt, hlt2, true_and, false_and, or_false] at ht
    go_enter Try.func55, Try.ntmps55
    go_wp2_with (first | (go_at_call 77; refine ht.mono ?_; rintro e w1 ⟨rfl, hr1, hg1⟩; have hcv1 := hcv w1 hg1) | (go_at_call 76; refine (hrb _).mono ?_; rintro e w2 ⟨rfl, rfl⟩))
    go_ret
    exact .inl ⟨hlt, rfl, hr1, hg1⟩
  · have hlt2 : l.length < p + size := by omega
    simp only [hlt, hlt2, true_and, false_and, false_or] at ht
    go_enter Try.func55, Try.ntmps55
    go_wp2_with (go_at_call 77; refine ht.mono ?_; rintro e w1 ⟨rfl, hg1⟩)
    refine bp_panic rfl ?_
    exact .inr ⟨hlt2, rfl, hg1⟩
end Go.Proofs.Ytihhchebcojplaa
