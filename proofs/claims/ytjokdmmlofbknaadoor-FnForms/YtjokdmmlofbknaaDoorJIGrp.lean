import Derived.Test.YtjokdmmlofbknaaDoorJFoldB
import Derived.Test.YtjokdmmlofbknaaDoorJV4T
import Derived.Test.YtjokdmmlofbknaaDoorJJoin
import Derived.Test.YtjokdmmlofbknaaDoorJReadM
import Derived.Test.YtjokdmmlofbknaaDoorJTyM
/- impl.readGroup by its contract. -/
namespace Go.Proofs.YtjokdmmlofbknaaDoor
open Go.RowKit

theorem wrap_pos6 (n : Nat) (h : n < 9223372036854775808) : IntKind.i64.wrap (n : Int) = (n : Int) := by
  have e : (n : Int) % 2 ^ 64 = n := Int.emod_eq_of_lt (by omega) (by omega)
  simp only [IntKind.wrap, IntKind.bits, IntKind.signed, e]
  rw [if_neg]
  simp
  omega
theorem i64_or6 (a b : Nat) (ha : a < 9223372036854775808) (hb : b < 9223372036854775808) : bits .or .i64 (a : Int) (b : Int) = ((a ||| b : Nat) : Int) := by
  have hx : a ||| b < 2 ^ 63 := Nat.or_lt_two_pow (by omega) (by omega)
  show IntKind.i64.wrap ((BitVec.ofInt 64 (a : Int) ||| BitVec.ofInt 64 (b : Int)).toNat : Int) = _
  rw [BitVec.toNat_or, ofInt_u64 a (by omega), ofInt_u64 b (by omega)]
  exact wrap_pos6 _ (by omega)
theorem or_hex (m d : Nat) (hd : d < 16) (hm : m < 281474976710656) : bits .or .i64 ((m : Int) * 16) (d : Int) = ((m * 16 + d : Nat) : Int) := by
  have e : (m : Int) * 16 = ((2 ^ 4 * m : Nat) : Int) := by omega
  rw [e, i64_or6 _ _ (by omega) (by omega), ← Nat.two_pow_add_eq_or_of_lt (by omega)]
  congr 1
  omega

/-- What readGroup answers: nothing, or two new bytes. -/
def grp2V (o : Option Nat) (w : World) : Value := match o with
  | none => .tuple #[.slice none 0 0, .bool false]
  | some _ => .tuple #[.slice (some ⟨w.heap.size, 0, none⟩) 2 2, .bool true]
def grp2W (o : Option Nat) (w : World) : World := match o with
  | none => w
  | some n => w.alloc (.cells #[.int .u8 ((n : Int) / 256), .int .u8 ((n : Int) % 256)] 5)

set_option maxRecDepth 100000 in
set_option maxHeartbeats 800000 in
theorem readGroup_any (p : ByteArray) (w : World) : Calls Tryd.prog 46 #[.string p] w fun e w' => e = .returned (grp2V (grpO p) w) ∧ w' = grp2W (grpO p) w := by
  by_cases h1 : p.size < 1
  · have HN : Hid (grpO p = none) := grpO_len (by omega)
    obtain ⟨h1', _⟩ := beq_empty (s := p) (by omega)
    rw [HN.out]
    go_enter Tryd.func46, Tryd.ntmps46
    go_wp2
    go_ret2
    exact ⟨rfl, rfl⟩
  obtain ⟨h1', _⟩ := not_empty (s := p) (by omega)
  by_cases h2 : 4 < p.size
  · have HN : Hid (grpO p = none) := grpO_len (by omega)
    have h2' : (4 : Int) < (p.size : Int) := by omega
    rw [HN.out]
    go_enter Tryd.func46, Tryd.ntmps46
    go_wp2
    go_ret2
    exact ⟨rfl, rfl⟩
  have h2' : (p.size : Int) ≤ 4 := by omega
  have h4 : p.size ≤ 4 := by omega
  obtain ⟨O, HO'⟩ : ∃ O, Hid (O = grpO p) := ⟨_, rfl⟩
  rw [← HO'.out]
  go_enter Tryd.func46, Tryd.ntmps46
  go_wp2
  go_loop [4, 17] (fun u v => ∃ k : Nat, k ≤ p.size ∧ v = .int .i64 k ∧ u = .int .i64 ((hexN (p.data.toList.take k) : Nat) : Int) ∧ ∀ j, j < k → (hj : j < p.size) → 0 ≤ hexV p[j]) (fun _ v => p.size - (intOf v).toNat)
  case atStart => exact ⟨0, Nat.zero_le _, rfl, rfl, fun j h => by omega⟩
  case round =>
    obtain ⟨k, hk, rfl, rfl, hd⟩ := hrel
    by_cases hlt : k < p.size
    · have hlt' : (k : Int) < (p.size : Int) := by omega
      have hhex := hexValue_any p[k] w
      have hb : hexN (p.data.toList.take k) < 65536 := hexN_small (by simp; omega)
      have hrange := hexV_lt p[k]
      by_cases hneg : hexV p[k] < 0
      · have HN : Hid (grpO p = none) := grpO_bad hlt hneg
        rw [hexR_no hneg] at hhex
        clear hd hneg hrange
        generalize hexN (p.data.toList.take k) = m at *
        go_wp2_with (go_at_call 62; refine hhex.mono ?_; rintro e w1 ⟨rfl, hw⟩; obtain rfl : w = w1 := hw.symm; clear hw)
        go_ret2
        rw [HO'.out, HN.out]
        exact ⟨rfl, rfl⟩
      · obtain ⟨d, hdv⟩ : ∃ d : Nat, hexV p[k] = d := ⟨(hexV p[k]).toNat, by omega⟩
        have e1 : p.data.toList.take (k + 1) = p.data.toList.take k ++ [p[k]] := Nm.take_step (Nm.get_data hlt)
        have e2 := hexN_snoc (p.data.toList.take k) p[k]
        rw [← e1, hdv, Int.toNat_natCast] at e2
        have hd16 : d < 16 := by omega
        have HO := Nm.hide (or_hex (hexN (p.data.toList.take k)) d hd16 (by omega))
        have HD : Hid (∀ j, j < k + 1 → (hj : j < p.size) → 0 ≤ hexV p[j]) := by
          show ∀ j, _
          intro j hj hjs
          by_cases e : j = k
          · subst e; omega
          · exact hd j (by omega) hjs
        have HV := Nm.hide e2
        rw [hdv, hexR_yes] at hhex
        have hd16' : (d : Int) < 16 := by omega
        clear hd hdv hneg hrange e1 e2
        generalize hexN (p.data.toList.take k) = m at *
        go_wp2_with (go_at_call 62; refine hhex.mono ?_; rintro e w1 ⟨rfl, hw⟩; obtain rfl : w = w1 := hw.symm; clear hw)
        go_round
        case rel => exact ⟨k + 1, by omega, by go_num, by rw [HV.out, ← HO.out], HD.out⟩
        case measure => simp [intOf]; omega
    · have hlt' : (p.size : Int) ≤ (k : Int) := by omega
      have hks : k = p.size := by omega
      have HN : Hid (grpO p = some (hexN (p.data.toList.take k))) := by
        show _ = _
        rw [grpO_good (by omega) h4 (fun j hj => hd j (by omega) hj), hks, List.take_of_length_le (by simp)]
      have hb : hexN (p.data.toList.take k) < 65536 := hexN_small (by simp; omega)
      have hb' : ((hexN (p.data.toList.take k) : Nat) : Int) < 65536 := by omega
      clear hd
      generalize hexN (p.data.toList.take k) = m at *
      go_wp2
      go_ret2
      rw [HO'.out, HN.out]
      exact ⟨rfl, rfl⟩
end Go.Proofs.YtjokdmmlofbknaaDoor
/- spec.l03Number by its contract. -/
namespace Go.Proofs.YtjokdmmlofbknaaDoor
open Go.RowKit

/-- A number and whether there is one, as Go tells them. -/
def numV (o : Option Nat) : Value := .tuple #[.int .i64 ((o.getD 0 : Nat) : Int), .bool o.isSome]

theorem numD_take {s : ByteArray} {k : Nat} (hk : k ≤ s.size) (h : ∀ j, j < k → (hj : j < s.size) → Nm.digB s[j] = true) : numD (s.data.toList.take k) < 10 ^ k := by
  have h1 := numD_lt (s.data.toList.take k) (by
    intro c hc
    obtain ⟨i, hi⟩ := List.getElem?_of_mem hc
    rw [List.getElem?_take] at hi
    split at hi
    · rename_i hik
      have hl : i < s.size := by omega
      rw [Nm.get_data hl] at hi
      simp at hi
      rw [← hi]
      exact h i hik hl
    · cases hi)
  have hz : (s.data.toList.take k).length = k := by simp; omega
  rwa [hz] at h1

end Go.Proofs.YtjokdmmlofbknaaDoor
