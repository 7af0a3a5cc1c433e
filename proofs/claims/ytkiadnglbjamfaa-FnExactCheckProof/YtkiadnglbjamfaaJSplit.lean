import Derived.Test.YtkiadnglbjamfaaJGoodM
import Derived.Test.YtkiadnglbjamfaaJNameSz
import Derived.WalkKit
import Derived.Test.YtkiadnglbjamfaaJMath
import Derived.Test.YtkiadnglbjamfaaCmp2
/- impl.splitName by its contract. -/
namespace Go.Proofs.Ytkiadnglbjamfaa
open Go.RowKit

set_option maxRecDepth 100000 in
set_option maxHeartbeats 800000 in
theorem splitName_any (s : ByteArray) (w : World) (_ : s.size ≤ maxLen) :
    Calls Try.prog 20 #[.string s] w fun e w' => ∃ v, e = .returned (.tuple #[v, .bool (Nm.split s).isSome]) ∧
      w'.ownsRow w.heap.size 9 1 v ((Nm.split s).getD []).length (((Nm.split s).getD []).map Value.string) ∧ Below w.heap.size w w' := by
  obtain ⟨i0, hi, hz0, hz1, hz2⟩ := info_parts Try.infoStr
  have hcall := implNameOK_same s
  cases hq : Nm.split s with
  | none =>
    rw [hq] at hcall
    simp only [Option.isSome_none] at hcall
    clear hq
    go_enter Try.func20, Try.ntmps20
    go_wp2_with (go_at_call 35; refine (hcall _).mono ?_; rintro e w1 ⟨rfl, hw⟩; obtain rfl : w = w1 := hw.symm; clear hw)
    go_ret2
    exact ⟨_, rfl, World.ownsRow_nil _ _ _ _, Below.refl _ _⟩
  | some L =>
    have hz := Nm.split_size hq
    have hst := Nm.at_start s hz.2
    have HQ := Nm.hide hq
    rw [hq] at hcall
    simp only [Option.isSome_some] at hcall
    clear hq
    have hz2' := hz.2
    clear hz
    go_enter Try.func20, Try.ntmps20
    go_wp2_with (go_at_call 35; refine (hcall _).mono ?_; rintro e w1 ⟨rfl, hw⟩; obtain rfl : w = w1 := hw.symm; clear hw)
    go_loopw [4, 5] (fun v x wr => ∃ (ls : List ByteArray) (r : ByteArray), x = .string r ∧ Nm.At s ls r ∧ ls.length + r.size ≤ 255 ∧ wr.ownsRow w.heap.size 9 1 v ls.length (ls.map Value.string) ∧ Below w.heap.size w wr)
      (fun _ x _ => match x with | .string r => r.size | _ => 0)
    case atStart => exact ⟨[], s, rfl, hst, by simp; omega, World.ownsRow_nil _ _ _ _, Below.refl _ _⟩
    case round =>
      obtain ⟨ls, r, rfl, hat, hb, hown, hbel⟩ := hrel
      clear hst
      have hq := HQ.out
      by_cases h0 : r.size = 0
      · rw [Nm.at_empty hat h0] at hq; simp at hq
      · have hp : 0 < r.size := by omega
        have hn : (r[0].toNat : Int) < 256 := by have := r[0].toNat_lt; omega
        by_cases h1 : r.size = 1 ∧ r[0].toNat = 0
        · have hL : L = ls := by
            have := Nm.at_end hat hp h1.2 h1.1
            rw [hq] at this
            simpa using this
          have e1 := Nm.tl_one hp h1.1 h1.2
          have e1' : (r.toList != [0]) = false := by rw [bne, e1]; rfl
          clear h1 hq HQ
          go_wp2
          go_ret2
          rw [hL]
          exact ⟨_, rfl, hown, hbel⟩
        · have e1 := Nm.tl_not_one hp h1
          have e1' : (r.toList != [0]) = true := by rw [bne, e1]; rfl
          by_cases h2 : r[0].toNat = 0
          · rw [Nm.at_zero hat hp h2 (fun h => h1 ⟨h, h2⟩)] at hq; simp at hq
          · by_cases h3 : 63 < r[0].toNat ∨ r.size < r[0].toNat + 1
            · rw [Nm.at_bad hat hp h2 h3] at hq; simp at hq
            · have e4 : (r[0].toNat : Int) ≤ 63 := by omega
              have e5 : (r[0].toNat : Int) + 1 ≤ (r.size : Int) := by omega
              have e5' : 1 + r[0].toNat ≤ r.size := by omega
              have hi0 : (0 : Int) < (r.size : Int) := by omega
              have HN : Hid (Nm.At s (ls ++ [r.extract 1 (r[0].toNat + 1)]) (r.extract (r[0].toNat + 1) r.size)) := Nm.at_step hat hp h2 (by omega) (by omega)
              have hsz := hbel.size
              clear h2 h1 h0 h3 hq HQ
              go_wp2_with (at_builtin; refine wpList_append_own _ rfl (.tmp 16) (.tmp 21) 48 rfl w.heap.size 9 i0 (.string ByteArray.empty) 1 16 Try.underlying48 hi hz0 hz1 hz2 rfl (by decide) _ _ _ rfl (hown.alloc _) ⟨wr.heap.size, 0, none⟩ 1 1 [.string (r.extract 1 (1 + r[0].toNat))] rfl rfl (cell_new1 _ _ _) (Nm.one_cell _ rfl) (by unfold maxLen; omega) (by omega) (by simp; omega) ?_)
              intro v' w1 hown' hgrow _
              have R := own_step hsz hown hbel _ hown' hgrow
              clear hown' hgrow hown hbel
              go_wp2
              go_roundw
              case rel => exact ⟨_, _, rfl, by simpa [Nat.add_comm] using HN.out, by simp; omega, R.1, R.2⟩
              case measure => simp; omega
end Go.Proofs.Ytkiadnglbjamfaa
/- (labelList).under by its contract. -/
namespace Go.Proofs.Ytkiadnglbjamfaa
open Go.RowKit

theorem under_short {xs ys : List ByteArray} (h : xs.length < ys.length) : underB xs ys = false := by
  rw [underB, decide_eq_false (by omega)]; rfl
theorem under_long {xs ys : List ByteArray} (h : ys.length ≤ xs.length) : underB xs ys = decide (Nm.cmpLs (xs.drop (xs.length - ys.length)) ys = 0) := by
  rw [underB, decide_eq_true h]; rfl

set_option maxRecDepth 100000 in
set_option maxHeartbeats 800000 in
theorem under_any (v u : Value) (xs ys : List ByteArray) (w : World) (h : Nm.SRow w v xs) (h' : Nm.SRow w u ys) (hxs : ∀ x ∈ xs, x.size ≤ 1000000000) (hlx : xs.length ≤ 1000000000) (hly : ys.length ≤ 1000000000) :
    Calls Try.prog 21 #[v, u] w fun e w' => e = .returned (.bool (underB xs ys)) ∧ ∃ m, w' = w.drewN m := by
  have hrow := h
  obtain ⟨a, cap, rfl, hcap, hmx, hnl, hc⟩ := h
  have hu := h'
  obtain ⟨a', cap', rfl, hcap', hmx', hnl', hc'⟩ := h'
  clear hc hc' hnl hnl'
  by_cases hl : xs.length < ys.length
  · have HA := Nm.hide (under_short hl)
    have hd : decide ((0 : Int) ≤ (xs.length : Int) - (ys.length : Int)) = false := by simp; omega
    have hd' : (xs.length : Int) - (ys.length : Int) < 0 := by omega
    clear hrow hu
    go_enter Try.func21, Try.ntmps21
    go_wp2
    go_ret
    rw [HA.out]
    exact ⟨rfl, 0, rfl⟩
  · have HA := Nm.hide (under_long (xs := xs) (ys := ys) (by omega))
    obtain ⟨d, hd⟩ : ∃ d, d = xs.length - ys.length := ⟨_, rfl⟩
    rw [← hd] at HA
    have hq : (xs.length : Int) - (ys.length : Int) = (d : Int) := by omega
    have hdl : d ≤ xs.length := by omega
    have hg : decide ((0 : Int) ≤ (d : Int)) = true := by simp
    have hcmp := fun V hr => compare_any V (.slice a' ys.length cap') (xs.drop d) ys w hr hu (fun x hx => hxs x (List.mem_of_mem_drop hx)) (by rw [List.length_drop]; omega) hly
    have hd1 := fun e : cap = d => hrow.drop_all e
    have hd2 := hrow.drop (k := d) hdl
    generalize Nm.cmpLs (xs.drop d) ys = o at *
    have HD : Hid ((o == 0) = decide (o = 0)) := by show _ = _; rw [Bool.eq_iff_iff]; simp
    clear hd hl hxs hrow hu
    by_cases hck : cap = d
    · have Hc := hcmp _ (hd1 hck)
      clear hcmp hd1 hd2
      subst hck
      rw [show xs.length - cap = 0 by omega] at Hc
      go_enter Try.func21, Try.ntmps21
      go_wp2_with fail
      refine Hc.mono ?_
      rintro e w1 ⟨rfl, m, rfl⟩
      go_wp2
      go_ret
      rw [HA.out, ← HD.out]
      exact ⟨rfl, _, rfl⟩
    · have Hc := hcmp _ hd2
      clear hcmp hd1 hd2
      go_enter Try.func21, Try.ntmps21
      go_wp2_with fail
      refine Hc.mono ?_
      rintro e w1 ⟨rfl, m, rfl⟩
      go_wp2
      go_ret
      rw [HA.out, ← HD.out]
      exact ⟨rfl, _, rfl⟩
end Go.Proofs.Ytkiadnglbjamfaa
