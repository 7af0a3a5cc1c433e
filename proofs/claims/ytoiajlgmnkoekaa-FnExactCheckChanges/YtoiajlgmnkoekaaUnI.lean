import Derived.Test.YtoiajlgmnkoekaaUnderM
import Derived.Test.YtoiajlgmnkoekaaCmp2
import Derived.Test.YtoiajlgmnkoekaaSplit
/- (labelList).under by its contract. -/
namespace Go.Proofs.Ytoiajlgmnkoekaa
open Go.RowKit

theorem under_short {xs ys : List ByteArray} (h : xs.length < ys.length) : underB xs ys = false := by
  rw [underB, decide_eq_false (by omega)]; rfl
theorem under_long {xs ys : List ByteArray} (h : ys.length ≤ xs.length) : underB xs ys = decide (Nm.cmpLs (xs.drop (xs.length - ys.length)) ys = 0) := by
  rw [underB, decide_eq_true h]; rfl

set_option maxRecDepth 100000 in
set_option maxHeartbeats 800000 in
theorem under_any (v u : Value) (xs ys : List ByteArray) (w : World) (h : Nm.SRow w v xs) (h' : Nm.SRow w u ys) (hxs : ∀ x ∈ xs, x.size ≤ 1000000000) (hlx : xs.length ≤ 1000000000) (hly : ys.length ≤ 1000000000) :
    Calls Try.prog 23 #[v, u] w fun e w' => e = .returned (.bool (underB xs ys)) ∧ ∃ m, w' = w.drewN m := by
  have hrow := h
  obtain ⟨a, cap, rfl, hcap, hmx, hnl, hc⟩ := h
  have hu := h'
  obtain ⟨a', cap', rfl, hcap', hmx', hnl', hc'⟩ := h'
  clear hc hc' hnl hnl'
  by_cases hl : xs.length < ys.length
  · have HA := Nm.hide (under_short hl)
    have hd : decide ((0 : Int) ≤ (xs.length : Int) - (ys.length : Int)) = false := by simp; omega
    have hd' : (xs.length : Int) - (ys.length : Int) < 0 := by omega
    clear hrow hu
    go_enter Try.func23, Try.ntmps23
    go_wp2
    go_ret
    rw [HA.out]
    exact ⟨rfl, 0, rfl⟩
  · have HA := Nm.hide (under_long (xs := xs) (ys := ys) (by omega))
    obtain ⟨d, hd⟩ : ∃ d, d = xs.length - ys.length := ⟨_, rfl⟩
    rw [← hd] at HA
    have hq : (xs.length : Int) - (ys.length : Int) = (d : Int) := by omega
    have hdl : d ≤ xs.length := by omega
    have hg : decide ((0 : Int) ≤ (d : Int)) = true := by simp
    have hcmp := fun V hr => compare_any V (.slice a' ys.length cap') (xs.drop d) ys w hr hu (fun x hx => hxs x (List.mem_of_mem_drop hx)) (by rw [List.length_drop]; omega) hly
    have hd1 := fun e : cap = d => hrow.drop_all e
    have hd2 := hrow.drop (k := d) hdl
    generalize Nm.cmpLs (xs.drop d) ys = o at *
    have HD : Hid ((o == 0) = decide (o = 0)) := by show _ = _; rw [Bool.eq_iff_iff]; simp
    clear hd hl hxs hrow hu
    by_cases hck : cap = d
    · have Hc := hcmp _ (hd1 hck)
      clear hcmp hd1 hd2
      subst hck
      rw [show xs.length - cap = 0 by omega] at Hc
      go_enter Try.func23, Try.ntmps23
      go_wp2_with fail
      refine Hc.mono ?_
      rintro e w1 ⟨rfl, m, rfl⟩
      go_wp2
      go_ret
      rw [HA.out, ← HD.out]
      exact ⟨rfl, _, rfl⟩
    · have Hc := hcmp _ hd2
      clear hcmp hd1 hd2
      go_enter Try.func23, Try.ntmps23
      go_wp2_with fail
      refine Hc.mono ?_
      rintro e w1 ⟨rfl, m, rfl⟩
      go_wp2
      go_ret
      rw [HA.out, ← HD.out]
      exact ⟨rfl, _, rfl⟩
end Go.Proofs.Ytoiajlgmnkoekaa
