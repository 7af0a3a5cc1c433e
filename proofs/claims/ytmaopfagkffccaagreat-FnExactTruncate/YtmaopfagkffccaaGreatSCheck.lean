import Derived.Test.YtmaopfagkffccaaGreatJParts
import Derived.Test.YtmaopfagkffccaaGreatJPartsM
/- spec.CheckData by its contract. -/
namespace Go.Proofs.YtmaopfagkffccaaGreat
open Go.RowKit

theorem okForm_of {f : ByteArray} (h1 : f.size ≤ 100) (h2 : f.data.toList.all (fun c => c == 110 || c == 98 || c == 116 || c == 115 || c == 99 || c == 109 || c == 42) = true) : okForm f := by
  refine ⟨h1, ?_⟩
  intro k hk
  have := List.all_eq_true.1 h2 f[k] (List.mem_of_getElem? (Nm.get_data hk))
  simpa [or_assoc] using this

theorem form_ok (t : Int) : okForm (Dt.formS t) := by
  unfold Dt.formS
  repeat' split
  all_goals exact okForm_of (by decide) (by decide)

theorem parts_some {t : Int} {d : ByteArray} : (Dt.parts (Dt.specP t) d).isSome = (Dt.spans (Dt.implP t) 0 d).isSome := by
  rw [← Dt.forms_agree, Dt.spans_of_parts]; simp

set_option maxRecDepth 100000 in
set_option maxHeartbeats 400000 in
theorem specCheckData_any (t : Int) (d : ByteArray) (w : World) :
    Calls Tryz.prog 75 #[.int .i64 t, .string d] w fun e w' => e = .returned (.int .i64 (cutCode t d)) ∧ Below w.heap.size w w' := by
  by_cases ht : t < 0 ∨ 65535 < t
  · have HC := Nm.hide (code_type (d := d) ht)
    by_cases ht0 : t < 0
    · clear ht
      go_enter Tryz.func75, Tryz.ntmps75
      go_wp2
      go_ret
      rw [HC.out.1]
      exact ⟨rfl, Below.refl _ _⟩
    · have ht1 : 65535 < t := by omega
      have ht2 : 0 ≤ t := by omega
      clear ht
      go_enter Tryz.func75, Tryz.ntmps75
      go_wp2
      go_ret
      rw [HC.out.1]
      exact ⟨rfl, Below.refl _ _⟩
  have ht0 : 0 ≤ t := by omega
  have ht1 : t ≤ 65535 := by omega
  by_cases hl : 65535 < d.size
  · have HC := Nm.hide (code_long ht hl)
    have hl' : (65535 : Int) < (d.size : Int) := by omega
    clear ht
    go_enter Tryz.func75, Tryz.ntmps75
    go_wp2
    go_ret
    rw [HC.out.1]
    exact ⟨rfl, Below.refl _ _⟩
  have hl' : (d.size : Int) ≤ 65535 := by omega
  have hcall := fun w => l02Parts_any (Dt.formS t) d w (form_ok t) (by omega)
  have hform := l02Form_any t
  have hps := parts_some (t := t) (d := d)
  rw [Dt.specP] at hps
  rw [hps] at hcall
  generalize Dt.formS t = f at *
  cases hq : Dt.spans (Dt.implP t) 0 d with
  | none =>
    have HC := Nm.hide (code_none ht hl hq)
    rw [hq] at hcall
    clear ht hl hq hps
    go_enter Tryz.func75, Tryz.ntmps75
    go_wp2_with (first | (go_at_call 80; refine (hform _).mono ?_; rintro e w1 ⟨rfl, hw⟩; obtain rfl : w = w1 := hw.symm; clear hw) | (go_at_call 81; refine (hcall _).mono ?_; rintro e w2 ⟨v, rfl, _, hbel⟩))
    go_ret
    rw [HC.out.1]
    exact ⟨rfl, hbel⟩
  | some sp =>
    have HC := Nm.hide (code_some ht hl hq)
    rw [hq] at hcall
    clear ht hl hq hps
    go_enter Tryz.func75, Tryz.ntmps75
    go_wp2_with (first | (go_at_call 80; refine (hform _).mono ?_; rintro e w1 ⟨rfl, hw⟩; obtain rfl : w = w1 := hw.symm; clear hw) | (go_at_call 81; refine (hcall _).mono ?_; rintro e w2 ⟨v, rfl, _, hbel⟩))
    go_ret
    rw [HC.out.1]
    exact ⟨rfl, hbel⟩
end Go.Proofs.YtmaopfagkffccaaGreat
