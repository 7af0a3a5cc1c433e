import Derived.Test.YtihhchebcojplaaJMVr
import Derived.Test.YtihhchebcojplaaJRtV
import Derived.Test.YtihhchebcojplaaJWtW
import Derived.Test.YtihhchebcojplaaJRd8
/- What was read, written and read again: what the Decodes answer. -/
namespace Go.Proofs.Ytihhchebcojplaa
open Go.RowKit
set_option linter.unusedVariables false

theorem qv_of (xs : List Qm) : qvVs (xs.map qrOf) = quCs xs := by
  induction xs with
  | nil => rfl
  | cons x xs ih => rw [List.map_cons, qvVs_cons, ih]; rfl
theorem rv_of (xs : List Rm) : rvVs (xs.map rrOf) = rrCs xs := by
  induction xs with
  | nil => rfl
  | cons x xs ih => rw [List.map_cons, rvVs_cons, ih]; rfl

theorem mrow_of {w : World} {B : Nat} {l : List UInt8} {M : Mm} {q a u x : Value} (h : Lists w B M q a u x) : MRow w (mgOf l M) q a u x := by
  refine ⟨?_, ?_, ?_, ?_⟩
  · have := CRow.of_owns h.rq; rw [mgOf]; simp only [List.length_map, qv_of]; exact this
  · have := CRow.of_owns h.ra; rw [mgOf]; simp only [List.length_map, rv_of]; exact this
  · have := CRow.of_owns h.ru; rw [mgOf]; simp only [List.length_map, rv_of]; exact this
  · have := CRow.of_owns h.rx; rw [mgOf]; simp only [List.length_map, rv_of]; exact this

theorem mgV_of (l : List UInt8) (M : Mm) (q a u x : Value) : mgV (mgOf l M).hd q a u x = msA (n16 l 0) (n16 l 2) q a u x := rfl

theorem msA_hd (d f : Nat) (q a u x : Value) : msA d f q a u x = hdA d f ++ #[q, a, u, x] := rfl

/-- What was read as a message is written, or is too long. -/
theorem encode_read {l : List UInt8} {M : Mm} {e : Nat} (h : msgS l = .ok M e) (q a u x : Value) (B : Nat) (w : World) (hL : Lists w B M q a u x) :
    Calls Try.prog 8 #[.agg (msA (n16 l 0) (n16 l 2) q a u x)] w fun e w' => Below w.heap.size w w' ∧
      ((∃ v, e = .returned (.tuple #[v, .int .i64 11]) ∧ ∃ b c, v = .slice b 0 c) ∨ ((msgW (mgOf l M)).1.length ≤ 65535 ∧ ∃ v, e = .returned (.tuple #[v, .int .i64 0]) ∧ w'.ownsRow w.heap.size 5 1 v (msgW (mgOf l M)).1.length (Nm.bys (msgW (mgOf l M)).1))) := by
  have hok := msgS_ok h
  have hc := implEncode_any (mgOf l M) q a u x w (mrow_of hL) (mgW_small (mg_w hok))
  rw [mgV_of] at hc
  refine hc.mono ?_
  rintro e w' ⟨v, rfl, hown, hb⟩
  refine ⟨hb, ?_⟩
  by_cases hz : (msgW (mgOf l M)).1.length ≤ 65535
  · have e1 : enC (mgOf l M) = 0 := by rw [enC, if_pos hok, if_pos hz]
    have e2 : enB (mgOf l M) = (msgW (mgOf l M)).1 := by rw [enB, if_pos hok, if_pos hz]
    rw [e1]
    rw [e2] at hown
    exact .inr ⟨hz, v, rfl, hown⟩
  · have e1 : enC (mgOf l M) = 11 := by rw [enC, if_pos hok, if_neg hz]
    have e2 : enB (mgOf l M) = [] := by rw [enB, if_pos hok, if_neg hz]
    rw [e1]
    rw [e2] at hown
    obtain ⟨b, c, hv⟩ := own_sl hown
    exact .inl ⟨v, rfl, b, c, hv⟩

/-- What was written is read as it was. -/
theorem decode_again {l : List UInt8} {M : Mm} {e : Nat} (h : msgS l = .ok M e) (hz : (msgW (mgOf l M)).1.length ≤ 65535) (v : Value) (w : World) (hv : BySl w v (msgW (mgOf l M)).1) :
    Calls Try.prog 6 #[v] w fun e w' => Below w.heap.size w w' ∧ ∃ q x y z, e = .returned (.tuple #[.agg (msA (n16 l 0) (n16 l 2) q x y z), .int .i64 0]) ∧ Lists w' w.heap.size M q x y z := by
  obtain ⟨h1, h2⟩ := msgS_again h hz
  refine (implDecode_one v _ w hv (by omega)).mono ?_
  rintro e w' ⟨hb, q, x, y, z, rfl, hL⟩
  have hm : msO (msgW (mgOf l M)).1 = ⟨n16 (msgW (mgOf l M)).1 0, n16 (msgW (mgOf l M)).1 2, M, 0⟩ := by rw [msO, h1]
  rw [hm] at hL
  refine ⟨hb, q, x, y, z, ?_, hL⟩
  rw [hm, msA_hd, h2, ← msA_hd]

theorem msO_ok {l : List UInt8} {M : Mm} {e : Nat} (h : msgS l = .ok M e) : msO l = ⟨n16 l 0, n16 l 2, M, 0⟩ := by rw [msO, h]
theorem msO_bad {l : List UInt8} {c : Int} (h : msgS l = .bad c) : msO l = ⟨0, 0, ⟨[], [], [], []⟩, c⟩ := by rw [msO, h]

/-- How many questions and records were read. -/
theorem msO_few (l : List UInt8) : (msO l).m.qs.length ≤ 400 ∧ (msO l).m.an.length ≤ 400 ∧ (msO l).m.au.length ≤ 400 ∧ (msO l).m.ex.length ≤ 400 := by
  cases hm : msgS l using Rs.elim with
  | bad c => rw [msO_bad hm]; simp
  | ok M e =>
    rw [msO_ok hm]
    have := (mg_w (msgS_ok hm)).1
    simp only [mgOf, List.length_map] at this
    simp only
    omega


theorem msO_or (l : List UInt8) : (msO l).c ≠ 0 ∨ ∃ e, msgS l = .ok (msO l).m e ∧ (msO l).d = n16 l 0 ∧ (msO l).f = n16 l 2 ∧ (msO l).c = 0 := by
  cases hm : msgS l using Rs.elim with
  | bad c => rw [msO_bad hm]; exact .inl (code_bad hm)
  | ok M e => rw [msO_ok hm]; exact .inr ⟨e, rfl, rfl, rfl, rfl⟩
end Go.Proofs.Ytihhchebcojplaa
/- Where the cells of a list of questions or records stand. -/
namespace Go.Proofs.Ytihhchebcojplaa
open Go.RowKit
set_option linter.unusedVariables false

theorem str_ne (s : ByteArray) : (s.toList != s.toList) = false ∧ (s.toList == s.toList) = true := by simp

theorem quCs_at : ∀ (xs : List Qm) (k j : Nat) (x : Qm), xs[k]? = some x → j < 3 → (quCs xs)[k * 3 + j]? = (quC x)[j]? := by
  intro xs
  induction xs with
  | nil => intro k j x h; simp at h
  | cons y xs ih =>
    intro k j x h hj
    have e : quCs (y :: xs) = quC y ++ quCs xs := by simp [quCs]
    have hl : (quC y).length = 3 := rfl
    cases k with
    | zero =>
      simp at h; subst h
      rw [e, Nat.zero_mul, Nat.zero_add, List.getElem?_append_left (by omega)]
    | succ k =>
      simp at h
      rw [e, List.getElem?_append_right (by omega), hl, show (k + 1) * 3 + j - 3 = k * 3 + j by omega]
      exact ih k j x h hj

theorem rrCs_at : ∀ (xs : List Rm) (k j : Nat) (x : Rm), xs[k]? = some x → j < 5 → (rrCs xs)[k * 5 + j]? = (rrC x)[j]? := by
  intro xs
  induction xs with
  | nil => intro k j x h; simp at h
  | cons y xs ih =>
    intro k j x h hj
    have e : rrCs (y :: xs) = rrC y ++ rrCs xs := by simp [rrCs]
    have hl : (rrC y).length = 5 := rfl
    cases k with
    | zero =>
      simp at h; subst h
      rw [e, Nat.zero_mul, Nat.zero_add, List.getElem?_append_left (by omega)]
    | succ k =>
      simp at h
      rw [e, List.getElem?_append_right (by omega), hl, show (k + 1) * 5 + j - 5 = k * 5 + j by omega]
      exact ih k j x h hj
end Go.Proofs.Ytihhchebcojplaa
