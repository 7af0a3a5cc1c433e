/- A name's text, as plain mathematics. -/
import Derived.Test.YtakonfkefoeenafDoorLab
namespace Go.Proofs.YtakonfkefoeenafDoor.Nm
open Go.RowKit

def digB (c : UInt8) : Bool := decide (48 ≤ c.toNat) && decide (c.toNat ≤ 57)

def num3 (c d e : UInt8) : Nat := (c.toNat - 48) * 100 + (d.toNat - 48) * 10 + (e.toNat - 48)

def esc3 (c : UInt8) : List UInt8 → Option (UInt8 × Nat)
  | d :: e :: _ => if digB d = true ∧ digB e = true then (if num3 c d e ≤ 255 then some (UInt8.ofNat (num3 c d e), 3) else none) else none
  | _ => none

/-- What stands behind a backslash: the byte, and how many bytes it takes. -/
def escF : List UInt8 → Option (UInt8 × Nat)
  | [] => none
  | c :: r => if digB c = true then esc3 c r else some (c, 1)

theorem esc_nil : escF [] = none := rfl
theorem esc_byte {c : UInt8} (r : List UInt8) (h : digB c = false) : escF (c :: r) = some (c, 1) := by
  rw [escF, if_neg (by simp [h])]
theorem esc_short {c : UInt8} {r : List UInt8} (h : digB c = true) (hr : r.length < 2) : escF (c :: r) = none := by
  rw [escF, if_pos h]
  match r, hr with
  | [], _ => rfl
  | [_], _ => rfl
theorem esc_three {c d e : UInt8} {r : List UInt8} (h : digB c = true) : escF (c :: d :: e :: r) = if digB d = true ∧ digB e = true then (if num3 c d e ≤ 255 then some (UInt8.ofNat (num3 c d e), 3) else none) else none := by
  rw [escF, if_pos h, esc3]

theorem esc_len {l : List UInt8} {b : UInt8} {n : Nat} (h : escF l = some (b, n)) : 1 ≤ n ∧ n ≤ l.length ∧ n ≤ 3 := by
  cases l with
  | nil => simp [escF] at h
  | cons c r =>
    cases hd : digB c with
    | false =>
      rw [esc_byte r hd] at h
      simp at h
      simp only [List.length_cons]
      omega
    | true =>
      match r with
      | [] => rw [esc_short hd (by simp)] at h; simp at h
      | [_] => rw [esc_short hd (by simp)] at h; simp at h
      | d :: e :: r =>
        rw [esc_three hd] at h
        split at h
        · split at h
          · simp at h
            simp only [List.length_cons]
            omega
          · simp at h
        · simp at h

def fitsB (n : Nat) : Bool := decide (1 ≤ n) && decide (n ≤ 63)

def scanF : Nat → Bool → List UInt8 → List UInt8 → List ByteArray → List ByteArray × Bool × Int
  | 0, _, _, _, _ => ([], false, 0)
  | _ + 1, st, [], now, done =>
    if st = true then (done, true, 0)
    else if fitsB now.length = true then (done ++ [⟨now.toArray⟩], false, 0) else ([], false, 2)
  | f + 1, _, c :: r, now, done =>
    if c = 46 then
      (if fitsB now.length = true then scanF f true r [] (done ++ [⟨now.toArray⟩]) else ([], false, 2))
    else if c = 92 then
      (match escF r with
      | none => ([], false, 4)
      | some (b, n) => scanF f false (r.drop n) (now ++ [b]) done)
    else scanF f false r (now ++ [c]) done

def scanS (s : ByteArray) : List ByteArray × Bool × Int := scanF (s.size + 1) false s.data.toList [] []

def ScAt (s : ByteArray) (st : Bool) (k : Nat) (now : List UInt8) (done : List ByteArray) : Prop :=
  k ≤ s.size ∧ ∃ f, s.size - k < f ∧ scanS s = scanF f st (s.data.toList.drop k) now done

theorem sc_start (s : ByteArray) : ScAt s false 0 [] [] := ⟨Nat.zero_le _, s.size + 1, by omega, by rw [List.drop_zero]; rfl⟩

theorem sc_start' (s : ByteArray) (h : 0 < s.size) : ScAt s true 0 [] [] := by
  refine ⟨Nat.zero_le _, s.size + 1, by omega, ?_⟩
  rw [List.drop_zero, scanS]
  cases hd : s.data.toList with
  | nil =>
    have : s.data.toList.length = 0 := by rw [hd]; rfl
    simp at this
    have h2 : s.size = 0 := by simp [this]
    omega
  | cons c r => simp only [scanF]

theorem drop_at {s : ByteArray} {k : Nat} (h : k < s.size) : s.data.toList.drop k = s[k] :: s.data.toList.drop (k + 1) := by
  have hl : k < s.data.toList.length := by simpa using h
  rw [List.drop_eq_getElem_cons hl]
  rfl

theorem drop_end {s : ByteArray} : s.data.toList.drop s.size = [] := List.drop_of_length_le (by simp)

section
variable {s : ByteArray} {st : Bool} {k : Nat} {now : List UInt8} {done : List ByteArray}

theorem sc_dot (h : ScAt s st k now done) (hk : k < s.size) (hc : s[k] = 46) (hf : fitsB now.length = true) : ScAt s true (k + 1) [] (done ++ [⟨now.toArray⟩]) := by
  obtain ⟨_, f, hf2, e⟩ := h
  obtain ⟨g, rfl⟩ : ∃ g, f = g + 1 := ⟨f - 1, by omega⟩
  refine ⟨by omega, g, by omega, ?_⟩
  rw [e, drop_at hk, scanF, if_pos hc, if_pos hf]

theorem sc_dot_bad (h : ScAt s st k now done) (hk : k < s.size) (hc : s[k] = 46) (hf : fitsB now.length = false) : scanS s = ([], false, 2) := by
  obtain ⟨_, f, hf2, e⟩ := h
  obtain ⟨g, rfl⟩ : ∃ g, f = g + 1 := ⟨f - 1, by omega⟩
  rw [e, drop_at hk, scanF, if_pos hc, if_neg (by simp [hf])]

theorem sc_esc_bad (h : ScAt s st k now done) (hk : k < s.size) (hc : s[k] = 92) (he : escF (s.data.toList.drop (k + 1)) = none) : scanS s = ([], false, 4) := by
  obtain ⟨_, f, hf2, e⟩ := h
  obtain ⟨g, rfl⟩ : ∃ g, f = g + 1 := ⟨f - 1, by omega⟩
  rw [e, drop_at hk, scanF, if_neg (by rw [hc]; decide), if_pos hc, he]

theorem sc_esc (h : ScAt s st k now done) (hk : k < s.size) (hc : s[k] = 92) {b : UInt8} {n : Nat} (he : escF (s.data.toList.drop (k + 1)) = some (b, n)) : ScAt s false (k + 1 + n) (now ++ [b]) done := by
  obtain ⟨_, f, hf2, e⟩ := h
  obtain ⟨g, rfl⟩ : ∃ g, f = g + 1 := ⟨f - 1, by omega⟩
  have hl := esc_len he
  simp only [List.length_drop, Array.length_toList, ByteArray.size_data] at hl
  refine ⟨by omega, g, by omega, ?_⟩
  rw [e, drop_at hk, scanF, if_neg (by rw [hc]; decide), if_pos hc, he]
  simp only [List.drop_drop]

theorem sc_plain (h : ScAt s st k now done) (hk : k < s.size) (hc : s[k] ≠ 46) (hc2 : s[k] ≠ 92) : ScAt s false (k + 1) (now ++ [s[k]]) done := by
  obtain ⟨_, f, hf2, e⟩ := h
  obtain ⟨g, rfl⟩ : ∃ g, f = g + 1 := ⟨f - 1, by omega⟩
  refine ⟨by omega, g, by omega, ?_⟩
  rw [e, drop_at hk, scanF, if_neg hc, if_neg hc2]

theorem sc_abs (h : ScAt s true k now done) (hk : k = s.size) : scanS s = (done, true, 0) := by
  obtain ⟨_, f, hf2, e⟩ := h
  obtain ⟨g, rfl⟩ : ∃ g, f = g + 1 := ⟨f - 1, by omega⟩
  rw [e, hk, drop_end, scanF, if_pos rfl]

theorem sc_rel (h : ScAt s false k now done) (hk : k = s.size) (hf : fitsB now.length = true) : scanS s = (done ++ [⟨now.toArray⟩], false, 0) := by
  obtain ⟨_, f, hf2, e⟩ := h
  obtain ⟨g, rfl⟩ : ∃ g, f = g + 1 := ⟨f - 1, by omega⟩
  rw [e, hk, drop_end, scanF, if_neg (by simp), if_pos hf]

theorem sc_rel_bad (h : ScAt s false k now done) (hk : k = s.size) (hf : fitsB now.length = false) : scanS s = ([], false, 2) := by
  obtain ⟨_, f, hf2, e⟩ := h
  obtain ⟨g, rfl⟩ : ∃ g, f = g + 1 := ⟨f - 1, by omega⟩
  rw [e, hk, drop_end, scanF, if_neg (by simp), if_neg (by simp [hf])]
end

theorem fits_yes {n : Nat} (h1 : 1 ≤ n) (h2 : n ≤ 63) : fitsB n = true := by simp [fitsB, h1, h2]
theorem fits_no {n : Nat} (h : ¬ (1 ≤ n ∧ n ≤ 63)) : fitsB n = false := by
  simp [fitsB]; omega

end Go.Proofs.YtakonfkefoeenafDoor.Nm
