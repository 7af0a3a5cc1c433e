/- ReadName, as plain mathematics. -/
import Derived.Test.YtakonfkefoeenagReadM
import Derived.Test.YtakonfkefoeenagFoldM
import Derived.Test.YtakonfkefoeenagMakeM
import Derived.Test.YtakonfkefoeenagMakeOk
namespace Go.Proofs.Ytakonfkefoeenag
open Go.RowKit

theorem scanF_ok : ∀ (f : Nat) (st : Bool) (rest now : List UInt8) (done : List ByteArray), (∀ x ∈ done, 1 ≤ x.size ∧ x.size ≤ 63) →
    (∀ x ∈ (Nm.scanF f st rest now done).1, 1 ≤ x.size ∧ x.size ≤ 63) ∧ (Nm.scanF f st rest now done).1.length ≤ done.length + rest.length + 1 := by
  intro f
  induction f with
  | zero => intro st rest now done _; simp [Nm.scanF]
  | succ f ih =>
    intro st rest now done hd
    have snoc : Nm.fitsB now.length = true → ∀ x ∈ done ++ [(⟨now.toArray⟩ : ByteArray)], 1 ≤ x.size ∧ x.size ≤ 63 := by
      intro hf x hx
      rcases List.mem_append.1 hx with h | h
      · exact hd x h
      · simp at h
        subst h
        have hsz : (ByteArray.mk now.toArray).size = now.length := by show now.toArray.size = _; simp
        rw [hsz]
        simp [Nm.fitsB] at hf
        omega
    cases rest with
    | nil =>
      rw [Nm.scanF]
      split
      · exact ⟨hd, by simp⟩
      · split
        · rename_i h
          exact ⟨snoc h, by simp⟩
        · simp
    | cons c r =>
      rw [Nm.scanF]
      split
      · split
        · rename_i h
          have := ih true r [] _ (snoc h)
          refine ⟨this.1, ?_⟩
          have h2 := this.2
          simp only [List.length_append, List.length_cons, List.length_nil] at h2 ⊢
          omega
        · simp
      · split
        · cases he : Nm.escF r with
          | none => simp
          | some bn =>
            obtain ⟨b, n⟩ := bn
            have := ih false (r.drop n) (now ++ [b]) done hd
            refine ⟨this.1, ?_⟩
            have h2 := this.2
            simp only [List.length_drop, List.length_cons] at h2 ⊢
            omega
        · have := ih false r (now ++ [c]) done hd
          refine ⟨this.1, ?_⟩
          have h2 := this.2
          simp only [List.length_cons] at h2 ⊢
          omega

theorem scanS_ok (s : ByteArray) : (∀ x ∈ (Nm.scanS s).1, 1 ≤ x.size ∧ x.size ≤ 63) ∧ (Nm.scanS s).1.length ≤ s.size + 1 := by
  have := scanF_ok (s.size + 1) false s.data.toList [] [] (by simp)
  refine ⟨this.1, ?_⟩
  have h := this.2
  simpa [Nm.scanS] using h

theorem wsum_le64 : ∀ (ls : List ByteArray), (∀ x ∈ ls, 1 ≤ x.size ∧ x.size ≤ 63) → Nm.wsum ls ≤ 64 * ls.length := by
  intro ls
  induction ls with
  | nil => intro _; simp [Nm.wsum]
  | cons x r ih =>
    intro h
    have h1 := h x List.mem_cons_self
    have h2 := ih (fun y hy => h y (List.mem_cons_of_mem _ hy))
    simp only [Nm.wsum, List.length_cons]; omega

def readS (t o : ByteArray) : ByteArray × Int :=
  if o.size ≠ 0 ∧ Nm.split o = none then (ByteArray.empty, 32)
  else if 1100 < t.size then (ByteArray.empty, 3)
  else if t.size = 0 then (ByteArray.empty, 1)
  else if (t.toList == [64]) = true then (if o.size = 0 then (ByteArray.empty, 5) else (o, 0))
  else if (t.toList == [46]) = true then (⟨#[0]⟩, 0)
  else if (Nm.scanS t).2.2 ≠ 0 then (ByteArray.empty, (Nm.scanS t).2.2)
  else if (Nm.scanS t).2.1 = true then makeS (Nm.scanS t).1
  else if o.size = 0 then (ByteArray.empty, 5)
  else makeS ((Nm.scanS t).1 ++ (Nm.split o).getD [])

section
variable {t o : ByteArray}
theorem read_form (h : o.size ≠ 0 ∧ Nm.split o = none) : readS t o = (ByteArray.empty, 32) := by rw [readS, if_pos h]
theorem read_long (h : ¬ (o.size ≠ 0 ∧ Nm.split o = none)) (h1 : 1100 < t.size) : readS t o = (ByteArray.empty, 3) := by rw [readS, if_neg h, if_pos h1]
theorem read_empty (h : ¬ (o.size ≠ 0 ∧ Nm.split o = none)) (h1 : t.size = 0) : readS t o = (ByteArray.empty, 1) := by
  rw [readS, if_neg h, if_neg (by omega), if_pos h1]
theorem read_at (h : ¬ (o.size ≠ 0 ∧ Nm.split o = none)) (h1 : t.size ≤ 1100) (h2 : 0 < t.size) (h3 : (t.toList == [64]) = true) : readS t o = if o.size = 0 then (ByteArray.empty, 5) else (o, 0) := by
  rw [readS, if_neg h, if_neg (by omega), if_neg (by omega), if_pos h3]
theorem read_dot (h : ¬ (o.size ≠ 0 ∧ Nm.split o = none)) (h1 : t.size ≤ 1100) (h2 : 0 < t.size) (h3 : (t.toList == [64]) = false) (h4 : (t.toList == [46]) = true) : readS t o = (⟨#[0]⟩, 0) := by
  rw [readS, if_neg h, if_neg (by omega), if_neg (by omega), if_neg (by simp [h3]), if_pos h4]
theorem read_scan (h : ¬ (o.size ≠ 0 ∧ Nm.split o = none)) (h1 : t.size ≤ 1100) (h2 : 0 < t.size) (h3 : (t.toList == [64]) = false) (h4 : (t.toList == [46]) = false) :
    readS t o = if (Nm.scanS t).2.2 ≠ 0 then (ByteArray.empty, (Nm.scanS t).2.2)
      else if (Nm.scanS t).2.1 = true then makeS (Nm.scanS t).1
      else if o.size = 0 then (ByteArray.empty, 5)
      else makeS ((Nm.scanS t).1 ++ (Nm.split o).getD []) := by
  rw [readS, if_neg h, if_neg (by omega), if_neg (by omega), if_neg (by simp [h3]), if_neg (by simp [h4])]
end

/-- A name's labels make the name again. -/
theorem make_split {o : ByteArray} {zs : List ByteArray} (h : Nm.split o = some zs) : makeS zs = (o, 0) := by
  obtain ⟨h1, h2⟩ := Nm.split_join h
  have h3 := Nm.split_size h
  rw [make_wire_ok h2, wireS_short (by omega), wireC_short (by omega)]
  congr 1
  apply Nm.ba_ext
  simp [h1]

end Go.Proofs.Ytakonfkefoeenag
