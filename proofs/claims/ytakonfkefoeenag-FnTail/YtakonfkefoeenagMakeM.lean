/- MakeName, as plain mathematics. -/
import Derived.Test.YtakonfkefoeenagWire
namespace Go.Proofs.Ytakonfkefoeenag
open Go.RowKit

def badB (x : ByteArray) : Bool := decide (x.size < 1 ∨ 63 < x.size)

def makeS (ls : List ByteArray) : ByteArray × Int :=
  if 127 < ls.length then (ByteArray.empty, 3)
  else if ls.any badB then (ByteArray.empty, 2)
  else if 255 < 1 + Nm.wsum ls then (ByteArray.empty, 3)
  else (⟨(Nm.joinL ls).toArray⟩, 0)

theorem wsum_good : ∀ (ls : List ByteArray), ls.any badB = false → Nm.wsum ls ≤ 64 * ls.length := by
  intro ls
  induction ls with
  | nil => intro _; simp [Nm.wsum]
  | cons x r ih =>
    intro h
    simp only [List.any_cons, Bool.or_eq_false_iff] at h
    have h1 : ¬ (x.size < 1 ∨ 63 < x.size) := by simpa [badB] using h.1
    have := ih h.2
    simp only [Nm.wsum, List.length_cons]; omega

theorem any_step {ls : List ByteArray} {k : Nat} {x : ByteArray} (h : ls[k]? = some x) (h0 : (ls.take k).any badB = false) (hg : ¬ (x.size < 1 ∨ 63 < x.size)) : (ls.take (k + 1)).any badB = false := by
  have : badB x = false := by simpa [badB] using hg
  rw [Nm.take_step h]; simp [h0, this]

theorem any_bad {ls : List ByteArray} {k : Nat} {x : ByteArray} (h : ls[k]? = some x) (hg : x.size < 1 ∨ 63 < x.size) : ls.any badB = true := by
  rw [List.any_eq_true]
  exact ⟨x, List.mem_of_getElem? h, by simpa [badB] using hg⟩

theorem make_bad {ls : List ByteArray} (h : ls.length ≤ 127) (hb : ls.any badB = true) : makeS ls = (ByteArray.empty, 2) := by
  rw [makeS, if_neg (by omega), if_pos hb]
theorem make_many {ls : List ByteArray} (h : 127 < ls.length) : makeS ls = (ByteArray.empty, 3) := by rw [makeS, if_pos h]
theorem make_long {ls : List ByteArray} (h : ls.length ≤ 127) (hb : ls.any badB = false) (hl : 255 < 1 + Nm.wsum ls) : makeS ls = (ByteArray.empty, 3) := by
  rw [makeS, if_neg (by omega), if_neg (by simp [hb]), if_pos hl]
theorem make_good {ls : List ByteArray} (h : ls.length ≤ 127) (hb : ls.any badB = false) (hl : ¬ 255 < 1 + Nm.wsum ls) : makeS ls = (⟨(Nm.joinL ls).toArray⟩, 0) := by
  rw [makeS, if_neg (by omega), if_neg (by simp [hb]), if_neg hl]

theorem make_wire {ls : List ByteArray} (h : ls.length ≤ 127) (hb : ls.any badB = false) : makeS ls = (wireS ls, wireC ls) := by
  by_cases hl : 255 < 1 + Nm.wsum ls
  · rw [make_long h hb hl, wireS, wireC, if_pos hl, if_pos hl]
  · rw [make_good h hb hl, wireS, wireC, if_neg hl, if_neg hl]

end Go.Proofs.Ytakonfkefoeenag
