import Derived.Test.YtinbaopcapnbgaaShM
import Derived.Test.YtinbaopcapnbgaaByS
import Derived.Maps.AppendAt
/- Keyed sums: mathematics; rows of one's own beside each other; bytes as text. -/
namespace Go.Proofs.Ytinbaopcapnbgaa
open Go.RowKit
set_option linter.unusedVariables false

/-- a key of 64 bytes -/
def padK (l : List UInt8) : List UInt8 := l ++ List.replicate (64 - l.length) 0
def keyL (l : List UInt8) : List UInt8 := padK (if 64 < l.length then shaL l else l)
def hmacL (k b : List UInt8) : List UInt8 := shaL ((keyL k).map (· ^^^ 92) ++ shaL ((keyL k).map (· ^^^ 54) ++ b))

theorem padK_len {l : List UInt8} (h : l.length ≤ 64) : (padK l).length = 64 := by simp [padK]; omega
theorem padK_at {l : List UInt8} {i : Nat} (h : i < l.length) : (padK l)[i]? = l[i]? := by rw [padK, List.getElem?_append_left h]
theorem padK_zero {l : List UInt8} {i : Nat} (h : l.length ≤ i) (h2 : i < 64) : (padK l)[i]? = some 0 := by
  rw [padK, List.getElem?_append_right h, List.getElem?_replicate, if_pos (by omega)]
theorem mix_take {l : List UInt8} {i : Nat} {c m : UInt8} (h : l[i]? = some c) : Nm.bys ((l.take (i + 1)).map (· ^^^ m)) = Nm.bys ((l.take i).map (· ^^^ m)) ++ [.int .u8 ((c ^^^ m).toNat : Int)] := by
  rw [List.take_add_one, h, List.map_append, Nm.bys_append]
  rfl

theorem row_strB {w : World} {v : Value} {l : List UInt8} {n : Nat} (h : CRow w v n 1 (Nm.bys l)) : (convert 59 9 v).run Try.prog w = .ok (.string ⟨l.toArray⟩) w := by
  obtain ⟨hl, a, cap, rfl, h1, h2, h3⟩ := h
  rw [Nm.bys_length, Nat.mul_one] at hl
  subst hl
  rcases Nat.eq_zero_or_pos l.length with h0 | hpos
  · have : l = [] := List.length_eq_zero_iff.1 h0
    subst this
    cases a with
    | none => exact (run_convert_bytes_string w 59 9 5 none 0 cap Try.underlying59 Try.underlying5 Try.underlying9).trans rfl
    | some x => exact run_convert_bytes_back w 59 9 5 x cap [] Try.underlying59 Try.underlying5 Try.underlying9 (by intro j hj; simp at hj)
  · obtain ⟨b, off, rfl, hc⟩ := h3 hpos
    refine run_convert_bytes_back w 59 9 5 ⟨b, off, none⟩ cap l Try.underlying59 Try.underlying5 Try.underlying9 ?_
    intro j hj
    rw [Nm.addr_add]
    exact hc j _ (by simp [Nm.bys, hj])

theorem byte_of (l : List UInt8) (k : Nat) (c : UInt8) (hk : l[k]? = some c) (W : World) : (Instr.index 9 (.string ⟨l.toArray⟩) (.int .i64 (k : Int))).run Try.prog W = .ok (.int .u8 (c.toNat : Int)) W := by
  obtain ⟨hlt, he⟩ := List.getElem?_eq_some_iff.1 hk
  have hs : k < (ByteArray.mk l.toArray).size := by show k < l.toArray.size; simpa using hlt
  rw [run_index_string W 9 ⟨l.toArray⟩ .i64 (k : Int) Try.underlying9]
  have e : (ByteArray.mk l.toArray)[k]'hs = c := by rw [← he]; simp [ByteArray.getElem_eq_getElem_data]
  simp [hs, e]

/-- Two rows lie in blocks of their own. -/
def Apr (u v : Value) : Prop := ∀ k, u.ownBlock = some k → v.ownBlock ≠ some k
theorem Apr.symm {u v : Value} (h : Apr u v) : Apr v u := fun k h1 h2 => h k h2 h1
theorem apr_kept {W W1 : World} {B e s m : Nat} {v u : Value} {xs : List Value} (h : W.ownsRow B e s v m xs) (hg : W.grownBy W1 u.ownBlock) (ha : Apr u v) : W1.ownsRow B e s v m xs := by
  refine h.kept hg ?_
  cases hu : u.ownBlock with
  | none =>
    cases hv : v.ownBlock with
    | none => exact .inl rfl
    | some k => right; simp
  | some k => right; exact ha k hu
theorem apr_after {W : World} {B e s m : Nat} {v v' u : Value} {ys : List Value} (hat : v'.ownBlock = v.ownBlock ∨ v'.ownBlock = some W.heap.size) (ha : Apr v u) (hu : W.ownsRow B e s u m ys) : Apr v' u := by
  intro k hk hk2
  rcases hat with h | h
  · exact ha k (by rw [← h]; exact hk) hk2
  · rw [h] at hk
    have := (hu.lt k hk2).2
    simp only [Option.some.injEq] at hk
    omega
end Go.Proofs.Ytinbaopcapnbgaa
