/- What ShowV4 answers: mathematics. -/
import Derived.Test.YtakonfkefoeenaaDoorTxtM
import Derived.Lib.Join
namespace Go.Proofs.YtakonfkefoeenaaDoor
open Go.RowKit

def v4Text (s : ByteArray) : List UInt8 := Lib.join (s.data.toList.map fun c => decL c.toNat) [46]
def showV4S (s : ByteArray) : ByteArray × Int := if s.size = 4 then (⟨(v4Text s).toArray⟩, 0) else (⟨#[]⟩, 7)
theorem v4Text_four {s : ByteArray} (h : s.size = 4) : (⟨(v4Text s).toArray⟩ : ByteArray) = decS s[0].toNat ++ ⟨#[46]⟩ ++ decS s[1].toNat ++ ⟨#[46]⟩ ++ decS s[2].toNat ++ ⟨#[46]⟩ ++ decS s[3].toNat := by
  have e : s.data.toList = [s[0], s[1], s[2], s[3]] := by
    refine List.ext_getElem (by simpa using h) ?_
    intro i h1 h2
    have hi : i < 4 := by simpa using h2
    rcases i with _ | _ | _ | _ | i
    · rfl
    · rfl
    · rfl
    · rfl
    · omega
  apply Nm.ba_ext
  rw [v4Text, e]
  simp [Lib.join, decS]
theorem dec_small {n : Nat} (h : n < 256) : (decS n).size ≤ 20 := by
  have := decL_len20 (n := n) (by omega)
  show (decL n).toArray.size ≤ 20
  simpa using this

theorem tail_len : ∀ (r : List ByteArray), (∀ x ∈ r, x.size ≤ 20) → (Lib.joinTail [46] (r.map (·.data.toList))).length ≤ 21 * r.length := by
  intro r
  induction r with
  | nil => intro _; simp [Lib.joinTail]
  | cons x r ih =>
    intro h
    have hx := h x (List.mem_cons_self)
    have ihr := ih (fun y hy => h y (List.mem_cons_of_mem _ hy))
    have hz : x.data.toList.length = x.size := by simp
    simp only [Lib.joinTail, List.map_cons, List.flatten_cons, List.length_append, List.length_cons, List.length_nil] at ihr ⊢
    omega
theorem join_len (ls : List ByteArray) (h : ∀ x ∈ ls, x.size ≤ 20) : (Lib.join (ls.map (·.data.toList)) [46]).length ≤ 21 * ls.length := by
  cases ls with
  | nil => simp [Lib.join_nil]
  | cons x r =>
    have hx := h x (List.mem_cons_self)
    have ihr := tail_len r (fun y hy => h y (List.mem_cons_of_mem _ hy))
    have hz : x.data.toList.length = x.size := by simp
    rw [List.map_cons, Lib.join_cons, List.length_append, List.length_cons]
    omega

def v4Parts (l : List UInt8) : List ByteArray := l.map fun c => decS c.toNat
theorem v4Parts_step {l : List UInt8} {k : Nat} {c : UInt8} (h : l[k]? = some c) : v4Parts (l.take (k + 1)) = v4Parts (l.take k) ++ [decS c.toNat] := by
  rw [Nm.take_step h]; simp [v4Parts]
theorem v4_joined (s : ByteArray) : (⟨(Lib.join ((v4Parts s.data.toList).map (·.data.toList)) [46]).toArray⟩ : ByteArray) = ⟨(v4Text s).toArray⟩ := by
  rw [v4Text, v4Parts, List.map_map]
  congr 2
end Go.Proofs.YtakonfkefoeenaaDoor
