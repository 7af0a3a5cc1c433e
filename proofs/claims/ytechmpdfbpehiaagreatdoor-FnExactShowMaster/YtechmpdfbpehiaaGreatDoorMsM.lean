import Derived.Test.YtechmpdfbpehiaaGreatDoorJV6M
import Derived.Test.YtechmpdfbpehiaaGreatDoorMsP
/- A zone's text of records: mathematics. -/
namespace Go.Proofs.YtechmpdfbpehiaaGreatDoor
open Go.RowKit
set_option linter.unusedVariables false

/-- A record that may be written into a zone's text. -/
def mrOK (r : Rr) : Bool := (Nm.split r.own).isSome && r.cl == 1 && (decide (0 ≤ r.tt) && decide (r.tt ≤ 2147483647)) && !metaB r.ty && cutCode r.ty r.da == 0

def lineS (S4 S6 : ByteArray → ByteArray × Int) (r : Rr) : ByteArray := joinS [(Nm.showS r.own).1, decS r.tt.toNat, ⟨#[73, 78]⟩, showTypeS r.ty, (showDS S4 S6 r.ty r.da).1] ++ ⟨#[10]⟩
def outF (S4 S6 : ByteArray → ByteArray × Int) : List Rr → ByteArray → ByteArray × Int
  | [], a => (a, 0)
  | r :: xs, a => if 40000 < (a ++ lineS S4 S6 r).size then (⟨#[]⟩, 11) else outF S4 S6 xs (a ++ lineS S4 S6 r)
def masterS (S4 S6 : ByteArray → ByteArray × Int) (xs : List Rr) : ByteArray × Int :=
  if 500 < xs.length then (⟨#[]⟩, 12) else if xs.all mrOK then outF S4 S6 xs ⟨#[]⟩ else (⟨#[]⟩, 32)

theorem line_eq (S4 S6 : ByteArray → ByteArray × Int) (r : Rr) (a : ByteArray) : a ++ lineS S4 S6 r = a ++ (Nm.showS r.own).1 ++ ⟨#[32]⟩ ++ decS r.tt.toNat ++ ⟨#[32, 73, 78, 32]⟩ ++ showTypeS r.ty ++ ⟨#[32]⟩ ++ (showDS S4 S6 r.ty r.da).1 ++ ⟨#[10]⟩ := by
  apply ba_ext
  unfold lineS joinS
  simp only [List.map_cons, List.map_nil]
  rw [Lib.join_cons]
  simp [Lib.joinTail, ByteArray.data_append]

theorem showDS_len {S4 S6 : ByteArray → ByteArray × Int} (h4 : ∀ s, (S4 s).1.size ≤ 200) (h6 : ∀ s, (S6 s).1.size ≤ 200) (t : Int) (d : ByteArray) : (showDS S4 S6 t d).1.size ≤ 100000000 := by
  unfold showDS
  split
  · rename_i hc
    exact (data_len h4 h6 hc).1
  · exact Nat.zero_le _

theorem mr_facts {r : Rr} (h : mrOK r = true) : (Nm.split r.own).isSome = true ∧ r.cl = 1 ∧ (0 ≤ r.tt ∧ r.tt ≤ 2147483647) ∧ metaB r.ty = false ∧ cutCode r.ty r.da = 0 := by
  unfold mrOK at h
  simp only [Bool.and_eq_true, beq_iff_eq, decide_eq_true_eq, Bool.not_eq_true'] at h
  obtain ⟨⟨⟨⟨a, b⟩, c⟩, d⟩, e⟩ := h
  exact ⟨a, b, c, d, e⟩

theorem outF_step {S4 S6 : ByteArray → ByteArray × Int} {xs : List Rr} {k : Nat} {x : Rr} (h : xs[k]? = some x) (a : ByteArray) : outF S4 S6 (xs.drop k) a = if 40000 < (a ++ lineS S4 S6 x).size then (⟨#[]⟩, 11) else outF S4 S6 (xs.drop (k + 1)) (a ++ lineS S4 S6 x) := by
  obtain ⟨hk, hx⟩ := List.getElem?_eq_some_iff.1 h
  rw [List.drop_eq_getElem_cons hk, hx, outF]

theorem all_take {xs : List Rr} {k : Nat} {x : Rr} (h : xs[k]? = some x) : (xs.take (k + 1)).all mrOK = ((xs.take k).all mrOK && mrOK x) := by
  rw [List.take_add_one, h]
  simp
end Go.Proofs.YtechmpdfbpehiaaGreatDoor
