import Derived.Test.YtjokdmmlofbknaaDoorJV4T
import Derived.Test.YtjokdmmlofbknaaDoorJZeros
import Derived.Test.YtjokdmmlofbknaaDoorJJoin
import Derived.Test.YtjokdmmlofbknaaDoorJDraw6
import Derived.Test.YtjokdmmlofbknaaDoorJMath
import Derived.Test.YtjokdmmlofbknaaDoorJReadM
import Derived.Test.YtjokdmmlofbknaaDoorJTyM
import Derived.Test.YtjokdmmlofbknaaDoorJIGrp
import Derived.Deep.RegionHeld3
import Derived.BigQuiet
import Derived.Deep.QuietTactic
import Derived.Deep.RegionWith
/- spec.l02Put at width 2 by its contract. -/
namespace Go.Proofs.YtjokdmmlofbknaaDoor
open Go.RowKit

theorem put2_cells {n : Nat} (h : n < 65536) : Nm.bys (put2 n) = [.int .u8 ((n : Int) / 256), .int .u8 ((n : Int) % 256)] := by
  simp [Nm.bys, put2]
  omega

theorem put2_step {W wr w1 : World} {v v' : Value} {B e n : Nat} {l : List Value} {x : Value} (hB : B ≤ wr.heap.size)
    (hown : wr.ownsRow B e 1 v n l) (hbel : Below B W wr) (o : Obj) (hgrow : (wr.alloc o).grownBy w1 v.ownBlock)
    (hown' : w1.ownsRow B e 1 v' (n + 1) (l ++ [x])) :
    w1.ownsRow B e 1 v' (n + 1) (l ++ [x]) ∧ Below B W w1 := by
  refine ⟨hown', ?_⟩
  refine (hbel.alloc hB o).grown hgrow (by simp; omega) ?_
  intro k hk
  exact (hown.lt k hk).1

end Go.Proofs.YtjokdmmlofbknaaDoor
/- spec.l03Cut by its contract. -/
namespace Go.Proofs.YtjokdmmlofbknaaDoor
open Go.RowKit

end Go.Proofs.YtjokdmmlofbknaaDoor
/- spec.ReadV4 by its contract. -/
namespace Go.Proofs.YtjokdmmlofbknaaDoor
open Go.RowKit

theorem str_eqB {a b : ByteArray} (h : a = b) : (a.toList == b.toList) = true := by simp [h]
theorem str_neB {a b : ByteArray} (h : a ≠ b) : (a.toList == b.toList) = false := by
  rw [beq_eq_false_iff_ne]
  intro e
  rw [ByteArray.toList_eq, ByteArray.toList_eq] at e
  exact h (Nm.ba_ext e)
theorem byte_nat {n : Nat} (h : n ≤ 255) : ((UInt8.ofNat n).toNat : Int) = (n : Int) := by simp; omega

end Go.Proofs.YtjokdmmlofbknaaDoor
/- spec.l03Hex by its contract. -/
namespace Go.Proofs.YtjokdmmlofbknaaDoor
open Go.RowKit

end Go.Proofs.YtjokdmmlofbknaaDoor
/- spec.l03Groups by its contract. -/
namespace Go.Proofs.YtjokdmmlofbknaaDoor
open Go.RowKit

/-- What l03Groups tells. -/
def grpV (o : Option (List UInt8)) : Value := .tuple #[.string ⟨(o.getD []).toArray⟩, .bool o.isSome]

theorem part_v4 {p : ByteArray} (h : (readV4S p).2 = 0) : gPart p true = some (readV4S p).1.data.toList := by rw [gPart, if_pos ⟨rfl, h⟩]
theorem part_hex {p : ByteArray} {b : Bool} (h : ¬ (b = true ∧ (readV4S p).2 = 0)) : gPart p b = (grpO p).map put2 := by rw [gPart, if_neg h]
theorem v4_code (p : ByteArray) : (readV4S p).2 = 0 ∨ (readV4S p).2 = 7 := by
  unfold readV4S
  split
  · split <;> simp
  · simp
theorem cat_string (o b : List UInt8) : (⟨o.toArray⟩ : ByteArray) ++ ⟨b.toArray⟩ = ⟨(o ++ b).toArray⟩ := by
  apply Nm.ba_ext; simp

end Go.Proofs.YtjokdmmlofbknaaDoor
/- spec.ReadV6 by its contract. -/
namespace Go.Proofs.YtjokdmmlofbknaaDoor
open Go.RowKit

theorem gap_bad1 {s : ByteArray} {i : Nat} (h : groupsS (s.extract 0 i) false = none) : v6Gap s i = (⟨#[]⟩, 7) := by rw [v6Gap, h]
theorem gap_bad2 {s : ByteArray} {i : Nat} (h : groupsS (s.extract (i + 2) s.size) true = none) : v6Gap s i = (⟨#[]⟩, 7) := by
  rw [v6Gap, h]
  cases groupsS (s.extract 0 i) false <;> rfl
theorem gap_big {s : ByteArray} {i : Nat} {a b : List UInt8} (h1 : groupsS (s.extract 0 i) false = some a) (h2 : groupsS (s.extract (i + 2) s.size) true = some b) (h : 14 < a.length + b.length) : v6Gap s i = (⟨#[]⟩, 7) := by
  rw [v6Gap, h1, h2]; simp only; rw [if_pos h]
theorem gap_good {s : ByteArray} {i : Nat} {a b : List UInt8} (h1 : groupsS (s.extract 0 i) false = some a) (h2 : groupsS (s.extract (i + 2) s.size) true = some b) (h : ¬ 14 < a.length + b.length) : v6Gap s i = (⟨(a ++ List.replicate (16 - a.length - b.length) 0 ++ b).toArray⟩, 0) := by
  rw [v6Gap, h1, h2]; simp only; rw [if_neg h]
theorem whole_bad {s : ByteArray} (h : groupsS s true = none) : v6Whole s = (⟨#[]⟩, 7) := by rw [v6Whole, h]
theorem whole_len {s : ByteArray} {o : List UInt8} (h : groupsS s true = some o) (hl : o.length ≠ 16) : v6Whole s = (⟨#[]⟩, 7) := by rw [v6Whole, h]; simp only; rw [if_neg hl]
theorem whole_good {s : ByteArray} {o : List UInt8} (h : groupsS s true = some o) (hl : o.length = 16) : v6Whole s = (⟨o.toArray⟩, 0) := by rw [v6Whole, h]; simp only; rw [if_pos hl]
theorem arr_size (l : List UInt8) : (⟨l.toArray⟩ : ByteArray).size = l.length := rfl

end Go.Proofs.YtjokdmmlofbknaaDoor
