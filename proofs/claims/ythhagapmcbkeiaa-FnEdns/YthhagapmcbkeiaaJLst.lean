import Derived.Test.YthhagapmcbkeiaaJRd8
import Derived.Test.YthhagapmcbkeiaaHd1
import Derived.Test.YthhagapmcbkeiaaJSgN
import Derived.Test.YthhagapmcbkeiaaJRtW
import Derived.Test.YthhagapmcbkeiaaJIEr
import Derived.Test.YthhagapmcbkeiaaJMvM
/- A message's fields and lists. -/
namespace Go.Proofs.Ythhagapmcbkeiaa
open Go.RowKit
set_option linter.unusedVariables false

/-- A message of nothing; a message's fields. -/
def ms0 : Array Value := #[.int .i64 0, .bool false, .int .i64 0, .bool false, .bool false, .bool false, .bool false, .bool false, .bool false, .bool false, .int .i64 0, .slice none 0 0, .slice none 0 0, .slice none 0 0, .slice none 0 0]
def msA (d f : Nat) (q a u x : Value) : Array Value := #[.int .i64 d, .bool (f.testBit 15), .int .i64 ((f / 2048 % 16 : Nat) : Int), .bool (f.testBit 10), .bool (f.testBit 9), .bool (f.testBit 8), .bool (f.testBit 7), .bool (f.testBit 6), .bool (f.testBit 5), .bool (f.testBit 4), .int .i64 ((f % 16 : Nat) : Int), q, a, u, x]

/-- Two rows lie in blocks of their own. -/
def Apart (u v : Value) : Prop := ∀ k, u.ownBlock = some k → v.ownBlock ≠ some k

/-- A message's lists lie where its slices lead, in rows of the call's own. -/
structure Lists (w : World) (B : Nat) (m : Mm) (q a u x : Value) : Prop where
  rq : w.ownsRow B 83 3 q m.qs.length (quCs m.qs)
  ra : w.ownsRow B 27 5 a m.an.length (rrCs m.an)
  ru : w.ownsRow B 27 5 u m.au.length (rrCs m.au)
  rx : w.ownsRow B 27 5 x m.ex.length (rrCs m.ex)
  au : Apart a u
  ax : Apart a x
  ux : Apart u x

theorem apart_of {w : World} {B e s m : Nat} {v u : Value} {xs : List Value} (h : w.ownsRow B e s v m xs) (hu : ∀ k, u.ownBlock = some k → w.heap.size ≤ k) : Apart v u := by
  intro k hk hk2
  have h1 := (h.lt k hk).2
  have h2 := hu k hk2
  omega

theorem row_val {w : World} {B e s m : Nat} {v : Value} {xs : List Value} (h : w.ownsRow B e s v m xs) : ∃ a cap, v = .slice a m cap := by
  rcases h.2 with ⟨rfl, rfl⟩ | ⟨g', cap', cur, rfl, _⟩
  · exact ⟨_, _, rfl⟩
  · exact ⟨_, _, rfl⟩

theorem lists_below {B : Nat} {m : Mm} {q x y z : Value} {W W1 : World} (h : Lists W B m q x y z) (hb : Below W.heap.size W W1) : Lists W1 B m q x y z :=
  ⟨own_below h.rq hb, own_below h.ra hb, own_below h.ru hb, own_below h.rx hb, h.au, h.ax, h.ux⟩

end Go.Proofs.Ythhagapmcbkeiaa
/- What EdnsRecord told is read, through a message that is written and read: mathematics. -/
namespace Go.Proofs.Ythhagapmcbkeiaa
open Go.RowKit
set_option linter.unusedVariables false

/-- What was read, as a message. -/
def rrL (r : Rm) : Rr := ⟨⟨r.owner.toArray⟩, r.ty, r.cl, r.ttl, ⟨r.dat.toArray⟩⟩
def qrL (q : Qm) : Qr := ⟨⟨q.name.toArray⟩, q.ty, q.cl⟩
def mgL (d f : Nat) (M : Mm) : Mg := ⟨⟨d, f.testBit 15, ((f / 2048 % 16 : Nat) : Int), f.testBit 10, f.testBit 9, f.testBit 8, f.testBit 7, f.testBit 6, f.testBit 5, f.testBit 4, ((f % 16 : Nat) : Int)⟩, M.qs.map qrL, M.an.map rrL, M.au.map rrL, M.ex.map rrL⟩
theorem mgV_L (d f : Nat) (M : Mm) (q a u x : Value) : mgV (mgL d f M).hd q a u x = msA d f q a u x := rfl
theorem qv_L (xs : List Qm) : qvVs (xs.map qrL) = quCs xs := by
  induction xs with
  | nil => rfl
  | cons x xs ih =>
    have e1 : qvVs (qrL x :: xs.map qrL) = quC x ++ qvVs (xs.map qrL) := by simp [qvVs, qvV, qrL, quC]
    have e2 : quCs (x :: xs) = quC x ++ quCs xs := by simp [quCs]
    rw [List.map_cons, e1, e2, ih]
theorem rv_L (xs : List Rm) : rvVs (xs.map rrL) = rrCs xs := by
  induction xs with
  | nil => rfl
  | cons x xs ih =>
    have e2 : rrCs (x :: xs) = rrC x ++ rrCs xs := by simp [rrCs]
    rw [List.map_cons, rvVs_cons, e2, ih]
    rfl
theorem mrow_L {w : World} {B d f : Nat} {M : Mm} {q a u x : Value} (h : Lists w B M q a u x) : MRow w (mgL d f M) q a u x := by
  refine ⟨?_, ?_, ?_, ?_⟩
  · have := CRow.of_owns h.rq; rw [mgL]; simp only [List.length_map, qv_L]; exact this
  · have := CRow.of_owns h.ra; rw [mgL]; simp only [List.length_map, rv_L]; exact this
  · have := CRow.of_owns h.ru; rw [mgL]; simp only [List.length_map, rv_L]; exact this
  · have := CRow.of_owns h.rx; rw [mgL]; simp only [List.length_map, rv_L]; exact this

/-- The record, as a record. -/
def erR (size code flags : Int) (xs : List (Int × ByteArray)) : Rr := ⟨⟨#[0]⟩, 41, size, code * 16777216 + flags, ⟨(optsL xs).toArray⟩⟩
/-- A message with this record alone. -/
def erG (r : Rr) : Mg := ⟨⟨0, false, 0, false, false, false, false, false, false, false, 0⟩, [], [], [], [r]⟩

theorem erB_parts {size code flags : Int} {xs : List (Int × ByteArray)} (h : erB size code flags xs = true) : (0 ≤ size ∧ size ≤ 65535) ∧ (0 ≤ flags ∧ flags ≤ 65535) ∧ (0 ≤ code ∧ code ≤ 255) ∧ xs.all optB = true ∧ (optsL xs).length ≤ 65535 := by
  simp only [erB, Bool.and_eq_true, decide_eq_true_eq] at h
  obtain ⟨a, b, c, d, e⟩ := h
  exact ⟨a, b, c, d, e⟩
theorem cut41 {d : ByteArray} (h : d.size ≤ 65535) : cutCode 41 d = 0 := by
  have e : Dt.implP 41 = [.rs] := by simp [Dt.implP]
  have hs : (Dt.spans [.rs] 0 d).isSome = true := by
    rw [Dt.spans]
    simp [Dt.sz, Dt.spans]
  rw [cutCode, if_neg (by decide), if_neg (by omega), e, if_pos hs]
theorem root_some : (Nm.split ⟨#[0]⟩).isSome = true := by decide

theorem erG_ok {size code flags : Int} {xs : List (Int × ByteArray)} (h : erB size code flags xs = true) : mgOK (erG (erR size code flags xs)) = true := by
  obtain ⟨⟨a1, a2⟩, ⟨b1, b2⟩, ⟨c1, c2⟩, d, e⟩ := erB_parts h
  have hz : (⟨(optsL xs).toArray⟩ : ByteArray).size = (optsL xs).length := ba_size _
  have hr : rcOK (erR size code flags xs) = true := rcOK_of root_some (show (0 : Int) ≤ 41 by decide) (show (41 : Int) ≤ 65535 by decide) a1 a2 (show 0 ≤ code * 16777216 + flags by omega) (show code * 16777216 + flags ≤ 4294967295 by omega) (cut41 (show (⟨(optsL xs).toArray⟩ : ByteArray).size ≤ 65535 by rw [hz]; exact e))
  show (decide (0 + 0 + 0 + 1 ≤ 400) && hdOK ⟨0, false, 0, false, false, false, false, false, false, false, 0⟩ && true && true && true && (rcOK (erR size code flags xs) && true)) = true
  rw [hr]
  rfl

theorem and_mask (n k : Nat) (h : n < 9223372036854775808) (hk : k ≤ 60) (c : Int) (hc : c = ((2 ^ k - 1 : Nat) : Int)) : bits .and .i64 (n : Int) c = ((n % 2 ^ k : Nat) : Int) := by
  have h2 : 2 ^ k ≤ 2 ^ 60 := Nat.pow_le_pow_right (by decide) hk
  rw [hc, i64_and_nat n (2 ^ k - 1) h (by omega), Nat.and_two_pow_sub_one_eq_mod]
theorem ver_zero {code flags : Int} (c1 : 0 ≤ code) (c2 : code ≤ 255) (b1 : 0 ≤ flags) (b2 : flags ≤ 65535) : verI (code * 16777216 + flags) = 0 ∧ flgI (code * 16777216 + flags) = flags := by
  obtain ⟨c, rfl⟩ := Int.eq_ofNat_of_zero_le c1
  obtain ⟨f, rfl⟩ := Int.eq_ofNat_of_zero_le b1
  have e1 : ((c : Int) * 16777216 + (f : Int)) / 65536 = ((c * 256 : Nat) : Int) := by omega
  have e2 : ((c : Int) * 16777216 + (f : Int)) = ((c * 16777216 + f : Nat) : Int) := by omega
  constructor
  · rw [verI, e1, and_mask _ 8 (by omega) (by decide) 255 rfl]
    omega
  · rw [flgI, e2, and_mask _ 16 (by omega) (by decide) 65535 rfl]
    omega

/-- What was told is read. -/
theorem er_read {size code flags : Int} {xs : List (Int × ByteArray)} (h : erB size code flags xs = true) (d f : Nat) : edR (mgL d f (mmOf (erG (erR size code flags xs)))) = some ⟨true, size, 0, flags, xs⟩ := by
  obtain ⟨⟨a1, a2⟩, ⟨b1, b2⟩, ⟨c1, c2⟩, hd, he⟩ := erB_parts h
  obtain ⟨v1, v2⟩ := ver_zero c1 c2 b1 b2
  have er : rrL (rmOf (erR size code flags xs)) = erR size code flags xs := by
    simp only [rrL, rmOf, erR]
    congr 1
    · exact Int.toNat_of_nonneg a1
    · exact Int.toNat_of_nonneg (by omega)
  have e1 : (mgL d f (mmOf (erG (erR size code flags xs)))).an = [] := rfl
  have e2 : (mgL d f (mmOf (erG (erR size code flags xs)))).au = [] := rfl
  have e3 : (mgL d f (mmOf (erG (erR size code flags xs)))).ex = [erR size code flags xs] := by
    show [rrL (rmOf (erR size code flags xs))] = _
    rw [er]
  have ht : (erR size code flags xs).ty = 41 := rfl
  rw [edR, e1, e2, e3, if_neg (by simp [cntR, ht])]
  simp only [List.find?_cons, ht, decide_true]
  have ho : optR (erR size code flags xs).da.data.toList = some xs := by
    show optR (optsL xs).toArray.toList = _
    rw [List.toList_toArray]
    exact optR_back hd
  rw [ho]
  simp only
  rw [if_pos (show (erR size code flags xs).own.data.toList = [0] from rfl)]
  show some (Ed.mk true size (verI (code * 16777216 + flags)) (flgI (code * 16777216 + flags)) xs) = _
  rw [v1, v2]
end Go.Proofs.Ythhagapmcbkeiaa
