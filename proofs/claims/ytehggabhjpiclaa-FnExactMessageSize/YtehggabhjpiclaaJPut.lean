import Derived.Test.YtehggabhjpiclaaJFreeB
import Derived.Test.YtehggabhjpiclaaJBitM
import Derived.Lib.AppendStr
import Derived.Test.YtehggabhjpiclaaJCutM
/- spec.l02Put by its contract. -/
namespace Go.Proofs.Ytehggabhjpiclaa
open Go.RowKit

def byteI (x : Int) : UInt8 := UInt8.ofNat (x % 256).toNat
theorem byteI_val (x : Int) : ((byteI x).toNat : Int) = x % 256 := by
  have h1 : 0 ≤ x % 256 := by omega
  have h2 : x % 256 < 256 := by omega
  have : (byteI x).toNat = (x % 256).toNat := by simp [byteI]; omega
  rw [this]; omega

def put4 (n : Int) : List UInt8 := [byteI (n / 16777216), byteI (n / 65536), byteI (n / 256), byteI n]

theorem put4_cells (n : Int) : Nm.bys (put4 n) = [.int .u8 (n / 16777216 % 256), .int .u8 (n / 65536 % 256), .int .u8 (n / 256 % 256), .int .u8 (n % 256)] := by
  simp [Nm.bys, put4, byteI_val]

theorem cell_new4 (w : World) (a b c d : Value) (e : Nat) : ∀ (j : Nat) (u : Value), [a, b, c, d][j]? = some u → (w.alloc (.cells #[a, b, c, d] e)).cell? ((⟨w.heap.size, 0, none⟩ : Addr).add j) = some u := by
  intro j u hj
  match j, hj with
  | 0, hj => simp at hj; subst hj; simp [Addr.add]
  | 1, hj => simp at hj; subst hj; simp [Addr.add]
  | 2, hj => simp at hj; subst hj; simp [Addr.add]
  | 3, hj => simp at hj; subst hj; simp [Addr.add]

theorem put_step {W wr w1 : World} {v v' : Value} {B e n : Nat} {l : List Value} {x : Value} (hB : B ≤ wr.heap.size)
    (hown : wr.ownsRow B e 1 v n l) (hbel : Below B W wr) (o : Obj) (hgrow : (wr.alloc o).grownBy w1 v.ownBlock)
    (hown' : w1.ownsRow B e 1 v' (n + 1) (l ++ [x])) :
    w1.ownsRow B e 1 v' (n + 1) (l ++ [x]) ∧ Below B W w1 := by
  refine ⟨hown', ?_⟩
  refine (hbel.alloc hB o).grown hgrow (by simp; omega) ?_
  intro k hk
  exact (hown.lt k hk).1

set_option maxRecDepth 100000 in
set_option maxHeartbeats 800000 in
theorem l02Put_any (n : Int) (w : World) (h0 : 0 ≤ n) (h1 : n ≤ 4294967295) :
    Calls Try.prog 43 #[.int .i64 n, .int .i64 4] w fun e w' => e = .returned (.string ⟨(put4 n).toArray⟩) ∧ Below w.heap.size w w' := by
  obtain ⟨i0, hi, hz0, hz1, hz2⟩ := info_parts Try.infoB
  have hcs := put4_cells n
  have e : n / 16777216 % 256 = n / 16777216 := by omega
  rw [e] at hcs
  clear e
  go_enter Try.func43, Try.ntmps43
  go_wp2
  go_loopw [5, 6] (fun v i wr => ∃ j : Nat, j ≤ 4 ∧ i = .int .i64 (3 - (j : Int)) ∧ wr.ownsRow w.heap.size 5 1 v j ([Value.int .u8 (n / 16777216), .int .u8 (n / 65536 % 256), .int .u8 (n / 256 % 256), .int .u8 (n % 256)].take j) ∧ Below w.heap.size w wr)
    (fun _ i _ => (intOf i + 1).toNat)
  case atStart => exact ⟨0, by omega, rfl, World.ownsRow_made w #[] 0 (Nat.le_refl _) (by decide) rfl, (Below.refl _ _).alloc (Nat.le_refl _) _⟩
  case round =>
    obtain ⟨j, hj, rfl, hown, hbel⟩ := hrel
    have hsz := hbel.size
    obtain rfl | rfl | rfl | rfl | rfl : j = 0 ∨ j = 1 ∨ j = 2 ∨ j = 3 ∨ j = 4 := by omega
    · simp only [List.take_zero, Int.sub_zero, Int.cast_ofNat_Int] at hown ⊢
      go_wp2_with (at_builtin; refine wpList_append_own _ rfl (.tmp 14) (.tmp 21) 42 rfl w.heap.size 5 i0 (.int .u8 0) 1 1 Try.underlying42 hi hz0 hz1 hz2 rfl (by decide) _ _ _ rfl (hown.alloc _) ⟨wr.heap.size, 0, none⟩ 1 1 [.int .u8 (n / 16777216)] rfl rfl (cell_new1 _ _ _) (Nm.one_cell _ rfl) (by unfold maxLen; omega) (by omega) (by simp; omega) ?_)
      intro v' w1 hown' hgrow _
      have R := put_step hsz hown hbel _ hgrow hown'
      clear hown' hgrow hown hbel
      go_wp2
      go_roundw
      case rel => exact ⟨1, by omega, by go_num, R.1, R.2⟩
      case measure => simp [intOf]
    · simp only [List.take_succ_cons, List.take_zero] at hown ⊢
      go_wp2_with (at_builtin; refine wpList_append_own _ rfl (.tmp 14) (.tmp 21) 42 rfl w.heap.size 5 i0 (.int .u8 0) 1 1 Try.underlying42 hi hz0 hz1 hz2 rfl (by decide) _ _ _ rfl (hown.alloc _) ⟨wr.heap.size, 0, none⟩ 1 1 [.int .u8 (n / 65536 % 256)] rfl rfl (cell_new1 _ _ _) (Nm.one_cell _ rfl) (by unfold maxLen; omega) (by omega) (by simp; omega) ?_)
      intro v' w1 hown' hgrow _
      have R := put_step hsz hown hbel _ hgrow hown'
      clear hown' hgrow hown hbel
      go_wp2
      go_roundw
      case rel => exact ⟨2, by omega, by go_num, R.1, R.2⟩
      case measure => simp [intOf]
    · simp only [List.take_succ_cons, List.take_zero] at hown ⊢
      go_wp2_with (at_builtin; refine wpList_append_own _ rfl (.tmp 14) (.tmp 21) 42 rfl w.heap.size 5 i0 (.int .u8 0) 1 1 Try.underlying42 hi hz0 hz1 hz2 rfl (by decide) _ _ _ rfl (hown.alloc _) ⟨wr.heap.size, 0, none⟩ 1 1 [.int .u8 (n / 256 % 256)] rfl rfl (cell_new1 _ _ _) (Nm.one_cell _ rfl) (by unfold maxLen; omega) (by omega) (by simp; omega) ?_)
      intro v' w1 hown' hgrow _
      have R := put_step hsz hown hbel _ hgrow hown'
      clear hown' hgrow hown hbel
      go_wp2
      go_roundw
      case rel => exact ⟨3, by omega, by go_num, R.1, R.2⟩
      case measure => simp [intOf]
    · simp only [List.take_succ_cons, List.take_zero] at hown ⊢
      go_wp2_with (at_builtin; refine wpList_append_own _ rfl (.tmp 14) (.tmp 21) 42 rfl w.heap.size 5 i0 (.int .u8 0) 1 1 Try.underlying42 hi hz0 hz1 hz2 rfl (by decide) _ _ _ rfl (hown.alloc _) ⟨wr.heap.size, 0, none⟩ 1 1 [.int .u8 (n % 256)] rfl rfl (cell_new1 _ _ _) (Nm.one_cell _ rfl) (by unfold maxLen; omega) (by omega) (by simp; omega) ?_)
      intro v' w1 hown' hgrow _
      have R := put_step hsz hown hbel _ hgrow hown'
      clear hown' hgrow hown hbel
      go_wp2
      go_roundw
      case rel => exact ⟨4, by omega, by go_num, R.1, R.2⟩
      case measure => simp [intOf]
    · simp only [List.take_succ_cons, List.take_zero] at hown ⊢
      rw [← hcs] at hown
      have HC := Nm.conv_own (P := Try.prog) (src := 42) (dst := 9) Try.underlying42 Try.underlying5 Try.underlying9 hown (by omega)
      obtain ⟨g, cap, rfl, hcv⟩ := HC
      clear hown
      go_wp2
      go_ret
      exact ⟨rfl, hbel⟩
end Go.Proofs.Ytehggabhjpiclaa
/- Records as they come in: mathematics. -/
namespace Go.Proofs.Ytehggabhjpiclaa
open Go.RowKit
set_option linter.unusedVariables false

/-- A record: its owner, type, class, time and data. -/
structure Rr where
  own : ByteArray
  ty : Int
  cl : Int
  tt : Int
  da : ByteArray

def rvV (r : Rr) : List Value := [.string r.own, .int .i64 r.ty, .int .i64 r.cl, .int .i64 r.tt, .string r.da]
def rvVs (xs : List Rr) : List Value := xs.flatMap rvV
theorem rvVs_cons (x : Rr) (xs : List Rr) : rvVs (x :: xs) = rvV x ++ rvVs xs := by simp [rvVs]
theorem rvVs_app (a b : List Rr) : rvVs (a ++ b) = rvVs a ++ rvVs b := by simp [rvVs]
theorem rvVs_len (xs : List Rr) : (rvVs xs).length = xs.length * 5 := by
  induction xs with
  | nil => rfl
  | cons x xs ih =>
    have : (rvV x).length = 5 := rfl
    rw [rvVs_cons, List.length_append, ih, List.length_cons, this]; omega

theorem rvVs_at : ∀ (xs : List Rr) (k j : Nat) (x : Rr), xs[k]? = some x → j < 5 → (rvVs xs)[k * 5 + j]? = (rvV x)[j]? := by
  intro xs
  induction xs with
  | nil => intro k j x h; simp at h
  | cons y xs ih =>
    intro k j x h hj
    have hl : (rvV y).length = 5 := rfl
    cases k with
    | zero =>
      simp at h; subst h
      rw [rvVs_cons, Nat.zero_mul, Nat.zero_add, List.getElem?_append_left (by omega)]
    | succ k =>
      simp at h
      rw [rvVs_cons, List.getElem?_append_right (by omega), hl, show (k + 1) * 5 + j - 5 = k * 5 + j by omega]
      exact ih k j x h hj

theorem rv_cells {w : World} {xs : List Rr} {b off k : Nat} {x : Rr} (hc : ∀ (i : Nat) (y : Value), (rvVs xs)[i]? = some y → w.cell? ⟨b, off + i, none⟩ = some y) (h : xs[k]? = some x) :
    w.cell? ⟨b, off + k * 5, none⟩ = some (.string x.own) ∧ w.cell? ⟨b, off + k * 5 + 1, none⟩ = some (.int .i64 x.ty) ∧ w.cell? ⟨b, off + k * 5 + 2, none⟩ = some (.int .i64 x.cl) ∧ w.cell? ⟨b, off + k * 5 + 3, none⟩ = some (.int .i64 x.tt) ∧ w.cell? ⟨b, off + k * 5 + 4, none⟩ = some (.string x.da) :=
  ⟨hc (k * 5) _ ((rvVs_at xs k 0 x h (by decide)).trans rfl), hc (k * 5 + 1) _ ((rvVs_at xs k 1 x h (by decide)).trans rfl), hc (k * 5 + 2) _ ((rvVs_at xs k 2 x h (by decide)).trans rfl), hc (k * 5 + 3) _ ((rvVs_at xs k 3 x h (by decide)).trans rfl), hc (k * 5 + 4) _ ((rvVs_at xs k 4 x h (by decide)).trans rfl)⟩

/-- The bytes of records, as the laws count them. -/
def rsum : List Rr → Nat
  | [] => 0
  | x :: xs => x.own.size + x.da.size + rsum xs
theorem rsum_step : ∀ (xs : List Rr) (k : Nat) (x : Rr), xs[k]? = some x → rsum (xs.take (k + 1)) = rsum (xs.take k) + (x.own.size + x.da.size) := by
  intro xs
  induction xs with
  | nil => intro k x h; simp at h
  | cons y xs ih =>
    intro k x h
    cases k with
    | zero => simp at h; subst h; simp [rsum]
    | succ k =>
      simp at h
      have := ih k x h
      simp only [List.take_succ_cons, rsum]; omega
theorem rsum_take_le : ∀ (xs : List Rr) (k : Nat), rsum (xs.take k) ≤ rsum xs := by
  intro xs
  induction xs with
  | nil => intro k; simp [rsum]
  | cons y xs ih =>
    intro k
    cases k with
    | zero => simp [rsum]
    | succ k => have := ih k; simp only [List.take_succ_cons, rsum]; omega
theorem rsum_mem : ∀ (xs : List Rr) (x : Rr), x ∈ xs → x.own.size + x.da.size ≤ rsum xs := by
  intro xs
  induction xs with
  | nil => intro x h; simp at h
  | cons y xs ih =>
    intro x h
    rcases List.mem_cons.1 h with rfl | h
    · simp only [rsum]; omega
    · have := ih x h; simp only [rsum]; omega
def szRS (xs : List Rr) (L : Int) : Int := if (xs.length : Int) + (rsum xs : Int) ≤ L then L - xs.length - rsum xs else -1
end Go.Proofs.Ytehggabhjpiclaa
/- Questions as they come in: mathematics. -/
namespace Go.Proofs.Ytehggabhjpiclaa
open Go.RowKit
set_option linter.unusedVariables false

/-- A question: its name, type and class. -/
structure Qr where
  nm : ByteArray
  ty : Int
  cl : Int

def qvV (r : Qr) : List Value := [.string r.nm, .int .i64 r.ty, .int .i64 r.cl]
def qvVs (xs : List Qr) : List Value := xs.flatMap qvV
theorem qvVs_cons (x : Qr) (xs : List Qr) : qvVs (x :: xs) = qvV x ++ qvVs xs := by simp [qvVs]
theorem qvVs_app (a b : List Qr) : qvVs (a ++ b) = qvVs a ++ qvVs b := by simp [qvVs]
theorem qvVs_len (xs : List Qr) : (qvVs xs).length = xs.length * 3 := by
  induction xs with
  | nil => rfl
  | cons x xs ih =>
    have : (qvV x).length = 3 := rfl
    rw [qvVs_cons, List.length_append, ih, List.length_cons, this]; omega

theorem qvVs_at : ∀ (xs : List Qr) (k j : Nat) (x : Qr), xs[k]? = some x → j < 3 → (qvVs xs)[k * 3 + j]? = (qvV x)[j]? := by
  intro xs
  induction xs with
  | nil => intro k j x h; simp at h
  | cons y xs ih =>
    intro k j x h hj
    have hl : (qvV y).length = 3 := rfl
    cases k with
    | zero =>
      simp at h; subst h
      rw [qvVs_cons, Nat.zero_mul, Nat.zero_add, List.getElem?_append_left (by omega)]
    | succ k =>
      simp at h
      rw [qvVs_cons, List.getElem?_append_right (by omega), hl, show (k + 1) * 3 + j - 3 = k * 3 + j by omega]
      exact ih k j x h hj

theorem qv_cells {w : World} {xs : List Qr} {b off k : Nat} {x : Qr} (hc : ∀ (i : Nat) (y : Value), (qvVs xs)[i]? = some y → w.cell? ⟨b, off + i, none⟩ = some y) (h : xs[k]? = some x) :
    w.cell? ⟨b, off + k * 3, none⟩ = some (.string x.nm) ∧ w.cell? ⟨b, off + k * 3 + 1, none⟩ = some (.int .i64 x.ty) ∧ w.cell? ⟨b, off + k * 3 + 2, none⟩ = some (.int .i64 x.cl) :=
  ⟨hc (k * 3) _ ((qvVs_at xs k 0 x h (by decide)).trans rfl), hc (k * 3 + 1) _ ((qvVs_at xs k 1 x h (by decide)).trans rfl), hc (k * 3 + 2) _ ((qvVs_at xs k 2 x h (by decide)).trans rfl)⟩

def qsum : List Qr → Nat
  | [] => 0
  | x :: xs => x.nm.size + qsum xs
theorem qsum_step : ∀ (xs : List Qr) (k : Nat) (x : Qr), xs[k]? = some x → qsum (xs.take (k + 1)) = qsum (xs.take k) + x.nm.size := by
  intro xs
  induction xs with
  | nil => intro k x h; simp at h
  | cons y xs ih =>
    intro k x h
    cases k with
    | zero => simp at h; subst h; simp [qsum]
    | succ k =>
      simp at h
      have := ih k x h
      simp only [List.take_succ_cons, qsum]; omega
theorem qsum_take_le : ∀ (xs : List Qr) (k : Nat), qsum (xs.take k) ≤ qsum xs := by
  intro xs
  induction xs with
  | nil => intro k; simp [qsum]
  | cons y xs ih =>
    intro k
    cases k with
    | zero => simp [qsum]
    | succ k => have := ih k; simp only [List.take_succ_cons, qsum]; omega
theorem qsum_mem : ∀ (xs : List Qr) (x : Qr), x ∈ xs → x.nm.size ≤ qsum xs := by
  intro xs
  induction xs with
  | nil => intro x h; simp at h
  | cons y xs ih =>
    intro x h
    rcases List.mem_cons.1 h with rfl | h
    · simp only [qsum]; omega
    · have := ih x h; simp only [qsum]; omega
def szQS (xs : List Qr) (L : Int) : Int := if (xs.length : Int) + (qsum xs : Int) ≤ L then L - xs.length - qsum xs else -1
end Go.Proofs.Ytehggabhjpiclaa
/- Messages as they come in: mathematics. -/
namespace Go.Proofs.Ytehggabhjpiclaa
open Go.RowKit
set_option linter.unusedVariables false

/-- A head. -/
structure Hr where
  id : Int
  qr : Bool
  op : Int
  aa : Bool
  tc : Bool
  rd : Bool
  ra : Bool
  z : Bool
  ad : Bool
  cd : Bool
  code : Int
def hrV (h : Hr) : List Value := [.int .i64 h.id, .bool h.qr, .int .i64 h.op, .bool h.aa, .bool h.tc, .bool h.rd, .bool h.ra, .bool h.z, .bool h.ad, .bool h.cd, .int .i64 h.code]
/-- A message. -/
structure Mg where
  hd : Hr
  qs : List Qr
  an : List Rr
  au : List Rr
  ex : List Rr
/-- A message's value, its lists' slices as they are. -/
def mgV (h : Hr) (q a u x : Value) : Array Value := #[.int .i64 h.id, .bool h.qr, .int .i64 h.op, .bool h.aa, .bool h.tc, .bool h.rd, .bool h.ra, .bool h.z, .bool h.ad, .bool h.cd, .int .i64 h.code, q, a, u, x]
/-- The lists are read where the slices lead. -/
structure MRow (w : World) (m : Mg) (q a u x : Value) : Prop where
  rq : CRow w q m.qs.length 3 (qvVs m.qs)
  ra : CRow w a m.an.length 5 (rvVs m.an)
  ru : CRow w u m.au.length 5 (rvVs m.au)
  rx : CRow w x m.ex.length 5 (rvVs m.ex)
theorem MRow.below {w W : World} {m : Mg} {q a u x : Value} (h : MRow w m q a u x) (hb : Below w.heap.size w W) : MRow W m q a u x := ⟨h.rq.below hb, h.ra.below hb, h.ru.below hb, h.rx.below hb⟩
/-- The lists in memory of one's own. -/
structure MOwn (w : World) (B : Nat) (m : Mg) (q a u x : Value) : Prop where
  rq : w.ownsRow B 57 3 q m.qs.length (qvVs m.qs)
  ra : w.ownsRow B 69 5 a m.an.length (rvVs m.an)
  ru : w.ownsRow B 69 5 u m.au.length (rvVs m.au)
  rx : w.ownsRow B 69 5 x m.ex.length (rvVs m.ex)
theorem MOwn.below {w W : World} {B : Nat} {m : Mg} {q a u x : Value} (h : MOwn w B m q a u x) (hb : Below w.heap.size w W) : MOwn W B m q a u x := ⟨own_below h.rq hb, own_below h.ra hb, own_below h.ru hb, own_below h.rx hb⟩
theorem MOwn.read {w : World} {B : Nat} {m : Mg} {q a u x : Value} (h : MOwn w B m q a u x) : MRow w m q a u x := ⟨CRow.of_owns h.rq, CRow.of_owns h.ra, CRow.of_owns h.ru, CRow.of_owns h.rx⟩
def msum (m : Mg) : Nat := m.qs.length + qsum m.qs + (m.an.length + rsum m.an) + (m.au.length + rsum m.au) + (m.ex.length + rsum m.ex)
def szM (m : Mg) (L : Int) : Int := if (msum m : Int) ≤ L then L - msum m else -1
def MFit (m : Mg) : Prop := (∀ r ∈ m.qs, r.nm.size ≤ maxLen) ∧ (∀ r ∈ m.an, r.own.size ≤ maxLen ∧ r.da.size ≤ maxLen) ∧ (∀ r ∈ m.au, r.own.size ≤ maxLen ∧ r.da.size ≤ maxLen) ∧ (∀ r ∈ m.ex, r.own.size ≤ maxLen ∧ r.da.size ≤ maxLen)
end Go.Proofs.Ytehggabhjpiclaa
/- Valid records: mathematics. -/
namespace Go.Proofs.Ytehggabhjpiclaa
open Go.RowKit
set_option linter.unusedVariables false

def inB (n m : Int) : Bool := decide (0 ≤ n) && decide (n ≤ m)
def rcOK (r : Rr) : Bool := (Nm.split r.own).isSome && inB r.ty 65535 && inB r.cl 65535 && inB r.tt 4294967295 && (decide (r.da.size = 0) || cutCode r.ty r.da == 0)
theorem all_take' {α : Type} {f : α → Bool} {xs : List α} {k : Nat} {x : α} (h : xs[k]? = some x) : (xs.take (k + 1)).all f = ((xs.take k).all f && f x) := by
  rw [List.take_add_one, h]
  simp
theorem all_no {α : Type} {f : α → Bool} {xs : List α} {x : α} (h : x ∈ xs) (hf : f x = false) : xs.all f = false := by
  rw [List.all_eq_false]
  exact ⟨x, h, by simp [hf]⟩
theorem str_empty {s : ByteArray} : (s.toList == []) = decide (s.size = 0) := by
  by_cases h : s.size = 0
  · have : s.toList = [] := List.length_eq_zero_iff.1 (by rw [Nm.tl_len]; exact h)
    simp [this, h]
  · have : s.toList ≠ [] := fun e => h (by rw [← Nm.tl_len, e]; rfl)
    simp [h, this]
end Go.Proofs.Ytehggabhjpiclaa
/- Valid messages: mathematics. -/
namespace Go.Proofs.Ytehggabhjpiclaa
open Go.RowKit
set_option linter.unusedVariables false

def hdOK (h : Hr) : Bool := inB h.id 65535 && inB h.op 15 && inB h.code 15
def quOK (q : Qr) : Bool := (Nm.split q.nm).isSome && inB q.ty 65535 && inB q.cl 65535
def mgOK (m : Mg) : Bool := decide (m.qs.length + m.an.length + m.au.length + m.ex.length ≤ 400) && hdOK m.hd && m.qs.all quOK && m.an.all rcOK && m.au.all rcOK && m.ex.all rcOK
end Go.Proofs.Ytehggabhjpiclaa
