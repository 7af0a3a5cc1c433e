import Derived.Test.YtocadkdfhfiijaaJMath
import Derived.Test.YtocadkdfhfiijaaJBytesRow
import Derived.Test.YtocadkdfhfiijaaRows
import Derived.WalkSpells
import Derived.WalkLawsBesides
import Derived.RegionTactic
import Derived.BigRegion
import Derived.BigQuiet
import Derived.Deep.QuietTactic
import Derived.OpenShut
import Derived.Lib.Bytealg
import Derived.Maps.AppendAt
import Derived.ChangeAlike
/- Records as they come in: mathematics. -/
namespace Go.Proofs.Ytocadkdfhfiijaa
open Go.RowKit
set_option linter.unusedVariables false

/-- A record: its owner, type, class, time and data. -/
structure Rr where
  own : ByteArray
  ty : Int
  cl : Int
  tt : Int
  da : ByteArray

def rvV (r : Rr) : List Value := [.string r.own, .int .i64 r.ty, .int .i64 r.cl, .int .i64 r.tt, .string r.da]
def rvVs (xs : List Rr) : List Value := xs.flatMap rvV
theorem rvVs_cons (x : Rr) (xs : List Rr) : rvVs (x :: xs) = rvV x ++ rvVs xs := by simp [rvVs]
theorem rvVs_app (a b : List Rr) : rvVs (a ++ b) = rvVs a ++ rvVs b := by simp [rvVs]
theorem rvVs_len (xs : List Rr) : (rvVs xs).length = xs.length * 5 := by
  induction xs with
  | nil => rfl
  | cons x xs ih =>
    have : (rvV x).length = 5 := rfl
    rw [rvVs_cons, List.length_append, ih, List.length_cons, this]; omega

theorem rvVs_at : ∀ (xs : List Rr) (k j : Nat) (x : Rr), xs[k]? = some x → j < 5 → (rvVs xs)[k * 5 + j]? = (rvV x)[j]? := by
  intro xs
  induction xs with
  | nil => intro k j x h; simp at h
  | cons y xs ih =>
    intro k j x h hj
    have hl : (rvV y).length = 5 := rfl
    cases k with
    | zero =>
      simp at h; subst h
      rw [rvVs_cons, Nat.zero_mul, Nat.zero_add, List.getElem?_append_left (by omega)]
    | succ k =>
      simp at h
      rw [rvVs_cons, List.getElem?_append_right (by omega), hl, show (k + 1) * 5 + j - 5 = k * 5 + j by omega]
      exact ih k j x h hj

theorem rv_cells {w : World} {xs : List Rr} {b off k : Nat} {x : Rr} (hc : ∀ (i : Nat) (y : Value), (rvVs xs)[i]? = some y → w.cell? ⟨b, off + i, none⟩ = some y) (h : xs[k]? = some x) :
    w.cell? ⟨b, off + k * 5, none⟩ = some (.string x.own) ∧ w.cell? ⟨b, off + k * 5 + 1, none⟩ = some (.int .i64 x.ty) ∧ w.cell? ⟨b, off + k * 5 + 2, none⟩ = some (.int .i64 x.cl) ∧ w.cell? ⟨b, off + k * 5 + 3, none⟩ = some (.int .i64 x.tt) ∧ w.cell? ⟨b, off + k * 5 + 4, none⟩ = some (.string x.da) :=
  ⟨hc (k * 5) _ ((rvVs_at xs k 0 x h (by decide)).trans rfl), hc (k * 5 + 1) _ ((rvVs_at xs k 1 x h (by decide)).trans rfl), hc (k * 5 + 2) _ ((rvVs_at xs k 2 x h (by decide)).trans rfl), hc (k * 5 + 3) _ ((rvVs_at xs k 3 x h (by decide)).trans rfl), hc (k * 5 + 4) _ ((rvVs_at xs k 4 x h (by decide)).trans rfl)⟩

/-- The bytes of records, as the laws count them. -/
def rsum : List Rr → Nat
  | [] => 0
  | x :: xs => x.own.size + x.da.size + rsum xs
theorem rsum_step : ∀ (xs : List Rr) (k : Nat) (x : Rr), xs[k]? = some x → rsum (xs.take (k + 1)) = rsum (xs.take k) + (x.own.size + x.da.size) := by
  intro xs
  induction xs with
  | nil => intro k x h; simp at h
  | cons y xs ih =>
    intro k x h
    cases k with
    | zero => simp at h; subst h; simp [rsum]
    | succ k =>
      simp at h
      have := ih k x h
      simp only [List.take_succ_cons, rsum]; omega
theorem rsum_take_le : ∀ (xs : List Rr) (k : Nat), rsum (xs.take k) ≤ rsum xs := by
  intro xs
  induction xs with
  | nil => intro k; simp [rsum]
  | cons y xs ih =>
    intro k
    cases k with
    | zero => simp [rsum]
    | succ k => have := ih k; simp only [List.take_succ_cons, rsum]; omega
theorem rsum_mem : ∀ (xs : List Rr) (x : Rr), x ∈ xs → x.own.size + x.da.size ≤ rsum xs := by
  intro xs
  induction xs with
  | nil => intro x h; simp at h
  | cons y xs ih =>
    intro x h
    rcases List.mem_cons.1 h with rfl | h
    · simp only [rsum]; omega
    · have := ih x h; simp only [rsum]; omega
def szRS (xs : List Rr) (L : Int) : Int := if (xs.length : Int) + (rsum xs : Int) ≤ L then L - xs.length - rsum xs else -1
end Go.Proofs.Ytocadkdfhfiijaa
/- Questions as they come in: mathematics. -/
namespace Go.Proofs.Ytocadkdfhfiijaa
open Go.RowKit
set_option linter.unusedVariables false

/-- A question: its name, type and class. -/
structure Qr where
  nm : ByteArray
  ty : Int
  cl : Int

def qvV (r : Qr) : List Value := [.string r.nm, .int .i64 r.ty, .int .i64 r.cl]
def qvVs (xs : List Qr) : List Value := xs.flatMap qvV
theorem qvVs_cons (x : Qr) (xs : List Qr) : qvVs (x :: xs) = qvV x ++ qvVs xs := by simp [qvVs]
theorem qvVs_app (a b : List Qr) : qvVs (a ++ b) = qvVs a ++ qvVs b := by simp [qvVs]
theorem qvVs_len (xs : List Qr) : (qvVs xs).length = xs.length * 3 := by
  induction xs with
  | nil => rfl
  | cons x xs ih =>
    have : (qvV x).length = 3 := rfl
    rw [qvVs_cons, List.length_append, ih, List.length_cons, this]; omega

theorem qvVs_at : ∀ (xs : List Qr) (k j : Nat) (x : Qr), xs[k]? = some x → j < 3 → (qvVs xs)[k * 3 + j]? = (qvV x)[j]? := by
  intro xs
  induction xs with
  | nil => intro k j x h; simp at h
  | cons y xs ih =>
    intro k j x h hj
    have hl : (qvV y).length = 3 := rfl
    cases k with
    | zero =>
      simp at h; subst h
      rw [qvVs_cons, Nat.zero_mul, Nat.zero_add, List.getElem?_append_left (by omega)]
    | succ k =>
      simp at h
      rw [qvVs_cons, List.getElem?_append_right (by omega), hl, show (k + 1) * 3 + j - 3 = k * 3 + j by omega]
      exact ih k j x h hj

theorem qv_cells {w : World} {xs : List Qr} {b off k : Nat} {x : Qr} (hc : ∀ (i : Nat) (y : Value), (qvVs xs)[i]? = some y → w.cell? ⟨b, off + i, none⟩ = some y) (h : xs[k]? = some x) :
    w.cell? ⟨b, off + k * 3, none⟩ = some (.string x.nm) ∧ w.cell? ⟨b, off + k * 3 + 1, none⟩ = some (.int .i64 x.ty) ∧ w.cell? ⟨b, off + k * 3 + 2, none⟩ = some (.int .i64 x.cl) :=
  ⟨hc (k * 3) _ ((qvVs_at xs k 0 x h (by decide)).trans rfl), hc (k * 3 + 1) _ ((qvVs_at xs k 1 x h (by decide)).trans rfl), hc (k * 3 + 2) _ ((qvVs_at xs k 2 x h (by decide)).trans rfl)⟩

def qsum : List Qr → Nat
  | [] => 0
  | x :: xs => x.nm.size + qsum xs
theorem qsum_step : ∀ (xs : List Qr) (k : Nat) (x : Qr), xs[k]? = some x → qsum (xs.take (k + 1)) = qsum (xs.take k) + x.nm.size := by
  intro xs
  induction xs with
  | nil => intro k x h; simp at h
  | cons y xs ih =>
    intro k x h
    cases k with
    | zero => simp at h; subst h; simp [qsum]
    | succ k =>
      simp at h
      have := ih k x h
      simp only [List.take_succ_cons, qsum]; omega
theorem qsum_take_le : ∀ (xs : List Qr) (k : Nat), qsum (xs.take k) ≤ qsum xs := by
  intro xs
  induction xs with
  | nil => intro k; simp [qsum]
  | cons y xs ih =>
    intro k
    cases k with
    | zero => simp [qsum]
    | succ k => have := ih k; simp only [List.take_succ_cons, qsum]; omega
theorem qsum_mem : ∀ (xs : List Qr) (x : Qr), x ∈ xs → x.nm.size ≤ qsum xs := by
  intro xs
  induction xs with
  | nil => intro x h; simp at h
  | cons y xs ih =>
    intro x h
    rcases List.mem_cons.1 h with rfl | h
    · simp only [qsum]; omega
    · have := ih x h; simp only [qsum]; omega
def szQS (xs : List Qr) (L : Int) : Int := if (xs.length : Int) + (qsum xs : Int) ≤ L then L - xs.length - qsum xs else -1
end Go.Proofs.Ytocadkdfhfiijaa
/- Messages as they come in: mathematics. -/
namespace Go.Proofs.Ytocadkdfhfiijaa
open Go.RowKit
set_option linter.unusedVariables false

/-- A head. -/
structure Hr where
  id : Int
  qr : Bool
  op : Int
  aa : Bool
  tc : Bool
  rd : Bool
  ra : Bool
  z : Bool
  ad : Bool
  cd : Bool
  code : Int
def hrV (h : Hr) : List Value := [.int .i64 h.id, .bool h.qr, .int .i64 h.op, .bool h.aa, .bool h.tc, .bool h.rd, .bool h.ra, .bool h.z, .bool h.ad, .bool h.cd, .int .i64 h.code]
/-- A message. -/
structure Mg where
  hd : Hr
  qs : List Qr
  an : List Rr
  au : List Rr
  ex : List Rr
/-- A message's value, its lists' slices as they are. -/
def mgV (h : Hr) (q a u x : Value) : Array Value := #[.int .i64 h.id, .bool h.qr, .int .i64 h.op, .bool h.aa, .bool h.tc, .bool h.rd, .bool h.ra, .bool h.z, .bool h.ad, .bool h.cd, .int .i64 h.code, q, a, u, x]
/-- The lists are read where the slices lead. -/
structure MRow (w : World) (m : Mg) (q a u x : Value) : Prop where
  rq : CRow w q m.qs.length 3 (qvVs m.qs)
  ra : CRow w a m.an.length 5 (rvVs m.an)
  ru : CRow w u m.au.length 5 (rvVs m.au)
  rx : CRow w x m.ex.length 5 (rvVs m.ex)
theorem MRow.below {w W : World} {m : Mg} {q a u x : Value} (h : MRow w m q a u x) (hb : Below w.heap.size w W) : MRow W m q a u x := ⟨h.rq.below hb, h.ra.below hb, h.ru.below hb, h.rx.below hb⟩
/-- The lists in memory of one's own. -/
structure MOwn (w : World) (B : Nat) (m : Mg) (q a u x : Value) : Prop where
  rq : w.ownsRow B 53 3 q m.qs.length (qvVs m.qs)
  ra : w.ownsRow B 66 5 a m.an.length (rvVs m.an)
  ru : w.ownsRow B 66 5 u m.au.length (rvVs m.au)
  rx : w.ownsRow B 66 5 x m.ex.length (rvVs m.ex)
theorem MOwn.below {w W : World} {B : Nat} {m : Mg} {q a u x : Value} (h : MOwn w B m q a u x) (hb : Below w.heap.size w W) : MOwn W B m q a u x := ⟨own_below h.rq hb, own_below h.ra hb, own_below h.ru hb, own_below h.rx hb⟩
theorem MOwn.read {w : World} {B : Nat} {m : Mg} {q a u x : Value} (h : MOwn w B m q a u x) : MRow w m q a u x := ⟨CRow.of_owns h.rq, CRow.of_owns h.ra, CRow.of_owns h.ru, CRow.of_owns h.rx⟩
def msum (m : Mg) : Nat := m.qs.length + qsum m.qs + (m.an.length + rsum m.an) + (m.au.length + rsum m.au) + (m.ex.length + rsum m.ex)
def szM (m : Mg) (L : Int) : Int := if (msum m : Int) ≤ L then L - msum m else -1
def MFit (m : Mg) : Prop := (∀ r ∈ m.qs, r.nm.size ≤ maxLen) ∧ (∀ r ∈ m.an, r.own.size ≤ maxLen ∧ r.da.size ≤ maxLen) ∧ (∀ r ∈ m.au, r.own.size ≤ maxLen ∧ r.da.size ≤ maxLen) ∧ (∀ r ∈ m.ex, r.own.size ≤ maxLen ∧ r.da.size ≤ maxLen)
end Go.Proofs.Ytocadkdfhfiijaa
/- Valid messages: mathematics. -/
namespace Go.Proofs.Ytocadkdfhfiijaa
open Go.RowKit
set_option linter.unusedVariables false

def inB (n m : Int) : Bool := decide (0 ≤ n) && decide (n ≤ m)
def hdOK (h : Hr) : Bool := inB h.id 65535 && inB h.op 15 && inB h.code 15
def quOK (q : Qr) : Bool := (Nm.split q.nm).isSome && inB q.ty 65535 && inB q.cl 65535
def rcOK (r : Rr) : Bool := (Nm.split r.own).isSome && inB r.ty 65535 && inB r.cl 65535 && inB r.tt 4294967295 && (decide (r.da.size = 0) || cutCode r.ty r.da == 0)
def mgOK (m : Mg) : Bool := decide (m.qs.length + m.an.length + m.au.length + m.ex.length ≤ 400) && hdOK m.hd && m.qs.all quOK && m.an.all rcOK && m.au.all rcOK && m.ex.all rcOK
theorem all_take' {α : Type} {f : α → Bool} {xs : List α} {k : Nat} {x : α} (h : xs[k]? = some x) : (xs.take (k + 1)).all f = ((xs.take k).all f && f x) := by
  rw [List.take_add_one, h]
  simp
theorem all_no {α : Type} {f : α → Bool} {xs : List α} {x : α} (h : x ∈ xs) (hf : f x = false) : xs.all f = false := by
  rw [List.all_eq_false]
  exact ⟨x, h, by simp [hf]⟩
theorem str_empty {s : ByteArray} : (s.toList == []) = decide (s.size = 0) := by
  by_cases h : s.size = 0
  · have : s.toList = [] := List.length_eq_zero_iff.1 (by rw [Nm.tl_len]; exact h)
    simp [this, h]
  · have : s.toList ≠ [] := fun e => h (by rw [← Nm.tl_len, e]; rfl)
    simp [h, this]
end Go.Proofs.Ytocadkdfhfiijaa
/- How a record is written: mathematics. -/
namespace Go.Proofs.Ytocadkdfhfiijaa
open Go.RowKit
set_option linter.unusedVariables false

def nmX (x : ByteArray) (s : Wst) : Wst := nmW ((Nm.split x).getD []) s.1 s.2
theorem nmX_of {x : ByteArray} {ls : List ByteArray} (h : Nm.split x = some ls) (s : Wst) : nmX x s = nmW ls s.1 s.2 := by rw [nmX, h]; rfl
theorem nmX_len {x : ByteArray} (h : (Nm.split x).isSome = true) (s : Wst) : s.1.length + 1 ≤ (nmX x s).1.length ∧ (nmX x s).1.length ≤ s.1.length + x.size := by
  obtain ⟨ls, hs⟩ := Option.isSome_iff_exists.1 h
  rw [nmX_of hs]
  have h1 := nmW_len ls s.1 s.2 (fun x hx => ((Nm.split_join hs).2 x hx).1)
  have h2 : x.size = Nm.wsum ls + 1 := by rw [← nmB_split hs, nmB_size]
  omega
theorem nmX_ok (x : ByteArray) (s : Wst) (h : PlOK s.2 s.1.length) : PlOK (nmX x s).2 (nmX x s).1.length := nmW_ok _ _ _ h

/-- Data by its parts. -/
def daP : List Dt.Pc → List ByteArray → Wst → Wst
  | p :: fs, x :: xs, s => daP fs xs (if p.isN then nmX x s else (s.1 ++ x.data.toList, s.2))
  | _, _, s => s
theorem daP_nil (fs : List Dt.Pc) (s : Wst) : daP fs [] s = s := by cases fs <;> rfl
def NmOK (fs : List Dt.Pc) (ps : List ByteArray) : Prop := ∀ (i : Nat) (p : Dt.Pc) (x : ByteArray), fs[i]? = some p → ps[i]? = some x → p.isN = true → (Nm.split x).isSome = true
theorem NmOK.tail {p : Dt.Pc} {x : ByteArray} {fs : List Dt.Pc} {ps : List ByteArray} (h : NmOK (p :: fs) (x :: ps)) : NmOK fs ps := fun i q y hq hy hn => h (i + 1) q y (by simpa using hq) (by simpa using hy) hn
theorem daP_len : ∀ (fs : List Dt.Pc) (ps : List ByteArray) (s : Wst), NmOK fs ps → s.1.length ≤ (daP fs ps s).1.length ∧ (daP fs ps s).1.length ≤ s.1.length + (Dt.catL ps).length := by
  intro fs
  induction fs with
  | nil => intro ps s h; simp [daP]
  | cons p fs ih =>
    intro ps s h
    cases ps with
    | nil => simp [daP]
    | cons x xs =>
      have e : (Dt.catL (x :: xs)).length = x.size + (Dt.catL xs).length := by simp [Dt.catL]
      rw [daP, e]
      have := ih xs (if p.isN then nmX x s else (s.1 ++ x.data.toList, s.2)) h.tail
      cases hN : p.isN with
      | true =>
        rw [hN] at this
        simp only [if_true] at this ⊢
        have h2 := nmX_len (h 0 p x rfl rfl hN) s
        omega
      | false =>
        rw [hN] at this
        simp at this ⊢
        omega
theorem daP_ok : ∀ (fs : List Dt.Pc) (ps : List ByteArray) (s : Wst), PlOK s.2 s.1.length → PlOK (daP fs ps s).2 (daP fs ps s).1.length := by
  intro fs
  induction fs with
  | nil => intro ps s h; exact h
  | cons p fs ih =>
    intro ps s h
    cases ps with
    | nil => exact h
    | cons x xs =>
      rw [daP]
      apply ih
      split
      · exact nmX_ok x s h
      · exact h.mono (by simp)
/-- Data by the places of its names. -/
def daS : List (Nat × Nat) → Nat → ByteArray → Wst → Wst
  | [], a, d, s => (s.1 ++ (d.extract a d.size).data.toList, s.2)
  | (f, t) :: r, a, d, s => daS r t d (nmX (d.extract f t) (s.1 ++ (d.extract a f).data.toList, s.2))

theorem ex_list (d : ByteArray) (a b : Nat) : (d.extract a b).data.toList = (d.data.toList.drop a).take (b - a) := by
  simp [ByteArray.data_extract, Array.toList_extract, List.extract_eq_take_drop]
theorem daS_parts : ∀ (fs : List Dt.Pc) (ps : List ByteArray) (a a0 : Nat) (d : ByteArray) (s : Wst), fs.length = ps.length → a0 ≤ a → a ≤ d.size → Dt.catL ps = d.data.toList.drop a →
    daS (Dt.spansOf fs ps a) a0 d s = daP fs ps (s.1 ++ (d.extract a0 a).data.toList, s.2) := by
  intro fs
  induction fs with
  | nil =>
    intro ps a a0 d s hl h0 h1 hc
    obtain rfl : ps = [] := List.length_eq_zero_iff.1 (by simpa using hl.symm)
    have hd : d.data.toList.drop a = [] := by rw [← hc]; rfl
    have hz : d.size ≤ a := by simpa [List.drop_eq_nil_iff] using hd
    obtain rfl : a = d.size := by omega
    rfl
  | cons p fs ih =>
    intro ps a a0 d s hl h0 h1 hc
    cases ps with
    | nil => simp at hl
    | cons x xs =>
      have e : Dt.catL (x :: xs) = x.data.toList ++ Dt.catL xs := by simp [Dt.catL]
      rw [e] at hc
      have hxl : x.data.toList.length = x.size := by simp
      have hsz : x.size + (Dt.catL xs).length = d.size - a := by
        have := congrArg List.length hc
        simp at this
        simpa using this
      have hc2 : Dt.catL xs = d.data.toList.drop (a + x.size) := by
        rw [← List.drop_drop, ← hc, List.drop_left' hxl]
      have hx : d.extract a (a + x.size) = x := by
        apply Nm.ba_ext
        rw [ex_list, ← hc, show a + x.size - a = x.size by omega, List.take_left' hxl]
      have hl2 : fs.length = xs.length := by simpa using hl
      rw [Dt.spansOf, daP]
      cases hN : p.isN with
      | true =>
        simp only [if_true]
        rw [daS, hx, ih xs (a + x.size) (a + x.size) d _ hl2 (Nat.le_refl _) (by omega) hc2]
        have he : (d.extract (a + x.size) (a + x.size)).data.toList = [] := by rw [ex_list]; simp
        rw [he, List.append_nil]
      | false =>
        simp only [Bool.false_eq_true, if_false]
        rw [ih xs (a + x.size) a0 d s hl2 (by omega) (by omega) hc2]
        congr 1
        have he : (d.extract a0 (a + x.size)).data.toList = (d.extract a0 a).data.toList ++ x.data.toList := by
          have hx2 : x.data.toList = (d.data.toList.drop a).take x.size := by rw [← hc, List.take_left' hxl]
          rw [hx2, ex_list, ex_list, show a + x.size - a0 = (a - a0) + x.size by omega, List.take_add, List.drop_drop, show a0 + (a - a0) = a by omega]
        rw [he, List.append_assoc]

/-- A record's data. -/
def daW (t : Nat) (d : ByteArray) (s : Wst) : Wst :=
  if d.size = 0 ∨ ¬ pointed t then (s.1 ++ d.data.toList, s.2) else daP (Dt.specP t) ((Dt.parts (Dt.specP t) d).getD []) s
def rrA (o : ByteArray) (ty cl : Nat) (tt : Int) (s : Wst) : Wst := ((nmX o s).1 ++ (put2 ty ++ put2 cl ++ put4 tt ++ [0, 0]), (nmX o s).2)
def rrFin (F : Nat) (s : Wst) : Wst := ((s.1.set (F - 2) (UInt8.ofNat ((s.1.length - F) / 256))).set (F - 1) (UInt8.ofNat ((s.1.length - F) % 256)), s.2)
/-- A record. -/
def rrW (r : Rr) (s : Wst) : Wst := rrFin (rrA r.own r.ty.toNat r.cl.toNat r.tt s).1.length (daW r.ty.toNat r.da (rrA r.own r.ty.toNat r.cl.toNat r.tt s))

theorem inB_nat {n m : Int} (h : inB n m = true) : ∃ k : Nat, n = (k : Int) ∧ (k : Int) ≤ m := by
  simp [inB] at h
  exact ⟨n.toNat, by omega, by omega⟩
/-- What a good record says. -/
theorem rc_parts {r : Rr} (h : rcOK r = true) : (Nm.split r.own).isSome = true ∧ (∃ t : Nat, r.ty = (t : Int) ∧ t < 65536) ∧ (∃ c : Nat, r.cl = (c : Int) ∧ c < 65536) ∧ 0 ≤ r.tt ∧ r.tt ≤ 4294967295 ∧ (r.da.size = 0 ∨ cutCode r.ty r.da = 0) ∧ r.da.size ≤ 65535 := by
  simp only [rcOK, Bool.and_eq_true, Bool.or_eq_true, decide_eq_true_eq, beq_iff_eq] at h
  obtain ⟨⟨⟨⟨h1, h2⟩, h3⟩, h4⟩, h5⟩ := h
  obtain ⟨t, ht, htl⟩ := inB_nat h2
  obtain ⟨c, hc, hcl⟩ := inB_nat h3
  simp [inB] at h4
  refine ⟨h1, ⟨t, ht, by omega⟩, ⟨c, hc, by omega⟩, h4.1, h4.2, h5, ?_⟩
  rcases h5 with h5 | h5
  · omega
  · obtain ⟨ps, _, _, hz⟩ := good_parts h5
    exact hz
theorem daW_len {t : Nat} {d : ByteArray} (h : d.size = 0 ∨ cutCode t d = 0) (s : Wst) : s.1.length ≤ (daW t d s).1.length ∧ (daW t d s).1.length ≤ s.1.length + d.size := by
  rw [daW]
  split
  · simp
  · rename_i hn
    have hc : cutCode t d = 0 := by rcases h with h | h; exact absurd (.inl h) hn; exact h
    obtain ⟨ps, h1, h2, h3⟩ := good_parts hc
    obtain ⟨p1, p2, p3⟩ := Dt.parts_cat _ _ _ h1
    have := daP_len (Dt.specP t) ps s p3
    rw [h1]
    rw [p2] at this
    simpa using this
theorem daW_ok (t : Nat) (d : ByteArray) (s : Wst) (h : PlOK s.2 s.1.length) : PlOK (daW t d s).2 (daW t d s).1.length := by
  rw [daW]
  split
  · exact h.mono (by simp)
  · exact daP_ok _ _ _ h
theorem rrA_len {o : ByteArray} (h : (Nm.split o).isSome = true) (ty cl : Nat) (tt : Int) (s : Wst) : s.1.length + 11 ≤ (rrA o ty cl tt s).1.length ∧ (rrA o ty cl tt s).1.length ≤ s.1.length + o.size + 10 := by
  have := nmX_len h s
  simp [rrA, put2, put4]
  omega
theorem rrA_ok (o : ByteArray) (ty cl : Nat) (tt : Int) (s : Wst) (h : PlOK s.2 s.1.length) : PlOK (rrA o ty cl tt s).2 (rrA o ty cl tt s).1.length := (nmX_ok o s h).mono (by simp [rrA])
theorem rrFin_len (F : Nat) (s : Wst) : (rrFin F s).1.length = s.1.length := by simp [rrFin]
theorem name_short {o : ByteArray} (h : (Nm.split o).isSome = true) : o.size ≤ 255 := by
  obtain ⟨ls, hs⟩ := Option.isSome_iff_exists.1 h
  exact (Nm.split_size hs).2
theorem rrW_len {r : Rr} (h : rcOK r = true) (s : Wst) : s.1.length ≤ (rrW r s).1.length ∧ (rrW r s).1.length ≤ s.1.length + 65800 := by
  obtain ⟨h1, ⟨t, ht, htl⟩, ⟨c, hc, hcl⟩, h4, h5, h6, h7⟩ := rc_parts h
  have hs := name_short h1
  have a := rrA_len h1 t c r.tt s
  rw [rrW, rrFin_len, ht, hc]
  rw [ht] at h6
  have b := daW_len h6 (rrA r.own t c r.tt s)
  simp only [Int.toNat_natCast]
  omega
theorem rrW_ok (r : Rr) (s : Wst) (h : PlOK s.2 s.1.length) : PlOK (rrW r s).2 (rrW r s).1.length := by
  rw [rrW, rrFin_len]
  exact daW_ok _ _ _ (rrA_ok _ _ _ _ _ h)
/-- Records one behind the other. -/
def rrWs (l : List Rr) (s : Wst) : Wst := l.foldl (fun s r => rrW r s) s
theorem rrWs_cons (r : Rr) (l : List Rr) (s : Wst) : rrWs (r :: l) s = rrWs l (rrW r s) := rfl
theorem rrWs_len : ∀ (l : List Rr) (s : Wst), l.all rcOK = true → s.1.length ≤ (rrWs l s).1.length ∧ (rrWs l s).1.length ≤ s.1.length + 65800 * l.length := by
  intro l
  induction l with
  | nil => intro s h; simp [rrWs]
  | cons r l ih =>
    intro s h
    simp only [List.all_cons, Bool.and_eq_true] at h
    rw [rrWs_cons]
    have a := ih (rrW r s) h.2
    have b := rrW_len h.1 s
    simp only [List.length_cons]
    omega
theorem rrWs_ok : ∀ (l : List Rr) (s : Wst), PlOK s.2 s.1.length → PlOK (rrWs l s).2 (rrWs l s).1.length := by
  intro l
  induction l with
  | nil => intro s h; exact h
  | cons r l ih => intro s h; exact ih _ (rrW_ok r s h)
/-- A record that the model's writer takes. -/
def rcW (r : Rr) : Prop := (Nm.split r.own).isSome = true ∧ (∃ t : Nat, r.ty = (t : Int) ∧ t < 65536) ∧ (∃ c : Nat, r.cl = (c : Int) ∧ c < 65536) ∧ 0 ≤ r.tt ∧ r.tt ≤ 4294967295 ∧ (r.da.size = 0 ∨ ¬ pointed r.ty.toNat ∨ cutCode r.ty r.da = 0) ∧ r.da.size ≤ 65535
theorem rc_w {r : Rr} (h : rcOK r = true) : rcW r := by
  obtain ⟨h1, h2, h3, h4, h5, h6, h7⟩ := rc_parts h
  exact ⟨h1, h2, h3, h4, h5, h6.elim .inl (fun e => .inr (.inr e)), h7⟩
theorem daW_lenW {t : Nat} {d : ByteArray} (h : d.size = 0 ∨ ¬ pointed t ∨ cutCode t d = 0) (s : Wst) : s.1.length ≤ (daW t d s).1.length ∧ (daW t d s).1.length ≤ s.1.length + d.size := by
  rcases h with h | h | h
  · exact daW_len (.inl h) s
  · rw [daW, if_pos (.inr h)]
    simp
  · exact daW_len (.inr h) s
theorem rrW_lenW {r : Rr} (h : rcW r) (s : Wst) : s.1.length ≤ (rrW r s).1.length ∧ (rrW r s).1.length ≤ s.1.length + 65800 := by
  obtain ⟨h1, ⟨t, ht, htl⟩, ⟨c, hc, hcl⟩, h4, h5, h6, h7⟩ := h
  have hs := name_short h1
  have a := rrA_len h1 t c r.tt s
  rw [rrW, rrFin_len, ht, hc]
  rw [ht] at h6
  simp only [Int.toNat_natCast] at h6 ⊢
  have b := daW_lenW h6 (rrA r.own t c r.tt s)
  omega
end Go.Proofs.Ytocadkdfhfiijaa
/- A name at the beginning of bytes: mathematics. -/
namespace Go.Proofs.Ytocadkdfhfiijaa
open Go.RowKit
set_option linter.unusedVariables false

theorem nameF_app (x r : ByteArray) : ∀ (f i : Nat), (Dt.nameF f x i).size ≠ 0 → Dt.nameF f (x ++ r) i = Dt.nameF f x i := by
  intro f
  induction f with
  | zero => intro i h; simp [Dt.nameF] at h
  | succ f ih =>
    intro i h
    rw [Dt.nameF] at h ⊢
    rw [Dt.nameF]
    by_cases h1 : i < x.size ∧ i < 255
    · rw [dif_pos h1] at h ⊢
      have h2 : i < (x ++ r).size ∧ i < 255 := by rw [ByteArray.size_append]; omega
      have hg : (x ++ r)[i] = x[i] := by
        have e1 : (x ++ r).data.toList[i]? = some (x ++ r)[i] := Nm.get_data h2.1
        have e2 : x.data.toList[i]? = some x[i] := Nm.get_data h1.1
        rw [ByteArray.data_append, Array.toList_append, List.getElem?_append_left (by simpa using h1.1), e2] at e1
        exact (Option.some.inj e1).symm
      rw [dif_pos h2, hg]
      by_cases h3 : x[i].toNat = 0
      · rw [if_pos h3, if_pos h3]
        apply Nm.ba_ext
        rw [ex_list, ex_list, ByteArray.data_append, Array.toList_append]
        simp only [List.drop_zero]
        rw [List.take_append_of_le_length (by simp; omega)]
      · rw [if_neg h3] at h ⊢
        rw [if_neg h3]
        by_cases h4 : 63 < x[i].toNat
        · rw [if_pos h4] at h; simp at h
        · rw [if_neg h4] at h ⊢
          rw [if_neg h4]
          exact ih _ h
    · rw [dif_neg h1] at h; simp at h
theorem nameAt_app {x r : ByteArray} (h : (Nm.split x).isSome = true) : Dt.nameAtS (x ++ r) = x := by
  obtain ⟨h1, h2⟩ := (Dt.name_iff x).1 h
  have e : Dt.nameAtS x = x := by
    have := Dt.name_ext x h1
    rw [← this, h2, Dt.ext_all]
  rw [Dt.nameAtS, nameF_app x r 256 0 h1]
  exact e

def bA (l : List UInt8) : ByteArray := ⟨l.toArray⟩
theorem bA_data (l : List UInt8) : (bA l).data.toList = l := by simp [bA]
theorem bA_size (l : List UInt8) : (bA l).size = l.length := by
  show l.toArray.size = l.length
  simp
theorem bA_app (a b : List UInt8) : bA (a ++ b) = bA a ++ bA b := by apply Nm.ba_ext; simp [bA]
end Go.Proofs.Ytocadkdfhfiijaa
/- The source of drawn numbers: spec.l01Next by its contract. -/
namespace Go.Proofs.Ytocadkdfhfiijaa
open Go.RowKit

/-- The bytes that the source reads lie where the slice leads, in another block than g. -/
def CodeAt (w : World) (g : Nat) (a : Option Addr) (n : Nat) : Prop :=
  n = 0 ∨ ∃ b off, a = some ⟨b, off, none⟩ ∧ b ≠ g ∧ ∀ i, i < n → ∃ c : Int, w.cell? ⟨b, off + i, none⟩ = some (.int .u8 c) ∧ 0 ≤ c ∧ c < 256

/-- A source lies in block g. -/
def Src (w : World) (g : Nat) (a : Option Addr) (n cap : Nat) : Prop :=
  ∃ pos st : Int, w.heap[g]? = some (.cells #[.slice a n cap, .int .i64 pos, .int .u64 st] 38 (0, 0)) ∧ 0 ≤ pos ∧ pos ≤ n ∧ n ≤ 1048576 ∧ CodeAt w g a n

theorem code_set {w : World} {g i : Nat} {a : Option Addr} {n : Nat} {v : Value} (h : CodeAt w g a n) : CodeAt (w.setCell ⟨g, i, none⟩ v) g a n := by
  rcases h with h | ⟨b, off, e, hb, hc⟩
  · exact .inl h
  · refine .inr ⟨b, off, e, hb, fun j hj => ?_⟩
    obtain ⟨c, h1, h2⟩ := hc j hj
    refine ⟨c, ?_, h2⟩
    rw [World.cell?_setCell_other w ⟨g, i, none⟩ ⟨b, off + j, none⟩ v (by intro h; cases h; exact hb rfl)]
    exact h1

theorem src_one {w : World} {g n cap : Nat} {a : Option Addr} {pos st : Int} (hb : w.heap[g]? = some (.cells #[.slice a n cap, .int .i64 pos, .int .u64 st] 38 (0, 0))) (hp0 : 0 ≤ pos) (hpn : pos ≤ n) (hn : n ≤ 1048576) (hc : CodeAt w g a n) (s2 : Int) :
    Src (w.setCell ⟨g, 2, none⟩ (.int .u64 s2)) g a n cap ∧ w.grownBy (w.setCell ⟨g, 2, none⟩ (.int .u64 s2)) (some g) := by
  refine ⟨⟨pos, s2, ?_, hp0, hpn, hn, code_set hc⟩, ⟨rfl, rfl, rfl, by simp, fun k _ hk => heap_setCell_other w ⟨g, 2, none⟩ k _ (fun e => hk (by simp [e]))⟩⟩
  rw [heap_setCell_same w g 2 _ _ _ hb]; rfl

theorem src_two {w : World} {g n cap : Nat} {a : Option Addr} {pos st : Int} (hb : w.heap[g]? = some (.cells #[.slice a n cap, .int .i64 pos, .int .u64 st] 38 (0, 0))) (hn : n ≤ 1048576) (hc : CodeAt w g a n) (s2 p2 : Int) (hp0 : 0 ≤ p2) (hpn : p2 ≤ n) :
    Src ((w.setCell ⟨g, 2, none⟩ (.int .u64 s2)).setCell ⟨g, 1, none⟩ (.int .i64 p2)) g a n cap ∧ w.grownBy ((w.setCell ⟨g, 2, none⟩ (.int .u64 s2)).setCell ⟨g, 1, none⟩ (.int .i64 p2)) (some g) := by
  have h1 := heap_setCell_same w g 2 _ _ (.int .u64 s2) hb
  have h2 := heap_setCell_same _ g 1 _ _ (.int .i64 p2) h1
  refine ⟨⟨p2, s2, ?_, hp0, hpn, hn, code_set (code_set hc)⟩, ⟨rfl, rfl, rfl, by simp, fun k _ hk => ?_⟩⟩
  · rw [h2]; rfl
  · rw [heap_setCell_other _ ⟨g, 1, none⟩ k _ (fun e => hk (by simp [e])), heap_setCell_other w ⟨g, 2, none⟩ k _ (fun e => hk (by simp [e]))]

theorem grown_drewS {w w' : World} {row : Option Nat} (h : w.grownBy w' row) : w.grownBy w'.drew row := ⟨h.os, h.tape, h.output, h.size, h.block⟩

theorem grown_step {w w1 w2 : World} {g : Nat} (h : w.grownBy w1 (some g)) (h2 : w1.grownBy w2 (some g)) : w.grownBy w2 (some g) :=
  ⟨h2.os.trans h.os, h2.tape.trans h.tape, h2.output.trans h.output, Nat.le_trans h.size h2.size, fun k hk hne => (h2.block k (Nat.lt_of_lt_of_le hk h.size) hne).trans (h.block k hk hne)⟩

theorem grown_own {w w1 w2 : World} {g : Nat} {row : Option Nat} (h : w.grownBy w1 (some g)) (h2 : w1.grownBy w2 row) (hr : ∀ k, row = some k → w.heap.size ≤ k) : w.grownBy w2 (some g) :=
  ⟨h2.os.trans h.os, h2.tape.trans h.tape, h2.output.trans h.output, Nat.le_trans h.size h2.size, fun k hk hne =>
    (h2.block k (Nat.lt_of_lt_of_le hk h.size) (fun e => by have := hr k e.symm; omega)).trans (h.block k hk hne)⟩

theorem grown_below {w w1 w2 : World} {g : Nat} (h : w.grownBy w1 (some g)) (h2 : Below w1.heap.size w1 w2) : w.grownBy w2 (some g) :=
  ⟨h2.os.trans h.os, h2.tape.trans h.tape, h2.output.trans h.output, Nat.le_trans h.size h2.size, fun k hk hne =>
    (h2.block k (Nat.lt_of_lt_of_le hk h.size)).trans (h.block k hk hne)⟩

theorem grown_alloc {w w1 : World} {g : Nat} (h : w.grownBy w1 (some g)) (o : Obj) : w.grownBy (w1.alloc o) (some g) :=
  grown_below h ((Below.refl _ _).alloc (Nat.le_refl _) o)

theorem below_of_grown {w w1 : World} {B g : Nat} (h : w.grownBy w1 (some g)) (hg : B ≤ g) (hB : B ≤ w.heap.size) : Below B w w1 :=
  (Below.refl B w).grown h hB (fun k hk => by simp at hk; omega)

/-- A source stays where blocks other than its own and its bytes' have turned. -/
theorem src_below {w w1 : World} {g n cap : Nat} {a : Option Addr} (h : Src w g a n cap) (hb : Below w.heap.size w w1) : Src w1 g a n cap := by
  obtain ⟨pos, st, h1, h2, h3, h4, h5⟩ := h
  refine ⟨pos, st, ?_, h2, h3, h4, ?_⟩
  · rw [hb.block g (Array.getElem?_eq_some_iff.1 h1).1]; exact h1
  · rcases h5 with h5 | ⟨b, off, e, hne, hc⟩
    · exact .inl h5
    · refine .inr ⟨b, off, e, hne, fun j hj => ?_⟩
      obtain ⟨c, hc1, hc2⟩ := hc j hj
      exact ⟨c, (hb.cell (World.block_lt_of_cell? w _ hc1)).trans hc1, hc2⟩

/-- .. also behind an append onto a row whose block came later. -/
theorem src_grown {w w0 w1 : World} {g n cap : Nat} {a : Option Addr} {row : Option Nat} (h : Src w g a n cap) (hg : w.grownBy w1 row) (hr : ∀ k, row = some k → w0.heap.size ≤ k) (hlt : g < w0.heap.size) (hcode : CodeAt w0 g a n) : Src w1 g a n cap := by
  obtain ⟨pos, st, h1, h2, h3, h4, h5⟩ := h
  refine ⟨pos, st, ?_, h2, h3, h4, ?_⟩
  · rw [hg.block g (Array.getElem?_eq_some_iff.1 h1).1 (fun e => by have := hr g e.symm; omega)]; exact h1
  · rcases h5 with h5 | ⟨b, off, e, hne, hc⟩
    · exact .inl h5
    · rcases hcode with h6 | ⟨b', off', e', _, hc'⟩
      · exact .inl h6
      · rw [e] at e'
        simp only [Option.some.injEq, Addr.mk.injEq, and_true] at e'
        obtain ⟨rfl, rfl⟩ := e'
        refine .inr ⟨b, off, e, hne, fun j hj => ?_⟩
        obtain ⟨c, hc1, hc2⟩ := hc j hj
        obtain ⟨c', hc1', _⟩ := hc' j hj
        have hbl := World.block_lt_of_cell? w0 _ hc1'
        exact ⟨c, hg.cell hc1 (fun e => by have h7 := hr b e.symm; have h8 : b < w0.heap.size := hbl; omega), hc2⟩

theorem src_code {w : World} {g n cap : Nat} {a : Option Addr} (h : Src w g a n cap) : CodeAt w g a n ∧ g < w.heap.size := by
  obtain ⟨pos, st, h1, h2, h3, h4, h5⟩ := h
  exact ⟨h5, (Array.getElem?_eq_some_iff.1 h1).1⟩

/-- A row of the call's own is not the source's block: its elements are of another type. -/
theorem row_src {w : World} {B e m g n cap : Nat} {a : Option Addr} {v : Value} {xs : List Value} (h : w.ownsRow B e 1 v m xs) (hs : Src w g a n cap) (hne : e ≠ 38) : v.ownBlock = none ∨ v.ownBlock ≠ some g := by
  obtain ⟨pos, st, h1, _⟩ := hs
  rcases h.2 with ⟨rfl, _⟩ | ⟨g', cap', cur, rfl, _, hh, _⟩
  · exact .inl rfl
  · right
    simp only [Value.ownBlock, ne_eq, Option.some.injEq]
    intro e2
    subst e2
    rw [hh] at h1
    simp at h1
    exact hne h1.2

theorem next_bound {x N : Int} (hx : 0 ≤ x) (h1 : 1 ≤ N) (h2 : N ≤ 1048576) : 0 ≤ wrap64 (x.tmod N) ∧ wrap64 (x.tmod N) < N := by
  have a1 : 0 ≤ x.tmod N := Int.tmod_nonneg N hx
  have a2 : x.tmod N < N := Int.tmod_lt_of_pos x (by omega)
  rw [IntWalk.wrap64_in (x.tmod N) ⟨by omega, by omega⟩]
  exact ⟨a1, a2⟩

theorem u64_nn (k : Int) : 0 ≤ IntKind.u64.wrap k := (bounds_u64 (wf_wrap .u64 k)).1
theorem bits_nn (op : BinOp) (x y : Int) : 0 ≤ bits op .u64 x y := (bounds_u64 (wf_bits op .u64 x y)).1

set_option maxRecDepth 100000 in
set_option maxHeartbeats 800000 in
theorem l01Next_any (g : Nat) (a : Option Addr) (n cap : Nat) (N : Int) (w : World) (h : Src w g a n cap) (hN : N ≤ 1048576) :
    Calls Try.prog 12 #[.pointer (some ⟨g, 0, none⟩), .int .i64 N] w fun e w' => ∃ r : Int, e = .returned (.int .i64 r) ∧ 0 ≤ r ∧ (0 < N → r < N) ∧ Src w' g a n cap ∧ w.grownBy w' (some g) := by
  obtain ⟨pos, st, hb, hp0, hpn, hn, hcode⟩ := h
  by_cases hN0 : N ≤ 0
  · go_enter Try.func12, Try.ntmps12
    go_wp2
    go_ret
    exact ⟨0, rfl, by omega, by omega, ⟨pos, st, hb, hp0, hpn, hn, hcode⟩, World.grownBy.refl _ _⟩
  · have c0 : w.cell? ⟨g, 0, none⟩ = some (.slice a n cap) := by rw [cell_of_row _ _ _ _ _ _ hb]; rfl
    have c1 : w.cell? ⟨g, 1, none⟩ = some (.int .i64 pos) := by rw [cell_of_row _ _ _ _ _ _ hb]; rfl
    have c2 : w.cell? ⟨g, 2, none⟩ = some (.int .u64 st) := by rw [cell_of_row _ _ _ _ _ _ hb]; rfl
    have f0 := frozen_of_row w g 0 _ _ hb
    have f1 := frozen_of_row w g 1 _ _ hb
    have f2 := frozen_of_row w g 2 _ _ hb
    have hN1 : 1 ≤ N := by omega
    by_cases hlt : pos < n
    · obtain ⟨b, off, rfl, hbg, hcell⟩ := hcode.resolve_left (by omega)
      obtain ⟨k, rfl⟩ := Int.eq_ofNat_of_zero_le hp0
      obtain ⟨c, hc, hc0, hc1⟩ := hcell k (by omega)
      have HS := fun s2 => Nm.hide (src_two hb hn hcode s2 ((k : Int) + 1) (by omega) (by omega))
      clear hb hcode
      go_enter Try.func12, Try.ntmps12
      go_wp2
      go_region
      go_wp2
      go_region
      go_wp2
      go_ret
      have B := next_bound (N := N) (bits_nn .xor (IntKind.u64.wrap (IntKind.u64.wrap (st * 6364136223846793005) + 1442695040888963407) / 8589934592) c) hN1 hN
      exact ⟨_, rfl, B.1, fun _ => B.2, (HS _).out.1, grown_drewS (grown_drewS (HS _).out.2)⟩
    · have HS := fun s2 => Nm.hide (src_one hb hp0 hpn hn hcode s2)
      have hge : (n : Int) ≤ pos := by omega
      clear hb hcode
      go_enter Try.func12, Try.ntmps12
      go_wp2
      go_region
      go_wp2
      go_ret
      have B := next_bound (N := N) (x := IntKind.u64.wrap (IntKind.u64.wrap (st * 6364136223846793005) + 1442695040888963407) / 8589934592) (Int.ediv_nonneg (u64_nn _) (by decide)) hN1 hN
      exact ⟨_, rfl, B.1, fun _ => B.2, (HS _).out.1, grown_drewS (HS _).out.2⟩
end Go.Proofs.Ytocadkdfhfiijaa
/- The size of bytes that are made. -/
namespace Go.Proofs.Ytocadkdfhfiijaa
open Go.RowKit

theorem mk_size (l : List UInt8) : (⟨l.toArray⟩ : ByteArray).size = l.length := by show l.toArray.size = _; simp
end Go.Proofs.Ytocadkdfhfiijaa
/- Names as text, as plain mathematics. -/
namespace Go.Proofs.Ytocadkdfhfiijaa.Nm
open Go.RowKit

def marks : List UInt8 := [46, 92, 34, 59, 40, 41, 64, 36]
def markB (c : UInt8) : Bool := marks.any (· == c)

def threeL (c : UInt8) : List UInt8 := [UInt8.ofNat (48 + c.toNat / 100), UInt8.ofNat (48 + c.toNat / 10 % 10), UInt8.ofNat (48 + c.toNat % 10)]

def showB (c : UInt8) : List UInt8 :=
  if markB c = true then [92, c]
  else if 33 ≤ c.toNat ∧ c.toNat ≤ 126 then [c]
  else 92 :: threeL c

def showX (l : List UInt8) : List UInt8 := l.flatMap showB

def showL : List ByteArray → List UInt8
  | [] => []
  | l :: r => (showX l.data.toList ++ [46]) ++ showL r

theorem showB_mark {c : UInt8} (h : markB c = true) : showB c = [92, c] := by rw [showB, if_pos h]
theorem showB_plain {c : UInt8} (h : markB c = false) (h1 : 33 ≤ c.toNat ∧ c.toNat ≤ 126) : showB c = [c] := by rw [showB, if_neg (by simp [h]), if_pos h1]
theorem showB_num {c : UInt8} (h : markB c = false) (h1 : ¬ (33 ≤ c.toNat ∧ c.toNat ≤ 126)) : showB c = 92 :: threeL c := by rw [showB, if_neg (by simp [h]), if_neg h1]

theorem showB_length (c : UInt8) : (showB c).length ≤ 4 ∧ 1 ≤ (showB c).length := by
  unfold showB threeL
  split
  · simp
  · split <;> simp

theorem showX_append (a b : List UInt8) : showX (a ++ b) = showX a ++ showX b := by simp [showX]

theorem showX_length (l : List UInt8) : (showX l).length ≤ 4 * l.length := by
  induction l with
  | nil => simp [showX]
  | cons c r ih =>
    have := showB_length c
    simp only [showX, List.flatMap_cons, List.length_append, List.length_cons] at *
    omega

theorem showL_append (a b : List ByteArray) : showL (a ++ b) = showL a ++ showL b := by
  induction a with
  | nil => simp [showL]
  | cons x a ih => simp [showL, ih]

theorem showL_length (ls : List ByteArray) : (showL ls).length ≤ 4 * wsum ls := by
  induction ls with
  | nil => simp [showL]
  | cons x r ih =>
    have := showX_length x.data.toList
    simp only [showL, wsum, List.length_append, List.length_cons, List.length_nil, Array.length_toList, ByteArray.size_data] at *
    omega

theorem showL_step {ls : List ByteArray} {k : Nat} {x : ByteArray} (h : ls[k]? = some x) : showL (ls.take (k + 1)) = showL (ls.take k) ++ (showX x.data.toList ++ [46]) := by
  rw [take_step h, showL_append]; simp [showL]

theorem showX_step {x : ByteArray} {j : Nat} (h : j < x.size) : showX (x.data.toList.take (j + 1)) = showX (x.data.toList.take j) ++ showB x[j] := by
  have e : x.data.toList[j]? = some x[j] := by
    rw [List.getElem?_eq_getElem (by simpa using h)]; rfl
  rw [take_step e, showX_append]; simp [showX]

theorem showL_pos {ls : List ByteArray} (h : ls ≠ []) : 0 < (showL ls).length := by
  cases ls with
  | nil => exact absurd rfl h
  | cons x r => simp only [showL, List.length_append, List.length_cons, List.length_nil]; omega

def showS (s : ByteArray) : ByteArray × Int :=
  match split s with
  | none => (ByteArray.empty, 1)
  | some [] => (⟨#[46]⟩, 0)
  | some ls => (⟨(showL ls).toArray⟩, 0)

theorem showS_none {s : ByteArray} (h : split s = none) : showS s = (ByteArray.empty, 1) := by simp [showS, h]
theorem showS_root {s : ByteArray} (h : split s = some []) : showS s = (⟨#[46]⟩, 0) := by simp [showS, h]
theorem showS_some {s : ByteArray} {ls : List ByteArray} (h : split s = some ls) (hn : ls ≠ []) : showS s = (⟨(showL ls).toArray⟩, 0) := by
  cases ls with
  | nil => exact absurd rfl hn
  | cons x r => simp [showS, h]

theorem u8_back (c : UInt8) : ((c.toNat : Int)).toNat.toUInt8 = c := by
  simp

theorem mark_idx (c : UInt8) : decide (0 ≤ firstIdx ⟨#[46, 92, 34, 59, 40, 41, 64, 36]⟩ c) = markB c := by
  rw [firstIdx_nonneg]; rfl

theorem bys_mark (c : UInt8) : [Value.int .u8 (c.toNat : Int)] = bys [c] := rfl
theorem bys_num (c : UInt8) : [Value.int .u8 92, .int .u8 (48 + (c.toNat : Int) / 100), .int .u8 (48 + (c.toNat : Int) / 10 % 10), .int .u8 (48 + (c.toNat : Int) % 10)] = bys (92 :: threeL c) := by
  have := c.toNat_lt
  simp [bys, threeL]; omega

theorem markB_true {c : UInt8} (h : markB c = true) : c = 46 ∨ c = 92 ∨ c = 34 ∨ c = 59 ∨ c = 40 ∨ c = 41 ∨ c = 64 ∨ c = 36 := by
  simp [markB, marks] at h
  rcases h with h | h | h | h | h | h | h | h <;> simp [← h]

theorem markB_false {c : UInt8} (h : markB c = false) : (c == 46) = false ∧ (c == 92) = false ∧ (c == 34) = false ∧ (c == 59) = false ∧ (c == 40) = false ∧ (c == 41) = false ∧ (c == 64) = false ∧ (c == 36) = false := by
  simp only [markB, marks, List.any_cons, List.any_nil, Bool.or_eq_false_iff, beq_eq_false_iff_ne] at h
  obtain ⟨h1, h2, h3, h4, h5, h6, h7, h8, _⟩ := h
  simp only [beq_eq_false_iff_ne]
  exact ⟨h1.symm, h2.symm, h3.symm, h4.symm, h5.symm, h6.symm, h7.symm, h8.symm⟩

theorem four_cells (a b c d : Int) : ∀ u ∈ [Value.int .u8 a, .int .u8 b, .int .u8 c, .int .u8 d], u.oneCell' = true := by
  intro u hu
  simp at hu
  rcases hu with rfl | rfl | rfl | rfl <;> rfl

end Go.Proofs.Ytocadkdfhfiijaa.Nm
/- spec.l01Bytes by its contract. -/
namespace Go.Proofs.Ytocadkdfhfiijaa
open Go.RowKit

theorem Try.infoU8d : (Try.prog.info? 5).map (fun i => (i.zero, i.size, i.bytes)) = some (some (.int .u8 0), 1, 1) := by kernel_rfl

theorem conv_emptyd (c : Nat) (W : World) : (convert 22 9 (.slice (some ⟨c, 0, none⟩) 0 0)).run Try.prog W = .ok (.string ByteArray.empty) W :=
  run_convert_bytes_back W 22 9 5 ⟨c, 0, none⟩ 0 [] Try.underlying22 Try.underlying5 Try.underlying9 (by intro j hj; simp at hj)

theorem byte_of_int {r : Int} (h0 : 0 ≤ r) (h1 : r < 256) : ∃ c : UInt8, (c.toNat : Int) = r := by
  refine ⟨UInt8.ofNat r.toNat, ?_⟩
  simp
  omega

set_option maxRecDepth 100000 in
set_option maxHeartbeats 800000 in
theorem l01Bytes_any (g : Nat) (a : Option Addr) (n cap : Nat) (N : Int) (w : World) (h : Src w g a n cap) (hN0 : 0 ≤ N) (hN : N ≤ 1048576) :
    Calls Try.prog 53 #[.pointer (some ⟨g, 0, none⟩), .int .i64 N] w fun e w' => ∃ s : ByteArray, e = .returned (.string s) ∧ (s.size : Int) = N ∧ Src w' g a n cap ∧ w.grownBy w' (some g) := by
  obtain ⟨j0, hj, k0, k1, k2⟩ := info_parts Try.infoU8d
  obtain ⟨m, rfl⟩ := Int.eq_ofNat_of_zero_le hN0
  have hcd := src_code h
  by_cases hz : m = 0
  · subst hz
    have hcv := fun W => conv_emptyd w.heap.size W
    go_enter Try.func53, Try.ntmps53
    go_wp2
    go_loop [5, 6] (fun v i => v = .slice (some ⟨w.heap.size, 0, none⟩) 0 0 ∧ i = .int .i64 0) (fun _ _ => 0)
    case atStart => exact ⟨rfl, rfl⟩
    case round =>
      obtain ⟨rfl, rfl⟩ := hrel
      go_wp2
      go_ret
      exact ⟨ByteArray.empty, rfl, rfl, src_below h ((Below.refl _ _).alloc (Nat.le_refl _) _), grown_alloc (World.grownBy.refl _ _) _⟩
  · go_enter Try.func53, Try.ntmps53
    go_wp2
    go_loopw [5, 6] (fun v i wr => ∃ (k : Nat) (l : List UInt8), k ≤ m ∧ i = .int .i64 k ∧ wr.ownsRow w.heap.size 5 1 v k (Nm.bys l) ∧ Src wr g a n cap ∧ w.grownBy wr (some g))
      (fun _ i _ => m - (intOf i).toNat)
    case atStart => exact ⟨0, [], Nat.zero_le _, rfl, World.ownsRow_made w #[] 0 (Nat.le_refl _) (by decide) rfl, src_below h ((Below.refl _ _).alloc (Nat.le_refl _) _), grown_alloc (World.grownBy.refl _ _) _⟩
    case round =>
      obtain ⟨k, l, hk, rfl, hown, hsrc, hgr⟩ := hrel
      have hsz := hgr.size
      clear h
      by_cases hlt : k < m
      · go_wp2_with (first | (go_at_call 12; refine (l01Next_any g a n cap 256 _ hsrc (by decide)).mono ?_; rintro e w3 ⟨r, rfl, hr0, hr1, hsrc3, hgr3⟩; have hr2 := hr1 (by decide); obtain ⟨c, hc⟩ := byte_of_int hr0 hr2; subst hc; have hown3 := hown.kept hgr3 (row_src hown hsrc (by decide)); have hg3 := grown_step hgr hgr3; have hsz3 := hg3.size; clear hr1) | (at_builtin; refine wpList_append_own _ rfl (.tmp 13) (.tmp 17) 22 rfl w.heap.size 5 j0 (.int .u8 0) 1 1 Try.underlying22 hj k0 k1 k2 rfl (by decide) _ _ _ rfl (hown3.alloc _) ⟨w3.heap.size, 0, none⟩ 1 1 [.int .u8 (c.toNat : Int)] rfl rfl (cell_one_new _ _ _) (Nm.one_cell _ rfl) (by unfold maxLen; omega) (by omega) (by simp; omega) ?_; intro vb wb hown4 hgrow4 hnl4; clear hnl4; have hrow : ∀ q, Value.ownBlock _ = some q → w.heap.size ≤ q := fun q hq => (hown3.lt q hq).1; have hs4 := src_grown (src_below hsrc3 ((Below.refl _ _).alloc (Nat.le_refl _) _)) hgrow4 hrow hcd.2 hcd.1; have hg4 := grown_own (grown_alloc hg3 _) hgrow4 hrow; rw [Nm.bys_mark, ← Nm.bys_append] at hown4; clear hgrow4 hown3))
        go_roundw
        case rel => exact ⟨k + 1, _, by omega, by go_num, hown4, hs4, hg4⟩
        case measure => simp [intOf]; omega
      · have hke : k = m := by omega
        subst hke
        have hll : l.length = k := by have := hown.1; rw [Nm.bys_length] at this; omega
        obtain ⟨g6, cp6, rfl, hcv⟩ := Nm.conv_own (P := Try.prog) Try.underlying22 Try.underlying5 Try.underlying9 hown (by omega)
        have hms := mk_size l
        clear hown hlt
        go_wp2
        go_ret
        exact ⟨_, rfl, by rw [hms]; omega, hsrc, hgr⟩
end Go.Proofs.Ytocadkdfhfiijaa
/- spec.l02Type by its contract. -/
namespace Go.Proofs.Ytocadkdfhfiijaa
open Go.RowKit
set_option linter.unusedVariables false

/-- The types that are drawn. -/
def drTs : List Nat := [1, 2, 5, 6, 12, 13, 15, 16, 28, 33, 35, 39, 47, 257, 1, 2, 15, 28, 99, 65280]
theorem drTs_ok {t : Nat} (h : t ∈ drTs) : 1 ≤ t ∧ t < 65536 := by
  simp [drTs] at h
  omega

set_option maxRecDepth 100000 in
set_option maxHeartbeats 1600000 in
theorem l02Type_any (g : Nat) (a : Option Addr) (n cap : Nat) (w : World) (h : Src w g a n cap) :
    Calls Try.prog 27 #[.pointer (some ⟨g, 0, none⟩)] w fun e w' => ∃ t : Nat, e = .returned (.int .i64 (t : Int)) ∧ t ∈ drTs ∧ Src w' g a n cap ∧ w.grownBy w' (some g) := by
  obtain ⟨hcode, hglt⟩ := src_code h
  have hk := blk_new w #[.int .i64 1, .int .i64 2, .int .i64 5, .int .i64 6, .int .i64 12, .int .i64 13, .int .i64 15, .int .i64 16, .int .i64 28, .int .i64 33, .int .i64 35, .int .i64 39, .int .i64 47, .int .i64 257, .int .i64 1, .int .i64 2, .int .i64 15, .int .i64 28, .int .i64 99, .int .i64 65280] 2
  have hA : w.grownBy (w.alloc (.cells #[.int .i64 1, .int .i64 2, .int .i64 5, .int .i64 6, .int .i64 12, .int .i64 13, .int .i64 15, .int .i64 16, .int .i64 28, .int .i64 33, .int .i64 35, .int .i64 39, .int .i64 47, .int .i64 257, .int .i64 1, .int .i64 2, .int .i64 15, .int .i64 28, .int .i64 99, .int .i64 65280] 2)) (some g) := grown_alloc (World.grownBy.refl _ _) _
  have hS := src_below h ((Below.refl _ _).alloc (Nat.le_refl _) (.cells #[.int .i64 1, .int .i64 2, .int .i64 5, .int .i64 6, .int .i64 12, .int .i64 13, .int .i64 15, .int .i64 16, .int .i64 28, .int .i64 33, .int .i64 35, .int .i64 39, .int .i64 47, .int .i64 257, .int .i64 1, .int .i64 2, .int .i64 15, .int .i64 28, .int .i64 99, .int .i64 65280] 2))
  go_enter Try.func27, Try.ntmps27
  go_wp2_with (
    go_at_call 12
    refine (l01Next_any g a n cap 20 _ hS (by decide)).mono ?_
    rintro e w1 ⟨r, rfl, hr0, hr1, hsrc1, hgr1⟩
    have hr2 := hr1 (by decide)
    obtain ⟨i, rfl⟩ := Int.eq_ofNat_of_zero_le hr0
    have hi : i < 20 := by omega
    obtain ⟨t, ht⟩ : ∃ t, drTs[i]? = some t := ⟨_, List.getElem?_eq_getElem (by simpa [drTs] using hi)⟩
    have hk1 := blk_grown hk hgr1 (by intro e; cases e; omega)
    have hc1 : w1.cell? ⟨w.heap.size, i, none⟩ = some (.int .i64 (t : Int)) := by
      rw [blk_cell hk1 i]
      have e : #[.int .i64 1, .int .i64 2, .int .i64 5, .int .i64 6, .int .i64 12, .int .i64 13, .int .i64 15, .int .i64 16, .int .i64 28, .int .i64 33, .int .i64 35, .int .i64 39, .int .i64 47, .int .i64 257, .int .i64 1, .int .i64 2, .int .i64 15, .int .i64 28, .int .i64 99, .int .i64 65280] = (drTs.map (fun t : Nat => Value.int .i64 (t : Int))).toArray := rfl
      rw [e, List.getElem?_toArray, List.getElem?_map, ht]
      rfl
    clear hr1 hk hk1)
  go_ret
  exact ⟨t, rfl, List.mem_of_getElem? ht, hsrc1, grown_step hA hgr1⟩
end Go.Proofs.Ytocadkdfhfiijaa
/- Data that is drawn has its form: mathematics. -/
namespace Go.Proofs.Ytocadkdfhfiijaa
open Go.RowKit
set_option linter.unusedVariables false

/-- Letters and what was drawn for them. -/
def LOK : List UInt8 → List ByteArray → Prop
  | [], [] => True
  | c :: cs, x :: xs => ((c = 110 → (Nm.split x).isSome = true) ∧ (c = 98 → x.size = 1)) ∧ LOK cs xs
  | _, _ => False
theorem LOK.snoc : ∀ {cs : List UInt8} {xs : List ByteArray} {c : UInt8} {x : ByteArray}, LOK cs xs → (c = 110 → (Nm.split x).isSome = true) → (c = 98 → x.size = 1) → LOK (cs ++ [c]) (xs ++ [x]) := by
  intro cs
  induction cs with
  | nil =>
    intro xs c x h h1 h2
    cases xs with
    | nil => exact ⟨⟨h1, h2⟩, trivial⟩
    | cons y ys => exact absurd h (by simp [LOK])
  | cons d cs ih =>
    intro xs c x h h1 h2
    cases xs with
    | nil => exact absurd h (by simp [LOK])
    | cons y ys => exact ⟨h.1, ih h.2 h1 h2⟩
theorem cat_cons (x : ByteArray) (xs : List ByteArray) : bA (Dt.catL (x :: xs)) = x ++ bA (Dt.catL xs) := by
  apply Nm.ba_ext
  simp [bA, Dt.catL]
theorem cat_snoc (xs : List ByteArray) (x : ByteArray) : bA (Dt.catL (xs ++ [x])) = bA (Dt.catL xs) ++ x := by
  apply Nm.ba_ext
  simp [bA, Dt.catL]
theorem rest_of (x r : ByteArray) : (x ++ r).extract x.size (x ++ r).size = r := by
  apply Nm.ba_ext
  rw [ex_list, ByteArray.data_append, Array.toList_append, List.drop_left' (by simp), ByteArray.size_append, Nat.add_sub_cancel_left, List.take_of_length_le (by simp)]
theorem head_of (x r : ByteArray) : (x ++ r).extract 0 x.size = x := by
  apply Nm.ba_ext
  rw [ex_list, ByteArray.data_append, Array.toList_append, List.drop_zero, Nat.sub_zero, List.take_left' (by simp)]
theorem parts_drawn : ∀ (cs : List UInt8) (xs : List ByteArray), LOK cs xs → (∀ c ∈ cs, c = 110 ∨ c = 98) → Dt.parts (cs.map Dt.letP) (bA (Dt.catL xs)) = some xs := by
  intro cs
  induction cs with
  | nil =>
    intro xs h hc
    cases xs with
    | nil => rfl
    | cons y ys => exact absurd h (by simp [LOK])
  | cons c cs ih =>
    intro xs h hc
    cases xs with
    | nil => exact absurd h (by simp [LOK])
    | cons x xs =>
      obtain ⟨⟨h1, h2⟩, h3⟩ := h
      have hi := ih xs h3 (fun d hd => hc d (List.mem_cons_of_mem _ hd))
      have hsz : Dt.sz (Dt.letP c) (x ++ bA (Dt.catL xs)) = some x.size := by
        rcases hc c (List.mem_cons_self ..) with rfl | rfl
        · have hs := h1 rfl
          have hz : x.size ≠ 0 := by obtain ⟨k1, k2⟩ := (Dt.name_iff x).1 hs; omega
          show Dt.sz .nm _ = _
          rw [Dt.sz, nameAt_app hs, if_neg hz]
        · have hs := h2 rfl
          show Dt.sz (.bs 1) _ = _
          rw [Dt.sz, if_pos (by rw [ByteArray.size_append]; omega), hs]
      rw [List.map_cons, Dt.parts, cat_cons, hsz]
      simp only
      rw [rest_of, hi, head_of]
      rfl
theorem form_pointed {t : Nat} (h : pointed t) : ∀ c ∈ (Dt.formS t).data.toList, c = 110 ∨ c = 98 := by
  rcases h with rfl | rfl | rfl | rfl | rfl <;> decide
/-- How many bytes are drawn for a letter at most. -/
def letW (c : UInt8) : Nat := if c = 109 then 8704 else 800
def wtL (cs : List UInt8) : Nat := (cs.map letW).sum
theorem wtL_snoc (cs : List UInt8) (c : UInt8) : wtL (cs ++ [c]) = wtL cs + letW c := by simp [wtL]
theorem form_wt {t : Nat} (h : t ∈ drTs) : wtL (Dt.formS t).data.toList ≤ 60000 := by
  simp only [drTs, List.mem_cons, List.not_mem_nil, or_false] at h
  rcases h with rfl | rfl | rfl | rfl | rfl | rfl | rfl | rfl | rfl | rfl | rfl | rfl | rfl | rfl | rfl | rfl | rfl | rfl | rfl | rfl <;> decide
theorem code_drawn {t : Nat} {xs : List ByteArray} (ht : t ∈ drTs) (hp : pointed t) (h : LOK (Dt.formS t).data.toList xs) (hz : (bA (Dt.catL xs)).size ≤ 65535) : cutCode t (bA (Dt.catL xs)) = 0 := by
  have hpt := parts_drawn _ xs h (form_pointed hp)
  have hr := drTs_ok ht
  exact (code_some (by omega) (by omega) (by rw [← Dt.forms_agree, Dt.spans_of_parts, Dt.specP, hpt]; rfl)).1
end Go.Proofs.Ytocadkdfhfiijaa
/- string([]byte{c}), and small things. -/
namespace Go.Proofs.Ytocadkdfhfiijaa
open Go.RowKit

theorem conv_one (n : Int) (W : World) :
    (convert 22 9 (.slice (some ⟨W.heap.size, 0, none⟩) 1 1)).run Try.prog (W.alloc (.cells #[.int .u8 n] 5)) = .ok (.string ⟨#[UInt8.ofNat n.toNat]⟩) (W.alloc (.cells #[.int .u8 n] 5)) := by
  rw [run_convert_bytes_string _ 22 9 5 _ _ _ Try.underlying22 Try.underlying5 Try.underlying9]
  have hl := run_loadCells_list (P := Try.prog) (W.alloc (.cells #[.int .u8 n] 5)) ⟨W.heap.size, 0, none⟩ ([n].map (Value.int .u8)) (fun j v hj => cell_one_new W (.int .u8 n) 5 j v hj)
  rw [run_bytesToString _ _ 1 1 [n] hl]
  rfl

theorem conv_one_drew (n : Int) (W : World) :
    (convert 22 9 (.slice (some ⟨W.heap.size, 0, none⟩) 1 1)).run Try.prog (W.alloc (.cells #[.int .u8 n] 5)).drew = .ok (.string ⟨#[UInt8.ofNat n.toNat]⟩) (W.alloc (.cells #[.int .u8 n] 5)).drew :=
  conv_one n W.drew

theorem ret_str {a b : ByteArray} (h : a = b) : Ending.returned (.string a) = .returned (.string b) := by rw [h]

theorem byte_mod (n : Nat) : UInt8.ofNat (n % 256) = UInt8.ofNat n := by
  apply UInt8.toNat_inj.1
  simp

theorem ba_ext {a b : ByteArray} (h : a.data.toList = b.data.toList) : a = b := by
  apply ByteArray.ext
  exact Array.toList_inj.1 h

theorem size_list (s : ByteArray) : s.data.toList.length = s.size := by simp

end Go.Proofs.Ytocadkdfhfiijaa
