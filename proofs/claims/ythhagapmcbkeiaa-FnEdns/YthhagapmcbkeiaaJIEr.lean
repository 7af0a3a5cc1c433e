import Derived.Test.YthhagapmcbkeiaaIOd
import Derived.Test.YthhagapmcbkeiaaJMath
import Derived.Test.YthhagapmcbkeiaaSEr
import Derived.Test.YthhagapmcbkeiaaJSgR
/- impl.EdnsRecord by its contract. -/
namespace Go.Proofs.Ythhagapmcbkeiaa
open Go.RowKit
set_option linter.unusedVariables false

theorem ir_back {w W : World} {size code flags : Int} {xs : List (Int × ByteArray)} {a : Act} {c : Array Value} {n : Value} (hk : Blk W w.heap.size c 27) (hB : Below w.heap.size w W) (h8 : a.tmps[8]?.getD undef = .pointer (some ⟨w.heap.size, 0, none⟩)) (h9 : a.tmps[9]?.getD undef = n) (hd : a.defers = []) (hc : erP size code flags xs = .returned (.tuple #[.agg c, n])) (hz : c.size = 5) :
    bodyPost Try.prog Try.f6 (fun e w' => e = erP size code flags xs ∧ Below w.heap.size w w') .ret a W := by
  have hl := run_loadVar_row W w.heap.size 27 27 c (0, 0) _ hk Try.underlying27 rfl (by rw [hz]; kernel_rfl)
  refine bodyPost_ret (v := .tuple #[.agg c, n]) ?_ hd ⟨hc.symm, hB⟩
  simp [results, Try.results6, h8, h9, asAddr, hl]

theorem erB_od (size code flags : Int) (xs : List (Int × ByteArray)) : erB size code flags xs = ((decide (0 ≤ size) && decide (size ≤ 65535)) && ((decide (0 ≤ flags) && decide (flags ≤ 65535)) && ((decide (0 ≤ code) && decide (code ≤ 255)) && odB xs))) := rfl

theorem ttl_or {code flags : Int} (h1 : 0 ≤ code) (h2 : code ≤ 255) (h3 : 0 ≤ flags) (h4 : flags ≤ 65535) : bits .or .i64 (code * 16777216) flags = code * 16777216 + flags := by
  obtain ⟨c, rfl⟩ := Int.eq_ofNat_of_zero_le h1
  obtain ⟨f, rfl⟩ := Int.eq_ofNat_of_zero_le h3
  have := or_join 24 c f (by omega) (by omega)
  have e : ((2 ^ 24 * c : Nat) : Int) = (c : Int) * 16777216 := by rw [Int.natCast_mul]; omega
  rw [e] at this
  rw [this]
  omega

set_option maxRecDepth 100000 in
set_option maxHeartbeats 3200000 in
theorem implEdnsRecord_any (size code flags : Int) (v : Value) (xs : List (Int × ByteArray)) (w : World) (h : CRow w v xs.length 2 (opVs xs)) (hs : xs.length + osum xs ≤ 1048576) :
    Calls Try.prog 6 #[.int .i64 size, .int .i64 code, .int .i64 flags, v] w fun e w' => e = erP size code flags xs ∧ Below w.heap.size w w' := by
  have kR := blk_new w erZ 27
  have hB0 := (Below.refl w.heap.size w).alloc (Nat.le_refl _) (.cells erZ 27)
  have h1 := fun W => within_any size 65535 W
  have h2 := fun W => within_any code 255 W
  have h3 := fun W => within_any flags 65535 W
  have hrow : ∀ W, Below w.heap.size w W → CRow W v xs.length 2 (opVs xs) := fun W hW => h.below hW
  have hod := fun W hW => optionsData_any v xs W hW hs
  have HEB := erB_od size code flags xs
  simp only [erZ] at kR hB0
  obtain ⟨_, av, cv, rfl, hcap, hmx, hcc⟩ := h
  clear hcc
  cases od : odB xs with
  | false =>
    have HE : Hid (erB size code flags xs = false) := by show _ = _; rw [HEB, od]; simp
    rw [od] at hod
    clear HEB od
    go_enter Try.func6, Try.ntmps6
    go_wp2_with (first | (go_at_call 15; refine (hod _ (hrow _ hB0)).mono ?_; rintro e w1 ⟨rfl, b1⟩; have kR1 := blk_below kR b1; have hB1 := Nm.below_two hB0 b1) | (go_at_call 16; with_reducible refine (h1 _).mono ?_; rintro e wf ⟨rfl, hw⟩; obtain rfl := hw.symm; clear hw) | (go_at_call 16; with_reducible refine (h2 _).mono ?_; rintro e wf ⟨rfl, hw⟩; obtain rfl := hw.symm; clear hw) | (go_at_call 16; with_reducible refine (h3 _).mono ?_; rintro e wf ⟨rfl, hw⟩; obtain rfl := hw.symm; clear hw) | (refine wpList_store_blk (.tmp 8) (.tmp 34) 27 rfl rfl rfl w.heap.size _ _ kR1 rfl rfl (by kernel_rfl) rfl (by kernel_rfl) ?_; intro wz kz oz) | (refine wpList_store_blk (.tmp 8) (.tmp 41) 27 rfl rfl rfl w.heap.size _ _ kR1 rfl rfl (by kernel_rfl) rfl (by kernel_rfl) ?_; intro wz kz oz))
    exact ir_back kz (oz.below hB1 (Nat.le_refl _) hB1.size) rfl rfl rfl (erP_bad HE.out) rfl
  | true =>
  rw [od] at hod
  cases b1 : (decide (0 ≤ size) && decide (size ≤ 65535)) with
  | false =>
    have HE : Hid (erB size code flags xs = false) := by show _ = _; rw [HEB, b1]; rfl
    rw [b1] at h1
    clear HEB od b1
    go_enter Try.func6, Try.ntmps6
    go_wp2_with (first | (go_at_call 15; refine (hod _ (hrow _ hB0)).mono ?_; rintro e w1 ⟨rfl, b1⟩; have kR1 := blk_below kR b1; have hB1 := Nm.below_two hB0 b1) | (go_at_call 16; with_reducible refine (h1 _).mono ?_; rintro e wf ⟨rfl, hw⟩; obtain rfl := hw.symm; clear hw) | (go_at_call 16; with_reducible refine (h2 _).mono ?_; rintro e wf ⟨rfl, hw⟩; obtain rfl := hw.symm; clear hw) | (go_at_call 16; with_reducible refine (h3 _).mono ?_; rintro e wf ⟨rfl, hw⟩; obtain rfl := hw.symm; clear hw) | (refine wpList_store_blk (.tmp 8) (.tmp 34) 27 rfl rfl rfl w.heap.size _ _ kR1 rfl rfl (by kernel_rfl) rfl (by kernel_rfl) ?_; intro wz kz oz) | (refine wpList_store_blk (.tmp 8) (.tmp 41) 27 rfl rfl rfl w.heap.size _ _ kR1 rfl rfl (by kernel_rfl) rfl (by kernel_rfl) ?_; intro wz kz oz))
    exact ir_back kz (oz.below hB1 (Nat.le_refl _) hB1.size) rfl rfl rfl (erP_bad HE.out) rfl
  | true =>
  cases b2 : (decide (0 ≤ code) && decide (code ≤ 255)) with
  | false =>
    have HE : Hid (erB size code flags xs = false) := by show _ = _; rw [HEB, b1, b2]; simp
    rw [b1] at h1
    rw [b2] at h2
    clear HEB od b1 b2
    go_enter Try.func6, Try.ntmps6
    go_wp2_with (first | (go_at_call 15; refine (hod _ (hrow _ hB0)).mono ?_; rintro e w1 ⟨rfl, b1⟩; have kR1 := blk_below kR b1; have hB1 := Nm.below_two hB0 b1) | (go_at_call 16; with_reducible refine (h1 _).mono ?_; rintro e wf ⟨rfl, hw⟩; obtain rfl := hw.symm; clear hw) | (go_at_call 16; with_reducible refine (h2 _).mono ?_; rintro e wf ⟨rfl, hw⟩; obtain rfl := hw.symm; clear hw) | (go_at_call 16; with_reducible refine (h3 _).mono ?_; rintro e wf ⟨rfl, hw⟩; obtain rfl := hw.symm; clear hw) | (refine wpList_store_blk (.tmp 8) (.tmp 34) 27 rfl rfl rfl w.heap.size _ _ kR1 rfl rfl (by kernel_rfl) rfl (by kernel_rfl) ?_; intro wz kz oz) | (refine wpList_store_blk (.tmp 8) (.tmp 41) 27 rfl rfl rfl w.heap.size _ _ kR1 rfl rfl (by kernel_rfl) rfl (by kernel_rfl) ?_; intro wz kz oz))
    exact ir_back kz (oz.below hB1 (Nat.le_refl _) hB1.size) rfl rfl rfl (erP_bad HE.out) rfl
  | true =>
  cases b3 : (decide (0 ≤ flags) && decide (flags ≤ 65535)) with
  | false =>
    have HE : Hid (erB size code flags xs = false) := by show _ = _; rw [HEB, b1, b3]; simp
    rw [b1] at h1
    rw [b2] at h2
    rw [b3] at h3
    clear HEB od b1 b2 b3
    go_enter Try.func6, Try.ntmps6
    go_wp2_with (first | (go_at_call 15; refine (hod _ (hrow _ hB0)).mono ?_; rintro e w1 ⟨rfl, b1⟩; have kR1 := blk_below kR b1; have hB1 := Nm.below_two hB0 b1) | (go_at_call 16; with_reducible refine (h1 _).mono ?_; rintro e wf ⟨rfl, hw⟩; obtain rfl := hw.symm; clear hw) | (go_at_call 16; with_reducible refine (h2 _).mono ?_; rintro e wf ⟨rfl, hw⟩; obtain rfl := hw.symm; clear hw) | (go_at_call 16; with_reducible refine (h3 _).mono ?_; rintro e wf ⟨rfl, hw⟩; obtain rfl := hw.symm; clear hw) | (refine wpList_store_blk (.tmp 8) (.tmp 34) 27 rfl rfl rfl w.heap.size _ _ kR1 rfl rfl (by kernel_rfl) rfl (by kernel_rfl) ?_; intro wz kz oz) | (refine wpList_store_blk (.tmp 8) (.tmp 41) 27 rfl rfl rfl w.heap.size _ _ kR1 rfl rfl (by kernel_rfl) rfl (by kernel_rfl) ?_; intro wz kz oz))
    exact ir_back kz (oz.below hB1 (Nat.le_refl _) hB1.size) rfl rfl rfl (erP_bad HE.out) rfl
  | true =>
    have HE : Hid (erB size code flags xs = true) := by show _ = _; rw [HEB, b1, b2, b3, od]; rfl
    rw [b1] at h1
    rw [b2] at h2
    rw [b3] at h3
    rw [odS_ok od] at hod
    simp only [Bool.and_eq_true, decide_eq_true_eq] at b1 b2 b3
    have hor := ttl_or b2.1 b2.2 b3.1 b3.2
    obtain ⟨RS, eRS⟩ : ∃ S : ByteArray, S = ⟨(optsL xs).toArray⟩ := ⟨_, rfl⟩
    rw [← eRS] at hod
    have HRS := Nm.hide eRS
    clear HEB od eRS
    go_enter Try.func6, Try.ntmps6
    go_wp2_with (first | (go_at_call 15; refine (hod _ (hrow _ hB0)).mono ?_; rintro e w1 ⟨rfl, b1⟩; have kR1 := blk_below kR b1; have hB1 := Nm.below_two hB0 b1) | (go_at_call 16; with_reducible refine (h1 _).mono ?_; rintro e wf ⟨rfl, hw⟩; obtain rfl := hw.symm; clear hw) | (go_at_call 16; with_reducible refine (h2 _).mono ?_; rintro e wf ⟨rfl, hw⟩; obtain rfl := hw.symm; clear hw) | (go_at_call 16; with_reducible refine (h3 _).mono ?_; rintro e wf ⟨rfl, hw⟩; obtain rfl := hw.symm; clear hw) | (refine wpList_store_blk (.tmp 8) (.tmp 34) 27 rfl rfl rfl w.heap.size _ _ kR1 rfl rfl (by kernel_rfl) rfl (by kernel_rfl) ?_; intro wz kz oz) | (refine wpList_store_blk (.tmp 8) (.tmp 41) 27 rfl rfl rfl w.heap.size _ _ kR1 rfl rfl (by kernel_rfl) rfl (by kernel_rfl) ?_; intro wz kz oz))
    exact ir_back kz (oz.below hB1 (Nat.le_refl _) hB1.size) rfl rfl rfl (by rw [erP_ok HE.out, erA, ← HRS.out]; rfl) rfl
end Go.Proofs.Ythhagapmcbkeiaa
/- Questions as they come in: mathematics. -/
namespace Go.Proofs.Ythhagapmcbkeiaa
open Go.RowKit
set_option linter.unusedVariables false

/-- A question: its name, type and class. -/
structure Qr where
  nm : ByteArray
  ty : Int
  cl : Int

def qvV (r : Qr) : List Value := [.string r.nm, .int .i64 r.ty, .int .i64 r.cl]
def qvVs (xs : List Qr) : List Value := xs.flatMap qvV
theorem qvVs_cons (x : Qr) (xs : List Qr) : qvVs (x :: xs) = qvV x ++ qvVs xs := by simp [qvVs]
theorem qvVs_app (a b : List Qr) : qvVs (a ++ b) = qvVs a ++ qvVs b := by simp [qvVs]
theorem qvVs_len (xs : List Qr) : (qvVs xs).length = xs.length * 3 := by
  induction xs with
  | nil => rfl
  | cons x xs ih =>
    have : (qvV x).length = 3 := rfl
    rw [qvVs_cons, List.length_append, ih, List.length_cons, this]; omega

theorem qvVs_at : ∀ (xs : List Qr) (k j : Nat) (x : Qr), xs[k]? = some x → j < 3 → (qvVs xs)[k * 3 + j]? = (qvV x)[j]? := by
  intro xs
  induction xs with
  | nil => intro k j x h; simp at h
  | cons y xs ih =>
    intro k j x h hj
    have hl : (qvV y).length = 3 := rfl
    cases k with
    | zero =>
      simp at h; subst h
      rw [qvVs_cons, Nat.zero_mul, Nat.zero_add, List.getElem?_append_left (by omega)]
    | succ k =>
      simp at h
      rw [qvVs_cons, List.getElem?_append_right (by omega), hl, show (k + 1) * 3 + j - 3 = k * 3 + j by omega]
      exact ih k j x h hj

theorem qv_cells {w : World} {xs : List Qr} {b off k : Nat} {x : Qr} (hc : ∀ (i : Nat) (y : Value), (qvVs xs)[i]? = some y → w.cell? ⟨b, off + i, none⟩ = some y) (h : xs[k]? = some x) :
    w.cell? ⟨b, off + k * 3, none⟩ = some (.string x.nm) ∧ w.cell? ⟨b, off + k * 3 + 1, none⟩ = some (.int .i64 x.ty) ∧ w.cell? ⟨b, off + k * 3 + 2, none⟩ = some (.int .i64 x.cl) :=
  ⟨hc (k * 3) _ ((qvVs_at xs k 0 x h (by decide)).trans rfl), hc (k * 3 + 1) _ ((qvVs_at xs k 1 x h (by decide)).trans rfl), hc (k * 3 + 2) _ ((qvVs_at xs k 2 x h (by decide)).trans rfl)⟩

def qsum : List Qr → Nat
  | [] => 0
  | x :: xs => x.nm.size + qsum xs
theorem qsum_step : ∀ (xs : List Qr) (k : Nat) (x : Qr), xs[k]? = some x → qsum (xs.take (k + 1)) = qsum (xs.take k) + x.nm.size := by
  intro xs
  induction xs with
  | nil => intro k x h; simp at h
  | cons y xs ih =>
    intro k x h
    cases k with
    | zero => simp at h; subst h; simp [qsum]
    | succ k =>
      simp at h
      have := ih k x h
      simp only [List.take_succ_cons, qsum]; omega
theorem qsum_take_le : ∀ (xs : List Qr) (k : Nat), qsum (xs.take k) ≤ qsum xs := by
  intro xs
  induction xs with
  | nil => intro k; simp [qsum]
  | cons y xs ih =>
    intro k
    cases k with
    | zero => simp [qsum]
    | succ k => have := ih k; simp only [List.take_succ_cons, qsum]; omega
theorem qsum_mem : ∀ (xs : List Qr) (x : Qr), x ∈ xs → x.nm.size ≤ qsum xs := by
  intro xs
  induction xs with
  | nil => intro x h; simp at h
  | cons y xs ih =>
    intro x h
    rcases List.mem_cons.1 h with rfl | h
    · simp only [qsum]; omega
    · have := ih x h; simp only [qsum]; omega
def szQS (xs : List Qr) (L : Int) : Int := if (xs.length : Int) + (qsum xs : Int) ≤ L then L - xs.length - qsum xs else -1
end Go.Proofs.Ythhagapmcbkeiaa
/- Messages as they come in: mathematics. -/
namespace Go.Proofs.Ythhagapmcbkeiaa
open Go.RowKit
set_option linter.unusedVariables false

/-- A head. -/
structure Hr where
  id : Int
  qr : Bool
  op : Int
  aa : Bool
  tc : Bool
  rd : Bool
  ra : Bool
  z : Bool
  ad : Bool
  cd : Bool
  code : Int
def hrV (h : Hr) : List Value := [.int .i64 h.id, .bool h.qr, .int .i64 h.op, .bool h.aa, .bool h.tc, .bool h.rd, .bool h.ra, .bool h.z, .bool h.ad, .bool h.cd, .int .i64 h.code]
/-- A message. -/
structure Mg where
  hd : Hr
  qs : List Qr
  an : List Rr
  au : List Rr
  ex : List Rr
/-- A message's value, its lists' slices as they are. -/
def mgV (h : Hr) (q a u x : Value) : Array Value := #[.int .i64 h.id, .bool h.qr, .int .i64 h.op, .bool h.aa, .bool h.tc, .bool h.rd, .bool h.ra, .bool h.z, .bool h.ad, .bool h.cd, .int .i64 h.code, q, a, u, x]
/-- The lists are read where the slices lead. -/
structure MRow (w : World) (m : Mg) (q a u x : Value) : Prop where
  rq : CRow w q m.qs.length 3 (qvVs m.qs)
  ra : CRow w a m.an.length 5 (rvVs m.an)
  ru : CRow w u m.au.length 5 (rvVs m.au)
  rx : CRow w x m.ex.length 5 (rvVs m.ex)
theorem MRow.below {w W : World} {m : Mg} {q a u x : Value} (h : MRow w m q a u x) (hb : Below w.heap.size w W) : MRow W m q a u x := ⟨h.rq.below hb, h.ra.below hb, h.ru.below hb, h.rx.below hb⟩
/-- The lists in memory of one's own. -/
structure MOwn (w : World) (B : Nat) (m : Mg) (q a u x : Value) : Prop where
  rq : w.ownsRow B 83 3 q m.qs.length (qvVs m.qs)
  ra : w.ownsRow B 27 5 a m.an.length (rvVs m.an)
  ru : w.ownsRow B 27 5 u m.au.length (rvVs m.au)
  rx : w.ownsRow B 27 5 x m.ex.length (rvVs m.ex)
theorem MOwn.below {w W : World} {B : Nat} {m : Mg} {q a u x : Value} (h : MOwn w B m q a u x) (hb : Below w.heap.size w W) : MOwn W B m q a u x := ⟨own_below h.rq hb, own_below h.ra hb, own_below h.ru hb, own_below h.rx hb⟩
theorem MOwn.read {w : World} {B : Nat} {m : Mg} {q a u x : Value} (h : MOwn w B m q a u x) : MRow w m q a u x := ⟨CRow.of_owns h.rq, CRow.of_owns h.ra, CRow.of_owns h.ru, CRow.of_owns h.rx⟩
def msum (m : Mg) : Nat := m.qs.length + qsum m.qs + (m.an.length + rsum m.an) + (m.au.length + rsum m.au) + (m.ex.length + rsum m.ex)
def szM (m : Mg) (L : Int) : Int := if (msum m : Int) ≤ L then L - msum m else -1
def MFit (m : Mg) : Prop := (∀ r ∈ m.qs, r.nm.size ≤ maxLen) ∧ (∀ r ∈ m.an, r.own.size ≤ maxLen ∧ r.da.size ≤ maxLen) ∧ (∀ r ∈ m.au, r.own.size ≤ maxLen ∧ r.da.size ≤ maxLen) ∧ (∀ r ∈ m.ex, r.own.size ≤ maxLen ∧ r.da.size ≤ maxLen)
end Go.Proofs.Ythhagapmcbkeiaa
