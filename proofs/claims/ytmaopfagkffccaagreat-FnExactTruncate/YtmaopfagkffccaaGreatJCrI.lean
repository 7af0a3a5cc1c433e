import Derived.Test.YtmaopfagkffccaaGreatJMath
/- impl.isRun, impl.noneStays; slices.Clone of records by its contract. -/
namespace Go.Proofs.YtmaopfagkffccaaGreat
open Go.RowKit
set_option linter.unusedVariables false

/-- Whether two neighbours belong to one run. -/
def runB (a b : Rr) : Bool := decide (a.own.data.toList = b.own.data.toList) && (decide (a.ty = b.ty) && decide (a.cl = b.cl))

theorem noneStays_any (r : Rr) (w : World) :
    Calls Tryz.prog 51 #[.agg #[.string r.own, .int .i64 r.ty, .int .i64 r.cl, .int .i64 r.tt, .string r.da]] w fun e w' => e = .returned (.bool false) ∧ Below w.heap.size w w' := by
  go_enter Tryz.func51, Tryz.ntmps51
  go_wp2
  go_ret
  exact ⟨rfl, (Below.refl w.heap.size w).alloc (Nat.le_refl _) _⟩

set_option maxRecDepth 100000 in
theorem isRun_any (a b : Rr) (w : World) :
    Calls Tryz.prog 73 #[.agg #[.string a.own, .int .i64 a.ty, .int .i64 a.cl, .int .i64 a.tt, .string a.da], .agg #[.string b.own, .int .i64 b.ty, .int .i64 b.cl, .int .i64 b.tt, .string b.da]] w fun e w' => e = .returned (.bool (runB a b)) ∧ Below w.heap.size w w' := by
  have hB := ((Below.refl w.heap.size w).alloc (Nat.le_refl _) (.cells #[.string a.own, .int .i64 a.ty, .int .i64 a.cl, .int .i64 a.tt, .string a.da] 72)).alloc (by simp) (.cells #[.string b.own, .int .i64 b.ty, .int .i64 b.cl, .int .i64 b.tt, .string b.da] 72)
  have e0 : (a.own.toList == b.own.toList) = decide (a.own.data.toList = b.own.data.toList) := by
    rw [ByteArray.toList_eq, ByteArray.toList_eq]
    by_cases h : a.own.data.toList = b.own.data.toList
    · rw [h]; simp
    · rw [decide_eq_false h]; simpa using h
  obtain ⟨R, hR⟩ : ∃ R, R = runB a b := ⟨_, rfl⟩
  rw [← hR]
  rw [runB, ← e0] at hR
  have HR := Nm.hide hR
  obtain ⟨o, ty, cl, tt, da⟩ := a
  obtain ⟨o', ty', cl', tt', da'⟩ := b
  simp only at *
  clear hR e0
  cases h0 : (o.toList == o'.toList) with
  | false =>
    have HE : Hid (R = false) := by show _ = _; rw [HR.out, h0]; rfl
    clear HR
    go_enter Tryz.func73, Tryz.ntmps73
    go_wp2
    go_ret
    rw [HE.out]
    exact ⟨rfl, hB⟩
  | true =>
    by_cases h1 : ty = ty'
    · subst h1
      by_cases h2 : cl = cl'
      · subst h2
        have HE : Hid (R = true) := by show _ = _; rw [HR.out, h0]; simp
        clear HR
        go_enter Tryz.func73, Tryz.ntmps73
        go_wp2
        go_ret
        rw [HE.out]
        exact ⟨by simp, hB⟩
      · have HE : Hid (R = false) := by show _ = _; rw [HR.out, h0]; simp [h2]
        have n2 : (cl == cl') = false := by simpa using h2
        clear HR
        go_enter Tryz.func73, Tryz.ntmps73
        go_wp2
        go_ret
        rw [HE.out]
        exact ⟨by simp, hB⟩
    · have HE : Hid (R = false) := by show _ = _; rw [HR.out, h0]; simp [h1]
      have n1 : (ty == ty') = false := by simpa using h1
      clear HR
      go_enter Tryz.func73, Tryz.ntmps73
      go_wp2
      go_ret
      rw [HE.out]
      exact ⟨by simp, hB⟩

theorem Tryz.infoRRc : (Tryz.prog.info? 72).map (fun i => (i.zero, i.size, i.bytes)) = some (some (.agg #[.string ByteArray.empty, .int .i64 0, .int .i64 0, .int .i64 0, .string ByteArray.empty]), 5, 56) := by kernel_rfl

set_option maxRecDepth 100000 in
set_option maxHeartbeats 1600000 in
theorem cloneRR_any (v : Value) (xs : List Rr) (w : World) (h : CRow w v xs.length 5 (rvVs xs)) (hl : xs.length ≤ 1048576) :
    Calls Tryz.prog 67 #[v] w fun e w' => ∃ u, e = .returned u ∧ w'.ownsRow w.heap.size 72 5 u xs.length (rvVs xs) ∧ Below w.heap.size w w' := by
  obtain ⟨i0, hi, hz0, hz1, hz2⟩ := info_parts Tryz.infoRRc
  obtain ⟨hln, a, cap, rfl, hcap, hmx, hc⟩ := h
  cases a with
  | none =>
    have hx : xs.length = 0 := by
      rcases Nat.eq_zero_or_pos xs.length with h | h
      · exact h
      · obtain ⟨b, off, e, _⟩ := hc h
        cases e
    obtain rfl : xs = [] := List.length_eq_zero_iff.1 hx
    have hnil : ∀ W, (binOp .eql 31 (.slice none 0 cap) (.slice none 0 0)).run Tryz.prog W = .ok (.bool true) W := fun W => by kernel_rfl
    simp only [List.length_nil] at *
    clear hc
    go_enter Tryz.func67, Tryz.ntmps67
    go_wp2
    go_ret
    exact ⟨_, rfl, World.ownsRow_nil _ _ _ _, Below.refl _ _⟩
  | some A =>
    have hB := (Below.refl w.heap.size w).alloc (Nat.le_refl _) (.cells #[] 72)
    have hown := World.ownsRow_made (base := w.heap.size) (size := 5) (e := 72) w #[] 0 (by simp) (by decide) rfl
    have hnil : ∀ W, (binOp .eql 31 (.slice (some A) xs.length cap) (.slice none 0 0)).run Tryz.prog W = .ok (.bool false) W := fun W => by kernel_rfl
    rcases Nat.eq_zero_or_pos xs.length with hx | hp
    · obtain rfl : xs = [] := List.length_eq_zero_iff.1 hx
      simp only [List.length_nil] at *
      clear hc
      go_enter Tryz.func67, Tryz.ntmps67
      go_wp2_with (at_builtin; refine wpList_append_own _ rfl (.tmp 5) (.tmp 6) 31 rfl w.heap.size 72 i0 _ 5 56 Tryz.underlying31 hi hz0 hz1 hz2 rfl (by decide) _ _ _ rfl hown A 0 cap [] rfl rfl (fun j u hj => by simp at hj) (fun u hu => by simp at hu) (by unfold maxLen; omega) (by omega) hB.size ?_; intro va wa hown9 hgrow9 hnl9)
      go_ret
      exact ⟨_, rfl, hown9, hB.grown hgrow9 hB.size (fun k hk => (hown.lt k hk).1)⟩
    · obtain ⟨b, off, eA, hcell⟩ := hc hp
      cases eA
      have hcell' : ∀ (j : Nat) (u : Value), (rvVs xs)[j]? = some u → (w.alloc (.cells #[] 72)).cell? ((⟨b, off, none⟩ : Addr).add j) = some u := by
        intro j u hj
        rw [Nm.addr_add]
        have h1 := hcell j u hj
        exact (hB.cell (World.block_lt_of_cell? w _ h1)).trans h1
      have hone : ∀ u ∈ rvVs xs, u.oneCell' = true := by
        intro u hu
        simp only [rvVs, List.mem_flatMap] at hu
        obtain ⟨r, _, hr⟩ := hu
        simp [rvV] at hr
        rcases hr with rfl | rfl | rfl | rfl | rfl <;> rfl
      clear hc hcell
      go_enter Tryz.func67, Tryz.ntmps67
      go_wp2_with (at_builtin; refine wpList_append_own _ rfl (.tmp 5) (.tmp 6) 31 rfl w.heap.size 72 i0 _ 5 56 Tryz.underlying31 hi hz0 hz1 hz2 rfl (by decide) _ _ _ rfl hown ⟨b, off, none⟩ xs.length cap (rvVs xs) rfl (by rw [rvVs_len]) hcell' hone (by unfold maxLen; omega) (by omega) hB.size ?_; intro va wa hown9 hgrow9 hnl9)
      go_ret
      rw [Nat.zero_add] at hown9
      exact ⟨_, rfl, hown9, hB.grown hgrow9 hB.size (fun k hk => (hown.lt k hk).1)⟩
end Go.Proofs.YtmaopfagkffccaaGreat
/- What impl.dropRun and spec.l13Drop leave of a list: mathematics. -/
namespace Go.Proofs.YtmaopfagkffccaaGreat
open Go.RowKit
set_option linter.unusedVariables false

/-- Where the last record stands that may go: one behind it, from a place on downwards. -/
def tdN (p : Rr → Bool) (xs : List Rr) : Nat → Nat
  | 0 => 0
  | t + 1 => match xs[t]? with
    | some x => if p x then tdN p xs t else t + 1
    | none => t + 1
/-- Where its run begins. -/
def frN (xs : List Rr) (r : Rr) : Nat → Nat
  | 0 => 0
  | f + 1 => match xs[f]? with
    | some x => if runB x r then frN xs r f else f + 1
    | none => f + 1
theorem tdN_yes {p : Rr → Bool} {xs : List Rr} {t : Nat} {x : Rr} (h : xs[t]? = some x) (hp : p x = true) : tdN p xs (t + 1) = tdN p xs t := by rw [tdN, h]; simp [hp]
theorem tdN_no {p : Rr → Bool} {xs : List Rr} {t : Nat} {x : Rr} (h : xs[t]? = some x) (hp : p x = false) : tdN p xs (t + 1) = t + 1 := by rw [tdN, h]; simp [hp]
theorem frN_yes {xs : List Rr} {r : Rr} {f : Nat} {x : Rr} (h : xs[f]? = some x) (hp : runB x r = true) : frN xs r (f + 1) = frN xs r f := by rw [frN, h]; simp [hp]
theorem frN_no {xs : List Rr} {r : Rr} {f : Nat} {x : Rr} (h : xs[f]? = some x) (hp : runB x r = false) : frN xs r (f + 1) = f + 1 := by rw [frN, h]; simp [hp]
theorem tdN_le (p : Rr → Bool) (xs : List Rr) : ∀ t, tdN p xs t ≤ t := by
  intro t
  induction t with
  | zero => exact Nat.le_refl _
  | succ t ih =>
    rw [tdN]
    split
    · split <;> omega
    · omega
theorem frN_le (xs : List Rr) (r : Rr) : ∀ f, frN xs r f ≤ f := by
  intro f
  induction f with
  | zero => exact Nat.le_refl _
  | succ f ih =>
    rw [frN]
    split
    · split <;> omega
    · omega
/-- The list without its last run of those that may go; none: there is none. -/
def dropS (p : Rr → Bool) (xs : List Rr) : Option (List Rr) := match tdN p xs xs.length with
  | 0 => none
  | t + 1 => match xs[t]? with
    | some r => some (xs.take (frN xs r t) ++ xs.drop (t + 1))
    | none => none
/-- It is shorter. -/
theorem dropS_lt {p : Rr → Bool} {xs ys : List Rr} (h : dropS p xs = some ys) : ys.length < xs.length := by
  rw [dropS] at h
  have hl := tdN_le p xs xs.length
  cases ht : tdN p xs xs.length with
  | zero => rw [ht] at h; cases h
  | succ t =>
    rw [ht] at h hl
    simp only at h
    cases hr : xs[t]? with
    | none => rw [hr] at h; cases h
    | some r =>
      rw [hr] at h
      simp only [Option.some.injEq] at h
      subst h
      have hf := frN_le xs r t
      rw [List.length_append, List.length_take, List.length_drop]
      omega
/-- What is left were records of it. -/
theorem dropS_mem {p : Rr → Bool} {xs ys : List Rr} (h : dropS p xs = some ys) : ∀ r ∈ ys, r ∈ xs := by
  rw [dropS] at h
  cases ht : tdN p xs xs.length with
  | zero => rw [ht] at h; cases h
  | succ t =>
    rw [ht] at h
    simp only at h
    cases hr : xs[t]? with
    | none => rw [hr] at h; cases h
    | some r =>
      rw [hr] at h
      simp only [Option.some.injEq] at h
      subst h
      intro y hy
      rcases List.mem_append.1 hy with hy | hy
      · exact List.mem_of_mem_take hy
      · exact List.mem_of_mem_drop hy
end Go.Proofs.YtmaopfagkffccaaGreat
/- Questions as they come in: mathematics. -/
namespace Go.Proofs.YtmaopfagkffccaaGreat
open Go.RowKit
set_option linter.unusedVariables false

/-- A question: its name, type and class. -/
structure Qr where
  nm : ByteArray
  ty : Int
  cl : Int

def qvV (r : Qr) : List Value := [.string r.nm, .int .i64 r.ty, .int .i64 r.cl]
def qvVs (xs : List Qr) : List Value := xs.flatMap qvV
theorem qvVs_cons (x : Qr) (xs : List Qr) : qvVs (x :: xs) = qvV x ++ qvVs xs := by simp [qvVs]
theorem qvVs_app (a b : List Qr) : qvVs (a ++ b) = qvVs a ++ qvVs b := by simp [qvVs]
theorem qvVs_len (xs : List Qr) : (qvVs xs).length = xs.length * 3 := by
  induction xs with
  | nil => rfl
  | cons x xs ih =>
    have : (qvV x).length = 3 := rfl
    rw [qvVs_cons, List.length_append, ih, List.length_cons, this]; omega

theorem qvVs_at : ∀ (xs : List Qr) (k j : Nat) (x : Qr), xs[k]? = some x → j < 3 → (qvVs xs)[k * 3 + j]? = (qvV x)[j]? := by
  intro xs
  induction xs with
  | nil => intro k j x h; simp at h
  | cons y xs ih =>
    intro k j x h hj
    have hl : (qvV y).length = 3 := rfl
    cases k with
    | zero =>
      simp at h; subst h
      rw [qvVs_cons, Nat.zero_mul, Nat.zero_add, List.getElem?_append_left (by omega)]
    | succ k =>
      simp at h
      rw [qvVs_cons, List.getElem?_append_right (by omega), hl, show (k + 1) * 3 + j - 3 = k * 3 + j by omega]
      exact ih k j x h hj

theorem qv_cells {w : World} {xs : List Qr} {b off k : Nat} {x : Qr} (hc : ∀ (i : Nat) (y : Value), (qvVs xs)[i]? = some y → w.cell? ⟨b, off + i, none⟩ = some y) (h : xs[k]? = some x) :
    w.cell? ⟨b, off + k * 3, none⟩ = some (.string x.nm) ∧ w.cell? ⟨b, off + k * 3 + 1, none⟩ = some (.int .i64 x.ty) ∧ w.cell? ⟨b, off + k * 3 + 2, none⟩ = some (.int .i64 x.cl) :=
  ⟨hc (k * 3) _ ((qvVs_at xs k 0 x h (by decide)).trans rfl), hc (k * 3 + 1) _ ((qvVs_at xs k 1 x h (by decide)).trans rfl), hc (k * 3 + 2) _ ((qvVs_at xs k 2 x h (by decide)).trans rfl)⟩

def qsum : List Qr → Nat
  | [] => 0
  | x :: xs => x.nm.size + qsum xs
theorem qsum_step : ∀ (xs : List Qr) (k : Nat) (x : Qr), xs[k]? = some x → qsum (xs.take (k + 1)) = qsum (xs.take k) + x.nm.size := by
  intro xs
  induction xs with
  | nil => intro k x h; simp at h
  | cons y xs ih =>
    intro k x h
    cases k with
    | zero => simp at h; subst h; simp [qsum]
    | succ k =>
      simp at h
      have := ih k x h
      simp only [List.take_succ_cons, qsum]; omega
theorem qsum_take_le : ∀ (xs : List Qr) (k : Nat), qsum (xs.take k) ≤ qsum xs := by
  intro xs
  induction xs with
  | nil => intro k; simp [qsum]
  | cons y xs ih =>
    intro k
    cases k with
    | zero => simp [qsum]
    | succ k => have := ih k; simp only [List.take_succ_cons, qsum]; omega
theorem qsum_mem : ∀ (xs : List Qr) (x : Qr), x ∈ xs → x.nm.size ≤ qsum xs := by
  intro xs
  induction xs with
  | nil => intro x h; simp at h
  | cons y xs ih =>
    intro x h
    rcases List.mem_cons.1 h with rfl | h
    · simp only [qsum]; omega
    · have := ih x h; simp only [qsum]; omega
def szQS (xs : List Qr) (L : Int) : Int := if (xs.length : Int) + (qsum xs : Int) ≤ L then L - xs.length - qsum xs else -1
end Go.Proofs.YtmaopfagkffccaaGreat
/- Messages as they come in: mathematics. -/
namespace Go.Proofs.YtmaopfagkffccaaGreat
open Go.RowKit
set_option linter.unusedVariables false

/-- A head. -/
structure Hr where
  id : Int
  qr : Bool
  op : Int
  aa : Bool
  tc : Bool
  rd : Bool
  ra : Bool
  z : Bool
  ad : Bool
  cd : Bool
  code : Int
def hrV (h : Hr) : List Value := [.int .i64 h.id, .bool h.qr, .int .i64 h.op, .bool h.aa, .bool h.tc, .bool h.rd, .bool h.ra, .bool h.z, .bool h.ad, .bool h.cd, .int .i64 h.code]
/-- A message. -/
structure Mg where
  hd : Hr
  qs : List Qr
  an : List Rr
  au : List Rr
  ex : List Rr
/-- A message's value, its lists' slices as they are. -/
def mgV (h : Hr) (q a u x : Value) : Array Value := #[.int .i64 h.id, .bool h.qr, .int .i64 h.op, .bool h.aa, .bool h.tc, .bool h.rd, .bool h.ra, .bool h.z, .bool h.ad, .bool h.cd, .int .i64 h.code, q, a, u, x]
/-- The lists are read where the slices lead. -/
structure MRow (w : World) (m : Mg) (q a u x : Value) : Prop where
  rq : CRow w q m.qs.length 3 (qvVs m.qs)
  ra : CRow w a m.an.length 5 (rvVs m.an)
  ru : CRow w u m.au.length 5 (rvVs m.au)
  rx : CRow w x m.ex.length 5 (rvVs m.ex)
theorem MRow.below {w W : World} {m : Mg} {q a u x : Value} (h : MRow w m q a u x) (hb : Below w.heap.size w W) : MRow W m q a u x := ⟨h.rq.below hb, h.ra.below hb, h.ru.below hb, h.rx.below hb⟩
/-- The lists in memory of one's own. -/
structure MOwn (w : World) (B : Nat) (m : Mg) (q a u x : Value) : Prop where
  rq : w.ownsRow B 63 3 q m.qs.length (qvVs m.qs)
  ra : w.ownsRow B 72 5 a m.an.length (rvVs m.an)
  ru : w.ownsRow B 72 5 u m.au.length (rvVs m.au)
  rx : w.ownsRow B 72 5 x m.ex.length (rvVs m.ex)
theorem MOwn.below {w W : World} {B : Nat} {m : Mg} {q a u x : Value} (h : MOwn w B m q a u x) (hb : Below w.heap.size w W) : MOwn W B m q a u x := ⟨own_below h.rq hb, own_below h.ra hb, own_below h.ru hb, own_below h.rx hb⟩
theorem MOwn.read {w : World} {B : Nat} {m : Mg} {q a u x : Value} (h : MOwn w B m q a u x) : MRow w m q a u x := ⟨CRow.of_owns h.rq, CRow.of_owns h.ra, CRow.of_owns h.ru, CRow.of_owns h.rx⟩
def msum (m : Mg) : Nat := m.qs.length + qsum m.qs + (m.an.length + rsum m.an) + (m.au.length + rsum m.au) + (m.ex.length + rsum m.ex)
def szM (m : Mg) (L : Int) : Int := if (msum m : Int) ≤ L then L - msum m else -1
def MFit (m : Mg) : Prop := (∀ r ∈ m.qs, r.nm.size ≤ maxLen) ∧ (∀ r ∈ m.an, r.own.size ≤ maxLen ∧ r.da.size ≤ maxLen) ∧ (∀ r ∈ m.au, r.own.size ≤ maxLen ∧ r.da.size ≤ maxLen) ∧ (∀ r ∈ m.ex, r.own.size ≤ maxLen ∧ r.da.size ≤ maxLen)
end Go.Proofs.YtmaopfagkffccaaGreat
