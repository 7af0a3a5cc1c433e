import Derived.Test.YthhagapmcbkeiaaJIEr
import Derived.Test.YthhagapmcbkeiaaJSgN
import Derived.Test.YthhagapmcbkeiaaJWtN
import Derived.Test.YthhagapmcbkeiaaJMath
import Derived.Test.YthhagapmcbkeiaaJShK
import Derived.BigQuiet
/- Valid messages: mathematics. -/
namespace Go.Proofs.Ythhagapmcbkeiaa
open Go.RowKit
set_option linter.unusedVariables false

def hdOK (h : Hr) : Bool := inB h.id 65535 && inB h.op 15 && inB h.code 15
def quOK (q : Qr) : Bool := (Nm.split q.nm).isSome && inB q.ty 65535 && inB q.cl 65535
def mgOK (m : Mg) : Bool := decide (m.qs.length + m.an.length + m.au.length + m.ex.length ≤ 400) && hdOK m.hd && m.qs.all quOK && m.an.all rcOK && m.au.all rcOK && m.ex.all rcOK
end Go.Proofs.Ythhagapmcbkeiaa
/- How a record is written: mathematics. -/
namespace Go.Proofs.Ythhagapmcbkeiaa
open Go.RowKit
set_option linter.unusedVariables false

def nmX (x : ByteArray) (s : Wst) : Wst := nmW ((Nm.split x).getD []) s.1 s.2
theorem nmX_of {x : ByteArray} {ls : List ByteArray} (h : Nm.split x = some ls) (s : Wst) : nmX x s = nmW ls s.1 s.2 := by rw [nmX, h]; rfl
theorem nmX_len {x : ByteArray} (h : (Nm.split x).isSome = true) (s : Wst) : s.1.length + 1 ≤ (nmX x s).1.length ∧ (nmX x s).1.length ≤ s.1.length + x.size := by
  obtain ⟨ls, hs⟩ := Option.isSome_iff_exists.1 h
  rw [nmX_of hs]
  have h1 := nmW_len ls s.1 s.2 (fun x hx => ((Nm.split_join hs).2 x hx).1)
  have h2 : x.size = Nm.wsum ls + 1 := by rw [← nmB_split hs, nmB_size]
  omega
theorem nmX_ok (x : ByteArray) (s : Wst) (h : PlOK s.2 s.1.length) : PlOK (nmX x s).2 (nmX x s).1.length := nmW_ok _ _ _ h

/-- Data by its parts. -/
def daP : List Dt.Pc → List ByteArray → Wst → Wst
  | p :: fs, x :: xs, s => daP fs xs (if p.isN then nmX x s else (s.1 ++ x.data.toList, s.2))
  | _, _, s => s
theorem daP_nil (fs : List Dt.Pc) (s : Wst) : daP fs [] s = s := by cases fs <;> rfl
def NmOK (fs : List Dt.Pc) (ps : List ByteArray) : Prop := ∀ (i : Nat) (p : Dt.Pc) (x : ByteArray), fs[i]? = some p → ps[i]? = some x → p.isN = true → (Nm.split x).isSome = true
theorem NmOK.tail {p : Dt.Pc} {x : ByteArray} {fs : List Dt.Pc} {ps : List ByteArray} (h : NmOK (p :: fs) (x :: ps)) : NmOK fs ps := fun i q y hq hy hn => h (i + 1) q y (by simpa using hq) (by simpa using hy) hn
theorem daP_len : ∀ (fs : List Dt.Pc) (ps : List ByteArray) (s : Wst), NmOK fs ps → s.1.length ≤ (daP fs ps s).1.length ∧ (daP fs ps s).1.length ≤ s.1.length + (Dt.catL ps).length := by
  intro fs
  induction fs with
  | nil => intro ps s h; simp [daP]
  | cons p fs ih =>
    intro ps s h
    cases ps with
    | nil => simp [daP]
    | cons x xs =>
      have e : (Dt.catL (x :: xs)).length = x.size + (Dt.catL xs).length := by simp [Dt.catL]
      rw [daP, e]
      have := ih xs (if p.isN then nmX x s else (s.1 ++ x.data.toList, s.2)) h.tail
      cases hN : p.isN with
      | true =>
        rw [hN] at this
        simp only [if_true] at this ⊢
        have h2 := nmX_len (h 0 p x rfl rfl hN) s
        omega
      | false =>
        rw [hN] at this
        simp at this ⊢
        omega
theorem daP_ok : ∀ (fs : List Dt.Pc) (ps : List ByteArray) (s : Wst), PlOK s.2 s.1.length → PlOK (daP fs ps s).2 (daP fs ps s).1.length := by
  intro fs
  induction fs with
  | nil => intro ps s h; exact h
  | cons p fs ih =>
    intro ps s h
    cases ps with
    | nil => exact h
    | cons x xs =>
      rw [daP]
      apply ih
      split
      · exact nmX_ok x s h
      · exact h.mono (by simp)
/-- Data by the places of its names. -/
def daS : List (Nat × Nat) → Nat → ByteArray → Wst → Wst
  | [], a, d, s => (s.1 ++ (d.extract a d.size).data.toList, s.2)
  | (f, t) :: r, a, d, s => daS r t d (nmX (d.extract f t) (s.1 ++ (d.extract a f).data.toList, s.2))

theorem ex_list (d : ByteArray) (a b : Nat) : (d.extract a b).data.toList = (d.data.toList.drop a).take (b - a) := by
  simp [ByteArray.data_extract, Array.toList_extract, List.extract_eq_take_drop]
theorem daS_parts : ∀ (fs : List Dt.Pc) (ps : List ByteArray) (a a0 : Nat) (d : ByteArray) (s : Wst), fs.length = ps.length → a0 ≤ a → a ≤ d.size → Dt.catL ps = d.data.toList.drop a →
    daS (Dt.spansOf fs ps a) a0 d s = daP fs ps (s.1 ++ (d.extract a0 a).data.toList, s.2) := by
  intro fs
  induction fs with
  | nil =>
    intro ps a a0 d s hl h0 h1 hc
    obtain rfl : ps = [] := List.length_eq_zero_iff.1 (by simpa using hl.symm)
    have hd : d.data.toList.drop a = [] := by rw [← hc]; rfl
    have hz : d.size ≤ a := by simpa [List.drop_eq_nil_iff] using hd
    obtain rfl : a = d.size := by omega
    rfl
  | cons p fs ih =>
    intro ps a a0 d s hl h0 h1 hc
    cases ps with
    | nil => simp at hl
    | cons x xs =>
      have e : Dt.catL (x :: xs) = x.data.toList ++ Dt.catL xs := by simp [Dt.catL]
      rw [e] at hc
      have hxl : x.data.toList.length = x.size := by simp
      have hsz : x.size + (Dt.catL xs).length = d.size - a := by
        have := congrArg List.length hc
        simp at this
        simpa using this
      have hc2 : Dt.catL xs = d.data.toList.drop (a + x.size) := by
        rw [← List.drop_drop, ← hc, List.drop_left' hxl]
      have hx : d.extract a (a + x.size) = x := by
        apply Nm.ba_ext
        rw [ex_list, ← hc, show a + x.size - a = x.size by omega, List.take_left' hxl]
      have hl2 : fs.length = xs.length := by simpa using hl
      rw [Dt.spansOf, daP]
      cases hN : p.isN with
      | true =>
        simp only [if_true]
        rw [daS, hx, ih xs (a + x.size) (a + x.size) d _ hl2 (Nat.le_refl _) (by omega) hc2]
        have he : (d.extract (a + x.size) (a + x.size)).data.toList = [] := by rw [ex_list]; simp
        rw [he, List.append_nil]
      | false =>
        simp only [Bool.false_eq_true, if_false]
        rw [ih xs (a + x.size) a0 d s hl2 (by omega) (by omega) hc2]
        congr 1
        have he : (d.extract a0 (a + x.size)).data.toList = (d.extract a0 a).data.toList ++ x.data.toList := by
          have hx2 : x.data.toList = (d.data.toList.drop a).take x.size := by rw [← hc, List.take_left' hxl]
          rw [hx2, ex_list, ex_list, show a + x.size - a0 = (a - a0) + x.size by omega, List.take_add, List.drop_drop, show a0 + (a - a0) = a by omega]
        rw [he, List.append_assoc]

/-- A record's data. -/
def daW (t : Nat) (d : ByteArray) (s : Wst) : Wst :=
  if d.size = 0 ∨ ¬ pointed t then (s.1 ++ d.data.toList, s.2) else daP (Dt.specP t) ((Dt.parts (Dt.specP t) d).getD []) s
def rrA (o : ByteArray) (ty cl : Nat) (tt : Int) (s : Wst) : Wst := ((nmX o s).1 ++ (put2 ty ++ put2 cl ++ put4 tt ++ [0, 0]), (nmX o s).2)
def rrFin (F : Nat) (s : Wst) : Wst := ((s.1.set (F - 2) (UInt8.ofNat ((s.1.length - F) / 256))).set (F - 1) (UInt8.ofNat ((s.1.length - F) % 256)), s.2)
/-- A record. -/
def rrW (r : Rr) (s : Wst) : Wst := rrFin (rrA r.own r.ty.toNat r.cl.toNat r.tt s).1.length (daW r.ty.toNat r.da (rrA r.own r.ty.toNat r.cl.toNat r.tt s))

theorem inB_nat {n m : Int} (h : inB n m = true) : ∃ k : Nat, n = (k : Int) ∧ (k : Int) ≤ m := by
  simp [inB] at h
  exact ⟨n.toNat, by omega, by omega⟩
/-- What a good record says. -/
theorem rc_parts {r : Rr} (h : rcOK r = true) : (Nm.split r.own).isSome = true ∧ (∃ t : Nat, r.ty = (t : Int) ∧ t < 65536) ∧ (∃ c : Nat, r.cl = (c : Int) ∧ c < 65536) ∧ 0 ≤ r.tt ∧ r.tt ≤ 4294967295 ∧ (r.da.size = 0 ∨ cutCode r.ty r.da = 0) ∧ r.da.size ≤ 65535 := by
  simp only [rcOK, Bool.and_eq_true, Bool.or_eq_true, decide_eq_true_eq, beq_iff_eq] at h
  obtain ⟨⟨⟨⟨h1, h2⟩, h3⟩, h4⟩, h5⟩ := h
  obtain ⟨t, ht, htl⟩ := inB_nat h2
  obtain ⟨c, hc, hcl⟩ := inB_nat h3
  simp [inB] at h4
  refine ⟨h1, ⟨t, ht, by omega⟩, ⟨c, hc, by omega⟩, h4.1, h4.2, h5, ?_⟩
  rcases h5 with h5 | h5
  · omega
  · obtain ⟨ps, _, _, hz⟩ := good_parts h5
    exact hz
theorem daW_len {t : Nat} {d : ByteArray} (h : d.size = 0 ∨ cutCode t d = 0) (s : Wst) : s.1.length ≤ (daW t d s).1.length ∧ (daW t d s).1.length ≤ s.1.length + d.size := by
  rw [daW]
  split
  · simp
  · rename_i hn
    have hc : cutCode t d = 0 := by rcases h with h | h; exact absurd (.inl h) hn; exact h
    obtain ⟨ps, h1, h2, h3⟩ := good_parts hc
    obtain ⟨p1, p2, p3⟩ := Dt.parts_cat _ _ _ h1
    have := daP_len (Dt.specP t) ps s p3
    rw [h1]
    rw [p2] at this
    simpa using this
theorem daW_ok (t : Nat) (d : ByteArray) (s : Wst) (h : PlOK s.2 s.1.length) : PlOK (daW t d s).2 (daW t d s).1.length := by
  rw [daW]
  split
  · exact h.mono (by simp)
  · exact daP_ok _ _ _ h
theorem rrA_len {o : ByteArray} (h : (Nm.split o).isSome = true) (ty cl : Nat) (tt : Int) (s : Wst) : s.1.length + 11 ≤ (rrA o ty cl tt s).1.length ∧ (rrA o ty cl tt s).1.length ≤ s.1.length + o.size + 10 := by
  have := nmX_len h s
  simp [rrA, put2, put4]
  omega
theorem rrA_ok (o : ByteArray) (ty cl : Nat) (tt : Int) (s : Wst) (h : PlOK s.2 s.1.length) : PlOK (rrA o ty cl tt s).2 (rrA o ty cl tt s).1.length := (nmX_ok o s h).mono (by simp [rrA])
theorem rrFin_len (F : Nat) (s : Wst) : (rrFin F s).1.length = s.1.length := by simp [rrFin]
theorem name_short {o : ByteArray} (h : (Nm.split o).isSome = true) : o.size ≤ 255 := by
  obtain ⟨ls, hs⟩ := Option.isSome_iff_exists.1 h
  exact (Nm.split_size hs).2
theorem rrW_len {r : Rr} (h : rcOK r = true) (s : Wst) : s.1.length ≤ (rrW r s).1.length ∧ (rrW r s).1.length ≤ s.1.length + 65800 := by
  obtain ⟨h1, ⟨t, ht, htl⟩, ⟨c, hc, hcl⟩, h4, h5, h6, h7⟩ := rc_parts h
  have hs := name_short h1
  have a := rrA_len h1 t c r.tt s
  rw [rrW, rrFin_len, ht, hc]
  rw [ht] at h6
  have b := daW_len h6 (rrA r.own t c r.tt s)
  simp only [Int.toNat_natCast]
  omega
theorem rrW_ok (r : Rr) (s : Wst) (h : PlOK s.2 s.1.length) : PlOK (rrW r s).2 (rrW r s).1.length := by
  rw [rrW, rrFin_len]
  exact daW_ok _ _ _ (rrA_ok _ _ _ _ _ h)
/-- Records one behind the other. -/
def rrWs (l : List Rr) (s : Wst) : Wst := l.foldl (fun s r => rrW r s) s
theorem rrWs_cons (r : Rr) (l : List Rr) (s : Wst) : rrWs (r :: l) s = rrWs l (rrW r s) := rfl
theorem rrWs_len : ∀ (l : List Rr) (s : Wst), l.all rcOK = true → s.1.length ≤ (rrWs l s).1.length ∧ (rrWs l s).1.length ≤ s.1.length + 65800 * l.length := by
  intro l
  induction l with
  | nil => intro s h; simp [rrWs]
  | cons r l ih =>
    intro s h
    simp only [List.all_cons, Bool.and_eq_true] at h
    rw [rrWs_cons]
    have a := ih (rrW r s) h.2
    have b := rrW_len h.1 s
    simp only [List.length_cons]
    omega
theorem rrWs_ok : ∀ (l : List Rr) (s : Wst), PlOK s.2 s.1.length → PlOK (rrWs l s).2 (rrWs l s).1.length := by
  intro l
  induction l with
  | nil => intro s h; exact h
  | cons r l ih => intro s h; exact ih _ (rrW_ok r s h)
/-- A record that the model's writer takes. -/
def rcW (r : Rr) : Prop := (Nm.split r.own).isSome = true ∧ (∃ t : Nat, r.ty = (t : Int) ∧ t < 65536) ∧ (∃ c : Nat, r.cl = (c : Int) ∧ c < 65536) ∧ 0 ≤ r.tt ∧ r.tt ≤ 4294967295 ∧ (r.da.size = 0 ∨ ¬ pointed r.ty.toNat ∨ cutCode r.ty r.da = 0) ∧ r.da.size ≤ 65535
theorem rc_w {r : Rr} (h : rcOK r = true) : rcW r := by
  obtain ⟨h1, h2, h3, h4, h5, h6, h7⟩ := rc_parts h
  exact ⟨h1, h2, h3, h4, h5, h6.elim .inl (fun e => .inr (.inr e)), h7⟩
theorem daW_lenW {t : Nat} {d : ByteArray} (h : d.size = 0 ∨ ¬ pointed t ∨ cutCode t d = 0) (s : Wst) : s.1.length ≤ (daW t d s).1.length ∧ (daW t d s).1.length ≤ s.1.length + d.size := by
  rcases h with h | h | h
  · exact daW_len (.inl h) s
  · rw [daW, if_pos (.inr h)]
    simp
  · exact daW_len (.inr h) s
theorem rrW_lenW {r : Rr} (h : rcW r) (s : Wst) : s.1.length ≤ (rrW r s).1.length ∧ (rrW r s).1.length ≤ s.1.length + 65800 := by
  obtain ⟨h1, ⟨t, ht, htl⟩, ⟨c, hc, hcl⟩, h4, h5, h6, h7⟩ := h
  have hs := name_short h1
  have a := rrA_len h1 t c r.tt s
  rw [rrW, rrFin_len, ht, hc]
  rw [ht] at h6
  simp only [Int.toNat_natCast] at h6 ⊢
  have b := daW_lenW h6 (rrA r.own t c r.tt s)
  omega
end Go.Proofs.Ythhagapmcbkeiaa
/- A name that was written is read again: mathematics. -/
namespace Go.Proofs.Ythhagapmcbkeiaa
open Go.RowKit
set_option linter.unusedVariables false

/-- Reading from 'pos' on, in a run that began at 'st', gives the name 't' and ends at 'nxt'. -/
def Dec (L : List UInt8) (st pos : Nat) (t : ByteArray) (nxt : Nat) : Prop := ∀ (acc : List UInt8) (nx : Option Nat), acc.length + t.size ≤ 255 → dnF L st pos acc nx = .ok (acc ++ t.data.toList) (nx.getD nxt)
/-- The places are such that names are read there. -/
def PlD (L : List UInt8) (pls : List (ByteArray × Nat)) : Prop := ∀ p ∈ pls, ∃ nxt, Dec L p.2 p.2 p.1 nxt
theorem PlD.nil (L : List UInt8) : PlD L [] := fun p hp => by cases hp

theorem by_pre {L R : List UInt8} (h : R <+: L) {i : Nat} (hi : i < R.length) : L[i]? = R[i]? := by
  obtain ⟨t, rfl⟩ := h
  rw [List.getElem?_append_left hi]
theorem byAt_get {L : List UInt8} {i : Nat} {b : UInt8} (h : L[i]? = some b) : byAt L i = b.toNat := by
  simp [byAt, List.getD_eq_getElem?_getD, h]
/-- L has these bytes from a place on. -/
def Has (L : List UInt8) (p : Nat) (xs : List UInt8) : Prop := ∀ i b, xs[i]? = some b → L[p + i]? = some b
theorem Has.left {L xs ys : List UInt8} {p : Nat} (h : Has L p (xs ++ ys)) : Has L p xs := fun i b hb => h i b (by rw [List.getElem?_append_left (List.getElem?_eq_some_iff.1 hb).1]; exact hb)
theorem Has.right {L xs ys : List UInt8} {p : Nat} (h : Has L p (xs ++ ys)) : Has L (p + xs.length) ys := fun i b hb => by
  have := h (xs.length + i) b (by rw [List.getElem?_append_right (by omega), Nat.add_sub_cancel_left]; exact hb)
  rwa [← Nat.add_assoc] at this
theorem Has.append {L xs ys : List UInt8} {p : Nat} (h1 : Has L p xs) (h2 : Has L (p + xs.length) ys) : Has L p (xs ++ ys) := fun i b hb => by
  by_cases hi : i < xs.length
  · rw [List.getElem?_append_left hi] at hb
    exact h1 i b hb
  · rw [List.getElem?_append_right (by omega)] at hb
    have := h2 _ b hb
    rwa [show p + xs.length + (i - xs.length) = p + i by omega] at this
theorem Has.lt {L xs : List UInt8} {p : Nat} (h : Has L p xs) (hx : 0 < xs.length) : p + xs.length ≤ L.length := by
  have := h (xs.length - 1) _ (List.getElem?_eq_getElem (by omega))
  have := (List.getElem?_eq_some_iff.1 this).1
  omega
theorem Has.cut {L xs : List UInt8} {p : Nat} (h : Has L p xs) : (L.drop p).take xs.length = xs := by
  apply List.ext_getElem?
  intro i
  by_cases hi : i < xs.length
  · have hx := List.getElem?_eq_getElem hi
    rw [List.getElem?_take_of_lt hi, List.getElem?_drop, h i _ hx, hx]
  · rw [List.getElem?_eq_none (by simp; omega), List.getElem?_eq_none (by omega)]
theorem Has.of_pre {L R : List UInt8} (h : R <+: L) {p : Nat} {xs ys zs : List UInt8} (hR : R = ys ++ xs ++ zs) (hp : ys.length = p) : Has L p xs := fun i b hb => by
  have hi := (List.getElem?_eq_some_iff.1 hb).1
  rw [by_pre h (by rw [hR]; simp; omega), hR, List.append_assoc, List.getElem?_append_right (by omega), hp, Nat.add_sub_cancel_left, List.getElem?_append_left hi]
  exact hb

/-- The bytes that a name adds. -/
theorem nmW_adds : ∀ (ls : List ByteArray) (bs : List UInt8) (pls : List (ByteArray × Nat)), ∃ xs, (nmW ls bs pls).1 = bs ++ xs := by
  intro ls
  induction ls with
  | nil => intro bs pls; exact ⟨[0], rfl⟩
  | cons l ls ih =>
    intro bs pls
    rw [nmW]
    split
    · exact ⟨_, rfl⟩
    · obtain ⟨xs, hx⟩ := ih (bs ++ (UInt8.ofNat l.size :: l.data.toList)) (if bs.length ≤ 16383 then pls ++ [(nmB (l :: ls), bs.length)] else pls)
      exact ⟨(UInt8.ofNat l.size :: l.data.toList) ++ xs, by rw [hx]; simp⟩

theorem seenS_is {pls : List (ByteArray × Nat)} {t : ByteArray} (h : 0 ≤ seenS pls t) : ∃ p ∈ pls, p.1 = t ∧ (p.2 : Int) = seenS pls t := by
  induction pls with
  | nil => simp [seenS] at h
  | cons p r ih =>
    rw [seenS] at h ⊢
    by_cases e : p.1 = t
    · exact ⟨p, List.mem_cons_self .., e, by rw [if_pos e]⟩
    · rw [if_neg e] at h ⊢
      obtain ⟨q, h1, h2, h3⟩ := ih h
      exact ⟨q, List.mem_cons_of_mem _ h1, h2, h3⟩

theorem put2_bytes (k : Nat) (hk : k ≤ 16383) : put2 (49152 + k) = [UInt8.ofNat (192 + k / 256), UInt8.ofNat (k % 256)] := by
  unfold put2
  congr 1
  · congr 1; omega
  · congr 2; omega

/-- The places while a name is written that began at 'a': older ones, or rests that are longer than what is left. -/
def Mid (L : List UInt8) (a n : Nat) (pls : List (ByteArray × Nat)) : Prop := ∀ p ∈ pls, (p.2 < a ∧ ∃ nxt, Dec L p.2 p.2 p.1 nxt) ∨ n < p.1.size

theorem nmW_dec (L : List UInt8) (a : Nat) : ∀ (ls : List ByteArray) (bs : List UInt8) (pls : List (ByteArray × Nat)), (∀ x ∈ ls, 1 ≤ x.size ∧ x.size ≤ 63) → a ≤ bs.length → PlOK pls bs.length → Mid L a (nmB ls).size pls →
    Has L a ((nmW ls bs pls).1.drop a) → ∀ st, a ≤ st → Dec L st bs.length (nmB ls) (nmW ls bs pls).1.length := by
  intro ls
  induction ls with
  | nil =>
    intro bs pls hx ha hok hmid hag st hst acc nx hacc
    have h0 : L[bs.length]? = some 0 := by
      have := hag (bs.length - a) 0 (by simp [nmW, List.getElem?_drop, show a + (bs.length - a) = bs.length by omega])
      rwa [show a + (bs.length - a) = bs.length by omega] at this
    have hlt := (List.getElem?_eq_some_iff.1 h0).1
    rw [dnF_root hlt (by rw [byAt_get h0]; rfl), nmB_data]
    simp [nmW]
    rfl
  | cons l ls ih =>
    intro bs pls hx ha hok hmid hag st hst acc nx hacc
    obtain ⟨x1, x2⟩ := hx l (List.mem_cons_self ..)
    have hsz := nmB_size (l :: ls)
    have hsz2 := nmB_size ls
    have hws : Nm.wsum (l :: ls) = 1 + l.size + Nm.wsum ls := by simp [Nm.wsum]
    rw [nmW] at hag ⊢
    by_cases hsn : 0 ≤ seenS pls (nmB (l :: ls))
    · rw [if_pos hsn] at hag ⊢
      obtain ⟨p, hp, hp1, hp2⟩ := seenS_is hsn
      obtain ⟨_, s2⟩ := seenS_lt hok (nmB (l :: ls))
      have hk : (seenS pls (nmB (l :: ls))).toNat = p.2 := by omega
      rw [hk] at hag ⊢
      have hk2 : p.2 ≤ 16383 := by omega
      rw [put2_bytes p.2 hk2] at hag ⊢
      rcases hmid p hp with ⟨hlt, nxt, hdec⟩ | hbig
      · have g0 : L[bs.length]? = some (UInt8.ofNat (192 + p.2 / 256)) := by
          have := hag (bs.length - a) _ (by rw [List.getElem?_drop, show a + (bs.length - a) = bs.length by omega, List.getElem?_append_right (Nat.le_refl _), Nat.sub_self]; rfl)
          rwa [show a + (bs.length - a) = bs.length by omega] at this
        have g1 : L[bs.length + 1]? = some (UInt8.ofNat (p.2 % 256)) := by
          have := hag (bs.length + 1 - a) _ (by rw [List.getElem?_drop, show a + (bs.length + 1 - a) = bs.length + 1 by omega, List.getElem?_append_right (by omega), show bs.length + 1 - bs.length = 1 by omega]; rfl)
          rwa [show a + (bs.length + 1 - a) = bs.length + 1 by omega] at this
        have e0 : byAt L bs.length = 192 + p.2 / 256 := by rw [byAt_get g0]; simp; omega
        have e1 : byAt L (bs.length + 1) = p.2 % 256 := by rw [byAt_get g1]; simp
        have hl1 := (List.getElem?_eq_some_iff.1 g1).1
        have e2 : (byAt L bs.length - 192) * 256 + byAt L (bs.length + 1) = p.2 := by rw [e0, e1]; omega
        rw [dnF_ptr (by omega) hl1 (by omega), e2, hdec acc _ (by rw [hp1]; exact hacc), hp1]
        simp
      · rw [hp1] at hbig
        omega
    · rw [if_neg hsn] at hag ⊢
      generalize hpl : (if bs.length ≤ 16383 then pls ++ [(nmB (l :: ls), bs.length)] else pls) = pls' at hag ⊢
      obtain ⟨xs, hxs⟩ := nmW_adds ls (bs ++ (UInt8.ofNat l.size :: l.data.toList)) pls'
      have hlab : Has L bs.length (UInt8.ofNat l.size :: l.data.toList) := by
        intro i b hb
        have hi := (List.getElem?_eq_some_iff.1 hb).1
        have := hag (bs.length - a + i) b (by
          rw [hxs, List.getElem?_drop, show a + (bs.length - a + i) = bs.length + i by omega, List.append_assoc, List.getElem?_append_right (by omega), Nat.add_sub_cancel_left, List.getElem?_append_left hi]
          exact hb)
        rwa [show a + (bs.length - a + i) = bs.length + i by omega] at this
      have g0 : byAt L bs.length = l.size := by
        have := hlab 0 _ rfl
        rw [Nat.add_zero] at this
        rw [byAt_get this]; simp; omega
      have hll : (UInt8.ofNat l.size :: l.data.toList).length = 1 + l.size := by simp; omega
      have hle := hlab.lt (by rw [hll]; omega)
      rw [hll] at hle
      have hok' : PlOK pls' (bs ++ (UInt8.ofNat l.size :: l.data.toList)).length := by
        rw [← hpl]
        split
        · rename_i hs
          exact (hok.put (p := (nmB (l :: ls), bs.length)) hs).mono (by simp)
        · exact hok.mono (by simp)
      have hmid' : Mid L a (nmB ls).size pls' := by
        intro p hp
        rw [← hpl] at hp
        have hold : p ∈ pls → (p.2 < a ∧ ∃ nxt, Dec L p.2 p.2 p.1 nxt) ∨ (nmB ls).size < p.1.size := fun hp => by
          rcases hmid p hp with h | h
          · exact .inl h
          · right; omega
        split at hp
        · rcases List.mem_append.1 hp with hp | hp
          · exact hold hp
          · simp at hp
            subst hp
            right
            show (nmB ls).size < (nmB (l :: ls)).size
            omega
        · exact hold hp
      rw [dnF_more (by omega) (by omega) (by omega) (by omega), g0, ← hll, hlab.cut, show bs.length + 1 + l.size = (bs ++ (UInt8.ofNat l.size :: l.data.toList)).length by rw [List.length_append, hll]; omega]
      rw [ih (bs ++ (UInt8.ofNat l.size :: l.data.toList)) pls' (fun x hx' => hx x (List.mem_cons_of_mem _ hx')) (by simp; omega) hok' hmid' hag st hst (acc ++ (UInt8.ofNat l.size :: l.data.toList)) nx (by rw [List.length_append, hll]; omega)]
      rw [nmB_data, nmB_data_cons]
      simp
end Go.Proofs.Ythhagapmcbkeiaa
/- The bits of a head: mathematics. -/
namespace Go.Proofs.Ythhagapmcbkeiaa
open Go.RowKit

theorem i64_and_nat (a b : Nat) (ha : a < 9223372036854775808) (hb : b < 9223372036854775808) : bits .and .i64 (a : Int) (b : Int) = ((a &&& b : Nat) : Int) := by
  have hx : a &&& b ≤ a := Nat.and_le_left
  show IntKind.i64.wrap ((BitVec.ofInt 64 (a : Int) &&& BitVec.ofInt 64 (b : Int)).toNat : Int) = _
  rw [BitVec.toNat_and, ofInt_u64 a (by omega), ofInt_u64 b (by omega)]
  exact wrap_pos _ (by omega)

theorem and_bit (f i : Nat) : (f &&& 2 ^ i ≠ 0) ↔ f.testBit i = true := by
  constructor
  · intro h
    refine Classical.byContradiction fun hn => h ?_
    apply Nat.eq_of_testBit_eq
    intro j
    rw [Nat.testBit_and, Nat.testBit_two_pow, Nat.zero_testBit]
    by_cases e : i = j
    · subst e; simp_all
    · simp [e]
  · intro h h0
    have := congrArg (fun n => n.testBit i) h0
    simp [Nat.testBit_and, h, Nat.testBit_two_pow_self] at this

theorem flag_and (f i : Nat) (hf : f < 65536) (hi : i < 16) (c : Int) (hc : c = ((2 ^ i : Nat) : Int)) : (bits .and .i64 (f : Int) c != 0) = f.testBit i := by
  have h2 : 2 ^ i < 9223372036854775808 := Nat.lt_of_le_of_lt (Nat.pow_le_pow_right (by decide) (show i ≤ 16 by omega)) (by decide)
  rw [hc, i64_and_nat f (2 ^ i) (by omega) h2]
  rw [Bool.eq_iff_iff, ← and_bit, bne_iff_ne]
  omega

theorem flag_shr (f i : Nat) (hf : f < 65536) : (bits .and .i64 ((f / 2 ^ i : Nat) : Int) 1 == 1) = f.testBit i := by
  have h1 : f / 2 ^ i ≤ f := Nat.div_le_self _ _
  have := i64_and_nat (f / 2 ^ i) 1 (by omega) (by decide)
  rw [show ((1 : Nat) : Int) = 1 from rfl] at this
  rw [this, Nat.and_one_is_mod, Nat.testBit_eq_decide_div_mod_eq, Bool.eq_iff_iff, decide_eq_true_iff, beq_iff_eq]
  omega

theorem and_15 (n : Nat) (h : n < 65536) : bits .and .i64 (n : Int) 15 = ((n % 16 : Nat) : Int) := by
  have := i64_and_nat n 15 (by omega) (by decide)
  rw [show ((15 : Nat) : Int) = 15 from rfl] at this
  rw [this, show (15 : Nat) = 2 ^ 4 - 1 from rfl, Nat.and_two_pow_sub_one_eq_mod]

/-- The number of two bytes at a place. -/
def n16 (l : List UInt8) (i : Nat) : Nat := numL ((l.drop i).take 2)

theorem n16_lt (l : List UInt8) (i : Nat) : n16 l i < 65536 := by
  have h := numL_lt ((l.drop i).take 2)
  have h2 : ((l.drop i).take 2).length ≤ 2 := by simp; omega
  have h3 : 256 ^ ((l.drop i).take 2).length ≤ 256 ^ 2 := Nat.pow_le_pow_right (by decide) h2
  unfold n16
  omega

/-- A head's fields, out of its two numbers. -/
def hdA (d f : Nat) : Array Value := #[.int .i64 d, .bool (f.testBit 15), .int .i64 ((f / 2048 % 16 : Nat) : Int), .bool (f.testBit 10), .bool (f.testBit 9), .bool (f.testBit 8), .bool (f.testBit 7), .bool (f.testBit 6), .bool (f.testBit 5), .bool (f.testBit 4), .int .i64 ((f % 16 : Nat) : Int)]

/-- The head of nothing. -/
def hd0 : Array Value := #[.int .i64 0, .bool false, .int .i64 0, .bool false, .bool false, .bool false, .bool false, .bool false, .bool false, .bool false, .int .i64 0]

/-- The four counts. -/
def ctA (l : List UInt8) : Array Value := #[.int .i64 (n16 l 4), .int .i64 (n16 l 6), .int .i64 (n16 l 8), .int .i64 (n16 l 10)]
def ct0 : Array Value := #[.int .i64 0, .int .i64 0, .int .i64 0, .int .i64 0]
end Go.Proofs.Ythhagapmcbkeiaa
/- A message's records: mathematics. -/
namespace Go.Proofs.Ythhagapmcbkeiaa

/-- Some bytes of a message. -/
def cutL (l : List UInt8) (p n : Nat) : List UInt8 := (l.drop p).take n

theorem cutL_length {l : List UInt8} {p n : Nat} (h : p + n ≤ l.length) : (cutL l p n).length = n := by simp [cutL]; omega

theorem cutL_add {l : List UInt8} {p n m : Nat} : cutL l p (n + m) = cutL l p n ++ cutL l (p + n) m := by
  simp [cutL, List.take_add]

/-- Data up to a place, by its pieces: none is a name, some n are n bytes. -/
def dtP (l : List UInt8) (fin : Nat) : List (Option Nat) → Nat → List UInt8 → Rs (List UInt8)
  | [], p, acc => if p = fin then .ok acc fin else .bad 7
  | none :: ps, p, acc => match dnF l p p [] none with
    | .inl c => .bad c
    | .inr (s, nx) => if nx ≤ fin then dtP l fin ps nx (acc ++ s) else .bad 7
  | some n :: ps, p, acc => if p + n ≤ fin then dtP l fin ps (p + n) (acc ++ cutL l p n) else .bad 7

theorem dtP_bytes (l : List UInt8) (fin : Nat) : ∀ (n p : Nat) (acc : List UInt8), p ≤ fin → dtP l fin (List.replicate n (some 1)) p acc = dtP l fin [some n] p acc := by
  intro n
  induction n with
  | zero => intro p acc h; simp [dtP, cutL, h]
  | succ n ih =>
    intro p acc h
    rw [List.replicate_succ, dtP]
    by_cases h1 : p + 1 ≤ fin
    · rw [if_pos h1, ih (p + 1) _ h1, dtP, dtP]
      have e : p + 1 + n = p + (n + 1) := by omega
      rw [e, List.append_assoc, ← cutL_add, Nat.add_comm 1 n, dtP, dtP]
    · rw [if_neg h1, dtP, if_neg (by omega)]


def piecesOf (t : Nat) : List (Option Nat) := if t = 6 then [none, none, some 20] else if t = 15 then [some 2, none] else [none]

/-- A record's data. -/
def dataS (l : List UInt8) (t p fin : Nat) : Rs (List UInt8) :=
  if p = fin then .ok [] fin
  else if pointed t then dtP l fin (piecesOf t) p []
  else if cutCode t ⟨(cutL l p (fin - p)).toArray⟩ = 0 then .ok (cutL l p (fin - p)) fin else .bad 7

/-- The number of four bytes at a place. -/
def n32 (l : List UInt8) (i : Nat) : Nat := numL (cutL l i 4)

theorem n32_lt (l : List UInt8) (i : Nat) : n32 l i < 4294967296 := by
  have h := numL_lt (cutL l i 4)
  have h2 : (cutL l i 4).length ≤ 4 := by simp [cutL]; omega
  have h3 : 256 ^ (cutL l i 4).length ≤ 256 ^ 4 := Nat.pow_le_pow_right (by decide) h2
  unfold n32
  omega

/-- A question: its name, type and class. -/
structure Qm where
  name : List UInt8
  ty : Nat
  cl : Nat

/-- A record. -/
structure Rm where
  owner : List UInt8
  ty : Nat
  cl : Nat
  ttl : Nat
  dat : List UInt8

def quS (l : List UInt8) (p : Nat) : Rs Qm :=
  match dnF l p p [] none with
  | .inl c => .bad c
  | .inr (s, nx) => if nx + 4 ≤ l.length then .ok ⟨s, n16 l nx, n16 l (nx + 2)⟩ (nx + 4) else .bad 8

def rrS (l : List UInt8) (p : Nat) : Rs Rm :=
  match dnF l p p [] none with
  | .inl c => .bad c
  | .inr (s, nx) =>
    if nx + 10 ≤ l.length then
      if nx + 10 + n16 l (nx + 8) ≤ l.length then
        match dataS l (n16 l nx) (nx + 10) (nx + 10 + n16 l (nx + 8)) with
        | .inl c => .bad c
        | .inr (d, _) => .ok ⟨s, n16 l nx, n16 l (nx + 2), n32 l (nx + 4), d⟩ (nx + 10 + n16 l (nx + 8))
      else .bad 8
    else .bad 8

/-- So many entries, one behind the other. -/
def manyS {α : Type} (f : Nat → Rs α) : Nat → Nat → List α → Rs (List α)
  | 0, p, acc => .ok acc p
  | n + 1, p, acc => match f p with
    | .inl c => .bad c
    | .inr (x, q) => manyS f n q (acc ++ [x])

/-- What stands in a message's lists. -/
structure Mm where
  qs : List Qm
  an : List Rm
  au : List Rm
  ex : List Rm

/-- A message's entries behind its head. -/
def listsS (l : List UInt8) : Rs Mm :=
  match manyS (quS l) (n16 l 4) 12 [] with
  | .inl c => .bad c
  | .inr (qs, p1) => match manyS (rrS l) (n16 l 6) p1 [] with
    | .inl c => .bad c
    | .inr (an, p2) => match manyS (rrS l) (n16 l 8) p2 [] with
      | .inl c => .bad c
      | .inr (au, p3) => match manyS (rrS l) (n16 l 10) p3 [] with
        | .inl c => .bad c
        | .inr (ex, p4) => if p4 < l.length then .bad 10 else .ok ⟨qs, an, au, ex⟩ p4

/-- A message. -/
def msgS (l : List UInt8) : Rs Mm :=
  if 65535 < l.length then .bad 11
  else if l.length < 12 then .bad 8
  else if 400 < n16 l 4 + n16 l 6 + n16 l 8 + n16 l 10 then .bad 12
  else listsS l
end Go.Proofs.Ythhagapmcbkeiaa
/- spec.l04Name by its contract. -/
namespace Go.Proofs.Ythhagapmcbkeiaa
open Go.RowKit
set_option linter.unusedVariables false

theorem idx0 (s : ByteArray) (h : 0 < s.size) (W : World) : (Instr.index 9 (.string s) (.int .i64 0)).run Try.prog W = .ok (.int .u8 (s[0].toNat : Int)) W := by
  have := byte_in s 0 h W
  simpa using this

end Go.Proofs.Ythhagapmcbkeiaa
/- spec.l04Question by its contract. -/
namespace Go.Proofs.Ythhagapmcbkeiaa
open Go.RowKit
set_option linter.unusedVariables false

def quW (ls : List ByteArray) (ty cl : Nat) (bs : List UInt8) (pls : List (ByteArray × Nat)) : Wst := ((nmW ls bs pls).1 ++ (put2 ty ++ put2 cl), (nmW ls bs pls).2)

end Go.Proofs.Ythhagapmcbkeiaa
/- spec.l04Flag and spec.l04Head by their contracts. -/
namespace Go.Proofs.Ythhagapmcbkeiaa
open Go.RowKit
set_option linter.unusedVariables false

def flS (b : Bool) (i : Nat) : Nat := if b then 2 ^ i else 0

end Go.Proofs.Ythhagapmcbkeiaa
/- spec.l04Head by its contract. -/
namespace Go.Proofs.Ythhagapmcbkeiaa
open Go.RowKit
set_option linter.unusedVariables false

def flagsS (qr : Bool) (op : Nat) (aa tc rd ra z ad cd : Bool) (code : Nat) : Nat := flS qr 15 + op * 2048 + flS aa 10 + flS tc 9 + flS rd 8 + flS ra 7 + flS z 6 + flS ad 5 + flS cd 4 + code
theorem flS_le (b : Bool) (i : Nat) : flS b i ≤ 2 ^ i := by cases b <;> simp [flS]
theorem flagsS_lt (qr : Bool) (op : Nat) (aa tc rd ra z ad cd : Bool) (code : Nat) (h1 : op ≤ 15) (h2 : code ≤ 15) : flagsS qr op aa tc rd ra z ad cd code < 65536 := by
  have a := flS_le qr 15
  have b := flS_le aa 10
  have c := flS_le tc 9
  have d := flS_le rd 8
  have e := flS_le ra 7
  have f := flS_le z 6
  have g := flS_le ad 5
  have h := flS_le cd 4
  simp only [Nat.reducePow] at a b c d e f g h
  unfold flagsS
  omega
def headL (id fl : Nat) (cs : List Nat) : List UInt8 := put2 id ++ put2 fl ++ cs.flatMap put2
theorem cat_mk (a b : List UInt8) : (⟨a.toArray⟩ : ByteArray) ++ ⟨b.toArray⟩ = ⟨(a ++ b).toArray⟩ := by
  apply ByteArray.ext
  simp
theorem headL_len (id fl : Nat) (cs : List Nat) : (headL id fl cs).length = 4 + 2 * cs.length := by
  have : (cs.flatMap put2).length = 2 * cs.length := by
    induction cs with
    | nil => rfl
    | cons x xs ih => simp [put2] at ih ⊢; omega
  simp [headL, this, put2]
  omega

theorem below_hd {w w2 : World} {X : Obj} {cs : Array Value} {T : TypeId} (n : Nat) (h : Below (((w.alloc X).alloc (.cells cs T)).drewN n).heap.size (((w.alloc X).alloc (.cells cs T)).drewN n) w2) : Below w.heap.size w w2 ∧ Blk w2 (w.heap.size + 1) cs T := by
  have b := ((Below.refl w.heap.size w).alloc (Nat.le_refl _) X).alloc (by simp) (.cells cs T)
  have b' : Below w.heap.size w (((w.alloc X).alloc (.cells cs T)).drewN n) := ⟨b.os, b.tape, b.output, b.size, b.block⟩
  refine ⟨b'.trans (h.mono b'.size), ?_⟩
  have k := blk_new (w.alloc X) cs T
  rw [show (w.alloc X).heap.size = w.heap.size + 1 by simp] at k
  have k' : Blk (((w.alloc X).alloc (.cells cs T)).drewN n) (w.heap.size + 1) cs T := k
  exact blk_below k' h
theorem headL_step (id fl c : Nat) (cs : List Nat) : (⟨(headL id fl cs).toArray⟩ : ByteArray) ++ ⟨(put2 c).toArray⟩ = ⟨(headL id fl (cs ++ [c])).toArray⟩ := by
  rw [cat_mk]; simp [headL]
theorem headL_fit (id fl c : Nat) (cs : List Nat) (h : cs.length ≤ 4) : ¬ 9223372036854775807 < (⟨(headL id fl cs).toArray⟩ : ByteArray).size + (⟨(put2 c).toArray⟩ : ByteArray).size := by
  rw [← ByteArray.size_append, headL_step]
  show ¬ 9223372036854775807 < (headL id fl (cs ++ [c])).toArray.size
  rw [List.size_toArray, headL_len]
  simp
  omega

end Go.Proofs.Ythhagapmcbkeiaa
/- A head's flags, joined bit by bit; a message as it is written: mathematics. -/
namespace Go.Proofs.Ythhagapmcbkeiaa
open Go.RowKit
set_option linter.unusedVariables false

theorem or_bit (f i : Nat) (h : f / 2 ^ i % 2 = 0) : f ||| 2 ^ i = f + 2 ^ i := by
  have hp : 0 < 2 ^ i := Nat.two_pow_pos i
  obtain ⟨hi, lo, hlo, rfl⟩ : ∃ hi lo, lo < 2 ^ i ∧ f = 2 ^ (i + 1) * hi + lo := by
    refine ⟨f / 2 ^ i / 2, f % 2 ^ i, Nat.mod_lt _ hp, ?_⟩
    have h1 := Nat.div_add_mod f (2 ^ i)
    have h2 := Nat.div_add_mod (f / 2 ^ i) 2
    rw [h] at h2
    rw [Nat.pow_succ, Nat.mul_assoc, show 2 * (f / 2 ^ i / 2) = f / 2 ^ i by omega]
    exact h1.symm
  have e1 : 2 ^ (i + 1) * hi + lo = 2 ^ (i + 1) * hi ||| lo := Nat.two_pow_add_eq_or_of_lt (by rw [Nat.pow_succ]; omega) hi
  have e2 : 2 ^ (i + 1) * hi + 2 ^ i = 2 ^ (i + 1) * hi ||| 2 ^ i := Nat.two_pow_add_eq_or_of_lt (by rw [Nat.pow_succ]; omega) hi
  have e3 : 2 ^ i * (2 * hi + 1) + lo = 2 ^ i * (2 * hi + 1) ||| lo := Nat.two_pow_add_eq_or_of_lt hlo _
  have e4 : 2 ^ (i + 1) * hi + 2 ^ i = 2 ^ i * (2 * hi + 1) := by rw [Nat.pow_succ, Nat.mul_add, Nat.mul_one, Nat.mul_assoc]
  rw [e1, Nat.or_assoc, Nat.or_comm lo, ← Nat.or_assoc, ← e2, e4, ← e3, ← e4, ← e1]
  omega

def flP (h : Hr) : List (Bool × Nat) := [(h.qr, 15), (h.aa, 10), (h.tc, 9), (h.rd, 8), (h.ra, 7), (h.z, 6), (h.ad, 5), (h.cd, 4)]
def flN (op code : Nat) : List (Bool × Nat) → Nat
  | [] => op * 2048 + code
  | p :: r => flS p.1 p.2 + flN op code r
theorem flS_c (b : Bool) (i : Nat) : flS b i = 2 ^ i * b.toNat := by cases b <;> simp [flS]
theorem flN_all (h : Hr) (op code : Nat) : flN op code (flP h) = flagsS h.qr op h.aa h.tc h.rd h.ra h.z h.ad h.cd code := by
  simp only [flP, flN, flagsS]
  omega
theorem tn_le (b : Bool) : b.toNat ≤ 1 := by cases b <;> simp
/-- One flag more. -/
theorem flN_step (h : Hr) (op code : Nat) (ho : op ≤ 15) (hc : code ≤ 15) (j : Nat) (i : Nat) (hj : (flP h)[j]? = some (true, i)) :
    bits .or .i64 (flN op code ((flP h).take j) : Int) ((2 ^ i : Nat) : Int) = (flN op code ((flP h).take (j + 1)) : Int) := by
  have t1 := tn_le h.qr
  have t2 := tn_le h.aa
  have t3 := tn_le h.tc
  have t4 := tn_le h.rd
  have t5 := tn_le h.ra
  have t6 := tn_le h.z
  have t7 := tn_le h.ad
  have t8 := tn_le h.cd
  rcases j with _ | _ | _ | _ | _ | _ | _ | _ | j
  all_goals simp [flP] at hj
  all_goals
    obtain ⟨hb, rfl⟩ := hj
    simp only [flP, List.take_succ_cons, List.take_zero, flN, flS_c, hb, Bool.toNat_true]
    rw [i64_or_nat _ _ (by omega) (by decide), or_bit _ _ (by omega)]
    omega
theorem flN_skip (h : Hr) (op code : Nat) (j : Nat) (i : Nat) (hj : (flP h)[j]? = some (false, i)) : flN op code ((flP h).take (j + 1)) = flN op code ((flP h).take j) := by
  rcases j with _ | _ | _ | _ | _ | _ | _ | _ | j
  all_goals simp [flP] at hj
  all_goals
    obtain ⟨hb, rfl⟩ := hj
    simp only [flP, List.take_succ_cons, List.take_zero, flN, flS_c, hb, Bool.toNat_false]
    omega
theorem flN_first (op code : Nat) (ho : op ≤ 15) (hc : code ≤ 15) : bits .or .i64 ((op : Int) * 2048) (code : Int) = (flN op code [] : Int) := by
  have := or_join 11 op code (by omega) (by omega)
  rw [show ((2 ^ 11 * op : Nat) : Int) = (op : Int) * 2048 by omega] at this
  rw [this, flN]
  omega

/-- A question. -/
def qqW (q : Qr) (s : Wst) : Wst := ((nmX q.nm s).1 ++ (put2 q.ty.toNat ++ put2 q.cl.toNat), (nmX q.nm s).2)
def qqWs (l : List Qr) (s : Wst) : Wst := l.foldl (fun s q => qqW q s) s
theorem qqWs_cons (q : Qr) (l : List Qr) (s : Wst) : qqWs (q :: l) s = qqWs l (qqW q s) := rfl
theorem qu_parts {q : Qr} (h : quOK q = true) : (Nm.split q.nm).isSome = true ∧ (∃ t : Nat, q.ty = (t : Int) ∧ t < 65536) ∧ (∃ c : Nat, q.cl = (c : Int) ∧ c < 65536) := by
  simp only [quOK, Bool.and_eq_true] at h
  obtain ⟨⟨h1, h2⟩, h3⟩ := h
  obtain ⟨t, ht, htl⟩ := inB_nat h2
  obtain ⟨c, hc, hcl⟩ := inB_nat h3
  exact ⟨h1, ⟨t, ht, by omega⟩, ⟨c, hc, by omega⟩⟩
theorem qqW_len {q : Qr} (h : quOK q = true) (s : Wst) : s.1.length ≤ (qqW q s).1.length ∧ (qqW q s).1.length ≤ s.1.length + 65800 := by
  obtain ⟨h1, _⟩ := qu_parts h
  have a := nmX_len h1 s
  have b := name_short h1
  simp [qqW, put2]
  omega
theorem qqW_ok (q : Qr) (s : Wst) (h : PlOK s.2 s.1.length) : PlOK (qqW q s).2 (qqW q s).1.length := (nmX_ok q.nm s h).mono (by simp [qqW])
def hdW (m : Mg) : List UInt8 := headL m.hd.id.toNat (flagsS m.hd.qr m.hd.op.toNat m.hd.aa m.hd.tc m.hd.rd m.hd.ra m.hd.z m.hd.ad m.hd.cd m.hd.code.toNat) [m.qs.length, m.an.length, m.au.length, m.ex.length]
/-- A message. -/
def msgW (m : Mg) : Wst := rrWs m.ex (rrWs m.au (rrWs m.an (qqWs m.qs (hdW m, []))))
theorem hd_parts {h : Hr} (k : hdOK h = true) : (∃ i : Nat, h.id = (i : Int) ∧ i < 65536) ∧ (∃ o : Nat, h.op = (o : Int) ∧ o ≤ 15) ∧ (∃ c : Nat, h.code = (c : Int) ∧ c ≤ 15) := by
  simp only [hdOK, Bool.and_eq_true] at k
  obtain ⟨⟨h1, h2⟩, h3⟩ := k
  obtain ⟨a, ha, hal⟩ := inB_nat h1
  obtain ⟨b, hb, hbl⟩ := inB_nat h2
  obtain ⟨c, hc, hcl⟩ := inB_nat h3
  exact ⟨⟨a, ha, by omega⟩, ⟨b, hb, by omega⟩, ⟨c, hc, by omega⟩⟩
end Go.Proofs.Ythhagapmcbkeiaa
/- Questions and records that were written are read again: mathematics. -/
namespace Go.Proofs.Ythhagapmcbkeiaa
open Go.RowKit
set_option linter.unusedVariables false

/-- A name from a state on: it is read, and the places are as they should be. -/
theorem nmX_dec {L : List UInt8} {x : ByteArray} {s : Wst} (hx : (Nm.split x).isSome = true) (hok : PlOK s.2 s.1.length) (hpl : PlD L s.2) (hlt : ∀ p ∈ s.2, p.2 < s.1.length) (hag : Has L s.1.length ((nmX x s).1.drop s.1.length)) :
    dnF L s.1.length s.1.length [] none = .ok x.data.toList (nmX x s).1.length ∧ PlD L (nmX x s).2 ∧ ∀ p ∈ (nmX x s).2, p.2 < (nmX x s).1.length := by
  obtain ⟨ls, hs⟩ := Option.isSome_iff_exists.1 hx
  rw [nmX_of hs] at hag ⊢
  have hxs := (Nm.split_join hs).2
  have hsz := Nm.split_size hs
  have hxe := nmB_split hs
  have hmid : Mid L s.1.length (nmB ls).size s.2 := fun p hp => .inl ⟨hlt p hp, hpl p hp⟩
  refine ⟨?_, ?_⟩
  · have := nmW_dec L s.1.length ls s.1 s.2 hxs (Nat.le_refl _) hok hmid hag s.1.length (Nat.le_refl _) [] none (by rw [hxe]; simp; omega)
    rw [this, hxe]
    rfl
  · -- the places that the name adds
    suffices H : ∀ (ls : List ByteArray) (bs : List UInt8) (pls : List (ByteArray × Nat)), (∀ x ∈ ls, 1 ≤ x.size ∧ x.size ≤ 63) → s.1.length ≤ bs.length → PlOK pls bs.length → Mid L s.1.length (nmB ls).size pls → Has L s.1.length ((nmW ls bs pls).1.drop s.1.length) → PlD L pls → (∀ p ∈ pls, p.2 < bs.length) → PlD L (nmW ls bs pls).2 ∧ ∀ p ∈ (nmW ls bs pls).2, p.2 < (nmW ls bs pls).1.length from
      H ls s.1 s.2 hxs (Nat.le_refl _) hok hmid hag hpl hlt
    intro ls
    induction ls with
    | nil =>
      intro bs pls h1 h2 h3 h4 h5 h6 h7
      refine ⟨h6, fun p hp => ?_⟩
      have := h7 p hp
      simp [nmW]
      omega
    | cons l ls ih =>
      intro bs pls h1 h2 h3 h4 h5 h6 h7
      have hD := nmW_dec L s.1.length (l :: ls) bs pls h1 h2 h3 h4 h5 bs.length h2
      rw [nmW] at h5 hD ⊢
      by_cases hsn : 0 ≤ seenS pls (nmB (l :: ls))
      · rw [if_pos hsn] at h5 ⊢
        refine ⟨h6, fun p hp => ?_⟩
        have := h7 p hp
        simp
        omega
      · rw [if_neg hsn] at h5 hD ⊢
        have hsz := nmB_size (l :: ls)
        have hsz2 := nmB_size ls
        have hws : Nm.wsum (l :: ls) = 1 + l.size + Nm.wsum ls := by simp [Nm.wsum]
        have hlen : bs.length < (bs ++ (UInt8.ofNat l.size :: l.data.toList)).length := by simp
        generalize hpl' : (if bs.length ≤ 16383 then pls ++ [(nmB (l :: ls), bs.length)] else pls) = pls' at h5 hD ⊢
        have hmem : ∀ p ∈ pls', p ∈ pls ∨ p = (nmB (l :: ls), bs.length) := by
          intro p hp
          rw [← hpl'] at hp
          split at hp
          · rcases List.mem_append.1 hp with hp | hp
            · exact .inl hp
            · right; simpa using hp
          · exact .inl hp
        refine ih _ pls' (fun x hx => h1 x (List.mem_cons_of_mem _ hx)) (by omega) ?_ ?_ h5 ?_ ?_
        · rw [← hpl']
          split
          · rename_i hs'
            exact (h3.put (p := (nmB (l :: ls), bs.length)) hs').mono (by simp)
          · exact h3.mono (by simp)
        · intro p hp
          rcases hmem p hp with hp | rfl
          · rcases h4 p hp with h | h
            · exact .inl h
            · right; omega
          · right
            show (nmB ls).size < (nmB (l :: ls)).size
            omega
        · intro p hp
          rcases hmem p hp with hp | rfl
          · exact h6 p hp
          · exact ⟨_, hD⟩
        · intro p hp
          rcases hmem p hp with hp | rfl
          · have := h7 p hp; omega
          · exact hlen

theorem n16_has {L : List UInt8} {p n : Nat} (h : Has L p (put2 n)) (hn : n < 65536) : n16 L p = n := by
  have hl : (put2 n).length = 2 := rfl
  have hc := h.cut
  rw [hl] at hc
  rw [n16, hc]
  simp [put2, numL]
  omega
theorem n32_has {L : List UInt8} {p : Nat} {n : Int} (h : Has L p (put4 n)) (h0 : 0 ≤ n) (h1 : n ≤ 4294967295) : (n32 L p : Int) = n := by
  have hl : (put4 n).length = 4 := rfl
  have hc := h.cut
  rw [hl] at hc
  rw [n32, cutL, hc]
  have a := byteI_val (n / 16777216)
  have b := byteI_val (n / 65536)
  have c := byteI_val (n / 256)
  have d := byteI_val n
  simp only [put4, numL, List.foldl_cons, List.foldl_nil]
  omega

def qmOf (q : Qr) : Qm := ⟨q.nm.data.toList, q.ty.toNat, q.cl.toNat⟩
def rmOf (r : Rr) : Rm := ⟨r.own.data.toList, r.ty.toNat, r.cl.toNat, r.tt.toNat, r.da.data.toList⟩
/-- What a state says: its places are as they should be. -/
structure StD (L : List UInt8) (s : Wst) : Prop where
  ok : PlOK s.2 s.1.length
  pl : PlD L s.2
  lt : ∀ p ∈ s.2, p.2 < s.1.length

theorem quS_dec {L : List UInt8} {q : Qr} {s : Wst} (h : quOK q = true) (hs : StD L s) (hpre : (qqW q s).1 <+: L) : quS L s.1.length = .ok (qmOf q) (qqW q s).1.length ∧ StD L (qqW q s) := by
  obtain ⟨h1, ⟨t, ht, htl⟩, ⟨c, hc, hcl⟩⟩ := qu_parts h
  obtain ⟨ls, hls⟩ := Option.isSome_iff_exists.1 h1
  obtain ⟨xs, hxs⟩ := nmW_adds ls s.1 s.2
  rw [← nmX_of hls s] at hxs
  have hag : Has L s.1.length ((nmX q.nm s).1.drop s.1.length) := by
    rw [hxs, List.drop_left' rfl]
    exact Has.of_pre hpre (ys := s.1) (zs := put2 q.ty.toNat ++ put2 q.cl.toNat) (by rw [qqW, hxs]) rfl
  obtain ⟨d1, d2, d3⟩ := nmX_dec h1 hs.ok hs.pl hs.lt hag
  have g1 : Has L (nmX q.nm s).1.length (put2 t) := Has.of_pre hpre (ys := (nmX q.nm s).1) (zs := put2 c) (by rw [qqW, ht, hc]; simp) rfl
  have g2 : Has L ((nmX q.nm s).1.length + 2) (put2 c) := Has.of_pre hpre (ys := (nmX q.nm s).1 ++ put2 t) (zs := []) (by rw [qqW, ht, hc]; simp) (by simp [put2])
  have hle := g2.lt (by simp [put2])
  have hl2 : (put2 c).length = 2 := rfl
  have hqz : (qqW q s).1.length = (nmX q.nm s).1.length + 4 := by simp [qqW, put2]
  refine ⟨?_, ?_⟩
  · rw [quS, d1]
    simp only
    rw [if_pos (by omega), n16_has g1 htl, n16_has g2 hcl, hqz, qmOf, ht, hc]
    rfl
  · refine ⟨qqW_ok q s hs.ok, d2, fun p hp => ?_⟩
    have := d3 p hp
    rw [hqz]
    omega
end Go.Proofs.Ythhagapmcbkeiaa
