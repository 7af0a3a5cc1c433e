import Derived.Test.YtehggabhjpiclaaJFreeB
import Derived.Test.YtehggabhjpiclaaJCutM
import Derived.Test.YtehggabhjpiclaaJPut
import Derived.Test.YtehggabhjpiclaaJBitM
import Derived.Test.YtehggabhjpiclaaWtG
/- How a record is written: mathematics. -/
namespace Go.Proofs.Ytehggabhjpiclaa
open Go.RowKit
set_option linter.unusedVariables false

def nmX (x : ByteArray) (s : Wst) : Wst := nmW ((Nm.split x).getD []) s.1 s.2
theorem nmX_of {x : ByteArray} {ls : List ByteArray} (h : Nm.split x = some ls) (s : Wst) : nmX x s = nmW ls s.1 s.2 := by rw [nmX, h]; rfl
theorem nmX_len {x : ByteArray} (h : (Nm.split x).isSome = true) (s : Wst) : s.1.length + 1 ≤ (nmX x s).1.length ∧ (nmX x s).1.length ≤ s.1.length + x.size := by
  obtain ⟨ls, hs⟩ := Option.isSome_iff_exists.1 h
  rw [nmX_of hs]
  have h1 := nmW_len ls s.1 s.2 (fun x hx => ((Nm.split_join hs).2 x hx).1)
  have h2 : x.size = Nm.wsum ls + 1 := by rw [← nmB_split hs, nmB_size]
  omega
theorem nmX_ok (x : ByteArray) (s : Wst) (h : PlOK s.2 s.1.length) : PlOK (nmX x s).2 (nmX x s).1.length := nmW_ok _ _ _ h

/-- Data by its parts. -/
def daP : List Dt.Pc → List ByteArray → Wst → Wst
  | p :: fs, x :: xs, s => daP fs xs (if p.isN then nmX x s else (s.1 ++ x.data.toList, s.2))
  | _, _, s => s
theorem daP_nil (fs : List Dt.Pc) (s : Wst) : daP fs [] s = s := by cases fs <;> rfl
def NmOK (fs : List Dt.Pc) (ps : List ByteArray) : Prop := ∀ (i : Nat) (p : Dt.Pc) (x : ByteArray), fs[i]? = some p → ps[i]? = some x → p.isN = true → (Nm.split x).isSome = true
theorem NmOK.tail {p : Dt.Pc} {x : ByteArray} {fs : List Dt.Pc} {ps : List ByteArray} (h : NmOK (p :: fs) (x :: ps)) : NmOK fs ps := fun i q y hq hy hn => h (i + 1) q y (by simpa using hq) (by simpa using hy) hn
theorem daP_len : ∀ (fs : List Dt.Pc) (ps : List ByteArray) (s : Wst), NmOK fs ps → s.1.length ≤ (daP fs ps s).1.length ∧ (daP fs ps s).1.length ≤ s.1.length + (Dt.catL ps).length := by
  intro fs
  induction fs with
  | nil => intro ps s h; simp [daP]
  | cons p fs ih =>
    intro ps s h
    cases ps with
    | nil => simp [daP]
    | cons x xs =>
      have e : (Dt.catL (x :: xs)).length = x.size + (Dt.catL xs).length := by simp [Dt.catL]
      rw [daP, e]
      have := ih xs (if p.isN then nmX x s else (s.1 ++ x.data.toList, s.2)) h.tail
      cases hN : p.isN with
      | true =>
        rw [hN] at this
        simp only [if_true] at this ⊢
        have h2 := nmX_len (h 0 p x rfl rfl hN) s
        omega
      | false =>
        rw [hN] at this
        simp at this ⊢
        omega
theorem daP_ok : ∀ (fs : List Dt.Pc) (ps : List ByteArray) (s : Wst), PlOK s.2 s.1.length → PlOK (daP fs ps s).2 (daP fs ps s).1.length := by
  intro fs
  induction fs with
  | nil => intro ps s h; exact h
  | cons p fs ih =>
    intro ps s h
    cases ps with
    | nil => exact h
    | cons x xs =>
      rw [daP]
      apply ih
      split
      · exact nmX_ok x s h
      · exact h.mono (by simp)
/-- Data by the places of its names. -/
def daS : List (Nat × Nat) → Nat → ByteArray → Wst → Wst
  | [], a, d, s => (s.1 ++ (d.extract a d.size).data.toList, s.2)
  | (f, t) :: r, a, d, s => daS r t d (nmX (d.extract f t) (s.1 ++ (d.extract a f).data.toList, s.2))

theorem ex_list (d : ByteArray) (a b : Nat) : (d.extract a b).data.toList = (d.data.toList.drop a).take (b - a) := by
  simp [ByteArray.data_extract, Array.toList_extract, List.extract_eq_take_drop]
theorem daS_parts : ∀ (fs : List Dt.Pc) (ps : List ByteArray) (a a0 : Nat) (d : ByteArray) (s : Wst), fs.length = ps.length → a0 ≤ a → a ≤ d.size → Dt.catL ps = d.data.toList.drop a →
    daS (Dt.spansOf fs ps a) a0 d s = daP fs ps (s.1 ++ (d.extract a0 a).data.toList, s.2) := by
  intro fs
  induction fs with
  | nil =>
    intro ps a a0 d s hl h0 h1 hc
    obtain rfl : ps = [] := List.length_eq_zero_iff.1 (by simpa using hl.symm)
    have hd : d.data.toList.drop a = [] := by rw [← hc]; rfl
    have hz : d.size ≤ a := by simpa [List.drop_eq_nil_iff] using hd
    obtain rfl : a = d.size := by omega
    rfl
  | cons p fs ih =>
    intro ps a a0 d s hl h0 h1 hc
    cases ps with
    | nil => simp at hl
    | cons x xs =>
      have e : Dt.catL (x :: xs) = x.data.toList ++ Dt.catL xs := by simp [Dt.catL]
      rw [e] at hc
      have hxl : x.data.toList.length = x.size := by simp
      have hsz : x.size + (Dt.catL xs).length = d.size - a := by
        have := congrArg List.length hc
        simp at this
        simpa using this
      have hc2 : Dt.catL xs = d.data.toList.drop (a + x.size) := by
        rw [← List.drop_drop, ← hc, List.drop_left' hxl]
      have hx : d.extract a (a + x.size) = x := by
        apply Nm.ba_ext
        rw [ex_list, ← hc, show a + x.size - a = x.size by omega, List.take_left' hxl]
      have hl2 : fs.length = xs.length := by simpa using hl
      rw [Dt.spansOf, daP]
      cases hN : p.isN with
      | true =>
        simp only [if_true]
        rw [daS, hx, ih xs (a + x.size) (a + x.size) d _ hl2 (Nat.le_refl _) (by omega) hc2]
        have he : (d.extract (a + x.size) (a + x.size)).data.toList = [] := by rw [ex_list]; simp
        rw [he, List.append_nil]
      | false =>
        simp only [Bool.false_eq_true, if_false]
        rw [ih xs (a + x.size) a0 d s hl2 (by omega) (by omega) hc2]
        congr 1
        have he : (d.extract a0 (a + x.size)).data.toList = (d.extract a0 a).data.toList ++ x.data.toList := by
          have hx2 : x.data.toList = (d.data.toList.drop a).take x.size := by rw [← hc, List.take_left' hxl]
          rw [hx2, ex_list, ex_list, show a + x.size - a0 = (a - a0) + x.size by omega, List.take_add, List.drop_drop, show a0 + (a - a0) = a by omega]
        rw [he, List.append_assoc]

/-- A record's data. -/
def daW (t : Nat) (d : ByteArray) (s : Wst) : Wst :=
  if d.size = 0 ∨ ¬ pointed t then (s.1 ++ d.data.toList, s.2) else daP (Dt.specP t) ((Dt.parts (Dt.specP t) d).getD []) s
def rrA (o : ByteArray) (ty cl : Nat) (tt : Int) (s : Wst) : Wst := ((nmX o s).1 ++ (put2 ty ++ put2 cl ++ put4 tt ++ [0, 0]), (nmX o s).2)
def rrFin (F : Nat) (s : Wst) : Wst := ((s.1.set (F - 2) (UInt8.ofNat ((s.1.length - F) / 256))).set (F - 1) (UInt8.ofNat ((s.1.length - F) % 256)), s.2)
/-- A record. -/
def rrW (r : Rr) (s : Wst) : Wst := rrFin (rrA r.own r.ty.toNat r.cl.toNat r.tt s).1.length (daW r.ty.toNat r.da (rrA r.own r.ty.toNat r.cl.toNat r.tt s))

theorem inB_nat {n m : Int} (h : inB n m = true) : ∃ k : Nat, n = (k : Int) ∧ (k : Int) ≤ m := by
  simp [inB] at h
  exact ⟨n.toNat, by omega, by omega⟩
/-- What a good record says. -/
theorem rc_parts {r : Rr} (h : rcOK r = true) : (Nm.split r.own).isSome = true ∧ (∃ t : Nat, r.ty = (t : Int) ∧ t < 65536) ∧ (∃ c : Nat, r.cl = (c : Int) ∧ c < 65536) ∧ 0 ≤ r.tt ∧ r.tt ≤ 4294967295 ∧ (r.da.size = 0 ∨ cutCode r.ty r.da = 0) ∧ r.da.size ≤ 65535 := by
  simp only [rcOK, Bool.and_eq_true, Bool.or_eq_true, decide_eq_true_eq, beq_iff_eq] at h
  obtain ⟨⟨⟨⟨h1, h2⟩, h3⟩, h4⟩, h5⟩ := h
  obtain ⟨t, ht, htl⟩ := inB_nat h2
  obtain ⟨c, hc, hcl⟩ := inB_nat h3
  simp [inB] at h4
  refine ⟨h1, ⟨t, ht, by omega⟩, ⟨c, hc, by omega⟩, h4.1, h4.2, h5, ?_⟩
  rcases h5 with h5 | h5
  · omega
  · obtain ⟨ps, _, _, hz⟩ := good_parts h5
    exact hz
theorem daW_len {t : Nat} {d : ByteArray} (h : d.size = 0 ∨ cutCode t d = 0) (s : Wst) : s.1.length ≤ (daW t d s).1.length ∧ (daW t d s).1.length ≤ s.1.length + d.size := by
  rw [daW]
  split
  · simp
  · rename_i hn
    have hc : cutCode t d = 0 := by rcases h with h | h; exact absurd (.inl h) hn; exact h
    obtain ⟨ps, h1, h2, h3⟩ := good_parts hc
    obtain ⟨p1, p2, p3⟩ := Dt.parts_cat _ _ _ h1
    have := daP_len (Dt.specP t) ps s p3
    rw [h1]
    rw [p2] at this
    simpa using this
theorem daW_ok (t : Nat) (d : ByteArray) (s : Wst) (h : PlOK s.2 s.1.length) : PlOK (daW t d s).2 (daW t d s).1.length := by
  rw [daW]
  split
  · exact h.mono (by simp)
  · exact daP_ok _ _ _ h
theorem rrA_len {o : ByteArray} (h : (Nm.split o).isSome = true) (ty cl : Nat) (tt : Int) (s : Wst) : s.1.length + 11 ≤ (rrA o ty cl tt s).1.length ∧ (rrA o ty cl tt s).1.length ≤ s.1.length + o.size + 10 := by
  have := nmX_len h s
  simp [rrA, put2, put4]
  omega
theorem rrA_ok (o : ByteArray) (ty cl : Nat) (tt : Int) (s : Wst) (h : PlOK s.2 s.1.length) : PlOK (rrA o ty cl tt s).2 (rrA o ty cl tt s).1.length := (nmX_ok o s h).mono (by simp [rrA])
theorem rrFin_len (F : Nat) (s : Wst) : (rrFin F s).1.length = s.1.length := by simp [rrFin]
theorem name_short {o : ByteArray} (h : (Nm.split o).isSome = true) : o.size ≤ 255 := by
  obtain ⟨ls, hs⟩ := Option.isSome_iff_exists.1 h
  exact (Nm.split_size hs).2
theorem rrW_len {r : Rr} (h : rcOK r = true) (s : Wst) : s.1.length ≤ (rrW r s).1.length ∧ (rrW r s).1.length ≤ s.1.length + 65800 := by
  obtain ⟨h1, ⟨t, ht, htl⟩, ⟨c, hc, hcl⟩, h4, h5, h6, h7⟩ := rc_parts h
  have hs := name_short h1
  have a := rrA_len h1 t c r.tt s
  rw [rrW, rrFin_len, ht, hc]
  rw [ht] at h6
  have b := daW_len h6 (rrA r.own t c r.tt s)
  simp only [Int.toNat_natCast]
  omega
theorem rrW_ok (r : Rr) (s : Wst) (h : PlOK s.2 s.1.length) : PlOK (rrW r s).2 (rrW r s).1.length := by
  rw [rrW, rrFin_len]
  exact daW_ok _ _ _ (rrA_ok _ _ _ _ _ h)
/-- Records one behind the other. -/
def rrWs (l : List Rr) (s : Wst) : Wst := l.foldl (fun s r => rrW r s) s
theorem rrWs_cons (r : Rr) (l : List Rr) (s : Wst) : rrWs (r :: l) s = rrWs l (rrW r s) := rfl
theorem rrWs_len : ∀ (l : List Rr) (s : Wst), l.all rcOK = true → s.1.length ≤ (rrWs l s).1.length ∧ (rrWs l s).1.length ≤ s.1.length + 65800 * l.length := by
  intro l
  induction l with
  | nil => intro s h; simp [rrWs]
  | cons r l ih =>
    intro s h
    simp only [List.all_cons, Bool.and_eq_true] at h
    rw [rrWs_cons]
    have a := ih (rrW r s) h.2
    have b := rrW_len h.1 s
    simp only [List.length_cons]
    omega
theorem rrWs_ok : ∀ (l : List Rr) (s : Wst), PlOK s.2 s.1.length → PlOK (rrWs l s).2 (rrWs l s).1.length := by
  intro l
  induction l with
  | nil => intro s h; exact h
  | cons r l ih => intro s h; exact ih _ (rrW_ok r s h)
/-- A record that the model's writer takes. -/
def rcW (r : Rr) : Prop := (Nm.split r.own).isSome = true ∧ (∃ t : Nat, r.ty = (t : Int) ∧ t < 65536) ∧ (∃ c : Nat, r.cl = (c : Int) ∧ c < 65536) ∧ 0 ≤ r.tt ∧ r.tt ≤ 4294967295 ∧ (r.da.size = 0 ∨ ¬ pointed r.ty.toNat ∨ cutCode r.ty r.da = 0) ∧ r.da.size ≤ 65535
theorem rc_w {r : Rr} (h : rcOK r = true) : rcW r := by
  obtain ⟨h1, h2, h3, h4, h5, h6, h7⟩ := rc_parts h
  exact ⟨h1, h2, h3, h4, h5, h6.elim .inl (fun e => .inr (.inr e)), h7⟩
theorem daW_lenW {t : Nat} {d : ByteArray} (h : d.size = 0 ∨ ¬ pointed t ∨ cutCode t d = 0) (s : Wst) : s.1.length ≤ (daW t d s).1.length ∧ (daW t d s).1.length ≤ s.1.length + d.size := by
  rcases h with h | h | h
  · exact daW_len (.inl h) s
  · rw [daW, if_pos (.inr h)]
    simp
  · exact daW_len (.inr h) s
theorem rrW_lenW {r : Rr} (h : rcW r) (s : Wst) : s.1.length ≤ (rrW r s).1.length ∧ (rrW r s).1.length ≤ s.1.length + 65800 := by
  obtain ⟨h1, ⟨t, ht, htl⟩, ⟨c, hc, hcl⟩, h4, h5, h6, h7⟩ := h
  have hs := name_short h1
  have a := rrA_len h1 t c r.tt s
  rw [rrW, rrFin_len, ht, hc]
  rw [ht] at h6
  simp only [Int.toNat_natCast] at h6 ⊢
  have b := daW_lenW h6 (rrA r.own t c r.tt s)
  omega
end Go.Proofs.Ytehggabhjpiclaa
/- A head's flags, joined bit by bit; a message as it is written: mathematics. -/
namespace Go.Proofs.Ytehggabhjpiclaa
open Go.RowKit
set_option linter.unusedVariables false

theorem or_bit (f i : Nat) (h : f / 2 ^ i % 2 = 0) : f ||| 2 ^ i = f + 2 ^ i := by
  have hp : 0 < 2 ^ i := Nat.two_pow_pos i
  obtain ⟨hi, lo, hlo, rfl⟩ : ∃ hi lo, lo < 2 ^ i ∧ f = 2 ^ (i + 1) * hi + lo := by
    refine ⟨f / 2 ^ i / 2, f % 2 ^ i, Nat.mod_lt _ hp, ?_⟩
    have h1 := Nat.div_add_mod f (2 ^ i)
    have h2 := Nat.div_add_mod (f / 2 ^ i) 2
    rw [h] at h2
    rw [Nat.pow_succ, Nat.mul_assoc, show 2 * (f / 2 ^ i / 2) = f / 2 ^ i by omega]
    exact h1.symm
  have e1 : 2 ^ (i + 1) * hi + lo = 2 ^ (i + 1) * hi ||| lo := Nat.two_pow_add_eq_or_of_lt (by rw [Nat.pow_succ]; omega) hi
  have e2 : 2 ^ (i + 1) * hi + 2 ^ i = 2 ^ (i + 1) * hi ||| 2 ^ i := Nat.two_pow_add_eq_or_of_lt (by rw [Nat.pow_succ]; omega) hi
  have e3 : 2 ^ i * (2 * hi + 1) + lo = 2 ^ i * (2 * hi + 1) ||| lo := Nat.two_pow_add_eq_or_of_lt hlo _
  have e4 : 2 ^ (i + 1) * hi + 2 ^ i = 2 ^ i * (2 * hi + 1) := by rw [Nat.pow_succ, Nat.mul_add, Nat.mul_one, Nat.mul_assoc]
  rw [e1, Nat.or_assoc, Nat.or_comm lo, ← Nat.or_assoc, ← e2, e4, ← e3, ← e4, ← e1]
  omega

def flP (h : Hr) : List (Bool × Nat) := [(h.qr, 15), (h.aa, 10), (h.tc, 9), (h.rd, 8), (h.ra, 7), (h.z, 6), (h.ad, 5), (h.cd, 4)]
def flN (op code : Nat) : List (Bool × Nat) → Nat
  | [] => op * 2048 + code
  | p :: r => flS p.1 p.2 + flN op code r
theorem flS_c (b : Bool) (i : Nat) : flS b i = 2 ^ i * b.toNat := by cases b <;> simp [flS]
theorem flN_all (h : Hr) (op code : Nat) : flN op code (flP h) = flagsS h.qr op h.aa h.tc h.rd h.ra h.z h.ad h.cd code := by
  simp only [flP, flN, flagsS]
  omega
theorem tn_le (b : Bool) : b.toNat ≤ 1 := by cases b <;> simp
/-- One flag more. -/
theorem flN_step (h : Hr) (op code : Nat) (ho : op ≤ 15) (hc : code ≤ 15) (j : Nat) (i : Nat) (hj : (flP h)[j]? = some (true, i)) :
    bits .or .i64 (flN op code ((flP h).take j) : Int) ((2 ^ i : Nat) : Int) = (flN op code ((flP h).take (j + 1)) : Int) := by
  have t1 := tn_le h.qr
  have t2 := tn_le h.aa
  have t3 := tn_le h.tc
  have t4 := tn_le h.rd
  have t5 := tn_le h.ra
  have t6 := tn_le h.z
  have t7 := tn_le h.ad
  have t8 := tn_le h.cd
  rcases j with _ | _ | _ | _ | _ | _ | _ | _ | j
  all_goals simp [flP] at hj
  all_goals
    obtain ⟨hb, rfl⟩ := hj
    simp only [flP, List.take_succ_cons, List.take_zero, flN, flS_c, hb, Bool.toNat_true]
    rw [i64_or_nat _ _ (by omega) (by decide), or_bit _ _ (by omega)]
    omega
theorem flN_skip (h : Hr) (op code : Nat) (j : Nat) (i : Nat) (hj : (flP h)[j]? = some (false, i)) : flN op code ((flP h).take (j + 1)) = flN op code ((flP h).take j) := by
  rcases j with _ | _ | _ | _ | _ | _ | _ | _ | j
  all_goals simp [flP] at hj
  all_goals
    obtain ⟨hb, rfl⟩ := hj
    simp only [flP, List.take_succ_cons, List.take_zero, flN, flS_c, hb, Bool.toNat_false]
    omega
theorem flN_first (op code : Nat) (ho : op ≤ 15) (hc : code ≤ 15) : bits .or .i64 ((op : Int) * 2048) (code : Int) = (flN op code [] : Int) := by
  have := or_join 11 op code (by omega) (by omega)
  rw [show ((2 ^ 11 * op : Nat) : Int) = (op : Int) * 2048 by omega] at this
  rw [this, flN]
  omega

/-- A question. -/
def qqW (q : Qr) (s : Wst) : Wst := ((nmX q.nm s).1 ++ (put2 q.ty.toNat ++ put2 q.cl.toNat), (nmX q.nm s).2)
def qqWs (l : List Qr) (s : Wst) : Wst := l.foldl (fun s q => qqW q s) s
theorem qqWs_cons (q : Qr) (l : List Qr) (s : Wst) : qqWs (q :: l) s = qqWs l (qqW q s) := rfl
theorem qu_parts {q : Qr} (h : quOK q = true) : (Nm.split q.nm).isSome = true ∧ (∃ t : Nat, q.ty = (t : Int) ∧ t < 65536) ∧ (∃ c : Nat, q.cl = (c : Int) ∧ c < 65536) := by
  simp only [quOK, Bool.and_eq_true] at h
  obtain ⟨⟨h1, h2⟩, h3⟩ := h
  obtain ⟨t, ht, htl⟩ := inB_nat h2
  obtain ⟨c, hc, hcl⟩ := inB_nat h3
  exact ⟨h1, ⟨t, ht, by omega⟩, ⟨c, hc, by omega⟩⟩
theorem qqW_len {q : Qr} (h : quOK q = true) (s : Wst) : s.1.length ≤ (qqW q s).1.length ∧ (qqW q s).1.length ≤ s.1.length + 65800 := by
  obtain ⟨h1, _⟩ := qu_parts h
  have a := nmX_len h1 s
  have b := name_short h1
  simp [qqW, put2]
  omega
theorem qqW_ok (q : Qr) (s : Wst) (h : PlOK s.2 s.1.length) : PlOK (qqW q s).2 (qqW q s).1.length := (nmX_ok q.nm s h).mono (by simp [qqW])
def hdW (m : Mg) : List UInt8 := headL m.hd.id.toNat (flagsS m.hd.qr m.hd.op.toNat m.hd.aa m.hd.tc m.hd.rd m.hd.ra m.hd.z m.hd.ad m.hd.cd m.hd.code.toNat) [m.qs.length, m.an.length, m.au.length, m.ex.length]
/-- A message. -/
def msgW (m : Mg) : Wst := rrWs m.ex (rrWs m.au (rrWs m.an (qqWs m.qs (hdW m, []))))
theorem hd_parts {h : Hr} (k : hdOK h = true) : (∃ i : Nat, h.id = (i : Int) ∧ i < 65536) ∧ (∃ o : Nat, h.op = (o : Int) ∧ o ≤ 15) ∧ (∃ c : Nat, h.code = (c : Int) ∧ c ≤ 15) := by
  simp only [hdOK, Bool.and_eq_true] at k
  obtain ⟨⟨h1, h2⟩, h3⟩ := k
  obtain ⟨a, ha, hal⟩ := inB_nat h1
  obtain ⟨b, hb, hbl⟩ := inB_nat h2
  obtain ⟨c, hc, hcl⟩ := inB_nat h3
  exact ⟨⟨a, ha, by omega⟩, ⟨b, hb, by omega⟩, ⟨c, hc, by omega⟩⟩
end Go.Proofs.Ytehggabhjpiclaa
