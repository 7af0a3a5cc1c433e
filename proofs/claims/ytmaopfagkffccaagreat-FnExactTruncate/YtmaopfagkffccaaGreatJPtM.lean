import Derived.Test.YtmaopfagkffccaaGreatJMath
import Derived.Test.YtmaopfagkffccaaGreatJBytesRow
import Derived.Lib.AppendStr
import Derived.Test.YtmaopfagkffccaaGreatJMvM
import Derived.Test.YtmaopfagkffccaaGreatJCrI
import Derived.Shelf.LaysM
import Derived.Shelf.Strconv.Clone
import Derived.Test.YtmaopfagkffccaaGreatProg
/- The types whose data may have pointers. -/
namespace Go.Proofs.YtmaopfagkffccaaGreat
/-- Data of the types whose names may have pointers. -/
abbrev pointed (t : Nat) : Prop := t = 2 ∨ t = 5 ∨ t = 6 ∨ t = 12 ∨ t = 15
end Go.Proofs.YtmaopfagkffccaaGreat
/- spec.l02Put by its contract. -/
namespace Go.Proofs.YtmaopfagkffccaaGreat
open Go.RowKit

def byteI (x : Int) : UInt8 := UInt8.ofNat (x % 256).toNat
theorem byteI_val (x : Int) : ((byteI x).toNat : Int) = x % 256 := by
  have h1 : 0 ≤ x % 256 := by omega
  have h2 : x % 256 < 256 := by omega
  have : (byteI x).toNat = (x % 256).toNat := by simp [byteI]; omega
  rw [this]; omega

def put4 (n : Int) : List UInt8 := [byteI (n / 16777216), byteI (n / 65536), byteI (n / 256), byteI n]

theorem put4_cells (n : Int) : Nm.bys (put4 n) = [.int .u8 (n / 16777216 % 256), .int .u8 (n / 65536 % 256), .int .u8 (n / 256 % 256), .int .u8 (n % 256)] := by
  simp [Nm.bys, put4, byteI_val]

theorem cell_new4 (w : World) (a b c d : Value) (e : Nat) : ∀ (j : Nat) (u : Value), [a, b, c, d][j]? = some u → (w.alloc (.cells #[a, b, c, d] e)).cell? ((⟨w.heap.size, 0, none⟩ : Addr).add j) = some u := by
  intro j u hj
  match j, hj with
  | 0, hj => simp at hj; subst hj; simp [Addr.add]
  | 1, hj => simp at hj; subst hj; simp [Addr.add]
  | 2, hj => simp at hj; subst hj; simp [Addr.add]
  | 3, hj => simp at hj; subst hj; simp [Addr.add]

theorem put_step {W wr w1 : World} {v v' : Value} {B e n : Nat} {l : List Value} {x : Value} (hB : B ≤ wr.heap.size)
    (hown : wr.ownsRow B e 1 v n l) (hbel : Below B W wr) (o : Obj) (hgrow : (wr.alloc o).grownBy w1 v.ownBlock)
    (hown' : w1.ownsRow B e 1 v' (n + 1) (l ++ [x])) :
    w1.ownsRow B e 1 v' (n + 1) (l ++ [x]) ∧ Below B W w1 := by
  refine ⟨hown', ?_⟩
  refine (hbel.alloc hB o).grown hgrow (by simp; omega) ?_
  intro k hk
  exact (hown.lt k hk).1

set_option maxRecDepth 100000 in
set_option maxHeartbeats 800000 in
theorem l02Put_any (n : Int) (w : World) (h0 : 0 ≤ n) (h1 : n ≤ 4294967295) :
    Calls Tryz.prog 77 #[.int .i64 n, .int .i64 4] w fun e w' => e = .returned (.string ⟨(put4 n).toArray⟩) ∧ Below w.heap.size w w' := by
  obtain ⟨i0, hi, hz0, hz1, hz2⟩ := info_parts Tryz.infoB
  have hcs := put4_cells n
  have e : n / 16777216 % 256 = n / 16777216 := by omega
  rw [e] at hcs
  clear e
  go_enter Tryz.func77, Tryz.ntmps77
  go_wp2
  go_loopw [5, 6] (fun v i wr => ∃ j : Nat, j ≤ 4 ∧ i = .int .i64 (3 - (j : Int)) ∧ wr.ownsRow w.heap.size 5 1 v j ([Value.int .u8 (n / 16777216), .int .u8 (n / 65536 % 256), .int .u8 (n / 256 % 256), .int .u8 (n % 256)].take j) ∧ Below w.heap.size w wr)
    (fun _ i _ => (intOf i + 1).toNat)
  case atStart => exact ⟨0, by omega, rfl, World.ownsRow_made w #[] 0 (Nat.le_refl _) (by decide) rfl, (Below.refl _ _).alloc (Nat.le_refl _) _⟩
  case round =>
    obtain ⟨j, hj, rfl, hown, hbel⟩ := hrel
    have hsz := hbel.size
    obtain rfl | rfl | rfl | rfl | rfl : j = 0 ∨ j = 1 ∨ j = 2 ∨ j = 3 ∨ j = 4 := by omega
    · simp only [List.take_zero, Int.sub_zero, Int.cast_ofNat_Int] at hown ⊢
      go_wp2_with (at_builtin; refine wpList_append_own _ rfl (.tmp 14) (.tmp 21) 66 rfl w.heap.size 5 i0 (.int .u8 0) 1 1 Tryz.underlying66 hi hz0 hz1 hz2 rfl (by decide) _ _ _ rfl (hown.alloc _) ⟨wr.heap.size, 0, none⟩ 1 1 [.int .u8 (n / 16777216)] rfl rfl (cell_new1 _ _ _) (Nm.one_cell _ rfl) (by unfold maxLen; omega) (by omega) (by simp; omega) ?_)
      intro v' w1 hown' hgrow _
      have R := put_step hsz hown hbel _ hgrow hown'
      clear hown' hgrow hown hbel
      go_wp2
      go_roundw
      case rel => exact ⟨1, by omega, by go_num, R.1, R.2⟩
      case measure => simp [intOf]
    · simp only [List.take_succ_cons, List.take_zero] at hown ⊢
      go_wp2_with (at_builtin; refine wpList_append_own _ rfl (.tmp 14) (.tmp 21) 66 rfl w.heap.size 5 i0 (.int .u8 0) 1 1 Tryz.underlying66 hi hz0 hz1 hz2 rfl (by decide) _ _ _ rfl (hown.alloc _) ⟨wr.heap.size, 0, none⟩ 1 1 [.int .u8 (n / 65536 % 256)] rfl rfl (cell_new1 _ _ _) (Nm.one_cell _ rfl) (by unfold maxLen; omega) (by omega) (by simp; omega) ?_)
      intro v' w1 hown' hgrow _
      have R := put_step hsz hown hbel _ hgrow hown'
      clear hown' hgrow hown hbel
      go_wp2
      go_roundw
      case rel => exact ⟨2, by omega, by go_num, R.1, R.2⟩
      case measure => simp [intOf]
    · simp only [List.take_succ_cons, List.take_zero] at hown ⊢
      go_wp2_with (at_builtin; refine wpList_append_own _ rfl (.tmp 14) (.tmp 21) 66 rfl w.heap.size 5 i0 (.int .u8 0) 1 1 Tryz.underlying66 hi hz0 hz1 hz2 rfl (by decide) _ _ _ rfl (hown.alloc _) ⟨wr.heap.size, 0, none⟩ 1 1 [.int .u8 (n / 256 % 256)] rfl rfl (cell_new1 _ _ _) (Nm.one_cell _ rfl) (by unfold maxLen; omega) (by omega) (by simp; omega) ?_)
      intro v' w1 hown' hgrow _
      have R := put_step hsz hown hbel _ hgrow hown'
      clear hown' hgrow hown hbel
      go_wp2
      go_roundw
      case rel => exact ⟨3, by omega, by go_num, R.1, R.2⟩
      case measure => simp [intOf]
    · simp only [List.take_succ_cons, List.take_zero] at hown ⊢
      go_wp2_with (at_builtin; refine wpList_append_own _ rfl (.tmp 14) (.tmp 21) 66 rfl w.heap.size 5 i0 (.int .u8 0) 1 1 Tryz.underlying66 hi hz0 hz1 hz2 rfl (by decide) _ _ _ rfl (hown.alloc _) ⟨wr.heap.size, 0, none⟩ 1 1 [.int .u8 (n % 256)] rfl rfl (cell_new1 _ _ _) (Nm.one_cell _ rfl) (by unfold maxLen; omega) (by omega) (by simp; omega) ?_)
      intro v' w1 hown' hgrow _
      have R := put_step hsz hown hbel _ hgrow hown'
      clear hown' hgrow hown hbel
      go_wp2
      go_roundw
      case rel => exact ⟨4, by omega, by go_num, R.1, R.2⟩
      case measure => simp [intOf]
    · simp only [List.take_succ_cons, List.take_zero] at hown ⊢
      rw [← hcs] at hown
      have HC := Nm.conv_own (P := Tryz.prog) (src := 66) (dst := 9) Tryz.underlying66 Tryz.underlying5 Tryz.underlying9 hown (by omega)
      obtain ⟨g, cap, rfl, hcv⟩ := HC
      clear hown
      go_wp2
      go_ret
      exact ⟨rfl, hbel⟩
end Go.Proofs.YtmaopfagkffccaaGreat
/- How a record is written: mathematics. -/
namespace Go.Proofs.YtmaopfagkffccaaGreat
open Go.RowKit
set_option linter.unusedVariables false

def nmX (x : ByteArray) (s : Wst) : Wst := nmW ((Nm.split x).getD []) s.1 s.2
theorem nmX_of {x : ByteArray} {ls : List ByteArray} (h : Nm.split x = some ls) (s : Wst) : nmX x s = nmW ls s.1 s.2 := by rw [nmX, h]; rfl
theorem nmX_len {x : ByteArray} (h : (Nm.split x).isSome = true) (s : Wst) : s.1.length + 1 ≤ (nmX x s).1.length ∧ (nmX x s).1.length ≤ s.1.length + x.size := by
  obtain ⟨ls, hs⟩ := Option.isSome_iff_exists.1 h
  rw [nmX_of hs]
  have h1 := nmW_len ls s.1 s.2 (fun x hx => ((Nm.split_join hs).2 x hx).1)
  have h2 : x.size = Nm.wsum ls + 1 := by rw [← nmB_split hs, nmB_size]
  omega
theorem nmX_ok (x : ByteArray) (s : Wst) (h : PlOK s.2 s.1.length) : PlOK (nmX x s).2 (nmX x s).1.length := nmW_ok _ _ _ h

/-- Data by its parts. -/
def daP : List Dt.Pc → List ByteArray → Wst → Wst
  | p :: fs, x :: xs, s => daP fs xs (if p.isN then nmX x s else (s.1 ++ x.data.toList, s.2))
  | _, _, s => s
theorem daP_nil (fs : List Dt.Pc) (s : Wst) : daP fs [] s = s := by cases fs <;> rfl
def NmOK (fs : List Dt.Pc) (ps : List ByteArray) : Prop := ∀ (i : Nat) (p : Dt.Pc) (x : ByteArray), fs[i]? = some p → ps[i]? = some x → p.isN = true → (Nm.split x).isSome = true
theorem NmOK.tail {p : Dt.Pc} {x : ByteArray} {fs : List Dt.Pc} {ps : List ByteArray} (h : NmOK (p :: fs) (x :: ps)) : NmOK fs ps := fun i q y hq hy hn => h (i + 1) q y (by simpa using hq) (by simpa using hy) hn
theorem daP_len : ∀ (fs : List Dt.Pc) (ps : List ByteArray) (s : Wst), NmOK fs ps → s.1.length ≤ (daP fs ps s).1.length ∧ (daP fs ps s).1.length ≤ s.1.length + (Dt.catL ps).length := by
  intro fs
  induction fs with
  | nil => intro ps s h; simp [daP]
  | cons p fs ih =>
    intro ps s h
    cases ps with
    | nil => simp [daP]
    | cons x xs =>
      have e : (Dt.catL (x :: xs)).length = x.size + (Dt.catL xs).length := by simp [Dt.catL]
      rw [daP, e]
      have := ih xs (if p.isN then nmX x s else (s.1 ++ x.data.toList, s.2)) h.tail
      cases hN : p.isN with
      | true =>
        rw [hN] at this
        simp only [if_true] at this ⊢
        have h2 := nmX_len (h 0 p x rfl rfl hN) s
        omega
      | false =>
        rw [hN] at this
        simp at this ⊢
        omega
theorem daP_ok : ∀ (fs : List Dt.Pc) (ps : List ByteArray) (s : Wst), PlOK s.2 s.1.length → PlOK (daP fs ps s).2 (daP fs ps s).1.length := by
  intro fs
  induction fs with
  | nil => intro ps s h; exact h
  | cons p fs ih =>
    intro ps s h
    cases ps with
    | nil => exact h
    | cons x xs =>
      rw [daP]
      apply ih
      split
      · exact nmX_ok x s h
      · exact h.mono (by simp)
/-- Data by the places of its names. -/
def daS : List (Nat × Nat) → Nat → ByteArray → Wst → Wst
  | [], a, d, s => (s.1 ++ (d.extract a d.size).data.toList, s.2)
  | (f, t) :: r, a, d, s => daS r t d (nmX (d.extract f t) (s.1 ++ (d.extract a f).data.toList, s.2))

theorem ex_list (d : ByteArray) (a b : Nat) : (d.extract a b).data.toList = (d.data.toList.drop a).take (b - a) := by
  simp [ByteArray.data_extract, Array.toList_extract, List.extract_eq_take_drop]
theorem daS_parts : ∀ (fs : List Dt.Pc) (ps : List ByteArray) (a a0 : Nat) (d : ByteArray) (s : Wst), fs.length = ps.length → a0 ≤ a → a ≤ d.size → Dt.catL ps = d.data.toList.drop a →
    daS (Dt.spansOf fs ps a) a0 d s = daP fs ps (s.1 ++ (d.extract a0 a).data.toList, s.2) := by
  intro fs
  induction fs with
  | nil =>
    intro ps a a0 d s hl h0 h1 hc
    obtain rfl : ps = [] := List.length_eq_zero_iff.1 (by simpa using hl.symm)
    have hd : d.data.toList.drop a = [] := by rw [← hc]; rfl
    have hz : d.size ≤ a := by simpa [List.drop_eq_nil_iff] using hd
    obtain rfl : a = d.size := by omega
    rfl
  | cons p fs ih =>
    intro ps a a0 d s hl h0 h1 hc
    cases ps with
    | nil => simp at hl
    | cons x xs =>
      have e : Dt.catL (x :: xs) = x.data.toList ++ Dt.catL xs := by simp [Dt.catL]
      rw [e] at hc
      have hxl : x.data.toList.length = x.size := by simp
      have hsz : x.size + (Dt.catL xs).length = d.size - a := by
        have := congrArg List.length hc
        simp at this
        simpa using this
      have hc2 : Dt.catL xs = d.data.toList.drop (a + x.size) := by
        rw [← List.drop_drop, ← hc, List.drop_left' hxl]
      have hx : d.extract a (a + x.size) = x := by
        apply Nm.ba_ext
        rw [ex_list, ← hc, show a + x.size - a = x.size by omega, List.take_left' hxl]
      have hl2 : fs.length = xs.length := by simpa using hl
      rw [Dt.spansOf, daP]
      cases hN : p.isN with
      | true =>
        simp only [if_true]
        rw [daS, hx, ih xs (a + x.size) (a + x.size) d _ hl2 (Nat.le_refl _) (by omega) hc2]
        have he : (d.extract (a + x.size) (a + x.size)).data.toList = [] := by rw [ex_list]; simp
        rw [he, List.append_nil]
      | false =>
        simp only [Bool.false_eq_true, if_false]
        rw [ih xs (a + x.size) a0 d s hl2 (by omega) (by omega) hc2]
        congr 1
        have he : (d.extract a0 (a + x.size)).data.toList = (d.extract a0 a).data.toList ++ x.data.toList := by
          have hx2 : x.data.toList = (d.data.toList.drop a).take x.size := by rw [← hc, List.take_left' hxl]
          rw [hx2, ex_list, ex_list, show a + x.size - a0 = (a - a0) + x.size by omega, List.take_add, List.drop_drop, show a0 + (a - a0) = a by omega]
        rw [he, List.append_assoc]

/-- A record's data. -/
def daW (t : Nat) (d : ByteArray) (s : Wst) : Wst :=
  if d.size = 0 ∨ ¬ pointed t then (s.1 ++ d.data.toList, s.2) else daP (Dt.specP t) ((Dt.parts (Dt.specP t) d).getD []) s
def rrA (o : ByteArray) (ty cl : Nat) (tt : Int) (s : Wst) : Wst := ((nmX o s).1 ++ (put2 ty ++ put2 cl ++ put4 tt ++ [0, 0]), (nmX o s).2)
def rrFin (F : Nat) (s : Wst) : Wst := ((s.1.set (F - 2) (UInt8.ofNat ((s.1.length - F) / 256))).set (F - 1) (UInt8.ofNat ((s.1.length - F) % 256)), s.2)
/-- A record. -/
def rrW (r : Rr) (s : Wst) : Wst := rrFin (rrA r.own r.ty.toNat r.cl.toNat r.tt s).1.length (daW r.ty.toNat r.da (rrA r.own r.ty.toNat r.cl.toNat r.tt s))

theorem inB_nat {n m : Int} (h : inB n m = true) : ∃ k : Nat, n = (k : Int) ∧ (k : Int) ≤ m := by
  simp [inB] at h
  exact ⟨n.toNat, by omega, by omega⟩
/-- What a good record says. -/
theorem rc_parts {r : Rr} (h : rcOK r = true) : (Nm.split r.own).isSome = true ∧ (∃ t : Nat, r.ty = (t : Int) ∧ t < 65536) ∧ (∃ c : Nat, r.cl = (c : Int) ∧ c < 65536) ∧ 0 ≤ r.tt ∧ r.tt ≤ 4294967295 ∧ (r.da.size = 0 ∨ cutCode r.ty r.da = 0) ∧ r.da.size ≤ 65535 := by
  simp only [rcOK, Bool.and_eq_true, Bool.or_eq_true, decide_eq_true_eq, beq_iff_eq] at h
  obtain ⟨⟨⟨⟨h1, h2⟩, h3⟩, h4⟩, h5⟩ := h
  obtain ⟨t, ht, htl⟩ := inB_nat h2
  obtain ⟨c, hc, hcl⟩ := inB_nat h3
  simp [inB] at h4
  refine ⟨h1, ⟨t, ht, by omega⟩, ⟨c, hc, by omega⟩, h4.1, h4.2, h5, ?_⟩
  rcases h5 with h5 | h5
  · omega
  · obtain ⟨ps, _, _, hz⟩ := good_parts h5
    exact hz
theorem daW_len {t : Nat} {d : ByteArray} (h : d.size = 0 ∨ cutCode t d = 0) (s : Wst) : s.1.length ≤ (daW t d s).1.length ∧ (daW t d s).1.length ≤ s.1.length + d.size := by
  rw [daW]
  split
  · simp
  · rename_i hn
    have hc : cutCode t d = 0 := by rcases h with h | h; exact absurd (.inl h) hn; exact h
    obtain ⟨ps, h1, h2, h3⟩ := good_parts hc
    obtain ⟨p1, p2, p3⟩ := Dt.parts_cat _ _ _ h1
    have := daP_len (Dt.specP t) ps s p3
    rw [h1]
    rw [p2] at this
    simpa using this
theorem daW_ok (t : Nat) (d : ByteArray) (s : Wst) (h : PlOK s.2 s.1.length) : PlOK (daW t d s).2 (daW t d s).1.length := by
  rw [daW]
  split
  · exact h.mono (by simp)
  · exact daP_ok _ _ _ h
theorem rrA_len {o : ByteArray} (h : (Nm.split o).isSome = true) (ty cl : Nat) (tt : Int) (s : Wst) : s.1.length + 11 ≤ (rrA o ty cl tt s).1.length ∧ (rrA o ty cl tt s).1.length ≤ s.1.length + o.size + 10 := by
  have := nmX_len h s
  simp [rrA, put2, put4]
  omega
theorem rrA_ok (o : ByteArray) (ty cl : Nat) (tt : Int) (s : Wst) (h : PlOK s.2 s.1.length) : PlOK (rrA o ty cl tt s).2 (rrA o ty cl tt s).1.length := (nmX_ok o s h).mono (by simp [rrA])
theorem rrFin_len (F : Nat) (s : Wst) : (rrFin F s).1.length = s.1.length := by simp [rrFin]
theorem name_short {o : ByteArray} (h : (Nm.split o).isSome = true) : o.size ≤ 255 := by
  obtain ⟨ls, hs⟩ := Option.isSome_iff_exists.1 h
  exact (Nm.split_size hs).2
theorem rrW_len {r : Rr} (h : rcOK r = true) (s : Wst) : s.1.length ≤ (rrW r s).1.length ∧ (rrW r s).1.length ≤ s.1.length + 65800 := by
  obtain ⟨h1, ⟨t, ht, htl⟩, ⟨c, hc, hcl⟩, h4, h5, h6, h7⟩ := rc_parts h
  have hs := name_short h1
  have a := rrA_len h1 t c r.tt s
  rw [rrW, rrFin_len, ht, hc]
  rw [ht] at h6
  have b := daW_len h6 (rrA r.own t c r.tt s)
  simp only [Int.toNat_natCast]
  omega
theorem rrW_ok (r : Rr) (s : Wst) (h : PlOK s.2 s.1.length) : PlOK (rrW r s).2 (rrW r s).1.length := by
  rw [rrW, rrFin_len]
  exact daW_ok _ _ _ (rrA_ok _ _ _ _ _ h)
/-- Records one behind the other. -/
def rrWs (l : List Rr) (s : Wst) : Wst := l.foldl (fun s r => rrW r s) s
theorem rrWs_cons (r : Rr) (l : List Rr) (s : Wst) : rrWs (r :: l) s = rrWs l (rrW r s) := rfl
theorem rrWs_len : ∀ (l : List Rr) (s : Wst), l.all rcOK = true → s.1.length ≤ (rrWs l s).1.length ∧ (rrWs l s).1.length ≤ s.1.length + 65800 * l.length := by
  intro l
  induction l with
  | nil => intro s h; simp [rrWs]
  | cons r l ih =>
    intro s h
    simp only [List.all_cons, Bool.and_eq_true] at h
    rw [rrWs_cons]
    have a := ih (rrW r s) h.2
    have b := rrW_len h.1 s
    simp only [List.length_cons]
    omega
theorem rrWs_ok : ∀ (l : List Rr) (s : Wst), PlOK s.2 s.1.length → PlOK (rrWs l s).2 (rrWs l s).1.length := by
  intro l
  induction l with
  | nil => intro s h; exact h
  | cons r l ih => intro s h; exact ih _ (rrW_ok r s h)
/-- A record that the model's writer takes. -/
def rcW (r : Rr) : Prop := (Nm.split r.own).isSome = true ∧ (∃ t : Nat, r.ty = (t : Int) ∧ t < 65536) ∧ (∃ c : Nat, r.cl = (c : Int) ∧ c < 65536) ∧ 0 ≤ r.tt ∧ r.tt ≤ 4294967295 ∧ (r.da.size = 0 ∨ ¬ pointed r.ty.toNat ∨ cutCode r.ty r.da = 0) ∧ r.da.size ≤ 65535
theorem rc_w {r : Rr} (h : rcOK r = true) : rcW r := by
  obtain ⟨h1, h2, h3, h4, h5, h6, h7⟩ := rc_parts h
  exact ⟨h1, h2, h3, h4, h5, h6.elim .inl (fun e => .inr (.inr e)), h7⟩
theorem daW_lenW {t : Nat} {d : ByteArray} (h : d.size = 0 ∨ ¬ pointed t ∨ cutCode t d = 0) (s : Wst) : s.1.length ≤ (daW t d s).1.length ∧ (daW t d s).1.length ≤ s.1.length + d.size := by
  rcases h with h | h | h
  · exact daW_len (.inl h) s
  · rw [daW, if_pos (.inr h)]
    simp
  · exact daW_len (.inr h) s
theorem rrW_lenW {r : Rr} (h : rcW r) (s : Wst) : s.1.length ≤ (rrW r s).1.length ∧ (rrW r s).1.length ≤ s.1.length + 65800 := by
  obtain ⟨h1, ⟨t, ht, htl⟩, ⟨c, hc, hcl⟩, h4, h5, h6, h7⟩ := h
  have hs := name_short h1
  have a := rrA_len h1 t c r.tt s
  rw [rrW, rrFin_len, ht, hc]
  rw [ht] at h6
  simp only [Int.toNat_natCast] at h6 ⊢
  have b := daW_lenW h6 (rrA r.own t c r.tt s)
  omega
end Go.Proofs.YtmaopfagkffccaaGreat
/- A head's flags, joined bit by bit; a message as it is written: mathematics. -/
namespace Go.Proofs.YtmaopfagkffccaaGreat
open Go.RowKit
set_option linter.unusedVariables false

theorem or_bit (f i : Nat) (h : f / 2 ^ i % 2 = 0) : f ||| 2 ^ i = f + 2 ^ i := by
  have hp : 0 < 2 ^ i := Nat.two_pow_pos i
  obtain ⟨hi, lo, hlo, rfl⟩ : ∃ hi lo, lo < 2 ^ i ∧ f = 2 ^ (i + 1) * hi + lo := by
    refine ⟨f / 2 ^ i / 2, f % 2 ^ i, Nat.mod_lt _ hp, ?_⟩
    have h1 := Nat.div_add_mod f (2 ^ i)
    have h2 := Nat.div_add_mod (f / 2 ^ i) 2
    rw [h] at h2
    rw [Nat.pow_succ, Nat.mul_assoc, show 2 * (f / 2 ^ i / 2) = f / 2 ^ i by omega]
    exact h1.symm
  have e1 : 2 ^ (i + 1) * hi + lo = 2 ^ (i + 1) * hi ||| lo := Nat.two_pow_add_eq_or_of_lt (by rw [Nat.pow_succ]; omega) hi
  have e2 : 2 ^ (i + 1) * hi + 2 ^ i = 2 ^ (i + 1) * hi ||| 2 ^ i := Nat.two_pow_add_eq_or_of_lt (by rw [Nat.pow_succ]; omega) hi
  have e3 : 2 ^ i * (2 * hi + 1) + lo = 2 ^ i * (2 * hi + 1) ||| lo := Nat.two_pow_add_eq_or_of_lt hlo _
  have e4 : 2 ^ (i + 1) * hi + 2 ^ i = 2 ^ i * (2 * hi + 1) := by rw [Nat.pow_succ, Nat.mul_add, Nat.mul_one, Nat.mul_assoc]
  rw [e1, Nat.or_assoc, Nat.or_comm lo, ← Nat.or_assoc, ← e2, e4, ← e3, ← e4, ← e1]
  omega

def flP (h : Hr) : List (Bool × Nat) := [(h.qr, 15), (h.aa, 10), (h.tc, 9), (h.rd, 8), (h.ra, 7), (h.z, 6), (h.ad, 5), (h.cd, 4)]
def flN (op code : Nat) : List (Bool × Nat) → Nat
  | [] => op * 2048 + code
  | p :: r => flS p.1 p.2 + flN op code r
theorem flS_c (b : Bool) (i : Nat) : flS b i = 2 ^ i * b.toNat := by cases b <;> simp [flS]
theorem flN_all (h : Hr) (op code : Nat) : flN op code (flP h) = flagsS h.qr op h.aa h.tc h.rd h.ra h.z h.ad h.cd code := by
  simp only [flP, flN, flagsS]
  omega
theorem tn_le (b : Bool) : b.toNat ≤ 1 := by cases b <;> simp
/-- One flag more. -/
theorem flN_step (h : Hr) (op code : Nat) (ho : op ≤ 15) (hc : code ≤ 15) (j : Nat) (i : Nat) (hj : (flP h)[j]? = some (true, i)) :
    bits .or .i64 (flN op code ((flP h).take j) : Int) ((2 ^ i : Nat) : Int) = (flN op code ((flP h).take (j + 1)) : Int) := by
  have t1 := tn_le h.qr
  have t2 := tn_le h.aa
  have t3 := tn_le h.tc
  have t4 := tn_le h.rd
  have t5 := tn_le h.ra
  have t6 := tn_le h.z
  have t7 := tn_le h.ad
  have t8 := tn_le h.cd
  rcases j with _ | _ | _ | _ | _ | _ | _ | _ | j
  all_goals simp [flP] at hj
  all_goals
    obtain ⟨hb, rfl⟩ := hj
    simp only [flP, List.take_succ_cons, List.take_zero, flN, flS_c, hb, Bool.toNat_true]
    rw [i64_or_nat _ _ (by omega) (by decide), or_bit _ _ (by omega)]
    omega
theorem flN_skip (h : Hr) (op code : Nat) (j : Nat) (i : Nat) (hj : (flP h)[j]? = some (false, i)) : flN op code ((flP h).take (j + 1)) = flN op code ((flP h).take j) := by
  rcases j with _ | _ | _ | _ | _ | _ | _ | _ | j
  all_goals simp [flP] at hj
  all_goals
    obtain ⟨hb, rfl⟩ := hj
    simp only [flP, List.take_succ_cons, List.take_zero, flN, flS_c, hb, Bool.toNat_false]
    omega
theorem flN_first (op code : Nat) (ho : op ≤ 15) (hc : code ≤ 15) : bits .or .i64 ((op : Int) * 2048) (code : Int) = (flN op code [] : Int) := by
  have := or_join 11 op code (by omega) (by omega)
  rw [show ((2 ^ 11 * op : Nat) : Int) = (op : Int) * 2048 by omega] at this
  rw [this, flN]
  omega

/-- A question. -/
def qqW (q : Qr) (s : Wst) : Wst := ((nmX q.nm s).1 ++ (put2 q.ty.toNat ++ put2 q.cl.toNat), (nmX q.nm s).2)
def qqWs (l : List Qr) (s : Wst) : Wst := l.foldl (fun s q => qqW q s) s
theorem qqWs_cons (q : Qr) (l : List Qr) (s : Wst) : qqWs (q :: l) s = qqWs l (qqW q s) := rfl
theorem qu_parts {q : Qr} (h : quOK q = true) : (Nm.split q.nm).isSome = true ∧ (∃ t : Nat, q.ty = (t : Int) ∧ t < 65536) ∧ (∃ c : Nat, q.cl = (c : Int) ∧ c < 65536) := by
  simp only [quOK, Bool.and_eq_true] at h
  obtain ⟨⟨h1, h2⟩, h3⟩ := h
  obtain ⟨t, ht, htl⟩ := inB_nat h2
  obtain ⟨c, hc, hcl⟩ := inB_nat h3
  exact ⟨h1, ⟨t, ht, by omega⟩, ⟨c, hc, by omega⟩⟩
theorem qqW_len {q : Qr} (h : quOK q = true) (s : Wst) : s.1.length ≤ (qqW q s).1.length ∧ (qqW q s).1.length ≤ s.1.length + 65800 := by
  obtain ⟨h1, _⟩ := qu_parts h
  have a := nmX_len h1 s
  have b := name_short h1
  simp [qqW, put2]
  omega
theorem qqW_ok (q : Qr) (s : Wst) (h : PlOK s.2 s.1.length) : PlOK (qqW q s).2 (qqW q s).1.length := (nmX_ok q.nm s h).mono (by simp [qqW])
def hdW (m : Mg) : List UInt8 := headL m.hd.id.toNat (flagsS m.hd.qr m.hd.op.toNat m.hd.aa m.hd.tc m.hd.rd m.hd.ra m.hd.z m.hd.ad m.hd.cd m.hd.code.toNat) [m.qs.length, m.an.length, m.au.length, m.ex.length]
/-- A message. -/
def msgW (m : Mg) : Wst := rrWs m.ex (rrWs m.au (rrWs m.an (qqWs m.qs (hdW m, []))))
theorem hd_parts {h : Hr} (k : hdOK h = true) : (∃ i : Nat, h.id = (i : Int) ∧ i < 65536) ∧ (∃ o : Nat, h.op = (o : Int) ∧ o ≤ 15) ∧ (∃ c : Nat, h.code = (c : Int) ∧ c ≤ 15) := by
  simp only [hdOK, Bool.and_eq_true] at k
  obtain ⟨⟨h1, h2⟩, h3⟩ := k
  obtain ⟨a, ha, hal⟩ := inB_nat h1
  obtain ⟨b, hb, hbl⟩ := inB_nat h2
  obtain ⟨c, hc, hcl⟩ := inB_nat h3
  exact ⟨⟨a, ha, by omega⟩, ⟨b, hb, by omega⟩, ⟨c, hc, by omega⟩⟩
end Go.Proofs.YtmaopfagkffccaaGreat
/- Truncate as mathematics. -/
namespace Go.Proofs.YtmaopfagkffccaaGreat
open Go.RowKit
set_option linter.unusedVariables false

/-- A head with TC. -/
def tcH (h : Hr) : Hr := ⟨h.id, h.qr, h.op, h.aa, true, h.rd, h.ra, h.z, h.ad, h.cd, h.code⟩
def isO (r : Rr) : Bool := decide (r.ty = 41)
def isN (r : Rr) : Bool := false
/-- A message without its last run; none: none is left that may go. -/
def shM (m : Mg) : Option Mg := match dropS isO m.ex with
  | some e => some ⟨m.hd, m.qs, m.an, m.au, e⟩
  | none => match dropS isN m.au with
    | some u => some ⟨tcH m.hd, m.qs, m.an, u, m.ex⟩
    | none => match dropS isN m.an with
      | some a => some ⟨tcH m.hd, m.qs, a, m.au, m.ex⟩
      | none => none
theorem shM_ex {m : Mg} {e : List Rr} (h : dropS isO m.ex = some e) : shM m = some ⟨m.hd, m.qs, m.an, m.au, e⟩ := by rw [shM, h]
theorem shM_au {m : Mg} {u : List Rr} (h : dropS isO m.ex = none) (h2 : dropS isN m.au = some u) : shM m = some ⟨tcH m.hd, m.qs, m.an, u, m.ex⟩ := by rw [shM, h, h2]
theorem shM_an {m : Mg} {a : List Rr} (h : dropS isO m.ex = none) (h2 : dropS isN m.au = none) (h3 : dropS isN m.an = some a) : shM m = some ⟨tcH m.hd, m.qs, a, m.au, m.ex⟩ := by rw [shM, h, h2, h3]
theorem shM_no {m : Mg} (h : dropS isO m.ex = none) (h2 : dropS isN m.au = none) (h3 : dropS isN m.an = none) : shM m = none := by rw [shM, h, h2, h3]

theorem shM_cases {m m' : Mg} (h : shM m = some m') : (∃ e, dropS isO m.ex = some e ∧ m' = ⟨m.hd, m.qs, m.an, m.au, e⟩) ∨ (∃ u, dropS isN m.au = some u ∧ m' = ⟨tcH m.hd, m.qs, m.an, u, m.ex⟩) ∨ (∃ a, dropS isN m.an = some a ∧ m' = ⟨tcH m.hd, m.qs, a, m.au, m.ex⟩) := by
  cases h1 : dropS isO m.ex with
  | some e => rw [shM_ex h1] at h; exact .inl ⟨e, rfl, (Option.some.inj h).symm⟩
  | none =>
    cases h2 : dropS isN m.au with
    | some u => rw [shM_au h1 h2] at h; exact .inr (.inl ⟨u, rfl, (Option.some.inj h).symm⟩)
    | none =>
      cases h3 : dropS isN m.an with
      | some a => rw [shM_an h1 h2 h3] at h; exact .inr (.inr ⟨a, rfl, (Option.some.inj h).symm⟩)
      | none => rw [shM_no h1 h2 h3] at h; cases h

def cntM (m : Mg) : Nat := m.an.length + m.au.length + m.ex.length
theorem shM_lt {m m' : Mg} (h : shM m = some m') : cntM m' < cntM m := by
  unfold cntM
  rcases shM_cases h with ⟨e, h1, rfl⟩ | ⟨e, h1, rfl⟩ | ⟨e, h1, rfl⟩ <;> have := dropS_lt h1 <;> simp only <;> omega

theorem all_drop {p : Rr → Bool} {q : Rr → Bool} {xs ys : List Rr} (h : xs.all q = true) (hd : dropS p xs = some ys) : ys.all q = true := by
  rw [List.all_eq_true] at h ⊢
  exact fun x hx => h x (dropS_mem hd x hx)

theorem shM_ok {m m' : Mg} (hm : mgOK m = true) (h : shM m = some m') : mgOK m' = true := by
  simp only [mgOK, Bool.and_eq_true, decide_eq_true_eq] at hm ⊢
  obtain ⟨⟨⟨⟨⟨h1, h2⟩, h3⟩, h4⟩, h5⟩, h6⟩ := hm
  rcases shM_cases h with ⟨e, hd, rfl⟩ | ⟨e, hd, rfl⟩ | ⟨e, hd, rfl⟩
  · have := dropS_lt hd
    exact ⟨⟨⟨⟨⟨by simp only; omega, h2⟩, h3⟩, h4⟩, h5⟩, all_drop h6 hd⟩
  · have := dropS_lt hd
    exact ⟨⟨⟨⟨⟨by simp only; omega, h2⟩, h3⟩, h4⟩, all_drop h5 hd⟩, h6⟩
  · have := dropS_lt hd
    exact ⟨⟨⟨⟨⟨by simp only; omega, h2⟩, h3⟩, all_drop h4 hd⟩, h5⟩, h6⟩

theorem shM_small {m m' : Mg} (hm : MSmall m) (h : shM m = some m') : MSmall m' := by
  obtain ⟨h1, h2, h3, h4, h5, h6, h7, h8⟩ := hm
  rcases shM_cases h with ⟨e, hd, rfl⟩ | ⟨e, hd, rfl⟩ | ⟨e, hd, rfl⟩
  · have := dropS_lt hd
    exact ⟨h1, h2, h3, fun r hr => h4 r (dropS_mem hd r hr), h5, h6, h7, by simp only; omega⟩
  · have := dropS_lt hd
    exact ⟨h1, h2, fun r hr => h3 r (dropS_mem hd r hr), h4, h5, h6, by simp only; omega, h8⟩
  · have := dropS_lt hd
    exact ⟨h1, fun r hr => h2 r (dropS_mem hd r hr), h3, h4, h5, by simp only; omega, h7, h8⟩

def cutM (b : Int) : Nat → Mg → Mg
  | 0, m => m
  | k + 1, m => if ((msgW m).1.length : Int) ≤ b then m else match shM m with
    | none => m
    | some m' => cutM b k m'
/-- What Truncate leaves of a message. -/
def trM (b : Int) (m : Mg) : Mg := cutM b (cntM m) m
/-- From m0 on m is met. -/
def TrAt (b : Int) (m0 m : Mg) : Prop := mgOK m = true ∧ MSmall m ∧ ∃ k, cntM m ≤ k ∧ trM b m0 = cutM b k m

theorem TrAt.start {b : Int} {m : Mg} (h : mgOK m = true) (hs : MSmall m) : TrAt b m m := ⟨h, hs, cntM m, Nat.le_refl _, rfl⟩
theorem TrAt.fit {b : Int} {m0 m : Mg} (h : TrAt b m0 m) (hf : ((msgW m).1.length : Int) ≤ b) : trM b m0 = m := by
  obtain ⟨_, _, k, hk, e⟩ := h
  rw [e]
  cases k with
  | zero => rfl
  | succ k => rw [cutM, if_pos hf]
theorem TrAt.last {b : Int} {m0 m : Mg} (h : TrAt b m0 m) (hf : shM m = none) : trM b m0 = m := by
  obtain ⟨_, _, k, hk, e⟩ := h
  rw [e]
  cases k with
  | zero => rfl
  | succ k =>
    rw [cutM, hf]
    split <;> rfl
theorem TrAt.step {b : Int} {m0 m m' : Mg} (h : TrAt b m0 m) (hf : ¬ ((msgW m).1.length : Int) ≤ b) (hs : shM m = some m') : TrAt b m0 m' := by
  obtain ⟨h1, h2, k, hk, e⟩ := h
  have hlt := shM_lt hs
  refine ⟨shM_ok h1 hs, shM_small h2 hs, ?_⟩
  cases k with
  | zero => omega
  | succ k =>
    refine ⟨k, by omega, ?_⟩
    rw [e, cutM, if_neg hf, hs]
end Go.Proofs.YtmaopfagkffccaaGreat
/- Contracts of the library at this dump. -/
namespace Go.Proofs
open Go.Shelf
def Tryz.laysM316_ren : Go.Shelf.Ren := ⟨fun | 316 => 66 | n => n, fun | 9 => 9 | 3 => 3 | 4 => 4 | 37 => 66 | 0 => 0 | 127 => 120 | 5 => 5 | n => n, fun | n => n⟩
theorem Tryz.laysM316 : Go.Proofs.LaysM.n316 Tryz.prog Tryz.laysM316_ren := {
  mixed := by kernel_rfl
  f316 := Tryz.func66.trans (congrArg some (by kernel_rfl))
  t0 := Tryz.underlying0
  a0 := Tryz.isAgg0
  z0 := Tryz.sizeOf0
  v0 := Tryz.zeroValue0
  t3 := Tryz.underlying3
  a3 := Tryz.isAgg3
  z3 := Tryz.sizeOf3
  v3 := Tryz.zeroValue3
  t4 := Tryz.underlying4
  a4 := Tryz.isAgg4
  z4 := Tryz.sizeOf4
  v4 := Tryz.zeroValue4
  t9 := Tryz.underlying9
  a9 := Tryz.isAgg9
  z9 := Tryz.sizeOf9
  v9 := Tryz.zeroValue9
  t37 := Tryz.underlying66
  a37 := Tryz.isAgg66
  z37 := Tryz.sizeOf66
  v37 := Tryz.zeroValue66
  t127 := Tryz.underlying120
  a127 := Tryz.isAgg120
  z127 := Tryz.sizeOf120
  v127 := Tryz.zeroValue120
  t5 := Tryz.underlying5
  a5 := Tryz.isAgg5
  z5 := Tryz.sizeOf5
  v5 := Tryz.zeroValue5
  i0 := by kernel_rfl
  i3 := by kernel_rfl
  i4 := by kernel_rfl
  i5 := by kernel_rfl
  i9 := by kernel_rfl
  i37 := by kernel_rfl
  i127 := by kernel_rfl }
open Go.RowKit in
theorem Tryz.stringslite_Clone (s : ByteArray) (w : World) (hlim : s.size ≤ 281474976710656) :
    Calls Tryz.prog 66 #[.string s] w fun e w' => e = .returned (.string s) ∧ Below w.heap.size w w' := Any.stringslite_Clone Tryz.laysM316 s w hlim
end Go.Proofs
/- strings.Clone by its contract. -/
namespace Go.Proofs.YtmaopfagkffccaaGreat
open Go.RowKit
set_option linter.unusedVariables false
theorem cloneStr_any (s : ByteArray) (w : World) (h : s.size ≤ 281474976710656) :
    Calls Tryz.prog 45 #[.string s] w fun e w' => e = .returned (.string s) ∧ Below w.heap.size w w' := by
  have hc := fun W => Tryz.stringslite_Clone s W h
  go_enter Tryz.func45, Tryz.ntmps45
  go_wp2_with (go_at_call 66; refine (hc _).mono ?_; rintro e w1 ⟨rfl, b1⟩)
  go_ret
  exact ⟨rfl, b1⟩
end Go.Proofs.YtmaopfagkffccaaGreat
/- A region in whatever order: its end; two at once. -/
namespace Go.Proofs.YtmaopfagkffccaaGreat
open Go

section
variable {P : Program} {ops : Array Oper} {Q : Exit → Act → World → Prop} {md : Region.Mode} {S : World → Prop} {L : Nat}

/-- All have come up. -/
theorem wpAnyL_done {fuel : Nat} {listed : Array Bool} {a : Act} {w : World} (hr : Region.ready md ops listed = []) (hq : Q .normal a w) : wpAnyL P md ops Q S L fuel listed a w := by
  cases fuel with
  | zero => exact ⟨hr, hq⟩
  | succ n => exact ⟨fun _ => hq, by rw [hr]; intro i hi; cases hi⟩

/-- Just two may come up. -/
theorem wpAnyL_two {i j : Nat} {o o' : Oper} {fuel : Nat} {listed : Array Bool} {a : Act} {w : World} (hr : Region.ready md ops listed = [i, j]) (ho : ops[i]? = some o) (ho' : ops[j]? = some o')
    (h : ∀ K' : Act → World → Prop, Shut (∀ a w, S w → (S w → wpAnyL P md ops Q S L fuel (listed.setIfInBounds i true) a w) → K' a w) → if Region.wanted o (yielded ops a.tmps) = true then Oper.wp P o a w K' Q else K' (a.put o.dst undef) w)
    (h' : ∀ K' : Act → World → Prop, Shut (∀ a w, S w → (S w → wpAnyL P md ops Q S L fuel (listed.setIfInBounds j true) a w) → K' a w) → if Region.wanted o' (yielded ops a.tmps) = true then Oper.wp P o' a w K' Q else K' (a.put o'.dst undef) w) :
    wpAnyL P md ops Q S L (fuel + 1) listed a w := by
  refine ⟨fun h0 => (by rw [hr] at h0; cases h0), fun k hk => ?_⟩
  rw [hr] at hk
  rcases (show k = i ∨ k = j by simpa using hk) with rfl | rfl
  · exact wpOp_step ho (fun K' hK => h K' (fun a w hS hW => hK a w ⟨.inr hS, hW hS⟩))
  · exact wpOp_step ho' (fun K' hK => h' K' (fun a w hS hW => hK a w ⟨.inr hS, hW hS⟩))

end
end Go.Proofs.YtmaopfagkffccaaGreat
