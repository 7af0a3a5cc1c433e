import Derived.Test.YtocadkdfhfiijaaSRt
import Derived.Test.YtocadkdfhfiijaaJRmz
import Derived.Test.YtocadkdfhfiijaaJDrF
import Derived.Test.YtocadkdfhfiijaaJRrM
import Derived.Test.YtocadkdfhfiijaaJNumM
import Derived.Test.YtocadkdfhfiijaaJWtG
import Derived.Test.YtocadkdfhfiijaaJMvI
import Derived.Test.YtocadkdfhfiijaaJBytesRow
import Derived.Test.YtocadkdfhfiijaaIwB
/- spec.Decode by its contract; what both Decodes answer, in one form. -/
namespace Go.Proofs.Ytocadkdfhfiijaa
open Go.RowKit
set_option linter.unusedVariables false

/-- What Decode answers: the head's two numbers, the lists, the code. -/
structure Mo where
  d : Nat
  f : Nat
  m : Mm
  c : Int
def msO (l : List UInt8) : Mo := match msgS l with
  | .inl c => ⟨0, 0, ⟨[], [], [], []⟩, c⟩
  | .inr (m, _) => ⟨n16 l 0, n16 l 2, m, 0⟩

theorem msA_zero : msA 0 0 (.slice none 0 0) (.slice none 0 0) (.slice none 0 0) (.slice none 0 0) = ms0 := rfl

theorem lists_none (w : World) (B : Nat) : Lists w B ⟨[], [], [], []⟩ (.slice none 0 0) (.slice none 0 0) (.slice none 0 0) (.slice none 0 0) :=
  ⟨⟨rfl, .inl ⟨rfl, rfl⟩⟩, ⟨rfl, .inl ⟨rfl, rfl⟩⟩, ⟨rfl, .inl ⟨rfl, rfl⟩⟩, ⟨rfl, .inl ⟨rfl, rfl⟩⟩, fun k h => by simp [Value.ownBlock] at h, fun k h => by simp [Value.ownBlock] at h, fun k h => by simp [Value.ownBlock] at h⟩

theorem l04Read_any (v : Value) (l : List UInt8) (w : World) (h : BySl w v l) (hl : l.length ≤ 100000000) : Calls Try.prog 14 #[v] w (ReadPost l w) := by
  by_cases h1 : 65535 < l.length
  · exact l04Read_head v l w h hl (.inl h1)
  · by_cases h2 : l.length < 12
    · exact l04Read_head v l w h hl (.inr (.inl h2))
    · by_cases h3 : 400 < n16 l 4 + n16 l 6 + n16 l 8 + n16 l 10
      · exact l04Read_head v l w h hl (.inr (.inr h3))
      · exact l04Read_main v l w h (by omega) h1 h2 h3

theorem l04Read_one (v : Value) (l : List UInt8) (w : World) (h : BySl w v l) (hl : l.length ≤ 100000000) : Calls Try.prog 14 #[v] w fun e w' => Below w.heap.size w w' ∧
    ∃ q x y z, ∃ n : Int, e = .returned (.tuple #[.agg (msA (msO l).d (msO l).f q x y z), .int .i64 n, .int .i64 (msO l).c]) ∧ Lists w' w.heap.size (msO l).m q x y z := by
  refine (l04Read_any v l w h hl).mono ?_
  rintro e w' ⟨hb, ⟨m, p, q, x, y, z, n, hm, rfl, hL⟩ | ⟨c, n, hm, rfl⟩⟩
  · refine ⟨hb, q, x, y, z, n, ?_, ?_⟩
    · rw [msO, hm]
    · rw [msO, hm]; exact hL
  · refine ⟨hb, .slice none 0 0, .slice none 0 0, .slice none 0 0, .slice none 0 0, n, ?_, ?_⟩
    · rw [msO, hm, ← msA_zero]
    · rw [msO, hm]; exact lists_none _ _

/-- What Decode leaves. -/
def DecPost (l : List UInt8) (w : World) (e : Ending) (w' : World) : Prop := Below w.heap.size w w' ∧
  ∃ q x y z, e = .returned (.tuple #[.agg (msA (msO l).d (msO l).f q x y z), .int .i64 (msO l).c]) ∧ Lists w' w.heap.size (msO l).m q x y z

/-- The message is handed back with the code. -/
theorem dec_back {W : World} {b : Nat} {cs : Array Value} {R : Ending → World → Prop} {a : Act} {code : Int} (h : Blk W b cs 29)
    (hc : ∃ x0 x1 x2 x3 x4 x5 x6 x7 x8 x9 x10 x11 x12 x13 x14 : Value, cs = #[x0, x1, x2, x3, x4, x5, x6, x7, x8, x9, x10, x11, x12, x13, x14])
    (h2 : a.tmps[2]? = some (.pointer (some ⟨b, 0, none⟩))) (h3 : a.tmps[3]? = some (.int .i64 code)) (hd : a.defers = [])
    (hR : R (.returned (.tuple #[.agg cs, .int .i64 code])) W) : bodyPost Try.prog Try.f5 R .ret a W := by
  obtain ⟨x0, x1, x2, x3, x4, x5, x6, x7, x8, x9, x10, x11, x12, x13, x14, rfl⟩ := hc
  refine bodyPost_ret ?_ hd hR
  have r := fun i => blk_cell h i
  simp [results, Try.results5, go_sem, Result.andThen, r, h2, h3]

set_option maxRecDepth 100000 in
set_option maxHeartbeats 3200000 in
theorem specDecode_wide (v : Value) (l : List UInt8) (w : World) (h : BySl w v l) (hl : l.length ≤ 100000000) : Calls Try.prog 5 #[v] w (DecPost l w) := by
  have be0 : Below w.heap.size w (w.alloc (.cells ms0 29)) := (Below.refl _ _).alloc (Nat.le_refl _) _
  have hb0 := blk_new w ms0 29
  have hcall := l04Read_one v l _ (h.below be0) hl
  have hsz : (w.alloc (.cells ms0 29)).heap.size = w.heap.size + 1 := by simp
  unfold DecPost
  simp only [ms0, msA] at be0 hb0 hcall hsz ⊢
  obtain ⟨_, av, cv, rfl, _⟩ := h
  generalize hM : (msO l).m = m at *
  generalize ((msO l).d : Int) = i0 at *
  generalize (((msO l).f / 2048 % 16 : Nat) : Int) = i2 at *
  generalize (((msO l).f % 16 : Nat) : Int) = i10 at *
  generalize (msO l).c = c at *
  generalize (msO l).f.testBit 15 = t15 at *
  generalize (msO l).f.testBit 10 = t10 at *
  generalize (msO l).f.testBit 9 = t9 at *
  generalize (msO l).f.testBit 8 = t8 at *
  generalize (msO l).f.testBit 7 = t7 at *
  generalize (msO l).f.testBit 6 = t6 at *
  generalize (msO l).f.testBit 5 = t5 at *
  generalize (msO l).f.testBit 4 = t4 at *
  go_enter Try.func5, Try.ntmps5
  go_wp2_with fail
  refine hcall.mono ?_
  rintro e w1 ⟨hb1, q, x, y, z, n, rfl, L1⟩
  obtain ⟨x1, y1, rfl⟩ := row_val L1.rq
  obtain ⟨x2, y2, rfl⟩ := row_val L1.ra
  obtain ⟨x3, y3, rfl⟩ := row_val L1.ru
  obtain ⟨x4, y4, rfl⟩ := row_val L1.rx
  have hbA : Below w1.heap.size w1 (w1.alloc (.cells #[.int .i64 i0, .bool t15, .int .i64 i2, .bool t10, .bool t9, .bool t8, .bool t7, .bool t6, .bool t5, .bool t4, .int .i64 i10, .slice x1 m.qs.length y1, .slice x2 m.an.length y2, .slice x3 m.au.length y3, .slice x4 m.ex.length y4] 29)) := (Below.refl _ _).alloc (Nat.le_refl _) _
  have B1 := blk_below (blk_below hb0 hb1) hbA
  have r1 := fun i => blk_cell B1 i
  have f1 := fun i => blk_frozen B1 i
  have B2 := blk_new w1 #[.int .i64 i0, .bool t15, .int .i64 i2, .bool t10, .bool t9, .bool t8, .bool t7, .bool t6, .bool t5, .bool t4, .int .i64 i10, .slice x1 m.qs.length y1, .slice x2 m.an.length y2, .slice x3 m.au.length y3, .slice x4 m.ex.length y4] 29
  have r2 := fun i => blk_cell B2 i
  have be1 := Nm.below_two (Nm.below_two be0 hb1) hbA
  have L2 : Lists (w1.alloc (.cells #[.int .i64 i0, .bool t15, .int .i64 i2, .bool t10, .bool t9, .bool t8, .bool t7, .bool t6, .bool t5, .bool t4, .int .i64 i10, .slice x1 m.qs.length y1, .slice x2 m.an.length y2, .slice x3 m.au.length y3, .slice x4 m.ex.length y4] 29)) w.heap.size m (.slice x1 m.qs.length y1) (.slice x2 m.an.length y2) (.slice x3 m.au.length y3) (.slice x4 m.ex.length y4) := by
    have := lists_below L1 hbA
    exact ⟨own_base this.rq (by omega), own_base this.ra (by omega), own_base this.ru (by omega), own_base this.rx (by omega), this.au, this.ax, this.ux⟩
  have HL := Nm.hide (And.intro (setAll_new [.int .i64 i0, .bool t15, .int .i64 i2, .bool t10, .bool t9, .bool t8, .bool t7, .bool t6, .bool t5, .bool t4, .int .i64 i10, .slice x1 m.qs.length y1, .slice x2 m.an.length y2, .slice x3 m.au.length y3, .slice x4 m.ex.length y4] B1 rfl) (And.intro (setAll_below (Nat.le_refl _) [.int .i64 i0, .bool t15, .int .i64 i2, .bool t10, .bool t9, .bool t8, .bool t7, .bool t6, .bool t5, .bool t4, .int .i64 i10, .slice x1 m.qs.length y1, .slice x2 m.an.length y2, .slice x3 m.au.length y3, .slice x4 m.ex.length y4] 0 _ be1) (lists_setAll L2 B1 [.int .i64 i0, .bool t15, .int .i64 i2, .bool t10, .bool t9, .bool t8, .bool t7, .bool t6, .bool t5, .bool t4, .int .i64 i10, .slice x1 m.qs.length y1, .slice x2 m.an.length y2, .slice x3 m.au.length y3, .slice x4 m.ex.length y4] 0)))
  simp only [setAll, Nat.reduceAdd, Nat.zero_add] at HL
  clear B1 B2 be1 L2 L1 hb0 be0 hb1 hbA hcall
  go_wp2
  refine dec_back HL.out.1 ⟨_, _, _, _, _, _, _, _, _, _, _, _, _, _, _, rfl⟩ rfl rfl rfl ?_
  exact ⟨HL.out.2.1, _, _, _, _, rfl, HL.out.2.2⟩

theorem specDecode_any (v : Value) (l : List UInt8) (w : World) (h : BySl w v l) (hl : l.length ≤ 1048576) : Calls Try.prog 5 #[v] w (DecPost l w) := specDecode_wide v l w h (by omega)

theorem implDecode_wideO (v : Value) (l : List UInt8) (w : World) (h : BySl w v l) (hl : l.length ≤ 100000000) : Calls Try.prog 6 #[v] w (DecPost l w) := by
  refine (implDecode_wide v l w h hl).mono ?_
  rintro e w' ⟨hb, ⟨m, p, q, x, y, z, hm, rfl, hL⟩ | ⟨c, hm, rfl⟩⟩
  · refine ⟨hb, q, x, y, z, ?_, ?_⟩
    · rw [msO, hm]
    · rw [msO, hm]; exact hL
  · refine ⟨hb, .slice none 0 0, .slice none 0 0, .slice none 0 0, .slice none 0 0, ?_, ?_⟩
    · rw [msO, hm, ← msA_zero]
    · rw [msO, hm]; exact lists_none _ _

theorem implDecode_one (v : Value) (l : List UInt8) (w : World) (h : BySl w v l) (hl : l.length ≤ 1048576) : Calls Try.prog 6 #[v] w (DecPost l w) := implDecode_wideO v l w h (by omega)
end Go.Proofs.Ytocadkdfhfiijaa
/- A message in a variable, and its lists. -/
namespace Go.Proofs.Ytocadkdfhfiijaa
open Go.RowKit
set_option linter.unusedVariables false

/-- A message in a variable, and its lists. -/
structure MVar (W : World) (p B : Nat) (cs : Array Value) (m : Mm) (q a u x : Value) : Prop where
  b : Blk W p cs 29
  l : Lists W B m q a u x

theorem MVar.below {W W1 : World} {p B : Nat} {cs : Array Value} {m : Mm} {q a u x : Value} (h : MVar W p B cs m q a u x) (hb : Below W.heap.size W W1) : MVar W1 p B cs m q a u x := ⟨blk_below h.b hb, lists_below h.l hb⟩

theorem MVar.bytes {W W1 : World} {p B B' n : Nat} {cs : Array Value} {m : Mm} {q a u x v : Value} {xs : List Value} (h : MVar W p B cs m q a u x) (ho : W.ownsRow B' 5 1 v n xs) (hg : W.grownBy W1 v.ownBlock) : MVar W1 p B cs m q a u x :=
  ⟨blk_grown h.b hg (row_blk ho h.b (by decide)), own_apart h.l.rq ho (by decide) hg, own_apart h.l.ra ho (by decide) hg, own_apart h.l.ru ho (by decide) hg, own_apart h.l.rx ho (by decide) hg, h.l.au, h.l.ax, h.l.ux⟩

theorem mvar_new {W : World} {B : Nat} {cs : Array Value} {m : Mm} {q a u x : Value} (h : Lists W B m q a u x) : MVar (W.alloc (.cells cs 29)) W.heap.size B cs m q a u x :=
  ⟨blk_new W cs _, lists_below h ((Below.refl _ _).alloc (Nat.le_refl _) _)⟩

theorem Lists.base {W : World} {B B' : Nat} {m : Mm} {q a u x : Value} (h : Lists W B m q a u x) (hb : B' ≤ B) : Lists W B' m q a u x := ⟨own_base h.rq hb, own_base h.ra hb, own_base h.ru hb, own_base h.rx hb, h.au, h.ax, h.ux⟩

theorem below_more {B : Nat} {w W W1 : World} (h : Below B w W) (hb : Below W.heap.size W W1) (hB : B ≤ W.heap.size) : Below B w W1 := h.trans (hb.mono hB)
end Go.Proofs.Ytocadkdfhfiijaa
/- A name that was written is read again: mathematics. -/
namespace Go.Proofs.Ytocadkdfhfiijaa
open Go.RowKit
set_option linter.unusedVariables false

/-- Reading from 'pos' on, in a run that began at 'st', gives the name 't' and ends at 'nxt'. -/
def Dec (L : List UInt8) (st pos : Nat) (t : ByteArray) (nxt : Nat) : Prop := ∀ (acc : List UInt8) (nx : Option Nat), acc.length + t.size ≤ 255 → dnF L st pos acc nx = .ok (acc ++ t.data.toList) (nx.getD nxt)
/-- The places are such that names are read there. -/
def PlD (L : List UInt8) (pls : List (ByteArray × Nat)) : Prop := ∀ p ∈ pls, ∃ nxt, Dec L p.2 p.2 p.1 nxt
theorem PlD.nil (L : List UInt8) : PlD L [] := fun p hp => by cases hp

theorem by_pre {L R : List UInt8} (h : R <+: L) {i : Nat} (hi : i < R.length) : L[i]? = R[i]? := by
  obtain ⟨t, rfl⟩ := h
  rw [List.getElem?_append_left hi]
theorem byAt_get {L : List UInt8} {i : Nat} {b : UInt8} (h : L[i]? = some b) : byAt L i = b.toNat := by
  simp [byAt, List.getD_eq_getElem?_getD, h]
/-- L has these bytes from a place on. -/
def Has (L : List UInt8) (p : Nat) (xs : List UInt8) : Prop := ∀ i b, xs[i]? = some b → L[p + i]? = some b
theorem Has.left {L xs ys : List UInt8} {p : Nat} (h : Has L p (xs ++ ys)) : Has L p xs := fun i b hb => h i b (by rw [List.getElem?_append_left (List.getElem?_eq_some_iff.1 hb).1]; exact hb)
theorem Has.right {L xs ys : List UInt8} {p : Nat} (h : Has L p (xs ++ ys)) : Has L (p + xs.length) ys := fun i b hb => by
  have := h (xs.length + i) b (by rw [List.getElem?_append_right (by omega), Nat.add_sub_cancel_left]; exact hb)
  rwa [← Nat.add_assoc] at this
theorem Has.append {L xs ys : List UInt8} {p : Nat} (h1 : Has L p xs) (h2 : Has L (p + xs.length) ys) : Has L p (xs ++ ys) := fun i b hb => by
  by_cases hi : i < xs.length
  · rw [List.getElem?_append_left hi] at hb
    exact h1 i b hb
  · rw [List.getElem?_append_right (by omega)] at hb
    have := h2 _ b hb
    rwa [show p + xs.length + (i - xs.length) = p + i by omega] at this
theorem Has.lt {L xs : List UInt8} {p : Nat} (h : Has L p xs) (hx : 0 < xs.length) : p + xs.length ≤ L.length := by
  have := h (xs.length - 1) _ (List.getElem?_eq_getElem (by omega))
  have := (List.getElem?_eq_some_iff.1 this).1
  omega
theorem Has.cut {L xs : List UInt8} {p : Nat} (h : Has L p xs) : (L.drop p).take xs.length = xs := by
  apply List.ext_getElem?
  intro i
  by_cases hi : i < xs.length
  · have hx := List.getElem?_eq_getElem hi
    rw [List.getElem?_take_of_lt hi, List.getElem?_drop, h i _ hx, hx]
  · rw [List.getElem?_eq_none (by simp; omega), List.getElem?_eq_none (by omega)]
theorem Has.of_pre {L R : List UInt8} (h : R <+: L) {p : Nat} {xs ys zs : List UInt8} (hR : R = ys ++ xs ++ zs) (hp : ys.length = p) : Has L p xs := fun i b hb => by
  have hi := (List.getElem?_eq_some_iff.1 hb).1
  rw [by_pre h (by rw [hR]; simp; omega), hR, List.append_assoc, List.getElem?_append_right (by omega), hp, Nat.add_sub_cancel_left, List.getElem?_append_left hi]
  exact hb

/-- The bytes that a name adds. -/
theorem nmW_adds : ∀ (ls : List ByteArray) (bs : List UInt8) (pls : List (ByteArray × Nat)), ∃ xs, (nmW ls bs pls).1 = bs ++ xs := by
  intro ls
  induction ls with
  | nil => intro bs pls; exact ⟨[0], rfl⟩
  | cons l ls ih =>
    intro bs pls
    rw [nmW]
    split
    · exact ⟨_, rfl⟩
    · obtain ⟨xs, hx⟩ := ih (bs ++ (UInt8.ofNat l.size :: l.data.toList)) (if bs.length ≤ 16383 then pls ++ [(nmB (l :: ls), bs.length)] else pls)
      exact ⟨(UInt8.ofNat l.size :: l.data.toList) ++ xs, by rw [hx]; simp⟩

theorem seenS_is {pls : List (ByteArray × Nat)} {t : ByteArray} (h : 0 ≤ seenS pls t) : ∃ p ∈ pls, p.1 = t ∧ (p.2 : Int) = seenS pls t := by
  induction pls with
  | nil => simp [seenS] at h
  | cons p r ih =>
    rw [seenS] at h ⊢
    by_cases e : p.1 = t
    · exact ⟨p, List.mem_cons_self .., e, by rw [if_pos e]⟩
    · rw [if_neg e] at h ⊢
      obtain ⟨q, h1, h2, h3⟩ := ih h
      exact ⟨q, List.mem_cons_of_mem _ h1, h2, h3⟩

theorem put2_bytes (k : Nat) (hk : k ≤ 16383) : put2 (49152 + k) = [UInt8.ofNat (192 + k / 256), UInt8.ofNat (k % 256)] := by
  unfold put2
  congr 1
  · congr 1; omega
  · congr 2; omega

/-- The places while a name is written that began at 'a': older ones, or rests that are longer than what is left. -/
def Mid (L : List UInt8) (a n : Nat) (pls : List (ByteArray × Nat)) : Prop := ∀ p ∈ pls, (p.2 < a ∧ ∃ nxt, Dec L p.2 p.2 p.1 nxt) ∨ n < p.1.size

theorem nmW_dec (L : List UInt8) (a : Nat) : ∀ (ls : List ByteArray) (bs : List UInt8) (pls : List (ByteArray × Nat)), (∀ x ∈ ls, 1 ≤ x.size ∧ x.size ≤ 63) → a ≤ bs.length → PlOK pls bs.length → Mid L a (nmB ls).size pls →
    Has L a ((nmW ls bs pls).1.drop a) → ∀ st, a ≤ st → Dec L st bs.length (nmB ls) (nmW ls bs pls).1.length := by
  intro ls
  induction ls with
  | nil =>
    intro bs pls hx ha hok hmid hag st hst acc nx hacc
    have h0 : L[bs.length]? = some 0 := by
      have := hag (bs.length - a) 0 (by simp [nmW, List.getElem?_drop, show a + (bs.length - a) = bs.length by omega])
      rwa [show a + (bs.length - a) = bs.length by omega] at this
    have hlt := (List.getElem?_eq_some_iff.1 h0).1
    rw [dnF_root hlt (by rw [byAt_get h0]; rfl), nmB_data]
    simp [nmW]
    rfl
  | cons l ls ih =>
    intro bs pls hx ha hok hmid hag st hst acc nx hacc
    obtain ⟨x1, x2⟩ := hx l (List.mem_cons_self ..)
    have hsz := nmB_size (l :: ls)
    have hsz2 := nmB_size ls
    have hws : Nm.wsum (l :: ls) = 1 + l.size + Nm.wsum ls := by simp [Nm.wsum]
    rw [nmW] at hag ⊢
    by_cases hsn : 0 ≤ seenS pls (nmB (l :: ls))
    · rw [if_pos hsn] at hag ⊢
      obtain ⟨p, hp, hp1, hp2⟩ := seenS_is hsn
      obtain ⟨_, s2⟩ := seenS_lt hok (nmB (l :: ls))
      have hk : (seenS pls (nmB (l :: ls))).toNat = p.2 := by omega
      rw [hk] at hag ⊢
      have hk2 : p.2 ≤ 16383 := by omega
      rw [put2_bytes p.2 hk2] at hag ⊢
      rcases hmid p hp with ⟨hlt, nxt, hdec⟩ | hbig
      · have g0 : L[bs.length]? = some (UInt8.ofNat (192 + p.2 / 256)) := by
          have := hag (bs.length - a) _ (by rw [List.getElem?_drop, show a + (bs.length - a) = bs.length by omega, List.getElem?_append_right (Nat.le_refl _), Nat.sub_self]; rfl)
          rwa [show a + (bs.length - a) = bs.length by omega] at this
        have g1 : L[bs.length + 1]? = some (UInt8.ofNat (p.2 % 256)) := by
          have := hag (bs.length + 1 - a) _ (by rw [List.getElem?_drop, show a + (bs.length + 1 - a) = bs.length + 1 by omega, List.getElem?_append_right (by omega), show bs.length + 1 - bs.length = 1 by omega]; rfl)
          rwa [show a + (bs.length + 1 - a) = bs.length + 1 by omega] at this
        have e0 : byAt L bs.length = 192 + p.2 / 256 := by rw [byAt_get g0]; simp; omega
        have e1 : byAt L (bs.length + 1) = p.2 % 256 := by rw [byAt_get g1]; simp
        have hl1 := (List.getElem?_eq_some_iff.1 g1).1
        have e2 : (byAt L bs.length - 192) * 256 + byAt L (bs.length + 1) = p.2 := by rw [e0, e1]; omega
        rw [dnF_ptr (by omega) hl1 (by omega), e2, hdec acc _ (by rw [hp1]; exact hacc), hp1]
        simp
      · rw [hp1] at hbig
        omega
    · rw [if_neg hsn] at hag ⊢
      generalize hpl : (if bs.length ≤ 16383 then pls ++ [(nmB (l :: ls), bs.length)] else pls) = pls' at hag ⊢
      obtain ⟨xs, hxs⟩ := nmW_adds ls (bs ++ (UInt8.ofNat l.size :: l.data.toList)) pls'
      have hlab : Has L bs.length (UInt8.ofNat l.size :: l.data.toList) := by
        intro i b hb
        have hi := (List.getElem?_eq_some_iff.1 hb).1
        have := hag (bs.length - a + i) b (by
          rw [hxs, List.getElem?_drop, show a + (bs.length - a + i) = bs.length + i by omega, List.append_assoc, List.getElem?_append_right (by omega), Nat.add_sub_cancel_left, List.getElem?_append_left hi]
          exact hb)
        rwa [show a + (bs.length - a + i) = bs.length + i by omega] at this
      have g0 : byAt L bs.length = l.size := by
        have := hlab 0 _ rfl
        rw [Nat.add_zero] at this
        rw [byAt_get this]; simp; omega
      have hll : (UInt8.ofNat l.size :: l.data.toList).length = 1 + l.size := by simp; omega
      have hle := hlab.lt (by rw [hll]; omega)
      rw [hll] at hle
      have hok' : PlOK pls' (bs ++ (UInt8.ofNat l.size :: l.data.toList)).length := by
        rw [← hpl]
        split
        · rename_i hs
          exact (hok.put (p := (nmB (l :: ls), bs.length)) hs).mono (by simp)
        · exact hok.mono (by simp)
      have hmid' : Mid L a (nmB ls).size pls' := by
        intro p hp
        rw [← hpl] at hp
        have hold : p ∈ pls → (p.2 < a ∧ ∃ nxt, Dec L p.2 p.2 p.1 nxt) ∨ (nmB ls).size < p.1.size := fun hp => by
          rcases hmid p hp with h | h
          · exact .inl h
          · right; omega
        split at hp
        · rcases List.mem_append.1 hp with hp | hp
          · exact hold hp
          · simp at hp
            subst hp
            right
            show (nmB ls).size < (nmB (l :: ls)).size
            omega
        · exact hold hp
      rw [dnF_more (by omega) (by omega) (by omega) (by omega), g0, ← hll, hlab.cut, show bs.length + 1 + l.size = (bs ++ (UInt8.ofNat l.size :: l.data.toList)).length by rw [List.length_append, hll]; omega]
      rw [ih (bs ++ (UInt8.ofNat l.size :: l.data.toList)) pls' (fun x hx' => hx x (List.mem_cons_of_mem _ hx')) (by simp; omega) hok' hmid' hag st hst (acc ++ (UInt8.ofNat l.size :: l.data.toList)) nx (by rw [List.length_append, hll]; omega)]
      rw [nmB_data, nmB_data_cons]
      simp
end Go.Proofs.Ytocadkdfhfiijaa
/- Questions and records that were written are read again: mathematics. -/
namespace Go.Proofs.Ytocadkdfhfiijaa
open Go.RowKit
set_option linter.unusedVariables false

/-- A name from a state on: it is read, and the places are as they should be. -/
theorem nmX_dec {L : List UInt8} {x : ByteArray} {s : Wst} (hx : (Nm.split x).isSome = true) (hok : PlOK s.2 s.1.length) (hpl : PlD L s.2) (hlt : ∀ p ∈ s.2, p.2 < s.1.length) (hag : Has L s.1.length ((nmX x s).1.drop s.1.length)) :
    dnF L s.1.length s.1.length [] none = .ok x.data.toList (nmX x s).1.length ∧ PlD L (nmX x s).2 ∧ ∀ p ∈ (nmX x s).2, p.2 < (nmX x s).1.length := by
  obtain ⟨ls, hs⟩ := Option.isSome_iff_exists.1 hx
  rw [nmX_of hs] at hag ⊢
  have hxs := (Nm.split_join hs).2
  have hsz := Nm.split_size hs
  have hxe := nmB_split hs
  have hmid : Mid L s.1.length (nmB ls).size s.2 := fun p hp => .inl ⟨hlt p hp, hpl p hp⟩
  refine ⟨?_, ?_⟩
  · have := nmW_dec L s.1.length ls s.1 s.2 hxs (Nat.le_refl _) hok hmid hag s.1.length (Nat.le_refl _) [] none (by rw [hxe]; simp; omega)
    rw [this, hxe]
    rfl
  · -- the places that the name adds
    suffices H : ∀ (ls : List ByteArray) (bs : List UInt8) (pls : List (ByteArray × Nat)), (∀ x ∈ ls, 1 ≤ x.size ∧ x.size ≤ 63) → s.1.length ≤ bs.length → PlOK pls bs.length → Mid L s.1.length (nmB ls).size pls → Has L s.1.length ((nmW ls bs pls).1.drop s.1.length) → PlD L pls → (∀ p ∈ pls, p.2 < bs.length) → PlD L (nmW ls bs pls).2 ∧ ∀ p ∈ (nmW ls bs pls).2, p.2 < (nmW ls bs pls).1.length from
      H ls s.1 s.2 hxs (Nat.le_refl _) hok hmid hag hpl hlt
    intro ls
    induction ls with
    | nil =>
      intro bs pls h1 h2 h3 h4 h5 h6 h7
      refine ⟨h6, fun p hp => ?_⟩
      have := h7 p hp
      simp [nmW]
      omega
    | cons l ls ih =>
      intro bs pls h1 h2 h3 h4 h5 h6 h7
      have hD := nmW_dec L s.1.length (l :: ls) bs pls h1 h2 h3 h4 h5 bs.length h2
      rw [nmW] at h5 hD ⊢
      by_cases hsn : 0 ≤ seenS pls (nmB (l :: ls))
      · rw [if_pos hsn] at h5 ⊢
        refine ⟨h6, fun p hp => ?_⟩
        have := h7 p hp
        simp
        omega
      · rw [if_neg hsn] at h5 hD ⊢
        have hsz := nmB_size (l :: ls)
        have hsz2 := nmB_size ls
        have hws : Nm.wsum (l :: ls) = 1 + l.size + Nm.wsum ls := by simp [Nm.wsum]
        have hlen : bs.length < (bs ++ (UInt8.ofNat l.size :: l.data.toList)).length := by simp
        generalize hpl' : (if bs.length ≤ 16383 then pls ++ [(nmB (l :: ls), bs.length)] else pls) = pls' at h5 hD ⊢
        have hmem : ∀ p ∈ pls', p ∈ pls ∨ p = (nmB (l :: ls), bs.length) := by
          intro p hp
          rw [← hpl'] at hp
          split at hp
          · rcases List.mem_append.1 hp with hp | hp
            · exact .inl hp
            · right; simpa using hp
          · exact .inl hp
        refine ih _ pls' (fun x hx => h1 x (List.mem_cons_of_mem _ hx)) (by omega) ?_ ?_ h5 ?_ ?_
        · rw [← hpl']
          split
          · rename_i hs'
            exact (h3.put (p := (nmB (l :: ls), bs.length)) hs').mono (by simp)
          · exact h3.mono (by simp)
        · intro p hp
          rcases hmem p hp with hp | rfl
          · rcases h4 p hp with h | h
            · exact .inl h
            · right; omega
          · right
            show (nmB ls).size < (nmB (l :: ls)).size
            omega
        · intro p hp
          rcases hmem p hp with hp | rfl
          · exact h6 p hp
          · exact ⟨_, hD⟩
        · intro p hp
          rcases hmem p hp with hp | rfl
          · have := h7 p hp; omega
          · exact hlen

theorem n16_has {L : List UInt8} {p n : Nat} (h : Has L p (put2 n)) (hn : n < 65536) : n16 L p = n := by
  have hl : (put2 n).length = 2 := rfl
  have hc := h.cut
  rw [hl] at hc
  rw [n16, hc]
  simp [put2, numL]
  omega
theorem n32_has {L : List UInt8} {p : Nat} {n : Int} (h : Has L p (put4 n)) (h0 : 0 ≤ n) (h1 : n ≤ 4294967295) : (n32 L p : Int) = n := by
  have hl : (put4 n).length = 4 := rfl
  have hc := h.cut
  rw [hl] at hc
  rw [n32, cutL, hc]
  have a := byteI_val (n / 16777216)
  have b := byteI_val (n / 65536)
  have c := byteI_val (n / 256)
  have d := byteI_val n
  simp only [put4, numL, List.foldl_cons, List.foldl_nil]
  omega

def qmOf (q : Qr) : Qm := ⟨q.nm.data.toList, q.ty.toNat, q.cl.toNat⟩
def rmOf (r : Rr) : Rm := ⟨r.own.data.toList, r.ty.toNat, r.cl.toNat, r.tt.toNat, r.da.data.toList⟩
/-- What a state says: its places are as they should be. -/
structure StD (L : List UInt8) (s : Wst) : Prop where
  ok : PlOK s.2 s.1.length
  pl : PlD L s.2
  lt : ∀ p ∈ s.2, p.2 < s.1.length

theorem quS_dec {L : List UInt8} {q : Qr} {s : Wst} (h : quOK q = true) (hs : StD L s) (hpre : (qqW q s).1 <+: L) : quS L s.1.length = .ok (qmOf q) (qqW q s).1.length ∧ StD L (qqW q s) := by
  obtain ⟨h1, ⟨t, ht, htl⟩, ⟨c, hc, hcl⟩⟩ := qu_parts h
  obtain ⟨ls, hls⟩ := Option.isSome_iff_exists.1 h1
  obtain ⟨xs, hxs⟩ := nmW_adds ls s.1 s.2
  rw [← nmX_of hls s] at hxs
  have hag : Has L s.1.length ((nmX q.nm s).1.drop s.1.length) := by
    rw [hxs, List.drop_left' rfl]
    exact Has.of_pre hpre (ys := s.1) (zs := put2 q.ty.toNat ++ put2 q.cl.toNat) (by rw [qqW, hxs]) rfl
  obtain ⟨d1, d2, d3⟩ := nmX_dec h1 hs.ok hs.pl hs.lt hag
  have g1 : Has L (nmX q.nm s).1.length (put2 t) := Has.of_pre hpre (ys := (nmX q.nm s).1) (zs := put2 c) (by rw [qqW, ht, hc]; simp) rfl
  have g2 : Has L ((nmX q.nm s).1.length + 2) (put2 c) := Has.of_pre hpre (ys := (nmX q.nm s).1 ++ put2 t) (zs := []) (by rw [qqW, ht, hc]; simp) (by simp [put2])
  have hle := g2.lt (by simp [put2])
  have hl2 : (put2 c).length = 2 := rfl
  have hqz : (qqW q s).1.length = (nmX q.nm s).1.length + 4 := by simp [qqW, put2]
  refine ⟨?_, ?_⟩
  · rw [quS, d1]
    simp only
    rw [if_pos (by omega), n16_has g1 htl, n16_has g2 hcl, hqz, qmOf, ht, hc]
    rfl
  · refine ⟨qqW_ok q s hs.ok, d2, fun p hp => ?_⟩
    have := d3 p hp
    rw [hqz]
    omega
end Go.Proofs.Ytocadkdfhfiijaa
/- Records that were written are read again: mathematics. -/
namespace Go.Proofs.Ytocadkdfhfiijaa
open Go.RowKit
set_option linter.unusedVariables false

def toPc : Option Nat → Dt.Pc
  | none => .nm
  | some n => .bs n
theorem implP_pieces {t : Nat} (h : pointed t) : Dt.implP t = (piecesOf t).map toPc := by
  rcases h with rfl | rfl | rfl | rfl | rfl <;> rfl

/-- The parts are as the pieces say. -/
def PcOK : List (Option Nat) → List ByteArray → Prop
  | [], [] => True
  | none :: ps, x :: xs => (Nm.split x).isSome = true ∧ PcOK ps xs
  | some n :: ps, x :: xs => x.size = n ∧ PcOK ps xs
  | _, _ => False

theorem parts_ok : ∀ (ps : List (Option Nat)) (d : ByteArray) (xs : List ByteArray), Dt.parts (ps.map toPc) d = some xs → PcOK ps xs := by
  intro ps
  induction ps with
  | nil =>
    intro d xs h
    rw [List.map_nil, Dt.parts] at h
    split at h
    · simp at h; subst h; exact trivial
    · cases h
  | cons p ps ih =>
    intro d xs h
    rw [List.map_cons, Dt.parts] at h
    cases hs : Dt.sz (toPc p) d with
    | none => rw [hs] at h; cases h
    | some n =>
      rw [hs] at h
      have hn := Dt.sz_le hs
      cases hr : Dt.parts (ps.map toPc) (d.extract n d.size) with
      | none => simp [hr] at h
      | some l =>
        simp [hr] at h
        subst h
        have hi := ih _ _ hr
        cases p with
        | none =>
          refine ⟨?_, hi⟩
          simp only [toPc, Dt.sz] at hs
          split at hs
          · cases hs
          · rename_i h0
            simp at hs
            rw [← hs, Dt.name_ext d h0]
            exact Dt.nameAt_name h0
        | some k =>
          refine ⟨?_, hi⟩
          simp only [toPc, Dt.sz] at hs
          split at hs
          · simp at hs
            subst hs
            simp
            omega
          · cases hs

theorem daP_adds : ∀ (fs : List Dt.Pc) (xs : List ByteArray) (s : Wst), ∃ ys, (daP fs xs s).1 = s.1 ++ ys := by
  intro fs
  induction fs with
  | nil => intro xs s; exact ⟨[], by simp [daP]⟩
  | cons p fs ih =>
    intro xs s
    cases xs with
    | nil => exact ⟨[], by simp [daP]⟩
    | cons x xs =>
      rw [daP]
      obtain ⟨ys, hy⟩ := ih xs (if p.isN then nmX x s else (s.1 ++ x.data.toList, s.2))
      cases hN : p.isN with
      | true =>
        rw [hN] at hy
        simp only [if_true] at hy ⊢
        obtain ⟨zs, hz⟩ := nmW_adds ((Nm.split x).getD []) s.1 s.2
        exact ⟨zs ++ ys, by rw [hy, nmX, hz]; simp⟩
      | false =>
        rw [hN] at hy
        simp only [Bool.false_eq_true, if_false] at hy ⊢
        exact ⟨x.data.toList ++ ys, by rw [hy]; simp⟩

theorem daP_more : ∀ (ps : List (Option Nat)) (xs : List ByteArray) (s : Wst), PcOK ps xs → none ∈ ps → s.1.length < (daP (ps.map toPc) xs s).1.length := by
  intro ps
  induction ps with
  | nil => intro xs s h hn; cases hn
  | cons p ps ih =>
    intro xs s h hn
    cases xs with
    | nil => cases p <;> exact absurd h (by simp [PcOK])
    | cons x xs =>
      cases p with
      | none =>
        have e : daP ((none :: ps).map toPc) (x :: xs) s = daP (ps.map toPc) xs (nmX x s) := rfl
        obtain ⟨ys, hy⟩ := daP_adds (ps.map toPc) xs (nmX x s)
        have := nmX_len h.1 s
        rw [e, hy, List.length_append]
        omega
      | some n =>
        have e : daP ((some n :: ps).map toPc) (x :: xs) s = daP (ps.map toPc) xs (s.1 ++ x.data.toList, s.2) := rfl
        have := ih xs (s.1 ++ x.data.toList, s.2) h.2 (by simpa using hn)
        rw [e]
        simp at this
        omega
theorem pieces_name {t : Nat} (h : pointed t) : none ∈ piecesOf t := by
  rcases h with rfl | rfl | rfl | rfl | rfl <;> decide

theorem StD.text {L : List UInt8} {s : Wst} (h : StD L s) (xs : List UInt8) : StD L (s.1 ++ xs, s.2) := ⟨h.ok.mono (by simp), h.pl, fun p hp => by have := h.lt p hp; simp; omega⟩

theorem dtP_dec {L : List UInt8} : ∀ (ps : List (Option Nat)) (xs : List ByteArray) (s : Wst) (acc : List UInt8), PcOK ps xs → StD L s → Has L s.1.length ((daP (ps.map toPc) xs s).1.drop s.1.length) →
    dtP L (daP (ps.map toPc) xs s).1.length ps s.1.length acc = .ok (acc ++ Dt.catL xs) (daP (ps.map toPc) xs s).1.length ∧ StD L (daP (ps.map toPc) xs s) := by
  intro ps
  induction ps with
  | nil =>
    intro xs s acc hp hs hag
    cases xs with
    | nil => exact ⟨by simp [daP, dtP, Dt.catL], hs⟩
    | cons x xs => exact absurd hp (by simp [PcOK])
  | cons p ps ih =>
    intro xs s acc hp hs hag
    cases xs with
    | nil => cases p <;> exact absurd hp (by simp [PcOK])
    | cons x xs =>
      have hcat : Dt.catL (x :: xs) = x.data.toList ++ Dt.catL xs := by simp [Dt.catL]
      cases p with
      | none =>
        obtain ⟨h1, h2⟩ := hp
        have e : daP ((none :: ps).map toPc) (x :: xs) s = daP (ps.map toPc) xs (nmX x s) := rfl
        rw [e] at hag ⊢
        obtain ⟨ys, hy⟩ := daP_adds (ps.map toPc) xs (nmX x s)
        obtain ⟨zs, hz⟩ := nmW_adds ((Nm.split x).getD []) s.1 s.2
        have hz' : (nmX x s).1 = s.1 ++ zs := hz
        rw [hy, hz', List.append_assoc, List.drop_left' rfl] at hag
        have g1 : Has L s.1.length ((nmX x s).1.drop s.1.length) := by rw [hz', List.drop_left' rfl]; exact hag.left
        obtain ⟨d1, d2, d3⟩ := nmX_dec h1 hs.ok hs.pl hs.lt g1
        have hs2 : StD L (nmX x s) := ⟨nmX_ok x s hs.ok, d2, d3⟩
        have g2 : Has L (nmX x s).1.length ((daP (ps.map toPc) xs (nmX x s)).1.drop (nmX x s).1.length) := by
          rw [hy, List.drop_left' rfl]
          have := hag.right
          rwa [show s.1.length + zs.length = (nmX x s).1.length by rw [hz']; simp] at this
        have hle : (nmX x s).1.length ≤ (daP (ps.map toPc) xs (nmX x s)).1.length := by rw [hy]; simp
        obtain ⟨i1, i2⟩ := ih xs (nmX x s) (acc ++ x.data.toList) h2 hs2 g2
        refine ⟨?_, i2⟩
        rw [dtP, d1]
        simp only
        rw [if_pos hle, i1, hcat, List.append_assoc]
      | some n =>
        obtain ⟨h1, h2⟩ := hp
        have e : daP ((some n :: ps).map toPc) (x :: xs) s = daP (ps.map toPc) xs (s.1 ++ x.data.toList, s.2) := rfl
        rw [e] at hag ⊢
        obtain ⟨ys, hy⟩ := daP_adds (ps.map toPc) xs (s.1 ++ x.data.toList, s.2)
        have hxl : x.data.toList.length = n := by rw [← h1]; simp
        simp only at hy
        rw [hy, List.append_assoc, List.drop_left' rfl] at hag
        have hs2 := hs.text x.data.toList
        have g2 : Has L (s.1 ++ x.data.toList).length ((daP (ps.map toPc) xs (s.1 ++ x.data.toList, s.2)).1.drop (s.1 ++ x.data.toList).length) := by
          rw [hy, List.drop_left' rfl, List.length_append]
          exact hag.right
        have hl2 : (s.1 ++ x.data.toList).length = s.1.length + n := by rw [List.length_append, hxl]
        have hle : s.1.length + n ≤ (daP (ps.map toPc) xs (s.1 ++ x.data.toList, s.2)).1.length := by rw [hy]; simp; omega
        have hcut : cutL L s.1.length n = x.data.toList := by rw [cutL, ← hxl]; exact hag.left.cut
        obtain ⟨i1, i2⟩ := ih xs (s.1 ++ x.data.toList, s.2) (acc ++ x.data.toList) h2 hs2 g2
        refine ⟨?_, i2⟩
        simp only [hl2] at i1
        rw [dtP, if_pos hle, hcut, i1, hcat, List.append_assoc]

/-- Data as it is written where names may have pointers. -/
theorem daW_impl {t : Nat} {d : ByteArray} (hp : pointed t) (hd : d.size ≠ 0) (hc : cutCode t d = 0) (s : Wst) : ∃ xs, Dt.parts (Dt.implP t) d = some xs ∧ daW t d s = daP (Dt.implP t) xs s := by
  obtain ⟨h1, _⟩ := (daS_daW (.inr hc) s).1 hp
  obtain ⟨sp, hsp⟩ := code_zero.1 hc
  obtain ⟨ps, g1, g2, g3⟩ := good_parts hc
  have e : Dt.spans (Dt.specP t) 0 d = some (Dt.spansOf (Dt.specP t) ps 0) := by rw [Dt.spans_of_parts, g1]; rfl
  rw [Dt.forms_agree, Dt.spans_of_parts] at e
  cases hq : Dt.parts (Dt.implP t) d with
  | none => rw [hq] at e; cases e
  | some xs =>
    refine ⟨xs, rfl, ?_⟩
    rw [hq] at e
    simp at e
    obtain ⟨p1, p2, p3⟩ := Dt.parts_cat _ _ _ hq
    rw [← h1, g2, Option.getD_some, ← e, daS_parts _ _ _ _ _ _ p1 (Nat.le_refl _) (Nat.zero_le _) (by simpa using p2)]
    have : (d.extract 0 0).data.toList = [] := by rw [ex_list]; simp
    rw [this, List.append_nil]

theorem dataS_dec {L : List UInt8} {t : Nat} {d : ByteArray} {s : Wst} (h : d.size = 0 ∨ cutCode t d = 0) (hs : StD L s) (hag : Has L s.1.length ((daW t d s).1.drop s.1.length)) :
    dataS L t s.1.length (daW t d s).1.length = .ok d.data.toList (daW t d s).1.length ∧ StD L (daW t d s) := by
  by_cases hd : d.size = 0
  · have e : daW t d s = (s.1 ++ d.data.toList, s.2) := by rw [daW, if_pos (.inl hd)]
    have hnil : d.data.toList = [] := List.eq_nil_of_length_eq_zero (by simpa using hd)
    rw [e, hnil, List.append_nil]
    exact ⟨by rw [dataS, if_pos rfl], hs⟩
  · have hc := h.resolve_left hd
    by_cases hp : pointed t
    · obtain ⟨xs, hx, e⟩ := daW_impl hp hd hc s
      rw [e] at hag ⊢
      rw [implP_pieces hp] at hag hx ⊢
      obtain ⟨c1, c2, _⟩ := Dt.parts_cat _ _ _ hx
      obtain ⟨i1, i2⟩ := dtP_dec (piecesOf t) xs s [] (parts_ok _ _ _ hx) hs hag
      refine ⟨?_, i2⟩
      have hne : s.1.length ≠ (daP ((piecesOf t).map toPc) xs s).1.length := by
        have := daP_more (piecesOf t) xs s (parts_ok _ _ _ hx) (pieces_name hp)
        omega
      rw [dataS, if_neg hne, if_pos hp, i1, c2]
      simp
    · have e : daW t d s = (s.1 ++ d.data.toList, s.2) := by rw [daW, if_pos (.inr hp)]
      rw [e] at hag ⊢
      rw [List.drop_left' rfl] at hag
      have hl : (s.1 ++ d.data.toList).length = s.1.length + d.size := by simp
      have hcut : cutL L s.1.length d.size = d.data.toList := by
        have := hag.cut
        rwa [show d.data.toList.length = d.size by simp] at this
      refine ⟨?_, hs.text _⟩
      simp only [hl]
      rw [dataS, if_neg (by omega), if_neg hp, show s.1.length + d.size - s.1.length = d.size by omega, hcut]
      have : (⟨d.data.toList.toArray⟩ : ByteArray) = d := by apply Nm.ba_ext; simp
      rw [this, if_pos hc]

theorem daW_adds (t : Nat) (d : ByteArray) (s : Wst) : ∃ ys, (daW t d s).1 = s.1 ++ ys := by
  rw [daW]
  split
  · exact ⟨_, rfl⟩
  · exact daP_adds _ _ _

theorem set_two (P ys : List UInt8) (a b : UInt8) : ((P ++ [0, 0] ++ ys).set P.length a).set (P.length + 1) b = P ++ [a, b] ++ ys := by
  have e1 : P ++ [0, 0] ++ ys = P ++ (0 :: 0 :: ys) := by simp
  have e2 : P ++ [a, b] ++ ys = P ++ (a :: b :: ys) := by simp
  rw [e1, e2, List.set_append_right _ _ (Nat.le_refl _), Nat.sub_self, List.set_cons_zero, List.set_append_right _ _ (by omega), Nat.add_sub_cancel_left]
  rfl

theorem rrFin_eq {A D : Wst} {P ys : List UInt8} (hA : A.1 = P ++ [0, 0]) (hD : D.1 = A.1 ++ ys) : (rrFin A.1.length D).1 = P ++ put2 ys.length ++ ys := by
  have hl : A.1.length = P.length + 2 := by rw [hA]; simp
  have hn : D.1.length - A.1.length = ys.length := by rw [hD]; simp
  rw [rrFin, hn, hl, show P.length + 2 - 2 = P.length by omega, show P.length + 2 - 1 = P.length + 1 by omega, hD, hA]
  exact set_two P ys _ _

theorem rrS_dec {L : List UInt8} {r : Rr} {s : Wst} (h : rcOK r = true) (hs : StD L s) (hpre : (rrW r s).1 <+: L) : rrS L s.1.length = .ok (rmOf r) (rrW r s).1.length ∧ StD L (rrW r s) := by
  obtain ⟨h1, ⟨t, ht, htl⟩, ⟨c, hc, hcl⟩, h4, h5, h6, h7⟩ := rc_parts h
  rw [ht] at h6
  obtain ⟨ls, hls⟩ := Option.isSome_iff_exists.1 h1
  obtain ⟨xs, hxs⟩ := nmW_adds ls s.1 s.2
  rw [← nmX_of hls s] at hxs
  have hN := nmX_len h1 s
  generalize hNm : nmX r.own s = N at *
  have hA : (rrA r.own t c r.tt s).1 = (N.1 ++ (put2 t ++ put2 c ++ put4 r.tt)) ++ [0, 0] := by simp [rrA, hNm]
  have hA2 : (rrA r.own t c r.tt s).2 = N.2 := by simp [rrA, hNm]
  have hAl : (rrA r.own t c r.tt s).1.length = N.1.length + 10 := by rw [hA]; simp [put2, put4]
  obtain ⟨ys, hys⟩ := daW_adds t r.da (rrA r.own t c r.tt s)
  have hdl := daW_len h6 (rrA r.own t c r.tt s)
  have hyl : ys.length < 65536 := by rw [hys, List.length_append] at hdl; omega
  have hW : (rrW r s).1 = (N.1 ++ (put2 t ++ put2 c ++ put4 r.tt)) ++ put2 ys.length ++ ys := by
    have := rrFin_eq hA hys
    rw [rrW, ht, hc]
    simp only [Int.toNat_natCast]
    exact this
  have hW2 : (rrW r s).2 = (daW t r.da (rrA r.own t c r.tt s)).2 := by rw [rrW, ht, hc]; rfl
  rw [hW] at hpre
  have hag : Has L s.1.length (N.1.drop s.1.length) := by
    rw [hxs, List.drop_left' rfl]
    exact Has.of_pre hpre (ys := s.1) (zs := (put2 t ++ put2 c ++ put4 r.tt) ++ put2 ys.length ++ ys) (by rw [hxs]; simp) rfl
  obtain ⟨d1, d2, d3⟩ := nmX_dec h1 hs.ok hs.pl hs.lt (by rw [hNm]; exact hag)
  rw [hNm] at d1 d2 d3
  have hNk : PlOK N.2 N.1.length := by rw [← hNm]; exact nmX_ok r.own s hs.ok
  have g1 : Has L N.1.length (put2 t) := Has.of_pre hpre (ys := N.1) (zs := put2 c ++ put4 r.tt ++ put2 ys.length ++ ys) (by simp) rfl
  have g2 : Has L (N.1.length + 2) (put2 c) := Has.of_pre hpre (ys := N.1 ++ put2 t) (zs := put4 r.tt ++ put2 ys.length ++ ys) (by simp) (by simp [put2])
  have g3 : Has L (N.1.length + 4) (put4 r.tt) := Has.of_pre hpre (ys := N.1 ++ put2 t ++ put2 c) (zs := put2 ys.length ++ ys) (by simp) (by simp [put2])
  have g4 : Has L (N.1.length + 8) (put2 ys.length) := Has.of_pre hpre (ys := N.1 ++ put2 t ++ put2 c ++ put4 r.tt) (zs := ys) (by simp) (by simp [put2, put4])
  have g5 : Has L (N.1.length + 10) ys := Has.of_pre hpre (ys := N.1 ++ put2 t ++ put2 c ++ put4 r.tt ++ put2 ys.length) (zs := []) (by simp) (by simp [put2, put4])
  have hle : N.1.length + 10 + ys.length ≤ L.length := by
    obtain ⟨z, rfl⟩ := hpre
    simp [put2, put4]
    omega
  have hsA : StD L (rrA r.own t c r.tt s) := by
    refine ⟨rrA_ok _ _ _ _ _ hs.ok, by rw [hA2]; exact d2, fun p hp => ?_⟩
    rw [hA2] at hp
    have := d3 p hp
    rw [hAl]
    omega
  have hagD : Has L (rrA r.own t c r.tt s).1.length ((daW t r.da (rrA r.own t c r.tt s)).1.drop (rrA r.own t c r.tt s).1.length) := by
    rw [hys, List.drop_left' rfl, hAl]
    exact g5
  obtain ⟨e1, e2⟩ := dataS_dec h6 hsA hagD
  have hDl : (daW t r.da (rrA r.own t c r.tt s)).1.length = N.1.length + 10 + ys.length := by rw [hys, List.length_append, hAl]
  rw [hAl, hDl] at e1
  have hRl : (rrW r s).1.length = N.1.length + 10 + ys.length := by rw [hW]; simp [put2, put4]; omega
  refine ⟨?_, ⟨rrW_ok r s hs.ok, by rw [hW2]; exact e2.pl, fun p hp => ?_⟩⟩
  · have q3 := n32_has g3 h4 h5
    rw [rrS, d1]
    simp only
    rw [n16_has g4 hyl, if_pos (by omega), if_pos hle, n16_has g1 htl, n16_has g2 hcl, e1, hRl]
    simp only
    rw [rmOf, ht, hc]
    simp only [Int.toNat_natCast]
    rw [show n32 L (N.1.length + 4) = r.tt.toNat by omega]
  · rw [hW2] at hp
    have := e2.lt p hp
    rw [hDl] at this
    rw [hRl]
    exact this
end Go.Proofs.Ytocadkdfhfiijaa
/- A message that was written is read again: mathematics. -/
namespace Go.Proofs.Ytocadkdfhfiijaa
open Go.RowKit
set_option linter.unusedVariables false

theorem nmX_pre (x : ByteArray) (s : Wst) : s.1 <+: (nmX x s).1 := by
  obtain ⟨xs, h⟩ := nmW_adds ((Nm.split x).getD []) s.1 s.2
  exact ⟨xs, h.symm⟩
theorem qqW_pre (q : Qr) (s : Wst) : s.1 <+: (qqW q s).1 := (nmX_pre q.nm s).trans ⟨_, rfl⟩
theorem qqWs_pre : ∀ (l : List Qr) (s : Wst), s.1 <+: (qqWs l s).1 := by
  intro l
  induction l with
  | nil => intro s; exact List.prefix_refl _
  | cons q l ih => intro s; rw [qqWs_cons]; exact (qqW_pre q s).trans (ih _)
theorem rrW_pre {r : Rr} (h : rcOK r = true) (s : Wst) : s.1 <+: (rrW r s).1 := by
  obtain ⟨h1, ⟨t, ht, htl⟩, ⟨c, hc, hcl⟩, _⟩ := rc_parts h
  have hA : (rrA r.own t c r.tt s).1 = ((nmX r.own s).1 ++ (put2 t ++ put2 c ++ put4 r.tt)) ++ [0, 0] := by simp [rrA]
  obtain ⟨ys, hys⟩ := daW_adds t r.da (rrA r.own t c r.tt s)
  have hW : (rrW r s).1 = ((nmX r.own s).1 ++ (put2 t ++ put2 c ++ put4 r.tt)) ++ put2 ys.length ++ ys := by
    have := rrFin_eq hA hys
    rw [rrW, ht, hc]
    simp only [Int.toNat_natCast]
    exact this
  rw [hW, List.append_assoc, List.append_assoc]
  exact (nmX_pre r.own s).trans ⟨_, rfl⟩
theorem rrWs_pre : ∀ (l : List Rr) (s : Wst), l.all rcOK = true → s.1 <+: (rrWs l s).1 := by
  intro l
  induction l with
  | nil => intro s h; exact List.prefix_refl _
  | cons r l ih =>
    intro s h
    simp only [List.all_cons, Bool.and_eq_true] at h
    rw [rrWs_cons]
    exact (rrW_pre h.1 s).trans (ih _ h.2)

theorem manyQ_dec {L : List UInt8} : ∀ (l : List Qr) (s : Wst) (acc : List Qm), l.all quOK = true → StD L s → (qqWs l s).1 <+: L → manyS (quS L) l.length s.1.length acc = .ok (acc ++ l.map qmOf) (qqWs l s).1.length ∧ StD L (qqWs l s) := by
  intro l
  induction l with
  | nil => intro s acc h hs hp; exact ⟨by simp [manyS, qqWs], hs⟩
  | cons q l ih =>
    intro s acc h hs hp
    simp only [List.all_cons, Bool.and_eq_true] at h
    rw [qqWs_cons] at hp ⊢
    obtain ⟨d1, d2⟩ := quS_dec h.1 hs ((qqWs_pre l _).trans hp)
    obtain ⟨i1, i2⟩ := ih (qqW q s) (acc ++ [qmOf q]) h.2 d2 hp
    refine ⟨?_, i2⟩
    rw [List.length_cons, manyS, d1]
    simp only
    rw [i1]
    simp
theorem manyR_dec {L : List UInt8} : ∀ (l : List Rr) (s : Wst) (acc : List Rm), l.all rcOK = true → StD L s → (rrWs l s).1 <+: L → manyS (rrS L) l.length s.1.length acc = .ok (acc ++ l.map rmOf) (rrWs l s).1.length ∧ StD L (rrWs l s) := by
  intro l
  induction l with
  | nil => intro s acc h hs hp; exact ⟨by simp [manyS, rrWs], hs⟩
  | cons r l ih =>
    intro s acc h hs hp
    simp only [List.all_cons, Bool.and_eq_true] at h
    rw [rrWs_cons] at hp ⊢
    obtain ⟨d1, d2⟩ := rrS_dec h.1 hs ((rrWs_pre l _ h.2).trans hp)
    obtain ⟨i1, i2⟩ := ih (rrW r s) (acc ++ [rmOf r]) h.2 d2 hp
    refine ⟨?_, i2⟩
    rw [List.length_cons, manyS, d1]
    simp only
    rw [i1]
    simp

def mmOf (m : Mg) : Mm := ⟨m.qs.map qmOf, m.an.map rmOf, m.au.map rmOf, m.ex.map rmOf⟩
def flOf (h : Hr) : Nat := flagsS h.qr h.op.toNat h.aa h.tc h.rd h.ra h.z h.ad h.cd h.code.toNat

theorem msgS_dec {m : Mg} (h : mgOK m = true) (hl : (msgW m).1.length ≤ 65535) :
    msgS (msgW m).1 = .ok (mmOf m) (msgW m).1.length ∧ n16 (msgW m).1 0 = m.hd.id.toNat ∧ n16 (msgW m).1 2 = flOf m.hd := by
  simp only [mgOK, Bool.and_eq_true, decide_eq_true_eq] at h
  obtain ⟨⟨⟨⟨⟨hsm, hhd⟩, hqs⟩, han⟩, hau⟩, hex⟩ := h
  obtain ⟨⟨id, hid, hidl⟩, ⟨op, hop, hopl⟩, ⟨code, hco, hcol⟩⟩ := hd_parts hhd
  have hfl : flOf m.hd < 65536 := by rw [flOf, hop, hco]; exact flagsS_lt _ _ _ _ _ _ _ _ _ _ hopl hcol
  have hlen := hdW_len m
  have p1 : (hdW m, ([] : List (ByteArray × Nat))).1 <+: (qqWs m.qs (hdW m, [])).1 := qqWs_pre _ _
  have p2 := rrWs_pre m.an (qqWs m.qs (hdW m, [])) han
  have p3 := rrWs_pre m.au (rrWs m.an (qqWs m.qs (hdW m, []))) hau
  have p4 := rrWs_pre m.ex (rrWs m.au (rrWs m.an (qqWs m.qs (hdW m, [])))) hex
  have hs0 : StD (msgW m).1 (hdW m, []) := ⟨PlOK_nil _, PlD.nil _, fun p hp => by cases hp⟩
  obtain ⟨q1, q2⟩ := manyQ_dec m.qs (hdW m, []) [] hqs hs0 (p2.trans (p3.trans p4))
  obtain ⟨a1, a2⟩ := manyR_dec m.an _ [] han q2 (p3.trans p4)
  obtain ⟨u1, u2⟩ := manyR_dec m.au _ [] hau a2 p4
  obtain ⟨x1, x2⟩ := manyR_dec m.ex _ [] hex u2 (List.prefix_refl _)
  have hp : hdW m <+: (msgW m).1 := p1.trans (p2.trans (p3.trans p4))
  have hle := hp.length_le
  have hW : hdW m = put2 id ++ put2 (flOf m.hd) ++ (put2 m.qs.length ++ (put2 m.an.length ++ (put2 m.au.length ++ put2 m.ex.length))) := by
    rw [hdW, headL, ← flOf, hid]
    simp
  have g0 : Has (msgW m).1 0 (put2 id) := Has.of_pre hp (ys := []) (zs := put2 (flOf m.hd) ++ (put2 m.qs.length ++ (put2 m.an.length ++ (put2 m.au.length ++ put2 m.ex.length)))) (by rw [hW]; simp) rfl
  have g2 : Has (msgW m).1 2 (put2 (flOf m.hd)) := Has.of_pre hp (ys := put2 id) (zs := put2 m.qs.length ++ (put2 m.an.length ++ (put2 m.au.length ++ put2 m.ex.length))) (by rw [hW]) rfl
  have g4 : Has (msgW m).1 4 (put2 m.qs.length) := Has.of_pre hp (ys := put2 id ++ put2 (flOf m.hd)) (zs := put2 m.an.length ++ (put2 m.au.length ++ put2 m.ex.length)) (by rw [hW]; simp) rfl
  have g6 : Has (msgW m).1 6 (put2 m.an.length) := Has.of_pre hp (ys := put2 id ++ put2 (flOf m.hd) ++ put2 m.qs.length) (zs := put2 m.au.length ++ put2 m.ex.length) (by rw [hW]; simp) rfl
  have g8 : Has (msgW m).1 8 (put2 m.au.length) := Has.of_pre hp (ys := put2 id ++ put2 (flOf m.hd) ++ put2 m.qs.length ++ put2 m.an.length) (zs := put2 m.ex.length) (by rw [hW]; simp) rfl
  have g10 : Has (msgW m).1 10 (put2 m.ex.length) := Has.of_pre hp (ys := put2 id ++ put2 (flOf m.hd) ++ put2 m.qs.length ++ put2 m.an.length ++ put2 m.au.length) (zs := []) (by rw [hW]; simp) rfl
  have n0 := n16_has g0 hidl
  have n2 := n16_has g2 hfl
  have n4 := n16_has g4 (by omega)
  have n6 := n16_has g6 (by omega)
  have n8 := n16_has g8 (by omega)
  have n10 := n16_has g10 (by omega)
  refine ⟨?_, by rw [n0, hid]; simp, n2⟩
  simp only [hlen] at q1
  have hend : (rrWs m.ex (rrWs m.au (rrWs m.an (qqWs m.qs (hdW m, []))))).1.length = (msgW m).1.length := rfl
  rw [msgS, if_neg (by omega), if_neg (by omega), n4, n6, n8, n10, if_neg (by omega), listsS, n4, q1]
  simp only
  rw [n6, a1]
  simp only
  rw [n8, u1]
  simp only
  rw [n10, x1]
  simp only
  rw [hend, if_neg (by omega)]
  rfl

/-- The head's bits are its fields. -/
theorem hd_bits {h : Hr} (k : hdOK h = true) : hdA h.id.toNat (flOf h) = (hrV h).toArray := by
  obtain ⟨⟨id, hid, hidl⟩, ⟨op, hop, hopl⟩, ⟨code, hco, hcol⟩⟩ := hd_parts k
  obtain ⟨i0, b1, i2, b3, b4, b5, b6, b7, b8, b9, i10⟩ := h
  simp only at hid hop hco
  subst hid hop hco
  have t1 := tn_le b1
  have t3 := tn_le b3
  have t4 := tn_le b4
  have t5 := tn_le b5
  have t6 := tn_le b6
  have t7 := tn_le b7
  have t8 := tn_le b8
  have t9 := tn_le b9
  have hb : ∀ (f i : Nat) (b : Bool), f / 2 ^ i % 2 = b.toNat → f.testBit i = b := by
    intro f i b e
    rw [Nat.testBit_eq_decide_div_mod_eq, e]
    cases b <;> rfl
  have hF : flOf ⟨(id : Int), b1, (op : Int), b3, b4, b5, b6, b7, b8, b9, (code : Int)⟩ = 32768 * b1.toNat + op * 2048 + 1024 * b3.toNat + 512 * b4.toNat + 256 * b5.toNat + 128 * b6.toNat + 64 * b7.toNat + 32 * b8.toNat + 16 * b9.toNat + code := by
    simp only [flOf, flagsS, flS_c, Int.toNat_natCast]
  rw [hF]
  simp only [hdA, hrV, Int.toNat_natCast]
  rw [hb _ 15 b1 (by omega), hb _ 10 b3 (by omega), hb _ 9 b4 (by omega), hb _ 8 b5 (by omega), hb _ 7 b6 (by omega), hb _ 6 b7 (by omega), hb _ 5 b8 (by omega), hb _ 4 b9 (by omega)]
  have e1 : (32768 * b1.toNat + op * 2048 + 1024 * b3.toNat + 512 * b4.toNat + 256 * b5.toNat + 128 * b6.toNat + 64 * b7.toNat + 32 * b8.toNat + 16 * b9.toNat + code) / 2048 % 16 = op := by omega
  have e2 : (32768 * b1.toNat + op * 2048 + 1024 * b3.toNat + 512 * b4.toNat + 256 * b5.toNat + 128 * b6.toNat + 64 * b7.toNat + 32 * b8.toNat + 16 * b9.toNat + code) % 16 = code := by omega
  rw [e1, e2]
end Go.Proofs.Ytocadkdfhfiijaa
