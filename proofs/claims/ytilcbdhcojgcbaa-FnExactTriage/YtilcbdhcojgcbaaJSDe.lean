import Derived.Test.YtilcbdhcojgcbaaSRt
import Derived.Test.YtilcbdhcojgcbaaJRmz
import Derived.Test.YtilcbdhcojgcbaaJMath
import Derived.RegionTactic
import Derived.Test.YtilcbdhcojgcbaaJICp
import Derived.Test.YtilcbdhcojgcbaaJOrdL
import Derived.Deep.QuietTactic
import Derived.BigQuiet
import Derived.Test.YtilcbdhcojgcbaaJCutM
import Derived.Test.YtilcbdhcojgcbaaVfG
import Derived.Test.YtilcbdhcojgcbaaJVfJ
/- spec.Decode by its contract; what both Decodes answer, in one form. -/
namespace Go.Proofs.Ytilcbdhcojgcbaa
open Go.RowKit
set_option linter.unusedVariables false

/-- What Decode answers: the head's two numbers, the lists, the code. -/
structure Mo where
  d : Nat
  f : Nat
  m : Mm
  c : Int
def msO (l : List UInt8) : Mo := match msgS l with
  | .inl c => ⟨0, 0, ⟨[], [], [], []⟩, c⟩
  | .inr (m, _) => ⟨n16 l 0, n16 l 2, m, 0⟩

theorem msA_zero : msA 0 0 (.slice none 0 0) (.slice none 0 0) (.slice none 0 0) (.slice none 0 0) = ms0 := rfl

theorem lists_none (w : World) (B : Nat) : Lists w B ⟨[], [], [], []⟩ (.slice none 0 0) (.slice none 0 0) (.slice none 0 0) (.slice none 0 0) :=
  ⟨⟨rfl, .inl ⟨rfl, rfl⟩⟩, ⟨rfl, .inl ⟨rfl, rfl⟩⟩, ⟨rfl, .inl ⟨rfl, rfl⟩⟩, ⟨rfl, .inl ⟨rfl, rfl⟩⟩, fun k h => by simp [Value.ownBlock] at h, fun k h => by simp [Value.ownBlock] at h, fun k h => by simp [Value.ownBlock] at h⟩

theorem l04Read_any (v : Value) (l : List UInt8) (w : World) (h : BySl w v l) (hl : l.length ≤ 100000000) : Calls Try.prog 15 #[v] w (ReadPost l w) := by
  by_cases h1 : 65535 < l.length
  · exact l04Read_head v l w h hl (.inl h1)
  · by_cases h2 : l.length < 12
    · exact l04Read_head v l w h hl (.inr (.inl h2))
    · by_cases h3 : 400 < n16 l 4 + n16 l 6 + n16 l 8 + n16 l 10
      · exact l04Read_head v l w h hl (.inr (.inr h3))
      · exact l04Read_main v l w h (by omega) h1 h2 h3

theorem l04Read_one (v : Value) (l : List UInt8) (w : World) (h : BySl w v l) (hl : l.length ≤ 100000000) : Calls Try.prog 15 #[v] w fun e w' => Below w.heap.size w w' ∧
    ∃ q x y z, ∃ n : Int, e = .returned (.tuple #[.agg (msA (msO l).d (msO l).f q x y z), .int .i64 n, .int .i64 (msO l).c]) ∧ Lists w' w.heap.size (msO l).m q x y z := by
  refine (l04Read_any v l w h hl).mono ?_
  rintro e w' ⟨hb, ⟨m, p, q, x, y, z, n, hm, rfl, hL, _⟩ | ⟨c, n, hm, rfl⟩⟩
  · refine ⟨hb, q, x, y, z, n, ?_, ?_⟩
    · rw [msO, hm]
    · rw [msO, hm]; exact hL
  · refine ⟨hb, .slice none 0 0, .slice none 0 0, .slice none 0 0, .slice none 0 0, n, ?_, ?_⟩
    · rw [msO, hm, ← msA_zero]
    · rw [msO, hm]; exact lists_none _ _

/-- What Decode leaves. -/
def DecPost (l : List UInt8) (w : World) (e : Ending) (w' : World) : Prop := Below w.heap.size w w' ∧
  ∃ q x y z, e = .returned (.tuple #[.agg (msA (msO l).d (msO l).f q x y z), .int .i64 (msO l).c]) ∧ Lists w' w.heap.size (msO l).m q x y z

/-- The message is handed back with the code. -/
theorem dec_back {W : World} {b : Nat} {cs : Array Value} {R : Ending → World → Prop} {a : Act} {code : Int} (h : Blk W b cs 35)
    (hc : ∃ x0 x1 x2 x3 x4 x5 x6 x7 x8 x9 x10 x11 x12 x13 x14 : Value, cs = #[x0, x1, x2, x3, x4, x5, x6, x7, x8, x9, x10, x11, x12, x13, x14])
    (h2 : a.tmps[2]? = some (.pointer (some ⟨b, 0, none⟩))) (h3 : a.tmps[3]? = some (.int .i64 code)) (hd : a.defers = [])
    (hR : R (.returned (.tuple #[.agg cs, .int .i64 code])) W) : bodyPost Try.prog Try.f9 R .ret a W := by
  obtain ⟨x0, x1, x2, x3, x4, x5, x6, x7, x8, x9, x10, x11, x12, x13, x14, rfl⟩ := hc
  refine bodyPost_ret ?_ hd hR
  have r := fun i => blk_cell h i
  simp [results, Try.results9, go_sem, Result.andThen, r, h2, h3]

set_option maxRecDepth 100000 in
set_option maxHeartbeats 3200000 in
theorem specDecode_wide (v : Value) (l : List UInt8) (w : World) (h : BySl w v l) (hl : l.length ≤ 100000000) : Calls Try.prog 9 #[v] w (DecPost l w) := by
  have be0 : Below w.heap.size w (w.alloc (.cells ms0 35)) := (Below.refl _ _).alloc (Nat.le_refl _) _
  have hb0 := blk_new w ms0 35
  have hcall := l04Read_one v l _ (h.below be0) hl
  have hsz : (w.alloc (.cells ms0 35)).heap.size = w.heap.size + 1 := by simp
  unfold DecPost
  simp only [ms0, msA] at be0 hb0 hcall hsz ⊢
  obtain ⟨_, av, cv, rfl, _⟩ := h
  generalize hM : (msO l).m = m at *
  generalize ((msO l).d : Int) = i0 at *
  generalize (((msO l).f / 2048 % 16 : Nat) : Int) = i2 at *
  generalize (((msO l).f % 16 : Nat) : Int) = i10 at *
  generalize (msO l).c = c at *
  generalize (msO l).f.testBit 15 = t15 at *
  generalize (msO l).f.testBit 10 = t10 at *
  generalize (msO l).f.testBit 9 = t9 at *
  generalize (msO l).f.testBit 8 = t8 at *
  generalize (msO l).f.testBit 7 = t7 at *
  generalize (msO l).f.testBit 6 = t6 at *
  generalize (msO l).f.testBit 5 = t5 at *
  generalize (msO l).f.testBit 4 = t4 at *
  go_enter Try.func9, Try.ntmps9
  go_wp2_with fail
  refine hcall.mono ?_
  rintro e w1 ⟨hb1, q, x, y, z, n, rfl, L1⟩
  obtain ⟨x1, y1, rfl⟩ := row_val L1.rq
  obtain ⟨x2, y2, rfl⟩ := row_val L1.ra
  obtain ⟨x3, y3, rfl⟩ := row_val L1.ru
  obtain ⟨x4, y4, rfl⟩ := row_val L1.rx
  have hbA : Below w1.heap.size w1 (w1.alloc (.cells #[.int .i64 i0, .bool t15, .int .i64 i2, .bool t10, .bool t9, .bool t8, .bool t7, .bool t6, .bool t5, .bool t4, .int .i64 i10, .slice x1 m.qs.length y1, .slice x2 m.an.length y2, .slice x3 m.au.length y3, .slice x4 m.ex.length y4] 35)) := (Below.refl _ _).alloc (Nat.le_refl _) _
  have B1 := blk_below (blk_below hb0 hb1) hbA
  have r1 := fun i => blk_cell B1 i
  have f1 := fun i => blk_frozen B1 i
  have B2 := blk_new w1 #[.int .i64 i0, .bool t15, .int .i64 i2, .bool t10, .bool t9, .bool t8, .bool t7, .bool t6, .bool t5, .bool t4, .int .i64 i10, .slice x1 m.qs.length y1, .slice x2 m.an.length y2, .slice x3 m.au.length y3, .slice x4 m.ex.length y4] 35
  have r2 := fun i => blk_cell B2 i
  have be1 := Nm.below_two (Nm.below_two be0 hb1) hbA
  have L2 : Lists (w1.alloc (.cells #[.int .i64 i0, .bool t15, .int .i64 i2, .bool t10, .bool t9, .bool t8, .bool t7, .bool t6, .bool t5, .bool t4, .int .i64 i10, .slice x1 m.qs.length y1, .slice x2 m.an.length y2, .slice x3 m.au.length y3, .slice x4 m.ex.length y4] 35)) w.heap.size m (.slice x1 m.qs.length y1) (.slice x2 m.an.length y2) (.slice x3 m.au.length y3) (.slice x4 m.ex.length y4) := by
    have := lists_below L1 hbA
    exact ⟨own_base this.rq (by omega), own_base this.ra (by omega), own_base this.ru (by omega), own_base this.rx (by omega), this.au, this.ax, this.ux⟩
  have HL := Nm.hide (And.intro (setAll_new [.int .i64 i0, .bool t15, .int .i64 i2, .bool t10, .bool t9, .bool t8, .bool t7, .bool t6, .bool t5, .bool t4, .int .i64 i10, .slice x1 m.qs.length y1, .slice x2 m.an.length y2, .slice x3 m.au.length y3, .slice x4 m.ex.length y4] B1 rfl) (And.intro (setAll_below (Nat.le_refl _) [.int .i64 i0, .bool t15, .int .i64 i2, .bool t10, .bool t9, .bool t8, .bool t7, .bool t6, .bool t5, .bool t4, .int .i64 i10, .slice x1 m.qs.length y1, .slice x2 m.an.length y2, .slice x3 m.au.length y3, .slice x4 m.ex.length y4] 0 _ be1) (lists_setAll L2 B1 [.int .i64 i0, .bool t15, .int .i64 i2, .bool t10, .bool t9, .bool t8, .bool t7, .bool t6, .bool t5, .bool t4, .int .i64 i10, .slice x1 m.qs.length y1, .slice x2 m.an.length y2, .slice x3 m.au.length y3, .slice x4 m.ex.length y4] 0)))
  simp only [setAll, Nat.reduceAdd, Nat.zero_add] at HL
  clear B1 B2 be1 L2 L1 hb0 be0 hb1 hbA hcall
  go_wp2
  refine dec_back HL.out.1 ⟨_, _, _, _, _, _, _, _, _, _, _, _, _, _, _, rfl⟩ rfl rfl rfl ?_
  exact ⟨HL.out.2.1, _, _, _, _, rfl, HL.out.2.2⟩

theorem specDecode_any (v : Value) (l : List UInt8) (w : World) (h : BySl w v l) (hl : l.length ≤ 1048576) : Calls Try.prog 9 #[v] w (DecPost l w) := specDecode_wide v l w h (by omega)

theorem implDecode_wideO (v : Value) (l : List UInt8) (w : World) (h : BySl w v l) (hl : l.length ≤ 100000000) : Calls Try.prog 26 #[v] w (DecPost l w) := by
  refine (implDecode_wide v l w h hl).mono ?_
  rintro e w' ⟨hb, ⟨m, p, q, x, y, z, hm, rfl, hL⟩ | ⟨c, hm, rfl⟩⟩
  · refine ⟨hb, q, x, y, z, ?_, ?_⟩
    · rw [msO, hm]
    · rw [msO, hm]; exact hL
  · refine ⟨hb, .slice none 0 0, .slice none 0 0, .slice none 0 0, .slice none 0 0, ?_, ?_⟩
    · rw [msO, hm, ← msA_zero]
    · rw [msO, hm]; exact lists_none _ _

theorem implDecode_one (v : Value) (l : List UInt8) (w : World) (h : BySl w v l) (hl : l.length ≤ 1048576) : Calls Try.prog 26 #[v] w (DecPost l w) := implDecode_wideO v l w h (by omega)
end Go.Proofs.Ytilcbdhcojgcbaa
/- impl.within by its contract. -/
namespace Go.Proofs.Ytilcbdhcojgcbaa
open Go.RowKit
set_option linter.unusedVariables false

end Go.Proofs.Ytilcbdhcojgcbaa
/- impl.compareFolded, (labelList).compare by their contracts. -/
namespace Go.Proofs.Ytilcbdhcojgcbaa
open Go.RowKit

end Go.Proofs.Ytilcbdhcojgcbaa
/- impl.SameName by its contract. -/
namespace Go.Proofs.Ytilcbdhcojgcbaa
open Go.RowKit

end Go.Proofs.Ytilcbdhcojgcbaa
/- impl.Verify by its contract: what is no valid call. -/
namespace Go.Proofs.Ytilcbdhcojgcbaa
open Go.RowKit
set_option linter.unusedVariables false

/-- A verdict's cells. -/
def vdC (V : Vd) (u : Value) : Array Value := #[.int .i64 V.code, .bool V.signed, .int .i64 V.key, .string ⟨V.sum.toArray⟩, u]
def vdZ : Array Value := #[.int .i64 0, .bool false, .int .i64 0, .string ByteArray.empty, .slice none 0 0]
def VPost (V : Vd) (w : World) (e : Ending) (w' : World) : Prop := (∃ u, e = .returned (.agg (vdC V u)) ∧ w'.ownsRow w.heap.size 5 1 u V.body.length (Nm.bys V.body)) ∧ Below w.heap.size w w'
theorem msA_one (d f n1 n2 n3 n4 c1 c2 c3 c4 : Nat) (b1 b2 b3 b4 : Option Addr) : (msA d f (.slice b1 n1 c1) (.slice b2 n2 c2) (.slice b3 n3 c3) (.slice b4 n4 c4)).all (·.oneCell') = true := by simp [msA, Value.oneCell']

end Go.Proofs.Ytilcbdhcojgcbaa
/- impl.Verify by its contract: a signature that is none, and no signature. -/
namespace Go.Proofs.Ytilcbdhcojgcbaa
open Go.RowKit
set_option linter.unusedVariables false

theorem own_only {w w' : World} {p B e s n : Nat} {v : Value} {xs : List Value} (h : w.ownsRow B e s v n xs) (ho : Only p w w') (hne : v.ownBlock ≠ some p) : w'.ownsRow B e s v n xs :=
  h.kept (row := some p) ⟨ho.os, ho.tape, ho.output, ho.size, fun k hk hne => ho.block k hk (fun e => hne (by rw [e]))⟩ (by cases hv : v.ownBlock <;> simp_all)

end Go.Proofs.Ytilcbdhcojgcbaa
