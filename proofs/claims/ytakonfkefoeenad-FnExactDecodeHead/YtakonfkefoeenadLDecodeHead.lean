/- The law of DecodeHead: its walk. -/
import Derived.Test.YtakonfkefoeenadSHd
import Derived.Test.YtakonfkefoeenadHd2
import Derived.Test.YtakonfkefoeenadEqH
namespace Go.Proofs.Ytakonfkefoeenad
open Go.RowKit
set_option linter.unusedVariables false

theorem dhV_form (l : List UInt8) : ∃ (a0 a2 a10 m0 m1 m2 m3 c : Int) (b1 b3 b4 b5 b6 b7 b8 b9 : Bool), dhV l = .tuple #[.agg #[.int .i64 a0, .bool b1, .int .i64 a2, .bool b3, .bool b4, .bool b5, .bool b6, .bool b7, .bool b8, .bool b9, .int .i64 a10], .agg #[.int .i64 m0, .int .i64 m1, .int .i64 m2, .int .i64 m3], .int .i64 c] := by
  unfold dhV
  split
  · exact ⟨_, _, _, _, _, _, _, _, _, _, _, _, _, _, _, _, rfl⟩
  · exact ⟨_, _, _, _, _, _, _, _, _, _, _, _, _, _, _, _, rfl⟩

/-- Two variables, laid one behind the other. -/
def Two (W : World) (b : Nat) (c0 c1 : Array Value) : Prop := Blk W b c0 25 ∧ Blk W (b + 1) c1 26

theorem Two.below {W W2 : World} {b : Nat} {c0 c1 : Array Value} (h : Two W b c0 c1) (hb : Below W.heap.size W W2) : Two W2 b c0 c1 := ⟨blk_below h.1 hb, blk_below h.2 hb⟩

theorem two_new (w : World) (c0 c1 : Array Value) : Two ((w.alloc (.cells c0 25)).alloc (.cells c1 26)) w.heap.size c0 c1 := by
  refine ⟨blk_alloc (blk_new w c0 _) _, ?_⟩
  have := blk_new (w.alloc (.cells c0 25)) c1 26
  have e1 : (w.alloc (.cells c0 25)).heap.size = w.heap.size + 1 := by simp
  rw [e1] at this
  exact this

set_option maxRecDepth 100000 in
set_option maxHeartbeats 1600000 in
theorem fnExactDecodeHead_walk (a0 : Option Addr) (len0 cap0 : Nat) (z0 : List Int) (w : World) (w0 : RowB w a0 len0 cap0 z0) :
    Calls Try.prog 4 #[.slice a0 len0 cap0] w fun e w' => e = .returned (.bool true) ∧ Below w.heap.size w w' := by
  obtain ⟨l, hlen, hrow⟩ := rowB w0
  by_cases hl : 1048576 < len0
  · have hl' : (1048576 : Int) < (len0 : Int) := by omega
    go_enter Try.func4, Try.ntmps4
    go_wp2
    go_ret
    exact ⟨rfl, Below.refl _ _⟩
  · have hl' : (len0 : Int) ≤ 1048576 := by omega
    subst hlen
    obtain ⟨i0, i2, i10, m0, m1, m2, m3, c, q1, q3, q4, q5, q6, q7, q8, q9, hv⟩ := dhV_form l
    have hto := fun V W (h : BySl W V l) => toByteS_any V l W h (by omega)
    have hsp := fun V W (h : BySl W V l) => specDecodeHead_any V l W h (by omega)
    have him := fun V W (h : BySl W V l) => implDecodeHead_any V l W h (by omega)
    have heq := fun V U W (h : BySl W V l) (h' : BySl W U l) => eqByteS_any V U l W h h' (by omega)
    have heh := fun W => eqHead_any i0 i2 i10 q1 q3 q4 q5 q6 q7 q8 q9 W
    have hea := fun W => eqInt64A4_any m0 m1 m2 m3 W
    have hcc : (c != c) = false := by simp
    simp only [hv] at hsp him
    clear w0 hv
    go_enter Try.func4, Try.ntmps4
    go_wp2_with fail
    refine (hto _ _ hrow).mono ?_
    rintro e w1 ⟨v1, rfl, c1, b1⟩
    go_wp2_with fail
    refine (hsp _ _ c1).mono ?_
    rintro e w2 ⟨rfl, b2⟩
    have b02 := Nm.below_two b1 b2
    go_wp2_with fail
    have hbA : Below w2.heap.size w2 ((w2.alloc (.cells #[.int .i64 i0, .bool q1, .int .i64 i2, .bool q3, .bool q4, .bool q5, .bool q6, .bool q7, .bool q8, .bool q9, .int .i64 i10] 25)).alloc (.cells #[.int .i64 m0, .int .i64 m1, .int .i64 m2, .int .i64 m3] 26)) := ((Below.refl _ _).alloc (Nat.le_refl _) _).alloc (by simp) _
    have P2 := two_new w2 #[.int .i64 i0, .bool q1, .int .i64 i2, .bool q3, .bool q4, .bool q5, .bool q6, .bool q7, .bool q8, .bool q9, .int .i64 i10] #[.int .i64 m0, .int .i64 m1, .int .i64 m2, .int .i64 m3]
    have b02' := Nm.below_two b02 hbA
    refine (hto _ _ (hrow.below b02')).mono ?_
    rintro e w3 ⟨v3, rfl, c3, b3⟩
    have b03 := Nm.below_two b02' b3
    have P3 := P2.below b3
    clear P2 hbA b02'
    go_wp2_with fail
    refine (him _ _ c3).mono ?_
    rintro e w4 ⟨rfl, b4⟩
    have b04 := Nm.below_two b03 b4
    have c4 := c3.below b4
    have P4 := P3.below b4
    have hbB : Below w4.heap.size w4 ((w4.alloc (.cells #[.int .i64 i0, .bool q1, .int .i64 i2, .bool q3, .bool q4, .bool q5, .bool q6, .bool q7, .bool q8, .bool q9, .int .i64 i10] 25)).alloc (.cells #[.int .i64 m0, .int .i64 m1, .int .i64 m2, .int .i64 m3] 26)) := ((Below.refl _ _).alloc (Nat.le_refl _) _).alloc (by simp) _
    have P5 := P4.below hbB
    have Q5 := two_new w4 #[.int .i64 i0, .bool q1, .int .i64 i2, .bool q3, .bool q4, .bool q5, .bool q6, .bool q7, .bool q8, .bool q9, .int .i64 i10] #[.int .i64 m0, .int .i64 m1, .int .i64 m2, .int .i64 m3]
    have p0 := fun i => blk_cell P5.1 i
    have p1 := fun i => blk_cell P5.2 i
    have s0 := fun i => blk_cell Q5.1 i
    have s1 := fun i => blk_cell Q5.2 i
    have b05 := Nm.below_two b04 hbB
    have c5 := c4.below hbB
    clear P3 P4
    go_wp2_with fail
    refine (heh _).mono ?_
    rintro e w6 ⟨rfl, b6⟩
    have p1 := fun i => blk_cell (P5.below b6).2 i
    have s1 := fun i => blk_cell (Q5.below b6).2 i
    have b06 := Nm.below_two b05 b6
    have c6 := c5.below b6
    clear P5 Q5 p0 s0
    go_wp2_with fail
    refine (hea _).mono ?_
    rintro e w7 ⟨rfl, b7⟩
    have b07 := Nm.below_two b06 b7
    have c7 := c6.below b7
    go_wp2_with fail
    refine (hto _ _ (hrow.below b07)).mono ?_
    rintro e w8 ⟨v8, rfl, c8, b8⟩
    have b08 := Nm.below_two b07 b8
    have c78 := c7.below b8
    go_wp2_with fail
    refine (heq _ _ _ c78 c8).mono ?_
    rintro e w9 ⟨rfl, b9⟩
    go_wp2
    go_ret
    exact ⟨rfl, Nm.below_two b08 b9⟩
end Go.Proofs.Ytakonfkefoeenad
