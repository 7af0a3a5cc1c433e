/- impl.tellError, impl.Lex by their contracts. -/
import Derived.Test.YtjbdfooppokonaaDoorLxL
import Derived.Test.YtjbdfooppokonaaDoorLxAu
import Derived.Test.YtjbdfooppokonaaDoorLxAv
namespace Go.Proofs.YtjbdfooppokonaaDoor
open Go.RowKit
set_option linter.unusedVariables false

theorem below_gr {w W : World} {g : Nat} (h : w.grownBy W (some g)) (hg : w.heap.size ≤ g) : Below w.heap.size w W := ⟨h.os, h.tape, h.output, h.size, fun k hk => h.block k hk (by simp; omega)⟩
theorem gr_of_below {w W : World} {g : Nat} (h : Below w.heap.size w W) : w.grownBy W (some g) := ⟨h.os, h.tape, h.output, h.size, fun k hk _ => h.block k hk⟩
theorem ErrT.grown {w W : World} {g : Nat} (h : ErrT w) (hg : w.grownBy W (some g)) (h0 : g ≠ 0) : ErrT W := by
  unfold ErrT
  rw [World.cell?_of_block (w := w) (w' := W) (a := ⟨0, 0, none⟩) (hg.block 0 h.lt (by simp; exact fun e => h0 e.symm))]
  exact h
theorem ErrT.below {w W : World} (h : ErrT w) (hb : Below w.heap.size w W) : ErrT W := by
  unfold ErrT
  rw [World.cell?_of_block (w := w) (w' := W) (a := ⟨0, 0, none⟩) (hb.block 0 h.lt)]
  exact h

set_option maxRecDepth 100000 in
set_option maxHeartbeats 800000 in
theorem tell_nil (w : World) :
    Calls Tryd.prog 14 #[.nilIface] w fun e w' => e = .returned (.tuple #[.int .i64 0, .int .i64 0]) ∧ Below w.heap.size w w' := by
  have ha := fun t W => as_nil t W
  go_enter Tryd.func14, Tryd.ntmps14
  go_wp2_with (go_at_call 24; refine (ha _ _).mono ?_; rintro e w' ⟨rfl, rfl⟩)
  refine bodyPost_ret (v := .tuple #[.int .i64 0, .int .i64 0]) ?_ rfl ⟨rfl, ((Below.refl _ _).alloc (Nat.le_refl _) _).alloc (by simp) _⟩
  simp [results, Tryd.f14, go_sem]

set_option maxRecDepth 100000 in
set_option maxHeartbeats 1600000 in
theorem tell_code (c : Nat) (w : World) (he : ErrT w) :
    Calls Tryd.prog 14 #[codE c] w fun e w' => e = .returned (.tuple #[.int .i64 c, .int .i64 0]) ∧ Below w.heap.size w w' := by
  have k1 := blk_new w #[.int .i64 0] 50
  have e1 := he.alloc (.cells #[.int .i64 0] 50)
  have ha := as_cc (c : Int) 0 w.heap.size _ e1 k1
  have hlt := he.lt
  go_enter Tryd.func14, Tryd.ntmps14
  go_wp2_with fail
  go_at_call 24
  refine ha.mono ?_
  rintro e w2 ⟨rfl, k2, g2⟩
  have r2 : w2.cell? ⟨w.heap.size, 0, none⟩ = some (.int .i64 (c : Int)) := blk_cell k2 0
  have e2 := (e1.grown g2 (by omega)).alloc (.cells #[.int .i64 0, .nilIface] 57)
  have k3 := blk_new w2 #[.int .i64 0, .nilIface] 57
  have hb := as_cl (c : Int) _ _ w2.heap.size _ e2 k3
  have g3 := gr_trans (gr_alloc (w := w) (g := w.heap.size) (.cells #[.int .i64 0] 50)) g2
  have b3 := below_gr g3 (Nat.le_refl _)
  clear ha k1 e1 g2 e2 k3 g3 k2
  go_wp2_with fail
  go_at_call 24
  refine hb.mono ?_
  rintro e w4 ⟨rfl, k4, g4⟩
  have b4 := below_gr (gr_trans (gr_alloc (w := w2) (g := w2.heap.size) (.cells #[.int .i64 0, .nilIface] 57)) g4) (Nat.le_refl _)
  go_wp2
  refine bodyPost_ret (v := .tuple #[.int .i64 (c : Int), .int .i64 0]) ?_ rfl ⟨rfl, Nm.below_two b3 b4⟩
  simp [results, Tryd.f14, go_sem]

set_option maxRecDepth 100000 in
set_option maxHeartbeats 1600000 in
theorem tell_line (q c : Nat) (w : World) (he : ErrT w) :
    Calls Tryd.prog 14 #[linE q c] w fun e w' => e = .returned (.tuple #[.int .i64 c, .int .i64 q]) ∧ Below w.heap.size w w' := by
  have k1 := blk_new w #[.int .i64 0] 50
  have e1 := he.alloc (.cells #[.int .i64 0] 50)
  have ha := as_lc (q : Int) (c : Int) 0 w.heap.size _ e1 k1
  have hlt := he.lt
  go_enter Tryd.func14, Tryd.ntmps14
  go_wp2_with fail
  go_at_call 24
  refine ha.mono ?_
  rintro e w2 ⟨rfl, k2, g2⟩
  have r2 : w2.cell? ⟨w.heap.size, 0, none⟩ = some (.int .i64 (c : Int)) := blk_cell k2 0
  have e2 := (e1.grown g2 (by omega)).alloc (.cells #[.int .i64 0, .nilIface] 57)
  have k3 := blk_new w2 #[.int .i64 0, .nilIface] 57
  have hb := as_ll (q : Int) (.iface 50 (.int .i64 (c : Int))) _ _ rfl w2.heap.size _ e2 k3
  have g3 := gr_trans (gr_alloc (w := w) (g := w.heap.size) (.cells #[.int .i64 0] 50)) g2
  have b3 := below_gr g3 (Nat.le_refl _)
  clear ha k1 e1 g2 e2 k3 g3 k2
  go_wp2_with fail
  go_at_call 24
  refine hb.mono ?_
  rintro e w4 ⟨rfl, k4, g4⟩
  have r4 : w4.cell? ⟨w2.heap.size, 0, none⟩ = some (.int .i64 (q : Int)) := blk_cell k4 0
  have b4 := below_gr (gr_trans (gr_alloc (w := w2) (g := w2.heap.size) (.cells #[.int .i64 0, .nilIface] 57)) g4) (Nat.le_refl _)
  go_wp2
  refine bodyPost_ret (v := .tuple #[.int .i64 (c : Int), .int .i64 (q : Int)]) ?_ rfl ⟨rfl, Nm.below_two b3 b4⟩
  simp [results, Tryd.f14, go_sem]

set_option maxRecDepth 100000 in
set_option maxHeartbeats 400000 in
theorem newLexer_any (s : ByteArray) (w : World) :
    Calls Tryd.prog 12 #[.string s] w fun e w' => e = .returned (.agg #[.string s, .int .i64 0, .int .i64 1, .int .i64 0]) ∧ Below w.heap.size w w' := by
  go_enter Tryd.func12, Tryd.ntmps12
  go_wp2
  refine bodyPost_ret (v := .agg #[.string s, .int .i64 0, .int .i64 1, .int .i64 0]) ?_ rfl ⟨rfl, ?_⟩
  · simp [results, Tryd.f12, go_sem]
  · exact (Below.refl _ _).alloc (Nat.le_refl _) _

/-- What Lex answers, as it lies. -/
def LexP (s : ByteArray) (w : World) (e : Ending) (w' : World) : Prop :=
  ∃ v ps, e = .returned (.tuple #[v, .int .i64 (lexR s).co, .int .i64 (lexR s).at_]) ∧ ps.map (·.1) = (lexR s).ls ∧ LOwn w' w.heap.size v ps ∧ Below w.heap.size w w'

set_option maxRecDepth 100000 in
set_option maxHeartbeats 1600000 in
theorem implLex_any (s : ByteArray) (w : World) (he : ErrT w) :
    Calls Tryd.prog 5 #[.string s] w (LexP s w) := by
  have hnl := newLexer_any s w
  go_enter Tryd.func5, Tryd.ntmps5
  go_wp2_with fail
  go_at_call 12
  refine hnl.mono ?_
  rintro e w1 ⟨rfl, b1⟩
  have hlx : Lx (w1.alloc (.cells #[.string s, .int .i64 0, .int .i64 1, .int .i64 0] 37)) w1.heap.size s 0 1 0 := blk_new w1 #[.string s, .int .i64 0, .int .i64 1, .int .i64 0] 37
  have b2 := b1.alloc b1.size (.cells #[.string s, .int .i64 0, .int .i64 1, .int .i64 0] 37)
  have e2 := he.below b2
  have hs1 := b1.size
  by_cases hs : 40000 < s.size
  · have hli := lines_size _ _ _ _ _ _ hlx hs
    have hte := tell_code 11 _ e2
    have HR : Hid (lexR s = ⟨[], 11, 0⟩) := by show _ = _; rw [lexR, if_pos hs]
    clear hnl he e2
    go_wp2_with fail
    go_at_call 13
    refine hli.mono ?_
    rintro e w' ⟨rfl, rfl⟩
    go_wp2_with fail
    go_at_call 14
    refine hte.mono ?_
    rintro e w4 ⟨rfl, b4⟩
    have b5 := Nm.below_two b2 b4
    go_wp2
    refine bodyPost_ret (v := .tuple #[.slice none 0 0, .int .i64 ((11 : Nat) : Int), .int .i64 ((0 : Nat) : Int)]) ?_ rfl ⟨_, [], ?_, ?_, LOwn.nil _ _, b5⟩
    · simp [results, Tryd.f5, go_sem]
    · rw [HR.out]
    · rw [HR.out]; rfl
  · have hli := lines_any _ _ _ hlx (by omega)
    cases hR : lsF s 0 1 [] with
    | inl cq =>
      obtain ⟨c, q⟩ := cq
      rw [hR] at hli
      have HR : Hid (lexR s = ⟨[], c, q⟩) := by show _ = _; rw [lexR, if_neg hs, hR]
      clear hnl hR
      go_wp2_with fail
      go_at_call 13
      refine hli.mono ?_
      rintro e w3 ⟨g3, rfl⟩
      have e3 := e2.grown g3 (by have := he.lt; omega)
      have b3 : Below w.heap.size w w3 := ⟨g3.os.trans b2.os, g3.tape.trans b2.tape, g3.output.trans b2.output, Nat.le_trans b2.size g3.size, fun k hk => (g3.block k (by simp; omega) (by simp; omega)).trans (b2.block k hk)⟩
      have hte := tell_line q c w3 e3
      go_wp2_with fail
      go_at_call 14
      refine hte.mono ?_
      rintro e w4 ⟨rfl, b4⟩
      have b5 := Nm.below_two b3 b4
      go_wp2
      refine bodyPost_ret (v := .tuple #[.slice none 0 0, .int .i64 (c : Int), .int .i64 (q : Int)]) ?_ rfl ⟨_, [], ?_, ?_, LOwn.nil _ _, b5⟩
      · simp [results, Tryd.f5, go_sem]
      · rw [HR.out]
      · rw [HR.out]; rfl
    | inr ls =>
      rw [hR] at hli
      have HR : Hid (lexR s = ⟨ls, 0, 0⟩) := by show _ = _; rw [lexR, if_neg hs, hR]
      clear hnl hR
      go_wp2_with fail
      go_at_call 13
      refine hli.mono ?_
      rintro e w3 ⟨g3, v, ps, rfl, hps, hlo⟩
      have b3 : Below w.heap.size w w3 := ⟨g3.os.trans b2.os, g3.tape.trans b2.tape, g3.output.trans b2.output, Nat.le_trans b2.size g3.size, fun k hk => (g3.block k (by simp; omega) (by simp; omega)).trans (b2.block k hk)⟩
      obtain ⟨va, vc, rfl⟩ := own_sl hlo.outer
      have hte := tell_nil w3
      go_wp2_with fail
      go_at_call 14
      refine hte.mono ?_
      rintro e w4 ⟨rfl, b4⟩
      have b5 := Nm.below_two b3 b4
      have lo4 := (hlo.beside (gr_of_below (g := 0) b4) (fun k e => by simp at e; have := he.lt; simp; omega)).base (B' := w.heap.size) (by simp; omega)
      go_wp2
      refine bodyPost_ret (v := .tuple #[.slice va ps.length vc, .int .i64 0, .int .i64 0]) ?_ rfl ⟨_, ps, ?_, ?_, lo4, b5⟩
      · simp [results, Tryd.f5, go_sem]
      · rw [HR.out]; rfl
      · rw [HR.out]; exact hps
end Go.Proofs.YtjbdfooppokonaaDoor
