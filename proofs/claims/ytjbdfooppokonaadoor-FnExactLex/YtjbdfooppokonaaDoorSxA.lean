/- The model's lexer: where it lies; its failing, its parentheses. -/
import Derived.Test.YtjbdfooppokonaaDoorLxN
namespace Go.Proofs.YtjbdfooppokonaaDoor
open Go.RowKit
set_option linter.unusedVariables false

/-- The model's lexer. -/
structure XB where
  p : Nat
  n : Nat
  o : Nat
  num : Nat
  bl : Bool
  u : Value
  fr : Bool
  vo : Value
  co : Nat
  pl : Nat
def xsA (s : ByteArray) (x : XB) : Array Value := #[.string s, .int .i64 x.p, .int .i64 x.n, .int .i64 x.o, .int .i64 x.num, .bool x.bl, x.u, .bool x.fr, x.vo, .int .i64 x.co, .int .i64 x.pl]
/-- It lies in block g, with its words and lines. -/
structure XS (W : World) (g : Nat) (s : ByteArray) (x : XB) (ws : List Wd) (ps : List Lp) : Prop where
  k : Blk W g (xsA s x) 32
  row : ∃ B, g + 1 ≤ B ∧ B ≤ W.heap.size ∧ W.ownsRow B 62 2 x.u ws.length (wdVs ws) ∧ (x.fr = false → ∀ q ∈ ps, ∀ b, q.2.ownBlock = some b → b < B)
  out : LOwn W (g + 1) x.vo ps
theorem XS.cells {W : World} {g : Nat} {s : ByteArray} {x : XB} {ws : List Wd} {ps : List Lp} (h : XS W g s x ws ps) :
    W.cell? ⟨g, 0, none⟩ = some (.string s) ∧ W.cell? ⟨g, 1, none⟩ = some (.int .i64 x.p) ∧ W.cell? ⟨g, 2, none⟩ = some (.int .i64 x.n) ∧ W.cell? ⟨g, 3, none⟩ = some (.int .i64 x.o) ∧ W.cell? ⟨g, 4, none⟩ = some (.int .i64 x.num) ∧ W.cell? ⟨g, 5, none⟩ = some (.bool x.bl) ∧ W.cell? ⟨g, 6, none⟩ = some x.u ∧ W.cell? ⟨g, 7, none⟩ = some (.bool x.fr) ∧ W.cell? ⟨g, 8, none⟩ = some x.vo ∧ W.cell? ⟨g, 9, none⟩ = some (.int .i64 x.co) ∧ W.cell? ⟨g, 10, none⟩ = some (.int .i64 x.pl) ∧ (∀ i, W.frozen? ⟨g, i, none⟩ = false) :=
  ⟨blk_cell h.k 0, blk_cell h.k 1, blk_cell h.k 2, blk_cell h.k 3, blk_cell h.k 4, blk_cell h.k 5, blk_cell h.k 6, blk_cell h.k 7, blk_cell h.k 8, blk_cell h.k 9, blk_cell h.k 10, fun i => blk_frozen h.k i⟩
theorem XS.lt {W : World} {g : Nat} {s : ByteArray} {x : XB} {ws : List Wd} {ps : List Lp} (h : XS W g s x ws ps) : g < W.heap.size := blk_lt h.k
/-- The block alone is written. -/
theorem XS.grown {W W1 : World} {g : Nat} {s : ByteArray} {x y : XB} {ws : List Wd} {ps : List Lp} (h : XS W g s x ws ps) (hg : W.grownBy W1 (some g)) (hk : Blk W1 g (xsA s y) 32) (hu : y.u = x.u) (hv : y.vo = x.vo) (hf : y.fr = false → x.fr = false) : XS W1 g s y ws ps := by
  obtain ⟨B, h1, h2, h3, h4⟩ := h.row
  exact ⟨hk, ⟨B, h1, Nat.le_trans h2 hg.size, by rw [hu]; exact own_grL h3 hg h1, fun e => h4 (hf e)⟩, by rw [hv]; exact h.out.beside hg (fun k e => by simp at e; omega)⟩
/-- A word is put behind. -/
theorem XS.put {W W1 : World} {g B : Nat} {s : ByteArray} {x : XB} {ws : List Wd} {ps : List Lp} {v' : Value} {y : Wd} (hk0 : Blk W g (xsA s x) 32) (hO : LOwn W (g + 1) x.vo ps) (h1 : g + 1 ≤ B) (h2 : B ≤ W.heap.size) (h3 : W.ownsRow B 62 2 x.u ws.length (wdVs ws)) (h4 : ∀ q ∈ ps, ∀ b, q.2.ownBlock = some b → b < B)
    (ho : W1.ownsRow B 62 2 v' (ws.length + 1) (wdVs ws ++ wdV y)) (hg : W.grownBy W1 x.u.ownBlock) :
    Blk W1 g (xsA s x) 32 ∧ XS (W1.setCell ⟨g, 6, none⟩ v') g s { x with u := v' } (ws ++ [y]) ps ∧ Below g W (W1.setCell ⟨g, 6, none⟩ v') := by
  have k1 := blk_grown hk0 hg (own_blkL h3 hk0 (by decide))
  have e : wdVs (ws ++ [y]) = wdVs ws ++ wdV y := by simp [wdVs]
  have hg2 := gr_set W1 g 6 v'
  have o1 : LOwn W1 (g + 1) x.vo ps := ⟨own_besideL hO.outer hg (own_kindsL hO.outer h3 (by decide)), fun i q hq => own_besideL (hO.inner i q hq) hg (fun b e1 e2 => by
    have := (h3.lt b e1).1
    have := h4 q (List.mem_of_getElem? hq) b e2
    omega), hO.apart⟩
  refine ⟨k1, ⟨blk_set k1 6 v', ⟨B, h1, Nat.le_trans (Nat.le_trans h2 hg.size) hg2.size, ?_, fun _ => h4⟩, o1.beside hg2 (fun k e => by simp at e; omega)⟩, ?_⟩
  · rw [e, List.length_append]
    exact own_grL ho hg2 h1
  · refine ⟨hg.os, hg.tape, hg.output, Nat.le_trans hg.size hg2.size, fun k hk => (hg2.block k (by have := blk_lt k1; omega) (by simp; omega)).trans (hg.block k (by have := blk_lt hk0; omega) (fun e1 => by have := (h3.lt k e1.symm).1; omega))⟩
theorem XS.drewN {W : World} {g : Nat} {s : ByteArray} {x : XB} {ws : List Wd} {ps : List Lp} (h : XS W g s x ws ps) (k : Nat) : XS (W.drewN k) g s x ws ps := h.grown (gr_drewN W g k) h.k rfl rfl id
theorem bel_gr {B g : Nat} {w W : World} (h : w.grownBy W (some g)) (hg : B ≤ g) (hB : B ≤ w.heap.size) : Below B w W := ⟨h.os, h.tape, h.output, h.size, fun k hk => h.block k (by omega) (by simp; omega)⟩

set_option maxRecDepth 100000 in
set_option maxHeartbeats 800000 in
theorem l05Fail_any (g : Nat) (s : ByteArray) (x : XB) (ws : List Wd) (ps : List Lp) (c q : Nat) (w : World) (h : XS w g s x ws ps) (h0 : x.co = 0) :
    Calls Tryd.prog 10 #[.pointer (some ⟨g, 0, none⟩), .int .i64 c, .int .i64 q] w fun e w' => e = .returned (.tuple #[]) ∧ XS w' g s { x with co := c, pl := q } ws ps ∧ w.grownBy w' (some g) := by
  obtain ⟨c0, c1, c2, c3, c4, c5, c6, c7, c8, c9, c10, hf⟩ := h.cells
  rw [h0] at c9
  have hk := blk_set (blk_set h.k 9 (.int .i64 (c : Int))) 10 (.int .i64 (q : Int))
  have HG := Nm.hide (gr_trans (gr_set w g 9 (.int .i64 (c : Int))) (gr_set _ g 10 (.int .i64 (q : Int))))
  have HX := Nm.hide (h.grown (y := { x with co := c, pl := q }) HG.out hk rfl rfl id)
  clear hk h
  go_enter Tryd.func10, Tryd.ntmps10
  go_wp2
  refine bodyPost_end (v := .tuple #[]) (by simp [results, go_sem]) rfl ⟨rfl, HX.out, HG.out⟩

set_option maxRecDepth 100000 in
set_option maxHeartbeats 800000 in
theorem paren_openS (g : Nat) (s : ByteArray) (x : XB) (ws : List Wd) (ps : List Lp) (c : UInt8) (w : World) (h : XS w g s x ws ps) (hp : x.p ≤ 1000000) (ho : x.o = 0) (hc : c = 40) :
    Calls Tryd.prog 20 #[.pointer (some ⟨g, 0, none⟩), .int .u8 (c.toNat : Int)] w fun e w' => e = .returned (.tuple #[]) ∧ XS w' g s { x with p := x.p + 1, o := x.n } ws ps ∧ w.grownBy w' (some g) := by
  obtain ⟨c0, c1, c2, c3, c4, c5, c6, c7, c8, c9, c10, hf⟩ := h.cells
  rw [ho] at c3
  have d : (c.toNat : Int) = 40 := by rw [hc]; rfl
  have hk := blk_set (blk_set h.k 1 (.int .i64 ((x.p + 1 : Nat) : Int))) 3 (.int .i64 (x.n : Int))
  have HG := Nm.hide (gr_trans (gr_set w g 1 (.int .i64 ((x.p + 1 : Nat) : Int))) (gr_set _ g 3 (.int .i64 (x.n : Int))))
  have HX := Nm.hide (h.grown (y := { x with p := x.p + 1, o := x.n }) HG.out hk rfl rfl id)
  simp only [Int.natCast_add, Int.natCast_one] at HX HG
  clear hk h
  go_enter Tryd.func20, Tryd.ntmps20
  go_wp2
  refine bodyPost_end (v := .tuple #[]) (by simp [results, go_sem]) rfl ⟨rfl, HX.out, HG.out⟩

set_option maxRecDepth 100000 in
set_option maxHeartbeats 800000 in
theorem paren_closeS (g : Nat) (s : ByteArray) (x : XB) (ws : List Wd) (ps : List Lp) (c : UInt8) (w : World) (h : XS w g s x ws ps) (hp : x.p ≤ 1000000) (ho : x.o ≠ 0) (hc : c = 41) :
    Calls Tryd.prog 20 #[.pointer (some ⟨g, 0, none⟩), .int .u8 (c.toNat : Int)] w fun e w' => e = .returned (.tuple #[]) ∧ XS w' g s { x with p := x.p + 1, o := 0 } ws ps ∧ w.grownBy w' (some g) := by
  obtain ⟨c0, c1, c2, c3, c4, c5, c6, c7, c8, c9, c10, hf⟩ := h.cells
  have d : (c.toNat : Int) = 41 := by rw [hc]; rfl
  have do1 : 0 < (x.o : Int) := by omega
  have hk := blk_set (blk_set h.k 1 (.int .i64 ((x.p + 1 : Nat) : Int))) 3 (.int .i64 ((0 : Nat) : Int))
  have HG := Nm.hide (gr_trans (gr_set w g 1 (.int .i64 ((x.p + 1 : Nat) : Int))) (gr_set _ g 3 (.int .i64 ((0 : Nat) : Int))))
  have HX := Nm.hide (h.grown (y := { x with p := x.p + 1, o := 0 }) HG.out hk rfl rfl id)
  simp only [Int.natCast_add, Int.natCast_one] at HX HG
  clear hk h
  go_enter Tryd.func20, Tryd.ntmps20
  go_wp2
  refine bodyPost_end (v := .tuple #[]) (by simp [results, go_sem]) rfl ⟨rfl, HX.out, HG.out⟩

set_option maxRecDepth 100000 in
set_option maxHeartbeats 800000 in
theorem paren_badS (g : Nat) (s : ByteArray) (x : XB) (ws : List Wd) (ps : List Lp) (c : UInt8) (w : World) (h : XS w g s x ws ps) (hp : x.p ≤ 1000000) (h0 : x.co = 0) (hc : (c = 40 ∧ x.o ≠ 0) ∨ (c = 41 ∧ x.o = 0)) :
    Calls Tryd.prog 20 #[.pointer (some ⟨g, 0, none⟩), .int .u8 (c.toNat : Int)] w fun e w' => e = .returned (.tuple #[]) ∧ XS w' g s { x with p := x.p + 1, co := 14, pl := x.n } ws ps ∧ w.grownBy w' (some g) := by
  obtain ⟨c0, c1, c2, c3, c4, c5, c6, c7, c8, c9, c10, hf⟩ := h.cells
  have hk := blk_set h.k 1 (.int .i64 ((x.p + 1 : Nat) : Int))
  have HG := gr_set w g 1 (.int .i64 ((x.p + 1 : Nat) : Int))
  have HX := h.grown (y := { x with p := x.p + 1 }) HG hk rfl rfl id
  have hfa := l05Fail_any g s _ ws ps 14 x.n _ HX h0
  have HGG := Nm.hide HG
  simp only [Int.natCast_add, Int.natCast_one] at hfa HGG
  clear hk h HX HG
  rcases hc with ⟨hc, ho⟩ | ⟨hc, ho⟩
  · have d : (c.toNat : Int) = 40 := by rw [hc]; rfl
    have do1 : ((x.o : Int) == 0) = false := by simp; omega
    go_enter Tryd.func20, Tryd.ntmps20
    go_wp2_with (go_at_call 10; refine hfa.mono ?_; rintro e w2 ⟨rfl, hx2, hg2⟩)
    refine bodyPost_end (v := .tuple #[]) (by simp [results, go_sem]) rfl ⟨rfl, hx2, gr_trans HGG.out hg2⟩
  · have d : (c.toNat : Int) = 41 := by rw [hc]; rfl
    rw [ho] at c3
    go_enter Tryd.func20, Tryd.ntmps20
    go_wp2_with (go_at_call 10; refine hfa.mono ?_; rintro e w2 ⟨rfl, hx2, hg2⟩)
    refine bodyPost_end (v := .tuple #[]) (by simp [results, go_sem]) rfl ⟨rfl, hx2, gr_trans HGG.out hg2⟩

set_option maxRecDepth 100000 in
set_option maxHeartbeats 400000 in
theorem l05Blank_any (c : UInt8) (w : World) :
    Calls Tryd.prog 18 #[.int .u8 (c.toNat : Int)] w fun e w' => e = .returned (.bool (isBl c)) ∧ w' = w := by
  have e1 : ((c.toNat : Int) == 32) = (c == 32) := u8_eq c 32
  have e2 : ((c.toNat : Int) == 9) = (c == 9) := u8_eq c 9
  have e3 : ((c.toNat : Int) == 13) = (c == 13) := u8_eq c 13
  have hb : isBl c = (c == 32 || c == 9 || c == 13) := rfl
  rw [hb]
  clear hb
  cases h1 : (c == 32) <;> cases h2 : (c == 9) <;> cases h3 : (c == 13) <;> rw [h1] at e1 <;> rw [h2] at e2 <;> rw [h3] at e3 <;> clear h1 h2 h3 <;>
  · go_enter Tryd.func18, Tryd.ntmps18
    go_wp2
    go_ret
    exact ⟨rfl, rfl⟩

set_option maxRecDepth 100000 in
set_option maxHeartbeats 800000 in
theorem l05Special_any (c : UInt8) (w : World) :
    Calls Tryd.prog 27 #[.int .u8 (c.toNat : Int)] w fun e w' => e = .returned (.bool (isSp c)) ∧ w' = w := by
  have e1 : ((c.toNat : Int) == 10) = (c == 10) := u8_eq c 10
  have e2 : ((c.toNat : Int) == 59) = (c == 59) := u8_eq c 59
  have e3 : ((c.toNat : Int) == 40) = (c == 40) := u8_eq c 40
  have e4 : ((c.toNat : Int) == 41) = (c == 41) := u8_eq c 41
  have e5 : ((c.toNat : Int) == 34) = (c == 34) := u8_eq c 34
  have hib := fun W => l05Blank_any c W
  have hb : isSp c = (isBl c || c == 10 || c == 59 || c == 40 || c == 41 || c == 34) := rfl
  rw [hb]
  clear hb
  generalize isBl c = b at *
  generalize (c == 10) = b1 at *
  generalize (c == 59) = b2 at *
  generalize (c == 40) = b3 at *
  generalize (c == 41) = b4 at *
  generalize (c == 34) = b5 at *
  cases b
  · cases b1
    · cases b2
      · cases b3
        · cases b4
          · cases b5 <;>
            · go_enter Tryd.func27, Tryd.ntmps27
              go_wp2_with (go_at_call 18; refine (hib _).mono ?_; rintro e w' ⟨rfl, rfl⟩)
              go_ret
              exact ⟨rfl, rfl⟩
          · go_enter Tryd.func27, Tryd.ntmps27
            go_wp2_with (go_at_call 18; refine (hib _).mono ?_; rintro e w' ⟨rfl, rfl⟩)
            go_ret
            exact ⟨rfl, rfl⟩
        · go_enter Tryd.func27, Tryd.ntmps27
          go_wp2_with (go_at_call 18; refine (hib _).mono ?_; rintro e w' ⟨rfl, rfl⟩)
          go_ret
          exact ⟨rfl, rfl⟩
      · go_enter Tryd.func27, Tryd.ntmps27
        go_wp2_with (go_at_call 18; refine (hib _).mono ?_; rintro e w' ⟨rfl, rfl⟩)
        go_ret
        exact ⟨rfl, rfl⟩
    · go_enter Tryd.func27, Tryd.ntmps27
      go_wp2_with (go_at_call 18; refine (hib _).mono ?_; rintro e w' ⟨rfl, rfl⟩)
      go_ret
      exact ⟨rfl, rfl⟩
  · go_enter Tryd.func27, Tryd.ntmps27
    go_wp2_with (go_at_call 18; refine (hib _).mono ?_; rintro e w' ⟨rfl, rfl⟩)
    go_ret
    exact ⟨rfl, rfl⟩

theorem special_q {c : UInt8} {w : World} (b : Bool) (hb : isSp c = b) (k : Nat) :
    Calls Tryd.prog 27 #[.int .u8 (c.toNat : Int)] (w.drewN k) fun e w' => e = .returned (.bool b) ∧ ∃ m, w' = w.drewN m := by
  subst hb
  exact Calls.quiet_of_same (l05Special_any c _)
end Go.Proofs.YtjbdfooppokonaaDoor
