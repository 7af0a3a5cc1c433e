/- The program's lexer: a line. -/
import Derived.Test.YtjbdfooppokonaaDoorLxF
import Derived.Test.YtjbdfooppokonaaDoorOwnT
namespace Go.Proofs.YtjbdfooppokonaaDoor
open Go.RowKit
set_option linter.unusedVariables false

/-- A row of words. -/
def wdV (x : Wd) : List Value := [.string x.1, .bool x.2]
def wdVs (ws : List Wd) : List Value := ws.flatMap wdV
theorem wdVs_app (a b : List Wd) : wdVs (a ++ b) = wdVs a ++ wdVs b := by simp [wdVs]
theorem wdVs_len (ws : List Wd) : (wdVs ws).length = ws.length * 2 := by
  induction ws with
  | nil => rfl
  | cons x ws ih => simp only [wdVs, List.flatMap_cons, List.length_append, List.length_cons] at *; rw [ih]; simp [wdV]; omega

set_option maxRecDepth 100000 in
set_option maxHeartbeats 400000 in
theorem check_ok (n k : Nat) (b : Bool) (a : Option Addr) (c : Nat) (w : World) (hk : k ≤ 300) :
    Calls Tryd.prog 29 #[.agg #[.int .i64 n, .bool b, .slice a k c]] w fun e w' => e = .returned .nilIface ∧ Below w.heap.size w w' := by
  have hk' : (k : Int) ≤ 300 := by omega
  go_enter Tryd.func29, Tryd.ntmps29
  go_wp2
  go_ret
  exact ⟨rfl, (Below.refl _ _).alloc (Nat.le_refl _) _⟩

set_option maxRecDepth 100000 in
set_option maxHeartbeats 400000 in
theorem check_bad (n k : Nat) (b : Bool) (a : Option Addr) (c : Nat) (w : World) (hk : 300 < k) :
    Calls Tryd.prog 29 #[.agg #[.int .i64 n, .bool b, .slice a k c]] w fun e w' => e = .returned (linE n 15) ∧ Below w.heap.size w w' := by
  have hk' : 300 < (k : Int) := by omega
  go_enter Tryd.func29, Tryd.ntmps29
  go_wp2
  go_ret
  exact ⟨rfl, (Below.refl _ _).alloc (Nat.le_refl _) _⟩

/-- What goes on behind a region is shown once, whatever the order was. -/
theorem via_key {K : Act → World → Prop} {G : Prop} (A : Act) (W : World) (h : K A W → G) (k : K A W) : G := h k

theorem own_grL {W W1 : World} {B e s m g : Nat} {v : Value} {xs : List Value} (h : W.ownsRow B e s v m xs) (hg : W.grownBy W1 (some g)) (hlt : g < B) : W1.ownsRow B e s v m xs := by
  refine h.kept hg ?_
  cases hv : v.ownBlock with
  | none => exact .inl rfl
  | some k =>
    right
    have := (h.lt k hv).1
    simp
    omega
/-- A line on its way. -/
structure LSt (w wr : World) (g : Nat) (s : ByteArray) (num : Nat) (bl : Bool) (q m o : Nat) (ws : List Wd) (v : Value) : Prop where
  lx : Lx wr g s q m o
  k2 : Blk wr w.heap.size #[.int .i64 0, .bool false, .slice none 0 0] 30
  k4 : Blk wr (w.heap.size + 1) #[.int .i64 num, .bool bl, v] 30
  own : wr.ownsRow w.heap.size 62 2 v ws.length (wdVs ws)
  gr : w.grownBy wr (some g)
  lt : g < w.heap.size
theorem LSt.step {w wr W : World} {g num q m o q' m' o' : Nat} {s : ByteArray} {bl : Bool} {ws : List Wd} {v : Value} (h : LSt w wr g s num bl q m o ws v) (hg : wr.grownBy W (some g)) (hl : Lx W g s q' m' o') : LSt w W g s num bl q' m' o' ws v :=
  ⟨hl, blk_grown h.k2 hg (by have := h.lt; simp; omega), blk_grown h.k4 hg (by have := h.lt; simp; omega), own_grL h.own hg h.lt, gr_trans h.gr hg, h.lt⟩

/-- What line answers. -/
def LnP (B g : Nat) (s : ByteArray) (num : Nat) (bl : Bool) (w : World) (r : LR) (e : Ending) (w' : World) : Prop :=
  w.grownBy w' (some g) ∧ match r with
  | .inl (c, q) => ∃ (k : Int) (b : Bool) (a : Option Addr) (l m : Nat), e = .returned (.tuple #[.agg #[.int .i64 k, .bool b, .slice a l m], linE q c])
  | .inr (p, n, ws) => ∃ v, e = .returned (.tuple #[.agg #[.int .i64 num, .bool bl, v], .nilIface]) ∧ Lx w' g s p n 0 ∧ w'.ownsRow B 62 2 v ws.length (wdVs ws)

theorem own_blkL {W : World} {B e s m b : Nat} {v : Value} {xs : List Value} {cs : Array Value} {T : TypeId} (h : W.ownsRow B e s v m xs) (hb : Blk W b cs T) (hne : e ≠ T) : v.ownBlock ≠ some b := by
  rcases h.2 with ⟨rfl, _⟩ | ⟨g', cap', cur, rfl, _, hh, _⟩
  · simp [Value.ownBlock]
  · simp only [Value.ownBlock, ne_eq, Option.some.injEq]
    intro e2
    subst e2
    unfold Blk at hb
    rw [hh] at hb
    simp at hb
    exact hne hb.2
/-- A row of one's own grew, or was moved. -/
theorem gr_row {w W W1 : World} {g B e s m : Nat} {v : Value} {xs : List Value} (h : w.grownBy W (some g)) (ho : W.ownsRow B e s v m xs) (hB : w.heap.size ≤ B) (hg : W.grownBy W1 v.ownBlock) : w.grownBy W1 (some g) :=
  ⟨hg.os.trans h.os, hg.tape.trans h.tape, hg.output.trans h.output, Nat.le_trans h.size hg.size, fun k hk hne => (hg.block k (Nat.lt_of_lt_of_le hk h.size) (fun e => by have := (ho.lt k e.symm).1; omega)).trans (h.block k hk hne)⟩
theorem Lx.row {W W1 : World} {g p n o B e s' m : Nat} {s : ByteArray} {v : Value} {xs : List Value} (h : Lx W g s p n o) (ho : W.ownsRow B e s' v m xs) (hg : W.grownBy W1 v.ownBlock) (hlt : g < B) : Lx W1 g s p n o :=
  h.grown hg (fun e => by have := (ho.lt g e).1; omega)
theorem LSt.far {w W : World} {g num q m o b i : Nat} {s : ByteArray} {bl : Bool} {ws : List Wd} {v y : Value} (h : LSt w W g s num bl q m o ws v) (hb : w.heap.size + 2 ≤ b) (hv : v.ownBlock ≠ some b) : LSt w (W.setCell ⟨b, i, none⟩ y) g s num bl q m o ws v :=
  ⟨h.lx.far (by have := h.lt; omega), blk_far h.k2 (by omega), blk_far h.k4 (by omega), own_far h.own hv, gr_new h.gr (by omega), h.lt⟩
theorem LSt.four {w W : World} {g num q m o : Nat} {s : ByteArray} {bl : Bool} {ws : List Wd} {v : Value} (h : LSt w W g s num bl q m o ws v) : w.heap.size + 2 ≤ W.heap.size := blk_lt h.k4
/-- A word is put behind. -/
theorem LSt.put {w W W1 : World} {g num q m o : Nat} {s : ByteArray} {bl : Bool} {ws : List Wd} {v v' : Value} {x : Wd} (h : LSt w W g s num bl q m o ws v) (ho : W1.ownsRow w.heap.size 62 2 v' (ws.length + 1) (wdVs ws ++ wdV x)) (hg : W.grownBy W1 v.ownBlock) :
    Blk W1 (w.heap.size + 1) #[.int .i64 num, .bool bl, v] 30 ∧ LSt w (W1.setCell ⟨w.heap.size + 1, 2, none⟩ v') g s num bl q m o (ws ++ [x]) v' := by
  have k4 := blk_grown h.k4 hg (own_blkL h.own h.k4 (by decide))
  have k2 := blk_grown h.k2 hg (own_blkL h.own h.k2 (by decide))
  refine ⟨k4, ⟨(h.lx.row h.own hg h.lt).far (by have := h.lt; omega), blk_far k2 (by omega), blk_set k4 2 v', ?_, gr_new (gr_row h.gr h.own (Nat.le_refl _) hg) (by omega), h.lt⟩⟩
  have e : wdVs (ws ++ [x]) = wdVs ws ++ wdV x := by simp [wdVs]
  rw [e, List.length_append]
  exact own_far ho (own_blkL ho k4 (by decide))
theorem cellL2 (w : World) (x y : Value) (e b : Nat) (hb : b = w.heap.size) : ∀ (j : Nat) (u : Value), [x, y][j]? = some u → (w.alloc (.cells #[x, y] e)).cell? ((⟨b, 0, none⟩ : Addr).add j) = some u := by
  subst hb
  intro j u hj
  match j, hj with
  | 0, hj => simp at hj; subst hj; simp [Addr.add]
  | 1, hj => simp at hj; subst hj; simp [Addr.add]
theorem twoL (x y : Value) (h : x.oneCell' = true) (h' : y.oneCell' = true) : ∀ u : Value, u ∈ [x, y] → u.oneCell' = true := by
  intro u hu; simp at hu; rcases hu with rfl | rfl <;> assumption
theorem Tryd.infoWord : (Tryd.prog.info? 62).map (fun i => (i.zero, i.size, i.bytes)) = some (some (.agg #[.string ⟨#[]⟩, .bool false]), 2, 24) := by kernel_rfl
end Go.Proofs.YtjbdfooppokonaaDoor
