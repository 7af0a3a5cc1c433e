import Derived.Test.YtakonfkefoeenahJRd1
import Derived.Laws.AppendOwn
/- (*reader).name by its contract. -/
namespace Go.Proofs.Ytakonfkefoeenah
open Go.RowKit
set_option linter.unusedVariables false

theorem Try.infoRd : (Try.prog.info? 5).map (fun i => (i.zero, i.size, i.bytes)) = some (some (.int .u8 0), 1, 1) := by kernel_rfl

theorem gr_step {w w1 w2 : World} {g : Nat} (h : w.grownBy w1 (some g)) (h2 : w1.grownBy w2 (some g)) : w.grownBy w2 (some g) :=
  ⟨h2.os.trans h.os, h2.tape.trans h.tape, h2.output.trans h.output, Nat.le_trans h.size h2.size, fun k hk hne => (h2.block k (Nat.lt_of_lt_of_le hk h.size) hne).trans (h.block k hk hne)⟩

theorem gr_own {w w1 w2 : World} {g : Nat} {row : Option Nat} (h : w.grownBy w1 (some g)) (h2 : w1.grownBy w2 row) (hr : ∀ k, row = some k → w.heap.size ≤ k) : w.grownBy w2 (some g) :=
  ⟨h2.os.trans h.os, h2.tape.trans h.tape, h2.output.trans h.output, Nat.le_trans h.size h2.size, fun k hk hne =>
    (h2.block k (Nat.lt_of_lt_of_le hk h.size) (fun e => by have := hr k e.symm; omega)).trans (h.block k hk hne)⟩

theorem gr_below {w w1 w2 : World} {g : Nat} (h : w.grownBy w1 (some g)) (h2 : Below w1.heap.size w1 w2) : w.grownBy w2 (some g) :=
  ⟨h2.os.trans h.os, h2.tape.trans h.tape, h2.output.trans h.output, Nat.le_trans h.size h2.size, fun k hk hne =>
    (h2.block k (Nat.lt_of_lt_of_le hk h.size)).trans (h.block k hk hne)⟩

theorem rd_lt {w : World} {g p : Nat} {v : Value} (h : Rd w g v p) : g < w.heap.size := (Array.getElem?_eq_some_iff.1 h).1

theorem rd_below {w w1 : World} {g p : Nat} {v : Value} (h : Rd w g v p) (hb : Below w.heap.size w w1) : Rd w1 g v p := by
  unfold Rd
  rw [hb.block g (rd_lt h)]; exact h

theorem rd_grown {w w1 : World} {g p : Nat} {v : Value} {row : Option Nat} (h : Rd w g v p) (hg : w.grownBy w1 row) (hr : row ≠ some g) : Rd w1 g v p := by
  unfold Rd
  rw [hg.block g (rd_lt h) (fun e => hr e.symm)]; exact h

/-- A row of the call's own is not a reader's block: its elements are of another type. -/
theorem row_rd {w : World} {B e m g p : Nat} {v V : Value} {xs : List Value} (h : w.ownsRow B e 1 v m xs) (hs : Rd w g V p) (hne : e ≠ 42) : v.ownBlock = none ∨ v.ownBlock ≠ some g := by
  rcases h.2 with ⟨rfl, _⟩ | ⟨g', cap', cur, rfl, _, hh, _⟩
  · exact .inl rfl
  · right
    simp only [Value.ownBlock, ne_eq, Option.some.injEq]
    intro e2
    subst e2
    unfold Rd at hs
    rw [hh] at hs
    simp at hs
    exact hne hs.2

theorem row_rd' {w : World} {B e m g p : Nat} {v V : Value} {xs : List Value} (h : w.ownsRow B e 1 v m xs) (hs : Rd w g V p) (hne : e ≠ 42) : v.ownBlock ≠ some g := by
  rcases row_rd h hs hne with h | h
  · rw [h]; simp
  · exact h

/-- How far a name has been read: the row 'vo' holds 'acc', the reader that walks lies in gw, the first one (in g) behind the first pointer. -/
structure NSt (w wr : World) (g gw : Nat) (V : Value) (n : Nat) (vo : Value) (acc : List UInt8) (nx : Option Nat) (pos : Nat) : Prop where
  own : wr.ownsRow w.heap.size 5 1 vo acc.length (Nm.bys acc)
  rd : Rd wr gw V pos
  le : pos ≤ n
  ptr : (nx = none ∧ gw = g) ∨ ∃ x, nx = some x ∧ x ≤ n ∧ Rd wr g V x ∧ w.heap.size ≤ gw
  grown : w.grownBy wr (some g)
  lt : g < w.heap.size

section
variable {w wr w1 : World} {g gw n pos pos1 : Nat} {V vo vo1 : Value} {acc acc1 : List UInt8} {nx : Option Nat}

theorem NSt.far (h : NSt w wr g gw V n vo acc nx pos) (hg : wr.grownBy w1 (some gw)) : w.grownBy w1 (some g) := by
  rcases h.ptr with ⟨_, rfl⟩ | ⟨x, _, _, _, hge⟩
  · exact gr_step h.grown hg
  · exact gr_own h.grown hg (fun k hk => by simp at hk; omega)

theorem NSt.read (h : NSt w wr g gw V n vo acc nx pos) (hg : wr.grownBy w1 (some gw)) (hr : Rd w1 gw V pos1) (hle : pos1 ≤ n) : NSt w w1 g gw V n vo acc nx pos1 := by
  refine ⟨h.own.kept hg (row_rd h.own h.rd (by decide)), hr, hle, ?_, h.far hg, h.lt⟩
  rcases h.ptr with hp | ⟨x, hx, hxn, hrx, hge⟩
  · exact .inl hp
  · refine .inr ⟨x, hx, hxn, rd_grown hrx hg ?_, hge⟩
    have := h.lt
    simp; omega

theorem NSt.app (h : NSt w wr g gw V n vo acc nx pos) (hg : wr.grownBy w1 vo.ownBlock) (ho : w1.ownsRow w.heap.size 5 1 vo1 acc1.length (Nm.bys acc1)) : NSt w w1 g gw V n vo1 acc1 nx pos := by
  refine ⟨ho, rd_grown h.rd hg (row_rd' h.own h.rd (by decide)), h.le, ?_, gr_own h.grown hg (fun k hk => (h.own.lt k hk).1), h.lt⟩
  rcases h.ptr with hp | ⟨x, hx, hxn, hrx, hge⟩
  · exact .inl hp
  · exact .inr ⟨x, hx, hxn, rd_grown hrx hg (row_rd' h.own hrx (by decide)), hge⟩

theorem NSt.alloc (h : NSt w wr g gw V n vo acc nx pos) (o : Obj) : NSt w (wr.alloc o) g gw V n vo acc nx pos := by
  have hb : Below wr.heap.size wr (wr.alloc o) := (Below.refl _ _).alloc (Nat.le_refl _) o
  refine ⟨h.own.alloc _, rd_below h.rd hb, h.le, ?_, gr_below h.grown hb, h.lt⟩
  rcases h.ptr with hp | ⟨x, hx, hxn, hrx, hge⟩
  · exact .inl hp
  · exact .inr ⟨x, hx, hxn, rd_below hrx hb, hge⟩

theorem NSt.lead (h : NSt w wr g gw V n vo acc nx pos) {to : Nat} (hto : to ≤ n) :
    NSt w (wr.alloc (.cells #[V, .int .i64 (to : Int)] 42)) g wr.heap.size V n vo acc (some (nx.getD pos)) to := by
  have hb : Below wr.heap.size wr (wr.alloc (.cells #[V, .int .i64 (to : Int)] 42)) := (Below.refl _ _).alloc (Nat.le_refl _) _
  refine ⟨h.own.alloc _, ?_, hto, ?_, gr_below h.grown hb, h.lt⟩
  · unfold Rd; show (wr.heap.push _)[wr.heap.size]? = _; simp
  · rcases h.ptr with ⟨rfl, rfl⟩ | ⟨x, rfl, hxn, hrx, hge⟩
    · exact .inr ⟨pos, rfl, h.le, rd_below h.rd hb, h.grown.size⟩
    · exact .inr ⟨x, rfl, hxn, rd_below hrx hb, h.grown.size⟩

theorem NSt.done (h : NSt w wr g gw V n vo acc nx pos) : Rd wr g V (nx.getD pos) ∧ nx.getD pos ≤ n := by
  rcases h.ptr with ⟨rfl, rfl⟩ | ⟨x, rfl, hxn, hrx, hge⟩
  · exact ⟨h.rd, h.le⟩
  · exact ⟨hrx, hxn⟩
end

/-- A slice's length. -/
def slLen : Value → Nat
  | .slice _ n _ => n
  | _ => 0

theorem own_len {w : World} {B e n : Nat} {v : Value} {xs : List Value} (h : w.ownsRow B e 1 v n xs) : slLen v = n := by
  rcases h.2 with ⟨rfl, rfl⟩ | ⟨g', cap', cur, rfl, _⟩ <;> rfl

theorem num_one {l : List UInt8} {p : Nat} (h : p < l.length) : numL ((l.drop p).take 1) = byAt l p := by
  rw [List.drop_eq_getElem_cons h, List.take_succ_cons, List.take_zero, numL, byAt, List.getD_eq_getElem?_getD, List.getElem?_eq_getElem h]
  simp

theorem take_more {l : List UInt8} {p k : Nat} (h : p < l.length) : (l.drop p).take (1 + k) = UInt8.ofNat (byAt l p) :: (l.drop (p + 1)).take k := by
  rw [List.drop_eq_getElem_cons h, Nat.add_comm, List.take_succ_cons, byAt, List.getD_eq_getElem?_getD, List.getElem?_eq_getElem h]
  simp

end Go.Proofs.Ytakonfkefoeenah
