import Derived.Test.YtilcbdhcojgcbaaCut
import Derived.Test.YtilcbdhcojgcbaaJRd4
import Derived.Test.YtilcbdhcojgcbaaJCutM
/- impl.CheckData by its contract. -/
namespace Go.Proofs.Ytilcbdhcojgcbaa
open Go.RowKit

set_option maxRecDepth 100000 in
set_option maxHeartbeats 400000 in
theorem implCheckData_any (t : Int) (d : ByteArray) (w : World) (hd : d.size ≤ 2000000) :
    Calls Try.prog 75 #[.int .i64 t, .string d] w fun e w' => e = .returned (.int .i64 (cutCode t d)) ∧ Below w.heap.size w w' := by
  have hcall := cutData_any t d w hd
  go_enter Try.func75, Try.ntmps75
  go_wp2_with (go_at_call 81; refine hcall.mono ?_; rintro e w2 ⟨v, rfl, _, _, hbel⟩)
  go_ret
  exact ⟨rfl, hbel⟩
end Go.Proofs.Ytilcbdhcojgcbaa
/- (*reader).wholeNames by its contract. -/
namespace Go.Proofs.Ytilcbdhcojgcbaa
open Go.RowKit
set_option linter.unusedVariables false

/-- The program's pieces of a type whose names may have pointers. -/
def pcOf : Option Nat → Dt.Pc
  | none => Dt.Pc.nm
  | some n => Dt.Pc.bs n

theorem pieces_impl {t : Nat} (h : pointed t) : Dt.implP t = (piecesOf t).map pcOf := by
  rcases h with rfl | rfl | rfl | rfl | rfl <;> rfl

/-- How far data has been read: the row 'vo' holds 'acc', the reader lies in g. -/
structure WSt (w wr : World) (g : Nat) (V : Value) (n : Nat) (vo : Value) (acc : List UInt8) (pos : Nat) : Prop where
  own : wr.ownsRow w.heap.size 5 1 vo acc.length (Nm.bys acc)
  rd : Rd wr g V pos
  le : pos ≤ n
  grown : w.grownBy wr (some g)

section
variable {w wr w1 : World} {g n pos pos1 : Nat} {V vo vo1 : Value} {acc acc1 : List UInt8}

theorem WSt.read (h : WSt w wr g V n vo acc pos) (hg : wr.grownBy w1 (some g)) (hr : Rd w1 g V pos1) (hle : pos1 ≤ n) : WSt w w1 g V n vo acc pos1 :=
  ⟨h.own.kept hg (row_rd h.own h.rd (by decide)), hr, hle, gr_step h.grown hg⟩

theorem WSt.app (h : WSt w wr g V n vo acc pos) (hg : wr.grownBy w1 vo.ownBlock) (ho : w1.ownsRow w.heap.size 5 1 vo1 acc1.length (Nm.bys acc1)) : WSt w w1 g V n vo1 acc1 pos :=
  ⟨ho, rd_grown h.rd hg (row_rd' h.own h.rd (by decide)), h.le, gr_own h.grown hg (fun k hk => (h.own.lt k hk).1)⟩

theorem WSt.below (h : WSt w wr g V n vo acc pos) (hb : Below wr.heap.size wr w1) : WSt w w1 g V n vo acc pos :=
  ⟨own_below h.own hb, rd_below h.rd hb, h.le, gr_below h.grown hb⟩
end

/-- A name that was read has at most 255 bytes. -/
theorem dnF_size (l : List UInt8) (start pos : Nat) (acc : List UInt8) (nx : Option Nat) : acc.length ≤ 254 → ∀ s q, dnF l start pos acc nx = .ok s q → s.length ≤ 255 := by
  fun_induction dnF l start pos acc nx with
  | case1 start pos acc nx h h0 => intro ha s q e; simp at e; obtain ⟨rfl, _⟩ := e; simp; omega
  | case2 start pos acc nx h h0 h1 h2 h3 ih => intro ha s q e; exact ih ha s q e
  | case6 start pos acc nx h h0 h1 h2 h3 h4 ih =>
    intro ha s q e
    refine ih ?_ s q e
    simp
    omega
  | _ => intro ha s q e; cases e

end Go.Proofs.Ytilcbdhcojgcbaa
