/- impl.fail, (*reader).take by their contracts. -/
import Derived.Test.YtakonfkefoeenadCRow
import Derived.Test.YtakonfkefoeenadRows
import Derived.WalkSpells
import Derived.WalkLawsBesides
import Derived.RegionTactic
import Derived.BigRegion
import Derived.BigQuiet
import Derived.Deep.QuietTactic
import Derived.OpenShut
namespace Go.Proofs.Ytakonfkefoeenad
open Go.RowKit
set_option linter.unusedVariables false

/-- What a reader panics with. -/
def fault (c : Int) : List PanicEntry := [{ v := .iface 56 (.agg #[.int .i64 c]), recovered := false }]

set_option maxRecDepth 100000 in
set_option maxHeartbeats 400000 in
theorem fail_any (c : Int) (w : World) :
    Calls Try.prog 34 #[.int .i64 c] w fun e w' => e = .panicked (fault c) ∧ w' = w := by
  go_enter Try.func34, Try.ntmps34
  go_wp2
  simp [bodyPost, fault]

theorem bp_panic {P : Program} {f : Func} {R : Ending → World → Prop} {ch : List PanicEntry} {a : Act} {w : World} (hd : a.defers = []) (h : R (.panicked ch) w) : bodyPost P f R (.panic ch) a w := by
  simp only [bodyPost]
  exact ⟨hd, h⟩

/-- A reader lies in block g: its bytes' slice, its place. -/
def Rd (w : World) (g : Nat) (v : Value) (p : Nat) : Prop := w.heap[g]? = some (.cells #[v, .int .i64 p] 43 (0, 0))

/-- What take tells of a slice. -/
def cutV (a : Option Addr) (cap p size : Nat) : Value := if cap = p then .slice a size 0 else .slice (a.map (fun x => x.add p)) size (cap - p)

theorem grown_drew {w w' : World} {row : Option Nat} (h : w.grownBy w' row) : w.grownBy w'.drew row := ⟨h.os, h.tape, h.output, h.size, h.block⟩

theorem rd_set {w : World} {g p q : Nat} {v : Value} (h : Rd w g v p) : Rd (w.setCell ⟨g, 1, none⟩ (.int .i64 q)) g v q ∧ w.grownBy (w.setCell ⟨g, 1, none⟩ (.int .i64 q)) (some g) := by
  refine ⟨?_, ⟨rfl, rfl, rfl, by simp, fun k _ hk => heap_setCell_other w ⟨g, 1, none⟩ k _ (fun e => hk (by simp [e]))⟩⟩
  unfold Rd
  rw [heap_setCell_same w g 1 _ _ _ h]; rfl

set_option maxRecDepth 100000 in
set_option maxHeartbeats 800000 in
theorem take_any (g : Nat) (a : Option Addr) (n cap p size : Nat) (w : World) (h : Rd w g (.slice a n cap) p) (hp : p ≤ n) (hn : n ≤ cap) (hnn : n ≤ 1048576) (hs : size ≤ 65535) :
    Calls Try.prog 33 #[.pointer (some ⟨g, 0, none⟩), .int .i64 size] w fun e w' =>
      (p + size ≤ n ∧ e = .returned (cutV a cap p size) ∧ Rd w' g (.slice a n cap) (p + size) ∧ w.grownBy w' (some g)) ∨
      (n < p + size ∧ e = .panicked (fault 8) ∧ w.grownBy w' (some g)) := by
  have c0 : w.cell? ⟨g, 0, none⟩ = some (.slice a n cap) := by rw [cell_of_row _ _ _ _ _ _ h]; rfl
  have c1 : w.cell? ⟨g, 1, none⟩ = some (.int .i64 p) := by rw [cell_of_row _ _ _ _ _ _ h]; rfl
  have f0 := frozen_of_row w g 0 _ _ h
  have f1 := frozen_of_row w g 1 _ _ h
  by_cases hlt : n < p + size
  · have hlt' : (n : Int) - (p : Int) < (size : Int) := by omega
    go_enter Try.func33, Try.ntmps33
    go_wp2
    go_region
    go_wp2_with (go_at_call 34; refine (fail_any 8 _).mono ?_; rintro e w1 ⟨rfl, rfl⟩)
    refine bp_panic rfl ?_
    exact .inr ⟨hlt, rfl, grown_drew (World.grownBy.refl _ _)⟩
  · have hlt' : (size : Int) ≤ (n : Int) - (p : Int) := by omega
    have HS := Nm.hide (rd_set (q := p + size) h)
    simp only [Int.natCast_add] at HS
    have HL : Hid (p + size ≤ n) := by exact Nat.le_of_not_lt hlt
    have hcell := fun q => (World.cell?_setCell_other w ⟨g, 1, none⟩ ⟨g, 0, none⟩ (.int .i64 q) (by simp))
    clear hlt
    by_cases hcp : cap = p
    · subst hcp
      go_enter Try.func33, Try.ntmps33
      go_wp2
      go_region
      go_wp2
      go_region
      go_wp2
      go_ret
      exact .inl ⟨HL.out, by simp [cutV], HS.out.1, grown_drew (grown_drew HS.out.2)⟩
    · go_enter Try.func33, Try.ntmps33
      go_wp2
      go_region
      go_wp2
      go_region
      go_wp2
      go_ret
      exact .inl ⟨HL.out, by simp [cutV, hcp], HS.out.1, grown_drew (grown_drew HS.out.2)⟩
end Go.Proofs.Ytakonfkefoeenad
