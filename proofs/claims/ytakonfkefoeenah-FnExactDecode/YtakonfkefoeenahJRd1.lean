import Derived.Test.YtakonfkefoeenahJMath
import Derived.Test.YtakonfkefoeenahRows
import Derived.WalkSpells
import Derived.WalkLawsBesides
import Derived.RegionTactic
import Derived.BigRegion
import Derived.BigQuiet
import Derived.Deep.QuietTactic
import Derived.OpenShut
import Derived.Test.YtakonfkefoeenahByT
import Derived.Test.YtakonfkefoeenahJDnM
import Derived.Test.YtakonfkefoeenahJNumM
/- impl.fail, (*reader).take by their contracts. -/
namespace Go.Proofs.Ytakonfkefoeenah
open Go.RowKit
set_option linter.unusedVariables false

/-- What a reader panics with. -/
def fault (c : Int) : List PanicEntry := [{ v := .iface 62 (.agg #[.int .i64 c]), recovered := false }]

set_option maxRecDepth 100000 in
set_option maxHeartbeats 400000 in
theorem fail_any (c : Int) (w : World) :
    Calls Try.prog 27 #[.int .i64 c] w fun e w' => e = .panicked (fault c) ∧ w' = w := by
  go_enter Try.func27, Try.ntmps27
  go_wp2
  simp [bodyPost, fault]

theorem bp_panic {P : Program} {f : Func} {R : Ending → World → Prop} {ch : List PanicEntry} {a : Act} {w : World} (hd : a.defers = []) (h : R (.panicked ch) w) : bodyPost P f R (.panic ch) a w := by
  simp only [bodyPost]
  exact ⟨hd, h⟩

/-- A reader lies in block g: its bytes' slice, its place. -/
def Rd (w : World) (g : Nat) (v : Value) (p : Nat) : Prop := w.heap[g]? = some (.cells #[v, .int .i64 p] 42 (0, 0))

/-- What take tells of a slice. -/
def cutV (a : Option Addr) (cap p size : Nat) : Value := if cap = p then .slice a size 0 else .slice (a.map (fun x => x.add p)) size (cap - p)

theorem grown_drew {w w' : World} {row : Option Nat} (h : w.grownBy w' row) : w.grownBy w'.drew row := ⟨h.os, h.tape, h.output, h.size, h.block⟩

theorem rd_set {w : World} {g p q : Nat} {v : Value} (h : Rd w g v p) : Rd (w.setCell ⟨g, 1, none⟩ (.int .i64 q)) g v q ∧ w.grownBy (w.setCell ⟨g, 1, none⟩ (.int .i64 q)) (some g) := by
  refine ⟨?_, ⟨rfl, rfl, rfl, by simp, fun k _ hk => heap_setCell_other w ⟨g, 1, none⟩ k _ (fun e => hk (by simp [e]))⟩⟩
  unfold Rd
  rw [heap_setCell_same w g 1 _ _ _ h]; rfl

set_option maxRecDepth 100000 in
set_option maxHeartbeats 800000 in
theorem take_any (g : Nat) (a : Option Addr) (n cap p size : Nat) (w : World) (h : Rd w g (.slice a n cap) p) (hp : p ≤ n) (hn : n ≤ cap) (hnn : n ≤ 1048576) (hs : size ≤ 65535) :
    Calls Try.prog 44 #[.pointer (some ⟨g, 0, none⟩), .int .i64 size] w fun e w' =>
      (p + size ≤ n ∧ e = .returned (cutV a cap p size) ∧ Rd w' g (.slice a n cap) (p + size) ∧ w.grownBy w' (some g)) ∨
      (n < p + size ∧ e = .panicked (fault 8) ∧ w.grownBy w' (some g)) := by
  have c0 : w.cell? ⟨g, 0, none⟩ = some (.slice a n cap) := by rw [cell_of_row _ _ _ _ _ _ h]; rfl
  have c1 : w.cell? ⟨g, 1, none⟩ = some (.int .i64 p) := by rw [cell_of_row _ _ _ _ _ _ h]; rfl
  have f0 := frozen_of_row w g 0 _ _ h
  have f1 := frozen_of_row w g 1 _ _ h
  by_cases hlt : n < p + size
  · have hlt' : (n : Int) - (p : Int) < (size : Int) := by omega
    go_enter Try.func44, Try.ntmps44
    go_wp2
    go_region
    go_wp2_with (go_at_call 27; refine (fail_any 8 _).mono ?_; rintro e w1 ⟨rfl, rfl⟩)
    refine bp_panic rfl ?_
    exact .inr ⟨hlt, rfl, grown_drew (World.grownBy.refl _ _)⟩
  · have hlt' : (size : Int) ≤ (n : Int) - (p : Int) := by omega
    have HS := Nm.hide (rd_set (q := p + size) h)
    simp only [Int.natCast_add] at HS
    have HL : Hid (p + size ≤ n) := by exact Nat.le_of_not_lt hlt
    have hcell := fun q => (World.cell?_setCell_other w ⟨g, 1, none⟩ ⟨g, 0, none⟩ (.int .i64 q) (by simp))
    clear hlt
    by_cases hcp : cap = p
    · subst hcp
      go_enter Try.func44, Try.ntmps44
      go_wp2
      go_region
      go_wp2
      go_region
      go_wp2
      go_ret
      exact .inl ⟨HL.out, by simp [cutV], HS.out.1, grown_drew (grown_drew HS.out.2)⟩
    · go_enter Try.func44, Try.ntmps44
      go_wp2
      go_region
      go_wp2
      go_region
      go_wp2
      go_ret
      exact .inl ⟨HL.out, by simp [cutV, hcp], HS.out.1, grown_drew (grown_drew HS.out.2)⟩
end Go.Proofs.Ytakonfkefoeenah
/- (*reader).number by its contract. -/
namespace Go.Proofs.Ytakonfkefoeenah
open Go.RowKit
set_option linter.unusedVariables false

theorem by_drop {l : List UInt8} {p size : Nat} : Nm.bys ((l.drop p).take size) = ((Nm.bys l).drop p).take size := by
  simp [Nm.bys]

/-- What take tells leads to the bytes from the place on. -/
theorem cut_row {w : World} {a : Option Addr} {l : List UInt8} {cap p size : Nat} (h : BySl w (.slice a l.length cap) l) (hp : p + size ≤ l.length) : CRow w (cutV a cap p size) size 1 (Nm.bys ((l.drop p).take size)) := by
  obtain ⟨_, a', cap', e, h1, h2, h3⟩ := h
  simp only [Value.slice.injEq] at e
  obtain ⟨rfl, _, rfl⟩ := e
  have hlen : (Nm.bys ((l.drop p).take size)).length = size * 1 := by rw [Nm.bys_length]; simp; omega
  refine ⟨hlen, ?_⟩
  by_cases hcp : cap = p
  · refine ⟨a, 0, by rw [cutV, if_pos hcp], by omega, by omega, fun h => by omega⟩
  · refine ⟨a.map (fun x => x.add p), cap - p, by rw [cutV, if_neg hcp], by omega, by omega, fun h => ?_⟩
    obtain ⟨b, off, rfl, hc⟩ := h3 (by omega)
    refine ⟨b, off + p, by simp [Nm.addr_add], fun i x hx => ?_⟩
    rw [by_drop, List.getElem?_take] at hx
    split at hx
    · rw [List.getElem?_drop] at hx
      rw [Nat.add_assoc]
      exact hc _ _ hx
    · cases hx

theorem cut_str {w : World} {v : Value} {l : List UInt8} {n : Nat} (h : CRow w v n 1 (Nm.bys l)) : (convert 22 9 v).run Try.prog w = .ok (.string ⟨l.toArray⟩) w := by
  obtain ⟨hl, a, cap, rfl, h1, h2, h3⟩ := h
  rw [Nm.bys_length, Nat.mul_one] at hl
  subst hl
  rcases Nat.eq_zero_or_pos l.length with h0 | hpos
  · have : l = [] := List.length_eq_zero_iff.1 h0
    subst this
    cases a with
    | none => exact (run_convert_bytes_string w 22 9 5 none 0 cap Try.underlying22 Try.underlying5 Try.underlying9).trans rfl
    | some x => exact run_convert_bytes_back w 22 9 5 x cap [] Try.underlying22 Try.underlying5 Try.underlying9 (by intro j hj; simp at hj)
  · obtain ⟨b, off, rfl, hc⟩ := h3 hpos
    refine run_convert_bytes_back w 22 9 5 ⟨b, off, none⟩ cap l Try.underlying22 Try.underlying5 Try.underlying9 ?_
    intro j hj
    rw [Nm.addr_add]
    exact hc j _ (by simp [Nm.bys, hj])

set_option maxRecDepth 100000 in
set_option maxHeartbeats 800000 in
theorem number_any (g : Nat) (a : Option Addr) (l : List UInt8) (cap p size : Nat) (w : World) (h : Rd w g (.slice a l.length cap) p) (hl : BySl w (.slice a l.length cap) l) (hfar : ∀ w', w.grownBy w' (some g) → BySl w' (.slice a l.length cap) l) (hp : p ≤ l.length) (hnn : l.length ≤ 1048576) (hs : size ≤ 6) :
    Calls Try.prog 37 #[.pointer (some ⟨g, 0, none⟩), .int .i64 size] w fun e w' =>
      (p + size ≤ l.length ∧ e = .returned (.int .i64 (numL ((l.drop p).take size))) ∧ Rd w' g (.slice a l.length cap) (p + size) ∧ w.grownBy w' (some g)) ∨
      (l.length < p + size ∧ e = .panicked (fault 8) ∧ w.grownBy w' (some g)) := by
  have hcap : l.length ≤ cap := by
    obtain ⟨_, a', cap', e, h1, _⟩ := hl
    simp only [Value.slice.injEq] at e
    obtain ⟨rfl, _, rfl⟩ := e
    exact h1
  have ht := take_any g a l.length cap p size w h hp hcap hnn (by omega)
  by_cases hlt : p + size ≤ l.length
  · have hcv := fun W (h : w.grownBy W (some g)) => cut_str (cut_row (hfar W h) hlt)
    have hrb := fun W => readBig_any ⟨((l.drop p).take size).toArray⟩ W (by show ((l.drop p).take size).toArray.size ≤ 6; simp; omega)
    generalize hq : cutV a cap p size = q at *
    have hlt2 : ¬ l.length < p + size := by omega
    simp only [hlt, hlt2, true_and, false_and, or_false] at ht
    go_enter Try.func37, Try.ntmps37
    go_wp2_with (first | (go_at_call 44; refine ht.mono ?_; rintro e w1 ⟨rfl, hr1, hg1⟩; have hcv1 := hcv w1 hg1) | (go_at_call 43; refine (hrb _).mono ?_; rintro e w2 ⟨rfl, rfl⟩))
    go_ret
    exact .inl ⟨hlt, rfl, hr1, hg1⟩
  · have hlt2 : l.length < p + size := by omega
    simp only [hlt, hlt2, true_and, false_and, false_or] at ht
    go_enter Try.func37, Try.ntmps37
    go_wp2_with (go_at_call 44; refine ht.mono ?_; rintro e w1 ⟨rfl, hg1⟩)
    refine bp_panic rfl ?_
    exact .inr ⟨hlt2, rfl, hg1⟩
end Go.Proofs.Ytakonfkefoeenah
