import Derived.Test.YtkiadnglbjamfaaPfV
import Derived.Test.YtkiadnglbjamfaaPfN
/- (linkList).pick and what it calls, by their contracts. -/
namespace Go.Proofs.Ytkiadnglbjamfaa
open Go.RowKit
set_option linter.unusedVariables false

/-- A row of links: their values, and what each of them leads to. -/
structure LkS (w : World) (v : Value) (ls : List Lk) (vs : List (Value × Value × Value)) : Prop where
  len : vs.length = ls.length
  row : CRow w v ls.length 3 (vs.flatMap fun p => [p.1, p.2.1, p.2.2])
  all : ∀ (i : Nat) (p : Value × Value × Value) (l : Lk), vs[i]? = some p → ls[i]? = some l → LkV w p.1 p.2.1 p.2.2 l
theorem LkS.below {w W : World} {v : Value} {ls : List Lk} {vs : List (Value × Value × Value)} (h : LkS w v ls vs) (hb : Below w.heap.size w W) : LkS W v ls vs := ⟨h.len, h.row.below hb, fun i p l h1 h2 => (h.all i p l h1 h2).below hb⟩

theorem tri_at : ∀ (xs : List (Value × Value × Value)) (k j : Nat) (x : Value × Value × Value), xs[k]? = some x → j < 3 → (xs.flatMap fun p => [p.1, p.2.1, p.2.2])[k * 3 + j]? = [x.1, x.2.1, x.2.2][j]? := by
  intro xs
  induction xs with
  | nil => intro k j x h; simp at h
  | cons y xs ih =>
    intro k j x h hj
    have e : ((y :: xs).flatMap fun p => [p.1, p.2.1, p.2.2]) = [y.1, y.2.1, y.2.2] ++ xs.flatMap fun p => [p.1, p.2.1, p.2.2] := by simp
    cases k with
    | zero =>
      simp at h; subst h
      rw [e, Nat.zero_mul, Nat.zero_add, List.getElem?_append_left (by simpa using hj)]
    | succ k =>
      simp at h
      rw [e, List.getElem?_append_right (by simp; omega), show (k + 1) * 3 + j - [y.1, y.2.1, y.2.2].length = k * 3 + j by simp; omega]
      exact ih k j x h hj

set_option maxRecDepth 100000 in
set_option maxHeartbeats 1600000 in
theorem pick1_at (p1 p2 : Nat) (a b c u : Value) (l : Lk) (x : List ByteArray) (w : World) (h : LkV w a b c l) (hu : Nm.SRow w u x) (hx : Few x)
    (k1 : Blk w p1 #[u] 48) (k2 : Blk w p2 #[.func (.func 53) #[] #[]] 84) :
    Calls Try.prog 66 #[.agg #[a, b, c], .pointer (some ⟨p1, 0, none⟩), .pointer (some ⟨p2, 0, none⟩)] w fun e w' => e = .returned (.bool (useB l x && atB l x)) ∧ Below w.heap.size w w' := by
  have hB0 := (Below.refl w.heap.size w).alloc (Nat.le_refl _) (.cells #[a, b, c] 68)
  have k0 := blk_new w #[a, b, c] 68
  have hus := fun W (hW : Below w.heap.size w W) => isOfUse_any a b c u l x W (h.below hW) (hu.below hW) hx
  have hfi := fun W (hW : Below w.heap.size w W) => isAt_any a b c u l x W (h.below hW) (hu.below hW) hx
  have k1' := blk_below k1 hB0
  have k2' := blk_below k2 hB0
  obtain ⟨⟨x1, y1, rfl⟩, ⟨x2, y2, rfl⟩, ⟨x3, y3, rfl⟩⟩ := lk_form h
  obtain ⟨xu, yu, rfl, _⟩ := hu
  clear h k1 k2
  have r1 := fun i => blk_cell k1' i
  have r2 := fun i => blk_cell k2' i
  generalize useB l x = U at *
  generalize atB l x = G at *
  go_enter Try.func66, Try.ntmps66
  go_wp2_with fail
  refine (hus _ hB0).mono ?_
  rintro e w1 ⟨rfl, b1⟩
  have q0 := blk_below k0 b1
  have q1 := blk_below k1' b1
  have q2 := blk_below k2' b1
  have B1 := Nm.below_two hB0 b1
  have r0 := fun i => blk_cell q0 i
  have r1 := fun i => blk_cell q1 i
  have r2 := fun i => blk_cell q2 i
  clear hB0 k0 k1' k2' b1
  cases U with
  | false =>
    go_wp2
    go_ret
    exact ⟨rfl, B1⟩
  | true =>
    go_wp2_with fail
    refine (hfi _ B1).mono ?_
    rintro e w2 ⟨rfl, b2⟩
    go_wp2
    go_ret
    exact ⟨rfl, Nm.below_two B1 b2⟩

set_option maxRecDepth 100000 in
set_option maxHeartbeats 1600000 in
theorem pick1_cov (p1 p2 : Nat) (a b c u : Value) (l : Lk) (x : List ByteArray) (w : World) (h : LkV w a b c l) (hu : Nm.SRow w u x) (hx : Few x)
    (k1 : Blk w p1 #[u] 48) (k2 : Blk w p2 #[.func (.func 55) #[] #[]] 84) :
    Calls Try.prog 66 #[.agg #[a, b, c], .pointer (some ⟨p1, 0, none⟩), .pointer (some ⟨p2, 0, none⟩)] w fun e w' => e = .returned (.bool (useB l x && covB l x)) ∧ Below w.heap.size w w' := by
  have hB0 := (Below.refl w.heap.size w).alloc (Nat.le_refl _) (.cells #[a, b, c] 68)
  have k0 := blk_new w #[a, b, c] 68
  have hus := fun W (hW : Below w.heap.size w W) => isOfUse_any a b c u l x W (h.below hW) (hu.below hW) hx
  have hfi := fun W (hW : Below w.heap.size w W) => covers_any a b c u l x W (h.below hW) (hu.below hW) hx
  have k1' := blk_below k1 hB0
  have k2' := blk_below k2 hB0
  obtain ⟨⟨x1, y1, rfl⟩, ⟨x2, y2, rfl⟩, ⟨x3, y3, rfl⟩⟩ := lk_form h
  obtain ⟨xu, yu, rfl, _⟩ := hu
  clear h k1 k2
  have r1 := fun i => blk_cell k1' i
  have r2 := fun i => blk_cell k2' i
  generalize useB l x = U at *
  generalize covB l x = G at *
  go_enter Try.func66, Try.ntmps66
  go_wp2_with fail
  refine (hus _ hB0).mono ?_
  rintro e w1 ⟨rfl, b1⟩
  have q0 := blk_below k0 b1
  have q1 := blk_below k1' b1
  have q2 := blk_below k2' b1
  have B1 := Nm.below_two hB0 b1
  have r0 := fun i => blk_cell q0 i
  have r1 := fun i => blk_cell q1 i
  have r2 := fun i => blk_cell q2 i
  clear hB0 k0 k1' k2' b1
  cases U with
  | false =>
    go_wp2
    go_ret
    exact ⟨rfl, B1⟩
  | true =>
    go_wp2_with fail
    refine (hfi _ B1).mono ?_
    rintro e w2 ⟨rfl, b2⟩
    go_wp2
    go_ret
    exact ⟨rfl, Nm.below_two B1 b2⟩

/-- What IndexFunc finds. -/
def Found (ls : List Lk) (p : Lk → Bool) (e : Ending) : Prop := (e = .returned (.int .i64 (-1)) ∧ ls.find? p = none) ∨ ∃ (k : Nat) (l : Lk), e = .returned (.int .i64 k) ∧ ls[k]? = some l ∧ ls.find? p = some l

set_option maxRecDepth 100000 in
set_option maxHeartbeats 1600000 in
theorem indexFunc_any (p : Lk → Bool) (q1 q2 : Value) (v : Value) (ls : List Lk) (vs : List (Value × Value × Value)) (w : World) (h : LkS w v ls vs) (hlen : ls.length ≤ 20)
    (hf : ∀ (a b c : Value) (l : Lk) (W : World), Below w.heap.size w W → LkV W a b c l → Calls Try.prog 66 #[.agg #[a, b, c], q1, q2] W fun e w' => e = .returned (.bool (p l)) ∧ Below W.heap.size W w') :
    Calls Try.prog 65 #[v, .func (.func 66) #[] #[q1, q2]] w fun e w' => Below w.heap.size w w' ∧ Found ls p e := by
  have H := Nm.hide h
  obtain ⟨_, a, cap, rfl, hcap, hmx, hc⟩ := h.row
  have HLL := Nm.hide h.len
  clear h
  go_enter Try.func65, Try.ntmps65
  go_wp2
  go_loopw [8] (fun i wr => ∃ k : Nat, k ≤ ls.length ∧ i = .int .i64 k ∧ (∀ j, j < k → ∀ y, ls[j]? = some y → p y = false) ∧ Below w.heap.size w wr) (fun i _ => ls.length - (intOf i).toNat)
  case atStart => exact ⟨0, Nat.zero_le _, rfl, fun j hj => by omega, Below.refl _ _⟩
  case round =>
    obtain ⟨k, hk, rfl, hno, hbel⟩ := hrel
    have HN := Nm.hide hno
    clear hno
    by_cases hlt : k < ls.length
    · obtain ⟨l, hl⟩ : ∃ l, ls[k]? = some l := ⟨_, List.getElem?_eq_getElem hlt⟩
      obtain ⟨⟨va, vb, vc⟩, hv⟩ : ∃ t, vs[k]? = some t := ⟨_, List.getElem?_eq_getElem (by have := HLL.out; omega)⟩
      have R := H.out.all k _ l hv hl
      have at0 := tri_at vs k 0 _ hv (by decide)
      have at1 := tri_at vs k 1 _ hv (by decide)
      have at2 := tri_at vs k 2 _ hv (by decide)
      obtain ⟨b, off, rfl, hcell⟩ := hc (by omega)
      have put : ∀ {B O : Nat} {z : Value}, w.cell? ⟨B, O, none⟩ = some z → wr.cell? ⟨B, O, none⟩ = some z := fun h => (hbel.cell (World.block_lt_of_cell? w _ h)).trans h
      have c0 : wr.cell? ⟨b, off + k * 3, none⟩ = some va := put (hcell _ _ at0)
      have c1 : wr.cell? ⟨b, off + k * 3 + 1, none⟩ = some vb := put (hcell _ _ at1)
      have c2 : wr.cell? ⟨b, off + k * 3 + 2, none⟩ = some vc := put (hcell _ _ at2)
      have hcl := hf va vb vc l wr hbel (R.below hbel)
      obtain ⟨⟨x1, y1, rfl⟩, ⟨x2, y2, rfl⟩, ⟨x3, y3, rfl⟩⟩ := lk_form R
      have HL := Nm.hide hl
      have i1 : (0 : Int) ≤ (k : Int) := by omega
      have i2 : (k : Int) < (ls.length : Int) := by omega
      clear hc hcell at0 at1 at2 hl hv R put
      cases hP : p l with
      | false =>
        rw [hP] at hcl
        have HP := Nm.hide hP
        clear hP
        go_wp2_with fail
        refine hcl.mono ?_
        rintro e w1 ⟨rfl, b1⟩
        go_wp2
        go_roundw
        case rel => exact ⟨k + 1, by omega, by go_num, no_more (p := p) HN.out HL.out HP.out, Nm.below_two hbel b1⟩
        case measure => simp [intOf]; omega
      | true =>
        rw [hP] at hcl
        have HP := Nm.hide hP
        clear hP
        go_wp2_with fail
        refine hcl.mono ?_
        rintro e w1 ⟨rfl, b1⟩
        go_wp2
        go_ret
        exact ⟨Nm.below_two hbel b1, .inr ⟨k, l, rfl, HL.out, find_at ls k l HN.out HL.out HP.out⟩⟩
    · have hke : k = ls.length := by omega
      subst hke
      have HF := Nm.hide (find_no ls (fun i hi => HN.out i hi))
      clear hc HN
      go_wp2
      go_ret
      exact ⟨hbel, .inl ⟨rfl, HF.out⟩⟩
end Go.Proofs.Ytkiadnglbjamfaa
