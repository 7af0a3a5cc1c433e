/- laws.heldWordS; lines marked: what is held. -/
import Derived.Test.YtjbdfooppokonaaDoorLkC
namespace Go.Proofs.YtjbdfooppokonaaDoor
open Go.RowKit
set_option linter.unusedVariables false

set_option maxRecDepth 100000 in
set_option maxHeartbeats 1600000 in
theorem heldWordS_any (v : Value) (n B k : Nat) (w : World) (h : w.ownsRow B 62 2 v n (wdVs (mkWs k n))) (hn : n ≤ 100000) (hk : k ≤ 1000000) :
    Calls Tryd.prog 17 #[v, .int .i64 (k : Int)] w fun e w' => e = .returned (.int .i64 ((k + 2 * n : Nat) : Int)) ∧ Below w.heap.size w w' := by
  obtain ⟨a, c, rfl⟩ := own_sl h
  have hgex : 0 < n → ∃ g, a = some ⟨g, 0, none⟩ := fun hp => by
    rcases h.2 with ⟨e, h0⟩ | ⟨g, c', cur, e, _⟩
    · omega
    · cases e; exact ⟨g, rfl⟩
  have H0 := Nm.hide h
  clear h
  go_enter Tryd.func17, Tryd.ntmps17
  go_wp2
  go_loopw [1, 5] (fun t i wr => ∃ j : Nat, j ≤ n ∧ i = .int .i64 (j : Int) ∧ t = .int .i64 ((k : Int) + 2 * (j : Int)) ∧ Below w.heap.size w wr) (fun _ i _ => n - (intOf i).toNat)
  case atStart => exact ⟨0, Nat.zero_le _, rfl, by simp, Below.refl _ _⟩
  case round =>
    obtain ⟨j, hj, rfl, rfl, hbel⟩ := hrel
    by_cases hlt : j < n
    · obtain ⟨g, rfl⟩ := hgex (by omega)
      have o1 := own_below H0.out hbel
      have c0 : wr.cell? ⟨g, j * 2, none⟩ = some (.string (mkS (k + 2 * j))) := (o1.cellAt (j * 2) (by omega)).trans (wdVs_at _ j 0 _ (mkWs_get hlt) (by decide))
      have c1 : wr.cell? ⟨g, j * 2 + 1, none⟩ = some (.bool (b3 (k + 2 * j + 1))) := (o1.cellAt (j * 2 + 1) (by omega)).trans (wdVs_at _ j 1 _ (mkWs_get hlt) (by decide))
      have hmt : ∀ W : World, (W.cell? ⟨g, j * 2, none⟩ = some (.string (mkS (k + 2 * j))) ∧ W.cell? ⟨g, j * 2 + 1, none⟩ = some (.bool (b3 (k + 2 * j + 1))) ∧ Below w.heap.size w W) → Calls Tryd.prog 26 #[.int .i64 ((k : Int) + 2 * (j : Int))] W fun e w' => e = .returned (.string (mkS (k + 2 * j))) ∧ (w'.cell? ⟨g, j * 2, none⟩ = some (.string (mkS (k + 2 * j))) ∧ w'.cell? ⟨g, j * 2 + 1, none⟩ = some (.bool (b3 (k + 2 * j + 1))) ∧ Below w.heap.size w w') := by
        rintro W ⟨s1, s2, s3⟩
        have hm := markText_any (k + 2 * j) W (by omega)
        rw [show ((k + 2 * j : Nat) : Int) = (k : Int) + 2 * (j : Int) by omega] at hm
        refine hm.mono ?_
        rintro e w' ⟨rfl, hb'⟩
        have k0 := fun (b i : Nat) (y : Value) (e : W.cell? ⟨b, i, none⟩ = some y) => (hb'.cell (World.block_lt_of_cell? W _ e)).trans e
        exact ⟨rfl, k0 _ _ _ s1, k0 _ _ _ s2, Nm.below_two s3 hb'⟩
      have hS0 : wr.drew.cell? ⟨g, j * 2, none⟩ = some (.string (mkS (k + 2 * j))) ∧ wr.drew.cell? ⟨g, j * 2 + 1, none⟩ = some (.bool (b3 (k + 2 * j + 1))) ∧ Below w.heap.size w wr.drew := ⟨c0, c1, hbel.drew⟩
      have hb3 : (((k : Int) + 2 * (j : Int) + 1) % 3 == 0) = b3 (k + 2 * j + 1) := by rw [← b3_int]; congr 2
      have i1 : (0 : Int) ≤ (j : Int) := by omega
      have i2 : (j : Int) < (n : Int) := by omega
      have hbq : ((mkS (k + 2 * j)).toList == (mkS (k + 2 * j)).toList) = true := by simp
      generalize b3 (k + 2 * j + 1) = bb at *
      generalize mkS (k + 2 * j) = x at *
      have hbb : (bb == bb) = true := by simp
      clear o1 c0 c1
      go_wp2
      go_region_held3 (fun W => W.cell? ⟨g, j * 2, none⟩ = some (.string x) ∧ W.cell? ⟨g, j * 2 + 1, none⟩ = some (.bool bb) ∧ Below w.heap.size w W) (first | assumption | exact hS0) ((first | (go_at_call 26; refine (hmt _ (by first | assumption | exact hS0)).mono ?_; rintro e w' ⟨rfl, hS1⟩)))
      obtain ⟨s1, s2, s3⟩ := hS1
      go_wp2
      go_roundw
      case rel => exact ⟨j + 1, by omega, by go_num, by go_num, s3⟩
      case measure => simp [intOf]; omega
    · have hje : j = n := by omega
      subst hje
      go_wp2
      go_ret
      exact ⟨by rw [show ((k + 2 * j : Nat) : Int) = (k : Int) + 2 * (j : Int) by omega]; rfl, hbel⟩

/-- A line marked from k on. -/
def mkLp (k : Nat) (p : Lp) : Lp := (⟨k, b3 (k + 1), mkWs (k + 2) p.1.ws.length⟩, p.2)
def ll : List Lp → Nat
  | [] => 0
  | p :: ps => 2 * p.1.ws.length + 2 + ll ps
def mkL : Nat → List Lp → List Lp
  | _, [] => []
  | k, p :: ps => mkLp k p :: mkL (k + (2 * p.1.ws.length + 2)) ps
theorem mkL_len : ∀ (ps : List Lp) (k : Nat), (mkL k ps).length = ps.length := by
  intro ps
  induction ps with
  | nil => intro k; rfl
  | cons p ps ih => intro k; simp [mkL, ih]
theorem mkL_get : ∀ (ps : List Lp) (k j : Nat) (p : Lp), ps[j]? = some p → (mkL k ps)[j]? = some (mkLp (k + ll (ps.take j)) p) := by
  intro ps
  induction ps with
  | nil => intro k j p h; simp at h
  | cons q ps ih =>
    intro k j p h
    cases j with
    | zero =>
      simp at h
      subst h
      simp [mkL, ll]
    | succ j =>
      simp at h
      rw [mkL, List.getElem?_cons_succ, ih _ j p h, List.take_succ_cons, ll, Nat.add_assoc]
theorem ll_step : ∀ (ps : List Lp) (j : Nat) (p : Lp), ps[j]? = some p → ll (ps.take (j + 1)) = ll (ps.take j) + (2 * p.1.ws.length + 2) := by
  intro ps
  induction ps with
  | nil => intro j p h; simp at h
  | cons q ps ih =>
    intro j p h
    cases j with
    | zero => simp at h; subst h; simp [ll]
    | succ j => simp at h; simp only [List.take_succ_cons, ll]; rw [ih j p h]; omega
theorem ll_take_le : ∀ (ps : List Lp) (j : Nat), ll (ps.take j) ≤ ll ps := by
  intro ps
  induction ps with
  | nil => intro j; simp [ll]
  | cons q ps ih =>
    intro j
    cases j with
    | zero => simp [ll]
    | succ j => simp only [List.take_succ_cons, ll]; have := ih j; omega
theorem ll_len : ∀ (ps : List Lp), ps.length ≤ ll ps := by
  intro ps
  induction ps with
  | nil => simp [ll]
  | cons q ps ih => simp only [List.length_cons, ll]; omega
theorem mixL_at {k j : Nat} {ps : List Lp} {p : Lp} (h : ps[j]? = some p) : ((mkL k ps).take j ++ ps.drop j)[j]? = some p := by
  have hj := (List.getElem?_eq_some_iff.1 h).1
  rw [List.getElem?_append_right (by rw [List.length_take, mkL_len]; omega), List.length_take, mkL_len, Nat.min_eq_left (by omega), Nat.sub_self, List.getElem?_drop, Nat.add_zero, h]
theorem mixL_set {k j : Nat} {ps : List Lp} {p : Lp} (h : ps[j]? = some p) : ((mkL k ps).take j ++ ps.drop j).set j (mkLp (k + ll (ps.take j)) p) = (mkL k ps).take (j + 1) ++ ps.drop (j + 1) := by
  have hj := List.getElem?_eq_some_iff.1 h
  have hg := mkL_get ps k j p h
  have hl : ((mkL k ps).take j).length = j := by rw [List.length_take, mkL_len]; have := hj.1; omega
  rw [List.set_append_right _ _ (by omega), hl, Nat.sub_self, List.drop_eq_getElem_cons hj.1, List.set_cons_zero]
  have hg2 := List.getElem?_eq_some_iff.1 hg
  rw [List.take_succ_eq_append_getElem hg2.1, hg2.2, List.append_assoc]
  rfl
theorem lpVs_set : ∀ (ps : List Lp) (j : Nat) (p q : Lp), ps[j]? = some p → q.2 = p.2 → ((lpVs ps).set (j * 3) (.int .i64 (q.1.num : Int))).set (j * 3 + 1) (.bool q.1.bl) = lpVs (ps.set j q) := by
  intro ps
  induction ps with
  | nil => intro j p q h; simp at h
  | cons y ps ih =>
    intro j p q h hq
    cases j with
    | zero =>
      simp at h
      subst h
      simp [lpVs, lpV, hq]
    | succ j =>
      have := ih j p q (by simpa using h) hq
      simp only [lpVs, List.flatMap_cons, List.set_cons_succ] at *
      rw [← this, show (j + 1) * 3 = (lpV y).length + j * 3 by simp [lpV]; omega, List.set_append_right _ _ (by omega), Nat.add_sub_cancel_left, show (lpV y).length + j * 3 + 1 = (lpV y).length + (j * 3 + 1) by omega, List.set_append_right _ _ (by omega), Nat.add_sub_cancel_left]
theorem set_casesL {α : Type} {ps : List α} {j m : Nat} {p q r : α} (hp : ps[j]? = some p) (hr : (ps.set j q)[m]? = some r) : (m = j ∧ r = q) ∨ (m ≠ j ∧ ps[m]? = some r) := by
  have hj := (List.getElem?_eq_some_iff.1 hp).1
  rw [List.getElem?_set] at hr
  by_cases hm : j = m
  · subst hm
    rw [if_pos rfl, if_pos hj] at hr
    exact .inl ⟨rfl, (Option.some.inj hr).symm⟩
  · rw [if_neg hm] at hr
    exact .inr ⟨fun e => hm e.symm, hr⟩
/-- Number and blank of a line are written. -/
theorem LOwn.cell {w : World} {B g cap n j : Nat} {ps : List Lp} {p q : Lp} (h : LOwn w B (.slice (some ⟨g, 0, none⟩) n cap) ps) (hn : n = ps.length) (hp : ps[j]? = some p) (hq2 : q.2 = p.2) (hqd : q.1.ws = p.1.ws) : LOwn ((w.setCell ⟨g, j * 3, none⟩ (.int .i64 (q.1.num : Int))).setCell ⟨g, j * 3 + 1, none⟩ (.bool q.1.bl)) B (.slice (some ⟨g, 0, none⟩) n cap) (ps.set j q) := by
  have ho := h.outer
  rw [← hn] at ho
  have hst := (ho.stored (j * 3) (.int .i64 (q.1.num : Int))).1.stored (j * 3 + 1) (.bool q.1.bl)
  rw [lpVs_set ps j p q hp hq2] at hst
  have far : ∀ {v : Value} {m : Nat} {xs : List Value}, w.ownsRow B 62 2 v m xs → ((w.setCell ⟨g, j * 3, none⟩ (.int .i64 (q.1.num : Int))).setCell ⟨g, j * 3 + 1, none⟩ (.bool q.1.bl)).ownsRow B 62 2 v m xs := fun hx => own_far (own_far hx (own_kindsL hx ho (by decide) g rfl)) (own_kindsL hx ho (by decide) g rfl)
  refine ⟨by rw [List.length_set, ← hn]; exact hst.1, fun m r hr => ?_, fun a b r s hr hs hne g' e => ?_⟩
  · rcases set_casesL hp hr with ⟨_, rfl⟩ | ⟨_, hr⟩
    · rw [hq2, hqd]
      exact far (h.inner j p hp)
    · exact far (h.inner m r hr)
  · rcases set_casesL hp hr with ⟨ha, er⟩ | ⟨ha, hr'⟩ <;> rcases set_casesL hp hs with ⟨hb, es⟩ | ⟨hb, hs'⟩
    · omega
    · exact h.apart a b p s (by rw [ha]; exact hp) hs' hne g' (by rw [← hq2, ← er]; exact e)
    · rw [es, hq2]
      exact h.apart a b r p hr' (by rw [hb]; exact hp) hne g' e
    · exact h.apart a b r s hr' hs' hne g' e
/-- The words of a line are written. -/
theorem LOwn.data {w w1 : World} {B j : Nat} {v : Value} {ps : List Lp} {p : Lp} {ws : List Wd} (h : LOwn w B v ps) (hp : ps[j]? = some p) (hl : ws.length = p.1.ws.length) (ho : w1.ownsRow B 62 2 p.2 p.1.ws.length (wdVs ws)) (hg : w.grownBy w1 p.2.ownBlock) : LOwn w1 B v (ps.set j ({ p.1 with ws := ws }, p.2)) := by
  have hin := h.inner j p hp
  have e1 : lpVs (ps.set j ({ p.1 with ws := ws }, p.2)) = lpVs ps := by
    have : ∀ (l : List Lp) (i : Nat) (r : Lp), l[i]? = some r → ∀ q, lpV q = lpV r → lpVs (l.set i q) = lpVs l := by
      intro l
      induction l with
      | nil => intro i r h; simp at h
      | cons x l ih =>
        intro i r h q hq
        cases i with
        | zero =>
          simp at h
          subst h
          simp [lpVs, hq]
        | succ i =>
          simp at h
          have := ih i r h q hq
          simp only [lpVs, List.flatMap_cons, List.set_cons_succ] at *
          rw [this]
    exact this ps j p hp _ rfl
  refine ⟨by rw [e1, List.length_set]; exact own_besideL h.outer hg (own_kindsL h.outer hin (by decide)), fun m r hr => ?_, fun a b r s hr hs hne g e => ?_⟩
  · rcases set_casesL hp hr with ⟨_, rfl⟩ | ⟨hm, hr⟩
    · simp only [hl]; exact ho
    · exact own_besideL (h.inner m r hr) hg (fun g e => fun e' => h.apart m j r p hr hp hm g e' e)
  · rcases set_casesL hp hr with ⟨ha, rfl⟩ | ⟨ha, hr⟩ <;> rcases set_casesL hp hs with ⟨hb, rfl⟩ | ⟨hb, hs⟩
    · omega
    · exact h.apart a b p s (by rw [ha]; exact hp) hs hne g e
    · exact h.apart a b r p hr (by rw [hb]; exact hp) hne g e
    · exact h.apart a b r s hr hs hne g e
end Go.Proofs.YtjbdfooppokonaaDoor
