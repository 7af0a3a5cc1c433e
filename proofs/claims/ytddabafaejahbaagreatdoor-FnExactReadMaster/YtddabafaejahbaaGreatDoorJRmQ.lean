import Derived.Test.YtddabafaejahbaaGreatDoorJRmK
import Derived.Test.YtddabafaejahbaaGreatDoorJShelfM
import Derived.RegionTactic
import Derived.BigRegion
import Derived.Deep.RegionHeld3
import Derived.Test.YtddabafaejahbaaGreatDoorJMath
import Derived.Test.YtddabafaejahbaaGreatDoorJIParts
import Derived.Test.YtddabafaejahbaaGreatDoorRows
import Derived.WalkSpells
import Derived.WalkLawsBesides
import Derived.ChangeAlike
import Derived.Test.YtddabafaejahbaaGreatDoorJTxt8
import Derived.Test.YtddabafaejahbaaGreatDoorJLxN
import Derived.Test.YtddabafaejahbaaGreatDoorJRdZ
/- What is wrong with a line has a code that is not 0. -/
namespace Go.Proofs.YtddabafaejahbaaGreatDoor
open Go.RowKit
set_option linter.unusedVariables false
theorem lnF_code (s : ByteArray) (num : Nat) : ∀ (k p n o : Nat) (ws : List Wrd), s.size - p ≤ k → p ≤ s.size → ∀ c q, lnF s num p n o ws = .inl (c, q) → c ≠ 0 := by
 have fin : ∀ {p n : Nat} {ws : List Wrd} {c q : Nat}, finL num p n ws = .inl (c, q) → c ≠ 0 := by
  intro p n ws c q h; unfold finL at h
  split at h
  · cases h; decide
  · cases h
 intro k
 induction k with
 | zero =>
   intro p n o ws hk hp c q h; have : ¬ p < s.size := by omega
   rw [lnF, dif_neg this] at h
   split at h
   · exact fin h
   · cases h; decide
 | succ k ih =>
   intro p n o ws hk hp c q h
   by_cases hlt : p < s.size
   · have go : ∀ q' m o' ws2, p < q' → q' ≤ s.size → lnF s num q' m o' ws2 = .inl (c, q) → c ≠ 0 := by
      intro q' m o' ws2 h1 h2 h4; exact ih q' m o' ws2 (by omega) h2 c q h4
     rw [lnF, dif_pos hlt] at h
     by_cases h10 : s[p] = 10
     · rw [dif_pos h10] at h
       split at h
       · exact fin h
       · exact go _ _ _ _ (by omega) (by omega) h
     · rw [dif_neg h10] at h
       split at h
       · exact go _ _ _ _ (by omega) (by omega) h
       · split at h
         · exact go _ _ _ _ (comE_gt hlt h10) (comE_le s p hp) h
         · split at h
           · split at h
             · exact go _ _ _ _ (by omega) (by omega) h
             · cases h; decide
           · split at h
             · split at h
               · cases h; decide
               · exact go _ _ _ _ (by omega) (by omega) h
             · split at h
               · split at h
                 · rename_i h0; have h1 := qutF_ge s (p + 1); obtain ⟨h2, -⟩ := qutF_lt s (p + 1) h0; exact go _ _ _ _ (by omega) (by omega) h
                 · rename_i h0; cases h; exact h0
               · rename_i e1 e2 e3 e4 e5
                 split at h
                 · rename_i h0; exact go _ _ _ _ (barF_gt hlt h0.1 h0.2) (barF_le s p hp) h
                 · rename_i h0; have hsp : isSp s[p] = false := by simp [isSp, h10, e1, e2, e3, e4, e5] at *
                   cases h; exact fun h9 => h0 ⟨hsp, h9⟩
   · rw [lnF, dif_neg hlt] at h
     split at h
     · exact fin h
     · cases h; decide
theorem lsF_code (s : ByteArray) : ∀ (k p n : Nat) (acc : List Ln), s.size - p ≤ k → p ≤ s.size → ∀ c q, lsF s p n acc = .inl (c, q) → c ≠ 0 := by
 intro k
 induction k with
 | zero =>
   intro p n acc hk hp c q h; rw [lsF_end (by omega)] at h
   cases h
 | succ k ih =>
   intro p n acc hk hp c q h
   by_cases hlt : p < s.size
   · cases e : lnF s n p n 0 [] with
     | inl x =>
       obtain ⟨c', q'⟩ := x; rw [lsF_err hlt e] at h; cases h
       exact lnF_code s n _ p n 0 [] (Nat.le_refl _) hp _ _ e
     | inr x =>
       obtain ⟨p', n', ws⟩ := x; rw [lsF_ok hlt e] at h; obtain ⟨-, h2, h3, -⟩ := lnF_ok s n _ p n 0 [] (Nat.le_refl _) hp _ _ _ e; exact ih p' n' _ (by have := h3 hlt; omega) h2 c q h
   · rw [lsF_end hlt] at h; cases h
theorem strv_ne (s : ByteArray) : (s.toList != s.toList) = false ∧ (s.toList == s.toList) = true := by simp
set_option maxRecDepth 100000 in
set_option maxHeartbeats 400000 in
theorem eqRV_any (s t : ByteArray) (x y z : Int) (w : World) :
 Calls Tryz.prog 34 #[.agg #[.string s, .int .i64 x, .int .i64 y, .int .i64 z, .string t], .agg #[.string s, .int .i64 x, .int .i64 y, .int .i64 z, .string t]] w fun e w' => e = .returned (.bool true) ∧ Below w.heap.size w w' := by
 have e1 : (x != x) = false := by simp
 have e2 : (y != y) = false := by simp
 have e5 : (z != z) = false := by simp
 obtain ⟨e3, e4⟩ := strv_ne s; obtain ⟨e6, e7⟩ := strv_ne t; go_enter Tryz.func34, Tryz.ntmps34; go_wp2; go_ret; exact ⟨rfl, ((Below.refl _ _).alloc (Nat.le_refl _) _).alloc (by simp) _⟩
set_option maxRecDepth 100000 in
set_option maxHeartbeats 1600000 in
theorem eqRVS_any (v u : Value) (xs : List Rr) (w : World) (h : CRow w v xs.length 5 (rvVs xs)) (h' : CRow w u xs.length 5 (rvVs xs)) :
 Calls Tryz.prog 12 #[v, u] w fun e w' => e = .returned (.bool true) ∧ Below w.heap.size w w' := by
 obtain ⟨_, a, cap, rfl, hcap, hmx, hc⟩ := h; obtain ⟨_, a', cap', rfl, hcap', hmx', hc'⟩ := h'; unfold maxLen at hmx hmx'; have hne : ((xs.length : Int) != (xs.length : Int)) = false := by simp
 go_enter Tryz.func12, Tryz.ntmps12; go_wp2
 go_loopw [5] (fun i wr => ∃ k : Nat, k ≤ xs.length ∧ i = .int .i64 k ∧ Below w.heap.size w wr) (fun i _ => xs.length - (intOf i).toNat)
 case atStart => exact ⟨0, Nat.zero_le _, rfl, Below.refl _ _⟩
 case round =>
  obtain ⟨k, hk, rfl, hbel⟩ := hrel
  by_cases hlt : k < xs.length
  · obtain ⟨x, hx⟩ : ∃ x, xs[k]? = some x := ⟨_, List.getElem?_eq_getElem hlt⟩; obtain ⟨b, off, rfl, hcell⟩ := hc (by omega); obtain ⟨b', off', rfl, hcell'⟩ := hc' (by omega); have R1 := rv_cells hcell hx; have R2 := rv_cells hcell' hx; obtain ⟨o, ty, cl, tt, da⟩ := x; simp only at R1 R2
    have hS : ∀ W, Below w.heap.size w W → ((W.cell? ⟨b, off + k * 5, none⟩ = some (.string o) ∧ W.cell? ⟨b, off + k * 5 + 1, none⟩ = some (.int .i64 ty) ∧ W.cell? ⟨b, off + k * 5 + 2, none⟩ = some (.int .i64 cl) ∧ W.cell? ⟨b, off + k * 5 + 3, none⟩ = some (.int .i64 tt) ∧ W.cell? ⟨b, off + k * 5 + 4, none⟩ = some (.string da)) ∧ (W.cell? ⟨b', off' + k * 5, none⟩ = some (.string o) ∧ W.cell? ⟨b', off' + k * 5 + 1, none⟩ = some (.int .i64 ty) ∧ W.cell? ⟨b', off' + k * 5 + 2, none⟩ = some (.int .i64 cl) ∧ W.cell? ⟨b', off' + k * 5 + 3, none⟩ = some (.int .i64 tt) ∧ W.cell? ⟨b', off' + k * 5 + 4, none⟩ = some (.string da))) ∧ Below w.heap.size w W := by
     intro W hW; have put : ∀ {B O : Nat} {z : Value}, w.cell? ⟨B, O, none⟩ = some z → W.cell? ⟨B, O, none⟩ = some z := fun h => (hW.cell (World.block_lt_of_cell? w _ h)).trans h
     exact ⟨⟨⟨put R1.1, put R1.2.1, put R1.2.2.1, put R1.2.2.2.1, put R1.2.2.2.2⟩, ⟨put R2.1, put R2.2.1, put R2.2.2.1, put R2.2.2.2.1, put R2.2.2.2.2⟩⟩, hW⟩
    have hS0 := hS wr.drew hbel.drew; have heq := fun W (hW : Below w.heap.size w W) => (eqRV_any o da ty cl tt W).mono (R' := fun e w' => e = .returned (.bool true) ∧ Below w.heap.size w w') (by rintro e w' ⟨he, hb⟩; exact ⟨he, hW.trans (hb.mono hW.size)⟩)
    have i1 : (0 : Int) ≤ (k : Int) := by omega
    have i2 : (k : Int) < (xs.length : Int) := by omega
    clear hc hc' hcell hcell' hx R1 R2; go_wp2; go_region_held3 (fun W => ((W.cell? ⟨b, off + k * 5, none⟩ = some (.string o) ∧ W.cell? ⟨b, off + k * 5 + 1, none⟩ = some (.int .i64 ty) ∧ W.cell? ⟨b, off + k * 5 + 2, none⟩ = some (.int .i64 cl) ∧ W.cell? ⟨b, off + k * 5 + 3, none⟩ = some (.int .i64 tt) ∧ W.cell? ⟨b, off + k * 5 + 4, none⟩ = some (.string da)) ∧ (W.cell? ⟨b', off' + k * 5, none⟩ = some (.string o) ∧ W.cell? ⟨b', off' + k * 5 + 1, none⟩ = some (.int .i64 ty) ∧ W.cell? ⟨b', off' + k * 5 + 2, none⟩ = some (.int .i64 cl) ∧ W.cell? ⟨b', off' + k * 5 + 3, none⟩ = some (.int .i64 tt) ∧ W.cell? ⟨b', off' + k * 5 + 4, none⟩ = some (.string da))) ∧ Below w.heap.size w W) (first | with_reducible assumption | with_reducible exact hS0) ((first | (go_at_call 34; refine (heq _ hS0.2).mono ?_; rintro e w' ⟨rfl, hb1⟩; have hS1 := hS _ hb1)))
    go_wp2; go_roundw
    case rel => exact ⟨k + 1, by omega, by go_num, hS1.2⟩
    case measure => simp [intOf]; omega
  · clear hc hc'; have i2 : (xs.length : Int) ≤ (k : Int) := by omega
    go_wp2; go_ret; exact ⟨rfl, hbel⟩
end Go.Proofs.YtddabafaejahbaaGreatDoor
/- laws.markText, laws.markStringS, laws.heldStringS by their contracts. -/
namespace Go.Proofs.YtddabafaejahbaaGreatDoor
open Go.RowKit
def dgF : Nat → Nat → List UInt8
 | 0, _ => []
 | f + 1, k => if k = 0 then [] else dgF f (k / 10) ++ [UInt8.ofNat (48 + k % 10)]
def mkS (k : Nat) : ByteArray := if k = 0 then ⟨#[109, 48]⟩ else ⟨(109 :: dgF (k + 1) k).toArray⟩
def MkAt (k j : Nat) (t : ByteArray) : Prop := ∃ f, j < f ∧ dgF (k + 1) k = dgF f j ++ t.data.toList
theorem mk_start (k : Nat) : MkAt k k ⟨#[]⟩ := ⟨k + 1, by omega, by simp⟩
theorem mk_step {k j : Nat} {t : ByteArray} (h : MkAt k j t) (hj : 0 < j) : MkAt k (j / 10) (⟨#[UInt8.ofNat (48 + j % 10)]⟩ ++ t) := by
 obtain ⟨f, hf, e⟩ := h; obtain ⟨g, rfl⟩ : ∃ g, f = g + 1 := ⟨f - 1, by omega⟩; refine ⟨g, by omega, ?_⟩; rw [e, dgF, if_neg (by omega)]; simp
theorem mk_end {k j : Nat} {t : ByteArray} (h : MkAt k j t) (hj : j = 0) (hk : 0 < k) : (⟨#[109]⟩ : ByteArray) ++ t = mkS k := by
 obtain ⟨f, hf, e⟩ := h; obtain ⟨g, rfl⟩ : ∃ g, f = g + 1 := ⟨f - 1, by omega⟩; have z : dgF (g + 1) j = [] := by rw [dgF, if_pos hj]
 rw [z, List.nil_append] at e; rw [mkS, if_neg (by omega), e]; apply ba_ext; simp
theorem mk_len {k j : Nat} {t : ByteArray} (h : MkAt k j t) : t.size ≤ k + 1 := by
 have hl : ∀ f k, (dgF f k).length ≤ f := by
  intro f
  induction f with
  | zero => intro k; simp [dgF]
  | succ f ih =>
    intro k; rw [dgF]; split
    · simp
    · have := ih (k / 10); simp; omega
 obtain ⟨f, hf, e⟩ := h; have := congrArg List.length e; rw [List.length_append, size_list] at this; have := hl (k + 1) k; omega
set_option maxRecDepth 100000 in
set_option maxHeartbeats 800000 in
theorem markText_any (k : Nat) (w : World) (hk : k ≤ 1000000000) :
 Calls Tryz.prog 35 #[.int .i64 (k : Int)] w fun e w' => e = .returned (.string (mkS k)) ∧ Below w.heap.size w w' := by
 by_cases h0 : k = 0
 · have HE : Hid (mkS k = ⟨#[109, 48]⟩) := by show _ = _; rw [mkS, if_pos h0]
   have h0' : (k : Int) ≤ 0 := by omega
   clear h0; go_enter Tryz.func35, Tryz.ntmps35; go_wp2; go_ret; rw [HE.out]; exact ⟨rfl, Below.refl _ _⟩
 · have hpos : 0 < k := by omega
   have h0' : (0 : Int) < (k : Int) := by omega
   have hst := mk_start k; go_enter Tryz.func35, Tryz.ntmps35; go_wp2
   go_loopw [0, 3] (fun i v wr => ∃ (j : Nat) (t : ByteArray), i = .int .i64 (j : Int) ∧ j ≤ k ∧ v = .string t ∧ MkAt k j t ∧ Below w.heap.size w wr)
    (fun i _ _ => (intOf i).toNat)
   case atStart => exact ⟨k, _, rfl, Nat.le_refl _, rfl, hst, Below.refl _ _⟩
   case round =>
    obtain ⟨j, t, rfl, hjk, rfl, hat, hbel⟩ := hrel; have hsz := hbel.size; have hts := mk_len hat; have hone : (ByteArray.mk #[109]).size = 1 := rfl; clear hst
    by_cases hj : 0 < j
    · have HN := Nm.hide (mk_step hat hj); have hj' : (0 : Int) < (j : Int) := by omega
      have hcv := fun n => conv_one n wr
      have hn1 : ∀ c, (ByteArray.mk #[c]).size = 1 := fun _ => rfl
      have hmod : (48 + (j : Int) % 10) % 256 = 48 + (j : Int) % 10 := by omega
      have htn : (48 + (j : Int) % 10).toNat = 48 + j % 10 := by omega
      clear hat; go_wp2; go_roundw
      case rel => exact ⟨j / 10, _, by go_num, by omega, rfl, by simpa using HN.out, hbel.alloc hsz _⟩
      case measure => simp [intOf]; omega
    · have HE := Nm.hide (mk_end hat (by omega) hpos); have hj' : (j : Int) ≤ 0 := by omega
      clear hat; go_wp2; go_ret; rw [← HE.out]; exact ⟨rfl, hbel⟩
end Go.Proofs.YtddabafaejahbaaGreatDoor
/- laws.markRRS by its contract. -/
namespace Go.Proofs.YtddabafaejahbaaGreatDoor
open Go.RowKit
set_option linter.unusedVariables false
theorem mr_below {w w1 w2 : World} {g : Nat} (h : w.grownBy w1 (some g)) (h2 : Below w1.heap.size w1 w2) : w.grownBy w2 (some g) :=
 ⟨h2.os.trans h.os, h2.tape.trans h.tape, h2.output.trans h.output, Nat.le_trans h.size h2.size, fun k hk hne =>
  (h2.block k (Nat.lt_of_lt_of_le hk h.size)).trans (h.block k hk hne)⟩
theorem mr_ne (s : ByteArray) : (s.toList != s.toList) = false ∧ (s.toList == s.toList) = true := by simp
def mkR (k i : Nat) : Value := if i % 5 = 0 ∨ i % 5 = 4 then .string (mkS (k + i)) else .int .i64 ((k + i : Nat) : Int)
def mkL (f : Nat → Nat → Value) (k m : Nat) : List Value := (List.range m).map (f k)
theorem mkL_len (f : Nat → Nat → Value) (k m : Nat) : (mkL f k m).length = m := by simp [mkL]
theorem mkL_get {f : Nat → Nat → Value} {k m i : Nat} (h : i < m) : (mkL f k m)[i]? = some (f k i) := by simp [mkL, h]
theorem mkL_set {f : Nat → Nat → Value} {k m i : Nat} {xs : List Value} (hl : xs.length = m) (h : i < m) :
 ((mkL f k m).take i ++ xs.drop i).set i (f k i) = (mkL f k m).take (i + 1) ++ xs.drop (i + 1) := by
 apply List.ext_getElem?; intro j; have h1 : ((mkL f k m).take i).length = i := by rw [List.length_take, mkL_len]; omega
 have h2 : ((mkL f k m).take (i + 1)).length = i + 1 := by rw [List.length_take, mkL_len]; omega
 rw [List.getElem?_set]
 by_cases e : i = j
 · subst e; rw [if_pos rfl, if_pos (by rw [List.length_append, h1, List.length_drop]; omega), List.getElem?_append_left (by omega), List.getElem?_take, if_pos (by omega), mkL_get h]
 · rw [if_neg e]
   by_cases e2 : j < i
   · rw [List.getElem?_append_left (by omega), List.getElem?_append_left (by omega), List.getElem?_take, List.getElem?_take, if_pos e2, if_pos (by omega)]
   · rw [List.getElem?_append_right (by omega), List.getElem?_append_right (by omega), h1, h2, List.getElem?_drop, List.getElem?_drop]; congr 1; omega
theorem mkL_cell {f : Nat → Nat → Value} {k m i j : Nat} {xs : List Value} (hl : xs.length = m) (h : j < m) : ∃ y, ((mkL f k m).take i ++ xs.drop i)[j]? = some y :=
 ⟨_, List.getElem?_eq_getElem (by rw [List.length_append, List.length_take, mkL_len, List.length_drop]; omega)⟩
theorem mkL_done {f : Nat → Nat → Value} {k m : Nat} {xs : List Value} (hl : xs.length = m) : (mkL f k m).take m ++ xs.drop m = mkL f k m := by
 rw [List.take_of_length_le (by rw [mkL_len]; omega), List.drop_eq_nil_of_le (by omega), List.append_nil]
set_option maxRecDepth 100000 in
set_option maxHeartbeats 1600000 in
theorem markRRS_any (v : Value) (n B k : Nat) (xs : List Value) (w : World) (hown : w.ownsRow B 80 5 v n xs) (hB : B ≤ w.heap.size) (hn : n ≤ 1100000) (hk : k ≤ 10000000) :
 Calls Tryz.prog 13 #[v, .int .i64 (k : Int)] w fun e w' => e = .returned (.int .i64 ((k + n * 5 : Nat) : Int)) ∧ w'.ownsRow B 80 5 v n (mkL mkR k (n * 5)) ∧ w.grownBy w' v.ownBlock := by
 have hxl : xs.length = n * 5 := hown.1
 rcases Nat.eq_zero_or_pos n with h0 | hpos
 · subst h0
   obtain ⟨a, cap, rfl⟩ : ∃ a cap, v = .slice a 0 cap := by
    rcases hown.2 with ⟨rfl, _⟩ | ⟨g, cap, cur, rfl, _⟩
    · exact ⟨_, _, rfl⟩
    · exact ⟨_, _, rfl⟩
   have hx0 : xs = [] := List.length_eq_zero_iff.1 (by omega); subst hx0; go_enter Tryz.func13, Tryz.ntmps13; go_wp2
   go_loop [1, 5] (fun t i => t = .int .i64 (k : Int) ∧ i = .int .i64 0) (fun _ _ => 0)
   case atStart => exact ⟨rfl, rfl⟩
   case round =>
    obtain ⟨rfl, rfl⟩ := hrel; go_wp2; go_ret; exact ⟨rfl, by simpa [mkL] using hown, World.grownBy.refl _ _⟩
 · obtain ⟨g, cap, rfl, hBg⟩ : ∃ g cap, v = .slice (some ⟨g, 0, none⟩) n cap ∧ B ≤ g := by
    rcases hown.2 with ⟨rfl, h0⟩ | ⟨g, cap, cur, rfl, hb, _⟩
    · omega
    · exact ⟨g, cap, rfl, hb⟩
   have hglt := (hown.lt g rfl).2; go_enter Tryz.func13, Tryz.ntmps13; go_wp2
   go_loopw [1, 5] (fun t i wr => ∃ j : Nat, j ≤ n ∧ i = .int .i64 (j : Int) ∧ t = .int .i64 ((k + j * 5 : Nat) : Int) ∧ wr.ownsRow B 80 5 (.slice (some ⟨g, 0, none⟩) n cap) n ((mkL mkR k (n * 5)).take (j * 5) ++ xs.drop (j * 5)) ∧ w.grownBy wr (some g))
    (fun _ i _ => n - (intOf i).toNat)
   case atStart => exact ⟨0, Nat.zero_le _, rfl, rfl, by simpa using hown, World.grownBy.refl _ _⟩
   case round =>
    obtain ⟨j, hj, rfl, rfl, hownj, hgr⟩ := hrel; clear hown
    by_cases hlt : j < n
    · have s0 := mkL_set (f := mkR) (k := k) hxl (i := j * 5) (by omega); have s1 := mkL_set (f := mkR) (k := k) hxl (i := j * 5 + 1) (by omega); have s2 := mkL_set (f := mkR) (k := k) hxl (i := j * 5 + 2) (by omega); have s3 := mkL_set (f := mkR) (k := k) hxl (i := j * 5 + 3) (by omega); have s4 := mkL_set (f := mkR) (k := k) hxl (i := j * 5 + 4) (by omega); have m0 : mkR k (j * 5) = .string (mkS (k + j * 5)) := by rw [mkR, if_pos (by omega)]
      have m1 : mkR k (j * 5 + 1) = .int .i64 ((k : Int) + (j : Int) * 5 + 1) := by rw [mkR, if_neg (by omega)]; congr 1 <;> omega
      have m2 : mkR k (j * 5 + 2) = .int .i64 ((k : Int) + (j : Int) * 5 + 1 + 1) := by rw [mkR, if_neg (by omega)]; congr 1 <;> omega
      have m3 : mkR k (j * 5 + 3) = .int .i64 ((k : Int) + (j : Int) * 5 + 1 + 1 + 1) := by rw [mkR, if_neg (by omega)]; congr 1 <;> omega
      have m4 : mkR k (j * 5 + 4) = .string (mkS (k + j * 5 + 1 + 1 + 1 + 1)) := by rw [mkR, if_pos (by omega)]; congr 1
      rw [m0] at s0; rw [m1] at s1; rw [m2] at s2; rw [m3] at s3; rw [m4] at s4; have hmt := fun W => markText_any (k + j * 5) W (by omega)
      rw [show (((k + j * 5 : Nat)) : Int) = (k : Int) + (j : Int) * 5 by omega] at hmt; have hmt4 := fun W => markText_any (k + j * 5 + 1 + 1 + 1 + 1) W (by omega)
      rw [show (((k + j * 5 + 1 + 1 + 1 + 1 : Nat)) : Int) = (k : Int) + (j : Int) * 5 + 1 + 1 + 1 + 1 by omega] at hmt4
      have hg : ∀ (V : World) i u, w.grownBy V (some g) → w.grownBy (V.setCell ⟨g, i, none⟩ u) (some g) := fun V i u h =>
       ⟨h.os, h.tape, h.output, by simpa using h.size, fun q hq hne => by rw [heap_setCell_other V ⟨g, i, none⟩ q _ (fun e => hne (by simp [e]))]; exact h.block q hq hne⟩
      have HST : Hid (∀ W, Below wr.heap.size wr W → (∃ y, W.cell? ⟨g, j * 5, none⟩ = some y) ∧ W.frozen? ⟨g, j * 5, none⟩ = false ∧ (∃ y, (W.setCell ⟨g, j * 5, none⟩ (.string (mkS (k + j * 5)))).cell? ⟨g, j * 5 + 1, none⟩ = some y) ∧ (∃ y, ((W.setCell ⟨g, j * 5, none⟩ (.string (mkS (k + j * 5)))).setCell ⟨g, j * 5 + 1, none⟩ (.int .i64 ((k : Int) + (j : Int) * 5 + 1))).cell? ⟨g, j * 5 + 2, none⟩ = some y) ∧ (∃ y, (((W.setCell ⟨g, j * 5, none⟩ (.string (mkS (k + j * 5)))).setCell ⟨g, j * 5 + 1, none⟩ (.int .i64 ((k : Int) + (j : Int) * 5 + 1))).setCell ⟨g, j * 5 + 2, none⟩ (.int .i64 ((k : Int) + (j : Int) * 5 + 1 + 1))).cell? ⟨g, j * 5 + 3, none⟩ = some y) ∧ W.frozen? ⟨g, j * 5 + 1, none⟩ = false ∧ W.frozen? ⟨g, j * 5 + 2, none⟩ = false ∧ W.frozen? ⟨g, j * 5 + 3, none⟩ = false ∧
       (((((W.setCell ⟨g, j * 5, none⟩ (.string (mkS (k + j * 5)))).setCell ⟨g, j * 5 + 1, none⟩ (.int .i64 ((k : Int) + (j : Int) * 5 + 1))).setCell ⟨g, j * 5 + 2, none⟩ (.int .i64 ((k : Int) + (j : Int) * 5 + 1 + 1))).setCell ⟨g, j * 5 + 3, none⟩ (.int .i64 ((k : Int) + (j : Int) * 5 + 1 + 1 + 1))).ownsRow B 80 5 (.slice (some ⟨g, 0, none⟩) n cap) n ((mkL mkR k (n * 5)).take (j * 5 + 3 + 1) ++ xs.drop (j * 5 + 3 + 1)) ∧ w.grownBy ((((W.setCell ⟨g, j * 5, none⟩ (.string (mkS (k + j * 5)))).setCell ⟨g, j * 5 + 1, none⟩ (.int .i64 ((k : Int) + (j : Int) * 5 + 1))).setCell ⟨g, j * 5 + 2, none⟩ (.int .i64 ((k : Int) + (j : Int) * 5 + 1 + 1))).setCell ⟨g, j * 5 + 3, none⟩ (.int .i64 ((k : Int) + (j : Int) * 5 + 1 + 1 + 1))) (some g))) := by
       intro W hW; have h0 := own_below hownj hW; have o0 := (h0.stored (j * 5) (.string (mkS (k + j * 5)))).1; rw [s0] at o0; have o1 := (o0.stored (j * 5 + 1) (.int .i64 ((k : Int) + (j : Int) * 5 + 1))).1; rw [s1] at o1; have o2 := (o1.stored (j * 5 + 2) (.int .i64 ((k : Int) + (j : Int) * 5 + 1 + 1))).1; rw [s2] at o2; have o3 := (o2.stored (j * 5 + 3) (.int .i64 ((k : Int) + (j : Int) * 5 + 1 + 1 + 1))).1; rw [s3] at o3; refine ⟨?_, h0.frozenAt _, ?_, ?_, ?_, h0.frozenAt _, h0.frozenAt _, h0.frozenAt _, o3, ?_⟩
       · rw [h0.cellAt (j * 5) (by omega)]; exact mkL_cell hxl (by omega)
       · rw [o0.cellAt (j * 5 + 1) (by omega)]; exact mkL_cell hxl (by omega)
       · rw [o1.cellAt (j * 5 + 2) (by omega)]; exact mkL_cell hxl (by omega)
       · rw [o2.cellAt (j * 5 + 3) (by omega)]; exact mkL_cell hxl (by omega)
       · exact hg _ _ _ (hg _ _ _ (hg _ _ _ (hg _ _ _ (mr_below hgr hW))))
      have HSU : Hid (∀ V W : World, (V.ownsRow B 80 5 (.slice (some ⟨g, 0, none⟩) n cap) n ((mkL mkR k (n * 5)).take (j * 5 + 3 + 1) ++ xs.drop (j * 5 + 3 + 1)) ∧ w.grownBy V (some g)) → Below V.heap.size V W → (∃ y, W.cell? ⟨g, j * 5 + 4, none⟩ = some y) ∧ W.frozen? ⟨g, j * 5 + 4, none⟩ = false ∧ ((W.setCell ⟨g, j * 5 + 4, none⟩ (.string (mkS (k + j * 5 + 1 + 1 + 1 + 1)))).ownsRow B 80 5 (.slice (some ⟨g, 0, none⟩) n cap) n ((mkL mkR k (n * 5)).take (j * 5 + 4 + 1) ++ xs.drop (j * 5 + 4 + 1)) ∧ w.grownBy (W.setCell ⟨g, j * 5 + 4, none⟩ (.string (mkS (k + j * 5 + 1 + 1 + 1 + 1)))) (some g))) := by
       intro V W hV hW; have h0 := own_below hV.1 hW; have o4 := (h0.stored (j * 5 + 4) (.string (mkS (k + j * 5 + 1 + 1 + 1 + 1)))).1; rw [s4] at o4; refine ⟨?_, h0.frozenAt _, o4, hg _ _ _ (mr_below hV.2 hW)⟩; rw [h0.cellAt (j * 5 + 4) (by omega)]; exact mkL_cell hxl (by omega)
      have HE : Hid ((j + 1) * 5 = j * 5 + 4 + 1) := by show _ = _; omega
      generalize mkS (k + j * 5) = ms at *; generalize mkS (k + j * 5 + 1 + 1 + 1 + 1) = mt at *; clear s0 s1 s2 s3 s4 m0 m1 m2 m3 m4 hownj hgr hg; go_wp2_with (first | (go_at_call 35; with_reducible refine (hmt _).mono ?_; rintro e w2 ⟨rfl, hb2⟩; obtain ⟨⟨y0, c0⟩, f0, ⟨y1, c1⟩, ⟨y2, c2⟩, ⟨y3, c3⟩, f1, f2, f3, hx⟩ := HST.out w2 hb2; have HX := Nm.hide hx; clear hx) | (go_at_call 35; with_reducible refine (hmt4 _).mono ?_; rintro e w3 ⟨rfl, hb3⟩; obtain ⟨⟨y4, c4⟩, f4, hx4⟩ := HSU.out _ _ HX.out hb3; have HY := Nm.hide hx4; clear hx4))
      go_roundw
      case rel => exact ⟨j + 1, by omega, by go_num, by go_num, by rw [HE.out]; exact HY.out.1, HY.out.2⟩
      case measure => simp [intOf]; omega
    · have hje : j = n := by omega
      subst hje; rw [mkL_done hxl] at hownj; go_wp2; go_ret; exact ⟨rfl, hownj, hgr⟩
set_option maxRecDepth 100000 in
set_option maxHeartbeats 3200000 in
theorem heldRRS_any (v : Value) (n k : Nat) (w : World) (h : CRow w v n 5 (mkL mkR k (n * 5))) (hn : n ≤ 1000000) (hk : k ≤ 10000000) :
 Calls Tryz.prog 14 #[v, .int .i64 (k : Int)] w fun e w' => e = .returned (.int .i64 ((k + n * 5 : Nat) : Int)) ∧ Below w.heap.size w w' := by
 obtain ⟨_, a, cap, rfl, hcap, hmx, hc⟩ := h; go_enter Tryz.func14, Tryz.ntmps14; go_wp2
 go_loopw [1, 5] (fun t i wr => ∃ j : Nat, j ≤ n ∧ i = .int .i64 (j : Int) ∧ t = .int .i64 ((k + j * 5 : Nat) : Int) ∧ Below w.heap.size w wr)
  (fun _ i _ => n - (intOf i).toNat)
 case atStart => exact ⟨0, Nat.zero_le _, rfl, rfl, Below.refl _ _⟩
 case round =>
  obtain ⟨j, hj, rfl, rfl, hbel⟩ := hrel
  by_cases hlt : j < n
  · obtain ⟨b, off, rfl, hcell⟩ := hc (by omega); have m0 : mkR k (j * 5) = .string (mkS (k + j * 5)) := by rw [mkR, if_pos (by omega)]
    have m1 : mkR k (j * 5 + 1) = .int .i64 ((k : Int) + (j : Int) * 5 + 1) := by rw [mkR, if_neg (by omega)]; congr 1 <;> omega
    have m2 : mkR k (j * 5 + 2) = .int .i64 ((k : Int) + (j : Int) * 5 + 1 + 1) := by rw [mkR, if_neg (by omega)]; congr 1 <;> omega
    have m3 : mkR k (j * 5 + 3) = .int .i64 ((k : Int) + (j : Int) * 5 + 1 + 1 + 1) := by rw [mkR, if_neg (by omega)]; congr 1 <;> omega
    have m4 : mkR k (j * 5 + 4) = .string (mkS (k + j * 5 + 1 + 1 + 1 + 1)) := by rw [mkR, if_pos (by omega)]; congr 1
    have hc0 := hcell (j * 5) _ (mkL_get (by omega)); have hc1 := hcell (j * 5 + 1) _ (mkL_get (by omega)); have hc2 := hcell (j * 5 + 2) _ (mkL_get (by omega)); have hc3 := hcell (j * 5 + 3) _ (mkL_get (by omega)); have hc4 := hcell (j * 5 + 4) _ (mkL_get (by omega)); rw [m0] at hc0; rw [m1, ← Nat.add_assoc] at hc1; rw [m2, ← Nat.add_assoc] at hc2; rw [m3, ← Nat.add_assoc] at hc3; rw [m4, ← Nat.add_assoc] at hc4; have hS : ∀ W, Below w.heap.size w W → W.cell? ⟨b, off + j * 5, none⟩ = some (.string (mkS (k + j * 5))) ∧ Below w.heap.size w W := fun W hW => ⟨(hW.cell (World.block_lt_of_cell? w _ hc0)).trans hc0, hW⟩
    have hT : ∀ W, Below w.heap.size w W → W.cell? ⟨b, off + j * 5 + 4, none⟩ = some (.string (mkS (k + j * 5 + 1 + 1 + 1 + 1))) ∧ Below w.heap.size w W := fun W hW => ⟨(hW.cell (World.block_lt_of_cell? w _ hc4)).trans hc4, hW⟩
    have hS12 : ∀ W, Below w.heap.size w W → W.cell? ⟨b, off + j * 5 + 1, none⟩ = some (.int .i64 ((k : Int) + (j : Int) * 5 + 1)) ∧ W.cell? ⟨b, off + j * 5 + 2, none⟩ = some (.int .i64 ((k : Int) + (j : Int) * 5 + 1 + 1)) ∧ W.cell? ⟨b, off + j * 5 + 3, none⟩ = some (.int .i64 ((k : Int) + (j : Int) * 5 + 1 + 1 + 1)) := fun W hW => ⟨(hW.cell (World.block_lt_of_cell? w _ hc1)).trans hc1, (hW.cell (World.block_lt_of_cell? w _ hc2)).trans hc2, (hW.cell (World.block_lt_of_cell? w _ hc3)).trans hc3⟩
    have hS0 := hS wr.drew hbel.drew; have hmt := fun W (hW : Below w.heap.size w W) => (markText_any (k + j * 5) W (by omega)).mono (R' := fun e w' => e = .returned (.string (mkS (k + j * 5))) ∧ Below w.heap.size w w') (by rintro e w' ⟨he, hb⟩; exact ⟨he, hW.trans (hb.mono hW.size)⟩)
    rw [show (((k + j * 5 : Nat)) : Int) = (k : Int) + (j : Int) * 5 by omega] at hmt; have hmu := fun W (hW : Below w.heap.size w W) => (markText_any (k + j * 5 + 1 + 1 + 1 + 1) W (by omega)).mono (R' := fun e w' => e = .returned (.string (mkS (k + j * 5 + 1 + 1 + 1 + 1))) ∧ Below w.heap.size w w') (by rintro e w' ⟨he, hb⟩; exact ⟨he, hW.trans (hb.mono hW.size)⟩)
    rw [show (((k + j * 5 + 1 + 1 + 1 + 1 : Nat)) : Int) = (k : Int) + (j : Int) * 5 + 1 + 1 + 1 + 1 by omega] at hmu; obtain ⟨e3, e4⟩ := mr_ne (mkS (k + j * 5)); obtain ⟨e5, e6⟩ := mr_ne (mkS (k + j * 5 + 1 + 1 + 1 + 1)); have hne : ((k : Int) + (j : Int) * 5 + 1 != (k : Int) + (j : Int) * 5 + 1) = false := by simp
    have hne2 : ((k : Int) + (j : Int) * 5 + 1 + 1 != (k : Int) + (j : Int) * 5 + 1 + 1) = false := by simp
    have hne3 : ((k : Int) + (j : Int) * 5 + 1 + 1 + 1 != (k : Int) + (j : Int) * 5 + 1 + 1 + 1) = false := by simp
    have i1 : (0 : Int) ≤ (j : Int) := by omega
    have i2 : (j : Int) < (n : Int) := by omega
    generalize mkS (k + j * 5) = ms at *; generalize mkS (k + j * 5 + 1 + 1 + 1 + 1) = mt at *; clear hc hcell m0 m1 m2 m3 m4 hc0 hc1 hc2 hc3 hc4; go_wp2; go_region_held3 (fun W => W.cell? ⟨b, off + j * 5, none⟩ = some (.string ms) ∧ Below w.heap.size w W) (first | with_reducible assumption | with_reducible exact hS0) ((first | (go_at_call 35; with_reducible refine (hmt _ hS0.2).mono ?_; rintro e w1 ⟨rfl, hb1⟩; have hS1 := hS _ hb1)))
    obtain ⟨g1, g2, g3⟩ := hS12 _ hS1.2; have hT0 := hT w1.drew hS1.2.drew; go_wp2; go_region_held3 (fun W => W.cell? ⟨b, off + j * 5 + 4, none⟩ = some (.string mt) ∧ Below w.heap.size w W) (first | with_reducible assumption | with_reducible exact hT0) ((first | (go_at_call 35; with_reducible refine (hmu _ hT0.2).mono ?_; rintro e w2 ⟨rfl, hb2⟩; have hT1 := hT _ hb2)))
    go_wp2; go_roundw
    case rel => exact ⟨j + 1, by omega, by go_num, by go_num, hT1.2⟩
    case measure => simp [intOf]; omega
  · have hje : j = n := by omega
    subst hje; clear hc; go_wp2; go_ret; exact ⟨rfl, hbel⟩
/-- A class as the model tells it: none, the one that may be, another one. -/
def clsK (o : Option Nat) : Int := match o with
 | none => 0
 | some n => if n = 1 then 1 else 2
theorem cls_prefix (x : ByteArray) : ((Nm.small x).toList == [99, 108, 97, 115, 115]) = decide (Nm.ordS x ⟨#[67, 76, 65, 83, 83]⟩ = 0) := by
 rw [← small_eq]; have e : (Nm.small ⟨#[67, 76, 65, 83, 83]⟩).toList = [99, 108, 97, 115, 115] := by rw [ByteArray.toList_eq]; decide
 rw [e]
theorem nbd_short {x : ByteArray} (h : x.size < 6) : nbdO x ⟨#[67, 76, 65, 83, 83]⟩ = none := by
 have e5 : (⟨#[67, 76, 65, 83, 83]⟩ : ByteArray).size = 5 := rfl; rw [nbdO, e5]; split
 · rfl
 · split
   · rw [numO_len (by simp; omega)]
   · rfl
theorem nbd_not {x : ByteArray} (h : ((Nm.small (x.extract 0 5)).toList == [99, 108, 97, 115, 115]) = false) : nbdO x ⟨#[67, 76, 65, 83, 83]⟩ = none := by
 have e5 : (⟨#[67, 76, 65, 83, 83]⟩ : ByteArray).size = 5 := rfl; rw [cls_prefix, decide_eq_false_iff_not] at h; rw [nbdO, e5, if_neg h]
 split <;> rfl
theorem nbd_num {x : ByteArray} (h6 : 6 ≤ x.size) (h : ((Nm.small (x.extract 0 5)).toList == [99, 108, 97, 115, 115]) = true) : nbdO x ⟨#[67, 76, 65, 83, 83]⟩ = numO (x.extract 5 x.size) 5 := by
 have e5 : (⟨#[67, 76, 65, 83, 83]⟩ : ByteArray).size = 5 := rfl; rw [cls_prefix, decide_eq_true_eq] at h; rw [nbdO, e5, if_neg (by omega), if_pos h]
set_option maxRecDepth 100000 in
set_option maxHeartbeats 1600000 in
theorem l05Class_any (x : ByteArray) (w : World) (hx : x.size ≤ 1000000) :
 Calls Tryz.prog 138 #[.string x] w fun e w' => e = .returned (.int .i64 (clsK (clsS x))) ∧ Below w.heap.size w w' := by
 have hsm := l01Small_any x w (by omega); obtain ⟨R, HR⟩ : ∃ R, Hid (R = clsK (clsS x)) := ⟨_, rfl⟩; rw [← HR.out]; obtain ⟨y, HY⟩ : ∃ y, Hid (y = Nm.small x) := ⟨_, rfl⟩; rw [← HY.out] at hsm; have hy1 : y.size ≤ x.size := by rw [HY.out, Nm.small_size]; exact Nat.le_refl _
 have hy2 : x.size ≤ y.size := by rw [HY.out, Nm.small_size]; exact Nat.le_refl _
 have H0 : Hid (R = clsK (if (y.toList == [105, 110]) = true then some 1 else if (y.toList == [99, 115]) = true then some 2 else if (y.toList == [99, 104]) = true then some 3 else if (y.toList == [104, 115]) = true then some 4 else nbdO x ⟨#[67, 76, 65, 83, 83]⟩)) := by
  show _ = _
  rw [HR.out, clsS, ← HY.out]
 clear HR
 cases h1 : (y.toList == [105, 110]) with
 | true =>
   have HN : Hid (R = 1) := by show _ = _; rw [H0.out, if_pos h1]; rfl
   go_enter Tryz.func138, Tryz.ntmps138; go_wp2_with (go_at_call 40; refine hsm.mono ?_; rintro e w1 ⟨rfl, hb1⟩)
   go_ret; rw [HN.out]
   exact ⟨rfl, hb1⟩
 | false =>
   cases h2 : (y.toList == [99, 115]) with
   | true =>
     have HN : Hid (R = 2) := by show _ = _; rw [H0.out, if_neg (by rw [h1]; decide), if_pos h2]; rfl
     go_enter Tryz.func138, Tryz.ntmps138; go_wp2_with (go_at_call 40; refine hsm.mono ?_; rintro e w1 ⟨rfl, hb1⟩)
     go_ret; rw [HN.out]
     exact ⟨rfl, hb1⟩
   | false =>
     cases h3 : (y.toList == [99, 104]) with
     | true =>
       have HN : Hid (R = 2) := by show _ = _; rw [H0.out, if_neg (by rw [h1]; decide), if_neg (by rw [h2]; decide), if_pos h3]; rfl
       go_enter Tryz.func138, Tryz.ntmps138; go_wp2_with (go_at_call 40; refine hsm.mono ?_; rintro e w1 ⟨rfl, hb1⟩)
       go_ret; rw [HN.out]
       exact ⟨rfl, hb1⟩
     | false =>
       cases h4 : (y.toList == [104, 115]) with
       | true =>
         have HN : Hid (R = 2) := by show _ = _; rw [H0.out, if_neg (by rw [h1]; decide), if_neg (by rw [h2]; decide), if_neg (by rw [h3]; decide), if_pos h4]; rfl
         go_enter Tryz.func138, Tryz.ntmps138; go_wp2_with (go_at_call 40; refine hsm.mono ?_; rintro e w1 ⟨rfl, hb1⟩)
         go_ret; rw [HN.out]
         exact ⟨rfl, hb1⟩
       | false =>
         have H1 : Hid (R = clsK (nbdO x ⟨#[67, 76, 65, 83, 83]⟩)) := by show _ = _; rw [H0.out, if_neg (by rw [h1]; decide), if_neg (by rw [h2]; decide), if_neg (by rw [h3]; decide), if_neg (by rw [h4]; decide)]
         clear H0
         by_cases h6 : x.size < 6
         · have HN : Hid (R = 0) := by show _ = _; rw [H1.out, nbd_short h6]; rfl
           have i6 : (y.size : Int) < 6 := by omega
           go_enter Tryz.func138, Tryz.ntmps138; go_wp2_with (go_at_call 40; refine hsm.mono ?_; rintro e w1 ⟨rfl, hb1⟩)
           go_ret; rw [HN.out]; exact ⟨rfl, hb1⟩
         · have i6 : (6 : Int) ≤ (y.size : Int) := by omega
           have i5 : (5 : Int) ≤ (y.size : Int) := by omega
           have n5 : 5 ≤ y.size := by omega
           have HP : Hid (((y.extract 0 5).toList == [99, 108, 97, 115, 115]) = ((Nm.small (x.extract 0 5)).toList == [99, 108, 97, 115, 115])) := by
            show _ = _
            rw [HY.out, small_extract]
           cases hp : ((Nm.small (x.extract 0 5)).toList == [99, 108, 97, 115, 115]) with
           | false =>
             have HN : Hid (R = 0) := by show _ = _; rw [H1.out, nbd_not hp]; rfl
             have hp2 : ((y.extract 0 5).toList == [99, 108, 97, 115, 115]) = false := by rw [HP.out, hp]
             clear hp; go_enter Tryz.func138, Tryz.ntmps138; go_wp2_with (go_at_call 40; refine hsm.mono ?_; rintro e w1 ⟨rfl, hb1⟩)
             go_ret; rw [HN.out]
             exact ⟨rfl, hb1⟩
           | true =>
             have hp2 : ((y.extract 0 5).toList == [99, 108, 97, 115, 115]) = true := by rw [HP.out, hp]
             have hnum := fun W => l03Number_any (y.extract 5 y.size) 5 W (by decide)
             have hno : numO (y.extract 5 y.size) 5 = numO (x.extract 5 x.size) 5 := by rw [HY.out, Nm.small_size, small_extract, numO_small]
             have H2 : Hid (R = clsK (numO (x.extract 5 x.size) 5)) := by show _ = _; rw [H1.out, nbd_num (by omega) hp]
             clear H1
             cases hn : numO (x.extract 5 x.size) 5 with
             | none =>
               have HN : Hid (R = 0) := by show _ = _; rw [H2.out, hn]; rfl
               rw [hno, hn] at hnum; simp only [numV, Option.getD_none, Option.isSome_none] at hnum; clear hp hn hno; go_enter Tryz.func138, Tryz.ntmps138; go_wp2_with (first | (go_at_call 40; refine hsm.mono ?_; rintro e w1 ⟨rfl, hb1⟩) | (go_at_call 37; refine (hnum _).mono ?_; rintro e w2 ⟨rfl, hw⟩; obtain rfl : w1 = w2 := hw.symm; clear hw))
               go_ret; rw [HN.out]
               exact ⟨rfl, hb1⟩
             | some n =>
               rw [hno, hn] at hnum; simp only [numV, Option.getD_some, Option.isSome_some] at hnum
               by_cases h0 : n = 1
               · have HN : Hid (R = 1) := by show _ = _; rw [H2.out, hn, h0]; rfl
                 have d1 : ((n : Int) == 1) = true := by rw [h0]; rfl
                 clear hp hn hno h0; go_enter Tryz.func138, Tryz.ntmps138; go_wp2_with (first | (go_at_call 40; refine hsm.mono ?_; rintro e w1 ⟨rfl, hb1⟩) | (go_at_call 37; refine (hnum _).mono ?_; rintro e w2 ⟨rfl, hw⟩; obtain rfl : w1 = w2 := hw.symm; clear hw))
                 go_ret; rw [HN.out]; exact ⟨rfl, hb1⟩
               · have HN : Hid (R = 2) := by show _ = _; rw [H2.out, hn]; simp [clsK, h0]
                 have d1 : ((n : Int) == 1) = false := by rw [beq_eq_false_iff_ne]; omega
                 clear hp hn hno h0; go_enter Tryz.func138, Tryz.ntmps138; go_wp2_with (first | (go_at_call 40; refine hsm.mono ?_; rintro e w1 ⟨rfl, hb1⟩) | (go_at_call 37; refine (hnum _).mono ?_; rintro e w2 ⟨rfl, hw⟩; obtain rfl : w1 = w2 := hw.symm; clear hw))
                 go_ret; rw [HN.out]; exact ⟨rfl, hb1⟩
/-- A time begins with a digit. -/
theorem ttl_digit {s : ByteArray} (h : (ttlS s).2 = 0) : ∃ h0 : 0 < s.size, Nm.digB s[0] = true := by
 have hG : (ttlG s).2 = 0 → ∃ h0 : 0 < s.size, Nm.digB s[0] = true := by
  intro hg
  rcases Nat.eq_zero_or_pos s.size with h0 | h0
  · exfalso
    rw [ttlG, h0, ttlF, ttlE, if_pos (by right; left; rfl)] at hg; cases hg
  · refine ⟨h0, ?_⟩
    cases hd : Nm.digB s[0] with
    | true => rfl
    | false =>
      exfalso
      obtain ⟨k, hk⟩ : ∃ k, s.size = k + 1 := ⟨s.size - 1, by omega⟩
      have hf : ttlF s s.size 0 0 0 = none := by
       rw [hk, ttlF, dif_pos h0, if_neg (by rw [hd]; decide), numO_len (by simp)]
      rw [ttlG, hf, ttlE] at hg; cases hg
 unfold ttlS at h
 split at h
 · cases h
 · cases hn : numO s 10 with
   | none => rw [hn] at h; exact hG h
   | some n =>
     rcases Nat.eq_zero_or_pos s.size with h0 | h0
     · rw [numO_len (by omega)] at hn; cases hn
     · refine ⟨h0, ?_⟩
       cases hd : Nm.digB s[0] with
       | true => rfl
       | false => rw [numO_bad h0 hd] at hn; cases hn
end Go.Proofs.YtddabafaejahbaaGreatDoor
