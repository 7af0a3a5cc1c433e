import Derived.Test.YtechmpdfbpehiaaGreatDoorMsM
import Derived.Test.YtechmpdfbpehiaaGreatDoorMsP
import Derived.Test.YtechmpdfbpehiaaGreatDoorJIShowT
import Derived.RegionTactic
import Derived.BigRegion
import Derived.Deep.RegionHeld3
import Derived.Test.YtechmpdfbpehiaaGreatDoorJSdS
import Derived.Test.YtechmpdfbpehiaaGreatDoorJICheck
import Derived.Test.YtechmpdfbpehiaaGreatDoorJData1
/- impl.isMasterRecord, showRecord by their contracts. -/
namespace Go.Proofs.YtechmpdfbpehiaaGreatDoor
open Go.RowKit
set_option linter.unusedVariables false

/-- The five cells of a record that lies in a block. -/
def RB (w : World) (g : Nat) (r : Rr) : Prop := w.cell? ⟨g, 0, none⟩ = some (.string r.own) ∧ w.cell? ⟨g, 1, none⟩ = some (.int .i64 r.ty) ∧ w.cell? ⟨g, 2, none⟩ = some (.int .i64 r.cl) ∧ w.cell? ⟨g, 3, none⟩ = some (.int .i64 r.tt) ∧ w.cell? ⟨g, 4, none⟩ = some (.string r.da)
theorem RB.below {w W : World} {g : Nat} {r : Rr} (h : RB w g r) (hb : Below w.heap.size w W) : RB W g r := by
  obtain ⟨a, b, c, d, e⟩ := h
  have put : ∀ {O : Nat} {z : Value}, w.cell? ⟨g, O, none⟩ = some z → W.cell? ⟨g, O, none⟩ = some z := fun h => (hb.cell (World.block_lt_of_cell? w _ h)).trans h
  exact ⟨put a, put b, put c, put d, put e⟩
theorem RB.new (w : World) (r : Rr) (t : Nat) : RB (w.alloc (.cells #[.string r.own, .int .i64 r.ty, .int .i64 r.cl, .int .i64 r.tt, .string r.da] t)) w.heap.size r := by
  refine ⟨?_, ?_, ?_, ?_, ?_⟩ <;> simp

set_option maxRecDepth 100000 in
set_option maxHeartbeats 1600000 in
theorem isMaster_any (r : Rr) (w : World) (ho : r.own.size ≤ 1048576) (hd : r.da.size ≤ 1048576) :
    Calls Tryz.prog 19 #[.agg #[.string r.own, .int .i64 r.ty, .int .i64 r.cl, .int .i64 r.tt, .string r.da]] w fun e w' => e = .returned (.bool (mrOK r)) ∧ Below w.heap.size w w' := by
  have hR0 := RB.new w r 33
  have hB0 := (Below.refl w.heap.size w).alloc (Nat.le_refl _) (.cells #[.string r.own, .int .i64 r.ty, .int .i64 r.cl, .int .i64 r.tt, .string r.da] 33)
  have hno := fun W => implNameOK_any r.own W (by unfold maxLen; omega)
  have hwi := fun W => within_any r.tt 2147483647 W
  have hme := fun W => isMeta_any r.ty W
  have hck := fun W => implCheckData_any r.ty r.da W (by omega)
  have HM : Hid (mrOK r = ((Nm.split r.own).isSome && r.cl == 1 && (decide (0 ≤ r.tt) && decide (r.tt ≤ 2147483647)) && !metaB r.ty && cutCode r.ty r.da == 0)) := rfl
  obtain ⟨o, ty, cl, tt, da⟩ := r
  simp only at hR0 hB0 hno hwi hme hck HM ⊢
  generalize mrOK ⟨o, ty, cl, tt, da⟩ = M at *
  generalize (Nm.split o).isSome = B1 at *
  generalize (decide (0 ≤ tt) && decide (tt ≤ 2147483647)) = B3 at *
  generalize metaB ty = B4 at *
  generalize cutCode ty da = C5 at *
  clear ho hd
  cases B1 with
  | false =>
    obtain rfl : M = false := by rw [HM.out]; simp
    go_enter Tryz.func19, Tryz.ntmps19
    go_wp2_with (go_at_call 37; refine (hno _).mono ?_; rintro e w1 ⟨rfl, hb1⟩)
    go_ret
    exact ⟨rfl, Nm.below_two hB0 hb1⟩
  | true =>
    by_cases h2 : cl = 1
    · have e2 : (cl == 1) = true := by simp [h2]
      subst h2
      cases B3 with
      | false =>
        obtain rfl : M = false := by rw [HM.out]; simp
        go_enter Tryz.func19, Tryz.ntmps19
        go_wp2_with (first | (go_at_call 37; refine (hno _).mono ?_; rintro e w1 ⟨rfl, hb1⟩; obtain ⟨c0, c1, c2, c3, c4⟩ := hR0.below hb1) | (go_at_call 38; refine (hwi _).mono ?_; rintro e wf ⟨rfl, hw⟩; obtain rfl := hw.symm; clear hw))
        go_ret
        exact ⟨rfl, Nm.below_two hB0 hb1⟩
      | true =>
        cases B4 with
        | true =>
          obtain rfl : M = false := by rw [HM.out]; simp
          go_enter Tryz.func19, Tryz.ntmps19
          go_wp2_with (first | (go_at_call 37; refine (hno _).mono ?_; rintro e w1 ⟨rfl, hb1⟩; obtain ⟨c0, c1, c2, c3, c4⟩ := hR0.below hb1) | (go_at_call 38; refine (hwi _).mono ?_; rintro e wf ⟨rfl, hw⟩; obtain rfl := hw.symm; clear hw) | (go_at_call 39; refine (hme _).mono ?_; rintro e wf ⟨rfl, hw⟩; obtain rfl := hw.symm; clear hw))
          go_ret
          exact ⟨rfl, Nm.below_two hB0 hb1⟩
        | false =>
          obtain rfl : M = (C5 == 0) := by rw [HM.out, e2]; simp
          go_enter Tryz.func19, Tryz.ntmps19
          go_wp2_with (first | (go_at_call 37; refine (hno _).mono ?_; rintro e w1 ⟨rfl, hb1⟩; obtain ⟨c0, c1, c2, c3, c4⟩ := hR0.below hb1) | (go_at_call 38; refine (hwi _).mono ?_; rintro e wf ⟨rfl, hw⟩; obtain rfl := hw.symm; clear hw) | (go_at_call 39; refine (hme _).mono ?_; rintro e wf ⟨rfl, hw⟩; obtain rfl := hw.symm; clear hw) | (go_at_call 40; refine (hck _).mono ?_; rintro e w2 ⟨rfl, hb2⟩))
          go_ret
          exact ⟨rfl, Nm.below_two (Nm.below_two hB0 hb1) hb2⟩
    · have e2 : (cl == 1) = false := by simp [h2]
      obtain rfl : M = false := by rw [HM.out, e2]; simp
      go_enter Tryz.func19, Tryz.ntmps19
      go_wp2_with (go_at_call 37; refine (hno _).mono ?_; rintro e w1 ⟨rfl, hb1⟩; obtain ⟨c0, c1, c2, c3, c4⟩ := hR0.below hb1)
      go_ret
      exact ⟨rfl, Nm.below_two hB0 hb1⟩

theorem line_len {S4 S6 : ByteArray → ByteArray × Int} (h4 : ∀ s, (S4 s).1.size ≤ 200) (h6 : ∀ s, (S6 s).1.size ≤ 200) {r : Rr} (h : r.tt ≤ 2147483647) (ho : r.own.size ≤ 1048576) : (joinS [(Nm.showS r.own).1, decS r.tt.toNat, ⟨#[73, 78]⟩, showTypeS r.ty, (showDS S4 S6 r.ty r.da).1]).size ≤ 200000000 := by
  have hj := joinS_le [(Nm.showS r.own).1, decS r.tt.toNat, ⟨#[73, 78]⟩, showTypeS r.ty, (showDS S4 S6 r.ty r.da).1]
  have a := showS_len r.own
  have b : (decS r.tt.toNat).size ≤ 20 := by
    have := decL_len20 (n := r.tt.toNat) (by omega)
    show (decL _).toArray.size ≤ 20
    simpa using this
  have c := showType_len r.ty
  have d := showDS_len h4 h6 r.ty r.da
  have e : (⟨#[73, 78]⟩ : ByteArray).size = 2 := rfl
  rw [wlen_cons, wlen_cons, wlen_cons, wlen_cons, wlen_cons] at hj
  have z : wlen [] = 0 := rfl
  omega

set_option maxRecDepth 100000 in
set_option maxHeartbeats 3200000 in
theorem showRecord_any {S4 S6 : ByteArray → ByteArray × Int} (h4 : ∀ s, (S4 s).1.size ≤ 200) (h6 : ∀ s, (S6 s).1.size ≤ 200) (r : Rr) (w : World) (hs : SDL S4 S6 w) (h : mrOK r = true) (ho : r.own.size ≤ 1048576) (hd : r.da.size ≤ 1048576) :
    Calls Tryz.prog 21 #[.agg #[.string r.own, .int .i64 r.ty, .int .i64 r.cl, .int .i64 r.tt, .string r.da]] w fun e w' => e = .returned (.string (lineS S4 S6 r)) ∧ Below w.heap.size w w' := by
  obtain ⟨hx1, hx2, ⟨ht0, ht1⟩, hx3, hcut⟩ := mr_facts h
  clear hx1 hx2 hx3
  have hR0 := RB.new w r 33
  have hB0 := (Below.refl w.heap.size w).alloc (Nat.le_refl _) (.cells #[.string r.own, .int .i64 r.ty, .int .i64 r.cl, .int .i64 r.tt, .string r.da] 33)
  have hlen := line_len h4 h6 (r := r) ht1 ho
  have hnm := fun W => implShowName_any r.own W (by unfold maxLen; omega)
  have hsd := fun W (hW : Below w.heap.size w W) => implShowData_any S4 S6 r.ty r.da W hd (hs.below hW) (fun hc => by have := data_len h4 h6 hc; omega)
  have htt : ((r.tt.toNat : Nat) : Int) = r.tt := by omega
  have hfi := fun W (hW : Below w.heap.size w W) => formatInt10_any r.tt.toNat W (by omega) (hs.sh.1.below hW)
  rw [htt] at hfi
  have hty := fun W (hW : Below w.heap.size w W) => implShowType_any r.ty W (hs.mn.below hW) (hs.sh.1.below hW)
  have hjn := fun (v : Value) W (hv : W.ownsRow w.heap.size 9 1 v 5 [.string (Nm.showS r.own).1, .string (decS r.tt.toNat), .string ⟨#[73, 78]⟩, .string (showTypeS r.ty), .string (showDS S4 S6 r.ty r.da).1]) => joinWords_any v [(Nm.showS r.own).1, decS r.tt.toNat, ⟨#[73, 78]⟩, showTypeS r.ty, (showDS S4 S6 r.ty r.da).1] W hv (by omega) (by simp)
  have hadd : ∀ W, (Go.Op.stringOp .add (joinS [(Nm.showS r.own).1, decS r.tt.toNat, ⟨#[73, 78]⟩, showTypeS r.ty, (showDS S4 S6 r.ty r.da).1]) ⟨#[10]⟩).run Tryz.prog W = .ok (.string (lineS S4 S6 r)) W := fun W => run_string_add_sum W _ _ (by have e : (⟨#[10]⟩ : ByteArray).size = 1 := rfl; omega)
  generalize lineS S4 S6 r = LN at *
  generalize joinS [(Nm.showS r.own).1, decS r.tt.toNat, ⟨#[73, 78]⟩, showTypeS r.ty, (showDS S4 S6 r.ty r.da).1] = JW at *
  generalize (Nm.showS r.own).1 = T1 at *
  generalize (Nm.showS r.own).2 = C1 at *
  generalize decS r.tt.toNat = T2 at *
  generalize showTypeS r.ty = T3 at *
  generalize (showDS S4 S6 r.ty r.da).1 = T4 at *
  generalize (showDS S4 S6 r.ty r.da).2 = C4 at *
  obtain ⟨o, ty, cl, tt, da⟩ := r
  simp only at *
  clear h hs hcut htt hlen ho hd ht0 ht1
  go_enter Tryz.func21, Tryz.ntmps21
  go_wp2_with (first | (go_at_call 42; refine (hnm _).mono ?_; rintro e w1 ⟨rfl, hb1⟩; have hR1 := hR0.below hb1; obtain ⟨c0, c1, c2, c3, c4⟩ := hR0.below hb1) | (go_at_call 43; refine (hsd _ (Nm.below_two hB0 hb1)).mono ?_; rintro e w2 ⟨rfl, hb2⟩; have hB2 := Nm.below_two (Nm.below_two hB0 hb1) hb2; obtain ⟨k0, k1, k2, k3, k4⟩ := hR1.below hb2))
  clear hnm hsd c0 c1 c2 c3 c4 hR0 hB0
  have hS : ∀ W, Below w.heap.size w W → Below w2.heap.size w2 W → (W.cell? ⟨w.heap.size, 1, none⟩ = some (.int .i64 ty) ∧ W.cell? ⟨w.heap.size, 3, none⟩ = some (.int .i64 tt)) ∧ Below w.heap.size w W ∧ Below w2.heap.size w2 W := by
    intro W hW hW2
    obtain ⟨_, q1, _, q3, _⟩ := (hR1.below hb2).below hW2
    exact ⟨⟨q1, q3⟩, hW, hW2⟩
  have hS0 := hS w2.drew hB2.drew (Below.refl _ _).drew
  have hfi2 : ∀ W, ((W.cell? ⟨w.heap.size, 1, none⟩ = some (.int .i64 ty) ∧ W.cell? ⟨w.heap.size, 3, none⟩ = some (.int .i64 tt)) ∧ Below w.heap.size w W ∧ Below w2.heap.size w2 W) → Calls Tryz.prog 45 #[.int .i64 tt, .int .i64 10] W fun e w' => e = .returned (.string T2) ∧ Below w.heap.size w w' ∧ Below w2.heap.size w2 w' := fun W hW => (hfi W hW.2.1).mono (by rintro e w' ⟨he, hb⟩; exact ⟨he, Nm.below_two hW.2.1 hb, Nm.below_two hW.2.2 hb⟩)
  have hty2 : ∀ W, ((W.cell? ⟨w.heap.size, 1, none⟩ = some (.int .i64 ty) ∧ W.cell? ⟨w.heap.size, 3, none⟩ = some (.int .i64 tt)) ∧ Below w.heap.size w W ∧ Below w2.heap.size w2 W) → Calls Tryz.prog 46 #[.int .i64 ty] W fun e w' => e = .returned (.string T3) ∧ Below w.heap.size w w' ∧ Below w2.heap.size w2 w' := fun W hW => (hty W hW.2.1).mono (by rintro e w' ⟨he, hb⟩; exact ⟨he, Nm.below_two hW.2.1 hb, Nm.below_two hW.2.2 hb⟩)
  clear hfi hty hR1 k0 k1 k2 k3 k4
  go_region_held3 (fun W => (W.cell? ⟨w.heap.size, 1, none⟩ = some (.int .i64 ty) ∧ W.cell? ⟨w.heap.size, 3, none⟩ = some (.int .i64 tt)) ∧ Below w.heap.size w W ∧ Below w2.heap.size w2 W) (first | with_reducible assumption | with_reducible exact hS0 | with_reducible exact hS _ (hS4.2.1.alloc hS4.2.1.size _) (hS4.2.2.alloc hS4.2.2.size _) | with_reducible exact hS _ (hS3.2.1.alloc hS3.2.1.size _) (hS3.2.2.alloc hS3.2.2.size _)) (first | (go_at_call 45; refine (hfi2 _ (by with_reducible assumption)).mono ?_; rintro e w3 ⟨rfl, hb3, hc3⟩; have hS3 := hS _ hb3 hc3) | (go_at_call 46; refine (hty2 _ (by with_reducible assumption)).mono ?_; rintro e w4 ⟨rfl, hb4, hc4⟩; have hS4 := hS _ hb4 hc4) | (go_at_call 44; refine (hjn _ _ (World.ownsRow_lit (base := w.heap.size) (e := 9) (size := 1) _ #[.string T1, .string T2, .string ⟨#[73, 78]⟩, .string T3, .string T4] 5 (by first | with_reducible exact hS4.2.1.size | with_reducible exact hS3.2.1.size) (by decide) rfl)).mono ?_; rintro e w5 ⟨rfl, hb5⟩; first | (have hS5 := hS _ (Nm.below_two (hS4.2.1.alloc hS4.2.1.size _) hb5) (Nm.below_two (hS4.2.2.alloc hS4.2.2.size _) hb5)) | (have hS5 := hS _ (Nm.below_two (hS3.2.1.alloc hS3.2.1.size _) hb5) (Nm.below_two (hS3.2.2.alloc hS3.2.2.size _) hb5))))
  all_goals
    go_wp2
    go_ret
    exact ⟨rfl, hS5.2.1⟩
end Go.Proofs.YtechmpdfbpehiaaGreatDoor
/- The model's words of data: what l03Shown makes of a part, in one form; mathematics of joined words. -/
namespace Go.Proofs.YtechmpdfbpehiaaGreatDoor
open Go.RowKit
set_option linter.unusedVariables false

theorem joinS_more (a : List ByteArray) (x y : ByteArray) : joinS (a ++ [x ++ ⟨#[32]⟩ ++ y]) = joinS (a ++ [x, y]) := by
  have e : a ++ [x, y] = (a ++ [x]) ++ [y] := by simp
  rw [e, joinS_snoc y (by simp)]
  rcases Nat.eq_zero_or_pos a.length with h | h
  · have : a = [] := List.eq_nil_of_length_eq_zero h
    subst this
    simp only [List.nil_append]
    rw [joinS_one, joinS_one]
  · have hne : a ≠ [] := fun e => by subst e; simp at h
    rw [joinS_snoc _ hne, joinS_snoc _ hne]
    apply ba_ext
    simp [ByteArray.data_append]

/-- A word that is itself words with blanks between them. -/
theorem joinS_flat (a m : List ByteArray) (h : m ≠ []) : joinS (a ++ [joinS m]) = joinS (a ++ m) := by
  obtain ⟨x, r, rfl⟩ := List.exists_cons_of_ne_nil h
  clear h
  obtain ⟨n, hn⟩ : ∃ n, n = r.length := ⟨_, rfl⟩
  induction n generalizing r with
  | zero =>
    have : r = [] := List.eq_nil_of_length_eq_zero hn.symm
    subst this
    rw [joinS_one]
  | succ n ih =>
    have hr : r ≠ [] := fun e => by subst e; simp at hn
    obtain ⟨r', y, rfl⟩ : ∃ r' y, r = r' ++ [y] := ⟨r.dropLast, r.getLast hr, (List.dropLast_concat_getLast hr).symm⟩
    have hl : n = r'.length := by simp at hn; omega
    have e1 : x :: (r' ++ [y]) = (x :: r') ++ [y] := rfl
    have e2 : a ++ [joinS (x :: r'), y] = (a ++ [joinS (x :: r')]) ++ [y] := by simp
    have e3 : a ++ ((x :: r') ++ [y]) = (a ++ (x :: r')) ++ [y] := by simp
    rw [e1, joinS_snoc y (by simp), joinS_more, e2, joinS_snoc y (by simp), ih r' hl, e3, joinS_snoc y (by simp)]

/-- What l03Shown makes of a part. -/
def Sh (c : UInt8) (p X : ByteArray) : Prop := p.size ≤ 65535 ∧ ((c = 110 ∧ X = (Nm.showS p).1) ∨ (c = 116 ∧ 1 ≤ p.size ∧ X = showTextS (p.extract 1 p.size)) ∨ (c = 115 ∧ okMany p.size p ∧ X = joinS (manyT p.size p)) ∨ (c = 99 ∧ 0 < p.size ∧ 1 + b0 p ≤ p.size ∧ X = p.extract 1 (1 + b0 p) ++ ⟨#[32]⟩ ++ showTextS (p.extract (1 + b0 p) p.size)))

theorem l03Shown_any {c : UInt8} {p X : ByteArray} (h : Sh c p X) (w : World) : Calls Tryz.prog 35 #[.int .u8 (c.toNat : Int), .string p] w fun e w' => e = .returned (.string X) ∧ Below w.heap.size w w' := by
  obtain ⟨hp, ⟨rfl, rfl⟩ | ⟨rfl, h1, rfl⟩ | ⟨rfl, h1, rfl⟩ | ⟨rfl, h1, h2, rfl⟩⟩ := h
  · exact l03Shown_n p w (by omega)
  · exact l03Shown_t p w (by omega) h1
  · exact l03Shown_s p.size p w (by omega) h1
  · exact l03Shown_c p w (by omega) h1 h2

/-- How many bytes a number has, by the script's sign. -/
def widthOf (c : UInt8) : Nat := if c = 50 then 2 else if c = 52 ∨ c = 84 then 4 else 1

/-- What the model's loop still does: f rounds at most, from sign i of the form and byte q of the data on, with these words so far; R is what it comes to. -/
def Rest (fm sc d : ByteArray) (ps R : List ByteArray) : Nat → Nat → Nat → List ByteArray → Prop
  | 0, i, q, out => i = fm.size ∧ out = R
  | f + 1, i, q, out => (i = fm.size ∧ out = R) ∨ ∃ h : i < fm.size,
      (fm[i] = 98 ∧ ∃ h2 : out.length < sc.size, q + widthOf sc[out.length] ≤ d.size ∧ i + widthOf sc[out.length] ≤ fm.size ∧ Rest fm sc d ps R f (i + widthOf sc[out.length]) (q + widthOf sc[out.length]) (out ++ [decS (numL (d.extract q (q + widthOf sc[out.length])).data.toList)])) ∨
      (∃ p, ps[i]? = some p ∧ p.size ≤ 65535 ∧ ((fm[i] = 109 ∧ Rest fm sc d ps R f (i + 1) (q + p.size) (out ++ tyWords p)) ∨ (fm[i] = 42 ∧ Rest fm sc d ps R f (i + 1) (q + p.size) (out ++ plainWords d)) ∨ (∃ X, Sh fm[i] p X ∧ Rest fm sc d ps R f (i + 1) (q + p.size) (out ++ [X]))))

theorem rest_open {fm sc d : ByteArray} {ps R : List ByteArray} {f i q : Nat} {out : List ByteArray} (h : Rest fm sc d ps R f i q out) : (i = fm.size ∧ out = R) ∨ ∃ f', ∃ h : i < fm.size,
      (fm[i] = 98 ∧ ∃ h2 : out.length < sc.size, q + widthOf sc[out.length] ≤ d.size ∧ i + widthOf sc[out.length] ≤ fm.size ∧ Rest fm sc d ps R f' (i + widthOf sc[out.length]) (q + widthOf sc[out.length]) (out ++ [decS (numL (d.extract q (q + widthOf sc[out.length])).data.toList)])) ∨
      (∃ p, ps[i]? = some p ∧ p.size ≤ 65535 ∧ ((fm[i] = 109 ∧ Rest fm sc d ps R f' (i + 1) (q + p.size) (out ++ tyWords p)) ∨ (fm[i] = 42 ∧ Rest fm sc d ps R f' (i + 1) (q + p.size) (out ++ plainWords d)) ∨ (∃ X, Sh fm[i] p X ∧ Rest fm sc d ps R f' (i + 1) (q + p.size) (out ++ [X])))) := by
  cases f with
  | zero => exact .inl h
  | succ f => exact h.imp id (fun x => ⟨f, x⟩)

theorem rest_le {fm sc d : ByteArray} {ps R : List ByteArray} : ∀ (f i q : Nat) (out : List ByteArray), Rest fm sc d ps R f i q out → out.length ≤ R.length := by
  intro f
  induction f with
  | zero => intro i q out h; rw [h.2]; exact Nat.le_refl _
  | succ f ih =>
    intro i q out h
    rcases h with h | ⟨hi, ⟨_, _, _, _, h⟩ | ⟨p, _, _, ⟨_, h⟩ | ⟨_, h⟩ | ⟨X, _, h⟩⟩⟩
    · rw [h.2]; exact Nat.le_refl _
    · have := ih _ _ _ h; simp at this; omega
    · have := ih _ _ _ h; simp at this; omega
    · have := ih _ _ _ h; simp at this; omega
    · have := ih _ _ _ h; simp at this; omega
end Go.Proofs.YtechmpdfbpehiaaGreatDoor
/- spec.l02NameAt by its contract. -/
namespace Go.Proofs.YtechmpdfbpehiaaGreatDoor
open Go.RowKit

theorem name_zero {s : ByteArray} {i : Nat} (h : i < s.size) (h2 : i < 255) (h0 : s[i].toNat = 0) : Dt.nameF 256 s i = s.extract 0 (i + 1) := by
  rw [Dt.nameF, dif_pos ⟨h, h2⟩, if_pos h0]
theorem name_big {s : ByteArray} {i : Nat} (h : i < s.size) (h2 : i < 255) (h0 : 63 < s[i].toNat) : Dt.nameF 256 s i = ByteArray.empty := by
  rw [Dt.nameF, dif_pos ⟨h, h2⟩, if_neg (by omega), if_pos h0]
theorem name_step {s : ByteArray} {i : Nat} (h : i < s.size) (h2 : i < 255) (h0 : s[i].toNat ≠ 0) (h1 : s[i].toNat ≤ 63) : Dt.nameF 256 s i = Dt.nameF 256 s (i + s[i].toNat + 1) := by
  rw [Dt.nameF, dif_pos ⟨h, h2⟩, if_neg h0, if_neg (by omega)]
  exact Dt.nameF_enough _ _ _ _ (by omega) (by omega)
theorem name_end {s : ByteArray} {i : Nat} (h : ¬ (i < s.size ∧ i < 255)) : Dt.nameF 256 s i = ByteArray.empty := by
  rw [Dt.nameF, dif_neg h]

set_option maxRecDepth 100000 in
set_option maxHeartbeats 800000 in
theorem l02NameAt_any (s : ByteArray) (w : World) :
    Calls Tryz.prog 47 #[.string s] w fun e w' => e = .returned (.string (Dt.nameAtS s)) ∧ w' = w := by
  have H0 : Dt.nameAtS s = Dt.nameF 256 s 0 := rfl
  go_enter Tryz.func47, Tryz.ntmps47
  go_wp2
  go_loop [3] (fun v => ∃ i : Nat, i ≤ 400 ∧ v = .int .i64 i ∧ Dt.nameAtS s = Dt.nameF 256 s i) (fun v => 400 - (intOf v).toNat)
  case atStart => exact ⟨0, by omega, rfl, H0⟩
  case round =>
    obtain ⟨i, hi, rfl, hn⟩ := hrel
    clear H0
    by_cases h1 : i < s.size
    · have h1' : (i : Int) < (s.size : Int) := by omega
      by_cases h2 : i < 255
      · have h2' : (i : Int) < 255 := by omega
        have hc : (s[i].toNat : Int) < 256 := by have := s[i].toNat_lt; omega
        by_cases h3 : s[i].toNat = 0
        · have HN := Nm.hide (hn.trans (name_zero h1 h2 h3))
          have h3' : ((s[i].toNat : Int) == 0) = true := by rw [beq_iff_eq]; omega
          clear hn
          go_wp2
          go_ret
          rw [HN.out]
          exact ⟨rfl, rfl⟩
        · have h3' : ((s[i].toNat : Int) == 0) = false := by rw [beq_eq_false_iff_ne]; omega
          by_cases h4 : 63 < s[i].toNat
          · have HN := Nm.hide (hn.trans (name_big h1 h2 h4))
            have h4' : (63 : Int) < (s[i].toNat : Int) := by omega
            clear hn
            go_wp2
            go_ret
            rw [HN.out]
            exact ⟨rfl, rfl⟩
          · have HN := Nm.hide (hn.trans (name_step h1 h2 h3 (by omega)))
            have h4' : (s[i].toNat : Int) ≤ 63 := by omega
            clear hn
            go_wp2
            go_round
            case rel => exact ⟨i + s[i].toNat + 1, by omega, by go_num, HN.out⟩
            case measure => simp [intOf]; omega
      · have HN := Nm.hide (hn.trans (name_end (by omega)))
        have h2' : (255 : Int) ≤ (i : Int) := by omega
        clear hn
        go_wp2
        go_ret
        rw [HN.out]
        exact ⟨rfl, rfl⟩
    · have HN := Nm.hide (hn.trans (name_end (by omega)))
      have h1' : (s.size : Int) ≤ (i : Int) := by omega
      clear hn
      go_wp2
      go_ret
      rw [HN.out]
      exact ⟨rfl, rfl⟩
end Go.Proofs.YtechmpdfbpehiaaGreatDoor
