import Derived.Test.YtilcbdhcojgcbaaJHd1
import Derived.Test.YtilcbdhcojgcbaaJRmz
import Derived.Test.YtilcbdhcojgcbaaJTrM
import Derived.Test.YtilcbdhcojgcbaaIRe
import Derived.Deep.CutRange
/- impl.DecodeHead by its contract. -/
namespace Go.Proofs.Ytilcbdhcojgcbaa
open Go.RowKit
set_option linter.unusedVariables false

set_option maxRecDepth 100000 in
set_option maxHeartbeats 400000 in
theorem dh_caught (b : Nat) (x : Int) (c : Int) (T : TypeId) (w : World) (h : w.heap[b]? = some (.cells #[.int .i64 x] T (0, 0))) :
    CallsD Try.prog 37 #[.pointer (some ⟨b, 0, none⟩)] (.panicking (fault c)) w fun e u' w' =>
      e = .returned (.tuple #[]) ∧ u' = .panicking [{ v := .iface 109 (.agg #[.int .i64 c]), recovered := true }] ∧ ∃ w1, Below w.heap.size w w1 ∧ w' = w1.setCell ⟨b, 0, none⟩ (.int .i64 c) := by
  unfold fault
  refine callsD_of_wpS Try.func37 rfl fun c₀ cs hu => ?_
  apply wpS_region
  simp [wpOpsS, go_sem, recoverD, hu, Try.ntmps37]
  refine (codeOf_fault c w).mono ?_
  rintro e w1 ⟨rfl, hb⟩
  have h1 : w1.heap[b]? = some (.cells #[.int .i64 x] T (0, 0)) := by rw [hb.block b (Array.getElem?_eq_some_iff.1 h).1]; exact h
  have c1 : w1.cell? ⟨b, 0, none⟩ = some (.int .i64 x) := by rw [cell_of_row _ _ _ _ _ _ h1]; rfl
  have f1 := frozen_of_row w1 b 0 _ _ h1
  simp [go_sem, c1, f1, bodyPostS, results, Try.results37]
  exact ⟨w1, hb, rfl⟩

set_option maxRecDepth 100000 in
set_option maxHeartbeats 400000 in
theorem dh_idle (b : Nat) (x : Int) (T : TypeId) (w : World) (h : w.heap[b]? = some (.cells #[.int .i64 x] T (0, 0))) :
    CallsD Try.prog 37 #[.pointer (some ⟨b, 0, none⟩)] .returning w fun e u' w' =>
      e = .returned (.tuple #[]) ∧ u' = .returning ∧ w' = w.setCell ⟨b, 0, none⟩ (.int .i64 0) := by
  refine callsD_of_wpS Try.func37 rfl fun c₀ cs hu => ?_
  apply wpS_region
  simp [wpOpsS, go_sem, recoverD, hu, Try.ntmps37]
  refine (codeOf_nil w).mono ?_
  rintro e w1 ⟨rfl, rfl⟩
  have c1 : w1.cell? ⟨b, 0, none⟩ = some (.int .i64 x) := by rw [cell_of_row _ _ _ _ _ _ h]; rfl
  have f1 := frozen_of_row w1 b 0 _ _ h
  simp [go_sem, c1, f1, bodyPostS, results, Try.results37]
  cases c₀
  simp_all

/-- The three variables of DecodeHead's results. -/
structure L3 (w W : World) (b : Nat) (c0 c1 : Array Value) (x : Value) : Prop where
  b0 : Blk W b c0 28
  b1 : Blk W (b + 1) c1 29
  b2 : Blk W (b + 2) #[x] 2
  be : Below b w W

theorem L3.lay {w W : World} {b : Nat} {c0 c1 : Array Value} {x : Value} (h : L3 w W b c0 c1 x) (v0 v1 : List Value) (h0 : c0.size = v0.length) (h1 : c1.size = v1.length) :
    L3 w (setAll (setAll W b 0 v0) (b + 1) 0 v1) b v0.toArray v1.toArray x :=
  ⟨setAll_far (by omega) _ _ _ (setAll_new _ h.b0 h0), setAll_new _ (setAll_far (by omega) _ _ _ h.b1) h1, setAll_far (by omega) _ _ _ (setAll_far (by omega) _ _ _ h.b2), setAll_below (by omega) _ _ _ (setAll_below (Nat.le_refl _) _ _ _ h.be)⟩

theorem L3.code {w W : World} {b : Nat} {c0 c1 : Array Value} {x : Value} (h : L3 w W b c0 c1 x) (y : Value) : L3 w (W.setCell ⟨b + 2, 0, none⟩ y) b c0 c1 y :=
  ⟨blk_far h.b0 (by omega), blk_far h.b1 (by omega), blk_set h.b2 0 y, h.be.setCell (by simp) _⟩

theorem L3.drew {w W : World} {b : Nat} {c0 c1 : Array Value} {x : Value} (h : L3 w W b c0 c1 x) : L3 w W.drew b c0 c1 x := ⟨h.b0, h.b1, h.b2, h.be.drew⟩

set_option maxRecDepth 100000 in
set_option maxHeartbeats 3200000 in
theorem implDecodeHead_any (v : Value) (l : List UInt8) (w : World) (h : BySl w v l) (hl : l.length ≤ 1048576) :
    Calls Try.prog 25 #[v] w fun e w' => e = .returned (dhV l) ∧ Below w.heap.size w w' := by
  have hmf : ∀ (fn : Fn) (first cap : Array Value) (w : World), (Instr.makeFunc fn first cap).run Try.prog w = .ok (.func fn first cap) w := fun _ _ _ _ => rfl
  obtain ⟨hbl, a, cap, rfl, hcap, hmx, hc⟩ := h
  have hby : BySl w (.slice a l.length cap) l := ⟨hbl, a, cap, rfl, hcap, hmx, hc⟩
  clear hc
  have hnm := fun W (h1 : Rd W (w.heap.size + 3) (.slice a l.length cap) 0) (hB : Below w.heap.size w W) => head_any (w.heap.size + 3) a l cap W h1 (fun W2 hg => hby.below (hB.grown hg hB.size (fun q hq => by simp at hq; omega))) hl
  have hA := blk_alloc (blk_alloc (blk_alloc (blk_new w hd0 28) (.cells ct0 29)) (.cells #[.int .i64 0] 2)) (.cells #[.slice a l.length cap, .int .i64 (0 : Nat)] 92)
  have hB := blk_alloc (blk_alloc (blk_new (w.alloc (.cells hd0 28)) ct0 29) (.cells #[.int .i64 0] 2)) (.cells #[.slice a l.length cap, .int .i64 (0 : Nat)] 92)
  have hC := blk_alloc (blk_new ((w.alloc (.cells hd0 28)).alloc (.cells ct0 29)) #[.int .i64 0] 2) (.cells #[.slice a l.length cap, .int .i64 (0 : Nat)] 92)
  have hD : Rd _ _ _ 0 := blk_new (((w.alloc (.cells hd0 28)).alloc (.cells ct0 29)).alloc (.cells #[.int .i64 0] 2)) #[.slice a l.length cap, .int .i64 (0 : Nat)] 92
  have hbe : Below w.heap.size w ((((w.alloc (.cells hd0 28)).alloc (.cells ct0 29)).alloc (.cells #[.int .i64 0] 2)).alloc (.cells #[.slice a l.length cap, .int .i64 (0 : Nat)] 92)) :=
    ((((Below.refl _ _).alloc (Nat.le_refl _) _).alloc (by simp) _).alloc (by simp; omega) _).alloc (by simp; omega) _
  have e1 : (w.alloc (.cells hd0 28)).heap.size = w.heap.size + 1 := by simp
  have e2 : ((w.alloc (.cells hd0 28)).alloc (.cells ct0 29)).heap.size = w.heap.size + 2 := by simp
  have e3 : (((w.alloc (.cells hd0 28)).alloc (.cells ct0 29)).alloc (.cells #[.int .i64 0] 2)).heap.size = w.heap.size + 3 := by simp
  rw [e1] at hB
  rw [e2] at hC
  rw [e3] at hD
  simp only [hd0, ct0] at hA hB hC hD hbe
  by_cases hlong : 12 ≤ l.length
  · have hnm' := fun W h1 hB => (hnm W h1 hB).mono (R' := fun e w' => e = .returned (.tuple #[.agg (hdA (n16 l 0) (n16 l 2)), .agg (ctA l)]) ∧ W.grownBy w' (some (w.heap.size + 3))) (by
      rintro e w2 (⟨_, he, hr, hg2⟩ | ⟨hx, _⟩)
      · exact ⟨he, hg2⟩
      · omega)
    have HV : Hid (dhV l = .tuple #[.agg (hdA (n16 l 0) (n16 l 2)), .agg (ctA l), .int .i64 0]) := if_pos hlong
    clear hnm
    simp only [hdA, ctA] at hnm' HV
    generalize ((n16 l 2 / 2048 % 16 : Nat) : Int) = op at *
    generalize ((n16 l 2 % 16 : Nat) : Int) = cd at *
    generalize (n16 l 2).testBit 15 = t15 at *
    generalize (n16 l 2).testBit 10 = t10 at *
    generalize (n16 l 2).testBit 9 = t9 at *
    generalize (n16 l 2).testBit 8 = t8 at *
    generalize (n16 l 2).testBit 7 = t7 at *
    generalize (n16 l 2).testBit 6 = t6 at *
    generalize (n16 l 2).testBit 5 = t5 at *
    generalize (n16 l 2).testBit 4 = t4 at *
    generalize ((n16 l 0 : Nat) : Int) = m0 at *
    generalize ((n16 l 4 : Nat) : Int) = m4 at *
    generalize ((n16 l 6 : Nat) : Int) = m6 at *
    generalize ((n16 l 8 : Nat) : Int) = m8 at *
    generalize ((n16 l 10 : Nat) : Int) = m10 at *
    go_enter_defers Try.func25, Try.ntmps25
    go_wp2_with (go_at_call 39; refine (hnm' _ hD hbe).mono ?_; rintro e w2 ⟨rfl, hg2⟩; have HL0 : L3 w w2 w.heap.size hd0 ct0 (.int .i64 0) := ⟨blk_grown hA hg2 (by simp), blk_grown hB hg2 (by simp), blk_grown hC hg2 (by simp), hbe.grown hg2 hbe.size (fun q hq => by simp at hq; omega)⟩; have r0 := (fun i => blk_cell HL0.b0 i); have r1 := (fun i => blk_cell HL0.b1 i); have f0 := (fun i => blk_frozen HL0.b0 i); have f1 := (fun i => blk_frozen HL0.b1 i); simp only [hd0, ct0] at r0 r1; clear hA hB hC hD hbe hg2)
    have HL := HL0.lay [.int .i64 m0, .bool t15, .int .i64 op, .bool t10, .bool t9, .bool t8, .bool t7, .bool t6, .bool t5, .bool t4, .int .i64 cd] [.int .i64 m4, .int .i64 m6, .int .i64 m8, .int .i64 m10] rfl rfl
    simp only [setAll, Nat.reduceAdd, Nat.zero_add] at HL
    refine gen_world (Pr := fun W => L3 w W _ _ _ _) (G := fun W => Code.wp _ _ _ _ W) HL ?_
    clear HL r0 r1 f0 f1 HL0 w2
    intro W HL0
    have HL := Nm.hide (((HL0.lay [.int .i64 m0, .bool t15, .int .i64 op, .bool t10, .bool t9, .bool t8, .bool t7, .bool t6, .bool t5, .bool t4, .int .i64 cd] [.int .i64 m4, .int .i64 m6, .int .i64 m8, .int .i64 m10] rfl rfl).code (.int .i64 0)).drew)
    simp only [setAll, Nat.reduceAdd, Nat.zero_add] at HL
    have r0 := fun i => blk_cell HL0.b0 i
    have r1 := fun i => blk_cell HL0.b1 i
    have r2 : ∀ i, W.cell? ⟨w.heap.size + 1 + 1, i, none⟩ = _ := fun i => blk_cell HL0.b2 i
    have f0 := fun i => blk_frozen HL0.b0 i
    have f1 := fun i => blk_frozen HL0.b1 i
    have f2 : ∀ i, W.frozen? ⟨w.heap.size + 1 + 1, i, none⟩ = _ := fun i => blk_frozen HL0.b2 i
    clear HL0
    go_region
    go_wp2
    refine gen_world (Pr := fun W => L3 w W _ _ _ _) (G := fun W => bodyPostD _ _ _ _ _ W) HL.out ?_
    clear HL r0 r1 r2 f0 f1 f2
    intro W2 HL2
    refine leaves_cons (f := 37) (args := #[.pointer (some ⟨w.heap.size + 2, 0, none⟩)]) (by simp) (by simp [go_sem]) ?_
    refine (dh_idle (w.heap.size + 2) 0 2 W2 HL2.b2).mono ?_
    rintro e u' w'' ⟨rfl, rfl, rfl⟩
    have HL3 := HL2.code (.int .i64 0)
    generalize W2.setCell ⟨w.heap.size + 2, 0, none⟩ (.int .i64 0) = w4 at *
    have r0 := fun i => blk_cell HL3.b0 i
    have r1 := fun i => blk_cell HL3.b1 i
    have r2 := fun i => blk_cell HL3.b2 i
    simp [Leaves, settle, results, Try.results25, go_sem, r0, r1, r2]
    rw [HV.out]
    exact ⟨rfl, HL3.be⟩
  · have hnm' := fun W h1 hB => (hnm W h1 hB).mono (R' := fun e w' => e = .panicked (fault 8) ∧ W.grownBy w' (some (w.heap.size + 3))) (by
      rintro e w2 (⟨hx, _⟩ | ⟨_, he, hg2⟩)
      · omega
      · exact ⟨he, hg2⟩)
    have HV : Hid (dhV l = .tuple #[.agg hd0, .agg ct0, .int .i64 8]) := if_neg hlong
    clear hnm
    go_enter_defers Try.func25, Try.ntmps25
    go_wp2_with (go_at_call 39; refine (hnm' _ hD hbe).mono ?_; rintro e w2 ⟨rfl, hg2⟩)
    have hA2 := blk_grown hA hg2 (by simp)
    have hB2 := blk_grown hB hg2 (by simp)
    have hC2 := blk_grown hC hg2 (by simp)
    have hb2 := hbe.grown hg2 hbe.size (fun q hq => by simp at hq; omega)
    clear hA hB hC hD hbe hg2
    refine leaves_cons (f := 37) (args := #[.pointer (some ⟨w.heap.size + 2, 0, none⟩)]) (by simp) (by simp [go_sem]) ?_
    refine (dh_caught (w.heap.size + 2) 0 8 2 w2 hC2).mono ?_
    rintro e u' w'' ⟨rfl, rfl, w3, hb3, rfl⟩
    have hA3 := blk_far (c := w.heap.size + 2) (i := 0) (v := .int .i64 8) (blk_below hA2 hb3) (by omega)
    have hB3 := blk_far (c := w.heap.size + 2) (i := 0) (v := .int .i64 8) (blk_below hB2 hb3) (by omega)
    have hC3 := blk_set (blk_below hC2 hb3) 0 (.int .i64 8)
    have HB : Below w.heap.size w (w3.setCell ⟨w.heap.size + 2, 0, none⟩ (.int .i64 8)) := (hb2.trans (hb3.mono hb2.size)).setCell (by simp) _
    generalize w3.setCell ⟨w.heap.size + 2, 0, none⟩ (.int .i64 8) = w4 at *
    have r0 := fun i => blk_cell hA3 i
    have r1 := fun i => blk_cell hB3 i
    have r2 := fun i => blk_cell hC3 i
    simp [Leaves, settle, results, Try.results25, go_sem, r0, r1, r2]
    rw [HV.out]
    exact ⟨rfl, HB⟩
end Go.Proofs.Ytilcbdhcojgcbaa
/- impl.openMessage, impl.Triage by their contracts. -/
namespace Go.Proofs.Ytilcbdhcojgcbaa
open Go.RowKit
set_option linter.unusedVariables false

theorem ed_flat {R : Option Ed} {w w' : World} {e : Ending} (h : EdPost R w e w') : (∃ b n c, e = .returned (.tuple #[.agg (edC (R.getD ed0) (.slice b n c)), .int .i64 (if R.isSome then 0 else 32)])) ∧ Below w.heap.size w w' := by
  obtain ⟨h1, h2⟩ := h
  refine ⟨?_, h2⟩
  cases R with
  | none => exact ⟨none, 0, 0, h1⟩
  | some E =>
    obtain ⟨u, h1, ho⟩ := h1
    obtain ⟨b, c, rfl⟩ := own_sl ho
    exact ⟨b, _, c, h1⟩

/-- The cells of a message that was opened, of which nothing is known yet. -/
def opZ : Array Value := #[.int .i64 0, .int .i64 0, .bool false, .int .i64 0, .bool false, .bool false, .bool false, .bool false, .bool false, .bool false, .bool false, .int .i64 0, .int .i64 0, .bool false, .int .i64 0, .bool false, .bool false, .bool false, .bool false, .bool false, .bool false, .bool false, .int .i64 0, .slice none 0 0, .slice none 0 0, .slice none 0 0, .slice none 0 0, .bool false, .int .i64 0, .int .i64 0, .int .i64 0, .slice none 0 0]
/-- What is told of a message that was opened. -/
def OmPost (n : Int) (w : World) (e : Ending) (w' : World) : Prop := (∃ xs : List Value, xs.length = 31 ∧ e = .returned (.agg (.int .i64 n :: xs).toArray)) ∧ Below w.heap.size w w'

theorem om_back {w W : World} {a : Act} {n : Int} {c : Array Value} {xs : List Value} (hk : Blk W w.heap.size c 47) (hc : c = (.int .i64 n :: xs).toArray) (hx : xs.length = 31) (hB : Below w.heap.size w W) (h2 : a.tmps[2]?.getD undef = .pointer (some ⟨w.heap.size, 0, none⟩)) (hd : a.defers = []) :
    bodyPost Try.prog Try.f12 (OmPost n w) .ret a W := by
  subst hc
  exact bodyPost_ret (v := .agg (.int .i64 n :: xs).toArray) (run_results_row Try.results12 h2 hk Try.underlying47 rfl (by rw [List.size_toArray, List.length_cons, hx]; kernel_rfl)) hd ⟨⟨xs, hx, rfl⟩, hB⟩

theorem msO_lens (l : List UInt8) : (msO l).m.an.length ≤ 400 ∧ (msO l).m.au.length ≤ 400 ∧ (msO l).m.ex.length ≤ 400 ∧ ∀ r ∈ (msO l).m.ex, r.ty = 41 → r.dat.length ≤ 65535 := by
  cases hm : msgS l using Rs.elim with
  | bad c =>
    have hO : msO l = ⟨0, 0, ⟨[], [], [], []⟩, c⟩ := by rw [msO, hm]
    rw [hO]
    simp
  | ok m p =>
    have hO : msO l = ⟨n16 l 0, n16 l 2, m, 0⟩ := by rw [msO, hm]
    obtain ⟨l1, l2, l3, _, _, l6⟩ := msgS_lens hm
    rw [hO]
    exact ⟨by simp only; omega, by simp only; omega, by simp only; omega, ex_41 hm⟩

theorem fsV_two (m : Mm) : ((fsV m).2.2 = 0 ∨ (fsV m).2.2 = 32) ∧ (fsV m).1.size = 36 ∧ (fsV m).1.all (·.oneCell') = true := by
  have z : sg0.size = 36 ∧ sg0.all (·.oneCell') = true := ⟨sg0_size, sgA_one _ _ _ _ _⟩
  cases hst : strayB m with
  | true => rw [fsV_stray hst]; exact ⟨.inr rfl, z⟩
  | false =>
    rw [fsV_clean hst]
    cases hx : m.ex.getLast? with
    | none => exact ⟨.inl rfl, z⟩
    | some r =>
      simp only
      cases ht : vTs r with
      | false => exact ⟨.inl rfl, z⟩
      | true =>
        simp only [if_true]
        cases hd : datB r with
        | false => exact ⟨.inr rfl, z⟩
        | true =>
          refine ⟨.inl rfl, ?_, sgA_one _ _ _ _ _⟩
          simp only [datB, Bool.and_eq_true, decide_eq_true_eq] at hd
          exact sgA_size (by simp [sS, hd.2.2.1])

set_option maxRecDepth 100000 in
set_option maxHeartbeats 6400000 in
theorem openMessage_any (v : Value) (l : List UInt8) (w : World) (h : BySl w v l) (hl : l.length ≤ 1048576) :
    Calls Try.prog 12 #[v] w (OmPost (triN l) w) := by
  have kZ := blk_new w opZ 47
  have hB0 := (Below.refl w.heap.size w).alloc (Nat.le_refl _) (.cells opZ 47)
  have hdh := implDecodeHead_any v l _ (h.below hB0) hl
  have hde := fun W (hW : Below w.heap.size w W) => implDecode_one v l W (h.below hW) hl
  obtain ⟨av, cv, rfl⟩ : ∃ a c, v = .slice a l.length c := by obtain ⟨_, a, c, e, _⟩ := h; exact ⟨a, c, e⟩
  obtain ⟨TR, hTR⟩ : ∃ R, R = triN l := ⟨_, rfl⟩
  rw [← hTR]
  rw [triN] at hTR
  clear h
  simp only [opZ] at kZ hB0 hdh
  by_cases h12 : l.length < 12
  · rw [if_pos (.inl h12)] at hTR
    subst hTR
    rw [dhV, if_neg (by omega)] at hdh
    simp only [hd0, ct0] at hdh
    clear hde
    go_enter Try.func12, Try.ntmps12
    go_wp2_with fail
    refine hdh.mono ?_
    rintro e w1 ⟨rfl, b1⟩
    have hb1 := Nm.below_two hB0 b1
    have hb2 := (hb1.alloc hb1.size (.cells #[.int .i64 0, .bool false, .int .i64 0, .bool false, .bool false, .bool false, .bool false, .bool false, .bool false, .bool false, .int .i64 0] 28)).alloc (hb1.alloc hb1.size (.cells #[.int .i64 0, .bool false, .int .i64 0, .bool false, .bool false, .bool false, .bool false, .bool false, .bool false, .bool false, .int .i64 0] 28)).size (.cells #[.int .i64 0, .int .i64 0, .int .i64 0, .int .i64 0] 29)
    have k2 := blk_alloc (blk_alloc (blk_below kZ b1) (.cells #[.int .i64 0, .bool false, .int .i64 0, .bool false, .bool false, .bool false, .bool false, .bool false, .bool false, .bool false, .int .i64 0] 28)) (.cells #[.int .i64 0, .int .i64 0, .int .i64 0, .int .i64 0] 29)
    go_wp2_with ((refine wpList_store_blk (.tmp 2) (.tmp 25) 47 rfl rfl rfl w.heap.size _ _ k2 rfl rfl (by kernel_rfl) rfl (by kernel_rfl) ?_; intro wz kz oz))
    exact om_back kz rfl rfl (oz.below hb2 (Nat.le_refl _) hb2.size) rfl rfl
  · rw [dhV, if_pos (by omega)] at hdh
    simp only [hdA, ctA] at hdh
    cases hq : (n16 l 2).testBit 15 with
    | true =>
      rw [if_pos (.inr hq)] at hTR
      subst hTR
      rw [hq] at hdh
      clear hde
      go_enter Try.func12, Try.ntmps12
      go_wp2_with fail
      refine hdh.mono ?_
      rintro e w1 ⟨rfl, b1⟩
      have hb1 := Nm.below_two hB0 b1
      generalize n16 l 0 = d at *
      generalize n16 l 2 = f at *
      have hbH := hb1.alloc hb1.size (.cells #[.int .i64 (d : Int), .bool true, .int .i64 ((f / 2048 % 16 : Nat) : Int), .bool (f.testBit 10), .bool (f.testBit 9), .bool (f.testBit 8), .bool (f.testBit 7), .bool (f.testBit 6), .bool (f.testBit 5), .bool (f.testBit 4), .int .i64 ((f % 16 : Nat) : Int)] 28)
      have hb2 := hbH.alloc hbH.size (.cells #[.int .i64 (n16 l 4 : Int), .int .i64 (n16 l 6 : Int), .int .i64 (n16 l 8 : Int), .int .i64 (n16 l 10 : Int)] 29)
      have k2 := blk_alloc (blk_alloc (blk_below kZ b1) (.cells #[.int .i64 (d : Int), .bool true, .int .i64 ((f / 2048 % 16 : Nat) : Int), .bool (f.testBit 10), .bool (f.testBit 9), .bool (f.testBit 8), .bool (f.testBit 7), .bool (f.testBit 6), .bool (f.testBit 5), .bool (f.testBit 4), .int .i64 ((f % 16 : Nat) : Int)] 28)) (.cells #[.int .i64 (n16 l 4 : Int), .int .i64 (n16 l 6 : Int), .int .i64 (n16 l 8 : Int), .int .i64 (n16 l 10 : Int)] 29)
      go_wp2_with ((refine wpList_store_blk (.tmp 2) (.tmp 25) 47 rfl rfl rfl w.heap.size _ _ k2 rfl rfl (by kernel_rfl) rfl (by kernel_rfl) ?_; intro wz kz oz))
      exact om_back kz rfl rfl (oz.below hb2 (Nat.le_refl _) hb2.size) rfl rfl
    | false =>
      rw [if_neg (by rw [hq]; simp; omega)] at hTR
      rw [hq] at hdh
      have hfs0 := fsV_two (msO l).m
      have HT : Hid (TR = if (msO l).c ≠ 0 then 2 else if (msO l).m.qs.length = 1 ∧ (fsV (msO l).m).2.2 = 0 then (match edR (mg1 (msO l).d (msO l).f (msO l).m) with
          | none => 2
          | some E => triE (n16 l 2 / 2048 % 16) E.ver) else 2) := by
        show _ = _
        rw [hTR]
        cases hm : msgS l using Rs.elim with
        | bad c =>
          have hO : msO l = ⟨0, 0, ⟨[], [], [], []⟩, c⟩ := by rw [msO, hm]
          rw [hO, if_pos (code_bad hm)]
        | ok m p =>
          have hO : msO l = ⟨n16 l 0, n16 l 2, m, 0⟩ := by rw [msO, hm]
          rw [hO, if_neg (by simp)]
          rfl
      obtain ⟨g1, g2, g3, g4⟩ := msO_lens l
      clear hTR hq
      go_enter Try.func12, Try.ntmps12
      go_wp2_with fail
      refine hdh.mono ?_
      rintro e w1 ⟨rfl, b1⟩
      have hb1 := Nm.below_two hB0 b1
      have kZ1 := blk_below kZ b1
      generalize n16 l 0 = d at *
      generalize n16 l 2 = f at *
      generalize f / 2048 % 16 = OP at *
      have hbH := hb1.alloc hb1.size (.cells #[.int .i64 (d : Int), .bool false, .int .i64 (OP : Int), .bool (f.testBit 10), .bool (f.testBit 9), .bool (f.testBit 8), .bool (f.testBit 7), .bool (f.testBit 6), .bool (f.testBit 5), .bool (f.testBit 4), .int .i64 ((f % 16 : Nat) : Int)] 28)
      have hb2 := hbH.alloc hbH.size (.cells #[.int .i64 (n16 l 4 : Int), .int .i64 (n16 l 6 : Int), .int .i64 (n16 l 8 : Int), .int .i64 (n16 l 10 : Int)] 29)
      have kH2 := blk_alloc (blk_new w1 #[.int .i64 (d : Int), .bool false, .int .i64 (OP : Int), .bool (f.testBit 10), .bool (f.testBit 9), .bool (f.testBit 8), .bool (f.testBit 7), .bool (f.testBit 6), .bool (f.testBit 5), .bool (f.testBit 4), .int .i64 ((f % 16 : Nat) : Int)] 28) (.cells #[.int .i64 (n16 l 4 : Int), .int .i64 (n16 l 6 : Int), .int .i64 (n16 l 8 : Int), .int .i64 (n16 l 10 : Int)] 29)
      have kZ2 := blk_alloc (blk_alloc kZ1 (.cells #[.int .i64 (d : Int), .bool false, .int .i64 (OP : Int), .bool (f.testBit 10), .bool (f.testBit 9), .bool (f.testBit 8), .bool (f.testBit 7), .bool (f.testBit 6), .bool (f.testBit 5), .bool (f.testBit 4), .int .i64 ((f % 16 : Nat) : Int)] 28)) (.cells #[.int .i64 (n16 l 4 : Int), .int .i64 (n16 l 6 : Int), .int .i64 (n16 l 8 : Int), .int .i64 (n16 l 10 : Int)] 29)
      clear hdh b1 kZ hB0 kZ1 hb1 hbH
      go_wp2_with fail
      refine (hde _ hb2).mono ?_
      rintro e w3 ⟨b3, q, a, u, x, rfl, hL⟩
      have hb3 := Nm.below_two hb2 b3
      have kH3 := blk_below kH2 b3
      have kZ3 := blk_below kZ2 b3
      clear hde b3 hb2 kH2 kZ2
      generalize (msO l).d = D at *
      generalize (msO l).f = F at *
      generalize (msO l).c = C at *
      generalize (msO l).m = M at *
      obtain ⟨x1, y1, rfl⟩ := row_val hL.rq
      obtain ⟨x2, y2, rfl⟩ := row_val hL.ra
      obtain ⟨x3, y3, rfl⟩ := row_val hL.ru
      obtain ⟨x4, y4, rfl⟩ := row_val hL.rx
      have bA := (Below.refl w3.heap.size w3).alloc (Nat.le_refl _) (.cells (msA D F (.slice x1 M.qs.length y1) (.slice x2 M.an.length y2) (.slice x3 M.au.length y3) (.slice x4 M.ex.length y4)) 35)
      have kM := blk_new w3 (msA D F (.slice x1 M.qs.length y1) (.slice x2 M.an.length y2) (.slice x3 M.au.length y3) (.slice x4 M.ex.length y4)) 35
      have hbA := Nm.below_two hb3 bA
      have kHA := blk_below kH3 bA
      have kZA := blk_below kZ3 bA
      have hR := hL.rd.below bA
      have hre := (implReadEdns_any (mg1 D F M) _ _ _ _ _ (mrow_1 (d := D) (f := F) hR) ⟨by simp [mg1]; omega, by simp [mg1]; omega, by simp [mg1]; omega⟩ (by
        intro r hr ht
        simp only [mg1, List.mem_map] at hr
        obtain ⟨r', hr', rfl⟩ := hr
        have := g4 r' hr' (by simp only [rr1] at ht; omega)
        simp only [rr1, ba_size]
        omega)).mono (fun _ _ h => ed_flat h)
      rw [mgV_1] at hre
      have hfs := fun W (hW : LRd W M (.slice x1 M.qs.length y1) (.slice x2 M.an.length y2) (.slice x3 M.au.length y3) (.slice x4 M.ex.length y4)) => findSig_any D F M _ _ _ _ W hW ⟨g1, g2, g3⟩
      simp only [msA] at bA kM hbA kHA kZA hR hre hfs ⊢
      clear hL hb3 kH3 kZ3 g1 g2 g3 g4 bA
      obtain ⟨R, eR⟩ : ∃ R, R = edR (mg1 D F M) := ⟨_, rfl⟩
      rw [← eR] at hre HT
      obtain ⟨E, eE⟩ : ∃ E, E = R.getD ed0 := ⟨_, rfl⟩
      obtain ⟨EC, eEC⟩ : ∃ c : Int, c = if R.isSome then 0 else 32 := ⟨_, rfl⟩
      rw [← eE, ← eEC] at hre
      have HT2 : Hid (TR = if C ≠ 0 ∨ M.qs.length ≠ 1 ∨ EC ≠ 0 ∨ (fsV M).2.2 ≠ 0 then 2 else triE OP E.ver) := by
        show _ = _
        rw [HT.out]
        by_cases c1 : C ≠ 0
        · rw [if_pos c1, if_pos (.inl c1)]
        · rw [if_neg c1]
          by_cases c2 : M.qs.length = 1
          · by_cases c3 : (fsV M).2.2 = 0
            · rw [if_pos ⟨c2, c3⟩]
              cases R with
              | none => rw [if_pos (.inr (.inr (.inl (by rw [eEC]; decide))))]
              | some E' =>
                rw [if_neg (by rw [eEC]; simp; exact ⟨by omega, by omega, c3⟩), eE]
                rfl
            · rw [if_neg (fun h => c3 h.2), if_pos (.inr (.inr (.inr c3)))]
          · rw [if_neg (fun h => c2 h.1), if_pos (.inr (.inl c2))]
      clear HT eR eE eEC
      obtain ⟨hsc, hsz, hson⟩ := hfs0
      generalize (fsV M).1 = S1 at *
      generalize (fsV M).2.1 = S2 at *
      generalize (fsV M).2.2 = SC at *
      have hz36 : ∀ W, (zeroValue 73).run Try.prog W = .ok (.agg sg0) W := by
        have := zero_of_info (P := Try.prog) (t := 73) (v := .agg sg0) (n := 36) (by kernel_rfl)
        exact this.1
      have HS0 := Nm.hide sg0_size
      have HSZ := Nm.hide hsz
      have HSI := Nm.hide (sgI_info S1 hsz)
      generalize sg0 = S0 at *
      clear hsz
      go_upto_region 6 with (first
        | (refine wpList_load_blk (.tmp 6) 35 rfl rfl w3.heap.size _ _ kM rfl Try.underlying35 rfl (by kernel_rfl) ?_)
        | (go_at_call 27; refine hre.mono ?_; rintro e w5 ⟨⟨ea, en, ec, rfl⟩, b5⟩; obtain ⟨pr, sz, vr, fl, os⟩ := E; simp only [edC]; clear hre))
      have bE := (Below.refl w5.heap.size w5).alloc (Nat.le_refl _) (.cells #[.bool pr, .int .i64 sz, .int .i64 vr, .int .i64 fl, .slice ea en ec] 40)
      have b5E := Nm.below_two b5 bE
      have kE5 := blk_new w5 #[.bool pr, .int .i64 sz, .int .i64 vr, .int .i64 fl, .slice ea en ec] 40
      have kM5 := blk_below kM b5E
      have kH5 := blk_below kHA b5E
      have kZ5 := blk_below kZA b5E
      have hb5 := Nm.below_two hbA b5E
      have hfs5 := hfs _ (hR.below b5E)
      clear b5 bE b5E kM kHA kZA hbA hfs hR
      go_cut [9, 10, 11] from 13 (fun s9 s10 s11 wc => ∃ gS, s9 = .pointer (some ⟨gS, 0, none⟩) ∧ s10 = .bool S2 ∧ s11 = .int .i64 SC ∧ Blk wc w.heap.size #[.int .i64 0, .int .i64 0, .bool false, .int .i64 0, .bool false, .bool false, .bool false, .bool false, .bool false, .bool false, .bool false, .int .i64 0, .int .i64 0, .bool false, .int .i64 0, .bool false, .bool false, .bool false, .bool false, .bool false, .bool false, .bool false, .int .i64 0, .slice none 0 0, .slice none 0 0, .slice none 0 0, .slice none 0 0, .bool false, .int .i64 0, .int .i64 0, .int .i64 0, .slice none 0 0] 47 ∧ Blk wc w1.heap.size #[.int .i64 (d : Int), .bool false, .int .i64 (OP : Int), .bool (f.testBit 10), .bool (f.testBit 9), .bool (f.testBit 8), .bool (f.testBit 7), .bool (f.testBit 6), .bool (f.testBit 5), .bool (f.testBit 4), .int .i64 ((f % 16 : Nat) : Int)] 28 ∧ Blk wc w3.heap.size #[.int .i64 (D : Int), .bool (F.testBit 15), .int .i64 ((F / 2048 % 16 : Nat) : Int), .bool (F.testBit 10), .bool (F.testBit 9), .bool (F.testBit 8), .bool (F.testBit 7), .bool (F.testBit 6), .bool (F.testBit 5), .bool (F.testBit 4), .int .i64 ((F % 16 : Nat) : Int), .slice x1 M.qs.length y1, .slice x2 M.an.length y2, .slice x3 M.au.length y3, .slice x4 M.ex.length y4] 35 ∧ Blk wc w5.heap.size #[.bool pr, .int .i64 sz, .int .i64 vr, .int .i64 fl, .slice ea en ec] 40 ∧ Below w.heap.size w wc)
      case first =>
        go_wp2_with (refine wpList_load_blk (.tmp 6) 35 rfl rfl w3.heap.size _ _ kM5 rfl Try.underlying35 rfl (by kernel_rfl) ?_)
        refine hfs5.mono ?_
        rintro e w6 ⟨rfl, b6⟩
        have kE6 := blk_alloc (blk_below kE5 b6) (.cells S0 73)
        have kM6 := blk_alloc (blk_below kM5 b6) (.cells S0 73)
        have kH6 := blk_alloc (blk_below kH5 b6) (.cells S0 73)
        have kZ6 := blk_alloc (blk_below kZ5 b6) (.cells S0 73)
        have hb6 := Nm.below_two hb5 b6
        have hb6A := hb6.alloc hb6.size (.cells S0 73)
        have hwE : w5.heap.size < w6.heap.size := blk_lt (blk_below kE5 b6)
        have hwM : w3.heap.size < w6.heap.size := blk_lt (blk_below kM5 b6)
        have hwH : w1.heap.size < w6.heap.size := blk_lt (blk_below kH5 b6)
        have hwZ : w.heap.size < w6.heap.size := blk_lt (blk_below kZ5 b6)
        clear hfs5 b6 hb5 kE5 kM5 kH5 kZ5 hb6
        go_wp2_with (refine wpList_store_blk (.tmp 9) (.tmp 39) 73 rfl rfl rfl w6.heap.size _ _ (blk_new _ _ _) rfl rfl HSI.out (HS0.out.trans HSZ.out.symm) hson ?_; intro w7 k7 o7)
        have kE7 := o7.blk kE6 (by omega)
        have kM7 := o7.blk kM6 (by omega)
        have kH7 := o7.blk kH6 (by omega)
        have kZ7 := o7.blk kZ6 (by omega)
        have hb7 := o7.below hb6A (by omega) hb6A.size
        go_meet
        case rel => exact ⟨_, rfl, rfl, rfl, kZ7, kH7, kM7, kE7, hb7⟩
      case rest =>
        clear hfs5 hb5 kE5 kM5 kH5 kZ5 hz36 hson HSI HS0 HSZ
        obtain ⟨gS, rfl, rfl, rfl, kZ7, kH7, kM7, kE7, hb7⟩ := hcut
        go_upto_region 7 with fail
        go_cut [12] from 13 (fun s12 wx => ∃ (xs : List Value) (g : Nat), xs.length = 31 ∧ xs.all (·.oneCell') = true ∧ s12 = .pointer (some ⟨g, 0, none⟩) ∧ w.heap.size < g ∧ w1.heap.size < g ∧ w3.heap.size < g ∧ w5.heap.size < g ∧ Blk wx g (.int .i64 0 :: xs).toArray 47 ∧ Blk wx w.heap.size #[.int .i64 0, .int .i64 0, .bool false, .int .i64 0, .bool false, .bool false, .bool false, .bool false, .bool false, .bool false, .bool false, .int .i64 0, .int .i64 0, .bool false, .int .i64 0, .bool false, .bool false, .bool false, .bool false, .bool false, .bool false, .bool false, .int .i64 0, .slice none 0 0, .slice none 0 0, .slice none 0 0, .slice none 0 0, .bool false, .int .i64 0, .int .i64 0, .int .i64 0, .slice none 0 0] 47 ∧ Blk wx w1.heap.size #[.int .i64 (d : Int), .bool false, .int .i64 (OP : Int), .bool (f.testBit 10), .bool (f.testBit 9), .bool (f.testBit 8), .bool (f.testBit 7), .bool (f.testBit 6), .bool (f.testBit 5), .bool (f.testBit 4), .int .i64 ((f % 16 : Nat) : Int)] 28 ∧ wx.cell? ⟨w3.heap.size, 11, none⟩ = some (.slice x1 M.qs.length y1) ∧ wx.cell? ⟨w5.heap.size, 2, none⟩ = some (.int .i64 vr) ∧ Below w.heap.size w wx)
        case first =>
          have lE := blk_lt kE7
          have lM := blk_lt kM7
          have lH := blk_lt kH7
          have lZ := blk_lt kZ7
          go_wp2_with (first
            | (refine wpList_load_blk (.tmp 3) 28 rfl rfl w1.heap.size _ _ kH7 rfl Try.underlying28 rfl (by kernel_rfl) ?_)
            | (refine wpList_load_blk (.tmp 6) 35 rfl rfl w3.heap.size _ _ kM7 rfl Try.underlying35 rfl (by kernel_rfl) ?_)
            | (refine wpList_load_blk (.tmp 7) 40 rfl rfl w5.heap.size _ _ kE7 rfl Try.underlying40 rfl (by kernel_rfl) ?_)
            | (refine wpList_store_blk (.tmp 12) (.tmp 45) 47 rfl rfl rfl wc.heap.size _ _ (blk_new _ _ _) rfl rfl (by kernel_rfl) rfl (by kernel_rfl) ?_; intro w8 k8 o8; have kZ8 := o8.blk (blk_alloc kZ7 _) (by omega); have kH8 := o8.blk (blk_alloc kH7 _) (by omega); have kM8 := o8.blk (blk_alloc kM7 _) (by omega); have kE8 := o8.blk (blk_alloc kE7 _) (by omega); have hb8 := o8.below (hb7.alloc hb7.size _) (by omega) (hb7.alloc hb7.size _).size; clear o8 kZ7 kH7 kM7 kE7 hb7))
          go_meet
          case rel => exact ⟨_, wc.heap.size, by rfl, by rfl, rfl, lZ, lH, lM, lE, k8, kZ8, kH8, (blk_cell kM8 11).trans rfl, (blk_cell kE8 2).trans rfl, hb8⟩
        case rest =>
          clear kZ7 kH7 kM7 kE7 hb7
          obtain ⟨xs, g, hxl, hxo, rfl, lZ, lH, lM, lE, kO, kZ, kH, cM, cE, hb⟩ := hcut
          have cH := (blk_cell kH 2).trans rfl
          by_cases c1 : C ≠ 0
          · obtain rfl : TR = 2 := by rw [HT2.out, if_pos (.inl c1)]
            have e1 : (C != 0) = true := by simpa using c1
            clear HT2 hsc c1 kO
            go_wp2_with (first
              | (refine wpList_load_blk (.tmp 3) 28 rfl rfl w1.heap.size _ _ kH rfl Try.underlying28 rfl (by kernel_rfl) ?_)
              | (refine wpList_store_blk (.tmp 2) (.tmp 65) 47 rfl rfl rfl w.heap.size _ _ kZ rfl rfl (by kernel_rfl) rfl (by kernel_rfl) ?_; intro wz kz oz))
            exact om_back kz rfl rfl (oz.below hb (Nat.le_refl _) hb.size) rfl rfl
          obtain rfl : C = 0 := by omega
          by_cases c2 : M.qs.length ≠ 1
          · obtain rfl : TR = 2 := by rw [HT2.out, if_pos (.inr (.inl c2))]
            have e2 : ((M.qs.length : Int) != 1) = true := by simp; omega
            clear HT2 hsc c1 c2 kO
            go_wp2_with (first
              | (refine wpList_load_blk (.tmp 3) 28 rfl rfl w1.heap.size _ _ kH rfl Try.underlying28 rfl (by kernel_rfl) ?_)
              | (refine wpList_store_blk (.tmp 2) (.tmp 65) 47 rfl rfl rfl w.heap.size _ _ kZ rfl rfl (by kernel_rfl) rfl (by kernel_rfl) ?_; intro wz kz oz))
            exact om_back kz rfl rfl (oz.below hb (Nat.le_refl _) hb.size) rfl rfl
          have e2 : ((M.qs.length : Int) != 1) = false := by simp; omega
          by_cases c3 : EC ≠ 0
          · obtain rfl : TR = 2 := by rw [HT2.out, if_pos (.inr (.inr (.inl c3)))]
            have e3 : (EC != 0) = true := by simpa using c3
            clear HT2 hsc c1 c2 c3 kO
            go_wp2_with (first
              | (refine wpList_load_blk (.tmp 3) 28 rfl rfl w1.heap.size _ _ kH rfl Try.underlying28 rfl (by kernel_rfl) ?_)
              | (refine wpList_store_blk (.tmp 2) (.tmp 65) 47 rfl rfl rfl w.heap.size _ _ kZ rfl rfl (by kernel_rfl) rfl (by kernel_rfl) ?_; intro wz kz oz))
            exact om_back kz rfl rfl (oz.below hb (Nat.le_refl _) hb.size) rfl rfl
          obtain rfl : EC = 0 := by omega
          by_cases c4 : SC ≠ 0
          · obtain rfl : TR = 2 := by rw [HT2.out, if_pos (.inr (.inr (.inr c4)))]
            have e4 : (SC != 0) = true := by simpa using c4
            clear HT2 hsc c1 c2 c3 c4 kO
            go_wp2_with (first
              | (refine wpList_load_blk (.tmp 3) 28 rfl rfl w1.heap.size _ _ kH rfl Try.underlying28 rfl (by kernel_rfl) ?_)
              | (refine wpList_store_blk (.tmp 2) (.tmp 65) 47 rfl rfl rfl w.heap.size _ _ kZ rfl rfl (by kernel_rfl) rfl (by kernel_rfl) ?_; intro wz kz oz))
            exact om_back kz rfl rfl (oz.below hb (Nat.le_refl _) hb.size) rfl rfl
          obtain rfl : SC = 0 := by omega
          have HT3 : Hid (TR = triE OP vr) := by
            show _ = _
            rw [HT2.out, if_neg (by simp; omega)]
          clear HT2 hsc c1 c2 c3 c4
          have fO := blk_frozen kO 0
          have cO := (blk_cell kO 0).trans rfl
          by_cases o1 : OP ≠ 0 ∧ OP ≠ 5
          · obtain rfl : TR = 3 := by rw [HT3.out, triE, if_pos o1]
            have n0 : ((OP : Int) != 0) = true := by simp; omega
            have n5 : ((OP : Int) != 5) = true := by simp; omega
            clear HT3 o1
            have kO9 := blk_set kO 0 (.int .i64 3)
            have kZ9 : Blk (wc.setCell ⟨g, 0, none⟩ (.int .i64 3)) w.heap.size _ _ := blk_far kZ (by omega)
            have hb9 : Below w.heap.size w (wc.setCell ⟨g, 0, none⟩ (.int .i64 3)) := (Only.refl g wc).set.below hb (by omega) hb.size
            simp only [List.setIfInBounds_toArray, List.set_cons_zero] at kO9
            have HJi : Hid ((Try.prog.info? 47).map (·.size) = some (Value.int .i64 3 :: xs).toArray.size) := by show _ = _; rw [List.size_toArray, List.length_cons, hxl]; kernel_rfl
            have HN : Hid ((Value.int .i64 3 :: xs).toArray.size = 32) := by show _ = _; rw [List.size_toArray, List.length_cons, hxl]
            have HA : Hid ((Value.int .i64 3 :: xs).toArray.all (·.oneCell') = true) := by show _ = _; rw [List.all_toArray, List.all_cons, hxo]; rfl
            have HXL := Nm.hide hxl
            clear kO kZ hb kH hxl hxo
            go_wp2_with (first
              | (refine wpList_load_blk (.tmp 12) 47 rfl rfl g _ _ kO9 rfl Try.underlying47 rfl HJi.out ?_)
              | (refine wpList_store_blk (.tmp 2) (.tmp 86) 47 rfl rfl rfl w.heap.size _ _ kZ9 rfl rfl HJi.out HN.out.symm HA.out ?_; intro wz kz oz))
            exact om_back kz rfl HXL.out (oz.below hb9 (Nat.le_refl _) hb9.size) rfl rfl
          by_cases o2 : 0 < vr
          · obtain rfl : TR = 4 := by rw [HT3.out, triE, if_neg o1, if_pos o2]
            clear HT3
            by_cases o3 : OP = 0
            · have n0 : ((OP : Int) != 0) = false := by simp; omega
              clear o1 o3
              have kO9 := blk_set kO 0 (.int .i64 4)
              have kZ9 : Blk (wc.setCell ⟨g, 0, none⟩ (.int .i64 4)) w.heap.size _ _ := blk_far kZ (by omega)
              have hb9 : Below w.heap.size w (wc.setCell ⟨g, 0, none⟩ (.int .i64 4)) := (Only.refl g wc).set.below hb (by omega) hb.size
              simp only [List.setIfInBounds_toArray, List.set_cons_zero] at kO9
              have HJi : Hid ((Try.prog.info? 47).map (·.size) = some (Value.int .i64 4 :: xs).toArray.size) := by show _ = _; rw [List.size_toArray, List.length_cons, hxl]; kernel_rfl
              have HN : Hid ((Value.int .i64 4 :: xs).toArray.size = 32) := by show _ = _; rw [List.size_toArray, List.length_cons, hxl]
              have HA : Hid ((Value.int .i64 4 :: xs).toArray.all (·.oneCell') = true) := by show _ = _; rw [List.all_toArray, List.all_cons, hxo]; rfl
              have HXL := Nm.hide hxl
              clear kO kZ hb kH hxl hxo
              go_wp2_with (first
                | (refine wpList_load_blk (.tmp 12) 47 rfl rfl g _ _ kO9 rfl Try.underlying47 rfl HJi.out ?_)
                | (refine wpList_store_blk (.tmp 2) (.tmp 86) 47 rfl rfl rfl w.heap.size _ _ kZ9 rfl rfl HJi.out HN.out.symm HA.out ?_; intro wz kz oz))
              exact om_back kz rfl HXL.out (oz.below hb9 (Nat.le_refl _) hb9.size) rfl rfl
            · have n0 : ((OP : Int) != 0) = true := by simp; omega
              have n5 : ((OP : Int) != 5) = false := by simp; omega
              clear o1 o3
              have kO9 := blk_set kO 0 (.int .i64 4)
              have kZ9 : Blk (wc.setCell ⟨g, 0, none⟩ (.int .i64 4)) w.heap.size _ _ := blk_far kZ (by omega)
              have hb9 : Below w.heap.size w (wc.setCell ⟨g, 0, none⟩ (.int .i64 4)) := (Only.refl g wc).set.below hb (by omega) hb.size
              simp only [List.setIfInBounds_toArray, List.set_cons_zero] at kO9
              have HJi : Hid ((Try.prog.info? 47).map (·.size) = some (Value.int .i64 4 :: xs).toArray.size) := by show _ = _; rw [List.size_toArray, List.length_cons, hxl]; kernel_rfl
              have HN : Hid ((Value.int .i64 4 :: xs).toArray.size = 32) := by show _ = _; rw [List.size_toArray, List.length_cons, hxl]
              have HA : Hid ((Value.int .i64 4 :: xs).toArray.all (·.oneCell') = true) := by show _ = _; rw [List.all_toArray, List.all_cons, hxo]; rfl
              have HXL := Nm.hide hxl
              clear kO kZ hb kH hxl hxo
              go_wp2_with (first
                | (refine wpList_load_blk (.tmp 12) 47 rfl rfl g _ _ kO9 rfl Try.underlying47 rfl HJi.out ?_)
                | (refine wpList_store_blk (.tmp 2) (.tmp 86) 47 rfl rfl rfl w.heap.size _ _ kZ9 rfl rfl HJi.out HN.out.symm HA.out ?_; intro wz kz oz))
              exact om_back kz rfl HXL.out (oz.below hb9 (Nat.le_refl _) hb9.size) rfl rfl
          · by_cases o3 : OP = 0
            · obtain rfl : TR = 6 := by rw [HT3.out, triE, if_neg o1, if_neg o2, if_neg (by omega)]
              have n0 : ((OP : Int) != 0) = false := by simp; omega
              have n5 : ((OP : Int) == 5) = false := by simp; omega
              have n6 : ¬ (OP : Int) = 5 := by omega
              clear o1 o3 HT3
              have kO9 := blk_set kO 0 (.int .i64 6)
              have kZ9 : Blk (wc.setCell ⟨g, 0, none⟩ (.int .i64 6)) w.heap.size _ _ := blk_far kZ (by omega)
              have hb9 : Below w.heap.size w (wc.setCell ⟨g, 0, none⟩ (.int .i64 6)) := (Only.refl g wc).set.below hb (by omega) hb.size
              simp only [List.setIfInBounds_toArray, List.set_cons_zero] at kO9
              have HJi : Hid ((Try.prog.info? 47).map (·.size) = some (Value.int .i64 6 :: xs).toArray.size) := by show _ = _; rw [List.size_toArray, List.length_cons, hxl]; kernel_rfl
              have HN : Hid ((Value.int .i64 6 :: xs).toArray.size = 32) := by show _ = _; rw [List.size_toArray, List.length_cons, hxl]
              have HA : Hid ((Value.int .i64 6 :: xs).toArray.all (·.oneCell') = true) := by show _ = _; rw [List.all_toArray, List.all_cons, hxo]; rfl
              have HXL := Nm.hide hxl
              clear kO kZ hb kH hxl hxo
              go_wp2_with (first
                | (refine wpList_load_blk (.tmp 12) 47 rfl rfl g _ _ kO9 rfl Try.underlying47 rfl HJi.out ?_)
                | (refine wpList_store_blk (.tmp 2) (.tmp 86) 47 rfl rfl rfl w.heap.size _ _ kZ9 rfl rfl HJi.out HN.out.symm HA.out ?_; intro wz kz oz))
              exact om_back kz rfl HXL.out (oz.below hb9 (Nat.le_refl _) hb9.size) rfl rfl
            · obtain rfl : TR = 5 := by rw [HT3.out, triE, if_neg o1, if_neg o2, if_pos (by omega)]
              have n0 : ((OP : Int) != 0) = true := by simp; omega
              have n5 : ((OP : Int) != 5) = false := by simp; omega
              have n6 : ((OP : Int) == 5) = true := by simp; omega
              have n7 : decide ((OP : Int) = 5) = true := by simp; omega
              clear o1 o3 HT3
              have kO9 := blk_set kO 0 (.int .i64 5)
              have kZ9 : Blk (wc.setCell ⟨g, 0, none⟩ (.int .i64 5)) w.heap.size _ _ := blk_far kZ (by omega)
              have hb9 : Below w.heap.size w (wc.setCell ⟨g, 0, none⟩ (.int .i64 5)) := (Only.refl g wc).set.below hb (by omega) hb.size
              simp only [List.setIfInBounds_toArray, List.set_cons_zero] at kO9
              have HJi : Hid ((Try.prog.info? 47).map (·.size) = some (Value.int .i64 5 :: xs).toArray.size) := by show _ = _; rw [List.size_toArray, List.length_cons, hxl]; kernel_rfl
              have HN : Hid ((Value.int .i64 5 :: xs).toArray.size = 32) := by show _ = _; rw [List.size_toArray, List.length_cons, hxl]
              have HA : Hid ((Value.int .i64 5 :: xs).toArray.all (·.oneCell') = true) := by show _ = _; rw [List.all_toArray, List.all_cons, hxo]; rfl
              have HXL := Nm.hide hxl
              clear kO kZ hb kH hxl hxo
              go_wp2_with (first
                | (refine wpList_load_blk (.tmp 12) 47 rfl rfl g _ _ kO9 rfl Try.underlying47 rfl HJi.out ?_)
                | (refine wpList_store_blk (.tmp 2) (.tmp 86) 47 rfl rfl rfl w.heap.size _ _ kZ9 rfl rfl HJi.out HN.out.symm HA.out ?_; intro wz kz oz))
              exact om_back kz rfl HXL.out (oz.below hb9 (Nat.le_refl _) hb9.size) rfl rfl
end Go.Proofs.Ytilcbdhcojgcbaa
