import Derived.Test.YtddabafaejahbaaGreatDoorJRdB
import Derived.Test.YtddabafaejahbaaGreatDoorJCutM
import Derived.Test.YtddabafaejahbaaGreatDoorJTxt6A
import Derived.Test.YtddabafaejahbaaGreatDoorJIBg
import Derived.Test.YtddabafaejahbaaGreatDoorJRv1
import Derived.Test.YtddabafaejahbaaGreatDoorJMath
/- impl.textForms by its contract. -/
namespace Go.Proofs.YtddabafaejahbaaGreatDoor
open Go.RowKit
set_option linter.unusedVariables false

theorem fv_openR {P : Program} {f : FuncId} {args : Array Value} {W : World} {K : Nat} (h : Calls P f args W fun e w' => (∃ v, e = .returned v ∧ RFv w' K v) ∧ Below W.heap.size W w') :
    Calls P f args W fun e w' => (∃ g x y F u, e = .returned (.agg #[.func g x y, .func F #[] u]) ∧ RVal w' K (.func g x y)) ∧ Below W.heap.size W w' := by
  refine h.mono ?_
  rintro e w' ⟨⟨v, rfl, hv⟩, hb⟩
  obtain ⟨g, x, y, F, u, rfl, hw⟩ := hv
  exact ⟨⟨g, x, y, F, u, rfl, hw⟩, hb⟩
theorem fv_slotR {P : Program} {f : FuncId} {args : Array Value} {W : World} {K : Nat} (h : Calls P f args W fun e w' => (∃ v, e = .returned v ∧ RFv w' K v) ∧ Below W.heap.size W w') :
    Calls P f args W fun e w' => (∃ v, e = .returned v ∧ SVr w' (.inl K) v) ∧ Below W.heap.size W w' := by
  refine h.mono ?_
  rintro e w' ⟨⟨v, rfl, hv⟩, hb⟩
  exact ⟨⟨v, rfl, hv⟩, hb⟩

theorem m_a4R (w : World) : Calls Tryz.prog 63 #[.int .i64 4, .func (.func 64) #[] #[], .func (.func 65) #[] #[]] w fun e w' => (∃ v, e = .returned v ∧ SVr w' (.inl 4) v) ∧ Below w.heap.size w w' := fv_slotR (addressWordR4_any w)
theorem m_a6R (w : World) : Calls Tryz.prog 63 #[.int .i64 16, .func (.func 66) #[] #[], .func (.func 67) #[] #[]] w fun e w' => (∃ v, e = .returned v ∧ SVr w' (.inl 5) v) ∧ Below w.heap.size w w' := fv_slotR (addressWordR6_any w)
theorem m_n4R (w : World) : Calls Tryz.prog 60 #[.int .i64 4] w fun e w' => (∃ v, e = .returned v ∧ SVr w' (.inl 11) v) ∧ Below w.heap.size w w' := fv_slotR (numberWordR_any 4 w)
theorem m_n1R (w : World) : Calls Tryz.prog 60 #[.int .i64 1] w fun e w' => (∃ v, e = .returned v ∧ SVr w' (.inl 8) v) ∧ Below w.heap.size w w' := fv_slotR (numberWordR_any 1 w)
theorem m_tagR (w : World) : Calls Tryz.prog 69 #[] w fun e w' => (∃ v, e = .returned v ∧ SVr w' (.inl 2) v) ∧ Below w.heap.size w w' := fv_slotR (tagWordR_any w)
theorem m_restR (w : World) : Calls Tryz.prog 70 #[] w fun e w' => (∃ v, e = .returned v ∧ SVr w' (.inl 3) v) ∧ Below w.heap.size w w' := fv_slotR (restWordR_any w)

theorem four_formsR (w : World) (T : TypeId) (a1 c1 a2 c2 a3 c3 a4 c4 : Value) : ∀ W, W = ((((w.alloc (.cells #[a1, c1] T)).alloc (.cells #[a2, c2] T)).alloc (.cells #[a3, c3] T)).alloc (.cells #[a4, c4] T)) →
    (W.cell? ⟨w.heap.size, 0, none⟩ = some a1 ∧ W.cell? ⟨w.heap.size, 1, none⟩ = some c1) ∧ (W.cell? ⟨w.heap.size + 1, 0, none⟩ = some a2 ∧ W.cell? ⟨w.heap.size + 1, 1, none⟩ = some c2) ∧
    (W.cell? ⟨w.heap.size + 1 + 1, 0, none⟩ = some a3 ∧ W.cell? ⟨w.heap.size + 1 + 1, 1, none⟩ = some c3) ∧ (W.cell? ⟨w.heap.size + 1 + 1 + 1, 0, none⟩ = some a4 ∧ W.cell? ⟨w.heap.size + 1 + 1 + 1, 1, none⟩ = some c4) := by
  rintro W rfl
  have s1 : (w.alloc (.cells #[a1, c1] T)).heap.size = w.heap.size + 1 := by simp
  have s2 : ((w.alloc (.cells #[a1, c1] T)).alloc (.cells #[a2, c2] T)).heap.size = w.heap.size + 1 + 1 := by simp
  have s3 : (((w.alloc (.cells #[a1, c1] T)).alloc (.cells #[a2, c2] T)).alloc (.cells #[a3, c3] T)).heap.size = w.heap.size + 1 + 1 + 1 := by simp
  have kk : ∀ (V : World) (o : Obj), KeptR V (V.alloc o) := fun V o => keptR_below ((Below.refl _ _).alloc (Nat.le_refl _) o)
  have n1 := fun i => World.cell?_alloc_new w #[a1, c1] T i
  have n2 := fun i => World.cell?_alloc_new (w.alloc (.cells #[a1, c1] T)) #[a2, c2] T i
  have n3 := fun i => World.cell?_alloc_new ((w.alloc (.cells #[a1, c1] T)).alloc (.cells #[a2, c2] T)) #[a3, c3] T i
  have n4 := fun i => World.cell?_alloc_new (((w.alloc (.cells #[a1, c1] T)).alloc (.cells #[a2, c2] T)).alloc (.cells #[a3, c3] T)) #[a4, c4] T i
  rw [s1] at n2
  rw [s2] at n3
  rw [s3] at n4
  exact ⟨⟨kk _ _ _ _ (kk _ _ _ _ (kk _ _ _ _ (n1 0))), kk _ _ _ _ (kk _ _ _ _ (kk _ _ _ _ (n1 1)))⟩, ⟨kk _ _ _ _ (kk _ _ _ _ (n2 0)), kk _ _ _ _ (kk _ _ _ _ (n2 1))⟩, ⟨kk _ _ _ _ (n3 0), kk _ _ _ _ (n3 1)⟩, ⟨n4 0, n4 1⟩⟩

theorem m_ntR (w : World) : Calls Tryz.prog 71 #[] w fun e w' => (∃ v, e = .returned v ∧ SVr w' (.inr (.inr (.inr true))) v) ∧ Below w.heap.size w w' := by
  refine (nameAndTypesR_any w).mono ?_
  rintro e w' ⟨⟨gc, b, F, y, rfl, hc, hc2⟩, hb⟩
  exact ⟨⟨_, rfl, gc, b, F, y, rfl, hc, hc2⟩, hb⟩

theorem none_listedR {n x : Nat} : ¬ (Array.replicate n false).getD x false = true := by
  rw [Array.getD_eq_getD_getElem?, Array.getElem?_replicate]
  split <;> simp

theorem region_goR {l : List Oper} {Q : Exit → Act → World → Prop} {id : Nat} {a : Act} {w : World} {b1 b2 b3 b4 : Nat} (hm : Tryz.prog.follows .mixedOrders = true) (hsz : l.length = 74) (hb : edgesBack l.toArray = true) (hA : AllFromR (GOR w.drew b1 b2 b3 b4 Q) 0 l)
    (hstart : TIR w.drew b1 b2 b3 b4 (Array.replicate 74 false) a w.drew)
    (hend : ∀ (a : Act) (w' : World) (r : Nat) (L : List (Int × Value)), a.defers = [] → a.tmps.size = 68 → a.tmps[0]? = some (.map (some r)) → IMap w' r L → (∀ p ∈ L, ∃ F, (p.1, F) ∈ formTabR ∧ TFr w' F p.2) → (∀ x ∈ insTabR, ∃ v, (x.2, v) ∈ L) → Below w.heap.size w w' → Q .normal a w') : (Code.region id l.toArray true).wp Tryz.prog Q a w := by
  have hz : l.toArray.size = 74 := by simpa using hsz
  refine wp_region_inv (fun listed a w' => TIR w.drew b1 b2 b3 b4 listed a w') hm (by rw [hz]; exact hstart) ?_ ?_
  · intro listed a w' i o hs ho hu hall hI
    have ho' : l[i]? = some o := by rw [← ho]; simp
    obtain ⟨hg, hG⟩ := all_getR l 0 i o hA ho'
    rw [Nat.zero_add] at hG
    refine wpOp_step ho (fun K' hK => ?_)
    rw [if_pos (by simp [Region.wanted, hg])]
    exact hG listed a w' (hs.trans hz) hu hall hI K' hK
  · intro listed a w' hs hr hI
    have hall := all_listed hb hs hr
    have hl : ∀ i, i < 74 → listed.getD i false = true := by
      intro i hi
      have h1 := hall i (by omega)
      rw [Array.getD_eq_getD_getElem?, Array.getElem?_eq_getElem (by omega)] at h1 ⊢
      simpa using h1
    obtain ⟨r, L, m1, m2, m3, m4, m5⟩ := hI.mp (hl 0 (by omega))
    have h0 := hI.asg (hl 73 (by omega))
    rw [m1] at h0
    exact hend a w' r L hI.df hI.sz h0 m3 m4 (fun x hx => (m5 x hx).2 (hl x.1 (by have := (ins_factsR hx).2.1; omega))) (show Below w.heap.size w w' from (Below.refl w.heap.size w).drew.trans hI.be)

set_option maxRecDepth 100000 in
set_option maxHeartbeats 3200000 in
theorem textForms_anyR (w : World) : Calls Tryz.prog 26 #[] w fun e w' => (∃ r L, e = .returned (.map (some r)) ∧ IMap w' r L ∧ (∀ p ∈ L, ∃ F, (p.1, F) ∈ formTabR ∧ TFr w' F p.2) ∧ ∀ x ∈ insTabR, ∃ v, (x.2, v) ∈ L) ∧ Below w.heap.size w w' := by
  have h0 := fun W => fv_openR (nameWordR_any W)
  have h1 := fun W => fv_openR (textWordR_any W)
  have h2 := fun W => fv_openR (numberWordR_any 2 W)
  have h3 := fun W => fv_openR (timeWordR_any W)
  rw [show ((2 : Nat) : Int) = 2 from rfl] at h2
  go_enter Tryz.func26, Tryz.ntmps26
  go_wp2_with (first | (go_at_call 58; refine (h0 _).mono ?_; rintro e w1 ⟨⟨g1, x1, y1, F1, u1, rfl, q1⟩, b1⟩) | (go_at_call 59; refine (h1 _).mono ?_; rintro e w2 ⟨⟨g2, x2, y2, F2, u2, rfl, q2⟩, b2⟩) | (go_at_call 60; refine (h2 _).mono ?_; rintro e w3 ⟨⟨g3, x3, y3, F3, u3, rfl, q3⟩, b3⟩) | (go_at_call 61; refine (h3 _).mono ?_; rintro e w4 ⟨⟨g4, x4, y4, F4, u4, rfl, q4⟩, b4⟩))
  have bA : Below w4.heap.size w4 ((((w4.alloc (.cells #[.func g1 x1 y1, .func F1 #[] u1] 113)).alloc (.cells #[.func g2 x2 y2, .func F2 #[] u2] 113)).alloc (.cells #[.func g3 x3 y3, .func F3 #[] u3] 113)).alloc (.cells #[.func g4 x4 y4, .func F4 #[] u4] 113)) := ((((Below.refl _ _).alloc (Nat.le_refl _) _).alloc (by simp) _).alloc (by simp; omega) _).alloc (by simp; omega) _
  have k4 := keptR_below bA
  have k3 := (keptR_below b4).trans k4
  have k2 := (keptR_below b3).trans k3
  have k1 := (keptR_below b2).trans k2
  obtain ⟨⟨z10, z11⟩, ⟨z20, z21⟩, ⟨z30, z31⟩, ⟨z40, z41⟩⟩ := four_formsR w4 113 (.func g1 x1 y1) (.func F1 #[] u1) (.func g2 x2 y2) (.func F2 #[] u2) (.func g3 x3 y3) (.func F3 #[] u3) (.func g4 x4 y4) (.func F4 #[] u4) _ rfl
  have c1 : FVcR ((((w4.alloc (.cells #[.func g1 x1 y1, .func F1 #[] u1] 113)).alloc (.cells #[.func g2 x2 y2, .func F2 #[] u2] 113)).alloc (.cells #[.func g3 x3 y3, .func F3 #[] u3] 113)).alloc (.cells #[.func g4 x4 y4, .func F4 #[] u4] 113)).drew w4.heap.size 0 := ⟨g1, x1, y1, F1, u1, z10, z11, q1.kept k1⟩
  have c2 : FVcR ((((w4.alloc (.cells #[.func g1 x1 y1, .func F1 #[] u1] 113)).alloc (.cells #[.func g2 x2 y2, .func F2 #[] u2] 113)).alloc (.cells #[.func g3 x3 y3, .func F3 #[] u3] 113)).alloc (.cells #[.func g4 x4 y4, .func F4 #[] u4] 113)).drew (w4.heap.size + 1) 1 := ⟨g2, x2, y2, F2, u2, z20, z21, q2.kept k2⟩
  have c3 : FVcR ((((w4.alloc (.cells #[.func g1 x1 y1, .func F1 #[] u1] 113)).alloc (.cells #[.func g2 x2 y2, .func F2 #[] u2] 113)).alloc (.cells #[.func g3 x3 y3, .func F3 #[] u3] 113)).alloc (.cells #[.func g4 x4 y4, .func F4 #[] u4] 113)).drew (w4.heap.size + 1 + 1) 9 := ⟨g3, x3, y3, F3, u3, z30, z31, q3.kept k3⟩
  have c4 : FVcR ((((w4.alloc (.cells #[.func g1 x1 y1, .func F1 #[] u1] 113)).alloc (.cells #[.func g2 x2 y2, .func F2 #[] u2] 113)).alloc (.cells #[.func g3 x3 y3, .func F3 #[] u3] 113)).alloc (.cells #[.func g4 x4 y4, .func F4 #[] u4] 113)).drew (w4.heap.size + 1 + 1 + 1) 6 := ⟨g4, x4, y4, F4, u4, z40, z41, q4.kept k4⟩
  have bw := Nm.below_two (Nm.below_two (Nm.below_two (Nm.below_two b1 b2) b3) b4) bA
  generalize ((((w4.alloc (.cells #[.func g1 x1 y1, .func F1 #[] u1] 113)).alloc (.cells #[.func g2 x2 y2, .func F2 #[] u2] 113)).alloc (.cells #[.func g3 x3 y3, .func F3 #[] u3] 113)).alloc (.cells #[.func g4 x4 y4, .func F4 #[] u4] 113)) = WW at *
  generalize w4.heap.size = B at *
  clear z10 z11 z20 z21 z30 z31 z40 z41 k1 k2 k3 k4 b1 b2 b3 b4 bA q1 q2 q3 q4 h0 h1 h2 h3
  refine region_goR (b1 := B) (b2 := B + 1) (b3 := B + 1 + 1) (b4 := B + 1 + 1 + 1) (by kernel_rfl) (by kernel_rfl) (by kernel_rfl) (all_appendR _ _ 0 ?_ ?_) ⟨rfl, rfl, rfl, rfl, rfl, rfl, Below.refl _ _, fun x hx h => absurd h none_listedR, fun h => absurd h none_listedR, fun _ _ h => absurd h none_listedR, fun h => absurd h none_listedR, fun h => absurd h none_listedR⟩ ?_
  · exact ⟨go_makeR rfl rfl rfl,
      go_mkR (d := 1) (s := .inl 4) rfl rfl rfl (List.mem_of_getElem? (i := 0) rfl) (fun a => by first | rfl | simp [Act.eval]) (fun w => by kernel_rfl) m_a4R,
      go_slice1R (d := 2) (d0 := 1) (k0 := 4) rfl rfl rfl (List.mem_of_getElem? (i := 1) rfl) (List.mem_of_getElem? (i := 0) rfl) (by kernel_rfl),
      go_justR (d := 3) (d0 := 2) (ks := [4]) rfl rfl rfl (List.mem_of_getElem? (i := 2) rfl) (List.mem_of_getElem? (i := 1) rfl) (by kernel_rfl),
      go_insR (d := 4) (d0 := 3) (x := 1) (F := (.inl [4])) rfl rfl rfl (List.mem_of_getElem? (i := 0) rfl) (List.mem_of_getElem? (i := 0) rfl) (by decide) (List.mem_of_getElem? (i := 2) rfl) (by kernel_rfl) (by kernel_rfl),
      go_mkR (d := 5) (s := .inl 5) rfl rfl rfl (List.mem_of_getElem? (i := 3) rfl) (fun a => by first | rfl | simp [Act.eval]) (fun w => by kernel_rfl) m_a6R,
      go_slice1R (d := 6) (d0 := 5) (k0 := 5) rfl rfl rfl (List.mem_of_getElem? (i := 4) rfl) (List.mem_of_getElem? (i := 3) rfl) (by kernel_rfl),
      go_justR (d := 7) (d0 := 6) (ks := [5]) rfl rfl rfl (List.mem_of_getElem? (i := 5) rfl) (List.mem_of_getElem? (i := 4) rfl) (by kernel_rfl),
      go_insR (d := 8) (d0 := 7) (x := 28) (F := (.inl [5])) rfl rfl rfl (List.mem_of_getElem? (i := 1) rfl) (List.mem_of_getElem? (i := 1) rfl) (by decide) (List.mem_of_getElem? (i := 5) rfl) (by kernel_rfl) (by kernel_rfl),
      go_loadR (d := 9) (K := 0) rfl rfl rfl (List.mem_of_getElem? (i := 6) rfl) (fun h => h.p1) c1,
      go_slice1R (d := 10) (d0 := 9) (k0 := 0) rfl rfl rfl (List.mem_of_getElem? (i := 7) rfl) (List.mem_of_getElem? (i := 6) rfl) (by kernel_rfl),
      go_justR (d := 11) (d0 := 10) (ks := [0]) rfl rfl rfl (List.mem_of_getElem? (i := 8) rfl) (List.mem_of_getElem? (i := 7) rfl) (by kernel_rfl),
      go_insR (d := 12) (d0 := 11) (x := 2) (F := (.inl [0])) rfl rfl rfl (List.mem_of_getElem? (i := 2) rfl) (List.mem_of_getElem? (i := 2) rfl) (by decide) (List.mem_of_getElem? (i := 8) rfl) (by kernel_rfl) (by kernel_rfl),
      go_loadR (d := 13) (K := 0) rfl rfl rfl (List.mem_of_getElem? (i := 9) rfl) (fun h => h.p1) c1,
      go_slice1R (d := 14) (d0 := 13) (k0 := 0) rfl rfl rfl (List.mem_of_getElem? (i := 10) rfl) (List.mem_of_getElem? (i := 9) rfl) (by kernel_rfl),
      go_justR (d := 15) (d0 := 14) (ks := [0]) rfl rfl rfl (List.mem_of_getElem? (i := 11) rfl) (List.mem_of_getElem? (i := 10) rfl) (by kernel_rfl),
      go_insR (d := 16) (d0 := 15) (x := 5) (F := (.inl [0])) rfl rfl rfl (List.mem_of_getElem? (i := 3) rfl) (List.mem_of_getElem? (i := 3) rfl) (by decide) (List.mem_of_getElem? (i := 11) rfl) (by kernel_rfl) (by kernel_rfl),
      go_loadR (d := 17) (K := 0) rfl rfl rfl (List.mem_of_getElem? (i := 12) rfl) (fun h => h.p1) c1,
      go_slice1R (d := 18) (d0 := 17) (k0 := 0) rfl rfl rfl (List.mem_of_getElem? (i := 13) rfl) (List.mem_of_getElem? (i := 12) rfl) (by kernel_rfl),
      go_justR (d := 19) (d0 := 18) (ks := [0]) rfl rfl rfl (List.mem_of_getElem? (i := 14) rfl) (List.mem_of_getElem? (i := 13) rfl) (by kernel_rfl),
      go_insR (d := 20) (d0 := 19) (x := 12) (F := (.inl [0])) rfl rfl rfl (List.mem_of_getElem? (i := 4) rfl) (List.mem_of_getElem? (i := 4) rfl) (by decide) (List.mem_of_getElem? (i := 14) rfl) (by kernel_rfl) (by kernel_rfl),
      go_loadR (d := 21) (K := 0) rfl rfl rfl (List.mem_of_getElem? (i := 15) rfl) (fun h => h.p1) c1,
      go_slice1R (d := 22) (d0 := 21) (k0 := 0) rfl rfl rfl (List.mem_of_getElem? (i := 16) rfl) (List.mem_of_getElem? (i := 15) rfl) (by kernel_rfl),
      go_justR (d := 23) (d0 := 22) (ks := [0]) rfl rfl rfl (List.mem_of_getElem? (i := 17) rfl) (List.mem_of_getElem? (i := 16) rfl) (by kernel_rfl),
      go_insR (d := 24) (d0 := 23) (x := 39) (F := (.inl [0])) rfl rfl rfl (List.mem_of_getElem? (i := 5) rfl) (List.mem_of_getElem? (i := 5) rfl) (by decide) (List.mem_of_getElem? (i := 17) rfl) (by kernel_rfl) (by kernel_rfl),
      go_loadR (d := 25) (K := 9) rfl rfl rfl (List.mem_of_getElem? (i := 18) rfl) (fun h => h.p3) c3,
      go_loadR (d := 26) (K := 0) rfl rfl rfl (List.mem_of_getElem? (i := 19) rfl) (fun h => h.p1) c1,
      go_slice2R (d := 27) (d0 := 25) (k0 := 9) (d1 := 26) (k1 := 0) rfl rfl rfl (List.mem_of_getElem? (i := 20) rfl) (List.mem_of_getElem? (i := 18) rfl) (List.mem_of_getElem? (i := 19) rfl) (by kernel_rfl) (by kernel_rfl),
      go_justR (d := 28) (d0 := 27) (ks := [9, 0]) rfl rfl rfl (List.mem_of_getElem? (i := 21) rfl) (List.mem_of_getElem? (i := 20) rfl) (by kernel_rfl),
      go_insR (d := 29) (d0 := 28) (x := 15) (F := (.inl [9, 0])) rfl rfl rfl (List.mem_of_getElem? (i := 6) rfl) (List.mem_of_getElem? (i := 6) rfl) (by decide) (List.mem_of_getElem? (i := 21) rfl) (by kernel_rfl) (by kernel_rfl),
      go_loadR (d := 30) (K := 0) rfl rfl rfl (List.mem_of_getElem? (i := 22) rfl) (fun h => h.p1) c1,
      go_loadR (d := 31) (K := 0) rfl rfl rfl (List.mem_of_getElem? (i := 23) rfl) (fun h => h.p1) c1,
      go_mkR (d := 32) (s := .inl 11) rfl rfl rfl (List.mem_of_getElem? (i := 24) rfl) (fun a => by simp [Act.eval]) (fun w => by kernel_rfl) m_n4R,
      go_loadR (d := 33) (K := 6) rfl rfl rfl (List.mem_of_getElem? (i := 25) rfl) (fun h => h.p4) c4,
      go_loadR (d := 34) (K := 6) rfl rfl rfl (List.mem_of_getElem? (i := 26) rfl) (fun h => h.p4) c4,
      go_loadR (d := 35) (K := 6) rfl rfl rfl (List.mem_of_getElem? (i := 27) rfl) (fun h => h.p4) c4,
      go_loadR (d := 36) (K := 6) rfl rfl rfl (List.mem_of_getElem? (i := 28) rfl) (fun h => h.p4) c4, trivial⟩
  · exact ⟨go_slice7R (d := 37) (d0 := 30) (k0 := 0) (d1 := 31) (k1 := 0) (d2 := 32) (k2 := 11) (d3 := 33) (k3 := 6) (d4 := 34) (k4 := 6) (d5 := 35) (k5 := 6) (d6 := 36) (k6 := 6) rfl rfl rfl (List.mem_of_getElem? (i := 29) rfl) (List.mem_of_getElem? (i := 22) rfl) (List.mem_of_getElem? (i := 23) rfl) (List.mem_of_getElem? (i := 24) rfl) (List.mem_of_getElem? (i := 25) rfl) (List.mem_of_getElem? (i := 26) rfl) (List.mem_of_getElem? (i := 27) rfl) (List.mem_of_getElem? (i := 28) rfl) (by kernel_rfl) (by kernel_rfl) (by kernel_rfl) (by kernel_rfl) (by kernel_rfl) (by kernel_rfl) (by kernel_rfl),
      go_justR (d := 38) (d0 := 37) (ks := [0, 0, 11, 6, 6, 6, 6]) rfl rfl rfl (List.mem_of_getElem? (i := 30) rfl) (List.mem_of_getElem? (i := 29) rfl) (by kernel_rfl),
      go_insR (d := 39) (d0 := 38) (x := 6) (F := (.inl [0, 0, 11, 6, 6, 6, 6])) rfl rfl rfl (List.mem_of_getElem? (i := 7) rfl) (List.mem_of_getElem? (i := 7) rfl) (by decide) (List.mem_of_getElem? (i := 30) rfl) (by kernel_rfl) (by kernel_rfl),
      go_loadR (d := 40) (K := 9) rfl rfl rfl (List.mem_of_getElem? (i := 31) rfl) (fun h => h.p3) c3,
      go_loadR (d := 41) (K := 9) rfl rfl rfl (List.mem_of_getElem? (i := 32) rfl) (fun h => h.p3) c3,
      go_loadR (d := 42) (K := 9) rfl rfl rfl (List.mem_of_getElem? (i := 33) rfl) (fun h => h.p3) c3,
      go_loadR (d := 43) (K := 0) rfl rfl rfl (List.mem_of_getElem? (i := 34) rfl) (fun h => h.p1) c1,
      go_slice4R (d := 44) (d0 := 40) (k0 := 9) (d1 := 41) (k1 := 9) (d2 := 42) (k2 := 9) (d3 := 43) (k3 := 0) rfl rfl rfl (List.mem_of_getElem? (i := 35) rfl) (List.mem_of_getElem? (i := 31) rfl) (List.mem_of_getElem? (i := 32) rfl) (List.mem_of_getElem? (i := 33) rfl) (List.mem_of_getElem? (i := 34) rfl) (by kernel_rfl) (by kernel_rfl) (by kernel_rfl) (by kernel_rfl),
      go_justR (d := 45) (d0 := 44) (ks := [9, 9, 9, 0]) rfl rfl rfl (List.mem_of_getElem? (i := 36) rfl) (List.mem_of_getElem? (i := 35) rfl) (by kernel_rfl),
      go_insR (d := 46) (d0 := 45) (x := 33) (F := (.inl [9, 9, 9, 0])) rfl rfl rfl (List.mem_of_getElem? (i := 8) rfl) (List.mem_of_getElem? (i := 8) rfl) (by decide) (List.mem_of_getElem? (i := 36) rfl) (by kernel_rfl) (by kernel_rfl),
      go_loadR (d := 47) (K := 1) rfl rfl rfl (List.mem_of_getElem? (i := 37) rfl) (fun h => h.p2) c2,
      go_manyR (d := 48) (d0 := 47) rfl rfl rfl (List.mem_of_getElem? (i := 38) rfl) (List.mem_of_getElem? (i := 37) rfl) (by kernel_rfl),
      go_insR (d := 49) (d0 := 48) (x := 16) (F := (.inr false)) rfl rfl rfl (List.mem_of_getElem? (i := 9) rfl) (List.mem_of_getElem? (i := 9) rfl) (by decide) (List.mem_of_getElem? (i := 38) rfl) (by kernel_rfl) (by kernel_rfl),
      go_loadR (d := 50) (K := 1) rfl rfl rfl (List.mem_of_getElem? (i := 39) rfl) (fun h => h.p2) c2,
      go_loadR (d := 51) (K := 1) rfl rfl rfl (List.mem_of_getElem? (i := 40) rfl) (fun h => h.p2) c2,
      go_slice2R (d := 52) (d0 := 50) (k0 := 1) (d1 := 51) (k1 := 1) rfl rfl rfl (List.mem_of_getElem? (i := 41) rfl) (List.mem_of_getElem? (i := 39) rfl) (List.mem_of_getElem? (i := 40) rfl) (by kernel_rfl) (by kernel_rfl),
      go_justR (d := 53) (d0 := 52) (ks := [1, 1]) rfl rfl rfl (List.mem_of_getElem? (i := 42) rfl) (List.mem_of_getElem? (i := 41) rfl) (by kernel_rfl),
      go_insR (d := 54) (d0 := 53) (x := 13) (F := (.inl [1, 1])) rfl rfl rfl (List.mem_of_getElem? (i := 10) rfl) (List.mem_of_getElem? (i := 10) rfl) (by decide) (List.mem_of_getElem? (i := 42) rfl) (by kernel_rfl) (by kernel_rfl),
      go_loadR (d := 55) (K := 9) rfl rfl rfl (List.mem_of_getElem? (i := 43) rfl) (fun h => h.p3) c3,
      go_loadR (d := 56) (K := 9) rfl rfl rfl (List.mem_of_getElem? (i := 44) rfl) (fun h => h.p3) c3,
      go_loadR (d := 57) (K := 1) rfl rfl rfl (List.mem_of_getElem? (i := 45) rfl) (fun h => h.p2) c2,
      go_loadR (d := 58) (K := 1) rfl rfl rfl (List.mem_of_getElem? (i := 46) rfl) (fun h => h.p2) c2,
      go_loadR (d := 59) (K := 1) rfl rfl rfl (List.mem_of_getElem? (i := 47) rfl) (fun h => h.p2) c2,
      go_loadR (d := 60) (K := 0) rfl rfl rfl (List.mem_of_getElem? (i := 48) rfl) (fun h => h.p1) c1,
      go_slice6R (d := 61) (d0 := 55) (k0 := 9) (d1 := 56) (k1 := 9) (d2 := 57) (k2 := 1) (d3 := 58) (k3 := 1) (d4 := 59) (k4 := 1) (d5 := 60) (k5 := 0) rfl rfl rfl (List.mem_of_getElem? (i := 49) rfl) (List.mem_of_getElem? (i := 43) rfl) (List.mem_of_getElem? (i := 44) rfl) (List.mem_of_getElem? (i := 45) rfl) (List.mem_of_getElem? (i := 46) rfl) (List.mem_of_getElem? (i := 47) rfl) (List.mem_of_getElem? (i := 48) rfl) (by kernel_rfl) (by kernel_rfl) (by kernel_rfl) (by kernel_rfl) (by kernel_rfl) (by kernel_rfl),
      go_justR (d := 62) (d0 := 61) (ks := [9, 9, 1, 1, 1, 0]) rfl rfl rfl (List.mem_of_getElem? (i := 50) rfl) (List.mem_of_getElem? (i := 49) rfl) (by kernel_rfl),
      go_insR (d := 63) (d0 := 62) (x := 35) (F := (.inl [9, 9, 1, 1, 1, 0])) rfl rfl rfl (List.mem_of_getElem? (i := 11) rfl) (List.mem_of_getElem? (i := 11) rfl) (by decide) (List.mem_of_getElem? (i := 50) rfl) (by kernel_rfl) (by kernel_rfl),
      go_mkR (d := 64) (s := .inl 8) rfl rfl rfl (List.mem_of_getElem? (i := 51) rfl) (fun a => by simp [Act.eval]) (fun w => by kernel_rfl) m_n1R,
      go_mkR (d := 65) (s := .inl 2) rfl rfl rfl (List.mem_of_getElem? (i := 52) rfl) (fun a => by simp) (fun w => by kernel_rfl) m_tagR,
      go_mkR (d := 66) (s := .inl 3) rfl rfl rfl (List.mem_of_getElem? (i := 53) rfl) (fun a => by simp) (fun w => by kernel_rfl) m_restR,
      go_slice3R (d := 67) (d0 := 64) (k0 := 8) (d1 := 65) (k1 := 2) (d2 := 66) (k2 := 3) rfl rfl rfl (List.mem_of_getElem? (i := 54) rfl) (List.mem_of_getElem? (i := 51) rfl) (List.mem_of_getElem? (i := 52) rfl) (List.mem_of_getElem? (i := 53) rfl) (by kernel_rfl) (by kernel_rfl) (by kernel_rfl),
      go_justR (d := 68) (d0 := 67) (ks := [8, 2, 3]) rfl rfl rfl (List.mem_of_getElem? (i := 55) rfl) (List.mem_of_getElem? (i := 54) rfl) (by kernel_rfl),
      go_insR (d := 69) (d0 := 68) (x := 257) (F := (.inl [8, 2, 3])) rfl rfl rfl (List.mem_of_getElem? (i := 12) rfl) (List.mem_of_getElem? (i := 12) rfl) (by decide) (List.mem_of_getElem? (i := 55) rfl) (by kernel_rfl) (by kernel_rfl),
      go_mkR (d := 70) (s := .inr (.inr (.inr true))) rfl rfl rfl (List.mem_of_getElem? (i := 56) rfl) (fun a => by simp) (fun w => by kernel_rfl) m_ntR,
      go_insR (d := 71) (d0 := 70) (x := 47) (F := (.inr true)) rfl rfl rfl (List.mem_of_getElem? (i := 13) rfl) (List.mem_of_getElem? (i := 13) rfl) (by decide) (List.mem_of_getElem? (i := 56) rfl) (by kernel_rfl) (by kernel_rfl),
      go_mvR rfl rfl rfl (by kernel_rfl),
      go_asR rfl rfl rfl (by kernel_rfl) (by kernel_rfl), trivial⟩
  · intro a w' r L hdf hsz h0 hM hF hI hb
    rename_i hk
    refine hk _ _ ?_
    go_wp2_with fail
    refine bodyPost_ret (v := .map (some r)) ?_ hdf ⟨⟨r, L, rfl, hM, hF, hI⟩, Nm.below_two bw hb⟩
    simp [results, Tryz.results26, go_sem, h0]
end Go.Proofs.YtddabafaejahbaaGreatDoor
/- spec.l03Plain by its contract. -/
namespace Go.Proofs.YtddabafaejahbaaGreatDoor
open Go.RowKit
set_option linter.unusedVariables false

/-- Bytes of one's own as a string. -/
theorem conv_any {W : World} {B m : Nat} {v : Value} {l : List UInt8} (h : W.ownsRow B 5 1 v m (Nm.bys l)) : (convert 87 9 v).run Tryz.prog W = .ok (.string ⟨l.toArray⟩) W := by
  rcases Nat.eq_zero_or_pos m with h0 | hp
  · subst h0
    have hl0 : l = [] := List.length_eq_zero_iff.1 (by have := h.1; rw [Nm.bys_length] at this; omega)
    subst hl0
    rcases h.2 with ⟨rfl, _⟩ | ⟨g, cp, cur, rfl, _⟩
    · rw [run_convert_bytes_string _ 87 9 5 _ _ _ Tryz.underlying87 Tryz.underlying5 Tryz.underlying9]
      rfl
    · exact run_convert_bytes_back (P := Tryz.prog) W 87 9 5 ⟨g, 0, none⟩ cp [] Tryz.underlying87 Tryz.underlying5 Tryz.underlying9 (by intro j hj; simp at hj)
  · obtain ⟨g, cp, rfl, hcv⟩ := Nm.conv_own (P := Tryz.prog) (src := 87) (dst := 9) Tryz.underlying87 Tryz.underlying5 Tryz.underlying9 h hp
    exact hcv

theorem hex_byte {a b : Int} (ha : 0 ≤ a) (ha2 : a < 16) (hb : 0 ≤ b) (hb2 : b < 16) : ((UInt8.ofNat (16 * a + b).toNat).toNat : Int) = 16 * a + b := by
  rw [UInt8.toNat_ofNat']
  omega

theorem no_quote {ws : List Wrd} {j : Nat} {x : Wrd} (h : ws[j]? = some x) (hq : x.2 = false) (ha : ∀ y ∈ ws.take j, y.2 = false) : ∀ y ∈ ws.take (j + 1), y.2 = false := by
  have hl := List.getElem?_eq_some_iff.1 h
  intro y hy
  rw [List.take_succ_eq_append_getElem hl.1, hl.2] at hy
  rcases List.mem_append.1 hy with hy | hy
  · exact ha y hy
  · rw [List.mem_singleton] at hy; rw [hy]; exact hq

set_option maxRecDepth 100000 in
set_option maxHeartbeats 4000000 in
theorem l03Plain_any (t : Int) (v : Value) (ws : List Wrd) (w : World) (h : CRow w v ws.length 2 (wdVs ws)) (hn : ws.length ≤ 1048576) (hz : wsz ws ≤ 1048576) :
    Calls Tryz.prog 17 #[.int .i64 t, v] w fun e w' => e = .returned (strV (plainS t ws)) ∧ Below w.heap.size w w' := by
  obtain ⟨i0, hi, hz0, hz1, hz2⟩ := info_parts Tryz.infoU8x
  obtain ⟨_, a, cap, rfl, hcap, hmx, hc⟩ := h
  obtain ⟨R, HR⟩ : ∃ R, Hid (R = plainS t ws) := ⟨_, rfl⟩
  rw [← HR.out]
  have HZ := Nm.hide hz
  clear hz
  go_enter Tryz.func17, Tryz.ntmps17
  go_wp2
  go_loop [6, 7] (fun d i => ∃ j : Nat, j ≤ ws.length ∧ i = .int .i64 (j : Int) ∧ d = .string (dgs (ws.take j)) ∧ Hid (∀ y ∈ ws.take j, y.2 = false)) (fun _ i => ws.length - (intOf i).toNat)
  case atStart => exact ⟨0, Nat.zero_le _, rfl, by simp [dgs], by intro y hy; simp at hy⟩
  case round =>
    obtain ⟨j, hj, rfl, rfl, HQ⟩ := hrel
    by_cases hlt : j < ws.length
    · obtain ⟨x, hx⟩ : ∃ x, ws[j]? = some x := ⟨_, List.getElem?_eq_getElem hlt⟩
      obtain ⟨b, off, rfl, hcell⟩ := hc (by omega)
      have c0 : w.cell? ⟨b, off + j * 2, none⟩ = some (.string x.1) := hcell _ _ (wdVs_at ws j 0 x hx (by decide))
      have c1 : w.cell? ⟨b, off + j * 2 + 1, none⟩ = some (.bool x.2) := hcell _ _ (wdVs_at ws j 1 x hx (by decide))
      have i1 : (0 : Int) ≤ (j : Int) := by omega
      have i2 : (j : Int) < (ws.length : Int) := by omega
      have hsm := dgs_step_le hx
      have hzz := HZ.out
      have hsum : (dgs (ws.take j)).size + x.1.size ≤ 9223372036854775807 := by omega
      cases hq : x.2 with
      | true =>
        rw [hq] at c1
        have HN : Hid (R = (⟨#[]⟩, 15)) := by show _ = _; rw [HR.out]; exact plain_q (List.mem_of_getElem? hx) hq
        clear hcell hc hx HQ hsm hzz hsum
        generalize dgs (ws.take j) = D at *
        go_wp2
        go_ret2
        rw [HN.out]
        exact ⟨rfl, Below.refl _ _⟩
      | false =>
        rw [hq] at c1
        have HN := Nm.hide (no_quote hx hq HQ.out)
        by_cases h0 : 0 < j
        · have HD := Nm.hide (dgs_step hx h0)
          have i3 : (0 : Int) < (j : Int) := by omega
          clear hcell hc hx HQ hsm hzz
          generalize dgs (ws.take j) = D at *
          go_wp2
          go_round
          case rel => exact ⟨j + 1, by omega, by go_num, by rw [HD.out], HN⟩
          case measure => simp [intOf]; omega
        · have HD : Hid (dgs (ws.take j) = dgs (ws.take (j + 1))) := by
            have e : j = 0 := by omega
            subst e
            show _ = _
            rw [dgs_one]
            rfl
          have d3 : decide ((0 : Int) < (j : Int)) = false := by simp; omega
          clear hcell hc hx HQ hsm hzz hsum
          go_wp2
          go_round
          case rel => exact ⟨j + 1, by omega, by go_num, by rw [HD.out], HN⟩
          case measure => simp [intOf]; omega
    · have hjn : j = ws.length := by omega
      subst hjn
      rw [List.take_length] at HQ ⊢
      have hdz : (dgs ws).size ≤ 1048576 := Nat.le_trans (dgs_size ws) HZ.out
      by_cases h0 : ws.length = 0
      · have HN : Hid (R = (⟨#[]⟩, 15)) := by
          show _ = _
          rw [HR.out, List.length_eq_zero_iff.1 h0]
          rfl
        have e0 : ((ws.length : Int) == 0) = true := by simp; exact List.length_eq_zero_iff.1 h0
        clear h0 hc HQ
        generalize dgs ws = D at *
        generalize ws.length = n at *
        go_wp2
        go_ret2
        rw [HN.out]
        exact ⟨rfl, Below.refl _ _⟩
      · obtain ⟨x, xs, hxs⟩ := List.exists_cons_of_ne_nil (show ws ≠ [] from fun e => h0 (by rw [e]; rfl))
        have hx : ws[0]? = some x := by rw [hxs]; rfl
        obtain ⟨b, off, rfl, hcell⟩ := hc (by omega)
        have c0 : w.cell? ⟨b, off, none⟩ = some (.string x.1) := hcell _ _ (wdVs_at ws 0 0 x hx (by decide))
        have e0 : ((ws.length : Int) == 0) = false := by rw [beq_eq_false_iff_ne]; omega
        have i1 : (0 : Int) < (ws.length : Int) := by omega
        have hnum := fun W => l03Number_any x.1 10 W (by decide)
        cases hO : numO x.1 10 with
        | none =>
          have HN : Hid (R = (⟨#[]⟩, 15)) := by
            show _ = _
            rw [HR.out, hxs]
            exact plain_num (by rw [← hxs]; exact HQ.out) hO
          rw [hO] at hnum
          simp only [numV, Option.getD_none, Option.isSome_none] at hnum
          clear h0 hc HQ hcell hx hxs hO
          generalize dgs ws = D at *
          generalize ws.length = n at *
          go_wp2_with (go_at_call 37; refine (hnum _).mono ?_; rintro e w1 ⟨rfl, hw⟩; obtain rfl : w = w1 := hw.symm; clear hw)
          go_ret2
          rw [HN.out]
          exact ⟨rfl, Below.refl _ _⟩
        | some n =>
          have hnl := numO_lt hO
          have HP : Hid (R = plainT t n (dgs ws)) := by
            show _ = _
            rw [HR.out]
            have := plain_some (t := t) (by rw [← hxs]; exact HQ.out) hO
            rw [hxs]
            exact this
          rw [hO] at hnum
          simp only [numV, Option.getD_some, Option.isSome_some] at hnum
          clear h0 hc HQ hcell hx hxs hO HR HZ
          generalize dgs ws = D at *
          generalize ws.length = m at *
          by_cases h2 : D.size = 2 * n
          · have b2 : ((D.size : Int) != 2 * (n : Int)) = false := by simp; omega
            have hst := hx_start D.data.toList
            go_wp2_with (go_at_call 37; refine (hnum _).mono ?_; rintro e w1 ⟨rfl, hw⟩; obtain rfl : w = w1 := hw.symm; clear hw)
            clear hnum c0 e0 i1
            have hJ0 : Hid (∃ k : Nat, 0 = 2 * k ∧ k ≤ n ∧ ([] : List UInt8).length = k ∧ HX D.data.toList k []) := ⟨0, rfl, Nat.zero_le _, rfl, hst⟩
            clear hst
            go_loopw [10, 11] (fun v i wr => ∃ (J m : Nat) (l : List UInt8), J ≤ D.size ∧ m ≤ J ∧ i = .int .i64 (J : Int) ∧ Hid (∃ k : Nat, J = 2 * k ∧ k ≤ n ∧ l.length = k ∧ HX D.data.toList k l) ∧ Hid (l.length = m) ∧ wr.ownsRow w.heap.size 5 1 v m (Nm.bys l) ∧ Below w.heap.size w wr)
              (fun _ i _ => D.size - (intOf i).toNat)
            case atStart => exact ⟨0, 0, [], Nat.zero_le _, Nat.zero_le _, rfl, hJ0, rfl, World.ownsRow_made w #[] 0 (Nat.le_refl _) (by decide) rfl, (Below.refl _ _).alloc (Nat.le_refl _) _⟩
            case round =>
              obtain ⟨J, m, l, hJ, hmJ, rfl, HK, HL, hown, hbel⟩ := hrel
              clear hJ0
              have hsz := hbel.size
              by_cases hlt : J < D.size
              · have hlt1 : J + 1 < D.size := by
                  obtain ⟨k, e1, _, _, _⟩ := HK.out
                  omega
                have i1 : (0 : Int) ≤ (J : Int) := by omega
                have i2 : (J : Int) < (D.size : Int) := by omega
                have i3 : (J : Int) + 1 < (D.size : Int) := by omega
                have hxa := fun W => l03Hex_any D[J] W
                have hxb := fun W => l03Hex_any D[J + 1] W
                have va := hexV_lt D[J]
                have vb := hexV_lt D[J + 1]
                have HBD : Hid (hexV D[J] < 0 ∨ hexV D[J + 1] < 0 → R = (⟨#[]⟩, 15)) := by
                  intro hb
                  obtain ⟨k, e1, _, _, e2⟩ := HK.out
                  subst e1
                  rw [HP.out, plainT, if_neg (by simpa using h2), hx_bad e2 hlt1 hb]
                have HST : Hid (¬ (hexV D[J] < 0 ∨ hexV D[J + 1] < 0) → ∃ k : Nat, J + 2 = 2 * k ∧ k ≤ n ∧ (l ++ [UInt8.ofNat (16 * hexV D[J] + hexV D[J + 1]).toNat]).length = k ∧ HX D.data.toList k (l ++ [UInt8.ofNat (16 * hexV D[J] + hexV D[J + 1]).toNat])) := by
                  intro hb
                  obtain ⟨k, e1, e3, e4, e2⟩ := HK.out
                  subst e1
                  exact ⟨k + 1, by omega, by omega, by simp [e4], hx_step e2 hlt1 hb⟩
                clear HK HP
                generalize hexV D[J] = A at *
                generalize hexV D[J + 1] = B at *
                by_cases ha : A < 0
                · have d1 : decide (A < 0) = true := by simp; exact ha
                  have HN := Nm.hide (HBD.out (.inl ha))
                  clear HBD HST ha h2 b2 hown
                  go_wp2_with (go_at_call 38; (with_reducible first | refine (hxa _).mono ?_ | refine (hxb _).mono ?_); rintro e w1 ⟨rfl, hw⟩; obtain rfl : wr = w1 := hw.symm; clear hw)
                  go_ret2
                  rw [HN.out]
                  exact ⟨rfl, hbel⟩
                · have d1 : decide (A < 0) = false := by simp; omega
                  by_cases hb : B < 0
                  · have d2 : decide (B < 0) = true := by simp; exact hb
                    have HN := Nm.hide (HBD.out (.inr hb))
                    clear HBD HST ha hb h2 b2 hown
                    go_wp2_with (go_at_call 38; (with_reducible first | refine (hxa _).mono ?_ | refine (hxb _).mono ?_); rintro e w1 ⟨rfl, hw⟩; obtain rfl : wr = w1 := hw.symm; clear hw)
                    go_ret2
                    rw [HN.out]
                    exact ⟨rfl, hbel⟩
                  · have d2 : decide (B < 0) = false := by simp; omega
                    have HST2 := Nm.hide (HST.out (by omega))
                    have HC := Nm.hide (hex_byte (a := A) (b := B) (by omega) (by omega) (by omega) (by omega))
                    have a0 : 0 ≤ A := by omega
                    have a1 : A < 16 := by omega
                    have b0 : 0 ≤ B := by omega
                    have b1 : B < 16 := by omega
                    generalize UInt8.ofNat (16 * A + B).toNat = c at *
                    clear HBD HST ha hb h2 b2 va vb
                    have HL2 : Hid ((l ++ [c]).length = m + 1) := by show _ = _; rw [List.length_append, HL.out]; rfl
                    clear HL
                    go_wp2_with (first | (go_at_call 38; (with_reducible first | refine (hxa _).mono ?_ | refine (hxb _).mono ?_); rintro e w1 ⟨rfl, hw⟩; obtain rfl : wr = w1 := hw.symm; clear hw) | (at_builtin; refine wpList_append_own _ rfl (.tmp 76) (.tmp 82) 87 rfl w.heap.size 5 i0 (.int .u8 0) 1 1 Tryz.underlying87 hi hz0 hz1 hz2 rfl (by decide) _ _ _ rfl (hown.alloc _) ⟨wr.heap.size, 0, none⟩ 1 1 [.int .u8 (16 * A + B)] rfl rfl (cell_new1 _ _ _) (Nm.one_cell _ rfl) (by unfold maxLen; omega) (by omega) (by simp; omega) ?_))
                    intro v' w4 hown' hgrow _
                    rw [← HC.out] at hown'
                    obtain ⟨X, HX, o4, b4, z4⟩ := one_step (c := c) hsz hown hbel _ hown' hgrow
                    clear hown' hgrow hown hbel
                    go_wp2
                    go_roundw
                    case rel => exact ⟨J + 2, m + 1, X, by omega, by omega, by go_num, by rw [HX.out]; exact HST2, by rw [HX.out]; exact HL2, o4, b4⟩
                    case measure => simp [intOf]; omega
              · have hJD : J = D.size := by omega
                have HE : Hid (hxL D.data.toList = some l) := by
                  obtain ⟨k, e1, e3, e4, e2⟩ := HK.out
                  exact hx_end e2 (by simp; omega)
                subst hJD
                have HQ : Hid (plainT t n D = if cutCode t ⟨l.toArray⟩ = 0 then (⟨l.toArray⟩, 0) else (⟨#[]⟩, 7)) := by
                  show _ = _
                  rw [plainT, if_neg (by simpa using h2), HE.out]
                have hck := fun W => specCheckData_any t ⟨l.toArray⟩ W
                obtain ⟨L, HLL, hcv0⟩ : ∃ L, Hid (L = (⟨l.toArray⟩ : ByteArray)) ∧ ∀ W, W.ownsRow w.heap.size 5 1 u10 m (Nm.bys l) → (convert 87 9 u10).run Tryz.prog W = .ok (.string L) W := ⟨_, rfl, fun W hW => conv_any hW⟩
                rw [← HLL.out] at hck HQ
                clear HL HK HE
                have hcv := hcv0 wr hown
                obtain ⟨ua, uc, rfl⟩ := own_sl hown
                by_cases hc0 : cutCode t L = 0
                · have HN : Hid (R = (L, 0)) := by show _ = _; rw [HP.out, HQ.out, if_pos hc0]
                  rw [hc0] at hck
                  clear hc0 HQ HP h2 b2
                  go_wp2_with (go_at_call 39; refine (hck _).mono ?_; rintro e w1 ⟨rfl, hb1⟩; have hcv1 := hcv0 w1 (own_below hown hb1); have hbel1 := Nm.below_two hbel hb1; clear hcv0 hcv hown hb1 hbel)
                  go_ret2
                  rw [HN.out]
                  exact ⟨rfl, hbel1⟩
                · have HN : Hid (R = (⟨#[]⟩, 7)) := by show _ = _; rw [HP.out, HQ.out, if_neg hc0]
                  have d7 : (cutCode t L != 0) = true := by rw [bne_iff_ne]; exact hc0
                  clear hc0 HQ HP h2 b2
                  generalize cutCode t L = C at *
                  go_wp2_with (go_at_call 39; refine (hck _).mono ?_; rintro e w1 ⟨rfl, hb1⟩; have hbel1 := Nm.below_two hbel hb1; clear hcv0 hcv hown hb1 hbel)
                  go_ret2
                  rw [HN.out]
                  exact ⟨rfl, hbel1⟩
          · have HN : Hid (R = (⟨#[]⟩, 15)) := by show _ = _; rw [HP.out, plainT, if_pos h2]
            have b2 : ((D.size : Int) != 2 * (n : Int)) = true := by simp; omega
            clear h2
            go_wp2_with (go_at_call 37; refine (hnum _).mono ?_; rintro e w1 ⟨rfl, hw⟩; obtain rfl : w = w1 := hw.symm; clear hw)
            go_ret2
            rw [HN.out]
            exact ⟨rfl, Below.refl _ _⟩
end Go.Proofs.YtddabafaejahbaaGreatDoor
/- impl.hexValue by its contract. -/
namespace Go.Proofs.YtddabafaejahbaaGreatDoor
open Go.RowKit

theorem hex_low (c : UInt8) : hexV c = if Nm.digB (Nm.low c) = true then ((Nm.low c).toNat : Int) - 48 else if 97 ≤ (Nm.low c).toNat ∧ (Nm.low c).toNat ≤ 102 then ((Nm.low c).toNat : Int) - 97 + 10 else -1 := by
  by_cases hup : 65 ≤ c.toNat ∧ c.toNat ≤ 90
  · have hl := Nm.low_up hup
    have d1 : Nm.digB c = false := by simp [Nm.digB]; omega
    have d2 : Nm.digB (Nm.low c) = false := by simp [Nm.digB]; omega
    unfold hexV
    simp only [d1, d2, Bool.false_eq_true, if_false]
    rw [if_neg (show ¬ (97 ≤ c.toNat ∧ c.toNat ≤ 102) by omega)]
    by_cases h : c.toNat ≤ 70
    · rw [if_pos (show 65 ≤ c.toNat ∧ c.toNat ≤ 70 by omega), if_pos (show 97 ≤ (Nm.low c).toNat ∧ (Nm.low c).toNat ≤ 102 by omega)]; omega
    · rw [if_neg (show ¬ (65 ≤ c.toNat ∧ c.toNat ≤ 70) by omega), if_neg (show ¬ (97 ≤ (Nm.low c).toNat ∧ (Nm.low c).toNat ≤ 102) by omega)]
  · rw [Nm.low_id hup]
    unfold hexV
    split
    · rfl
    · split
      · rfl
      · rw [if_neg (by omega)]

def hexR (v : Int) : Value := if 0 ≤ v then .tuple #[.int .u8 v, .bool true] else .tuple #[.int .u8 0, .bool false]
theorem hexR_yes (n : Nat) : hexR (n : Int) = .tuple #[.int .u8 (n : Int), .bool true] := by rw [hexR, if_pos (by omega)]
theorem hexR_no {v : Int} (h : v < 0) : hexR v = .tuple #[.int .u8 0, .bool false] := by rw [hexR, if_neg (by omega)]

set_option maxRecDepth 100000 in
set_option maxHeartbeats 400000 in
theorem hexValue_any (c : UInt8) (w : World) :
    Calls Tryz.prog 93 #[.int .u8 c.toNat] w fun e w' => e = .returned (hexR (hexV c)) ∧ w' = w := by
  have hf := foldByte_any c w
  have hd := isDigit_any (Nm.low c) w
  have hx := hex_low c
  have hcl : ((Nm.low c).toNat : Int) < 256 := by have := (Nm.low c).toNat_lt; omega
  obtain ⟨R, HR⟩ : ∃ R, Hid (R = hexR (hexV c)) := ⟨_, rfl⟩
  rw [← HR.out]
  cases hD : Nm.digB (Nm.low c) with
  | true =>
    have hb : 48 ≤ (Nm.low c).toNat ∧ (Nm.low c).toNat ≤ 57 := by simpa [Nm.digB] using hD
    have HN : Hid (R = .tuple #[.int .u8 (((Nm.low c).toNat : Int) - 48), .bool true]) := by
      show _ = _
      rw [HR.out, hx, if_pos hD, hexR, if_pos (by omega)]
    rw [hD] at hd
    have h1 : (48 : Int) ≤ ((Nm.low c).toNat : Int) := by omega
    have h2 : ((Nm.low c).toNat : Int) ≤ 57 := by omega
    clear hD hb hx HR
    generalize ((Nm.low c).toNat : Int) = d at *
    go_enter Tryz.func93, Tryz.ntmps93
    go_wp2_with (first | (go_at_call 154; refine hf.mono ?_; rintro e w1 ⟨rfl, hw⟩; obtain rfl : w = w1 := hw.symm; clear hw) | (go_at_call 92; refine hd.mono ?_; rintro e w1 ⟨rfl, hw⟩; obtain rfl : w = w1 := hw.symm; clear hw))
    go_ret2
    rw [HN.out]
    exact ⟨rfl, rfl⟩
  | false =>
    rw [hD] at hd
    by_cases h1 : 97 ≤ (Nm.low c).toNat
    · by_cases h2 : (Nm.low c).toNat ≤ 102
      · have HN : Hid (R = .tuple #[.int .u8 (((Nm.low c).toNat : Int) - 97 + 10), .bool true]) := by
          show _ = _
          rw [HR.out, hx, if_neg (by simp [hD]), if_pos ⟨h1, h2⟩, hexR, if_pos (by omega)]
        have h1' : (97 : Int) ≤ ((Nm.low c).toNat : Int) := by omega
        have h2' : ((Nm.low c).toNat : Int) ≤ 102 := by omega
        clear hD hx HR h1 h2
        generalize ((Nm.low c).toNat : Int) = d at *
        go_enter Tryz.func93, Tryz.ntmps93
        go_wp2_with (first | (go_at_call 154; refine hf.mono ?_; rintro e w1 ⟨rfl, hw⟩; obtain rfl : w = w1 := hw.symm; clear hw) | (go_at_call 92; refine hd.mono ?_; rintro e w1 ⟨rfl, hw⟩; obtain rfl : w = w1 := hw.symm; clear hw))
        go_ret2
        rw [HN.out]
        exact ⟨rfl, rfl⟩
      · have HN : Hid (R = .tuple #[.int .u8 0, .bool false]) := by
          show _ = _
          rw [HR.out, hx, if_neg (by simp [hD]), if_neg (by omega)]; rfl
        have h1' : (97 : Int) ≤ ((Nm.low c).toNat : Int) := by omega
        have h2' : (102 : Int) < ((Nm.low c).toNat : Int) := by omega
        clear hD hx HR h1 h2
        generalize ((Nm.low c).toNat : Int) = d at *
        go_enter Tryz.func93, Tryz.ntmps93
        go_wp2_with (first | (go_at_call 154; refine hf.mono ?_; rintro e w1 ⟨rfl, hw⟩; obtain rfl : w = w1 := hw.symm; clear hw) | (go_at_call 92; refine hd.mono ?_; rintro e w1 ⟨rfl, hw⟩; obtain rfl : w = w1 := hw.symm; clear hw))
        go_ret2
        rw [HN.out]
        exact ⟨rfl, rfl⟩
    · have HN : Hid (R = .tuple #[.int .u8 0, .bool false]) := by
        show _ = _
        rw [HR.out, hx, if_neg (by simp [hD]), if_neg (by omega)]; rfl
      have h1' : ((Nm.low c).toNat : Int) < 97 := by omega
      clear hD hx HR h1
      generalize ((Nm.low c).toNat : Int) = d at *
      go_enter Tryz.func93, Tryz.ntmps93
      go_wp2_with (first | (go_at_call 154; refine hf.mono ?_; rintro e w1 ⟨rfl, hw⟩; obtain rfl : w = w1 := hw.symm; clear hw) | (go_at_call 92; refine hd.mono ?_; rintro e w1 ⟨rfl, hw⟩; obtain rfl : w = w1 := hw.symm; clear hw))
      go_ret2
      rw [HN.out]
      exact ⟨rfl, rfl⟩
end Go.Proofs.YtddabafaejahbaaGreatDoor
