/- impl.CutFrames by its contract. -/
import Derived.Test.YtlgeeidbclnhbaaCfP
import Derived.Test.YtlgeeidbclnhbaaCfC
namespace Go.Proofs.Ytlgeeidbclnhbaa
open Go.RowKit
set_option linter.unusedVariables false

/-- What the program's CutFrames leaves. -/
def CfImpl (R : List (List UInt8) × List UInt8 × Bool) (w : World) (e : Ending) (w' : World) : Prop :=
  ∃ v us u, e = .returned (.tuple #[v, u, .bool R.2.2]) ∧ BsOwn w' w.heap.size w'.heap.size v us (R.1.map Nm.bys) ∧ w'.ownsRow w.heap.size 5 1 u R.2.1.length (Nm.bys R.2.1) ∧ (∀ (i : Nat) (x : Value), us[i]? = some x → ∀ g, u.ownBlock = some g → x.ownBlock ≠ some g) ∧ Below w.heap.size w w'

theorem bsown_nil (w : World) (B N : Nat) : BsOwn w B N (.slice none 0 0) [] (([] : List (List UInt8)).map Nm.bys) := BsOwn.nil w B N

set_option maxRecDepth 100000 in
set_option maxHeartbeats 3200000 in
theorem implCutFrames_any (v1 v2 : Value) (l1 l2 : List UInt8) (w : World) (h1 : BySl w v1 l1) (h2 : BySl w v2 l2) (hl1 : l1.length ≤ 1048576) (hl2 : l2.length ≤ 1048576) :
    Calls Try.prog 6 #[v1, v2] w (CfImpl (cfR l1 l2) w) := by
  obtain ⟨a1, c1, rfl⟩ : ∃ a c, v1 = .slice a l1.length c := by obtain ⟨_, a, c, e, _⟩ := h1; exact ⟨a, c, e⟩
  obtain ⟨a2, c2, rfl⟩ : ∃ a c, v2 = .slice a l2.length c := by obtain ⟨_, a, c, e, _⟩ := h2; exact ⟨a, c, e⟩
  by_cases hA : 65537 < l1.length
  · have hA' : (65537 : Int) < (l1.length : Int) := by omega
    have HR : Hid (cfR l1 l2 = ([], [], false)) := if_pos (.inl hA)
    go_enter Try.func6, Try.ntmps6
    go_wp2
    go_ret3
    rw [HR.out]
    exact ⟨_, _, _, rfl, bsown_nil w _ _, World.ownsRow_nil _ _ _ _, by simp, Below.refl _ _⟩
  · have hA' : (l1.length : Int) ≤ 65537 := by omega
    by_cases hC : 400000 < l2.length
    · have hC' : (400000 : Int) < (l2.length : Int) := by omega
      have HR : Hid (cfR l1 l2 = ([], [], false)) := if_pos (.inr hC)
      go_enter Try.func6, Try.ntmps6
      go_wp2
      go_ret3
      rw [HR.out]
      exact ⟨_, _, _, rfl, bsown_nil w _ _, World.ownsRow_nil _ _ _ _, by simp, Below.refl _ _⟩
    · have hC' : (l2.length : Int) ≤ 400000 := by omega
      have HR : Hid (cfR l1 l2 = cutF (l1 ++ l2).length (l1 ++ l2)) := if_neg (by omega)
      have hbA := (Below.refl w.heap.size w).alloc (Nat.le_refl _) (.cells #[.slice a1 l1.length c1, .slice a2 l2.length c2] 22)
      have hcc := concat_all (.slice a1 l1.length c1) (.slice a2 l2.length c2) l1 l2 w.heap.size (w.alloc (.cells #[.slice a1 l1.length c1, .slice a2 l2.length c2] 22)) (by simp) (by simp) (h1.below hbA) (h2.below hbA) (by omega) (by omega)
      have hLl : (l1 ++ l2).length ≤ 465537 := by rw [List.length_append]; omega
      rw [HR.out]
      clear HR h1 h2
      generalize l1 ++ l2 = L at *
      obtain ⟨i0, hi, hz0, hz1, hz2⟩ := info_parts Try.infoBs
      go_enter Try.func6, Try.ntmps6
      go_wp2_with (go_at_call 14; refine hcc.mono ?_; rintro e w0 ⟨v0, rfl, hv0, hb0⟩)
      have hB0 := Nm.below_two hbA hb0
      clear hcc hbA hb0
      go_loopw [7, 8] (fun v s wr => ∃ (fs : List (List UInt8)) (us : List Value) (S : List UInt8), Hid (FrAt L fs S) ∧ Hid (∀ W, BySl W v0 L → BySl W s S) ∧ BsOwn wr w0.heap.size wr.heap.size v us (fs.map Nm.bys) ∧ Below w0.heap.size w0 wr) (fun _ s _ => mzV s)
      case atStart => exact ⟨[], [], L, FrAt.start L, fun W h => h, bsown_nil _ _ _, Below.refl _ _⟩
      case round =>
        obtain ⟨fs, us, S, HF, HS, ho, hbel⟩ := hrel
        have hS := HS.out wr (hv0.below hbel)
        have hw0 := hB0.size
        obtain ⟨sa, sc, rfl⟩ : ∃ a c, u8 = .slice a S.length c := by obtain ⟨_, a, c, e, _⟩ := hS; exact ⟨a, c, e⟩
        have hSl : fs.length + S.length ≤ 465537 := by
          have h3 := HF.out.2.2.1
          have h4 := HF.out.2.2.2
          omega
        have hlen : us.length = fs.length := by have := ho.len; simpa using this
        have HUL : Hid (us.length ≤ 465537) := by show _ ≤ _; omega
        clear hlen
        obtain ⟨va, vc, rfl⟩ := own_sl ho.outer
        by_cases hno : S.length < 2 ∨ S.length < hdN S + 2
        · have hcl := cutLength_no _ S wr hS (by omega) hno
          have hcn := cloneBy_any _ S wr hS (by omega)
          have HE : Hid (cutF L.length L = (fs, S, false)) := HF.out.stop hno
          have hsw := hbel.size
          clear hno HF
          go_wp2_with (first | (go_at_call 15; refine hcl.mono ?_; rintro e w1 ⟨rfl, rfl⟩) | (go_at_call 16; refine hcn.mono ?_; rintro e w2 ⟨u, rfl, hu, hb2⟩))
          go_ret3
          rw [HE.out]
          have hs2 := hb2.size
          refine ⟨_, us, _, rfl, ((ho.below hb2).wide hs2).base hw0, own_base hu (by omega), fun i x hx g e e' => ?_, Nm.below_two hB0 (Nm.below_two hbel hb2)⟩
          have h3 := (hu.lt g e).1
          have h4 := (ho.itop i x hx g e').2
          omega
        · have hyes : hdN S + 2 ≤ S.length := by omega
          have hcl := cutLength_yes _ S wr hS (by omega) hyes
          have hd := hdN_lt S
          by_cases hz : hdN S = 0
          · have HE : Hid (cutF L.length L = (fs, [], true)) := HF.out.fin (by omega) hz
            have hT : (S.drop 2).take (hdN S) = [] := by rw [hz]; simp
            rw [hT] at hcl
            clear hT hno HF hz hyes hd
            go_wp2_with (go_at_call 15; refine hcl.mono ?_; rintro e w1 ⟨f, r, rfl, hfr, hb1⟩; have hf := (hfr _ hS).1; obtain ⟨fa, fc, rfl⟩ : ∃ a c, f = .slice a 0 c := by (obtain ⟨_, a, c, e, _⟩ := hf; exact ⟨a, c, e⟩))
            go_ret3
            rw [HE.out]
            exact ⟨_, us, _, rfl, ((ho.below hb1).wide hb1.size).base hw0, World.ownsRow_nil _ _ _ _, by simp [Value.ownBlock], Nm.below_two hB0 (Nm.below_two hbel hb1)⟩
          · have HST := Nm.hide (HF.out.step (by omega) hz hyes)
            have hfl : ((S.drop 2).take (hdN S)).length = hdN S := by simp; omega
            have hrl : (S.drop (hdN S + 2)).length = S.length - (hdN S + 2) := by simp
            have HM : Hid (S.length - (hdN S + 2) < S.length) := by show _ < _; omega
            generalize (S.drop 2).take (hdN S) = F at *
            generalize S.drop (hdN S + 2) = R at *
            generalize hdN S = n at *
            have iz : ((n : Int) == 0) = false := by simpa using hz
            have hsw := hbel.size
            clear hno HF hyes
            have hshape : ∀ (W : World) (x : Value), BySl W x F → ∃ a c, x = .slice a n c := fun W x h => by obtain ⟨_, a, c, e, _⟩ := h; rw [hfl] at e; exact ⟨a, c, e⟩
            have hcn := fun (W : World) (x : Value) (h : BySl W x F) => cloneBy_any x F W h (by omega)
            rw [hfl] at hcn
            have HFL := Nm.hide hfl
            have HRL := Nm.hide hrl
            clear hfl hrl
            have hrs : ∀ (W : World) (x : Value), BySl W x R → ∃ a c, x = .slice a (S.length - (n + 2)) c := fun W x h => by obtain ⟨_, a, c, e, _⟩ := h; rw [HRL.out] at e; exact ⟨a, c, e⟩
            go_wp2_with (first | (go_at_call 15; refine hcl.mono ?_; rintro e w1 ⟨f, r, rfl, hfr, hb1⟩; have hf := (hfr _ (hS.below hb1)).1; have hr := (hfr _ hS).2; obtain ⟨fa, fc, rfl⟩ := hshape _ _ hf; obtain ⟨ra, rc, rfl⟩ := hrs _ _ hr; clear hcl hrs hshape) | (go_at_call 16; refine (hcn _ _ hf).mono ?_; rintro e w2 ⟨u, rfl, hu, hb2⟩; obtain ⟨ua, uc, rfl⟩ := own_sl hu; have hbA : Below w2.heap.size w2 (w2.alloc (.cells #[.slice ua n uc] 22)) := (Below.refl w2.heap.size w2).alloc (Nat.le_refl _) _; have hoA := own_below (own_below (own_below ho.outer hb1) hb2) hbA; have hs1 := hb1.size; have hs2 := hb2.size; have hul := HUL.out) | (at_builtin; refine wpList_append_own _ rfl (.tmp 41) (.tmp 44) 23 rfl w0.heap.size 22 i0 _ 1 24 Try.underlying23 hi hz0 hz1 hz2 rfl (by decide) _ _ _ rfl hoA ⟨w2.heap.size, 0, none⟩ 1 1 [.slice ua n uc] rfl rfl (cell_new1 _ _ _) (by intro u hu; simp at hu; subst hu; rfl) (by unfold maxLen; omega) (by omega) (by simp; omega) ?_; intro va9 wa9 hown9 hgrow9 hnl9; clear hnl9))
            have hu' : w2.ownsRow w1.heap.size 5 1 (.slice ua n uc) (Nm.bys F).length (Nm.bys F) := by rw [Nm.bys_length, HFL.out]; exact hu
            have hb2A := Nm.below_two hb2 hbA
            have hsn := (ho.below hb1).snoc hs1 (by omega) hb2A (own_below hu' hbA) hown9 hgrow9
            have hB9 : Below w0.heap.size w0 wa9 := (Nm.below_two (Nm.below_two hbel hb1) hb2A).grown hgrow9 (Nm.below_two (Nm.below_two hbel hb1) hb2A).size (fun k hk => (hoA.lt k hk).1)
            have hr9 : Hid (∀ W, BySl W v0 L → BySl W (.slice ra (S.length - (n + 2)) rc) R) := fun W h => (hfr W (HS.out W h)).2
            obtain ⟨xa, xc, rfl⟩ := own_sl hown9
            go_roundw
            case rel => exact ⟨_, _, R, HST, hr9, by rw [List.map_append]; exact hsn, hB9⟩
            case measure => exact HM.out
end Go.Proofs.Ytlgeeidbclnhbaa
