import Derived.Test.YtechmpdfbpehiaaGreatDoorJSdJ
import Derived.Test.YtechmpdfbpehiaaGreatDoorSShow
import Derived.Test.YtechmpdfbpehiaaGreatDoorTxt6
import Derived.Test.YtechmpdfbpehiaaGreatDoorJMath
import Derived.Test.YtechmpdfbpehiaaGreatDoorRows
import Derived.WalkSpells
import Derived.WalkLawsBesides
import Derived.Test.YtechmpdfbpehiaaGreatDoorJIShowTy
import Derived.Test.YtechmpdfbpehiaaGreatDoorBlocks
import Derived.Test.YtechmpdfbpehiaaGreatDoorJNameSz
/- spec.l03Shown by its contract. -/
namespace Go.Proofs.YtechmpdfbpehiaaGreatDoor
open Go.RowKit
set_option linter.unusedVariables false


theorem showText_len (s : ByteArray) : (showTextS s).size ≤ 4 * s.size + 2 := by
  show (34 :: qL s.data.toList ++ [34]).toArray.size ≤ _
  have := qL_len s.data.toList
  simp at this ⊢
  have e : s.data.size = s.size := rfl
  omega

theorem showText_pos (s : ByteArray) : (showTextS s).size ≠ 0 := by
  show (34 :: qL s.data.toList ++ [34]).toArray.size ≠ 0
  simp

set_option maxRecDepth 100000 in
set_option maxHeartbeats 1600000 in
theorem l03Shown_n (p : ByteArray) (w : World) (hp : p.size ≤ 1000000) :
    Calls Tryz.prog 35 #[.int .u8 110, .string p] w fun e w' => e = .returned (.string (Nm.showS p).1) ∧ Below w.heap.size w w' := by
  have h := specShowName_any p w (by unfold maxLen; omega)
  generalize (Nm.showS p).1 = T at *
  generalize (Nm.showS p).2 = C at *
  go_enter Tryz.func35, Tryz.ntmps35
  go_wp2_with (go_at_call 14; refine h.mono ?_; rintro e w1 ⟨rfl, hb1⟩)
  go_ret
  exact ⟨rfl, hb1⟩

set_option maxRecDepth 100000 in
set_option maxHeartbeats 1600000 in
theorem l03Shown_t (p : ByteArray) (w : World) (hp : p.size ≤ 1000000) (h1 : 1 ≤ p.size) :
    Calls Tryz.prog 35 #[.int .u8 116, .string p] w fun e w' => e = .returned (.string (showTextS (p.extract 1 p.size))) ∧ Below w.heap.size w w' := by
  have h := specShowText_any (p.extract 1 p.size) w (by simp; omega)
  have h1' : (1 : Int) ≤ (p.size : Int) := by omega
  generalize showTextS (p.extract 1 p.size) = T at *
  go_enter Tryz.func35, Tryz.ntmps35
  go_wp2_with (go_at_call 52; refine h.mono ?_; rintro e w1 ⟨rfl, hb1⟩)
  go_ret
  exact ⟨rfl, hb1⟩

theorem txt_form {p : ByteArray} (h0 : 0 < p.size) (h1 : 1 + b0 p ≤ p.size) : Dt.txtS p = p.extract 0 (1 + b0 p) := by
  unfold Dt.txtS
  rw [dif_pos h0, if_pos (by rw [← b0_eq h0]; omega), ← b0_eq h0, Nat.add_comm]

theorem txt_rest {p : ByteArray} (h0 : 0 < p.size) (h1 : 1 + b0 p ≤ p.size) : (Dt.txtS p).extract 1 (Dt.txtS p).size = p.extract 1 (1 + b0 p) := by
  rw [txt_form h0 h1]
  have : (p.extract 0 (1 + b0 p)).size = 1 + b0 p := by simp; omega
  rw [this]
  apply ba_ext
  simp [ByteArray.data_extract]

set_option maxRecDepth 100000 in
set_option maxHeartbeats 3200000 in
theorem l03Shown_s (fuel : Nat) (p : ByteArray) (w : World) (hp : p.size ≤ 100000) (hok : okMany fuel p) :
    Calls Tryz.prog 35 #[.int .u8 115, .string p] w fun e w' => e = .returned (.string (joinS (manyT fuel p))) ∧ Below w.heap.size w w' := by
  have htx := fun (q : ByteArray) (hq : q.size ≤ 100000) W => l02Text_any q W (by unfold maxLen; omega)
  have hst := fun (q : ByteArray) (hq : q.size ≤ 100000) W => specShowText_any q W (by omega)
  obtain ⟨A, HA⟩ : ∃ A, Hid (A = manyT fuel p) := ⟨_, rfl⟩
  rw [← HA.out]
  have HO : Hid (okMany fuel p) := hok
  clear hok
  go_enter Tryz.func35, Tryz.ntmps35
  go_wp2
  go_loopw [1, 7] (fun pv ov wr => ∃ (f : Nat) (r : ByteArray) (l : List ByteArray) (X : ByteArray), pv = .string r ∧ ov = .string X ∧ r.size ≤ 100000 ∧ X.size ≤ 2000000 - 10 * r.size ∧ Hid (X = joinS l) ∧ Hid (X.size = 0 ↔ l = []) ∧ Hid (okMany f r) ∧ Hid (A = l ++ manyT f r) ∧ Below w.heap.size w wr)
    (fun pv _ _ => strSize pv)
  case atStart => exact ⟨fuel, p, [], ⟨#[]⟩, rfl, rfl, hp, (show 0 ≤ _ by omega), rfl, ⟨fun _ => rfl, fun _ => rfl⟩, HO, by rw [Hid, HA.out]; rfl, Below.refl _ _⟩
  case round =>
    obtain ⟨f, r, l, X, rfl, rfl, hr, hX, HX, HE, HOr, HAr, hbel⟩ := hrel
    have hsz := hbel.size
    by_cases h0 : r.size = 0
    · obtain ⟨h0', h0''⟩ := beq_empty h0
      have hA := HAr.out
      rw [many_end h0, List.append_nil] at hA
      clear HOr HAr
      go_wp2
      go_ret
      rw [hA, ← HX.out]
      exact ⟨rfl, hbel⟩
    · obtain ⟨h0', h0''⟩ := not_empty (s := r) (by omega)
      obtain ⟨f', ⟨hp0, hp1⟩, ho2, hm⟩ := many_next h0 HOr.out
      have hA := HAr.out
      rw [hm] at hA
      have e1 := txt_rest hp0 hp1
      have e2 : (Dt.txtS r).size = 1 + b0 r := by rw [txt_form hp0 hp1]; simp; omega
      have hst2 : ∀ W, Calls Tryz.prog 52 #[.string ((Dt.txtS r).extract 1 (Dt.txtS r).size)] W fun e w' => e = .returned (.string (showTextS (r.extract 1 (1 + b0 r)))) ∧ Below W.heap.size W w' := fun W => by
        have h := hst ((Dt.txtS r).extract 1 (Dt.txtS r).size) (by simp; omega) W
        have e5 : showTextS ((Dt.txtS r).extract 1 (Dt.txtS r).size) = showTextS (r.extract 1 (1 + b0 r)) := by rw [e1]
        rw [e5] at h
        exact h
      have htx2 := fun W => htx r hr W
      have hyl := showText_len (r.extract 1 (1 + b0 r))
      have hyp := showText_pos (r.extract 1 (1 + b0 r))
      have hye : (r.extract 1 (1 + b0 r)).size = b0 r := by simp; omega
      rw [hye] at hyl
      have HA2 : Hid (A = (l ++ [showTextS (r.extract 1 (1 + b0 r))]) ++ manyT f' (r.extract (1 + b0 r) r.size)) := by rw [Hid, hA]; simp
      have HO2 : Hid (okMany f' (r.extract (1 + b0 r) r.size)) := ho2
      have HXS : Hid (∀ Y, l ≠ [] → joinS (l ++ [Y]) = X ++ ⟨#[32]⟩ ++ Y) := fun Y hn => by rw [joinS_snoc Y hn, HX.out]
      have e3 : (1 : Int) ≤ ((Dt.txtS r).size : Int) := by omega
      have e4 : ((Dt.txtS r).size : Int) ≤ (r.size : Int) := by omega
      generalize showTextS (r.extract 1 (1 + b0 r)) = Y at *
      rw [← e2] at HA2 HO2
      have hb0 : 1 + b0 r = (Dt.txtS r).size := e2.symm
      generalize Dt.txtS r = Tt at *
      generalize b0 r = q at *
      clear hp1 ho2 hm hA HOr HAr e1 hye
      by_cases hx0 : X.size = 0
      · obtain ⟨hx0', hx0''⟩ := beq_empty hx0
        have hl0 : l = [] := HE.out.1 hx0
        have ha1 : ∀ W, (Go.Op.stringOp .add X Y).run Tryz.prog W = .ok (.string (X ++ Y)) W := fun W => run_string_add_sum W _ _ (by omega)
        have hXe : X = ⟨#[]⟩ := by
          apply ba_ext
          have : X.data.size = 0 := hx0
          simp [Array.eq_empty_of_size_eq_zero this]
        have HN : Hid (X ++ Y = joinS (l ++ [Y])) := by
          rw [Hid, hl0, List.nil_append, joinS_one, hXe]
          apply ba_ext
          simp [ByteArray.data_append]
        have HNE : Hid ((X ++ Y).size = 0 ↔ l ++ [Y] = []) := by
          rw [Hid]
          refine ⟨fun h => ?_, fun h => by simp at h⟩
          simp only [ByteArray.size_append] at h
          omega
        have HNS : Hid ((X ++ Y).size ≤ 2000000 - 10 * (r.extract Tt.size r.size).size) := by rw [Hid]; simp; omega
        have HR : Hid ((r.extract Tt.size r.size).size ≤ 100000) := by rw [Hid]; simp; omega
        have HM : Hid ((r.extract Tt.size r.size).size < r.size) := by rw [Hid]; simp; omega
        clear hXe hl0 HE HX HXS e2 hb0 hyl hyp hp0
        generalize X ++ Y = Z at *
        go_wp2_with (first | (go_at_call 48; refine (htx2 _).mono ?_; rintro e w2 ⟨rfl, hw⟩; obtain rfl := hw.symm; clear hw) | (go_at_call 52; refine (hst2 _).mono ?_; rintro e w3 ⟨rfl, hb3⟩; have hb03 := hbel.trans (hb3.mono hsz)))
        go_roundw
        case rel => exact ⟨f', _, l ++ [Y], Z, rfl, rfl, HR.out, HNS.out, HN, HNE, HO2, HA2, hb03⟩
        case measure => exact HM.out
      · obtain ⟨hx0', hx0''⟩ := not_empty (s := X) (by omega)
        have hl0 : l ≠ [] := fun e => hx0 (HE.out.2 e)
        have ha0 : ∀ W, (Go.Op.stringOp .add X ⟨#[32]⟩).run Tryz.prog W = .ok (.string (X ++ ⟨#[32]⟩)) W := fun W => run_string_add_sum W _ _ (by have : (⟨#[32]⟩ : ByteArray).size = 1 := rfl; omega)
        have ha1 : ∀ W, (Go.Op.stringOp .add (X ++ ⟨#[32]⟩) Y).run Tryz.prog W = .ok (.string (X ++ ⟨#[32]⟩ ++ Y)) W := fun W => run_string_add_sum W _ _ (by have : (⟨#[32]⟩ : ByteArray).size = 1 := rfl; rw [ByteArray.size_append]; omega)
        have HN : Hid (X ++ ⟨#[32]⟩ ++ Y = joinS (l ++ [Y])) := (HXS.out Y hl0).symm
        have h32 : (⟨#[32]⟩ : ByteArray).size = 1 := rfl
        have HNE : Hid ((X ++ ⟨#[32]⟩ ++ Y).size = 0 ↔ l ++ [Y] = []) := by
          rw [Hid]
          refine ⟨fun h => ?_, fun h => by simp at h⟩
          simp only [ByteArray.size_append] at h
          omega
        have HNS : Hid ((X ++ ⟨#[32]⟩ ++ Y).size ≤ 2000000 - 10 * (r.extract Tt.size r.size).size) := by rw [Hid]; simp [h32]; omega
        have HR : Hid ((r.extract Tt.size r.size).size ≤ 100000) := by rw [Hid]; simp; omega
        have HM : Hid ((r.extract Tt.size r.size).size < r.size) := by rw [Hid]; simp; omega
        clear hl0 HE HX HXS h32 e2 hb0 hyl hyp hp0
        generalize X ++ ⟨#[32]⟩ ++ Y = Z at *
        generalize X ++ ⟨#[32]⟩ = X2 at *
        go_wp2_with (first | (go_at_call 48; refine (htx2 _).mono ?_; rintro e w2 ⟨rfl, hw⟩; obtain rfl := hw.symm; clear hw) | (go_at_call 52; refine (hst2 _).mono ?_; rintro e w3 ⟨rfl, hb3⟩; have hb03 := hbel.trans (hb3.mono hsz)))
        go_roundw
        case rel => exact ⟨f', _, l ++ [Y], Z, rfl, rfl, HR.out, HNS.out, HN, HNE, HO2, HA2, hb03⟩
        case measure => exact HM.out

set_option maxRecDepth 100000 in
set_option maxHeartbeats 1600000 in
theorem l03Shown_c (p : ByteArray) (w : World) (hp : p.size ≤ 100000) (h0 : 0 < p.size) (h1 : 1 + b0 p ≤ p.size) :
    Calls Tryz.prog 35 #[.int .u8 99, .string p] w fun e w' => e = .returned (.string (p.extract 1 (1 + b0 p) ++ ⟨#[32]⟩ ++ showTextS (p.extract (1 + b0 p) p.size))) ∧ Below w.heap.size w w' := by
  have htx := fun W => l02Text_any p W (by unfold maxLen; omega)
  have e1 := txt_rest h0 h1
  have e2 : (Dt.txtS p).size = 1 + b0 p := by rw [txt_form h0 h1]; simp; omega
  have hst := fun W => specShowText_any (p.extract (1 + b0 p) p.size) W (by simp; omega)
  have hyl := showText_len (p.extract (1 + b0 p) p.size)
  have e3 : (1 : Int) ≤ ((Dt.txtS p).size : Int) := by omega
  have e4 : ((Dt.txtS p).size : Int) ≤ (p.size : Int) := by omega
  have e6 : (p.extract (1 + b0 p) p.size).size ≤ 100000 := by simp; omega
  have e7 : ((Dt.txtS p).extract 1 (Dt.txtS p).size).size ≤ 100000 := by simp; omega
  have e8 : (⟨#[32]⟩ : ByteArray).size = 1 := rfl
  rw [← e1]
  rw [← e2] at hst hyl e6 ⊢
  generalize showTextS (p.extract (Dt.txtS p).size p.size) = Y at *
  have ha0 : ∀ W, (Go.Op.stringOp .add ((Dt.txtS p).extract 1 (Dt.txtS p).size) ⟨#[32]⟩).run Tryz.prog W = .ok (.string ((Dt.txtS p).extract 1 (Dt.txtS p).size ++ ⟨#[32]⟩)) W := fun W => run_string_add_sum W _ _ (by omega)
  have ha1 : ∀ W, (Go.Op.stringOp .add ((Dt.txtS p).extract 1 (Dt.txtS p).size ++ ⟨#[32]⟩) Y).run Tryz.prog W = .ok (.string ((Dt.txtS p).extract 1 (Dt.txtS p).size ++ ⟨#[32]⟩ ++ Y)) W := fun W => run_string_add_sum W _ _ (by rw [ByteArray.size_append]; omega)
  generalize (Dt.txtS p).extract 1 (Dt.txtS p).size ++ ⟨#[32]⟩ ++ Y = Z at *
  generalize (Dt.txtS p).extract 1 (Dt.txtS p).size ++ ⟨#[32]⟩ = Z0 at *
  clear e1 e2 e6 e7 e8 hyl h1
  generalize Dt.txtS p = Tt at *
  go_enter Tryz.func35, Tryz.ntmps35
  go_wp2_with (go_at_call 48; refine (htx _).mono ?_; rintro e w2 ⟨rfl, hw⟩; obtain rfl := hw.symm; clear hw)
  refine wp_region_held_drew (S := fun _ => True) (by kernel_rfl) trivial (fun hHeld => ?_)
  refine wpAnyH_take (i := 0) (v := ?_) rfl (by kernel_rfl) (by kernel_rfl) (by kernel_rfl) (fun _ _ _ h => h) (Or.inl ⟨by rfl, ?_⟩) trivial ?_
  rotate_left 1
  · (intro w hSw; go_simp; try (with_reducible rfl))
  refine wpAnyH_take (i := 1) (v := ?_) rfl (by kernel_rfl) (by kernel_rfl) (by kernel_rfl) (fun _ _ _ h => h) (Or.inl ⟨by rfl, ?_⟩) trivial ?_
  rotate_left 1
  · (intro w hSw; go_simp; try (with_reducible rfl))
  refine wpAnyH_take (i := 2) (v := ?_) rfl (by kernel_rfl) (by kernel_rfl) (by kernel_rfl) (fun _ _ _ h => h) (Or.inl ⟨by rfl, ?_⟩) trivial ?_
  rotate_left 1
  · (intro w hSw; go_simp; try (with_reducible rfl))
  refine wpAnyH_take (i := 3) (v := ?_) rfl (by kernel_rfl) (by kernel_rfl) (by kernel_rfl) (fun _ _ _ h => h) (Or.inl ⟨by rfl, ?_⟩) trivial ?_
  rotate_left 1
  · (intro w hSw; go_simp; try (with_reducible rfl))
  refine wpAnyH_take (i := 4) (v := ?_) rfl (by kernel_rfl) (by kernel_rfl) (by kernel_rfl) (fun _ _ _ h => h) (Or.inl ⟨by rfl, ?_⟩) trivial ?_
  rotate_left 1
  · (intro w hSw; go_simp; try (with_reducible rfl))
  refine wpAnyH_take (i := 5) (v := ?_) rfl (by kernel_rfl) (by kernel_rfl) (by kernel_rfl) (fun _ _ _ h => h) (Or.inl ⟨by rfl, ?_⟩) trivial ?_
  rotate_left 1
  · (intro w hSw; go_simp; try (with_reducible rfl))
  refine wpAnyH_take (i := 6) (v := ?_) rfl (by kernel_rfl) (by kernel_rfl) (by kernel_rfl) (fun _ _ _ h => h) (Or.inl ⟨by rfl, ?_⟩) trivial ?_
  rotate_left 1
  · (intro w hSw; go_simp; try (with_reducible rfl))
  refine wpAnyH_ready (rs := [7]) (by kernel_rfl) (by simp) ?_
  refine AllReadyH.cons rfl (fun K hK => ?_) AllReadyH.nil
  go_simp
  refine (hst _).mono ?_
  rintro e w3 ⟨rfl, hb3⟩
  go_wp2_with fail
  refine hK.out _ _ trivial (fun _ => ?_)
  clear hK K
  refine wpAnyH_take (i := 8) (v := ?_) rfl (by kernel_rfl) (by kernel_rfl) (by kernel_rfl) (fun _ _ _ h => h) (Or.inl ⟨by rfl, ?_⟩) trivial ?_
  rotate_left 1
  · (intro w hSw; go_simp; try (with_reducible rfl))
  refine wpAnyH_take (i := 9) (v := ?_) rfl (by kernel_rfl) (by kernel_rfl) (by kernel_rfl) (fun _ _ _ h => h) (Or.inl ⟨by rfl, ?_⟩) trivial ?_
  rotate_left 1
  · (intro w hSw; go_simp; try (with_reducible rfl))
  refine wpAnyH_done (by kernel_rfl) ?_ _
  go_wp2
  go_ret
  exact ⟨rfl, Nm.below_two ((Below.refl _ _).drew) hb3⟩
end Go.Proofs.YtechmpdfbpehiaaGreatDoor
/- impl.foldByte by its contract. -/
namespace Go.Proofs.YtechmpdfbpehiaaGreatDoor
open Go.RowKit

theorem ret_u8 {a b : Int} (h : a = b) : Ending.returned (.int .u8 a) = .returned (.int .u8 b) := by rw [h]

set_option maxRecDepth 100000 in
set_option maxHeartbeats 400000 in
theorem foldByte_any (c : UInt8) (w : World) :
    Calls Tryz.prog 162 #[.int .u8 c.toNat] w fun e w' => e = .returned (.int .u8 (Nm.low c).toNat) ∧ w' = w := by
  have hcl : (c.toNat : Int) < 256 := by have := c.toNat_lt; omega
  by_cases hup : 65 ≤ c.toNat ∧ c.toNat ≤ 90
  · have HL := Nm.hide (Nm.low_up hup)
    have d1 : decide ((65 : Int) ≤ (c.toNat : Int)) = true := by simp; omega
    have d2 : decide ((c.toNat : Int) ≤ 90) = true := by simp; omega
    have hb1 : (c.toNat : Int) ≤ 90 := by omega
    clear hup
    go_enter Tryz.func162, Tryz.ntmps162
    go_wp2
    go_ret
    rw [HL.out]
    exact ⟨rfl, rfl⟩
  · have HL := Nm.hide (Nm.low_id hup)
    by_cases hlo : 65 ≤ c.toNat
    · have d1 : decide ((65 : Int) ≤ (c.toNat : Int)) = true := by simp; omega
      have d2 : decide ((c.toNat : Int) ≤ 90) = false := by simp; omega
      clear hup
      go_enter Tryz.func162, Tryz.ntmps162
      go_wp2
      go_ret
      rw [HL.out]
      exact ⟨rfl, rfl⟩
    · have d1 : decide ((65 : Int) ≤ (c.toNat : Int)) = false := by simp; omega
      clear hup
      go_enter Tryz.func162, Tryz.ntmps162
      go_wp2
      go_ret
      rw [HL.out]
      exact ⟨rfl, rfl⟩

end Go.Proofs.YtechmpdfbpehiaaGreatDoor
/- impl.isDigit, isLetter, isTag by their contracts. -/
namespace Go.Proofs.YtechmpdfbpehiaaGreatDoor
open Go.RowKit

def digD (c : UInt8) : Bool := decide (48 ≤ c.toNat) && decide (c.toNat ≤ 57)
def letD (c : UInt8) : Bool := decide (97 ≤ (Nm.low c).toNat) && decide ((Nm.low c).toNat ≤ 122)

theorem alnum_or (c : UInt8) : Dt.alnumB c = (digD c || letD c) := by
  unfold Dt.alnumB digD letD Nm.low
  have hc := c.toNat_lt
  by_cases h : 65 ≤ c.toNat ∧ c.toNat ≤ 90
  · rw [if_pos h]
    have e : (UInt8.ofNat (c.toNat + 32)).toNat = c.toNat + 32 := by simp; omega
    rw [e, Bool.eq_iff_iff]
    simp
    omega
  · rw [if_neg h, Bool.eq_iff_iff]
    simp
    omega

set_option maxRecDepth 100000 in
set_option maxHeartbeats 400000 in
theorem isDigitD_any (c : UInt8) (w : World) :
    Calls Tryz.prog 137 #[.int .u8 c.toNat] w fun e w' => e = .returned (.bool (digD c)) ∧ w' = w := by
  by_cases h1 : 48 ≤ c.toNat
  · have d1 : decide ((48 : Int) ≤ (c.toNat : Int)) = true := by simp; omega
    have HE : Hid (digD c = decide ((c.toNat : Int) ≤ 57)) := by
      show _ = _
      rw [digD, decide_eq_true h1, Bool.true_and, Bool.eq_iff_iff]
      simp; omega
    go_enter Tryz.func137, Tryz.ntmps137
    go_wp2
    go_ret
    rw [HE.out]
    exact ⟨rfl, rfl⟩
  · have d1 : decide ((48 : Int) ≤ (c.toNat : Int)) = false := by simp; omega
    have HE : Hid (digD c = false) := by
      show _ = _
      rw [digD, decide_eq_false h1]; rfl
    go_enter Tryz.func137, Tryz.ntmps137
    go_wp2
    go_ret
    rw [HE.out]
    exact ⟨rfl, rfl⟩

set_option maxRecDepth 100000 in
set_option maxHeartbeats 400000 in
theorem isLetter_any (c : UInt8) (w : World) :
    Calls Tryz.prog 144 #[.int .u8 c.toNat] w fun e w' => e = .returned (.bool (letD c)) ∧ w' = w := by
  have hcall := foldByte_any c
  by_cases h1 : 97 ≤ (Nm.low c).toNat
  · have HE : Hid (letD c = decide (((Nm.low c).toNat : Int) ≤ 122)) := by
      show _ = _
      rw [letD, decide_eq_true h1, Bool.true_and, Bool.eq_iff_iff]
      simp; omega
    have d1 : decide ((97 : Int) ≤ ((Nm.low c).toNat : Int)) = true := by simp; omega
    go_enter Tryz.func144, Tryz.ntmps144
    go_wp2_with (go_at_call 162; refine (hcall _).mono ?_; rintro e w1 ⟨rfl, rfl⟩)
    go_ret
    rw [HE.out]
    exact ⟨rfl, rfl⟩
  · have d1 : decide ((97 : Int) ≤ ((Nm.low c).toNat : Int)) = false := by simp; omega
    have HE : Hid (letD c = false) := by
      show _ = _
      rw [letD, decide_eq_false h1]; rfl
    go_enter Tryz.func144, Tryz.ntmps144
    go_wp2_with (go_at_call 162; refine (hcall _).mono ?_; rintro e w1 ⟨rfl, rfl⟩)
    go_ret
    rw [HE.out]
    exact ⟨rfl, rfl⟩

def tagT (t : ByteArray) : Bool := t.data.toList.all Dt.alnumB && (decide (0 < t.size) && decide (t.size ≤ 15))

theorem tagT_bad {t : ByteArray} {j : Nat} (hj : j < t.size) (h : Dt.alnumB t[j] = false) : tagT t = false := by
  rw [tagT, Bool.and_eq_false_iff]
  left
  rw [List.all_eq_false]
  exact ⟨t[j], List.mem_of_getElem? (Nm.get_data hj), by simp [h]⟩
theorem tagT_good {t : ByteArray} (h : ∀ j, (hj : j < t.size) → Dt.alnumB t[j] = true) : tagT t = (decide (0 < t.size) && decide (t.size ≤ 15)) := by
  rw [tagT]
  have : t.data.toList.all Dt.alnumB = true := by
    rw [List.all_eq_true]
    intro c hc
    obtain ⟨i, hi⟩ := List.getElem?_of_mem hc
    have hl : i < t.size := by
      have := (List.getElem?_eq_some_iff.1 hi).1
      simpa using this
    rw [Nm.get_data hl] at hi
    simp at hi
    rw [← hi]
    exact h _ hl
  rw [this, Bool.true_and]

set_option maxRecDepth 100000 in
set_option maxHeartbeats 800000 in
theorem isTag_any (t : ByteArray) (w : World) (ht : t.size ≤ 1000000000) :
    Calls Tryz.prog 116 #[.string t] w fun e w' => e = .returned (.bool (tagT t)) ∧ w' = w := by
  go_enter Tryz.func116, Tryz.ntmps116
  go_wp2
  go_loop [6] (fun v => ∃ j : Nat, j ≤ t.size ∧ v = .int .i64 j ∧ ∀ i, i < j → (hi : i < t.size) → Dt.alnumB t[i] = true) (fun v => t.size - (intOf v).toNat)
  case atStart => exact ⟨0, by omega, rfl, fun i h => by omega⟩
  case round =>
    obtain ⟨j, hj, rfl, ha⟩ := hrel
    by_cases hlt : j < t.size
    · have hlt' : (j : Int) < (t.size : Int) := by omega
      have hd := isDigitD_any t[j]
      have hl := isLetter_any t[j]
      have hor := alnum_or t[j]
      cases hA : digD t[j] with
      | true =>
        have HJ : Hid (∀ i, i < j + 1 → (hi : i < t.size) → Dt.alnumB t[i] = true) := by
          show ∀ i, _
          intro i h2 h3
          by_cases e : i = j
          · subst e; rw [hor, hA]; rfl
          · exact ha i (by omega) h3
        rw [hA] at hd
        clear ha hor hA
        go_wp2_with (first | (go_at_call 137; refine (hd _).mono ?_; rintro e w2 ⟨rfl, hw⟩; obtain rfl : w = w2 := hw.symm; clear hw) | (go_at_call 144; refine (hl _).mono ?_; rintro e w2 ⟨rfl, hw⟩; obtain rfl : w = w2 := hw.symm; clear hw))
        go_round
        case rel => exact ⟨j + 1, by omega, by go_num, HJ.out⟩
        case measure => simp [intOf]; omega
      | false =>
        rw [hA] at hd
        cases hB : letD t[j] with
        | true =>
          have HJ : Hid (∀ i, i < j + 1 → (hi : i < t.size) → Dt.alnumB t[i] = true) := by
            show ∀ i, _
            intro i h2 h3
            by_cases e : i = j
            · subst e; rw [hor, hB]; simp
            · exact ha i (by omega) h3
          rw [hB] at hl
          clear ha hor hA hB
          go_wp2_with (first | (go_at_call 137; refine (hd _).mono ?_; rintro e w2 ⟨rfl, hw⟩; obtain rfl : w = w2 := hw.symm; clear hw) | (go_at_call 144; refine (hl _).mono ?_; rintro e w2 ⟨rfl, hw⟩; obtain rfl : w = w2 := hw.symm; clear hw))
          go_round
          case rel => exact ⟨j + 1, by omega, by go_num, HJ.out⟩
          case measure => simp [intOf]; omega
        | false =>
          have HT := Nm.hide (tagT_bad hlt (by rw [hor, hA, hB]; rfl))
          rw [hB] at hl
          clear ha hor hA hB
          go_wp2_with (first | (go_at_call 137; refine (hd _).mono ?_; rintro e w2 ⟨rfl, hw⟩; obtain rfl : w = w2 := hw.symm; clear hw) | (go_at_call 144; refine (hl _).mono ?_; rintro e w2 ⟨rfl, hw⟩; obtain rfl : w = w2 := hw.symm; clear hw))
          go_ret
          rw [HT.out]
          exact ⟨rfl, rfl⟩
    · have hlt' : (t.size : Int) ≤ (j : Int) := by omega
      have HT := Nm.hide (tagT_good (fun i h => ha i (by omega) h))
      clear ha
      by_cases h0 : 0 < t.size
      · have h0' : (0 : Int) < (t.size : Int) := by omega
        have HU : Hid (tagT t = decide ((t.size : Int) ≤ 15)) := by
          show _ = _
          rw [HT.out, decide_eq_true h0, Bool.true_and, Bool.eq_iff_iff]
          simp; omega
        clear HT
        go_wp2
        go_ret
        rw [HU.out]
        exact ⟨rfl, rfl⟩
      · have h0' : (t.size : Int) ≤ 0 := by omega
        have HU : Hid (tagT t = false) := by
          show _ = _
          rw [HT.out, decide_eq_false h0, Bool.false_and]
        clear HT
        go_wp2
        go_ret
        rw [HU.out]
        exact ⟨rfl, rfl⟩

theorem tag_of {d : ByteArray} {n : Nat} (hn : (Dt.txtS d).size = n) (_ : n ≠ 0) : tagT (d.extract 1 n) = Dt.tagB d := by
  have hle := Dt.txt_le d
  have he := Dt.txt_ext d
  rw [hn] at he
  have e1 : (d.extract 1 n).data.toList = (Dt.txtS d).data.toList.drop 1 := by
    rw [← he]
    simp only [ByteArray.data_extract, Array.toList_extract, List.extract_eq_take_drop]
    simp
    rw [← List.drop_one, ← List.drop_one, List.drop_take]
  have e2 : (d.extract 1 n).size = n - 1 := by simp; omega
  rw [tagT, Dt.tagB, e1, e2, hn, Bool.eq_iff_iff]
  simp
  constructor
  · rintro ⟨h1, h2, h3⟩; exact ⟨⟨by omega, by omega⟩, h1⟩
  · rintro ⟨⟨h1, h2⟩, h3⟩; exact ⟨h3, by omega, by omega⟩
end Go.Proofs.YtechmpdfbpehiaaGreatDoor
/- The pieces of the program's forms, each by its contract. -/
namespace Go.Proofs.YtechmpdfbpehiaaGreatDoor
open Go.RowKit

/-- What a piece answers: its size, and whether it stands there. -/
def Took (p : Dt.Pc) (d : ByteArray) (w : World) (e : Ending) (w' : World) : Prop :=
  ∃ m : Nat, e = .returned (.tuple #[.int .i64 (m : Int), .bool (Dt.sz p d).isSome]) ∧ (∀ n, Dt.sz p d = some n → n = m) ∧ Below w.heap.size w w'

theorem took_none {p : Dt.Pc} {d : ByteArray} (h : Dt.sz p d = none) {w w' : World} (m : Nat) (hb : Below w.heap.size w w') : Took p d w (.returned (.tuple #[.int .i64 (m : Int), .bool false])) w' :=
  ⟨m, by rw [h]; rfl, (fun n hn => by rw [h] at hn; cases hn), hb⟩
theorem took_some {p : Dt.Pc} {d : ByteArray} {m : Nat} (h : Dt.sz p d = some m) {w w' : World} (hb : Below w.heap.size w w') : Took p d w (.returned (.tuple #[.int .i64 (m : Int), .bool true])) w' :=
  ⟨m, by rw [h]; rfl, (fun n hn => by rw [h] at hn; cases hn; rfl), hb⟩

theorem Took.no {p : Dt.Pc} {d : ByteArray} {w w' : World} {e : Ending} (h : Took p d w e w') (hq : Dt.sz p d = none) : ∃ m : Nat, e = .returned (.tuple #[.int .i64 (m : Int), .bool false]) ∧ Below w.heap.size w w' := by
  obtain ⟨m, he, _, hb⟩ := h
  rw [hq] at he
  exact ⟨m, he, hb⟩
theorem Took.yes {p : Dt.Pc} {d : ByteArray} {w w' : World} {e : Ending} {n : Nat} (h : Took p d w e w') (hq : Dt.sz p d = some n) : e = .returned (.tuple #[.int .i64 (n : Int), .bool true]) ∧ Below w.heap.size w w' := by
  obtain ⟨m, he, hm, hb⟩ := h
  obtain rfl := hm n hq
  rw [hq] at he
  exact ⟨he, hb⟩

set_option maxRecDepth 100000 in
set_option maxHeartbeats 400000 in
theorem takeName_any (d : ByteArray) (w : World) :
    Calls Tryz.prog 194 #[.agg #[], .string d] w (Took .nm d w) := by
  have hcall := nameSize_any d
  go_enter Tryz.func194, Tryz.ntmps194
  cases hq : Dt.sz .nm d with
  | none =>
    have HQ := Nm.hide hq
    rw [hq] at hcall
    simp only [szV, Option.getD_none, Option.isSome_none] at hcall
    clear hq
    go_wp2_with (go_at_call 53; refine (hcall _).mono ?_; rintro e w1 ⟨rfl, rfl⟩)
    go_ret2
    exact took_none HQ.out 0 ((Below.refl _ _).alloc (Nat.le_refl _) _)
  | some m =>
    have HQ := Nm.hide hq
    rw [hq] at hcall
    simp only [szV, Option.getD_some, Option.isSome_some] at hcall
    clear hq
    go_wp2_with (go_at_call 53; refine (hcall _).mono ?_; rintro e w1 ⟨rfl, rfl⟩)
    go_ret2
    exact took_some HQ.out ((Below.refl _ _).alloc (Nat.le_refl _) _)

set_option maxRecDepth 100000 in
set_option maxHeartbeats 400000 in
theorem takeBytes_any (n : Nat) (d : ByteArray) (w : World) :
    Calls Tryz.prog 193 #[.int .i64 (n : Int), .string d] w (Took (.bs n) d w) := by
  by_cases h : n ≤ d.size
  · have HQ : Hid (Dt.sz (.bs n) d = some n) := by show _ = _; rw [Dt.sz, if_pos h]
    have h' : (n : Int) ≤ (d.size : Int) := by omega
    go_enter Tryz.func193, Tryz.ntmps193
    go_wp2
    go_ret2
    exact took_some HQ.out (Below.refl _ _)
  · have HQ : Hid (Dt.sz (.bs n) d = none) := by show _ = _; rw [Dt.sz, if_neg h]
    have h' : (d.size : Int) < (n : Int) := by omega
    go_enter Tryz.func193, Tryz.ntmps193
    go_wp2
    go_ret2
    exact took_none HQ.out n (Below.refl _ _)

theorem tx_short {d : ByteArray} (h : 0 < d.size) (h1 : d.size < 1 + d[0].toNat) : Dt.sz .tx d = none := by
  have e : Dt.txtS d = ByteArray.empty := by rw [Dt.txtS, dif_pos h, if_neg (by omega)]
  rw [Dt.sz, e]; rfl
theorem tx_good {d : ByteArray} (h : 0 < d.size) (h1 : 1 + d[0].toNat ≤ d.size) : Dt.sz .tx d = some (1 + d[0].toNat) := by
  have e : Dt.txtS d = d.extract 0 (d[0].toNat + 1) := by rw [Dt.txtS, dif_pos h, if_pos (by omega)]
  have e1 : (Dt.txtS d).size = 1 + d[0].toNat := by rw [e]; simp; omega
  rw [Dt.sz, if_neg (by omega), e1]
theorem tx_none {d : ByteArray} (h : d.size = 0) : Dt.sz .tx d = none := by
  have e : Dt.txtS d = ByteArray.empty := by rw [Dt.txtS, dif_neg (by omega)]
  rw [Dt.sz, e]; rfl

set_option maxRecDepth 100000 in
set_option maxHeartbeats 400000 in
theorem takeText_any (d : ByteArray) (w : World) (hd : d.size ≤ 1000000000) :
    Calls Tryz.prog 196 #[.agg #[], .string d] w (Took .tx d w) := by
  by_cases h0 : d.size = 0
  · have HQ := Nm.hide (tx_none h0)
    obtain ⟨e1, e2⟩ := beq_empty h0
    clear h0
    go_enter Tryz.func196, Tryz.ntmps196
    go_wp2
    go_ret2
    exact took_none HQ.out 0 ((Below.refl _ _).alloc (Nat.le_refl _) _)
  · have hp : 0 < d.size := by omega
    have hp' : (0 : Int) < (d.size : Int) := by omega
    obtain ⟨e1, e2⟩ := not_empty hp
    have hc : (d[0].toNat : Int) < 256 := by have := d[0].toNat_lt; omega
    by_cases h1 : 1 + d[0].toNat ≤ d.size
    · have HQ := Nm.hide (tx_good hp h1)
      have h1' : (1 : Int) + (d[0].toNat : Int) ≤ (d.size : Int) := by omega
      clear h0
      go_enter Tryz.func196, Tryz.ntmps196
      go_wp2
      go_ret2
      exact took_some HQ.out ((Below.refl _ _).alloc (Nat.le_refl _) _)
    · have HQ := Nm.hide (tx_short hp (by omega))
      have h1' : (d.size : Int) < (1 : Int) + (d[0].toNat : Int) := by omega
      have h1b : decide ((1 : Int) + (d[0].toNat : Int) ≤ (d.size : Int)) = false := by simp; omega
      clear h0
      go_enter Tryz.func196, Tryz.ntmps196
      go_wp2
      go_ret2
      exact took_none HQ.out (1 + d[0].toNat) ((Below.refl _ _).alloc (Nat.le_refl _) _)

set_option maxRecDepth 100000 in
set_option maxHeartbeats 400000 in
theorem takeRest_any (d : ByteArray) (w : World) :
    Calls Tryz.prog 198 #[.agg #[], .string d] w (Took .rs d w) := by
  have HQ : Hid (Dt.sz .rs d = some d.size) := rfl
  go_enter Tryz.func198, Tryz.ntmps198
  go_wp2
  go_ret2
  exact took_some HQ.out ((Below.refl _ _).alloc (Nat.le_refl _) _)

set_option maxRecDepth 100000 in
set_option maxHeartbeats 400000 in
theorem takeMap_any (d : ByteArray) (w : World) (hd : d.size ≤ 2000000) :
    Calls Tryz.prog 199 #[.agg #[], .string d] w (Took .mp d w) := by
  have hcall := fun w => mapBlocks_any d w hd
  cases hM : mapS d with
  | true =>
    have HQ : Hid (Dt.sz .mp d = some d.size) := by show _ = _; rw [Dt.sz, hM]; rfl
    rw [hM] at hcall
    clear hM
    go_enter Tryz.func199, Tryz.ntmps199
    go_wp2_with (go_at_call 147; refine (hcall _).mono ?_; rintro e w1 ⟨v, rfl, _, hbel⟩; have HB : Hid (Below w.heap.size w w1) := Nm.below_two ((Below.refl _ _).alloc (Nat.le_refl _) _) hbel; clear hbel)
    go_ret2
    exact took_some HQ.out HB.out
  | false =>
    have HQ : Hid (Dt.sz .mp d = none) := by show _ = _; rw [Dt.sz, hM]; rfl
    rw [hM] at hcall
    clear hM
    go_enter Tryz.func199, Tryz.ntmps199
    go_wp2_with (go_at_call 147; refine (hcall _).mono ?_; rintro e w1 ⟨v, rfl, _, hbel⟩; have HB : Hid (Below w.heap.size w w1) := Nm.below_two ((Below.refl _ _).alloc (Nat.le_refl _) _) hbel; clear hbel)
    go_ret2
    exact took_none HQ.out _ HB.out
end Go.Proofs.YtechmpdfbpehiaaGreatDoor
