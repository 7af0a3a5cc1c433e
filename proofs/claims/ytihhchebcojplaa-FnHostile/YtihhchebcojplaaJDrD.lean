import Derived.Test.YtihhchebcojplaaJDrT
import Derived.Test.YtihhchebcojplaaJSTypeM
import Derived.Test.YtihhchebcojplaaJUnderM
import Derived.Test.YtihhchebcojplaaJParts
import Derived.Test.YtihhchebcojplaaJDataM
/- spec.l02Data by its contract. -/
namespace Go.Proofs.Ytihhchebcojplaa
open Go.RowKit
set_option linter.unusedVariables false

theorem wtL_take (cs : List UInt8) (k : Nat) : wtL (cs.take k) ≤ wtL cs := by
  have e : wtL cs = wtL (cs.take k) + wtL (cs.drop k) := by
    simp only [wtL]
    rw [← List.sum_append, ← List.map_append, List.take_append_drop]
  omega

set_option maxRecDepth 100000 in
set_option maxHeartbeats 3200000 in
theorem l02Data_any (t : Nat) (ht : t ∈ drTs) (g : Nat) (a : Option Addr) (n cap : Nat) (w : World) (h : Src w g a n cap) :
    Calls Try.prog 52 #[.pointer (some ⟨g, 0, none⟩), .int .i64 (t : Int)] w fun e w' => ∃ d : ByteArray, e = .returned (.string d) ∧ d.size ≤ 60000 ∧ (pointed t → cutCode t d = 0) ∧ Src w' g a n cap ∧ w.grownBy w' (some g) := by
  have hform := l02Form_any t
  obtain ⟨hf1, hf2⟩ := form_ok t
  have hwt := form_wt ht
  have hend : ∀ xs, LOK (Dt.formS t).data.toList xs → (bA (Dt.catL xs)).size ≤ 60000 → pointed t → cutCode t (bA (Dt.catL xs)) = 0 := fun xs h1 h2 h3 => code_drawn ht h3 h1 (by omega)
  generalize Dt.formS t = f at *
  go_enter Try.func52, Try.ntmps52
  go_wp2_with (go_at_call 47; refine (hform _).mono ?_; rintro e wx ⟨rfl, hwx⟩; obtain rfl := hwx.symm; clear hwx)
  go_loopw [6, 7] (fun o i wr => ∃ (k : Nat) (xs : List ByteArray), k ≤ f.size ∧ i = .int .i64 k ∧ o = .string (bA (Dt.catL xs)) ∧ (bA (Dt.catL xs)).size ≤ wtL (f.data.toList.take k) ∧ LOK (f.data.toList.take k) xs ∧ Src wr g a n cap ∧ w.grownBy wr (some g)) (fun _ i _ => f.size - (intOf i).toNat)
  case atStart => exact ⟨0, [], Nat.zero_le _, rfl, rfl, Nat.zero_le _, trivial, h, World.grownBy.refl _ _⟩
  case round =>
    obtain ⟨k, xs, hk, rfl, rfl, hsz, hlok, hsrc, hgr⟩ := hrel
    clear h hform
    have hwk : wtL (f.data.toList.take k) ≤ 60000 := Nat.le_trans (wtL_take _ k) hwt
    by_cases hlt : k < f.size
    · have hlt' : (k : Int) < (f.size : Int) := by omega
      have HT : Hid (f.data.toList.take (k + 1) = f.data.toList.take k ++ [f[k]]) := by
        show _ = _
        rw [List.take_add_one, Nm.get_data hlt]
        rfl
      rcases hf2 k hlt with hc | hc | hc | hc | hc | hc | hc
      · skip
        have hv : f[k].toNat = 110 := by rw [hc]; rfl
        have q0 : ((f[k].toNat : Int) == 110) = true := by rw [beq_iff_eq]; omega
        have hw : letW f[k] = 800 := by rw [hc]; rfl
        have hB : ∀ x : ByteArray, f[k] = 98 → x.size = 1 := fun x e => by rw [hc] at e; exact absurd e (by decide)
        clear hf2 hend
        generalize hD : bA (Dt.catL xs) = D at *
        go_wp2_with (
          go_at_call 26
          refine (l01NameV_any g a n cap _ hsrc).mono ?_
          rintro e w3 ⟨x, rfl, hx, hsE, hg3⟩
          have hgE := grown_step hgr hg3
          have hxz := name_short hx
          have hfit : D.size + x.size ≤ 9223372036854775807 := by omega)
        go_roundw
        case rel => exact ⟨k + 1, xs ++ [x], by omega, by go_num, by rw [cat_snoc, hD], by rw [HT.out, wtL_snoc, cat_snoc, hD, ByteArray.size_append]; omega, by rw [HT.out]; exact hlok.snoc (fun _ => hx) (hB x), hsE, hgE⟩
        case measure => simp [intOf]; omega
      · skip
        have hv : f[k].toNat = 98 := by rw [hc]; rfl
        have q0 : ((f[k].toNat : Int) == 110) = false := by rw [beq_eq_false_iff_ne]; omega
        have q1 : ((f[k].toNat : Int) == 98) = true := by rw [beq_iff_eq]; omega
        have hw : letW f[k] = 800 := by rw [hc]; rfl
        have hA : ∀ x : ByteArray, f[k] = 110 → (Nm.split x).isSome = true := fun x e => by rw [hc] at e; exact absurd e (by decide)
        clear hf2 hend
        generalize hD : bA (Dt.catL xs) = D at *
        go_wp2_with fail
        refine (l01Next_any g a n cap 3 _ hsrc (by decide)).mono ?_
        rintro e w3 ⟨r, rfl, hr0, hr1, hs3, hg3⟩
        have hgg3 := grown_step hgr hg3
        by_cases hz : r = 0
        · subst hz
          go_wp2_with (
            go_at_call 51
            refine (l01Bytes_any g a n cap 1 _ hs3 (by decide) (by decide)).mono ?_
            rintro e w4 ⟨x, rfl, hx, hsE, hg4⟩
            have hgE := grown_step hgg3 hg4
            have hfit : D.size + x.size ≤ 9223372036854775807 := by omega)
          go_roundw
          case rel => exact ⟨k + 1, xs ++ [x], by omega, by go_num, by rw [cat_snoc, hD], by rw [HT.out, wtL_snoc, cat_snoc, hD, ByteArray.size_append]; omega, by rw [HT.out]; exact hlok.snoc (hA x) (fun _ => by omega), hsE, hgE⟩
          case measure => simp [intOf]; omega
        · have hz' : (r == 0) = false := by rw [beq_eq_false_iff_ne]; exact hz
          have hsE := hs3
          have hgE := hgg3
          have hx1 : (⟨#[0]⟩ : ByteArray).size = 1 := rfl
          have hfit : D.size + 1 ≤ 9223372036854775807 := by omega
          go_wp2
          go_roundw
          case rel => exact ⟨k + 1, xs ++ [(⟨#[0]⟩ : ByteArray)], by omega, by go_num, by rw [cat_snoc, hD], by rw [HT.out, wtL_snoc, cat_snoc, hD, ByteArray.size_append]; omega, by rw [HT.out]; exact hlok.snoc (hA ⟨#[0]⟩) (fun _ => rfl), hsE, hgE⟩
          case measure => simp [intOf]; omega
      · skip
        have hv : f[k].toNat = 116 := by rw [hc]; rfl
        have q0 : ((f[k].toNat : Int) == 110) = false := by rw [beq_eq_false_iff_ne]; omega
        have q1 : ((f[k].toNat : Int) == 98) = false := by rw [beq_eq_false_iff_ne]; omega
        have q2 : ((f[k].toNat : Int) == 116) = true := by rw [beq_iff_eq]; omega
        have hw : letW f[k] = 800 := by rw [hc]; rfl
        have hA : ∀ x : ByteArray, f[k] = 110 → (Nm.split x).isSome = true := fun x e => by rw [hc] at e; exact absurd e (by decide)
        have hB : ∀ x : ByteArray, f[k] = 98 → x.size = 1 := fun x e => by rw [hc] at e; exact absurd e (by decide)
        clear hf2 hend
        generalize hD : bA (Dt.catL xs) = D at *
        go_wp2_with (
          go_at_call 73
          refine (l02Short_any g a n cap _ hsrc).mono ?_
          rintro e w3 ⟨x, rfl, hx1, hx2, hsE, hg3⟩
          have hgE := grown_step hgr hg3
          have hfit : D.size + x.size ≤ 9223372036854775807 := by omega)
        go_roundw
        case rel => exact ⟨k + 1, xs ++ [x], by omega, by go_num, by rw [cat_snoc, hD], by rw [HT.out, wtL_snoc, cat_snoc, hD, ByteArray.size_append]; omega, by rw [HT.out]; exact hlok.snoc (hA x) (hB x), hsE, hgE⟩
        case measure => simp [intOf]; omega
      · skip
        have hv : f[k].toNat = 115 := by rw [hc]; rfl
        have q0 : ((f[k].toNat : Int) == 110) = false := by rw [beq_eq_false_iff_ne]; omega
        have q1 : ((f[k].toNat : Int) == 98) = false := by rw [beq_eq_false_iff_ne]; omega
        have q2 : ((f[k].toNat : Int) == 116) = false := by rw [beq_eq_false_iff_ne]; omega
        have q3 : ((f[k].toNat : Int) == 115) = true := by rw [beq_iff_eq]; omega
        have hw : letW f[k] = 800 := by rw [hc]; rfl
        have hA : ∀ x : ByteArray, f[k] = 110 → (Nm.split x).isSome = true := fun x e => by rw [hc] at e; exact absurd e (by decide)
        have hB : ∀ x : ByteArray, f[k] = 98 → x.size = 1 := fun x e => by rw [hc] at e; exact absurd e (by decide)
        clear hf2 hend
        generalize hD : bA (Dt.catL xs) = D at *
        go_wp2_with fail
        refine (l01Next_any g a n cap 3 _ hsrc (by decide)).mono ?_
        rintro e w3 ⟨r, rfl, hr0, hr1, hs3, hg3⟩
        have hr2 := hr1 (by decide)
        obtain ⟨r, rfl⟩ := Int.eq_ofNat_of_zero_le hr0
        have hgg3 := grown_step hgr hg3
        clear hr1 hg3
        go_wp2
        go_loopw [6, 9] (fun o i wr => ∃ (j : Nat) (y : ByteArray), j ≤ 1 + r ∧ i = .int .i64 j ∧ o = .string (D ++ y) ∧ y.size ≤ 257 * j ∧ Src wr g a n cap ∧ w.grownBy wr (some g)) (fun _ i _ => 1 + r - (intOf i).toNat)
        case atStart => exact ⟨0, ByteArray.empty, by omega, rfl, by simp, by decide, hs3, hgg3⟩
        case round =>
          obtain ⟨j, y, hj, rfl, rfl, hy, hs5, hg5⟩ := hrel
          clear hs3 hgg3
          by_cases hlj : j < 1 + r
          · have hlj' : (j : Int) < 1 + (r : Int) := by omega
            go_wp2_with (
              go_at_call 73
              refine (l02Short_any g a n cap _ hs5).mono ?_
              rintro e w6 ⟨x, rfl, hx1, hx2, hs6, hg6⟩
              have hg56 := grown_step hg5 hg6
              have hfit : (D ++ y).size + x.size ≤ 9223372036854775807 := by rw [ByteArray.size_append]; omega)
            go_roundw
            case rel => exact ⟨j + 1, y ++ x, by omega, by go_num, by rw [ByteArray.append_assoc], by rw [ByteArray.size_append]; omega, hs6, hg56⟩
            case measure => simp [intOf]; omega
          · obtain rfl : j = 1 + r := by omega
            have hsE := hs5
            have hgE := hg5
            go_wp2
            go_roundw
            case rel => exact ⟨k + 1, xs ++ [y], by omega, by go_num, by rw [cat_snoc, hD], by rw [HT.out, wtL_snoc, cat_snoc, hD, ByteArray.size_append]; omega, by rw [HT.out]; exact hlok.snoc (hA y) (hB y), hsE, hgE⟩
            case measure => simp [intOf]; omega
      · skip
        have hv : f[k].toNat = 99 := by rw [hc]; rfl
        have q0 : ((f[k].toNat : Int) == 110) = false := by rw [beq_eq_false_iff_ne]; omega
        have q1 : ((f[k].toNat : Int) == 98) = false := by rw [beq_eq_false_iff_ne]; omega
        have q2 : ((f[k].toNat : Int) == 116) = false := by rw [beq_eq_false_iff_ne]; omega
        have q3 : ((f[k].toNat : Int) == 115) = false := by rw [beq_eq_false_iff_ne]; omega
        have q4 : ((f[k].toNat : Int) == 99) = true := by rw [beq_iff_eq]; omega
        have hw : letW f[k] = 800 := by rw [hc]; rfl
        have hA : ∀ x : ByteArray, f[k] = 110 → (Nm.split x).isSome = true := fun x e => by rw [hc] at e; exact absurd e (by decide)
        have hB : ∀ x : ByteArray, f[k] = 98 → x.size = 1 := fun x e => by rw [hc] at e; exact absurd e (by decide)
        clear hf2 hend
        generalize hD : bA (Dt.catL xs) = D at *
        go_wp2_with (
          go_at_call 73
          refine (l02Short_any g a n cap _ hsrc).mono ?_
          rintro e w3 ⟨x, rfl, hx1, hx2, hsE, hg3⟩
          have hgE := grown_step hgr hg3
          have hx1' : (1 : Int) ≤ (x.size : Int) := by omega
          have hxe : (x.extract 1 x.size).size = x.size - 1 := by simp
          have hd5 : (⟨#[5]⟩ : ByteArray).size = 1 := rfl
          have hdi : (⟨#[105, 115, 115, 117, 101]⟩ : ByteArray).size = 5 := rfl)
        go_roundw
        case rel => exact ⟨k + 1, xs ++ [⟨#[5]⟩ ++ (⟨#[105, 115, 115, 117, 101]⟩ ++ x.extract 1 x.size)], by omega, by go_num, by rw [cat_snoc, hD, ByteArray.append_assoc, ByteArray.append_assoc], by rw [HT.out, wtL_snoc, cat_snoc, hD, ByteArray.size_append, ByteArray.size_append, ByteArray.size_append]; omega, by rw [HT.out]; exact hlok.snoc (hA _) (hB _), hsE, hgE⟩
        case measure => simp [intOf]; omega
      · skip
        have hv : f[k].toNat = 109 := by rw [hc]; rfl
        have q0 : ((f[k].toNat : Int) == 110) = false := by rw [beq_eq_false_iff_ne]; omega
        have q1 : ((f[k].toNat : Int) == 98) = false := by rw [beq_eq_false_iff_ne]; omega
        have q2 : ((f[k].toNat : Int) == 116) = false := by rw [beq_eq_false_iff_ne]; omega
        have q3 : ((f[k].toNat : Int) == 115) = false := by rw [beq_eq_false_iff_ne]; omega
        have q4 : ((f[k].toNat : Int) == 99) = false := by rw [beq_eq_false_iff_ne]; omega
        have q5 : ((f[k].toNat : Int) == 109) = true := by rw [beq_iff_eq]; omega
        have hw : letW f[k] = 8704 := by rw [hc]; rfl
        have hA : ∀ x : ByteArray, f[k] = 110 → (Nm.split x).isSome = true := fun x e => by rw [hc] at e; exact absurd e (by decide)
        have hB : ∀ x : ByteArray, f[k] = 98 → x.size = 1 := fun x e => by rw [hc] at e; exact absurd e (by decide)
        clear hf2 hend
        generalize hD : bA (Dt.catL xs) = D at *
        go_wp2_with (
          go_at_call 74
          refine (l02DrawMap_any g a n cap _ hsrc).mono ?_
          rintro e w3 ⟨x, rfl, hx2, hsE, hg3⟩
          have hgE := grown_step hgr hg3
          have hfit : D.size + x.size ≤ 9223372036854775807 := by omega)
        go_roundw
        case rel => exact ⟨k + 1, xs ++ [x], by omega, by go_num, by rw [cat_snoc, hD], by rw [HT.out, wtL_snoc, cat_snoc, hD, ByteArray.size_append]; omega, by rw [HT.out]; exact hlok.snoc (hA x) (hB x), hsE, hgE⟩
        case measure => simp [intOf]; omega
      · skip
        have hv : f[k].toNat = 42 := by rw [hc]; rfl
        have q0 : ((f[k].toNat : Int) == 110) = false := by rw [beq_eq_false_iff_ne]; omega
        have q1 : ((f[k].toNat : Int) == 98) = false := by rw [beq_eq_false_iff_ne]; omega
        have q2 : ((f[k].toNat : Int) == 116) = false := by rw [beq_eq_false_iff_ne]; omega
        have q3 : ((f[k].toNat : Int) == 115) = false := by rw [beq_eq_false_iff_ne]; omega
        have q4 : ((f[k].toNat : Int) == 99) = false := by rw [beq_eq_false_iff_ne]; omega
        have q5 : ((f[k].toNat : Int) == 109) = false := by rw [beq_eq_false_iff_ne]; omega
        have q6 : ((f[k].toNat : Int) == 42) = true := by rw [beq_iff_eq]; omega
        have hw : letW f[k] = 800 := by rw [hc]; rfl
        have hA : ∀ x : ByteArray, f[k] = 110 → (Nm.split x).isSome = true := fun x e => by rw [hc] at e; exact absurd e (by decide)
        have hB : ∀ x : ByteArray, f[k] = 98 → x.size = 1 := fun x e => by rw [hc] at e; exact absurd e (by decide)
        clear hf2 hend
        generalize hD : bA (Dt.catL xs) = D at *
        go_wp2_with first
          | (
            go_at_call 12
            refine (l01Next_any g a n cap 12 _ hsrc (by decide)).mono ?_
            rintro e w3 ⟨r, rfl, hr0, hr1, hs3, hg3⟩
            have hr2 := hr1 (by decide)
            have hgg3 := grown_step hgr hg3)
          | (
            go_at_call 51
            refine (l01Bytes_any g a n cap r _ hs3 (by omega) (by omega)).mono ?_
            rintro e w4 ⟨x, rfl, hx, hsE, hg4⟩
            have hgE := grown_step hgg3 hg4
            have hfit : D.size + x.size ≤ 9223372036854775807 := by omega)
        go_roundw
        case rel => exact ⟨k + 1, xs ++ [x], by omega, by go_num, by rw [cat_snoc, hD], by rw [HT.out, wtL_snoc, cat_snoc, hD, ByteArray.size_append]; omega, by rw [HT.out]; exact hlok.snoc (hA x) (hB x), hsE, hgE⟩
        case measure => simp [intOf]; omega
    · obtain rfl : k = f.size := by omega
      have hall : f.data.toList.take f.size = f.data.toList := List.take_of_length_le (by simp)
      rw [hall] at hsz hlok
      have hE := hend xs hlok (by omega)
      generalize bA (Dt.catL xs) = D at *
      have i1 : (f.size : Int) ≤ (f.size : Int) := by omega
      go_wp2
      go_ret
      exact ⟨_, rfl, by omega, hE, hsrc, hgr⟩
end Go.Proofs.Ytihhchebcojplaa
/- spec.l04RR and spec.l04Bool by their contracts. -/
namespace Go.Proofs.Ytihhchebcojplaa
open Go.RowKit
set_option linter.unusedVariables false

theorem grown_set (w : World) (b i : Nat) (v : Value) : w.grownBy (w.setCell ⟨b, i, none⟩ v) (some b) :=
  ⟨rfl, rfl, rfl, by simp, fun k hk hne => heap_setCell_other w ⟨b, i, none⟩ k v (by intro e; exact hne (by simp at e; rw [e]))⟩

set_option maxRecDepth 100000 in
set_option maxHeartbeats 400000 in
theorem l04Bool_any (g : Nat) (a : Option Addr) (n cap : Nat) (w : World) (h : Src w g a n cap) :
    Calls Try.prog 25 #[.pointer (some ⟨g, 0, none⟩)] w fun e w' => ∃ b : Bool, e = .returned (.bool b) ∧ Src w' g a n cap ∧ w.grownBy w' (some g) := by
  go_enter Try.func25, Try.ntmps25
  go_wp2_with (
    go_at_call 12
    refine (l01Next_any g a n cap 2 _ h (by decide)).mono ?_
    rintro e w1 ⟨r, rfl, hr0, hr1, hs1, hg1⟩)
  go_ret
  exact ⟨_, rfl, hs1, hg1⟩

set_option maxRecDepth 100000 in
set_option maxHeartbeats 1600000 in
theorem l04RR_any (g : Nat) (a : Option Addr) (n cap : Nat) (w : World) (h : Src w g a n cap) :
    Calls Try.prog 28 #[.pointer (some ⟨g, 0, none⟩)] w fun e w' => ∃ r : Rr, e = .returned (.agg #[.string r.own, .int .i64 r.ty, .int .i64 r.cl, .int .i64 r.tt, .string r.da]) ∧ rcW r ∧ Src w' g a n cap ∧ w.grownBy w' (some g) := by
  obtain ⟨hcode, hglt⟩ := src_code h
  have hA := src_below h ((Below.refl _ _).alloc (Nat.le_refl _) (.cells #[.string ByteArray.empty, .int .i64 0, .int .i64 0, .int .i64 0, .string ByteArray.empty] 66))
  have hgA : w.grownBy (w.alloc (.cells #[.string ByteArray.empty, .int .i64 0, .int .i64 0, .int .i64 0, .string ByteArray.empty] 66)) (some g) := grown_alloc (World.grownBy.refl _ _) _
  have kA := blk_new w #[.string ByteArray.empty, .int .i64 0, .int .i64 0, .int .i64 0, .string ByteArray.empty] 66
  have hne : (some g : Option Nat) ≠ some w.heap.size := by intro e; simp at e; omega
  go_enter Try.func28, Try.ntmps28
  go_wp2_with first
    | (
      go_at_call 27
      refine (l02Type_any g a n cap _ hA).mono ?_
      rintro e w1 ⟨t, rfl, ht, hs1, hg1⟩
      have k1 := blk_grown kA hg1 hne
      have gg1 := grown_step hgA hg1)
    | (
      go_at_call 26
      refine (l01NameV_any g a n cap _ hs1).mono ?_
      rintro e w2 ⟨o, rfl, ho, hs2, hg2⟩
      have k2 := blk_grown k1 hg2 hne
      have gg2 := grown_step gg1 hg2)
    | (
      go_at_call 12
      with_reducible refine (l01Next_any g a n cap 90000 _ hs2 (by decide)).mono ?_
      rintro e w3 ⟨tt, rfl, htt0, htt1, hs3, hg3⟩
      have htt2 := htt1 (by decide)
      have k3 := blk_grown k2 hg3 hne
      have gg3 := grown_step gg2 hg3)
    | (
      go_at_call 52
      refine (l02Data_any t ht g a n cap _ hs3).mono ?_
      rintro e w4 ⟨d, rfl, hd1, hd2, hs4, hg4⟩
      have k4 := blk_alloc (blk_grown k3 hg4 hne) (.cells #[.string o, .int .i64 (t : Int), .int .i64 1, .int .i64 tt, .string d] 66)
      have gg4 := grown_alloc (grown_step gg3 hg4) (.cells #[.string o, .int .i64 (t : Int), .int .i64 1, .int .i64 tt, .string d] 66)
      have hs5 := src_below hs4 ((Below.refl _ _).alloc (Nat.le_refl _) (.cells #[.string o, .int .i64 (t : Int), .int .i64 1, .int .i64 tt, .string d] 66))
      have kB := blk_new w4 #[.string o, .int .i64 (t : Int), .int .i64 1, .int .i64 tt, .string d] 66
      have hs4z : w.heap.size < w4.heap.size := by have := blk_lt k3; have := hg4.size; omega)
  refine (l01Next_any g a n cap 12 _ hs5 (by decide)).mono ?_
  rintro e w6 ⟨r, rfl, hr0, hr1, hs6, hg6⟩
  have k6 := blk_grown k4 hg6 hne
  have hne4 : (some g : Option Nat) ≠ some w4.heap.size := by intro e; simp at e; omega
  have kB6 := blk_grown kB hg6 hne4
  have gg6 := grown_step gg4 hg6
  have htr := drTs_ok ht
  clear hr1 hs5 hs4 hs3 hs2 hs1 hA k4 k3 k2 k1 kA kB gg4 gg3 gg2 gg1 hgA hg6 hg4 hg3 hg2 hg1 h
  by_cases h3 : 3 ≤ r
  · have e0 : (r == 0) = false := by rw [beq_eq_false_iff_ne]; omega
    have e1 : (r == 1) = false := by rw [beq_eq_false_iff_ne]; omega
    have e2 : (r == 2) = false := by rw [beq_eq_false_iff_ne]; omega
    have hw : rcW ⟨o, t, 1, tt, d⟩ := ⟨ho, ⟨t, rfl, htr.2⟩, ⟨1, rfl, by decide⟩, htt0, by show tt ≤ _; omega, by by_cases hp : pointed t; exact .inr (.inr (hd2 hp)); exact .inr (.inl (by simpa using hp)), by show d.size ≤ _; omega⟩
    have rr := fun i => blk_cell kB6 i
    have rz := fun i => blk_cell k6 i
    have fz := fun i => blk_frozen k6 i
    go_wp2
    have kE := setAll_new [.string o, .int .i64 (t : Int), .int .i64 1, .int .i64 tt, .string d] k6 rfl
    have eE : setAll w6 w.heap.size 0 [.string o, .int .i64 (t : Int), .int .i64 1, .int .i64 tt, .string d] = (((((w6).setCell ⟨w.heap.size, 0, none⟩ (.string o)).setCell ⟨w.heap.size, 1, none⟩ (.int .i64 (t : Int))).setCell ⟨w.heap.size, 2, none⟩ (.int .i64 1)).setCell ⟨w.heap.size, 3, none⟩ (.int .i64 tt)).setCell ⟨w.heap.size, 4, none⟩ (.string d) := rfl
    have gE : (w6).grownBy (setAll w6 w.heap.size 0 [.string o, .int .i64 (t : Int), .int .i64 1, .int .i64 tt, .string d]) (some w.heap.size) := by
      rw [eE]
      exact grown_step (grown_step (grown_step (grown_step (grown_set _ _ _ _) (grown_set _ _ _ _)) (grown_set _ _ _ _)) (grown_set _ _ _ _)) (grown_set _ _ _ _)
    have sE := src_grown (w0 := w) hs6 gE (fun k hk => by cases hk; exact Nat.le_refl _) hglt hcode
    have ggE := grown_own gg6 gE (fun k hk => by cases hk; exact Nat.le_refl _)
    have rE := fun i => blk_cell kE i
    rw [← eE]
    refine bodyPost_ret (v := .agg #[.string o, .int .i64 (t : Int), .int .i64 1, .int .i64 tt, .string d]) ?_ rfl ⟨⟨o, (t : Int), 1, tt, d⟩, rfl, hw, sE, ggE⟩
    simp [results, Try.results28, go_sem, Result.andThen, rE]
  · have hnb : w.heap.size ≠ w4.heap.size := by omega
    have hbig : ∀ (V : World) (i : Nat) (v : Value), Src V g a n cap → w.grownBy V (some g) → Src (V.setCell ⟨w4.heap.size, i, none⟩ v) g a n cap ∧ w.grownBy (V.setCell ⟨w4.heap.size, i, none⟩ v) (some g) := by
      intro V i v h1 h2
      exact ⟨src_grown (w0 := w) h1 (grown_set V _ i v) (fun k hk => by cases hk; omega) hglt hcode, grown_own h2 (grown_set V _ i v) (fun k hk => by cases hk; omega)⟩
    obtain rfl | rfl | rfl : r = 0 ∨ r = 1 ∨ r = 2 := by omega
    · go_wp2_with (
        go_at_call 12
        refine (l01Next_any g a n cap 65536 _ hs6 (by decide)).mono ?_
        rintro e w7 ⟨c, rfl, hc0, hc1, hs7, hg7⟩
        have hc2 := hc1 (by decide)
        obtain ⟨c, rfl⟩ := Int.eq_ofNat_of_zero_le hc0
        have k7 := blk_grown k6 hg7 hne
        have kB7 := blk_grown kB6 hg7 hne4
        have gg7 := grown_step gg6 hg7
        have rr7 := fun i => blk_cell kB7 i
        have fz7 := fun i => blk_frozen kB7 i
        have k8 := blk_far (i := 2) (v := .int .i64 (c : Int)) k7 hnb
        have kB8 := blk_set kB7 2 (.int .i64 (c : Int))
        have rr := fun i => blk_cell kB8 i
        have rz := fun i => blk_cell k8 i
        have fz := fun i => blk_frozen k8 i)
      have hw : rcW ⟨o, t, c, tt, d⟩ := ⟨ho, ⟨t, rfl, htr.2⟩, ⟨c, rfl, by omega⟩, htt0, by show tt ≤ _; omega, by by_cases hp : pointed t; exact .inr (.inr (hd2 hp)); exact .inr (.inl (by simpa using hp)), by show d.size ≤ _; omega⟩
      obtain ⟨hs8, gg8⟩ := hbig w7 2 (.int .i64 (c : Int)) hs7 gg7
      generalize w7.setCell ⟨w4.heap.size, 2, none⟩ (.int .i64 (c : Int)) = w8 at *
      have kE := setAll_new [.string o, .int .i64 (t : Int), .int .i64 (c : Int), .int .i64 tt, .string d] k8 rfl
      have eE : setAll w8 w.heap.size 0 [.string o, .int .i64 (t : Int), .int .i64 (c : Int), .int .i64 tt, .string d] = (((((w8).setCell ⟨w.heap.size, 0, none⟩ (.string o)).setCell ⟨w.heap.size, 1, none⟩ (.int .i64 (t : Int))).setCell ⟨w.heap.size, 2, none⟩ (.int .i64 (c : Int))).setCell ⟨w.heap.size, 3, none⟩ (.int .i64 tt)).setCell ⟨w.heap.size, 4, none⟩ (.string d) := rfl
      have gE : (w8).grownBy (setAll w8 w.heap.size 0 [.string o, .int .i64 (t : Int), .int .i64 (c : Int), .int .i64 tt, .string d]) (some w.heap.size) := by
        rw [eE]
        exact grown_step (grown_step (grown_step (grown_step (grown_set _ _ _ _) (grown_set _ _ _ _)) (grown_set _ _ _ _)) (grown_set _ _ _ _)) (grown_set _ _ _ _)
      have sE := src_grown (w0 := w) hs8 gE (fun k hk => by cases hk; exact Nat.le_refl _) hglt hcode
      have ggE := grown_own gg8 gE (fun k hk => by cases hk; exact Nat.le_refl _)
      have rE := fun i => blk_cell kE i
      rw [← eE]
      refine bodyPost_ret (v := .agg #[.string o, .int .i64 (t : Int), .int .i64 (c : Int), .int .i64 tt, .string d]) ?_ rfl ⟨⟨o, (t : Int), (c : Int), tt, d⟩, rfl, hw, sE, ggE⟩
      simp [results, Try.results28, go_sem, Result.andThen, rE]
    · go_wp2_with (
        go_at_call 12
        refine (l01Next_any g a n cap 3 _ hs6 (by decide)).mono ?_
        rintro e w7 ⟨c, rfl, hc0, hc1, hs7, hg7⟩
        have hc2 := hc1 (by decide)
        have k7 := blk_grown k6 hg7 hne
        have kB7 := blk_grown kB6 hg7 hne4
        have gg7 := grown_step gg6 hg7
        have rr7 := fun i => blk_cell kB7 i
        have fz7 := fun i => blk_frozen kB7 i
        have k8 := blk_far (i := 3) (v := .int .i64 (4294967295 - c)) k7 hnb
        have kB8 := blk_set kB7 3 (.int .i64 (4294967295 - c))
        have rr := fun i => blk_cell kB8 i
        have rz := fun i => blk_cell k8 i
        have fz := fun i => blk_frozen k8 i)
      have hw : rcW ⟨o, t, 1, 4294967295 - c, d⟩ := ⟨ho, ⟨t, rfl, htr.2⟩, ⟨1, rfl, by decide⟩, by show 0 ≤ 4294967295 - c; omega, by show 4294967295 - c ≤ _; omega, by by_cases hp : pointed t; exact .inr (.inr (hd2 hp)); exact .inr (.inl (by simpa using hp)), by show d.size ≤ _; omega⟩
      obtain ⟨hs8, gg8⟩ := hbig w7 3 (.int .i64 (4294967295 - c)) hs7 gg7
      generalize w7.setCell ⟨w4.heap.size, 3, none⟩ (.int .i64 (4294967295 - c)) = w8 at *
      have kE := setAll_new [.string o, .int .i64 (t : Int), .int .i64 1, .int .i64 (4294967295 - c), .string d] k8 rfl
      have eE : setAll w8 w.heap.size 0 [.string o, .int .i64 (t : Int), .int .i64 1, .int .i64 (4294967295 - c), .string d] = (((((w8).setCell ⟨w.heap.size, 0, none⟩ (.string o)).setCell ⟨w.heap.size, 1, none⟩ (.int .i64 (t : Int))).setCell ⟨w.heap.size, 2, none⟩ (.int .i64 1)).setCell ⟨w.heap.size, 3, none⟩ (.int .i64 (4294967295 - c))).setCell ⟨w.heap.size, 4, none⟩ (.string d) := rfl
      have gE : (w8).grownBy (setAll w8 w.heap.size 0 [.string o, .int .i64 (t : Int), .int .i64 1, .int .i64 (4294967295 - c), .string d]) (some w.heap.size) := by
        rw [eE]
        exact grown_step (grown_step (grown_step (grown_step (grown_set _ _ _ _) (grown_set _ _ _ _)) (grown_set _ _ _ _)) (grown_set _ _ _ _)) (grown_set _ _ _ _)
      have sE := src_grown (w0 := w) hs8 gE (fun k hk => by cases hk; exact Nat.le_refl _) hglt hcode
      have ggE := grown_own gg8 gE (fun k hk => by cases hk; exact Nat.le_refl _)
      have rE := fun i => blk_cell kE i
      rw [← eE]
      refine bodyPost_ret (v := .agg #[.string o, .int .i64 (t : Int), .int .i64 1, .int .i64 (4294967295 - c), .string d]) ?_ rfl ⟨⟨o, (t : Int), 1, (4294967295 - c), d⟩, rfl, hw, sE, ggE⟩
      simp [results, Try.results28, go_sem, Result.andThen, rE]
    · have rr6 := fun i => blk_cell kB6 i
      have fz6 := fun i => blk_frozen kB6 i
      have k8 := blk_far (i := 4) (v := .string ⟨#[]⟩) k6 hnb
      have kB8 := blk_set kB6 4 (.string ⟨#[]⟩)
      have rr := fun i => blk_cell kB8 i
      have rz := fun i => blk_cell k8 i
      have fz := fun i => blk_frozen k8 i
      have hw : rcW ⟨o, t, 1, tt, ⟨#[]⟩⟩ := ⟨ho, ⟨t, rfl, htr.2⟩, ⟨1, rfl, by decide⟩, htt0, by show tt ≤ _; omega, .inl rfl, by show (#[] : Array UInt8).size ≤ _; decide⟩
      obtain ⟨hs8, gg8⟩ := hbig w6 4 (.string ⟨#[]⟩) hs6 gg6
      go_wp2
      generalize w6.setCell ⟨w4.heap.size, 4, none⟩ (.string ⟨#[]⟩) = w8 at *
      have kE := setAll_new [.string o, .int .i64 (t : Int), .int .i64 1, .int .i64 tt, .string (⟨#[]⟩ : ByteArray)] k8 rfl
      have eE : setAll w8 w.heap.size 0 [.string o, .int .i64 (t : Int), .int .i64 1, .int .i64 tt, .string (⟨#[]⟩ : ByteArray)] = (((((w8).setCell ⟨w.heap.size, 0, none⟩ (.string o)).setCell ⟨w.heap.size, 1, none⟩ (.int .i64 (t : Int))).setCell ⟨w.heap.size, 2, none⟩ (.int .i64 1)).setCell ⟨w.heap.size, 3, none⟩ (.int .i64 tt)).setCell ⟨w.heap.size, 4, none⟩ (.string (⟨#[]⟩ : ByteArray)) := rfl
      have gE : (w8).grownBy (setAll w8 w.heap.size 0 [.string o, .int .i64 (t : Int), .int .i64 1, .int .i64 tt, .string (⟨#[]⟩ : ByteArray)]) (some w.heap.size) := by
        rw [eE]
        exact grown_step (grown_step (grown_step (grown_step (grown_set _ _ _ _) (grown_set _ _ _ _)) (grown_set _ _ _ _)) (grown_set _ _ _ _)) (grown_set _ _ _ _)
      have sE := src_grown (w0 := w) hs8 gE (fun k hk => by cases hk; exact Nat.le_refl _) hglt hcode
      have ggE := grown_own gg8 gE (fun k hk => by cases hk; exact Nat.le_refl _)
      have rE := fun i => blk_cell kE i
      rw [← eE]
      refine bodyPost_ret (v := .agg #[.string o, .int .i64 (t : Int), .int .i64 1, .int .i64 tt, .string (⟨#[]⟩ : ByteArray)]) ?_ rfl ⟨⟨o, (t : Int), 1, tt, (⟨#[]⟩ : ByteArray)⟩, rfl, hw, sE, ggE⟩
      simp [results, Try.results28, go_sem, Result.andThen, rE]
end Go.Proofs.Ytihhchebcojplaa
