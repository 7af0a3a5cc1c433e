import Derived.Test.YtocadkdfhfiijaaParts
import Derived.Test.YtocadkdfhfiijaaJBytesRow
import Derived.Test.YtocadkdfhfiijaaJRrM
import Derived.Test.YtocadkdfhfiijaaJDrH
import Derived.Test.YtocadkdfhfiijaaJDrL
import Derived.Test.YtocadkdfhfiijaaJData1
import Derived.Test.YtocadkdfhfiijaaJMath
/- spec.CheckData by its contract. -/
namespace Go.Proofs.Ytocadkdfhfiijaa
open Go.RowKit

theorem okForm_of {f : ByteArray} (h1 : f.size ≤ 100) (h2 : f.data.toList.all (fun c => c == 110 || c == 98 || c == 116 || c == 115 || c == 99 || c == 109 || c == 42) = true) : okForm f := by
  refine ⟨h1, ?_⟩
  intro k hk
  have := List.all_eq_true.1 h2 f[k] (List.mem_of_getElem? (Nm.get_data hk))
  simpa [or_assoc] using this

theorem form_ok (t : Int) : okForm (Dt.formS t) := by
  unfold Dt.formS
  repeat' split
  all_goals exact okForm_of (by decide) (by decide)

theorem parts_some {t : Int} {d : ByteArray} : (Dt.parts (Dt.specP t) d).isSome = (Dt.spans (Dt.implP t) 0 d).isSome := by
  rw [← Dt.forms_agree, Dt.spans_of_parts]; simp

set_option maxRecDepth 100000 in
set_option maxHeartbeats 400000 in
theorem specCheckData_any (t : Int) (d : ByteArray) (w : World) :
    Calls Try.prog 72 #[.int .i64 t, .string d] w fun e w' => e = .returned (.int .i64 (cutCode t d)) ∧ Below w.heap.size w w' := by
  by_cases ht : t < 0 ∨ 65535 < t
  · have HC := Nm.hide (code_type (d := d) ht)
    by_cases ht0 : t < 0
    · clear ht
      go_enter Try.func72, Try.ntmps72
      go_wp2
      go_ret
      rw [HC.out.1]
      exact ⟨rfl, Below.refl _ _⟩
    · have ht1 : 65535 < t := by omega
      have ht2 : 0 ≤ t := by omega
      clear ht
      go_enter Try.func72, Try.ntmps72
      go_wp2
      go_ret
      rw [HC.out.1]
      exact ⟨rfl, Below.refl _ _⟩
  have ht0 : 0 ≤ t := by omega
  have ht1 : t ≤ 65535 := by omega
  by_cases hl : 65535 < d.size
  · have HC := Nm.hide (code_long ht hl)
    have hl' : (65535 : Int) < (d.size : Int) := by omega
    clear ht
    go_enter Try.func72, Try.ntmps72
    go_wp2
    go_ret
    rw [HC.out.1]
    exact ⟨rfl, Below.refl _ _⟩
  have hl' : (d.size : Int) ≤ 65535 := by omega
  have hcall := fun w => l02Parts_any (Dt.formS t) d w (form_ok t) (by omega)
  have hform := l02Form_any t
  have hps := parts_some (t := t) (d := d)
  rw [Dt.specP] at hps
  rw [hps] at hcall
  generalize Dt.formS t = f at *
  cases hq : Dt.spans (Dt.implP t) 0 d with
  | none =>
    have HC := Nm.hide (code_none ht hl hq)
    rw [hq] at hcall
    clear ht hl hq hps
    go_enter Try.func72, Try.ntmps72
    go_wp2_with (first | (go_at_call 49; refine (hform _).mono ?_; rintro e w1 ⟨rfl, hw⟩; obtain rfl : w = w1 := hw.symm; clear hw) | (go_at_call 50; refine (hcall _).mono ?_; rintro e w2 ⟨v, rfl, _, hbel⟩))
    go_ret
    rw [HC.out.1]
    exact ⟨rfl, hbel⟩
  | some sp =>
    have HC := Nm.hide (code_some ht hl hq)
    rw [hq] at hcall
    clear ht hl hq hps
    go_enter Try.func72, Try.ntmps72
    go_wp2_with (first | (go_at_call 49; refine (hform _).mono ?_; rintro e w1 ⟨rfl, hw⟩; obtain rfl : w = w1 := hw.symm; clear hw) | (go_at_call 50; refine (hcall _).mono ?_; rintro e w2 ⟨v, rfl, _, hbel⟩))
    go_ret
    rw [HC.out.1]
    exact ⟨rfl, hbel⟩
end Go.Proofs.Ytocadkdfhfiijaa
/- spec.l02Data by its contract. -/
namespace Go.Proofs.Ytocadkdfhfiijaa
open Go.RowKit
set_option linter.unusedVariables false

theorem wtL_take (cs : List UInt8) (k : Nat) : wtL (cs.take k) ≤ wtL cs := by
  have e : wtL cs = wtL (cs.take k) + wtL (cs.drop k) := by
    simp only [wtL]
    rw [← List.sum_append, ← List.map_append, List.take_append_drop]
  omega

set_option maxRecDepth 100000 in
set_option maxHeartbeats 3200000 in
theorem l02Data_any (t : Nat) (ht : t ∈ drTs) (g : Nat) (a : Option Addr) (n cap : Nat) (w : World) (h : Src w g a n cap) :
    Calls Try.prog 54 #[.pointer (some ⟨g, 0, none⟩), .int .i64 (t : Int)] w fun e w' => ∃ d : ByteArray, e = .returned (.string d) ∧ d.size ≤ 60000 ∧ (pointed t → cutCode t d = 0) ∧ Src w' g a n cap ∧ w.grownBy w' (some g) := by
  have hform := l02Form_any t
  obtain ⟨hf1, hf2⟩ := form_ok t
  have hwt := form_wt ht
  have hend : ∀ xs, LOK (Dt.formS t).data.toList xs → (bA (Dt.catL xs)).size ≤ 60000 → pointed t → cutCode t (bA (Dt.catL xs)) = 0 := fun xs h1 h2 h3 => code_drawn ht h3 h1 (by omega)
  generalize Dt.formS t = f at *
  go_enter Try.func54, Try.ntmps54
  go_wp2_with (go_at_call 49; refine (hform _).mono ?_; rintro e wx ⟨rfl, hwx⟩; obtain rfl := hwx.symm; clear hwx)
  go_loopw [6, 7] (fun o i wr => ∃ (k : Nat) (xs : List ByteArray), k ≤ f.size ∧ i = .int .i64 k ∧ o = .string (bA (Dt.catL xs)) ∧ (bA (Dt.catL xs)).size ≤ wtL (f.data.toList.take k) ∧ LOK (f.data.toList.take k) xs ∧ Src wr g a n cap ∧ w.grownBy wr (some g)) (fun _ i _ => f.size - (intOf i).toNat)
  case atStart => exact ⟨0, [], Nat.zero_le _, rfl, rfl, Nat.zero_le _, trivial, h, World.grownBy.refl _ _⟩
  case round =>
    obtain ⟨k, xs, hk, rfl, rfl, hsz, hlok, hsrc, hgr⟩ := hrel
    clear h hform
    have hwk : wtL (f.data.toList.take k) ≤ 60000 := Nat.le_trans (wtL_take _ k) hwt
    by_cases hlt : k < f.size
    · have hlt' : (k : Int) < (f.size : Int) := by omega
      have HT : Hid (f.data.toList.take (k + 1) = f.data.toList.take k ++ [f[k]]) := by
        show _ = _
        rw [List.take_add_one, Nm.get_data hlt]
        rfl
      rcases hf2 k hlt with hc | hc | hc | hc | hc | hc | hc
      · skip
        have hv : f[k].toNat = 110 := by rw [hc]; rfl
        have q0 : ((f[k].toNat : Int) == 110) = true := by rw [beq_iff_eq]; omega
        have hw : letW f[k] = 800 := by rw [hc]; rfl
        have hB : ∀ x : ByteArray, f[k] = 98 → x.size = 1 := fun x e => by rw [hc] at e; exact absurd e (by decide)
        clear hf2 hend
        generalize hD : bA (Dt.catL xs) = D at *
        go_wp2_with (
          go_at_call 26
          refine (l01NameV_any g a n cap _ hsrc).mono ?_
          rintro e w3 ⟨x, rfl, hx, hsE, hg3⟩
          have hgE := grown_step hgr hg3
          have hxz := name_short hx
          have hfit : D.size + x.size ≤ 9223372036854775807 := by omega)
        go_roundw
        case rel => exact ⟨k + 1, xs ++ [x], by omega, by go_num, by rw [cat_snoc, hD], by rw [HT.out, wtL_snoc, cat_snoc, hD, ByteArray.size_append]; omega, by rw [HT.out]; exact hlok.snoc (fun _ => hx) (hB x), hsE, hgE⟩
        case measure => simp [intOf]; omega
      · skip
        have hv : f[k].toNat = 98 := by rw [hc]; rfl
        have q0 : ((f[k].toNat : Int) == 110) = false := by rw [beq_eq_false_iff_ne]; omega
        have q1 : ((f[k].toNat : Int) == 98) = true := by rw [beq_iff_eq]; omega
        have hw : letW f[k] = 800 := by rw [hc]; rfl
        have hA : ∀ x : ByteArray, f[k] = 110 → (Nm.split x).isSome = true := fun x e => by rw [hc] at e; exact absurd e (by decide)
        clear hf2 hend
        generalize hD : bA (Dt.catL xs) = D at *
        go_wp2_with fail
        refine (l01Next_any g a n cap 3 _ hsrc (by decide)).mono ?_
        rintro e w3 ⟨r, rfl, hr0, hr1, hs3, hg3⟩
        have hgg3 := grown_step hgr hg3
        by_cases hz : r = 0
        · subst hz
          go_wp2_with (
            go_at_call 53
            refine (l01Bytes_any g a n cap 1 _ hs3 (by decide) (by decide)).mono ?_
            rintro e w4 ⟨x, rfl, hx, hsE, hg4⟩
            have hgE := grown_step hgg3 hg4
            have hfit : D.size + x.size ≤ 9223372036854775807 := by omega)
          go_roundw
          case rel => exact ⟨k + 1, xs ++ [x], by omega, by go_num, by rw [cat_snoc, hD], by rw [HT.out, wtL_snoc, cat_snoc, hD, ByteArray.size_append]; omega, by rw [HT.out]; exact hlok.snoc (hA x) (fun _ => by omega), hsE, hgE⟩
          case measure => simp [intOf]; omega
        · have hz' : (r == 0) = false := by rw [beq_eq_false_iff_ne]; exact hz
          have hsE := hs3
          have hgE := hgg3
          have hx1 : (⟨#[0]⟩ : ByteArray).size = 1 := rfl
          have hfit : D.size + 1 ≤ 9223372036854775807 := by omega
          go_wp2
          go_roundw
          case rel => exact ⟨k + 1, xs ++ [(⟨#[0]⟩ : ByteArray)], by omega, by go_num, by rw [cat_snoc, hD], by rw [HT.out, wtL_snoc, cat_snoc, hD, ByteArray.size_append]; omega, by rw [HT.out]; exact hlok.snoc (hA ⟨#[0]⟩) (fun _ => rfl), hsE, hgE⟩
          case measure => simp [intOf]; omega
      · skip
        have hv : f[k].toNat = 116 := by rw [hc]; rfl
        have q0 : ((f[k].toNat : Int) == 110) = false := by rw [beq_eq_false_iff_ne]; omega
        have q1 : ((f[k].toNat : Int) == 98) = false := by rw [beq_eq_false_iff_ne]; omega
        have q2 : ((f[k].toNat : Int) == 116) = true := by rw [beq_iff_eq]; omega
        have hw : letW f[k] = 800 := by rw [hc]; rfl
        have hA : ∀ x : ByteArray, f[k] = 110 → (Nm.split x).isSome = true := fun x e => by rw [hc] at e; exact absurd e (by decide)
        have hB : ∀ x : ByteArray, f[k] = 98 → x.size = 1 := fun x e => by rw [hc] at e; exact absurd e (by decide)
        clear hf2 hend
        generalize hD : bA (Dt.catL xs) = D at *
        go_wp2_with (
          go_at_call 70
          refine (l02Short_any g a n cap _ hsrc).mono ?_
          rintro e w3 ⟨x, rfl, hx1, hx2, hsE, hg3⟩
          have hgE := grown_step hgr hg3
          have hfit : D.size + x.size ≤ 9223372036854775807 := by omega)
        go_roundw
        case rel => exact ⟨k + 1, xs ++ [x], by omega, by go_num, by rw [cat_snoc, hD], by rw [HT.out, wtL_snoc, cat_snoc, hD, ByteArray.size_append]; omega, by rw [HT.out]; exact hlok.snoc (hA x) (hB x), hsE, hgE⟩
        case measure => simp [intOf]; omega
      · skip
        have hv : f[k].toNat = 115 := by rw [hc]; rfl
        have q0 : ((f[k].toNat : Int) == 110) = false := by rw [beq_eq_false_iff_ne]; omega
        have q1 : ((f[k].toNat : Int) == 98) = false := by rw [beq_eq_false_iff_ne]; omega
        have q2 : ((f[k].toNat : Int) == 116) = false := by rw [beq_eq_false_iff_ne]; omega
        have q3 : ((f[k].toNat : Int) == 115) = true := by rw [beq_iff_eq]; omega
        have hw : letW f[k] = 800 := by rw [hc]; rfl
        have hA : ∀ x : ByteArray, f[k] = 110 → (Nm.split x).isSome = true := fun x e => by rw [hc] at e; exact absurd e (by decide)
        have hB : ∀ x : ByteArray, f[k] = 98 → x.size = 1 := fun x e => by rw [hc] at e; exact absurd e (by decide)
        clear hf2 hend
        generalize hD : bA (Dt.catL xs) = D at *
        go_wp2_with fail
        refine (l01Next_any g a n cap 3 _ hsrc (by decide)).mono ?_
        rintro e w3 ⟨r, rfl, hr0, hr1, hs3, hg3⟩
        have hr2 := hr1 (by decide)
        obtain ⟨r, rfl⟩ := Int.eq_ofNat_of_zero_le hr0
        have hgg3 := grown_step hgr hg3
        clear hr1 hg3
        go_wp2
        go_loopw [6, 9] (fun o i wr => ∃ (j : Nat) (y : ByteArray), j ≤ 1 + r ∧ i = .int .i64 j ∧ o = .string (D ++ y) ∧ y.size ≤ 257 * j ∧ Src wr g a n cap ∧ w.grownBy wr (some g)) (fun _ i _ => 1 + r - (intOf i).toNat)
        case atStart => exact ⟨0, ByteArray.empty, by omega, rfl, by simp, by decide, hs3, hgg3⟩
        case round =>
          obtain ⟨j, y, hj, rfl, rfl, hy, hs5, hg5⟩ := hrel
          clear hs3 hgg3
          by_cases hlj : j < 1 + r
          · have hlj' : (j : Int) < 1 + (r : Int) := by omega
            go_wp2_with (
              go_at_call 70
              refine (l02Short_any g a n cap _ hs5).mono ?_
              rintro e w6 ⟨x, rfl, hx1, hx2, hs6, hg6⟩
              have hg56 := grown_step hg5 hg6
              have hfit : (D ++ y).size + x.size ≤ 9223372036854775807 := by rw [ByteArray.size_append]; omega)
            go_roundw
            case rel => exact ⟨j + 1, y ++ x, by omega, by go_num, by rw [ByteArray.append_assoc], by rw [ByteArray.size_append]; omega, hs6, hg56⟩
            case measure => simp [intOf]; omega
          · obtain rfl : j = 1 + r := by omega
            have hsE := hs5
            have hgE := hg5
            go_wp2
            go_roundw
            case rel => exact ⟨k + 1, xs ++ [y], by omega, by go_num, by rw [cat_snoc, hD], by rw [HT.out, wtL_snoc, cat_snoc, hD, ByteArray.size_append]; omega, by rw [HT.out]; exact hlok.snoc (hA y) (hB y), hsE, hgE⟩
            case measure => simp [intOf]; omega
      · skip
        have hv : f[k].toNat = 99 := by rw [hc]; rfl
        have q0 : ((f[k].toNat : Int) == 110) = false := by rw [beq_eq_false_iff_ne]; omega
        have q1 : ((f[k].toNat : Int) == 98) = false := by rw [beq_eq_false_iff_ne]; omega
        have q2 : ((f[k].toNat : Int) == 116) = false := by rw [beq_eq_false_iff_ne]; omega
        have q3 : ((f[k].toNat : Int) == 115) = false := by rw [beq_eq_false_iff_ne]; omega
        have q4 : ((f[k].toNat : Int) == 99) = true := by rw [beq_iff_eq]; omega
        have hw : letW f[k] = 800 := by rw [hc]; rfl
        have hA : ∀ x : ByteArray, f[k] = 110 → (Nm.split x).isSome = true := fun x e => by rw [hc] at e; exact absurd e (by decide)
        have hB : ∀ x : ByteArray, f[k] = 98 → x.size = 1 := fun x e => by rw [hc] at e; exact absurd e (by decide)
        clear hf2 hend
        generalize hD : bA (Dt.catL xs) = D at *
        go_wp2_with (
          go_at_call 70
          refine (l02Short_any g a n cap _ hsrc).mono ?_
          rintro e w3 ⟨x, rfl, hx1, hx2, hsE, hg3⟩
          have hgE := grown_step hgr hg3
          have hx1' : (1 : Int) ≤ (x.size : Int) := by omega
          have hxe : (x.extract 1 x.size).size = x.size - 1 := by simp
          have hd5 : (⟨#[5]⟩ : ByteArray).size = 1 := rfl
          have hdi : (⟨#[105, 115, 115, 117, 101]⟩ : ByteArray).size = 5 := rfl)
        go_roundw
        case rel => exact ⟨k + 1, xs ++ [⟨#[5]⟩ ++ (⟨#[105, 115, 115, 117, 101]⟩ ++ x.extract 1 x.size)], by omega, by go_num, by rw [cat_snoc, hD, ByteArray.append_assoc, ByteArray.append_assoc], by rw [HT.out, wtL_snoc, cat_snoc, hD, ByteArray.size_append, ByteArray.size_append, ByteArray.size_append]; omega, by rw [HT.out]; exact hlok.snoc (hA _) (hB _), hsE, hgE⟩
        case measure => simp [intOf]; omega
      · skip
        have hv : f[k].toNat = 109 := by rw [hc]; rfl
        have q0 : ((f[k].toNat : Int) == 110) = false := by rw [beq_eq_false_iff_ne]; omega
        have q1 : ((f[k].toNat : Int) == 98) = false := by rw [beq_eq_false_iff_ne]; omega
        have q2 : ((f[k].toNat : Int) == 116) = false := by rw [beq_eq_false_iff_ne]; omega
        have q3 : ((f[k].toNat : Int) == 115) = false := by rw [beq_eq_false_iff_ne]; omega
        have q4 : ((f[k].toNat : Int) == 99) = false := by rw [beq_eq_false_iff_ne]; omega
        have q5 : ((f[k].toNat : Int) == 109) = true := by rw [beq_iff_eq]; omega
        have hw : letW f[k] = 8704 := by rw [hc]; rfl
        have hA : ∀ x : ByteArray, f[k] = 110 → (Nm.split x).isSome = true := fun x e => by rw [hc] at e; exact absurd e (by decide)
        have hB : ∀ x : ByteArray, f[k] = 98 → x.size = 1 := fun x e => by rw [hc] at e; exact absurd e (by decide)
        clear hf2 hend
        generalize hD : bA (Dt.catL xs) = D at *
        go_wp2_with (
          go_at_call 71
          refine (l02DrawMap_any g a n cap _ hsrc).mono ?_
          rintro e w3 ⟨x, rfl, hx2, hsE, hg3⟩
          have hgE := grown_step hgr hg3
          have hfit : D.size + x.size ≤ 9223372036854775807 := by omega)
        go_roundw
        case rel => exact ⟨k + 1, xs ++ [x], by omega, by go_num, by rw [cat_snoc, hD], by rw [HT.out, wtL_snoc, cat_snoc, hD, ByteArray.size_append]; omega, by rw [HT.out]; exact hlok.snoc (hA x) (hB x), hsE, hgE⟩
        case measure => simp [intOf]; omega
      · skip
        have hv : f[k].toNat = 42 := by rw [hc]; rfl
        have q0 : ((f[k].toNat : Int) == 110) = false := by rw [beq_eq_false_iff_ne]; omega
        have q1 : ((f[k].toNat : Int) == 98) = false := by rw [beq_eq_false_iff_ne]; omega
        have q2 : ((f[k].toNat : Int) == 116) = false := by rw [beq_eq_false_iff_ne]; omega
        have q3 : ((f[k].toNat : Int) == 115) = false := by rw [beq_eq_false_iff_ne]; omega
        have q4 : ((f[k].toNat : Int) == 99) = false := by rw [beq_eq_false_iff_ne]; omega
        have q5 : ((f[k].toNat : Int) == 109) = false := by rw [beq_eq_false_iff_ne]; omega
        have q6 : ((f[k].toNat : Int) == 42) = true := by rw [beq_iff_eq]; omega
        have hw : letW f[k] = 800 := by rw [hc]; rfl
        have hA : ∀ x : ByteArray, f[k] = 110 → (Nm.split x).isSome = true := fun x e => by rw [hc] at e; exact absurd e (by decide)
        have hB : ∀ x : ByteArray, f[k] = 98 → x.size = 1 := fun x e => by rw [hc] at e; exact absurd e (by decide)
        clear hf2 hend
        generalize hD : bA (Dt.catL xs) = D at *
        go_wp2_with first
          | (
            go_at_call 12
            refine (l01Next_any g a n cap 12 _ hsrc (by decide)).mono ?_
            rintro e w3 ⟨r, rfl, hr0, hr1, hs3, hg3⟩
            have hr2 := hr1 (by decide)
            have hgg3 := grown_step hgr hg3)
          | (
            go_at_call 53
            refine (l01Bytes_any g a n cap r _ hs3 (by omega) (by omega)).mono ?_
            rintro e w4 ⟨x, rfl, hx, hsE, hg4⟩
            have hgE := grown_step hgg3 hg4
            have hfit : D.size + x.size ≤ 9223372036854775807 := by omega)
        go_roundw
        case rel => exact ⟨k + 1, xs ++ [x], by omega, by go_num, by rw [cat_snoc, hD], by rw [HT.out, wtL_snoc, cat_snoc, hD, ByteArray.size_append]; omega, by rw [HT.out]; exact hlok.snoc (hA x) (hB x), hsE, hgE⟩
        case measure => simp [intOf]; omega
    · obtain rfl : k = f.size := by omega
      have hall : f.data.toList.take f.size = f.data.toList := List.take_of_length_le (by simp)
      rw [hall] at hsz hlok
      have hE := hend xs hlok (by omega)
      generalize bA (Dt.catL xs) = D at *
      have i1 : (f.size : Int) ≤ (f.size : Int) := by omega
      go_wp2
      go_ret
      exact ⟨_, rfl, by omega, hE, hsrc, hgr⟩
end Go.Proofs.Ytocadkdfhfiijaa
/- spec.l04RR and spec.l04Bool by their contracts. -/
namespace Go.Proofs.Ytocadkdfhfiijaa
open Go.RowKit
set_option linter.unusedVariables false

theorem grown_set (w : World) (b i : Nat) (v : Value) : w.grownBy (w.setCell ⟨b, i, none⟩ v) (some b) :=
  ⟨rfl, rfl, rfl, by simp, fun k hk hne => heap_setCell_other w ⟨b, i, none⟩ k v (by intro e; exact hne (by simp at e; rw [e]))⟩

set_option maxRecDepth 100000 in
set_option maxHeartbeats 400000 in
theorem l04Bool_any (g : Nat) (a : Option Addr) (n cap : Nat) (w : World) (h : Src w g a n cap) :
    Calls Try.prog 25 #[.pointer (some ⟨g, 0, none⟩)] w fun e w' => ∃ b : Bool, e = .returned (.bool b) ∧ Src w' g a n cap ∧ w.grownBy w' (some g) := by
  go_enter Try.func25, Try.ntmps25
  go_wp2_with (
    go_at_call 12
    refine (l01Next_any g a n cap 2 _ h (by decide)).mono ?_
    rintro e w1 ⟨r, rfl, hr0, hr1, hs1, hg1⟩)
  go_ret
  exact ⟨_, rfl, hs1, hg1⟩

set_option maxRecDepth 100000 in
set_option maxHeartbeats 1600000 in
theorem l04RR_any (g : Nat) (a : Option Addr) (n cap : Nat) (w : World) (h : Src w g a n cap) :
    Calls Try.prog 28 #[.pointer (some ⟨g, 0, none⟩)] w fun e w' => ∃ r : Rr, e = .returned (.agg #[.string r.own, .int .i64 r.ty, .int .i64 r.cl, .int .i64 r.tt, .string r.da]) ∧ rcW r ∧ Src w' g a n cap ∧ w.grownBy w' (some g) := by
  obtain ⟨hcode, hglt⟩ := src_code h
  have hA := src_below h ((Below.refl _ _).alloc (Nat.le_refl _) (.cells #[.string ByteArray.empty, .int .i64 0, .int .i64 0, .int .i64 0, .string ByteArray.empty] 66))
  have hgA : w.grownBy (w.alloc (.cells #[.string ByteArray.empty, .int .i64 0, .int .i64 0, .int .i64 0, .string ByteArray.empty] 66)) (some g) := grown_alloc (World.grownBy.refl _ _) _
  have kA := blk_new w #[.string ByteArray.empty, .int .i64 0, .int .i64 0, .int .i64 0, .string ByteArray.empty] 66
  have hne : (some g : Option Nat) ≠ some w.heap.size := by intro e; simp at e; omega
  go_enter Try.func28, Try.ntmps28
  go_wp2_with first
    | (
      go_at_call 27
      refine (l02Type_any g a n cap _ hA).mono ?_
      rintro e w1 ⟨t, rfl, ht, hs1, hg1⟩
      have k1 := blk_grown kA hg1 hne
      have gg1 := grown_step hgA hg1)
    | (
      go_at_call 26
      refine (l01NameV_any g a n cap _ hs1).mono ?_
      rintro e w2 ⟨o, rfl, ho, hs2, hg2⟩
      have k2 := blk_grown k1 hg2 hne
      have gg2 := grown_step gg1 hg2)
    | (
      go_at_call 12
      with_reducible refine (l01Next_any g a n cap 90000 _ hs2 (by decide)).mono ?_
      rintro e w3 ⟨tt, rfl, htt0, htt1, hs3, hg3⟩
      have htt2 := htt1 (by decide)
      have k3 := blk_grown k2 hg3 hne
      have gg3 := grown_step gg2 hg3)
    | (
      go_at_call 54
      refine (l02Data_any t ht g a n cap _ hs3).mono ?_
      rintro e w4 ⟨d, rfl, hd1, hd2, hs4, hg4⟩
      have k4 := blk_alloc (blk_grown k3 hg4 hne) (.cells #[.string o, .int .i64 (t : Int), .int .i64 1, .int .i64 tt, .string d] 66)
      have gg4 := grown_alloc (grown_step gg3 hg4) (.cells #[.string o, .int .i64 (t : Int), .int .i64 1, .int .i64 tt, .string d] 66)
      have hs5 := src_below hs4 ((Below.refl _ _).alloc (Nat.le_refl _) (.cells #[.string o, .int .i64 (t : Int), .int .i64 1, .int .i64 tt, .string d] 66))
      have kB := blk_new w4 #[.string o, .int .i64 (t : Int), .int .i64 1, .int .i64 tt, .string d] 66
      have hs4z : w.heap.size < w4.heap.size := by have := blk_lt k3; have := hg4.size; omega)
  refine (l01Next_any g a n cap 12 _ hs5 (by decide)).mono ?_
  rintro e w6 ⟨r, rfl, hr0, hr1, hs6, hg6⟩
  have k6 := blk_grown k4 hg6 hne
  have hne4 : (some g : Option Nat) ≠ some w4.heap.size := by intro e; simp at e; omega
  have kB6 := blk_grown kB hg6 hne4
  have gg6 := grown_step gg4 hg6
  have htr := drTs_ok ht
  clear hr1 hs5 hs4 hs3 hs2 hs1 hA k4 k3 k2 k1 kA kB gg4 gg3 gg2 gg1 hgA hg6 hg4 hg3 hg2 hg1 h
  by_cases h3 : 3 ≤ r
  · have e0 : (r == 0) = false := by rw [beq_eq_false_iff_ne]; omega
    have e1 : (r == 1) = false := by rw [beq_eq_false_iff_ne]; omega
    have e2 : (r == 2) = false := by rw [beq_eq_false_iff_ne]; omega
    have hw : rcW ⟨o, t, 1, tt, d⟩ := ⟨ho, ⟨t, rfl, htr.2⟩, ⟨1, rfl, by decide⟩, htt0, by show tt ≤ _; omega, by by_cases hp : pointed t; exact .inr (.inr (hd2 hp)); exact .inr (.inl (by simpa using hp)), by show d.size ≤ _; omega⟩
    have rr := fun i => blk_cell kB6 i
    have rz := fun i => blk_cell k6 i
    have fz := fun i => blk_frozen k6 i
    go_wp2
    have kE := setAll_new [.string o, .int .i64 (t : Int), .int .i64 1, .int .i64 tt, .string d] k6 rfl
    have eE : setAll w6 w.heap.size 0 [.string o, .int .i64 (t : Int), .int .i64 1, .int .i64 tt, .string d] = (((((w6).setCell ⟨w.heap.size, 0, none⟩ (.string o)).setCell ⟨w.heap.size, 1, none⟩ (.int .i64 (t : Int))).setCell ⟨w.heap.size, 2, none⟩ (.int .i64 1)).setCell ⟨w.heap.size, 3, none⟩ (.int .i64 tt)).setCell ⟨w.heap.size, 4, none⟩ (.string d) := rfl
    have gE : (w6).grownBy (setAll w6 w.heap.size 0 [.string o, .int .i64 (t : Int), .int .i64 1, .int .i64 tt, .string d]) (some w.heap.size) := by
      rw [eE]
      exact grown_step (grown_step (grown_step (grown_step (grown_set _ _ _ _) (grown_set _ _ _ _)) (grown_set _ _ _ _)) (grown_set _ _ _ _)) (grown_set _ _ _ _)
    have sE := src_grown (w0 := w) hs6 gE (fun k hk => by cases hk; exact Nat.le_refl _) hglt hcode
    have ggE := grown_own gg6 gE (fun k hk => by cases hk; exact Nat.le_refl _)
    have rE := fun i => blk_cell kE i
    rw [← eE]
    refine bodyPost_ret (v := .agg #[.string o, .int .i64 (t : Int), .int .i64 1, .int .i64 tt, .string d]) ?_ rfl ⟨⟨o, (t : Int), 1, tt, d⟩, rfl, hw, sE, ggE⟩
    simp [results, Try.results28, go_sem, Result.andThen, rE]
  · have hnb : w.heap.size ≠ w4.heap.size := by omega
    have hbig : ∀ (V : World) (i : Nat) (v : Value), Src V g a n cap → w.grownBy V (some g) → Src (V.setCell ⟨w4.heap.size, i, none⟩ v) g a n cap ∧ w.grownBy (V.setCell ⟨w4.heap.size, i, none⟩ v) (some g) := by
      intro V i v h1 h2
      exact ⟨src_grown (w0 := w) h1 (grown_set V _ i v) (fun k hk => by cases hk; omega) hglt hcode, grown_own h2 (grown_set V _ i v) (fun k hk => by cases hk; omega)⟩
    obtain rfl | rfl | rfl : r = 0 ∨ r = 1 ∨ r = 2 := by omega
    · go_wp2_with (
        go_at_call 12
        refine (l01Next_any g a n cap 65536 _ hs6 (by decide)).mono ?_
        rintro e w7 ⟨c, rfl, hc0, hc1, hs7, hg7⟩
        have hc2 := hc1 (by decide)
        obtain ⟨c, rfl⟩ := Int.eq_ofNat_of_zero_le hc0
        have k7 := blk_grown k6 hg7 hne
        have kB7 := blk_grown kB6 hg7 hne4
        have gg7 := grown_step gg6 hg7
        have rr7 := fun i => blk_cell kB7 i
        have fz7 := fun i => blk_frozen kB7 i
        have k8 := blk_far (i := 2) (v := .int .i64 (c : Int)) k7 hnb
        have kB8 := blk_set kB7 2 (.int .i64 (c : Int))
        have rr := fun i => blk_cell kB8 i
        have rz := fun i => blk_cell k8 i
        have fz := fun i => blk_frozen k8 i)
      have hw : rcW ⟨o, t, c, tt, d⟩ := ⟨ho, ⟨t, rfl, htr.2⟩, ⟨c, rfl, by omega⟩, htt0, by show tt ≤ _; omega, by by_cases hp : pointed t; exact .inr (.inr (hd2 hp)); exact .inr (.inl (by simpa using hp)), by show d.size ≤ _; omega⟩
      obtain ⟨hs8, gg8⟩ := hbig w7 2 (.int .i64 (c : Int)) hs7 gg7
      generalize w7.setCell ⟨w4.heap.size, 2, none⟩ (.int .i64 (c : Int)) = w8 at *
      have kE := setAll_new [.string o, .int .i64 (t : Int), .int .i64 (c : Int), .int .i64 tt, .string d] k8 rfl
      have eE : setAll w8 w.heap.size 0 [.string o, .int .i64 (t : Int), .int .i64 (c : Int), .int .i64 tt, .string d] = (((((w8).setCell ⟨w.heap.size, 0, none⟩ (.string o)).setCell ⟨w.heap.size, 1, none⟩ (.int .i64 (t : Int))).setCell ⟨w.heap.size, 2, none⟩ (.int .i64 (c : Int))).setCell ⟨w.heap.size, 3, none⟩ (.int .i64 tt)).setCell ⟨w.heap.size, 4, none⟩ (.string d) := rfl
      have gE : (w8).grownBy (setAll w8 w.heap.size 0 [.string o, .int .i64 (t : Int), .int .i64 (c : Int), .int .i64 tt, .string d]) (some w.heap.size) := by
        rw [eE]
        exact grown_step (grown_step (grown_step (grown_step (grown_set _ _ _ _) (grown_set _ _ _ _)) (grown_set _ _ _ _)) (grown_set _ _ _ _)) (grown_set _ _ _ _)
      have sE := src_grown (w0 := w) hs8 gE (fun k hk => by cases hk; exact Nat.le_refl _) hglt hcode
      have ggE := grown_own gg8 gE (fun k hk => by cases hk; exact Nat.le_refl _)
      have rE := fun i => blk_cell kE i
      rw [← eE]
      refine bodyPost_ret (v := .agg #[.string o, .int .i64 (t : Int), .int .i64 (c : Int), .int .i64 tt, .string d]) ?_ rfl ⟨⟨o, (t : Int), (c : Int), tt, d⟩, rfl, hw, sE, ggE⟩
      simp [results, Try.results28, go_sem, Result.andThen, rE]
    · go_wp2_with (
        go_at_call 12
        refine (l01Next_any g a n cap 3 _ hs6 (by decide)).mono ?_
        rintro e w7 ⟨c, rfl, hc0, hc1, hs7, hg7⟩
        have hc2 := hc1 (by decide)
        have k7 := blk_grown k6 hg7 hne
        have kB7 := blk_grown kB6 hg7 hne4
        have gg7 := grown_step gg6 hg7
        have rr7 := fun i => blk_cell kB7 i
        have fz7 := fun i => blk_frozen kB7 i
        have k8 := blk_far (i := 3) (v := .int .i64 (4294967295 - c)) k7 hnb
        have kB8 := blk_set kB7 3 (.int .i64 (4294967295 - c))
        have rr := fun i => blk_cell kB8 i
        have rz := fun i => blk_cell k8 i
        have fz := fun i => blk_frozen k8 i)
      have hw : rcW ⟨o, t, 1, 4294967295 - c, d⟩ := ⟨ho, ⟨t, rfl, htr.2⟩, ⟨1, rfl, by decide⟩, by show 0 ≤ 4294967295 - c; omega, by show 4294967295 - c ≤ _; omega, by by_cases hp : pointed t; exact .inr (.inr (hd2 hp)); exact .inr (.inl (by simpa using hp)), by show d.size ≤ _; omega⟩
      obtain ⟨hs8, gg8⟩ := hbig w7 3 (.int .i64 (4294967295 - c)) hs7 gg7
      generalize w7.setCell ⟨w4.heap.size, 3, none⟩ (.int .i64 (4294967295 - c)) = w8 at *
      have kE := setAll_new [.string o, .int .i64 (t : Int), .int .i64 1, .int .i64 (4294967295 - c), .string d] k8 rfl
      have eE : setAll w8 w.heap.size 0 [.string o, .int .i64 (t : Int), .int .i64 1, .int .i64 (4294967295 - c), .string d] = (((((w8).setCell ⟨w.heap.size, 0, none⟩ (.string o)).setCell ⟨w.heap.size, 1, none⟩ (.int .i64 (t : Int))).setCell ⟨w.heap.size, 2, none⟩ (.int .i64 1)).setCell ⟨w.heap.size, 3, none⟩ (.int .i64 (4294967295 - c))).setCell ⟨w.heap.size, 4, none⟩ (.string d) := rfl
      have gE : (w8).grownBy (setAll w8 w.heap.size 0 [.string o, .int .i64 (t : Int), .int .i64 1, .int .i64 (4294967295 - c), .string d]) (some w.heap.size) := by
        rw [eE]
        exact grown_step (grown_step (grown_step (grown_step (grown_set _ _ _ _) (grown_set _ _ _ _)) (grown_set _ _ _ _)) (grown_set _ _ _ _)) (grown_set _ _ _ _)
      have sE := src_grown (w0 := w) hs8 gE (fun k hk => by cases hk; exact Nat.le_refl _) hglt hcode
      have ggE := grown_own gg8 gE (fun k hk => by cases hk; exact Nat.le_refl _)
      have rE := fun i => blk_cell kE i
      rw [← eE]
      refine bodyPost_ret (v := .agg #[.string o, .int .i64 (t : Int), .int .i64 1, .int .i64 (4294967295 - c), .string d]) ?_ rfl ⟨⟨o, (t : Int), 1, (4294967295 - c), d⟩, rfl, hw, sE, ggE⟩
      simp [results, Try.results28, go_sem, Result.andThen, rE]
    · have rr6 := fun i => blk_cell kB6 i
      have fz6 := fun i => blk_frozen kB6 i
      have k8 := blk_far (i := 4) (v := .string ⟨#[]⟩) k6 hnb
      have kB8 := blk_set kB6 4 (.string ⟨#[]⟩)
      have rr := fun i => blk_cell kB8 i
      have rz := fun i => blk_cell k8 i
      have fz := fun i => blk_frozen k8 i
      have hw : rcW ⟨o, t, 1, tt, ⟨#[]⟩⟩ := ⟨ho, ⟨t, rfl, htr.2⟩, ⟨1, rfl, by decide⟩, htt0, by show tt ≤ _; omega, .inl rfl, by show (#[] : Array UInt8).size ≤ _; decide⟩
      obtain ⟨hs8, gg8⟩ := hbig w6 4 (.string ⟨#[]⟩) hs6 gg6
      go_wp2
      generalize w6.setCell ⟨w4.heap.size, 4, none⟩ (.string ⟨#[]⟩) = w8 at *
      have kE := setAll_new [.string o, .int .i64 (t : Int), .int .i64 1, .int .i64 tt, .string (⟨#[]⟩ : ByteArray)] k8 rfl
      have eE : setAll w8 w.heap.size 0 [.string o, .int .i64 (t : Int), .int .i64 1, .int .i64 tt, .string (⟨#[]⟩ : ByteArray)] = (((((w8).setCell ⟨w.heap.size, 0, none⟩ (.string o)).setCell ⟨w.heap.size, 1, none⟩ (.int .i64 (t : Int))).setCell ⟨w.heap.size, 2, none⟩ (.int .i64 1)).setCell ⟨w.heap.size, 3, none⟩ (.int .i64 tt)).setCell ⟨w.heap.size, 4, none⟩ (.string (⟨#[]⟩ : ByteArray)) := rfl
      have gE : (w8).grownBy (setAll w8 w.heap.size 0 [.string o, .int .i64 (t : Int), .int .i64 1, .int .i64 tt, .string (⟨#[]⟩ : ByteArray)]) (some w.heap.size) := by
        rw [eE]
        exact grown_step (grown_step (grown_step (grown_step (grown_set _ _ _ _) (grown_set _ _ _ _)) (grown_set _ _ _ _)) (grown_set _ _ _ _)) (grown_set _ _ _ _)
      have sE := src_grown (w0 := w) hs8 gE (fun k hk => by cases hk; exact Nat.le_refl _) hglt hcode
      have ggE := grown_own gg8 gE (fun k hk => by cases hk; exact Nat.le_refl _)
      have rE := fun i => blk_cell kE i
      rw [← eE]
      refine bodyPost_ret (v := .agg #[.string o, .int .i64 (t : Int), .int .i64 1, .int .i64 tt, .string (⟨#[]⟩ : ByteArray)]) ?_ rfl ⟨⟨o, (t : Int), 1, tt, (⟨#[]⟩ : ByteArray)⟩, rfl, hw, sE, ggE⟩
      simp [results, Try.results28, go_sem, Result.andThen, rE]
end Go.Proofs.Ytocadkdfhfiijaa
/- What is held of a message while it is drawn. -/
namespace Go.Proofs.Ytocadkdfhfiijaa
open Go.RowKit
set_option linter.unusedVariables false

theorem Try.infoQuD : (Try.prog.info? 53).map (fun i => (i.zero, i.size, i.bytes)) = some (some (.agg #[.string ByteArray.empty, .int .i64 0, .int .i64 0]), 3, 32) := by kernel_rfl
theorem cell_newQ (w : World) (cs : Array Value) (e : Nat) : ∀ (j : Nat) (u : Value), cs.toList[j]? = some u → (w.alloc (.cells cs e)).cell? ((⟨w.heap.size, 0, none⟩ : Addr).add j) = some u := by
  intro j u h
  rw [Nm.addr_add, Nat.zero_add]
  have : (w.alloc (.cells cs e)).heap[w.heap.size]? = some (.cells cs e (0, 0)) := by show (w.heap.push _)[w.heap.size]? = _; simp
  rw [cell_of_row _ _ _ _ _ _ this]
  simpa using h
theorem own_blk' {W : World} {B e s m b : Nat} {v : Value} {xs : List Value} {cs : Array Value} {T : TypeId} (h : W.ownsRow B e s v m xs) (hb : Blk W b cs T) (hne : e ≠ T) : v.ownBlock ≠ some b := by
  rcases h.2 with ⟨rfl, _⟩ | ⟨g', cap', cur, rfl, _, hh, _⟩
  · simp [Value.ownBlock]
  · simp only [Value.ownBlock, ne_eq, Option.some.injEq]
    intro e2
    subst e2
    unfold Blk at hb
    rw [hh] at hb
    simp at hb
    exact hne hb.2
theorem rowS {w : World} {B e s m g n cap : Nat} {a : Option Addr} {v : Value} {xs : List Value} (h : w.ownsRow B e s v m xs) (hs : Src w g a n cap) (hne : e ≠ 38) : v.ownBlock = none ∨ v.ownBlock ≠ some g := by
  obtain ⟨pos, st, h1, _⟩ := hs
  rcases h.2 with ⟨rfl, _⟩ | ⟨g', cap', cur, rfl, _, hh, _⟩
  · exact .inl rfl
  · right
    simp only [Value.ownBlock, ne_eq, Option.some.injEq]
    intro e2
    subst e2
    rw [hh] at h1
    simp at h1
    exact hne h1.2

/-- A list of drawn records in memory of one's own, apart from what was made behind it. -/
structure LR (w W : World) (v : Value) (xs : List Rr) : Prop where
  own : W.ownsRow w.heap.size 66 5 v xs.length (rvVs xs)
  ok : ∀ r ∈ xs, rcW r
theorem LR.nil (w W : World) : LR w W (.slice none 0 0) [] := ⟨World.ownsRow_nil _ _ _ _, by simp⟩
theorem LR.grown {w W W1 : World} {g n cap : Nat} {a : Option Addr} {v : Value} {xs : List Rr} (h : LR w W v xs) (hs : Src W g a n cap) (hg : W.grownBy W1 (some g)) : LR w W1 v xs := ⟨h.own.kept hg (rowS h.own hs (by decide)), h.ok⟩
theorem LR.below {w W W1 : World} {v : Value} {xs : List Rr} (h : LR w W v xs) (hb : Below W.heap.size W W1) : LR w W1 v xs := ⟨own_below h.own hb, h.ok⟩
theorem LR.far {w W : World} {b i : Nat} {v y : Value} {xs : List Rr} {cs : Array Value} {T : TypeId} (h : LR w W v xs) (hb : Blk W b cs T) (hT : 66 ≠ T) : LR w (W.setCell ⟨b, i, none⟩ y) v xs := ⟨own_far h.own (own_blk' h.own hb hT), h.ok⟩
/-- What is held of a message while it is drawn. -/
structure DM (w W : World) (g : Nat) (a : Option Addr) (n cap b1 : Nat) (hd : List Value) (vq va vu vx : Value) (qs : List Qr) (an au ex : List Rr) : Prop where
  kB : Blk W b1 (hd ++ [vq, va, vu, vx]).toArray 29
  kk : Blk W w.heap.size #[.int .i64 0, .bool false, .int .i64 0, .bool false, .bool false, .bool false, .bool false, .bool false, .bool false, .bool false, .int .i64 0, .slice none 0 0, .slice none 0 0, .slice none 0 0, .slice none 0 0] 29
  q : W.ownsRow w.heap.size 53 3 vq qs.length (qvVs qs)
  an : LR w W va an
  au : LR w W vu au
  ex : LR w W vx ex
  s : Src W g a n cap
  gr : w.grownBy W (some g)
theorem DM.below {w W W1 : World} {g n cap b1 : Nat} {a : Option Addr} {hd : List Value} {vq va vu vx : Value} {qs : List Qr} {an au ex : List Rr} (h : DM w W g a n cap b1 hd vq va vu vx qs an au ex) (hb : Below W.heap.size W W1) : DM w W1 g a n cap b1 hd vq va vu vx qs an au ex :=
  ⟨blk_below h.kB hb, blk_below h.kk hb, own_below h.q hb, h.an.below hb, h.au.below hb, h.ex.below hb, src_below h.s hb, grown_below h.gr hb⟩
theorem DM.grown {w W W1 : World} {g n cap b1 : Nat} {a : Option Addr} {hd : List Value} {vq va vu vx : Value} {qs : List Qr} {an au ex : List Rr} (h : DM w W g a n cap b1 hd vq va vu vx qs an au ex) (hg : W.grownBy W1 (some g)) (hs : Src W1 g a n cap) (h1 : g < w.heap.size) (h2 : g < b1) : DM w W1 g a n cap b1 hd vq va vu vx qs an au ex :=
  ⟨blk_grown h.kB hg (by intro e; simp at e; omega), blk_grown h.kk hg (by intro e; simp at e; omega), h.q.kept hg (rowS h.q h.s (by decide)), h.an.grown h.s hg, h.au.grown h.s hg, h.ex.grown h.s hg, hs, grown_step h.gr hg⟩

/-- The lists lie below C. -/
def LowC (C : Nat) (v : Value) : Prop := ∀ q, v.ownBlock = some q → q < C
theorem kept_row {W W1 : World} {B e s m C : Nat} {v : Value} {xs : List Value} {row : Option Nat} (h : W.ownsRow B e s v m xs) (hC : LowC C v) (hg : W.grownBy W1 row) (hr : ∀ q, row = some q → C ≤ q) : W1.ownsRow B e s v m xs := by
  refine h.kept hg ?_
  cases hv : v.ownBlock with
  | none => exact .inl rfl
  | some k =>
    right
    intro e
    have h1 := hC k hv
    have h2 := hr k e.symm
    omega
theorem DM.row {w W W1 : World} {g n cap b1 C : Nat} {a : Option Addr} {hd : List Value} {vq va vu vx : Value} {qs : List Qr} {an au ex : List Rr} {row : Option Nat} (h : DM w W g a n cap b1 hd vq va vu vx qs an au ex) (hg : W.grownBy W1 row) (hr : ∀ q, row = some q → C ≤ q) (c1 : b1 < C) (c2 : w.heap.size < C) (lq : LowC C vq) (la : LowC C va) (lu : LowC C vu) (lx : LowC C vx) (hlt : g < w.heap.size) (hcode : CodeAt w g a n) : DM w W1 g a n cap b1 hd vq va vu vx qs an au ex := by
  have hn : ∀ b, b < C → row ≠ some b := fun b hb e => by have := hr b e; omega
  exact ⟨blk_grown h.kB hg (hn _ c1), blk_grown h.kk hg (hn _ c2), kept_row h.q lq hg hr, ⟨kept_row h.an.own la hg hr, h.an.ok⟩, ⟨kept_row h.au.own lu hg hr, h.au.ok⟩, ⟨kept_row h.ex.own lx hg hr, h.ex.ok⟩, src_grown (w0 := w) h.s hg (fun k hk => by have := hr k hk; omega) hlt hcode, grown_own h.gr hg (fun k hk => by have := hr k hk; omega)⟩
theorem DM.low {w W : World} {g n cap b1 : Nat} {a : Option Addr} {hd : List Value} {vq va vu vx : Value} {qs : List Qr} {an au ex : List Rr} (h : DM w W g a n cap b1 hd vq va vu vx qs an au ex) : b1 < W.heap.size ∧ w.heap.size < W.heap.size ∧ LowC W.heap.size vq ∧ LowC W.heap.size va ∧ LowC W.heap.size vu ∧ LowC W.heap.size vx :=
  ⟨blk_lt h.kB, blk_lt h.kk, fun q hq => (h.q.lt q hq).2, fun q hq => (h.an.own.lt q hq).2, fun q hq => (h.au.own.lt q hq).2, fun q hq => (h.ex.own.lt q hq).2⟩
theorem Try.infoRr : (Try.prog.info? 66).map (fun i => (i.zero, i.size, i.bytes)) = some (some (.agg #[.string ByteArray.empty, .int .i64 0, .int .i64 0, .int .i64 0, .string ByteArray.empty]), 5, 56) := by kernel_rfl
end Go.Proofs.Ytocadkdfhfiijaa
