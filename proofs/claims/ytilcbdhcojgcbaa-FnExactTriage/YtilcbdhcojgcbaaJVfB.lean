import Derived.Test.YtilcbdhcojgcbaaJCutM
import Derived.Test.YtilcbdhcojgcbaaJSHm
import Derived.Test.YtilcbdhcojgcbaaData2
import Derived.Test.YtilcbdhcojgcbaaJMath
import Derived.Test.YtilcbdhcojgcbaaJSDe
import Derived.RegionTactic
/- spec.l09Data by its contract. -/
namespace Go.Proofs.Ytilcbdhcojgcbaa
open Go.RowKit
set_option linter.unusedVariables false

def cutS' (l : List UInt8) (a n : Nat) : ByteArray := ⟨((l.drop a).take n).toArray⟩
theorem ext_cut (l : List UInt8) (D : ByteArray) (hD : D = ⟨l.toArray⟩) (a b : Nat) : D.extract a b = cutS' l a (b - a) := by
  subst hD
  apply Nm.ba_ext
  simp only [ByteArray.data_extract, Array.toList_extract, List.extract_eq_take_drop]
  rfl
theorem cutS'_data (l : List UInt8) (a n : Nat) : (cutS' l a n).data.toList = (l.drop a).take n := by simp [cutS']

/-- What spec.l09Data answers of a record. -/
def datV (r : Rm) (e : Ending) (w' : World) : Prop := (datB r = false ∧ e = .returned (.tuple #[.slice none 0 0, .bool false])) ∨
  (datB r = true ∧ ∃ b, e = .returned (.tuple #[.slice (some ⟨b, 0, none⟩) 4 4, .bool true]) ∧ Blk w' b #[.string (cutS' r.dat 13 6), .string (cutS' r.dat 19 2), .string (cutS' r.dat 23 32), .string (cutS' r.dat 55 2)] 9)

set_option maxRecDepth 100000 in
set_option maxHeartbeats 3200000 in
theorem l09Data_any (r : Rm) (w : World) (hd : r.dat.length ≤ 65535) :
    Calls Try.prog 21 #[.agg #[.string ⟨r.owner.toArray⟩, .int .i64 (r.ty : Int), .int .i64 (r.cl : Int), .int .i64 (r.ttl : Int), .string ⟨r.dat.toArray⟩]] w fun e w' => datV r e w' ∧ Below w.heap.size w w' := by
  have k0 := blk_new w #[.string ⟨r.owner.toArray⟩, .int .i64 (r.ty : Int), .int .i64 (r.cl : Int), .int .i64 (r.ttl : Int), .string ⟨r.dat.toArray⟩] 56
  have hB0 := (Below.refl w.heap.size w).alloc (Nat.le_refl _) (.cells #[.string ⟨r.owner.toArray⟩, .int .i64 (r.ty : Int), .int .i64 (r.cl : Int), .int .i64 (r.ttl : Int), .string ⟨r.dat.toArray⟩] 56)
  obtain ⟨D, hD⟩ : ∃ D : ByteArray, D = ⟨r.dat.toArray⟩ := ⟨_, rfl⟩
  have hDz : D.size = r.dat.length := by rw [hD, ba_size]
  have hDd : D.data.toList = r.dat := by rw [hD]
  have hnz := Dt.name_le D
  have HSA := same_alg D
  have HNA : Hid (sameS (Dt.nameAtS D) ⟨algL.toArray⟩ = true → (Dt.nameAtS D).size = 13) := by
    intro h
    obtain ⟨h1, h2⟩ := (same_alg D).1 h
    rw [name_alg h1 h2, ByteArray.size_extract]
    omega
  have hna := fun W => l02NameAt_any D W
  have hal := fun W => l09Alg_any W
  have hsm := fun W => specSameName_any (Dt.nameAtS D) ⟨algL.toArray⟩ W (by unfold maxLen; omega) (by decide)
  have HDB : Hid (datB r = (decide (r.cl = 255) && (decide (r.ttl = 0) && (decide (r.dat.length = 61) && (decide ((r.dat.take 13).map Nm.low = algL) && (decide ((r.dat.drop 21).take 2 = [0, 32]) && decide (r.dat.drop 57 = [0, 0, 0, 0]))))))) := rfl
  have HX : Hid (∀ a b, D.extract a b = cutS' r.dat a (b - a)) := fun a b => ext_cut r.dat D hD a b
  rw [hDd] at HSA
  rw [← hD] at k0 hB0 ⊢
  obtain ⟨O, hO⟩ : ∃ O : ByteArray, O = ⟨r.owner.toArray⟩ := ⟨_, rfl⟩
  rw [← hO] at k0 hB0 ⊢
  obtain ⟨T, hT⟩ : ∃ T, D.extract (Dt.nameAtS D).size D.size = T := ⟨_, rfl⟩
  have hTz : T.size = D.size - (Dt.nameAtS D).size := by rw [← hT, ByteArray.size_extract]; omega
  have hnz' : ((Dt.nameAtS D).size : Int) ≤ (D.size : Int) := by omega
  generalize sameS (Dt.nameAtS D) ⟨algL.toArray⟩ = b at *
  generalize Dt.nameAtS D = N at *
  have q := fun i => blk_cell k0 i
  have HDd := Nm.hide hDd
  have HDz := Nm.hide hDz
  have HTz := Nm.hide hTz
  clear hD hDd hO hDz hTz
  by_cases h1 : r.cl = 255
  case neg =>
    have e1 : ((r.cl : Int) != 255) = true := by rw [bne_iff_ne]; omega
    have hbad : datB r = false := by rw [HDB.out, decide_eq_false h1]; simp
    have HB := Nm.hide hbad
    clear HDB HX HNA HSA hbad h1
    go_enter Try.func21, Try.ntmps21
    go_wp2_with fail
    refine (hna _).mono ?_
    rintro e w1 ⟨rfl, rfl⟩
    go_wp2
    go_ret2
    exact ⟨.inl ⟨HB.out, rfl⟩, hB0⟩
  case pos =>
  have e1 : ((r.cl : Int) != 255) = false := by rw [bne_eq_false_iff_eq]; omega
  by_cases h2 : r.ttl = 0
  case neg =>
    have e2 : ((r.ttl : Int) != 0) = true := by rw [bne_iff_ne]; omega
    have hbad : datB r = false := by rw [HDB.out, decide_eq_false h2]; simp
    have HB := Nm.hide hbad
    clear HDB HX HNA HSA hbad h1 h2
    go_enter Try.func21, Try.ntmps21
    go_wp2_with fail
    refine (hna _).mono ?_
    rintro e w1 ⟨rfl, rfl⟩
    go_wp2
    go_ret2
    exact ⟨.inl ⟨HB.out, rfl⟩, hB0⟩
  case pos =>
  have e2 : ((r.ttl : Int) != 0) = false := by rw [bne_eq_false_iff_eq]; omega
  cases b with
  | false =>
    have hbad : datB r = false := by
      by_cases h61 : r.dat.length = 61
      · have : ¬ ((r.dat.take 13).map Nm.low = algL) := fun h => by
          have := HSA.2 ⟨by have := HDz.out; omega, h⟩
          cases this
        rw [HDB.out, decide_eq_false this]
        simp
      · rw [HDB.out, decide_eq_false h61]
        simp
    have HB := Nm.hide hbad
    clear HDB HX HNA HSA hbad h1 h2
    go_enter Try.func21, Try.ntmps21
    go_wp2_with fail
    refine (hna _).mono ?_
    rintro e w1 ⟨rfl, rfl⟩
    go_wp2_with fail
    refine (hal _).mono ?_
    rintro e w2 ⟨rfl, b2⟩
    go_wp2_with fail
    refine (hsm _).mono ?_
    rintro e w3 ⟨rfl, b3⟩
    go_wp2
    go_ret2
    exact ⟨.inl ⟨HB.out, rfl⟩, Nm.below_two (Nm.below_two hB0 b2) b3⟩
  | true =>
    have hN13 := HNA.out rfl
    have hlow := (HSA.1 rfl).2
    have hge := (HSA.1 rfl).1
    clear HNA HSA
    by_cases h4 : r.dat.length = 61
    case neg =>
      have e4 : ((T.size : Int) != 48) = true := by have := HDz.out; have := HTz.out; rw [bne_iff_ne]; omega
      have hbad : datB r = false := by rw [HDB.out, decide_eq_false h4]; simp
      have HB := Nm.hide hbad
      clear HDB HX hbad h1 h2 h4 hlow hN13
      go_enter Try.func21, Try.ntmps21
      go_wp2_with fail
      refine (hna _).mono ?_
      rintro e w1 ⟨rfl, rfl⟩
      go_wp2_with fail
      refine (hal _).mono ?_
      rintro e w2 ⟨rfl, b2⟩
      go_wp2_with fail
      refine (hsm _).mono ?_
      rintro e w3 ⟨rfl, b3⟩
      go_wp2
      go_ret2
      exact ⟨.inl ⟨HB.out, rfl⟩, Nm.below_two (Nm.below_two hB0 b2) b3⟩
    case pos =>
    have hT48 : T.size = 48 := by have := HDz.out; have := HTz.out; omega
    have e4 : ((T.size : Int) != 48) = false := by rw [bne_eq_false_iff_eq]; omega
    have hE : ∀ a n, a + n ≤ 48 → T.extract a (a + n) = cutS' r.dat (13 + a) n := by
      intro a n han
      rw [← hT, hN13, show (13 : Nat) + a = 13 + a from rfl]
      apply Nm.ba_ext
      rw [cutS'_data]
      simp only [ByteArray.data_extract, Array.toList_extract, List.extract_eq_take_drop]
      rw [HDd.out, List.drop_take, List.take_take, List.drop_drop, HDz.out, show min (a + n - a) (r.dat.length - 13 - a) = n by omega]
    have E0 := hE 0 6 (by omega)
    have E1 := hE 6 2 (by omega)
    have E2 := hE 10 32 (by omega)
    have E3 := hE 42 2 (by omega)
    have E4 := hE 8 2 (by omega)
    have E5 := hE 44 4 (by omega)
    simp only [Nat.zero_add, Nat.reduceAdd, Nat.add_zero] at E0 E1 E2 E3 E4 E5
    have F4 : (cutS' r.dat 21 2).toList = (r.dat.drop 21).take 2 := by rw [ByteArray.toList_eq, cutS'_data]
    have F5 : (cutS' r.dat 57 4).toList = r.dat.drop 57 := by rw [ByteArray.toList_eq, cutS'_data, List.take_of_length_le (by simp; omega)]
    have i8 : (10 : Int) ≤ (T.size : Int) := by omega
    have i44 : (44 : Int) ≤ (T.size : Int) := by omega
    have i6 : (6 : Int) ≤ (T.size : Int) := by omega
    have i8' : (8 : Int) ≤ (T.size : Int) := by omega
    have i42 : (42 : Int) ≤ (T.size : Int) := by omega
    have E5' : T.extract 44 T.size = cutS' r.dat 57 4 := by rw [hT48]; exact E5
    clear hE E5 hN13 hnz HX hge hT48
    by_cases h5 : (r.dat.drop 21).take 2 = [0, 32]
    case neg =>
      have e5 : ((cutS' r.dat 21 2).toList == [0, 32]) = false := by rw [F4, beq_eq_false_iff_ne]; exact h5
      have hbad : datB r = false := by rw [HDB.out, decide_eq_false h5]; simp
      have HB := Nm.hide hbad
      clear HDB hbad h1 h2 h4 hlow h5 F4 F5
      go_enter Try.func21, Try.ntmps21
      go_wp2_with fail
      refine (hna _).mono ?_
      rintro e w1 ⟨rfl, rfl⟩
      go_wp2_with fail
      refine (hal _).mono ?_
      rintro e w2 ⟨rfl, b2⟩
      go_wp2_with fail
      refine (hsm _).mono ?_
      rintro e w3 ⟨rfl, b3⟩
      go_wp2
      go_ret2
      exact ⟨.inl ⟨HB.out, rfl⟩, Nm.below_two (Nm.below_two hB0 b2) b3⟩
    case pos =>
    have e5 : ((cutS' r.dat 21 2).toList == [0, 32]) = true := by rw [F4, beq_iff_eq]; exact h5
    by_cases h6 : r.dat.drop 57 = [0, 0, 0, 0]
    case neg =>
      have e6 : ((cutS' r.dat 57 4).toList == [0, 0, 0, 0]) = false := by rw [F5, beq_eq_false_iff_ne]; exact h6
      have hbad : datB r = false := by rw [HDB.out, decide_eq_false h6]; simp
      have HB := Nm.hide hbad
      clear HDB hbad h1 h2 h4 hlow h5 h6 F4 F5
      go_enter Try.func21, Try.ntmps21
      go_wp2_with fail
      refine (hna _).mono ?_
      rintro e w1 ⟨rfl, rfl⟩
      go_wp2_with fail
      refine (hal _).mono ?_
      rintro e w2 ⟨rfl, b2⟩
      go_wp2_with fail
      refine (hsm _).mono ?_
      rintro e w3 ⟨rfl, b3⟩
      go_wp2
      go_ret2
      exact ⟨.inl ⟨HB.out, rfl⟩, Nm.below_two (Nm.below_two hB0 b2) b3⟩
    case pos =>
    have e6 : ((cutS' r.dat 57 4).toList == [0, 0, 0, 0]) = true := by rw [F5, beq_iff_eq]; exact h6
    have hok : datB r = true := by rw [HDB.out, decide_eq_true h1, decide_eq_true h2, decide_eq_true h4, decide_eq_true hlow, decide_eq_true h5, decide_eq_true h6]; rfl
    have HB := Nm.hide hok
    clear HDB hok h1 h2 h4 hlow h5 h6 F4 F5
    obtain ⟨C0, HC0⟩ : ∃ C, Hid (C = cutS' r.dat 13 6) := ⟨_, rfl⟩
    obtain ⟨C1, HC1⟩ : ∃ C, Hid (C = cutS' r.dat 19 2) := ⟨_, rfl⟩
    obtain ⟨C2, HC2⟩ : ∃ C, Hid (C = cutS' r.dat 23 32) := ⟨_, rfl⟩
    obtain ⟨C3, HC3⟩ : ∃ C, Hid (C = cutS' r.dat 55 2) := ⟨_, rfl⟩
    rw [← HC0.out] at E0
    rw [← HC1.out] at E1
    rw [← HC2.out] at E2
    rw [← HC3.out] at E3
    generalize cutS' r.dat 21 2 = C4 at *
    generalize cutS' r.dat 57 4 = C5 at *
    go_enter Try.func21, Try.ntmps21
    go_wp2_with fail
    refine (hna _).mono ?_
    rintro e w1 ⟨rfl, rfl⟩
    go_wp2_with fail
    refine (hal _).mono ?_
    rintro e w2 ⟨rfl, b2⟩
    go_wp2_with fail
    refine (hsm _).mono ?_
    rintro e w3 ⟨rfl, b3⟩
    have b4 := Nm.below_two (Nm.below_two hB0 b2) b3
    clear b2 b3
    go_wp2
    refine wp_region_last (S := fun _ => True) (L := 1000) (by kernel_rfl) trivial (fun hH => ?_)
    refine wpAnyL_take (i := 0) (v := ?_) rfl (by kernel_rfl) (by kernel_rfl) (by kernel_rfl) (by kernel_rfl) (fun _ _ _ h => h) (Or.inl ⟨by rfl, ?_⟩) (by assumption) ?_
    rotate_left 1
    · (intro w hSw; go_simp; try (with_reducible rfl))
    refine wpAnyL_take (i := 1) (v := ?_) rfl (by kernel_rfl) (by kernel_rfl) (by kernel_rfl) (by kernel_rfl) (fun _ _ _ h => h) (Or.inl ⟨by rfl, ?_⟩) (by assumption) ?_
    rotate_left 1
    · (intro w hSw; go_simp; try (with_reducible rfl))
    refine wpAnyL_take (i := 2) (v := ?_) rfl (by kernel_rfl) (by kernel_rfl) (by kernel_rfl) (by kernel_rfl) (fun _ _ _ h => h) (Or.inl ⟨by rfl, ?_⟩) (by assumption) ?_
    rotate_left 1
    · (intro w hSw; go_simp; try (with_reducible rfl))
    refine wpAnyL_take (i := 3) (v := ?_) rfl (by kernel_rfl) (by kernel_rfl) (by kernel_rfl) (by kernel_rfl) (fun _ _ _ h => h) (Or.inl ⟨by rfl, ?_⟩) (by assumption) ?_
    rotate_left 1
    · (intro w hSw; go_simp; try (with_reducible rfl))
    refine wpAnyL_take (i := 4) (v := ?_) rfl (by kernel_rfl) (by kernel_rfl) (by kernel_rfl) (by kernel_rfl) (fun _ _ _ h => h) (Or.inl ⟨by rfl, ?_⟩) (by assumption) ?_
    rotate_left 1
    · (intro w hSw; go_simp; try (with_reducible rfl))
    refine wpAnyL_take (i := 5) (v := ?_) rfl (by kernel_rfl) (by kernel_rfl) (by kernel_rfl) (by kernel_rfl) (fun _ _ _ h => h) (Or.inl ⟨by rfl, ?_⟩) (by assumption) ?_
    rotate_left 1
    · (intro w hSw; go_simp; try (with_reducible rfl))
    refine wpAnyL_take (i := 6) (v := ?_) rfl (by kernel_rfl) (by kernel_rfl) (by kernel_rfl) (by kernel_rfl) (fun _ _ _ h => h) (Or.inl ⟨by rfl, ?_⟩) (by assumption) ?_
    rotate_left 1
    · (intro w hSw; go_simp; try (with_reducible rfl))
    refine wpAnyL_take (i := 7) (v := ?_) rfl (by kernel_rfl) (by kernel_rfl) (by kernel_rfl) (by kernel_rfl) (fun _ _ _ h => h) (Or.inl ⟨by rfl, ?_⟩) (by assumption) ?_
    rotate_left 1
    · (intro w hSw; go_simp; try (with_reducible rfl))
    refine wpAnyL_one (i := 8) (by kernel_rfl) rfl (fun K hK => ?_)
    go_simp
    refine hK.out _ _ trivial (fun _ => ?_)
    clear hK K
    refine wpAnyL_take (i := 9) (v := ?_) rfl (by kernel_rfl) (by kernel_rfl) (by kernel_rfl) (by kernel_rfl) (fun _ _ _ h => h) (Or.inl ⟨by rfl, ?_⟩) (by assumption) ?_
    rotate_left 1
    · (intro w hSw; go_simp; try (with_reducible rfl))
    refine wpAnyL_take (i := 10) (v := ?_) rfl (by kernel_rfl) (by kernel_rfl) (by kernel_rfl) (by kernel_rfl) (fun _ _ _ h => h) (Or.inl ⟨by rfl, ?_⟩) (by assumption) ?_
    rotate_left 1
    · (intro w hSw; go_simp; try (with_reducible rfl))
    refine wpAnyL_done (by kernel_rfl) ?_
    go_wp2
    go_ret2
    refine ⟨.inr ⟨HB.out, _, rfl, ?_⟩, ?_⟩
    · rw [← HC0.out, ← HC1.out, ← HC2.out, ← HC3.out]
      exact blk_new w3 #[.string C0, .string C1, .string C2, .string C3] 9
    · exact (b4.alloc b4.size _).drew
end Go.Proofs.Ytilcbdhcojgcbaa
/- Numbers within bounds, by the contracts of the two tests. -/
namespace Go.Proofs.Ytilcbdhcojgcbaa
open Go.RowKit
set_option linter.unusedVariables false

set_option maxRecDepth 100000 in
set_option maxHeartbeats 400000 in
theorem l04In_any (n m : Int) (w : World) : Calls Try.prog 18 #[.int .i64 n, .int .i64 m] w fun e w' => e = .returned (.bool (decide (0 ≤ n) && decide (n ≤ m))) ∧ w' = w := by
  by_cases h0 : 0 ≤ n
  · by_cases h1 : n ≤ m
    · have e : (decide (0 ≤ n) && decide (n ≤ m)) = true := by simp [h0, h1]
      rw [e]
      clear e
      go_enter Try.func18, Try.ntmps18
      go_wp2
      go_ret
      exact ⟨rfl, rfl⟩
    · have h1' : m < n := by omega
      have e : (decide (0 ≤ n) && decide (n ≤ m)) = false := by simp [h0, h1]
      rw [e]
      clear e
      go_enter Try.func18, Try.ntmps18
      go_wp2
      go_ret
      exact ⟨rfl, rfl⟩
  · have h0' : n < 0 := by omega
    have e : (decide (0 ≤ n) && decide (n ≤ m)) = false := by simp [h0]
    rw [e]
    clear e
    go_enter Try.func18, Try.ntmps18
    go_wp2
    go_ret
    exact ⟨rfl, rfl⟩
end Go.Proofs.Ytilcbdhcojgcbaa
