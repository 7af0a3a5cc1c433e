import Derived.Test.YtddabafaejahbaaGreatDoorJData1
import Derived.Test.YtddabafaejahbaaGreatDoorJRdY
import Derived.Test.YtddabafaejahbaaGreatDoorJMath
import Derived.Test.YtddabafaejahbaaGreatDoorRows
import Derived.WalkSpells
import Derived.WalkLawsBesides
import Derived.Test.YtddabafaejahbaaGreatDoorJSCheck
import Derived.Test.YtddabafaejahbaaGreatDoorJOwnT
import Derived.Test.YtddabafaejahbaaGreatDoorJTxt8
import Derived.Test.YtddabafaejahbaaGreatDoorJINbd
import Derived.Deep.OwnRows
import Derived.Test.YtddabafaejahbaaGreatDoorJSSplit
/- spec.l03Word whole; spec.l03Many. -/
namespace Go.Proofs.YtddabafaejahbaaGreatDoor
open Go.RowKit
set_option linter.unusedVariables false
set_option maxRecDepth 100000 in
set_option maxHeartbeats 1600000 in
theorem l03Word_tag (x o : ByteArray) (w : World) :
 Calls Tryz.prog 21 #[.int .u8 103, .agg #[.string x, .bool false], .string o] w fun e w' => e = .returned (strV (readPl 103 x o)) ∧ Below w.heap.size w w' := by
 have hr : readPl 103 x o = if tagT x = true then (lenS x, 0) else (⟨#[]⟩, 15) := rfl
 have hb0 := (Below.refl w.heap.size w).alloc (Nat.le_refl _) (.cells #[.string x, .bool false] 40); have k0 := blk_new w #[.string x, .bool false] 40
 by_cases h1 : x.size < 1
 · have ht : tagT x = false := by rw [tagT]; simp; omega
   rw [hr, ht, if_neg (by simp)]; have h1' : (x.size : Int) < 1 := by omega
   have dd : decide ((x.size : Int) < 1) = true := by simp; omega
   go_enter Tryz.func21, Tryz.ntmps21; go_wp2; refine bodyPost_ret (v := strV (⟨#[]⟩, 15)) ?_ rfl ⟨rfl, hb0⟩; simp [results, Tryz.f21, go_sem, strV]
 · by_cases h2 : 15 < x.size
   · have ht : tagT x = false := by rw [tagT]; simp; omega
     rw [hr, ht, if_neg (by simp)]; have d1 : decide ((x.size : Int) < 1) = false := by simp; omega
     have d2 : decide (15 < (x.size : Int)) = true := by simp; omega
     go_enter Tryz.func21, Tryz.ntmps21; go_wp2; refine bodyPost_ret (v := strV (⟨#[]⟩, 15)) ?_ rfl ⟨rfl, hb0⟩; simp [results, Tryz.f21, go_sem, strV]
   · have d1 : decide ((x.size : Int) < 1) = false := by simp; omega
     have d2 : decide (15 < (x.size : Int)) = false := by simp; omega
     rw [hr]; obtain ⟨R, HR⟩ : ∃ R, Hid (R = if tagT x = true then (lenS x, (0 : Int)) else (⟨#[]⟩, 15)) := ⟨_, rfl⟩; rw [← HR.out]; clear hr; have hcv := fun W => conv_one (x.size : Int) W
     simp only [Int.toNat_natCast] at hcv; have r0 : (w.alloc (.cells #[.string x, .bool false] 40)).cell? ⟨w.heap.size, 0, none⟩ = some (.string x) := blk_cell k0 0; go_enter Tryz.func21, Tryz.ntmps21; go_wp2
     go_loopw [15] (fun i wr => ∃ j : Nat, j ≤ x.size ∧ i = .int .i64 (j : Int) ∧ Hid (∀ k, (hk : k < x.size) → k < j → Dt.alnumB x[k] = true) ∧ wr = w.alloc (.cells #[.string x, .bool false] 40)) (fun i _ => x.size - (intOf i).toNat)
     case atStart => exact ⟨0, Nat.zero_le _, rfl, fun k hk h => by omega, rfl⟩
     case round =>
      obtain ⟨j, hj, rfl, hall, rfl⟩ := hrel
      by_cases hlt : j < x.size
      · have i1 : (0 : Int) ≤ (j : Int) := by omega
        have i2 : (j : Int) < (x.size : Int) := by omega
        have hal := fun W => l02Alnum_any x[j] W
        cases ha : Dt.alnumB x[j] with
        | false =>
          rw [ha] at hal; have hR2 : R = (⟨#[]⟩, 15) := by rw [HR.out, tagT_bad hlt ha]; rfl
          subst hR2; clear ha hall; go_wp2_with (go_at_call 47; refine (hal _).mono ?_; rintro e w' ⟨rfl, rfl⟩)
          refine bodyPost_ret (v := strV (⟨#[]⟩, 15)) ?_ rfl ⟨rfl, hb0⟩
          simp [results, Tryz.f21, go_sem, strV]
        | true =>
          rw [ha] at hal
          have HN : Hid (∀ k, (hk : k < x.size) → k < j + 1 → Dt.alnumB x[k] = true) := by
           intro k hk h
           by_cases e : k = j
           · subst e; exact ha
           · exact hall k hk (by omega)
          clear ha hall; go_wp2_with (go_at_call 47; refine (hal _).mono ?_; rintro e w' ⟨rfl, rfl⟩)
          go_roundw
          case rel => exact ⟨j + 1, by omega, by go_num, HN, by first | trivial | rfl⟩
          case measure => simp [intOf]; omega
      · have hjn : j = x.size := by omega
        subst hjn
        have hR2 : R = (lenS x, 0) := by
         rw [HR.out, tagT_good (fun k hk => hall k hk hk), if_pos]; simp
         omega
        subst hR2; have HL : Hid ((⟨#[UInt8.ofNat x.size]⟩ : ByteArray) ++ x = lenS x) := rfl; have hl' : (x.size : Int) ≤ 255 := by omega
        have r1 : ((w.alloc (.cells #[.string x, .bool false] 40)).alloc (.cells #[.int .u8 (x.size : Int)] 5)).cell? ⟨w.heap.size, 0, none⟩ = some (.string x) := blk_cell (blk_alloc k0 _) 0; have hcv1 := hcv (w.alloc (.cells #[.string x, .bool false] 40)); rw [World.size_alloc] at hcv1; clear hall; go_wp2; refine bodyPost_ret (v := strV (lenS x, 0)) ?_ rfl ⟨rfl, hb0.alloc (by simp) _⟩; rw [← HL.out]; simp [results, Tryz.f21, go_sem, strV]
/-- A kind of a word that a script has. -/
def kindB (c : UInt8) : Bool := c == 65 || c == 86 || c == 110 || c == 49 || c == 50 || c == 52 || c == 84 || c == 103 || c == 116 || c == 115 || c == 118
theorem l03Word_any (c : UInt8) (x o : ByteArray) (b : Bool) (w : World) (hs : x.size ≤ 2000000) (ho : o.size ≤ maxLen) (hk : kindB c = true) :
 Calls Tryz.prog 21 #[.int .u8 (c.toNat : Int), .agg #[.string x, .bool b], .string o] w fun e w' => e = .returned (strV (readWd c (x, b) o)) ∧ Below w.heap.size w w' := by
 simp only [kindB, Bool.or_eq_true, beq_iff_eq] at hk
 by_cases ht : c = 116 ∨ c = 115 ∨ c = 118
 · have hr : readWd c (x, b) o = readTx c x := by rcases ht with rfl | rfl | rfl <;> rfl
   rw [hr]; exact l03Word_text c x o b w (by omega) ht
 · have hk2 : c = 65 ∨ c = 86 ∨ c = 110 ∨ c = 49 ∨ c = 50 ∨ c = 52 ∨ c = 84 ∨ c = 103 := by
    rcases hk with (((((((((h | h) | h) | h) | h) | h) | h) | h) | h) | h) | h
    · exact .inl h
    · exact .inr (.inl h)
    · exact .inr (.inr (.inl h))
    · exact .inr (.inr (.inr (.inl h)))
    · exact .inr (.inr (.inr (.inr (.inl h))))
    · exact .inr (.inr (.inr (.inr (.inr (.inl h)))))
    · exact .inr (.inr (.inr (.inr (.inr (.inr (.inl h))))))
    · exact .inr (.inr (.inr (.inr (.inr (.inr (.inr h))))))
    · exact absurd (.inl h) ht
    · exact absurd (.inr (.inl h)) ht
    · exact absurd (.inr (.inr h)) ht
   cases b with
   | true => exact l03Word_quoted c x o w hk2
   | false =>
     have hr : readWd c (x, false) o = readPl c x o := by rcases hk2 with rfl | rfl | rfl | rfl | rfl | rfl | rfl | rfl <;> rfl
     rw [hr]
     rcases hk2 with rfl | rfl | rfl | h | h | h | rfl | rfl
     · exact l03Word_v4 x o w hs
     · exact l03Word_v6 x o w
     · exact l03Word_name x o w ho
     · exact l03Word_num c x o w (.inl h)
     · exact l03Word_num c x o w (.inr (.inl h))
     · exact l03Word_num c x o w (.inr (.inr h))
     · exact l03Word_time x o w
     · exact l03Word_tag x o w
end Go.Proofs.YtddabafaejahbaaGreatDoor
/- spec.l01Small by its contract. -/
namespace Go.Proofs.YtddabafaejahbaaGreatDoor
open Go.RowKit
theorem Tryz.infoU8s : (Tryz.prog.info? 5).map (fun i => (i.zero, i.size, i.bytes)) = some (some (.int .u8 0), 1, 1) := by kernel_rfl
theorem conv_nil (c : Nat) (W : World) : (convert 87 9 (.slice (some ⟨c, 0, none⟩) 0 0)).run Tryz.prog W = .ok (.string ByteArray.empty) W := by
 exact run_convert_bytes_back W 87 9 5 ⟨c, 0, none⟩ 0 [] Tryz.underlying87 Tryz.underlying5 Tryz.underlying9 (by intro j hj; simp at hj)
set_option maxRecDepth 100000 in
set_option maxHeartbeats 800000 in
theorem l01Small_any (s : ByteArray) (w : World) (hs : s.size ≤ 1000000000) :
 Calls Tryz.prog 40 #[.string s] w fun e w' => e = .returned (.string (Nm.small s)) ∧ Below w.heap.size w w' := by
 obtain ⟨j0, hj, k0, k1, k2⟩ := info_parts Tryz.infoU8s
 by_cases hz : s.size = 0
 · have hc := fun W => conv_nil w.heap.size W
   have HE : Hid (Nm.small s = ByteArray.empty) := by
    show _ = _
    apply Nm.ba_ext; rw [Nm.small_data, List.length_eq_zero_iff.1 (show s.data.toList.length = 0 by simpa using hz)]; rfl
   have hz' : (s.size : Int) ≤ 0 := by omega
   go_enter Tryz.func40, Tryz.ntmps40; go_wp2
   go_loop [3, 4] (fun v i => v = .slice (some ⟨w.heap.size, 0, none⟩) 0 0 ∧ i = .int .i64 0) (fun _ _ => 0)
   case atStart => exact ⟨rfl, rfl⟩
   case round =>
    obtain ⟨rfl, rfl⟩ := hrel; go_wp2; go_ret; rw [HE.out]; exact ⟨rfl, (Below.refl _ _).alloc (Nat.le_refl _) _⟩
 · go_enter Tryz.func40, Tryz.ntmps40; go_wp2
   go_loopw [3, 4] (fun v i wr => ∃ k : Nat, k ≤ s.size ∧ i = .int .i64 k ∧ wr.ownsRow w.heap.size 5 1 v k (Nm.bys (Nm.smallL (s.data.toList.take k))) ∧ Below w.heap.size w wr)
    (fun _ i _ => s.size - (intOf i).toNat)
   case atStart => exact ⟨0, Nat.zero_le _, rfl, World.ownsRow_made w #[] 0 (Nat.le_refl _) (by decide) rfl, (Below.refl _ _).alloc (Nat.le_refl _) _⟩
   case round =>
    obtain ⟨k, hk, rfl, hown, hbel⟩ := hrel; have hsz := hbel.size
    by_cases hlt : k < s.size
    · have HS := Nm.hide (Nm.smallL_step (Nm.get_data hlt)); have hcl : (s[k].toNat : Int) < 256 := by have := s[k].toNat_lt; omega
      by_cases hup : 65 ≤ s[k].toNat ∧ s[k].toNat ≤ 90
      · have HL := Nm.hide (Nm.low_up hup); have d1 : decide ((65 : Int) ≤ (s[k].toNat : Int)) = true := by simp; omega
        have d2 : decide ((s[k].toNat : Int) ≤ 90) = true := by simp; omega
        have hb1 : (s[k].toNat : Int) ≤ 90 := by omega
        clear hup; go_wp2_with (at_builtin; refine wpList_append_own _ rfl (.tmp 24) (.tmp 26) 87 rfl w.heap.size 5 j0 (.int .u8 0) 1 1 Tryz.underlying87 hj k0 k1 k2 rfl (by decide) _ _ _ rfl (hown.alloc _) ⟨wr.heap.size, 0, none⟩ 1 1 [.int .u8 ((s[k].toNat : Int) + 32)] rfl rfl (cell_one_new _ _ _) (Nm.one_cell _ rfl) (by unfold maxLen; omega) (by omega) (by simp; omega) ?_; intro vb wb hown2 hgrow2 hnl2; clear hnl2; rw [← HL.out] at hown2; have R2 := Nm.bys_step (x := [Nm.low s[k]]) (by simp; omega) (hown.alloc _) (hbel.alloc hsz _) hown2 hgrow2; clear hown2 hgrow2)
        go_roundw
        case rel => exact ⟨k + 1, by omega, by go_num, by rw [HS.out]; exact R2.1, R2.2⟩
        case measure => simp [intOf]; omega
      · have HL := Nm.hide (Nm.low_id hup)
        by_cases hlo : 65 ≤ s[k].toNat
        · have d1 : decide ((65 : Int) ≤ (s[k].toNat : Int)) = true := by simp; omega
          have d2 : decide ((s[k].toNat : Int) ≤ 90) = false := by simp; omega
          clear hup; go_wp2_with (at_builtin; refine wpList_append_own _ rfl (.tmp 24) (.tmp 26) 87 rfl w.heap.size 5 j0 (.int .u8 0) 1 1 Tryz.underlying87 hj k0 k1 k2 rfl (by decide) _ _ _ rfl (hown.alloc _) ⟨wr.heap.size, 0, none⟩ 1 1 [.int .u8 (s[k].toNat : Int)] rfl rfl (cell_one_new _ _ _) (Nm.one_cell _ rfl) (by unfold maxLen; omega) (by omega) (by simp; omega) ?_; intro vb wb hown2 hgrow2 hnl2; clear hnl2; have R2 := Nm.bys_step (x := [s[k]]) (by simp; omega) (hown.alloc _) (hbel.alloc hsz _) hown2 hgrow2; clear hown2 hgrow2)
          go_roundw
          case rel => exact ⟨k + 1, by omega, by go_num, by rw [HS.out, HL.out]; exact R2.1, R2.2⟩
          case measure => simp [intOf]; omega
        · have d1 : decide ((65 : Int) ≤ (s[k].toNat : Int)) = false := by simp; omega
          clear hup; go_wp2_with (at_builtin; refine wpList_append_own _ rfl (.tmp 24) (.tmp 26) 87 rfl w.heap.size 5 j0 (.int .u8 0) 1 1 Tryz.underlying87 hj k0 k1 k2 rfl (by decide) _ _ _ rfl (hown.alloc _) ⟨wr.heap.size, 0, none⟩ 1 1 [.int .u8 (s[k].toNat : Int)] rfl rfl (cell_one_new _ _ _) (Nm.one_cell _ rfl) (by unfold maxLen; omega) (by omega) (by simp; omega) ?_; intro vb wb hown2 hgrow2 hnl2; clear hnl2; have R2 := Nm.bys_step (x := [s[k]]) (by simp; omega) (hown.alloc _) (hbel.alloc hsz _) hown2 hgrow2; clear hown2 hgrow2)
          go_roundw
          case rel => exact ⟨k + 1, by omega, by go_num, by rw [HS.out, HL.out]; exact R2.1, R2.2⟩
          case measure => simp [intOf]; omega
    · have hkl : k = s.size := by omega
      subst hkl; obtain ⟨g, cp, rfl, hcv⟩ := Nm.conv_own (P := Tryz.prog) Tryz.underlying87 Tryz.underlying5 Tryz.underlying9 hown (by omega); rw [List.take_of_length_le (by simp)] at hcv; have he : (⟨(Nm.smallL s.data.toList).toArray⟩ : ByteArray) = Nm.small s := rfl; rw [he] at hcv; clear hown hlt he; go_wp2; go_ret; exact ⟨rfl, hbel⟩
end Go.Proofs.YtddabafaejahbaaGreatDoor
/- spec.ReadType by its contract. -/
namespace Go.Proofs.YtddabafaejahbaaGreatDoor
open Go.RowKit
set_option maxRecDepth 100000 in
set_option maxHeartbeats 3000000 in
theorem specReadType_any (s : ByteArray) (w : World) (hs : s.size ≤ 1000000000) :
 Calls Tryz.prog 20 #[.string s] w fun e w' => e = .returned (pairV (readTyS s)) ∧ Below w.heap.size w w' := by
 obtain ⟨R, HR⟩ : ∃ R, Hid (R = pairV (readTyS s)) := ⟨_, rfl⟩; rw [← HR.out]; have hsm0 := l01Small_any s w hs; obtain ⟨Q, HQ⟩ : ∃ Q, Hid (Q = Nm.small s) := ⟨_, rfl⟩; rw [← HQ.out] at hsm0; have hQ1 : Q.size ≤ s.size := by rw [HQ.out, Nm.small_size]; exact Nat.le_refl _
 have hQ2 : s.size ≤ Q.size := by rw [HQ.out, Nm.small_size]; exact Nat.le_refl _
 by_cases h9 : 9 < s.size
 · have HN : Hid (R = .tuple #[.int .i64 0, .int .i64 6]) := by show _ = _; rw [HR.out, ty_long h9]; rfl
   have h9' : (9 : Int) < (s.size : Int) := by omega
   go_enter Tryz.func20, Tryz.ntmps20; go_wp2_with (go_at_call 40; refine hsm0.mono ?_; rintro e w1 ⟨rfl, hb1⟩)
   go_ret2; rw [HN.out]; exact ⟨rfl, hb1⟩
 have h9' : (s.size : Int) ≤ 9 := by omega
 have hst := Nm.hide (tyAt_start s); go_enter Tryz.func20, Tryz.ntmps20; go_wp2_with (go_at_call 40; refine hsm0.mono ?_; rintro e w1 ⟨rfl, hb1⟩)
 go_loopw [5] (fun v wr => ∃ t : Int, 1 ≤ t ∧ t ≤ 258 ∧ v = .int .i64 t ∧ Hid (TyAt s t) ∧ Below w.heap.size w wr) (fun v _ => (258 - intOf v).toNat)
 case atStart => exact ⟨1, by omega, by omega, rfl, hst, hb1⟩
 case round =>
  obtain ⟨t, ht1, ht2, rfl, HT, hbel⟩ := hrel; clear hst hb1 hsm0
  by_cases hlt : t ≤ 257
  · by_cases hz : s.size = 0
    · obtain ⟨_, hne⟩ := beq_empty (s := s) hz; have HN := Nm.hide (tyAt_empty (s := s) (t := t + 1) hz); clear HT; go_wp2; go_roundw
      case rel => exact ⟨t + 1, by omega, by omega, by go_num, HN, hbel⟩
      case measure => simp [intOf]; omega
    · obtain ⟨_, hne⟩ := not_empty (s := s) (by omega); have hmn := fun W => l03Mnemonic_any t W
      have hml := mnemS_len t; have hsm := fun W => l01Small_any (mnemS t) W (by omega)
      cases hq : ((Nm.small (mnemS t)).toList == (Nm.small s).toList) with
      | true =>
        have HN : Hid (R = .tuple #[.int .i64 t, .int .i64 0]) := by show _ = _; rw [HR.out, tyAt_hit HT.out hz hq]; rfl
        rw [← HQ.out] at hq; generalize Nm.small (mnemS t) = SM at *; generalize mnemS t = M at *; clear HT; go_wp2_with (first | (go_at_call 41; refine (hmn _).mono ?_; rintro e w2 ⟨rfl, hw⟩; obtain rfl : wr = w2 := hw.symm; clear hw) | (go_at_call 40; refine (hsm _).mono ?_; rintro e w3 ⟨rfl, hb3⟩))
        go_ret2; rw [HN.out]
        exact ⟨rfl, Nm.below_two hbel hb3⟩
      | false =>
        have HN := Nm.hide (tyAt_next HT.out hq); rw [← HQ.out] at hq; generalize Nm.small (mnemS t) = SM at *; generalize mnemS t = M at *; clear HT; go_wp2_with (first | (go_at_call 41; refine (hmn _).mono ?_; rintro e w2 ⟨rfl, hw⟩; obtain rfl : wr = w2 := hw.symm; clear hw) | (go_at_call 40; refine (hsm _).mono ?_; rintro e w3 ⟨rfl, hb3⟩))
        go_roundw
        case rel => exact ⟨t + 1, by omega, by omega, by go_num, HN, Nm.below_two hbel hb3⟩
        case measure => simp [intOf]; omega
  · have hte : t = 258 := by omega
    subst hte; have HE : Hid (R = pairV (tyTail s)) := by show _ = _; rw [HR.out, tyAt_end HT.out]
    clear HT HR
    by_cases h5 : s.size < 5
    · have HN : Hid (R = .tuple #[.int .i64 0, .int .i64 6]) := by show _ = _; rw [HE.out, tyTail_short h5]; rfl
      have h5' : (Q.size : Int) < 5 := by omega
      go_wp2; go_ret2; rw [HN.out]; exact ⟨rfl, hbel⟩
    · have h5' : (5 : Int) ≤ (Q.size : Int) := by omega
      have h4a : (4 : Int) ≤ (Q.size : Int) := by omega
      have h4b : 4 ≤ Q.size := by omega
      have HP : Hid (((Q.extract 0 4).toList == [116, 121, 112, 101]) = ((Nm.small (s.extract 0 4)).toList == [116, 121, 112, 101])) := by
       show _ = _
       rw [HQ.out, small_extract]
      cases hp : ((Nm.small (s.extract 0 4)).toList == [116, 121, 112, 101]) with
      | false =>
        have HN : Hid (R = .tuple #[.int .i64 0, .int .i64 6]) := by show _ = _; rw [HE.out, tyTail_not hp]; rfl
        have hp2 : ((Q.extract 0 4).toList == [116, 121, 112, 101]) = false := by rw [HP.out, hp]
        clear hp; go_wp2; go_ret2; rw [HN.out]
        exact ⟨rfl, hbel⟩
      | true =>
        have hp2 : ((Q.extract 0 4).toList == [116, 121, 112, 101]) = true := by rw [HP.out, hp]
        have hnum := fun W => l03Number_any (Q.extract 4 Q.size) 5 W (by decide)
        have hno : numO (Q.extract 4 Q.size) 5 = numO (s.extract 4 s.size) 5 := by rw [HQ.out, Nm.small_size, small_extract, numO_small]
        cases hn : numO (s.extract 4 s.size) 5 with
        | none =>
          have HN : Hid (R = .tuple #[.int .i64 0, .int .i64 6]) := by show _ = _; rw [HE.out, tyTail_none hn]; rfl
          rw [hno, hn] at hnum; simp only [numV, Option.getD_none, Option.isSome_none] at hnum; clear hp hn hno; go_wp2_with (go_at_call 37; refine (hnum _).mono ?_; rintro e w2 ⟨rfl, hw⟩; obtain rfl : wr = w2 := hw.symm; clear hw)
          go_ret2; rw [HN.out]
          exact ⟨rfl, hbel⟩
        | some n =>
          have HT := Nm.hide (tyTail_some (by omega) hp hn); rw [hno, hn] at hnum; simp only [numV, Option.getD_some, Option.isSome_some] at hnum; clear hp hn hno
          by_cases hle : n ≤ 65535
          · have HN : Hid (R = .tuple #[.int .i64 n, .int .i64 0]) := by show _ = _; rw [HE.out, HT.out, if_pos hle]; rfl
            have hle' : (n : Int) ≤ 65535 := by omega
            go_wp2_with (go_at_call 37; refine (hnum _).mono ?_; rintro e w2 ⟨rfl, hw⟩; obtain rfl : wr = w2 := hw.symm; clear hw)
            go_ret2; rw [HN.out]; exact ⟨rfl, hbel⟩
          · have HN : Hid (R = .tuple #[.int .i64 0, .int .i64 6]) := by show _ = _; rw [HE.out, HT.out, if_neg hle]; rfl
            have hle' : 65535 < (n : Int) := by omega
            go_wp2_with (go_at_call 37; refine (hnum _).mono ?_; rintro e w2 ⟨rfl, hw⟩; obtain rfl : wr = w2 := hw.symm; clear hw)
            go_ret2; rw [HN.out]; exact ⟨rfl, hbel⟩
end Go.Proofs.YtddabafaejahbaaGreatDoor
/- spec.TypeMap by its contract. -/
namespace Go.Proofs.YtddabafaejahbaaGreatDoor
open Go.RowKit
theorem Tryz.infoBool : (Tryz.prog.info? 4).map (fun i => (i.zero, i.size, i.bytes)) = some (some (.bool false), 1, 1) := by kernel_rfl
theorem Tryz.infoU8t : (Tryz.prog.info? 5).map (fun i => (i.zero, i.size, i.bytes)) = some (some (.int .u8 0), 1, 1) := by kernel_rfl
theorem twice_zero (b : Nat) : (b * 2 + false.toNat = 0) = (b = 0) := propext (by show b * 2 + 0 = 0 ↔ b = 0; omega)
theorem bool_apart {w w1 : World} {B n g M : Nat} {v : Value} {xs : List Value} {f : Nat → Value} {O : Obj} (h : w.ownsRow B 5 1 v n xs) (hr : w.rowIs g 4 M f) (hg : (w.alloc O).grownBy w1 v.ownBlock) : w1.rowIs g 4 M f := by
 refine hr.of_block ?_; have hlt := hr.lt; obtain ⟨c, hb, _, _⟩ := hr
 have hne : some g ≠ v.ownBlock := by
  rcases h.2 with ⟨rfl, _⟩ | ⟨g', cap, cur, rfl, _, hh, _⟩
  · simp [Value.ownBlock]
  · simp only [Value.ownBlock, ne_eq, Option.some.injEq]; intro e; subst e; rw [hb] at hh; simp at hh
 have h1 := hg.block g (by simp; omega) hne; have h2 : Below w.heap.size w (w.alloc O) := (Below.refl _ _).alloc (Nat.le_refl _) _; exact h1.trans (h2.block g hlt)
theorem blk_conv {w W : World} {B g cap n p : Nat} {S : Nat → Bool} (h : w.ownsRow B 5 1 (.slice (some ⟨g, 0, none⟩) 32 cap) 32 (Nm.bys (blkB S p 32))) (hn : n ≤ 32) (hW : W.heap[g]? = w.heap[g]?) :
 (convert 87 9 (.slice (some ⟨g, 0, none⟩) n cap)).run Tryz.prog W = .ok (.string ⟨(blkB S p n).toArray⟩) W := by
 have hl := blkB_len S p n
 have hr := run_convert_bytes_back (P := Tryz.prog) W 87 9 5 ⟨g, 0, none⟩ cap (blkB S p n) Tryz.underlying87 Tryz.underlying5 Tryz.underlying9 (by
  intro j hj; rw [Nm.addr_add, Nat.zero_add]; have e : W.cell? ⟨g, j, none⟩ = w.cell? ⟨g, j, none⟩ := by simp only [World.cell?, hW]
  rw [e, h.cellAt j (by omega), Nm.bys, List.getElem?_map]
  have e2 : (blkB S p 32)[j]? = some (blkB S p n)[j] := by
   rw [← List.getElem?_eq_getElem hj, ← blkB_take S p 32 n hn, List.getElem?_take, if_pos (by omega)]
  rw [e2]; rfl)
 rw [hl] at hr; exact hr
theorem two_conv {a b : Nat} (ha : a < 256) (hb : b < 256) (W : World) : (convert 87 9 (.slice (some ⟨W.heap.size, 0, none⟩) 2 2)).run Tryz.prog (W.alloc (.cells #[.int .u8 (a : Int), .int .u8 (b : Int)] 5)).drew = .ok (.string ⟨#[UInt8.ofNat a, UInt8.ofNat b]⟩) (W.alloc (.cells #[.int .u8 (a : Int), .int .u8 (b : Int)] 5)).drew := by
 have ea : (UInt8.ofNat a).toNat = a := by simp; omega
 have eb : (UInt8.ofNat b).toNat = b := by simp; omega
 refine run_convert_bytes_back (P := Tryz.prog) (W.alloc (.cells #[.int .u8 (a : Int), .int .u8 (b : Int)] 5)).drew 87 9 5 ⟨W.heap.size, 0, none⟩ 2 [UInt8.ofNat a, UInt8.ofNat b] Tryz.underlying87 Tryz.underlying5 Tryz.underlying9 ?_; intro j hj; rw [Nm.addr_add, Nat.zero_add]; have e : (W.alloc (.cells #[.int .u8 (a : Int), .int .u8 (b : Int)] 5)).drew.cell? ⟨W.heap.size, j, none⟩ = #[Value.int .u8 (a : Int), .int .u8 (b : Int)][j]? := World.cell?_alloc_new W _ _ j; rw [e]
 rcases j with _ | _ | j
 · simp [ea]
 · simp [eb]
 · simp at hj; omega
set_option maxRecDepth 100000 in
set_option maxHeartbeats 8000000 in
theorem specTypeMap_any (v : Value) (l : List Int) (w : World) (h : CRow w v l.length 1 (intCells l)) (hl : l.length ≤ 1000000000) :
 Calls Tryz.prog 22 #[v] w fun e w' => e = .returned (.tuple #[.string (mapR l).1, .int .i64 (mapR l).2]) ∧ Below w.heap.size w w' := by
 obtain ⟨i0, hi, hz0, hz1, hz2⟩ := info_parts Tryz.infoU8t; obtain ⟨_, a, cap, rfl, hcap, hmx, hc⟩ := h; have hmk := run_make_row' (P := Tryz.prog) 96 4 (.bool false) 1 Tryz.underlying96 Tryz.infoBool rfl .i64 .i64 65536 (by decide) (by decide) w; have hrow0 := World.rowIs_made w (.bool false) 65536 4; have hbel0 : Below w.heap.size w (w.alloc (.cells (madeCells #[.bool false] 65536) 4)) := (Below.refl _ _).alloc (Nat.le_refl _) _; have hgz0 : w.heap.size < (w.alloc (.cells (madeCells #[.bool false] 65536) 4)).heap.size := by simp
 generalize w.alloc (.cells (madeCells #[.bool false] 65536) 4) = w0 at *; have e65 : ((65536 : Nat) : Int) = 65536 := rfl; rw [e65] at hmk; obtain ⟨M, HM, hmk⟩ : ∃ M : Nat, Hid (M = 65536) ∧ (Instr.makeSlice 96 (.int .i64 65536) (.int .i64 65536)).run Tryz.prog w = .ok (.slice (some ⟨w.heap.size, 0, none⟩) M M) w0 := ⟨65536, rfl, hmk⟩; rw [← HM.out] at hrow0; go_enter Tryz.func22, Tryz.ntmps22; go_wp2
 go_loopw [5] (fun i wr => ∃ k : Nat, k ≤ l.length ∧ i = .int .i64 k ∧ Hid (∀ t ∈ l.take k, 0 ≤ t ∧ t ≤ 65535) ∧ wr.rowIs w.heap.size 4 M (fun t => .bool (memB (l.take k) t)) ∧ w.heap.size < wr.heap.size ∧ Below w.heap.size w wr)
  (fun i _ => l.length - (intOf i).toNat)
 case atStart => exact ⟨0, Nat.zero_le _, rfl, by show ∀ t ∈ l.take 0, _; simp, hrow0.congr (fun i _ => by simp [memB_nil]), hgz0, hbel0⟩
 case round =>
  obtain ⟨k, hk, rfl, HV, hrow, hgz, hbel⟩ := hrel; clear hrow0 hbel0 hmk hgz0
  by_cases hlt : k < l.length
  · have hlt' : (k : Int) < (l.length : Int) := by omega
    obtain ⟨t, ht⟩ : ∃ t, l[k]? = some t := ⟨_, List.getElem?_eq_getElem hlt⟩; obtain ⟨b, off, rfl, hcell⟩ := hc (by omega); have hcx0 := hcell k (.int .i64 t) (by simp [intCells, ht]); have hcx : wr.cell? ⟨b, off + k, none⟩ = some (.int .i64 t) := (hbel.cell (World.block_lt_of_cell? w _ hcx0)).trans hcx0
    by_cases hbad : t < 0 ∨ 65535 < t
    · have HR := Nm.hide (mapR_bad ht hbad); clear hc hcell hcx0 ht HV
      by_cases ht0 : t < 0
      · clear hbad; go_wp2; go_ret2; rw [HR.out]; exact ⟨rfl, hbel⟩
      · have ht1 : 65535 < t := by omega
        have ht2 : 0 ≤ t := by omega
        clear hbad; go_wp2; go_ret2; rw [HR.out]; exact ⟨rfl, hbel⟩
    · have ht1 : t ≤ 65535 := by omega
      have ht2 : 0 ≤ t := by omega
      obtain ⟨n, rfl⟩ := Int.eq_ofNat_of_zero_le ht2; have hn : n < M := by have := HM.out; omega
      have hn' : (n : Int) < (M : Int) := by omega
      have hcn := hrow.cell hn; have hfn := hrow.frozen n
      have HROW := Nm.hide ((hrow.set n (.bool true)).congr (g := fun t => .bool (memB (l.take (k + 1)) t)) (fun j _ => by
       have := memB_step ht j ht2; simp only [Int.toNat_natCast] at this
       by_cases e : j = n
       · simp [e, memB_step ht n ht2]
       · rw [if_neg e, this, if_neg e]))
      have HB : Hid (Below w.heap.size w (wr.setCell ⟨w.heap.size, n, none⟩ (.bool true))) := hbel.setCell (Nat.le_refl _) _; have HZ : Hid (w.heap.size < (wr.setCell ⟨w.heap.size, n, none⟩ (.bool true)).heap.size) := by show _ < _; simpa using hgz
      have HV2 : Hid (∀ t ∈ l.take (k + 1), 0 ≤ t ∧ t ≤ 65535) := by
       show ∀ t ∈ l.take (k + 1), _
       rw [Nm.take_step ht]; intro t' ht'
       rcases List.mem_append.1 ht' with h1 | h1
       · exact HV.out t' h1
       · simp at h1; subst h1; omega
      clear hc hcell hcx0 ht HV hbad hrow; go_wp2; go_roundw
      case rel => exact ⟨k + 1, by omega, by go_num, HV2, HROW.out, HZ.out, HB.out⟩
      case measure => simp [intOf]; omega
  · have hlt' : (l.length : Int) ≤ (k : Int) := by omega
    have hv := HV.out; rw [List.take_of_length_le (by omega)] at hv hrow; have HR := Nm.hide (mapR_good hv); obtain ⟨w1, hw1⟩ : ∃ w1, w1 = wr := ⟨wr, rfl⟩; subst hw1; generalize memB l = S at *; clear hc HV hv; go_wp2
    go_loopw [6, 7] (fun o u wr => ∃ (p : Nat) (s : ByteArray), p ≤ 256 ∧ u = .int .i64 p ∧ o = .string s ∧ Hid (s.data.toList = outTo S p) ∧ s.size ≤ 34 * p ∧ wr.rowIs w.heap.size 4 M (fun t => .bool (S t)) ∧ Below w.heap.size w wr)
     (fun _ u _ => 256 - (intOf u).toNat)
    case atStart => exact ⟨0, ⟨#[]⟩, by omega, rfl, rfl, by show _ = _; simp [outTo], Nat.le_refl _, hrow, hbel⟩
    case round =>
     obtain ⟨p, s, hp, rfl, rfl, HO, hsz, hrow2, hbel2⟩ := hrel; clear hrow hbel hlt
     by_cases hpl : p < 256
     · have hpl' : (p : Int) < 256 := by omega
       obtain ⟨w2, hw2⟩ : ∃ w2, w2 = wr := ⟨wr, rfl⟩; subst hw2; have hBm : (w2.alloc (.cells #[] 5)).ownsRow w.heap.size 5 1 (.slice (some ⟨w2.heap.size, 0, none⟩) 0 0) 0 [] := World.ownsRow_made w2 #[] 0 hbel2.size (by decide) rfl; have hrw0 := hrow2.alloc (.cells #[] 5); have hbl0 : Below w.heap.size w (w2.alloc (.cells #[] 5)) := hbel2.alloc hbel2.size _; go_wp2
       go_loopw [8, 9, 10] (fun bv nv kv wr => ∃ k : Nat, k ≤ 32 ∧ kv = .int .i64 k ∧ nv = .int .i64 ((trim (fun q => byteS S (32 * p + q)) k : Nat) : Int) ∧ wr.ownsRow w.heap.size 5 1 bv k (Nm.bys (blkB S p k)) ∧ wr.rowIs w.heap.size 4 M (fun t => .bool (S t)) ∧ Below w.heap.size w wr)
        (fun _ _ kv _ => 32 - (intOf kv).toNat)
       case atStart => exact ⟨0, by omega, rfl, rfl, hBm, hrw0, hbl0⟩
       case round =>
        obtain ⟨k2, hk2, rfl, rfl, hown, hrow3, hbel3⟩ := hrel; clear hBm hrw0 hbl0; have hsz3 := hbel3.size
        by_cases hkl : k2 < 32
        · have hkl' : (k2 : Int) < 32 := by omega
          have htl := trim_le (fun q => byteS S (32 * p + q)) k2; have htr : trim (fun q => byteS S (32 * p + q)) (k2 + 1) = if byteS S (32 * p + k2) = 0 then trim (fun q => byteS S (32 * p + q)) k2 else k2 + 1 := rfl
          have HTR := Nm.hide htr; clear htr; generalize htg : trim (fun q => byteS S (32 * p + q)) k2 = n0 at *; have hb8 : ∀ i, byteF S (8 * (32 * p + k2)) i < 2 ^ i := byteF_lt S _; go_wp2
          go_loop [9, 11, 12] (fun nv bv iv => ∃ i : Nat, i ≤ 8 ∧ iv = .int .i64 i ∧ bv = .int .i64 ((byteF S (8 * (32 * p + k2)) i : Nat) : Int) ∧ nv = .int .i64 ((if byteF S (8 * (32 * p + k2)) i = 0 then n0 else k2 + 1 : Nat) : Int))
           (fun _ _ iv => 8 - (intOf iv).toNat)
          case atStart => exact ⟨0, by omega, rfl, rfl, rfl⟩
          case round =>
           obtain ⟨i, hi8, rfl, rfl, rfl⟩ := hrel
           by_cases hil : i < 8
           · have hil' : (i : Int) < 8 := by omega
             have hlt2 := hb8 i
             have hp8 : 2 ^ i ≤ 128 := by
              have := Nat.pow_le_pow_right (n := 2) (by decide) (show i ≤ 7 by omega); simpa using this
             have hix : 256 * p + 8 * k2 + i < M := by have := HM.out; omega
             have hix' : (256 : Int) * (p : Int) + 8 * (k2 : Int) + (i : Int) < (M : Int) := by omega
             have hcell := hrow3.cell hix
             have hbs : byteF S (8 * (32 * p + k2)) (i + 1) = byteF S (8 * (32 * p + k2)) i * 2 + (S (256 * p + 8 * k2 + i)).toNat := by
              rw [byteF, show 8 * (32 * p + k2) + i = 256 * p + 8 * k2 + i by omega]
             have HBS := Nm.hide hbs; clear hbs; generalize byteF S (8 * (32 * p + k2)) i = bb at *
             cases hS : S (256 * p + 8 * k2 + i) with
             | true =>
               simp only [hS] at hcell HBS; go_wp2
               go_round
               case rel => exact ⟨i + 1, by omega, by go_num, by rw [HBS.out]; go_num, by rw [HBS.out, if_neg (by simp)]; go_num⟩
               case measure => simp [intOf]; omega
             | false =>
               simp only [hS] at hcell HBS; go_wp2
               go_round
               case rel => exact ⟨i + 1, by omega, by go_num, by rw [HBS.out]; go_num, by rw [HBS.out]; simp only [twice_zero]⟩
               case measure => simp [intOf]; omega
           · have hil' : (8 : Int) ≤ (i : Int) := by omega
             obtain rfl : i = 8 := by omega
             have hbS : byteF S (8 * (32 * p + k2)) 8 = byteS S (32 * p + k2) := rfl; rw [hbS]; have hblt := byteS_lt S (32 * p + k2); have hsucc := blkB_succ S p k2; generalize byteS S (32 * p + k2) = bb at *
             have hcells : Nm.bys (blkB S p k2) ++ [.int .u8 (bb : Int)] = Nm.bys (blkB S p (k2 + 1)) := by
              rw [hsucc, Nm.bys_append]; have : (UInt8.ofNat bb).toNat = bb := by simp; omega
              simp [Nm.bys, this]
             have HC := Nm.hide hcells; have hbb' : (bb : Int) < 256 := by omega
             have hnv : (if bb = 0 then n0 else k2 + 1) ≤ 100 := by split <;> omega
             generalize (if bb = 0 then n0 else k2 + 1) = NV at *; clear hcells hsucc hbS hb8 hil; go_wp2_with (at_builtin; refine wpList_append_own _ rfl (.tmp 67) (.tmp 70) 87 rfl w.heap.size 5 i0 (.int .u8 0) 1 1 Tryz.underlying87 hi hz0 hz1 hz2 rfl (by decide) _ _ _ rfl (hown.alloc _) ⟨wr.heap.size, 0, none⟩ 1 1 [.int .u8 (bb : Int)] rfl rfl (cell_new1 _ _ _) (Nm.one_cell _ rfl) (by unfold maxLen; omega) (by omega) (by simp; omega) ?_)
             intro v' w6 hown6 hgrow _; rw [HC.out] at hown6; have hr6 := bool_apart hown hrow3 hgrow; have hb6 : Below w.heap.size w w6 := (hbel3.alloc hsz3 _).grown hgrow (by simp; omega) (fun q hq => (hown.lt q hq).1); clear hgrow hown hrow3 hbel3; go_wp2; go_roundw
             case rel => exact ⟨k2 + 1, by omega, by go_num, by rw [HTR.out], hown6, hr6, hb6⟩
             case measure => simp [intOf]; omega
        · have hkl' : (32 : Int) ≤ (k2 : Int) := by omega
          obtain rfl : k2 = 32 := by omega
          have hN : trim (fun q => byteS S (32 * p + q)) 32 = blkN S p := rfl; rw [hN]; have hnle := blkN_le S p
          by_cases hn0 : blkN S p = 0
          · have HOZ : Hid (s.data.toList = outTo S (p + 1)) := by show _ = _; rw [outTo_zero S hn0]; exact HO.out
            rw [hn0]; clear hn0 HO hnle hN hown hkl; go_wp2; go_roundw
            case rel => exact ⟨p + 1, s, by omega, by go_num, rfl, HOZ, by omega, hrow3, hbel3⟩
            case measure => simp [intOf]; omega
          · obtain ⟨g, cp, rfl, hcp1, hcp2, hglt⟩ : ∃ g cp, u8 = .slice (some ⟨g, 0, none⟩) 32 cp ∧ 32 ≤ cp ∧ cp ≤ maxLen ∧ g < wr.heap.size := by
             rcases hown.2 with ⟨_, h0⟩ | ⟨g, cp, cur, rfl, _, hh, h1, h2, _⟩
             · omega
             · exact ⟨g, cp, rfl, h1, h2, (Array.getElem?_eq_some_iff.1 hh).1⟩
            unfold maxLen at hcp2; have hbk : ∀ O, (wr.alloc O).heap[g]? = wr.heap[g]? := fun O => ((Below.refl wr.heap.size wr).alloc (Nat.le_refl _) O).block g hglt
            have hcB1 := blk_conv (n := blkN S p) (W := wr.drew) hown hnle rfl; have hcB2 := blk_conv (n := blkN S p) (W := (wr.alloc (.cells #[.int .u8 (p : Int), .int .u8 (blkN S p : Int)] 5)).drew) hown hnle (hbk _); have hc2 := two_conv (a := p) (b := blkN S p) (by omega) (by omega) wr; have hblen := blkB_len S p (blkN S p)
            have hbsz : (⟨(blkB S p (blkN S p)).toArray⟩ : ByteArray).size = blkN S p := by
             show (blkB S p (blkN S p)).toArray.size = _
             simp [hblen]
            have h2sz : (⟨#[UInt8.ofNat p, UInt8.ofNat (blkN S p)]⟩ : ByteArray).size = 2 := rfl
            have hO2 : (s ++ ⟨#[UInt8.ofNat p, UInt8.ofNat (blkN S p)]⟩ ++ ⟨(blkB S p (blkN S p)).toArray⟩).data.toList = outTo S (p + 1) := by
             rw [outTo_more S hn0, ← HO.out]; simp
            have HO2 := Nm.hide hO2; have hnp : 0 < blkN S p := by omega
            generalize (⟨(blkB S p (blkN S p)).toArray⟩ : ByteArray) = PB at *; generalize (⟨#[UInt8.ofNat p, UInt8.ofNat (blkN S p)]⟩ : ByteArray) = P2 at *; generalize blkN S p = n at *; have hn' : (0 : Int) < (n : Int) := by omega
            have hn32 : (n : Int) ≤ 32 := by omega
            have hncp : (n : Int) ≤ (cp : Int) := by omega
            have hn0' : (0 : Int) ≤ (n : Int) := by omega
            have hp0 : (0 : Int) ≤ (p : Int) := by omega
            have hs1 : ∀ w, (Go.Op.stringOp .add s P2).run Tryz.prog w = .ok (.string (s ++ P2)) w := fun w => run_string_add_sum w _ _ (by omega)
            have hs2 : ∀ w, (Go.Op.stringOp .add (s ++ P2) PB).run Tryz.prog w = .ok (.string (s ++ P2 ++ PB)) w := fun w => run_string_add_sum w _ _ (by simp; omega)
            have hrw := (hrow3.alloc (.cells #[.int .u8 (p : Int), .int .u8 (n : Int)] 5)).drew; have hbw : Below w.heap.size w (wr.alloc (.cells #[.int .u8 (p : Int), .int .u8 (n : Int)] 5)).drew := (hbel3.alloc hsz3 _).drew; clear hn0 HO hO2 hbk hown hN hkl; go_wp2; go_region
            all_goals
             go_wp2; go_roundw
             case rel => exact ⟨p + 1, _, by omega, by go_num, rfl, HO2, by simp; omega, hrw, hbw⟩
             case measure => simp [intOf]; omega
     · have hpl' : (256 : Int) ≤ (p : Int) := by omega
       obtain rfl : p = 256 := by omega
       have HF : Hid (s = ⟨(outTo S 256).toArray⟩) := by
        show _ = _
        apply Nm.ba_ext; rw [HO.out]
       clear HO; go_wp2; go_ret2; rw [HR.out, ← HF.out]; exact ⟨rfl, hbel2⟩
end Go.Proofs.YtddabafaejahbaaGreatDoor
/- spec.NameOK by its contract. -/
namespace Go.Proofs.YtddabafaejahbaaGreatDoor
open Go.RowKit
set_option maxRecDepth 100000 in
set_option maxHeartbeats 400000 in
theorem specNameOK_any (s : ByteArray) (w : World) (hs : s.size ≤ maxLen) :
 Calls Tryz.prog 16 #[.string s] w fun e w' => e = .returned (.bool (Nm.split s).isSome) ∧ Below w.heap.size w w' := by
 go_enter Tryz.func16, Tryz.ntmps16; go_wp2_with (go_at_call 36; refine (l01Split_any s _ hs).mono ?_; rintro e w1 ⟨v, rfl, hown, hbel⟩)
 go_ret; exact ⟨rfl, by assumption⟩
end Go.Proofs.YtddabafaejahbaaGreatDoor
