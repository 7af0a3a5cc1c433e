import Derived.Test.YtjokdmmlofbknaaDoorJFmtI
import Derived.Test.YtjokdmmlofbknaaDoorJINum
import Derived.Test.YtjokdmmlofbknaaDoorJTyM
import Derived.Laws.Rows
import Derived.Test.YtjokdmmlofbknaaDoorJMkS
import Derived.Test.YtjokdmmlofbknaaDoorRows
import Derived.WalkSpells
import Derived.WalkLawsBesides
import Derived.Deep.AppendLies
/- impl.readNumbered by its contract. -/
namespace Go.Proofs.YtjokdmmlofbknaaDoor
open Go.RowKit

/-- A prefix in any letters, and up to five digits behind it. -/
def nbdO (s p : ByteArray) : Option Nat :=
  if s.size < p.size then none else if Nm.ordS (s.extract 0 p.size) p = 0 then numO (s.extract p.size s.size) 5 else none

set_option maxRecDepth 100000 in
set_option maxHeartbeats 800000 in
theorem readNumbered_any (s p : ByteArray) (w : World) (hs : s.size ≤ 1000000000) :
    Calls Tryd.prog 35 #[.string s, .string p] w fun e w' => e = .returned (numV (nbdO s p)) ∧ ∃ m, w' = w.drewN m := by
  by_cases h1 : s.size < p.size
  · have HN : Hid (numV (nbdO s p) = .tuple #[.int .i64 0, .bool false]) := by show _ = _; rw [nbdO, if_pos h1]; rfl
    have h1' : (s.size : Int) < (p.size : Int) := by omega
    go_enter Tryd.func35, Tryd.ntmps35
    go_wp2
    go_ret2
    rw [HN.out]
    exact ⟨rfl, 0, rfl⟩
  · have h1' : (p.size : Int) ≤ (s.size : Int) := by omega
    have hp : p.size ≤ s.size := by omega
    have hcmp := fun W => compareFolded_any (s.extract 0 p.size) p W (by simp; omega)
    have hnum := fun W => readNumber_any (s.extract p.size s.size) 5 W (by decide)
    by_cases h2 : Nm.ordS (s.extract 0 p.size) p = 0
    · have HN : Hid (nbdO s p = numO (s.extract p.size s.size) 5) := by show _ = _; rw [nbdO, if_neg h1, if_pos h2]
      rw [h2] at hcmp
      clear h2
      rw [HN.out]
      simp only [numV] at hnum ⊢
      generalize ((numO (s.extract p.size s.size) 5).getD 0 : Nat) = n at *
      generalize (numO (s.extract p.size s.size) 5).isSome = o at *
      go_enter Tryd.func35, Tryd.ntmps35
      go_wp2_with (first | (go_at_call 34; refine (hcmp _).mono ?_; rintro e w2 ⟨rfl, m, hw2⟩; have HW := Nm.hide hw2; clear hw2) | (go_at_call 32; refine (hnum _).mono ?_; rintro e w3 ⟨rfl, hw⟩; obtain rfl : w2 = w3 := hw.symm; clear hw))
      go_ret2
      exact ⟨rfl, m, HW.out⟩
    · have HN : Hid (numV (nbdO s p) = .tuple #[.int .i64 0, .bool false]) := by show _ = _; rw [nbdO, if_neg h1, if_neg h2]; rfl
      have hne : (Nm.ordS (s.extract 0 p.size) p == 0) = false := by rw [beq_eq_false_iff_ne]; exact h2
      have hne2 : (Nm.ordS (s.extract 0 p.size) p != 0) = true := by rw [bne_iff_ne]; exact h2
      clear h2
      generalize Nm.ordS (s.extract 0 p.size) p = O at *
      go_enter Tryd.func35, Tryd.ntmps35
      go_wp2_with (go_at_call 34; refine (hcmp _).mono ?_; rintro e w2 ⟨rfl, m, hw2⟩)
      go_ret2
      rw [HN.out]
      exact ⟨rfl, m, rfl⟩
end Go.Proofs.YtjokdmmlofbknaaDoor
/- impl.ReadType by its contract. -/
namespace Go.Proofs.YtjokdmmlofbknaaDoor
open Go.RowKit

theorem tyTail_nbd (s : ByteArray) : tyTail s = match nbdO s ⟨#[84, 89, 80, 69]⟩ with | none => (0, 6) | some n => if n ≤ 65535 then ((n : Int), 0) else (0, 6) := by
  have e4 : (⟨#[84, 89, 80, 69]⟩ : ByteArray).size = 4 := rfl
  unfold nbdO
  rw [e4]
  by_cases h4 : s.size < 4
  · rw [if_pos h4, tyTail_short (by omega)]
  · rw [if_neg h4]
    have HP := ty_prefix (s.extract 0 4)
    by_cases hp : Nm.ordS (s.extract 0 4) ⟨#[84, 89, 80, 69]⟩ = 0
    · rw [if_pos hp]
      cases hn : numO (s.extract 4 s.size) 5 with
      | none => rw [tyTail_none hn]
      | some n => rw [tyTail_some (by omega) (by rw [HP]; simpa using hp) hn]
    · rw [if_neg hp, tyTail_not (by rw [HP]; simpa using hp)]

set_option maxRecDepth 100000 in
set_option maxHeartbeats 3000000 in
theorem implReadType_any (s : ByteArray) (w : World) (hs : s.size ≤ 1000000000) (hM : MnemAt w) :
    Calls Tryd.prog 12 #[.string s] w fun e w' => e = .returned (pairV (readTyS s)) ∧ Below w.heap.size w w' := by
  obtain ⟨R, HR⟩ : ∃ R, Hid (R = pairV (readTyS s)) := ⟨_, rfl⟩
  rw [← HR.out]
  obtain ⟨bt, bf, hblk⟩ := hM
  generalize hmc : mnemCells = mc at hblk
  have HMC := Nm.hide hmc
  have hsz : (Tryd.prog.info? 62).map (·.size) = some mc.size := by rw [← hmc]; kernel_rfl
  clear hmc
  go_enter Tryd.func12, Tryd.ntmps12
  go_wp2_with (guard_target = wpList _ _ _ ({ dst := some 8, op := Go.Op.load 62 (Go.Operand.global 0), type := _, pos := _, after := _, guard := none } :: _) _ _; refine wpList_load_row rfl 62 (.global 0) rfl 0 rfl bt mc bf _ hblk Tryd.underlying62 rfl hsz ?_)
  go_loopw [9] (fun i wr => ∃ k : Nat, k ≤ 19 ∧ i = .int .i64 k ∧ Hid (∀ j, j < k → tyEq s j = false) ∧ Below w.heap.size w wr)
    (fun i _ => 19 - (intOf i).toNat)
  case atStart => exact ⟨0, by omega, rfl, fun j h => by omega, Below.refl _ _⟩
  case round =>
    obtain ⟨k, hk, rfl, HNO, hbel⟩ := hrel
    have hszb := hbel.size
    by_cases hlt : k < 19
    · have hlt' : (k : Int) < 19 := by omega
      have hidx := fun W => mnem_index k hlt W
      rw [HMC.out] at hidx
      have hcmp := fun W => compareFolded_any s (mnT k) W hs
      have HE := Nm.hide (ty_eq_ord s k)
      by_cases he : Nm.ordS s (mnT k) = 0
      · have HN : Hid (R = .tuple #[.int .i64 (mnN k), .int .i64 0]) := by
          show _ = _
          rw [HR.out, ty_hit hlt (by rw [HE.out]; simpa using he) HNO.out]; rfl
        rw [he] at hcmp
        clear he HE HNO
        generalize mnN k = N at *
        generalize mnT k = T at *
        go_wp2_with (go_at_call 34; refine (hcmp _).mono ?_; rintro e w2 ⟨rfl, m, rfl⟩)
        go_ret2
        rw [HN.out]
        exact ⟨rfl, Go.below_drewN (hbel.alloc hszb _) m⟩
      · have hne : (Nm.ordS s (mnT k) == 0) = false := by rw [beq_eq_false_iff_ne]; exact he
        have HN : Hid (∀ j, j < k + 1 → tyEq s j = false) := by
          show ∀ j, _
          intro j hj
          by_cases e : j = k
          · subst e; rw [HE.out]; simpa using he
          · exact HNO.out j (by omega)
        clear he HE HNO
        generalize Nm.ordS s (mnT k) = O at *
        generalize mnN k = N at *
        generalize mnT k = T at *
        go_wp2_with (go_at_call 34; refine (hcmp _).mono ?_; rintro e w2 ⟨rfl, m, hw2⟩; have HB : Hid (Below w.heap.size w w2) := (by show Below _ _ _; rw [hw2]; exact Go.below_drewN (hbel.alloc hszb _) m); have hcell : w2.cell? ⟨wr.heap.size, 1, none⟩ = some (.int .i64 N) := (by rw [hw2]; simp); clear hw2)
        go_roundw
        case rel => exact ⟨k + 1, by omega, by go_num, HN, HB.out⟩
        case measure => simp [intOf]; omega
    · have hke : k = 19 := by omega
      subst hke
      have HE : Hid (R = pairV (tyTail s)) := by show _ = _; rw [HR.out, ty_miss HNO.out]
      clear HNO HR
      have hnb := fun W => readNumbered_any s ⟨#[84, 89, 80, 69]⟩ W hs
      have HT := Nm.hide (tyTail_nbd s)
      cases hn : nbdO s ⟨#[84, 89, 80, 69]⟩ with
      | none =>
        have HN : Hid (R = .tuple #[.int .i64 0, .int .i64 6]) := by show _ = _; rw [HE.out, HT.out, hn]; rfl
        rw [hn] at hnb
        simp only [numV, Option.getD_none, Option.isSome_none] at hnb
        clear hn HT
        go_wp2_with (go_at_call 35; refine (hnb _).mono ?_; rintro e w2 ⟨rfl, m, hw2⟩; have hb2 : Below w.heap.size w w2 := (by rw [hw2]; exact Go.below_drewN hbel m); clear hw2)
        go_ret2
        rw [HN.out]
        exact ⟨rfl, hb2⟩
      | some n =>
        rw [hn] at hnb
        simp only [numV, Option.getD_some, Option.isSome_some] at hnb
        by_cases hle : n ≤ 65535
        · have HN : Hid (R = .tuple #[.int .i64 n, .int .i64 0]) := by show _ = _; rw [HE.out, HT.out, hn]; simp only; rw [if_pos hle]; rfl
          have hle' : (n : Int) ≤ 65535 := by omega
          clear hn HT
          go_wp2_with (go_at_call 35; refine (hnb _).mono ?_; rintro e w2 ⟨rfl, m, hw2⟩; have hb2 : Below w.heap.size w w2 := (by rw [hw2]; exact Go.below_drewN hbel m); clear hw2)
          go_ret2
          rw [HN.out]
          exact ⟨rfl, hb2⟩
        · have HN : Hid (R = .tuple #[.int .i64 0, .int .i64 6]) := by show _ = _; rw [HE.out, HT.out, hn]; simp only; rw [if_neg hle]; rfl
          have hle' : 65535 < (n : Int) := by omega
          clear hn HT
          go_wp2_with (go_at_call 35; refine (hnb _).mono ?_; rintro e w2 ⟨rfl, m, hw2⟩; have hb2 : Below w.heap.size w w2 := (by rw [hw2]; exact Go.below_drewN hbel m); clear hw2)
          go_ret2
          rw [HN.out]
          exact ⟨rfl, hb2⟩
end Go.Proofs.YtjokdmmlofbknaaDoor
/- impl.showNumber by its contract. -/
namespace Go.Proofs.YtjokdmmlofbknaaDoor
open Go.RowKit

theorem Tryd.infoU8n : (Tryd.prog.info? 5).map (fun i => (i.zero, i.size, i.bytes)) = some (some (.int .u8 0), 1, 1) := by kernel_rfl

set_option maxRecDepth 100000 in
set_option maxHeartbeats 800000 in
theorem showNumber_any (v : Value) (n B : Nat) (l : List UInt8) (c : UInt8) (w : World) (hown : w.ownsRow B 5 1 v n (Nm.bys l)) (hB : B ≤ w.heap.size) (hn : n ≤ 8000000000) :
    Calls Tryd.prog 36 #[v, .int .u8 c.toNat] w fun e w' => ∃ v', e = .returned v' ∧ w'.ownsRow B 5 1 v' (n + 4) (Nm.bys (l ++ (92 :: Nm.threeL c))) ∧ Below B w w' := by
  obtain ⟨j0, hj, k0, k1, k2⟩ := info_parts Tryd.infoU8n
  have hcl : (c.toNat : Int) < 256 := by have := c.toNat_lt; omega
  have HB := Nm.hide (Nm.bys_num c)
  go_enter Tryd.func36, Tryd.ntmps36
  go_wp2_with (at_builtin; refine wpList_append_own _ rfl (.tmp 5) (.tmp 16) 22 rfl B 5 j0 (.int .u8 0) 1 1 Tryd.underlying22 hj k0 k1 k2 rfl (by decide) _ _ _ rfl (hown.alloc _) ⟨w.heap.size, 0, none⟩ 4 4 _ rfl rfl (World.news_of_block (heap_alloc_new _ _)) (Nm.four_cells _ _ _ _) (by unfold maxLen; omega) (by omega) (by simp; omega) ?_; intro vb wb hown2 hgrow2 hnl2; clear hnl2; simp only [] at hown2; rw [HB.out] at hown2; have R2 := Nm.bys_step (by simp; omega) (hown.alloc _) ((Below.refl B w).alloc hB _) hown2 hgrow2; clear hown2 hgrow2)
  go_ret
  exact ⟨_, rfl, R2.1, R2.2⟩
end Go.Proofs.YtjokdmmlofbknaaDoor
