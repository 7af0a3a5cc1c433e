import Derived.Test.YtddabafaejahbaaGreatDoorJEsc
import Derived.Test.YtddabafaejahbaaGreatDoorJIParts
import Derived.Test.YtddabafaejahbaaGreatDoorJData1
import Derived.Test.YtddabafaejahbaaGreatDoorJRead
/- The readers of words by their contracts: what stands in no quotes; times. -/
namespace Go.Proofs.YtddabafaejahbaaGreatDoor
open Go.RowKit
set_option linter.unusedVariables false
/-- What the readers lean on. -/
def Reads (w : World) : Prop :=
 (∀ (s : ByteArray) (W : World), s.size ≤ 2000000 → Below w.heap.size w W → Calls Tryz.prog 64 #[.string s] W fun e w' => e = .returned (strV (readV4S s)) ∧ Below W.heap.size W w') ∧
 (∀ (s : ByteArray) (W : World), Below w.heap.size w W → Calls Tryz.prog 66 #[.string s] W fun e w' => e = .returned (strV (readV6S s)) ∧ Below W.heap.size W w')
section
variable (x o : ByteArray) (b : Nat) (w : World) (r : ByteArray × Int)
set_option maxRecDepth 100000 in
set_option maxHeartbeats 800000 in
theorem unq_bad (F : Nat) (cap : Array Value) (hb : w.cell? ⟨b, 0, none⟩ = some (.func (.func F) #[] cap)) :
 Calls Tryz.prog 157 #[.agg #[.string x, .bool true], .string o, .pointer (some ⟨b, 0, none⟩)] w fun e w' => e = .returned (strV (⟨#[]⟩, 15)) ∧ Below w.heap.size w w' := by
 unfold strV at *; go_enter Tryz.func157, Tryz.ntmps157; go_wp2; go_ret2; exact ⟨rfl, (Below.refl _ _).alloc (Nat.le_refl _) _⟩
set_option maxRecDepth 100000 in
set_option maxHeartbeats 800000 in
theorem unq_name (hb : w.cell? ⟨b, 0, none⟩ = some (.func (.func 96) #[] #[])) (hin : ∀ W, Below w.heap.size w W → Calls Tryz.prog 96 #[.string x, .string o] W fun e w' => e = .returned (strV r) ∧ Below W.heap.size W w') :
 Calls Tryz.prog 157 #[.agg #[.string x, .bool false], .string o, .pointer (some ⟨b, 0, none⟩)] w fun e w' => e = .returned (strV r) ∧ Below w.heap.size w w' := by
 unfold strV at *; have hq := fun O => (old_allocR (World.block_lt_of_cell? w _ hb) O 0).1.trans hb
 go_enter Tryz.func157, Tryz.ntmps157; go_wp2_with (go_at_call 96; refine (hin _ ((Below.refl _ _).alloc (Nat.le_refl _) _)).mono ?_; rintro e w1 ⟨rfl, hb1⟩)
 go_ret2; exact ⟨rfl, Nm.below_two ((Below.refl _ _).alloc (Nat.le_refl _) _) hb1⟩
set_option maxRecDepth 100000 in
set_option maxHeartbeats 800000 in
theorem unq_tag (hb : w.cell? ⟨b, 0, none⟩ = some (.func (.func 124) #[] #[])) (hin : ∀ W, Below w.heap.size w W → Calls Tryz.prog 124 #[.string x, .string o] W fun e w' => e = .returned (strV r) ∧ Below W.heap.size W w') :
 Calls Tryz.prog 157 #[.agg #[.string x, .bool false], .string o, .pointer (some ⟨b, 0, none⟩)] w fun e w' => e = .returned (strV r) ∧ Below w.heap.size w w' := by
 unfold strV at *; have hq := fun O => (old_allocR (World.block_lt_of_cell? w _ hb) O 0).1.trans hb
 go_enter Tryz.func157, Tryz.ntmps157; go_wp2_with (go_at_call 124; refine (hin _ ((Below.refl _ _).alloc (Nat.le_refl _) _)).mono ?_; rintro e w1 ⟨rfl, hb1⟩)
 go_ret2; exact ⟨rfl, Nm.below_two ((Below.refl _ _).alloc (Nat.le_refl _) _) hb1⟩
set_option maxRecDepth 100000 in
set_option maxHeartbeats 800000 in
theorem unq_addr (g : Nat) (hb : w.cell? ⟨b, 0, none⟩ = some (.func (.func 113) #[] #[.pointer (some ⟨g, 0, none⟩)])) (hin : ∀ W, Below w.heap.size w W → Calls Tryz.prog 113 #[.string x, .string o, .pointer (some ⟨g, 0, none⟩)] W fun e w' => e = .returned (strV r) ∧ Below W.heap.size W w') :
 Calls Tryz.prog 157 #[.agg #[.string x, .bool false], .string o, .pointer (some ⟨b, 0, none⟩)] w fun e w' => e = .returned (strV r) ∧ Below w.heap.size w w' := by
 unfold strV at *; have hq := fun O => (old_allocR (World.block_lt_of_cell? w _ hb) O 0).1.trans hb
 go_enter Tryz.func157, Tryz.ntmps157; go_wp2_with (go_at_call 113; refine (hin _ ((Below.refl _ _).alloc (Nat.le_refl _) _)).mono ?_; rintro e w1 ⟨rfl, hb1⟩)
 go_ret2; exact ⟨rfl, Nm.below_two ((Below.refl _ _).alloc (Nat.le_refl _) _) hb1⟩
set_option maxRecDepth 100000 in
set_option maxHeartbeats 800000 in
theorem unq_num (g : Nat) (hb : w.cell? ⟨b, 0, none⟩ = some (.func (.func 104) #[] #[.pointer (some ⟨g, 0, none⟩)])) (hin : ∀ W, Below w.heap.size w W → Calls Tryz.prog 104 #[.string x, .string o, .pointer (some ⟨g, 0, none⟩)] W fun e w' => e = .returned (strV r) ∧ Below W.heap.size W w') :
 Calls Tryz.prog 157 #[.agg #[.string x, .bool false], .string o, .pointer (some ⟨b, 0, none⟩)] w fun e w' => e = .returned (strV r) ∧ Below w.heap.size w w' := by
 unfold strV at *; have hq := fun O => (old_allocR (World.block_lt_of_cell? w _ hb) O 0).1.trans hb
 go_enter Tryz.func157, Tryz.ntmps157; go_wp2_with (go_at_call 104; refine (hin _ ((Below.refl _ _).alloc (Nat.le_refl _) _)).mono ?_; rintro e w1 ⟨rfl, hb1⟩)
 go_ret2; exact ⟨rfl, Nm.below_two ((Below.refl _ _).alloc (Nat.le_refl _) _) hb1⟩
set_option maxRecDepth 100000 in
set_option maxHeartbeats 800000 in
theorem unq_time (g : Nat) (hb : w.cell? ⟨b, 0, none⟩ = some (.func (.func 108) #[] #[.pointer (some ⟨g, 0, none⟩)])) (hin : ∀ W, Below w.heap.size w W → Calls Tryz.prog 108 #[.string x, .string o, .pointer (some ⟨g, 0, none⟩)] W fun e w' => e = .returned (strV r) ∧ Below W.heap.size W w') :
 Calls Tryz.prog 157 #[.agg #[.string x, .bool false], .string o, .pointer (some ⟨b, 0, none⟩)] w fun e w' => e = .returned (strV r) ∧ Below w.heap.size w w' := by
 unfold strV at *; have hq := fun O => (old_allocR (World.block_lt_of_cell? w _ hb) O 0).1.trans hb
 go_enter Tryz.func157, Tryz.ntmps157; go_wp2_with (go_at_call 108; refine (hin _ ((Below.refl _ _).alloc (Nat.le_refl _) _)).mono ?_; rintro e w1 ⟨rfl, hb1⟩)
 go_ret2; exact ⟨rfl, Nm.below_two ((Below.refl _ _).alloc (Nat.le_refl _) _) hb1⟩
set_option maxRecDepth 100000 in
set_option maxHeartbeats 800000 in
theorem addrRead4 (g : Nat) (hg : w.cell? ⟨g, 0, none⟩ = some (.func (.func 64) #[] #[])) (hin : ∀ W, Below w.heap.size w W → Calls Tryz.prog 64 #[.string x] W fun e w' => e = .returned (strV r) ∧ Below W.heap.size W w') :
 Calls Tryz.prog 113 #[.string x, .string o, .pointer (some ⟨g, 0, none⟩)] w fun e w' => e = .returned (strV r) ∧ Below w.heap.size w w' := by
 unfold strV at *; go_enter Tryz.func113, Tryz.ntmps113; go_wp2_with (go_at_call 64; refine (hin _ (Below.refl _ _)).mono ?_; rintro e w1 ⟨rfl, hb1⟩)
 go_ret2; exact ⟨rfl, hb1⟩
set_option maxRecDepth 100000 in
set_option maxHeartbeats 800000 in
theorem addrRead6 (g : Nat) (hg : w.cell? ⟨g, 0, none⟩ = some (.func (.func 66) #[] #[])) (hin : ∀ W, Below w.heap.size w W → Calls Tryz.prog 66 #[.string x] W fun e w' => e = .returned (strV r) ∧ Below W.heap.size W w') :
 Calls Tryz.prog 113 #[.string x, .string o, .pointer (some ⟨g, 0, none⟩)] w fun e w' => e = .returned (strV r) ∧ Below w.heap.size w w' := by
 unfold strV at *; go_enter Tryz.func113, Tryz.ntmps113; go_wp2_with (go_at_call 66; refine (hin _ (Below.refl _ _)).mono ?_; rintro e w1 ⟨rfl, hb1⟩)
 go_ret2; exact ⟨rfl, hb1⟩
end
theorem ttl_pos (x : ByteArray) (h : (ttlS x).2 = 0) : ∃ n : Nat, (ttlS x).1 = (n : Int) ∧ n ≤ 4294967295 := by
 have h2 := ttlS_rng x; exact ⟨(ttlS x).1.toNat, by omega, by omega⟩
set_option maxRecDepth 100000 in
set_option maxHeartbeats 1600000 in
theorem timeRead_any (x o : ByteArray) (g b g2 : Nat) (w : World) (hg : w.cell? ⟨g, 0, none⟩ = some (.func (.func 157) #[] #[.pointer (some ⟨b, 0, none⟩)])) (hb : w.cell? ⟨b, 0, none⟩ = some (.func (.func 104) #[] #[.pointer (some ⟨g2, 0, none⟩)])) (hg2 : w.cell? ⟨g2, 0, none⟩ = some (.int .i64 4)) :
 Calls Tryz.prog 108 #[.string x, .string o, .pointer (some ⟨g, 0, none⟩)] w fun e w' => e = .returned (strV (readPl 84 x o)) ∧ Below w.heap.size w w' := by
 have cellOf : ∀ {W : World} (hW : Below w.heap.size w W) {g : Nat} {u : Value}, w.cell? ⟨g, 0, none⟩ = some u → W.cell? ⟨g, 0, none⟩ = some u := fun {W} hW {g} {u} h => (hW.cell (World.block_lt_of_cell? w _ h)).trans h
 have hun := fun W (hW : Below w.heap.size w W) => unq_num x o b W (readPl 52 x o) g2 (cellOf hW hb) (fun W2 hW2 => numRead_any 4 x o g2 W2 (.inr (.inr rfl)) (cellOf (Nm.below_two hW hW2) hg2))
 have hT := fun W => implReadTTL_any x W
 have hpn : readPl 52 x o = match numO x 10 with
  | some n => if n < 4294967296 then (⟨(bigL n 4).toArray⟩, 0) else (⟨#[]⟩, 15)
  | none => (⟨#[]⟩, 15) := rfl
 have hpt : readPl 84 x o = match numO x 10 with
  | some n => if n ≤ 4294967295 then (⟨(bigL n 4).toArray⟩, 0) else timW x
  | none => timW x := rfl
 have hcs : (∃ n, readPl 84 x o = (⟨(bigL n 4).toArray⟩, 0) ∧ readPl 52 x o = (⟨(bigL n 4).toArray⟩, 0)) ∨ (readPl 84 x o = timW x ∧ readPl 52 x o = (⟨#[]⟩, 15)) := by
  rw [hpt, hpn]
  cases hn : numO x 10 with
  | none => exact .inr ⟨rfl, rfl⟩
  | some n =>
    by_cases h : n < 4294967296
    · exact .inl ⟨n, by simp only; rw [if_pos (by omega)], by simp only; rw [if_pos h]⟩
    · exact .inr ⟨by simp only; rw [if_neg (by omega)], by simp only; rw [if_neg h]⟩
 clear hpn hpt
 rcases hcs with ⟨n, h1, h2⟩ | ⟨h1, h2⟩
 · rw [h2] at hun; rw [h1]; unfold strV at *; clear h1 h2 hT; generalize (⟨(bigL n 4).toArray⟩ : ByteArray) = A at *; go_enter Tryz.func108, Tryz.ntmps108; go_wp2_with (go_at_call 157; refine (hun _ (Below.refl _ _)).mono ?_; rintro e w1 ⟨rfl, hb1⟩)
   go_ret2; exact ⟨rfl, hb1⟩
 · rw [h2] at hun; rw [h1]; unfold strV ttlV at *; clear h1 h2
   by_cases h0 : (ttlS x).2 = 0
   · obtain ⟨n, hn, hle⟩ := ttl_pos x h0; have hr : timW x = (⟨(bigL n 4).toArray⟩, 0) := by rw [timW, if_pos h0, hn]; rfl
     rw [hr]; rw [hn, h0] at hT; have hB : ∀ W, Calls Tryz.prog 101 #[.int .i64 (n : Int), .int .i64 4] W fun e w' => e = .returned (.string ⟨(bigL n 4).toArray⟩) ∧ Below W.heap.size W w' := fun W => bigBytesN_any n 4 W (by omega) (by decide) (by decide)
     clear hr hn h0; generalize (⟨(bigL n 4).toArray⟩ : ByteArray) = A at *; go_enter Tryz.func108, Tryz.ntmps108; go_wp2_with (first | (go_at_call 157; refine (hun _ (Below.refl _ _)).mono ?_; rintro e w1 ⟨rfl, hb1⟩) | (go_at_call 109; refine (hT _).mono ?_; rintro e w2 ⟨rfl, hw⟩; obtain rfl := hw.symm; clear hw) | (go_at_call 101; refine (hB _).mono ?_; rintro e w3 ⟨rfl, hb3⟩))
     go_ret2; exact ⟨rfl, Nm.below_two hb1 hb3⟩
   · have hr : timW x = (⟨#[]⟩, (ttlS x).2) := by rw [timW, if_neg h0]
     rw [hr]; have h0' : ((ttlS x).2 == 0) = false := by simpa using h0
     clear hr h0; generalize ttlS x = T at *; go_enter Tryz.func108, Tryz.ntmps108; go_wp2_with (first | (go_at_call 157; refine (hun _ (Below.refl _ _)).mono ?_; rintro e w1 ⟨rfl, hb1⟩) | (go_at_call 109; refine (hT _).mono ?_; rintro e w2 ⟨rfl, hw⟩; obtain rfl := hw.symm; clear hw))
     go_ret2; exact ⟨rfl, hb1⟩
/-- The function that a reader calls. -/
def rdFn (F : Nat) : Prop := F = 157 ∨ F = 99 ∨ F = 127
/-- A kind of which there is a reader. -/
def kindOK (K : Nat) : Prop := K ≤ 6 ∨ K = 8 ∨ K = 9 ∨ K = 11
theorem kc_plain {K : Nat} (hK : kindOK K) (h1 : K ≠ 1) (h3 : K ≠ 3) : isTx (kc K) = false := by
 have h : K = 0 ∨ K = 2 ∨ K = 4 ∨ K = 5 ∨ K = 6 ∨ K = 8 ∨ K = 9 ∨ K = 11 := by unfold kindOK at hK; omega
 rcases h with rfl | rfl | rfl | rfl | rfl | rfl | rfl | rfl <;> rfl
theorem wd_quoted {K : Nat} {x o : ByteArray} (h : isTx (kc K) = false) : readWd (kc K) (x, true) o = (⟨#[]⟩, 15) := by
 rw [readWd, if_neg (by rw [h]; decide), if_pos rfl]
theorem wd_plain {K : Nat} {x o : ByteArray} (h : isTx (kc K) = false) : readWd (kc K) (x, false) o = readPl (kc K) x o := by
 rw [readWd, if_neg (by rw [h]; decide), if_neg (by simp)]
theorem read_calls {K : Nat} {x o : ByteArray} {q : Bool} {w : World} {v : Value} (hv : RVal w K v) (hK : kindOK K) (hx : x.size ≤ 2000000) (ho : o.size ≤ maxLen) (hs : Reads w) :
 ∃ F cap, v = .func (.func F) #[] cap ∧ rdFn F ∧ ∀ W, Below w.heap.size w W → Calls Tryz.prog F (#[.agg #[.string x, .bool q], .string o] ++ cap) W fun e w' => e = .returned (strV (readWd (kc K) (x, q) o)) ∧ Below W.heap.size W w' := by
 have cellOf : ∀ {W : World} (hW : Below w.heap.size w W) {g : Nat} {u : Value}, w.cell? ⟨g, 0, none⟩ = some u → W.cell? ⟨g, 0, none⟩ = some u := fun {W} hW {g} {u} h => (hW.cell (World.block_lt_of_cell? w _ h)).trans h
 match K, hv, hK with
 | 0, ⟨b, hv, c1⟩, hK =>
   refine ⟨_, _, hv, .inl rfl, fun W hW => ?_⟩
   cases q with
   | true => rw [wd_quoted (kc_plain hK (by decide) (by decide))]; exact unq_bad x o b W _ _ (cellOf hW c1)
   | false => rw [wd_plain (kc_plain hK (by decide) (by decide))]; exact unq_name x o b W _ (cellOf hW c1) (fun W2 hW2 => implReadName_any x o W2 ho)
 | 1, hv, hK => exact ⟨_, _, hv, .inr (.inl rfl), fun W hW => textRead_any x o q W (by omega)⟩
 | 2, ⟨b, hv, c1⟩, hK =>
   refine ⟨_, _, hv, .inl rfl, fun W hW => ?_⟩
   cases q with
   | true => rw [wd_quoted (kc_plain hK (by decide) (by decide))]; exact unq_bad x o b W _ _ (cellOf hW c1)
   | false => rw [wd_plain (kc_plain hK (by decide) (by decide))]; exact unq_tag x o b W _ (cellOf hW c1) (fun W2 hW2 => tagRead_any x o W2 (by omega))
 | 3, hv, hK => exact ⟨_, _, hv, .inr (.inr rfl), fun W hW => restRead_any x o q W (by omega)⟩
 | 4, ⟨b, g, hv, c1, c2⟩, hK =>
   refine ⟨_, _, hv, .inl rfl, fun W hW => ?_⟩
   cases q with
   | true => rw [wd_quoted (kc_plain hK (by decide) (by decide))]; exact unq_bad x o b W _ _ (cellOf hW c1)
   | false =>
     rw [wd_plain (kc_plain hK (by decide) (by decide))]
     exact unq_addr x o b W _ g (cellOf hW c1) (fun W2 hW2 => addrRead4 x o W2 _ g (cellOf (Nm.below_two hW hW2) c2) (fun W3 hW3 => hs.1 x W3 hx (Nm.below_two (Nm.below_two hW hW2) hW3)))
 | 5, ⟨b, g, hv, c1, c2⟩, hK =>
   refine ⟨_, _, hv, .inl rfl, fun W hW => ?_⟩
   cases q with
   | true => rw [wd_quoted (kc_plain hK (by decide) (by decide))]; exact unq_bad x o b W _ _ (cellOf hW c1)
   | false =>
     rw [wd_plain (kc_plain hK (by decide) (by decide))]
     exact unq_addr x o b W _ g (cellOf hW c1) (fun W2 hW2 => addrRead6 x o W2 _ g (cellOf (Nm.below_two hW hW2) c2) (fun W3 hW3 => hs.2 x W3 (Nm.below_two (Nm.below_two hW hW2) hW3)))
 | 6, ⟨b, g, b2, g2, hv, c1, c2, c3, c4⟩, hK =>
   refine ⟨_, _, hv, .inl rfl, fun W hW => ?_⟩
   cases q with
   | true => rw [wd_quoted (kc_plain hK (by decide) (by decide))]; exact unq_bad x o b W _ _ (cellOf hW c1)
   | false =>
     rw [wd_plain (kc_plain hK (by decide) (by decide))]
     exact unq_time x o b W _ g (cellOf hW c1) (fun W2 hW2 => timeRead_any x o g b2 g2 W2 (cellOf (Nm.below_two hW hW2) c2) (cellOf (Nm.below_two hW hW2) c3) (cellOf (Nm.below_two hW hW2) c4))
 | k + 7, ⟨b, g, hv, c1, c2⟩, hK =>
   refine ⟨_, _, hv, .inl rfl, fun W hW => ?_⟩
   cases q with
   | true => rw [wd_quoted (kc_plain hK (by omega) (by omega))]; exact unq_bad x o b W _ _ (cellOf hW c1)
   | false =>
     rw [wd_plain (kc_plain hK (by omega) (by omega))]; exact unq_num x o b W _ g (cellOf hW c1) (fun W2 hW2 => numRead_any k x o g W2 (by unfold kindOK at hK; omega) (cellOf (Nm.below_two hW hW2) c2))
end Go.Proofs.YtddabafaejahbaaGreatDoor
