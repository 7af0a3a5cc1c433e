import Derived.Test.YtechmpdfbpehiaaGreatDoorJIShowT
import Derived.Test.YtechmpdfbpehiaaGreatDoorJV4T
import Derived.Deep.RegionHeld3
import Derived.Test.YtechmpdfbpehiaaGreatDoorJMath
import Derived.Test.YtechmpdfbpehiaaGreatDoorIWr5
/- impl.showHex by its contract. -/
namespace Go.Proofs.YtechmpdfbpehiaaGreatDoor
open Go.RowKit
set_option linter.unusedVariables false

def hexDig (n : Nat) : UInt8 := if n < 10 then UInt8.ofNat (48 + n) else UInt8.ofNat (87 + n)
def byHex (l : List UInt8) : List UInt8 := l.flatMap fun c => [hexDig (c.toNat / 16), hexDig (c.toNat % 16)]
theorem byHex_len (l : List UInt8) : (byHex l).length = 2 * l.length := by
  induction l with
  | nil => rfl
  | cons a l ih => simp only [byHex, List.flatMap_cons, List.length_append, List.length_cons] at ih ⊢; simp at ih ⊢; omega
theorem byHex_step {l : List UInt8} {k : Nat} {c : UInt8} (h : l[k]? = some c) : byHex (l.take (k + 1)) = byHex (l.take k) ++ [hexDig (c.toNat / 16), hexDig (c.toNat % 16)] := by
  rw [List.take_add_one, h]
  simp [byHex]

def hexDigs : ByteArray := ⟨#[48, 49, 50, 51, 52, 53, 54, 55, 56, 57, 97, 98, 99, 100, 101, 102]⟩
theorem hex_dig : ∀ n, n < 16 → hexDigs.data[n]? = some (hexDig n) := by decide

theorem dig_at (n : Nat) (hn : n < 16) (W : World) : (Instr.index 9 (.string hexDigs) (.int .u8 (n : Int))).run Tryz.prog W = .ok (.int .u8 ((hexDig n).toNat : Int)) W := by
  rw [run_index_string W 9 hexDigs .u8 (n : Int) Tryz.underlying9]
  have h := hex_dig n hn
  have hz : hexDigs.size = 16 := rfl
  have hg : hexDigs[n]'(by omega) = hexDig n := by
    have := Array.getElem?_eq_some_iff.1 h
    exact this.2
  have hlt : ¬ (16 : Int) ≤ (n : Int) := by omega
  simp [hz, hg, hlt]

theorem and_fifteen : ∀ c : Nat, c < 256 → bits .and .u8 (c : Int) 15 = (c : Int) % 16 := by decide +kernel

set_option maxRecDepth 100000 in
set_option maxHeartbeats 4000000 in
theorem showHex_any (s : ByteArray) (w : World) (hs : s.size ≤ 100000000) (hp : 0 < s.size) :
    Calls Tryz.prog 60 #[.string s] w fun e w' => e = .returned (.string ⟨(byHex s.data.toList).toArray⟩) ∧ Below w.heap.size w w' := by
  obtain ⟨i0, hi, hz0, hz1, hz2⟩ := info_parts Tryz.infoU8x
  obtain ⟨wm, hmk, hownm, hgrm⟩ := run_make_own (P := Tryz.prog) w w.heap.size 44 5 i0 (.int .u8 0) 1 Tryz.underlying44 hi hz0 hz1 .i64 .i64 (2 * s.size) (by rw [hz2]; omega) (by unfold maxLen; omega) (Nat.le_refl _)
  have hbelm : Below w.heap.size w wm := (Below.refl _ _).grown hgrm (Nat.le_refl _) (by simp)
  rw [show ((2 * s.size : Nat) : Int) = 2 * (s.size : Int) by omega] at hmk
  clear hgrm
  go_enter Tryz.func60, Tryz.ntmps60
  go_wp2
  go_loopw [3, 11] (fun v i wr => ∃ (k n : Nat) (l : List UInt8), k ≤ s.size ∧ i = .int .i64 k ∧ n = 2 * k ∧ Hid (l.length = n) ∧ Hid (l = byHex (s.data.toList.take k)) ∧ wr.ownsRow w.heap.size 5 1 v n (Nm.bys l) ∧ Below w.heap.size w wr)
    (fun _ i _ => s.size - (intOf i).toNat)
  case atStart => exact ⟨0, 0, [], Nat.zero_le _, rfl, rfl, rfl, rfl, hownm, hbelm⟩
  case round =>
    obtain ⟨k, n, l, hk, rfl, hn, HL, HQ, hown, hbel⟩ := hrel
    clear hownm hbelm hmk
    have hsz := hbel.size
    by_cases hlt : k < s.size
    · have hlt' : (k : Int) < (s.size : Int) := by omega
      have hq := byHex_step (Nm.get_data hlt)
      have hb := byte_at s k hlt
      have hc := s[k].toNat_lt
      have hd1 : ∀ W, (Instr.index 9 (.string ⟨#[48, 49, 50, 51, 52, 53, 54, 55, 56, 57, 97, 98, 99, 100, 101, 102]⟩) (.int .u8 ((s[k].toNat : Int) / 16))).run Tryz.prog W = .ok (.int .u8 ((hexDig (s[k].toNat / 16)).toNat : Int)) W := fun W => dig_at (s[k].toNat / 16) (by omega) W
      have hd2 : ∀ W, (Instr.index 9 (.string ⟨#[48, 49, 50, 51, 52, 53, 54, 55, 56, 57, 97, 98, 99, 100, 101, 102]⟩) (.int .u8 ((s[k].toNat : Int) % 16))).run Tryz.prog W = .ok (.int .u8 ((hexDig (s[k].toNat % 16)).toNat : Int)) W := fun W => dig_at (s[k].toNat % 16) (by omega) W
      have HN : Hid (l ++ [hexDig (s[k].toNat / 16), hexDig (s[k].toNat % 16)] = byHex (s.data.toList.take (k + 1))) := by rw [Hid, hq, HQ.out]
      have HL2 : Hid ((l ++ [hexDig (s[k].toNat / 16), hexDig (s[k].toNat % 16)]).length = n + 2) := by rw [Hid]; simp [HL.out]
      have hand := and_fifteen s[k].toNat hc
      generalize hexDig (s[k].toNat / 16) = e1 at *
      generalize hexDig (s[k].toNat % 16) = e2 at *
      generalize hcc : s[k].toNat = c at *
      clear hcc hq HQ HL
      go_wp2_with fail
      refine wp_region_held_drew (S := fun _ => True) (by kernel_rfl) trivial (fun hHeld => ?_)
      refine wpAnyH_take (i := 0) (v := ?_) rfl (by kernel_rfl) (by kernel_rfl) (by kernel_rfl) (fun _ _ _ h => h) (Or.inl ⟨by rfl, ?_⟩) trivial ?_
      rotate_left 1
      · (intro w hSw; go_simp; try (with_reducible rfl))
      refine wpAnyH_take (i := 1) (v := ?_) rfl (by kernel_rfl) (by kernel_rfl) (by kernel_rfl) (fun _ _ _ h => h) (Or.inl ⟨by rfl, ?_⟩) trivial ?_
      rotate_left 1
      · (intro w hSw; go_simp; try (with_reducible rfl))
      refine wpAnyH_take (i := 2) (v := ?_) rfl (by kernel_rfl) (by kernel_rfl) (by kernel_rfl) (fun _ _ _ h => h) (Or.inl ⟨by rfl, ?_⟩) trivial ?_
      rotate_left 1
      · (intro w hSw; go_simp; try (with_reducible rfl))
      refine wpAnyH_take (i := 3) (v := ?_) rfl (by kernel_rfl) (by kernel_rfl) (by kernel_rfl) (fun _ _ _ h => h) (Or.inl ⟨by rfl, ?_⟩) trivial ?_
      rotate_left 1
      · (intro w hSw; go_simp; try (with_reducible rfl))
      refine wpAnyH_take (i := 4) (v := ?_) rfl (by kernel_rfl) (by kernel_rfl) (by kernel_rfl) (fun _ _ _ h => h) (Or.inl ⟨by rfl, ?_⟩) trivial ?_
      rotate_left 1
      · (intro w hSw; go_simp; try (with_reducible rfl))
      refine wpAnyH_take (i := 5) (v := ?_) rfl (by kernel_rfl) (by kernel_rfl) (by kernel_rfl) (fun _ _ _ h => h) (Or.inl ⟨by rfl, ?_⟩) trivial ?_
      rotate_left 1
      · (intro w hSw; go_simp; try (with_reducible rfl))
      refine wpAnyH_take (i := 6) (v := ?_) rfl (by kernel_rfl) (by kernel_rfl) (by kernel_rfl) (fun _ _ _ h => h) (Or.inl ⟨by rfl, ?_⟩) trivial ?_
      rotate_left 1
      · (intro w hSw; go_simp; try (with_reducible rfl))
      refine wpAnyH_take (i := 7) (v := ?_) rfl (by kernel_rfl) (by kernel_rfl) (by kernel_rfl) (fun _ _ _ h => h) (Or.inl ⟨by rfl, ?_⟩) trivial ?_
      rotate_left 1
      · (intro w hSw; go_simp; try (with_reducible rfl))
      refine wpAnyH_take (i := 8) (v := ?_) rfl (by kernel_rfl) (by kernel_rfl) (by kernel_rfl) (fun _ _ _ h => h) (Or.inl ⟨by rfl, ?_⟩) trivial ?_
      rotate_left 1
      · (intro w hSw; go_simp; try (with_reducible rfl))
      refine wpAnyH_take (i := 9) (v := ?_) rfl (by kernel_rfl) (by kernel_rfl) (by kernel_rfl) (fun _ _ _ h => h) (Or.inl ⟨by rfl, ?_⟩) trivial ?_
      rotate_left 1
      · (intro w hSw; go_simp; try (with_reducible rfl))
      refine wpAnyH_take (i := 10) (v := ?_) rfl (by kernel_rfl) (by kernel_rfl) (by kernel_rfl) (fun _ _ _ h => h) (Or.inl ⟨by rfl, ?_⟩) trivial ?_
      rotate_left 1
      · (intro w hSw; go_simp; try (with_reducible rfl))
      refine wpAnyH_ready (rs := [11]) (by kernel_rfl) (by simp) ?_
      refine AllReadyH.cons rfl (fun K hK => ?_) AllReadyH.nil
      go_simp
      refine hK.out _ _ trivial (fun _ => ?_)
      clear hK K
      refine wpAnyH_ready (rs := [12]) (by kernel_rfl) (by simp) ?_
      refine AllReadyH.cons rfl (fun K hK => ?_) AllReadyH.nil
      refine step_append_own rfl (.tmp 14) (.tmp 25) 44 rfl w.heap.size 5 i0 (.int .u8 0) 1 1 Tryz.underlying44 hi hz0 hz1 hz2 rfl (by decide) _ _ _ (by rfl) (own_below (hown.alloc _) (Below.refl _ _).drew) ⟨wr.heap.size, 0, none⟩ 2 2 [.int .u8 (e1.toNat : Int), .int .u8 (e2.toNat : Int)] (by rfl) rfl (World.news_of_block (heap_alloc_new _ _)) (two_bytes _ _) (by unfold maxLen; omega) (by omega) (by simp; omega) ?_
      intro va wa hown2 hgrow2 hnl2
      clear hnl2
      have R2 := Nm.bys_step (x := [e1, e2]) (by simp; omega) (own_below (hown.alloc _) (Below.refl _ _).drew) (hbel.alloc hsz _).drew hown2 hgrow2
      refine hK.out _ _ trivial (fun _ => ?_)
      clear hK K hown2 hgrow2
      refine wpAnyH_take (i := 13) (v := ?_) rfl (by kernel_rfl) (by kernel_rfl) (by kernel_rfl) (fun _ _ _ h => h) (Or.inl ⟨by rfl, ?_⟩) trivial ?_
      rotate_left 1
      · (intro w hSw; go_simp; try (with_reducible rfl))
      refine wpAnyH_done (by kernel_rfl) ?_ _
      go_wp2
      go_roundw
      case rel => exact ⟨k + 1, n + 2, _, by omega, by go_num, by omega, HL2, HN, R2.1, R2.2⟩
      case measure => simp [intOf]; omega
    · have hlt' : (s.size : Int) ≤ (k : Int) := by omega
      have hks : k = s.size := by omega
      have HF : Hid ((⟨l.toArray⟩ : ByteArray) = ⟨(byHex s.data.toList).toArray⟩) := by
        rw [Hid, HQ.out, hks, List.take_of_length_le (by simp)]
      have hn0 : 0 < n := by omega
      clear HQ hks hn
      obtain ⟨g, cp, hv, hcv⟩ := Nm.conv_own (P := Tryz.prog) (src := 44) (dst := 9) Tryz.underlying44 Tryz.underlying5 Tryz.underlying9 hown hn0
      subst hv
      rw [HF.out] at hcv
      go_wp2
      go_ret
      exact ⟨rfl, hbel⟩
end Go.Proofs.YtechmpdfbpehiaaGreatDoor
/- The makers of forms by their contracts. -/
namespace Go.Proofs.YtechmpdfbpehiaaGreatDoor
open Go.RowKit

/-- A form: a reader, whatever it is, and the writer of the kind. -/
def FVal (w : World) (K : Nat) (f : Value) : Prop := ∃ g x y v, f = .agg #[.func g x y, v] ∧ WVal w K v

set_option maxRecDepth 100000 in
set_option maxHeartbeats 1000000 in
theorem unquoted_any (u : Value) (w : World) (g : Fn) (x y : Array Value) (hu : u = .func g x y) :
    Calls Tryz.prog 89 #[u] w fun e w' => (∃ g x y, e = .returned (.func g x y)) ∧ Below w.heap.size w w' := by
  subst hu
  go_enter Tryz.func89, Tryz.ntmps89
  go_wp2
  go_ret
  exact ⟨⟨_, _, _, rfl⟩, (Below.refl _ _).alloc (Nat.le_refl _) _⟩


set_option maxRecDepth 100000 in
set_option maxHeartbeats 1000000 in
theorem textWord_any (w : World) :
    Calls Tryz.prog 69 #[] w fun e w' => (∃ f, e = .returned f ∧ FVal w' 1 f) ∧ Below w.heap.size w w' := by
  go_enter Tryz.func69, Tryz.ntmps69
  go_wp2
  refine bodyPost_ret (v := .agg #[.func (.func 92) #[] #[], .func (.func 95) #[] #[]]) ?_ rfl ⟨⟨_, rfl, _, _, _, _, rfl, rfl⟩, (Below.refl _ _).alloc (Nat.le_refl _) _⟩
  simp [results, Tryz.results69, go_sem, Result.andThen]

set_option maxRecDepth 100000 in
set_option maxHeartbeats 1000000 in
theorem restWord_any (w : World) :
    Calls Tryz.prog 80 #[] w fun e w' => (∃ f, e = .returned f ∧ FVal w' 3 f) ∧ Below w.heap.size w w' := by
  go_enter Tryz.func80, Tryz.ntmps80
  go_wp2
  refine bodyPost_ret (v := .agg #[.func (.func 118) #[] #[], .func (.func 119) #[] #[]]) ?_ rfl ⟨⟨_, rfl, _, _, _, _, rfl, rfl⟩, (Below.refl _ _).alloc (Nat.le_refl _) _⟩
  simp [results, Tryz.results80, go_sem, Result.andThen]

/-- Two cells that were laid ahead of a call are there behind it. -/
theorem two_kept {w w1 : World} {a b : Value} {t : Nat} (hb : Below (w.alloc (.cells #[a, b] t)).heap.size (w.alloc (.cells #[a, b] t)) w1) :
    w1.cell? ⟨w.heap.size, 0, none⟩ = some a ∧ w1.cell? ⟨w.heap.size, 1, none⟩ = some b ∧ w1.frozen? ⟨w.heap.size, 0, none⟩ = false ∧ w1.frozen? ⟨w.heap.size, 1, none⟩ = false := by
  have hlt : w.heap.size < (w.alloc (.cells #[a, b] t)).heap.size := by simp
  have hf : ∀ j, w1.frozen? ⟨w.heap.size, j, none⟩ = false := by
    intro j
    have e : w1.frozen? ⟨w.heap.size, j, none⟩ = (w.alloc (.cells #[a, b] t)).frozen? ⟨w.heap.size, j, none⟩ := by
      simp only [World.frozen?, hb.block w.heap.size hlt]
    rw [e]
    exact World.frozen?_alloc_new w _ _ j
  refine ⟨(hb.cell hlt).trans (by simp), (hb.cell hlt).trans (by simp), hf 0, hf 1⟩
theorem two_set {w1 : World} {g : Nat} {a b r v : Value} (c0 : w1.cell? ⟨g, 0, none⟩ = some a) (c1 : w1.cell? ⟨g, 1, none⟩ = some b) :
    ((w1.setCell ⟨g, 0, none⟩ r).setCell ⟨g, 1, none⟩ v).cell? ⟨g, 0, none⟩ = some r ∧ ((w1.setCell ⟨g, 0, none⟩ r).setCell ⟨g, 1, none⟩ v).cell? ⟨g, 1, none⟩ = some v := by
  refine ⟨?_, ?_⟩
  · rw [World.cell?_setCell_other _ ⟨g, 1, none⟩ ⟨g, 0, none⟩ v (by simp)]
    exact World.cell?_setCell_same w1 ⟨g, 0, none⟩ r c0
  · exact World.cell?_setCell_same (w1.setCell ⟨g, 0, none⟩ r) ⟨g, 1, none⟩ v ((World.cell?_setCell_other w1 ⟨g, 0, none⟩ ⟨g, 1, none⟩ r (by simp)).trans c1)

set_option maxRecDepth 100000 in
set_option maxHeartbeats 1000000 in
theorem nameWord_any (w : World) :
    Calls Tryz.prog 68 #[] w fun e w' => (∃ f, e = .returned f ∧ FVal w' 0 f) ∧ Below w.heap.size w w' := by
  have hun := fun W => unquoted_any (.func (.func 90) #[] #[]) W _ _ _ rfl
  go_enter Tryz.func68, Tryz.ntmps68
  go_wp2_with (go_at_call 89; refine (hun _).mono ?_; rintro e w1 ⟨⟨g, x, y, rfl⟩, hb1⟩; obtain ⟨c0, c1, f0, f1⟩ := two_kept hb1)
  have hb : Below w.heap.size w w1 := ((Below.refl _ w).alloc (Nat.le_refl _) _).trans (hb1.mono (by simp))
  obtain ⟨s0, s1⟩ := two_set (r := .func g x y) (v := .func (.func 91) #[] #[]) c0 c1
  refine bodyPost_ret (v := .agg #[.func g x y, .func (.func 91) #[] #[]]) ?_ rfl ⟨⟨_, rfl, _, _, _, _, rfl, rfl⟩, (hb.setCell (Nat.le_refl _) _).setCell (Nat.le_refl _) _⟩
  simp [results, Tryz.results68, go_sem, Result.andThen, s0, s1]
end Go.Proofs.YtechmpdfbpehiaaGreatDoor
/- The makers of forms by their contracts: those that hold something. -/
namespace Go.Proofs.YtechmpdfbpehiaaGreatDoor
open Go.RowKit

theorem set_far {w1 : World} {g h : Nat} {r v : Value} (hne : h ≠ g) : ((w1.setCell ⟨g, 0, none⟩ r).setCell ⟨g, 1, none⟩ v).cell? ⟨h, 0, none⟩ = w1.cell? ⟨h, 0, none⟩ := by
  rw [World.cell?_setCell_other _ ⟨g, 1, none⟩ ⟨h, 0, none⟩ v (by simp <;> omega), World.cell?_setCell_other _ ⟨g, 0, none⟩ ⟨h, 0, none⟩ r (by simp <;> omega)]

set_option maxRecDepth 100000 in
set_option maxHeartbeats 1000000 in
theorem tagWord_any (w : World) :
    Calls Tryz.prog 79 #[] w fun e w' => (∃ f, e = .returned f ∧ FVal w' 2 f) ∧ Below w.heap.size w w' := by
  have hun := fun W => unquoted_any (.func (.func 115) #[] #[]) W _ _ _ rfl
  go_enter Tryz.func79, Tryz.ntmps79
  go_wp2_with (go_at_call 89; refine (hun _).mono ?_; rintro e w1 ⟨⟨g, x, y, rfl⟩, hb1⟩; obtain ⟨c0, c1, f0, f1⟩ := two_kept hb1)
  have hb : Below w.heap.size w w1 := ((Below.refl _ w).alloc (Nat.le_refl _) _).trans (hb1.mono (by simp))
  obtain ⟨s0, s1⟩ := two_set (r := .func g x y) (v := .func (.func 117) #[] #[]) c0 c1
  refine bodyPost_ret (v := .agg #[.func g x y, .func (.func 117) #[] #[]]) ?_ rfl ⟨⟨_, rfl, _, _, _, _, rfl, rfl⟩, (hb.setCell (Nat.le_refl _) _).setCell (Nat.le_refl _) _⟩
  simp [results, Tryz.results79, go_sem, Result.andThen, s0, s1]

set_option maxRecDepth 100000 in
set_option maxHeartbeats 1000000 in
theorem numberWord_any (k : Nat) (w : World) :
    Calls Tryz.prog 70 #[.int .i64 (k : Int)] w fun e w' => (∃ f, e = .returned f ∧ FVal w' (k + 6) f) ∧ Below w.heap.size w w' := by
  have hun := fun p W => unquoted_any (.func (.func 97) #[] p) W _ _ _ rfl
  go_enter Tryz.func70, Tryz.ntmps70
  go_wp2_with (go_at_call 89; refine (hun _ _).mono ?_; rintro e w1 ⟨⟨g, x, y, rfl⟩, hb1⟩; obtain ⟨c0, c1, f0, f1⟩ := two_kept hb1; have kg : w1.cell? ⟨w.heap.size, 0, none⟩ = some (.int .i64 (k : Int)) := (hb1.cell (by simp; omega)).trans (by simp); simp only [World.alloc, Array.size_push] at c0 c1 f0 f1)
  have hb : Below w.heap.size w w1 := (((Below.refl _ w).alloc (Nat.le_refl _) _).alloc (by simp) _).trans (hb1.mono (by simp; omega))
  obtain ⟨s0, s1⟩ := two_set (r := .func g x y) (v := .func (.func 99) #[] #[.pointer (some ⟨w.heap.size, 0, none⟩)]) c0 c1
  refine bodyPost_ret (v := .agg #[.func g x y, .func (.func 99) #[] #[.pointer (some ⟨w.heap.size, 0, none⟩)]]) ?_ rfl ⟨⟨_, rfl, _, _, _, _, rfl, ⟨_, rfl, (set_far (by omega)).trans kg⟩⟩, (hb.setCell (by simp) _).setCell (by simp) _⟩
  simp [results, Tryz.results70, go_sem, Result.andThen, s0, s1]

set_option maxRecDepth 100000 in
set_option maxHeartbeats 1000000 in
theorem justWords_any (u : Value) (w : World) (a : Option Addr) (n cap : Nat) (hu : u = .slice a n cap) :
    Calls Tryz.prog 72 #[u] w fun e w' => (∃ g x y gc, e = .returned (.agg #[.func g x y, .func (.func 105) #[] #[.pointer (some ⟨gc, 0, none⟩)]]) ∧ w'.cell? ⟨gc, 0, none⟩ = some u) ∧ Below w.heap.size w w' := by
  subst hu
  go_enter Tryz.func72, Tryz.ntmps72
  go_wp2
  refine bodyPost_ret (v := .agg #[.func (.func 103) #[] #[.pointer (some ⟨w.heap.size, 0, none⟩)], .func (.func 105) #[] #[.pointer (some ⟨w.heap.size, 0, none⟩)]]) ?_ rfl ⟨⟨_, _, _, _, rfl, by simp⟩, (((Below.refl _ w).alloc (Nat.le_refl _) _).alloc (by simp) _)⟩
  simp [results, Tryz.results72, go_sem, Result.andThen]
end Go.Proofs.YtechmpdfbpehiaaGreatDoor
/- The makers of forms by their contracts: the addresses. -/
namespace Go.Proofs.YtechmpdfbpehiaaGreatDoor
open Go.RowKit

theorem four_kept {w w1 : World} {a b c d e : Value} {t1 t2 t3 t4 : Nat} (hb : Below ((((w.alloc (.cells #[a] t1)).alloc (.cells #[b] t2)).alloc (.cells #[c] t3)).alloc (.cells #[d, e] t4)).heap.size ((((w.alloc (.cells #[a] t1)).alloc (.cells #[b] t2)).alloc (.cells #[c] t3)).alloc (.cells #[d, e] t4)) w1) :
    w1.cell? ⟨w.heap.size, 0, none⟩ = some a ∧ w1.cell? ⟨w.heap.size + 1 + 1, 0, none⟩ = some c ∧ Below w.heap.size w w1 := by
  have s1 : (w.alloc (.cells #[a] t1)).heap.size = w.heap.size + 1 := by simp
  have s2 : ((w.alloc (.cells #[a] t1)).alloc (.cells #[b] t2)).heap.size = w.heap.size + 1 + 1 := by simp
  have s3 : (((w.alloc (.cells #[a] t1)).alloc (.cells #[b] t2)).alloc (.cells #[c] t3)).heap.size = w.heap.size + 1 + 1 + 1 := by simp
  have s4 : ((((w.alloc (.cells #[a] t1)).alloc (.cells #[b] t2)).alloc (.cells #[c] t3)).alloc (.cells #[d, e] t4)).heap.size = w.heap.size + 1 + 1 + 1 + 1 := by simp
  have b1 : Below w.heap.size w (w.alloc (.cells #[a] t1)) := (Below.refl _ w).alloc (Nat.le_refl _) _
  have b2 := (Below.refl (w.alloc (.cells #[a] t1)).heap.size (w.alloc (.cells #[a] t1))).alloc (Nat.le_refl _) (.cells #[b] t2)
  have b3 := (Below.refl ((w.alloc (.cells #[a] t1)).alloc (.cells #[b] t2)).heap.size ((w.alloc (.cells #[a] t1)).alloc (.cells #[b] t2))).alloc (Nat.le_refl _) (.cells #[c] t3)
  have b4 := (Below.refl (((w.alloc (.cells #[a] t1)).alloc (.cells #[b] t2)).alloc (.cells #[c] t3)).heap.size (((w.alloc (.cells #[a] t1)).alloc (.cells #[b] t2)).alloc (.cells #[c] t3))).alloc (Nat.le_refl _) (.cells #[d, e] t4)
  have b34 := Nm.below_two b4 hb
  have b24 := Nm.below_two b2 (Nm.below_two b3 b34)
  refine ⟨(b24.cell (by rw [s1]; exact Nat.lt_succ_self _)).trans (by simp), (b34.cell (by rw [s3]; exact Nat.lt_succ_self _)).trans ?_, Nm.below_two b1 b24⟩
  have := World.cell?_alloc_new ((w.alloc (.cells #[a] t1)).alloc (.cells #[b] t2)) #[c] t3 0
  rw [s2] at this
  exact this

set_option maxRecDepth 100000 in
set_option maxHeartbeats 1000000 in
theorem addressWordV4_any (w : World) :
    Calls Tryz.prog 73 #[.int .i64 4, .func (.func 74) #[] #[], .func (.func 75) #[] #[]] w fun e w' => (∃ f, e = .returned f ∧ FVal w' 4 f) ∧ Below w.heap.size w w' := by
  have hun := fun p W => unquoted_any (.func (.func 106) #[] p) W _ _ _ rfl
  go_enter Tryz.func73, Tryz.ntmps73
  go_wp2_with (go_at_call 89; refine (hun _ _).mono ?_; rintro e w1 ⟨⟨g, x, y, rfl⟩, hb1⟩; obtain ⟨c0, c1, f0, f1⟩ := two_kept hb1; obtain ⟨kg, kh, hb⟩ := four_kept hb1; simp only [World.alloc, Array.size_push] at c0 c1 f0 f1)
  obtain ⟨s0, s1⟩ := two_set (r := .func g x y) (v := .func (.func 107) #[] #[.pointer (some ⟨w.heap.size + 1 + 1, 0, none⟩), .pointer (some ⟨w.heap.size, 0, none⟩)]) c0 c1
  refine bodyPost_ret (v := .agg #[.func g x y, .func (.func 107) #[] #[.pointer (some ⟨w.heap.size + 1 + 1, 0, none⟩), .pointer (some ⟨w.heap.size, 0, none⟩)]]) ?_ rfl ⟨⟨_, rfl, _, _, _, _, rfl, ⟨_, _, rfl, (set_far (by omega)).trans kh, (set_far (by omega)).trans kg⟩⟩, (hb.setCell (by simp <;> omega) _).setCell (by simp <;> omega) _⟩
  simp [results, Tryz.results73, go_sem, Result.andThen, s0, s1]

set_option maxRecDepth 100000 in
set_option maxHeartbeats 1000000 in
theorem addressWordV6_any (w : World) :
    Calls Tryz.prog 73 #[.int .i64 16, .func (.func 76) #[] #[], .func (.func 77) #[] #[]] w fun e w' => (∃ f, e = .returned f ∧ FVal w' 5 f) ∧ Below w.heap.size w w' := by
  have hun := fun p W => unquoted_any (.func (.func 106) #[] p) W _ _ _ rfl
  go_enter Tryz.func73, Tryz.ntmps73
  go_wp2_with (go_at_call 89; refine (hun _ _).mono ?_; rintro e w1 ⟨⟨g, x, y, rfl⟩, hb1⟩; obtain ⟨c0, c1, f0, f1⟩ := two_kept hb1; obtain ⟨kg, kh, hb⟩ := four_kept hb1; simp only [World.alloc, Array.size_push] at c0 c1 f0 f1)
  obtain ⟨s0, s1⟩ := two_set (r := .func g x y) (v := .func (.func 107) #[] #[.pointer (some ⟨w.heap.size + 1 + 1, 0, none⟩), .pointer (some ⟨w.heap.size, 0, none⟩)]) c0 c1
  refine bodyPost_ret (v := .agg #[.func g x y, .func (.func 107) #[] #[.pointer (some ⟨w.heap.size + 1 + 1, 0, none⟩), .pointer (some ⟨w.heap.size, 0, none⟩)]]) ?_ rfl ⟨⟨_, rfl, _, _, _, _, rfl, ⟨_, _, rfl, (set_far (by omega)).trans kh, (set_far (by omega)).trans kg⟩⟩, (hb.setCell (by simp <;> omega) _).setCell (by simp <;> omega) _⟩
  simp [results, Tryz.results73, go_sem, Result.andThen, s0, s1]
end Go.Proofs.YtechmpdfbpehiaaGreatDoor
