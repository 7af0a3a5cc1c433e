import Derived.Test.YtephbegencpllaaGreatDoorRows
import Derived.Laws.AppendOwn
import Derived.Deep.RegionHeld3
import Derived.Deep.RegionLaw
import Derived.Test.YtephbegencpllaaGreatDoorJIShowT
import Derived.Test.YtephbegencpllaaGreatDoorV4W
import Derived.Test.YtephbegencpllaaGreatDoorJMath
import Derived.Test.YtephbegencpllaaGreatDoorIWr5
/- A step of a drawn region: append onto a row of one's own. -/
namespace Go.Proofs.YtephbegencpllaaGreatDoor
open Go
set_option linter.unusedVariables false

theorem step_append_own {P : Program} {ops : Array Oper} {o : Oper} {a : Act} {w : World} {K : Act → World → Prop} {Q : Exit → Act → World → Prop} {E : Prop} (hgd : o.guard = none) (s x : Operand) (t : TypeId)
    (ho : o.op = .call { callee := .builtin .append, args := #[s, x], argTypes := #[t, t] })
    (base : Nat) (e : TypeId) (i : TypeInfo) (z : Value) (size bytes : Nat) (ht : P.underlying t = some (.slice e)) (hi : P.info? e = some i) (hz : i.zero = some z)
    (hsize : i.size = size) (hby : i.bytes = bytes) (hzs : z.cells.size = size) (hsz : 0 < size)
    (v : Value) (n : Nat) (xs : List Value) (hs : a.eval s = v) (hown : w.ownsRow base e size v n xs)
    (ad : Addr) (m c : Nat) (news : List Value) (hx : a.eval x = .slice (some ad) m c) (hl : news.length = m * size) (hnews : ∀ j u, news[j]? = some u → w.cell? (ad.add j) = some u) (h1 : ∀ u ∈ news, u.oneCell' = true)
    (h63 : n + m ≤ maxLen) (hbytes : (n + m) * bytes ≤ 140737488355328) (hbase : base ≤ w.heap.size)
    (h : ∀ v' w', w'.ownsRow base e size v' (n + m) (xs ++ news) → w.grownBy w' v.ownBlock → (v' = .slice none 0 0 ↔ v = .slice none 0 0 ∧ m = 0) → K (a.put o.dst v') w') :
    if Region.wanted o (yielded ops a.tmps) = true then Oper.wp P o a w K Q else E := by
  have hw : Region.wanted o (yielded ops a.tmps) = true := by simp [Region.wanted, hgd]
  rw [if_pos hw]
  exact wp_append_own w s x t ho base e i z size bytes ht hi hz hsize hby hzs hsz v n xs hs hown ad m c news hx hl hnews h1 h63 hbytes hbase h

end Go.Proofs.YtephbegencpllaaGreatDoor
/- impl.showHex by its contract. -/
namespace Go.Proofs.YtephbegencpllaaGreatDoor
open Go.RowKit
set_option linter.unusedVariables false

def hexDig (n : Nat) : UInt8 := if n < 10 then UInt8.ofNat (48 + n) else UInt8.ofNat (87 + n)
def byHex (l : List UInt8) : List UInt8 := l.flatMap fun c => [hexDig (c.toNat / 16), hexDig (c.toNat % 16)]
theorem byHex_len (l : List UInt8) : (byHex l).length = 2 * l.length := by
  induction l with
  | nil => rfl
  | cons a l ih => simp only [byHex, List.flatMap_cons, List.length_append, List.length_cons] at ih ⊢; simp at ih ⊢; omega
theorem byHex_step {l : List UInt8} {k : Nat} {c : UInt8} (h : l[k]? = some c) : byHex (l.take (k + 1)) = byHex (l.take k) ++ [hexDig (c.toNat / 16), hexDig (c.toNat % 16)] := by
  rw [List.take_add_one, h]
  simp [byHex]

def hexDigs : ByteArray := ⟨#[48, 49, 50, 51, 52, 53, 54, 55, 56, 57, 97, 98, 99, 100, 101, 102]⟩
theorem hex_dig : ∀ n, n < 16 → hexDigs.data[n]? = some (hexDig n) := by decide

theorem dig_at (n : Nat) (hn : n < 16) (W : World) : (Instr.index 9 (.string hexDigs) (.int .u8 (n : Int))).run Tryz.prog W = .ok (.int .u8 ((hexDig n).toNat : Int)) W := by
  rw [run_index_string W 9 hexDigs .u8 (n : Int) Tryz.underlying9]
  have h := hex_dig n hn
  have hz : hexDigs.size = 16 := rfl
  have hg : hexDigs[n]'(by omega) = hexDig n := by
    have := Array.getElem?_eq_some_iff.1 h
    exact this.2
  have hlt : ¬ (16 : Int) ≤ (n : Int) := by omega
  simp [hz, hg, hlt]

theorem and_fifteen : ∀ c : Nat, c < 256 → bits .and .u8 (c : Int) 15 = (c : Int) % 16 := by decide +kernel

set_option maxRecDepth 100000 in
set_option maxHeartbeats 4000000 in
theorem showHex_any (s : ByteArray) (w : World) (hs : s.size ≤ 100000000) (hp : 0 < s.size) :
    Calls Tryz.prog 22 #[.string s] w fun e w' => e = .returned (.string ⟨(byHex s.data.toList).toArray⟩) ∧ Below w.heap.size w w' := by
  obtain ⟨i0, hi, hz0, hz1, hz2⟩ := info_parts Tryz.infoU8x
  obtain ⟨wm, hmk, hownm, hgrm⟩ := run_make_own (P := Tryz.prog) w w.heap.size 48 5 i0 (.int .u8 0) 1 Tryz.underlying48 hi hz0 hz1 .i64 .i64 (2 * s.size) (by rw [hz2]; omega) (by unfold maxLen; omega) (Nat.le_refl _)
  have hbelm : Below w.heap.size w wm := (Below.refl _ _).grown hgrm (Nat.le_refl _) (by simp)
  rw [show ((2 * s.size : Nat) : Int) = 2 * (s.size : Int) by omega] at hmk
  clear hgrm
  go_enter Tryz.func22, Tryz.ntmps22
  go_wp2
  go_loopw [3, 11] (fun v i wr => ∃ (k n : Nat) (l : List UInt8), k ≤ s.size ∧ i = .int .i64 k ∧ n = 2 * k ∧ Hid (l.length = n) ∧ Hid (l = byHex (s.data.toList.take k)) ∧ wr.ownsRow w.heap.size 5 1 v n (Nm.bys l) ∧ Below w.heap.size w wr)
    (fun _ i _ => s.size - (intOf i).toNat)
  case atStart => exact ⟨0, 0, [], Nat.zero_le _, rfl, rfl, rfl, rfl, hownm, hbelm⟩
  case round =>
    obtain ⟨k, n, l, hk, rfl, hn, HL, HQ, hown, hbel⟩ := hrel
    clear hownm hbelm hmk
    have hsz := hbel.size
    by_cases hlt : k < s.size
    · have hlt' : (k : Int) < (s.size : Int) := by omega
      have hq := byHex_step (Nm.get_data hlt)
      have hb := byte_at s k hlt
      have hc := s[k].toNat_lt
      have hd1 : ∀ W, (Instr.index 9 (.string ⟨#[48, 49, 50, 51, 52, 53, 54, 55, 56, 57, 97, 98, 99, 100, 101, 102]⟩) (.int .u8 ((s[k].toNat : Int) / 16))).run Tryz.prog W = .ok (.int .u8 ((hexDig (s[k].toNat / 16)).toNat : Int)) W := fun W => dig_at (s[k].toNat / 16) (by omega) W
      have hd2 : ∀ W, (Instr.index 9 (.string ⟨#[48, 49, 50, 51, 52, 53, 54, 55, 56, 57, 97, 98, 99, 100, 101, 102]⟩) (.int .u8 ((s[k].toNat : Int) % 16))).run Tryz.prog W = .ok (.int .u8 ((hexDig (s[k].toNat % 16)).toNat : Int)) W := fun W => dig_at (s[k].toNat % 16) (by omega) W
      have HN : Hid (l ++ [hexDig (s[k].toNat / 16), hexDig (s[k].toNat % 16)] = byHex (s.data.toList.take (k + 1))) := by rw [Hid, hq, HQ.out]
      have HL2 : Hid ((l ++ [hexDig (s[k].toNat / 16), hexDig (s[k].toNat % 16)]).length = n + 2) := by rw [Hid]; simp [HL.out]
      have hand := and_fifteen s[k].toNat hc
      generalize hexDig (s[k].toNat / 16) = e1 at *
      generalize hexDig (s[k].toNat % 16) = e2 at *
      generalize hcc : s[k].toNat = c at *
      clear hcc hq HQ HL
      go_wp2_with fail
      refine wp_region_held_drew (S := fun _ => True) (by kernel_rfl) trivial (fun hHeld => ?_)
      refine wpAnyH_take (i := 0) (v := ?_) rfl (by kernel_rfl) (by kernel_rfl) (by kernel_rfl) (fun _ _ _ h => h) (Or.inl ⟨by rfl, ?_⟩) trivial ?_
      rotate_left 1
      · (intro w hSw; go_simp; try (with_reducible rfl))
      refine wpAnyH_take (i := 1) (v := ?_) rfl (by kernel_rfl) (by kernel_rfl) (by kernel_rfl) (fun _ _ _ h => h) (Or.inl ⟨by rfl, ?_⟩) trivial ?_
      rotate_left 1
      · (intro w hSw; go_simp; try (with_reducible rfl))
      refine wpAnyH_take (i := 2) (v := ?_) rfl (by kernel_rfl) (by kernel_rfl) (by kernel_rfl) (fun _ _ _ h => h) (Or.inl ⟨by rfl, ?_⟩) trivial ?_
      rotate_left 1
      · (intro w hSw; go_simp; try (with_reducible rfl))
      refine wpAnyH_take (i := 3) (v := ?_) rfl (by kernel_rfl) (by kernel_rfl) (by kernel_rfl) (fun _ _ _ h => h) (Or.inl ⟨by rfl, ?_⟩) trivial ?_
      rotate_left 1
      · (intro w hSw; go_simp; try (with_reducible rfl))
      refine wpAnyH_take (i := 4) (v := ?_) rfl (by kernel_rfl) (by kernel_rfl) (by kernel_rfl) (fun _ _ _ h => h) (Or.inl ⟨by rfl, ?_⟩) trivial ?_
      rotate_left 1
      · (intro w hSw; go_simp; try (with_reducible rfl))
      refine wpAnyH_take (i := 5) (v := ?_) rfl (by kernel_rfl) (by kernel_rfl) (by kernel_rfl) (fun _ _ _ h => h) (Or.inl ⟨by rfl, ?_⟩) trivial ?_
      rotate_left 1
      · (intro w hSw; go_simp; try (with_reducible rfl))
      refine wpAnyH_take (i := 6) (v := ?_) rfl (by kernel_rfl) (by kernel_rfl) (by kernel_rfl) (fun _ _ _ h => h) (Or.inl ⟨by rfl, ?_⟩) trivial ?_
      rotate_left 1
      · (intro w hSw; go_simp; try (with_reducible rfl))
      refine wpAnyH_take (i := 7) (v := ?_) rfl (by kernel_rfl) (by kernel_rfl) (by kernel_rfl) (fun _ _ _ h => h) (Or.inl ⟨by rfl, ?_⟩) trivial ?_
      rotate_left 1
      · (intro w hSw; go_simp; try (with_reducible rfl))
      refine wpAnyH_take (i := 8) (v := ?_) rfl (by kernel_rfl) (by kernel_rfl) (by kernel_rfl) (fun _ _ _ h => h) (Or.inl ⟨by rfl, ?_⟩) trivial ?_
      rotate_left 1
      · (intro w hSw; go_simp; try (with_reducible rfl))
      refine wpAnyH_take (i := 9) (v := ?_) rfl (by kernel_rfl) (by kernel_rfl) (by kernel_rfl) (fun _ _ _ h => h) (Or.inl ⟨by rfl, ?_⟩) trivial ?_
      rotate_left 1
      · (intro w hSw; go_simp; try (with_reducible rfl))
      refine wpAnyH_take (i := 10) (v := ?_) rfl (by kernel_rfl) (by kernel_rfl) (by kernel_rfl) (fun _ _ _ h => h) (Or.inl ⟨by rfl, ?_⟩) trivial ?_
      rotate_left 1
      · (intro w hSw; go_simp; try (with_reducible rfl))
      refine wpAnyH_ready (rs := [11]) (by kernel_rfl) (by simp) ?_
      refine AllReadyH.cons rfl (fun K hK => ?_) AllReadyH.nil
      go_simp
      refine hK.out _ _ trivial (fun _ => ?_)
      clear hK K
      refine wpAnyH_ready (rs := [12]) (by kernel_rfl) (by simp) ?_
      refine AllReadyH.cons rfl (fun K hK => ?_) AllReadyH.nil
      refine step_append_own rfl (.tmp 14) (.tmp 25) 48 rfl w.heap.size 5 i0 (.int .u8 0) 1 1 Tryz.underlying48 hi hz0 hz1 hz2 rfl (by decide) _ _ _ (by rfl) (own_below (hown.alloc _) (Below.refl _ _).drew) ⟨wr.heap.size, 0, none⟩ 2 2 [.int .u8 (e1.toNat : Int), .int .u8 (e2.toNat : Int)] (by rfl) rfl (World.news_of_block (heap_alloc_new _ _)) (two_bytes _ _) (by unfold maxLen; omega) (by omega) (by simp; omega) ?_
      intro va wa hown2 hgrow2 hnl2
      clear hnl2
      have R2 := Nm.bys_step (x := [e1, e2]) (by simp; omega) (own_below (hown.alloc _) (Below.refl _ _).drew) (hbel.alloc hsz _).drew hown2 hgrow2
      refine hK.out _ _ trivial (fun _ => ?_)
      clear hK K hown2 hgrow2
      refine wpAnyH_take (i := 13) (v := ?_) rfl (by kernel_rfl) (by kernel_rfl) (by kernel_rfl) (fun _ _ _ h => h) (Or.inl ⟨by rfl, ?_⟩) trivial ?_
      rotate_left 1
      · (intro w hSw; go_simp; try (with_reducible rfl))
      refine wpAnyH_done (by kernel_rfl) ?_ _
      go_wp2
      go_roundw
      case rel => exact ⟨k + 1, n + 2, _, by omega, by go_num, by omega, HL2, HN, R2.1, R2.2⟩
      case measure => simp [intOf]; omega
    · have hlt' : (s.size : Int) ≤ (k : Int) := by omega
      have hks : k = s.size := by omega
      have HF : Hid ((⟨l.toArray⟩ : ByteArray) = ⟨(byHex s.data.toList).toArray⟩) := by
        rw [Hid, HQ.out, hks, List.take_of_length_le (by simp)]
      have hn0 : 0 < n := by omega
      clear HQ hks hn
      obtain ⟨g, cp, hv, hcv⟩ := Nm.conv_own (P := Tryz.prog) (src := 48) (dst := 9) Tryz.underlying48 Tryz.underlying5 Tryz.underlying9 hown hn0
      subst hv
      rw [HF.out] at hcv
      go_wp2
      go_ret
      exact ⟨rfl, hbel⟩
end Go.Proofs.YtephbegencpllaaGreatDoor
/- The makers of forms by their contracts. -/
namespace Go.Proofs.YtephbegencpllaaGreatDoor
open Go.RowKit

/-- A form: a reader, whatever it is, and the writer of the kind. -/
def FVal (w : World) (K : Nat) (f : Value) : Prop := ∃ g x y v, f = .agg #[.func g x y, v] ∧ WVal w K v

set_option maxRecDepth 100000 in
set_option maxHeartbeats 1000000 in
theorem unquoted_any (u : Value) (w : World) (g : Fn) (x y : Array Value) (hu : u = .func g x y) :
    Calls Tryz.prog 52 #[u] w fun e w' => (∃ g x y, e = .returned (.func g x y)) ∧ Below w.heap.size w w' := by
  subst hu
  go_enter Tryz.func52, Tryz.ntmps52
  go_wp2
  go_ret
  exact ⟨⟨_, _, _, rfl⟩, (Below.refl _ _).alloc (Nat.le_refl _) _⟩


set_option maxRecDepth 100000 in
set_option maxHeartbeats 1000000 in
theorem textWord_any (w : World) :
    Calls Tryz.prog 33 #[] w fun e w' => (∃ f, e = .returned f ∧ FVal w' 1 f) ∧ Below w.heap.size w w' := by
  go_enter Tryz.func33, Tryz.ntmps33
  go_wp2
  refine bodyPost_ret (v := .agg #[.func (.func 57) #[] #[], .func (.func 60) #[] #[]]) ?_ rfl ⟨⟨_, rfl, _, _, _, _, rfl, rfl⟩, (Below.refl _ _).alloc (Nat.le_refl _) _⟩
  simp [results, Tryz.results33, go_sem, Result.andThen]

set_option maxRecDepth 100000 in
set_option maxHeartbeats 1000000 in
theorem restWord_any (w : World) :
    Calls Tryz.prog 44 #[] w fun e w' => (∃ f, e = .returned f ∧ FVal w' 3 f) ∧ Below w.heap.size w w' := by
  go_enter Tryz.func44, Tryz.ntmps44
  go_wp2
  refine bodyPost_ret (v := .agg #[.func (.func 84) #[] #[], .func (.func 85) #[] #[]]) ?_ rfl ⟨⟨_, rfl, _, _, _, _, rfl, rfl⟩, (Below.refl _ _).alloc (Nat.le_refl _) _⟩
  simp [results, Tryz.results44, go_sem, Result.andThen]

/-- Two cells that were laid ahead of a call are there behind it. -/
theorem two_kept {w w1 : World} {a b : Value} {t : Nat} (hb : Below (w.alloc (.cells #[a, b] t)).heap.size (w.alloc (.cells #[a, b] t)) w1) :
    w1.cell? ⟨w.heap.size, 0, none⟩ = some a ∧ w1.cell? ⟨w.heap.size, 1, none⟩ = some b ∧ w1.frozen? ⟨w.heap.size, 0, none⟩ = false ∧ w1.frozen? ⟨w.heap.size, 1, none⟩ = false := by
  have hlt : w.heap.size < (w.alloc (.cells #[a, b] t)).heap.size := by simp
  have hf : ∀ j, w1.frozen? ⟨w.heap.size, j, none⟩ = false := by
    intro j
    have e : w1.frozen? ⟨w.heap.size, j, none⟩ = (w.alloc (.cells #[a, b] t)).frozen? ⟨w.heap.size, j, none⟩ := by
      simp only [World.frozen?, hb.block w.heap.size hlt]
    rw [e]
    exact World.frozen?_alloc_new w _ _ j
  refine ⟨(hb.cell hlt).trans (by simp), (hb.cell hlt).trans (by simp), hf 0, hf 1⟩
theorem two_set {w1 : World} {g : Nat} {a b r v : Value} (c0 : w1.cell? ⟨g, 0, none⟩ = some a) (c1 : w1.cell? ⟨g, 1, none⟩ = some b) :
    ((w1.setCell ⟨g, 0, none⟩ r).setCell ⟨g, 1, none⟩ v).cell? ⟨g, 0, none⟩ = some r ∧ ((w1.setCell ⟨g, 0, none⟩ r).setCell ⟨g, 1, none⟩ v).cell? ⟨g, 1, none⟩ = some v := by
  refine ⟨?_, ?_⟩
  · rw [World.cell?_setCell_other _ ⟨g, 1, none⟩ ⟨g, 0, none⟩ v (by simp)]
    exact World.cell?_setCell_same w1 ⟨g, 0, none⟩ r c0
  · exact World.cell?_setCell_same (w1.setCell ⟨g, 0, none⟩ r) ⟨g, 1, none⟩ v ((World.cell?_setCell_other w1 ⟨g, 0, none⟩ ⟨g, 1, none⟩ r (by simp)).trans c1)

set_option maxRecDepth 100000 in
set_option maxHeartbeats 1000000 in
theorem nameWord_any (w : World) :
    Calls Tryz.prog 32 #[] w fun e w' => (∃ f, e = .returned f ∧ FVal w' 0 f) ∧ Below w.heap.size w w' := by
  have hun := fun W => unquoted_any (.func (.func 53) #[] #[]) W _ _ _ rfl
  go_enter Tryz.func32, Tryz.ntmps32
  go_wp2_with (go_at_call 52; refine (hun _).mono ?_; rintro e w1 ⟨⟨g, x, y, rfl⟩, hb1⟩; obtain ⟨c0, c1, f0, f1⟩ := two_kept hb1)
  have hb : Below w.heap.size w w1 := ((Below.refl _ w).alloc (Nat.le_refl _) _).trans (hb1.mono (by simp))
  obtain ⟨s0, s1⟩ := two_set (r := .func g x y) (v := .func (.func 54) #[] #[]) c0 c1
  refine bodyPost_ret (v := .agg #[.func g x y, .func (.func 54) #[] #[]]) ?_ rfl ⟨⟨_, rfl, _, _, _, _, rfl, rfl⟩, (hb.setCell (Nat.le_refl _) _).setCell (Nat.le_refl _) _⟩
  simp [results, Tryz.results32, go_sem, Result.andThen, s0, s1]
end Go.Proofs.YtephbegencpllaaGreatDoor
