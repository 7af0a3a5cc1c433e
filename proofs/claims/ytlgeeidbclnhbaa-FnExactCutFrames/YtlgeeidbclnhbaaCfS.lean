/- impl.cutLength, slices.Clone of bytes by their contracts. -/
import Derived.Test.YtlgeeidbclnhbaaCfM
import Derived.Test.YtlgeeidbclnhbaaCfR
import Derived.Test.YtlgeeidbclnhbaaBig1
import Derived.BigQuiet
namespace Go.Proofs.Ytlgeeidbclnhbaa
open Go.RowKit
set_option linter.unusedVariables false

def cfV (a : Option Addr) (cap p size : Nat) : Value := if cap = p then .slice a size 0 else .slice (a.map (fun x => x.add p)) size (cap - p)

theorem cf_row {w : World} {a : Option Addr} {l : List UInt8} {cap p size : Nat} (h : BySl w (.slice a l.length cap) l) (hp : p + size ≤ l.length) : CRow w (cfV a cap p size) size 1 (Nm.bys ((l.drop p).take size)) := by
  obtain ⟨_, a', cap', e, h1, h2, h3⟩ := h
  simp only [Value.slice.injEq] at e
  obtain ⟨rfl, _, rfl⟩ := e
  have hlen : (Nm.bys ((l.drop p).take size)).length = size * 1 := by rw [Nm.bys_length]; simp; omega
  refine ⟨hlen, ?_⟩
  by_cases hcp : cap = p
  · refine ⟨a, 0, by rw [cfV, if_pos hcp], by omega, by omega, fun h => by omega⟩
  · refine ⟨a.map (fun x => x.add p), cap - p, by rw [cfV, if_neg hcp], by omega, by omega, fun h => ?_⟩
    obtain ⟨b, off, rfl, hc⟩ := h3 (by omega)
    refine ⟨b, off + p, by simp [Nm.addr_add], fun i x hx => ?_⟩
    rw [show Nm.bys ((l.drop p).take size) = ((Nm.bys l).drop p).take size by simp [Nm.bys], List.getElem?_take] at hx
    split at hx
    · rw [List.getElem?_drop] at hx
      rw [Nat.add_assoc]
      exact hc _ _ hx
    · cases hx

theorem cf_cut {w : World} {a : Option Addr} {l : List UInt8} {cap size : Nat} (h : BySl w (.slice a l.length cap) l) (hp : size ≤ l.length) : CRow w (.slice a size cap) size 1 (Nm.bys (l.take size)) := by
  obtain ⟨_, a', cap', e, h1, h2, h3⟩ := h
  simp only [Value.slice.injEq] at e
  obtain ⟨rfl, _, rfl⟩ := e
  refine ⟨by rw [Nm.bys_length]; simp; omega, a, cap, rfl, by omega, h2, fun h => ?_⟩
  obtain ⟨b, off, rfl, hc⟩ := h3 (by omega)
  refine ⟨b, off, rfl, fun i x hx => ?_⟩
  rw [show Nm.bys (l.take size) = (Nm.bys l).take size by simp [Nm.bys], List.getElem?_take] at hx
  split at hx
  · exact hc _ _ hx
  · cases hx

theorem cf_by {w : World} {v : Value} {l : List UInt8} {n : Nat} (h : CRow w v n 1 (Nm.bys l)) : BySl w v l := by
  have := h.1
  rw [Nm.bys_length, Nat.mul_one] at this
  subst this
  exact h

theorem cf_str {w : World} {v : Value} {l : List UInt8} {n : Nat} (h : CRow w v n 1 (Nm.bys l)) : (convert 22 9 v).run Try.prog w = .ok (.string ⟨l.toArray⟩) w := by
  obtain ⟨hl, a, cap, rfl, h1, h2, h3⟩ := h
  rw [Nm.bys_length, Nat.mul_one] at hl
  subst hl
  rcases Nat.eq_zero_or_pos l.length with h0 | hpos
  · have : l = [] := List.length_eq_zero_iff.1 h0
    subst this
    cases a with
    | none => exact (run_convert_bytes_string w 22 9 5 none 0 cap Try.underlying22 Try.underlying5 Try.underlying9).trans rfl
    | some x => exact run_convert_bytes_back w 22 9 5 x cap [] Try.underlying22 Try.underlying5 Try.underlying9 (by intro j hj; simp at hj)
  · obtain ⟨b, off, rfl, hc⟩ := h3 hpos
    refine run_convert_bytes_back w 22 9 5 ⟨b, off, none⟩ cap l Try.underlying22 Try.underlying5 Try.underlying9 ?_
    intro j hj
    rw [Nm.addr_add]
    exact hc j _ (by simp [Nm.bys, hj])

set_option maxRecDepth 100000 in
set_option maxHeartbeats 1600000 in
theorem cloneBy_any (v : Value) (l : List UInt8) (w : World) (h : BySl w v l) (hl : l.length ≤ 3000000) :
    Calls Try.prog 16 #[v] w fun e w' => ∃ u, e = .returned u ∧ w'.ownsRow w.heap.size 5 1 u l.length (Nm.bys l) ∧ Below w.heap.size w w' := by
  obtain ⟨i0, hi, hz0, hz1, hz2⟩ := info_parts Try.infoBy
  obtain ⟨hln, a, cap, rfl, hcap, hmx, hc⟩ := h
  cases a with
  | none =>
    have hx : l.length = 0 := by
      rcases Nat.eq_zero_or_pos l.length with h | h
      · exact h
      · obtain ⟨b, off, e, _⟩ := hc h
        cases e
    obtain rfl : l = [] := List.length_eq_zero_iff.1 hx
    have hnil : ∀ W, (binOp .eql 22 (.slice none 0 cap) (.slice none 0 0)).run Try.prog W = .ok (.bool true) W := fun W => by kernel_rfl
    simp only [List.length_nil] at *
    clear hc
    go_enter Try.func16, Try.ntmps16
    go_wp2
    go_ret
    exact ⟨_, rfl, World.ownsRow_nil _ _ _ _, Below.refl _ _⟩
  | some A =>
    have hB := (Below.refl w.heap.size w).alloc (Nat.le_refl _) (.cells #[] 5)
    have hown := World.ownsRow_made (base := w.heap.size) (size := 1) (e := 5) w #[] 0 (by simp) (by decide) rfl
    have hnil : ∀ W, (binOp .eql 22 (.slice (some A) l.length cap) (.slice none 0 0)).run Try.prog W = .ok (.bool false) W := fun W => by kernel_rfl
    have hone : ∀ u ∈ Nm.bys l, u.oneCell' = true := by
      intro u hu
      rw [Nm.bys] at hu
      obtain ⟨b, _, rfl⟩ := List.mem_map.1 hu
      rfl
    have hcell' : ∀ (j : Nat) (u : Value), (Nm.bys l)[j]? = some u → (w.alloc (.cells #[] 5)).cell? (A.add j) = some u := by
      intro j u hj
      have hp : 0 < l.length := by
        have := (List.getElem?_eq_some_iff.1 hj).1
        rw [Nm.bys_length] at this
        omega
      obtain ⟨b, off, eA, hcell⟩ := hc hp
      cases eA
      rw [Nm.addr_add]
      have h1 := hcell j u hj
      exact (hB.cell (World.block_lt_of_cell? w _ h1)).trans h1
    clear hc
    go_enter Try.func16, Try.ntmps16
    go_wp2_with (at_builtin; refine wpList_append_own _ rfl (.tmp 5) (.tmp 6) 22 rfl w.heap.size 5 i0 _ 1 1 Try.underlying22 hi hz0 hz1 hz2 rfl (by decide) _ _ _ rfl hown A l.length cap (Nm.bys l) rfl (by rw [Nm.bys_length]; simp) hcell' hone (by unfold maxLen; omega) (by omega) hB.size ?_; intro va wa hown9 hgrow9 hnl9)
    go_ret
    rw [Nat.zero_add] at hown9
    exact ⟨_, rfl, hown9, hB.grown hgrow9 hB.size (fun k hk => (hown.lt k hk).1)⟩

set_option maxRecDepth 100000 in
set_option maxHeartbeats 1600000 in
theorem cutLength_no (v : Value) (s : List UInt8) (w : World) (h : BySl w v s) (hs : s.length ≤ 2000000) (hn : s.length < 2 ∨ s.length < hdN s + 2) :
    Calls Try.prog 15 #[v] w fun e w' => e = .returned (.tuple #[.slice none 0 0, .slice none 0 0, .bool false]) ∧ w' = w := by
  obtain ⟨a, cap, rfl⟩ : ∃ a cap, v = .slice a s.length cap := by obtain ⟨_, a, c, e, _⟩ := h; exact ⟨a, c, e⟩
  have hcap : s.length ≤ cap := by obtain ⟨_, a', c, e, h1, _⟩ := h; simp only [Value.slice.injEq] at e; omega
  by_cases h2 : s.length < 2
  · have h2' : (s.length : Int) < 2 := by omega
    go_enter Try.func15, Try.ntmps15
    go_wp2
    go_ret3
    exact ⟨rfl, rfl⟩
  · have h2' : (2 : Int) ≤ (s.length : Int) := by omega
    have hcv := cf_str (cf_cut h (size := 2) (by omega))
    have hrb := fun W => readBig_any ⟨(s.take 2).toArray⟩ W (by show (s.take 2).toArray.size ≤ 6; simp; omega)
    have e1 : numL (ByteArray.mk (s.take 2).toArray).data.toList = hdN s := by simp [hdN]
    rw [e1] at hrb
    clear e1
    generalize (⟨(s.take 2).toArray⟩ : ByteArray) = S2 at *
    generalize hdN s = n at *
    have hlt : ((s.length : Int) - 2) < (n : Int) := by omega
    have hk : 2 ≤ s.length := by omega
    clear hn h2 h
    by_cases hcp : cap = 2
    · subst hcp
      go_enter Try.func15, Try.ntmps15
      go_wp2_with (go_at_call 18; refine (hrb _).mono ?_; rintro e w2 ⟨rfl, rfl⟩)
      go_ret3
      exact ⟨rfl, rfl⟩
    · go_enter Try.func15, Try.ntmps15
      go_wp2_with (go_at_call 18; refine (hrb _).mono ?_; rintro e w2 ⟨rfl, rfl⟩)
      go_ret3
      exact ⟨rfl, rfl⟩

set_option maxRecDepth 100000 in
set_option maxHeartbeats 1600000 in
theorem cutLength_yes (v : Value) (s : List UInt8) (w : World) (h : BySl w v s) (hs : s.length ≤ 2000000) (hn : hdN s + 2 ≤ s.length) :
    Calls Try.prog 15 #[v] w fun e w' => ∃ f r, e = .returned (.tuple #[f, r, .bool true]) ∧ (∀ W, BySl W v s → BySl W f ((s.drop 2).take (hdN s)) ∧ BySl W r (s.drop (hdN s + 2))) ∧ Below w.heap.size w w' := by
  obtain ⟨a, cap, rfl⟩ : ∃ a cap, v = .slice a s.length cap := by obtain ⟨_, a, c, e, _⟩ := h; exact ⟨a, c, e⟩
  have hcap : s.length ≤ cap := by obtain ⟨_, a', c, e, h1, _⟩ := h; simp only [Value.slice.injEq] at e; omega
  obtain ⟨b, off, rfl⟩ : ∃ b off, a = some ⟨b, off, none⟩ := by
    obtain ⟨_, a', c, e, _, _, h3⟩ := h
    simp only [Value.slice.injEq] at e
    obtain ⟨b, off, e2, _⟩ := h3 (by omega)
    exact ⟨b, off, by rw [e.1, e2]⟩
  have hmx : cap ≤ maxLen := by obtain ⟨_, a', c, e, _, h1, _⟩ := h; simp only [Value.slice.injEq] at e; omega
  have h2' : (2 : Int) ≤ (s.length : Int) := by omega
  have HT2 : Hid (s.length = hdN s + 2 → s.drop (hdN s + 2) = []) := fun e => List.drop_of_length_le (by omega)
  have hcv := cf_str (cf_cut h (size := 2) (by omega))
  have hrb := fun W => readBig_any ⟨(s.take 2).toArray⟩ W (by show (s.take 2).toArray.size ≤ 6; simp; omega)
  have e1 : numL (ByteArray.mk (s.take 2).toArray).data.toList = hdN s := by simp [hdN]
  rw [e1] at hrb
  clear e1
  have hd := hdN_lt s
  have F1 := fun (W : World) (hb : BySl W (.slice (some ⟨b, off, none⟩) s.length cap) s) => cf_by (cf_row hb (p := 2) (size := hdN s) (by omega))
  have F2 := fun (W : World) (hb : BySl W (.slice (some ⟨b, off, none⟩) s.length cap) s) => cf_by (cf_row hb (p := hdN s + 2) (size := s.length - (hdN s + 2)) (by omega))
  rw [List.take_of_length_le (l := s.drop (hdN s + 2)) (by simp)] at F2
  obtain ⟨Z, hZ⟩ : ∃ Z : World → Prop, Z = fun W => BySl W (.slice (some ⟨b, off, none⟩) s.length cap) s := ⟨_, rfl⟩
  have F1 : ∀ W, Z W → _ := fun W hb => F1 W (by rw [hZ] at hb; exact hb)
  have F2 : ∀ W, Z W → _ := fun W hb => F2 W (by rw [hZ] at hb; exact hb)
  have hgo : ∀ W, BySl W (.slice (some ⟨b, off, none⟩) s.length cap) s → Z W := fun W hb => by rw [hZ]; exact hb
  clear hZ
  have HF1 := Nm.hide F1
  have HF2 := Nm.hide F2
  have HGO := Nm.hide hgo
  clear F1 F2 hgo
  generalize (⟨(s.take 2).toArray⟩ : ByteArray) = S2 at *
  generalize (s.drop 2).take (hdN s) = T1 at *
  generalize s.drop (hdN s + 2) = T2 at *
  generalize hdN s = n at *
  generalize s.length = m at *
  have hge : (n : Int) ≤ (m : Int) - 2 := by omega
  have hk : 2 ≤ m := by omega
  have hw := fun k => Go.below_drewN (Below.refl w.heap.size w) k
  clear h
  by_cases hcp : cap = 2
  · subst hcp
    obtain rfl : m = 2 := by omega
    obtain rfl : n = 0 := by omega
    go_enter Try.func15, Try.ntmps15
    go_wp2_with (go_at_call 18; refine (hrb _).mono ?_; rintro e w2 ⟨rfl, rfl⟩)
    go_quiet (fail)
    go_wp2
    go_ret3
    refine ⟨_, _, rfl, fun W hb => ⟨?_, ?_⟩, hw _⟩
    · have := HF1.out W (HGO.out W hb)
      rw [cfV, if_pos rfl] at this
      exact this
    · have := HF2.out W (HGO.out W hb)
      rw [cfV, if_pos rfl] at this
      exact this
  · by_cases hcq : cap = n + 2
    · subst hcq
      obtain rfl : m = n + 2 := by omega
      have HN2 : Hid (¬ n + 2 = 2) := hcp
      go_enter Try.func15, Try.ntmps15
      go_wp2_with (go_at_call 18; refine (hrb _).mono ?_; rintro e w2 ⟨rfl, rfl⟩)
      go_quiet (fail)
      go_wp2
      go_ret3
      refine ⟨_, _, rfl, fun W hb => ⟨?_, ?_⟩, hw _⟩
      · have := HF1.out W (HGO.out W hb)
        rw [cfV, if_neg HN2.out, Nat.add_sub_cancel] at this
        exact this
      · rw [HT2.out trivial]
        exact ⟨by simp [Nm.bys], _, _, rfl, by simp, by simp [maxLen], fun h => by simp at h⟩
    · go_enter Try.func15, Try.ntmps15
      go_wp2_with (go_at_call 18; refine (hrb _).mono ?_; rintro e w2 ⟨rfl, rfl⟩)
      go_quiet (fail)
      go_wp2
      go_ret3
      refine ⟨_, _, rfl, fun W hb => ⟨?_, ?_⟩, hw _⟩
      · have := HF1.out W (HGO.out W hb)
        rw [cfV, if_neg hcp] at this
        exact this
      · have := HF2.out W (HGO.out W hb)
        rw [cfV, if_neg hcq] at this
        simp only [Option.map_some, Nm.addr_add] at this
        rw [show off + (n + 2) = off + 2 + n by omega, show m - (n + 2) = m - 2 - n by omega, show cap - (n + 2) = cap - 2 - n by omega] at this
        exact this
end Go.Proofs.Ytlgeeidbclnhbaa
