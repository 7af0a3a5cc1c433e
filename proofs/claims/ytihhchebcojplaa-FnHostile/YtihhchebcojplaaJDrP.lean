import Derived.Test.YtihhchebcojplaaJDrD
import Derived.Handy
import Derived.Test.YtihhchebcojplaaJWtW
/- spec.l01Begin by its contract, and a source just made (Draw6 and SrcMade, without the names' draws). -/
namespace Go.Proofs.Ytihhchebcojplaa
open Go.RowKit

/-- The bytes that a slice shows lie there. -/
def CodeIn (w : World) (a : Option Addr) (n : Nat) : Prop :=
  n = 0 ∨ ∃ b off, a = some ⟨b, off, none⟩ ∧ ∀ i, i < n → ∃ c : Int, w.cell? ⟨b, off + i, none⟩ = some (.int .u8 c) ∧ 0 ≤ c ∧ c < 256

/-- What l01Begin holds from round to round: its result's block and its variable's. -/
def Beg (w wr : World) (a : Option Addr) (n cap : Nat) (st : Int) : Prop :=
  wr.heap[w.heap.size]? = some (.cells #[.slice none 0 0, .int .i64 0, .int .u64 0] 38 (0, 0)) ∧
  wr.heap[w.heap.size + 1]? = some (.cells #[.slice a n cap, .int .i64 0, .int .u64 st] 38 (0, 0)) ∧ Below w.heap.size w wr

theorem beg_set {w wr : World} {a : Option Addr} {n cap : Nat} {st : Int} (h : Beg w wr a n cap st) (s2 : Int) : Beg w (wr.setCell ⟨w.heap.size + 1, 2, none⟩ (.int .u64 s2)) a n cap s2 := by
  obtain ⟨h1, h2, h3⟩ := h
  refine ⟨?_, ?_, h3.setCell (by simp) _⟩
  · rw [heap_setCell_other wr ⟨w.heap.size + 1, 2, none⟩ w.heap.size _ (by simp)]; exact h1
  · rw [heap_setCell_same wr (w.heap.size + 1) 2 _ _ _ h2]; rfl

theorem beg_drew {w wr : World} {a : Option Addr} {n cap : Nat} {st : Int} (h : Beg w wr a n cap st) : Beg w wr.drew a n cap st := ⟨h.1, h.2.1, h.2.2.drew⟩

set_option maxRecDepth 100000 in
set_option maxHeartbeats 400000 in
theorem l01Begin_any (a : Option Addr) (n cap : Nat) (w : World) (h : CodeIn w a n) (hn : n ≤ 1048576) :
    Calls Try.prog 9 #[.slice a n cap] w fun e w' => ∃ st : Int, e = .returned (.agg #[.slice a n cap, .int .i64 0, .int .u64 st]) ∧ Below w.heap.size w w' := by
  go_enter Try.func9, Try.ntmps9
  go_wp2
  go_loopw [4] (fun i wr => ∃ (k : Nat) (st : Int), k ≤ n ∧ i = .int .i64 k ∧ Beg w wr a n cap st) (fun i _ => n - (intOf i).toNat)
  case atStart =>
    refine ⟨0, 1469598103934665603, Nat.zero_le _, rfl, ?_, ?_, ((Below.refl _ _).alloc (Nat.le_refl _) _).alloc (by simp) _⟩
    · exact ((MapKept.heap_alloc (w.alloc _) _).2 _ (by simp)).trans (heap_alloc_new w _)
    · have := heap_alloc_new (w.alloc (.cells #[.slice none 0 0, .int .i64 0, .int .u64 0] 38 (0, 0))) (.cells #[.slice a n cap, .int .i64 0, .int .u64 1469598103934665603] 38 (0, 0)); rw [World.size_alloc] at this; exact this
  case round =>
    obtain ⟨k, st, hk, rfl, hbeg⟩ := hrel
    have HB := fun s2 => Nm.hide (beg_set hbeg s2)
    have HB0 := Nm.hide hbeg.2.2
    obtain ⟨hb0, hb1, hbel⟩ := hbeg
    have c0 := cell_of_row wr (w.heap.size + 1) 0 _ _ _ hb1
    have c1 := cell_of_row wr (w.heap.size + 1) 1 _ _ _ hb1
    have c2 := cell_of_row wr (w.heap.size + 1) 2 _ _ _ hb1
    have f2 := frozen_of_row wr (w.heap.size + 1) 2 _ _ hb1
    have e0 := cell_of_row wr w.heap.size 0 _ _ _ hb0
    have e1 := cell_of_row wr w.heap.size 1 _ _ _ hb0
    have e2 := cell_of_row wr w.heap.size 2 _ _ _ hb0
    have g0 := frozen_of_row wr w.heap.size 0 _ _ hb0
    have g1 := frozen_of_row wr w.heap.size 1 _ _ hb0
    have g2 := frozen_of_row wr w.heap.size 2 _ _ hb0
    simp at c0 c1 c2 e0 e1 e2
    by_cases hlt : k < n
    · obtain ⟨b, off, rfl, hcode⟩ := h.resolve_left (by omega)
      obtain ⟨c, hc, hc0, hc1⟩ := hcode k hlt
      have hbl := World.block_lt_of_cell? w _ hc
      have hcr := (hbel.cell hbl).trans hc
      clear hb0 hb1 hbel hcode hc h
      go_wp2
      go_region
      go_wp2
      go_roundw
      case rel => exact ⟨k + 1, _, by omega, by go_num, beg_drew (HB _).out⟩
      case measure => simp [intOf]; omega
    · have hke : k = n := by omega
      subst hke
      clear hb0 hb1 hbel h
      have r0 := fun v => World.cell?_setCell_same wr ⟨w.heap.size, 0, none⟩ v e0
      have r1 := fun u v => World.cell?_setCell_same (wr.setCell ⟨w.heap.size, 0, none⟩ u) ⟨w.heap.size, 1, none⟩ v ((World.cell?_setCell_other wr ⟨w.heap.size, 0, none⟩ ⟨w.heap.size, 1, none⟩ u (by simp)).trans e1)
      have r2 := fun t u v => World.cell?_setCell_same ((wr.setCell ⟨w.heap.size, 0, none⟩ t).setCell ⟨w.heap.size, 1, none⟩ u) ⟨w.heap.size, 2, none⟩ v ((World.cell?_setCell_other _ ⟨w.heap.size, 1, none⟩ ⟨w.heap.size, 2, none⟩ u (by simp)).trans ((World.cell?_setCell_other wr ⟨w.heap.size, 0, none⟩ ⟨w.heap.size, 2, none⟩ t (by simp)).trans e2))
      go_wp2
      refine bodyPost_ret (v := .agg #[.slice a k cap, .int .i64 0, .int .u64 st]) ?_ rfl ⟨st, rfl, ((HB0.out.setCell (Nat.le_refl _) _).setCell (Nat.le_refl _) _).setCell (Nat.le_refl _) _⟩
      simp [results, Try.results9, go_sem, r0, r1, r2, Result.andThen]

theorem code_below {w w1 : World} {a : Option Addr} {n : Nat} (h : CodeIn w a n) (hb : Below w.heap.size w w1) : CodeIn w1 a n := by
  rcases h with h | ⟨b, off, e, hc⟩
  · exact .inl h
  · refine .inr ⟨b, off, e, fun j hj => ?_⟩
    obtain ⟨c, hc1, hc2⟩ := hc j hj
    exact ⟨c, (hb.cell (World.block_lt_of_cell? w _ hc1)).trans hc1, hc2⟩

theorem code_at {w w1 : World} {a : Option Addr} {n : Nat} (h : CodeIn w a n) (hb : Below w.heap.size w w1) : CodeAt w1 w.heap.size a n := by
  rcases h with h | ⟨b, off, e, hc⟩
  · exact .inl h
  · rcases Nat.eq_zero_or_pos n with hn | hn
    · exact .inl hn
    refine .inr ⟨b, off, e, ?_, fun j hj => ?_⟩
    · obtain ⟨c, hc1, _⟩ := hc 0 hn
      have : b < w.heap.size := World.block_lt_of_cell? w _ hc1
      omega
    · obtain ⟨c, hc1, hc2⟩ := hc j hj
      exact ⟨c, (hb.cell (World.block_lt_of_cell? w _ hc1)).trans hc1, hc2⟩

theorem src_made {w : World} {a : Option Addr} {n cap : Nat} (h : CodeIn w a n) (hn : n ≤ 1048576) (st : Int) :
    Src (w.alloc (.cells #[.slice a n cap, .int .i64 0, .int .u64 st] 38 (0, 0))) w.heap.size a n cap :=
  ⟨0, st, heap_alloc_new w _, Int.le_refl _, Int.natCast_nonneg _, hn, code_at h ((Below.refl _ _).alloc (Nat.le_refl _) _)⟩
end Go.Proofs.Ytihhchebcojplaa
/- spec.DrawDecode by its contract: some bytes, in a row of their own. -/
namespace Go.Proofs.Ytihhchebcojplaa
open Go.RowKit
set_option linter.unusedVariables false

def slLenD : Value → Nat
  | .slice _ k _ => k
  | _ => 0

set_option maxRecDepth 100000 in
set_option maxHeartbeats 1600000 in
theorem drawDecode_any (a : Option Addr) (n cap : Nat) (w : World) (h : CodeIn w a n) (hn : n ≤ 1048576) :
    Calls Try.prog 4 #[.slice a n cap] w fun e w' => ∃ (v : Value) (L : List UInt8), e = .returned v ∧ w'.ownsRow w.heap.size 5 1 v L.length (Nm.bys L) ∧ L.length ≤ 50000001 ∧ Below w.heap.size w w' := by
  obtain ⟨j0, hj, k0, k1, k2⟩ := info_parts Try.infoU8d
  go_enter Try.func4, Try.ntmps4
  go_wp2_with fail
  refine (l01Begin_any a n cap _ h hn).mono ?_
  rintro e w1 ⟨st, rfl, hb1⟩
  have HS := src_made (cap := cap) (code_below h hb1) hn st
  have HB := hb1.alloc hb1.size (.cells #[.slice a n cap, .int .i64 0, .int .u64 st] 38 (0, 0))
  obtain ⟨g, hge⟩ : ∃ g, g = w1.heap.size := ⟨_, rfl⟩
  have hgw : w.heap.size ≤ g := by have := hb1.size; omega
  go_wp2_with fail
  rw [← hge] at HS ⊢
  clear hge
  refine (l04DrawMessage_any g a n cap _ HS).mono ?_
  rintro e w2 ⟨m, q, va, u, x, rfl, hM, m1, m2, m3, m4, m5, m6, hs2, hg2⟩
  have hmg : mgW m := ⟨m6, m1, m2, m3, m4, m5⟩
  have HB2 := HB.grown hg2 HB.size (fun k hk => by simp at hk; omega)
  clear hb1 HB HS hg2 m1 m2 m3 m4 m5 m6 h
  go_wp2_with fail
  refine (l04Write_w m q va u x _ hM.read (mgW_small hmg) hmg).mono ?_
  rintro e w3 ⟨v, rfl, hown, hb3⟩
  have hlen := msgW_lenW hmg
  generalize (msgW m).1 = L at *
  have hs3 := src_below hs2 hb3
  have hcd := src_code hs2
  have hw2 : w.heap.size ≤ w2.heap.size := HB2.size
  have HB3 := HB2.trans (hb3.mono hw2)
  have hw3 := hb3.size
  obtain ⟨og, oc, rfl⟩ := own_form hown (by omega)
  clear hM hb3 hs2 HB2 hmg
  go_wp2_with fail
  refine (l01Next_any g a n cap 3 _ hs3 (by decide)).mono ?_
  rintro e w4 ⟨r3, rfl, h30, h31, hs4, hg4⟩
  have hown4 := hown.kept hg4 (row_src hown hs3 (by decide))
  have HB4 := HB3.grown hg4 HB3.size (fun k hk => by simp at hk; omega)
  have hw4 : w2.heap.size ≤ w4.heap.size := Nat.le_trans hw3 hg4.size
  clear hown hs3 HB3 hg4 h31 hw3
  by_cases hz3 : r3 = 0
  · subst hz3
    go_wp2_with fail
    refine (l04Bend_any g a n cap _ og oc L _ hs4 hown4 hlen.1 hlen.2).mono ?_
    rintro e w5 ⟨v5, M5, rfl, hown5, hl5, ⟨o5, c5, rfl⟩, hs5, hg5⟩
    replace hown5 := own_baseD hown5 hw4
    have HB5 := HB4.grown hg5 HB4.size (fun k hk => by simp at hk; omega)
    have hw5 : w2.heap.size ≤ w5.heap.size := Nat.le_trans hw4 hg5.size
    clear hown4 hs4 HB4 hg5 hlen hw4
    go_wp2_with fail
    refine (l01Next_any g a n cap 40 _ hs5 (by decide)).mono ?_
    rintro e w6 ⟨r6, rfl, h60, h61, hs6, hg6⟩
    have hown6 := hown5.kept hg6 (row_src hown5 hs5 (by decide))
    have HB6 := HB5.grown hg6 HB5.size (fun k hk => by simp at hk; omega)
    have hz6 := hg6.size
    have hw6 : w2.heap.size ≤ w6.heap.size := by omega
    clear hown5 hs5 hg6 HB5 h61 hz6
    by_cases hz : r6 = 0
    · subst hz
      go_wp2_with fail
      go_loopw [4] (fun v wr => ∃ M : List UInt8, wr.ownsRow w2.heap.size 5 1 v M.length (Nm.bys M) ∧ M.length ≤ 50000001 ∧ Src wr g a n cap ∧ Below w.heap.size w wr ∧ w2.heap.size ≤ wr.heap.size) (fun v _ => 65536 - slLenD v)
      case atStart => exact ⟨_, hown6, by omega, hs6, HB6, hw6⟩
      case round =>
        obtain ⟨M, hown, hMl, hsr, HBr, hwr⟩ := hrel
        clear hown6 hs6 HB6 hw6
        obtain ⟨o7, c7, rfl⟩ := own_sl hown
        by_cases hlt : M.length ≤ 65535
        · have hlt' : (M.length : Int) ≤ 65535 := by omega
          go_wp2_with (at_builtin; refine wpList_append_own _ rfl (.tmp 18) (.tmp 19) 22 rfl w2.heap.size 5 j0 (.int .u8 0) 1 1 Try.underlying22 hj k0 k1 k2 rfl (by decide) _ _ _ rfl (hown.alloc _) ⟨wr.heap.size, 0, none⟩ 1 1 [.int .u8 ((0 : UInt8).toNat : Int)] rfl rfl (cell_one_new _ _ _) (Nm.one_cell _ rfl) (by unfold maxLen; omega) (by omega) (by simp; omega) ?_; intro vb wb hown8 hgrow8 hnl8; clear hnl8; have hrow : ∀ q, Value.ownBlock _ = some q → w2.heap.size ≤ q := fun q hq => (hown.lt q hq).1; have hs8 := src_grown (w0 := w2) (src_below hsr ((Below.refl _ _).alloc (Nat.le_refl _) _)) hgrow8 hrow hcd.2 hcd.1; have HB8 := (HBr.alloc HBr.size _).grown hgrow8 (HBr.alloc HBr.size _).size (fun k hk => Nat.le_trans hw2 (hrow k hk)); have hz8 := hgrow8.size; rw [Nm.bys_mark, ← Nm.bys_append] at hown8; clear hgrow8 hown)
          have hl8 : (M ++ [0]).length = M.length + 1 := by simp
          have hz9 : w2.heap.size ≤ wb.heap.size := by simp at hz8; omega
          obtain ⟨o9, c9, rfl⟩ := own_sl hown8
          go_roundw
          case rel => exact ⟨M ++ [0], by rw [hl8]; exact hown8, by omega, hs8, HB8, hz9⟩
          case measure => simp only [slLenD]; omega
        · have hge' : ¬ ((M.length : Int) ≤ 65535) := by omega
          obtain ⟨o9, c9, e9⟩ := own_form hown (by omega)
          obtain ⟨rfl, rfl⟩ : o7 = some ⟨o9, 0, none⟩ ∧ c7 = c9 := by simp at e9; exact e9
          clear e9
          obtain ⟨hnc, hcm⟩ := own_cap hown
          go_wp2_with fail
          refine (l01Next_any g a n cap 2 _ hsr (by decide)).mono ?_
          rintro e w9 ⟨r9, rfl, h90, h91, hs9, hg9⟩
          have h92 := h91 (by decide)
          have hown9 := hown.kept hg9 (row_src hown hsr (by decide))
          have HB9 := HBr.grown hg9 HBr.size (fun k hk => by simp at hk; omega)
          clear hown hsr hg9 HBr h91
          rcases (by omega : r9 = 0 ∨ r9 = 1) with rfl | rfl
          · have hownA := own_pre (k := 65535) hown9 (by omega)
            rw [bys_take] at hownA
            have hpl : (M.take 65535).length = 65535 := by simp; omega
            go_wp2
            go_ret
            exact ⟨_, M.take 65535, rfl, by rw [hpl]; exact own_baseD hownA hw2, by omega, HB9⟩
          · have hownA := own_pre (k := 65536) hown9 (by omega)
            rw [bys_take] at hownA
            have hpl : (M.take 65536).length = 65536 := by simp; omega
            go_wp2
            go_ret
            exact ⟨_, M.take 65536, rfl, by rw [hpl]; exact own_baseD hownA hw2, by omega, HB9⟩
    · have hz' : (r6 == 0) = false := by rw [beq_eq_false_iff_ne]; exact hz
      go_wp2
      go_ret
      exact ⟨_, _, rfl, own_baseD hown6 hw2, by omega, HB6⟩
  · have hz3' : (r3 == 0) = false := by rw [beq_eq_false_iff_ne]; exact hz3
    obtain ⟨w5, hw5e⟩ : ∃ w5, w5 = w4 := ⟨_, rfl⟩
    subst hw5e
    have hown5 := hown4
    have HB5 := HB4
    have hs5 := hs4
    have hw5 := hw4
    clear hown4 HB4 hs4 hw4
    have hl5 : L.length ≤ 50000001 := by omega
    go_wp2_with fail
    refine (l01Next_any g a n cap 40 _ hs5 (by decide)).mono ?_
    rintro e w6 ⟨r6, rfl, h60, h61, hs6, hg6⟩
    have hown6 := hown5.kept hg6 (row_src hown5 hs5 (by decide))
    have HB6 := HB5.grown hg6 HB5.size (fun k hk => by simp at hk; omega)
    have hz6 := hg6.size
    have hw6 : w2.heap.size ≤ w6.heap.size := by omega
    clear hown5 hs5 hg6 HB5 h61 hz6
    by_cases hz : r6 = 0
    · subst hz
      go_wp2_with fail
      go_loopw [4] (fun v wr => ∃ M : List UInt8, wr.ownsRow w2.heap.size 5 1 v M.length (Nm.bys M) ∧ M.length ≤ 50000001 ∧ Src wr g a n cap ∧ Below w.heap.size w wr ∧ w2.heap.size ≤ wr.heap.size) (fun v _ => 65536 - slLenD v)
      case atStart => exact ⟨_, hown6, by omega, hs6, HB6, hw6⟩
      case round =>
        obtain ⟨M, hown, hMl, hsr, HBr, hwr⟩ := hrel
        clear hown6 hs6 HB6 hw6
        obtain ⟨o7, c7, rfl⟩ := own_sl hown
        by_cases hlt : M.length ≤ 65535
        · have hlt' : (M.length : Int) ≤ 65535 := by omega
          go_wp2_with (at_builtin; refine wpList_append_own _ rfl (.tmp 18) (.tmp 19) 22 rfl w2.heap.size 5 j0 (.int .u8 0) 1 1 Try.underlying22 hj k0 k1 k2 rfl (by decide) _ _ _ rfl (hown.alloc _) ⟨wr.heap.size, 0, none⟩ 1 1 [.int .u8 ((0 : UInt8).toNat : Int)] rfl rfl (cell_one_new _ _ _) (Nm.one_cell _ rfl) (by unfold maxLen; omega) (by omega) (by simp; omega) ?_; intro vb wb hown8 hgrow8 hnl8; clear hnl8; have hrow : ∀ q, Value.ownBlock _ = some q → w2.heap.size ≤ q := fun q hq => (hown.lt q hq).1; have hs8 := src_grown (w0 := w2) (src_below hsr ((Below.refl _ _).alloc (Nat.le_refl _) _)) hgrow8 hrow hcd.2 hcd.1; have HB8 := (HBr.alloc HBr.size _).grown hgrow8 (HBr.alloc HBr.size _).size (fun k hk => Nat.le_trans hw2 (hrow k hk)); have hz8 := hgrow8.size; rw [Nm.bys_mark, ← Nm.bys_append] at hown8; clear hgrow8 hown)
          have hl8 : (M ++ [0]).length = M.length + 1 := by simp
          have hz9 : w2.heap.size ≤ wb.heap.size := by simp at hz8; omega
          obtain ⟨o9, c9, rfl⟩ := own_sl hown8
          go_roundw
          case rel => exact ⟨M ++ [0], by rw [hl8]; exact hown8, by omega, hs8, HB8, hz9⟩
          case measure => simp only [slLenD]; omega
        · have hge' : ¬ ((M.length : Int) ≤ 65535) := by omega
          obtain ⟨o9, c9, e9⟩ := own_form hown (by omega)
          obtain ⟨rfl, rfl⟩ : o7 = some ⟨o9, 0, none⟩ ∧ c7 = c9 := by simp at e9; exact e9
          clear e9
          obtain ⟨hnc, hcm⟩ := own_cap hown
          go_wp2_with fail
          refine (l01Next_any g a n cap 2 _ hsr (by decide)).mono ?_
          rintro e w9 ⟨r9, rfl, h90, h91, hs9, hg9⟩
          have h92 := h91 (by decide)
          have hown9 := hown.kept hg9 (row_src hown hsr (by decide))
          have HB9 := HBr.grown hg9 HBr.size (fun k hk => by simp at hk; omega)
          clear hown hsr hg9 HBr h91
          rcases (by omega : r9 = 0 ∨ r9 = 1) with rfl | rfl
          · have hownA := own_pre (k := 65535) hown9 (by omega)
            rw [bys_take] at hownA
            have hpl : (M.take 65535).length = 65535 := by simp; omega
            go_wp2
            go_ret
            exact ⟨_, M.take 65535, rfl, by rw [hpl]; exact own_baseD hownA hw2, by omega, HB9⟩
          · have hownA := own_pre (k := 65536) hown9 (by omega)
            rw [bys_take] at hownA
            have hpl : (M.take 65536).length = 65536 := by simp; omega
            go_wp2
            go_ret
            exact ⟨_, M.take 65536, rfl, by rw [hpl]; exact own_baseD hownA hw2, by omega, HB9⟩
    · have hz' : (r6 == 0) = false := by rw [beq_eq_false_iff_ne]; exact hz
      go_wp2
      go_ret
      exact ⟨_, _, rfl, own_baseD hown6 hw2, by omega, HB6⟩
end Go.Proofs.Ytihhchebcojplaa
