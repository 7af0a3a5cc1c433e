import Derived.Test.YthhagapmcbkeiaaJRtW
import Derived.Test.YthhagapmcbkeiaaJMvM
import Derived.Test.YthhagapmcbkeiaaJMath
/- (*reader).head by its contract. -/
namespace Go.Proofs.Ythhagapmcbkeiaa
open Go.RowKit
set_option linter.unusedVariables false

theorem rd_blk {w : World} {g p : Nat} {v : Value} (h : Rd w g v p) : Blk w g #[v, .int .i64 p] 64 := h

/-- The counts of which k are read. -/
def ctK (l : List UInt8) (k : Nat) : Array Value := #[.int .i64 (if 0 < k then n16 l 4 else 0), .int .i64 (if 1 < k then n16 l 6 else 0), .int .i64 (if 2 < k then n16 l 8 else 0), .int .i64 (if 3 < k then n16 l 10 else 0)]

theorem rd_drew {w : World} {g p : Nat} {v : Value} (h : Rd w g v p) : Rd w.drew g v p := h

/-- What is so once a head and its counts are laid into two variables. -/
structure Laid2 (w W : World) (g : Nat) (V : Value) (p d f : Nat) (cs : Array Value) (T U : TypeId) : Prop where
  rd : Rd W g V p
  grown : w.grownBy W (some g)
  one : Blk W w.heap.size (hdA d f) T
  two : Blk W (w.heap.size + 1) cs U

theorem laid2 {w W : World} {g p d f : Nat} {V : Value} {T U : TypeId} (h : Rd W g V p) (hg : w.grownBy W (some g)) (hlt : g < w.heap.size) (h1 : Blk W w.heap.size hd0 T) (h2 : Blk W (w.heap.size + 1) ct0 U) (m0 m1 m2 m3 : Int) :
    Laid2 w (setAll (setAll W w.heap.size 0 (hdA d f).toList) (w.heap.size + 1) 0 [.int .i64 m0, .int .i64 m1, .int .i64 m2, .int .i64 m3]) g V p d f #[.int .i64 m0, .int .i64 m1, .int .i64 m2, .int .i64 m3] T U := by
  have n1 : g ≠ w.heap.size := by omega
  have n2 : g ≠ w.heap.size + 1 := by omega
  refine ⟨setAll_far n2 _ _ _ (setAll_far n1 _ _ _ (rd_blk h)), setAll_grown (by omega) _ _ _ (setAll_grown (Nat.le_refl _) _ _ _ hg), setAll_far (by omega) _ _ _ ?_, setAll_new _ (setAll_far (by omega) _ _ _ h2) rfl⟩
  have := setAll_new (hdA d f).toList h1 rfl
  simpa using this

theorem Laid2.drew {w W : World} {g p d f : Nat} {V : Value} {T U : TypeId} {cs : Array Value} (h : Laid2 w W g V p d f cs T U) : Laid2 w W.drew g V p d f cs T U := ⟨rd_drew h.rd, grown_drew h.grown, blk_drew h.one, blk_drew h.two⟩

/-- A head and its counts are handed back out of their variables. -/
theorem head_back {w W : World} {g p d f : Nat} {V : Value} {cs : Array Value} {R : Ending → World → Prop} {a : Act} (h : Laid2 w W g V p d f cs 34 97)
    (hc : ∃ m0 m1 m2 m3 : Value, cs = #[m0, m1, m2, m3])
    (h2 : a.tmps[2]? = some (.pointer (some ⟨w.heap.size, 0, none⟩))) (h3 : a.tmps[3]? = some (.pointer (some ⟨w.heap.size + 1, 0, none⟩))) (hd : a.defers = [])
    (hR : R (.returned (.tuple #[.agg (hdA d f), .agg cs])) W) : bodyPost Try.prog Try.f38 R .ret a W := by
  obtain ⟨m0, m1, m2, m3, rfl⟩ := hc
  refine bodyPost_ret ?_ hd hR
  have r := fun i => blk_cell h.one i
  have q := fun i => blk_cell h.two i
  simp only [hdA] at r
  simp [results, Try.results38, go_sem, Result.andThen, r, q, h2, h3, hdA]

theorem ctK_at (l : List UInt8) {k : Nat} (h : k < 4) : (ctK l k)[k]? = some (.int .i64 0) := by
  rcases k with _ | _ | _ | _ | k
  · rfl
  · rfl
  · rfl
  · rfl
  · omega

theorem ctK_step (l : List UInt8) {k : Nat} (h : k < 4) : (ctK l k).setIfInBounds k (.int .i64 (n16 l (4 + 2 * k))) = ctK l (k + 1) := by
  rcases k with _ | _ | _ | _ | k
  · rfl
  · rfl
  · rfl
  · rfl
  · omega

set_option maxRecDepth 100000 in
set_option maxHeartbeats 3200000 in
theorem head_any (g : Nat) (a : Option Addr) (l : List UInt8) (cap : Nat) (w : World) (h : Rd w g (.slice a l.length cap) 0) (hfar : ∀ w', w.grownBy w' (some g) → BySl w' (.slice a l.length cap) l) (hnn : l.length ≤ 1048576) :
    Calls Try.prog 38 #[.pointer (some ⟨g, 0, none⟩)] w fun e w' =>
      (12 ≤ l.length ∧ e = .returned (.tuple #[.agg (hdA (n16 l 0) (n16 l 2)), .agg (ctA l)]) ∧ Rd w' g (.slice a l.length cap) 12 ∧ w.grownBy w' (some g)) ∨
      (l.length < 12 ∧ e = .panicked (fault 8) ∧ w.grownBy w' (some g)) := by
  have hnum := fun (p : Nat) W (hr : Rd W g (.slice a l.length cap) p) (hg : w.grownBy W (some g)) (hp : p ≤ l.length) => number_any g a l cap p 2 W hr (hfar W hg) (fun W2 hW2 => hfar W2 (hgr_step hg hW2)) hp hnn (by decide)
  have hglt := blk_lt (rd_blk h)
  by_cases hlong : 12 ≤ l.length
  · have hok := fun (p : Nat) W hr hg (hp : p + 2 ≤ l.length) => (hnum p W hr hg (by omega)).mono (R' := fun e w' => e = .returned (.int .i64 (n16 l p)) ∧ Rd w' g (.slice a l.length cap) (p + 2) ∧ W.grownBy w' (some g)) (by
      rintro e w' (⟨_, h1, h2, h3⟩ | ⟨h1, _⟩)
      · exact ⟨h1, h2, h3⟩
      · omega)
    have hA := blk_alloc (blk_new w hd0 34) (.cells ct0 97)
    have hB := blk_new (w.alloc (.cells hd0 34)) ct0 97
    have hbe : Below w.heap.size w ((w.alloc (.cells hd0 34)).alloc (.cells ct0 97)) := ((Below.refl _ _).alloc (Nat.le_refl _) _).alloc (by simp) _
    have hrd := (show Rd _ g _ 0 from blk_below (rd_blk h) hbe)
    have hgr := hgr_below (World.grownBy.refl w (some g)) hbe
    have e1 : (w.alloc (.cells hd0 34)).heap.size = w.heap.size + 1 := by simp
    rw [e1] at hB
    simp only [hd0, ct0] at hA hB hbe hrd hgr
    go_enter Try.func38, Try.ntmps38
    go_wp2_with fail
    refine (hok 0 _ hrd hgr (by omega)).mono ?_
    rintro e w1 ⟨rfl, hr1, hg1⟩
    have hA1 := blk_grown hA hg1 (by simp; omega)
    have hB1 := blk_grown hB hg1 (by simp; omega)
    have hgr1 := hgr_step hgr hg1
    have hs1 := hgr1.size
    clear hA hB hbe hrd hgr hg1 e1
    go_wp2_with fail
    refine (hok 2 _ hr1 hgr1 (by omega)).mono ?_
    rintro e w2 ⟨rfl, hr2, hg2⟩
    have hA2 := blk_alloc (blk_grown hA1 hg2 (by simp; omega)) (.cells ct0 97)
    have hB2 := blk_alloc (blk_grown hB1 hg2 (by simp; omega)) (.cells ct0 97)
    have hC2 := blk_new w2 ct0 97
    have hgr2 := hgr_below (hgr_step hgr1 hg2) ((Below.refl _ _).alloc (Nat.le_refl _) (.cells ct0 97))
    have hr2' := (show Rd _ g _ 4 from blk_alloc (rd_blk hr2) (.cells ct0 97))
    have hlt2 : w.heap.size + 2 ≤ w2.heap.size := by have := blk_lt (blk_grown hB1 hg2 (by simp; omega)); omega
    simp only [ct0] at hA2 hB2 hC2 hgr2 hr2'
    generalize hd : n16 l 0 = d at *
    generalize hf : n16 l 2 = f at *
    clear hA1 hB1 hr1 hgr1 hs1 hr2 hg2
    go_wp2
    go_loopw [12] (fun vi wr => ∃ k : Nat, k ≤ 4 ∧ vi = .int .i64 k ∧ Rd wr g (.slice a l.length cap) (4 + 2 * k) ∧ w.grownBy wr (some g) ∧ Blk wr w.heap.size hd0 34 ∧ Blk wr (w.heap.size + 1) ct0 97 ∧ Blk wr w2.heap.size (ctK l k) 97)
      (fun vi _ => 4 - (intOf vi).toNat)
    case atStart => exact ⟨0, by decide, rfl, hr2', hgr2, hA2, hB2, hC2⟩
    case round =>
      obtain ⟨k, hk, rfl, hrk, hgk, hAk, hBk, hCk⟩ := hrel
      clear hA2 hB2 hC2 hgr2 hr2'
      by_cases hlt : k < 4
      · have hlt' : (k : Int) < 4 := by omega
        have hz := blk_cell hCk k
        rw [ctK_at l hlt] at hz
        have hfz := blk_frozen hCk k
        have hk1 := hok (4 + 2 * k) wr hrk hgk (by omega)
        have HS : Hid (∀ W, wr.grownBy W (some g) → Rd W g (.slice a l.length cap) (4 + 2 * k + 2) → W.cell? ⟨w2.heap.size, k, none⟩ = some (.int .i64 0) ∧ W.frozen? ⟨w2.heap.size, k, none⟩ = false ∧
            (Rd (W.setCell ⟨w2.heap.size, k, none⟩ (.int .i64 (n16 l (4 + 2 * k)))) g (.slice a l.length cap) (4 + 2 * (k + 1)) ∧ w.grownBy (W.setCell ⟨w2.heap.size, k, none⟩ (.int .i64 (n16 l (4 + 2 * k)))) (some g) ∧ Blk (W.setCell ⟨w2.heap.size, k, none⟩ (.int .i64 (n16 l (4 + 2 * k)))) w.heap.size hd0 34 ∧ Blk (W.setCell ⟨w2.heap.size, k, none⟩ (.int .i64 (n16 l (4 + 2 * k)))) (w.heap.size + 1) ct0 97 ∧ Blk (W.setCell ⟨w2.heap.size, k, none⟩ (.int .i64 (n16 l (4 + 2 * k)))) w2.heap.size (ctK l (k + 1)) 97)) := by
          intro W hW hr
          have hC := blk_grown hCk hW (by simp; omega)
          refine ⟨(blk_cell hC k).trans (ctK_at l hlt), blk_frozen hC k, blk_far (rd_blk hr) (by omega), hgr_set (hgr_step hgk hW) (by omega), blk_far (blk_grown hAk hW (by simp; omega)) (by omega), blk_far (blk_grown hBk hW (by simp; omega)) (by omega), ?_⟩
          rw [← ctK_step l hlt]
          exact blk_set hC k _
        clear hz hfz hAk hBk hCk hgk hrk
        generalize n16 l (4 + 2 * k) = m at *
        go_wp2_with (go_at_call 51; refine hk1.mono ?_; rintro e w3 ⟨rfl, hr3, hg3⟩; obtain ⟨q1, q2, q3⟩ := HS.out w3 hg3 hr3; have HQ := Nm.hide q3; clear q3)
        go_roundw
        case rel => exact ⟨k + 1, by omega, by go_num, HQ.out⟩
        case measure => simp [intOf]; omega
      · have hk4 : k = 4 := by omega
        subst hk4
        have e4 : ctK l 4 = ctA l := by simp [ctK, ctA]
        rw [e4] at hCk
        simp only [ctA, ct0, hd0] at hAk hBk hCk
        have q0 := blk_cell hCk 0
        have q1 := blk_cell hCk 1
        have q2 := blk_cell hCk 2
        have q3 := blk_cell hCk 3
        have p0 := fun i => blk_frozen hAk i
        have p1 := fun i => blk_frozen hBk i
        have r0 := fun i => blk_cell hAk i
        have r1 := fun i => blk_cell hBk i
        have hfl := n16_lt l 2
        rw [hf] at hfl
        have b15 := flag_and f 15 hfl (by decide) 32768 rfl
        have b10 := flag_and f 10 hfl (by decide) 1024 rfl
        have b9 := flag_and f 9 hfl (by decide) 512 rfl
        have b8 := flag_and f 8 hfl (by decide) 256 rfl
        have b7 := flag_and f 7 hfl (by decide) 128 rfl
        have b6 := flag_and f 6 hfl (by decide) 64 rfl
        have b5 := flag_and f 5 hfl (by decide) 32 rfl
        have b4 := flag_and f 4 hfl (by decide) 16 rfl
        have b3 := and_15 f hfl
        have b2 : bits .and .i64 ((f : Int) / 2048) 15 = ((f / 2048 % 16 : Nat) : Int) := and_15 (f / 2048) (by omega)
        have HL := Nm.hide (laid2 (p := 12) (d := d) (f := f) hrk hgk hglt hAk hBk (n16 l 4) (n16 l 6) (n16 l 8) (n16 l 10)).drew
        simp only [hdA, setAll, Int.natCast_emod, Int.natCast_ediv, Nat.reduceAdd, Nat.zero_add] at HL
        clear hAk hBk hCk
        go_wp2
        go_region
        go_wp2
        refine head_back HL.out ⟨_, _, _, _, rfl⟩ rfl rfl rfl ?_
        refine .inl ⟨hlong, ?_, HL.out.rd, HL.out.grown⟩
        rw [hd, hf]; rfl
  · have hshort : l.length < 12 := by omega
    have hA := blk_alloc (blk_new w hd0 34) (.cells ct0 97)
    have hbe : Below w.heap.size w ((w.alloc (.cells hd0 34)).alloc (.cells ct0 97)) := ((Below.refl _ _).alloc (Nat.le_refl _) _).alloc (by simp) _
    have hrd := (show Rd _ g _ 0 from blk_below (rd_blk h) hbe)
    have hgr := hgr_below (World.grownBy.refl w (some g)) hbe
    simp only [hd0, ct0] at hA hbe hrd hgr
    go_enter Try.func38, Try.ntmps38
    go_wp2_with fail
    refine (hnum 0 _ hrd hgr (by omega)).mono ?_
    rintro e w1 (⟨hl1, rfl, hr1, hg1⟩ | ⟨_, rfl, hg1⟩)
    rotate_left 1
    · refine bp_panic rfl ?_
      exact .inr ⟨hshort, rfl, hgr_step hgr hg1⟩
    have hgr1 := hgr_step hgr hg1
    have hs1 := hgr1.size
    clear hA hbe hrd hgr hg1
    go_wp2_with fail
    refine (hnum 2 _ hr1 hgr1 (by omega)).mono ?_
    rintro e w2 (⟨hl2, rfl, hr2, hg2⟩ | ⟨_, rfl, hg2⟩)
    rotate_left 1
    · refine bp_panic rfl ?_
      exact .inr ⟨hshort, rfl, hgr_step hgr1 hg2⟩
    have hC2 := blk_new w2 ct0 97
    have hgr2 := hgr_below (hgr_step hgr1 hg2) ((Below.refl _ _).alloc (Nat.le_refl _) (.cells ct0 97))
    have hr2' := (show Rd _ g _ 4 from blk_alloc (rd_blk hr2) (.cells ct0 97))
    have hlt2 : w.heap.size ≤ w2.heap.size := (hgr_step hgr1 hg2).size
    simp only [ct0] at hC2 hgr2 hr2'
    clear hr1 hgr1 hs1 hr2 hg2
    go_wp2
    go_loopw [12] (fun vi wr => ∃ k : Nat, k ≤ 4 ∧ 4 + 2 * k ≤ l.length ∧ vi = .int .i64 k ∧ Rd wr g (.slice a l.length cap) (4 + 2 * k) ∧ w.grownBy wr (some g) ∧ Blk wr w2.heap.size (ctK l k) 97)
      (fun vi _ => 4 - (intOf vi).toNat)
    case atStart => exact ⟨0, by decide, by omega, rfl, hr2', hgr2, hC2⟩
    case round =>
      obtain ⟨k, hk, hkl, rfl, hrk, hgk, hCk⟩ := hrel
      clear hC2 hgr2 hr2'
      have hlt : k < 4 := by omega
      have hlt' : (k : Int) < 4 := by omega
      have hk1 := hnum (4 + 2 * k) wr hrk hgk hkl
      have HS : Hid (∀ W, wr.grownBy W (some g) → Rd W g (.slice a l.length cap) (4 + 2 * k + 2) → W.cell? ⟨w2.heap.size, k, none⟩ = some (.int .i64 0) ∧ W.frozen? ⟨w2.heap.size, k, none⟩ = false ∧
          (Rd (W.setCell ⟨w2.heap.size, k, none⟩ (.int .i64 (n16 l (4 + 2 * k)))) g (.slice a l.length cap) (4 + 2 * (k + 1)) ∧ w.grownBy (W.setCell ⟨w2.heap.size, k, none⟩ (.int .i64 (n16 l (4 + 2 * k)))) (some g) ∧ Blk (W.setCell ⟨w2.heap.size, k, none⟩ (.int .i64 (n16 l (4 + 2 * k)))) w2.heap.size (ctK l (k + 1)) 97)) := by
        intro W hW hr
        have hC := blk_grown hCk hW (by simp; omega)
        refine ⟨(blk_cell hC k).trans (ctK_at l hlt), blk_frozen hC k, blk_far (rd_blk hr) (by omega), hgr_set (hgr_step hgk hW) (by omega), ?_⟩
        rw [← ctK_step l hlt]
        exact blk_set hC k _
      have HG : Hid (∀ W, wr.grownBy W (some g) → w.grownBy W (some g)) := by exact fun W hW => hgr_step hgk hW
      clear hCk hgk hrk
      change Calls _ _ _ _ (fun e w' => (_ ∧ e = .returned (.int .i64 (n16 l (4 + 2 * k))) ∧ _ ∧ _) ∨ _) at hk1
      generalize n16 l (4 + 2 * k) = m at *
      go_wp2_with fail
      refine hk1.mono ?_
      rintro e w3 (⟨hl3, rfl, hr3, hg3⟩ | ⟨_, rfl, hg3⟩)
      rotate_left 1
      · go_wp2
        refine bp_panic rfl ?_
        exact .inr ⟨hshort, rfl, HG.out _ hg3⟩
      obtain ⟨q1, q2, q3⟩ := HS.out w3 hg3 hr3
      have HQ := Nm.hide q3
      clear q3
      go_wp2
      go_roundw
      case rel => exact ⟨k + 1, by omega, by omega, by go_num, HQ.out⟩
      case measure => simp [intOf]; omega
end Go.Proofs.Ythhagapmcbkeiaa
