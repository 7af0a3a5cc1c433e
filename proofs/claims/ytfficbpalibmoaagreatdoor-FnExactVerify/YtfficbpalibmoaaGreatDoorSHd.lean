import Derived.Test.YtfficbpalibmoaaGreatDoorJHd1
import Derived.Test.YtfficbpalibmoaaGreatDoorJSCheck
/- spec.DecodeHead by its contract. -/
namespace Go.Proofs.YtfficbpalibmoaaGreatDoor
open Go.RowKit
set_option linter.unusedVariables false

set_option maxRecDepth 100000 in
set_option maxHeartbeats 400000 in
theorem l04Bit_any (f i : Nat) (hf : f < 65536) (hi : i < 16) (w : World) :
    Calls Tryz.prog 60 #[.int .i64 f, .int .i64 i] w fun e w' => e = .returned (.bool (f.testBit i)) ∧ w' = w := by
  have h := flag_shr f i hf
  have hi' : (i : Int) < 16 := by omega
  have e : ((f / 2 ^ i : Nat) : Int) = (f : Int) / 2 ^ i := by rw [Int.natCast_ediv]; simp
  rw [e] at h
  go_enter Tryz.func60, Tryz.ntmps60
  go_wp2
  go_ret
  exact ⟨by simp, rfl⟩

theorem cut12 (l : List UInt8) (i : Nat) (h : 12 ≤ l.length) (hi : i + 2 ≤ 12) : ((ByteArray.mk (l.take 12).toArray).extract i (i + 2)).data.toList = (l.drop i).take 2 := by
  simp [ByteArray.data_extract]
  rw [List.drop_take, List.take_take, Nat.min_eq_left (by omega)]

theorem row12 {w : World} {a : Option Addr} {l : List UInt8} {cap : Nat} (h : BySl w (.slice a l.length cap) l) (hl : 12 ≤ l.length) : CRow w (.slice a 12 cap) 12 1 (Nm.bys (l.take 12)) := by
  obtain ⟨_, a', cap', e, h1, h2, h3⟩ := h
  simp only [Value.slice.injEq] at e
  obtain ⟨rfl, _, rfl⟩ := e
  refine ⟨by rw [Nm.bys_length]; simp; omega, a, cap, rfl, by omega, h2, fun _ => ?_⟩
  obtain ⟨b, off, rfl, hc⟩ := h3 (by omega)
  refine ⟨b, off, rfl, fun i x hx => ?_⟩
  refine hc i x ?_
  have e : Nm.bys (l.take 12) = (Nm.bys l).take 12 := by simp [Nm.bys]
  rw [e, List.getElem?_take] at hx
  split at hx
  · exact hx
  · cases hx

/-- The three variables of the model's DecodeHead. -/
structure M3 (w W : World) (c0 c1 c2 : Array Value) : Prop where
  b0 : Blk W w.heap.size c0 42
  b1 : Blk W (w.heap.size + 1) c1 74
  b2 : Blk W (w.heap.size + 1 + 1) c2 74
  be : Below w.heap.size w W

theorem M3.below {w W W2 : World} {c0 c1 c2 : Array Value} (h : M3 w W c0 c1 c2) (hb : Below W.heap.size W W2) : M3 w W2 c0 c1 c2 :=
  ⟨blk_below h.b0 hb, blk_below h.b1 hb, blk_below h.b2 hb, h.be.trans (hb.mono h.be.size)⟩

theorem M3.lay {w W : World} {c0 c1 c2 : Array Value} (h : M3 w W c0 c1 c2) (v0 v1 : List Value) (h0 : c0.size = v0.length) (h1 : c1.size = v1.length) :
    M3 w (setAll (setAll W w.heap.size 0 v0) (w.heap.size + 1) 0 v1) v0.toArray v1.toArray c2 :=
  ⟨setAll_far (by omega) _ _ _ (setAll_new _ h.b0 h0), setAll_new _ (setAll_far (by omega) _ _ _ h.b1) h1, setAll_far (by omega) _ _ _ (setAll_far (by omega) _ _ _ h.b2), setAll_below (by omega) _ _ _ (setAll_below (Nat.le_refl _) _ _ _ h.be)⟩

theorem M3.set {w W : World} {c0 c1 c2 : Array Value} (h : M3 w W c0 c1 c2) (i : Nat) (v : Value) : M3 w (W.setCell ⟨w.heap.size + 1 + 1, i, none⟩ v) c0 c1 (c2.setIfInBounds i v) :=
  ⟨blk_far h.b0 (by omega), blk_far h.b1 (by omega), blk_set h.b2 i v, h.be.setCell (by simp; omega) _⟩

theorem M3.drew {w W : World} {c0 c1 c2 : Array Value} (h : M3 w W c0 c1 c2) : M3 w W.drew c0 c1 c2 := ⟨h.b0, h.b1, h.b2, h.be.drew⟩

theorem m3_new (w : World) : M3 w (((w.alloc (.cells hd0 42)).alloc (.cells ct0 74)).alloc (.cells ct0 74)) hd0 ct0 ct0 := by
  have e1 : (w.alloc (.cells hd0 42)).heap.size = w.heap.size + 1 := by simp
  have e2 : ((w.alloc (.cells hd0 42)).alloc (.cells ct0 74)).heap.size = w.heap.size + 1 + 1 := by simp
  refine ⟨blk_alloc (blk_alloc (blk_new w hd0 _) _) _, ?_, ?_, (((Below.refl _ _).alloc (Nat.le_refl _) _).alloc (by simp) _).alloc (by simp; omega) _⟩
  · have := blk_alloc (blk_new (w.alloc (.cells hd0 42)) ct0 74) (.cells ct0 74)
    rw [e1] at this; exact this
  · have := blk_new ((w.alloc (.cells hd0 42)).alloc (.cells ct0 74)) ct0 74
    rw [e2] at this; exact this

/-- .. and its head's. -/
structure M4 (w W : World) (c0 c1 c2 c3 : Array Value) : Prop extends M3 w W c0 c1 c2 where
  b3 : Blk W (w.heap.size + 1 + 1 + 1) c3 42

theorem M4.new {w : World} {c0 c1 c2 : Array Value} (h : M3 w (((w.alloc (.cells hd0 42)).alloc (.cells ct0 74)).alloc (.cells ct0 74)) c0 c1 c2) (c3 : Array Value) :
    M4 w ((((w.alloc (.cells hd0 42)).alloc (.cells ct0 74)).alloc (.cells ct0 74)).alloc (.cells c3 42)) c0 c1 c2 c3 := by
  refine ⟨h.below ((Below.refl _ _).alloc (Nat.le_refl _) _), ?_⟩
  have := blk_new (((w.alloc (.cells hd0 42)).alloc (.cells ct0 74)).alloc (.cells ct0 74)) c3 42
  have e3 : (((w.alloc (.cells hd0 42)).alloc (.cells ct0 74)).alloc (.cells ct0 74)).heap.size = w.heap.size + 1 + 1 + 1 := by simp
  rw [e3] at this
  exact this

theorem M4.set {w W : World} {c0 c1 c2 c3 : Array Value} (h : M4 w W c0 c1 c2 c3) (i : Nat) (v : Value) : M4 w (W.setCell ⟨w.heap.size + 1 + 1, i, none⟩ v) c0 c1 (c2.setIfInBounds i v) c3 :=
  ⟨h.toM3.set i v, blk_far h.b3 (by omega)⟩

/-- The model's head and counts are handed back out of their variables. -/
theorem shead_back {w W : World} {c0 c1 c2 : Array Value} {R : Ending → World → Prop} {a : Act} {code : Int} (h : M3 w W c0 c1 c2)
    (hc0 : ∃ x0 x1 x2 x3 x4 x5 x6 x7 x8 x9 x10 : Value, c0 = #[x0, x1, x2, x3, x4, x5, x6, x7, x8, x9, x10]) (hc1 : ∃ m0 m1 m2 m3 : Value, c1 = #[m0, m1, m2, m3])
    (h2 : a.tmps[2]? = some (.pointer (some ⟨w.heap.size, 0, none⟩))) (h3 : a.tmps[3]? = some (.pointer (some ⟨w.heap.size + 1, 0, none⟩))) (h4 : a.tmps[4]? = some (.int .i64 code)) (hd : a.defers = [])
    (hR : R (.returned (.tuple #[.agg c0, .agg c1, .int .i64 code])) W) : bodyPost Tryz.prog Tryz.f38 R .ret a W := by
  obtain ⟨m0, m1, m2, m3, rfl⟩ := hc1
  obtain ⟨x0, x1, x2, x3, x4, x5, x6, x7, x8, x9, x10, rfl⟩ := hc0
  refine bodyPost_ret ?_ hd hR
  have r := fun i => blk_cell h.b0 i
  have q := fun i => blk_cell h.b1 i
  simp [results, Tryz.results38, go_sem, Result.andThen, r, q, h2, h3, h4]

set_option maxRecDepth 100000 in
set_option maxHeartbeats 3200000 in
theorem specDecodeHead_any (v : Value) (l : List UInt8) (w : World) (h : BySl w v l) (hl : l.length ≤ 1048576) :
    Calls Tryz.prog 38 #[v] w fun e w' => e = .returned (dhV l) ∧ Below w.heap.size w w' := by
  have hby := h
  obtain ⟨hbl, a, cap, rfl, hcap, hmx, hc⟩ := h
  have M0 := m3_new w
  have M00 := M0
  simp only [hd0, ct0] at M0
  clear hc
  by_cases hlong : 12 ≤ l.length
  · have HV : Hid (dhV l = .tuple #[.agg (hdA (n16 l 0) (n16 l 2)), .agg (ctA l), .int .i64 0]) := if_pos hlong
    have hlt' : (12 : Int) ≤ (l.length : Int) := by omega
    have hcv := fun W (hB : Below w.heap.size w W) => cut_str (row12 (hby.below hB) hlong)
    have hs : (ByteArray.mk (l.take 12).toArray).size = 12 := by
      show (l.take 12).toArray.size = 12
      simp; omega
    have hn := fun i (hi : i + 2 ≤ 12) W => l02Num_any ((ByteArray.mk (l.take 12).toArray).extract i (i + 2)) W (by rw [ByteArray.size_extract, hs]; omega)
    have hn' : ∀ i (hi : i + 2 ≤ 12) W, Calls Tryz.prog 25 #[.string ((ByteArray.mk (l.take 12).toArray).extract i (i + 2))] W fun e w' => e = .returned (.int .i64 (n16 l i)) ∧ w' = W := by
      intro i hi W
      have := hn i hi W
      rw [cut12 l i hlong hi] at this
      exact this
    clear hn
    generalize (ByteArray.mk (l.take 12).toArray) = s at *
    have hf := n16_lt l 2
    have hbt := fun i (hi : i < 16) W => l04Bit_any (n16 l 2) i hf hi W
    have b3 := and_15 (n16 l 2) hf
    have b2 : bits .and .i64 ((n16 l 2 : Int) / 2048) 15 = ((n16 l 2 / 2048 % 16 : Nat) : Int) := and_15 (n16 l 2 / 2048) (by omega)
    have hcv0 := hcv _ M0.be
    go_enter Tryz.func38, Tryz.ntmps38
    go_wp2_with fail
    refine (hn' 2 (by decide) _).mono ?_
    rintro e w1 ⟨rfl, rfl⟩
    go_wp2_with fail
    refine (hn' 0 (by decide) _).mono ?_
    rintro e w1 ⟨rfl, rfl⟩
    go_wp2_with fail
    refine (hbt 15 (by decide) _).mono ?_
    rintro e w1 ⟨rfl, rfl⟩
    go_wp2_with fail
    refine (hbt 10 (by decide) _).mono ?_
    rintro e w1 ⟨rfl, rfl⟩
    go_wp2_with fail
    refine (hbt 9 (by decide) _).mono ?_
    rintro e w1 ⟨rfl, rfl⟩
    go_wp2_with fail
    refine (hbt 8 (by decide) _).mono ?_
    rintro e w1 ⟨rfl, rfl⟩
    go_wp2_with fail
    refine (hbt 7 (by decide) _).mono ?_
    rintro e w1 ⟨rfl, rfl⟩
    go_wp2_with fail
    refine (hbt 6 (by decide) _).mono ?_
    rintro e w1 ⟨rfl, rfl⟩
    go_wp2_with fail
    refine (hbt 5 (by decide) _).mono ?_
    rintro e w1 ⟨rfl, rfl⟩
    go_wp2_with fail
    refine (hbt 4 (by decide) _).mono ?_
    rintro e w1 ⟨rfl, rfl⟩
    go_wp2
    have M1 := M4.new M00 (hdA (n16 l 0) (n16 l 2))
    simp only [hd0, ct0, hdA, Int.natCast_emod, Int.natCast_ediv] at M1
    refine gen_world (Pr := fun W => M4 w W _ _ _ _) (G := fun W => Code.wp _ _ _ _ W) M1 ?_
    clear M0 M00 M1 hcv hcv0 hbt
    intro W M1
    generalize hop : ((n16 l 2 : Nat) : Int) / 2048 % 16 = op at *
    go_loopw [9] (fun vi wr => ∃ k : Nat, k ≤ 4 ∧ vi = .int .i64 k ∧ M4 w wr hd0 ct0 (ctK l k) #[.int .i64 (n16 l 0), .bool ((n16 l 2).testBit 15), .int .i64 op, .bool ((n16 l 2).testBit 10), .bool ((n16 l 2).testBit 9), .bool ((n16 l 2).testBit 8), .bool ((n16 l 2).testBit 7), .bool ((n16 l 2).testBit 6), .bool ((n16 l 2).testBit 5), .bool ((n16 l 2).testBit 4), .int .i64 ((n16 l 2 : Int) % 16)])
      (fun vi _ => 4 - (intOf vi).toNat)
    case atStart => exact ⟨0, by decide, rfl, M1⟩
    case round =>
      obtain ⟨k, hk, rfl, Mk⟩ := hrel
      clear M1
      by_cases hlt : k < 4
      · have hlt' : (k : Int) < 4 := by omega
        have hk1 := hn' (4 + 2 * k) (by omega)
        have hc := (blk_cell Mk.b2 k).trans (ctK_at l hlt)
        have hz := blk_frozen Mk.b2 k
        have HM := Nm.hide (Mk.set k (.int .i64 (n16 l (4 + 2 * k))))
        rw [ctK_step l hlt] at HM
        have e6 : 4 + 2 * k + 2 = 6 + 2 * k := by omega
        rw [e6] at hk1
        generalize n16 l (4 + 2 * k) = m at *
        clear Mk
        go_wp2_with (go_at_call 25; refine (hk1 _).mono ?_; rintro e w1 ⟨rfl, rfl⟩)
        go_roundw
        case rel => exact ⟨k + 1, by omega, by go_num, HM.out⟩
        case measure => simp [intOf]; omega
      · have hk4 : k = 4 := by omega
        subst hk4
        have e4 : ctK l 4 = ctA l := by simp [ctK, ctA]
        rw [e4] at Mk
        simp only [ctA, ct0, hd0] at Mk
        have r0 := fun i => blk_cell Mk.b0 i
        have r1 := fun i => blk_cell Mk.b1 i
        have r2 := fun i => blk_cell Mk.b2 i
        have r3 := fun i => blk_cell Mk.b3 i
        have f0 := fun i => blk_frozen Mk.b0 i
        have f1 := fun i => blk_frozen Mk.b1 i
        have HL := Nm.hide ((Mk.lay [.int .i64 (n16 l 0), .bool ((n16 l 2).testBit 15), .int .i64 op, .bool ((n16 l 2).testBit 10), .bool ((n16 l 2).testBit 9), .bool ((n16 l 2).testBit 8), .bool ((n16 l 2).testBit 7), .bool ((n16 l 2).testBit 6), .bool ((n16 l 2).testBit 5), .bool ((n16 l 2).testBit 4), .int .i64 ((n16 l 2 : Int) % 16)] [.int .i64 (n16 l 4), .int .i64 (n16 l 6), .int .i64 (n16 l 8), .int .i64 (n16 l 10)] rfl rfl).drew)
        simp only [setAll, Nat.reduceAdd, Nat.zero_add] at HL
        clear Mk
        go_wp2
        go_region
        go_wp2
        refine shead_back HL.out ⟨_, _, _, _, _, _, _, _, _, _, _, rfl⟩ ⟨_, _, _, _, rfl⟩ rfl rfl rfl rfl ?_
        rw [HV.out]
        exact ⟨by simp [hdA, ctA, ← hop], HL.out.be⟩
  · have HV : Hid (dhV l = .tuple #[.agg hd0, .agg ct0, .int .i64 8]) := if_neg hlong
    have hlt' : (l.length : Int) < 12 := by omega
    go_enter Tryz.func38, Tryz.ntmps38
    go_wp2
    refine gen_world (Pr := fun W => M3 w W _ _ _) (G := fun W => Code.wp _ _ _ _ W) M0 ?_
    clear M0
    intro W M0
    have HL := Nm.hide ((M0.lay hd0.toList ct0.toList rfl rfl).drew)
    simp only [setAll, Nat.reduceAdd, Nat.zero_add, hd0, ct0] at HL
    have r0 := fun i => blk_cell M0.b0 i
    have r1 := fun i => blk_cell M0.b1 i
    have r2 := fun i => blk_cell M0.b2 i
    have f0 := fun i => blk_frozen M0.b0 i
    have f1 := fun i => blk_frozen M0.b1 i
    clear M0
    go_region
    go_wp2
    refine shead_back HL.out ⟨_, _, _, _, _, _, _, _, _, _, _, rfl⟩ ⟨_, _, _, _, rfl⟩ rfl rfl rfl rfl ?_
    rw [HV.out]
    exact ⟨rfl, HL.out.be⟩
end Go.Proofs.YtfficbpalibmoaaGreatDoor
