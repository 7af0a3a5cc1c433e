import Derived.Test.YtihhchebcojplaaJHd3
import Derived.Test.YtihhchebcojplaaJSDt
import Derived.Deep.RegionHeld3
/- spec.DecodeHead by its contract. -/
namespace Go.Proofs.Ytihhchebcojplaa
open Go.RowKit
set_option linter.unusedVariables false

set_option maxRecDepth 100000 in
set_option maxHeartbeats 400000 in
theorem l04Bit_any (f i : Nat) (hf : f < 65536) (hi : i < 16) (w : World) :
    Calls Try.prog 53 #[.int .i64 f, .int .i64 i] w fun e w' => e = .returned (.bool (f.testBit i)) ∧ w' = w := by
  have h := flag_shr f i hf
  have hi' : (i : Int) < 16 := by omega
  have e : ((f / 2 ^ i : Nat) : Int) = (f : Int) / 2 ^ i := by rw [Int.natCast_ediv]; simp
  rw [e] at h
  go_enter Try.func53, Try.ntmps53
  go_wp2
  go_ret
  exact ⟨by simp, rfl⟩

theorem cut12 (l : List UInt8) (i : Nat) (h : 12 ≤ l.length) (hi : i + 2 ≤ 12) : ((ByteArray.mk (l.take 12).toArray).extract i (i + 2)).data.toList = (l.drop i).take 2 := by
  simp [ByteArray.data_extract]
  rw [List.drop_take, List.take_take, Nat.min_eq_left (by omega)]

theorem row12 {w : World} {a : Option Addr} {l : List UInt8} {cap : Nat} (h : BySl w (.slice a l.length cap) l) (hl : 12 ≤ l.length) : CRow w (.slice a 12 cap) 12 1 (Nm.bys (l.take 12)) := by
  obtain ⟨_, a', cap', e, h1, h2, h3⟩ := h
  simp only [Value.slice.injEq] at e
  obtain ⟨rfl, _, rfl⟩ := e
  refine ⟨by rw [Nm.bys_length]; simp; omega, a, cap, rfl, by omega, h2, fun _ => ?_⟩
  obtain ⟨b, off, rfl, hc⟩ := h3 (by omega)
  refine ⟨b, off, rfl, fun i x hx => ?_⟩
  refine hc i x ?_
  have e : Nm.bys (l.take 12) = (Nm.bys l).take 12 := by simp [Nm.bys]
  rw [e, List.getElem?_take] at hx
  split at hx
  · exact hx
  · cases hx

/-- The three variables of the model's DecodeHead. -/
structure M3 (w W : World) (c0 c1 c2 : Array Value) : Prop where
  b0 : Blk W w.heap.size c0 25
  b1 : Blk W (w.heap.size + 1) c1 59
  b2 : Blk W (w.heap.size + 1 + 1) c2 59
  be : Below w.heap.size w W

theorem M3.below {w W W2 : World} {c0 c1 c2 : Array Value} (h : M3 w W c0 c1 c2) (hb : Below W.heap.size W W2) : M3 w W2 c0 c1 c2 :=
  ⟨blk_below h.b0 hb, blk_below h.b1 hb, blk_below h.b2 hb, h.be.trans (hb.mono h.be.size)⟩

theorem M3.lay {w W : World} {c0 c1 c2 : Array Value} (h : M3 w W c0 c1 c2) (v0 v1 : List Value) (h0 : c0.size = v0.length) (h1 : c1.size = v1.length) :
    M3 w (setAll (setAll W w.heap.size 0 v0) (w.heap.size + 1) 0 v1) v0.toArray v1.toArray c2 :=
  ⟨setAll_far (by omega) _ _ _ (setAll_new _ h.b0 h0), setAll_new _ (setAll_far (by omega) _ _ _ h.b1) h1, setAll_far (by omega) _ _ _ (setAll_far (by omega) _ _ _ h.b2), setAll_below (by omega) _ _ _ (setAll_below (Nat.le_refl _) _ _ _ h.be)⟩

theorem M3.set {w W : World} {c0 c1 c2 : Array Value} (h : M3 w W c0 c1 c2) (i : Nat) (v : Value) : M3 w (W.setCell ⟨w.heap.size + 1 + 1, i, none⟩ v) c0 c1 (c2.setIfInBounds i v) :=
  ⟨blk_far h.b0 (by omega), blk_far h.b1 (by omega), blk_set h.b2 i v, h.be.setCell (by simp; omega) _⟩

theorem M3.drew {w W : World} {c0 c1 c2 : Array Value} (h : M3 w W c0 c1 c2) : M3 w W.drew c0 c1 c2 := ⟨h.b0, h.b1, h.b2, h.be.drew⟩

theorem m3_new (w : World) : M3 w (((w.alloc (.cells hd0 25)).alloc (.cells ct0 59)).alloc (.cells ct0 59)) hd0 ct0 ct0 := by
  have e1 : (w.alloc (.cells hd0 25)).heap.size = w.heap.size + 1 := by simp
  have e2 : ((w.alloc (.cells hd0 25)).alloc (.cells ct0 59)).heap.size = w.heap.size + 1 + 1 := by simp
  refine ⟨blk_alloc (blk_alloc (blk_new w hd0 _) _) _, ?_, ?_, (((Below.refl _ _).alloc (Nat.le_refl _) _).alloc (by simp) _).alloc (by simp; omega) _⟩
  · have := blk_alloc (blk_new (w.alloc (.cells hd0 25)) ct0 59) (.cells ct0 59)
    rw [e1] at this; exact this
  · have := blk_new ((w.alloc (.cells hd0 25)).alloc (.cells ct0 59)) ct0 59
    rw [e2] at this; exact this

/-- .. and its head's. -/
structure M4 (w W : World) (c0 c1 c2 c3 : Array Value) : Prop extends M3 w W c0 c1 c2 where
  b3 : Blk W (w.heap.size + 1 + 1 + 1) c3 25

theorem M4.new {w : World} {c0 c1 c2 : Array Value} (h : M3 w (((w.alloc (.cells hd0 25)).alloc (.cells ct0 59)).alloc (.cells ct0 59)) c0 c1 c2) (c3 : Array Value) :
    M4 w ((((w.alloc (.cells hd0 25)).alloc (.cells ct0 59)).alloc (.cells ct0 59)).alloc (.cells c3 25)) c0 c1 c2 c3 := by
  refine ⟨h.below ((Below.refl _ _).alloc (Nat.le_refl _) _), ?_⟩
  have := blk_new (((w.alloc (.cells hd0 25)).alloc (.cells ct0 59)).alloc (.cells ct0 59)) c3 25
  have e3 : (((w.alloc (.cells hd0 25)).alloc (.cells ct0 59)).alloc (.cells ct0 59)).heap.size = w.heap.size + 1 + 1 + 1 := by simp
  rw [e3] at this
  exact this

theorem M4.set {w W : World} {c0 c1 c2 c3 : Array Value} (h : M4 w W c0 c1 c2 c3) (i : Nat) (v : Value) : M4 w (W.setCell ⟨w.heap.size + 1 + 1, i, none⟩ v) c0 c1 (c2.setIfInBounds i v) c3 :=
  ⟨h.toM3.set i v, blk_far h.b3 (by omega)⟩

/-- The model's head and counts are handed back out of their variables. -/
theorem shead_back {w W : World} {c0 c1 c2 : Array Value} {R : Ending → World → Prop} {a : Act} {code : Int} (h : M3 w W c0 c1 c2)
    (hc0 : ∃ x0 x1 x2 x3 x4 x5 x6 x7 x8 x9 x10 : Value, c0 = #[x0, x1, x2, x3, x4, x5, x6, x7, x8, x9, x10]) (hc1 : ∃ m0 m1 m2 m3 : Value, c1 = #[m0, m1, m2, m3])
    (h2 : a.tmps[2]? = some (.pointer (some ⟨w.heap.size, 0, none⟩))) (h3 : a.tmps[3]? = some (.pointer (some ⟨w.heap.size + 1, 0, none⟩))) (h4 : a.tmps[4]? = some (.int .i64 code)) (hd : a.defers = [])
    (hR : R (.returned (.tuple #[.agg c0, .agg c1, .int .i64 code])) W) : bodyPost Try.prog Try.f29 R .ret a W := by
  obtain ⟨m0, m1, m2, m3, rfl⟩ := hc1
  obtain ⟨x0, x1, x2, x3, x4, x5, x6, x7, x8, x9, x10, rfl⟩ := hc0
  refine bodyPost_ret ?_ hd hR
  have r := fun i => blk_cell h.b0 i
  have q := fun i => blk_cell h.b1 i
  simp [results, Try.results29, go_sem, Result.andThen, r, q, h2, h3, h4]

set_option maxRecDepth 100000 in
set_option maxHeartbeats 3200000 in
theorem specDecodeHead_any (v : Value) (l : List UInt8) (w : World) (h : BySl w v l) (hl : l.length ≤ 1048576) :
    Calls Try.prog 29 #[v] w fun e w' => e = .returned (dhV l) ∧ Below w.heap.size w w' := by
  have hby := h
  obtain ⟨hbl, a, cap, rfl, hcap, hmx, hc⟩ := h
  have M0 := m3_new w
  have M00 := M0
  simp only [hd0, ct0] at M0
  clear hc
  by_cases hlong : 12 ≤ l.length
  · have HV : Hid (dhV l = .tuple #[.agg (hdA (n16 l 0) (n16 l 2)), .agg (ctA l), .int .i64 0]) := if_pos hlong
    have hlt' : (12 : Int) ≤ (l.length : Int) := by omega
    have hcv := fun W (hB : Below w.heap.size w W) => cut_str (row12 (hby.below hB) hlong)
    have hs : (ByteArray.mk (l.take 12).toArray).size = 12 := by
      show (l.take 12).toArray.size = 12
      simp; omega
    have hn := fun i (hi : i + 2 ≤ 12) W => l02Num_any ((ByteArray.mk (l.take 12).toArray).extract i (i + 2)) W (by rw [ByteArray.size_extract, hs]; omega)
    have hn' : ∀ i (hi : i + 2 ≤ 12) W, Calls Try.prog 31 #[.string ((ByteArray.mk (l.take 12).toArray).extract i (i + 2))] W fun e w' => e = .returned (.int .i64 (n16 l i)) ∧ w' = W := by
      intro i hi W
      have := hn i hi W
      rw [cut12 l i hlong hi] at this
      exact this
    clear hn
    generalize (ByteArray.mk (l.take 12).toArray) = s at *
    have hf := n16_lt l 2
    have hbt := fun i (hi : i < 16) W => l04Bit_any (n16 l 2) i hf hi W
    have b3 := and_15 (n16 l 2) hf
    have b2 : bits .and .i64 ((n16 l 2 : Int) / 2048) 15 = ((n16 l 2 / 2048 % 16 : Nat) : Int) := and_15 (n16 l 2 / 2048) (by omega)
    have hcv0 := hcv _ M0.be
    go_enter Try.func29, Try.ntmps29
    go_wp2_with fail
    refine (hn' 2 (by decide) _).mono ?_
    rintro e w1 ⟨rfl, rfl⟩
    go_wp2_with fail
    refine (hn' 0 (by decide) _).mono ?_
    rintro e w1 ⟨rfl, rfl⟩
    go_wp2_with fail
    refine (hbt 15 (by decide) _).mono ?_
    rintro e w1 ⟨rfl, rfl⟩
    go_wp2_with fail
    refine (hbt 10 (by decide) _).mono ?_
    rintro e w1 ⟨rfl, rfl⟩
    go_wp2_with fail
    refine (hbt 9 (by decide) _).mono ?_
    rintro e w1 ⟨rfl, rfl⟩
    go_wp2_with fail
    refine (hbt 8 (by decide) _).mono ?_
    rintro e w1 ⟨rfl, rfl⟩
    go_wp2_with fail
    refine (hbt 7 (by decide) _).mono ?_
    rintro e w1 ⟨rfl, rfl⟩
    go_wp2_with fail
    refine (hbt 6 (by decide) _).mono ?_
    rintro e w1 ⟨rfl, rfl⟩
    go_wp2_with fail
    refine (hbt 5 (by decide) _).mono ?_
    rintro e w1 ⟨rfl, rfl⟩
    go_wp2_with fail
    refine (hbt 4 (by decide) _).mono ?_
    rintro e w1 ⟨rfl, rfl⟩
    go_wp2
    have M1 := M4.new M00 (hdA (n16 l 0) (n16 l 2))
    simp only [hd0, ct0, hdA, Int.natCast_emod, Int.natCast_ediv] at M1
    refine gen_world (Pr := fun W => M4 w W _ _ _ _) (G := fun W => Code.wp _ _ _ _ W) M1 ?_
    clear M0 M00 M1 hcv hcv0 hbt
    intro W M1
    generalize hop : ((n16 l 2 : Nat) : Int) / 2048 % 16 = op at *
    go_loopw [9] (fun vi wr => ∃ k : Nat, k ≤ 4 ∧ vi = .int .i64 k ∧ M4 w wr hd0 ct0 (ctK l k) #[.int .i64 (n16 l 0), .bool ((n16 l 2).testBit 15), .int .i64 op, .bool ((n16 l 2).testBit 10), .bool ((n16 l 2).testBit 9), .bool ((n16 l 2).testBit 8), .bool ((n16 l 2).testBit 7), .bool ((n16 l 2).testBit 6), .bool ((n16 l 2).testBit 5), .bool ((n16 l 2).testBit 4), .int .i64 ((n16 l 2 : Int) % 16)])
      (fun vi _ => 4 - (intOf vi).toNat)
    case atStart => exact ⟨0, by decide, rfl, M1⟩
    case round =>
      obtain ⟨k, hk, rfl, Mk⟩ := hrel
      clear M1
      by_cases hlt : k < 4
      · have hlt' : (k : Int) < 4 := by omega
        have hk1 := hn' (4 + 2 * k) (by omega)
        have hc := (blk_cell Mk.b2 k).trans (ctK_at l hlt)
        have hz := blk_frozen Mk.b2 k
        have HM := Nm.hide (Mk.set k (.int .i64 (n16 l (4 + 2 * k))))
        rw [ctK_step l hlt] at HM
        have e6 : 4 + 2 * k + 2 = 6 + 2 * k := by omega
        rw [e6] at hk1
        generalize n16 l (4 + 2 * k) = m at *
        clear Mk
        go_wp2_with (go_at_call 31; refine (hk1 _).mono ?_; rintro e w1 ⟨rfl, rfl⟩)
        go_roundw
        case rel => exact ⟨k + 1, by omega, by go_num, HM.out⟩
        case measure => simp [intOf]; omega
      · have hk4 : k = 4 := by omega
        subst hk4
        have e4 : ctK l 4 = ctA l := by simp [ctK, ctA]
        rw [e4] at Mk
        simp only [ctA, ct0, hd0] at Mk
        have r0 := fun i => blk_cell Mk.b0 i
        have r1 := fun i => blk_cell Mk.b1 i
        have r2 := fun i => blk_cell Mk.b2 i
        have r3 := fun i => blk_cell Mk.b3 i
        have f0 := fun i => blk_frozen Mk.b0 i
        have f1 := fun i => blk_frozen Mk.b1 i
        have HL := Nm.hide ((Mk.lay [.int .i64 (n16 l 0), .bool ((n16 l 2).testBit 15), .int .i64 op, .bool ((n16 l 2).testBit 10), .bool ((n16 l 2).testBit 9), .bool ((n16 l 2).testBit 8), .bool ((n16 l 2).testBit 7), .bool ((n16 l 2).testBit 6), .bool ((n16 l 2).testBit 5), .bool ((n16 l 2).testBit 4), .int .i64 ((n16 l 2 : Int) % 16)] [.int .i64 (n16 l 4), .int .i64 (n16 l 6), .int .i64 (n16 l 8), .int .i64 (n16 l 10)] rfl rfl).drew)
        simp only [setAll, Nat.reduceAdd, Nat.zero_add] at HL
        clear Mk
        go_wp2
        go_region
        go_wp2
        refine shead_back HL.out ⟨_, _, _, _, _, _, _, _, _, _, _, rfl⟩ ⟨_, _, _, _, rfl⟩ rfl rfl rfl rfl ?_
        rw [HV.out]
        exact ⟨by simp [hdA, ctA, ← hop], HL.out.be⟩
  · have HV : Hid (dhV l = .tuple #[.agg hd0, .agg ct0, .int .i64 8]) := if_neg hlong
    have hlt' : (l.length : Int) < 12 := by omega
    go_enter Try.func29, Try.ntmps29
    go_wp2
    refine gen_world (Pr := fun W => M3 w W _ _ _) (G := fun W => Code.wp _ _ _ _ W) M0 ?_
    clear M0
    intro W M0
    have HL := Nm.hide ((M0.lay hd0.toList ct0.toList rfl rfl).drew)
    simp only [setAll, Nat.reduceAdd, Nat.zero_add, hd0, ct0] at HL
    have r0 := fun i => blk_cell M0.b0 i
    have r1 := fun i => blk_cell M0.b1 i
    have r2 := fun i => blk_cell M0.b2 i
    have f0 := fun i => blk_frozen M0.b0 i
    have f1 := fun i => blk_frozen M0.b1 i
    clear M0
    go_region
    go_wp2
    refine shead_back HL.out ⟨_, _, _, _, _, _, _, _, _, _, _, rfl⟩ ⟨_, _, _, _, rfl⟩ rfl rfl rfl rfl ?_
    rw [HV.out]
    exact ⟨rfl, HL.out.be⟩
end Go.Proofs.Ytihhchebcojplaa
/- spec.l04Record by its contract. -/
namespace Go.Proofs.Ytihhchebcojplaa
open Go.RowKit
set_option linter.unusedVariables false

def rr0 : Array Value := #[.string ByteArray.empty, .int .i64 0, .int .i64 0, .int .i64 0, .string ByteArray.empty]
def rrG (x : Rm) : Array Value := #[.string ⟨x.owner.toArray⟩, .int .i64 (x.ty : Int), .int .i64 (x.cl : Int), .int .i64 (x.ttl : Int), .string ⟨x.dat.toArray⟩]

/-- What l04Record answers. -/
def rrV : Rs Rm → Value
  | .inl c => .tuple #[.agg rr0, .int .i64 0, .int .i64 c]
  | .inr (x, q) => .tuple #[.agg (rrG x), .int .i64 (q : Int), .int .i64 0]

theorem cut_num (l : List UInt8) (p n i m : Nat) (h : p + n ≤ l.length) (hi : i + m ≤ n) : ((ByteArray.mk (cutL l p n).toArray).extract i (i + m)).data.toList = cutL l (p + i) m := by
  simp [ByteArray.data_extract, cutL]
  rw [List.drop_take, List.take_take, List.drop_drop, Nat.min_eq_left (by omega)]

theorem dtP_code (l : List UInt8) (fin : Nat) : ∀ (ps : List (Option Nat)) (p : Nat) (acc : List UInt8) (c : Int), dtP l fin ps p acc = .bad c → c ≠ 0 := by
  intro ps
  induction ps with
  | nil => intro p acc c h; rw [dtP] at h; split at h <;> simp at h; omega
  | cons x ps ih =>
    intro p acc c h
    cases x with
    | none =>
      rw [dtP] at h
      split at h
      · rename_i c2 hd
        simp at h
        subst h
        exact dnF_code _ _ _ _ _ _ hd
      · split at h
        · exact ih _ _ _ h
        · simp at h; omega
    | some n =>
      rw [dtP] at h
      split at h
      · exact ih _ _ _ h
      · simp at h; omega

theorem dataS_code {l : List UInt8} {t p fin : Nat} {c : Int} (h : dataS l t p fin = .bad c) : c ≠ 0 := by
  rw [dataS] at h
  split at h
  · simp at h
  · split at h
    · exact dtP_code _ _ _ _ _ _ h
    · split at h <;> simp at h; omega

theorem dtP_fin (l : List UInt8) (fin : Nat) : ∀ (ps : List (Option Nat)) (p : Nat) (acc d : List UInt8) (q : Nat), dtP l fin ps p acc = .ok d q → q = fin := by
  intro ps
  induction ps with
  | nil => intro p acc d q h; rw [dtP] at h; split at h <;> simp at h; exact h.2.symm
  | cons x ps ih =>
    intro p acc d q h
    cases x with
    | none =>
      rw [dtP] at h
      split at h
      · simp at h
      · split at h
        · exact ih _ _ _ _ h
        · simp at h
    | some n =>
      rw [dtP] at h
      split at h
      · exact ih _ _ _ _ h
      · simp at h

theorem dataS_fin {l : List UInt8} {t p fin q : Nat} {d : List UInt8} (h : dataS l t p fin = .ok d q) : q = fin := by
  rw [dataS] at h
  split at h
  · simp at h; exact h.2.symm
  · split at h
    · exact dtP_fin _ _ _ _ _ _ _ h
    · split at h <;> simp at h; exact h.2.symm

theorem dnF_next (l : List UInt8) (start pos : Nat) (acc : List UInt8) (nx : Option Nat) : (∀ x, nx = some x → x ≤ l.length) → ∀ s q, dnF l start pos acc nx = .ok s q → q ≤ l.length := by
  fun_induction dnF l start pos acc nx with
  | case1 start pos acc nx h h0 =>
    intro hx s q e
    simp at e
    obtain ⟨_, rfl⟩ := e
    cases nx with
    | none => simp; omega
    | some x => simpa using hx x rfl
  | case2 start pos acc nx h h0 h1 h2 h3 ih =>
    intro hx s q e
    refine ih ?_ s q e
    intro x hxe
    simp only [Option.some.injEq] at hxe
    cases nx with
    | none => simp at hxe; omega
    | some y => simp at hxe; have := hx y rfl; omega
  | case6 start pos acc nx h h0 h1 h2 h3 h4 ih => intro hx s q e; exact ih hx s q e
  | _ => intro hx s q e; cases e

/-- A record's variable is handed back with the place and the code. -/
theorem rr_back {W : World} {b : Nat} {cs : Array Value} {R : Ending → World → Prop} {a : Act} {q code : Int} (h : Blk W b cs 66)
    (hc : ∃ x0 x1 x2 x3 x4 : Value, cs = #[x0, x1, x2, x3, x4])
    (h4 : a.tmps[4]? = some (.pointer (some ⟨b, 0, none⟩))) (h5 : a.tmps[5]? = some (.int .i64 q)) (h6 : a.tmps[6]? = some (.int .i64 code)) (hd : a.defers = [])
    (hR : R (.returned (.tuple #[.agg cs, .int .i64 q, .int .i64 code])) W) : bodyPost Try.prog Try.f32 R .ret a W := by
  obtain ⟨x0, x1, x2, x3, x4, rfl⟩ := hc
  refine bodyPost_ret ?_ hd hR
  have r := fun i => blk_cell h i
  simp [results, Try.results32, go_sem, Result.andThen, r, h4, h5, h6]

/-- The variable of the model's answer. -/
structure RSt (w W : World) (cs : Array Value) : Prop where
  blk : Blk W w.heap.size cs 66
  be : Below w.heap.size w W

theorem rst_new (w : World) : RSt w (w.alloc (.cells rr0 66)) rr0 := ⟨blk_new w rr0 _, (Below.refl _ _).alloc (Nat.le_refl _) _⟩
theorem RSt.below {w W W1 : World} {cs : Array Value} (h : RSt w W cs) (hb : Below W.heap.size W W1) : RSt w W1 cs := ⟨blk_below h.blk hb, h.be.trans (hb.mono h.be.size)⟩
theorem RSt.drew {w W : World} {cs : Array Value} (h : RSt w W cs) : RSt w W.drew cs := ⟨h.blk, h.be.drew⟩
theorem RSt.lay {w W : World} {cs : Array Value} (h : RSt w W cs) (vs : List Value) (hl : cs.size = vs.length) : RSt w (setAll W w.heap.size 0 vs) vs.toArray := ⟨setAll_new _ h.blk hl, setAll_below (Nat.le_refl _) _ _ _ h.be⟩

set_option maxRecDepth 100000 in
set_option maxHeartbeats 3200000 in
theorem l04Record_any (v : Value) (l : List UInt8) (p : Nat) (w : World) (h : BySl w v l) (hl : l.length ≤ 1048576) (hp : p ≤ l.length) :
    Calls Try.prog 32 #[v, .int .i64 p] w fun e w' => e = .returned (rrV (rrS l p)) ∧ Below w.heap.size w w' := by
  have hby := h
  obtain ⟨hbl, a, cap, rfl, hcap, hmx, hc⟩ := h
  clear hc
  have R0 := rst_new w
  simp only [rr0] at R0
  have hcall := specDecodeName_any (.slice a l.length cap) l (p : Int) _ (hby.below R0.be) hl
  rw [dnS_at hp] at hcall
  cases hd : dnF l p p [] none using Rs.elim with
  | bad c =>
    rw [hd] at hcall
    simp only at hcall
    have HV : Hid (rrV (rrS l p) = .tuple #[.agg rr0, .int .i64 0, .int .i64 c]) := by rw [Hid, rrS, hd]; rfl
    have hcn : (c != 0) = true := by rw [bne_iff_ne]; exact dnF_code l p p [] none c hd
    go_enter Try.func32, Try.ntmps32
    go_wp2_with (go_at_call 30; refine hcall.mono ?_; rintro e w1 ⟨rfl, hb1⟩; have R1 := R0.below hb1; have r1 := (fun i => blk_cell R1.blk i); have f1 := (fun i => blk_frozen R1.blk i); have HL := Nm.hide (R1.lay rr0.toList rfl); simp only [setAll, rr0, Nat.reduceAdd, Nat.zero_add] at HL; clear R0 R1)
    refine rr_back HL.out.blk ⟨_, _, _, _, _, rfl⟩ rfl rfl rfl rfl ?_
    rw [HV.out]
    exact ⟨rfl, HL.out.be⟩
  | ok s nx =>
    rw [hd] at hcall
    simp only at hcall
    have hnx := dnF_next l p p [] none (fun x h => by cases h) s nx hd
    by_cases h10 : nx + 10 ≤ l.length
    · have h10' : (nx : Int) + 10 ≤ (l.length : Int) := by omega
      have hfc : (nx : Int) + 10 ≤ (cap : Int) := by omega
      have hcp : ¬ cap = nx := by omega
      obtain ⟨b, off, rfl, hcv⟩ := by_str hby (show nx + 10 ≤ l.length from h10) (by decide)
      have hcv : ∀ W, Below w.heap.size w W → (convert 22 9 (.slice (some ⟨b, off + nx, none⟩) 10 (cap - nx))).run Try.prog W = .ok (.string ⟨(cutL l nx 10).toArray⟩) W := hcv
      have hsz : (ByteArray.mk (cutL l nx 10).toArray).size = 10 := by show (cutL l nx 10).toArray.size = 10; simp [cutL]; omega
      have hn := fun (i m : Nat) (hm : m ≤ 6) (hi : i + m ≤ 10) W => l02Num_any ((ByteArray.mk (cutL l nx 10).toArray).extract i (i + m)) W (by rw [ByteArray.size_extract, hsz]; omega)
      have hn0 : ∀ W, Calls Try.prog 31 #[.string ((ByteArray.mk (cutL l nx 10).toArray).extract 0 2)] W fun e w' => e = .returned (.int .i64 ((n16 l nx : Nat) : Int)) ∧ w' = W := by
        intro W; have := hn 0 2 (by decide) (by decide) W; rw [cut_num l nx 10 0 2 h10 (by decide)] at this; exact this
      have hn2 : ∀ W, Calls Try.prog 31 #[.string ((ByteArray.mk (cutL l nx 10).toArray).extract 2 4)] W fun e w' => e = .returned (.int .i64 ((n16 l (nx + 2) : Nat) : Int)) ∧ w' = W := by
        intro W; have := hn 2 2 (by decide) (by decide) W; rw [cut_num l nx 10 2 2 h10 (by decide)] at this; exact this
      have hn4 : ∀ W, Calls Try.prog 31 #[.string ((ByteArray.mk (cutL l nx 10).toArray).extract 4 8)] W fun e w' => e = .returned (.int .i64 ((n32 l (nx + 4) : Nat) : Int)) ∧ w' = W := by
        intro W; have := hn 4 4 (by decide) (by decide) W; rw [cut_num l nx 10 4 4 h10 (by decide)] at this; exact this
      have hn8 : ∀ W, Calls Try.prog 31 #[.string ((ByteArray.mk (cutL l nx 10).toArray).extract 8 10)] W fun e w' => e = .returned (.int .i64 ((n16 l (nx + 8) : Nat) : Int)) ∧ w' = W := by
        intro W; have := hn 8 2 (by decide) (by decide) W; rw [cut_num l nx 10 8 2 h10 (by decide)] at this; exact this
      have q8 := n16_lt l (nx + 8)
      clear hn
      generalize (⟨(cutL l nx 10).toArray⟩ : ByteArray) = sb at *
      by_cases hfit : nx + 10 + n16 l (nx + 8) ≤ l.length
      · have hfit' : (nx : Int) + 10 + (n16 l (nx + 8) : Int) ≤ (l.length : Int) := by omega
        have hdt := fun W (hB : Below w.heap.size w W) => l04Data_any (.slice (some ⟨b, off, none⟩) l.length cap) l (n16 l nx) (nx + 10) (nx + 10 + n16 l (nx + 8)) W (hby.below hB) hl (by omega) hfit (by omega)
        have hdt : ∀ W, Below w.heap.size w W → Calls Try.prog 54 #[.slice (some ⟨b, off, none⟩) l.length cap, .int .i64 ((n16 l nx : Nat) : Int), .int .i64 ((nx : Int) + 10), .int .i64 ((nx : Int) + 10 + ((n16 l (nx + 8) : Nat) : Int))] W fun e w' => e = .returned (dtV (dataS l (n16 l nx) (nx + 10) (nx + 10 + n16 l (nx + 8)))) ∧ Below W.heap.size W w' := hdt
        cases hds : dataS l (n16 l nx) (nx + 10) (nx + 10 + n16 l (nx + 8)) using Rs.elim with
        | bad c =>
          have HV : Hid (rrV (rrS l p) = .tuple #[.agg rr0, .int .i64 0, .int .i64 c]) := by rw [Hid, rrS, hd]; simp only; rw [if_pos h10, if_pos hfit, hds]; rfl
          have hcn : (c != 0) = true := by rw [bne_iff_ne]; exact dataS_code hds
          rw [hds] at hdt
          simp only [dtV] at hdt
          generalize n16 l nx = ty at *
          generalize n16 l (nx + 8) = sz at *
          clear hds
          go_enter Try.func32, Try.ntmps32
          go_wp2_with (first | (go_at_call 30; refine hcall.mono ?_; rintro e w1 ⟨rfl, hb1⟩; have R1 := R0.below hb1; have hcv1 := hcv w1 R1.be) | (go_at_call 31; with_reducible refine (hn8 _).mono ?_; rintro e w2 ⟨rfl, hw⟩; obtain rfl := hw.symm; clear hw) | (go_at_call 31; with_reducible refine (hn0 _).mono ?_; rintro e w2 ⟨rfl, hw⟩; obtain rfl := hw.symm; clear hw) | (go_at_call 54; refine (hdt _ R1.be).mono ?_; rintro e w3 ⟨rfl, hb3⟩; have R3 := R1.below hb3; have r3 := (fun i => blk_cell R3.blk i); have f3 := (fun i => blk_frozen R3.blk i); have HL := Nm.hide (R3.lay rr0.toList rfl); simp only [setAll, rr0, Nat.reduceAdd, Nat.zero_add] at HL; clear R1 R3))
          refine rr_back HL.out.blk ⟨_, _, _, _, _, rfl⟩ rfl rfl rfl rfl ?_
          rw [HV.out]
          exact ⟨rfl, HL.out.be⟩
        | ok d q =>
          have hqf : q = nx + 10 + n16 l (nx + 8) := dataS_fin hds
          have HV : Hid (rrV (rrS l p) = .tuple #[.agg (rrG ⟨s, n16 l nx, n16 l (nx + 2), n32 l (nx + 4), d⟩), .int .i64 ((nx : Int) + 10 + (n16 l (nx + 8) : Int)), .int .i64 0]) := by rw [Hid, rrS, hd]; simp only; rw [if_pos h10, if_pos hfit, hds]; rfl
          rw [hds] at hdt
          simp only [dtV] at hdt
          simp only [rrG] at HV
          generalize n16 l nx = ty at *
          generalize n16 l (nx + 8) = sz at *
          generalize n16 l (nx + 2) = cl at *
          generalize n32 l (nx + 4) = tl at *
          clear hds
          go_enter Try.func32, Try.ntmps32
          go_wp2_with (first | (go_at_call 30; refine hcall.mono ?_; rintro e w1 ⟨rfl, hb1⟩; have R1 := R0.below hb1; have hcv1 := hcv w1 R1.be) | (go_at_call 31; with_reducible refine (hn8 _).mono ?_; rintro e w2 ⟨rfl, hw⟩; obtain rfl := hw.symm; clear hw) | (go_at_call 31; with_reducible refine (hn0 _).mono ?_; rintro e w2 ⟨rfl, hw⟩; obtain rfl := hw.symm; clear hw) | (go_at_call 54; refine (hdt _ R1.be).mono ?_; rintro e w3 ⟨rfl, hb3⟩; have R3 := R1.below hb3; have r3 := (fun i => blk_cell R3.blk i); have f3 := (fun i => blk_frozen R3.blk i); have HL := Nm.hide ((R3.lay [.string ⟨s.toArray⟩, .int .i64 (ty : Int), .int .i64 (cl : Int), .int .i64 (tl : Int), .string ⟨d.toArray⟩] rfl).drew); simp only [setAll, Nat.reduceAdd, Nat.zero_add] at HL; clear R1 R3))
          go_region_held3 (fun _ => True) (trivial) ((first | (go_at_call 31; with_reducible refine (hn0 _).mono ?_; rintro e w5 ⟨rfl, hw⟩; obtain rfl := hw.symm; clear hw) | (go_at_call 31; with_reducible refine (hn2 _).mono ?_; rintro e w5 ⟨rfl, hw⟩; obtain rfl := hw.symm; clear hw) | (go_at_call 31; with_reducible refine (hn4 _).mono ?_; rintro e w5 ⟨rfl, hw⟩; obtain rfl := hw.symm; clear hw)))
          all_goals
            go_wp2
            refine rr_back HL.out.blk ⟨_, _, _, _, _, rfl⟩ rfl rfl rfl rfl ?_
            rw [HV.out]
            exact ⟨rfl, HL.out.be⟩
      · have hfit' : (l.length : Int) < (nx : Int) + 10 + (n16 l (nx + 8) : Int) := by omega
        have HV : Hid (rrV (rrS l p) = .tuple #[.agg rr0, .int .i64 0, .int .i64 8]) := by rw [Hid, rrS, hd]; simp only; rw [if_pos h10, if_neg hfit]; rfl
        generalize n16 l (nx + 8) = sz at *
        go_enter Try.func32, Try.ntmps32
        go_wp2_with (first | (go_at_call 30; refine hcall.mono ?_; rintro e w1 ⟨rfl, hb1⟩; have R1 := R0.below hb1; have hcv1 := hcv w1 R1.be; have r1 := (fun i => blk_cell R1.blk i); have f1 := (fun i => blk_frozen R1.blk i); have HL := Nm.hide (R1.lay rr0.toList rfl); simp only [setAll, rr0, Nat.reduceAdd, Nat.zero_add] at HL; clear R0 R1) | (go_at_call 31; with_reducible refine (hn8 _).mono ?_; rintro e w2 ⟨rfl, hw⟩; obtain rfl := hw.symm; clear hw))
        refine rr_back HL.out.blk ⟨_, _, _, _, _, rfl⟩ rfl rfl rfl rfl ?_
        rw [HV.out]
        exact ⟨rfl, HL.out.be⟩
    · have h10' : (l.length : Int) < (nx : Int) + 10 := by omega
      have HV : Hid (rrV (rrS l p) = .tuple #[.agg rr0, .int .i64 0, .int .i64 8]) := by rw [Hid, rrS, hd]; simp only; rw [if_neg h10]; rfl
      go_enter Try.func32, Try.ntmps32
      go_wp2_with (go_at_call 30; refine hcall.mono ?_; rintro e w1 ⟨rfl, hb1⟩; have R1 := R0.below hb1; have r1 := (fun i => blk_cell R1.blk i); have f1 := (fun i => blk_frozen R1.blk i); have HL := Nm.hide (R1.lay rr0.toList rfl); simp only [setAll, rr0, Nat.reduceAdd, Nat.zero_add] at HL; clear R0 R1)
      refine rr_back HL.out.blk ⟨_, _, _, _, _, rfl⟩ rfl rfl rfl rfl ?_
      rw [HV.out]
      exact ⟨rfl, HL.out.be⟩
end Go.Proofs.Ytihhchebcojplaa
