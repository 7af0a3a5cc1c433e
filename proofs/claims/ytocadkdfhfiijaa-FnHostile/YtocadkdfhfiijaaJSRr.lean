import Derived.Test.YtocadkdfhfiijaaJNumM
import Derived.Test.YtocadkdfhfiijaaSHd
import Derived.Deep.RegionHeld3
import Derived.Laws.AppendOwn
/- spec.l04Record by its contract. -/
namespace Go.Proofs.Ytocadkdfhfiijaa
open Go.RowKit
set_option linter.unusedVariables false

def rr0 : Array Value := #[.string ByteArray.empty, .int .i64 0, .int .i64 0, .int .i64 0, .string ByteArray.empty]
def rrG (x : Rm) : Array Value := #[.string ⟨x.owner.toArray⟩, .int .i64 (x.ty : Int), .int .i64 (x.cl : Int), .int .i64 (x.ttl : Int), .string ⟨x.dat.toArray⟩]

/-- What l04Record answers. -/
def rrV : Rs Rm → Value
  | .inl c => .tuple #[.agg rr0, .int .i64 0, .int .i64 c]
  | .inr (x, q) => .tuple #[.agg (rrG x), .int .i64 (q : Int), .int .i64 0]

theorem cut_num (l : List UInt8) (p n i m : Nat) (h : p + n ≤ l.length) (hi : i + m ≤ n) : ((ByteArray.mk (cutL l p n).toArray).extract i (i + m)).data.toList = cutL l (p + i) m := by
  simp [ByteArray.data_extract, cutL]
  rw [List.drop_take, List.take_take, List.drop_drop, Nat.min_eq_left (by omega)]

theorem dtP_code (l : List UInt8) (fin : Nat) : ∀ (ps : List (Option Nat)) (p : Nat) (acc : List UInt8) (c : Int), dtP l fin ps p acc = .bad c → c ≠ 0 := by
  intro ps
  induction ps with
  | nil => intro p acc c h; rw [dtP] at h; split at h <;> simp at h; omega
  | cons x ps ih =>
    intro p acc c h
    cases x with
    | none =>
      rw [dtP] at h
      split at h
      · rename_i c2 hd
        simp at h
        subst h
        exact dnF_code _ _ _ _ _ _ hd
      · split at h
        · exact ih _ _ _ h
        · simp at h; omega
    | some n =>
      rw [dtP] at h
      split at h
      · exact ih _ _ _ h
      · simp at h; omega

theorem dataS_code {l : List UInt8} {t p fin : Nat} {c : Int} (h : dataS l t p fin = .bad c) : c ≠ 0 := by
  rw [dataS] at h
  split at h
  · simp at h
  · split at h
    · exact dtP_code _ _ _ _ _ _ h
    · split at h <;> simp at h; omega

theorem dtP_fin (l : List UInt8) (fin : Nat) : ∀ (ps : List (Option Nat)) (p : Nat) (acc d : List UInt8) (q : Nat), dtP l fin ps p acc = .ok d q → q = fin := by
  intro ps
  induction ps with
  | nil => intro p acc d q h; rw [dtP] at h; split at h <;> simp at h; exact h.2.symm
  | cons x ps ih =>
    intro p acc d q h
    cases x with
    | none =>
      rw [dtP] at h
      split at h
      · simp at h
      · split at h
        · exact ih _ _ _ _ h
        · simp at h
    | some n =>
      rw [dtP] at h
      split at h
      · exact ih _ _ _ _ h
      · simp at h

theorem dataS_fin {l : List UInt8} {t p fin q : Nat} {d : List UInt8} (h : dataS l t p fin = .ok d q) : q = fin := by
  rw [dataS] at h
  split at h
  · simp at h; exact h.2.symm
  · split at h
    · exact dtP_fin _ _ _ _ _ _ _ h
    · split at h <;> simp at h; exact h.2.symm

theorem dnF_next (l : List UInt8) (start pos : Nat) (acc : List UInt8) (nx : Option Nat) : (∀ x, nx = some x → x ≤ l.length) → ∀ s q, dnF l start pos acc nx = .ok s q → q ≤ l.length := by
  fun_induction dnF l start pos acc nx with
  | case1 start pos acc nx h h0 =>
    intro hx s q e
    simp at e
    obtain ⟨_, rfl⟩ := e
    cases nx with
    | none => simp; omega
    | some x => simpa using hx x rfl
  | case2 start pos acc nx h h0 h1 h2 h3 ih =>
    intro hx s q e
    refine ih ?_ s q e
    intro x hxe
    simp only [Option.some.injEq] at hxe
    cases nx with
    | none => simp at hxe; omega
    | some y => simp at hxe; have := hx y rfl; omega
  | case6 start pos acc nx h h0 h1 h2 h3 h4 ih => intro hx s q e; exact ih hx s q e
  | _ => intro hx s q e; cases e

/-- A record's variable is handed back with the place and the code. -/
theorem rr_back {W : World} {b : Nat} {cs : Array Value} {R : Ending → World → Prop} {a : Act} {q code : Int} (h : Blk W b cs 66)
    (hc : ∃ x0 x1 x2 x3 x4 : Value, cs = #[x0, x1, x2, x3, x4])
    (h4 : a.tmps[4]? = some (.pointer (some ⟨b, 0, none⟩))) (h5 : a.tmps[5]? = some (.int .i64 q)) (h6 : a.tmps[6]? = some (.int .i64 code)) (hd : a.defers = [])
    (hR : R (.returned (.tuple #[.agg cs, .int .i64 q, .int .i64 code])) W) : bodyPost Try.prog Try.f32 R .ret a W := by
  obtain ⟨x0, x1, x2, x3, x4, rfl⟩ := hc
  refine bodyPost_ret ?_ hd hR
  have r := fun i => blk_cell h i
  simp [results, Try.results32, go_sem, Result.andThen, r, h4, h5, h6]

/-- The variable of the model's answer. -/
structure RSt (w W : World) (cs : Array Value) : Prop where
  blk : Blk W w.heap.size cs 66
  be : Below w.heap.size w W

theorem rst_new (w : World) : RSt w (w.alloc (.cells rr0 66)) rr0 := ⟨blk_new w rr0 _, (Below.refl _ _).alloc (Nat.le_refl _) _⟩
theorem RSt.below {w W W1 : World} {cs : Array Value} (h : RSt w W cs) (hb : Below W.heap.size W W1) : RSt w W1 cs := ⟨blk_below h.blk hb, h.be.trans (hb.mono h.be.size)⟩
theorem RSt.drew {w W : World} {cs : Array Value} (h : RSt w W cs) : RSt w W.drew cs := ⟨h.blk, h.be.drew⟩
theorem RSt.lay {w W : World} {cs : Array Value} (h : RSt w W cs) (vs : List Value) (hl : cs.size = vs.length) : RSt w (setAll W w.heap.size 0 vs) vs.toArray := ⟨setAll_new _ h.blk hl, setAll_below (Nat.le_refl _) _ _ _ h.be⟩

set_option maxRecDepth 100000 in
set_option maxHeartbeats 3200000 in
theorem l04Record_any (v : Value) (l : List UInt8) (p : Nat) (w : World) (h : BySl w v l) (hl : l.length ≤ 1048576) (hp : p ≤ l.length) :
    Calls Try.prog 32 #[v, .int .i64 p] w fun e w' => e = .returned (rrV (rrS l p)) ∧ Below w.heap.size w w' := by
  have hby := h
  obtain ⟨hbl, a, cap, rfl, hcap, hmx, hc⟩ := h
  clear hc
  have R0 := rst_new w
  simp only [rr0] at R0
  have hcall := specDecodeName_any (.slice a l.length cap) l (p : Int) _ (hby.below R0.be) hl
  rw [dnS_at hp] at hcall
  cases hd : dnF l p p [] none using Rs.elim with
  | bad c =>
    rw [hd] at hcall
    simp only at hcall
    have HV : Hid (rrV (rrS l p) = .tuple #[.agg rr0, .int .i64 0, .int .i64 c]) := by rw [Hid, rrS, hd]; rfl
    have hcn : (c != 0) = true := by rw [bne_iff_ne]; exact dnF_code l p p [] none c hd
    go_enter Try.func32, Try.ntmps32
    go_wp2_with (go_at_call 30; refine hcall.mono ?_; rintro e w1 ⟨rfl, hb1⟩; have R1 := R0.below hb1; have r1 := (fun i => blk_cell R1.blk i); have f1 := (fun i => blk_frozen R1.blk i); have HL := Nm.hide (R1.lay rr0.toList rfl); simp only [setAll, rr0, Nat.reduceAdd, Nat.zero_add] at HL; clear R0 R1)
    refine rr_back HL.out.blk ⟨_, _, _, _, _, rfl⟩ rfl rfl rfl rfl ?_
    rw [HV.out]
    exact ⟨rfl, HL.out.be⟩
  | ok s nx =>
    rw [hd] at hcall
    simp only at hcall
    have hnx := dnF_next l p p [] none (fun x h => by cases h) s nx hd
    by_cases h10 : nx + 10 ≤ l.length
    · have h10' : (nx : Int) + 10 ≤ (l.length : Int) := by omega
      have hfc : (nx : Int) + 10 ≤ (cap : Int) := by omega
      have hcp : ¬ cap = nx := by omega
      obtain ⟨b, off, rfl, hcv⟩ := by_str hby (show nx + 10 ≤ l.length from h10) (by decide)
      have hcv : ∀ W, Below w.heap.size w W → (convert 22 9 (.slice (some ⟨b, off + nx, none⟩) 10 (cap - nx))).run Try.prog W = .ok (.string ⟨(cutL l nx 10).toArray⟩) W := hcv
      have hsz : (ByteArray.mk (cutL l nx 10).toArray).size = 10 := by show (cutL l nx 10).toArray.size = 10; simp [cutL]; omega
      have hn := fun (i m : Nat) (hm : m ≤ 6) (hi : i + m ≤ 10) W => l02Num_any ((ByteArray.mk (cutL l nx 10).toArray).extract i (i + m)) W (by rw [ByteArray.size_extract, hsz]; omega)
      have hn0 : ∀ W, Calls Try.prog 31 #[.string ((ByteArray.mk (cutL l nx 10).toArray).extract 0 2)] W fun e w' => e = .returned (.int .i64 ((n16 l nx : Nat) : Int)) ∧ w' = W := by
        intro W; have := hn 0 2 (by decide) (by decide) W; rw [cut_num l nx 10 0 2 h10 (by decide)] at this; exact this
      have hn2 : ∀ W, Calls Try.prog 31 #[.string ((ByteArray.mk (cutL l nx 10).toArray).extract 2 4)] W fun e w' => e = .returned (.int .i64 ((n16 l (nx + 2) : Nat) : Int)) ∧ w' = W := by
        intro W; have := hn 2 2 (by decide) (by decide) W; rw [cut_num l nx 10 2 2 h10 (by decide)] at this; exact this
      have hn4 : ∀ W, Calls Try.prog 31 #[.string ((ByteArray.mk (cutL l nx 10).toArray).extract 4 8)] W fun e w' => e = .returned (.int .i64 ((n32 l (nx + 4) : Nat) : Int)) ∧ w' = W := by
        intro W; have := hn 4 4 (by decide) (by decide) W; rw [cut_num l nx 10 4 4 h10 (by decide)] at this; exact this
      have hn8 : ∀ W, Calls Try.prog 31 #[.string ((ByteArray.mk (cutL l nx 10).toArray).extract 8 10)] W fun e w' => e = .returned (.int .i64 ((n16 l (nx + 8) : Nat) : Int)) ∧ w' = W := by
        intro W; have := hn 8 2 (by decide) (by decide) W; rw [cut_num l nx 10 8 2 h10 (by decide)] at this; exact this
      have q8 := n16_lt l (nx + 8)
      clear hn
      generalize (⟨(cutL l nx 10).toArray⟩ : ByteArray) = sb at *
      by_cases hfit : nx + 10 + n16 l (nx + 8) ≤ l.length
      · have hfit' : (nx : Int) + 10 + (n16 l (nx + 8) : Int) ≤ (l.length : Int) := by omega
        have hdt := fun W (hB : Below w.heap.size w W) => l04Data_any (.slice (some ⟨b, off, none⟩) l.length cap) l (n16 l nx) (nx + 10) (nx + 10 + n16 l (nx + 8)) W (hby.below hB) hl (by omega) hfit (by omega)
        have hdt : ∀ W, Below w.heap.size w W → Calls Try.prog 56 #[.slice (some ⟨b, off, none⟩) l.length cap, .int .i64 ((n16 l nx : Nat) : Int), .int .i64 ((nx : Int) + 10), .int .i64 ((nx : Int) + 10 + ((n16 l (nx + 8) : Nat) : Int))] W fun e w' => e = .returned (dtV (dataS l (n16 l nx) (nx + 10) (nx + 10 + n16 l (nx + 8)))) ∧ Below W.heap.size W w' := hdt
        cases hds : dataS l (n16 l nx) (nx + 10) (nx + 10 + n16 l (nx + 8)) using Rs.elim with
        | bad c =>
          have HV : Hid (rrV (rrS l p) = .tuple #[.agg rr0, .int .i64 0, .int .i64 c]) := by rw [Hid, rrS, hd]; simp only; rw [if_pos h10, if_pos hfit, hds]; rfl
          have hcn : (c != 0) = true := by rw [bne_iff_ne]; exact dataS_code hds
          rw [hds] at hdt
          simp only [dtV] at hdt
          generalize n16 l nx = ty at *
          generalize n16 l (nx + 8) = sz at *
          clear hds
          go_enter Try.func32, Try.ntmps32
          go_wp2_with (first | (go_at_call 30; refine hcall.mono ?_; rintro e w1 ⟨rfl, hb1⟩; have R1 := R0.below hb1; have hcv1 := hcv w1 R1.be) | (go_at_call 31; with_reducible refine (hn8 _).mono ?_; rintro e w2 ⟨rfl, hw⟩; obtain rfl := hw.symm; clear hw) | (go_at_call 31; with_reducible refine (hn0 _).mono ?_; rintro e w2 ⟨rfl, hw⟩; obtain rfl := hw.symm; clear hw) | (go_at_call 56; refine (hdt _ R1.be).mono ?_; rintro e w3 ⟨rfl, hb3⟩; have R3 := R1.below hb3; have r3 := (fun i => blk_cell R3.blk i); have f3 := (fun i => blk_frozen R3.blk i); have HL := Nm.hide (R3.lay rr0.toList rfl); simp only [setAll, rr0, Nat.reduceAdd, Nat.zero_add] at HL; clear R1 R3))
          refine rr_back HL.out.blk ⟨_, _, _, _, _, rfl⟩ rfl rfl rfl rfl ?_
          rw [HV.out]
          exact ⟨rfl, HL.out.be⟩
        | ok d q =>
          have hqf : q = nx + 10 + n16 l (nx + 8) := dataS_fin hds
          have HV : Hid (rrV (rrS l p) = .tuple #[.agg (rrG ⟨s, n16 l nx, n16 l (nx + 2), n32 l (nx + 4), d⟩), .int .i64 ((nx : Int) + 10 + (n16 l (nx + 8) : Int)), .int .i64 0]) := by rw [Hid, rrS, hd]; simp only; rw [if_pos h10, if_pos hfit, hds]; rfl
          rw [hds] at hdt
          simp only [dtV] at hdt
          simp only [rrG] at HV
          generalize n16 l nx = ty at *
          generalize n16 l (nx + 8) = sz at *
          generalize n16 l (nx + 2) = cl at *
          generalize n32 l (nx + 4) = tl at *
          clear hds
          go_enter Try.func32, Try.ntmps32
          go_wp2_with (first | (go_at_call 30; refine hcall.mono ?_; rintro e w1 ⟨rfl, hb1⟩; have R1 := R0.below hb1; have hcv1 := hcv w1 R1.be) | (go_at_call 31; with_reducible refine (hn8 _).mono ?_; rintro e w2 ⟨rfl, hw⟩; obtain rfl := hw.symm; clear hw) | (go_at_call 31; with_reducible refine (hn0 _).mono ?_; rintro e w2 ⟨rfl, hw⟩; obtain rfl := hw.symm; clear hw) | (go_at_call 56; refine (hdt _ R1.be).mono ?_; rintro e w3 ⟨rfl, hb3⟩; have R3 := R1.below hb3; have r3 := (fun i => blk_cell R3.blk i); have f3 := (fun i => blk_frozen R3.blk i); have HL := Nm.hide ((R3.lay [.string ⟨s.toArray⟩, .int .i64 (ty : Int), .int .i64 (cl : Int), .int .i64 (tl : Int), .string ⟨d.toArray⟩] rfl).drew); simp only [setAll, Nat.reduceAdd, Nat.zero_add] at HL; clear R1 R3))
          go_region_held3 (fun _ => True) (trivial) ((first | (go_at_call 31; with_reducible refine (hn0 _).mono ?_; rintro e w5 ⟨rfl, hw⟩; obtain rfl := hw.symm; clear hw) | (go_at_call 31; with_reducible refine (hn2 _).mono ?_; rintro e w5 ⟨rfl, hw⟩; obtain rfl := hw.symm; clear hw) | (go_at_call 31; with_reducible refine (hn4 _).mono ?_; rintro e w5 ⟨rfl, hw⟩; obtain rfl := hw.symm; clear hw)))
          all_goals
            go_wp2
            refine rr_back HL.out.blk ⟨_, _, _, _, _, rfl⟩ rfl rfl rfl rfl ?_
            rw [HV.out]
            exact ⟨rfl, HL.out.be⟩
      · have hfit' : (l.length : Int) < (nx : Int) + 10 + (n16 l (nx + 8) : Int) := by omega
        have HV : Hid (rrV (rrS l p) = .tuple #[.agg rr0, .int .i64 0, .int .i64 8]) := by rw [Hid, rrS, hd]; simp only; rw [if_pos h10, if_neg hfit]; rfl
        generalize n16 l (nx + 8) = sz at *
        go_enter Try.func32, Try.ntmps32
        go_wp2_with (first | (go_at_call 30; refine hcall.mono ?_; rintro e w1 ⟨rfl, hb1⟩; have R1 := R0.below hb1; have hcv1 := hcv w1 R1.be; have r1 := (fun i => blk_cell R1.blk i); have f1 := (fun i => blk_frozen R1.blk i); have HL := Nm.hide (R1.lay rr0.toList rfl); simp only [setAll, rr0, Nat.reduceAdd, Nat.zero_add] at HL; clear R0 R1) | (go_at_call 31; with_reducible refine (hn8 _).mono ?_; rintro e w2 ⟨rfl, hw⟩; obtain rfl := hw.symm; clear hw))
        refine rr_back HL.out.blk ⟨_, _, _, _, _, rfl⟩ rfl rfl rfl rfl ?_
        rw [HV.out]
        exact ⟨rfl, HL.out.be⟩
    · have h10' : (l.length : Int) < (nx : Int) + 10 := by omega
      have HV : Hid (rrV (rrS l p) = .tuple #[.agg rr0, .int .i64 0, .int .i64 8]) := by rw [Hid, rrS, hd]; simp only; rw [if_neg h10]; rfl
      go_enter Try.func32, Try.ntmps32
      go_wp2_with (go_at_call 30; refine hcall.mono ?_; rintro e w1 ⟨rfl, hb1⟩; have R1 := R0.below hb1; have r1 := (fun i => blk_cell R1.blk i); have f1 := (fun i => blk_frozen R1.blk i); have HL := Nm.hide (R1.lay rr0.toList rfl); simp only [setAll, rr0, Nat.reduceAdd, Nat.zero_add] at HL; clear R0 R1)
      refine rr_back HL.out.blk ⟨_, _, _, _, _, rfl⟩ rfl rfl rfl rfl ?_
      rw [HV.out]
      exact ⟨rfl, HL.out.be⟩
end Go.Proofs.Ytocadkdfhfiijaa
/- (*reader).name by its contract. -/
namespace Go.Proofs.Ytocadkdfhfiijaa
open Go.RowKit
set_option linter.unusedVariables false

theorem Try.infoRd : (Try.prog.info? 5).map (fun i => (i.zero, i.size, i.bytes)) = some (some (.int .u8 0), 1, 1) := by kernel_rfl

theorem gr_step {w w1 w2 : World} {g : Nat} (h : w.grownBy w1 (some g)) (h2 : w1.grownBy w2 (some g)) : w.grownBy w2 (some g) :=
  ⟨h2.os.trans h.os, h2.tape.trans h.tape, h2.output.trans h.output, Nat.le_trans h.size h2.size, fun k hk hne => (h2.block k (Nat.lt_of_lt_of_le hk h.size) hne).trans (h.block k hk hne)⟩

theorem gr_own {w w1 w2 : World} {g : Nat} {row : Option Nat} (h : w.grownBy w1 (some g)) (h2 : w1.grownBy w2 row) (hr : ∀ k, row = some k → w.heap.size ≤ k) : w.grownBy w2 (some g) :=
  ⟨h2.os.trans h.os, h2.tape.trans h.tape, h2.output.trans h.output, Nat.le_trans h.size h2.size, fun k hk hne =>
    (h2.block k (Nat.lt_of_lt_of_le hk h.size) (fun e => by have := hr k e.symm; omega)).trans (h.block k hk hne)⟩

theorem gr_below {w w1 w2 : World} {g : Nat} (h : w.grownBy w1 (some g)) (h2 : Below w1.heap.size w1 w2) : w.grownBy w2 (some g) :=
  ⟨h2.os.trans h.os, h2.tape.trans h.tape, h2.output.trans h.output, Nat.le_trans h.size h2.size, fun k hk hne =>
    (h2.block k (Nat.lt_of_lt_of_le hk h.size)).trans (h.block k hk hne)⟩

theorem rd_lt {w : World} {g p : Nat} {v : Value} (h : Rd w g v p) : g < w.heap.size := (Array.getElem?_eq_some_iff.1 h).1

theorem rd_below {w w1 : World} {g p : Nat} {v : Value} (h : Rd w g v p) (hb : Below w.heap.size w w1) : Rd w1 g v p := by
  unfold Rd
  rw [hb.block g (rd_lt h)]; exact h

theorem rd_grown {w w1 : World} {g p : Nat} {v : Value} {row : Option Nat} (h : Rd w g v p) (hg : w.grownBy w1 row) (hr : row ≠ some g) : Rd w1 g v p := by
  unfold Rd
  rw [hg.block g (rd_lt h) (fun e => hr e.symm)]; exact h

/-- A row of the call's own is not a reader's block: its elements are of another type. -/
theorem row_rd {w : World} {B e m g p : Nat} {v V : Value} {xs : List Value} (h : w.ownsRow B e 1 v m xs) (hs : Rd w g V p) (hne : e ≠ 50) : v.ownBlock = none ∨ v.ownBlock ≠ some g := by
  rcases h.2 with ⟨rfl, _⟩ | ⟨g', cap', cur, rfl, _, hh, _⟩
  · exact .inl rfl
  · right
    simp only [Value.ownBlock, ne_eq, Option.some.injEq]
    intro e2
    subst e2
    unfold Rd at hs
    rw [hh] at hs
    simp at hs
    exact hne hs.2

theorem row_rd' {w : World} {B e m g p : Nat} {v V : Value} {xs : List Value} (h : w.ownsRow B e 1 v m xs) (hs : Rd w g V p) (hne : e ≠ 50) : v.ownBlock ≠ some g := by
  rcases row_rd h hs hne with h | h
  · rw [h]; simp
  · exact h

/-- How far a name has been read: the row 'vo' holds 'acc', the reader that walks lies in gw, the first one (in g) behind the first pointer. -/
structure NSt (w wr : World) (g gw : Nat) (V : Value) (n : Nat) (vo : Value) (acc : List UInt8) (nx : Option Nat) (pos : Nat) : Prop where
  own : wr.ownsRow w.heap.size 5 1 vo acc.length (Nm.bys acc)
  rd : Rd wr gw V pos
  le : pos ≤ n
  ptr : (nx = none ∧ gw = g) ∨ ∃ x, nx = some x ∧ x ≤ n ∧ Rd wr g V x ∧ w.heap.size ≤ gw
  grown : w.grownBy wr (some g)
  lt : g < w.heap.size

section
variable {w wr w1 : World} {g gw n pos pos1 : Nat} {V vo vo1 : Value} {acc acc1 : List UInt8} {nx : Option Nat}

theorem NSt.far (h : NSt w wr g gw V n vo acc nx pos) (hg : wr.grownBy w1 (some gw)) : w.grownBy w1 (some g) := by
  rcases h.ptr with ⟨_, rfl⟩ | ⟨x, _, _, _, hge⟩
  · exact gr_step h.grown hg
  · exact gr_own h.grown hg (fun k hk => by simp at hk; omega)

theorem NSt.read (h : NSt w wr g gw V n vo acc nx pos) (hg : wr.grownBy w1 (some gw)) (hr : Rd w1 gw V pos1) (hle : pos1 ≤ n) : NSt w w1 g gw V n vo acc nx pos1 := by
  refine ⟨h.own.kept hg (row_rd h.own h.rd (by decide)), hr, hle, ?_, h.far hg, h.lt⟩
  rcases h.ptr with hp | ⟨x, hx, hxn, hrx, hge⟩
  · exact .inl hp
  · refine .inr ⟨x, hx, hxn, rd_grown hrx hg ?_, hge⟩
    have := h.lt
    simp; omega

theorem NSt.app (h : NSt w wr g gw V n vo acc nx pos) (hg : wr.grownBy w1 vo.ownBlock) (ho : w1.ownsRow w.heap.size 5 1 vo1 acc1.length (Nm.bys acc1)) : NSt w w1 g gw V n vo1 acc1 nx pos := by
  refine ⟨ho, rd_grown h.rd hg (row_rd' h.own h.rd (by decide)), h.le, ?_, gr_own h.grown hg (fun k hk => (h.own.lt k hk).1), h.lt⟩
  rcases h.ptr with hp | ⟨x, hx, hxn, hrx, hge⟩
  · exact .inl hp
  · exact .inr ⟨x, hx, hxn, rd_grown hrx hg (row_rd' h.own hrx (by decide)), hge⟩

theorem NSt.alloc (h : NSt w wr g gw V n vo acc nx pos) (o : Obj) : NSt w (wr.alloc o) g gw V n vo acc nx pos := by
  have hb : Below wr.heap.size wr (wr.alloc o) := (Below.refl _ _).alloc (Nat.le_refl _) o
  refine ⟨h.own.alloc _, rd_below h.rd hb, h.le, ?_, gr_below h.grown hb, h.lt⟩
  rcases h.ptr with hp | ⟨x, hx, hxn, hrx, hge⟩
  · exact .inl hp
  · exact .inr ⟨x, hx, hxn, rd_below hrx hb, hge⟩

theorem NSt.lead (h : NSt w wr g gw V n vo acc nx pos) {to : Nat} (hto : to ≤ n) :
    NSt w (wr.alloc (.cells #[V, .int .i64 (to : Int)] 50)) g wr.heap.size V n vo acc (some (nx.getD pos)) to := by
  have hb : Below wr.heap.size wr (wr.alloc (.cells #[V, .int .i64 (to : Int)] 50)) := (Below.refl _ _).alloc (Nat.le_refl _) _
  refine ⟨h.own.alloc _, ?_, hto, ?_, gr_below h.grown hb, h.lt⟩
  · unfold Rd; show (wr.heap.push _)[wr.heap.size]? = _; simp
  · rcases h.ptr with ⟨rfl, rfl⟩ | ⟨x, rfl, hxn, hrx, hge⟩
    · exact .inr ⟨pos, rfl, h.le, rd_below h.rd hb, h.grown.size⟩
    · exact .inr ⟨x, rfl, hxn, rd_below hrx hb, h.grown.size⟩

theorem NSt.done (h : NSt w wr g gw V n vo acc nx pos) : Rd wr g V (nx.getD pos) ∧ nx.getD pos ≤ n := by
  rcases h.ptr with ⟨rfl, rfl⟩ | ⟨x, rfl, hxn, hrx, hge⟩
  · exact ⟨h.rd, h.le⟩
  · exact ⟨hrx, hxn⟩
end

/-- A slice's length. -/
def slLen : Value → Nat
  | .slice _ n _ => n
  | _ => 0

theorem own_len {w : World} {B e n : Nat} {v : Value} {xs : List Value} (h : w.ownsRow B e 1 v n xs) : slLen v = n := by
  rcases h.2 with ⟨rfl, rfl⟩ | ⟨g', cap', cur, rfl, _⟩ <;> rfl

theorem num_one {l : List UInt8} {p : Nat} (h : p < l.length) : numL ((l.drop p).take 1) = byAt l p := by
  rw [List.drop_eq_getElem_cons h, List.take_succ_cons, List.take_zero, numL, byAt, List.getD_eq_getElem?_getD, List.getElem?_eq_getElem h]
  simp

theorem take_more {l : List UInt8} {p k : Nat} (h : p < l.length) : (l.drop p).take (1 + k) = UInt8.ofNat (byAt l p) :: (l.drop (p + 1)).take k := by
  rw [List.drop_eq_getElem_cons h, Nat.add_comm, List.take_succ_cons, byAt, List.getD_eq_getElem?_getD, List.getElem?_eq_getElem h]
  simp

end Go.Proofs.Ytocadkdfhfiijaa
