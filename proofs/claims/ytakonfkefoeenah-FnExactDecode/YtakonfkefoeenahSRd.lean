import Derived.Test.YtakonfkefoeenahSRr
import Derived.Test.YtakonfkefoeenahLst
/- spec.l04Read by its contract: its variables. -/
namespace Go.Proofs.Ytakonfkefoeenah
open Go.RowKit
set_option linter.unusedVariables false

/-- The variables of the model's reading: the answer's, the head's, the counts', the message's. -/
structure SSt (w W : World) (b : Nat) (hd ct ms : Array Value) : Prop where
  res : Blk W w.heap.size ms0 28
  hb : Blk W b hd 24
  cb : Blk W (b + 1) ct 49
  mb : Blk W (b + 1 + 1) ms 28
  be : Below w.heap.size w W
  lt : w.heap.size < b

section
variable {w W W1 : World} {b : Nat} {hd ct ms : Array Value}

theorem SSt.below (h : SSt w W b hd ct ms) (hb : Below W.heap.size W W1) : SSt w W1 b hd ct ms :=
  ⟨blk_below h.res hb, blk_below h.hb hb, blk_below h.cb hb, blk_below h.mb hb, h.be.trans (hb.mono h.be.size), h.lt⟩

theorem SSt.drew (h : SSt w W b hd ct ms) : SSt w W.drew b hd ct ms := h.below (Below.refl _ _).drew

/-- A list's field is set. -/
theorem SSt.field (h : SSt w W b hd ct ms) (i : Nat) (v : Value) : SSt w (W.setCell ⟨b + 1 + 1, i, none⟩ v) b hd ct (ms.setIfInBounds i v) :=
  have := h.lt
  ⟨blk_far h.res (by omega), blk_far h.hb (by omega), blk_far h.cb (by omega), blk_set h.mb i v, h.be.setCell (by simp; omega) _, h.lt⟩

/-- An append onto a row of the call's own leaves the variables alone. -/
theorem SSt.row {B e s m : Nat} {v : Value} {xs : List Value} (h : SSt w W b hd ct ms) (ho : W.ownsRow w.heap.size e s v m xs) (hg : W.grownBy W1 v.ownBlock) (h1 : e ≠ 28) (h2 : e ≠ 24) (h3 : e ≠ 49) : SSt w W1 b hd ct ms := by
  have key : ∀ {c : Nat} {cs : Array Value} {T : TypeId}, Blk W c cs T → e ≠ T → v.ownBlock ≠ some c := by
    intro c cs T hb hne
    rcases ho.2 with ⟨rfl, _⟩ | ⟨g', cap', cur, rfl, _, hh, _⟩
    · simp [Value.ownBlock]
    · simp only [Value.ownBlock, ne_eq, Option.some.injEq]
      intro e2
      subst e2
      unfold Blk at hb
      rw [hh] at hb
      simp at hb
      exact hne hb.2
  exact ⟨blk_grown h.res hg (key h.res h1), blk_grown h.hb hg (key h.hb h2), blk_grown h.cb hg (key h.cb h3), blk_grown h.mb hg (key h.mb h1), h.be.grown hg h.be.size (fun k hk => (ho.lt k hk).1), h.lt⟩

/-- The answer's variable is laid anew. -/
theorem SSt.lay (h : SSt w W b hd ct ms) (vs : List Value) (hl : ms0.size = vs.length) : Blk (setAll W w.heap.size 0 vs) w.heap.size vs.toArray 28 ∧ Below w.heap.size w (setAll W w.heap.size 0 vs) :=
  ⟨setAll_new _ h.res hl, setAll_below (Nat.le_refl _) _ _ _ h.be⟩
end

/-- What was read is handed back. -/
theorem read_back {W : World} {b : Nat} {cs : Array Value} {R : Ending → World → Prop} {a : Act} {n code : Int} (h : Blk W b cs 28)
    (hc : ∃ x0 x1 x2 x3 x4 x5 x6 x7 x8 x9 x10 x11 x12 x13 x14 : Value, cs = #[x0, x1, x2, x3, x4, x5, x6, x7, x8, x9, x10, x11, x12, x13, x14])
    (h2 : a.tmps[2]? = some (.pointer (some ⟨b, 0, none⟩))) (h3 : a.tmps[3]? = some (.int .i64 n)) (h4 : a.tmps[4]? = some (.int .i64 code)) (hd : a.defers = [])
    (hR : R (.returned (.tuple #[.agg cs, .int .i64 n, .int .i64 code])) W) : bodyPost Try.prog Try.f12 R .ret a W := by
  obtain ⟨x0, x1, x2, x3, x4, x5, x6, x7, x8, x9, x10, x11, x12, x13, x14, rfl⟩ := hc
  refine bodyPost_ret ?_ hd hR
  have r := fun i => blk_cell h i
  simp [results, Try.results12, go_sem, Result.andThen, r, h2, h3, h4]

/-- What the model's reading comes to. -/
def ReadPost (l : List UInt8) (w : World) (e : Ending) (w' : World) : Prop := Below w.heap.size w w' ∧
  ((∃ m p q x y z, ∃ n : Int, msgS l = .ok m p ∧ e = .returned (.tuple #[.agg (msA (n16 l 0) (n16 l 2) q x y z), .int .i64 n, .int .i64 0]) ∧ Lists w' w.heap.size m q x y z) ∨
   (∃ c, ∃ n : Int, msgS l = .bad c ∧ e = .returned (.tuple #[.agg ms0, .int .i64 n, .int .i64 c])))

set_option maxRecDepth 100000 in
set_option maxHeartbeats 3200000 in
theorem l04Read_head (v : Value) (l : List UInt8) (w : World) (h : BySl w v l) (hl : l.length ≤ 1048576) (hbad : 65535 < l.length ∨ l.length < 12 ∨ 400 < n16 l 4 + n16 l 6 + n16 l 8 + n16 l 10) :
    Calls Try.prog 12 #[v] w (ReadPost l w) := by
  have hby := h
  obtain ⟨hbl, a, cap, rfl, hcap, hmx, hc⟩ := h
  clear hc
  have be0 : Below w.heap.size w (w.alloc (.cells ms0 28)) := (Below.refl _ _).alloc (Nat.le_refl _) _
  have hb0 := blk_new w ms0 28
  by_cases hbig : 65535 < l.length
  · have hbig' : (65535 : Int) < (l.length : Int) := by omega
    have HM : Hid (msgS l = .bad 11) := by rw [Hid, msgS, if_pos hbig]
    simp only [ms0] at be0 hb0
    go_enter Try.func12, Try.ntmps12
    go_wp2
    refine read_back (b := w.heap.size) (blk_new w _ _) ⟨_, _, _, _, _, _, _, _, _, _, _, _, _, _, _, rfl⟩ rfl rfl rfl rfl ?_
    exact ⟨be0, .inr ⟨_, _, HM.out, rfl⟩⟩
  · have hbig' : (l.length : Int) ≤ 65535 := by omega
    have hdh := specDecodeHead_any (.slice a l.length cap) l _ (hby.below be0) hl
    by_cases hsh : l.length < 12
    · have HM : Hid (msgS l = .bad 8) := by rw [Hid, msgS, if_neg hbig, if_pos hsh]
      have hV : dhV l = .tuple #[.agg hd0, .agg ct0, .int .i64 8] := if_neg (by omega)
      rw [hV] at hdh
      simp only [hd0, ct0, ms0] at hdh be0 hb0
      go_enter Try.func12, Try.ntmps12
      go_wp2_with (go_at_call 23; refine hdh.mono ?_; rintro e w1 ⟨rfl, hb1⟩; have hm1 := blk_alloc (blk_alloc (blk_below hb0 hb1) (.cells #[.int .i64 0, .bool false, .int .i64 0, .bool false, .bool false, .bool false, .bool false, .bool false, .bool false, .bool false, .int .i64 0] 24)) (.cells #[.int .i64 0, .int .i64 0, .int .i64 0, .int .i64 0] 49); have be1 := ((Nm.below_two be0 hb1).alloc (Nm.below_two be0 hb1).size (.cells #[.int .i64 0, .bool false, .int .i64 0, .bool false, .bool false, .bool false, .bool false, .bool false, .bool false, .bool false, .int .i64 0] 24)).alloc (by have := (Nm.below_two be0 hb1).size; simp; omega) (.cells #[.int .i64 0, .int .i64 0, .int .i64 0, .int .i64 0] 49); have r1 := (fun i => blk_cell hm1 i); have f1 := (fun i => blk_frozen hm1 i); have HL := Nm.hide (And.intro (setAll_new ms0.toList hm1 rfl) (setAll_below (Nat.le_refl _) ms0.toList 0 _ be1)); simp only [setAll, ms0, Nat.reduceAdd, Nat.zero_add] at HL)
      refine read_back HL.out.1 ⟨_, _, _, _, _, _, _, _, _, _, _, _, _, _, _, rfl⟩ rfl rfl rfl rfl ?_
      exact ⟨HL.out.2, .inr ⟨_, _, HM.out, rfl⟩⟩
    · have hcnt : 400 < n16 l 4 + n16 l 6 + n16 l 8 + n16 l 10 := by omega
      have HM : Hid (msgS l = .bad 12) := by rw [Hid, msgS, if_neg hbig, if_neg hsh, if_pos hcnt]
      have hV : dhV l = .tuple #[.agg (hdA (n16 l 0) (n16 l 2)), .agg (ctA l), .int .i64 0] := if_pos (by omega)
      rw [hV] at hdh
      have q4 := n16_lt l 4
      have q6 := n16_lt l 6
      have q8 := n16_lt l 8
      have q10 := n16_lt l 10
      have hcnt' : (400 : Int) < (n16 l 4 : Int) + (n16 l 6 : Int) + (n16 l 8 : Int) + (n16 l 10 : Int) := by omega
      simp only [hdA, ctA, ms0] at hdh be0 hb0
      generalize ((n16 l 2 / 2048 % 16 : Nat) : Int) = op at *
      generalize ((n16 l 2 % 16 : Nat) : Int) = cd at *
      generalize (n16 l 2).testBit 15 = t15 at *
      generalize (n16 l 2).testBit 10 = t10 at *
      generalize (n16 l 2).testBit 9 = t9 at *
      generalize (n16 l 2).testBit 8 = t8 at *
      generalize (n16 l 2).testBit 7 = t7 at *
      generalize (n16 l 2).testBit 6 = t6 at *
      generalize (n16 l 2).testBit 5 = t5 at *
      generalize (n16 l 2).testBit 4 = t4 at *
      go_enter Try.func12, Try.ntmps12
      go_wp2_with (go_at_call 23; refine hdh.mono ?_; rintro e w1 ⟨rfl, hb1⟩; have hm1 := blk_alloc (blk_alloc (blk_below hb0 hb1) (.cells #[.int .i64 (n16 l 0), .bool t15, .int .i64 op, .bool t10, .bool t9, .bool t8, .bool t7, .bool t6, .bool t5, .bool t4, .int .i64 cd] 24)) (.cells #[.int .i64 (n16 l 4), .int .i64 (n16 l 6), .int .i64 (n16 l 8), .int .i64 (n16 l 10)] 49); have be1 := ((Nm.below_two be0 hb1).alloc (Nm.below_two be0 hb1).size (.cells #[.int .i64 (n16 l 0), .bool t15, .int .i64 op, .bool t10, .bool t9, .bool t8, .bool t7, .bool t6, .bool t5, .bool t4, .int .i64 cd] 24)).alloc (by have := (Nm.below_two be0 hb1).size; simp; omega) (.cells #[.int .i64 (n16 l 4), .int .i64 (n16 l 6), .int .i64 (n16 l 8), .int .i64 (n16 l 10)] 49); have r1 := (fun i => blk_cell hm1 i); have f1 := (fun i => blk_frozen hm1 i); have HL := Nm.hide (And.intro (setAll_new ms0.toList hm1 rfl) (setAll_below (Nat.le_refl _) ms0.toList 0 _ be1)); simp only [setAll, ms0, Nat.reduceAdd, Nat.zero_add] at HL)
      refine read_back HL.out.1 ⟨_, _, _, _, _, _, _, _, _, _, _, _, _, _, _, rfl⟩ rfl rfl rfl rfl ?_
      exact ⟨HL.out.2, .inr ⟨_, _, HM.out, rfl⟩⟩
end Go.Proofs.Ytakonfkefoeenah
