import Derived.Test.YtilcbdhcojgcbaaJSHd
import Derived.Test.YtilcbdhcojgcbaaJRd8
import Derived.Test.YtilcbdhcojgcbaaJCutM
import Derived.Deep.RegionHeld3
import Derived.Deep.RegionHeld2
import Derived.Test.YtilcbdhcojgcbaaRows
import Derived.Laws.AppendOwn
import Derived.Deep.RegionLaw
import Derived.Maps.AppendAt
/- spec.l04Read by its contract: its variables. -/
namespace Go.Proofs.Ytilcbdhcojgcbaa
open Go.RowKit
set_option linter.unusedVariables false

/-- The variables of the model's reading: the answer's, the head's, the counts', the message's. -/
structure SSt (w W : World) (b : Nat) (hd ct ms : Array Value) : Prop where
  res : Blk W w.heap.size ms0 35
  hb : Blk W b hd 28
  cb : Blk W (b + 1) ct 29
  mb : Blk W (b + 1 + 1) ms 35
  be : Below w.heap.size w W
  lt : w.heap.size < b

section
variable {w W W1 : World} {b : Nat} {hd ct ms : Array Value}

theorem SSt.below (h : SSt w W b hd ct ms) (hb : Below W.heap.size W W1) : SSt w W1 b hd ct ms :=
  ⟨blk_below h.res hb, blk_below h.hb hb, blk_below h.cb hb, blk_below h.mb hb, h.be.trans (hb.mono h.be.size), h.lt⟩

theorem SSt.drew (h : SSt w W b hd ct ms) : SSt w W.drew b hd ct ms := h.below (Below.refl _ _).drew

/-- A list's field is set. -/
theorem SSt.field (h : SSt w W b hd ct ms) (i : Nat) (v : Value) : SSt w (W.setCell ⟨b + 1 + 1, i, none⟩ v) b hd ct (ms.setIfInBounds i v) :=
  have := h.lt
  ⟨blk_far h.res (by omega), blk_far h.hb (by omega), blk_far h.cb (by omega), blk_set h.mb i v, h.be.setCell (by simp; omega) _, h.lt⟩

/-- An append onto a row of the call's own leaves the variables alone. -/
theorem SSt.row {B e s m : Nat} {v : Value} {xs : List Value} (h : SSt w W b hd ct ms) (ho : W.ownsRow w.heap.size e s v m xs) (hg : W.grownBy W1 v.ownBlock) (h1 : e ≠ 35) (h2 : e ≠ 28) (h3 : e ≠ 29) : SSt w W1 b hd ct ms := by
  have key : ∀ {c : Nat} {cs : Array Value} {T : TypeId}, Blk W c cs T → e ≠ T → v.ownBlock ≠ some c := by
    intro c cs T hb hne
    rcases ho.2 with ⟨rfl, _⟩ | ⟨g', cap', cur, rfl, _, hh, _⟩
    · simp [Value.ownBlock]
    · simp only [Value.ownBlock, ne_eq, Option.some.injEq]
      intro e2
      subst e2
      unfold Blk at hb
      rw [hh] at hb
      simp at hb
      exact hne hb.2
  exact ⟨blk_grown h.res hg (key h.res h1), blk_grown h.hb hg (key h.hb h2), blk_grown h.cb hg (key h.cb h3), blk_grown h.mb hg (key h.mb h1), h.be.grown hg h.be.size (fun k hk => (ho.lt k hk).1), h.lt⟩

/-- The answer's variable is laid anew. -/
theorem SSt.lay (h : SSt w W b hd ct ms) (vs : List Value) (hl : ms0.size = vs.length) : Blk (setAll W w.heap.size 0 vs) w.heap.size vs.toArray 35 ∧ Below w.heap.size w (setAll W w.heap.size 0 vs) :=
  ⟨setAll_new _ h.res hl, setAll_below (Nat.le_refl _) _ _ _ h.be⟩
end

/-- What was read is handed back. -/
theorem read_back {W : World} {b : Nat} {cs : Array Value} {R : Ending → World → Prop} {a : Act} {n code : Int} (h : Blk W b cs 35)
    (hc : ∃ x0 x1 x2 x3 x4 x5 x6 x7 x8 x9 x10 x11 x12 x13 x14 : Value, cs = #[x0, x1, x2, x3, x4, x5, x6, x7, x8, x9, x10, x11, x12, x13, x14])
    (h2 : a.tmps[2]? = some (.pointer (some ⟨b, 0, none⟩))) (h3 : a.tmps[3]? = some (.int .i64 n)) (h4 : a.tmps[4]? = some (.int .i64 code)) (hd : a.defers = [])
    (hR : R (.returned (.tuple #[.agg cs, .int .i64 n, .int .i64 code])) W) : bodyPost Try.prog Try.f15 R .ret a W := by
  obtain ⟨x0, x1, x2, x3, x4, x5, x6, x7, x8, x9, x10, x11, x12, x13, x14, rfl⟩ := hc
  refine bodyPost_ret ?_ hd hR
  have r := fun i => blk_cell h i
  simp [results, Try.results15, go_sem, Result.andThen, r, h2, h3, h4]

/-- What the model's reading comes to. -/
def ReadPost (l : List UInt8) (w : World) (e : Ending) (w' : World) : Prop := Below w.heap.size w w' ∧
  ((∃ m p q x y z, ∃ n : Int, msgS l = .ok m p ∧ e = .returned (.tuple #[.agg (msA (n16 l 0) (n16 l 2) q x y z), .int .i64 n, .int .i64 0]) ∧ Lists w' w.heap.size m q x y z ∧ LastOK l m n) ∨
   (∃ c, ∃ n : Int, msgS l = .bad c ∧ e = .returned (.tuple #[.agg ms0, .int .i64 n, .int .i64 c])))

set_option maxRecDepth 100000 in
set_option maxHeartbeats 3200000 in
theorem l04Read_head (v : Value) (l : List UInt8) (w : World) (h : BySl w v l) (hl : l.length ≤ 100000000) (hbad : 65535 < l.length ∨ l.length < 12 ∨ 400 < n16 l 4 + n16 l 6 + n16 l 8 + n16 l 10) :
    Calls Try.prog 15 #[v] w (ReadPost l w) := by
  have hby := h
  obtain ⟨hbl, a, cap, rfl, hcap, hmx, hc⟩ := h
  clear hc
  have be0 : Below w.heap.size w (w.alloc (.cells ms0 35)) := (Below.refl _ _).alloc (Nat.le_refl _) _
  have hb0 := blk_new w ms0 35
  by_cases hbig : 65535 < l.length
  · have hbig' : (65535 : Int) < (l.length : Int) := by omega
    have HM : Hid (msgS l = .bad 11) := by rw [Hid, msgS, if_pos hbig]
    simp only [ms0] at be0 hb0
    go_enter Try.func15, Try.ntmps15
    go_wp2
    refine read_back (b := w.heap.size) (blk_new w _ _) ⟨_, _, _, _, _, _, _, _, _, _, _, _, _, _, _, rfl⟩ rfl rfl rfl rfl ?_
    exact ⟨be0, .inr ⟨_, _, HM.out, rfl⟩⟩
  · have hbig' : (l.length : Int) ≤ 65535 := by omega
    have hdh := specDecodeHead_any (.slice a l.length cap) l _ (hby.below be0) (by omega)
    by_cases hsh : l.length < 12
    · have HM : Hid (msgS l = .bad 8) := by rw [Hid, msgS, if_neg hbig, if_pos hsh]
      have hV : dhV l = .tuple #[.agg hd0, .agg ct0, .int .i64 8] := if_neg (by omega)
      rw [hV] at hdh
      simp only [hd0, ct0, ms0] at hdh be0 hb0
      go_enter Try.func15, Try.ntmps15
      go_wp2_with (go_at_call 8; refine hdh.mono ?_; rintro e w1 ⟨rfl, hb1⟩; have hm1 := blk_alloc (blk_alloc (blk_below hb0 hb1) (.cells #[.int .i64 0, .bool false, .int .i64 0, .bool false, .bool false, .bool false, .bool false, .bool false, .bool false, .bool false, .int .i64 0] 28)) (.cells #[.int .i64 0, .int .i64 0, .int .i64 0, .int .i64 0] 29); have be1 := ((Nm.below_two be0 hb1).alloc (Nm.below_two be0 hb1).size (.cells #[.int .i64 0, .bool false, .int .i64 0, .bool false, .bool false, .bool false, .bool false, .bool false, .bool false, .bool false, .int .i64 0] 28)).alloc (by have := (Nm.below_two be0 hb1).size; simp; omega) (.cells #[.int .i64 0, .int .i64 0, .int .i64 0, .int .i64 0] 29); have r1 := (fun i => blk_cell hm1 i); have f1 := (fun i => blk_frozen hm1 i); have HL := Nm.hide (And.intro (setAll_new ms0.toList hm1 rfl) (setAll_below (Nat.le_refl _) ms0.toList 0 _ be1)); simp only [setAll, ms0, Nat.reduceAdd, Nat.zero_add] at HL)
      refine read_back HL.out.1 ⟨_, _, _, _, _, _, _, _, _, _, _, _, _, _, _, rfl⟩ rfl rfl rfl rfl ?_
      exact ⟨HL.out.2, .inr ⟨_, _, HM.out, rfl⟩⟩
    · have hcnt : 400 < n16 l 4 + n16 l 6 + n16 l 8 + n16 l 10 := by omega
      have HM : Hid (msgS l = .bad 12) := by rw [Hid, msgS, if_neg hbig, if_neg hsh, if_pos hcnt]
      have hV : dhV l = .tuple #[.agg (hdA (n16 l 0) (n16 l 2)), .agg (ctA l), .int .i64 0] := if_pos (by omega)
      rw [hV] at hdh
      have q4 := n16_lt l 4
      have q6 := n16_lt l 6
      have q8 := n16_lt l 8
      have q10 := n16_lt l 10
      have hcnt' : (400 : Int) < (n16 l 4 : Int) + (n16 l 6 : Int) + (n16 l 8 : Int) + (n16 l 10 : Int) := by omega
      simp only [hdA, ctA, ms0] at hdh be0 hb0
      generalize ((n16 l 2 / 2048 % 16 : Nat) : Int) = op at *
      generalize ((n16 l 2 % 16 : Nat) : Int) = cd at *
      generalize (n16 l 2).testBit 15 = t15 at *
      generalize (n16 l 2).testBit 10 = t10 at *
      generalize (n16 l 2).testBit 9 = t9 at *
      generalize (n16 l 2).testBit 8 = t8 at *
      generalize (n16 l 2).testBit 7 = t7 at *
      generalize (n16 l 2).testBit 6 = t6 at *
      generalize (n16 l 2).testBit 5 = t5 at *
      generalize (n16 l 2).testBit 4 = t4 at *
      go_enter Try.func15, Try.ntmps15
      go_wp2_with (go_at_call 8; refine hdh.mono ?_; rintro e w1 ⟨rfl, hb1⟩; have hm1 := blk_alloc (blk_alloc (blk_below hb0 hb1) (.cells #[.int .i64 (n16 l 0), .bool t15, .int .i64 op, .bool t10, .bool t9, .bool t8, .bool t7, .bool t6, .bool t5, .bool t4, .int .i64 cd] 28)) (.cells #[.int .i64 (n16 l 4), .int .i64 (n16 l 6), .int .i64 (n16 l 8), .int .i64 (n16 l 10)] 29); have be1 := ((Nm.below_two be0 hb1).alloc (Nm.below_two be0 hb1).size (.cells #[.int .i64 (n16 l 0), .bool t15, .int .i64 op, .bool t10, .bool t9, .bool t8, .bool t7, .bool t6, .bool t5, .bool t4, .int .i64 cd] 28)).alloc (by have := (Nm.below_two be0 hb1).size; simp; omega) (.cells #[.int .i64 (n16 l 4), .int .i64 (n16 l 6), .int .i64 (n16 l 8), .int .i64 (n16 l 10)] 29); have r1 := (fun i => blk_cell hm1 i); have f1 := (fun i => blk_frozen hm1 i); have HL := Nm.hide (And.intro (setAll_new ms0.toList hm1 rfl) (setAll_below (Nat.le_refl _) ms0.toList 0 _ be1)); simp only [setAll, ms0, Nat.reduceAdd, Nat.zero_add] at HL)
      refine read_back HL.out.1 ⟨_, _, _, _, _, _, _, _, _, _, _, _, _, _, _, rfl⟩ rfl rfl rfl rfl ?_
      exact ⟨HL.out.2, .inr ⟨_, _, HM.out, rfl⟩⟩
end Go.Proofs.Ytilcbdhcojgcbaa
/- (*reader).message by its contract. -/
namespace Go.Proofs.Ytilcbdhcojgcbaa
open Go.RowKit
set_option linter.unusedVariables false

theorem listsS_q {l : List UInt8} {c : Int} (h : manyS (quS l) (n16 l 4) 12 [] = .bad c) : listsS l = .bad c := by rw [listsS, h]
theorem listsS_a {l : List UInt8} {c : Int} {qs p1} (h : manyS (quS l) (n16 l 4) 12 [] = .ok qs p1) (h2 : manyS (rrS l) (n16 l 6) p1 [] = .bad c) : listsS l = .bad c := by rw [listsS, h]; simp only; rw [h2]
theorem listsS_u {l : List UInt8} {c : Int} {qs p1 an p2} (h : manyS (quS l) (n16 l 4) 12 [] = .ok qs p1) (h2 : manyS (rrS l) (n16 l 6) p1 [] = .ok an p2) (h3 : manyS (rrS l) (n16 l 8) p2 [] = .bad c) : listsS l = .bad c := by rw [listsS, h]; simp only; rw [h2]; simp only; rw [h3]
theorem listsS_e {l : List UInt8} {c : Int} {qs p1 an p2 au p3} (h : manyS (quS l) (n16 l 4) 12 [] = .ok qs p1) (h2 : manyS (rrS l) (n16 l 6) p1 [] = .ok an p2) (h3 : manyS (rrS l) (n16 l 8) p2 [] = .ok au p3) (h4 : manyS (rrS l) (n16 l 10) p3 [] = .bad c) : listsS l = .bad c := by rw [listsS, h]; simp only; rw [h2]; simp only; rw [h3]; simp only; rw [h4]
theorem listsS_ok {l : List UInt8} {qs p1 an p2 au p3 ex p4} (h : manyS (quS l) (n16 l 4) 12 [] = .ok qs p1) (h2 : manyS (rrS l) (n16 l 6) p1 [] = .ok an p2) (h3 : manyS (rrS l) (n16 l 8) p2 [] = .ok au p3) (h4 : manyS (rrS l) (n16 l 10) p3 [] = .ok ex p4) : listsS l = if p4 < l.length then .bad 10 else .ok ⟨qs, an, au, ex⟩ p4 := by rw [listsS, h]; simp only; rw [h2]; simp only; rw [h3]; simp only; rw [h4]

/-- The variables of message while the lists are read. -/
structure MSt (w W : World) (g b : Nat) (V : Value) (hd ct : Array Value) (n pos : Nat) : Prop where
  rd : Rd W g V pos
  le : pos ≤ n
  grown : w.grownBy W (some g)
  res : Blk W w.heap.size ms0 35
  hb : Blk W b hd 28
  cb : Blk W (b + 1) ct 29
  lt : w.heap.size < b
  glt : g < w.heap.size

theorem MSt.read {w W W1 : World} {g b n pos pos1 : Nat} {V : Value} {hd ct : Array Value} (h : MSt w W g b V hd ct n pos) (hg : W.grownBy W1 (some g)) (hr : Rd W1 g V pos1) (hle : pos1 ≤ n) : MSt w W1 g b V hd ct n pos1 :=
  have h1 := h.lt
  have h2 := h.glt
  ⟨hr, hle, hgr_step h.grown hg, blk_grown h.res hg (by simp; omega), blk_grown h.hb hg (by simp; omega), blk_grown h.cb hg (by simp; omega), h.lt, h.glt⟩

theorem MSt.below {w W W1 : World} {g b n pos : Nat} {V : Value} {hd ct : Array Value} (h : MSt w W g b V hd ct n pos) (hb : Below W.heap.size W W1) : MSt w W1 g b V hd ct n pos :=
  ⟨rd_below h.rd hb, h.le, hgr_below h.grown hb, blk_below h.res hb, blk_below h.hb hb, blk_below h.cb hb, h.lt, h.glt⟩

theorem MSt.alloc {w W : World} {g b n pos : Nat} {V : Value} {hd ct : Array Value} (h : MSt w W g b V hd ct n pos) (o : Obj) : MSt w (W.alloc o) g b V hd ct n pos := h.below ((Below.refl _ _).alloc (Nat.le_refl _) o)
theorem MSt.drew {w W : World} {g b n pos : Nat} {V : Value} {hd ct : Array Value} (h : MSt w W g b V hd ct n pos) : MSt w W.drew g b V hd ct n pos := h.below (Below.refl _ _).drew

theorem mst_new {w w2 : World} {g d f n : Nat} {V : Value} {l : List UInt8} (hr2 : Rd w2 g V 12) (hle : 12 ≤ n) (hg2 : w.grownBy w2 (some g)) (hb2 : Blk w2 w.heap.size ms0 35) (hglt : g < w.heap.size) :
    MSt w ((w2.alloc (.cells (hdA d f) 28)).alloc (.cells (ctA l) 29)) g w2.heap.size V (hdA d f) (ctA l) n 12 := by
  have hbb : Below w2.heap.size w2 ((w2.alloc (.cells (hdA d f) 28)).alloc (.cells (ctA l) 29)) := ((Below.refl _ _).alloc (Nat.le_refl _) _).alloc (by simp) _
  have e1 : (w2.alloc (.cells (hdA d f) 28)).heap.size = w2.heap.size + 1 := by simp
  have hcb := blk_new (w2.alloc (.cells (hdA d f) 28)) (ctA l) 29
  rw [e1] at hcb
  exact ⟨rd_below hr2 hbb, hle, hgr_below hg2 hbb, blk_below hb2 hbb, blk_alloc (blk_new w2 (hdA d f) _) _, hcb, blk_lt hb2, hglt⟩

theorem gen_world2 {Pr G : World → Prop} {W : World} (h : Pr W) (k : ∀ W, Pr W → G W) : G W := k W h

theorem row_grown {w w1 : World} {B e m g p s : Nat} {v V : Value} {xs : List Value} (h : w.ownsRow B e s v m xs) (hs : Rd w g V p) (hne : e ≠ 92) (hg : w.grownBy w1 (some g)) : w1.ownsRow B e s v m xs := h.kept hg (rowS_rd h hs hne)

/-- A call that panics, met where one way must be left to go on: that way has 'False' ahead of it. -/
theorem calls_panics {P : Program} {f : FuncId} {args : Array Value} {w : World} {R : Ending → World → Prop} {ch : List PanicEntry} (v0 : Value) (h : Calls P f args w (fun e w' => e = .panicked ch ∧ R (.panicked ch) w')) (_ : Hid False → R (.returned v0) w) : Calls P f args w R :=
  h.mono (fun e w' ⟨he, hr⟩ => he ▸ hr)
theorem calls_any {P : Program} {f : FuncId} {args : Array Value} {w : World} {R : Ending → World → Prop} (v0 : Value) (hF : Hid False) (_ : R (.returned v0) w) : Calls P f args w R := hF.out.elim

/-- Entries read in their turn, as message wants them. -/
def Turn (w : World) (g b : Nat) (V : Value) (hd ct : Array Value) (n e s m q : Nat) (cs : List Value) (W : World) (x : Ending) (W' : World) : Prop :=
  ∃ v, x = .returned v ∧ MSt w W' g b V hd ct n q ∧ W'.ownsRow w.heap.size e s v m cs ∧ W.grownBy W' (some g)

theorem blk_ne {W : World} {x y : Nat} {cs ds : Array Value} {T U : TypeId} (h : Blk W x cs T) (h2 : Blk W y ds U) (hne : T ≠ U) : x ≠ y := by
  rintro rfl
  unfold Blk at h h2
  rw [h] at h2
  simp at h2
  exact hne h2.2

theorem MSt.sets {w W : World} {g b n pos b5 : Nat} {V : Value} {hd ct cs : Array Value} (h : MSt w W g b V hd ct n pos) (hB : Blk W b5 cs 35) (hlt : w.heap.size < b5) (vs : List Value) : MSt w (setAll W b5 0 vs) g b V hd ct n pos := by
  have h1 := h.glt
  exact ⟨setAll_far (by omega) _ _ _ (rd_blk h.rd), h.le, setAll_grown (by omega) _ _ _ h.grown, setAll_far (by omega) _ _ _ h.res, setAll_far (blk_ne h.hb hB (by decide)) _ _ _ h.hb, setAll_far (blk_ne h.cb hB (by decide)) _ _ _ h.cb, h.lt, h.glt⟩

/-- The message is handed back out of its variable. -/
theorem msg_back {w W : World} {cs : Array Value} {R : Ending → World → Prop} {a : Act} (h : Blk W w.heap.size cs 35)
    (hc : ∃ x0 x1 x2 x3 x4 x5 x6 x7 x8 x9 x10 x11 x12 x13 x14 : Value, cs = #[x0, x1, x2, x3, x4, x5, x6, x7, x8, x9, x10, x11, x12, x13, x14])
    (h2 : a.tmps[2]? = some (.pointer (some ⟨w.heap.size, 0, none⟩))) (hd : a.defers = []) (hR : R (.returned (.agg cs)) W) : bodyPost Try.prog Try.f41 R .ret a W := by
  obtain ⟨x0, x1, x2, x3, x4, x5, x6, x7, x8, x9, x10, x11, x12, x13, x14, rfl⟩ := hc
  refine bodyPost_ret ?_ hd hR
  have r := fun i => blk_cell h i
  simp [results, Try.results41, go_sem, Result.andThen, r, h2]

theorem row_setAll {b B e s m : Nat} {v : Value} {xs : List Value} (hne : e ≠ 35) : ∀ (vs : List Value) (i : Nat) (W : World) (cs : Array Value), W.ownsRow B e s v m xs → Blk W b cs 35 → (setAll W b i vs).ownsRow B e s v m xs := by
  intro vs
  induction vs with
  | nil => intro i W cs h _; exact h
  | cons x vs ih =>
    intro i W cs h hb
    have hg : W.grownBy (W.setCell ⟨b, i, none⟩ x) (some b) := ⟨rfl, rfl, rfl, by simp, fun k _ hk => heap_setCell_other W ⟨b, i, none⟩ k _ (fun e => hk (by simp [e]))⟩
    refine ih (i + 1) _ _ (h.kept hg ?_) (blk_set hb i x)
    rcases h.2 with ⟨rfl, _⟩ | ⟨g', cap', cur, rfl, _, hh, _⟩
    · exact .inl rfl
    · right
      simp only [Value.ownBlock, ne_eq, Option.some.injEq]
      intro e2
      subst e2
      unfold Blk at hb
      rw [hh] at hb
      simp at hb
      exact hne hb.2

theorem lists_setAll {b B : Nat} {m : Mm} {q x y z : Value} {W : World} {cs : Array Value} (h : Lists W B m q x y z) (hb : Blk W b cs 35) (vs : List Value) (i : Nat) : Lists (setAll W b i vs) B m q x y z :=
  ⟨row_setAll (by decide) vs i W cs h.rq hb, row_setAll (by decide) vs i W cs h.ra hb, row_setAll (by decide) vs i W cs h.ru hb, row_setAll (by decide) vs i W cs h.rx hb, h.au, h.ax, h.ux⟩

/-- Message's variables once the lists are read. -/
structure Fin4 (w W : World) (g b5 : Nat) (V : Value) (p : Nat) (cs : Array Value) (m : Mm) (q x y z : Value) : Prop where
  rd : Rd W g V p
  grown : w.grownBy W (some g)
  res : Blk W w.heap.size ms0 35
  var : Blk W b5 cs 35
  lt : w.heap.size < b5
  glt : g < w.heap.size
  rows : Lists W w.heap.size m q x y z

theorem fin_alloc {w W : World} {g b n pos : Nat} {V : Value} {hd ct : Array Value} {m : Mm} {q x y z : Value} (h : MSt w W g b V hd ct n pos) (hr : Lists W w.heap.size m q x y z) (cs : Array Value) :
    Fin4 w (W.alloc (.cells cs 35)) g W.heap.size V pos cs m q x y z := by
  have hb : Below W.heap.size W (W.alloc (.cells cs 35)) := (Below.refl _ _).alloc (Nat.le_refl _) _
  have h2 := h.alloc (.cells cs 35)
  exact ⟨h2.rd, h2.grown, h2.res, blk_new W cs _, blk_lt h.res, h.glt, lists_below hr hb⟩

theorem fin_set {w W : World} {g b b5 n pos : Nat} {V : Value} {hd ct cs : Array Value} {m : Mm} {q x y z : Value} (h : MSt w W g b V hd ct n pos) (hr : Lists W w.heap.size m q x y z) (hB : Blk W b5 cs 35) (hlt : w.heap.size < b5) (vs : List Value) (hl : cs.size = vs.length) :
    Fin4 w (setAll W b5 0 vs) g b5 V pos vs.toArray m q x y z := by
  have h1 := h.glt
  exact ⟨setAll_far (by omega) _ _ _ (rd_blk h.rd), setAll_grown (by omega) _ _ _ h.grown, setAll_far (by omega) _ _ _ h.res, setAll_new _ hB hl, hlt, h.glt, lists_setAll hr hB vs 0⟩

theorem fin_last {w W : World} {g b5 p : Nat} {V : Value} {cs : Array Value} {m : Mm} {q x y z : Value} (h : Fin4 w W g b5 V p cs m q x y z) (vs : List Value) (hl : ms0.size = vs.length) :
    Blk (setAll W w.heap.size 0 vs).drew w.heap.size vs.toArray 35 ∧ Lists (setAll W w.heap.size 0 vs).drew w.heap.size m q x y z ∧ w.grownBy (setAll W w.heap.size 0 vs).drew (some g) :=
  ⟨blk_drew (setAll_new _ h.res hl), lists_below (lists_setAll h.rows h.res vs 0) (Below.refl _ _).drew, grown_drew (setAll_grown (Nat.le_refl _) _ _ _ h.grown)⟩

end Go.Proofs.Ytilcbdhcojgcbaa
/- A step of a drawn region: append onto a row of one's own. -/
namespace Go.Proofs.Ytilcbdhcojgcbaa
open Go
set_option linter.unusedVariables false

theorem step_append_own {P : Program} {ops : Array Oper} {o : Oper} {a : Act} {w : World} {K : Act → World → Prop} {Q : Exit → Act → World → Prop} {E : Prop} (hgd : o.guard = none) (s x : Operand) (t : TypeId)
    (ho : o.op = .call { callee := .builtin .append, args := #[s, x], argTypes := #[t, t] })
    (base : Nat) (e : TypeId) (i : TypeInfo) (z : Value) (size bytes : Nat) (ht : P.underlying t = some (.slice e)) (hi : P.info? e = some i) (hz : i.zero = some z)
    (hsize : i.size = size) (hby : i.bytes = bytes) (hzs : z.cells.size = size) (hsz : 0 < size)
    (v : Value) (n : Nat) (xs : List Value) (hs : a.eval s = v) (hown : w.ownsRow base e size v n xs)
    (ad : Addr) (m c : Nat) (news : List Value) (hx : a.eval x = .slice (some ad) m c) (hl : news.length = m * size) (hnews : ∀ j u, news[j]? = some u → w.cell? (ad.add j) = some u) (h1 : ∀ u ∈ news, u.oneCell' = true)
    (h63 : n + m ≤ maxLen) (hbytes : (n + m) * bytes ≤ 140737488355328) (hbase : base ≤ w.heap.size)
    (h : ∀ v' w', w'.ownsRow base e size v' (n + m) (xs ++ news) → w.grownBy w' v.ownBlock → (v' = .slice none 0 0 ↔ v = .slice none 0 0 ∧ m = 0) → K (a.put o.dst v') w') :
    if Region.wanted o (yielded ops a.tmps) = true then Oper.wp P o a w K Q else E := by
  have hw : Region.wanted o (yielded ops a.tmps) = true := by simp [Region.wanted, hgd]
  rw [if_pos hw]
  exact wp_append_own w s x t ho base e i z size bytes ht hi hz hsize hby hzs hsz v n xs hs hown ad m c news hx hl hnews h1 h63 hbytes hbase h

end Go.Proofs.Ytilcbdhcojgcbaa
/- Steps of a drawn region: append onto a row of one's own, a call that leaves the world; the variables of the model's reading. -/
namespace Go.Proofs.Ytilcbdhcojgcbaa
open Go.RowKit
set_option linter.unusedVariables false

theorem sst_new {w w1 : World} (hm : Blk w1 w.heap.size ms0 35) (hbe : Below w.heap.size w w1) (hd ct ms : Array Value) :
    SSt w (((w1.alloc (.cells hd 28)).alloc (.cells ct 29)).alloc (.cells ms 35)) w1.heap.size hd ct ms := by
  have e1 : (w1.alloc (.cells hd 28)).heap.size = w1.heap.size + 1 := by simp
  have e2 : ((w1.alloc (.cells hd 28)).alloc (.cells ct 29)).heap.size = w1.heap.size + 1 + 1 := by simp
  have hC := blk_alloc (blk_new (w1.alloc (.cells hd 28)) ct 29) (.cells ms 35)
  have hM := blk_new ((w1.alloc (.cells hd 28)).alloc (.cells ct 29)) ms 35
  rw [e1] at hC
  rw [e2] at hM
  have hb : Below w1.heap.size w1 (((w1.alloc (.cells hd 28)).alloc (.cells ct 29)).alloc (.cells ms 35)) := (((Below.refl _ _).alloc (Nat.le_refl _) _).alloc (by simp) _).alloc (by simp; omega) _
  exact ⟨blk_below hm hb, blk_alloc (blk_alloc (blk_new w1 hd _) _) _, hC, hM, hbe.trans (hb.mono hbe.size), blk_lt hm⟩

theorem step_call1 {P : Program} {ops : Array Oper} {o : Oper} {a : Act} {w : World} {K : Act → World → Prop} {Q : Exit → Act → World → Prop} {E : Prop} (F : FuncId) (x : Nat) (T : TypeId) (V v : Value) (hgd : o.guard = none)
    (ho : o.op = .call { callee := .value (.func F), args := #[.tmp x], argTypes := #[T] }) (hx : a.tmps.getD x undef = V) (hent : (callFunc F #[V]).run P w = .ok (.enter F #[V]) w)
    (hc : Calls P F #[V] w fun e w' => e = .returned v ∧ w' = w) (hK : K (a.put o.dst v) w) :
    if Region.wanted o (yielded ops a.tmps) = true then Oper.wp P o a w K Q else E := by
  have hw : Region.wanted o (yielded ops a.tmps) = true := by simp [Region.wanted, hgd]
  rw [if_pos hw]
  unfold Oper.wp execOp
  simp only [ho, go_sem, resolve, invoke, Sem.run_bind, Sem.run_pure, Result.andThen_ok, List.map_toArray, List.map_cons, List.map_nil]
  rw [hx]
  have e : (#[] ++ #[V] ++ #[] : Array Value) = #[V] := rfl
  rw [e, hent, Oper.upon_enter]
  refine hc.mono ?_
  rintro e w' ⟨rfl, rfl⟩
  exact hK

theorem num_enters (V : Value) (w : World) : (callFunc 13 #[V]).run Try.prog w = .ok (.enter 13 #[V]) w := by kernel_rfl

theorem cell_newD (w : World) (vs : List Value) (e : Nat) : ∀ (j : Nat) (u : Value), vs[j]? = some u → (w.alloc (.cells vs.toArray e)).drew.cell? ((⟨w.heap.size, 0, none⟩ : Addr).add j) = some u := cell_newL w vs e

theorem cut_num2 (l : List UInt8) (p n i m : Nat) (h : p + n ≤ l.length) (hi : i + m ≤ n) : ((ByteArray.mk (cutL l p n).toArray).extract i (i + m)).data.toList = cutL l (p + i) m := cut_num l p n i m h hi

end Go.Proofs.Ytilcbdhcojgcbaa
/- Rows that lie apart. -/
namespace Go.Proofs.Ytilcbdhcojgcbaa
open Go.RowKit
set_option linter.unusedVariables false

theorem row_blk {W : World} {B e s m b : Nat} {v : Value} {xs : List Value} {cs : Array Value} {T : TypeId} (h : W.ownsRow B e s v m xs) (hb : Blk W b cs T) (hne : e ≠ T) : v.ownBlock ≠ some b := by
  rcases h.2 with ⟨rfl, _⟩ | ⟨g', cap', cur, rfl, _, hh, _⟩
  · simp [Value.ownBlock]
  · simp only [Value.ownBlock, ne_eq, Option.some.injEq]
    intro e2
    subst e2
    unfold Blk at hb
    rw [hh] at hb
    simp at hb
    exact hne hb.2

theorem row_apart {W W1 : World} {B e s m : Nat} {v u : Value} {xs : List Value} (h : W.ownsRow B e s v m xs) (hg : W.grownBy W1 u.ownBlock) (ha : Apart u v) : W1.ownsRow B e s v m xs := by
  refine h.kept hg ?_
  cases hu : u.ownBlock with
  | none =>
    cases hv : v.ownBlock with
    | none => exact .inl rfl
    | some k => right; simp
  | some k => right; exact ha k hu

end Go.Proofs.Ytilcbdhcojgcbaa
/- A message's lists: one more entry. -/
namespace Go.Proofs.Ytilcbdhcojgcbaa
open Go.RowKit
set_option linter.unusedVariables false

theorem row_other {W W1 : World} {B e s m e' s' m' B' : Nat} {v u : Value} {xs ys : List Value} (h : W.ownsRow B e s v m xs) (hu : W.ownsRow B' e' s' u m' ys) (hne : e ≠ e') (hg : W.grownBy W1 u.ownBlock) : W1.ownsRow B e s v m xs := own_apart h hu hne hg

theorem apart_after {W : World} {B e s m : Nat} {v v' u : Value} {ys : List Value} (hat : v'.ownBlock = v.ownBlock ∨ v'.ownBlock = some W.heap.size) (ha : Apart v u) (hu : W.ownsRow B e s u m ys) : Apart v' u := by
  intro k hk hk2
  rcases hat with h | h
  · exact ha k (by rw [← h]; exact hk) hk2
  · rw [h] at hk
    have := (hu.lt k hk2).2
    simp only [Option.some.injEq] at hk
    omega
theorem apart_symm {u v : Value} (h : Apart u v) : Apart v u := fun k h1 h2 => h k h2 h1

theorem Lists.app1 {W W1 : World} {B : Nat} {m : Mm} {q x y z x' : Value} {r : Rm} (h : Lists W B m q x y z) (ho : W1.ownsRow B 56 5 x' (m.an.length + 1) (rrCs (m.an ++ [r]))) (hg : W.grownBy W1 x.ownBlock) (hat : x'.ownBlock = x.ownBlock ∨ x'.ownBlock = some W.heap.size) : Lists W1 B ⟨m.qs, m.an ++ [r], m.au, m.ex⟩ q x' y z :=
  ⟨own_apart h.rq h.ra (by decide) hg, by simpa using ho, row_apart h.ru hg h.au, row_apart h.rx hg h.ax, apart_after hat h.au h.ru, apart_after hat h.ax h.rx, h.ux⟩
theorem Lists.app2 {W W1 : World} {B : Nat} {m : Mm} {q x y z y' : Value} {r : Rm} (h : Lists W B m q x y z) (ho : W1.ownsRow B 56 5 y' (m.au.length + 1) (rrCs (m.au ++ [r]))) (hg : W.grownBy W1 y.ownBlock) (hat : y'.ownBlock = y.ownBlock ∨ y'.ownBlock = some W.heap.size) : Lists W1 B ⟨m.qs, m.an, m.au ++ [r], m.ex⟩ q x y' z :=
  ⟨own_apart h.rq h.ru (by decide) hg, row_apart h.ra hg (apart_symm h.au), by simpa using ho, row_apart h.rx hg h.ux, apart_symm (apart_after hat (apart_symm h.au) h.ra), h.ax, apart_after hat h.ux h.rx⟩
theorem Lists.app3 {W W1 : World} {B : Nat} {m : Mm} {q x y z z' : Value} {r : Rm} (h : Lists W B m q x y z) (ho : W1.ownsRow B 56 5 z' (m.ex.length + 1) (rrCs (m.ex ++ [r]))) (hg : W.grownBy W1 z.ownBlock) (hat : z'.ownBlock = z.ownBlock ∨ z'.ownBlock = some W.heap.size) : Lists W1 B ⟨m.qs, m.an, m.au, m.ex ++ [r]⟩ q x y z' :=
  ⟨own_apart h.rq h.rx (by decide) hg, row_apart h.ra hg (apart_symm h.ax), row_apart h.ru hg (apart_symm h.ux), by simpa using ho, h.au, apart_symm (apart_after hat (apart_symm h.ax) h.ra), apart_symm (apart_after hat (apart_symm h.ux) h.ru)⟩

/-- A field of the message's variable is set: the lists stand. -/
theorem lists_field {b B i : Nat} {m : Mm} {q x y z v : Value} {W : World} {cs : Array Value} (h : Lists W B m q x y z) (hb : Blk W b cs 35) : Lists (W.setCell ⟨b, i, none⟩ v) B m q x y z := lists_setAll h hb [v] i

theorem cell_new5 (w : World) (vs : List Value) (e : Nat) : ∀ (j : Nat) (u : Value), vs[j]? = some u → (w.alloc (.cells vs.toArray e)).cell? ((⟨w.heap.size, 0, none⟩ : Addr).add j) = some u := cell_newL w vs e
end Go.Proofs.Ytilcbdhcojgcbaa
