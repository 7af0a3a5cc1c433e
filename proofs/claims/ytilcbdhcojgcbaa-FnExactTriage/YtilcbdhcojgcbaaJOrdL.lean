import Derived.Deep.RegionHeld
import Derived.Test.YtilcbdhcojgcbaaRows
import Derived.Test.YtilcbdhcojgcbaaJICp
import Derived.Test.YtilcbdhcojgcbaaJShK
import Derived.StillTailTactics
import Derived.Deep.QuietTactic
import Derived.BigQuiet
import Derived.Test.YtilcbdhcojgcbaaJMath
import Derived.Deep.MidRow
import Derived.Deep.AppendSrc
import Derived.Lib.AppendZerosOnto
import Derived.WalkSpells
import Derived.WalkLawsBesides
import Derived.Test.YtilcbdhcojgcbaaJCutM
/- A region whose last operation, a store, may break what is held: everything else waits for nothing of it. -/
namespace Go.Proofs.Ytilcbdhcojgcbaa
open Go

section
variable {P : Program} {ops : Array Oper} {Q : Exit → Act → World → Prop} {md : Region.Mode} {S : World → Prop} {L : Nat}

/-- Whatever order is picked from here on, and S holds behind every operation but number L. -/
def wpAnyL (P : Program) (md : Region.Mode) (ops : Array Oper) (Q : Exit → Act → World → Prop) (S : World → Prop) (L : Nat) : Nat → Array Bool → Act → World → Prop
  | 0, listed, a, w => Region.ready md ops listed = [] ∧ Q .normal a w
  | fuel + 1, listed, a, w =>
    (Region.ready md ops listed = [] → Q .normal a w) ∧
    ∀ i ∈ Region.ready md ops listed, wpOp P ops Q i (fun a' w' => (i = L ∨ S w') ∧ wpAnyL P md ops Q S L fuel (listed.setIfInBounds i true) a' w') a w

theorem wpAny_of_last : ∀ (fuel : Nat) (listed : Array Bool) (a : Act) (w : World), wpAnyL P md ops Q S L fuel listed a w → wpAny P md ops Q fuel listed a w
  | 0, _, _, _, h => h
  | fuel + 1, _, _, _, h => ⟨h.1, fun i hi => wpOp_mono (fun a' w' h' => wpAny_of_last fuel _ a' w' h'.2) (h.2 i hi)⟩

/-- Number L waits for number i. -/
def waitsFor (md : Region.Mode) (ops : Array Oper) (L i : Nat) : Bool := match ops[L]? with
  | some o => o.after.any (fun e => Region.binds md e && e.on == i)
  | none => true

/-- Of two that may come up neither waits for the other. -/
theorem ready_free {listed : Array Bool} {i j : Nat} {oj : Oper} (hi : i ∈ Region.ready md ops listed) (hj : j ∈ Region.ready md ops listed) (ho : ops[j]? = some oj) : ∀ e ∈ oj.after, Region.binds md e = true → e.on ≠ i := by
  rintro e he hb rfl
  obtain ⟨_, o, ho2, hall⟩ := mem_ready.1 hj
  obtain rfl : oj = o := Option.some.inj (ho.symm.trans ho2)
  have h1 := hall e he hb
  have h0 := (mem_ready.1 hi).1
  rw [Array.getD_eq_getD_getElem?] at h0 h1
  cases hx : listed[e.on]? with
  | none => rw [hx] at h1; cases h1
  | some b => rw [hx] at h0 h1; simp only [Option.getD_some] at h0 h1; rw [h0] at h1; cases h1

/-- So number L does not come up ahead of what it waits for. -/
theorem last_waits {listed : Array Bool} {i j : Nat} (hL : waitsFor md ops L i = true) (hi : i ∈ Region.ready md ops listed) (hj : j ∈ Region.ready md ops listed) : j ≠ L := by
  rintro rfl
  obtain ⟨_, o, ho, _⟩ := mem_ready.1 hj
  rw [waitsFor, ho] at hL
  simp only [Array.any_eq_true', Bool.and_eq_true, beq_iff_eq] at hL
  obtain ⟨e, he, hb, h⟩ := hL
  exact ready_free hi hj ho e he hb h

/-- What nobody touches that may come ahead of it. -/
def Untouched (md : Region.Mode) (ops : Array Oper) (oi : Oper) (i : Nat) (listed : Array Bool) : Prop := ∀ j oj, ops[j]? = some oj → j ≠ i → listed.getD j true = false → (∀ e ∈ oj.after, Region.binds md e = true → e.on ≠ i) → oi.apart ops oj = true

theorem Untouched.more {oi : Oper} {i j : Nat} {listed : Array Bool} (h : Untouched md ops oi i listed) (hj : listed.getD j true = false) : Untouched md ops oi i (listed.setIfInBounds j true) := by
  intro k ok hk hki hun
  refine h k ok hk hki ?_
  rcases Nat.decEq j k with hne | rfl
  · rw [getD_set_ne true hne] at hun; exact hun
  · exact hj

theorem wpAnyL_first {i : Nat} {oi : Oper} {v : Value} (hi : ops[i]? = some oi) (hsel : ∀ (j : Nat) (o : Oper) cs b, ops[j]? = some o → o.op ≠ .select cs b)
    (hQ : ∀ c a w, Q (.panic c) (a.put oi.dst v) w → Q (.panic c) a w) (hL : waitsFor md ops L i = true) (fuel : Nat) :
    ∀ (listed : Array Bool) (a : Act) (w : World), Untouched md ops oi i listed → i ∈ Region.ready md ops listed → YieldsIf P ops S oi v a → S w →
      wpAnyL P md ops Q S L fuel (listed.setIfInBounds i true) (a.put oi.dst v) w → wpAnyL P md ops Q S L (fuel + 1) listed a w := by
  induction fuel with
  | zero =>
    intro listed a w _ hr hy hS H
    refine ⟨fun h => absurd (h ▸ hr) (by simp), fun j hj => ?_⟩
    rcases Nat.decEq j i with hne | rfl
    · exact absurd (H.1 ▸ ready_mono hj hne) (by simp)
    · exact hy.wpOp hi hS ⟨.inr hS, H⟩
  | succ fuel ih =>
    intro listed a w hun hr hy hS H
    refine ⟨fun h => absurd (h ▸ hr) (by simp), fun j hj => ?_⟩
    rcases Nat.decEq j i with hne | rfl
    · obtain ⟨hju, oj, hoj, _⟩ := mem_ready.1 hj
      have hstep := wpOp_putIf hoj (hun j oj hoj hne hju (ready_free hr hj hoj)) (fun cs b => hsel i oi cs b hi) (fun cs b => hsel j oj cs b hoj) hQ hy (H.2 j (ready_mono hj hne))
      refine wpOp_mono (fun a' w' ⟨hy', hS', hW⟩ => ?_) hstep
      have hSw := hS'.resolve_left (last_waits hL hr hj)
      exact ⟨.inr hSw, ih _ a' w' (hun.more hju) (ready_mono hr (Ne.symm hne)) hy' hSw (by rw [Array.setIfInBounds_comm _ _ hne]; exact hW)⟩
    · exact hy.wpOp hi hS ⟨.inr hS, H⟩

/-- Take number i first. -/
theorem wpAnyL_take {i : Nat} {oi : Oper} {v : Value} {fuel : Nat} {listed : Array Bool} {a : Act} {w : World} (hi : ops[i]? = some oi)
    (hs : Region.noSelect ops = true) (hf : Region.free md ops listed i = true) (hr : (Region.ready md ops listed).contains i = true) (hL : waitsFor md ops L i = true)
    (hQ : ∀ c a w, Q (.panic c) (a.put oi.dst v) w → Q (.panic c) a w) (hy : YieldsIf P ops S oi v a) (hS : S w)
    (h : wpAnyL P md ops Q S L fuel (listed.setIfInBounds i true) (a.put oi.dst v) w) : wpAnyL P md ops Q S L (fuel + 1) listed a w :=
  wpAnyL_first hi (Region.noSelect_spec hs) hQ hL fuel listed a w (Region.free_spec hi hf) (by simpa using hr) hy hS h

/-- Just one may come up, and it is not number L. -/
theorem wpAnyL_one {i : Nat} {o : Oper} {fuel : Nat} {listed : Array Bool} {a : Act} {w : World} (hr : Region.ready md ops listed = [i]) (ho : ops[i]? = some o)
    (h : ∀ K' : Act → World → Prop, Shut (∀ a w, S w → (S w → wpAnyL P md ops Q S L fuel (listed.setIfInBounds i true) a w) → K' a w) → if Region.wanted o (yielded ops a.tmps) = true then Oper.wp P o a w K' Q else K' (a.put o.dst undef) w) :
    wpAnyL P md ops Q S L (fuel + 1) listed a w := by
  refine ⟨fun h0 => (by rw [hr] at h0; cases h0), fun j hj => ?_⟩
  rw [hr] at hj
  obtain rfl : j = i := by simpa using hj
  exact wpOp_step ho (fun K' hK => h K' (fun a w hS hW => hK a w ⟨.inr hS, hW hS⟩))

/-- Number L comes up, the last of all. -/
theorem wpAnyL_end {o : Oper} {fuel : Nat} {listed : Array Bool} {a : Act} {w : World} (hr : Region.ready md ops listed = [L]) (ho : ops[L]? = some o) (he : Region.ready md ops (listed.setIfInBounds L true) = [])
    (h : ∀ K' : Act → World → Prop, Shut (∀ a w, Q .normal a w → K' a w) → if Region.wanted o (yielded ops a.tmps) = true then Oper.wp P o a w K' Q else K' (a.put o.dst undef) w) :
    wpAnyL P md ops Q S L (fuel + 1) listed a w := by
  refine ⟨fun h0 => (by rw [hr] at h0; cases h0), fun j hj => ?_⟩
  rw [hr] at hj
  obtain rfl : j = L := by simpa using hj
  refine wpOp_step ho (fun K' hK => h K' (fun a w hq => hK a w ⟨.inl rfl, ?_⟩))
  cases fuel with
  | zero => exact ⟨he, hq⟩
  | succ n => exact ⟨fun _ => hq, by rw [he]; intro i hi; cases hi⟩

theorem wp_region_last {id : Nat} {a : Act} {w : World} (S : World → Prop) (L : Nat) (hm : P.follows .mixedOrders = true) (hS : S w.drew)
    (h : S w.drew → wpAnyL P .any ops Q S L ops.size (Array.replicate ops.size false) a w.drew) : (Code.region id ops true).wp P Q a w :=
  wp_region_any hm (wpAny_of_last _ _ _ _ (h hS))
end
end Go.Proofs.Ytilcbdhcojgcbaa
/- A region in whatever order: its end; two at once. -/
namespace Go.Proofs.Ytilcbdhcojgcbaa
open Go

section
variable {P : Program} {ops : Array Oper} {Q : Exit → Act → World → Prop} {md : Region.Mode} {S : World → Prop} {L : Nat}

/-- All have come up. -/
theorem wpAnyL_done {fuel : Nat} {listed : Array Bool} {a : Act} {w : World} (hr : Region.ready md ops listed = []) (hq : Q .normal a w) : wpAnyL P md ops Q S L fuel listed a w := by
  cases fuel with
  | zero => exact ⟨hr, hq⟩
  | succ n => exact ⟨fun _ => hq, by rw [hr]; intro i hi; cases hi⟩

/-- Just two may come up. -/
theorem wpAnyL_two {i j : Nat} {o o' : Oper} {fuel : Nat} {listed : Array Bool} {a : Act} {w : World} (hr : Region.ready md ops listed = [i, j]) (ho : ops[i]? = some o) (ho' : ops[j]? = some o')
    (h : ∀ K' : Act → World → Prop, Shut (∀ a w, S w → (S w → wpAnyL P md ops Q S L fuel (listed.setIfInBounds i true) a w) → K' a w) → if Region.wanted o (yielded ops a.tmps) = true then Oper.wp P o a w K' Q else K' (a.put o.dst undef) w)
    (h' : ∀ K' : Act → World → Prop, Shut (∀ a w, S w → (S w → wpAnyL P md ops Q S L fuel (listed.setIfInBounds j true) a w) → K' a w) → if Region.wanted o' (yielded ops a.tmps) = true then Oper.wp P o' a w K' Q else K' (a.put o'.dst undef) w) :
    wpAnyL P md ops Q S L (fuel + 1) listed a w := by
  refine ⟨fun h0 => (by rw [hr] at h0; cases h0), fun k hk => ?_⟩
  rw [hr] at hk
  rcases (show k = i ∨ k = j by simpa using hk) with rfl | rfl
  · exact wpOp_step ho (fun K' hK => h K' (fun a w hS hW => hK a w ⟨.inr hS, hW hS⟩))
  · exact wpOp_step ho' (fun K' hK => h' K' (fun a w hS hW => hK a w ⟨.inr hS, hW hS⟩))

end
end Go.Proofs.Ytilcbdhcojgcbaa
/- (impl.signature).record by its contract. -/
namespace Go.Proofs.Ytilcbdhcojgcbaa
open Go.RowKit
set_option linter.unusedVariables false

/-- a signature's cells -/
def sgC (nm : ByteArray) (t f : Nat) (sum : List UInt8) (id : Nat) : List Value := .string nm :: .int .i64 (t : Int) :: .int .i64 (f : Int) :: (Nm.bys sum ++ [.int .i64 (id : Int)])
def sgA (nm : ByteArray) (t f : Nat) (sum : List UInt8) (id : Nat) : Array Value := (sgC nm t f sum id).toArray
theorem sgA_size {nm : ByteArray} {t f id : Nat} {sum : List UInt8} (h : sum.length = 32) : (sgA nm t f sum id).size = 36 := by simp [sgA, sgC, Nm.bys_length, h]
theorem sgA_0 {nm : ByteArray} {t f id : Nat} {sum : List UInt8} : (sgA nm t f sum id)[0]? = some (.string nm) := by simp [sgA, sgC]
theorem sgA_1 {nm : ByteArray} {t f id : Nat} {sum : List UInt8} : (sgA nm t f sum id)[1]? = some (.int .i64 (t : Int)) := by simp [sgA, sgC]
theorem sgA_2 {nm : ByteArray} {t f id : Nat} {sum : List UInt8} : (sgA nm t f sum id)[2]? = some (.int .i64 (f : Int)) := by simp [sgA, sgC]
theorem sgA_35 {nm : ByteArray} {t f id : Nat} {sum : List UInt8} (h : sum.length = 32) : (sgA nm t f sum id)[35]? = some (.int .i64 (id : Int)) := by
  simp only [sgA, sgC, List.getElem?_toArray]
  show (Nm.bys sum ++ [.int .i64 (id : Int)])[32]? = _
  rw [List.getElem?_append_right (by rw [Nm.bys_length]; omega), Nm.bys_length, h]
  rfl
theorem sgA_sum {nm : ByteArray} {t f id i : Nat} {sum : List UInt8} {x : Value} (h : (Nm.bys sum)[i]? = some x) : (sgA nm t f sum id)[3 + i]? = some x := by
  simp only [sgA, sgC, List.getElem?_toArray]
  rw [show 3 + i = i + 1 + 1 + 1 by omega, List.getElem?_cons_succ, List.getElem?_cons_succ, List.getElem?_cons_succ, List.getElem?_append_left (List.getElem?_eq_some_iff.1 h).1]
  exact h

/-- the sum within a signature is read as text -/
theorem sum_str {w : World} {g : Nat} {nm : ByteArray} {t f id : Nat} {sum : List UInt8} {T : TypeId} (h : Blk w g (sgA nm t f sum id) T) (hs : sum.length = 32) : (convert 22 9 (.slice (some ⟨g, 3, none⟩) 32 32)).run Try.prog w = .ok (.string ⟨sum.toArray⟩) w := by
  refine row_strB (n := 32) ⟨by rw [Nm.bys_length, hs], _, _, rfl, Nat.le_refl _, by unfold maxLen; omega, fun _ => ⟨g, 3, rfl, fun i x hx => ?_⟩⟩
  rw [blk_cell h]
  exact sgA_sum hx

theorem cat_ex (x y : List UInt8) (X Y : ByteArray) (hX : X = ⟨x.toArray⟩) (hY : Y = ⟨y.toArray⟩) (hb : x.length + y.length ≤ 100000000) : ∃ C, (∀ W, (Go.Op.stringOp .add X Y).run Try.prog W = .ok (.string C) W) ∧ C = ⟨(x ++ y).toArray⟩ := by
  subst hX
  subst hY
  refine ⟨_, fun W => run_string_add_sum W _ _ (by rw [ba_size, ba_size]; omega), ba_cat x y⟩

/-- A struct or an array handed back. -/
theorem run_results_row {P : Program} {fn : Func} {tmps : Array Value} {w : World} {r : Nat} {t : TypeId} {p : Nat} {cs : Array Value} {d : TypeDesc} (hf : fn.results = #[.cell r t]) (ht : tmps[r]?.getD undef = .pointer (some ⟨p, 0, none⟩)) (hk : Blk w p cs t)
    (hu : P.underlying t = some d) (hd : (match d with | .struct _ | .array _ _ => true | _ => false) = true) (hi : (P.info? t).map (·.size) = some cs.size) : (results fn tmps).run P w = .ok (.agg cs) w := by
  have hl := run_loadVar_row w p t t cs (0, 0) d hk hu hd hi
  simp [results, hf, ht, asAddr, hl]

set_option maxRecDepth 100000 in
set_option maxHeartbeats 3200000 in
theorem record_any (nm : ByteArray) (t f id : Nat) (sum : List UInt8) (hs : sum.length = 32) (ht : t ≤ 281474976710655) (hf : f ≤ 65535) (hi : id ≤ 65535) (w : World) :
    Calls Try.prog 60 #[.agg (sgA nm t f sum id)] w fun e w' => e = .returned (.agg #[.string nm, .int .i64 250, .int .i64 255, .int .i64 0, .string ⟨(datL t f sum id).toArray⟩]) ∧ Below w.heap.size w w' := by
  have hz5 : ∀ W, (zeroValue 56).run Try.prog W = .ok (.agg #[.string ByteArray.empty, .int .i64 0, .int .i64 0, .int .i64 0, .string ByteArray.empty]) W := by
    have := zero_of_info (P := Try.prog) (t := 56) (v := .agg #[.string ByteArray.empty, .int .i64 0, .int .i64 0, .int .i64 0, .string ByteArray.empty]) (n := 5) (by kernel_rfl)
    exact this.1
  have h6 : ∀ W, Calls Try.prog 71 #[.int .i64 (t : Int), .int .i64 6] W fun e w' => e = .returned (.string ⟨(bigL t 6).toArray⟩) ∧ Below W.heap.size W w' := fun W => bigBytesN_any t 6 W (by omega) (by decide) (by decide)
  have h2 : ∀ W, Calls Try.prog 71 #[.int .i64 (f : Int), .int .i64 2] W fun e w' => e = .returned (.string ⟨(bigL f 2).toArray⟩) ∧ Below W.heap.size W w' := fun W => bigBytesN_any f 2 W (by omega) (by decide) (by decide)
  have h3 : ∀ W, Calls Try.prog 71 #[.int .i64 32, .int .i64 2] W fun e w' => e = .returned (.string ⟨(bigL 32 2).toArray⟩) ∧ Below W.heap.size W w' := fun W => bigBytesN_any 32 2 W (by omega) (by decide) (by decide)
  have h4 : ∀ W, Calls Try.prog 71 #[.int .i64 (id : Int), .int .i64 2] W fun e w' => e = .returned (.string ⟨(bigL id 2).toArray⟩) ∧ Below W.heap.size W w' := fun W => bigBytesN_any id 2 W (by omega) (by decide) (by decide)
  obtain ⟨C7, a7, e7⟩ := cat_ex algL (bigL t 6) ⟨#[11, 104, 109, 97, 99, 45, 115, 104, 97, 50, 53, 54, 0]⟩ ⟨(bigL t 6).toArray⟩ rfl rfl (by simp [big_len])
  obtain ⟨C11, a11, e11⟩ := cat_ex _ (bigL f 2) C7 ⟨(bigL f 2).toArray⟩ e7 rfl (by simp [big_len])
  obtain ⟨C13, a13, e13⟩ := cat_ex _ (bigL 32 2) C11 ⟨(bigL 32 2).toArray⟩ e11 rfl (by simp [big_len])
  obtain ⟨C17, a17, e17⟩ := cat_ex _ sum C13 ⟨sum.toArray⟩ e13 rfl (by simp [big_len, hs])
  obtain ⟨C21, a21, e21⟩ := cat_ex _ (bigL id 2) C17 ⟨(bigL id 2).toArray⟩ e17 rfl (by simp [big_len, hs])
  obtain ⟨C22, a22, e22⟩ := cat_ex _ [0, 0, 0, 0] C21 ⟨#[0, 0, 0, 0]⟩ e21 rfl (by simp [big_len, hs])
  have HD : Hid ((⟨(datL t f sum id).toArray⟩ : ByteArray) = C22) := e22.symm
  rw [HD.out]
  clear e7 e11 e13 e17 e21 e22 HD
  have k0 := blk_alloc (blk_new w (sgA nm t f sum id) 73) (.cells #[.string ByteArray.empty, .int .i64 0, .int .i64 0, .int .i64 0, .string ByteArray.empty] 56)
  have hB0 := (Below.refl w.heap.size w).alloc (Nat.le_refl _) (.cells (sgA nm t f sum id) 73)
  have hB1 := hB0.alloc hB0.size (.cells #[.string ByteArray.empty, .int .i64 0, .int .i64 0, .int .i64 0, .string ByteArray.empty] 56)
  have kR := blk_new (w.alloc (.cells (sgA nm t f sum id) 73)) #[.string ByteArray.empty, .int .i64 0, .int .i64 0, .int .i64 0, .string ByteArray.empty] 56
  rw [World.size_alloc] at kR
  obtain ⟨W1, hW1⟩ : ∃ W1, W1 = (w.alloc (.cells (sgA nm t f sum id) 73)).alloc (.cells #[.string ByteArray.empty, .int .i64 0, .int .i64 0, .int .i64 0, .string ByteArray.empty] 56) := ⟨_, rfl⟩
  rw [← hW1] at k0 hB1 kR
  have hS : ∀ W, Below W1.heap.size W1 W → (W.cell? ⟨w.heap.size, 1, none⟩ = some (.int .i64 (t : Int)) ∧ W.cell? ⟨w.heap.size, 2, none⟩ = some (.int .i64 (f : Int)) ∧ W.cell? ⟨w.heap.size, 35, none⟩ = some (.int .i64 (id : Int)) ∧ (convert 22 9 (.slice (some ⟨w.heap.size, 3, none⟩) 32 32)).run Try.prog W = .ok (.string ⟨sum.toArray⟩) W) ∧ True := by
    intro W hW
    have k := blk_below k0 hW
    exact ⟨⟨(blk_cell k 1).trans sgA_1, (blk_cell k 2).trans sgA_2, (blk_cell k 35).trans (sgA_35 hs), sum_str k hs⟩, trivial⟩
  have hS0 := hS W1.drew (Below.refl _ _).drew
  have hbl := (Below.refl W1.heap.size W1).drew
  generalize (⟨(bigL t 6).toArray⟩ : ByteArray) = B6 at *
  generalize (⟨(bigL f 2).toArray⟩ : ByteArray) = BF at *
  generalize (⟨(bigL 32 2).toArray⟩ : ByteArray) = B3 at *
  generalize (⟨(bigL id 2).toArray⟩ : ByteArray) = BI at *
  generalize (⟨sum.toArray⟩ : ByteArray) = SM at *
  clear ht hf hi
  go_enter Try.func60, Try.ntmps60
  go_wp2
  rw [← hW1]
  clear hW1
  refine wp_region_last (S := fun W => (W.cell? ⟨w.heap.size, 1, none⟩ = some (.int .i64 (t : Int)) ∧ W.cell? ⟨w.heap.size, 2, none⟩ = some (.int .i64 (f : Int)) ∧ W.cell? ⟨w.heap.size, 35, none⟩ = some (.int .i64 (id : Int)) ∧ (convert 22 9 (.slice (some ⟨w.heap.size, 3, none⟩) 32 32)).run Try.prog W = .ok (.string SM) W) ∧ True) (L := 1000) (by kernel_rfl) hS0 (fun hH => ?_)
  clear hS0
  refine wpAnyL_take (i := 0) (v := ?_) rfl (by kernel_rfl) (by kernel_rfl) (by kernel_rfl) (by kernel_rfl) (fun _ _ _ h => h) (Or.inl ⟨by rfl, ?_⟩) (by assumption) ?_
  rotate_left 1
  · (intro w hSw; go_simp; try (with_reducible rfl))
  refine wpAnyL_take (i := 1) (v := ?_) rfl (by kernel_rfl) (by kernel_rfl) (by kernel_rfl) (by kernel_rfl) (fun _ _ _ h => h) (Or.inl ⟨by rfl, ?_⟩) (by assumption) ?_
  rotate_left 1
  · (intro w hSw; go_simp; try (with_reducible rfl))
  refine wpAnyL_take (i := 4) (v := ?_) rfl (by kernel_rfl) (by kernel_rfl) (by kernel_rfl) (by kernel_rfl) (fun _ _ _ h => h) (Or.inl ⟨by rfl, ?_⟩) (by assumption) ?_
  rotate_left 1
  · (intro w hSw; go_simp; try (with_reducible rfl))
  refine wpAnyL_take (i := 5) (v := ?_) rfl (by kernel_rfl) (by kernel_rfl) (by kernel_rfl) (by kernel_rfl) (fun _ _ _ h => h) (Or.inl ⟨by rfl, ?_⟩) (by assumption) ?_
  rotate_left 1
  · (intro w hSw; go_simp; try (with_reducible rfl))
  refine wpAnyL_take (i := 10) (v := ?_) rfl (by kernel_rfl) (by kernel_rfl) (by kernel_rfl) (by kernel_rfl) (fun _ _ _ h => h) (Or.inl ⟨by rfl, ?_⟩) (by assumption) ?_
  rotate_left 1
  · (intro w hSw; go_simp; try (with_reducible rfl))
  refine wpAnyL_take (i := 11) (v := ?_) rfl (by kernel_rfl) (by kernel_rfl) (by kernel_rfl) (by kernel_rfl) (fun _ _ _ h => h) (Or.inl ⟨by rfl, ?_⟩) (by assumption) ?_
  rotate_left 1
  · (intro w hSw; go_simp; try (with_reducible rfl))
  refine wpAnyL_take (i := 12) (v := ?_) rfl (by kernel_rfl) (by kernel_rfl) (by kernel_rfl) (by kernel_rfl) (fun _ _ _ h => h) (Or.inl ⟨by rfl, ?_⟩) (by assumption) ?_
  rotate_left 1
  · (intro w hSw; go_simp; try (with_reducible rfl))
  refine wpAnyL_take (i := 14) (v := ?_) rfl (by kernel_rfl) (by kernel_rfl) (by kernel_rfl) (by kernel_rfl) (fun _ _ _ h => h) (Or.inl ⟨by rfl, ?_⟩) (by assumption) ?_
  rotate_left 1
  · (intro w hSw; go_simp; try (with_reducible rfl))
  refine wpAnyL_take (i := 15) (v := ?_) rfl (by kernel_rfl) (by kernel_rfl) (by kernel_rfl) (by kernel_rfl) (fun _ _ _ h => h) (Or.inl ⟨by rfl, ?_⟩) (by assumption) ?_
  rotate_left 1
  · (intro w hSw; go_simp; try (with_reducible rfl))
  refine wpAnyL_one (i := 2) (by kernel_rfl) rfl (fun K hK => ?_)
  go_simp
  refine (h6 _).mono ?_
  rintro e w3 ⟨rfl, hb3⟩
  have hb4 := Nm.below_two hbl hb3
  clear hbl hb3
  have hbl := hb4
  clear hb4
  go_wp2_with fail
  refine hK.out _ _ (hS _ hbl) (fun hH => ?_)
  clear hK K
  refine wpAnyL_take (i := 3) (v := ?_) rfl (by kernel_rfl) (by kernel_rfl) (by kernel_rfl) (by kernel_rfl) (fun _ _ _ h => h) (Or.inl ⟨by rfl, ?_⟩) (by assumption) ?_
  rotate_left 1
  · (intro w hSw; go_simp; try (with_reducible rfl))
  refine wpAnyL_one (i := 6) (by kernel_rfl) rfl (fun K hK => ?_)
  go_simp
  refine (h2 _).mono ?_
  rintro e w3 ⟨rfl, hb3⟩
  have hb4 := Nm.below_two hbl hb3
  clear hbl hb3
  have hbl := hb4
  clear hb4
  go_wp2_with fail
  refine hK.out _ _ (hS _ hbl) (fun hH => ?_)
  clear hK K
  refine wpAnyL_take (i := 7) (v := ?_) rfl (by kernel_rfl) (by kernel_rfl) (by kernel_rfl) (by kernel_rfl) (fun _ _ _ h => h) (Or.inl ⟨by rfl, ?_⟩) (by assumption) ?_
  rotate_left 1
  · (intro w hSw; go_simp; try (with_reducible rfl))
  refine wpAnyL_one (i := 8) (by kernel_rfl) rfl (fun K hK => ?_)
  go_simp
  refine (h3 _).mono ?_
  rintro e w3 ⟨rfl, hb3⟩
  have hb4 := Nm.below_two hbl hb3
  clear hbl hb3
  have hbl := hb4
  clear hb4
  go_wp2_with fail
  refine hK.out _ _ (hS _ hbl) (fun hH => ?_)
  clear hK K
  refine wpAnyL_take (i := 9) (v := ?_) rfl (by kernel_rfl) (by kernel_rfl) (by kernel_rfl) (by kernel_rfl) (fun _ _ _ h => h) (Or.inl ⟨by rfl, ?_⟩) (by assumption) ?_
  rotate_left 1
  · (intro w hSw; go_simp; try (with_reducible rfl))
  refine wpAnyL_take (i := 13) (v := ?_) rfl (by kernel_rfl) (by kernel_rfl) (by kernel_rfl) (by kernel_rfl) (fun _ _ _ h => h) (Or.inl ⟨by rfl, ?_⟩) (by assumption) ?_
  rotate_left 1
  · (intro w hSw; go_simp; try (with_reducible rfl))
  refine wpAnyL_one (i := 16) (by kernel_rfl) rfl (fun K hK => ?_)
  go_simp
  refine (h4 _).mono ?_
  rintro e w3 ⟨rfl, hb3⟩
  have hb4 := Nm.below_two hbl hb3
  clear hbl hb3
  have hbl := hb4
  clear hb4
  go_wp2_with fail
  refine hK.out _ _ (hS _ hbl) (fun hH => ?_)
  clear hK K
  refine wpAnyL_take (i := 17) (v := ?_) rfl (by kernel_rfl) (by kernel_rfl) (by kernel_rfl) (by kernel_rfl) (fun _ _ _ h => h) (Or.inl ⟨by rfl, ?_⟩) (by assumption) ?_
  rotate_left 1
  · (intro w hSw; go_simp; try (with_reducible rfl))
  refine wpAnyL_take (i := 18) (v := ?_) rfl (by kernel_rfl) (by kernel_rfl) (by kernel_rfl) (by kernel_rfl) (fun _ _ _ h => h) (Or.inl ⟨by rfl, ?_⟩) (by assumption) ?_
  rotate_left 1
  · (intro w hSw; go_simp; try (with_reducible rfl))
  refine wpAnyL_take (i := 19) (v := ?_) rfl (by kernel_rfl) (by kernel_rfl) (by kernel_rfl) (by kernel_rfl) (fun _ _ _ h => h) (Or.inl ⟨by rfl, ?_⟩) (by assumption) ?_
  rotate_left 1
  · (intro w hSw; go_simp; try (with_reducible rfl))
  refine wpAnyL_done (by kernel_rfl) ?_
  have k1 := blk_below k0 hbl
  have kR1 := blk_below kR hbl
  have hBB := Nm.below_two hB1 hbl
  have hsz := hBB.size
  have q0 := (blk_cell k1 0).trans sgA_0
  clear hS a7 a11 a13 a17 a21 a22 h6 h2 h3 h4 hH
  go_wp2_with (refine wpList_store_blk (.tmp 2) (.tmp 26) 56 rfl rfl rfl (w.heap.size + 1) _ _ kR1 rfl rfl (by kernel_rfl) rfl (by kernel_rfl) ?_; intro w9 k9 o9)
  have hb9 := o9.below hBB (by omega) hsz
  exact bodyPost_ret (v := .agg _) (run_results_row Try.results60 rfl k9 Try.underlying56 (by kernel_rfl) (by kernel_rfl)) rfl ⟨rfl, hb9⟩
end Go.Proofs.Ytilcbdhcojgcbaa
/- impl.turn by its contract. -/
namespace Go.Proofs.Ytilcbdhcojgcbaa
open Go.RowKit
set_option linter.unusedVariables false

theorem and31 {n : Nat} (h1 : 1 ≤ n) (h2 : n ≤ 31) : bits .and .u64 (IntKind.u64.wrap (-(n : Int))) 31 = ((32 - n : Nat) : Int) := by
  have e : ∀ k : Fin 31, bits .and .u64 (IntKind.u64.wrap (-((k.val + 1 : Nat) : Int))) 31 = ((32 - (k.val + 1) : Nat) : Int) := by decide
  have := e ⟨n - 1, by omega⟩
  rw [show n - 1 + 1 = n by omega] at this
  exact this
end Go.Proofs.Ytilcbdhcojgcbaa
/- (impl.block).words by its contract. -/
namespace Go.Proofs.Ytilcbdhcojgcbaa
open Go.RowKit
set_option linter.unusedVariables false

def blA (t : List UInt8) : Array Value := ((List.range 64).map fun j => Value.int .u8 ((bW t j).toNat : Int)).toArray
theorem blA_at (t : List UInt8) {j : Nat} (h : j < 64) : (blA t)[j]? = some (.int .u8 ((bW t j).toNat : Int)) := by simp [blA, h]
theorem blA_size (t : List UInt8) : (blA t).size = 64 := by simp [blA]
theorem wA_size (m : Nat → Wd) (i : Nat) : (wA m i).size = 64 := by simp [wA]
theorem wA_one (m : Nat → Wd) (i : Nat) : (wA m i).all (·.oneCell') = true := Array.all_eq_true_iff_forall_mem.2 (fun v hv => by
  simp only [wA, List.mem_toArray, List.mem_map] at hv
  obtain ⟨j, _, rfl⟩ := hv
  split <;> rfl)
theorem b_wide' (x : Wd) (h : x.toNat < 256) : IntKind.u32.wrap (x.toNat : Int) = (x.toNat : Int) := u32_wrap _ (by omega)

end Go.Proofs.Ytilcbdhcojgcbaa
/- Sha256's blocks: mathematics. -/
namespace Go.Proofs.Ytilcbdhcojgcbaa
open Go.RowKit
set_option linter.unusedVariables false

theorem bW_drop (t : List UInt8) (n k : Nat) : bW (t.drop n) k = bW t (n + k) := by simp [bW, List.getElem?_drop]
theorem wordAt_drop (t : List UInt8) (n k : Nat) : wordAt (t.drop n) k = wordAt t (n + k) := by
  simp only [wordAt, bW_drop, Nat.add_assoc]
theorem hash_step (t : List UInt8) (n : Nat) : addSv (hashW t n) (roundsW (fun i => wordAt (t.drop (64 * n)) (4 * i)) (hashW t n) 64) = hashW t (n + 1) := by
  simp only [wordAt_drop]
  rfl
/-- A block's cells, as a list. -/
theorem blA_list (t : List UInt8) : (blA t).toList = (List.range 64).map fun j => Value.int .u8 ((bW t j).toNat : Int) := rfl
theorem bl_ext {L : List Value} {t : List UInt8} (hl : L.length = 64) (h : ∀ j, j < 64 → L[j]? = some (.int .u8 ((bW t j).toNat : Int))) : L.toArray = blA t := by
  apply Array.ext_getElem?
  intro j
  by_cases hj : j < 64
  · rw [blA_at t hj, List.getElem?_toArray]
    exact h j hj
  · simp [blA, hj, hl]
theorem pad_low (l : List UInt8) {j : Nat} (h : j < l.length) : bW (padL l) j = bW l j := by
  simp only [bW, padL, padTo_eq]
  rw [List.append_assoc, List.append_assoc, List.getElem?_append_left h]
theorem pad_one (l : List UInt8) : bW (padL l) l.length = 128 := by
  simp only [bW, padL, padTo_eq]
  rw [List.append_assoc, List.append_assoc, List.getElem?_append_right (Nat.le_refl _), Nat.sub_self]
  rfl
theorem pad_zero (l : List UInt8) {j : Nat} (h1 : l.length < j) (h2 : j < l.length + 1 + zN l.length) : bW (padL l) j = 0 := by
  simp only [bW, padL, padTo_eq]
  rw [List.append_assoc, List.getElem?_append_right (by simp; omega), List.getElem?_append_left (by simp; omega)]
  simp
  rw [List.getElem?_replicate]
  split <;> rfl
theorem pad_len (l : List UInt8) {i : Nat} (h : i < 8) : bW (padL l) (l.length + 1 + zN l.length + i) = BitVec.ofNat 32 (UInt8.ofNat (8 * l.length / 2 ^ (8 * (7 - i)))).toNat := by
  simp only [bW, padL]
  rw [List.getElem?_append_right (by rw [padTo_len]; omega), padTo_len, show l.length + 1 + zN l.length + i - (l.length + 1 + zN l.length) = i by omega]
  simp [lenL, h]
theorem b8_nat (c : UInt8) : (BitVec.ofNat 32 c.toNat).toNat = c.toNat := by
  rw [BitVec.toNat_ofNat]
  have := c.toNat_lt
  omega
theorem spl_get : ∀ (vs : List Value) (cs : Array Value) (o j : Nat), o + vs.length ≤ cs.size → (spl cs o vs)[j]? = if o ≤ j ∧ j < o + vs.length then vs[j - o]? else cs[j]?
  | [], cs, o, j, h => by
    rw [if_neg (by simp)]
    rfl
  | v :: r, cs, o, j, h => by
    have hl : (v :: r).length = r.length + 1 := rfl
    rw [spl, spl_get r _ (o + 1) j (by simp at h ⊢; omega), Array.getElem?_setIfInBounds]
    by_cases h1 : o + 1 ≤ j ∧ j < o + 1 + r.length
    · rw [if_pos h1, if_pos (by omega), show j - o = (j - (o + 1)) + 1 by omega]
      rfl
    · rw [if_neg h1]
      by_cases h2 : o = j
      · subst h2
        rw [if_pos rfl, if_pos (by rw [hl] at h; omega), if_pos (by rw [hl]; omega), Nat.sub_self]
        rfl
      · rw [if_neg h2, if_neg (by rw [hl]; omega)]
theorem bl_ext2 {A : Array Value} {t : List UInt8} (hl : A.size = 64) (h : ∀ j, j < 64 → A[j]? = some (.int .u8 ((bW t j).toNat : Int))) : A = blA t := by
  apply Array.ext_getElem?
  intro j
  by_cases hj : j < 64
  · rw [blA_at t hj]
    exact h j hj
  · rw [Array.getElem?_eq_none (by omega), Array.getElem?_eq_none (by rw [blA_size]; omega)]
/-- The last block ahead of its length. -/
def lastA (l : List UInt8) (n : Nat) : Array Value := (splice (Array.replicate 64 (Value.int .u8 0)).toList 0 (Nm.bys (l.drop (64 * n)))).toArray.setIfInBounds (l.length - 64 * n) (.int .u8 128)
theorem lastA_size {l : List UInt8} {n : Nat} (h2 : l.length < 64 * n + 64) : (lastA l n).size = 64 := by
  simp [lastA, splice, Nm.bys]
  omega
theorem lastA_at {l : List UInt8} {n : Nat} (h1 : 64 * n ≤ l.length) (h2 : l.length < 64 * n + 64) {j : Nat} (hj : j < 64) :
    (lastA l n)[j]? = some (if j < l.length - 64 * n then .int .u8 ((bW l (64 * n + j)).toNat : Int) else if j = l.length - 64 * n then .int .u8 128 else .int .u8 0) := by
  have hs : (splice (Array.replicate 64 (Value.int .u8 0)).toList 0 (Nm.bys (l.drop (64 * n)))).length = 64 := by simp [splice, Nm.bys]; omega
  have hd : (Nm.bys (l.drop (64 * n))).length = l.length - 64 * n := by simp [Nm.bys]
  rw [lastA, Array.getElem?_setIfInBounds]
  by_cases he : l.length - 64 * n = j
  · rw [if_pos he, if_pos (by rw [List.size_toArray, hs]; omega), if_neg (by omega), if_pos he.symm]
  · rw [if_neg he, List.getElem?_toArray]
    simp only [splice, List.take_zero, List.nil_append]
    by_cases hlt : j < l.length - 64 * n
    · rw [if_pos hlt, List.getElem?_append_left (by omega)]
      have hx : l[64 * n + j]? = some (l[64 * n + j]'(by omega)) := List.getElem?_eq_getElem (by omega)
      simp only [Nm.bys, List.getElem?_map, List.getElem?_drop, hx, Option.map_some, bW, b8_nat, Option.getD_some]
    · rw [if_neg hlt, if_neg (by omega), List.getElem?_append_right (by omega), List.getElem?_drop, Array.getElem?_toList, Array.getElem?_replicate, if_pos (by omega)]
theorem last_long {l : List UInt8} {n : Nat} (h1 : 64 * n ≤ l.length) (h2 : l.length < 64 * n + 64) (h3 : 64 * n + 56 ≤ l.length) : lastA l n = blA ((padL l).drop (64 * n)) := by
  refine bl_ext2 (lastA_size h2) (fun j hj => ?_)
  rw [lastA_at h1 h2 hj, bW_drop]
  have hz : zN l.length = 119 - (l.length - 64 * n) := by unfold zN; omega
  by_cases ha : j < l.length - 64 * n
  · rw [if_pos ha, pad_low l (by omega)]
  · rw [if_neg ha]
    by_cases hb : j = l.length - 64 * n
    · rw [if_pos hb, show 64 * n + j = l.length by omega, pad_one]
      rfl
    · rw [if_neg hb, pad_zero l (by omega) (by omega)]
      rfl
theorem len_bytes (l : List UInt8) : bytesV ⟨(bigL (8 * l.length) 8).toArray⟩ = (lenL l.length).map fun c => Value.int .u8 (c.toNat : Int) := rfl
theorem lenV_at (l : List UInt8) {i : Nat} (h : i < 8) : (bytesV ⟨(bigL (8 * l.length) 8).toArray⟩)[i]? = some (.int .u8 ((UInt8.ofNat (8 * l.length / 2 ^ (8 * (7 - i)))).toNat : Int)) := by
  rw [len_bytes]
  simp [lenL, h]
theorem lenV_len (l : List UInt8) : (bytesV ⟨(bigL (8 * l.length) 8).toArray⟩).length = 8 := by rw [len_bytes]; simp [lenL]
theorem last_short {l : List UInt8} {n : Nat} (h1 : 64 * n ≤ l.length) (h2 : l.length < 64 * n + 56) : spl (lastA l n) 56 (bytesV ⟨(bigL (8 * l.length) 8).toArray⟩) = blA ((padL l).drop (64 * n)) := by
  have hs := lastA_size (l := l) (n := n) (by omega)
  refine bl_ext2 (by rw [spl_size, hs]) (fun j hj => ?_)
  rw [spl_get _ _ _ _ (by rw [lenV_len, hs]; decide), lenV_len, bW_drop]
  have hz : zN l.length = 55 - (l.length - 64 * n) := by unfold zN; omega
  by_cases hc : 56 ≤ j ∧ j < 56 + 8
  · rw [if_pos hc, lenV_at l (by omega), show 64 * n + j = l.length + 1 + zN l.length + (j - 56) by omega, pad_len l (by omega), b8_nat]
  · rw [if_neg hc, lastA_at h1 (by omega) hj]
    by_cases ha : j < l.length - 64 * n
    · rw [if_pos ha, pad_low l (by omega)]
    · rw [if_neg ha]
      by_cases hb : j = l.length - 64 * n
      · rw [if_pos hb, show 64 * n + j = l.length by omega, pad_one]
        rfl
      · rw [if_neg hb, pad_zero l (by omega) (by omega)]
        rfl
theorem last_next {l : List UInt8} {n : Nat} (h1 : 64 * n + 56 ≤ l.length) (h2 : l.length < 64 * n + 64) : spl (Array.replicate 64 (Value.int .u8 0)) 56 (bytesV ⟨(bigL (8 * l.length) 8).toArray⟩) = blA ((padL l).drop (64 * (n + 1))) := by
  refine bl_ext2 (by rw [spl_size]; simp) (fun j hj => ?_)
  rw [spl_get _ _ _ _ (by rw [lenV_len]; simp), lenV_len, bW_drop]
  have hz : zN l.length = 119 - (l.length - 64 * n) := by unfold zN; omega
  by_cases hc : 56 ≤ j ∧ j < 56 + 8
  · rw [if_pos hc, lenV_at l (by omega), show 64 * (n + 1) + j = l.length + 1 + zN l.length + (j - 56) by omega, pad_len l (by omega), b8_nat]
  · rw [if_neg hc, Array.getElem?_replicate, if_pos hj, pad_zero l (by omega) (by omega)]
    rfl
theorem blocks_short {l : List UInt8} {n : Nat} (h1 : 64 * n ≤ l.length) (h2 : l.length < 64 * n + 56) : shaL l = outL (hashW (padL l) (n + 1)) := by
  have hz : zN l.length = 55 - (l.length - 64 * n) := by unfold zN; omega
  have : (padL l).length / 64 = n + 1 := by rw [padL, List.length_append, padTo_len, lenL_len]; omega
  rw [shaL, this]
theorem blocks_long {l : List UInt8} {n : Nat} (h1 : 64 * n + 56 ≤ l.length) (h2 : l.length < 64 * n + 64) : shaL l = outL (hashW (padL l) (n + 1 + 1)) := by
  have hz : zN l.length = 119 - (l.length - 64 * n) := by unfold zN; omega
  have : (padL l).length / 64 = n + 1 + 1 := by rw [padL, List.length_append, padTo_len, lenL_len]; omega
  rw [shaL, this]
end Go.Proofs.Ytilcbdhcojgcbaa
/- Stretches of a block that are written. -/
namespace Go.Proofs.Ytilcbdhcojgcbaa
open Go.RowKit
set_option linter.unusedVariables false

theorem spl_mid (l1 l2 l3 v : List Value) (h : v.length = l2.length) : spl (l1 ++ l2 ++ l3).toArray l1.length v = (l1 ++ v ++ l3).toArray := by
  apply Array.ext'
  apply List.ext_getElem?
  intro j
  rw [Array.getElem?_toList, Array.getElem?_toList, spl_get _ _ _ _ (by simp; omega)]
  simp only [List.getElem?_toArray]
  by_cases h1 : j < l1.length
  · rw [if_neg (by omega), List.append_assoc, List.append_assoc, List.getElem?_append_left h1, List.getElem?_append_left h1]
  · by_cases h2 : j < l1.length + v.length
    · rw [if_pos ⟨by omega, h2⟩, List.append_assoc, List.getElem?_append_right (by omega), List.getElem?_append_left (by omega)]
    · rw [if_neg (by omega), List.append_assoc, List.append_assoc, List.getElem?_append_right (by omega), List.getElem?_append_right (by omega), List.getElem?_append_right (by omega), List.getElem?_append_right (by omega), h]

theorem spl_sum {nm : ByteArray} {t f id : Nat} {z s : List UInt8} (hz : z.length = 32) (hs : s.length = 32) : spl (sgA nm t f z id) 3 (byA s).toList = sgA nm t f s id := by
  have e := spl_mid [.string nm, .int .i64 (t : Int), .int .i64 (f : Int)] (Nm.bys z) [.int .i64 (id : Int)] (Nm.bys s) (by rw [Nm.bys_length, Nm.bys_length, hz, hs])
  exact e

theorem wpList_store_mid {P : Program} {ops : Array Oper} {rest : List Oper} {o : Oper} {a : Act} {w : World} {Q : Exit → Act → World → Prop} (p x : Operand) (t T : TypeId) (hgd : o.guard = none) (ho : o.op = .store t p x) (hdst : o.dst = none) (b off : Nat) (c c' : Array Value) (hk : Blk w b c T)
    (hp : a.eval p = .pointer (some ⟨b, off, none⟩)) (hx : a.eval x = .agg c') (hi : (P.info? t).map (·.size) = some c'.size) (hs : off + c'.size ≤ c.size) (h1 : c'.all (·.oneCell') = true)
    (h : ∀ w', Blk w' b (spl c off c'.toList) T → Only b w w' → wpList P ops Q rest a w') : wpList P ops Q (o :: rest) a w :=
  wpList_plain hgd fun _ hK => by
    have hrun := run_storeVar_mid (P := P) w b off t c' (fun j hj => ⟨by rw [blk_cell hk, Array.getElem?_eq_getElem (by omega)]; rfl, blk_frozen hk _⟩) hi h1
    unfold Oper.wp execOp
    simp only [ho, hp, hx, Instr.storeAt, Instr.sureAddr, Sem.run_bind, Sem.run_pure, Result.andThen_ok, hrun]
    have e : a.put o.dst undef = a := by rw [hdst]; rfl
    refine hK _ _ ?_
    rw [e]
    exact h _ (blk_setCells _ _ _ _ hk) (only_setCells _ _ _ (Only.refl _ _))

/-- Two bytes of a row of one's own are written. -/
theorem own_part {w : World} {B e n g cap : Nat} {l1 l2 l3 v : List Value} (h : w.ownsRow B e 1 (.slice (some ⟨g, 0, none⟩) n cap) n (l1 ++ l2 ++ l3)) (hv : v.length = l2.length) :
    ∃ cur, Blk w g cur e ∧ l1.length + v.length ≤ cur.size ∧ ∀ w', Blk w' g (spl cur l1.length v) e → w'.ownsRow B e 1 (.slice (some ⟨g, 0, none⟩) n cap) n (l1 ++ v ++ l3) := by
  have hl := h.1
  rcases h.2 with ⟨h0, _⟩ | ⟨g', cap', cur, e1, hb, hg, hn, hm, hs, ht⟩
  · cases h0
  · cases e1
    have hc : cur = (l1 ++ l2 ++ (l3 ++ cur.toList.drop n)).toArray := by
      apply Array.ext'
      have := List.take_append_drop n cur.toList
      rw [Nat.mul_one] at ht
      rw [ht] at this
      simpa [List.append_assoc] using this.symm
    have hz : cur.size = (l1 ++ l2 ++ (l3 ++ cur.toList.drop n)).length := by
      have := congrArg Array.size hc
      simpa using this
    refine ⟨cur, hg, by rw [hz]; simp; omega, fun w' hk => ⟨by rw [← hl]; simp; omega, .inr ⟨g, cap, _, rfl, hb, hk, hn, hm, by rw [spl_size]; exact hs, ?_⟩⟩⟩
    rw [hc, spl_mid l1 l2 _ v hv]
    simp only [List.append_assoc]
    rw [← List.append_assoc, ← List.append_assoc, Nat.mul_one]
    have hln : (l1 ++ v ++ l3).length = n := by
      have := hl
      simp only [List.length_append] at this ⊢
      omega
    rw [← hln, ← List.append_assoc l1 v l3]
    exact List.take_left
end Go.Proofs.Ytilcbdhcojgcbaa
/- slices.Grow and slices.Concat of bytes, by their contracts. -/
namespace Go.Proofs.Ytilcbdhcojgcbaa
open Go.RowKit
set_option linter.unusedVariables false

theorem wpList_app_ran {P : Program} {ops : Array Oper} {rest : List Oper} {o : Oper} {a : Act} {w : World} {Q : Exit → Act → World → Prop} (hgd : o.guard = none) (s x : Operand) (t t2 : TypeId)
    (ho : o.op = .call { callee := .builtin .append, args := #[s, x], argTypes := #[t, t2] }) (v u v' : Value) (w' : World) (hs : a.eval s = v) (hx : a.eval x = u)
    (hr : (Builtin.append_ #[t, t2] o.type #[v, u]).run P w = .ok v' w') (h : wpList P ops Q rest (a.put o.dst v') w') : wpList P ops Q (o :: rest) a w :=
  wpList_plain hgd fun _ hK => by
    unfold Oper.wp execOp
    simp only [ho, resolve, invoke, builtin, Sem.run_bind, Sem.run_pure, Result.andThen_ok, List.map_toArray, List.map_cons, List.map_nil, hs, hx, hr]
    exact hK _ _ h

theorem bys_ones (l : List UInt8) : ∀ u ∈ Nm.bys l, u.oneCell' = true := by
  intro u hu
  rw [Nm.bys] at hu
  obtain ⟨b, _, rfl⟩ := List.mem_map.1 hu
  rfl

/-- append(v, u...): v a row of the call's own, u one that is read. -/
theorem own_app {w : World} {B n : Nat} {v u : Value} {l r : List UInt8} (hown : w.ownsRow B 5 1 v n (Nm.bys l)) (hv : v.ownBlock ≠ none) (hs : BySl w u r) (hn : n ≤ 10000000) (hr : r.length ≤ 10000000) (hB : B ≤ w.heap.size) :
    ∃ v' w', (Builtin.append_ #[22, 22] 22 #[v, u]).run Try.prog w = .ok v' w' ∧ w'.ownsRow B 5 1 v' (n + r.length) (Nm.bys (l ++ r)) ∧ w.grownBy w' v.ownBlock ∧ v'.ownBlock ≠ none := by
  obtain ⟨j0, hj, k0, k1, k2⟩ := info_parts Try.infoBy
  obtain ⟨hlen, a, cap, rfl, hcap, hmx, hc⟩ := hs
  cases a with
  | none =>
    have hn : r.length = 0 := by
      rcases Nat.eq_zero_or_pos r.length with h | h
      · exact h
      · obtain ⟨b, off, e, _⟩ := hc h
        cases e
    have hl0 : r = [] := List.eq_nil_of_length_eq_zero hn
    subst hl0
    rcases hown.2 with ⟨rfl, rfl⟩ | ⟨g, cap', cur, rfl, hbg, hg, hnc, hcm, hcs, htake⟩
    · exact absurd rfl hv
    · refine ⟨_, _, run_append_room_src (P := Try.prog) w 22 22 22 5 j0 Try.underlying22 hj g 0 n cap' (.slice none 0 cap) 0 [] (Src.ofNil _ Try.underlying22 cap) (by omega) (by simp) (by simp), ?_, ⟨rfl, rfl, rfl, Nat.le_refl _, fun _ _ _ => rfl⟩, by simp [Value.ownBlock]⟩
      rw [List.append_nil]
      exact hown
  | some x =>
    obtain ⟨v', w', h1, h2, h3, h4⟩ := run_append_own (P := Try.prog) w B 22 22 5 j0 (.int .u8 0) 1 1 Try.underlying22 hj k0 k1 k2 rfl (by decide) v n (Nm.bys l) hown x r.length cap (Nm.bys r) hlen (by
      intro j u hu
      have hp : 0 < r.length := by
        rcases Nat.eq_zero_or_pos r.length with h | h
        · have : r = [] := List.eq_nil_of_length_eq_zero h
          subst this
          simp [Nm.bys] at hu
        · exact h
      obtain ⟨b, off, e, hcell⟩ := hc hp
      simp only [Option.some.injEq] at e
      subst e
      rw [Nm.addr_add]
      exact hcell j u hu) (bys_ones r) (by unfold maxLen; omega) (by omega) hB
    refine ⟨v', w', h1, by rw [Nm.bys_append]; exact h2, h3, ?_⟩
    intro e
    rcases h2.2 with ⟨rfl, hz⟩ | ⟨g, cap', cur, rfl, _⟩
    · have := (h4.1 rfl).1
      rw [this] at hv
      exact hv rfl
    · cases e

end Go.Proofs.Ytilcbdhcojgcbaa
/- A signature's cells: more of them. -/
namespace Go.Proofs.Ytilcbdhcojgcbaa
open Go.RowKit
set_option linter.unusedVariables false

def z32 : List UInt8 := List.replicate 32 0
theorem z32_len : z32.length = 32 := rfl
theorem sgA_one (nm : ByteArray) (t f id : Nat) (s : List UInt8) : (sgA nm t f s id).all (·.oneCell') = true := Array.all_eq_true_iff_forall_mem.2 (fun v hv => by
  simp only [sgA, sgC, List.mem_toArray, List.mem_cons, List.mem_append, List.not_mem_nil, or_false] at hv
  rcases hv with rfl | rfl | rfl | hv | rfl
  · rfl
  · rfl
  · rfl
  · exact bys_ones _ v hv
  · rfl)

/-- a stretch of bytes that is read -/
theorem cut_by {w : World} {a : Option Addr} {m : List UInt8} {cap lo n : Nat} (h : BySl w (.slice a m.length cap) m) (hn : lo + n ≤ m.length) (hp : 0 < n) : ∃ b off, a = some ⟨b, off, none⟩ ∧ CRow w (.slice (some ⟨b, off + lo, none⟩) n (cap - lo)) n 1 (Nm.bys ((m.drop lo).take n)) := by
  obtain ⟨_, a', c', e, h1, h2, h3⟩ := h
  cases e
  obtain ⟨b, off, rfl, hc⟩ := h3 (by omega)
  refine ⟨b, off, rfl, by rw [Nm.bys_length, List.length_take, List.length_drop]; omega, _, _, rfl, by omega, by omega, fun _ => ⟨b, off + lo, rfl, fun i x hx => ?_⟩⟩
  have hi : i < n := by
    have := (List.getElem?_eq_some_iff.1 hx).1
    rw [Nm.bys_length, List.length_take] at this
    omega
  rw [Nat.add_assoc]
  refine hc (lo + i) x ?_
  simp only [Nm.bys, List.getElem?_map] at hx ⊢
  rw [List.getElem?_take_of_lt hi, List.getElem?_drop] at hx
  exact hx
end Go.Proofs.Ytilcbdhcojgcbaa
/- impl.readBig by its contract. -/
namespace Go.Proofs.Ytilcbdhcojgcbaa
open Go.RowKit

theorem or4 (a b c d : Nat) (ha : a < 256) (hb : b < 256) (hc : c < 256) (hd : d < 256) :
    bits .or .i64 (bits .or .i64 (bits .or .i64 ((a : Int) * 16777216) ((b : Int) * 65536)) ((c : Int) * 256)) (d : Int) = ((((a * 256 + b) * 256 + c) * 256 + d : Nat) : Int) := by
  have e1 : (a : Int) * 16777216 = ((2 ^ 24 * a : Nat) : Int) := by omega
  have e2 : (b : Int) * 65536 = ((b * 65536 : Nat) : Int) := by omega
  have e3 : (c : Int) * 256 = ((c * 256 : Nat) : Int) := by omega
  rw [e1, e2, e3, or_join 24 a _ (by omega) (by omega)]
  have e4 : 2 ^ 24 * a + b * 65536 = 2 ^ 16 * (a * 256 + b) := by omega
  rw [e4, or_join 16 _ _ (by omega) (by omega)]
  have e5 : 2 ^ 16 * (a * 256 + b) + c * 256 = 2 ^ 8 * ((a * 256 + b) * 256 + c) := by omega
  rw [e5, or_join 8 _ _ (by omega) (by omega)]
  congr 1
  omega

def num4 (a b c d : UInt8) : Nat := ((a.toNat * 256 + b.toNat) * 256 + c.toNat) * 256 + d.toNat

theorem big_step (m : Nat) (c : UInt8) (h : m < 281474976710656) : bits .or .i64 ((m : Int) * 256) (c.toNat : Int) = ((m * 256 + c.toNat : Nat) : Int) := by
  have hc := c.toNat_lt
  have e : (m : Int) * 256 = ((2 ^ 8 * m : Nat) : Int) := by omega
  rw [e, or_join 8 m _ (by omega) (by omega)]
  congr 1
  omega

set_option maxRecDepth 100000 in
set_option maxHeartbeats 400000 in
theorem readBig_any (s : ByteArray) (w : World) (hs : s.size ≤ 6) :
    Calls Try.prog 57 #[.string s] w fun e w' => e = .returned (.int .i64 (numL s.data.toList)) ∧ w' = w := by
  go_enter Try.func57, Try.ntmps57
  go_wp2
  go_loop [3, 7] (fun u v => ∃ k : Nat, k ≤ s.size ∧ v = .int .i64 k ∧ u = .int .i64 (numL (s.data.toList.take k))) (fun _ v => s.size - (intOf v).toNat)
  case atStart => exact ⟨0, Nat.zero_le _, rfl, rfl⟩
  case round =>
    obtain ⟨k, hk, rfl, rfl⟩ := hrel
    by_cases hlt : k < s.size
    · have hd := Nm.get_data hlt
      have e1 : s.data.toList.take (k + 1) = s.data.toList.take k ++ [s[k]] := Nm.take_step hd
      have hb := numL_small (l := s.data.toList.take k) (by simp; omega)
      have e2 := numL_snoc (s.data.toList.take k) s[k]
      rw [← e1] at e2
      have hc : (s[k].toNat : Int) < 256 := by have := s[k].toNat_lt; omega
      have hlt' : (k : Int) < (s.size : Int) := by omega
      have HB := Nm.hide (big_step (numL (s.data.toList.take k)) s[k] hb)
      generalize numL (s.data.toList.take k) = m at *
      clear e1 hd
      go_wp2
      go_round
      case rel => exact ⟨k + 1, by omega, by go_num, by rw [e2, ← HB.out]⟩
      case measure => simp [intOf]; omega
    · have hke : k = s.size := by omega
      subst hke
      have et : s.data.toList.take s.size = s.data.toList := List.take_of_length_le (by simp)
      rw [et]
      go_wp2
      go_ret
      exact ⟨rfl, rfl⟩
end Go.Proofs.Ytilcbdhcojgcbaa
/- impl.foldByte by its contract. -/
namespace Go.Proofs.Ytilcbdhcojgcbaa
open Go.RowKit

theorem ret_u8 {a b : Int} (h : a = b) : Ending.returned (.int .u8 a) = .returned (.int .u8 b) := by rw [h]

set_option maxRecDepth 100000 in
set_option maxHeartbeats 400000 in
theorem foldByte_any (c : UInt8) (w : World) :
    Calls Try.prog 70 #[.int .u8 c.toNat] w fun e w' => e = .returned (.int .u8 (Nm.low c).toNat) ∧ w' = w := by
  have hcl : (c.toNat : Int) < 256 := by have := c.toNat_lt; omega
  by_cases hup : 65 ≤ c.toNat ∧ c.toNat ≤ 90
  · have HL := Nm.hide (Nm.low_up hup)
    have d1 : decide ((65 : Int) ≤ (c.toNat : Int)) = true := by simp; omega
    have d2 : decide ((c.toNat : Int) ≤ 90) = true := by simp; omega
    have hb1 : (c.toNat : Int) ≤ 90 := by omega
    clear hup
    go_enter Try.func70, Try.ntmps70
    go_wp2
    go_ret
    rw [HL.out]
    exact ⟨rfl, rfl⟩
  · have HL := Nm.hide (Nm.low_id hup)
    by_cases hlo : 65 ≤ c.toNat
    · have d1 : decide ((65 : Int) ≤ (c.toNat : Int)) = true := by simp; omega
      have d2 : decide ((c.toNat : Int) ≤ 90) = false := by simp; omega
      clear hup
      go_enter Try.func70, Try.ntmps70
      go_wp2
      go_ret
      rw [HL.out]
      exact ⟨rfl, rfl⟩
    · have d1 : decide ((65 : Int) ≤ (c.toNat : Int)) = false := by simp; omega
      clear hup
      go_enter Try.func70, Try.ntmps70
      go_wp2
      go_ret
      rw [HL.out]
      exact ⟨rfl, rfl⟩

end Go.Proofs.Ytilcbdhcojgcbaa
/- Bytes of a string, laid in a new row. -/
namespace Go.Proofs.Ytilcbdhcojgcbaa
open Go.RowKit

/-- The bytes 'l' lie at the head of block g, and may be written. -/
def BRow (w : World) (g : Nat) (l : List UInt8) : Prop := ∀ j c, l[j]? = some c → w.cell? ⟨g, j, none⟩ = some (.int .u8 c.toNat) ∧ w.frozen? ⟨g, j, none⟩ = false

theorem BRow.set {w : World} {g k : Nat} {l : List UInt8} {d : UInt8} (h : BRow w g l) (hk : k < l.length) : BRow (w.setCell ⟨g, k, none⟩ (.int .u8 d.toNat)) g (l.set k d) := by
  intro j c hj
  obtain ⟨x, hx⟩ : ∃ x, l[k]? = some x := ⟨_, List.getElem?_eq_getElem hk⟩
  by_cases e : k = j
  · subst e
    rw [List.getElem?_set_self hk] at hj
    simp at hj
    subst hj
    exact ⟨World.cell?_setCell_same _ _ _ (h k x hx).1, by rw [World.frozen?_setCell]; exact (h k x hx).2⟩
  · rw [List.getElem?_set_ne e] at hj
    refine ⟨?_, by rw [World.frozen?_setCell]; exact (h j c hj).2⟩
    rw [World.cell?_setCell_other w ⟨g, k, none⟩ ⟨g, j, none⟩ _ (by intro h; cases h; exact e rfl)]
    exact (h j c hj).1

theorem new_bytes (s : ByteArray) (w : World) : ∃ cap W, s.size ≤ cap ∧ (s.size ≤ maxLen → cap ≤ maxLen) ∧
    (convert 9 22 (.string s)).run Try.prog w = .ok (.slice (some ⟨w.heap.size, 0, none⟩) s.size cap) W ∧ BRow W w.heap.size s.data.toList ∧ Below w.heap.size w W := by
  refine ⟨_, _, grownCap_ge w s.size 0 5, grownCap_le_maxLen w s.size 0 5, run_bytes_of_string w 9 22 5 s Try.underlying9 Try.underlying22 Try.underlying5, ?_, ?_⟩
  · intro j c hj
    have hj' : j < s.data.size := by
      have := (List.getElem?_eq_some_iff.1 hj).1
      simpa using this
    have hc : s.data[j] = c := by
      have := (List.getElem?_eq_some_iff.1 hj).2
      simpa using this
    constructor
    · have e := cell_of_row (w.drew.alloc (.cells (bytesRow s (grownCap w s.size 0 5)) 5 ((bytesRow s (grownCap w s.size 0 5)).size, (bytesRow s (grownCap w s.size 0 5)).size + 1))) w.heap.size j _ 5 _ (heap_alloc_new w.drew _)
      rw [e, bytesRow_at s _ j hj', hc]
    · have e := World.frozen?_alloc_mark w.drew (bytesRow s (grownCap w s.size 0 5)) 5 (bytesRow s (grownCap w s.size 0 5)).size ((bytesRow s (grownCap w s.size 0 5)).size + 1) j
      rw [show w.heap.size = w.drew.heap.size from rfl, e]
      have : s.data.size ≤ (bytesRow s (grownCap w s.size 0 5)).size := by simp [bytesRow]
      simp; omega
  · exact ((Below.refl _ w).drew).alloc (Nat.le_refl _) _

end Go.Proofs.Ytilcbdhcojgcbaa
/- impl.foldByte, impl.foldText and impl.FoldName by their contracts. -/
namespace Go.Proofs.Ytilcbdhcojgcbaa
open Go.RowKit

theorem low_set {l : List UInt8} {k : Nat} {c : UInt8} (h : l[k]? = some c) : (Nm.smallL (l.take k) ++ l.drop k).set k (Nm.low c) = Nm.smallL (l.take (k + 1)) ++ l.drop (k + 1) := by
  have hk : k < l.length := (List.getElem?_eq_some_iff.1 h).1
  have hx : l[k] = c := (List.getElem?_eq_some_iff.1 h).2
  have hl : (Nm.smallL (l.take k)).length = k := by simp [Nm.smallL]; omega
  rw [Nm.smallL_step h, List.set_append_right _ _ (by omega), hl, List.drop_eq_getElem_cons hk, hx]
  simp

set_option maxRecDepth 100000 in
set_option maxHeartbeats 800000 in
theorem foldText_any (s : ByteArray) (w : World) (hs : s.size ≤ 1000000000) :
    Calls Try.prog 59 #[.string s] w fun e w' => e = .returned (.string (Nm.small s)) ∧ Below w.heap.size w w' := by
  obtain ⟨cap, W, hcap, hmx, hrun, hrow, hbel⟩ := new_bytes s w
  have hmx' := hmx (by unfold maxLen; omega)
  unfold maxLen at hmx'
  clear hmx
  go_enter Try.func59, Try.ntmps59
  go_wp2
  go_loopw [10] (fun i wr => ∃ k : Nat, k ≤ s.size ∧ i = .int .i64 k ∧ BRow wr w.heap.size (Nm.smallL (s.data.toList.take k) ++ s.data.toList.drop k) ∧ Below w.heap.size w wr)
    (fun i _ => s.size - (intOf i).toNat)
  case atStart => exact ⟨0, Nat.zero_le _, rfl, by simpa [Nm.smallL] using hrow, hbel⟩
  case round =>
    obtain ⟨k, hk, rfl, hrk, hbk⟩ := hrel
    clear hrun hrow hbel
    by_cases hlt : k < s.size
    · have hd := Nm.get_data hlt
      have hll : (Nm.smallL (s.data.toList.take k) ++ s.data.toList.drop k)[k]? = some s[k] := by
        rw [List.getElem?_append_right (by simp [Nm.smallL]; omega)]
        simp [Nm.smallL, Nat.min_eq_left hk]
        simpa using hd
      have hck := hrk k _ hll
      have HB := Nm.hide (hrk.set (k := k) (d := Nm.low s[k]) (by simp [Nm.smallL]; omega))
      rw [low_set hd] at HB
      have HW : Hid (Below w.heap.size w (wr.setCell ⟨w.heap.size, k, none⟩ (.int .u8 (Nm.low s[k]).toNat))) := hbk.setCell (Nat.le_refl _) _
      obtain ⟨hc1, hc2⟩ := hck
      clear hd hll hrk
      go_wp2_with (go_at_call 70; refine (foldByte_any _ _).mono ?_; rintro e w3 ⟨rfl, rfl⟩)
      go_roundw
      case rel => exact ⟨k + 1, by omega, by go_num, HB.out, HW.out⟩
      case measure => simp [intOf]; omega
    · have hkl : k = s.size := by omega
      subst hkl
      have hcv := run_convert_bytes_back (P := Try.prog) wr 22 9 5 ⟨w.heap.size, 0, none⟩ cap (Nm.smallL s.data.toList) Try.underlying22 Try.underlying5 Try.underlying9 (by
        intro j hj
        rw [Nm.addr_add, Nat.zero_add]
        refine (hrk j _ ?_).1
        rw [List.take_of_length_le (by simp), List.drop_of_length_le (by simp), List.append_nil]
        exact List.getElem?_eq_getElem hj)
      have hsl : (Nm.smallL s.data.toList).length = s.size := by simp [Nm.smallL]
      rw [hsl, show (⟨(Nm.smallL s.data.toList).toArray⟩ : ByteArray) = Nm.small s from rfl] at hcv
      clear hrk hlt hsl
      go_wp2
      go_ret
      exact ⟨rfl, hbk⟩

end Go.Proofs.Ytilcbdhcojgcbaa
