/- impl.foldNames by its contract. -/
import Derived.Test.YtakonfkefoeenagGoodM
import Derived.Test.YtakonfkefoeenagCRow
import Derived.Test.YtakonfkefoeenagBytesRow
import Derived.Test.YtakonfkefoeenagFoldB
namespace Go.Proofs.Ytakonfkefoeenag
open Go.RowKit

theorem span_cellsN {sp : List (Nat × Nat)} {k : Nat} {x : Nat × Nat} (h : sp[k]? = some x) : (spanCells sp)[k * 2]? = some (.int .i64 (x.1 : Int)) ∧ (spanCells sp)[k * 2 + 1]? = some (.int .i64 (x.2 : Int)) := by
  induction sp generalizing k with
  | nil => simp at h
  | cons y sp ih =>
    cases k with
    | zero => simp at h; subst h; simp [spanCells]
    | succ k =>
      simp at h
      have := ih h
      have e : spanCells (y :: sp) = [.int .i64 (y.1 : Int), .int .i64 (y.2 : Int)] ++ spanCells sp := by simp [spanCells]
      rw [e, show (k + 1) * 2 = k * 2 + 2 by omega, show k * 2 + 2 + 1 = (k * 2 + 1) + 2 by omega]
      simpa using this

theorem spans_in : ∀ (fs : List Dt.Pc) (a : Nat) (d : ByteArray) (sp : List (Nat × Nat)), Dt.spans fs a d = some sp → ∀ s ∈ sp, a ≤ s.1 ∧ s.1 ≤ s.2 ∧ s.2 ≤ a + d.size := by
  intro fs
  induction fs with
  | nil =>
    intro a d sp h
    rw [Dt.spans] at h
    split at h
    · simp at h; subst h; simp
    · simp at h
  | cons p r ih =>
    intro a d sp h
    rw [Dt.spans] at h
    cases hq : Dt.sz p d with
    | none => rw [hq] at h; simp at h
    | some n =>
      have hn := Dt.sz_le hq
      rw [hq] at h
      cases hr : Dt.spans r (a + n) (d.extract n d.size) with
      | none => simp [hr] at h
      | some l =>
        have hi := ih _ _ _ hr
        have hz : (d.extract n d.size).size = d.size - n := by simp
        have hi2 : ∀ s ∈ l, a ≤ s.1 ∧ s.1 ≤ s.2 ∧ s.2 ≤ a + d.size := by
          intro s hs
          have := hi s hs
          omega
        simp [hr] at h
        subst h
        cases p.isN
        · simpa using hi2
        · intro s hs
          simp at hs
          rcases hs with rfl | hs
          · simp; omega
          · exact hi2 s hs

theorem low_in_len (a b : Nat) (l : List UInt8) (h : a ≤ b) (hb : b ≤ l.length) : (Dt.lowIn (a, b) l).length = l.length := by
  simp [Dt.lowIn, Nm.smallL]; omega
theorem low_in_self (a : Nat) (l : List UInt8) : Dt.lowIn (a, a) l = l := by
  simp [Dt.lowIn, Nm.smallL]
theorem low_in_get (a i : Nat) (l : List UInt8) (h : a ≤ i) (hi : i < l.length) : (Dt.lowIn (a, i) l)[i]? = l[i]? := by
  have h1 : (l.take a ++ Nm.smallL ((l.drop a).take (i - a))).length = i := by simp [Nm.smallL]; omega
  simp only [Dt.lowIn]
  rw [← List.append_assoc, List.getElem?_append_right (by omega), h1, Nat.sub_self, List.getElem?_drop, Nat.add_zero]
theorem low_in_set (a i : Nat) (l : List UInt8) (c : UInt8) (h : a ≤ i) (hc : l[i]? = some c) : (Dt.lowIn (a, i) l).set i (Nm.low c) = Dt.lowIn (a, i + 1) l := by
  obtain ⟨hi, he⟩ := List.getElem?_eq_some_iff.1 hc
  have h1 : (l.take a ++ Nm.smallL ((l.drop a).take (i - a))).length = i := by simp [Nm.smallL]; omega
  have h2 : (l.drop a).take (i + 1 - a) = (l.drop a).take (i - a) ++ [c] := by
    rw [show i + 1 - a = (i - a) + 1 by omega]
    apply Nm.take_step
    rw [List.getElem?_drop, show a + (i - a) = i by omega]
    exact hc
  simp only [Dt.lowIn]
  rw [← List.append_assoc, List.set_append_right _ _ (by omega), h1, Nat.sub_self, h2, List.drop_eq_getElem_cons hi, List.set_cons_zero]
  simp [Nm.smallL]

theorem low_all_len : ∀ (sp : List (Nat × Nat)) (l : List UInt8), (∀ s ∈ sp, s.1 ≤ s.2 ∧ s.2 ≤ l.length) → (Dt.lowAll sp l).length = l.length := by
  intro sp
  induction sp with
  | nil => intro l _; rfl
  | cons s sp ih =>
    intro l h
    have h0 := h s (List.mem_cons_self)
    have e := low_in_len s.1 s.2 l h0.1 h0.2
    show (Dt.lowAll sp (Dt.lowIn s l)).length = l.length
    rw [ih, e]
    intro s' hs'
    rw [e]
    exact h s' (List.mem_cons_of_mem _ hs')

theorem low_all_step {sp : List (Nat × Nat)} {k : Nat} {s : Nat × Nat} (h : sp[k]? = some s) (l : List UInt8) : Dt.lowAll (sp.take (k + 1)) l = Dt.lowIn s (Dt.lowAll (sp.take k) l) := by
  rw [Nm.take_step h, Dt.lowAll, List.foldl_append]; rfl

theorem new_bytes2 (s : ByteArray) (w : World) : ∃ cap W, s.size ≤ cap ∧ (s.size ≤ maxLen → cap ≤ maxLen) ∧
    (convert 9 24 (.string s)).run Try.prog w = .ok (.slice (some ⟨w.heap.size, 0, none⟩) s.size cap) W ∧ BRow W w.heap.size s.data.toList ∧ Below w.heap.size w W ∧ w.heap.size < W.heap.size := by
  obtain ⟨cap, W, h1, h2, h3, h4, h5⟩ := new_bytes s w
  refine ⟨cap, W, h1, h2, h3, h4, h5, ?_⟩
  have hr := run_bytes_of_string w 9 24 5 s Try.underlying9 Try.underlying24 Try.underlying5
  rw [h3] at hr
  cases hr
  simp

theorem BRow.alloc {w : World} {g : Nat} {l : List UInt8} (h : BRow w g l) (hg : g < w.heap.size) (o : Obj) : BRow (w.alloc o) g l := by
  intro j c hj
  obtain ⟨h1, h2⟩ := h j c hj
  have hb : Below w.heap.size w (w.alloc o) := (Below.refl _ _).alloc (Nat.le_refl _) _
  refine ⟨(hb.cell hg).trans h1, ?_⟩
  have e := hb.block g hg
  simp only [World.frozen?, e]
  exact h2

theorem BRow.str {w : World} {g n cap : Nat} {l : List UInt8} (h : BRow w g l) (hl : l.length = n) : (convert 24 9 (.slice (some ⟨g, 0, none⟩) n cap)).run Try.prog w = .ok (.string ⟨l.toArray⟩) w := by
  subst hl
  refine run_convert_bytes_back w 24 9 5 ⟨g, 0, none⟩ cap l Try.underlying24 Try.underlying5 Try.underlying9 ?_
  intro j hj
  rw [Nm.addr_add, Nat.zero_add]
  exact (h j _ (List.getElem?_eq_getElem hj)).1

set_option maxRecDepth 100000 in
set_option maxHeartbeats 1600000 in
theorem foldNames_any (d : ByteArray) (v : Value) (sp : List (Nat × Nat)) (w : World) (hrow : CRow w v sp.length 2 (spanCells sp)) (hsp : ∀ s ∈ sp, s.1 ≤ s.2 ∧ s.2 ≤ d.size) (hd : d.size ≤ 1000000000) (hl : sp.length ≤ 1000000) :
    Calls Try.prog 31 #[.string d, v] w fun e w' => e = .returned (.string ⟨(Dt.lowAll sp d.data.toList).toArray⟩) ∧ Below w.heap.size w w' := by
  obtain ⟨cap, W, hcap, hmx, hrun, hbr, hbel, hgW⟩ := new_bytes2 d w
  obtain ⟨_, a, capv, rfl, hcapv, hmxv, hc⟩ := hrow
  have hmx' := hmx (by unfold maxLen; omega)
  unfold maxLen at hmx'
  have hdl : d.data.toList.length = d.size := by simp
  have hll : ∀ k, (Dt.lowAll (sp.take k) d.data.toList).length = d.size := by
    intro k
    rw [low_all_len, hdl]
    intro s hs
    rw [hdl]
    exact hsp s (List.mem_of_mem_take hs)
  clear hmx
  go_enter Try.func31, Try.ntmps31
  go_wp2
  go_loopw [13] (fun i wr => ∃ k : Nat, k ≤ sp.length ∧ i = .int .i64 k ∧ BRow wr w.heap.size (Dt.lowAll (sp.take k) d.data.toList) ∧ w.heap.size < wr.heap.size ∧ Below w.heap.size w wr)
    (fun i _ => sp.length - (intOf i).toNat)
  case atStart =>
    exact ⟨0, Nat.zero_le _, rfl, by simpa [Dt.lowAll] using hbr, hgW, hbel⟩
  case round =>
    obtain ⟨k, hk, rfl, hbk, hgz, hbelk⟩ := hrel
    clear hrun hbr hbel
    by_cases hlt : k < sp.length
    · obtain ⟨x, hx⟩ : ∃ x, sp[k]? = some x := ⟨_, List.getElem?_eq_getElem hlt⟩
      obtain ⟨s1, s2⟩ := span_cellsN hx
      obtain ⟨hx1, hx2⟩ := hsp x (List.mem_of_getElem? hx)
      have HST := Nm.hide (low_all_step hx d.data.toList)
      have hlk := hll k
      generalize Dt.lowAll (sp.take k) d.data.toList = l at *
      obtain ⟨b, off, rfl, hcell⟩ := hc (by omega)
      have put : ∀ {B O : Nat} {z : Value}, w.cell? ⟨B, O, none⟩ = some z → wr.cell? ⟨B, O, none⟩ = some z := fun h => (hbelk.cell (World.block_lt_of_cell? w _ h)).trans h
      have c1 := put (hcell _ _ s1)
      have c2 := put (hcell _ _ s2)
      rw [← Nat.add_assoc] at c2
      clear hc hcell s1 s2 put hx
      obtain ⟨wo, hwo⟩ : ∃ wo, wo = wr := ⟨wr, rfl⟩
      subst hwo
      have hB0 := hbk.alloc hgz (.cells #[.int .i64 (x.1 : Int), .int .i64 (x.2 : Int)] 113)
      have hW0 : Below w.heap.size w (wo.alloc (.cells #[.int .i64 (x.1 : Int), .int .i64 (x.2 : Int)] 113)) := hbelk.alloc (by omega) _
      have hC0 : (wo.alloc (.cells #[.int .i64 (x.1 : Int), .int .i64 (x.2 : Int)] 113)).cell? ⟨wo.heap.size, 1, none⟩ = some (.int .i64 (x.2 : Int)) := by rw [World.cell?_alloc_new]; rfl
      have hz0 : wo.heap.size < (wo.alloc (.cells #[.int .i64 (x.1 : Int), .int .i64 (x.2 : Int)] 113)).heap.size := by simp
      go_wp2
      go_loopw [8] (fun v wq => ∃ i : Nat, x.1 ≤ i ∧ i ≤ x.2 ∧ v = .int .i64 i ∧ BRow wq w.heap.size (Dt.lowIn (x.1, i) l) ∧ wq.cell? ⟨wo.heap.size, 1, none⟩ = some (.int .i64 (x.2 : Int)) ∧ wo.heap.size < wq.heap.size ∧ Below w.heap.size w wq)
        (fun v _ => x.2 - (intOf v).toNat)
      case atStart => exact ⟨x.1, Nat.le_refl _, hx1, rfl, by rw [low_in_self]; exact hB0, hC0, hz0, hW0⟩
      case round =>
        obtain ⟨i, hi1, hi2, rfl, hbq, hcq, hzq, hbelq⟩ := hrel
        clear hB0 hW0 hC0 hz0 c1 c2 hbk
        by_cases hil : i < x.2
        · have hil' : (i : Int) < (x.2 : Int) := by omega
          have hid : i < d.size := by omega
          have hid' : (i : Int) < (d.size : Int) := by omega
          obtain ⟨c, hlc⟩ : ∃ c, l[i]? = some c := ⟨_, List.getElem?_eq_getElem (by omega)⟩
          have hgi : (Dt.lowIn (x.1, i) l)[i]? = some c := (low_in_get x.1 i l hi1 (by omega)).trans hlc
          obtain ⟨hc1, hc2⟩ := hbq i c hgi
          have hbs := hbq.set (k := i) (d := Nm.low c) (by rw [low_in_len _ _ _ hi1 (by omega)]; omega)
          rw [low_in_set _ _ _ _ hi1 hlc] at hbs
          have HBS := Nm.hide hbs
          have HC : Hid ((wr.setCell ⟨w.heap.size, i, none⟩ (.int .u8 (Nm.low c).toNat)).cell? ⟨wo.heap.size, 1, none⟩ = some (.int .i64 (x.2 : Int))) := by
            show _ = _
            rw [World.cell?_setCell_other wr ⟨w.heap.size, i, none⟩ ⟨wo.heap.size, 1, none⟩ _ (by intro h; have := congrArg Addr.block h; simp at this; omega)]
            exact hcq
          have HW : Hid (Below w.heap.size w (wr.setCell ⟨w.heap.size, i, none⟩ (.int .u8 (Nm.low c).toNat))) := hbelq.setCell (Nat.le_refl _) _
          have HZ : Hid (wo.heap.size < (wr.setCell ⟨w.heap.size, i, none⟩ (.int .u8 (Nm.low c).toNat)).heap.size) := by show _ < _; simpa using hzq
          clear hbs hgi hbq hlc
          go_wp2_with (go_at_call 71; refine (foldByte_any _ _).mono ?_; rintro e w3 ⟨rfl, hw⟩; obtain rfl : wr = w3 := hw.symm; clear hw)
          go_roundw
          case rel => exact ⟨i + 1, by omega, by omega, by go_num, HBS.out, HC.out, HZ.out, HW.out⟩
          case measure => simp [intOf]; omega
        · have hil' : (x.2 : Int) ≤ (i : Int) := by omega
          obtain rfl : i = x.2 := by omega
          rw [show ((x.1, x.2) : Nat × Nat) = x from rfl, ← HST.out] at hbq
          have HBQ := Nm.hide hbq
          have hgq : w.heap.size < wr.heap.size := by omega
          clear hbq hil
          go_wp2
          go_roundw
          case rel => exact ⟨k + 1, by omega, by go_num, HBQ.out, hgq, hbelq⟩
          case measure => simp [intOf]; omega
    · have hlt' : (sp.length : Int) ≤ (k : Int) := by omega
      rw [List.take_of_length_le (by omega)] at hbk
      have hl0 := hll sp.length
      rw [List.take_of_length_le (by omega)] at hl0
      obtain ⟨R, HR, hstr⟩ : ∃ R, Hid (R = (⟨(Dt.lowAll sp d.data.toList).toArray⟩ : ByteArray)) ∧ (convert 24 9 (.slice (some ⟨w.heap.size, 0, none⟩) d.size cap)).run Try.prog wr = .ok (.string R) wr := ⟨_, rfl, hbk.str (cap := cap) hl0⟩
      clear hbk hc hl0
      go_wp2
      go_ret
      rw [← HR.out]
      exact ⟨rfl, hbelk⟩
end Go.Proofs.Ytakonfkefoeenag
