import Derived.Test.YtjokdmmlofbknaaDoorJRowM
import Derived.Handy
import Derived.Lib.BufferRead
import Derived.Test.YtjokdmmlofbknaaDoorJMath
import Derived.Test.YtjokdmmlofbknaaDoorJFoldM
import Derived.Lib.Split
import Derived.Lib.IndexMore
/- spec.l01Begin by its contract. -/
namespace Go.Proofs.YtjokdmmlofbknaaDoor
open Go.RowKit

/-- The bytes that a slice shows lie there. -/
def CodeIn (w : World) (a : Option Addr) (n : Nat) : Prop :=
  n = 0 ∨ ∃ b off, a = some ⟨b, off, none⟩ ∧ ∀ i, i < n → ∃ c : Int, w.cell? ⟨b, off + i, none⟩ = some (.int .u8 c) ∧ 0 ≤ c ∧ c < 256

/-- What l01Begin holds from round to round: its result's block and its variable's. -/
def Beg (w wr : World) (a : Option Addr) (n cap : Nat) (st : Int) : Prop :=
  wr.heap[w.heap.size]? = some (.cells #[.slice none 0 0, .int .i64 0, .int .u64 0] 40 (0, 0)) ∧
  wr.heap[w.heap.size + 1]? = some (.cells #[.slice a n cap, .int .i64 0, .int .u64 st] 40 (0, 0)) ∧ Below w.heap.size w wr

theorem beg_set {w wr : World} {a : Option Addr} {n cap : Nat} {st : Int} (h : Beg w wr a n cap st) (s2 : Int) : Beg w (wr.setCell ⟨w.heap.size + 1, 2, none⟩ (.int .u64 s2)) a n cap s2 := by
  obtain ⟨h1, h2, h3⟩ := h
  refine ⟨?_, ?_, h3.setCell (by simp) _⟩
  · rw [heap_setCell_other wr ⟨w.heap.size + 1, 2, none⟩ w.heap.size _ (by simp)]; exact h1
  · rw [heap_setCell_same wr (w.heap.size + 1) 2 _ _ _ h2]; rfl

theorem beg_drew {w wr : World} {a : Option Addr} {n cap : Nat} {st : Int} (h : Beg w wr a n cap st) : Beg w wr.drew a n cap st := ⟨h.1, h.2.1, h.2.2.drew⟩

set_option maxRecDepth 100000 in
set_option maxHeartbeats 400000 in
theorem l01Begin_any (a : Option Addr) (n cap : Nat) (w : World) (h : CodeIn w a n) (hn : n ≤ 1048576) :
    Calls Tryd.prog 20 #[.slice a n cap] w fun e w' => ∃ st : Int, e = .returned (.agg #[.slice a n cap, .int .i64 0, .int .u64 st]) ∧ Below w.heap.size w w' := by
  go_enter Tryd.func20, Tryd.ntmps20
  go_wp2
  go_loopw [4] (fun i wr => ∃ (k : Nat) (st : Int), k ≤ n ∧ i = .int .i64 k ∧ Beg w wr a n cap st) (fun i _ => n - (intOf i).toNat)
  case atStart =>
    refine ⟨0, 1469598103934665603, Nat.zero_le _, rfl, ?_, ?_, ((Below.refl _ _).alloc (Nat.le_refl _) _).alloc (by simp) _⟩
    · exact ((MapKept.heap_alloc (w.alloc _) _).2 _ (by simp)).trans (heap_alloc_new w _)
    · have := heap_alloc_new (w.alloc (.cells #[.slice none 0 0, .int .i64 0, .int .u64 0] 40 (0, 0))) (.cells #[.slice a n cap, .int .i64 0, .int .u64 1469598103934665603] 40 (0, 0)); rw [World.size_alloc] at this; exact this
  case round =>
    obtain ⟨k, st, hk, rfl, hbeg⟩ := hrel
    have HB := fun s2 => Nm.hide (beg_set hbeg s2)
    have HB0 := Nm.hide hbeg.2.2
    obtain ⟨hb0, hb1, hbel⟩ := hbeg
    have c0 := cell_of_row wr (w.heap.size + 1) 0 _ _ _ hb1
    have c1 := cell_of_row wr (w.heap.size + 1) 1 _ _ _ hb1
    have c2 := cell_of_row wr (w.heap.size + 1) 2 _ _ _ hb1
    have f2 := frozen_of_row wr (w.heap.size + 1) 2 _ _ hb1
    have e0 := cell_of_row wr w.heap.size 0 _ _ _ hb0
    have e1 := cell_of_row wr w.heap.size 1 _ _ _ hb0
    have e2 := cell_of_row wr w.heap.size 2 _ _ _ hb0
    have g0 := frozen_of_row wr w.heap.size 0 _ _ hb0
    have g1 := frozen_of_row wr w.heap.size 1 _ _ hb0
    have g2 := frozen_of_row wr w.heap.size 2 _ _ hb0
    simp at c0 c1 c2 e0 e1 e2
    by_cases hlt : k < n
    · obtain ⟨b, off, rfl, hcode⟩ := h.resolve_left (by omega)
      obtain ⟨c, hc, hc0, hc1⟩ := hcode k hlt
      have hbl := World.block_lt_of_cell? w _ hc
      have hcr := (hbel.cell hbl).trans hc
      clear hb0 hb1 hbel hcode hc h
      go_wp2
      go_region
      go_wp2
      go_roundw
      case rel => exact ⟨k + 1, _, by omega, by go_num, beg_drew (HB _).out⟩
      case measure => simp [intOf]; omega
    · have hke : k = n := by omega
      subst hke
      clear hb0 hb1 hbel h
      have r0 := fun v => World.cell?_setCell_same wr ⟨w.heap.size, 0, none⟩ v e0
      have r1 := fun u v => World.cell?_setCell_same (wr.setCell ⟨w.heap.size, 0, none⟩ u) ⟨w.heap.size, 1, none⟩ v ((World.cell?_setCell_other wr ⟨w.heap.size, 0, none⟩ ⟨w.heap.size, 1, none⟩ u (by simp)).trans e1)
      have r2 := fun t u v => World.cell?_setCell_same ((wr.setCell ⟨w.heap.size, 0, none⟩ t).setCell ⟨w.heap.size, 1, none⟩ u) ⟨w.heap.size, 2, none⟩ v ((World.cell?_setCell_other _ ⟨w.heap.size, 1, none⟩ ⟨w.heap.size, 2, none⟩ u (by simp)).trans ((World.cell?_setCell_other wr ⟨w.heap.size, 0, none⟩ ⟨w.heap.size, 2, none⟩ t (by simp)).trans e2))
      go_wp2
      refine bodyPost_ret (v := .agg #[.slice a k cap, .int .i64 0, .int .u64 st]) ?_ rfl ⟨st, rfl, ((HB0.out.setCell (Nat.le_refl _) _).setCell (Nat.le_refl _) _).setCell (Nat.le_refl _) _⟩
      simp [results, Tryd.results20, go_sem, r0, r1, r2, Result.andThen]
end Go.Proofs.YtjokdmmlofbknaaDoor
/- A source that has just been made. -/
namespace Go.Proofs.YtjokdmmlofbknaaDoor
open Go.RowKit

theorem code_below {w w1 : World} {a : Option Addr} {n : Nat} (h : CodeIn w a n) (hb : Below w.heap.size w w1) : CodeIn w1 a n := by
  rcases h with h | ⟨b, off, e, hc⟩
  · exact .inl h
  · refine .inr ⟨b, off, e, fun j hj => ?_⟩
    obtain ⟨c, hc1, hc2⟩ := hc j hj
    exact ⟨c, (hb.cell (World.block_lt_of_cell? w _ hc1)).trans hc1, hc2⟩

theorem code_at {w w1 : World} {a : Option Addr} {n : Nat} (h : CodeIn w a n) (hb : Below w.heap.size w w1) : CodeAt w1 w.heap.size a n := by
  rcases h with h | ⟨b, off, e, hc⟩
  · exact .inl h
  · rcases Nat.eq_zero_or_pos n with hn | hn
    · exact .inl hn
    refine .inr ⟨b, off, e, ?_, fun j hj => ?_⟩
    · obtain ⟨c, hc1, _⟩ := hc 0 hn
      have : b < w.heap.size := World.block_lt_of_cell? w _ hc1
      omega
    · obtain ⟨c, hc1, hc2⟩ := hc j hj
      exact ⟨c, (hb.cell (World.block_lt_of_cell? w _ hc1)).trans hc1, hc2⟩

theorem src_made {w : World} {a : Option Addr} {n cap : Nat} (h : CodeIn w a n) (hn : n ≤ 1048576) (st : Int) :
    Src (w.alloc (.cells #[.slice a n cap, .int .i64 0, .int .u64 st] 40 (0, 0))) w.heap.size a n cap :=
  ⟨0, st, heap_alloc_new w _, Int.le_refl _, Int.natCast_nonneg _, hn, code_at h ((Below.refl _ _).alloc (Nat.le_refl _) _)⟩
end Go.Proofs.YtjokdmmlofbknaaDoor
/- A []byte that came in. -/
namespace Go.Proofs.YtjokdmmlofbknaaDoor
open Go.RowKit
set_option linter.unusedVariables false

/-- A slice of bytes that came in. -/
def Row8 (w : World) (a : Option Addr) (len cap : Nat) (zs : List Int) : Prop :=
  (a = none ∧ len = 0 ∧ cap = 0 ∧ zs = []) ∨
  ∃ x, a = some x ∧ len ≤ cap ∧ cap ≤ maxLen ∧ zs.length = cap ∧ (∀ i, i < zs.length → w.cell? (x.add i) = some (.int .u8 (zs.getD i 0))) ∧ ∀ n ∈ zs, (Lit.int .u8 n).wf = true

theorem row8_at {w : World} {x : Addr} {n cap : Nat} {zs : List Int} (hl : n ≤ cap) (hz : zs.length = cap) (hc : ∀ i, i < zs.length → w.cell? (x.add i) = some (.int .u8 (zs.getD i 0))) (hw : ∀ n ∈ zs, (Lit.int .u8 n).wf = true) {i : Nat} (hi : i < n) :
    0 ≤ zs.getD i 0 ∧ zs.getD i 0 < 256 := by
  have hm : zs.getD i 0 ∈ zs := by
    rw [List.getD_eq_getElem?_getD, List.getElem?_eq_getElem (by omega)]
    exact List.getElem_mem _
  have := hw _ hm
  have h2 := bounds_u8 this
  omega

theorem row8_code {w : World} {a : Option Addr} {n cap : Nat} {zs : List Int} (h : Row8 w a n cap zs) : CodeIn w a n := by
  rcases h with ⟨_, h, _⟩ | ⟨x, rfl, hl, hm, hz, hc, hw⟩
  · exact .inl h
  · rcases Nat.eq_zero_or_pos n with hn | hn
    · exact .inl hn
    have hs : x.spot = none := by
      have := World.cell?_spot (hc 0 (by omega))
      simpa [Addr.add] using this
    obtain ⟨b, off, sp⟩ := x
    simp only at hs
    subst hs
    refine .inr ⟨b, off, rfl, fun i hi => ⟨_, ?_, row8_at hl hz hc hw hi⟩⟩
    rw [← Nm.addr_add]
    exact hc i (by omega)

theorem row8_str {w w1 : World} {a : Option Addr} {n cap : Nat} {zs : List Int} (h : Row8 w a n cap zs) (hb : Below w.heap.size w w1) :
    ∃ s : ByteArray, s.size = n ∧ (convert 22 9 (.slice a n cap)).run Tryd.prog w1 = .ok (.string s) w1 := by
  rcases h with ⟨rfl, rfl, rfl, _⟩ | ⟨x, rfl, hl, hm, hz, hc, hw⟩
  · exact ⟨ByteArray.empty, rfl, Lib.run_convert_nil_bytes w1 22 9 5 0 Tryd.underlying22 Tryd.underlying5 Tryd.underlying9⟩
  · have hln : ((zs.take n).map (fun z => UInt8.ofNat z.toNat)).length = n := by simp; omega
    refine ⟨⟨((zs.take n).map (fun z => UInt8.ofNat z.toNat)).toArray⟩, by rw [mk_size, hln], ?_⟩
    have := run_convert_bytes_back (P := Tryd.prog) w1 22 9 5 x cap ((zs.take n).map (fun z => UInt8.ofNat z.toNat)) Tryd.underlying22 Tryd.underlying5 Tryd.underlying9 (by
      intro j hj
      have hjn : j < n := by omega
      have hcj := hc j (by omega)
      have hbj := row8_at hl hz hc hw hjn
      rw [(hb.cell (World.block_lt_of_cell? w _ hcj)).trans hcj]
      rw [List.getD_eq_getElem?_getD, List.getElem?_eq_getElem (by omega)] at hbj ⊢
      simp only [List.getElem_map, List.getElem_take, Option.getD_some, UInt8.toNat_ofNat'] at hbj ⊢
      congr 2
      omega)
    rw [hln] at this
    exact this
end Go.Proofs.YtjokdmmlofbknaaDoor
/- A text cut at every byte of one value: mathematics. -/
namespace Go.Proofs.YtjokdmmlofbknaaDoor
open Go.RowKit

/-- A text cut at every byte c: from byte i on, the piece under way began at a. -/
def cutF (s : ByteArray) (c : UInt8) : Nat → Nat → Nat → List ByteArray
  | 0, _, a => [s.extract a s.size]
  | f + 1, i, a => if h : i < s.size then
      (if s[i].toNat = c.toNat then s.extract a i :: cutF s c f (i + 1) (i + 1) else cutF s c f (i + 1) a)
    else [s.extract a s.size]
def cutB (s : ByteArray) (c : UInt8) : List ByteArray := cutF s c s.size 0 0
def CutAt (s : ByteArray) (c : UInt8) (ls : List ByteArray) (i a : Nat) : Prop := cutB s c = ls ++ cutF s c (s.size - i) i a
theorem cut_start (s : ByteArray) (c : UInt8) : CutAt s c [] 0 0 := by simp [CutAt, cutB]
theorem cut_here {s : ByteArray} {c : UInt8} {ls : List ByteArray} {i a : Nat} (h : CutAt s c ls i a) (hi : i < s.size) (e : s[i].toNat = c.toNat) : CutAt s c (ls ++ [s.extract a i]) (i + 1) (i + 1) := by
  rw [CutAt] at h ⊢
  rw [h, show s.size - i = s.size - (i + 1) + 1 by omega, cutF, dif_pos hi, if_pos e]
  simp
theorem cut_on {s : ByteArray} {c : UInt8} {ls : List ByteArray} {i a : Nat} (h : CutAt s c ls i a) (hi : i < s.size) (e : ¬ s[i].toNat = c.toNat) : CutAt s c ls (i + 1) a := by
  rw [CutAt] at h ⊢
  rw [h, show s.size - i = s.size - (i + 1) + 1 by omega, cutF, dif_pos hi, if_neg e]
theorem cut_end {s : ByteArray} {c : UInt8} {ls : List ByteArray} {i a : Nat} (h : CutAt s c ls i a) (hi : s.size ≤ i) : cutB s c = ls ++ [s.extract a s.size] := by
  rw [CutAt, Nat.sub_eq_zero_of_le hi] at h; exact h

end Go.Proofs.YtjokdmmlofbknaaDoor
/- A text cut at every byte of one value: the model's way and the library's. -/
namespace Go.Proofs.YtjokdmmlofbknaaDoor
open Go.RowKit

def cutP (c : UInt8) : List UInt8 → List (List UInt8)
  | [] => [[]]
  | x :: r => if x = c then [] :: cutP c r else match cutP c r with
    | [] => [[x]]
    | h :: t => (x :: h) :: t

theorem cutP_ne (c : UInt8) (l : List UInt8) : ∃ h t, cutP c l = h :: t := by
  cases l with
  | nil => exact ⟨_, _, rfl⟩
  | cons x r =>
    rw [cutP]
    split
    · exact ⟨_, _, rfl⟩
    · split <;> exact ⟨_, _, rfl⟩
theorem cutP_miss {c : UInt8} : ∀ {l : List UInt8}, c ∉ l → cutP c l = [l] := by
  intro l
  induction l with
  | nil => intro _; rfl
  | cons x r ih =>
    intro h
    simp only [List.mem_cons, not_or] at h
    rw [cutP, if_neg (fun e => h.1 e.symm), ih h.2]
theorem cutP_hit {c : UInt8} {b : List UInt8} : ∀ {a : List UInt8}, c ∉ a → cutP c (a ++ c :: b) = a :: cutP c b := by
  intro a
  induction a with
  | nil => intro _; rw [List.nil_append, cutP, if_pos rfl]
  | cons x r ih =>
    intro h
    simp only [List.mem_cons, not_or] at h
    rw [List.cons_append, cutP, if_neg (fun e => h.1 e.symm), ih h.2]

theorem occ_one {l : List UInt8} {c : UInt8} {j : Nat} : Lib.occAt l [c] j = true ↔ l[j]? = some c := by
  unfold Lib.occAt
  cases hd : l.drop j with
  | nil =>
    have : l.length ≤ j := List.drop_eq_nil_iff.1 hd
    simp [List.getElem?_eq_none this]
  | cons x r =>
    have hx : l[j]? = some x := by
      have := congrArg (fun l => l[0]?) hd
      simpa [List.getElem?_drop] using this
    rw [hx]
    simp [List.isPrefixOf]
    exact eq_comm
theorem index_cases (l : List UInt8) (c : UInt8) : (Lib.index l [c] = -1 ∧ c ∉ l) ∨ ∃ i : Nat, Lib.index l [c] = i ∧ l = l.take i ++ c :: l.drop (i + 1) ∧ c ∉ l.take i := by
  rcases Lib.index_spec l [c] with ⟨h, hn⟩ | ⟨i, h, hi, ho, hno⟩
  · refine .inl ⟨h, fun hm => ?_⟩
    obtain ⟨j, hj⟩ := List.getElem?_of_mem hm
    have hjl : j < l.length := (List.getElem?_eq_some_iff.1 hj).1
    have := hn j (by omega)
    rw [occ_one.2 hj] at this
    cases this
  · refine .inr ⟨i, h, ?_, fun hm => ?_⟩
    · have hx := occ_one.1 ho
      obtain ⟨hl, hx⟩ := List.getElem?_eq_some_iff.1 hx
      have h2 := List.drop_eq_getElem_cons hl
      rw [hx] at h2
      rw [← h2, List.take_append_drop]
    · obtain ⟨j, hj⟩ := List.getElem?_of_mem hm
      rw [List.getElem?_take] at hj
      by_cases hji : j < i
      · rw [if_pos hji] at hj
        have := hno j hji
        rw [occ_one.2 hj] at this
        cases this
      · rw [if_neg hji] at hj; cases hj

theorem split_cutP (c : UInt8) : ∀ (k : Nat) (l : List UInt8), (Lib.splitK [c] 0 k l).length = min (k + 1) (cutP c l).length ∧ ((cutP c l).length ≤ k + 1 → Lib.splitK [c] 0 k l = cutP c l) := by
  intro k
  induction k with
  | zero =>
    intro l
    obtain ⟨h, t, e⟩ := cutP_ne c l
    rcases index_cases l c with ⟨_, hm⟩ | ⟨i, _, hl, hm⟩
    · rw [cutP_miss hm]; simp [Lib.splitK]
    · have e2 := cutP_hit (b := l.drop (i + 1)) hm
      rw [← hl] at e2
      obtain ⟨h', t', e'⟩ := cutP_ne c (l.drop (i + 1))
      rw [e2, e']
      simp [Lib.splitK]
  | succ k ih =>
    intro l
    rcases index_cases l c with ⟨hx, hm⟩ | ⟨i, hx, hl, hm⟩
    · rw [cutP_miss hm, Lib.splitK, if_pos (by rw [hx]; rfl)]
      simp
    · have e2 := cutP_hit (b := l.drop (i + 1)) hm
      rw [← hl] at e2
      have hne : ¬ (Lib.index l [c] == -1) = true := by
        rw [hx, beq_iff_eq]; omega
      rw [e2, Lib.splitK, if_neg hne, hx]
      simp only [Int.toNat_natCast, Nat.add_zero, List.length_cons, List.length_nil]
      have := ih (l.drop (i + 1))
      refine ⟨by rw [this.1]; omega, fun h => ?_⟩
      rw [this.2 (by omega)]
theorem count_cutP (c : UInt8) : ∀ (n : Nat) (l : List UInt8), l.length ≤ n → Lib.count l [c] + 1 = (cutP c l).length := by
  intro n
  induction n with
  | zero =>
    intro l h
    have : l = [] := List.length_eq_zero_iff.1 (by omega)
    subst this
    rw [Lib.count_miss (by rfl)]; rfl
  | succ n ih =>
    intro l h
    rcases index_cases l c with ⟨hx, hm⟩ | ⟨i, hx, hl, hm⟩
    · rw [cutP_miss hm, Lib.count_miss hx]; rfl
    · have e2 := cutP_hit (b := l.drop (i + 1)) hm
      rw [← hl] at e2
      have hlen : (l.drop (i + 1)).length ≤ n := by
        have := congrArg List.length hl
        simp at this ⊢
        omega
      have hi := ih _ hlen
      rw [e2, Lib.count_hit (by simp) hx]
      simp only [List.length_cons, List.length_nil, Nat.zero_add]
      omega

/-- The model's cutting is that one. -/
theorem cutF_data (s : ByteArray) (c : UInt8) : ∀ (f i a : Nat), a ≤ i → i ≤ s.size → f = s.size - i →
    ∃ h t, cutP c (s.data.toList.drop i) = h :: t ∧ (cutF s c f i a).map (·.data.toList) = ((s.data.toList.take i).drop a ++ h) :: t := by
  intro f
  induction f with
  | zero =>
    intro i a ha hi hf
    have hd : s.data.toList.drop i = [] := List.drop_eq_nil_of_le (by simp; omega)
    refine ⟨[], [], by rw [hd]; rfl, ?_⟩
    have : i = s.size := by omega
    subst this
    simp [cutF, List.extract_eq_take_drop]
    rw [List.take_of_length_le (by simp), List.take_of_length_le (by simp)]
  | succ f ih =>
    intro i a ha hi hf
    have hlt : i < s.size := by omega
    have hd : s.data.toList.drop i = s[i] :: s.data.toList.drop (i + 1) := by
      rw [List.drop_eq_getElem_cons (by simpa using hlt)]; rfl
    have ht : s.data.toList.take (i + 1) = s.data.toList.take i ++ [s[i]] := Nm.take_step (Nm.get_data hlt)
    rw [cutF, dif_pos hlt, hd]
    by_cases e : s[i].toNat = c.toNat
    · have ec : s[i] = c := UInt8.toNat_inj.1 e
      rw [if_pos e]
      obtain ⟨h, t, h1, h2⟩ := ih (i + 1) (i + 1) (Nat.le_refl _) (by omega) (by omega)
      refine ⟨[], h :: t, by rw [cutP, if_pos ec, h1], ?_⟩
      rw [List.map_cons, h2, List.drop_eq_nil_of_le (by simp; omega), List.nil_append, List.append_nil]
      congr 1
      simp [List.extract_eq_take_drop, List.drop_take]
    · have ec : ¬ s[i] = c := fun h => e (by rw [h])
      rw [if_neg e]
      obtain ⟨h, t, h1, h2⟩ := ih (i + 1) a (by omega) (by omega) (by omega)
      refine ⟨s[i] :: h, t, by rw [cutP, if_neg ec, h1], ?_⟩
      rw [h2, ht, List.drop_append_of_le_length (by simp; omega)]
      simp
theorem cutB_data (s : ByteArray) (c : UInt8) : (cutB s c).map (·.data.toList) = cutP c s.data.toList := by
  obtain ⟨h, t, h1, h2⟩ := cutF_data s c s.size 0 0 (Nat.le_refl _) (Nat.zero_le _) rfl
  rw [List.drop_zero] at h1
  rw [cutB, h2, h1]
  simp

theorem data_inj : ∀ {a b : List ByteArray}, a.map (·.data.toList) = b.map (·.data.toList) → a = b := by
  intro a
  induction a with
  | nil => intro b h; cases b with
    | nil => rfl
    | cons => simp at h
  | cons x r ih => intro b h; cases b with
    | nil => simp at h
    | cons y t =>
      simp only [List.map_cons, List.cons.injEq] at h
      rw [Nm.ba_ext h.1, ih h.2]

theorem cutB_len (s : ByteArray) (c : UInt8) : (cutB s c).length = (cutP c s.data.toList).length := by rw [← cutB_data, List.length_map]
theorem splitB_len (s : ByteArray) (c : UInt8) (k : Nat) : (Lib.splitB ⟨#[c]⟩ 0 k s).length = min (k + 1) (cutB s c).length := by
  have h := congrArg List.length (Lib.splitB_data ⟨#[c]⟩ 0 k s)
  rw [List.length_map] at h
  rw [h, cutB_len]
  exact (split_cutP c k s.data.toList).1
theorem splitB_cut {s : ByteArray} {c : UInt8} {k : Nat} (h : (cutB s c).length ≤ k + 1) : Lib.splitB ⟨#[c]⟩ 0 k s = cutB s c := by
  apply data_inj
  rw [Lib.splitB_data, cutB_data]
  rw [cutB_len] at h
  exact (split_cutP c k s.data.toList).2 h
theorem count_cut (s : ByteArray) (c : UInt8) : Lib.countB s ⟨#[c]⟩ + 1 = (cutB s c).length := by
  rw [cutB_len]
  exact count_cutP c _ s.data.toList (Nat.le_refl _)
theorem cutP_le (c : UInt8) : ∀ l : List UInt8, (cutP c l).length ≤ l.length + 1 := by
  intro l
  induction l with
  | nil => simp [cutP]
  | cons x r ih =>
    rw [cutP]
    split
    · simp; omega
    · split
      · simp
      · rename_i h t e; rw [e] at ih; simp at ih ⊢; omega
theorem cutB_le (s : ByteArray) (c : UInt8) : (cutB s c).length ≤ s.size + 1 := by
  rw [cutB_len]
  have := cutP_le c s.data.toList
  simpa using this
end Go.Proofs.YtjokdmmlofbknaaDoor
