import Derived.Test.YtmaopfagkffccaaGreatJMath
import Derived.Test.YtmaopfagkffccaaGreatRows
import Derived.WalkSpells
import Derived.WalkLawsBesides
import Derived.Deep.AppendSrc
import Derived.Deep.Upon
import Derived.Test.YtmaopfagkffccaaGreatJSplM
import Derived.Test.YtmaopfagkffccaaGreatJMvM
import Derived.BigQuiet
import Derived.Test.YtmaopfagkffccaaGreatJPartsM
/- Bytes of a string, laid in a new row. -/
namespace Go.Proofs.YtmaopfagkffccaaGreat
open Go.RowKit

/-- The bytes 'l' lie at the head of block g, and may be written. -/
def BRow (w : World) (g : Nat) (l : List UInt8) : Prop := ∀ j c, l[j]? = some c → w.cell? ⟨g, j, none⟩ = some (.int .u8 c.toNat) ∧ w.frozen? ⟨g, j, none⟩ = false

theorem BRow.set {w : World} {g k : Nat} {l : List UInt8} {d : UInt8} (h : BRow w g l) (hk : k < l.length) : BRow (w.setCell ⟨g, k, none⟩ (.int .u8 d.toNat)) g (l.set k d) := by
  intro j c hj
  obtain ⟨x, hx⟩ : ∃ x, l[k]? = some x := ⟨_, List.getElem?_eq_getElem hk⟩
  by_cases e : k = j
  · subst e
    rw [List.getElem?_set_self hk] at hj
    simp at hj
    subst hj
    exact ⟨World.cell?_setCell_same _ _ _ (h k x hx).1, by rw [World.frozen?_setCell]; exact (h k x hx).2⟩
  · rw [List.getElem?_set_ne e] at hj
    refine ⟨?_, by rw [World.frozen?_setCell]; exact (h j c hj).2⟩
    rw [World.cell?_setCell_other w ⟨g, k, none⟩ ⟨g, j, none⟩ _ (by intro h; cases h; exact e rfl)]
    exact (h j c hj).1

theorem new_bytes (s : ByteArray) (w : World) : ∃ cap W, s.size ≤ cap ∧ (s.size ≤ maxLen → cap ≤ maxLen) ∧
    (convert 9 66 (.string s)).run Tryz.prog w = .ok (.slice (some ⟨w.heap.size, 0, none⟩) s.size cap) W ∧ BRow W w.heap.size s.data.toList ∧ Below w.heap.size w W := by
  refine ⟨_, _, grownCap_ge w s.size 0 5, grownCap_le_maxLen w s.size 0 5, run_bytes_of_string w 9 66 5 s Tryz.underlying9 Tryz.underlying66 Tryz.underlying5, ?_, ?_⟩
  · intro j c hj
    have hj' : j < s.data.size := by
      have := (List.getElem?_eq_some_iff.1 hj).1
      simpa using this
    have hc : s.data[j] = c := by
      have := (List.getElem?_eq_some_iff.1 hj).2
      simpa using this
    constructor
    · have e := cell_of_row (w.drew.alloc (.cells (bytesRow s (grownCap w s.size 0 5)) 5 ((bytesRow s (grownCap w s.size 0 5)).size, (bytesRow s (grownCap w s.size 0 5)).size + 1))) w.heap.size j _ 5 _ (heap_alloc_new w.drew _)
      rw [e, bytesRow_at s _ j hj', hc]
    · have e := World.frozen?_alloc_mark w.drew (bytesRow s (grownCap w s.size 0 5)) 5 (bytesRow s (grownCap w s.size 0 5)).size ((bytesRow s (grownCap w s.size 0 5)).size + 1) j
      rw [show w.heap.size = w.drew.heap.size from rfl, e]
      have : s.data.size ≤ (bytesRow s (grownCap w s.size 0 5)).size := by simp [bytesRow]
      simp; omega
  · exact ((Below.refl _ w).drew).alloc (Nat.le_refl _) _

end Go.Proofs.YtmaopfagkffccaaGreat
/- Rows of bytes that may be written up to their capacity; what an append leaves. -/
namespace Go.Proofs.YtmaopfagkffccaaGreat
open Go.RowKit

theorem Tryz.infoB : (Tryz.prog.info? 5).map (fun i => (i.zero, i.size, i.bytes)) = some (some (.int .u8 0), 1, 1) := by kernel_rfl

/-- The bytes 'l' lie where the slice 'v' leads, in a block from B on; the whole row may be written. -/
def FRow (w : World) (B : Nat) (v : Value) (l : List UInt8) : Prop :=
  ∃ g cap, v = .slice (some ⟨g, 0, none⟩) l.length cap ∧ l.length ≤ cap ∧ cap ≤ maxLen ∧ B ≤ g ∧ g < w.heap.size ∧
    (∀ j, j < cap → (w.cell? ⟨g, j, none⟩).isSome = true ∧ w.frozen? ⟨g, j, none⟩ = false) ∧
    (∀ (j : Nat) (c : UInt8), l[j]? = some c → w.cell? ⟨g, j, none⟩ = some (.int .u8 (c.toNat : Int)))

theorem bys_get {l : List UInt8} {j : Nat} {u : Value} (h : (Nm.bys l)[j]? = some u) : ∃ c, l[j]? = some c ∧ u = .int .u8 (c.toNat : Int) := by
  simp [Nm.bys] at h
  obtain ⟨c, h1, h2⟩ := h
  exact ⟨c, h1, h2.symm⟩

theorem sc_size (b : Nat) : ∀ (vs : List Value) (o : Nat) (w : World), (w.setCells b o vs).heap.size = w.heap.size := by
  intro vs
  induction vs with
  | nil => intro o w; rfl
  | cons v vs ih => intro o w; rw [World.setCells, ih]; simp
theorem sc_tape (b : Nat) : ∀ (vs : List Value) (o : Nat) (w : World), (w.setCells b o vs).tape = w.tape := by
  intro vs
  induction vs with
  | nil => intro o w; rfl
  | cons v vs ih => intro o w; rw [World.setCells, ih]; simp

theorem FRow.app {w : World} {B : Nat} {v : Value} {l : List UInt8} (h : FRow w B v l) (hB : B ≤ w.heap.size) (tx : TypeId) (x : Value) (r : List UInt8)
    (hs : _root_.Go.Src Tryz.prog 1 tx x r.length (Nm.bys r) w) (hlen : l.length + r.length ≤ 1000000000000) :
    ∃ v' w', (∀ ty, (Builtin.append_ #[66, tx] ty #[v, x]).run Tryz.prog w = .ok v' w') ∧ FRow w' B v' (l ++ r) ∧ Below B w w' := by
  obtain ⟨g, cap, rfl, h1, h2, h3, h4, h5, h6⟩ := h
  obtain ⟨i0, hi, hz0, hz1, hz2⟩ := info_parts Tryz.infoB
  have hbl : (Nm.bys r).length = r.length := Nm.bys_length r
  by_cases hroom : l.length + r.length ≤ cap
  · have hc : ∀ j, j < (Nm.bys r).length → (w.cell? ⟨g, 0 + l.length * i0.size + j, none⟩).isSome = true := by
      intro j hj
      rw [hz1, Nat.zero_add, Nat.mul_one]
      exact (h5 _ (by omega)).1
    have hf : ∀ j, j < (Nm.bys r).length → w.frozen? ⟨g, 0 + l.length * i0.size + j, none⟩ = false := by
      intro j hj
      rw [hz1, Nat.zero_add, Nat.mul_one]
      exact (h5 _ (by omega)).2
    have hr := fun ty => run_append_room_src (P := Tryz.prog) w 66 tx ty 5 i0 Tryz.underlying66 hi g 0 l.length cap x r.length (Nm.bys r) (by rw [hz1]; exact hs) hroom hc hf
    simp only [hz1, Nat.zero_add, Nat.mul_one] at hr
    rw [hz1, Nat.zero_add, Nat.mul_one] at hc
    refine ⟨_, _, hr, ⟨g, cap, by rw [List.length_append], by rw [List.length_append]; exact hroom, h2, h3, ?_, ?_, ?_⟩, ?_⟩
    · rw [sc_size]; exact h4
    · intro j hj
      refine ⟨?_, by rw [World.frozen?_setCells]; exact (h5 j hj).2⟩
      by_cases hin : l.length ≤ j ∧ j < l.length + r.length
      · have e := World.cell?_setCells_in g (Nm.bys r) l.length w hc (j - l.length) (by omega)
        rw [show l.length + (j - l.length) = j by omega] at e
        rw [e]; rfl
      · rw [World.cell?_setCells_out g _ _ _ _ (fun _ _ => by simp only [hbl]; omega)]
        exact (h5 j hj).1
    · intro j c hj
      by_cases hlt : j < l.length
      · rw [List.getElem?_append_left hlt] at hj
        rw [World.cell?_setCells_out g _ _ _ _ (fun _ _ => .inl hlt)]
        exact h6 j c hj
      · rw [List.getElem?_append_right (by omega)] at hj
        have hjr : j - l.length < r.length := (List.getElem?_eq_some_iff.1 hj).1
        have e := World.cell?_setCells_in g (Nm.bys r) l.length w hc (j - l.length) (by omega)
        rw [show l.length + (j - l.length) = j by omega] at e
        rw [e]
        have e2 : (Nm.bys r)[j - l.length]? = some (.int .u8 (c.toNat : Int)) := by simp [Nm.bys, hj]
        rw [List.getElem?_eq_getElem (by omega)] at e2
        exact e2
    · exact ⟨World.os_setCells _ _ _ _, sc_tape _ _ _ _, World.output_setCells _ _ _ _, Nat.le_of_eq (sc_size _ _ _ _).symm, fun k hk => World.heap_setCells_other w g _ _ (by omega) (by omega)⟩
  · have hold : (Builtin.firstCells i0.size l.length (.slice (some ⟨g, 0, none⟩) l.length cap)).run Tryz.prog w.drew = .ok (Nm.bys l).toArray w.drew := by
      rw [hz1]
      refine run_firstCells_some w.drew 1 l.length ⟨g, 0, none⟩ l.length cap (Nm.bys l) (by rw [Nm.bys_length, Nat.mul_one]) ?_
      intro j u hu
      obtain ⟨c, hc, rfl⟩ := bys_get hu
      have := h6 j c hc
      rw [Nm.addr_add, Nat.zero_add]
      exact this
    have hr := fun ty => run_append_grow_src (P := Tryz.prog) w 66 tx ty 5 i0 (.int .u8 0) Tryz.underlying66 hi hz0 (some ⟨g, 0, none⟩) l.length cap (Nm.bys l) hold x r.length (Nm.bys r) (by rw [hz1]; exact hs) (by omega) (by omega) (by rw [hz2]; exact growslice_fits (by omega) (by omega))
    have hge := grownCap_ge w (l.length + r.length) cap 5
    have hle := grownCap_le_maxLen w (l.length + r.length) cap 5 (by unfold maxLen; omega)
    generalize grownCap w (l.length + r.length) cap 5 = C at *
    have hall : ∀ j, j < C → ∃ u, ((Nm.bys l ++ Nm.bys r).toArray ++ Builtin.zeroCells (Value.int IntKind.u8 0).cells (C - (l.length + r.length)))[j]? = some u := by
      intro j hj
      have hz : ((Nm.bys l ++ Nm.bys r).toArray ++ Builtin.zeroCells (Value.int IntKind.u8 0).cells (C - (l.length + r.length))).size = C := by
        have hz1' : (Value.int IntKind.u8 0).cells.size = 1 := rfl
        simp only [Array.size_append, List.size_toArray, size_zeroCells, hz1', List.length_append, Nm.bys_length]
        omega
      exact ⟨_, Array.getElem?_eq_getElem (by omega)⟩
    have hcell : ∀ j, (w.drew.alloc (.cells ((Nm.bys l ++ Nm.bys r).toArray ++ Builtin.zeroCells (Value.int IntKind.u8 0).cells (C - (l.length + r.length))) 5)).cell? ⟨w.heap.size, j, none⟩ = ((Nm.bys l ++ Nm.bys r).toArray ++ Builtin.zeroCells (Value.int IntKind.u8 0).cells (C - (l.length + r.length)))[j]? := by
      intro j
      exact World.cell?_alloc_new w.drew _ _ j
    refine ⟨_, _, hr, ⟨w.heap.size, C, by rw [List.length_append], by rw [List.length_append]; exact hge, hle, hB, by simp, ?_, ?_⟩, ?_⟩
    · intro j hj
      obtain ⟨u, hu⟩ := hall j hj
      exact ⟨by rw [hcell, hu]; rfl, World.frozen?_alloc_new w.drew _ _ j⟩
    · intro j c hj
      rw [hcell]
      have e : (Nm.bys l ++ Nm.bys r)[j]? = some (.int .u8 (c.toNat : Int)) := by
        rw [← Nm.bys_append, Nm.bys, List.getElem?_map, hj]; rfl
      rw [Array.getElem?_append_left (by have := (List.getElem?_eq_some_iff.1 e).1; simpa using this)]
      simpa using e
    · exact ((Below.refl B w).drew).alloc hB _

theorem FRow.below {w w' : World} {B : Nat} {v : Value} {l : List UInt8} (h : FRow w B v l) (hb : Below w.heap.size w w') : FRow w' B v l := by
  obtain ⟨g, cap, rfl, h1, h2, h3, h4, h5, h6⟩ := h
  have hc : ∀ j, w'.cell? ⟨g, j, none⟩ = w.cell? ⟨g, j, none⟩ := fun j => hb.cell h4
  have hfz : ∀ j, w'.frozen? ⟨g, j, none⟩ = w.frozen? ⟨g, j, none⟩ := fun j => by
    simp only [World.frozen?, hb.block g h4]
  refine ⟨g, cap, rfl, h1, h2, h3, Nat.lt_of_lt_of_le h4 hb.size, ?_, ?_⟩
  · intro j hj; rw [hc, hfz]; exact h5 j hj
  · intro j c hj; rw [hc]; exact h6 j c hj

/-- string(b) of such a row. -/
theorem FRow.str {w : World} {B : Nat} {v : Value} {l : List UInt8} (h : FRow w B v l) : (convert 66 9 v).run Tryz.prog w = .ok (.string ⟨l.toArray⟩) w := by
  obtain ⟨g, cap, rfl, h1, h2, h3, h4, h5, h6⟩ := h
  refine run_convert_bytes_back w 66 9 5 ⟨g, 0, none⟩ cap l Tryz.underlying66 Tryz.underlying5 Tryz.underlying9 ?_
  intro j hj
  rw [Nm.addr_add, Nat.zero_add]
  exact h6 j _ (List.getElem?_eq_getElem hj)

/-- []byte(s). -/
theorem FRow.new (s : ByteArray) (w : World) (hs : s.size ≤ 1000000000000) : ∃ v W, (convert 9 66 (.string s)).run Tryz.prog w = .ok v W ∧ FRow W w.heap.size v s.data.toList ∧ Below w.heap.size w W := by
  have hge := grownCap_ge w s.size 0 5
  have hle := grownCap_le_maxLen w s.size 0 5 (by unfold maxLen; omega)
  have hr := run_bytes_of_string w 9 66 5 s Tryz.underlying9 Tryz.underlying66 Tryz.underlying5
  generalize grownCap w s.size 0 5 = C at *
  have hl : s.data.toList.length = s.size := by simp
  have hz : (bytesRow s C).size = C := by
    have : s.data.size = s.size := rfl
    simp [bytesRow]; omega
  have hcell : ∀ j, (w.drew.alloc (.cells (bytesRow s C) 5 ((bytesRow s C).size, (bytesRow s C).size + 1))).cell? ⟨w.heap.size, j, none⟩ = (bytesRow s C)[j]? := fun j =>
    cell_of_row _ w.heap.size j _ 5 _ (heap_alloc_new w.drew _)
  refine ⟨_, _, hr, ⟨w.heap.size, C, by rw [hl], by omega, hle, Nat.le_refl _, by simp, ?_, ?_⟩, ((Below.refl _ w).drew).alloc (Nat.le_refl _) _⟩
  · intro j hj
    refine ⟨by rw [hcell, Array.getElem?_eq_getElem (by omega)]; rfl, ?_⟩
    have e := World.frozen?_alloc_mark w.drew (bytesRow s C) 5 (bytesRow s C).size ((bytesRow s C).size + 1) j
    rw [show w.heap.size = w.drew.heap.size from rfl, e]
    simp; omega
  · intro j c hj
    have hj' : j < s.data.size := by
      have := (List.getElem?_eq_some_iff.1 hj).1
      simpa using this
    have hc : s.data[j] = c := by
      have := (List.getElem?_eq_some_iff.1 hj).2
      simpa using this
    rw [hcell, bytesRow_at s _ j hj', hc]

/-- The operation, for the walk. -/
theorem wpList_append_run {ops : Array Oper} {rest : List Oper} {o : Oper} {a : Act} {w : World} {Q : Exit → Act → World → Prop} (hgd : o.guard = none) (s x : Operand) (t u : TypeId)
    (ho : o.op = .call { callee := .builtin .append, args := #[s, x], argTypes := #[t, u] }) (v xv : Value) (hs : a.eval s = v) (hx : a.eval x = xv)
    (v' : Value) (w' : World) (hr : ∀ ty, (Builtin.append_ #[t, u] ty #[v, xv]).run Tryz.prog w = .ok v' w')
    (h : wpList Tryz.prog ops Q rest (a.put o.dst v') w') : wpList Tryz.prog ops Q (o :: rest) a w := by
  refine wpList_plain hgd fun K hK => ?_
  have hr := hr o.type
  unfold Oper.wp execOp
  simp only [ho, resolve, invoke, builtin, Sem.run_bind, Sem.run_pure, Result.andThen_ok, List.map_toArray, List.map_cons, List.map_nil, hs, hx, hr]
  exact hK _ _ h
end Go.Proofs.YtmaopfagkffccaaGreat
/- spec.l02Put at width 2 by its contract. -/
namespace Go.Proofs.YtmaopfagkffccaaGreat
open Go.RowKit

theorem put2_cells {n : Nat} (h : n < 65536) : Nm.bys (put2 n) = [.int .u8 ((n : Int) / 256), .int .u8 ((n : Int) % 256)] := by
  simp [Nm.bys, put2]
  omega

theorem put2_step {W wr w1 : World} {v v' : Value} {B e n : Nat} {l : List Value} {x : Value} (hB : B ≤ wr.heap.size)
    (hown : wr.ownsRow B e 1 v n l) (hbel : Below B W wr) (o : Obj) (hgrow : (wr.alloc o).grownBy w1 v.ownBlock)
    (hown' : w1.ownsRow B e 1 v' (n + 1) (l ++ [x])) :
    w1.ownsRow B e 1 v' (n + 1) (l ++ [x]) ∧ Below B W w1 := by
  refine ⟨hown', ?_⟩
  refine (hbel.alloc hB o).grown hgrow (by simp; omega) ?_
  intro k hk
  exact (hown.lt k hk).1

set_option maxRecDepth 100000 in
set_option maxHeartbeats 800000 in
theorem l02Put2_any (n : Nat) (w : World) (hn : n < 65536) :
    Calls Tryz.prog 77 #[.int .i64 (n : Int), .int .i64 2] w fun e w' => e = .returned (.string ⟨(put2 n).toArray⟩) ∧ Below w.heap.size w w' := by
  obtain ⟨i0, hi, hz0, hz1, hz2⟩ := info_parts Tryz.infoB
  have hcs := put2_cells hn
  have hn' : (n : Int) < 65536 := by omega
  go_enter Tryz.func77, Tryz.ntmps77
  go_wp2
  go_loopw [5, 6] (fun v i wr => ∃ j : Nat, j ≤ 2 ∧ i = .int .i64 (1 - (j : Int)) ∧ wr.ownsRow w.heap.size 5 1 v j ([Value.int .u8 ((n : Int) / 256), .int .u8 ((n : Int) % 256)].take j) ∧ Below w.heap.size w wr)
    (fun _ i _ => (intOf i + 1).toNat)
  case atStart => exact ⟨0, by omega, rfl, World.ownsRow_made w #[] 0 (Nat.le_refl _) (by decide) rfl, (Below.refl _ _).alloc (Nat.le_refl _) _⟩
  case round =>
    obtain ⟨j, hj, rfl, hown, hbel⟩ := hrel
    have hsz := hbel.size
    obtain rfl | rfl | rfl : j = 0 ∨ j = 1 ∨ j = 2 := by omega
    · simp only [List.take_zero, Int.sub_zero, Int.cast_ofNat_Int] at hown ⊢
      go_wp2_with (at_builtin; refine wpList_append_own _ rfl (.tmp 14) (.tmp 21) 66 rfl w.heap.size 5 i0 (.int .u8 0) 1 1 Tryz.underlying66 hi hz0 hz1 hz2 rfl (by decide) _ _ _ rfl (hown.alloc _) ⟨wr.heap.size, 0, none⟩ 1 1 [.int .u8 ((n : Int) / 256)] rfl rfl (cell_new1 _ _ _) (Nm.one_cell _ rfl) (by unfold maxLen; omega) (by omega) (by simp; omega) ?_)
      intro v' w1 hown' hgrow _
      have R := put2_step hsz hown hbel _ hgrow hown'
      clear hown' hgrow hown hbel
      go_wp2
      go_roundw
      case rel => exact ⟨1, by omega, by go_num, R.1, R.2⟩
      case measure => simp [intOf]
    · simp only [List.take_succ_cons, List.take_zero] at hown ⊢
      go_wp2_with (at_builtin; refine wpList_append_own _ rfl (.tmp 14) (.tmp 21) 66 rfl w.heap.size 5 i0 (.int .u8 0) 1 1 Tryz.underlying66 hi hz0 hz1 hz2 rfl (by decide) _ _ _ rfl (hown.alloc _) ⟨wr.heap.size, 0, none⟩ 1 1 [.int .u8 ((n : Int) % 256)] rfl rfl (cell_new1 _ _ _) (Nm.one_cell _ rfl) (by unfold maxLen; omega) (by omega) (by simp; omega) ?_)
      intro v' w1 hown' hgrow _
      have R := put2_step hsz hown hbel _ hgrow hown'
      clear hown' hgrow hown hbel
      go_wp2
      go_roundw
      case rel => exact ⟨2, by omega, by go_num, R.1, R.2⟩
      case measure => simp [intOf]
    · simp only [List.take_succ_cons, List.take_zero] at hown ⊢
      rw [← hcs] at hown
      have HC := Nm.conv_own (P := Tryz.prog) (src := 66) (dst := 9) Tryz.underlying66 Tryz.underlying5 Tryz.underlying9 hown (by omega)
      obtain ⟨g, cap, rfl, hcv⟩ := HC
      clear hown
      go_wp2
      go_ret
      exact ⟨rfl, hbel⟩
end Go.Proofs.YtmaopfagkffccaaGreat
/- How a message's name is written: the places of its rests. -/
namespace Go.Proofs.YtmaopfagkffccaaGreat
open Go.RowKit
set_option linter.unusedVariables false

def nmB (ls : List ByteArray) : ByteArray := ⟨(Nm.joinL ls).toArray⟩
theorem nmB_data (ls : List ByteArray) : (nmB ls).data.toList = Nm.joinL ls := by simp [nmB]
theorem nmB_split {s : ByteArray} {ls : List ByteArray} (h : Nm.split s = some ls) : nmB ls = s := by
  apply Nm.ba_ext
  rw [nmB_data, (Nm.split_join h).1]
theorem nmB_size (ls : List ByteArray) : (nmB ls).size = Nm.wsum ls + 1 := by
  have : (nmB ls).size = (Nm.joinL ls).length := by simp [nmB, ByteArray.size]
  rw [this, Nm.joinL_length]

abbrev Wst := List UInt8 × List (ByteArray × Nat)
/-- A name's bytes: an earlier place of a rest, or the label and the rest. -/
def nmW : List ByteArray → List UInt8 → List (ByteArray × Nat) → Wst
  | [], bs, pls => (bs ++ [0], pls)
  | l :: ls, bs, pls =>
    if 0 ≤ seenS pls (nmB (l :: ls)) then (bs ++ put2 (49152 + (seenS pls (nmB (l :: ls))).toNat), pls)
    else nmW ls (bs ++ (UInt8.ofNat l.size :: l.data.toList)) (if bs.length ≤ 16383 then pls ++ [(nmB (l :: ls), bs.length)] else pls)

def PlOK (pls : List (ByteArray × Nat)) (n : Nat) : Prop := pls.length ≤ n ∧ ∀ p ∈ pls, p.2 ≤ 16383
theorem PlOK.mono {pls : List (ByteArray × Nat)} {n m : Nat} (h : PlOK pls n) (hm : n ≤ m) : PlOK pls m := ⟨by have := h.1; omega, h.2⟩
theorem PlOK.put {pls : List (ByteArray × Nat)} {n : Nat} {p : ByteArray × Nat} (h : PlOK pls n) (hp : p.2 ≤ 16383) : PlOK (pls ++ [p]) (n + 1) := by
  refine ⟨by have := h.1; simp; omega, ?_⟩
  intro q hq
  rcases List.mem_append.1 hq with hq | hq
  · exact h.2 q hq
  · simp at hq; subst hq; exact hp
theorem seenS_lt {pls : List (ByteArray × Nat)} {n : Nat} (h : PlOK pls n) (t : ByteArray) : -1 ≤ seenS pls t ∧ seenS pls t ≤ 16383 := by
  obtain ⟨hn, h⟩ := h
  clear hn
  induction pls with
  | nil => simp [seenS]
  | cons p r ih =>
    rw [seenS]
    have h1 := h p (List.mem_cons_self ..)
    have h2 := ih (fun q hq => h q (List.mem_cons_of_mem _ hq))
    split <;> omega

theorem nmW_len : ∀ (ls : List ByteArray) (bs : List UInt8) (pls : List (ByteArray × Nat)), (∀ x ∈ ls, 1 ≤ x.size) → (nmW ls bs pls).1.length ≤ bs.length + Nm.wsum ls + 1 ∧ bs.length + 1 ≤ (nmW ls bs pls).1.length := by
  intro ls
  induction ls with
  | nil => intro bs pls h; simp [nmW, Nm.wsum]
  | cons l ls ih =>
    intro bs pls h
    have h1 := h l (List.mem_cons_self ..)
    have e : Nm.wsum (l :: ls) = 1 + l.size + Nm.wsum ls := by simp [Nm.wsum]
    rw [nmW, e]
    split
    · simp [put2]; omega
    · have := ih (bs ++ (UInt8.ofNat l.size :: l.data.toList)) (if bs.length ≤ 16383 then pls ++ [(nmB (l :: ls), bs.length)] else pls) (fun x hx => h x (List.mem_cons_of_mem _ hx))
      simp at this ⊢
      omega
theorem nmW_ok : ∀ (ls : List ByteArray) (bs : List UInt8) (pls : List (ByteArray × Nat)), PlOK pls bs.length → PlOK (nmW ls bs pls).2 (nmW ls bs pls).1.length := by
  intro ls
  induction ls with
  | nil => intro bs pls h; exact h.mono (by simp [nmW])
  | cons l ls ih =>
    intro bs pls h
    rw [nmW]
    split
    · exact h.mono (by simp)
    · apply ih
      split
      · rename_i hl
        exact (h.put (p := (nmB (l :: ls), bs.length)) hl).mono (by simp)
      · exact h.mono (by simp)

theorem nmB_ne (l : ByteArray) (ls : List ByteArray) (h : 1 ≤ l.size) : ((nmB (l :: ls)).toList == [0]) = false := by
  rw [beq_eq_false_iff_ne]
  intro e
  have := congrArg List.length e
  rw [Nm.tl_len, nmB_size] at this
  simp [Nm.wsum] at this
theorem nmB_nil : ((nmB []).toList == [0]) = true := by
  rw [ByteArray.toList_eq, nmB_data]
  rfl
theorem nmB_data_cons (l : ByteArray) (ls : List ByteArray) : (nmB (l :: ls)).data.toList = UInt8.ofNat l.size :: (l.data.toList ++ Nm.joinL ls) := by
  rw [nmB_data]; simp [Nm.joinL, Nm.preL]
theorem nmB_0 (l : ByteArray) (ls : List ByteArray) (hl : l.size ≤ 63) (h : 0 < (nmB (l :: ls)).size) : ((nmB (l :: ls))[0].toNat : Int) = (l.size : Int) := by
  have e : (nmB (l :: ls)).data.toList[0]? = some (nmB (l :: ls))[0] := Nm.get_data h
  rw [nmB_data_cons] at e
  simp at e
  rw [← e]
  simp; omega
theorem nmB_pre (l : ByteArray) (ls : List ByteArray) : ((nmB (l :: ls)).extract 0 (l.size + 1)).data.toList = UInt8.ofNat l.size :: l.data.toList := by
  rw [ByteArray.data_extract, Array.toList_extract, nmB_data_cons]
  simp [List.extract]
theorem nmB_rest (l : ByteArray) (ls : List ByteArray) : (nmB (l :: ls)).extract (l.size + 1) (nmB (l :: ls)).size = nmB ls := by
  apply Nm.ba_ext
  rw [ByteArray.data_extract, Array.toList_extract, nmB_data_cons, nmB_data, nmB_size]
  simp [List.extract, Nm.wsum]
  exact List.take_of_length_le (by rw [Nm.joinL_length]; omega)
end Go.Proofs.YtmaopfagkffccaaGreat
/- spec.l04Name by its contract. -/
namespace Go.Proofs.YtmaopfagkffccaaGreat
open Go.RowKit
set_option linter.unusedVariables false

theorem Tryz.infoPl : (Tryz.prog.info? 129).map (fun i => (i.zero, i.size, i.bytes)) = some (some (.agg #[.string ByteArray.empty, .int .i64 0]), 2, 24) := by kernel_rfl

theorem idx0 (s : ByteArray) (h : 0 < s.size) (W : World) : (Instr.index 9 (.string s) (.int .i64 0)).run Tryz.prog W = .ok (.int .u8 (s[0].toNat : Int)) W := by
  have := byte_in s 0 h W
  simpa using this

set_option maxRecDepth 100000 in
set_option maxHeartbeats 3200000 in
theorem l04Name_any (s : ByteArray) (ls0 : List ByteArray) (hs : Nm.split s = some ls0) (g B : Nat) (bs : List UInt8) (pls : List (ByteArray × Nat)) (vb vp : Value) (w : World) (h : SW w g B bs pls vb vp) (hB : B ≤ w.heap.size) (hl : bs.length + 256 ≤ 50000000) (hok : PlOK pls bs.length) :
    Calls Tryz.prog 78 #[.pointer (some ⟨g, 0, none⟩), .string s] w fun e w' => e = .returned (.tuple #[]) ∧ ∃ vb' vp', SW w' g B (nmW ls0 bs pls).1 (nmW ls0 bs pls).2 vb' vp' ∧ Bk B w w' := by
  obtain ⟨i0, hi, hz0, hz1, hz2⟩ := info_parts Tryz.infoPl
  have hsz := Nm.split_size hs
  have hxs := (Nm.split_join hs).2
  obtain rfl := nmB_split hs
  generalize hRES : nmW ls0 bs pls = RES
  have hbd : bs.length + Nm.wsum ls0 + 1 ≤ 50000000 := by omega
  clear hsz hs hl
  go_enter Tryz.func78, Tryz.ntmps78
  go_wp2
  go_loopw [1] (fun nv wr => ∃ (ls : List ByteArray) (bs' : List UInt8) (pls' : List (ByteArray × Nat)) (vb' vp' : Value), nv = .string (nmB ls) ∧ SW wr g B bs' pls' vb' vp' ∧ B ≤ wr.heap.size ∧ Bk B w wr ∧ PlOK pls' bs'.length ∧ (∀ x ∈ ls, 1 ≤ x.size ∧ x.size ≤ 63) ∧ bs'.length + Nm.wsum ls + 1 ≤ 50000000 ∧ Hid (nmW ls bs' pls' = RES)) (fun nv _ => match nv with | .string t => t.size | _ => 0)
  case atStart => exact ⟨ls0, bs, pls, vb, vp, rfl, h, hB, Bk.refl _ _, hok, hxs, hbd, hRES⟩
  case round =>
    obtain ⟨ls, bs', pls', vb', vp', rfl, hS, hBw, hbel, hok', hxs', hbd', HR⟩ := hrel
    clear h hB hok hxs hbd hRES
    cases ls with
    | nil =>
      have e1 := nmB_nil
      obtain rfl : (bs' ++ [0], pls') = RES := HR.out
      clear HR
      have hcall := fun W (h : SW W g B bs' pls' vb' vp') (hB : B ≤ W.heap.size) => l04Text_any (nmB []) g B bs' pls' vb' vp' W h hB (by rw [nmB_size]; simp [Nm.wsum] at hbd' ⊢; omega)
      rw [show (nmB []).data.toList = [0] from nmB_data []] at hcall
      generalize nmB [] = N0 at *
      go_wp2_with (go_at_call 57; refine (hcall wr hS hBw).mono ?_; rintro e w5 ⟨rfl, vb5, hS5, hb5⟩)
      refine bodyPost_end (v := .tuple #[]) ?_ rfl ⟨rfl, ⟨vb5, vp', hS5⟩, hbel.trans hb5⟩
      simp [results, Tryz.results78, go_sem]
    | cons l ls =>
      obtain ⟨x1, x2⟩ := hxs' l (List.mem_cons_self ..)
      have e1 := nmB_ne l ls x1
      have hws : Nm.wsum (l :: ls) = 1 + l.size + Nm.wsum ls := by simp [Nm.wsum]
      have hnz := nmB_size (l :: ls)
      have hse := l04Seen_any (nmB (l :: ls)) g B bs' pls' vb' vp' wr hS (by have := hok'.1; omega)
      obtain ⟨s1, s2⟩ := seenS_lt hok' (nmB (l :: ls))
      by_cases hsn : 0 ≤ seenS pls' (nmB (l :: ls))
      · obtain ⟨q, hq⟩ : ∃ q : Nat, seenS pls' (nmB (l :: ls)) = (q : Int) := ⟨_, (Int.toNat_of_nonneg hsn).symm⟩
        have HE : (bs' ++ put2 (49152 + q), pls') = RES := by
          rw [← HR.out, nmW, if_pos hsn, hq, Int.toNat_natCast]
        clear HR
        subst HE
        rw [hq] at hse
        have hq2 : (q : Int) ≤ 16383 := by omega
        have hq0 : (0 : Int) ≤ (q : Int) := by omega
        have hput : ∀ W, Calls Tryz.prog 77 #[.int .i64 (49152 + (q : Int)), .int .i64 2] W fun e w' => e = .returned (.string ⟨(put2 (49152 + q)).toArray⟩) ∧ Below W.heap.size W w' := by
          intro W
          have := l02Put2_any (49152 + q) W (by omega)
          rw [Int.natCast_add] at this
          exact this
        have hcall := fun W (h : SW W g B bs' pls' vb' vp') (hB : B ≤ W.heap.size) => l04Text_any ⟨(put2 (49152 + q)).toArray⟩ g B bs' pls' vb' vp' W h hB (by show bs'.length + (put2 _).toArray.size ≤ _; simp [put2]; omega)
        have HP : (ByteArray.mk (put2 (49152 + q)).toArray).data.toList = put2 (49152 + q) := by simp
        rw [HP] at hcall
        clear HP s1 s2 hsn hq hxs'
        generalize (ByteArray.mk (put2 (49152 + q)).toArray) = PB at *
        generalize nmB (l :: ls) = NB at *
        go_wp2_with first
          | (go_at_call 87; refine hse.mono ?_; rintro e wr ⟨rfl, rfl⟩)
          | (go_at_call 77; refine (hput _).mono ?_; rintro e w5 ⟨rfl, hb5⟩)
          | (go_at_call 57; refine (hcall _ (hS.below hb5) (Nat.le_trans hBw hb5.size)).mono ?_; rintro e w6 ⟨rfl, vb6, hS6, hb6⟩)
        refine bodyPost_ret (v := .tuple #[]) ?_ rfl ⟨rfl, ⟨vb6, vp', hS6⟩, hbel.trans ((Bk.of hb5 hBw).trans hb6)⟩
        simp [results, Tryz.results78, go_sem]
      · have HR2 : Hid (nmW ls (bs' ++ (UInt8.ofNat l.size :: l.data.toList)) (if bs'.length ≤ 16383 then pls' ++ [(nmB (l :: ls), bs'.length)] else pls') = RES) := by
          have := HR.out
          rw [nmW, if_neg hsn] at this
          exact this
        have hq : seenS pls' (nmB (l :: ls)) = -1 := by omega
        rw [hq] at hse
        have hn0 : 0 < (nmB (l :: ls)).size := by omega
        have hidx := fun W => idx0 (nmB (l :: ls)) hn0 W
        rw [nmB_0 l ls x2 hn0] at hidx
        have htx := fun pl vp2 W (h : SW W g B bs' pl vb' vp2) (hB : B ≤ W.heap.size) => l04Text_any ((nmB (l :: ls)).extract 0 (l.size + 1)) g B bs' pl vb' vp2 W h hB (by rw [ByteArray.size_extract]; omega)
        rw [nmB_pre l ls] at htx
        have hrest := nmB_rest l ls
        have hnz' : ((nmB (l :: ls)).size : Int) = 1 + l.size + Nm.wsum ls + 1 := by rw [hnz, hws]; omega
        have hxs2 : ∀ x ∈ ls, 1 ≤ x.size ∧ x.size ≤ 63 := fun x hx => hxs' x (List.mem_cons_of_mem _ hx)
        have hgt : ¬ (nmB ls).size ≥ (nmB (l :: ls)).size := by rw [hnz, hws, nmB_size]; omega
        clear HR hsn hq s1 s2 hxs' hn0
        generalize nmB (l :: ls) = NB at *
        have hcr : (l.size : Int) + 1 ≤ (NB.size : Int) := by omega
        clear hnz hnz'
        obtain ⟨xa, ya, hv⟩ := own_sl hS.rb
        obtain ⟨xp, yp, hvp⟩ := own_sl hS.rp
        subst hv hvp
        have c0 : wr.cell? ⟨g, 0, none⟩ = some (.slice xa bs'.length ya) := (blk_cell hS.blk 0).trans rfl
        have c1 : wr.cell? ⟨g, 1, none⟩ = some (.slice xp pls'.length yp) := (blk_cell hS.blk 1).trans rfl
        by_cases hsh : bs'.length ≤ 16383
        · rw [if_pos hsh] at HR2
          have hsh' : (bs'.length : Int) ≤ 16383 := by omega
          have hok2 := (hok'.put (p := (NB, bs'.length)) hsh).mono (m := (bs' ++ (UInt8.ofNat l.size :: l.data.toList)).length) (by simp)
          go_wp2_with (go_at_call 87; refine hse.mono ?_; rintro e wr ⟨rfl, rfl⟩)
          refine wp_region_last (fun W => W.cell? ⟨g, 0, none⟩ = some (.slice xa bs'.length ya) ∧ W.cell? ⟨g, 1, none⟩ = some (.slice xp pls'.length yp)) 16 (by kernel_rfl) ⟨c0, c1⟩ (fun hHeld => ?_)
          refine wpAnyL_take (i := 0) (v := ?_) rfl (by kernel_rfl) (by kernel_rfl) (by kernel_rfl) (by kernel_rfl) (fun _ _ _ h => h) (Or.inl ⟨by rfl, ?_⟩) (by assumption) ?_
          rotate_left 1
          · (rintro w ⟨hSw1, hSw2⟩; go_simp; try (with_reducible rfl))
          refine wpAnyL_take (i := 1) (v := ?_) rfl (by kernel_rfl) (by kernel_rfl) (by kernel_rfl) (by kernel_rfl) (fun _ _ _ h => h) (Or.inl ⟨by rfl, ?_⟩) (by assumption) ?_
          rotate_left 1
          · (rintro w ⟨hSw1, hSw2⟩; go_simp; try (with_reducible rfl))
          refine wpAnyL_take (i := 2) (v := ?_) rfl (by kernel_rfl) (by kernel_rfl) (by kernel_rfl) (by kernel_rfl) (fun _ _ _ h => h) (Or.inl ⟨by rfl, ?_⟩) (by assumption) ?_
          rotate_left 1
          · (rintro w ⟨hSw1, hSw2⟩; go_simp; try (with_reducible rfl))
          refine wpAnyL_take (i := 3) (v := ?_) rfl (by kernel_rfl) (by kernel_rfl) (by kernel_rfl) (by kernel_rfl) (fun _ _ _ h => h) (Or.inl ⟨by rfl, ?_⟩) (by assumption) ?_
          rotate_left 1
          · (rintro w ⟨hSw1, hSw2⟩; go_simp; try (with_reducible rfl))
          refine wpAnyL_take (i := 4) (v := ?_) rfl (by kernel_rfl) (by kernel_rfl) (by kernel_rfl) (by kernel_rfl) (fun _ _ _ h => h) (Or.inl ⟨by rfl, ?_⟩) (by assumption) ?_
          rotate_left 1
          · (rintro w ⟨hSw1, hSw2⟩; go_simp; try (with_reducible rfl))
          refine wpAnyL_take (i := 5) (v := ?_) rfl (by kernel_rfl) (by kernel_rfl) (by kernel_rfl) (by kernel_rfl) (fun _ _ _ h => h) (Or.inl ⟨by rfl, ?_⟩) (by assumption) ?_
          rotate_left 1
          · (rintro w ⟨hSw1, hSw2⟩; go_simp; try (with_reducible rfl))
          refine wpAnyL_take (i := 6) (v := ?_) rfl (by kernel_rfl) (by kernel_rfl) (by kernel_rfl) (by kernel_rfl) (fun _ _ _ h => h) (Or.inl ⟨by rfl, ?_⟩) (by assumption) ?_
          rotate_left 1
          · (rintro w ⟨hSw1, hSw2⟩; go_simp; try (with_reducible rfl))
          refine wpAnyL_take (i := 7) (v := ?_) rfl (by kernel_rfl) (by kernel_rfl) (by kernel_rfl) (by kernel_rfl) (fun _ _ _ h => h) (Or.inl ⟨by rfl, ?_⟩) (by assumption) ?_
          rotate_left 1
          · (rintro w ⟨hSw1, hSw2⟩; go_simp; try (with_reducible rfl))
          refine wpAnyL_take (i := 8) (v := ?_) rfl (by kernel_rfl) (by kernel_rfl) (by kernel_rfl) (by kernel_rfl) (fun _ _ _ h => h) (Or.inl ⟨by rfl, ?_⟩) (by assumption) ?_
          rotate_left 1
          · (rintro w ⟨hSw1, hSw2⟩; go_simp; try (with_reducible rfl))
          refine wpAnyL_take (i := 9) (v := ?_) rfl (by kernel_rfl) (by kernel_rfl) (by kernel_rfl) (by kernel_rfl) (fun _ _ _ h => h) (Or.inl ⟨by rfl, ?_⟩) (by assumption) ?_
          rotate_left 1
          · (rintro w ⟨hSw1, hSw2⟩; go_simp; try (with_reducible rfl))
          refine wpAnyL_take (i := 10) (v := ?_) rfl (by kernel_rfl) (by kernel_rfl) (by kernel_rfl) (by kernel_rfl) (fun _ _ _ h => h) (Or.inl ⟨by rfl, ?_⟩) (by assumption) ?_
          rotate_left 1
          · (rintro w ⟨hSw1, hSw2⟩; go_simp; try (with_reducible rfl))
          refine wpAnyL_take (i := 11) (v := ?_) rfl (by kernel_rfl) (by kernel_rfl) (by kernel_rfl) (by kernel_rfl) (fun _ _ _ h => h) (Or.inl ⟨by rfl, ?_⟩) (by assumption) ?_
          rotate_left 1
          · (rintro w ⟨hSw1, hSw2⟩; go_simp; try (with_reducible rfl))
          have hSd : SW wr.drew g B bs' pls' (.slice xa bs'.length ya) (.slice xp pls'.length yp) := hS.below (Below.refl _ _).drew
          have hSa := hSd.below ((Below.refl _ _).alloc (Nat.le_refl _) (.cells #[.string NB, .int .i64 bs'.length] 129))
          refine wpAnyL_one (i := 12) (by kernel_rfl) rfl (fun K hK => ?_)
          go_simp
          refine hK.out _ _ ⟨(blk_cell hSa.blk 0).trans rfl, (blk_cell hSa.blk 1).trans rfl⟩ (fun hH2 => ?_)
          clear hK K
          refine wpAnyL_one (i := 13) (by kernel_rfl) rfl (fun K hK => ?_)
          have hba := hSa.rp
          refine step_append_own rfl (.tmp 28) (.tmp 36) 96 rfl B 129 i0 _ 2 24 Tryz.underlying96 hi hz0 hz1 hz2 rfl (by decide) (.slice xp pls'.length yp) pls'.length (plVs pls') (by rfl) hba ⟨wr.drew.heap.size, 0, none⟩ 1 1 [.string NB, .int .i64 bs'.length] (by rfl) rfl (cell_newW _ _ _) (by intro u hu; simp at hu; rcases hu with rfl | rfl <;> rfl) (by have := hok'.1; unfold maxLen; omega) (by have := hok'.1; omega) (by simp; omega) ?_
          intro va wa hown9 hgrow9 hnl9
          clear hnl9
          obtain ⟨xb, yb, hvb⟩ := own_sl hown9
          have hblk9 : Blk wa g #[.slice xa bs'.length ya, .slice xp pls'.length yp] 98 := blk_grown hSa.blk hgrow9 (fun e => own_blk hba hSa.blk (by decide) e)
          have hrb9 := own_beside hSa.rb hgrow9 (own_kinds hSa.rb hba (by decide))
          have b9 : Bk B w wa := (hbel.trans (Bk.of ((Below.refl wr.heap.size wr).drew.alloc (Nat.le_refl _) _) hBw)).app hba hgrow9 (by simp; omega) (.inr rfl)
          have c9 : wa.cell? ⟨g, 0, none⟩ = some (.slice xa bs'.length ya) := (blk_cell hblk9 0).trans rfl
          have d9 : wa.cell? ⟨g, 1, none⟩ = some (.slice xp pls'.length yp) := (blk_cell hblk9 1).trans rfl
          have f9 := blk_frozen hblk9 1
          rw [hvb]
          refine hK.out _ _ ⟨c9, d9⟩ (fun hH3 => ?_)
          clear hK K
          refine wpAnyL_one (i := 14) (by kernel_rfl) rfl (fun K hK => ?_)
          go_simp
          refine hK.out _ _ ⟨c9, d9⟩ (fun hH4 => ?_)
          clear hK K
          refine wpAnyL_take (i := 15) (v := ?_) rfl (by kernel_rfl) (by kernel_rfl) (by kernel_rfl) (by kernel_rfl) (fun _ _ _ h => h) (Or.inl ⟨by rfl, ?_⟩) (by assumption) ?_
          rotate_left 1
          · (rintro w ⟨hSw1, hSw2⟩; go_simp; try (with_reducible rfl))
          refine wpAnyL_end (by kernel_rfl) rfl (by kernel_rfl) (fun K hK => ?_)
          go_simp
          refine hK.out _ _ ?_
          clear hK K
          rw [hvb] at hown9
          have hS10 : SW (wa.setCell ⟨g, 1, none⟩ (.slice xb (pls'.length + 1) yb)) g B bs' (pls' ++ [(NB, bs'.length)]) (.slice xa bs'.length ya) (.slice xb (pls'.length + 1) yb) := ⟨blk_set hblk9 1 _, own_far hrb9 (own_blk hrb9 hblk9 (by decide)), by rw [plVs_app, List.length_append]; exact own_far hown9 (own_blk hown9 hblk9 (by decide)), hS.bg⟩
          have b10 : Bk B w (wa.setCell ⟨g, 1, none⟩ (.slice xb (pls'.length + 1) yb)) := b9.set hblk9 hS.bg _ _
          have hB10 : B ≤ (wa.setCell ⟨g, 1, none⟩ (.slice xb (pls'.length + 1) yb)).heap.size := by have := blk_lt hblk9; have := hS.bg; simp; omega
          generalize wa.setCell ⟨g, 1, none⟩ (.slice xb (pls'.length + 1) yb) = W10 at *
          clear hown9 hgrow9 hblk9 hrb9 b9 c9 f9 d9 hba hSa hSd hS c0 c1 hse hH2 hH3 hH4 hHeld
          have htx2 := htx _ _ W10 hS10 hB10
          clear htx hok'
          go_wp2_with (go_at_call 57; refine htx2.mono ?_; rintro e w6 ⟨rfl, vb6, hS6, hb6⟩)
          go_roundw
          case rel => exact ⟨ls, _, _, vb6, _, rfl, hS6, Nat.le_trans hB10 hb6.be.size, b10.trans hb6, hok2, hxs2, by simp; omega, HR2⟩
          case measure => simp; omega
        · rw [if_neg hsh] at HR2
          have hsh' : (16383 : Int) < (bs'.length : Int) := by omega
          have hok2 := hok'.mono (m := (bs' ++ (UInt8.ofNat l.size :: l.data.toList)).length) (by simp)
          have htx2 := htx _ _ wr hS hBw
          clear htx hok'
          go_wp2_with first
            | (go_at_call 87; refine hse.mono ?_; rintro e wr ⟨rfl, rfl⟩)
            | (go_at_call 57; refine htx2.mono ?_; rintro e w6 ⟨rfl, vb6, hS6, hb6⟩)
          go_roundw
          case rel => exact ⟨ls, _, _, vb6, _, rfl, hS6, Nat.le_trans hBw hb6.be.size, hbel.trans hb6, hok2, hxs2, by simp; omega, HR2⟩
          case measure => simp; omega
end Go.Proofs.YtmaopfagkffccaaGreat
/- spec.l04Question by its contract. -/
namespace Go.Proofs.YtmaopfagkffccaaGreat
open Go.RowKit
set_option linter.unusedVariables false

def quW (ls : List ByteArray) (ty cl : Nat) (bs : List UInt8) (pls : List (ByteArray × Nat)) : Wst := ((nmW ls bs pls).1 ++ (put2 ty ++ put2 cl), (nmW ls bs pls).2)

/-- The writer and a box beside it. -/
def SWB (w W : World) (g B : Nat) (bs : List UInt8) (pls : List (ByteArray × Nat)) (vb vp : Value) (b : Nat) (cs : Array Value) (T : TypeId) : Prop := (SW W g B bs pls vb vp ∧ B ≤ W.heap.size ∧ Bk B w W) ∧ Blk W b cs T
theorem SWB.below {w W W1 : World} {g B b : Nat} {bs : List UInt8} {pls : List (ByteArray × Nat)} {vb vp : Value} {cs : Array Value} {T : TypeId} (h : SWB w W g B bs pls vb vp b cs T) (hb : Below W.heap.size W W1) : SWB w W1 g B bs pls vb vp b cs T :=
  ⟨⟨h.1.1.below hb, Nat.le_trans h.1.2.1 hb.size, h.1.2.2.trans (Bk.of hb h.1.2.1)⟩, blk_below h.2 hb⟩

set_option maxRecDepth 100000 in
set_option maxHeartbeats 3200000 in
theorem l04Question_any (s : ByteArray) (ls : List ByteArray) (hs : Nm.split s = some ls) (ty cl : Nat) (hty : ty < 65536) (hcl : cl < 65536) (g B : Nat) (bs : List UInt8) (pls : List (ByteArray × Nat)) (vb vp : Value) (w : World) (h : SW w g B bs pls vb vp) (hB : B ≤ w.heap.size) (hl : bs.length + 300 ≤ 50000000) (hok : PlOK pls bs.length) :
    Calls Tryz.prog 59 #[.pointer (some ⟨g, 0, none⟩), .agg #[.string s, .int .i64 ty, .int .i64 cl]] w fun e w' => e = .returned (.tuple #[]) ∧ ∃ vb' vp', SW w' g B (quW ls ty cl bs pls).1 (quW ls ty cl bs pls).2 vb' vp' ∧ Bk B w w' := by
  have bA := (Below.refl w.heap.size w).alloc (Nat.le_refl _) (.cells #[.string s, .int .i64 ty, .int .i64 cl] 63)
  have hblk := blk_new w #[.string s, .int .i64 ty, .int .i64 cl] 63
  have hnm := l04Name_any s ls hs g B bs pls vb vp _ (h.below bA) (Nat.le_trans hB bA.size) (by omega) hok
  have hp1 := fun W => l02Put2_any ty W hty
  have hp2 := fun W => l02Put2_any cl W hcl
  have hlen := nmW_len ls bs pls (fun x hx => ((Nm.split_join hs).2 x hx).1)
  have hsz := Nm.split_size hs
  have HQ : Hid (quW ls ty cl bs pls = ((nmW ls bs pls).1 ++ ((⟨(put2 ty).toArray⟩ : ByteArray) ++ ⟨(put2 cl).toArray⟩).data.toList, (nmW ls bs pls).2)) := by
    show _ = _
    simp [quW, ByteArray.data_append]
  have hps : ((⟨(put2 ty).toArray⟩ : ByteArray) ++ ⟨(put2 cl).toArray⟩).size = 4 := by
    rw [ByteArray.size_append]; rfl
  have hps2 : ¬ 9223372036854775807 < (⟨(put2 ty).toArray⟩ : ByteArray).size + (⟨(put2 cl).toArray⟩ : ByteArray).size := by rw [← ByteArray.size_append, hps]; decide
  have hgl : w.heap.size < (w.alloc (.cells #[.string s, .int .i64 ty, .int .i64 cl] 63)).heap.size := by simp
  have htx := fun vb2 vp2 W (h : SW W g B (nmW ls bs pls).1 (nmW ls bs pls).2 vb2 vp2) (hB : B ≤ W.heap.size) => l04Text_any ((⟨(put2 ty).toArray⟩ : ByteArray) ++ ⟨(put2 cl).toArray⟩) g B _ _ vb2 vp2 W h hB (by rw [hps]; omega)
  rw [HQ.out]
  clear hps HQ hlen hsz hs
  generalize (⟨(put2 ty).toArray⟩ : ByteArray) = P1 at *
  generalize (⟨(put2 cl).toArray⟩ : ByteArray) = P2 at *
  generalize nmW ls bs pls = N at *
  go_enter Tryz.func59, Tryz.ntmps59
  go_wp2_with (go_at_call 78; refine hnm.mono ?_; rintro e w1 ⟨rfl, vb1, vp1, hS1, hb1⟩)
  have hbk : SWB w w1 g B N.1 N.2 vb1 vp1 w.heap.size #[.string s, .int .i64 ty, .int .i64 cl] 63 := ⟨⟨hS1, Nat.le_trans hB (Nat.le_trans bA.size hb1.be.size), (Bk.of bA hB).trans hb1⟩, hb1.kp _ _ _ hblk (by decide) (by decide) (by decide)⟩
  clear hS1 hb1 hblk bA hnm h hgl hB
  generalize w.heap.size = bx at *
  refine wp_region_held_drew (S := fun W => W.cell? ⟨bx, 1, none⟩ = some (.int .i64 ty) ∧ W.cell? ⟨bx, 2, none⟩ = some (.int .i64 cl)) (by kernel_rfl) ⟨(blk_cell hbk.2 1).trans rfl, (blk_cell hbk.2 2).trans rfl⟩ (fun hHeld => ?_)
  refine wpAnyH_take (i := 0) (v := ?_) rfl (by kernel_rfl) (by kernel_rfl) (by kernel_rfl) (fun _ _ _ h => h) (Or.inl ⟨by rfl, ?_⟩) (by assumption) ?_
  rotate_left 1
  · (rintro w ⟨hSw1, hSw2⟩; go_simp; try (with_reducible rfl))
  refine wpAnyH_take (i := 1) (v := ?_) rfl (by kernel_rfl) (by kernel_rfl) (by kernel_rfl) (fun _ _ _ h => h) (Or.inl ⟨by rfl, ?_⟩) (by assumption) ?_
  rotate_left 1
  · (rintro w ⟨hSw1, hSw2⟩; go_simp; try (with_reducible rfl))
  refine wpAnyH_take (i := 2) (v := ?_) rfl (by kernel_rfl) (by kernel_rfl) (by kernel_rfl) (fun _ _ _ h => h) (Or.inl ⟨by rfl, ?_⟩) (by assumption) ?_
  rotate_left 1
  · (rintro w ⟨hSw1, hSw2⟩; go_simp; try (with_reducible rfl))
  refine wpAnyH_take (i := 4) (v := ?_) rfl (by kernel_rfl) (by kernel_rfl) (by kernel_rfl) (fun _ _ _ h => h) (Or.inl ⟨by rfl, ?_⟩) (by assumption) ?_
  rotate_left 1
  · (rintro w ⟨hSw1, hSw2⟩; go_simp; try (with_reducible rfl))
  refine wpAnyH_take (i := 5) (v := ?_) rfl (by kernel_rfl) (by kernel_rfl) (by kernel_rfl) (fun _ _ _ h => h) (Or.inl ⟨by rfl, ?_⟩) (by assumption) ?_
  rotate_left 1
  · (rintro w ⟨hSw1, hSw2⟩; go_simp; try (with_reducible rfl))
  have hbk := hbk.below (Below.refl _ _).drew
  refine wpAnyH_ready (rs := [3]) (by kernel_rfl) (by simp) ?_
  refine AllReadyH.cons rfl (fun K hK => ?_) AllReadyH.nil
  go_simp
  refine (hp1 _).mono ?_
  rintro e wn ⟨rfl, hbn⟩
  go_wp2_with fail
  have hbk := hbk.below hbn
  refine hK.out _ _ ⟨(blk_cell hbk.2 1).trans rfl, (blk_cell hbk.2 2).trans rfl⟩ (fun _ => ?_)
  clear hK K
  refine wpAnyH_ready (rs := [6]) (by kernel_rfl) (by simp) ?_
  refine AllReadyH.cons rfl (fun K hK => ?_) AllReadyH.nil
  go_simp
  refine (hp2 _).mono ?_
  rintro e wn ⟨rfl, hbn⟩
  go_wp2_with fail
  have hbk := hbk.below hbn
  refine hK.out _ _ ⟨(blk_cell hbk.2 1).trans rfl, (blk_cell hbk.2 2).trans rfl⟩ (fun _ => ?_)
  clear hK K
  refine wpAnyH_take (i := 7) (v := .string (P1 ++ P2)) rfl (by kernel_rfl) (by kernel_rfl) (by kernel_rfl) (fun _ _ _ h => h) (Or.inl ⟨by rfl, ?_⟩) (by assumption) ?_
  · rintro w ⟨hSw1, hSw2⟩
    go_simp
    try (rw [if_neg hps2])
    try rfl
  refine wpAnyH_ready (rs := [8]) (by kernel_rfl) (by simp) ?_
  refine AllReadyH.cons rfl (fun K hK => ?_) AllReadyH.nil
  go_simp
  refine (htx _ _ _ hbk.1.1 hbk.1.2.1).mono ?_
  rintro e w6 ⟨rfl, vb6, hS6, hb6⟩
  go_wp2_with fail
  have hb7 := hb6.kp _ _ _ hbk.2 (by decide) (by decide) (by decide)
  refine hK.out _ _ ⟨(blk_cell hb7 1).trans rfl, (blk_cell hb7 2).trans rfl⟩ (fun _ => ?_)
  clear hK K
  refine wpAnyH_done (by kernel_rfl) ?_ _
  refine bodyPost_end (v := .tuple #[]) ?_ rfl ⟨rfl, vb6, vp1, hS6, hbk.1.2.2.trans hb6⟩
  simp [results, Tryz.results59, go_sem]
end Go.Proofs.YtmaopfagkffccaaGreat
/- spec.l04Flag and spec.l04Head by their contracts. -/
namespace Go.Proofs.YtmaopfagkffccaaGreat
open Go.RowKit
set_option linter.unusedVariables false

def flS (b : Bool) (i : Nat) : Nat := if b then 2 ^ i else 0

set_option maxRecDepth 100000 in
set_option maxHeartbeats 1600000 in
theorem l04Flag_any (b : Bool) (i : Nat) (hi : i = 15 ∨ i = 10 ∨ i = 9 ∨ i = 8 ∨ i = 7 ∨ i = 6 ∨ i = 5 ∨ i = 4) (w : World) :
    Calls Tryz.prog 76 #[.bool b, .int .i64 (i : Int)] w fun e w' => e = .returned (.int .i64 (flS b i : Int)) ∧ w' = w := by
  cases b
  · go_enter Tryz.func76, Tryz.ntmps76
    go_wp2
    go_ret
    exact ⟨rfl, rfl⟩
  · rcases hi with rfl | rfl | rfl | rfl | rfl | rfl | rfl | rfl
    all_goals
      go_enter Tryz.func76, Tryz.ntmps76
      go_wp2
      go_ret
      exact ⟨by rfl, rfl⟩
end Go.Proofs.YtmaopfagkffccaaGreat
/- spec.l04Head by its contract. -/
namespace Go.Proofs.YtmaopfagkffccaaGreat
open Go.RowKit
set_option linter.unusedVariables false

def flagsS (qr : Bool) (op : Nat) (aa tc rd ra z ad cd : Bool) (code : Nat) : Nat := flS qr 15 + op * 2048 + flS aa 10 + flS tc 9 + flS rd 8 + flS ra 7 + flS z 6 + flS ad 5 + flS cd 4 + code
theorem flS_le (b : Bool) (i : Nat) : flS b i ≤ 2 ^ i := by cases b <;> simp [flS]
theorem flagsS_lt (qr : Bool) (op : Nat) (aa tc rd ra z ad cd : Bool) (code : Nat) (h1 : op ≤ 15) (h2 : code ≤ 15) : flagsS qr op aa tc rd ra z ad cd code < 65536 := by
  have a := flS_le qr 15
  have b := flS_le aa 10
  have c := flS_le tc 9
  have d := flS_le rd 8
  have e := flS_le ra 7
  have f := flS_le z 6
  have g := flS_le ad 5
  have h := flS_le cd 4
  simp only [Nat.reducePow] at a b c d e f g h
  unfold flagsS
  omega
def headL (id fl : Nat) (cs : List Nat) : List UInt8 := put2 id ++ put2 fl ++ cs.flatMap put2
theorem cat_mk (a b : List UInt8) : (⟨a.toArray⟩ : ByteArray) ++ ⟨b.toArray⟩ = ⟨(a ++ b).toArray⟩ := by
  apply ByteArray.ext
  simp
theorem headL_len (id fl : Nat) (cs : List Nat) : (headL id fl cs).length = 4 + 2 * cs.length := by
  have : (cs.flatMap put2).length = 2 * cs.length := by
    induction cs with
    | nil => rfl
    | cons x xs ih => simp [put2] at ih ⊢; omega
  simp [headL, this, put2]
  omega

theorem below_hd {w w2 : World} {X : Obj} {cs : Array Value} {T : TypeId} (n : Nat) (h : Below (((w.alloc X).alloc (.cells cs T)).drewN n).heap.size (((w.alloc X).alloc (.cells cs T)).drewN n) w2) : Below w.heap.size w w2 ∧ Blk w2 (w.heap.size + 1) cs T := by
  have b := ((Below.refl w.heap.size w).alloc (Nat.le_refl _) X).alloc (by simp) (.cells cs T)
  have b' : Below w.heap.size w (((w.alloc X).alloc (.cells cs T)).drewN n) := ⟨b.os, b.tape, b.output, b.size, b.block⟩
  refine ⟨b'.trans (h.mono b'.size), ?_⟩
  have k := blk_new (w.alloc X) cs T
  rw [show (w.alloc X).heap.size = w.heap.size + 1 by simp] at k
  have k' : Blk (((w.alloc X).alloc (.cells cs T)).drewN n) (w.heap.size + 1) cs T := k
  exact blk_below k' h
theorem headL_step (id fl c : Nat) (cs : List Nat) : (⟨(headL id fl cs).toArray⟩ : ByteArray) ++ ⟨(put2 c).toArray⟩ = ⟨(headL id fl (cs ++ [c])).toArray⟩ := by
  rw [cat_mk]; simp [headL]
theorem headL_fit (id fl c : Nat) (cs : List Nat) (h : cs.length ≤ 4) : ¬ 9223372036854775807 < (⟨(headL id fl cs).toArray⟩ : ByteArray).size + (⟨(put2 c).toArray⟩ : ByteArray).size := by
  rw [← ByteArray.size_append, headL_step]
  show ¬ 9223372036854775807 < (headL id fl (cs ++ [c])).toArray.size
  rw [List.size_toArray, headL_len]
  simp
  omega

set_option maxRecDepth 100000 in
set_option maxHeartbeats 1600000 in
theorem l04Head_any (id op code c0 c1 c2 c3 : Nat) (qr aa tc rd ra z ad cd : Bool) (w : World) (hid : id < 65536) (hop : op ≤ 15) (hcode : code ≤ 15) (h0 : c0 < 65536) (h1 : c1 < 65536) (h2 : c2 < 65536) (h3 : c3 < 65536) :
    Calls Tryz.prog 58 #[.agg #[.int .i64 (id : Int), .bool qr, .int .i64 (op : Int), .bool aa, .bool tc, .bool rd, .bool ra, .bool z, .bool ad, .bool cd, .int .i64 (code : Int)], .agg #[.int .i64 (c0 : Int), .int .i64 (c1 : Int), .int .i64 (c2 : Int), .int .i64 (c3 : Int)]] w fun e w' => e = .returned (.string ⟨(headL id (flagsS qr op aa tc rd ra z ad cd code) [c0, c1, c2, c3]).toArray⟩) ∧ Below w.heap.size w w' := by
  have hfl := flagsS_lt qr op aa tc rd ra z ad cd code hop hcode
  have HF : Hid (flagsS qr op aa tc rd ra z ad cd code = flS qr 15 + op * 2048 + flS aa 10 + flS tc 9 + flS rd 8 + flS ra 7 + flS z 6 + flS ad 5 + flS cd 4 + code) := rfl
  have f15 : ∀ W, Calls Tryz.prog 76 #[.bool qr, .int .i64 15] W fun e w' => e = .returned (.int .i64 (flS qr 15 : Int)) ∧ w' = W := fun W => l04Flag_any qr 15 (by decide) W
  have f10 : ∀ W, Calls Tryz.prog 76 #[.bool aa, .int .i64 10] W fun e w' => e = .returned (.int .i64 (flS aa 10 : Int)) ∧ w' = W := fun W => l04Flag_any aa 10 (by decide) W
  have f9 : ∀ W, Calls Tryz.prog 76 #[.bool tc, .int .i64 9] W fun e w' => e = .returned (.int .i64 (flS tc 9 : Int)) ∧ w' = W := fun W => l04Flag_any tc 9 (by decide) W
  have f8 : ∀ W, Calls Tryz.prog 76 #[.bool rd, .int .i64 8] W fun e w' => e = .returned (.int .i64 (flS rd 8 : Int)) ∧ w' = W := fun W => l04Flag_any rd 8 (by decide) W
  have f7 : ∀ W, Calls Tryz.prog 76 #[.bool ra, .int .i64 7] W fun e w' => e = .returned (.int .i64 (flS ra 7 : Int)) ∧ w' = W := fun W => l04Flag_any ra 7 (by decide) W
  have f6 : ∀ W, Calls Tryz.prog 76 #[.bool z, .int .i64 6] W fun e w' => e = .returned (.int .i64 (flS z 6 : Int)) ∧ w' = W := fun W => l04Flag_any z 6 (by decide) W
  have f5 : ∀ W, Calls Tryz.prog 76 #[.bool ad, .int .i64 5] W fun e w' => e = .returned (.int .i64 (flS ad 5 : Int)) ∧ w' = W := fun W => l04Flag_any ad 5 (by decide) W
  have f4 : ∀ W, Calls Tryz.prog 76 #[.bool cd, .int .i64 4] W fun e w' => e = .returned (.int .i64 (flS cd 4 : Int)) ∧ w' = W := fun W => l04Flag_any cd 4 (by decide) W
  have l15 := flS_le qr 15
  have l10 := flS_le aa 10
  have l9 := flS_le tc 9
  have l8 := flS_le rd 8
  have l7 := flS_le ra 7
  have l6 := flS_le z 6
  have l5 := flS_le ad 5
  have l4 := flS_le cd 4
  simp only [Nat.reducePow] at l15 l10 l9 l8 l7 l6 l5 l4
  generalize flS qr 15 = k15 at *
  generalize flS aa 10 = k10 at *
  generalize flS tc 9 = k9 at *
  generalize flS rd 8 = k8 at *
  generalize flS ra 7 = k7 at *
  generalize flS z 6 = k6 at *
  generalize flS ad 5 = k5 at *
  generalize flS cd 4 = k4 at *
  generalize flagsS qr op aa tc rd ra z ad cd code = FL at *
  have hpI := fun W => l02Put2_any id W hid
  have hpF : ∀ W, Calls Tryz.prog 77 #[.int .i64 ((k15 : Int) + (op : Int) * 2048 + k10 + k9 + k8 + k7 + k6 + k5 + k4 + code), .int .i64 2] W fun e w' => e = .returned (.string ⟨(put2 FL).toArray⟩) ∧ Below W.heap.size W w' := by
    intro W
    have := l02Put2_any FL W hfl
    rw [show ((FL : Nat) : Int) = (k15 : Int) + (op : Int) * 2048 + k10 + k9 + k8 + k7 + k6 + k5 + k4 + code by rw [HF.out]; omega] at this
    exact this
  have hcat : (⟨(put2 id).toArray⟩ : ByteArray) ++ ⟨(put2 FL).toArray⟩ = ⟨(headL id FL []).toArray⟩ := by rw [cat_mk]; simp [headL]
  have hps2 : ¬ 9223372036854775807 < (⟨(put2 id).toArray⟩ : ByteArray).size + (⟨(put2 FL).toArray⟩ : ByteArray).size := by
    rw [← ByteArray.size_append, hcat]
    show ¬ 9223372036854775807 < (headL id FL []).toArray.size
    rw [List.size_toArray, headL_len]; decide
  clear HF
  generalize (⟨(put2 id).toArray⟩ : ByteArray) = P1 at *
  generalize (⟨(put2 FL).toArray⟩ : ByteArray) = P2 at *
  go_enter Tryz.func58, Tryz.ntmps58
  go_wp2_with fail
  go_quiet ((go_at_call 76; first | with_reducible exact Calls.quiet_of_same (f15 _) | with_reducible exact Calls.quiet_of_same (f10 _) | with_reducible exact Calls.quiet_of_same (f9 _) | with_reducible exact Calls.quiet_of_same (f8 _) | with_reducible exact Calls.quiet_of_same (f7 _) | with_reducible exact Calls.quiet_of_same (f6 _) | with_reducible exact Calls.quiet_of_same (f5 _) | with_reducible exact Calls.quiet_of_same (f4 _)))
  go_wp2_with (first
    | (go_at_call 77; with_reducible refine (hpI _).mono ?_; rintro e w2 ⟨rfl, hb2⟩)
    | (go_at_call 77; with_reducible refine (hpF _).mono ?_; rintro e w3 ⟨rfl, hb3⟩))
  obtain ⟨be2, bl2⟩ := below_hd nq hb2
  have be3 := Nm.below_two be2 hb3
  have bl3 := blk_below bl2 hb3
  clear hb2 hb3 be2 bl2 hcat hps2 hpI hpF f15 f10 f9 f8 f7 f6 f5 f4
  go_loopw [6, 7] (fun o i wr => ∃ k : Nat, k ≤ 4 ∧ i = .int .i64 (k : Int) ∧ o = .string ⟨(headL id FL ([c0, c1, c2, c3].take k)).toArray⟩ ∧ Below w.heap.size w wr ∧ Blk wr (w.heap.size + 1) #[.int .i64 (c0 : Int), .int .i64 (c1 : Int), .int .i64 (c2 : Int), .int .i64 (c3 : Int)] 99) (fun _ i _ => 4 - (intOf i).toNat)
  case atStart => exact ⟨0, by omega, rfl, rfl, be3, bl3⟩
  case round =>
    obtain ⟨k, hk, rfl, rfl, hbe, hbl⟩ := hrel
    clear be3 bl3
    obtain rfl | rfl | rfl | rfl | rfl : k = 0 ∨ k = 1 ∨ k = 2 ∨ k = 3 ∨ k = 4 := by omega
    · have hp := fun W => l02Put2_any c0 W h0
      have hst := headL_step id FL c0 ([c0, c1, c2, c3].take 0)
      have hft := headL_fit id FL c0 ([c0, c1, c2, c3].take 0) (by simp)
      have cl : wr.cell? ⟨w.heap.size + 1, 0, none⟩ = some (.int .i64 (c0 : Int)) := (blk_cell hbl 0).trans rfl
      try simp only [List.take_succ_cons] at hst hft ⊢
      try simp only [List.take_zero] at hst hft ⊢
      try simp only [List.cons_append] at hst hft ⊢
      try simp only [List.nil_append] at hst hft ⊢
      generalize (⟨(put2 c0).toArray⟩ : ByteArray) = PC at *
      generalize (⟨(headL id FL _).toArray⟩ : ByteArray) = HD at hst hft ⊢
      go_wp2_with (go_at_call 77; with_reducible refine (hp _).mono ?_; rintro e w5 ⟨rfl, hb5⟩)
      go_roundw
      case rel => exact ⟨1, by omega, by go_num, by simp only [List.take_succ_cons, List.take_zero], Nm.below_two hbe hb5, blk_below hbl hb5⟩
      case measure => simp [intOf]
    · have hp := fun W => l02Put2_any c1 W h1
      have hst := headL_step id FL c1 ([c0, c1, c2, c3].take 1)
      have hft := headL_fit id FL c1 ([c0, c1, c2, c3].take 1) (by simp)
      have cl : wr.cell? ⟨w.heap.size + 1, 1, none⟩ = some (.int .i64 (c1 : Int)) := (blk_cell hbl 1).trans rfl
      try simp only [List.take_succ_cons] at hst hft ⊢
      try simp only [List.take_zero] at hst hft ⊢
      try simp only [List.cons_append] at hst hft ⊢
      try simp only [List.nil_append] at hst hft ⊢
      generalize (⟨(put2 c1).toArray⟩ : ByteArray) = PC at *
      generalize (⟨(headL id FL _).toArray⟩ : ByteArray) = HD at hst hft ⊢
      go_wp2_with (go_at_call 77; with_reducible refine (hp _).mono ?_; rintro e w5 ⟨rfl, hb5⟩)
      go_roundw
      case rel => exact ⟨2, by omega, by go_num, by simp only [List.take_succ_cons, List.take_zero], Nm.below_two hbe hb5, blk_below hbl hb5⟩
      case measure => simp [intOf]
    · have hp := fun W => l02Put2_any c2 W h2
      have hst := headL_step id FL c2 ([c0, c1, c2, c3].take 2)
      have hft := headL_fit id FL c2 ([c0, c1, c2, c3].take 2) (by simp)
      have cl : wr.cell? ⟨w.heap.size + 1, 2, none⟩ = some (.int .i64 (c2 : Int)) := (blk_cell hbl 2).trans rfl
      try simp only [List.take_succ_cons] at hst hft ⊢
      try simp only [List.take_zero] at hst hft ⊢
      try simp only [List.cons_append] at hst hft ⊢
      try simp only [List.nil_append] at hst hft ⊢
      generalize (⟨(put2 c2).toArray⟩ : ByteArray) = PC at *
      generalize (⟨(headL id FL _).toArray⟩ : ByteArray) = HD at hst hft ⊢
      go_wp2_with (go_at_call 77; with_reducible refine (hp _).mono ?_; rintro e w5 ⟨rfl, hb5⟩)
      go_roundw
      case rel => exact ⟨3, by omega, by go_num, by simp only [List.take_succ_cons, List.take_zero], Nm.below_two hbe hb5, blk_below hbl hb5⟩
      case measure => simp [intOf]
    · have hp := fun W => l02Put2_any c3 W h3
      have hst := headL_step id FL c3 ([c0, c1, c2, c3].take 3)
      have hft := headL_fit id FL c3 ([c0, c1, c2, c3].take 3) (by simp)
      have cl : wr.cell? ⟨w.heap.size + 1, 3, none⟩ = some (.int .i64 (c3 : Int)) := (blk_cell hbl 3).trans rfl
      try simp only [List.take_succ_cons] at hst hft ⊢
      try simp only [List.take_zero] at hst hft ⊢
      try simp only [List.cons_append] at hst hft ⊢
      try simp only [List.nil_append] at hst hft ⊢
      generalize (⟨(put2 c3).toArray⟩ : ByteArray) = PC at *
      generalize (⟨(headL id FL _).toArray⟩ : ByteArray) = HD at hst hft ⊢
      go_wp2_with (go_at_call 77; with_reducible refine (hp _).mono ?_; rintro e w5 ⟨rfl, hb5⟩)
      go_roundw
      case rel => exact ⟨4, by omega, by go_num, by simp only [List.take_succ_cons, List.take_zero], Nm.below_two hbe hb5, blk_below hbl hb5⟩
      case measure => simp [intOf]
    · go_wp2
      go_ret
      exact ⟨rfl, hbe⟩
end Go.Proofs.YtmaopfagkffccaaGreat
/- Data of its form: its parts and its places. Mathematics. -/
namespace Go.Proofs.YtmaopfagkffccaaGreat
open Go.RowKit

theorem code_zero {t : Int} {d : ByteArray} : cutCode t d = 0 ↔ ∃ sp, cutS t d = some sp := by
  by_cases h : t < 0 ∨ 65535 < t
  · obtain ⟨h1, h2⟩ := code_type (d := d) h
    rw [h1, h2]; simp
  · by_cases h1 : 65535 < d.size
    · obtain ⟨h2, h3⟩ := code_long h h1
      rw [h2, h3]; simp
    · cases hq : Dt.spans (Dt.implP t) 0 d with
      | none => obtain ⟨h2, h3⟩ := code_none h h1 hq; rw [h2, h3]; simp
      | some sp => obtain ⟨h2, h3⟩ := code_some h h1 hq; rw [h2, h3]; simp

/-- Of data of its form: its parts, and where the names stand. -/
theorem good_parts {t : Int} {d : ByteArray} (h : cutCode t d = 0) : ∃ ps, Dt.parts (Dt.specP t) d = some ps ∧ cutS t d = some (Dt.spansOf (Dt.specP t) ps 0) ∧ d.size ≤ 65535 := by
  obtain ⟨sp, hsp⟩ := code_zero.1 h
  by_cases ht : t < 0 ∨ 65535 < t
  · rw [(code_type (d := d) ht).2] at hsp; cases hsp
  · by_cases h1 : 65535 < d.size
    · rw [(code_long ht h1).2] at hsp; cases hsp
    · have e : cutS t d = Dt.spans (Dt.implP t) 0 d := by rw [cutS, if_neg ht, if_neg h1]
      rw [e, ← Dt.forms_agree, Dt.spans_of_parts] at hsp
      cases hq : Dt.parts (Dt.specP t) d with
      | none => rw [hq] at hsp; simp at hsp
      | some ps =>
        refine ⟨ps, rfl, ?_, by omega⟩
        rw [e, ← Dt.forms_agree, Dt.spans_of_parts, hq]; rfl

theorem part_le : ∀ (ps : List ByteArray) (x : ByteArray), x ∈ ps → x.size ≤ (Dt.catL ps).length := by
  intro ps
  induction ps with
  | nil => intro x h; simp at h
  | cons y ps ih =>
    intro x h
    have e : (Dt.catL (y :: ps)).length = y.size + (Dt.catL ps).length := by simp [Dt.catL]
    rcases List.mem_cons.1 h with rfl | h
    · omega
    · have := ih x h; omega

theorem isN_let (c : UInt8) : (Dt.letP c).isN = decide (c.toNat = 110) := by
  by_cases h : c = 110
  · subst h; rfl
  · have h' : c.toNat ≠ 110 := fun e => h (UInt8.toNat_inj.1 (by simpa using e))
    simp only [h', decide_false]
    unfold Dt.letP
    rw [if_neg h]
    repeat' split
    all_goals rfl

theorem spans_few : ∀ (fs : List Dt.Pc) (a : Nat) (d : ByteArray) (sp : List (Nat × Nat)), Dt.spans fs a d = some sp → sp.length ≤ fs.length := by
  intro fs
  induction fs with
  | nil =>
    intro a d sp h
    rw [Dt.spans] at h
    split at h
    · simp at h; subst h; simp
    · simp at h
  | cons p r ih =>
    intro a d sp h
    rw [Dt.spans] at h
    cases hq : Dt.sz p d with
    | none => rw [hq] at h; simp at h
    | some n =>
      rw [hq] at h
      cases hr : Dt.spans r (a + n) (d.extract n d.size) with
      | none => simp [hr] at h
      | some l =>
        have := ih _ _ _ hr
        simp [hr] at h
        subst h
        cases p.isN <;> simp <;> omega

theorem cut_few (t : Int) (d : ByteArray) : ((cutS t d).getD []).length ≤ 5 := by
  cases h : cutS t d with
  | none => simp
  | some sp =>
    rw [cutS] at h
    split at h
    · cases h
    · split at h
      · cases h
      · have h1 := spans_few _ _ _ _ h
        have h2 := implP_len t
        simp; omega

end Go.Proofs.YtmaopfagkffccaaGreat
