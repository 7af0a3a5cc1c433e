import Derived.Test.YtddabafaejahbaaGreatDoorJMath
import Derived.Test.YtddabafaejahbaaGreatDoorRows
import Derived.WalkSpells
import Derived.WalkLawsBesides
import Derived.Deep.AppendSrc
import Derived.Deep.Upon
import Derived.Test.YtddabafaejahbaaGreatDoorJTxt3
/- Bytes of a string, laid in a new row. -/
namespace Go.Proofs.YtddabafaejahbaaGreatDoor
open Go.RowKit

/-- The bytes 'l' lie at the head of block g, and may be written. -/
def BRow (w : World) (g : Nat) (l : List UInt8) : Prop := ∀ j c, l[j]? = some c → w.cell? ⟨g, j, none⟩ = some (.int .u8 c.toNat) ∧ w.frozen? ⟨g, j, none⟩ = false

theorem BRow.set {w : World} {g k : Nat} {l : List UInt8} {d : UInt8} (h : BRow w g l) (hk : k < l.length) : BRow (w.setCell ⟨g, k, none⟩ (.int .u8 d.toNat)) g (l.set k d) := by
  intro j c hj
  obtain ⟨x, hx⟩ : ∃ x, l[k]? = some x := ⟨_, List.getElem?_eq_getElem hk⟩
  by_cases e : k = j
  · subst e
    rw [List.getElem?_set_self hk] at hj
    simp at hj
    subst hj
    exact ⟨World.cell?_setCell_same _ _ _ (h k x hx).1, by rw [World.frozen?_setCell]; exact (h k x hx).2⟩
  · rw [List.getElem?_set_ne e] at hj
    refine ⟨?_, by rw [World.frozen?_setCell]; exact (h j c hj).2⟩
    rw [World.cell?_setCell_other w ⟨g, k, none⟩ ⟨g, j, none⟩ _ (by intro h; cases h; exact e rfl)]
    exact (h j c hj).1

theorem new_bytes (s : ByteArray) (w : World) : ∃ cap W, s.size ≤ cap ∧ (s.size ≤ maxLen → cap ≤ maxLen) ∧
    (convert 9 87 (.string s)).run Tryz.prog w = .ok (.slice (some ⟨w.heap.size, 0, none⟩) s.size cap) W ∧ BRow W w.heap.size s.data.toList ∧ Below w.heap.size w W := by
  refine ⟨_, _, grownCap_ge w s.size 0 5, grownCap_le_maxLen w s.size 0 5, run_bytes_of_string w 9 87 5 s Tryz.underlying9 Tryz.underlying87 Tryz.underlying5, ?_, ?_⟩
  · intro j c hj
    have hj' : j < s.data.size := by
      have := (List.getElem?_eq_some_iff.1 hj).1
      simpa using this
    have hc : s.data[j] = c := by
      have := (List.getElem?_eq_some_iff.1 hj).2
      simpa using this
    constructor
    · have e := cell_of_row (w.drew.alloc (.cells (bytesRow s (grownCap w s.size 0 5)) 5 ((bytesRow s (grownCap w s.size 0 5)).size, (bytesRow s (grownCap w s.size 0 5)).size + 1))) w.heap.size j _ 5 _ (heap_alloc_new w.drew _)
      rw [e, bytesRow_at s _ j hj', hc]
    · have e := World.frozen?_alloc_mark w.drew (bytesRow s (grownCap w s.size 0 5)) 5 (bytesRow s (grownCap w s.size 0 5)).size ((bytesRow s (grownCap w s.size 0 5)).size + 1) j
      rw [show w.heap.size = w.drew.heap.size from rfl, e]
      have : s.data.size ≤ (bytesRow s (grownCap w s.size 0 5)).size := by simp [bytesRow]
      simp; omega
  · exact ((Below.refl _ w).drew).alloc (Nat.le_refl _) _

end Go.Proofs.YtddabafaejahbaaGreatDoor
/- Rows of bytes that may be written up to their capacity; what an append leaves. -/
namespace Go.Proofs.YtddabafaejahbaaGreatDoor
open Go.RowKit

theorem Tryz.infoB : (Tryz.prog.info? 5).map (fun i => (i.zero, i.size, i.bytes)) = some (some (.int .u8 0), 1, 1) := by kernel_rfl

/-- The bytes 'l' lie where the slice 'v' leads, in a block from B on; the whole row may be written. -/
def FRow (w : World) (B : Nat) (v : Value) (l : List UInt8) : Prop :=
  ∃ g cap, v = .slice (some ⟨g, 0, none⟩) l.length cap ∧ l.length ≤ cap ∧ cap ≤ maxLen ∧ B ≤ g ∧ g < w.heap.size ∧
    (∀ j, j < cap → (w.cell? ⟨g, j, none⟩).isSome = true ∧ w.frozen? ⟨g, j, none⟩ = false) ∧
    (∀ (j : Nat) (c : UInt8), l[j]? = some c → w.cell? ⟨g, j, none⟩ = some (.int .u8 (c.toNat : Int)))

theorem bys_get {l : List UInt8} {j : Nat} {u : Value} (h : (Nm.bys l)[j]? = some u) : ∃ c, l[j]? = some c ∧ u = .int .u8 (c.toNat : Int) := by
  simp [Nm.bys] at h
  obtain ⟨c, h1, h2⟩ := h
  exact ⟨c, h1, h2.symm⟩

theorem sc_size (b : Nat) : ∀ (vs : List Value) (o : Nat) (w : World), (w.setCells b o vs).heap.size = w.heap.size := by
  intro vs
  induction vs with
  | nil => intro o w; rfl
  | cons v vs ih => intro o w; rw [World.setCells, ih]; simp
theorem sc_tape (b : Nat) : ∀ (vs : List Value) (o : Nat) (w : World), (w.setCells b o vs).tape = w.tape := by
  intro vs
  induction vs with
  | nil => intro o w; rfl
  | cons v vs ih => intro o w; rw [World.setCells, ih]; simp

theorem FRow.app {w : World} {B : Nat} {v : Value} {l : List UInt8} (h : FRow w B v l) (hB : B ≤ w.heap.size) (tx : TypeId) (x : Value) (r : List UInt8)
    (hs : _root_.Go.Src Tryz.prog 1 tx x r.length (Nm.bys r) w) (hlen : l.length + r.length ≤ 1000000000000) :
    ∃ v' w', (∀ ty, (Builtin.append_ #[87, tx] ty #[v, x]).run Tryz.prog w = .ok v' w') ∧ FRow w' B v' (l ++ r) ∧ Below B w w' := by
  obtain ⟨g, cap, rfl, h1, h2, h3, h4, h5, h6⟩ := h
  obtain ⟨i0, hi, hz0, hz1, hz2⟩ := info_parts Tryz.infoB
  have hbl : (Nm.bys r).length = r.length := Nm.bys_length r
  by_cases hroom : l.length + r.length ≤ cap
  · have hc : ∀ j, j < (Nm.bys r).length → (w.cell? ⟨g, 0 + l.length * i0.size + j, none⟩).isSome = true := by
      intro j hj
      rw [hz1, Nat.zero_add, Nat.mul_one]
      exact (h5 _ (by omega)).1
    have hf : ∀ j, j < (Nm.bys r).length → w.frozen? ⟨g, 0 + l.length * i0.size + j, none⟩ = false := by
      intro j hj
      rw [hz1, Nat.zero_add, Nat.mul_one]
      exact (h5 _ (by omega)).2
    have hr := fun ty => run_append_room_src (P := Tryz.prog) w 87 tx ty 5 i0 Tryz.underlying87 hi g 0 l.length cap x r.length (Nm.bys r) (by rw [hz1]; exact hs) hroom hc hf
    simp only [hz1, Nat.zero_add, Nat.mul_one] at hr
    rw [hz1, Nat.zero_add, Nat.mul_one] at hc
    refine ⟨_, _, hr, ⟨g, cap, by rw [List.length_append], by rw [List.length_append]; exact hroom, h2, h3, ?_, ?_, ?_⟩, ?_⟩
    · rw [sc_size]; exact h4
    · intro j hj
      refine ⟨?_, by rw [World.frozen?_setCells]; exact (h5 j hj).2⟩
      by_cases hin : l.length ≤ j ∧ j < l.length + r.length
      · have e := World.cell?_setCells_in g (Nm.bys r) l.length w hc (j - l.length) (by omega)
        rw [show l.length + (j - l.length) = j by omega] at e
        rw [e]; rfl
      · rw [World.cell?_setCells_out g _ _ _ _ (fun _ _ => by simp only [hbl]; omega)]
        exact (h5 j hj).1
    · intro j c hj
      by_cases hlt : j < l.length
      · rw [List.getElem?_append_left hlt] at hj
        rw [World.cell?_setCells_out g _ _ _ _ (fun _ _ => .inl hlt)]
        exact h6 j c hj
      · rw [List.getElem?_append_right (by omega)] at hj
        have hjr : j - l.length < r.length := (List.getElem?_eq_some_iff.1 hj).1
        have e := World.cell?_setCells_in g (Nm.bys r) l.length w hc (j - l.length) (by omega)
        rw [show l.length + (j - l.length) = j by omega] at e
        rw [e]
        have e2 : (Nm.bys r)[j - l.length]? = some (.int .u8 (c.toNat : Int)) := by simp [Nm.bys, hj]
        rw [List.getElem?_eq_getElem (by omega)] at e2
        exact e2
    · exact ⟨World.os_setCells _ _ _ _, sc_tape _ _ _ _, World.output_setCells _ _ _ _, Nat.le_of_eq (sc_size _ _ _ _).symm, fun k hk => World.heap_setCells_other w g _ _ (by omega) (by omega)⟩
  · have hold : (Builtin.firstCells i0.size l.length (.slice (some ⟨g, 0, none⟩) l.length cap)).run Tryz.prog w.drew = .ok (Nm.bys l).toArray w.drew := by
      rw [hz1]
      refine run_firstCells_some w.drew 1 l.length ⟨g, 0, none⟩ l.length cap (Nm.bys l) (by rw [Nm.bys_length, Nat.mul_one]) ?_
      intro j u hu
      obtain ⟨c, hc, rfl⟩ := bys_get hu
      have := h6 j c hc
      rw [Nm.addr_add, Nat.zero_add]
      exact this
    have hr := fun ty => run_append_grow_src (P := Tryz.prog) w 87 tx ty 5 i0 (.int .u8 0) Tryz.underlying87 hi hz0 (some ⟨g, 0, none⟩) l.length cap (Nm.bys l) hold x r.length (Nm.bys r) (by rw [hz1]; exact hs) (by omega) (by omega) (by rw [hz2]; exact growslice_fits (by omega) (by omega))
    have hge := grownCap_ge w (l.length + r.length) cap 5
    have hle := grownCap_le_maxLen w (l.length + r.length) cap 5 (by unfold maxLen; omega)
    generalize grownCap w (l.length + r.length) cap 5 = C at *
    have hall : ∀ j, j < C → ∃ u, ((Nm.bys l ++ Nm.bys r).toArray ++ Builtin.zeroCells (Value.int IntKind.u8 0).cells (C - (l.length + r.length)))[j]? = some u := by
      intro j hj
      have hz : ((Nm.bys l ++ Nm.bys r).toArray ++ Builtin.zeroCells (Value.int IntKind.u8 0).cells (C - (l.length + r.length))).size = C := by
        have hz1' : (Value.int IntKind.u8 0).cells.size = 1 := rfl
        simp only [Array.size_append, List.size_toArray, size_zeroCells, hz1', List.length_append, Nm.bys_length]
        omega
      exact ⟨_, Array.getElem?_eq_getElem (by omega)⟩
    have hcell : ∀ j, (w.drew.alloc (.cells ((Nm.bys l ++ Nm.bys r).toArray ++ Builtin.zeroCells (Value.int IntKind.u8 0).cells (C - (l.length + r.length))) 5)).cell? ⟨w.heap.size, j, none⟩ = ((Nm.bys l ++ Nm.bys r).toArray ++ Builtin.zeroCells (Value.int IntKind.u8 0).cells (C - (l.length + r.length)))[j]? := by
      intro j
      exact World.cell?_alloc_new w.drew _ _ j
    refine ⟨_, _, hr, ⟨w.heap.size, C, by rw [List.length_append], by rw [List.length_append]; exact hge, hle, hB, by simp, ?_, ?_⟩, ?_⟩
    · intro j hj
      obtain ⟨u, hu⟩ := hall j hj
      exact ⟨by rw [hcell, hu]; rfl, World.frozen?_alloc_new w.drew _ _ j⟩
    · intro j c hj
      rw [hcell]
      have e : (Nm.bys l ++ Nm.bys r)[j]? = some (.int .u8 (c.toNat : Int)) := by
        rw [← Nm.bys_append, Nm.bys, List.getElem?_map, hj]; rfl
      rw [Array.getElem?_append_left (by have := (List.getElem?_eq_some_iff.1 e).1; simpa using this)]
      simpa using e
    · exact ((Below.refl B w).drew).alloc hB _

theorem FRow.below {w w' : World} {B : Nat} {v : Value} {l : List UInt8} (h : FRow w B v l) (hb : Below w.heap.size w w') : FRow w' B v l := by
  obtain ⟨g, cap, rfl, h1, h2, h3, h4, h5, h6⟩ := h
  have hc : ∀ j, w'.cell? ⟨g, j, none⟩ = w.cell? ⟨g, j, none⟩ := fun j => hb.cell h4
  have hfz : ∀ j, w'.frozen? ⟨g, j, none⟩ = w.frozen? ⟨g, j, none⟩ := fun j => by
    simp only [World.frozen?, hb.block g h4]
  refine ⟨g, cap, rfl, h1, h2, h3, Nat.lt_of_lt_of_le h4 hb.size, ?_, ?_⟩
  · intro j hj; rw [hc, hfz]; exact h5 j hj
  · intro j c hj; rw [hc]; exact h6 j c hj

/-- string(b) of such a row. -/
theorem FRow.str {w : World} {B : Nat} {v : Value} {l : List UInt8} (h : FRow w B v l) : (convert 87 9 v).run Tryz.prog w = .ok (.string ⟨l.toArray⟩) w := by
  obtain ⟨g, cap, rfl, h1, h2, h3, h4, h5, h6⟩ := h
  refine run_convert_bytes_back w 87 9 5 ⟨g, 0, none⟩ cap l Tryz.underlying87 Tryz.underlying5 Tryz.underlying9 ?_
  intro j hj
  rw [Nm.addr_add, Nat.zero_add]
  exact h6 j _ (List.getElem?_eq_getElem hj)

/-- []byte(s). -/
theorem FRow.new (s : ByteArray) (w : World) (hs : s.size ≤ 1000000000000) : ∃ v W, (convert 9 87 (.string s)).run Tryz.prog w = .ok v W ∧ FRow W w.heap.size v s.data.toList ∧ Below w.heap.size w W := by
  have hge := grownCap_ge w s.size 0 5
  have hle := grownCap_le_maxLen w s.size 0 5 (by unfold maxLen; omega)
  have hr := run_bytes_of_string w 9 87 5 s Tryz.underlying9 Tryz.underlying87 Tryz.underlying5
  generalize grownCap w s.size 0 5 = C at *
  have hl : s.data.toList.length = s.size := by simp
  have hz : (bytesRow s C).size = C := by
    have : s.data.size = s.size := rfl
    simp [bytesRow]; omega
  have hcell : ∀ j, (w.drew.alloc (.cells (bytesRow s C) 5 ((bytesRow s C).size, (bytesRow s C).size + 1))).cell? ⟨w.heap.size, j, none⟩ = (bytesRow s C)[j]? := fun j =>
    cell_of_row _ w.heap.size j _ 5 _ (heap_alloc_new w.drew _)
  refine ⟨_, _, hr, ⟨w.heap.size, C, by rw [hl], by omega, hle, Nat.le_refl _, by simp, ?_, ?_⟩, ((Below.refl _ w).drew).alloc (Nat.le_refl _) _⟩
  · intro j hj
    refine ⟨by rw [hcell, Array.getElem?_eq_getElem (by omega)]; rfl, ?_⟩
    have e := World.frozen?_alloc_mark w.drew (bytesRow s C) 5 (bytesRow s C).size ((bytesRow s C).size + 1) j
    rw [show w.heap.size = w.drew.heap.size from rfl, e]
    simp; omega
  · intro j c hj
    have hj' : j < s.data.size := by
      have := (List.getElem?_eq_some_iff.1 hj).1
      simpa using this
    have hc : s.data[j] = c := by
      have := (List.getElem?_eq_some_iff.1 hj).2
      simpa using this
    rw [hcell, bytesRow_at s _ j hj', hc]

/-- The operation, for the walk. -/
theorem wpList_append_run {ops : Array Oper} {rest : List Oper} {o : Oper} {a : Act} {w : World} {Q : Exit → Act → World → Prop} (hgd : o.guard = none) (s x : Operand) (t u : TypeId)
    (ho : o.op = .call { callee := .builtin .append, args := #[s, x], argTypes := #[t, u] }) (v xv : Value) (hs : a.eval s = v) (hx : a.eval x = xv)
    (v' : Value) (w' : World) (hr : ∀ ty, (Builtin.append_ #[t, u] ty #[v, xv]).run Tryz.prog w = .ok v' w')
    (h : wpList Tryz.prog ops Q rest (a.put o.dst v') w') : wpList Tryz.prog ops Q (o :: rest) a w := by
  refine wpList_plain hgd fun K hK => ?_
  have hr := hr o.type
  unfold Oper.wp execOp
  simp only [ho, resolve, invoke, builtin, Sem.run_bind, Sem.run_pure, Result.andThen_ok, List.map_toArray, List.map_cons, List.map_nil, hs, hx, hr]
  exact hK _ _ h
end Go.Proofs.YtddabafaejahbaaGreatDoor
/- spec.l02Put at width 2 by its contract. -/
namespace Go.Proofs.YtddabafaejahbaaGreatDoor
open Go.RowKit

theorem put2_cells {n : Nat} (h : n < 65536) : Nm.bys (put2 n) = [.int .u8 ((n : Int) / 256), .int .u8 ((n : Int) % 256)] := by
  simp [Nm.bys, put2]
  omega

theorem put2_step {W wr w1 : World} {v v' : Value} {B e n : Nat} {l : List Value} {x : Value} (hB : B ≤ wr.heap.size)
    (hown : wr.ownsRow B e 1 v n l) (hbel : Below B W wr) (o : Obj) (hgrow : (wr.alloc o).grownBy w1 v.ownBlock)
    (hown' : w1.ownsRow B e 1 v' (n + 1) (l ++ [x])) :
    w1.ownsRow B e 1 v' (n + 1) (l ++ [x]) ∧ Below B W w1 := by
  refine ⟨hown', ?_⟩
  refine (hbel.alloc hB o).grown hgrow (by simp; omega) ?_
  intro k hk
  exact (hown.lt k hk).1

set_option maxRecDepth 100000 in
set_option maxHeartbeats 800000 in
theorem l02Put2_any (n : Nat) (w : World) (hn : n < 65536) :
    Calls Tryz.prog 45 #[.int .i64 (n : Int), .int .i64 2] w fun e w' => e = .returned (.string ⟨(put2 n).toArray⟩) ∧ Below w.heap.size w w' := by
  obtain ⟨i0, hi, hz0, hz1, hz2⟩ := info_parts Tryz.infoB
  have hcs := put2_cells hn
  have hn' : (n : Int) < 65536 := by omega
  go_enter Tryz.func45, Tryz.ntmps45
  go_wp2
  go_loopw [5, 6] (fun v i wr => ∃ j : Nat, j ≤ 2 ∧ i = .int .i64 (1 - (j : Int)) ∧ wr.ownsRow w.heap.size 5 1 v j ([Value.int .u8 ((n : Int) / 256), .int .u8 ((n : Int) % 256)].take j) ∧ Below w.heap.size w wr)
    (fun _ i _ => (intOf i + 1).toNat)
  case atStart => exact ⟨0, by omega, rfl, World.ownsRow_made w #[] 0 (Nat.le_refl _) (by decide) rfl, (Below.refl _ _).alloc (Nat.le_refl _) _⟩
  case round =>
    obtain ⟨j, hj, rfl, hown, hbel⟩ := hrel
    have hsz := hbel.size
    obtain rfl | rfl | rfl : j = 0 ∨ j = 1 ∨ j = 2 := by omega
    · simp only [List.take_zero, Int.sub_zero, Int.cast_ofNat_Int] at hown ⊢
      go_wp2_with (at_builtin; refine wpList_append_own _ rfl (.tmp 14) (.tmp 21) 87 rfl w.heap.size 5 i0 (.int .u8 0) 1 1 Tryz.underlying87 hi hz0 hz1 hz2 rfl (by decide) _ _ _ rfl (hown.alloc _) ⟨wr.heap.size, 0, none⟩ 1 1 [.int .u8 ((n : Int) / 256)] rfl rfl (cell_new1 _ _ _) (Nm.one_cell _ rfl) (by unfold maxLen; omega) (by omega) (by simp; omega) ?_)
      intro v' w1 hown' hgrow _
      have R := put2_step hsz hown hbel _ hgrow hown'
      clear hown' hgrow hown hbel
      go_wp2
      go_roundw
      case rel => exact ⟨1, by omega, by go_num, R.1, R.2⟩
      case measure => simp [intOf]
    · simp only [List.take_succ_cons, List.take_zero] at hown ⊢
      go_wp2_with (at_builtin; refine wpList_append_own _ rfl (.tmp 14) (.tmp 21) 87 rfl w.heap.size 5 i0 (.int .u8 0) 1 1 Tryz.underlying87 hi hz0 hz1 hz2 rfl (by decide) _ _ _ rfl (hown.alloc _) ⟨wr.heap.size, 0, none⟩ 1 1 [.int .u8 ((n : Int) % 256)] rfl rfl (cell_new1 _ _ _) (Nm.one_cell _ rfl) (by unfold maxLen; omega) (by omega) (by simp; omega) ?_)
      intro v' w1 hown' hgrow _
      have R := put2_step hsz hown hbel _ hgrow hown'
      clear hown' hgrow hown hbel
      go_wp2
      go_roundw
      case rel => exact ⟨2, by omega, by go_num, R.1, R.2⟩
      case measure => simp [intOf]
    · simp only [List.take_succ_cons, List.take_zero] at hown ⊢
      rw [← hcs] at hown
      have HC := Nm.conv_own (P := Tryz.prog) (src := 87) (dst := 9) Tryz.underlying87 Tryz.underlying5 Tryz.underlying9 hown (by omega)
      obtain ⟨g, cap, rfl, hcv⟩ := HC
      clear hown
      go_wp2
      go_ret
      exact ⟨rfl, hbel⟩
end Go.Proofs.YtddabafaejahbaaGreatDoor
/- spec.l03Hex by its contract. -/
namespace Go.Proofs.YtddabafaejahbaaGreatDoor
open Go.RowKit

set_option maxRecDepth 100000 in
set_option maxHeartbeats 800000 in
theorem l03Hex_any (c : UInt8) (w : World) :
    Calls Tryz.prog 38 #[.int .u8 c.toNat] w fun e w' => e = .returned (.int .i64 (hexV c)) ∧ w' = w := by
  have hdig := l01Digit_any c
  have hc : (c.toNat : Int) < 256 := by have := c.toNat_lt; omega
  obtain ⟨Z, HZ⟩ : ∃ Z, Hid (Z = hexV c) := ⟨_, rfl⟩
  rw [← HZ.out]
  cases hD : Nm.digB c with
  | true =>
    have hr : 48 ≤ c.toNat ∧ c.toNat ≤ 57 := by simp [Nm.digB] at hD; omega
    have h1 : (48 : Int) ≤ (c.toNat : Int) := by omega
    have h2 : (c.toNat : Int) ≤ 57 := by omega
    have HN : Hid (Z = (c.toNat : Int) - 48) := by show _ = _; rw [HZ.out, hexV, if_pos hD]
    rw [hD] at hdig
    clear hD hr
    go_enter Tryz.func38, Tryz.ntmps38
    go_wp2_with (go_at_call 79; refine (hdig _).mono ?_; rintro e w1 ⟨rfl, hw⟩; obtain rfl : w = w1 := hw.symm; clear hw)
    go_ret
    rw [HN.out]
    exact ⟨rfl, rfl⟩
  | false =>
    rw [hD] at hdig
    by_cases g1 : 97 ≤ c.toNat
    · by_cases g2 : c.toNat ≤ 102
      · have h1 : (97 : Int) ≤ (c.toNat : Int) := by omega
        have h2 : (c.toNat : Int) ≤ 102 := by omega
        have HN : Hid (Z = (c.toNat : Int) - 97 + 10) := by show _ = _; rw [HZ.out, hexV, if_neg (by simp [hD]), if_pos ⟨g1, g2⟩]
        clear hD
        go_enter Tryz.func38, Tryz.ntmps38
        go_wp2_with (go_at_call 79; refine (hdig _).mono ?_; rintro e w1 ⟨rfl, hw⟩; obtain rfl : w = w1 := hw.symm; clear hw)
        go_ret
        rw [HN.out]
        exact ⟨rfl, rfl⟩
      · have h1 : (97 : Int) ≤ (c.toNat : Int) := by omega
        have h2 : (102 : Int) < (c.toNat : Int) := by omega
        have d2 : decide ((c.toNat : Int) ≤ 102) = false := by simp; omega
        have d3 : decide ((c.toNat : Int) ≤ 70) = false := by simp; omega
        have HN : Hid (Z = -1) := by show _ = _; rw [HZ.out, hexV, if_neg (by simp [hD]), if_neg (by omega), if_neg (by omega)]
        clear hD
        go_enter Tryz.func38, Tryz.ntmps38
        go_wp2_with (go_at_call 79; refine (hdig _).mono ?_; rintro e w1 ⟨rfl, hw⟩; obtain rfl : w = w1 := hw.symm; clear hw)
        go_ret
        rw [HN.out]
        exact ⟨rfl, rfl⟩
    · have d1 : decide ((97 : Int) ≤ (c.toNat : Int)) = false := by simp; omega
      by_cases g3 : 65 ≤ c.toNat
      · by_cases g4 : c.toNat ≤ 70
        · have h1 : (65 : Int) ≤ (c.toNat : Int) := by omega
          have h2 : (c.toNat : Int) ≤ 70 := by omega
          have HN : Hid (Z = (c.toNat : Int) - 65 + 10) := by show _ = _; rw [HZ.out, hexV, if_neg (by simp [hD]), if_neg (by omega), if_pos ⟨g3, g4⟩]
          clear hD
          go_enter Tryz.func38, Tryz.ntmps38
          go_wp2_with (go_at_call 79; refine (hdig _).mono ?_; rintro e w1 ⟨rfl, hw⟩; obtain rfl : w = w1 := hw.symm; clear hw)
          go_ret
          rw [HN.out]
          exact ⟨rfl, rfl⟩
        · have h1 : (65 : Int) ≤ (c.toNat : Int) := by omega
          have h2 : (70 : Int) < (c.toNat : Int) := by omega
          have d2 : decide ((c.toNat : Int) ≤ 70) = false := by simp; omega
          have HN : Hid (Z = -1) := by show _ = _; rw [HZ.out, hexV, if_neg (by simp [hD]), if_neg (by omega), if_neg (by omega)]
          clear hD
          go_enter Tryz.func38, Tryz.ntmps38
          go_wp2_with (go_at_call 79; refine (hdig _).mono ?_; rintro e w1 ⟨rfl, hw⟩; obtain rfl : w = w1 := hw.symm; clear hw)
          go_ret
          rw [HN.out]
          exact ⟨rfl, rfl⟩
      · have h1 : (c.toNat : Int) < 65 := by omega
        have d2 : decide ((65 : Int) ≤ (c.toNat : Int)) = false := by simp; omega
        have HN : Hid (Z = -1) := by show _ = _; rw [HZ.out, hexV, if_neg (by simp [hD]), if_neg (by omega), if_neg (by omega)]
        clear hD
        go_enter Tryz.func38, Tryz.ntmps38
        go_wp2_with (go_at_call 79; refine (hdig _).mono ?_; rintro e w1 ⟨rfl, hw⟩; obtain rfl : w = w1 := hw.symm; clear hw)
        go_ret
        rw [HN.out]
        exact ⟨rfl, rfl⟩
end Go.Proofs.YtddabafaejahbaaGreatDoor
