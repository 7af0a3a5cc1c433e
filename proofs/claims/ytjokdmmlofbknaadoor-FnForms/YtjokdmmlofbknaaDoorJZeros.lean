import Derived.Test.YtjokdmmlofbknaaDoorJMath
import Derived.Test.YtjokdmmlofbknaaDoorJJoin
import Derived.Lib.AppendZerosOnto
import Derived.Laws.AppendOwnNone
import Derived.Test.YtjokdmmlofbknaaDoorJRowM
import Derived.Deep.AppendSrc
import Derived.Deep.Upon
/- append(b, make([]byte, k)...) and append(b, c...) of rows of the call's own. -/
namespace Go.Proofs.YtjokdmmlofbknaaDoor
open Go.RowKit

theorem Tryd.infoZ : (Tryd.prog.info? 5).map (fun i => (i.zero, i.size, i.bytes)) = some (some (.int .u8 0), 1, 1) := by kernel_rfl

theorem zero_bys (k : Nat) : (Builtin.zeroCells (Value.int IntKind.u8 0).cells k).toList = Nm.bys (List.replicate k 0) := by
  apply List.ext_getElem
  · rw [Array.length_toList, size_zeroCells, Nm.bys_length, List.length_replicate]
    exact Nat.mul_one k
  · intro i h1 h2
    have e : (Value.int IntKind.u8 0).cells = #[.int .u8 0] := rfl
    simp [Builtin.zeroCells, e, Nm.bys, Nat.mod_one]

theorem bys_one (l : List UInt8) : ∀ u ∈ Nm.bys l, u.oneCell' = true := by
  intro u hu
  simp [Nm.bys] at hu
  obtain ⟨c, _, rfl⟩ := hu
  rfl

theorem own_zeros {w : World} {B n : Nat} {v : Value} {l : List UInt8} (hown : w.ownsRow B 5 1 v n (Nm.bys l)) (k : Nat) (hk : k ≤ 1000) (hn : n ≤ 1000) (hB : B ≤ w.heap.size) :
    ∃ v' w', (Builtin.append_ #[22, 3] 22 #[v, .int .i64 (k : Int)]).run Tryd.prog w = .ok v' w' ∧ w'.ownsRow B 5 1 v' (n + k) (Nm.bys (l ++ List.replicate k 0)) ∧ w.grownBy w' v.ownBlock := by
  obtain ⟨i0, hi, hz0, hz1, hz2⟩ := info_parts Tryd.infoZ
  have hlen : (Nm.bys (l ++ List.replicate k 0)).length = n + k := by
    have := hown.1
    rw [Nm.bys_length] at this ⊢
    simp; omega
  have hll : l.length = n := by have := hown.1; rw [Nm.bys_length] at this; omega
  have grown : ∀ (old : Nat), ∀ (row : Option Nat),
      (w.drew.alloc (.cells ((Nm.bys l).toArray ++ Builtin.zeroCells (Value.int IntKind.u8 0).cells k ++ Builtin.zeroCells (Value.int IntKind.u8 0).cells (grownCap w (n + k) old 5 - (n + k))) 5)).ownsRow B 5 1
        (.slice (some ⟨w.heap.size, 0, none⟩) (n + k) (grownCap w (n + k) old 5)) (n + k) (Nm.bys (l ++ List.replicate k 0)) ∧
      w.grownBy (w.drew.alloc (.cells ((Nm.bys l).toArray ++ Builtin.zeroCells (Value.int IntKind.u8 0).cells k ++ Builtin.zeroCells (Value.int IntKind.u8 0).cells (grownCap w (n + k) old 5 - (n + k))) 5)) row := by
    intro old row
    have hge := grownCap_ge w (n + k) old 5
    have hcm : grownCap w (n + k) old 5 ≤ maxLen := grownCap_le_maxLen w (n + k) old 5 (by unfold maxLen; omega)
    have hzs : (Value.int IntKind.u8 0).cells.size = 1 := rfl
    refine ⟨⟨by rw [hlen, Nat.mul_one], .inr ⟨w.heap.size, _, _, rfl, hB, heap_alloc_new w.drew _, hge, hcm, ?_, ?_⟩⟩, ⟨rfl, rfl, rfl, by simp, fun k hk _ => heap_alloc_old w.drew _ (by simpa using hk)⟩⟩
    · simp only [Array.size_append, List.size_toArray, size_zeroCells, hzs, Nm.bys_length]
      omega
    · simp only [Array.toList_append, zero_bys]
      rw [← Nm.bys_append, Nat.mul_one, ← hlen]
      exact List.take_left
  rcases hown.2 with ⟨rfl, rfl⟩ | ⟨g, cap, cur, rfl, hbg, hg, hnc, hcm, hcs, htake⟩
  · have hx : l = [] := List.eq_nil_of_length_eq_zero hll
    subst hx
    by_cases hk0 : k = 0
    · subst hk0
      refine ⟨.slice none 0 0, w, ?_, World.ownsRow_nil w B _ 1, ⟨rfl, rfl, rfl, Nat.le_refl _, fun _ _ _ => rfl⟩⟩
      have hw0 : IntKind.i64.wrap 0 = 0 := rfl
      simp [Builtin.append_, run_underlying Tryd.underlying22, run_underlying Tryd.underlying3, sizeOf, typeInfo, hi, asInt, asIntOf, hw0]
    · have hr := Lib.run_append_nil_zeros (P := Tryd.prog) w 22 3 22 5 i0 (.int .u8 0) .i64 .i64 Tryd.underlying22 Tryd.underlying3 hi hz0 k (by omega) (by omega) (by omega) (by rw [hz2]; omega)
      have hgr := grown 0 (Value.ownBlock (.slice none 0 0))
      rw [show (Nm.bys []).toArray = #[] from rfl] at hgr
      simp only [Nat.zero_add, Array.empty_append] at hgr ⊢
      exact ⟨_, _, hr, hgr.1, hgr.2⟩
  · by_cases hroom : n + k ≤ cap
    · have hst := run_storeCells_at Tryd.prog g n 5 (Nm.bys (List.replicate k 0)) 0 cur w hg (by rw [hcs, Nm.bys_length, List.length_replicate]; omega) (bys_one _)
      simp only [Nat.add_zero] at hst
      refine ⟨.slice (some ⟨g, 0, none⟩) (n + k) cap, w.setRow g (cur.toList.take n ++ Nm.bys (List.replicate k 0) ++ cur.toList.drop (n + (Nm.bys (List.replicate k 0)).length)).toArray, ?_, ⟨by rw [hlen, Nat.mul_one], .inr ⟨g, cap, _, rfl, hbg, setRow_heap w g cur _ _ _ hg, hroom, hcm, ?_, ?_⟩⟩, ⟨rfl, rfl, rfl, by simp, fun k _ hk => setRow_other w g k _ (fun e => hk (by simp [Value.ownBlock, e]))⟩⟩
      · have hw : IntKind.i64.wrap (k : Int) = k := by rw [IntKind.wrap_i64]; omega
        have hneg : ¬ ((k : Int) < 0) := by omega
        have h48i : ¬ (281474976710656 < (k : Int)) := by omega
        by_cases hk0 : k = 0
        · subst hk0
          have hst' : (storeCells ⟨g, n, none⟩ []).run Tryd.prog w = _ := hst
          have hw0 : IntKind.i64.wrap 0 = 0 := rfl
          simp [Builtin.append_, run_underlying Tryd.underlying22, run_underlying Tryd.underlying3, sizeOf, typeInfo, hi, asInt, asIntOf, hw0, hz1, hz2, hnc, Addr.add_lit, hst', Nm.bys]
        · simp [Builtin.append_, run_underlying Tryd.underlying22, run_underlying Tryd.underlying3, sizeOf, typeInfo, zeroValue, hi, hz0, hz1, hz2, asInt, asIntOf, hw, hneg, hk0, h48i, hroom, Addr.add_lit, zero_bys, hst]
      · simp only [List.size_toArray, List.length_append, List.length_take, List.length_drop, Array.length_toList, Nm.bys_length, List.length_replicate, hcs]
        omega
      · rw [Nat.mul_one] at htake
        rw [htake, ← Nm.bys_append, Nat.mul_one, ← hlen]
        exact List.take_left
    · have holds : ∀ j u, (Nm.bys l)[j]? = some u → w.cell? ((⟨g, 0, none⟩ : Addr).add j) = some u := hown.cells (g := g) rfl
      have hold : (Builtin.firstCells i0.size n (.slice (some ⟨g, 0, none⟩) n cap)).run Tryd.prog w.drew = .ok (Nm.bys l).toArray w.drew := by
        rw [hz1]
        exact run_firstCells_some w.drew 1 n ⟨g, 0, none⟩ n cap (Nm.bys l) (by rw [Nm.bys_length, Nat.mul_one, hll]) holds
      have hr := Lib.run_append_grow_zeros (P := Tryd.prog) w 22 3 22 5 i0 (.int .u8 0) .i64 .i64 Tryd.underlying22 Tryd.underlying3 hi hz0 (some ⟨g, 0, none⟩) n cap (Nm.bys l) hold k (by omega) (by omega) (by omega) (by omega) (by rw [hz2]; omega) (by rw [hz2]; exact growslice_fits (by omega) (by omega))
      have hgr := grown cap (Value.ownBlock (.slice (some ⟨g, 0, none⟩) n cap))
      exact ⟨_, _, hr, hgr.1, hgr.2⟩

/-- append(b, c...), both of the call's own. -/
theorem own_both {w : World} {B B' n m : Nat} {v u : Value} {l r : List UInt8} (hown : w.ownsRow B 5 1 v n (Nm.bys l)) (hsrc : w.ownsRow B' 5 1 u m (Nm.bys r)) (hn : n ≤ 1000) (hm : m ≤ 1000) (hB : B ≤ w.heap.size) :
    ∃ v' w', (Builtin.append_ #[22, 22] 22 #[v, u]).run Tryd.prog w = .ok v' w' ∧ w'.ownsRow B 5 1 v' (n + m) (Nm.bys (l ++ r)) ∧ w.grownBy w' v.ownBlock := by
  obtain ⟨i0, hi, hz0, hz1, hz2⟩ := info_parts Tryd.infoZ
  rcases hsrc.2 with ⟨rfl, rfl⟩ | ⟨g, cap, cur, rfl, hbg, hg, hnc, hcm, hcs, htake⟩
  · have hr : r = [] := by have := hsrc.1; rw [Nm.bys_length] at this; exact List.eq_nil_of_length_eq_zero (by omega)
    subst hr
    exact ⟨v, w, run_append_owned_none (P := Tryd.prog) (w := w) B 22 22 5 i0 1 Tryd.underlying22 hi v n (Nm.bys l) hown, by simpa using hown, ⟨rfl, rfl, rfl, Nat.le_refl _, fun _ _ _ => rfl⟩⟩
  · obtain ⟨v', w', h1, h2, h3, _⟩ := run_append_own (P := Tryd.prog) w B 22 22 5 i0 (.int .u8 0) 1 1 Tryd.underlying22 hi hz0 hz1 hz2 rfl (by decide) v n (Nm.bys l) hown ⟨g, 0, none⟩ m cap (Nm.bys r) (by rw [Nat.mul_one]; have := hsrc.1; omega) (hsrc.cells (g := g) rfl) (bys_one r) (by unfold maxLen; omega) (by omega) hB
    exact ⟨v', w', h1, by rw [Nm.bys_append]; exact h2, h3⟩
end Go.Proofs.YtjokdmmlofbknaaDoor
/- Rows of bytes that may be written up to their capacity; what an append leaves. -/
namespace Go.Proofs.YtjokdmmlofbknaaDoor
open Go.RowKit

theorem Tryd.infoB : (Tryd.prog.info? 5).map (fun i => (i.zero, i.size, i.bytes)) = some (some (.int .u8 0), 1, 1) := by kernel_rfl

/-- The bytes 'l' lie where the slice 'v' leads, in a block from B on; the whole row may be written. -/
def FRow (w : World) (B : Nat) (v : Value) (l : List UInt8) : Prop :=
  ∃ g cap, v = .slice (some ⟨g, 0, none⟩) l.length cap ∧ l.length ≤ cap ∧ cap ≤ maxLen ∧ B ≤ g ∧ g < w.heap.size ∧
    (∀ j, j < cap → (w.cell? ⟨g, j, none⟩).isSome = true ∧ w.frozen? ⟨g, j, none⟩ = false) ∧
    (∀ (j : Nat) (c : UInt8), l[j]? = some c → w.cell? ⟨g, j, none⟩ = some (.int .u8 (c.toNat : Int)))

theorem bys_get {l : List UInt8} {j : Nat} {u : Value} (h : (Nm.bys l)[j]? = some u) : ∃ c, l[j]? = some c ∧ u = .int .u8 (c.toNat : Int) := by
  simp [Nm.bys] at h
  obtain ⟨c, h1, h2⟩ := h
  exact ⟨c, h1, h2.symm⟩

theorem sc_size (b : Nat) : ∀ (vs : List Value) (o : Nat) (w : World), (w.setCells b o vs).heap.size = w.heap.size := by
  intro vs
  induction vs with
  | nil => intro o w; rfl
  | cons v vs ih => intro o w; rw [World.setCells, ih]; simp
theorem sc_tape (b : Nat) : ∀ (vs : List Value) (o : Nat) (w : World), (w.setCells b o vs).tape = w.tape := by
  intro vs
  induction vs with
  | nil => intro o w; rfl
  | cons v vs ih => intro o w; rw [World.setCells, ih]; simp

theorem FRow.app {w : World} {B : Nat} {v : Value} {l : List UInt8} (h : FRow w B v l) (hB : B ≤ w.heap.size) (tx : TypeId) (x : Value) (r : List UInt8)
    (hs : _root_.Go.Src Tryd.prog 1 tx x r.length (Nm.bys r) w) (hlen : l.length + r.length ≤ 1000000000000) :
    ∃ v' w', (∀ ty, (Builtin.append_ #[22, tx] ty #[v, x]).run Tryd.prog w = .ok v' w') ∧ FRow w' B v' (l ++ r) ∧ Below B w w' := by
  obtain ⟨g, cap, rfl, h1, h2, h3, h4, h5, h6⟩ := h
  obtain ⟨i0, hi, hz0, hz1, hz2⟩ := info_parts Tryd.infoB
  have hbl : (Nm.bys r).length = r.length := Nm.bys_length r
  by_cases hroom : l.length + r.length ≤ cap
  · have hc : ∀ j, j < (Nm.bys r).length → (w.cell? ⟨g, 0 + l.length * i0.size + j, none⟩).isSome = true := by
      intro j hj
      rw [hz1, Nat.zero_add, Nat.mul_one]
      exact (h5 _ (by omega)).1
    have hf : ∀ j, j < (Nm.bys r).length → w.frozen? ⟨g, 0 + l.length * i0.size + j, none⟩ = false := by
      intro j hj
      rw [hz1, Nat.zero_add, Nat.mul_one]
      exact (h5 _ (by omega)).2
    have hr := fun ty => run_append_room_src (P := Tryd.prog) w 22 tx ty 5 i0 Tryd.underlying22 hi g 0 l.length cap x r.length (Nm.bys r) (by rw [hz1]; exact hs) hroom hc hf
    simp only [hz1, Nat.zero_add, Nat.mul_one] at hr
    rw [hz1, Nat.zero_add, Nat.mul_one] at hc
    refine ⟨_, _, hr, ⟨g, cap, by rw [List.length_append], by rw [List.length_append]; exact hroom, h2, h3, ?_, ?_, ?_⟩, ?_⟩
    · rw [sc_size]; exact h4
    · intro j hj
      refine ⟨?_, by rw [World.frozen?_setCells]; exact (h5 j hj).2⟩
      by_cases hin : l.length ≤ j ∧ j < l.length + r.length
      · have e := World.cell?_setCells_in g (Nm.bys r) l.length w hc (j - l.length) (by omega)
        rw [show l.length + (j - l.length) = j by omega] at e
        rw [e]; rfl
      · rw [World.cell?_setCells_out g _ _ _ _ (fun _ _ => by simp only [hbl]; omega)]
        exact (h5 j hj).1
    · intro j c hj
      by_cases hlt : j < l.length
      · rw [List.getElem?_append_left hlt] at hj
        rw [World.cell?_setCells_out g _ _ _ _ (fun _ _ => .inl hlt)]
        exact h6 j c hj
      · rw [List.getElem?_append_right (by omega)] at hj
        have hjr : j - l.length < r.length := (List.getElem?_eq_some_iff.1 hj).1
        have e := World.cell?_setCells_in g (Nm.bys r) l.length w hc (j - l.length) (by omega)
        rw [show l.length + (j - l.length) = j by omega] at e
        rw [e]
        have e2 : (Nm.bys r)[j - l.length]? = some (.int .u8 (c.toNat : Int)) := by simp [Nm.bys, hj]
        rw [List.getElem?_eq_getElem (by omega)] at e2
        exact e2
    · exact ⟨World.os_setCells _ _ _ _, sc_tape _ _ _ _, World.output_setCells _ _ _ _, Nat.le_of_eq (sc_size _ _ _ _).symm, fun k hk => World.heap_setCells_other w g _ _ (by omega) (by omega)⟩
  · have hold : (Builtin.firstCells i0.size l.length (.slice (some ⟨g, 0, none⟩) l.length cap)).run Tryd.prog w.drew = .ok (Nm.bys l).toArray w.drew := by
      rw [hz1]
      refine run_firstCells_some w.drew 1 l.length ⟨g, 0, none⟩ l.length cap (Nm.bys l) (by rw [Nm.bys_length, Nat.mul_one]) ?_
      intro j u hu
      obtain ⟨c, hc, rfl⟩ := bys_get hu
      have := h6 j c hc
      rw [Nm.addr_add, Nat.zero_add]
      exact this
    have hr := fun ty => run_append_grow_src (P := Tryd.prog) w 22 tx ty 5 i0 (.int .u8 0) Tryd.underlying22 hi hz0 (some ⟨g, 0, none⟩) l.length cap (Nm.bys l) hold x r.length (Nm.bys r) (by rw [hz1]; exact hs) (by omega) (by omega) (by rw [hz2]; exact growslice_fits (by omega) (by omega))
    have hge := grownCap_ge w (l.length + r.length) cap 5
    have hle := grownCap_le_maxLen w (l.length + r.length) cap 5 (by unfold maxLen; omega)
    generalize grownCap w (l.length + r.length) cap 5 = C at *
    have hall : ∀ j, j < C → ∃ u, ((Nm.bys l ++ Nm.bys r).toArray ++ Builtin.zeroCells (Value.int IntKind.u8 0).cells (C - (l.length + r.length)))[j]? = some u := by
      intro j hj
      have hz : ((Nm.bys l ++ Nm.bys r).toArray ++ Builtin.zeroCells (Value.int IntKind.u8 0).cells (C - (l.length + r.length))).size = C := by
        have hz1' : (Value.int IntKind.u8 0).cells.size = 1 := rfl
        simp only [Array.size_append, List.size_toArray, size_zeroCells, hz1', List.length_append, Nm.bys_length]
        omega
      exact ⟨_, Array.getElem?_eq_getElem (by omega)⟩
    have hcell : ∀ j, (w.drew.alloc (.cells ((Nm.bys l ++ Nm.bys r).toArray ++ Builtin.zeroCells (Value.int IntKind.u8 0).cells (C - (l.length + r.length))) 5)).cell? ⟨w.heap.size, j, none⟩ = ((Nm.bys l ++ Nm.bys r).toArray ++ Builtin.zeroCells (Value.int IntKind.u8 0).cells (C - (l.length + r.length)))[j]? := by
      intro j
      exact World.cell?_alloc_new w.drew _ _ j
    refine ⟨_, _, hr, ⟨w.heap.size, C, by rw [List.length_append], by rw [List.length_append]; exact hge, hle, hB, by simp, ?_, ?_⟩, ?_⟩
    · intro j hj
      obtain ⟨u, hu⟩ := hall j hj
      exact ⟨by rw [hcell, hu]; rfl, World.frozen?_alloc_new w.drew _ _ j⟩
    · intro j c hj
      rw [hcell]
      have e : (Nm.bys l ++ Nm.bys r)[j]? = some (.int .u8 (c.toNat : Int)) := by
        rw [← Nm.bys_append, Nm.bys, List.getElem?_map, hj]; rfl
      rw [Array.getElem?_append_left (by have := (List.getElem?_eq_some_iff.1 e).1; simpa using this)]
      simpa using e
    · exact ((Below.refl B w).drew).alloc hB _

theorem FRow.below {w w' : World} {B : Nat} {v : Value} {l : List UInt8} (h : FRow w B v l) (hb : Below w.heap.size w w') : FRow w' B v l := by
  obtain ⟨g, cap, rfl, h1, h2, h3, h4, h5, h6⟩ := h
  have hc : ∀ j, w'.cell? ⟨g, j, none⟩ = w.cell? ⟨g, j, none⟩ := fun j => hb.cell h4
  have hfz : ∀ j, w'.frozen? ⟨g, j, none⟩ = w.frozen? ⟨g, j, none⟩ := fun j => by
    simp only [World.frozen?, hb.block g h4]
  refine ⟨g, cap, rfl, h1, h2, h3, Nat.lt_of_lt_of_le h4 hb.size, ?_, ?_⟩
  · intro j hj; rw [hc, hfz]; exact h5 j hj
  · intro j c hj; rw [hc]; exact h6 j c hj

/-- string(b) of such a row. -/
theorem FRow.str {w : World} {B : Nat} {v : Value} {l : List UInt8} (h : FRow w B v l) : (convert 22 9 v).run Tryd.prog w = .ok (.string ⟨l.toArray⟩) w := by
  obtain ⟨g, cap, rfl, h1, h2, h3, h4, h5, h6⟩ := h
  refine run_convert_bytes_back w 22 9 5 ⟨g, 0, none⟩ cap l Tryd.underlying22 Tryd.underlying5 Tryd.underlying9 ?_
  intro j hj
  rw [Nm.addr_add, Nat.zero_add]
  exact h6 j _ (List.getElem?_eq_getElem hj)

/-- []byte(s). -/
theorem FRow.new (s : ByteArray) (w : World) (hs : s.size ≤ 1000000000000) : ∃ v W, (convert 9 22 (.string s)).run Tryd.prog w = .ok v W ∧ FRow W w.heap.size v s.data.toList ∧ Below w.heap.size w W := by
  have hge := grownCap_ge w s.size 0 5
  have hle := grownCap_le_maxLen w s.size 0 5 (by unfold maxLen; omega)
  have hr := run_bytes_of_string w 9 22 5 s Tryd.underlying9 Tryd.underlying22 Tryd.underlying5
  generalize grownCap w s.size 0 5 = C at *
  have hl : s.data.toList.length = s.size := by simp
  have hz : (bytesRow s C).size = C := by
    have : s.data.size = s.size := rfl
    simp [bytesRow]; omega
  have hcell : ∀ j, (w.drew.alloc (.cells (bytesRow s C) 5 ((bytesRow s C).size, (bytesRow s C).size + 1))).cell? ⟨w.heap.size, j, none⟩ = (bytesRow s C)[j]? := fun j =>
    cell_of_row _ w.heap.size j _ 5 _ (heap_alloc_new w.drew _)
  refine ⟨_, _, hr, ⟨w.heap.size, C, by rw [hl], by omega, hle, Nat.le_refl _, by simp, ?_, ?_⟩, ((Below.refl _ w).drew).alloc (Nat.le_refl _) _⟩
  · intro j hj
    refine ⟨by rw [hcell, Array.getElem?_eq_getElem (by omega)]; rfl, ?_⟩
    have e := World.frozen?_alloc_mark w.drew (bytesRow s C) 5 (bytesRow s C).size ((bytesRow s C).size + 1) j
    rw [show w.heap.size = w.drew.heap.size from rfl, e]
    simp; omega
  · intro j c hj
    have hj' : j < s.data.size := by
      have := (List.getElem?_eq_some_iff.1 hj).1
      simpa using this
    have hc : s.data[j] = c := by
      have := (List.getElem?_eq_some_iff.1 hj).2
      simpa using this
    rw [hcell, bytesRow_at s _ j hj', hc]

/-- The operation, for the walk. -/
theorem wpList_append_run {ops : Array Oper} {rest : List Oper} {o : Oper} {a : Act} {w : World} {Q : Exit → Act → World → Prop} (hgd : o.guard = none) (s x : Operand) (t u : TypeId)
    (ho : o.op = .call { callee := .builtin .append, args := #[s, x], argTypes := #[t, u] }) (v xv : Value) (hs : a.eval s = v) (hx : a.eval x = xv)
    (v' : Value) (w' : World) (hr : ∀ ty, (Builtin.append_ #[t, u] ty #[v, xv]).run Tryd.prog w = .ok v' w')
    (h : wpList Tryd.prog ops Q rest (a.put o.dst v') w') : wpList Tryd.prog ops Q (o :: rest) a w := by
  refine wpList_plain hgd fun K hK => ?_
  have hr := hr o.type
  unfold Oper.wp execOp
  simp only [ho, resolve, invoke, builtin, Sem.run_bind, Sem.run_pure, Result.andThen_ok, List.map_toArray, List.map_cons, List.map_nil, hs, hx, hr]
  exact hK _ _ h
end Go.Proofs.YtjokdmmlofbknaaDoor
