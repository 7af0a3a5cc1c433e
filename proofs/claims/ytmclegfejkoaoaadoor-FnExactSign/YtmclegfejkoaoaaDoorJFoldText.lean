import Derived.Test.YtmclegfejkoaoaaDoorJFoldM
import Derived.Test.YtmclegfejkoaoaaDoorJPiece2
import Derived.Deep.AppendSrc
import Derived.Deep.Upon
/- impl.foldByte, impl.foldText and impl.FoldName by their contracts. -/
namespace Go.Proofs.YtmclegfejkoaoaaDoor
open Go.RowKit

theorem low_set {l : List UInt8} {k : Nat} {c : UInt8} (h : l[k]? = some c) : (Nm.smallL (l.take k) ++ l.drop k).set k (Nm.low c) = Nm.smallL (l.take (k + 1)) ++ l.drop (k + 1) := by
  have hk : k < l.length := (List.getElem?_eq_some_iff.1 h).1
  have hx : l[k] = c := (List.getElem?_eq_some_iff.1 h).2
  have hl : (Nm.smallL (l.take k)).length = k := by simp [Nm.smallL]; omega
  rw [Nm.smallL_step h, List.set_append_right _ _ (by omega), hl, List.drop_eq_getElem_cons hk, hx]
  simp

set_option maxRecDepth 100000 in
set_option maxHeartbeats 800000 in
theorem foldText_any (s : ByteArray) (w : World) (hs : s.size ≤ 1000000000) :
    Calls Tryd.prog 39 #[.string s] w fun e w' => e = .returned (.string (Nm.small s)) ∧ Below w.heap.size w w' := by
  obtain ⟨cap, W, hcap, hmx, hrun, hrow, hbel⟩ := new_bytes s w
  have hmx' := hmx (by unfold maxLen; omega)
  unfold maxLen at hmx'
  clear hmx
  go_enter Tryd.func39, Tryd.ntmps39
  go_wp2
  go_loopw [10] (fun i wr => ∃ k : Nat, k ≤ s.size ∧ i = .int .i64 k ∧ BRow wr w.heap.size (Nm.smallL (s.data.toList.take k) ++ s.data.toList.drop k) ∧ Below w.heap.size w wr)
    (fun i _ => s.size - (intOf i).toNat)
  case atStart => exact ⟨0, Nat.zero_le _, rfl, by simpa [Nm.smallL] using hrow, hbel⟩
  case round =>
    obtain ⟨k, hk, rfl, hrk, hbk⟩ := hrel
    clear hrun hrow hbel
    by_cases hlt : k < s.size
    · have hd := Nm.get_data hlt
      have hll : (Nm.smallL (s.data.toList.take k) ++ s.data.toList.drop k)[k]? = some s[k] := by
        rw [List.getElem?_append_right (by simp [Nm.smallL]; omega)]
        simp [Nm.smallL, Nat.min_eq_left hk]
        simpa using hd
      have hck := hrk k _ hll
      have HB := Nm.hide (hrk.set (k := k) (d := Nm.low s[k]) (by simp [Nm.smallL]; omega))
      rw [low_set hd] at HB
      have HW : Hid (Below w.heap.size w (wr.setCell ⟨w.heap.size, k, none⟩ (.int .u8 (Nm.low s[k]).toNat))) := hbk.setCell (Nat.le_refl _) _
      obtain ⟨hc1, hc2⟩ := hck
      clear hd hll hrk
      go_wp2_with (go_at_call 45; refine (foldByte_any _ _).mono ?_; rintro e w3 ⟨rfl, rfl⟩)
      go_roundw
      case rel => exact ⟨k + 1, by omega, by go_num, HB.out, HW.out⟩
      case measure => simp [intOf]; omega
    · have hkl : k = s.size := by omega
      subst hkl
      have hcv := run_convert_bytes_back (P := Tryd.prog) wr 22 9 5 ⟨w.heap.size, 0, none⟩ cap (Nm.smallL s.data.toList) Tryd.underlying22 Tryd.underlying5 Tryd.underlying9 (by
        intro j hj
        rw [Nm.addr_add, Nat.zero_add]
        refine (hrk j _ ?_).1
        rw [List.take_of_length_le (by simp), List.drop_of_length_le (by simp), List.append_nil]
        exact List.getElem?_eq_getElem hj)
      have hsl : (Nm.smallL s.data.toList).length = s.size := by simp [Nm.smallL]
      rw [hsl, show (⟨(Nm.smallL s.data.toList).toArray⟩ : ByteArray) = Nm.small s from rfl] at hcv
      clear hrk hlt hsl
      go_wp2
      go_ret
      exact ⟨rfl, hbk⟩

set_option maxRecDepth 100000 in
set_option maxHeartbeats 400000 in
theorem implFoldName_any (s : ByteArray) (w : World) (hs : s.size ≤ maxLen) :
    Calls Tryd.prog 32 #[.string s] w fun e w' => e = .returned (.string (Nm.foldS s)) ∧ Below w.heap.size w w' := by
  have hok := implNameOK_any s w hs
  cases hq : Nm.split s with
  | none =>
    have HA := Nm.hide (Nm.foldS_none hq)
    rw [hq] at hok
    clear hq
    go_enter Tryd.func32, Tryd.ntmps32
    go_wp2_with fail
    refine hok.mono ?_
    rintro e w1 ⟨rfl, hbel⟩
    go_wp2
    go_ret
    rw [HA.out]
    exact ⟨rfl, hbel⟩
  | some ls =>
    have HA := Nm.hide (Nm.foldS_some hq)
    have hz := Nm.split_size hq
    rw [hq] at hok
    clear hq
    go_enter Tryd.func32, Tryd.ntmps32
    go_wp2_with fail
    refine hok.mono ?_
    rintro e w1 ⟨rfl, hbel⟩
    go_wp2_with fail
    refine (foldText_any s _ (by omega)).mono ?_
    rintro e w2 ⟨rfl, hbel2⟩
    go_wp2
    go_ret
    rw [HA.out]
    exact ⟨rfl, Nm.below_two hbel hbel2⟩
end Go.Proofs.YtmclegfejkoaoaaDoor
/- Rows of bytes that may be written up to their capacity; what an append leaves. -/
namespace Go.Proofs.YtmclegfejkoaoaaDoor
open Go.RowKit

theorem Tryd.infoB : (Tryd.prog.info? 5).map (fun i => (i.zero, i.size, i.bytes)) = some (some (.int .u8 0), 1, 1) := by kernel_rfl

/-- The bytes 'l' lie where the slice 'v' leads, in a block from B on; the whole row may be written. -/
def FRow (w : World) (B : Nat) (v : Value) (l : List UInt8) : Prop :=
  ∃ g cap, v = .slice (some ⟨g, 0, none⟩) l.length cap ∧ l.length ≤ cap ∧ cap ≤ maxLen ∧ B ≤ g ∧ g < w.heap.size ∧
    (∀ j, j < cap → (w.cell? ⟨g, j, none⟩).isSome = true ∧ w.frozen? ⟨g, j, none⟩ = false) ∧
    (∀ (j : Nat) (c : UInt8), l[j]? = some c → w.cell? ⟨g, j, none⟩ = some (.int .u8 (c.toNat : Int)))

theorem bys_get {l : List UInt8} {j : Nat} {u : Value} (h : (Nm.bys l)[j]? = some u) : ∃ c, l[j]? = some c ∧ u = .int .u8 (c.toNat : Int) := by
  simp [Nm.bys] at h
  obtain ⟨c, h1, h2⟩ := h
  exact ⟨c, h1, h2.symm⟩

theorem sc_size (b : Nat) : ∀ (vs : List Value) (o : Nat) (w : World), (w.setCells b o vs).heap.size = w.heap.size := by
  intro vs
  induction vs with
  | nil => intro o w; rfl
  | cons v vs ih => intro o w; rw [World.setCells, ih]; simp
theorem sc_tape (b : Nat) : ∀ (vs : List Value) (o : Nat) (w : World), (w.setCells b o vs).tape = w.tape := by
  intro vs
  induction vs with
  | nil => intro o w; rfl
  | cons v vs ih => intro o w; rw [World.setCells, ih]; simp

theorem FRow.app {w : World} {B : Nat} {v : Value} {l : List UInt8} (h : FRow w B v l) (hB : B ≤ w.heap.size) (tx : TypeId) (x : Value) (r : List UInt8)
    (hs : _root_.Go.Src Tryd.prog 1 tx x r.length (Nm.bys r) w) (hlen : l.length + r.length ≤ 1000000000000) :
    ∃ v' w', (∀ ty, (Builtin.append_ #[22, tx] ty #[v, x]).run Tryd.prog w = .ok v' w') ∧ FRow w' B v' (l ++ r) ∧ Below B w w' := by
  obtain ⟨g, cap, rfl, h1, h2, h3, h4, h5, h6⟩ := h
  obtain ⟨i0, hi, hz0, hz1, hz2⟩ := info_parts Tryd.infoB
  have hbl : (Nm.bys r).length = r.length := Nm.bys_length r
  by_cases hroom : l.length + r.length ≤ cap
  · have hc : ∀ j, j < (Nm.bys r).length → (w.cell? ⟨g, 0 + l.length * i0.size + j, none⟩).isSome = true := by
      intro j hj
      rw [hz1, Nat.zero_add, Nat.mul_one]
      exact (h5 _ (by omega)).1
    have hf : ∀ j, j < (Nm.bys r).length → w.frozen? ⟨g, 0 + l.length * i0.size + j, none⟩ = false := by
      intro j hj
      rw [hz1, Nat.zero_add, Nat.mul_one]
      exact (h5 _ (by omega)).2
    have hr := fun ty => run_append_room_src (P := Tryd.prog) w 22 tx ty 5 i0 Tryd.underlying22 hi g 0 l.length cap x r.length (Nm.bys r) (by rw [hz1]; exact hs) hroom hc hf
    simp only [hz1, Nat.zero_add, Nat.mul_one] at hr
    rw [hz1, Nat.zero_add, Nat.mul_one] at hc
    refine ⟨_, _, hr, ⟨g, cap, by rw [List.length_append], by rw [List.length_append]; exact hroom, h2, h3, ?_, ?_, ?_⟩, ?_⟩
    · rw [sc_size]; exact h4
    · intro j hj
      refine ⟨?_, by rw [World.frozen?_setCells]; exact (h5 j hj).2⟩
      by_cases hin : l.length ≤ j ∧ j < l.length + r.length
      · have e := World.cell?_setCells_in g (Nm.bys r) l.length w hc (j - l.length) (by omega)
        rw [show l.length + (j - l.length) = j by omega] at e
        rw [e]; rfl
      · rw [World.cell?_setCells_out g _ _ _ _ (fun _ _ => by simp only [hbl]; omega)]
        exact (h5 j hj).1
    · intro j c hj
      by_cases hlt : j < l.length
      · rw [List.getElem?_append_left hlt] at hj
        rw [World.cell?_setCells_out g _ _ _ _ (fun _ _ => .inl hlt)]
        exact h6 j c hj
      · rw [List.getElem?_append_right (by omega)] at hj
        have hjr : j - l.length < r.length := (List.getElem?_eq_some_iff.1 hj).1
        have e := World.cell?_setCells_in g (Nm.bys r) l.length w hc (j - l.length) (by omega)
        rw [show l.length + (j - l.length) = j by omega] at e
        rw [e]
        have e2 : (Nm.bys r)[j - l.length]? = some (.int .u8 (c.toNat : Int)) := by simp [Nm.bys, hj]
        rw [List.getElem?_eq_getElem (by omega)] at e2
        exact e2
    · exact ⟨World.os_setCells _ _ _ _, sc_tape _ _ _ _, World.output_setCells _ _ _ _, Nat.le_of_eq (sc_size _ _ _ _).symm, fun k hk => World.heap_setCells_other w g _ _ (by omega) (by omega)⟩
  · have hold : (Builtin.firstCells i0.size l.length (.slice (some ⟨g, 0, none⟩) l.length cap)).run Tryd.prog w.drew = .ok (Nm.bys l).toArray w.drew := by
      rw [hz1]
      refine run_firstCells_some w.drew 1 l.length ⟨g, 0, none⟩ l.length cap (Nm.bys l) (by rw [Nm.bys_length, Nat.mul_one]) ?_
      intro j u hu
      obtain ⟨c, hc, rfl⟩ := bys_get hu
      have := h6 j c hc
      rw [Nm.addr_add, Nat.zero_add]
      exact this
    have hr := fun ty => run_append_grow_src (P := Tryd.prog) w 22 tx ty 5 i0 (.int .u8 0) Tryd.underlying22 hi hz0 (some ⟨g, 0, none⟩) l.length cap (Nm.bys l) hold x r.length (Nm.bys r) (by rw [hz1]; exact hs) (by omega) (by omega) (by rw [hz2]; exact growslice_fits (by omega) (by omega))
    have hge := grownCap_ge w (l.length + r.length) cap 5
    have hle := grownCap_le_maxLen w (l.length + r.length) cap 5 (by unfold maxLen; omega)
    generalize grownCap w (l.length + r.length) cap 5 = C at *
    have hall : ∀ j, j < C → ∃ u, ((Nm.bys l ++ Nm.bys r).toArray ++ Builtin.zeroCells (Value.int IntKind.u8 0).cells (C - (l.length + r.length)))[j]? = some u := by
      intro j hj
      have hz : ((Nm.bys l ++ Nm.bys r).toArray ++ Builtin.zeroCells (Value.int IntKind.u8 0).cells (C - (l.length + r.length))).size = C := by
        have hz1' : (Value.int IntKind.u8 0).cells.size = 1 := rfl
        simp only [Array.size_append, List.size_toArray, size_zeroCells, hz1', List.length_append, Nm.bys_length]
        omega
      exact ⟨_, Array.getElem?_eq_getElem (by omega)⟩
    have hcell : ∀ j, (w.drew.alloc (.cells ((Nm.bys l ++ Nm.bys r).toArray ++ Builtin.zeroCells (Value.int IntKind.u8 0).cells (C - (l.length + r.length))) 5)).cell? ⟨w.heap.size, j, none⟩ = ((Nm.bys l ++ Nm.bys r).toArray ++ Builtin.zeroCells (Value.int IntKind.u8 0).cells (C - (l.length + r.length)))[j]? := by
      intro j
      exact World.cell?_alloc_new w.drew _ _ j
    refine ⟨_, _, hr, ⟨w.heap.size, C, by rw [List.length_append], by rw [List.length_append]; exact hge, hle, hB, by simp, ?_, ?_⟩, ?_⟩
    · intro j hj
      obtain ⟨u, hu⟩ := hall j hj
      exact ⟨by rw [hcell, hu]; rfl, World.frozen?_alloc_new w.drew _ _ j⟩
    · intro j c hj
      rw [hcell]
      have e : (Nm.bys l ++ Nm.bys r)[j]? = some (.int .u8 (c.toNat : Int)) := by
        rw [← Nm.bys_append, Nm.bys, List.getElem?_map, hj]; rfl
      rw [Array.getElem?_append_left (by have := (List.getElem?_eq_some_iff.1 e).1; simpa using this)]
      simpa using e
    · exact ((Below.refl B w).drew).alloc hB _

theorem FRow.below {w w' : World} {B : Nat} {v : Value} {l : List UInt8} (h : FRow w B v l) (hb : Below w.heap.size w w') : FRow w' B v l := by
  obtain ⟨g, cap, rfl, h1, h2, h3, h4, h5, h6⟩ := h
  have hc : ∀ j, w'.cell? ⟨g, j, none⟩ = w.cell? ⟨g, j, none⟩ := fun j => hb.cell h4
  have hfz : ∀ j, w'.frozen? ⟨g, j, none⟩ = w.frozen? ⟨g, j, none⟩ := fun j => by
    simp only [World.frozen?, hb.block g h4]
  refine ⟨g, cap, rfl, h1, h2, h3, Nat.lt_of_lt_of_le h4 hb.size, ?_, ?_⟩
  · intro j hj; rw [hc, hfz]; exact h5 j hj
  · intro j c hj; rw [hc]; exact h6 j c hj

/-- string(b) of such a row. -/
theorem FRow.str {w : World} {B : Nat} {v : Value} {l : List UInt8} (h : FRow w B v l) : (convert 22 9 v).run Tryd.prog w = .ok (.string ⟨l.toArray⟩) w := by
  obtain ⟨g, cap, rfl, h1, h2, h3, h4, h5, h6⟩ := h
  refine run_convert_bytes_back w 22 9 5 ⟨g, 0, none⟩ cap l Tryd.underlying22 Tryd.underlying5 Tryd.underlying9 ?_
  intro j hj
  rw [Nm.addr_add, Nat.zero_add]
  exact h6 j _ (List.getElem?_eq_getElem hj)

/-- []byte(s). -/
theorem FRow.new (s : ByteArray) (w : World) (hs : s.size ≤ 1000000000000) : ∃ v W, (convert 9 22 (.string s)).run Tryd.prog w = .ok v W ∧ FRow W w.heap.size v s.data.toList ∧ Below w.heap.size w W := by
  have hge := grownCap_ge w s.size 0 5
  have hle := grownCap_le_maxLen w s.size 0 5 (by unfold maxLen; omega)
  have hr := run_bytes_of_string w 9 22 5 s Tryd.underlying9 Tryd.underlying22 Tryd.underlying5
  generalize grownCap w s.size 0 5 = C at *
  have hl : s.data.toList.length = s.size := by simp
  have hz : (bytesRow s C).size = C := by
    have : s.data.size = s.size := rfl
    simp [bytesRow]; omega
  have hcell : ∀ j, (w.drew.alloc (.cells (bytesRow s C) 5 ((bytesRow s C).size, (bytesRow s C).size + 1))).cell? ⟨w.heap.size, j, none⟩ = (bytesRow s C)[j]? := fun j =>
    cell_of_row _ w.heap.size j _ 5 _ (heap_alloc_new w.drew _)
  refine ⟨_, _, hr, ⟨w.heap.size, C, by rw [hl], by omega, hle, Nat.le_refl _, by simp, ?_, ?_⟩, ((Below.refl _ w).drew).alloc (Nat.le_refl _) _⟩
  · intro j hj
    refine ⟨by rw [hcell, Array.getElem?_eq_getElem (by omega)]; rfl, ?_⟩
    have e := World.frozen?_alloc_mark w.drew (bytesRow s C) 5 (bytesRow s C).size ((bytesRow s C).size + 1) j
    rw [show w.heap.size = w.drew.heap.size from rfl, e]
    simp; omega
  · intro j c hj
    have hj' : j < s.data.size := by
      have := (List.getElem?_eq_some_iff.1 hj).1
      simpa using this
    have hc : s.data[j] = c := by
      have := (List.getElem?_eq_some_iff.1 hj).2
      simpa using this
    rw [hcell, bytesRow_at s _ j hj', hc]

/-- The operation, for the walk. -/
theorem wpList_append_run {ops : Array Oper} {rest : List Oper} {o : Oper} {a : Act} {w : World} {Q : Exit → Act → World → Prop} (hgd : o.guard = none) (s x : Operand) (t u : TypeId)
    (ho : o.op = .call { callee := .builtin .append, args := #[s, x], argTypes := #[t, u] }) (v xv : Value) (hs : a.eval s = v) (hx : a.eval x = xv)
    (v' : Value) (w' : World) (hr : ∀ ty, (Builtin.append_ #[t, u] ty #[v, xv]).run Tryd.prog w = .ok v' w')
    (h : wpList Tryd.prog ops Q rest (a.put o.dst v') w') : wpList Tryd.prog ops Q (o :: rest) a w := by
  refine wpList_plain hgd fun K hK => ?_
  have hr := hr o.type
  unfold Oper.wp execOp
  simp only [ho, resolve, invoke, builtin, Sem.run_bind, Sem.run_pure, Result.andThen_ok, List.map_toArray, List.map_cons, List.map_nil, hs, hx, hr]
  exact hK _ _ h
end Go.Proofs.YtmclegfejkoaoaaDoor
