/- append(b, make([]byte, k)...) and append(b, c...) of rows of the call's own. -/
import Derived.Test.YtakonfkefoeenafDoorLab
import Derived.Test.YtakonfkefoeenafDoorOwnS
import Derived.Lib.AppendZerosOnto
import Derived.Laws.AppendOwnNone
namespace Go.Proofs.YtakonfkefoeenafDoor
open Go.RowKit

theorem Tryd.infoZ : (Tryd.prog.info? 5).map (fun i => (i.zero, i.size, i.bytes)) = some (some (.int .u8 0), 1, 1) := by kernel_rfl

theorem zero_bys (k : Nat) : (Builtin.zeroCells (Value.int IntKind.u8 0).cells k).toList = Nm.bys (List.replicate k 0) := by
  apply List.ext_getElem
  · rw [Array.length_toList, size_zeroCells, Nm.bys_length, List.length_replicate]
    exact Nat.mul_one k
  · intro i h1 h2
    have e : (Value.int IntKind.u8 0).cells = #[.int .u8 0] := rfl
    simp [Builtin.zeroCells, e, Nm.bys, Nat.mod_one]

theorem bys_one (l : List UInt8) : ∀ u ∈ Nm.bys l, u.oneCell' = true := by
  intro u hu
  simp [Nm.bys] at hu
  obtain ⟨c, _, rfl⟩ := hu
  rfl

theorem own_zeros {w : World} {B n : Nat} {v : Value} {l : List UInt8} (hown : w.ownsRow B 5 1 v n (Nm.bys l)) (k : Nat) (hk : k ≤ 1000) (hn : n ≤ 1000) (hB : B ≤ w.heap.size) :
    ∃ v' w', (Builtin.append_ #[29, 3] 29 #[v, .int .i64 (k : Int)]).run Tryd.prog w = .ok v' w' ∧ w'.ownsRow B 5 1 v' (n + k) (Nm.bys (l ++ List.replicate k 0)) ∧ w.grownBy w' v.ownBlock := by
  obtain ⟨i0, hi, hz0, hz1, hz2⟩ := info_parts Tryd.infoZ
  have hlen : (Nm.bys (l ++ List.replicate k 0)).length = n + k := by
    have := hown.1
    rw [Nm.bys_length] at this ⊢
    simp; omega
  have hll : l.length = n := by have := hown.1; rw [Nm.bys_length] at this; omega
  have grown : ∀ (old : Nat), ∀ (row : Option Nat),
      (w.drew.alloc (.cells ((Nm.bys l).toArray ++ Builtin.zeroCells (Value.int IntKind.u8 0).cells k ++ Builtin.zeroCells (Value.int IntKind.u8 0).cells (grownCap w (n + k) old 5 - (n + k))) 5)).ownsRow B 5 1
        (.slice (some ⟨w.heap.size, 0, none⟩) (n + k) (grownCap w (n + k) old 5)) (n + k) (Nm.bys (l ++ List.replicate k 0)) ∧
      w.grownBy (w.drew.alloc (.cells ((Nm.bys l).toArray ++ Builtin.zeroCells (Value.int IntKind.u8 0).cells k ++ Builtin.zeroCells (Value.int IntKind.u8 0).cells (grownCap w (n + k) old 5 - (n + k))) 5)) row := by
    intro old row
    have hge := grownCap_ge w (n + k) old 5
    have hcm : grownCap w (n + k) old 5 ≤ maxLen := grownCap_le_maxLen w (n + k) old 5 (by unfold maxLen; omega)
    have hzs : (Value.int IntKind.u8 0).cells.size = 1 := rfl
    refine ⟨⟨by rw [hlen, Nat.mul_one], .inr ⟨w.heap.size, _, _, rfl, hB, heap_alloc_new w.drew _, hge, hcm, ?_, ?_⟩⟩, ⟨rfl, rfl, rfl, by simp, fun k hk _ => heap_alloc_old w.drew _ (by simpa using hk)⟩⟩
    · simp only [Array.size_append, List.size_toArray, size_zeroCells, hzs, Nm.bys_length]
      omega
    · simp only [Array.toList_append, zero_bys]
      rw [← Nm.bys_append, Nat.mul_one, ← hlen]
      exact List.take_left
  rcases hown.2 with ⟨rfl, rfl⟩ | ⟨g, cap, cur, rfl, hbg, hg, hnc, hcm, hcs, htake⟩
  · have hx : l = [] := List.eq_nil_of_length_eq_zero hll
    subst hx
    by_cases hk0 : k = 0
    · subst hk0
      refine ⟨.slice none 0 0, w, ?_, World.ownsRow_nil w B _ 1, ⟨rfl, rfl, rfl, Nat.le_refl _, fun _ _ _ => rfl⟩⟩
      have hw0 : IntKind.i64.wrap 0 = 0 := rfl
      simp [Builtin.append_, run_underlying Tryd.underlying29, run_underlying Tryd.underlying3, sizeOf, typeInfo, hi, asInt, asIntOf, hw0]
    · have hr := Lib.run_append_nil_zeros (P := Tryd.prog) w 29 3 29 5 i0 (.int .u8 0) .i64 .i64 Tryd.underlying29 Tryd.underlying3 hi hz0 k (by omega) (by omega) (by omega) (by rw [hz2]; omega)
      have hgr := grown 0 (Value.ownBlock (.slice none 0 0))
      rw [show (Nm.bys []).toArray = #[] from rfl] at hgr
      simp only [Nat.zero_add, Array.empty_append] at hgr ⊢
      exact ⟨_, _, hr, hgr.1, hgr.2⟩
  · by_cases hroom : n + k ≤ cap
    · have hst := run_storeCells_at Tryd.prog g n 5 (Nm.bys (List.replicate k 0)) 0 cur w hg (by rw [hcs, Nm.bys_length, List.length_replicate]; omega) (bys_one _)
      simp only [Nat.add_zero] at hst
      refine ⟨.slice (some ⟨g, 0, none⟩) (n + k) cap, w.setRow g (cur.toList.take n ++ Nm.bys (List.replicate k 0) ++ cur.toList.drop (n + (Nm.bys (List.replicate k 0)).length)).toArray, ?_, ⟨by rw [hlen, Nat.mul_one], .inr ⟨g, cap, _, rfl, hbg, setRow_heap w g cur _ _ _ hg, hroom, hcm, ?_, ?_⟩⟩, ⟨rfl, rfl, rfl, by simp, fun k _ hk => setRow_other w g k _ (fun e => hk (by simp [Value.ownBlock, e]))⟩⟩
      · have hw : IntKind.i64.wrap (k : Int) = k := by rw [IntKind.wrap_i64]; omega
        have hneg : ¬ ((k : Int) < 0) := by omega
        have h48i : ¬ (281474976710656 < (k : Int)) := by omega
        by_cases hk0 : k = 0
        · subst hk0
          have hst' : (storeCells ⟨g, n, none⟩ []).run Tryd.prog w = _ := hst
          have hw0 : IntKind.i64.wrap 0 = 0 := rfl
          simp [Builtin.append_, run_underlying Tryd.underlying29, run_underlying Tryd.underlying3, sizeOf, typeInfo, hi, asInt, asIntOf, hw0, hz1, hz2, hnc, Addr.add_lit, hst', Nm.bys]
        · simp [Builtin.append_, run_underlying Tryd.underlying29, run_underlying Tryd.underlying3, sizeOf, typeInfo, zeroValue, hi, hz0, hz1, hz2, asInt, asIntOf, hw, hneg, hk0, h48i, hroom, Addr.add_lit, zero_bys, hst]
      · simp only [List.size_toArray, List.length_append, List.length_take, List.length_drop, Array.length_toList, Nm.bys_length, List.length_replicate, hcs]
        omega
      · rw [Nat.mul_one] at htake
        rw [htake, ← Nm.bys_append, Nat.mul_one, ← hlen]
        exact List.take_left
    · have holds : ∀ j u, (Nm.bys l)[j]? = some u → w.cell? ((⟨g, 0, none⟩ : Addr).add j) = some u := hown.cells (g := g) rfl
      have hold : (Builtin.firstCells i0.size n (.slice (some ⟨g, 0, none⟩) n cap)).run Tryd.prog w.drew = .ok (Nm.bys l).toArray w.drew := by
        rw [hz1]
        exact run_firstCells_some w.drew 1 n ⟨g, 0, none⟩ n cap (Nm.bys l) (by rw [Nm.bys_length, Nat.mul_one, hll]) holds
      have hr := Lib.run_append_grow_zeros (P := Tryd.prog) w 29 3 29 5 i0 (.int .u8 0) .i64 .i64 Tryd.underlying29 Tryd.underlying3 hi hz0 (some ⟨g, 0, none⟩) n cap (Nm.bys l) hold k (by omega) (by omega) (by omega) (by omega) (by rw [hz2]; omega) (by rw [hz2]; exact growslice_fits (by omega) (by omega))
      have hgr := grown cap (Value.ownBlock (.slice (some ⟨g, 0, none⟩) n cap))
      exact ⟨_, _, hr, hgr.1, hgr.2⟩

/-- append(b, c...), both of the call's own. -/
theorem own_both {w : World} {B B' n m : Nat} {v u : Value} {l r : List UInt8} (hown : w.ownsRow B 5 1 v n (Nm.bys l)) (hsrc : w.ownsRow B' 5 1 u m (Nm.bys r)) (hn : n ≤ 1000) (hm : m ≤ 1000) (hB : B ≤ w.heap.size) :
    ∃ v' w', (Builtin.append_ #[29, 29] 29 #[v, u]).run Tryd.prog w = .ok v' w' ∧ w'.ownsRow B 5 1 v' (n + m) (Nm.bys (l ++ r)) ∧ w.grownBy w' v.ownBlock := by
  obtain ⟨i0, hi, hz0, hz1, hz2⟩ := info_parts Tryd.infoZ
  rcases hsrc.2 with ⟨rfl, rfl⟩ | ⟨g, cap, cur, rfl, hbg, hg, hnc, hcm, hcs, htake⟩
  · have hr : r = [] := by have := hsrc.1; rw [Nm.bys_length] at this; exact List.eq_nil_of_length_eq_zero (by omega)
    subst hr
    exact ⟨v, w, run_append_owned_none (P := Tryd.prog) (w := w) B 29 29 5 i0 1 Tryd.underlying29 hi v n (Nm.bys l) hown, by simpa using hown, ⟨rfl, rfl, rfl, Nat.le_refl _, fun _ _ _ => rfl⟩⟩
  · obtain ⟨v', w', h1, h2, h3, _⟩ := run_append_own (P := Tryd.prog) w B 29 29 5 i0 (.int .u8 0) 1 1 Tryd.underlying29 hi hz0 hz1 hz2 rfl (by decide) v n (Nm.bys l) hown ⟨g, 0, none⟩ m cap (Nm.bys r) (by rw [Nat.mul_one]; have := hsrc.1; omega) (hsrc.cells (g := g) rfl) (bys_one r) (by unfold maxLen; omega) (by omega) hB
    exact ⟨v', w', h1, by rw [Nm.bys_append]; exact h2, h3⟩
end Go.Proofs.YtakonfkefoeenafDoor
