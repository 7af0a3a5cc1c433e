import Derived.Test.YtechmpdfbpehiaaGreatDoorIWr5
/- manyWords' writer, of texts, by its contract. -/
namespace Go.Proofs.YtechmpdfbpehiaaGreatDoor
open Go.RowKit

def manyT : Nat → ByteArray → List ByteArray
  | 0, _ => []
  | f + 1, r => if r.size = 0 then [] else showTextS (r.extract 1 (1 + b0 r)) :: manyT f (r.extract (1 + b0 r) r.size)
def okMany : Nat → ByteArray → Prop
  | 0, r => r.size = 0
  | f + 1, r => r.size = 0 ∨ (wrOK 1 r ∧ okMany f (r.extract (1 + b0 r) r.size))
theorem many_end {f : Nat} {r : ByteArray} (h : r.size = 0) : manyT f r = [] := by
  cases f with
  | zero => rfl
  | succ f => rw [manyT, if_pos h]
theorem many_next {f : Nat} {r : ByteArray} (h : r.size ≠ 0) (ho : okMany f r) : ∃ f', (0 < r.size ∧ 1 + b0 r ≤ r.size) ∧ okMany f' (r.extract (1 + b0 r) r.size) ∧ manyT f r = showTextS (r.extract 1 (1 + b0 r)) :: manyT f' (r.extract (1 + b0 r) r.size) := by
  cases f with
  | zero => exact absurd ho h
  | succ f =>
    rcases ho with ho | ho
    · exact absurd ho h
    · exact ⟨f, ho.1, ho.2, by rw [manyT, if_neg h]⟩

def strSize (v : Value) : Nat := match v with
  | .string s => s.size
  | _ => 0

set_option maxRecDepth 100000 in
set_option maxHeartbeats 4000000 in
theorem manyWrite_any (fuel : Nat) (d : ByteArray) (w : World) (gc : Nat) (hgc : w.cell? ⟨gc, 1, none⟩ = some (.func (.func 95) #[] #[])) (hok : okMany fuel d) (hd : d.size ≤ 1000000) :
    Calls Tryz.prog 114 #[.string d, .pointer (some ⟨gc, 0, none⟩)] w fun e w' => ∃ v, e = .returned v ∧ w'.ownsRow w.heap.size 9 1 v (manyT fuel d).length ((manyT fuel d).map Value.string) ∧ Below w.heap.size w w' := by
  obtain ⟨i0, hi, hz0, hz1, hz2⟩ := info_parts Tryz.infoStr
  obtain ⟨A, HA⟩ : ∃ A, Hid (A = manyT fuel d) := ⟨_, rfl⟩
  rw [← HA.out]
  have hlt := World.block_lt_of_cell? w _ hgc
  have hst : Hid (A = [] ++ manyT fuel d) := by show _ = _; rw [HA.out]; rfl
  have HO0 : Hid (okMany fuel d) := hok
  clear hok HA
  go_enter Tryz.func114, Tryz.ntmps114
  go_wp2
  go_loopw [0, 4] (fun dv v wr => ∃ (f : Nat) (r : ByteArray) (l : List ByteArray), dv = .string r ∧ r.size + l.length ≤ 1000000 ∧ Hid (okMany f r) ∧ Hid (A = l ++ manyT f r) ∧ wr.ownsRow w.heap.size 9 1 v l.length (l.map Value.string) ∧ Below w.heap.size w wr)
    (fun dv _ _ => strSize dv)
  case atStart => exact ⟨fuel, d, [], rfl, by simpa using hd, HO0, hst, World.ownsRow_nil _ _ _ _, Below.refl _ _⟩
  case round =>
    obtain ⟨f, r, l, rfl, hrl, HO, HW, hown, hbel⟩ := hrel
    clear hst HO0
    have hsz := hbel.size
    by_cases h0 : r.size = 0
    · obtain ⟨h0', h0''⟩ := beq_empty h0
      have hA := HW.out
      rw [many_end h0, List.append_nil] at hA
      clear HO HW
      go_wp2
      go_ret
      rw [hA]
      exact ⟨_, rfl, hown, hbel⟩
    · obtain ⟨h0', h0''⟩ := not_empty (s := r) (by omega)
      obtain ⟨f', ho, ho2, hm⟩ := many_next h0 HO.out
      have hA := HW.out
      rw [hm] at hA
      obtain ⟨hp0, hp1⟩ := ho
      have hcall := fun W => textWrite_any r (1 + b0 r) W hp0 (by rw [b0_eq hp0]) hp1 (by omega)
      have hg : wr.cell? ⟨gc, 1, none⟩ = some (.func (.func 95) #[] #[]) := (hbel.cell hlt).trans hgc
      have HO2 := Nm.hide ho2
      have HW2 : Hid (A = (l ++ [showTextS (r.extract 1 (1 + b0 r))]) ++ manyT f' (r.extract (1 + b0 r) r.size)) := by show _ = _; rw [hA]; simp
      have hn1 : 1 ≤ 1 + b0 r := by omega
      simp only [wrV] at hcall
      generalize showTextS (r.extract 1 (1 + b0 r)) = T at *
      generalize 1 + b0 r = n at *
      have HN2 : Hid ((r.extract n r.size).size + (l ++ [T]).length ≤ 1000000) := by show _ ≤ _; simp; omega
      have HM : Hid ((r.extract n r.size).size < r.size) := by show _ < _; simp; omega
      have hn' : (n : Int) ≤ (r.size : Int) := by omega
      clear ho2 hm hA HO HW
      go_wp2_with (first | (go_at_call 95; refine (hcall _).mono ?_; rintro e w2 ⟨rfl, hb2⟩; have hown2 := own_below hown hb2; have hbel2 := hbel.trans (hb2.mono hsz); have hsz2 := hbel2.size) | (at_builtin; refine wpList_append_own _ rfl (.tmp 16) (.tmp 18) 55 rfl w.heap.size 9 i0 (.string ByteArray.empty) 1 16 Tryz.underlying55 hi hz0 hz1 hz2 rfl (by decide) _ _ _ rfl (hown2.alloc _) ⟨w2.heap.size, 0, none⟩ 1 1 [.string T] rfl rfl (cell_new1 _ _ _) (Nm.one_cell _ rfl) (by unfold maxLen; omega) (by omega) (by simp; omega) ?_))
      intro v' w4 hown' hgrow _
      obtain ⟨o4, b4⟩ := own_step hsz2 hown2 hbel2 _ hown' hgrow
      clear hown' hgrow hown hbel
      go_wp2
      go_roundw
      case rel => exact ⟨f', r.extract n r.size, l ++ [T], rfl, HN2.out, HO2, HW2, o4, b4⟩
      case measure => exact HM.out
end Go.Proofs.YtechmpdfbpehiaaGreatDoor
