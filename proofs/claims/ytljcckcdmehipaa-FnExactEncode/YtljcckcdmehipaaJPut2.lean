import Derived.Test.YtljcckcdmehipaaJSplM
import Derived.Test.YtljcckcdmehipaaJBitM
import Derived.Test.YtljcckcdmehipaaJFoldM
/- spec.l02Put at width 2 by its contract. -/
namespace Go.Proofs.Ytljcckcdmehipaa
open Go.RowKit

theorem put2_cells {n : Nat} (h : n < 65536) : Nm.bys (put2 n) = [.int .u8 ((n : Int) / 256), .int .u8 ((n : Int) % 256)] := by
  simp [Nm.bys, put2]
  omega

theorem put2_step {W wr w1 : World} {v v' : Value} {B e n : Nat} {l : List Value} {x : Value} (hB : B ≤ wr.heap.size)
    (hown : wr.ownsRow B e 1 v n l) (hbel : Below B W wr) (o : Obj) (hgrow : (wr.alloc o).grownBy w1 v.ownBlock)
    (hown' : w1.ownsRow B e 1 v' (n + 1) (l ++ [x])) :
    w1.ownsRow B e 1 v' (n + 1) (l ++ [x]) ∧ Below B W w1 := by
  refine ⟨hown', ?_⟩
  refine (hbel.alloc hB o).grown hgrow (by simp; omega) ?_
  intro k hk
  exact (hown.lt k hk).1

set_option maxRecDepth 100000 in
set_option maxHeartbeats 800000 in
theorem l02Put2_any (n : Nat) (w : World) (hn : n < 65536) :
    Calls Try.prog 50 #[.int .i64 (n : Int), .int .i64 2] w fun e w' => e = .returned (.string ⟨(put2 n).toArray⟩) ∧ Below w.heap.size w w' := by
  obtain ⟨i0, hi, hz0, hz1, hz2⟩ := info_parts Try.infoB
  have hcs := put2_cells hn
  have hn' : (n : Int) < 65536 := by omega
  go_enter Try.func50, Try.ntmps50
  go_wp2
  go_loopw [5, 6] (fun v i wr => ∃ j : Nat, j ≤ 2 ∧ i = .int .i64 (1 - (j : Int)) ∧ wr.ownsRow w.heap.size 5 1 v j ([Value.int .u8 ((n : Int) / 256), .int .u8 ((n : Int) % 256)].take j) ∧ Below w.heap.size w wr)
    (fun _ i _ => (intOf i + 1).toNat)
  case atStart => exact ⟨0, by omega, rfl, World.ownsRow_made w #[] 0 (Nat.le_refl _) (by decide) rfl, (Below.refl _ _).alloc (Nat.le_refl _) _⟩
  case round =>
    obtain ⟨j, hj, rfl, hown, hbel⟩ := hrel
    have hsz := hbel.size
    obtain rfl | rfl | rfl : j = 0 ∨ j = 1 ∨ j = 2 := by omega
    · simp only [List.take_zero, Int.sub_zero, Int.cast_ofNat_Int] at hown ⊢
      go_wp2_with (at_builtin; refine wpList_append_own _ rfl (.tmp 14) (.tmp 21) 29 rfl w.heap.size 5 i0 (.int .u8 0) 1 1 Try.underlying29 hi hz0 hz1 hz2 rfl (by decide) _ _ _ rfl (hown.alloc _) ⟨wr.heap.size, 0, none⟩ 1 1 [.int .u8 ((n : Int) / 256)] rfl rfl (cell_new1 _ _ _) (Nm.one_cell _ rfl) (by unfold maxLen; omega) (by omega) (by simp; omega) ?_)
      intro v' w1 hown' hgrow _
      have R := put2_step hsz hown hbel _ hgrow hown'
      clear hown' hgrow hown hbel
      go_wp2
      go_roundw
      case rel => exact ⟨1, by omega, by go_num, R.1, R.2⟩
      case measure => simp [intOf]
    · simp only [List.take_succ_cons, List.take_zero] at hown ⊢
      go_wp2_with (at_builtin; refine wpList_append_own _ rfl (.tmp 14) (.tmp 21) 29 rfl w.heap.size 5 i0 (.int .u8 0) 1 1 Try.underlying29 hi hz0 hz1 hz2 rfl (by decide) _ _ _ rfl (hown.alloc _) ⟨wr.heap.size, 0, none⟩ 1 1 [.int .u8 ((n : Int) % 256)] rfl rfl (cell_new1 _ _ _) (Nm.one_cell _ rfl) (by unfold maxLen; omega) (by omega) (by simp; omega) ?_)
      intro v' w1 hown' hgrow _
      have R := put2_step hsz hown hbel _ hgrow hown'
      clear hown' hgrow hown hbel
      go_wp2
      go_roundw
      case rel => exact ⟨2, by omega, by go_num, R.1, R.2⟩
      case measure => simp [intOf]
    · simp only [List.take_succ_cons, List.take_zero] at hown ⊢
      rw [← hcs] at hown
      have HC := Nm.conv_own (P := Try.prog) (src := 29) (dst := 9) Try.underlying29 Try.underlying5 Try.underlying9 hown (by omega)
      obtain ⟨g, cap, rfl, hcv⟩ := HC
      clear hown
      go_wp2
      go_ret
      exact ⟨rfl, hbel⟩
end Go.Proofs.Ytljcckcdmehipaa
/- How a message's name is written: the places of its rests. -/
namespace Go.Proofs.Ytljcckcdmehipaa
open Go.RowKit
set_option linter.unusedVariables false

def nmB (ls : List ByteArray) : ByteArray := ⟨(Nm.joinL ls).toArray⟩
theorem nmB_data (ls : List ByteArray) : (nmB ls).data.toList = Nm.joinL ls := by simp [nmB]
theorem nmB_split {s : ByteArray} {ls : List ByteArray} (h : Nm.split s = some ls) : nmB ls = s := by
  apply Nm.ba_ext
  rw [nmB_data, (Nm.split_join h).1]
theorem nmB_size (ls : List ByteArray) : (nmB ls).size = Nm.wsum ls + 1 := by
  have : (nmB ls).size = (Nm.joinL ls).length := by simp [nmB, ByteArray.size]
  rw [this, Nm.joinL_length]

abbrev Wst := List UInt8 × List (ByteArray × Nat)
/-- A name's bytes: an earlier place of a rest, or the label and the rest. -/
def nmW : List ByteArray → List UInt8 → List (ByteArray × Nat) → Wst
  | [], bs, pls => (bs ++ [0], pls)
  | l :: ls, bs, pls =>
    if 0 ≤ seenS pls (nmB (l :: ls)) then (bs ++ put2 (49152 + (seenS pls (nmB (l :: ls))).toNat), pls)
    else nmW ls (bs ++ (UInt8.ofNat l.size :: l.data.toList)) (if bs.length ≤ 16383 then pls ++ [(nmB (l :: ls), bs.length)] else pls)

def PlOK (pls : List (ByteArray × Nat)) (n : Nat) : Prop := pls.length ≤ n ∧ ∀ p ∈ pls, p.2 ≤ 16383
theorem PlOK.mono {pls : List (ByteArray × Nat)} {n m : Nat} (h : PlOK pls n) (hm : n ≤ m) : PlOK pls m := ⟨by have := h.1; omega, h.2⟩
theorem PlOK.put {pls : List (ByteArray × Nat)} {n : Nat} {p : ByteArray × Nat} (h : PlOK pls n) (hp : p.2 ≤ 16383) : PlOK (pls ++ [p]) (n + 1) := by
  refine ⟨by have := h.1; simp; omega, ?_⟩
  intro q hq
  rcases List.mem_append.1 hq with hq | hq
  · exact h.2 q hq
  · simp at hq; subst hq; exact hp
theorem seenS_lt {pls : List (ByteArray × Nat)} {n : Nat} (h : PlOK pls n) (t : ByteArray) : -1 ≤ seenS pls t ∧ seenS pls t ≤ 16383 := by
  obtain ⟨hn, h⟩ := h
  clear hn
  induction pls with
  | nil => simp [seenS]
  | cons p r ih =>
    rw [seenS]
    have h1 := h p (List.mem_cons_self ..)
    have h2 := ih (fun q hq => h q (List.mem_cons_of_mem _ hq))
    split <;> omega

theorem nmW_len : ∀ (ls : List ByteArray) (bs : List UInt8) (pls : List (ByteArray × Nat)), (∀ x ∈ ls, 1 ≤ x.size) → (nmW ls bs pls).1.length ≤ bs.length + Nm.wsum ls + 1 ∧ bs.length + 1 ≤ (nmW ls bs pls).1.length := by
  intro ls
  induction ls with
  | nil => intro bs pls h; simp [nmW, Nm.wsum]
  | cons l ls ih =>
    intro bs pls h
    have h1 := h l (List.mem_cons_self ..)
    have e : Nm.wsum (l :: ls) = 1 + l.size + Nm.wsum ls := by simp [Nm.wsum]
    rw [nmW, e]
    split
    · simp [put2]; omega
    · have := ih (bs ++ (UInt8.ofNat l.size :: l.data.toList)) (if bs.length ≤ 16383 then pls ++ [(nmB (l :: ls), bs.length)] else pls) (fun x hx => h x (List.mem_cons_of_mem _ hx))
      simp at this ⊢
      omega
theorem nmW_ok : ∀ (ls : List ByteArray) (bs : List UInt8) (pls : List (ByteArray × Nat)), PlOK pls bs.length → PlOK (nmW ls bs pls).2 (nmW ls bs pls).1.length := by
  intro ls
  induction ls with
  | nil => intro bs pls h; exact h.mono (by simp [nmW])
  | cons l ls ih =>
    intro bs pls h
    rw [nmW]
    split
    · exact h.mono (by simp)
    · apply ih
      split
      · rename_i hl
        exact (h.put (p := (nmB (l :: ls), bs.length)) hl).mono (by simp)
      · exact h.mono (by simp)

theorem nmB_ne (l : ByteArray) (ls : List ByteArray) (h : 1 ≤ l.size) : ((nmB (l :: ls)).toList == [0]) = false := by
  rw [beq_eq_false_iff_ne]
  intro e
  have := congrArg List.length e
  rw [Nm.tl_len, nmB_size] at this
  simp [Nm.wsum] at this
theorem nmB_nil : ((nmB []).toList == [0]) = true := by
  rw [ByteArray.toList_eq, nmB_data]
  rfl
theorem nmB_data_cons (l : ByteArray) (ls : List ByteArray) : (nmB (l :: ls)).data.toList = UInt8.ofNat l.size :: (l.data.toList ++ Nm.joinL ls) := by
  rw [nmB_data]; simp [Nm.joinL, Nm.preL]
theorem nmB_0 (l : ByteArray) (ls : List ByteArray) (hl : l.size ≤ 63) (h : 0 < (nmB (l :: ls)).size) : ((nmB (l :: ls))[0].toNat : Int) = (l.size : Int) := by
  have e : (nmB (l :: ls)).data.toList[0]? = some (nmB (l :: ls))[0] := Nm.get_data h
  rw [nmB_data_cons] at e
  simp at e
  rw [← e]
  simp; omega
theorem nmB_pre (l : ByteArray) (ls : List ByteArray) : ((nmB (l :: ls)).extract 0 (l.size + 1)).data.toList = UInt8.ofNat l.size :: l.data.toList := by
  rw [ByteArray.data_extract, Array.toList_extract, nmB_data_cons]
  simp [List.extract]
theorem nmB_rest (l : ByteArray) (ls : List ByteArray) : (nmB (l :: ls)).extract (l.size + 1) (nmB (l :: ls)).size = nmB ls := by
  apply Nm.ba_ext
  rw [ByteArray.data_extract, Array.toList_extract, nmB_data_cons, nmB_data, nmB_size]
  simp [List.extract, Nm.wsum]
  exact List.take_of_length_le (by rw [Nm.joinL_length]; omega)
end Go.Proofs.Ytljcckcdmehipaa
