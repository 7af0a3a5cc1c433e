import Derived.Test.YtihhchebcojplaaJShowM
import Derived.Test.YtihhchebcojplaaJMath
import Derived.Test.YtihhchebcojplaaJDataM
import Derived.Test.YtihhchebcojplaaRows
import Derived.WalkSpells
import Derived.WalkLawsBesides
import Derived.RegionTactic
import Derived.ChangeAlike
import Derived.BigRegion
/- spec.l02Type by its contract. -/
namespace Go.Proofs.Ytihhchebcojplaa
open Go.RowKit
set_option linter.unusedVariables false

/-- The types that are drawn. -/
def drTs : List Nat := [1, 2, 5, 6, 12, 13, 15, 16, 28, 33, 35, 39, 47, 257, 1, 2, 15, 28, 99, 65280]
theorem drTs_ok {t : Nat} (h : t ∈ drTs) : 1 ≤ t ∧ t < 65536 := by
  simp [drTs] at h
  omega

set_option maxRecDepth 100000 in
set_option maxHeartbeats 1600000 in
theorem l02Type_any (g : Nat) (a : Option Addr) (n cap : Nat) (w : World) (h : Src w g a n cap) :
    Calls Try.prog 27 #[.pointer (some ⟨g, 0, none⟩)] w fun e w' => ∃ t : Nat, e = .returned (.int .i64 (t : Int)) ∧ t ∈ drTs ∧ Src w' g a n cap ∧ w.grownBy w' (some g) := by
  obtain ⟨hcode, hglt⟩ := src_code h
  have hk := blk_new w #[.int .i64 1, .int .i64 2, .int .i64 5, .int .i64 6, .int .i64 12, .int .i64 13, .int .i64 15, .int .i64 16, .int .i64 28, .int .i64 33, .int .i64 35, .int .i64 39, .int .i64 47, .int .i64 257, .int .i64 1, .int .i64 2, .int .i64 15, .int .i64 28, .int .i64 99, .int .i64 65280] 2
  have hA : w.grownBy (w.alloc (.cells #[.int .i64 1, .int .i64 2, .int .i64 5, .int .i64 6, .int .i64 12, .int .i64 13, .int .i64 15, .int .i64 16, .int .i64 28, .int .i64 33, .int .i64 35, .int .i64 39, .int .i64 47, .int .i64 257, .int .i64 1, .int .i64 2, .int .i64 15, .int .i64 28, .int .i64 99, .int .i64 65280] 2)) (some g) := grown_alloc (World.grownBy.refl _ _) _
  have hS := src_below h ((Below.refl _ _).alloc (Nat.le_refl _) (.cells #[.int .i64 1, .int .i64 2, .int .i64 5, .int .i64 6, .int .i64 12, .int .i64 13, .int .i64 15, .int .i64 16, .int .i64 28, .int .i64 33, .int .i64 35, .int .i64 39, .int .i64 47, .int .i64 257, .int .i64 1, .int .i64 2, .int .i64 15, .int .i64 28, .int .i64 99, .int .i64 65280] 2))
  go_enter Try.func27, Try.ntmps27
  go_wp2_with (
    go_at_call 12
    refine (l01Next_any g a n cap 20 _ hS (by decide)).mono ?_
    rintro e w1 ⟨r, rfl, hr0, hr1, hsrc1, hgr1⟩
    have hr2 := hr1 (by decide)
    obtain ⟨i, rfl⟩ := Int.eq_ofNat_of_zero_le hr0
    have hi : i < 20 := by omega
    obtain ⟨t, ht⟩ : ∃ t, drTs[i]? = some t := ⟨_, List.getElem?_eq_getElem (by simpa [drTs] using hi)⟩
    have hk1 := blk_grown hk hgr1 (by intro e; cases e; omega)
    have hc1 : w1.cell? ⟨w.heap.size, i, none⟩ = some (.int .i64 (t : Int)) := by
      rw [blk_cell hk1 i]
      have e : #[.int .i64 1, .int .i64 2, .int .i64 5, .int .i64 6, .int .i64 12, .int .i64 13, .int .i64 15, .int .i64 16, .int .i64 28, .int .i64 33, .int .i64 35, .int .i64 39, .int .i64 47, .int .i64 257, .int .i64 1, .int .i64 2, .int .i64 15, .int .i64 28, .int .i64 99, .int .i64 65280] = (drTs.map (fun t : Nat => Value.int .i64 (t : Int))).toArray := rfl
      rw [e, List.getElem?_toArray, List.getElem?_map, ht]
      rfl
    clear hr1 hk hk1)
  go_ret
  exact ⟨t, rfl, List.mem_of_getElem? ht, hsrc1, grown_step hA hgr1⟩
end Go.Proofs.Ytihhchebcojplaa
/- Data that is drawn has its form: mathematics. -/
namespace Go.Proofs.Ytihhchebcojplaa
open Go.RowKit
set_option linter.unusedVariables false

/-- Letters and what was drawn for them. -/
def LOK : List UInt8 → List ByteArray → Prop
  | [], [] => True
  | c :: cs, x :: xs => ((c = 110 → (Nm.split x).isSome = true) ∧ (c = 98 → x.size = 1)) ∧ LOK cs xs
  | _, _ => False
theorem LOK.snoc : ∀ {cs : List UInt8} {xs : List ByteArray} {c : UInt8} {x : ByteArray}, LOK cs xs → (c = 110 → (Nm.split x).isSome = true) → (c = 98 → x.size = 1) → LOK (cs ++ [c]) (xs ++ [x]) := by
  intro cs
  induction cs with
  | nil =>
    intro xs c x h h1 h2
    cases xs with
    | nil => exact ⟨⟨h1, h2⟩, trivial⟩
    | cons y ys => exact absurd h (by simp [LOK])
  | cons d cs ih =>
    intro xs c x h h1 h2
    cases xs with
    | nil => exact absurd h (by simp [LOK])
    | cons y ys => exact ⟨h.1, ih h.2 h1 h2⟩
theorem cat_cons (x : ByteArray) (xs : List ByteArray) : bA (Dt.catL (x :: xs)) = x ++ bA (Dt.catL xs) := by
  apply Nm.ba_ext
  simp [bA, Dt.catL]
theorem cat_snoc (xs : List ByteArray) (x : ByteArray) : bA (Dt.catL (xs ++ [x])) = bA (Dt.catL xs) ++ x := by
  apply Nm.ba_ext
  simp [bA, Dt.catL]
theorem rest_of (x r : ByteArray) : (x ++ r).extract x.size (x ++ r).size = r := by
  apply Nm.ba_ext
  rw [ex_list, ByteArray.data_append, Array.toList_append, List.drop_left' (by simp), ByteArray.size_append, Nat.add_sub_cancel_left, List.take_of_length_le (by simp)]
theorem head_of (x r : ByteArray) : (x ++ r).extract 0 x.size = x := by
  apply Nm.ba_ext
  rw [ex_list, ByteArray.data_append, Array.toList_append, List.drop_zero, Nat.sub_zero, List.take_left' (by simp)]
theorem parts_drawn : ∀ (cs : List UInt8) (xs : List ByteArray), LOK cs xs → (∀ c ∈ cs, c = 110 ∨ c = 98) → Dt.parts (cs.map Dt.letP) (bA (Dt.catL xs)) = some xs := by
  intro cs
  induction cs with
  | nil =>
    intro xs h hc
    cases xs with
    | nil => rfl
    | cons y ys => exact absurd h (by simp [LOK])
  | cons c cs ih =>
    intro xs h hc
    cases xs with
    | nil => exact absurd h (by simp [LOK])
    | cons x xs =>
      obtain ⟨⟨h1, h2⟩, h3⟩ := h
      have hi := ih xs h3 (fun d hd => hc d (List.mem_cons_of_mem _ hd))
      have hsz : Dt.sz (Dt.letP c) (x ++ bA (Dt.catL xs)) = some x.size := by
        rcases hc c (List.mem_cons_self ..) with rfl | rfl
        · have hs := h1 rfl
          have hz : x.size ≠ 0 := by obtain ⟨k1, k2⟩ := (Dt.name_iff x).1 hs; omega
          show Dt.sz .nm _ = _
          rw [Dt.sz, nameAt_app hs, if_neg hz]
        · have hs := h2 rfl
          show Dt.sz (.bs 1) _ = _
          rw [Dt.sz, if_pos (by rw [ByteArray.size_append]; omega), hs]
      rw [List.map_cons, Dt.parts, cat_cons, hsz]
      simp only
      rw [rest_of, hi, head_of]
      rfl
theorem form_pointed {t : Nat} (h : pointed t) : ∀ c ∈ (Dt.formS t).data.toList, c = 110 ∨ c = 98 := by
  rcases h with rfl | rfl | rfl | rfl | rfl <;> decide
/-- How many bytes are drawn for a letter at most. -/
def letW (c : UInt8) : Nat := if c = 109 then 8704 else 800
def wtL (cs : List UInt8) : Nat := (cs.map letW).sum
theorem wtL_snoc (cs : List UInt8) (c : UInt8) : wtL (cs ++ [c]) = wtL cs + letW c := by simp [wtL]
theorem form_wt {t : Nat} (h : t ∈ drTs) : wtL (Dt.formS t).data.toList ≤ 60000 := by
  simp only [drTs, List.mem_cons, List.not_mem_nil, or_false] at h
  rcases h with rfl | rfl | rfl | rfl | rfl | rfl | rfl | rfl | rfl | rfl | rfl | rfl | rfl | rfl | rfl | rfl | rfl | rfl | rfl | rfl <;> decide
theorem code_drawn {t : Nat} {xs : List ByteArray} (ht : t ∈ drTs) (hp : pointed t) (h : LOK (Dt.formS t).data.toList xs) (hz : (bA (Dt.catL xs)).size ≤ 65535) : cutCode t (bA (Dt.catL xs)) = 0 := by
  have hpt := parts_drawn _ xs h (form_pointed hp)
  have hr := drTs_ok ht
  exact (code_some (by omega) (by omega) (by rw [← Dt.forms_agree, Dt.spans_of_parts, Dt.specP, hpt]; rfl)).1
end Go.Proofs.Ytihhchebcojplaa
/- string([]byte{c}), and small things. -/
namespace Go.Proofs.Ytihhchebcojplaa
open Go.RowKit

theorem conv_one (n : Int) (W : World) :
    (convert 22 9 (.slice (some ⟨W.heap.size, 0, none⟩) 1 1)).run Try.prog (W.alloc (.cells #[.int .u8 n] 5)) = .ok (.string ⟨#[UInt8.ofNat n.toNat]⟩) (W.alloc (.cells #[.int .u8 n] 5)) := by
  rw [run_convert_bytes_string _ 22 9 5 _ _ _ Try.underlying22 Try.underlying5 Try.underlying9]
  have hl := run_loadCells_list (P := Try.prog) (W.alloc (.cells #[.int .u8 n] 5)) ⟨W.heap.size, 0, none⟩ ([n].map (Value.int .u8)) (fun j v hj => cell_one_new W (.int .u8 n) 5 j v hj)
  rw [run_bytesToString _ _ 1 1 [n] hl]
  rfl

theorem conv_one_drew (n : Int) (W : World) :
    (convert 22 9 (.slice (some ⟨W.heap.size, 0, none⟩) 1 1)).run Try.prog (W.alloc (.cells #[.int .u8 n] 5)).drew = .ok (.string ⟨#[UInt8.ofNat n.toNat]⟩) (W.alloc (.cells #[.int .u8 n] 5)).drew :=
  conv_one n W.drew

theorem ret_str {a b : ByteArray} (h : a = b) : Ending.returned (.string a) = .returned (.string b) := by rw [h]

theorem byte_mod (n : Nat) : UInt8.ofNat (n % 256) = UInt8.ofNat n := by
  apply UInt8.toNat_inj.1
  simp

theorem ba_ext {a b : ByteArray} (h : a.data.toList = b.data.toList) : a = b := by
  apply ByteArray.ext
  exact Array.toList_inj.1 h

theorem size_list (s : ByteArray) : s.data.toList.length = s.size := by simp

end Go.Proofs.Ytihhchebcojplaa
