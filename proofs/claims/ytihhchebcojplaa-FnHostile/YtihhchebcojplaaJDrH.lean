import Derived.Test.YtihhchebcojplaaJDrT
import Derived.Test.YtihhchebcojplaaJSrc
import Derived.Test.YtihhchebcojplaaJMath
/- spec.l02Short by its contract. -/
namespace Go.Proofs.Ytihhchebcojplaa
open Go.RowKit
set_option linter.unusedVariables false

theorem one_cat (c : UInt8) (B : ByteArray) (h : B.size ≤ 256) : 1 ≤ ((⟨#[c]⟩ : ByteArray) ++ B).size ∧ ((⟨#[c]⟩ : ByteArray) ++ B).size ≤ 257 := by
  rw [ByteArray.size_append]
  have : (⟨#[c]⟩ : ByteArray).size = 1 := rfl
  omega
theorem ext_256 (B : ByteArray) (k : Nat) (h : B.size ≤ 256) : (B.extract 0 k).size ≤ 256 := by
  rw [ByteArray.size_extract]
  omega

set_option maxRecDepth 100000 in
set_option maxHeartbeats 1600000 in
theorem l02Short_any (g : Nat) (a : Option Addr) (n cap : Nat) (w : World) (h : Src w g a n cap) :
    Calls Try.prog 73 #[.pointer (some ⟨g, 0, none⟩), .int .i64 255] w fun e w' => ∃ s : ByteArray, e = .returned (.string s) ∧ 1 ≤ s.size ∧ s.size ≤ 257 ∧ Src w' g a n cap ∧ w.grownBy w' (some g) := by
  have hcv := fun (x : Int) (W : World) => conv_one x W
  have hs1 : ∀ c : UInt8, (ByteArray.mk #[c]).size = 1 := fun _ => rfl
  go_enter Try.func73, Try.ntmps73
  go_wp2_with fail
  refine (l01Next_any g a n cap 9 _ h (by decide)).mono ?_
  rintro e w1 ⟨r1, rfl, h10, h11, hs1', hg1⟩
  have h12 := h11 (by decide)
  go_wp2_with fail
  refine (l01Next_any g a n cap 25 _ hs1' (by decide)).mono ?_
  rintro e w2 ⟨r2, rfl, h20, h21, hs2', hg2⟩
  have hgg2 := grown_step hg1 hg2
  clear h h11 h21
  by_cases h2 : r2 = 0
  · subst h2
    go_wp2_with fail
    refine (l01Next_any g a n cap 256 _ hs2' (by decide)).mono ?_
    rintro e w3 ⟨r, rfl, hr0, hr1, hsN, hg3⟩
    have hr2 := hr1 (by decide)
    have hgN := grown_step hgg2 hg3
    clear hr1
    go_wp2_with first
      | (
        go_at_call 51
        refine (l01Bytes_any g a n cap r _ hsN (by omega) (by omega)).mono ?_
        rintro e w4 ⟨T0, rfl, hT0, hs4, hg4⟩
        have hgg4 := grown_step hgN hg4)
      | (
        go_at_call 12
        refine (l01Next_any g a n cap 2 _ hs4 (by decide)).mono ?_
        rintro e w5 ⟨r3, rfl, h30, h31, hsE, hg5⟩
        have hgE := grown_step hgg4 hg5)
    · go_ret
      refine ⟨_, rfl, (one_cat _ _ (ext_256 _ _ (by decide))).1, (one_cat _ _ (ext_256 _ _ (by decide))).2, src_below hsE ((Below.refl _ _).alloc (Nat.le_refl _) _), grown_alloc hgE _⟩
    · go_ret
      refine ⟨_, rfl, (one_cat _ _ (by omega)).1, (one_cat _ _ (by omega)).2, src_below hsE ((Below.refl _ _).alloc (Nat.le_refl _) _), grown_alloc hgE _⟩
  · have h2' : (r2 == 0) = false := by rw [beq_eq_false_iff_ne]; exact h2
    have hsN := hs2'
    have hgN := hgg2
    have hr0 := h10
    have hr2 : r1 < 256 := by omega
    go_wp2_with first
      | (
        go_at_call 51
        refine (l01Bytes_any g a n cap r1 _ hsN (by omega) (by omega)).mono ?_
        rintro e w4 ⟨T0, rfl, hT0, hs4, hg4⟩
        have hgg4 := grown_step hgN hg4)
      | (
        go_at_call 12
        refine (l01Next_any g a n cap 2 _ hs4 (by decide)).mono ?_
        rintro e w5 ⟨r3, rfl, h30, h31, hsE, hg5⟩
        have hgE := grown_step hgg4 hg5)
    · go_ret
      refine ⟨_, rfl, (one_cat _ _ (ext_256 _ _ (by decide))).1, (one_cat _ _ (ext_256 _ _ (by decide))).2, src_below hsE ((Below.refl _ _).alloc (Nat.le_refl _) _), grown_alloc hgE _⟩
    · go_ret
      refine ⟨_, rfl, (one_cat _ _ (by omega)).1, (one_cat _ _ (by omega)).2, src_below hsE ((Below.refl _ _).alloc (Nat.le_refl _) _), grown_alloc hgE _⟩
end Go.Proofs.Ytihhchebcojplaa
/- Strings that are drawn, one behind the other. -/
namespace Go.Proofs.Ytihhchebcojplaa
open Go.RowKit

theorem mkj_size (ls : List ByteArray) : (⟨(Nm.joinL ls).toArray⟩ : ByteArray).size = Nm.wsum ls + 1 := by
  rw [mk_size, Nm.joinL_length]

theorem wsum_snoc (ls : List ByteArray) (x : ByteArray) : Nm.wsum (ls ++ [x]) = Nm.wsum ls + (1 + x.size) := by
  rw [Nm.wsum_append]; simp [Nm.wsum]

/-- What an append of one string onto a row of the call's own leaves, beside a source. -/
theorem str_step {w w3 wb : World} {g n cap e : Nat} {a : Option Addr} {v vb : Value} {ls : List ByteArray} {x : ByteArray} {o : Obj}
    (hown : w3.ownsRow w.heap.size e 1 v ls.length (ls.map Value.string)) (hsrc : Src w3 g a n cap) (hg : w.grownBy w3 (some g)) (hlt : g < w.heap.size) (hcode : CodeAt w g a n)
    (hown' : wb.ownsRow w.heap.size e 1 vb (ls.length + 1) (ls.map Value.string ++ [.string x])) (hgrow : (w3.alloc o).grownBy wb v.ownBlock) :
    wb.ownsRow w.heap.size e 1 vb (ls ++ [x]).length ((ls ++ [x]).map Value.string) ∧ Src wb g a n cap ∧ w.grownBy wb (some g) := by
  have hrow : ∀ q, v.ownBlock = some q → w.heap.size ≤ q := fun q hq => (hown.lt q hq).1
  exact ⟨by simpa using hown', src_grown (src_below hsrc ((Below.refl _ _).alloc (Nat.le_refl _) _)) hgrow hrow hlt hcode, grown_own (grown_alloc hg _) hgrow hrow⟩
end Go.Proofs.Ytihhchebcojplaa
