/- The order of names is one: mathematics. -/
import Derived.Test.YtakonfkefoeenagUnderM
namespace Go.Proofs.Ytakonfkefoeenag
open Go.RowKit

theorem cmpI_anti (a b : Int) : Nm.cmpI b a = - Nm.cmpI a b := by
  unfold Nm.cmpI
  split <;> split <;> first | omega | (split <;> omega) | skip
  all_goals simp_all <;> omega

theorem cmpI_range (a b : Int) : -1 ≤ Nm.cmpI a b ∧ Nm.cmpI a b ≤ 1 := by
  unfold Nm.cmpI
  split
  · omega
  · split <;> omega

theorem cmpI_le {a b : Int} (h : a ≠ b) : Nm.cmpI a b ≤ 0 ↔ a < b := by
  by_cases h1 : a < b
  · rw [Nm.cmpI_lt h1]; simp [h1]
  · rw [Nm.cmpI_gt (by omega)]; simp [h1]

theorem ordL_anti : ∀ (a b : List UInt8), Nm.ordL b a = - Nm.ordL a b
  | [], [] => rfl
  | [], y :: b => rfl
  | x :: a, [] => rfl
  | x :: a, y :: b => by
    by_cases h : x = y
    · subst h
      rw [Nm.ordL_same, Nm.ordL_same]
      exact ordL_anti a b
    · rw [Nm.ordL_ne a b h, Nm.ordL_ne b a (Ne.symm h)]
      exact cmpI_anti _ _

theorem ordL_range (a b : List UInt8) : -1 ≤ Nm.ordL a b ∧ Nm.ordL a b ≤ 1 := by
  unfold Nm.ordL
  split
  · omega
  · split <;> omega

theorem ordL_trans : ∀ (a b c : List UInt8), Nm.ordL a b ≤ 0 → Nm.ordL b c ≤ 0 → Nm.ordL a c ≤ 0
  | [], b, [], _, _ => by rw [Nm.ordL_nil]; decide
  | [], b, z :: c, _, _ => by rw [Nm.ordL_left]; decide
  | x :: a, [], c, h, _ => by rw [Nm.ordL_right] at h; omega
  | x :: a, y :: b, [], _, h => by rw [Nm.ordL_right] at h; omega
  | x :: a, y :: b, z :: c, h1, h2 => by
    have inj : ∀ {p q : UInt8}, p ≠ q → (p.toNat : Int) ≠ (q.toNat : Int) := fun h e => h (UInt8.toNat_inj.1 (by omega))
    by_cases hxy : x = y
    · subst hxy
      by_cases hyz : x = z
      · subst hyz
        rw [Nm.ordL_same] at h1 h2 ⊢
        exact ordL_trans a b c h1 h2
      · rw [Nm.ordL_ne _ _ hyz] at h2 ⊢
        exact h2
    · rw [Nm.ordL_ne _ _ hxy, cmpI_le (inj hxy)] at h1
      by_cases hyz : y = z
      · subst hyz
        rw [Nm.ordL_ne _ _ hxy, cmpI_le (inj hxy)]
        exact h1
      · rw [Nm.ordL_ne _ _ hyz, cmpI_le (inj hyz)] at h2
        have hxz : x ≠ z := fun e => by subst e; omega
        rw [Nm.ordL_ne _ _ hxz, cmpI_le (inj hxz)]
        omega

theorem ordS_anti (x y : ByteArray) : Nm.ordS y x = - Nm.ordS x y := ordL_anti _ _

theorem ordS_swap {x y : ByteArray} (h : Nm.ordS x y = 0) (z : ByteArray) : Nm.ordS x z = Nm.ordS y z ∧ Nm.ordS z x = Nm.ordS z y := by
  have e := (ordL_zero _ _).1 h
  unfold Nm.ordS
  rw [e]
  exact ⟨rfl, rfl⟩

theorem cmpRev_anti : ∀ (a b : List ByteArray), Nm.cmpRev b a = - Nm.cmpRev a b
  | [], [] => rfl
  | [], y :: b => rfl
  | x :: a, [] => rfl
  | x :: a, y :: b => by
    rw [Nm.cmpRev, Nm.cmpRev, ordS_anti x y]
    by_cases h : Nm.ordS x y = 0
    · rw [if_pos h, if_pos (by omega)]
      exact cmpRev_anti a b
    · rw [if_neg h, if_neg (by omega)]

theorem cmpRev_range : ∀ (a b : List ByteArray), -1 ≤ Nm.cmpRev a b ∧ Nm.cmpRev a b ≤ 1
  | [], [] => by rw [Nm.cmpRev]; decide
  | [], y :: b => by rw [Nm.cmpRev]; decide
  | x :: a, [] => by rw [Nm.cmpRev]; decide
  | x :: a, y :: b => by
    rw [Nm.cmpRev]
    split
    · exact cmpRev_range a b
    · exact ordL_range _ _

theorem cmpRev_trans : ∀ (a b c : List ByteArray), Nm.cmpRev a b ≤ 0 → Nm.cmpRev b c ≤ 0 → Nm.cmpRev a c ≤ 0
  | [], b, [], _, _ => by rw [Nm.cmpRev]; decide
  | [], b, z :: c, _, _ => by rw [Nm.cmpRev]; decide
  | x :: a, [], c, h, _ => by rw [Nm.cmpRev] at h; omega
  | x :: a, y :: b, [], _, h => by rw [Nm.cmpRev] at h; omega
  | x :: a, y :: b, z :: c, h1, h2 => by
    rw [Nm.cmpRev] at h1 h2 ⊢
    by_cases hxy : Nm.ordS x y = 0
    · rw [if_pos hxy] at h1
      rw [(ordS_swap hxy z).1]
      by_cases hyz : Nm.ordS y z = 0
      · rw [if_pos hyz] at h2 ⊢
        exact cmpRev_trans a b c h1 h2
      · rw [if_neg hyz] at h2 ⊢
        exact h2
    · rw [if_neg hxy] at h1
      by_cases hyz : Nm.ordS y z = 0
      · rw [← (ordS_swap hyz x).2, if_neg hxy]
        exact h1
      · rw [if_neg hyz] at h2
        have h3 : Nm.ordS x z ≤ 0 := ordL_trans _ _ _ h1 h2
        have hxz : Nm.ordS x z ≠ 0 := by
          intro e
          have e1 := (ordS_swap e y).1
          have e2 := ordS_anti y z
          omega
        rw [if_neg hxz]
        exact h3

theorem cmpLs_anti (a b : List ByteArray) : Nm.cmpLs b a = - Nm.cmpLs a b := cmpRev_anti _ _
theorem cmpLs_range (a b : List ByteArray) : -1 ≤ Nm.cmpLs a b ∧ Nm.cmpLs a b ≤ 1 := cmpRev_range _ _
theorem cmpLs_trans {a b c : List ByteArray} (h1 : Nm.cmpLs a b ≤ 0) (h2 : Nm.cmpLs b c ≤ 0) : Nm.cmpLs a c ≤ 0 := cmpRev_trans _ _ _ h1 h2
theorem cmpLs_trans' {a b c : List ByteArray} (h1 : 0 ≤ Nm.cmpLs a b) (h2 : 0 ≤ Nm.cmpLs b c) : 0 ≤ Nm.cmpLs a c := by
  have e1 := cmpLs_anti a b
  have e2 := cmpLs_anti b c
  have e3 := cmpLs_anti a c
  have := cmpLs_trans (a := c) (b := b) (c := a) (by omega) (by omega)
  omega

theorem cmpRev_snoc : ∀ (a : List ByteArray) (x : ByteArray), Nm.cmpRev a (a ++ [x]) = -1
  | [], x => rfl
  | y :: a, x => by
    have h0 : Nm.ordS y y = 0 := (ordL_zero _ _).2 rfl
    rw [List.cons_append, Nm.cmpRev, if_pos h0]
    exact cmpRev_snoc a x

theorem cmpLs_up (x : ByteArray) (t : List ByteArray) : Nm.cmpLs t (x :: t) = -1 := by
  unfold Nm.cmpLs
  rw [List.reverse_cons]
  exact cmpRev_snoc _ _

theorem under_up (x : ByteArray) (t : List ByteArray) : underB (x :: t) t = true ∧ underB t (x :: t) = false := by
  constructor
  · have e : (x :: t).drop ((x :: t).length - t.length) = t := by
      rw [show (x :: t).length - t.length = 1 by simp]
      rfl
    have h0 : Nm.cmpLs t t = 0 := (cmpLs_zero t t).2 rfl
    unfold underB
    rw [e, h0]
    simp
  · unfold underB
    rw [show decide ((x :: t).length ≤ t.length) = false by simp]
    rfl

theorem same_cmp {a b : ByteArray} {xs ys : List ByteArray} (ha : Nm.split a = some xs) (hb : Nm.split b = some ys) : sameS a b = decide (Nm.cmpLs xs ys = 0) := by
  have ja := Nm.split_join ha
  have wa := Nm.split_size ha
  have h1 := ord_join ja.2 (by omega) hb
  have ea : (⟨(Nm.joinL xs).toArray⟩ : ByteArray) = a := by
    apply ByteArray.ext
    apply Array.toList_inj.1
    simpa using ja.1
  rw [same_some ha hb]
  rw [ea] at h1
  simp only [h1]
end Go.Proofs.Ytakonfkefoeenag
