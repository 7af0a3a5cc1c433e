/- CutFrames as mathematics. -/
import Derived.Test.YtlgeeidbclnhbaaNumM
namespace Go.Proofs.Ytlgeeidbclnhbaa
set_option linter.unusedVariables false

/-- The bytes of the first frame's length. -/
def hdN (l : List UInt8) : Nat := numL (l.take 2)

/-- The frames that are whole, what is left, and whether a frame without bytes came. -/
def cutF : Nat → List UInt8 → List (List UInt8) × List UInt8 × Bool
  | 0, l => ([], l, false)
  | k + 1, l => if l.length < 2 then ([], l, false) else if hdN l = 0 then ([], [], true) else if l.length < hdN l + 2 then ([], l, false) else
      (((l.drop 2).take (hdN l)) :: (cutF k (l.drop (hdN l + 2))).1, (cutF k (l.drop (hdN l + 2))).2)

def tot (fs : List (List UInt8)) : Nat := (fs.map List.length).sum
theorem tot_snoc (fs : List (List UInt8)) (f : List UInt8) : tot (fs ++ [f]) = tot fs + f.length := by simp [tot]

theorem hdN_lt (l : List UInt8) : hdN l < 65536 := by
  have h := numL_lt (l.take 2)
  have h2 : (l.take 2).length ≤ 2 := by simp; omega
  have h3 : (256 : Nat) ^ (l.take 2).length ≤ 256 ^ 2 := Nat.pow_le_pow_right (by omega) h2
  unfold hdN
  omega

theorem cutF_short {k : Nat} {l : List UInt8} (h : l.length < 2) : cutF k l = ([], l, false) := by
  cases k with
  | zero => rfl
  | succ k => rw [cutF, if_pos h]

theorem cutF_part {k : Nat} {l : List UInt8} (h2 : 2 ≤ l.length) (h0 : hdN l ≠ 0) (h1 : l.length < hdN l + 2) : cutF k l = ([], l, false) := by
  cases k with
  | zero => rfl
  | succ k => rw [cutF, if_neg (by omega), if_neg h0, if_pos h1]

theorem cutF_end {k : Nat} {l : List UInt8} (hk : l.length ≤ k) (h2 : 2 ≤ l.length) (h0 : hdN l = 0) : cutF k l = ([], [], true) := by
  cases k with
  | zero => omega
  | succ k => rw [cutF, if_neg (by omega), if_pos h0]

/-- fs are told, s is what comes next. -/
def FrAt (L : List UInt8) (fs : List (List UInt8)) (s : List UInt8) : Prop :=
  (∃ k, s.length ≤ k ∧ cutF L.length L = (fs ++ (cutF k s).1, (cutF k s).2)) ∧ (∀ f ∈ fs, 0 < f.length) ∧ tot fs + s.length ≤ L.length ∧ fs.length ≤ tot fs

theorem FrAt.start (L : List UInt8) : FrAt L [] L := ⟨⟨L.length, Nat.le_refl _, by simp⟩, by simp, by simp [tot], by simp⟩

theorem FrAt.step {L s : List UInt8} {fs : List (List UInt8)} (h : FrAt L fs s) (h2 : 2 ≤ s.length) (h0 : hdN s ≠ 0) (h1 : hdN s + 2 ≤ s.length) : FrAt L (fs ++ [(s.drop 2).take (hdN s)]) (s.drop (hdN s + 2)) := by
  obtain ⟨⟨k, hk, e⟩, hf, ht, hfl⟩ := h
  have hl : ((s.drop 2).take (hdN s)).length = hdN s := by simp; omega
  refine ⟨?_, ?_, ?_, ?_⟩
  · cases k with
    | zero => omega
    | succ k =>
      refine ⟨k, by simp; omega, ?_⟩
      rw [e, cutF, if_neg (by omega), if_neg h0, if_neg (by omega)]
      simp
  · intro f hm
    rcases List.mem_append.1 hm with h | h
    · exact hf f h
    · simp only [List.mem_singleton] at h
      subst h
      omega
  · rw [tot_snoc, hl, List.length_drop]
    omega
  · rw [tot_snoc, hl]
    simp
    omega

theorem FrAt.stop {L s : List UInt8} {fs : List (List UInt8)} (h : FrAt L fs s) (h2 : s.length < 2 ∨ s.length < hdN s + 2) : cutF L.length L = (fs, s, false) := by
  obtain ⟨⟨k, hk, e⟩, _⟩ := h
  rw [e]
  by_cases h3 : s.length < 2
  · rw [cutF_short h3]; simp
  · have h4 : s.length < hdN s + 2 := by omega
    rw [cutF_part (by omega) (by omega) h4]; simp

theorem FrAt.fin {L s : List UInt8} {fs : List (List UInt8)} (h : FrAt L fs s) (h2 : 2 ≤ s.length) (h0 : hdN s = 0) : cutF L.length L = (fs, [], true) := by
  obtain ⟨⟨k, hk, e⟩, _⟩ := h
  rw [e, cutF_end hk h2 h0]
  simp

/-- What CutFrames answers. -/
def cfR (a b : List UInt8) : List (List UInt8) × List UInt8 × Bool :=
  if a.length > 65537 ∨ b.length > 400000 then ([], [], false) else cutF (a ++ b).length (a ++ b)

theorem cutF_small : ∀ (k : Nat) (l : List UInt8), (∀ f ∈ (cutF k l).1, 0 < f.length) ∧ tot (cutF k l).1 + (cutF k l).2.1.length ≤ l.length
  | 0, l => by simp [cutF, tot]
  | k + 1, l => by
    rw [cutF]
    split
    · simp [tot]
    · split
      · simp [tot]
      · split
        · simp [tot]
        · obtain ⟨h1, h2⟩ := cutF_small k (l.drop (hdN l + 2))
          have hl : ((l.drop 2).take (hdN l)).length = hdN l := by simp; omega
          refine ⟨?_, ?_⟩
          · intro f hf
            rcases List.mem_cons.1 hf with rfl | hf
            · omega
            · exact h1 f hf
          · simp only [tot, List.map_cons, List.sum_cons, hl]
            rw [List.length_drop] at h2
            unfold tot at h2
            omega

theorem cfR_small (a b : List UInt8) : (∀ f ∈ (cfR a b).1, 0 < f.length) ∧ tot (cfR a b).1 + (cfR a b).2.1.length ≤ 465537 := by
  unfold cfR
  split
  · simp [tot]
  · obtain ⟨h1, h2⟩ := cutF_small (a ++ b).length (a ++ b)
    refine ⟨h1, ?_⟩
    have : (a ++ b).length = a.length + b.length := by simp
    omega

theorem len_tot {fs : List (List UInt8)} (h : ∀ f ∈ fs, 0 < f.length) : fs.length ≤ tot fs := by
  induction fs with
  | nil => simp
  | cons f fs ih =>
    have h1 := h f (by simp)
    have h2 := ih (fun g hg => h g (by simp [hg]))
    simp only [tot, List.map_cons, List.sum_cons, List.length_cons] at *
    omega
end Go.Proofs.Ytlgeeidbclnhbaa
