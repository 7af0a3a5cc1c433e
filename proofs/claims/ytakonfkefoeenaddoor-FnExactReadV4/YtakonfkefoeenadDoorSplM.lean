/- A text cut at every byte of one value: the model's way and the library's. -/
import Derived.Test.YtakonfkefoeenadDoorCutBM
import Derived.Test.YtakonfkefoeenadDoorFoldM
import Derived.Lib.Split
import Derived.Lib.IndexMore
namespace Go.Proofs.YtakonfkefoeenadDoor
open Go.RowKit

def cutP (c : UInt8) : List UInt8 → List (List UInt8)
  | [] => [[]]
  | x :: r => if x = c then [] :: cutP c r else match cutP c r with
    | [] => [[x]]
    | h :: t => (x :: h) :: t

theorem cutP_ne (c : UInt8) (l : List UInt8) : ∃ h t, cutP c l = h :: t := by
  cases l with
  | nil => exact ⟨_, _, rfl⟩
  | cons x r =>
    rw [cutP]
    split
    · exact ⟨_, _, rfl⟩
    · split <;> exact ⟨_, _, rfl⟩
theorem cutP_miss {c : UInt8} : ∀ {l : List UInt8}, c ∉ l → cutP c l = [l] := by
  intro l
  induction l with
  | nil => intro _; rfl
  | cons x r ih =>
    intro h
    simp only [List.mem_cons, not_or] at h
    rw [cutP, if_neg (fun e => h.1 e.symm), ih h.2]
theorem cutP_hit {c : UInt8} {b : List UInt8} : ∀ {a : List UInt8}, c ∉ a → cutP c (a ++ c :: b) = a :: cutP c b := by
  intro a
  induction a with
  | nil => intro _; rw [List.nil_append, cutP, if_pos rfl]
  | cons x r ih =>
    intro h
    simp only [List.mem_cons, not_or] at h
    rw [List.cons_append, cutP, if_neg (fun e => h.1 e.symm), ih h.2]

theorem occ_one {l : List UInt8} {c : UInt8} {j : Nat} : Lib.occAt l [c] j = true ↔ l[j]? = some c := by
  unfold Lib.occAt
  cases hd : l.drop j with
  | nil =>
    have : l.length ≤ j := List.drop_eq_nil_iff.1 hd
    simp [List.getElem?_eq_none this]
  | cons x r =>
    have hx : l[j]? = some x := by
      have := congrArg (fun l => l[0]?) hd
      simpa [List.getElem?_drop] using this
    rw [hx]
    simp [List.isPrefixOf]
    exact eq_comm
theorem index_cases (l : List UInt8) (c : UInt8) : (Lib.index l [c] = -1 ∧ c ∉ l) ∨ ∃ i : Nat, Lib.index l [c] = i ∧ l = l.take i ++ c :: l.drop (i + 1) ∧ c ∉ l.take i := by
  rcases Lib.index_spec l [c] with ⟨h, hn⟩ | ⟨i, h, hi, ho, hno⟩
  · refine .inl ⟨h, fun hm => ?_⟩
    obtain ⟨j, hj⟩ := List.getElem?_of_mem hm
    have hjl : j < l.length := (List.getElem?_eq_some_iff.1 hj).1
    have := hn j (by omega)
    rw [occ_one.2 hj] at this
    cases this
  · refine .inr ⟨i, h, ?_, fun hm => ?_⟩
    · have hx := occ_one.1 ho
      obtain ⟨hl, hx⟩ := List.getElem?_eq_some_iff.1 hx
      have h2 := List.drop_eq_getElem_cons hl
      rw [hx] at h2
      rw [← h2, List.take_append_drop]
    · obtain ⟨j, hj⟩ := List.getElem?_of_mem hm
      rw [List.getElem?_take] at hj
      by_cases hji : j < i
      · rw [if_pos hji] at hj
        have := hno j hji
        rw [occ_one.2 hj] at this
        cases this
      · rw [if_neg hji] at hj; cases hj

theorem split_cutP (c : UInt8) : ∀ (k : Nat) (l : List UInt8), (Lib.splitK [c] 0 k l).length = min (k + 1) (cutP c l).length ∧ ((cutP c l).length ≤ k + 1 → Lib.splitK [c] 0 k l = cutP c l) := by
  intro k
  induction k with
  | zero =>
    intro l
    obtain ⟨h, t, e⟩ := cutP_ne c l
    rcases index_cases l c with ⟨_, hm⟩ | ⟨i, _, hl, hm⟩
    · rw [cutP_miss hm]; simp [Lib.splitK]
    · have e2 := cutP_hit (b := l.drop (i + 1)) hm
      rw [← hl] at e2
      obtain ⟨h', t', e'⟩ := cutP_ne c (l.drop (i + 1))
      rw [e2, e']
      simp [Lib.splitK]
  | succ k ih =>
    intro l
    rcases index_cases l c with ⟨hx, hm⟩ | ⟨i, hx, hl, hm⟩
    · rw [cutP_miss hm, Lib.splitK, if_pos (by rw [hx]; rfl)]
      simp
    · have e2 := cutP_hit (b := l.drop (i + 1)) hm
      rw [← hl] at e2
      have hne : ¬ (Lib.index l [c] == -1) = true := by
        rw [hx, beq_iff_eq]; omega
      rw [e2, Lib.splitK, if_neg hne, hx]
      simp only [Int.toNat_natCast, Nat.add_zero, List.length_cons, List.length_nil]
      have := ih (l.drop (i + 1))
      refine ⟨by rw [this.1]; omega, fun h => ?_⟩
      rw [this.2 (by omega)]
theorem count_cutP (c : UInt8) : ∀ (n : Nat) (l : List UInt8), l.length ≤ n → Lib.count l [c] + 1 = (cutP c l).length := by
  intro n
  induction n with
  | zero =>
    intro l h
    have : l = [] := List.length_eq_zero_iff.1 (by omega)
    subst this
    rw [Lib.count_miss (by rfl)]; rfl
  | succ n ih =>
    intro l h
    rcases index_cases l c with ⟨hx, hm⟩ | ⟨i, hx, hl, hm⟩
    · rw [cutP_miss hm, Lib.count_miss hx]; rfl
    · have e2 := cutP_hit (b := l.drop (i + 1)) hm
      rw [← hl] at e2
      have hlen : (l.drop (i + 1)).length ≤ n := by
        have := congrArg List.length hl
        simp at this ⊢
        omega
      have hi := ih _ hlen
      rw [e2, Lib.count_hit (by simp) hx]
      simp only [List.length_cons, List.length_nil, Nat.zero_add]
      omega

/-- The model's cutting is that one. -/
theorem cutF_data (s : ByteArray) (c : UInt8) : ∀ (f i a : Nat), a ≤ i → i ≤ s.size → f = s.size - i →
    ∃ h t, cutP c (s.data.toList.drop i) = h :: t ∧ (cutF s c f i a).map (·.data.toList) = ((s.data.toList.take i).drop a ++ h) :: t := by
  intro f
  induction f with
  | zero =>
    intro i a ha hi hf
    have hd : s.data.toList.drop i = [] := List.drop_eq_nil_of_le (by simp; omega)
    refine ⟨[], [], by rw [hd]; rfl, ?_⟩
    have : i = s.size := by omega
    subst this
    simp [cutF, List.extract_eq_take_drop]
    rw [List.take_of_length_le (by simp), List.take_of_length_le (by simp)]
  | succ f ih =>
    intro i a ha hi hf
    have hlt : i < s.size := by omega
    have hd : s.data.toList.drop i = s[i] :: s.data.toList.drop (i + 1) := by
      rw [List.drop_eq_getElem_cons (by simpa using hlt)]; rfl
    have ht : s.data.toList.take (i + 1) = s.data.toList.take i ++ [s[i]] := Nm.take_step (Nm.get_data hlt)
    rw [cutF, dif_pos hlt, hd]
    by_cases e : s[i].toNat = c.toNat
    · have ec : s[i] = c := UInt8.toNat_inj.1 e
      rw [if_pos e]
      obtain ⟨h, t, h1, h2⟩ := ih (i + 1) (i + 1) (Nat.le_refl _) (by omega) (by omega)
      refine ⟨[], h :: t, by rw [cutP, if_pos ec, h1], ?_⟩
      rw [List.map_cons, h2, List.drop_eq_nil_of_le (by simp; omega), List.nil_append, List.append_nil]
      congr 1
      simp [List.extract_eq_take_drop, List.drop_take]
    · have ec : ¬ s[i] = c := fun h => e (by rw [h])
      rw [if_neg e]
      obtain ⟨h, t, h1, h2⟩ := ih (i + 1) a (by omega) (by omega) (by omega)
      refine ⟨s[i] :: h, t, by rw [cutP, if_neg ec, h1], ?_⟩
      rw [h2, ht, List.drop_append_of_le_length (by simp; omega)]
      simp
theorem cutB_data (s : ByteArray) (c : UInt8) : (cutB s c).map (·.data.toList) = cutP c s.data.toList := by
  obtain ⟨h, t, h1, h2⟩ := cutF_data s c s.size 0 0 (Nat.le_refl _) (Nat.zero_le _) rfl
  rw [List.drop_zero] at h1
  rw [cutB, h2, h1]
  simp

theorem data_inj : ∀ {a b : List ByteArray}, a.map (·.data.toList) = b.map (·.data.toList) → a = b := by
  intro a
  induction a with
  | nil => intro b h; cases b with
    | nil => rfl
    | cons => simp at h
  | cons x r ih => intro b h; cases b with
    | nil => simp at h
    | cons y t =>
      simp only [List.map_cons, List.cons.injEq] at h
      rw [Nm.ba_ext h.1, ih h.2]

theorem cutB_len (s : ByteArray) (c : UInt8) : (cutB s c).length = (cutP c s.data.toList).length := by rw [← cutB_data, List.length_map]
theorem splitB_len (s : ByteArray) (c : UInt8) (k : Nat) : (Lib.splitB ⟨#[c]⟩ 0 k s).length = min (k + 1) (cutB s c).length := by
  have h := congrArg List.length (Lib.splitB_data ⟨#[c]⟩ 0 k s)
  rw [List.length_map] at h
  rw [h, cutB_len]
  exact (split_cutP c k s.data.toList).1
theorem splitB_cut {s : ByteArray} {c : UInt8} {k : Nat} (h : (cutB s c).length ≤ k + 1) : Lib.splitB ⟨#[c]⟩ 0 k s = cutB s c := by
  apply data_inj
  rw [Lib.splitB_data, cutB_data]
  rw [cutB_len] at h
  exact (split_cutP c k s.data.toList).2 h
theorem count_cut (s : ByteArray) (c : UInt8) : Lib.countB s ⟨#[c]⟩ + 1 = (cutB s c).length := by
  rw [cutB_len]
  exact count_cutP c _ s.data.toList (Nat.le_refl _)
theorem cutP_le (c : UInt8) : ∀ l : List UInt8, (cutP c l).length ≤ l.length + 1 := by
  intro l
  induction l with
  | nil => simp [cutP]
  | cons x r ih =>
    rw [cutP]
    split
    · simp; omega
    · split
      · simp
      · rename_i h t e; rw [e] at ih; simp at ih ⊢; omega
theorem cutB_le (s : ByteArray) (c : UInt8) : (cutB s c).length ≤ s.size + 1 := by
  rw [cutB_len]
  have := cutP_le c s.data.toList
  simpa using this
end Go.Proofs.YtakonfkefoeenadDoor
