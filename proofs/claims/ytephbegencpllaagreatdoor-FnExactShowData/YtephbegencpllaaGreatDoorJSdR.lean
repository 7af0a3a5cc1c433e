import Derived.Test.YtephbegencpllaaGreatDoorJSdS
import Derived.Test.YtephbegencpllaaGreatDoorISd
import Derived.Test.YtephbegencpllaaGreatDoorJData1
/- The model's words of data: what l03Shown makes of a part, in one form; mathematics of joined words. -/
namespace Go.Proofs.YtephbegencpllaaGreatDoor
open Go.RowKit
set_option linter.unusedVariables false

theorem joinS_more (a : List ByteArray) (x y : ByteArray) : joinS (a ++ [x ++ ⟨#[32]⟩ ++ y]) = joinS (a ++ [x, y]) := by
  have e : a ++ [x, y] = (a ++ [x]) ++ [y] := by simp
  rw [e, joinS_snoc y (by simp)]
  rcases Nat.eq_zero_or_pos a.length with h | h
  · have : a = [] := List.eq_nil_of_length_eq_zero h
    subst this
    simp only [List.nil_append]
    rw [joinS_one, joinS_one]
  · have hne : a ≠ [] := fun e => by subst e; simp at h
    rw [joinS_snoc _ hne, joinS_snoc _ hne]
    apply ba_ext
    simp [ByteArray.data_append]

/-- A word that is itself words with blanks between them. -/
theorem joinS_flat (a m : List ByteArray) (h : m ≠ []) : joinS (a ++ [joinS m]) = joinS (a ++ m) := by
  obtain ⟨x, r, rfl⟩ := List.exists_cons_of_ne_nil h
  clear h
  obtain ⟨n, hn⟩ : ∃ n, n = r.length := ⟨_, rfl⟩
  induction n generalizing r with
  | zero =>
    have : r = [] := List.eq_nil_of_length_eq_zero hn.symm
    subst this
    rw [joinS_one]
  | succ n ih =>
    have hr : r ≠ [] := fun e => by subst e; simp at hn
    obtain ⟨r', y, rfl⟩ : ∃ r' y, r = r' ++ [y] := ⟨r.dropLast, r.getLast hr, (List.dropLast_concat_getLast hr).symm⟩
    have hl : n = r'.length := by simp at hn; omega
    have e1 : x :: (r' ++ [y]) = (x :: r') ++ [y] := rfl
    have e2 : a ++ [joinS (x :: r'), y] = (a ++ [joinS (x :: r')]) ++ [y] := by simp
    have e3 : a ++ ((x :: r') ++ [y]) = (a ++ (x :: r')) ++ [y] := by simp
    rw [e1, joinS_snoc y (by simp), joinS_more, e2, joinS_snoc y (by simp), ih r' hl, e3, joinS_snoc y (by simp)]

/-- What l03Shown makes of a part. -/
def Sh (c : UInt8) (p X : ByteArray) : Prop := p.size ≤ 65535 ∧ ((c = 110 ∧ X = (Nm.showS p).1) ∨ (c = 116 ∧ 1 ≤ p.size ∧ X = showTextS (p.extract 1 p.size)) ∨ (c = 115 ∧ okMany p.size p ∧ X = joinS (manyT p.size p)) ∨ (c = 99 ∧ 0 < p.size ∧ 1 + b0 p ≤ p.size ∧ X = p.extract 1 (1 + b0 p) ++ ⟨#[32]⟩ ++ showTextS (p.extract (1 + b0 p) p.size)))

theorem l03Shown_any {c : UInt8} {p X : ByteArray} (h : Sh c p X) (w : World) : Calls Tryz.prog 17 #[.int .u8 (c.toNat : Int), .string p] w fun e w' => e = .returned (.string X) ∧ Below w.heap.size w w' := by
  obtain ⟨hp, ⟨rfl, rfl⟩ | ⟨rfl, h1, rfl⟩ | ⟨rfl, h1, rfl⟩ | ⟨rfl, h1, h2, rfl⟩⟩ := h
  · exact l03Shown_n p w (by omega)
  · exact l03Shown_t p w (by omega) h1
  · exact l03Shown_s p.size p w (by omega) h1
  · exact l03Shown_c p w (by omega) h1 h2

/-- How many bytes a number has, by the script's sign. -/
def widthOf (c : UInt8) : Nat := if c = 50 then 2 else if c = 52 ∨ c = 84 then 4 else 1

/-- What the model's loop still does: f rounds at most, from sign i of the form and byte q of the data on, with these words so far; R is what it comes to. -/
def Rest (fm sc d : ByteArray) (ps R : List ByteArray) : Nat → Nat → Nat → List ByteArray → Prop
  | 0, i, q, out => i = fm.size ∧ out = R
  | f + 1, i, q, out => (i = fm.size ∧ out = R) ∨ ∃ h : i < fm.size,
      (fm[i] = 98 ∧ ∃ h2 : out.length < sc.size, q + widthOf sc[out.length] ≤ d.size ∧ i + widthOf sc[out.length] ≤ fm.size ∧ Rest fm sc d ps R f (i + widthOf sc[out.length]) (q + widthOf sc[out.length]) (out ++ [decS (numL (d.extract q (q + widthOf sc[out.length])).data.toList)])) ∨
      (∃ p, ps[i]? = some p ∧ p.size ≤ 65535 ∧ ((fm[i] = 109 ∧ Rest fm sc d ps R f (i + 1) (q + p.size) (out ++ tyWords p)) ∨ (fm[i] = 42 ∧ Rest fm sc d ps R f (i + 1) (q + p.size) (out ++ plainWords d)) ∨ (∃ X, Sh fm[i] p X ∧ Rest fm sc d ps R f (i + 1) (q + p.size) (out ++ [X]))))

theorem rest_open {fm sc d : ByteArray} {ps R : List ByteArray} {f i q : Nat} {out : List ByteArray} (h : Rest fm sc d ps R f i q out) : (i = fm.size ∧ out = R) ∨ ∃ f', ∃ h : i < fm.size,
      (fm[i] = 98 ∧ ∃ h2 : out.length < sc.size, q + widthOf sc[out.length] ≤ d.size ∧ i + widthOf sc[out.length] ≤ fm.size ∧ Rest fm sc d ps R f' (i + widthOf sc[out.length]) (q + widthOf sc[out.length]) (out ++ [decS (numL (d.extract q (q + widthOf sc[out.length])).data.toList)])) ∨
      (∃ p, ps[i]? = some p ∧ p.size ≤ 65535 ∧ ((fm[i] = 109 ∧ Rest fm sc d ps R f' (i + 1) (q + p.size) (out ++ tyWords p)) ∨ (fm[i] = 42 ∧ Rest fm sc d ps R f' (i + 1) (q + p.size) (out ++ plainWords d)) ∨ (∃ X, Sh fm[i] p X ∧ Rest fm sc d ps R f' (i + 1) (q + p.size) (out ++ [X])))) := by
  cases f with
  | zero => exact .inl h
  | succ f => exact h.imp id (fun x => ⟨f, x⟩)

theorem rest_le {fm sc d : ByteArray} {ps R : List ByteArray} : ∀ (f i q : Nat) (out : List ByteArray), Rest fm sc d ps R f i q out → out.length ≤ R.length := by
  intro f
  induction f with
  | zero => intro i q out h; rw [h.2]; exact Nat.le_refl _
  | succ f ih =>
    intro i q out h
    rcases h with h | ⟨hi, ⟨_, _, _, _, h⟩ | ⟨p, _, _, ⟨_, h⟩ | ⟨_, h⟩ | ⟨X, _, h⟩⟩⟩
    · rw [h.2]; exact Nat.le_refl _
    · have := ih _ _ _ h; simp at this; omega
    · have := ih _ _ _ h; simp at this; omega
    · have := ih _ _ _ h; simp at this; omega
    · have := ih _ _ _ h; simp at this; omega
end Go.Proofs.YtephbegencpllaaGreatDoor
/- spec.l02NameAt by its contract. -/
namespace Go.Proofs.YtephbegencpllaaGreatDoor
open Go.RowKit

theorem name_zero {s : ByteArray} {i : Nat} (h : i < s.size) (h2 : i < 255) (h0 : s[i].toNat = 0) : Dt.nameF 256 s i = s.extract 0 (i + 1) := by
  rw [Dt.nameF, dif_pos ⟨h, h2⟩, if_pos h0]
theorem name_big {s : ByteArray} {i : Nat} (h : i < s.size) (h2 : i < 255) (h0 : 63 < s[i].toNat) : Dt.nameF 256 s i = ByteArray.empty := by
  rw [Dt.nameF, dif_pos ⟨h, h2⟩, if_neg (by omega), if_pos h0]
theorem name_step {s : ByteArray} {i : Nat} (h : i < s.size) (h2 : i < 255) (h0 : s[i].toNat ≠ 0) (h1 : s[i].toNat ≤ 63) : Dt.nameF 256 s i = Dt.nameF 256 s (i + s[i].toNat + 1) := by
  rw [Dt.nameF, dif_pos ⟨h, h2⟩, if_neg h0, if_neg (by omega)]
  exact Dt.nameF_enough _ _ _ _ (by omega) (by omega)
theorem name_end {s : ByteArray} {i : Nat} (h : ¬ (i < s.size ∧ i < 255)) : Dt.nameF 256 s i = ByteArray.empty := by
  rw [Dt.nameF, dif_neg h]

set_option maxRecDepth 100000 in
set_option maxHeartbeats 800000 in
theorem l02NameAt_any (s : ByteArray) (w : World) :
    Calls Tryz.prog 23 #[.string s] w fun e w' => e = .returned (.string (Dt.nameAtS s)) ∧ w' = w := by
  have H0 : Dt.nameAtS s = Dt.nameF 256 s 0 := rfl
  go_enter Tryz.func23, Tryz.ntmps23
  go_wp2
  go_loop [3] (fun v => ∃ i : Nat, i ≤ 400 ∧ v = .int .i64 i ∧ Dt.nameAtS s = Dt.nameF 256 s i) (fun v => 400 - (intOf v).toNat)
  case atStart => exact ⟨0, by omega, rfl, H0⟩
  case round =>
    obtain ⟨i, hi, rfl, hn⟩ := hrel
    clear H0
    by_cases h1 : i < s.size
    · have h1' : (i : Int) < (s.size : Int) := by omega
      by_cases h2 : i < 255
      · have h2' : (i : Int) < 255 := by omega
        have hc : (s[i].toNat : Int) < 256 := by have := s[i].toNat_lt; omega
        by_cases h3 : s[i].toNat = 0
        · have HN := Nm.hide (hn.trans (name_zero h1 h2 h3))
          have h3' : ((s[i].toNat : Int) == 0) = true := by rw [beq_iff_eq]; omega
          clear hn
          go_wp2
          go_ret
          rw [HN.out]
          exact ⟨rfl, rfl⟩
        · have h3' : ((s[i].toNat : Int) == 0) = false := by rw [beq_eq_false_iff_ne]; omega
          by_cases h4 : 63 < s[i].toNat
          · have HN := Nm.hide (hn.trans (name_big h1 h2 h4))
            have h4' : (63 : Int) < (s[i].toNat : Int) := by omega
            clear hn
            go_wp2
            go_ret
            rw [HN.out]
            exact ⟨rfl, rfl⟩
          · have HN := Nm.hide (hn.trans (name_step h1 h2 h3 (by omega)))
            have h4' : (s[i].toNat : Int) ≤ 63 := by omega
            clear hn
            go_wp2
            go_round
            case rel => exact ⟨i + s[i].toNat + 1, by omega, by go_num, HN.out⟩
            case measure => simp [intOf]; omega
      · have HN := Nm.hide (hn.trans (name_end (by omega)))
        have h2' : (255 : Int) ≤ (i : Int) := by omega
        clear hn
        go_wp2
        go_ret
        rw [HN.out]
        exact ⟨rfl, rfl⟩
    · have HN := Nm.hide (hn.trans (name_end (by omega)))
      have h1' : (s.size : Int) ≤ (i : Int) := by omega
      clear hn
      go_wp2
      go_ret
      rw [HN.out]
      exact ⟨rfl, rfl⟩
end Go.Proofs.YtephbegencpllaaGreatDoor
