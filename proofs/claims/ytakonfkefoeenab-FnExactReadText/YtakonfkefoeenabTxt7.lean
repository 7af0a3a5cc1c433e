/- spec.ReadText by its contract. -/
import Derived.Test.YtakonfkefoeenabSEsc
import Derived.Test.YtakonfkefoeenabTxt6A
import Derived.Deep.AppendLies
namespace Go.Proofs.Ytakonfkefoeenab
open Go.RowKit

/-- A text with its escapes taken; none: an escape is none. -/
def rtF : Nat → List UInt8 → Option (List UInt8)
  | 0, _ => some []
  | _ + 1, [] => some []
  | f + 1, c :: r => if c.toNat = 92 then (match Nm.escF r with
      | none => none
      | some (b, n) => (rtF f (r.drop n)).map (fun t => b :: t))
    else (rtF f r).map (fun t => c :: t)

theorem rtF_enough : ∀ (f g : Nat) (l : List UInt8), l.length < f → l.length < g → rtF f l = rtF g l := by
  intro f
  induction f with
  | zero => intro g l h; omega
  | succ f ih =>
    intro g l hf hg
    cases g with
    | zero => omega
    | succ g =>
      cases l with
      | nil => rfl
      | cons c r =>
        simp only [List.length_cons] at hf hg
        rw [rtF, rtF]
        by_cases hc : c.toNat = 92
        · rw [if_pos hc, if_pos hc]
          cases he : Nm.escF r with
          | none => rfl
          | some p =>
            obtain ⟨b, n⟩ := p
            simp only
            rw [ih g (r.drop n) (by simp; omega) (by simp; omega)]
        · rw [if_neg hc, if_neg hc, ih g r (by omega) (by omega)]

def readTextL (l : List UInt8) : Option (List UInt8) := rtF (l.length + 1) l
def readTextR (s : ByteArray) : ByteArray × Int :=
  match readTextL s.data.toList with
  | none => (⟨#[]⟩, 4)
  | some l => (⟨l.toArray⟩, 0)

/-- Where the reading stands. -/
def RAt (s : ByteArray) (o : List UInt8) (i : Nat) : Prop := readTextL s.data.toList = (readTextL (s.data.toList.drop i)).map (fun t => o ++ t)

theorem rat_start (s : ByteArray) : RAt s [] 0 := by simp [RAt]
theorem rat_end {s : ByteArray} {o : List UInt8} {i : Nat} (h : RAt s o i) (hi : s.size ≤ i) : readTextR s = (⟨o.toArray⟩, 0) := by
  have e : s.data.toList.drop i = [] := List.drop_eq_nil_of_le (by simpa using hi)
  rw [RAt, e] at h
  rw [readTextR, h]
  simp [readTextL, rtF]
theorem rat_drop {s : ByteArray} {i : Nat} (h : i < s.size) : s.data.toList.drop i = s[i] :: s.data.toList.drop (i + 1) := by
  rw [List.drop_eq_getElem_cons (by simpa using h)]
  rfl
theorem rat_own {s : ByteArray} {o : List UInt8} {i : Nat} (h : RAt s o i) (hi : i < s.size) (hc : s[i].toNat ≠ 92) : RAt s (o ++ [s[i]]) (i + 1) := by
  rw [RAt] at h ⊢
  rw [h, rat_drop hi, readTextL, List.length_cons, rtF, if_neg hc, Option.map_map]
  have e : rtF ((s.data.toList.drop (i + 1)).length + 1) (s.data.toList.drop (i + 1)) = readTextL (s.data.toList.drop (i + 1)) := rfl
  rw [e]
  congr 1; funext t; simp
theorem rat_bad {s : ByteArray} {o : List UInt8} {i : Nat} (h : RAt s o i) (hi : i < s.size) (hc : s[i].toNat = 92) (he : Nm.escF (s.data.toList.drop (i + 1)) = none) : readTextR s = (⟨#[]⟩, 4) := by
  have e : readTextL (s.data.toList.drop i) = none := by rw [rat_drop hi, readTextL, List.length_cons, rtF, if_pos hc, he]
  rw [RAt, e] at h
  rw [readTextR, h]; rfl
theorem rat_esc {s : ByteArray} {o : List UInt8} {i n : Nat} {b : UInt8} (h : RAt s o i) (hi : i < s.size) (hc : s[i].toNat = 92) (he : Nm.escF (s.data.toList.drop (i + 1)) = some (b, n)) : RAt s (o ++ [b]) (i + n + 1) := by
  rw [RAt] at h ⊢
  rw [h, rat_drop hi]
  have hz := (Nm.esc_len he).1
  rw [readTextL, List.length_cons, rtF, if_pos hc, he]
  simp only
  rw [Option.map_map, List.drop_drop]
  have e : rtF ((s.data.toList.drop (i + 1)).length + 1) (s.data.toList.drop (i + 1 + n)) = readTextL (s.data.toList.drop (i + n + 1)) := by
    rw [show i + 1 + n = i + n + 1 by omega, readTextL]
    exact rtF_enough _ _ _ (by simp; omega) (by omega)
  rw [e]
  congr 1; funext t; simp

theorem ext_tail {s : ByteArray} {i : Nat} : (s.extract i s.size).data.toList = s.data.toList.drop i := by
  simp only [ByteArray.data_extract, Array.toList_extract]
  rw [List.extract_eq_take_drop, List.take_of_length_le (by simp)]

set_option maxRecDepth 100000 in
set_option maxHeartbeats 4000000 in
theorem specReadText_any (s : ByteArray) (w : World) (hs : s.size ≤ 1000000000) :
    Calls Try.prog 12 #[.string s] w fun e w' => e = .returned (.tuple #[.string (readTextR s).1, .int .i64 (readTextR s).2]) ∧ Below w.heap.size w w' := by
  obtain ⟨i0, hi, hz0, hz1, hz2⟩ := info_parts Try.infoU8x
  have hst := rat_start s
  go_enter Try.func12, Try.ntmps12
  go_wp2
  go_loopw [4, 5] (fun v u wr => ∃ (i n : Nat) (l : List UInt8), i ≤ s.size ∧ u = .int .i64 i ∧ n ≤ i ∧ Hid (l.length = n) ∧ Hid (RAt s l i) ∧ wr.ownsRow w.heap.size 5 1 v n (Nm.bys l) ∧ Below w.heap.size w wr)
    (fun _ u _ => s.size - (intOf u).toNat)
  case atStart => exact ⟨0, 0, [], Nat.zero_le _, rfl, Nat.le_refl _, rfl, hst, World.ownsRow_made w #[] 0 (Nat.le_refl _) (by decide) rfl, (Below.refl _ _).alloc (Nat.le_refl _) _⟩
  case round =>
    obtain ⟨i, n, l, hk, rfl, hn, HL, HA, hown, hbel⟩ := hrel
    clear hst
    have hsz := hbel.size
    by_cases hlt : i < s.size
    · have hlt' : (i : Int) < (s.size : Int) := by omega
      have hc : (s[i].toNat : Int) < 256 := by have := s[i].toNat_lt; omega
      by_cases h92 : s[i].toNat = 92
      · have q1 : ((s[i].toNat : Int) == 92) = true := by rw [beq_iff_eq]; omega
        have hle' : (i : Int) + 1 ≤ (s.size : Int) := by omega
        have hle : i + 1 ≤ s.size := by omega
        have htl : (s.extract (i + 1) s.size).data.toList = s.data.toList.drop (i + 1) := ext_tail
        cases he : Nm.escF (s.data.toList.drop (i + 1)) with
        | none =>
          have HR := Nm.hide (rat_bad HA.out hlt h92 he)
          have hes := fun W => l01Escape_any (s.extract (i + 1) s.size) none W (by show _ = _; rw [htl, he]) (by simp; omega)
          clear h92 he htl HA
          go_wp2_with (go_at_call 29; refine (hes _).mono ?_; rintro e w3 ⟨rfl, m, hw3⟩; have HB : Hid (Below w.heap.size w w3) := (by show Below _ _ _; rw [hw3]; exact Go.below_drewN hbel m); clear hw3)
          go_ret2
          rw [HR.out]
          exact ⟨rfl, HB.out⟩
        | some p =>
          obtain ⟨b, q⟩ := p
          have hq := Nm.esc_len he
          have hql : (s.data.toList.drop (i + 1)).length = s.size - (i + 1) := by simp
          have HN := Nm.hide (rat_esc HA.out hlt h92 he)
          have hes := fun W => l01Escape_any (s.extract (i + 1) s.size) (some (b, q)) W (by show _ = _; rw [htl, he]) (by simp; omega)
          simp only [escB, escN] at hes
          have hq0 : ((q : Int) == 0) = false := by rw [beq_eq_false_iff_ne]; omega
          have hq1 : i + q + 1 ≤ s.size := by omega
          have hbb : (b.toNat : Int) < 256 := by have := b.toNat_lt; omega
          have HL2 : Hid ((l ++ [b]).length = n + 1) := by show _ = _; rw [List.length_append, HL.out]; rfl
          clear h92 he htl HA HL hql
          go_wp2_with (first | (go_at_call 29; refine (hes _).mono ?_; rintro e w3 ⟨rfl, m, hw3⟩; have hb3 : Below wr.heap.size wr w3 := (by rw [hw3]; exact Go.below_drewN (Below.refl _ _) m); have hown3 := own_below hown hb3; have hbel3 := Nm.below_two hbel hb3; have hsz3 := hbel3.size; clear hw3 hb3) | (at_builtin; refine wpList_append_own _ rfl (.tmp 35) (.tmp 37) 27 rfl w.heap.size 5 i0 (.int .u8 0) 1 1 Try.underlying27 hi hz0 hz1 hz2 rfl (by decide) _ _ _ rfl (hown3.alloc _) ⟨w3.heap.size, 0, none⟩ 1 1 [.int .u8 (b.toNat : Int)] rfl rfl (cell_new1 _ _ _) (Nm.one_cell _ rfl) (by unfold maxLen; omega) (by omega) (by simp; omega) ?_))
          intro v' w4 hown' hgrow _
          obtain ⟨X, HX, o4, b4, z4⟩ := one_step (c := b) hsz3 hown3 hbel3 _ hown' hgrow
          clear hown' hgrow hown3 hbel3 hown hbel
          go_wp2
          go_roundw
          case rel => exact ⟨i + q + 1, n + 1, X, hq1, by go_num, by omega, by show _ = _; rw [HX.out]; exact HL2.out, by show RAt _ _ _; rw [HX.out]; exact HN.out, o4, b4⟩
          case measure => simp [intOf]; omega
      · have q1 : ((s[i].toNat : Int) == 92) = false := by rw [beq_eq_false_iff_ne]; omega
        have HN := Nm.hide (rat_own HA.out hlt h92)
        have HL2 : Hid ((l ++ [s[i]]).length = n + 1) := by show _ = _; rw [List.length_append, HL.out]; rfl
        clear h92 HA HL
        go_wp2_with (at_builtin; refine wpList_append_own _ rfl (.tmp 35) (.tmp 37) 27 rfl w.heap.size 5 i0 (.int .u8 0) 1 1 Try.underlying27 hi hz0 hz1 hz2 rfl (by decide) _ _ _ rfl (hown.alloc _) ⟨wr.heap.size, 0, none⟩ 1 1 [.int .u8 (s[i].toNat : Int)] rfl rfl (cell_new1 _ _ _) (Nm.one_cell _ rfl) (by unfold maxLen; omega) (by omega) (by simp; omega) ?_)
        intro v' w4 hown' hgrow _
        obtain ⟨X, HX, o4, b4, z4⟩ := one_step (c := s[i]) hsz hown hbel _ hown' hgrow
        clear hown' hgrow hown hbel
        go_wp2
        go_roundw
        case rel => exact ⟨i + 1, n + 1, X, by omega, by go_num, by omega, by show _ = _; rw [HX.out]; exact HL2.out, by show RAt _ _ _; rw [HX.out]; exact HN.out, o4, b4⟩
        case measure => simp [intOf]; omega
    · have hlt' : (s.size : Int) ≤ (i : Int) := by omega
      have HR := Nm.hide (rat_end HA.out (by omega))
      rcases Nat.eq_zero_or_pos n with hn0 | hnp
      · have hl0 : l = [] := List.length_eq_zero_iff.1 (by rw [HL.out]; exact hn0)
        subst hn0
        subst hl0
        rcases hown.2 with ⟨rfl, _⟩ | ⟨g, cp, cur, rfl, _, _, _, _, _⟩
        · have hcv : (convert 27 9 (.slice none 0 0)).run Try.prog wr = .ok (.string ⟨#[]⟩) wr := by
            rw [run_convert_bytes_string _ 27 9 5 _ _ _ Try.underlying27 Try.underlying5 Try.underlying9]
            rfl
          clear hown HA
          go_wp2
          go_ret2
          rw [HR.out]
          exact ⟨rfl, hbel⟩
        · have hcv : (convert 27 9 (.slice (some ⟨g, 0, none⟩) 0 cp)).run Try.prog wr = .ok (.string ⟨#[]⟩) wr := run_convert_bytes_back (P := Try.prog) wr 27 9 5 ⟨g, 0, none⟩ cp [] Try.underlying27 Try.underlying5 Try.underlying9 (by intro j hj; simp at hj)
          clear hown HA
          go_wp2
          go_ret2
          rw [HR.out]
          exact ⟨rfl, hbel⟩
      · obtain ⟨g, cp, rfl, hcv⟩ := Nm.conv_own (P := Try.prog) (src := 27) (dst := 9) Try.underlying27 Try.underlying5 Try.underlying9 hown hnp
        obtain ⟨R, HRR, hcv⟩ : ∃ R, Hid (R = (⟨l.toArray⟩ : ByteArray)) ∧ (convert 27 9 (.slice (some ⟨g, 0, none⟩) n cp)).run Try.prog wr = .ok (.string R) wr := ⟨_, rfl, hcv⟩
        clear hown HA
        go_wp2
        go_ret2
        rw [HR.out, ← HRR.out]
        exact ⟨rfl, hbel⟩
end Go.Proofs.Ytakonfkefoeenab
