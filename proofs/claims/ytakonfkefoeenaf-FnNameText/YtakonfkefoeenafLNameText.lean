/- The law FnNameText: its walk. -/
import Derived.Test.YtakonfkefoeenafRow8
import Derived.Test.YtakonfkefoeenafDraw7
import Derived.Test.YtakonfkefoeenafShow
import Derived.Test.YtakonfkefoeenafNameOKs
import Derived.Test.YtakonfkefoeenafReadI
namespace Go.Proofs.Ytakonfkefoeenaf
open Go.RowKit
set_option linter.unusedVariables false

theorem text_facts {s : ByteArray} {ls : List ByteArray} (h : Nm.split s = some ls) (hn : ls ≠ []) : ∃ T : ByteArray, Nm.showS s = (T, 0) ∧ readS T ByteArray.empty = (s, 0) ∧ (T.toList == [46]) = false ∧ 1 ≤ T.size ∧ T.size ≤ 1048576 ∧ readS (T.extract 0 (T.size - 1)) ⟨#[0]⟩ = (s, 0) := by
  have hd := showD_dot ls hn
  have hp := Nm.showL_pos hn
  refine ⟨_, Nm.showS_some h hn, read_show h hn, ?_, ?_, ?_, ?_⟩
  · obtain ⟨l, r, hl, e⟩ := show_shape hn ((Nm.split_join h).2)
    rw [mk_list, hd, e, List.append_assoc, beq_eq_false_iff_ne]
    exact (showX_head hl _).2
  · rw [mk_size]; omega
  · rw [mk_size]; have := Nm.showL_length ls; have := Nm.split_size h; omega
  · have e : (⟨(Nm.showL ls).toArray⟩ : ByteArray).extract 0 ((⟨(Nm.showL ls).toArray⟩ : ByteArray).size - 1) = ⟨(showD ls).toArray⟩ := by
      apply ByteArray.ext
      apply Array.toList_inj.1
      rw [mk_size, hd]
      simp
    rw [e]
    exact read_showD h hn

theorem dot_list : (ByteArray.mk #[46]).toList = [46] := by rw [ByteArray.toList_eq]
theorem nul_list : (ByteArray.mk #[0]).toList = [0] := by rw [ByteArray.toList_eq]

theorem read_root (W : World) : Calls Try.prog 15 #[.string ⟨#[46]⟩, .string ⟨#[]⟩] W fun e w' => e = .returned (.tuple #[.string ⟨#[0]⟩, .int .i64 0]) ∧ Below W.heap.size W w' := by
  have h := implReadName_any ⟨#[46]⟩ ⟨#[]⟩ W (by decide)
  rw [read_dot_text _ rfl] at h
  exact h

theorem read_again {T s : ByteArray} (h : readS T ByteArray.empty = (s, 0)) (W : World) : Calls Try.prog 15 #[.string T, .string ⟨#[]⟩] W fun e w' => e = .returned (.tuple #[.string s, .int .i64 0]) ∧ Below W.heap.size W w' := by
  have h1 := implReadName_any T ByteArray.empty W (by decide)
  rw [h] at h1
  exact h1

theorem read_below {T s : ByteArray} (h : readS T ⟨#[0]⟩ = (s, 0)) (W : World) : Calls Try.prog 15 #[.string T, .string ⟨#[0]⟩] W fun e w' => e = .returned (.tuple #[.string s, .int .i64 0]) ∧ Below W.heap.size W w' := by
  have h1 := implReadName_any T ⟨#[0]⟩ W (by decide)
  rw [h] at h1
  exact h1

theorem show_of {s T : ByteArray} {c : Int} (h : Nm.showS s = (T, c)) (hs : s.size ≤ maxLen) (W : World) : Calls Try.prog 13 #[.string s] W fun e w' => e = .returned (.tuple #[.string T, .int .i64 c]) ∧ Below W.heap.size W w' := by
  have h1 := implShowName_any s W hs
  rw [h] at h1
  exact h1

theorem ok_of {s : ByteArray} {b : Bool} (h : (Nm.split s).isSome = b) (hs : s.size ≤ maxLen) (W : World) : Calls Try.prog 14 #[.string s] W fun e w' => e = .returned (.bool b) ∧ Below W.heap.size W w' := by
  have h1 := specNameOK_any s W hs
  rw [h] at h1
  exact h1

set_option maxRecDepth 100000 in
set_option maxHeartbeats 800000 in
theorem fnNameText_walk (a0 : Option Addr) (len0 cap0 : Nat) (z0 : List Int) (a1 : Option Addr) (len1 cap1 : Nat) (z1 : List Int) (w : World) (w0 : Row8 w a0 len0 cap0 z0) (w1 : Row8 w a1 len1 cap1 z1) :
    Calls Try.prog 5 #[.slice a0 len0 cap0, .slice a1 len1 cap1] w fun e w' => e = .returned (.bool true) ∧ Below w.heap.size w w' := by
  by_cases hl0 : 1048576 < len0
  · have hl0' : (1048576 : Int) < (len0 : Int) := by omega
    go_enter Try.func5, Try.ntmps5
    go_wp2
    go_ret
    exact ⟨rfl, Below.refl _ _⟩
  have hl0' : (len0 : Int) ≤ 1048576 := by omega
  by_cases hl1 : 1048576 < len1
  · have hl1' : (1048576 : Int) < (len1 : Int) := by omega
    go_enter Try.func5, Try.ntmps5
    go_wp2
    go_ret
    exact ⟨rfl, Below.refl _ _⟩
  have hl1' : (len1 : Int) ≤ 1048576 := by omega
  go_enter Try.func5, Try.ntmps5
  go_wp2_with fail
  refine (drawNameOK_any a0 len0 cap0 w (row8_code w0) (by omega)).mono ?_
  rintro e v1 ⟨s, rfl, hs, hb1⟩
  obtain ⟨m, hm, hcv⟩ := row8_str w1 hb1
  have hsm : s.size ≤ maxLen := by unfold maxLen; omega
  have hmm : m.size ≤ maxLen := by unfold maxLen; omega
  clear w0 w1 hs hm
  by_cases hp : len0 % 2 = 1
  · have hp' : ((len0 : Int) % 2 == 1) = true := by rw [beq_iff_eq]; omega
    clear hp
    go_wp2_with fail
    rcases hq : Nm.split m with _ | ls
    · refine (show_of (Nm.showS_none hq) hmm _).mono ?_
      rintro e v2 ⟨rfl, hb2⟩
      go_wp2_with fail
      refine (ok_of (b := false) (by rw [hq]; rfl) hmm _).mono ?_
      rintro e v3 ⟨rfl, hb3⟩
      go_wp2
      go_ret
      exact ⟨rfl, Nm.below_two (Nm.below_two hb1 hb2) hb3⟩
    · by_cases hn : ls = []
      · subst hn
        have hr := root_name hq
        subst hr
        have d1 := dot_list
        have d2 := nul_list
        refine (show_of (Nm.showS_root hq) hmm _).mono ?_
        rintro e v2 ⟨rfl, hb2⟩
        go_wp2_with fail
        refine (ok_of (b := true) (by rw [hq]; rfl) hmm _).mono ?_
        rintro e v3 ⟨rfl, hb3⟩
        go_wp2_with fail
        refine (read_root _).mono ?_
        rintro e v4 ⟨rfl, hb4⟩
        go_wp2
        go_ret
        exact ⟨rfl, Nm.below_two (Nm.below_two (Nm.below_two hb1 hb2) hb3) hb4⟩
      · obtain ⟨T, t1, t2, t3, t4, t5, t6⟩ := text_facts hq hn
        have u1 : ((m).toList != (m).toList) = false := by simp
        have u2 : ((m).toList == (m).toList) = true := by simp
        have u3 : (1 : Int) ≤ (T.size : Int) := by omega
        have u4 : (T.size : Int) ≤ 1048576 := by omega
        refine (show_of t1 hmm _).mono ?_
        rintro e v2 ⟨rfl, hb2⟩
        go_wp2_with fail
        refine (ok_of (b := true) (by rw [hq]; rfl) hmm _).mono ?_
        rintro e v3 ⟨rfl, hb3⟩
        go_wp2_with fail
        refine (read_again t2 _).mono ?_
        rintro e v4 ⟨rfl, hb4⟩
        go_wp2_with fail
        refine (read_below t6 _).mono ?_
        rintro e v5 ⟨rfl, hb5⟩
        go_wp2
        go_ret
        exact ⟨rfl, Nm.below_two (Nm.below_two (Nm.below_two (Nm.below_two hb1 hb2) hb3) hb4) hb5⟩
  · have hp' : ((len0 : Int) % 2 == 1) = false := by rw [beq_eq_false_iff_ne]; omega
    clear hp
    go_wp2_with fail
    rcases hq : Nm.split s with _ | ls
    · refine (show_of (Nm.showS_none hq) hsm _).mono ?_
      rintro e v2 ⟨rfl, hb2⟩
      go_wp2_with fail
      refine (ok_of (b := false) (by rw [hq]; rfl) hsm _).mono ?_
      rintro e v3 ⟨rfl, hb3⟩
      go_wp2
      go_ret
      exact ⟨rfl, Nm.below_two (Nm.below_two hb1 hb2) hb3⟩
    · by_cases hn : ls = []
      · subst hn
        have hr := root_name hq
        subst hr
        have d1 := dot_list
        have d2 := nul_list
        refine (show_of (Nm.showS_root hq) hsm _).mono ?_
        rintro e v2 ⟨rfl, hb2⟩
        go_wp2_with fail
        refine (ok_of (b := true) (by rw [hq]; rfl) hsm _).mono ?_
        rintro e v3 ⟨rfl, hb3⟩
        go_wp2_with fail
        refine (read_root _).mono ?_
        rintro e v4 ⟨rfl, hb4⟩
        go_wp2
        go_ret
        exact ⟨rfl, Nm.below_two (Nm.below_two (Nm.below_two hb1 hb2) hb3) hb4⟩
      · obtain ⟨T, t1, t2, t3, t4, t5, t6⟩ := text_facts hq hn
        have u1 : ((s).toList != (s).toList) = false := by simp
        have u2 : ((s).toList == (s).toList) = true := by simp
        have u3 : (1 : Int) ≤ (T.size : Int) := by omega
        have u4 : (T.size : Int) ≤ 1048576 := by omega
        refine (show_of t1 hsm _).mono ?_
        rintro e v2 ⟨rfl, hb2⟩
        go_wp2_with fail
        refine (ok_of (b := true) (by rw [hq]; rfl) hsm _).mono ?_
        rintro e v3 ⟨rfl, hb3⟩
        go_wp2_with fail
        refine (read_again t2 _).mono ?_
        rintro e v4 ⟨rfl, hb4⟩
        go_wp2_with fail
        refine (read_below t6 _).mono ?_
        rintro e v5 ⟨rfl, hb5⟩
        go_wp2
        go_ret
        exact ⟨rfl, Nm.below_two (Nm.below_two (Nm.below_two (Nm.below_two hb1 hb2) hb3) hb4) hb5⟩
end Go.Proofs.Ytakonfkefoeenaf
