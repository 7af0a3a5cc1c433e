/- A tail put in place of another, and put back: mathematics. -/
import Derived.Test.YtakonfkefoeenagOrderM
import Derived.Test.YtakonfkefoeenagRepl
namespace Go.Proofs.Ytakonfkefoeenag
open Go.RowKit

theorem make_zero {ls : List ByteArray} (h : (makeS ls).2 = 0) : makeS ls = (⟨(Nm.joinL ls).toArray⟩, 0) ∧ Nm.wsum ls ≤ 254 := by
  by_cases h1 : 127 < ls.length
  · rw [make_many h1] at h; simp at h
  · by_cases h2 : ls.any badB = true
    · rw [make_bad (by omega) h2] at h; simp at h
    · have h2' : ls.any badB = false := by simpa using h2
      by_cases h3 : 255 < 1 + Nm.wsum ls
      · rw [make_long (by omega) h2' h3] at h; simp at h
      · exact ⟨make_good (by omega) h2' h3, by omega⟩

theorem make_ok {ls : List ByteArray} (h : ∀ x ∈ ls, 1 ≤ x.size ∧ x.size ≤ 63) (hw : Nm.wsum ls ≤ 254) : makeS ls = (⟨(Nm.joinL ls).toArray⟩, 0) := by
  have h2 := wsum_two ls h
  refine make_good (by omega) ?_ (by omega)
  rw [List.any_eq_false]
  intro x hx
  have := h x hx
  rw [badB, decide_eq_true_eq]
  omega

theorem wsum_folded : ∀ {a b : List ByteArray}, a.map Nm.small = b.map Nm.small → Nm.wsum a = Nm.wsum b := by
  intro a b h
  rw [← Nm.wsum_small a, ← Nm.wsum_small b, h]

theorem under_app (p zs : List ByteArray) : underB (p ++ zs) zs = true := by
  unfold underB
  rw [show (p ++ zs).length - zs.length = p.length by simp, List.drop_left, (cmpLs_zero zs zs).2 rfl]
  simp

theorem tail_facts {a b c : ByteArray} (h : (replS a b c).2 = 0) : ∃ g k : ByteArray, replS a b c = (g, 0) ∧ g.size ≤ maxLen ∧ isUnderS g c = true ∧
    (((Nm.split g).getD []).length : Int) - (((Nm.split c).getD []).length : Int) = (((Nm.split a).getD []).length : Int) - (((Nm.split b).getD []).length : Int) ∧
    replS g c b = (k, 0) ∧ k.size ≤ maxLen ∧ sameS k a = true := by
  cases ha : Nm.split a with
  | none => rw [repl_bad (.inl ha)] at h; simp at h
  | some xs =>
    cases hb : Nm.split b with
    | none => rw [repl_bad (.inr (.inl hb))] at h; simp at h
    | some ys =>
      cases hc : Nm.split c with
      | none => rw [repl_bad (.inr (.inr hc))] at h; simp at h
      | some zs =>
        by_cases hu : underB xs ys = true ∧ xs.length ≠ ys.length
        · have hr := repl_good ha hb hc hu
          rw [hr] at h
          obtain ⟨hm, hw⟩ := make_zero h
          obtain ⟨ja, oa⟩ := Nm.split_join ha
          obtain ⟨jb, ob⟩ := Nm.split_join hb
          obtain ⟨jc, oc⟩ := Nm.split_join hc
          have sa := Nm.split_size ha
          have hu1 := hu.1
          unfold underB at hu1
          rw [Bool.and_eq_true, decide_eq_true_eq, decide_eq_true_eq, cmpLs_zero] at hu1
          obtain ⟨hle, hfold⟩ := hu1
          have hd : 1 ≤ xs.length - ys.length := by have := hu.2; omega
          generalize hdd : xs.length - ys.length = d at *
          have htl : (xs.take d).length = d := by simp; omega
          have ot : ∀ x ∈ xs.take d, 1 ≤ x.size ∧ x.size ≤ 63 := fun x hx => oa x (List.mem_of_mem_take hx)
          have og : ∀ x ∈ xs.take d ++ zs, 1 ≤ x.size ∧ x.size ≤ 63 := by
            intro x hx
            rcases List.mem_append.1 hx with h | h
            · exact ot x h
            · exact oc x h
          have ok : ∀ x ∈ xs.take d ++ ys, 1 ≤ x.size ∧ x.size ≤ 63 := by
            intro x hx
            rcases List.mem_append.1 hx with h | h
            · exact ot x h
            · exact ob x h
          have hg := split_of_join og hw
          have hfk : (xs.take d ++ ys).map Nm.small = xs.map Nm.small := by
            rw [List.map_append, ← hfold, ← List.map_append, List.take_append_drop]
          have hwk : Nm.wsum (xs.take d ++ ys) ≤ 254 := by rw [wsum_folded hfk]; omega
          have hk := split_of_join ok hwk
          refine ⟨_, ⟨(Nm.joinL (xs.take d ++ ys)).toArray⟩, hr.trans hm, ?_, ?_, ?_, ?_, ?_, ?_⟩
          · have := Nm.split_size hg; unfold maxLen; omega
          · rw [isUnder_some hg hc]; exact under_app _ _
          · rw [hg]
            simp only [Option.getD_some, List.length_append, htl]
            omega
          · rw [repl_good hg hc hb ⟨under_app _ _, by simp only [List.length_append, htl]; omega⟩]
            rw [show (xs.take d ++ zs).length - zs.length = (xs.take d).length by simp, List.take_left]
            exact make_ok ok hwk
          · have := Nm.split_size hk; unfold maxLen; omega
          · rw [same_cmp hk ha, decide_eq_true_eq, cmpLs_zero]
            exact hfk
        · rw [repl_zone ha hb hc hu] at h; simp at h
end Go.Proofs.Ytakonfkefoeenag
