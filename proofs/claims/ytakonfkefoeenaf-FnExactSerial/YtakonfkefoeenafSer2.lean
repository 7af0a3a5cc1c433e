/- Serial, the program's and the model's, by their contracts; the law's walk. -/
import Derived.Test.YtakonfkefoeenafSer1
import Derived.Test.YtakonfkefoeenafSCheck
import Derived.Test.YtakonfkefoeenafICheck
namespace Go.Proofs.Ytakonfkefoeenaf
open Go.RowKit
set_option linter.unusedVariables false

theorem soa_size {d : ByteArray} (h : cutCode 6 d = 0) : 22 ≤ d.size ∧ d.size ≤ 65535 := by
  rw [cutCode, if_neg (by omega)] at h
  by_cases hl : 65535 < d.size
  · rw [if_pos hl] at h; omega
  · rw [if_neg hl] at h
    refine ⟨?_, by omega⟩
    cases hq : Dt.spans (Dt.implP 6) 0 d with
    | none => rw [hq] at h; simp at h
    | some sp =>
      have e : Dt.implP 6 = [.nm, .nm, .bs 20] := rfl
      rw [e] at hq
      simp only [Dt.spans, Dt.sz] at hq
      by_cases h1 : (Dt.nameAtS d).size = 0
      · simp [h1] at hq
      · simp only [h1, if_false] at hq
        by_cases h2 : (Dt.nameAtS (d.extract (Dt.nameAtS d).size d.size)).size = 0
        · simp [h2] at hq
        · simp only [h2, if_false] at hq
          have l1 := Dt.name_le d
          have l2 := Dt.name_le (d.extract (Dt.nameAtS d).size d.size)
          have z1 : (d.extract (Dt.nameAtS d).size d.size).size = d.size - (Dt.nameAtS d).size := by simp
          generalize (d.extract (Dt.nameAtS d).size d.size) = d1 at *
          have z2 : (d1.extract (Dt.nameAtS d1).size d1.size).size = d1.size - (Dt.nameAtS d1).size := by simp
          rw [z2] at hq
          by_cases h3 : 20 ≤ d1.size - (Dt.nameAtS d1).size
          · omega
          · rw [if_neg h3] at hq; simp at hq

/-- The serial's place. -/
theorem ser_bytes {d : ByteArray} (h : 22 ≤ d.size) : (d.extract (d.size - 20) (d.size - 16)).data.toList = [d[d.size - 20], d[d.size - 20 + 1], d[d.size - 20 + 2], d[d.size - 20 + 3]] := by
  have hl : (d.extract (d.size - 20) (d.size - 16)).data.toList.length = 4 := by simp; omega
  refine List.ext_getElem (by simpa using hl) ?_
  intro i h1 h2
  have hi : i < 4 := by simpa using h2
  have e : (d.extract (d.size - 20) (d.size - 16)).data.toList[i] = d[d.size - 20 + i] := by
    have := ByteArray.getElem_extract (b := d) (start := d.size - 20) (stop := d.size - 16) (i := i) (h := by simpa using h1)
    exact this
  rw [e]
  rcases i with _ | _ | _ | _ | i
  · rfl
  · rfl
  · rfl
  · rfl
  · omega

def serS (d : ByteArray) : Int := if h : 22 ≤ d.size then (num4 d[d.size - 20] d[d.size - 20 + 1] d[d.size - 20 + 2] d[d.size - 20 + 3] : Int) else 0

theorem ser_num {d : ByteArray} (h : 22 ≤ d.size) : ((numL (d.extract (d.size - 20) (d.size - 16)).data.toList : Nat) : Int) = serS d := by
  rw [ser_bytes h, serS, dif_pos h]
  simp [numL, num4]

set_option maxRecDepth 100000 in
set_option maxHeartbeats 400000 in
theorem specSerial_any (d : ByteArray) (w : World) (hd : d.size ≤ 2000000) :
    Calls Try.prog 8 #[.string d] w fun e w' => e = .returned (.tuple #[.int .i64 (if cutCode 6 d = 0 then serS d else 0), .int .i64 (if cutCode 6 d = 0 then 0 else 7)]) ∧ Below w.heap.size w w' := by
  have hcall := fun w => specCheckData_any 6 d w
  by_cases hq : cutCode 6 d = 0
  · have hz := soa_size hq
    have HN := Nm.hide (ser_num hz.1)
    rw [hq] at hcall
    simp only [hq, if_true]
    have hnum := fun w => l02Num_any (d.extract (d.size - 20) (d.size - 16)) w (by simp; omega)
    have h1 : (20 : Int) ≤ (d.size : Int) := by omega
    have h2 : (16 : Int) ≤ (d.size : Int) := by omega
    have h3 : 20 ≤ d.size := by omega
    have h4 : 16 ≤ d.size := by omega
    generalize numL (d.extract (d.size - 20) (d.size - 16)).data.toList = N at *
    go_enter Try.func8, Try.ntmps8
    go_wp2_with (first | (go_at_call 26; refine (hcall _).mono ?_; rintro e w1 ⟨rfl, hb1⟩) | (go_at_call 27; refine (hnum _).mono ?_; rintro e w2 ⟨rfl, hw⟩; obtain rfl : w1 = w2 := hw.symm; clear hw))
    go_ret2
    rw [← HN.out]
    exact ⟨rfl, hb1⟩
  · simp only [hq, if_false]
    have hb : (cutCode 6 d != 0) = true := by rw [bne_iff_ne]; exact hq
    generalize cutCode 6 d = c at *
    clear hq
    go_enter Try.func8, Try.ntmps8
    go_wp2_with (go_at_call 26; refine (hcall _).mono ?_; rintro e w1 ⟨rfl, hb1⟩)
    go_ret2
    exact ⟨rfl, hb1⟩

set_option maxRecDepth 100000 in
set_option maxHeartbeats 400000 in
theorem implSerial_any (d : ByteArray) (w : World) (hd : d.size ≤ 2000000) :
    Calls Try.prog 9 #[.string d] w fun e w' => e = .returned (.tuple #[.int .i64 (if cutCode 6 d = 0 then serS d else 0), .int .i64 (if cutCode 6 d = 0 then 0 else 7)]) ∧ Below w.heap.size w w' := by
  have hcall := fun w => implCheckData_any 6 d w hd
  by_cases hq : cutCode 6 d = 0
  · have hz := soa_size hq
    have HN := Nm.hide (ser_num hz.1)
    rw [hq] at hcall
    simp only [hq, if_true]
    have hnum := fun w => readBig_any (d.extract (d.size - 20) (d.size - 20 + 4)) w (by simp; omega)
    rw [show d.size - 20 + 4 = d.size - 16 by omega] at hnum
    have h1 : (20 : Int) ≤ (d.size : Int) := by omega
    have h3 : 20 ≤ d.size := by omega
    have h4 : (d.size : Int) - 20 + 4 ≤ (d.size : Int) := by omega
    have e16 : d.size - 20 + 4 = d.size - 16 := by omega
    generalize numL (d.extract (d.size - 20) (d.size - 16)).data.toList = N at *
    go_enter Try.func9, Try.ntmps9
    go_wp2_with (first | (go_at_call 28; refine (hcall _).mono ?_; rintro e w1 ⟨rfl, hb1⟩) | (go_at_call 29; refine (hnum _).mono ?_; rintro e w2 ⟨rfl, hw⟩; obtain rfl : w1 = w2 := hw.symm; clear hw))
    go_ret2
    rw [← HN.out]
    exact ⟨rfl, hb1⟩
  · simp only [hq, if_false]
    have hb : (cutCode 6 d != 0) = true := by rw [bne_iff_ne]; exact hq
    generalize cutCode 6 d = c at *
    clear hq
    go_enter Try.func9, Try.ntmps9
    go_wp2_with (go_at_call 28; refine (hcall _).mono ?_; rintro e w1 ⟨rfl, hb1⟩)
    go_ret2
    exact ⟨rfl, hb1⟩
end Go.Proofs.Ytakonfkefoeenaf
