/- spec.MakeName by its contract. -/
import Derived.Test.YtakonfkefoeenagMakeM
import Derived.Test.YtakonfkefoeenagJoin
namespace Go.Proofs.Ytakonfkefoeenag
open Go.RowKit

set_option maxRecDepth 100000 in
set_option maxHeartbeats 800000 in
theorem specMakeName_any (v : Value) (ls : List ByteArray) (w : World) (h : Nm.SRow w v ls) :
    Calls Try.prog 38 #[v] w fun e w' => e = .returned (.tuple #[.string (makeS ls).1, .int .i64 (makeS ls).2]) ∧ Below w.heap.size w w' := by
  have hjoin := fun hq => l01Join_any v ls w h hq
  obtain ⟨a, cap, rfl, hcap, hmx, hnl, hc⟩ := h
  unfold maxLen at hmx
  by_cases hm : 127 < ls.length
  · have HM : Hid (makeS ls = (ByteArray.empty, 3)) := make_many hm
    have hm' : (127 : Int) < (ls.length : Int) := by omega
    clear hjoin
    go_enter Try.func38, Try.ntmps38
    go_wp2
    go_ret2
    rw [HM.out]
    exact ⟨rfl, Below.refl _ _⟩
  · have hm' : (ls.length : Int) ≤ 127 := by omega
    go_enter Try.func38, Try.ntmps38
    go_wp2
    go_loop [4] (fun i => ∃ k : Nat, k ≤ ls.length ∧ i = .int .i64 k ∧ Hid ((ls.take k).any badB = false)) (fun i => ls.length - (intOf i).toNat)
    case atStart => exact ⟨0, Nat.zero_le _, rfl, by show _ = _; simp⟩
    case round =>
      obtain ⟨k, hk, rfl, HG⟩ := hrel
      by_cases hlt : k < ls.length
      · obtain ⟨x, hx⟩ : ∃ x, ls[k]? = some x := ⟨_, List.getElem?_eq_getElem hlt⟩
        obtain ⟨b, off, rfl, hcell⟩ := hc (by intro h; rw [h] at hlt; simp at hlt)
        have hcx := hcell k x hx
        by_cases hb : x.size < 1 ∨ 63 < x.size
        · have HM : Hid (makeS ls = (ByteArray.empty, 2)) := make_bad (by omega) (any_bad hx hb)
          clear hx hcell hc hjoin
          by_cases hb1 : x.size < 1
          · have h1 : decide ((x.size : Int) < 1) = true := by simp; omega
            clear hb
            go_wp2
            go_ret2
            rw [HM.out]
            exact ⟨rfl, Below.refl _ _⟩
          · have h1 : decide ((x.size : Int) < 1) = false := by simp; omega
            have h2 : decide ((63 : Int) < (x.size : Int)) = true := by simp; omega
            clear hb
            go_wp2
            go_ret2
            rw [HM.out]
            exact ⟨rfl, Below.refl _ _⟩
        · have HN : Hid ((ls.take (k + 1)).any badB = false) := any_step hx HG.out hb
          have h1 : decide ((x.size : Int) < 1) = false := by simp; omega
          have h2 : decide ((63 : Int) < (x.size : Int)) = false := by simp; omega
          clear hx hcell hc hjoin hb
          go_wp2
          go_round
          case rel => exact ⟨k + 1, by omega, by go_num, HN⟩
          case measure => simp [intOf]; omega
      · have hkl : k = ls.length := by omega
        subst hkl
        rw [List.take_length] at HG
        have hws := wsum_good ls HG.out
        have Hj := hjoin (by omega)
        have hjl := Nm.joinL_length ls
        have hsize : (ByteArray.mk (Nm.joinL ls).toArray).size = 1 + Nm.wsum ls := by rw [← size_list]; simp [hjl]; omega
        generalize hr : ByteArray.mk (Nm.joinL ls).toArray = r at *
        clear hjoin hc
        by_cases hl : 255 < 1 + Nm.wsum ls
        · have HM : Hid (makeS ls = (ByteArray.empty, 3)) := make_long (by omega) HG.out hl
          have hd : decide ((255 : Int) < (r.size : Int)) = true := by simp; omega
          clear hsize hr
          go_wp2_with fail
          refine Hj.mono ?_
          rintro e w2 ⟨rfl, hbel2⟩
          go_wp2
          go_ret2
          rw [HM.out]
          exact ⟨rfl, hbel2⟩
        · have HM : Hid (makeS ls = (r, 0)) := by show _ = _; rw [← hr]; exact make_good (by omega) HG.out hl
          have hd : decide ((255 : Int) < (r.size : Int)) = false := by simp; omega
          clear hsize hr
          go_wp2_with fail
          refine Hj.mono ?_
          rintro e w2 ⟨rfl, hbel2⟩
          go_wp2
          go_ret2
          rw [HM.out]
          exact ⟨rfl, hbel2⟩
end Go.Proofs.Ytakonfkefoeenag
