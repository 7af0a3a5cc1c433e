import Derived.Test.YtechmpdfbpehiaaGreatDoorJMath
import Derived.Test.YtechmpdfbpehiaaGreatDoorJShow
import Derived.Test.YtechmpdfbpehiaaGreatDoorJSdJ
import Derived.Test.YtechmpdfbpehiaaGreatDoorJTxt5A
import Derived.WalkSpells
import Derived.WalkLawsBesides
import Derived.RegionTactic
import Derived.ChangeAlike
import Derived.BigRegion
import Derived.Deep.AppendLies
/- spec.ShowName by its contract. -/
namespace Go.Proofs.YtechmpdfbpehiaaGreatDoor
open Go.RowKit

theorem one_of {x : ByteArray} {j : Nat} (h : j < x.size) : x.extract j (j + 1) = ⟨#[x[j]]⟩ := by
  apply ba_ext
  have e : x.data.toList[j]? = some x[j] := by rw [List.getElem?_eq_getElem (by simpa using h)]; rfl
  refine List.ext_getElem? ?_
  intro i
  cases i with
  | zero => simp [e]
  | succ i => simp; omega

set_option maxRecDepth 100000 in
set_option maxHeartbeats 1600000 in
theorem specShowName_any (s : ByteArray) (w : World) (hs : s.size ≤ maxLen) :
    Calls Tryz.prog 14 #[.string s] w fun e w' => e = .returned (.tuple #[.string (Nm.showS s).1, .int .i64 (Nm.showS s).2]) ∧ Below w.heap.size w w' := by
  have hsp := l01Split_any s w hs
  cases hq : Nm.split s with
  | none =>
    have HA := Nm.hide (Nm.showS_none hq)
    rw [hq] at hsp
    clear hq
    go_enter Tryz.func14, Tryz.ntmps14
    go_wp2_with fail
    refine hsp.mono ?_
    rintro e w1 ⟨v, rfl, hown, hbel⟩
    go_wp2
    go_ret2
    rw [HA.out]
    exact ⟨rfl, hbel⟩
  | some ls =>
    have hz := Nm.split_size hq
    rw [hq] at hsp
    by_cases hn : ls = []
    · subst hn
      have HA := Nm.hide (Nm.showS_root hq)
      clear hq
      go_enter Tryz.func14, Tryz.ntmps14
      go_wp2_with fail
      refine hsp.mono ?_
      rintro e w1 ⟨v, rfl, hown, hbel⟩
      obtain ⟨a, cap, rfl, hcap, hmx, hnl, hc⟩ := Nm.SRow.of_owns hown
      simp only [Option.getD_some, List.length_nil] at hown hcap
      have h0 : ((0 : Int) == 0) = true := rfl
      go_wp2
      go_ret2
      rw [HA.out]
      exact ⟨rfl, hbel⟩
    · have HA := Nm.hide (Nm.showS_some hq hn)
      clear hq
      have hlp : 0 < ls.length := List.length_pos_iff.2 hn
      have hne0 : ((ls.length : Int) == 0) = false := by rw [beq_eq_false_iff_ne]; omega
      have hll := Nm.length_le_wsum ls
      go_enter Tryz.func14, Tryz.ntmps14
      go_wp2_with fail
      refine hsp.mono ?_
      rintro e w1 ⟨v, rfl, hown, hbel⟩
      obtain ⟨a, cap, rfl, hcap, hmx, hnl, hc⟩ := Nm.SRow.of_owns hown
      simp only [Option.getD_some] at hown hcap hc
      obtain ⟨b, off, rfl, hcell⟩ := hc hn
      clear hown hc hnl hsp
      go_wp2
      go_loopw [6, 7] (fun v i wr => ∃ (k : Nat) (t : ByteArray), k ≤ ls.length ∧ i = .int .i64 k ∧ v = .string t ∧ Hid (t.data.toList = Nm.showL (ls.take k)) ∧ Below w1.heap.size w1 wr)
        (fun _ i _ => ls.length - (intOf i).toNat)
      case atStart => exact ⟨0, _, Nat.zero_le _, rfl, rfl, rfl, Below.refl _ _⟩
      case round =>
        obtain ⟨k, t, hk, rfl, rfl, HL, hbw⟩ := hrel
        have hw := Nm.wsum_take_le ls k
        have hlb := Nm.showL_length (ls.take k)
        rw [← HL.out, size_list] at hlb
        by_cases hlt : k < ls.length
        · obtain ⟨x, hx⟩ : ∃ x, ls[k]? = some x := ⟨_, List.getElem?_eq_getElem hlt⟩
          have hcx1 : w1.cell? ⟨b, off + k, none⟩ = some (.string x) := hcell k x hx
          have HP := Nm.hide (Nm.showL_step hx)
          have hws := Nm.wsum_step hx
          have hw1 := Nm.wsum_take_le ls (k + 1)
          have hxs : x.size ≤ 255 := by omega
          have hn4 : t.size ≤ 1020 := by omega
          clear hx hcell hws hw1 hlb
          go_wp2
          go_loopw [6, 8] (fun v i wi => ∃ (j : Nat) (t2 : ByteArray), j ≤ x.size ∧ i = .int .i64 j ∧ v = .string t2 ∧ Hid (t2.data.toList = t.data.toList ++ Nm.showX (x.data.toList.take j)) ∧ t2.size ≤ 1020 + 4 * j ∧ Below w1.heap.size w1 wi)
            (fun _ i _ => x.size - (intOf i).toNat)
          case atStart => exact ⟨0, t, Nat.zero_le _, rfl, rfl, by show _ = _; simp [Nm.showX], by omega, hbw⟩
          case round =>
            obtain ⟨j, t2, hj2, rfl, rfl, HL2, hm2, hbw2⟩ := hrel
            have hsz2 := hbw2.size
            have hcx : wr.cell? ⟨b, off + k, none⟩ = some (.string x) := (hbw2.cell (World.block_lt_of_cell? w1 _ hcx1)).trans hcx1
            clear hbw hcx1
            by_cases hjl : j < x.size
            · have HX := Nm.hide (Nm.showX_step hjl)
              have hsl := (Nm.showB_length x[j]).1
              have hy := one_of hjl
              generalize x[j] = c at *
              have hcl : (c.toNat : Int) < 256 := by have := c.toNat_lt; omega
              have h0c : ∀ h, (ByteArray.mk #[c])[0]'h = c := fun _ => rfl
              have hsc : (ByteArray.mk #[c]).size = 1 := rfl
              have hs92 : (ByteArray.mk #[92]).size = 1 := rfl
              cases hm : Nm.markB c with
              | true =>
                have HS := Nm.hide (Nm.showB_mark hm)
                rcases Nm.markB_true hm with rfl | rfl | rfl | rfl | rfl | rfl | rfl | rfl
                all_goals
                  clear hm
                  go_wp2
                  go_roundw
                  case rel => exact ⟨j + 1, _, by omega, by go_num, rfl, by show _ = _; rw [HX.out, HS.out, ← List.append_assoc, ← HL2.out]; simp, by simp; omega, hbw2⟩
                  case measure => simp [intOf]; omega
              | false =>
                obtain ⟨m1, m2, m3, m4, m5, m6, m7, m8⟩ := Nm.markB_false hm
                by_cases hp : 33 ≤ c.toNat ∧ c.toNat ≤ 126
                · have HS := Nm.hide (Nm.showB_plain hm hp)
                  have d1 : decide ((c.toNat : Int) < 33) = false := by simp; omega
                  have d2 : decide ((126 : Int) < (c.toNat : Int)) = false := by simp; omega
                  clear hm hp
                  go_wp2
                  go_roundw
                  case rel => exact ⟨j + 1, _, by omega, by go_num, rfl, by show _ = _; rw [HX.out, HS.out, ← List.append_assoc, ← HL2.out]; simp, by simp; omega, hbw2⟩
                  case measure => simp [intOf]; omega
                · have HS := Nm.hide (Nm.showB_num hm hp)
                  have h3l : (ByteArray.mk (Nm.threeL c).toArray).size = 3 := rfl
                  have Hd : Hid ((ByteArray.mk (Nm.threeL c).toArray).data.toList = Nm.threeL c) := by show _ = _; simp
                  have hth := fun W => l01Three_any c W
                  generalize ByteArray.mk (Nm.threeL c).toArray = r3 at *
                  by_cases hlow : 33 ≤ c.toNat
                  · have d1 : decide ((c.toNat : Int) < 33) = false := by simp; omega
                    have d2 : decide ((126 : Int) < (c.toNat : Int)) = true := by simp; omega
                    clear hm hp
                    go_wp2_with (go_at_call 28; refine (hth _).mono ?_; rintro e w3 ⟨rfl, hbel3⟩)
                    go_roundw
                    case rel => exact ⟨j + 1, _, by omega, by go_num, rfl, by show _ = _; rw [HX.out, HS.out, ← List.append_assoc, ← HL2.out]; simp [Hd.out], by simp; omega, hbw2.trans (hbel3.mono hsz2)⟩
                    case measure => simp [intOf]; omega
                  · have d1 : decide ((c.toNat : Int) < 33) = true := by simp; omega
                    clear hm hp
                    go_wp2_with (go_at_call 28; refine (hth _).mono ?_; rintro e w3 ⟨rfl, hbel3⟩)
                    go_roundw
                    case rel => exact ⟨j + 1, _, by omega, by go_num, rfl, by show _ = _; rw [HX.out, HS.out, ← List.append_assoc, ← HL2.out]; simp [Hd.out], by simp; omega, hbw2.trans (hbel3.mono hsz2)⟩
                    case measure => simp [intOf]; omega
            · have hje : j = x.size := by omega
              subst hje
              have hs46 : (ByteArray.mk #[46]).size = 1 := rfl
              go_wp2
              go_roundw
              case rel =>
                refine ⟨k + 1, _, by omega, by go_num, rfl, ?_, hbw2⟩
                show _ = _
                rw [HP.out, ← HL.out, ← List.append_assoc, ← List.take_of_length_le (i := x.size) (l := x.data.toList) (by simp), ← HL2.out]
                simp
              case measure => simp [intOf]; omega
        · have hkl : k = ls.length := by omega
          subst hkl
          rw [List.take_length] at HL
          clear hcell hlb hlt
          go_wp2
          go_ret2
          rw [HA.out]
          have e : t = ⟨(Nm.showL ls).toArray⟩ := ba_ext (by simp [HL.out])
          subst e
          exact ⟨rfl, Nm.below_two hbel hbw⟩
end Go.Proofs.YtechmpdfbpehiaaGreatDoor
