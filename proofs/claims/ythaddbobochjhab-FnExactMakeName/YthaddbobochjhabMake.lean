/- MakeName by its contracts. -/
import Derived.Test.YthaddbobochjhabWire
import Derived.Test.YthaddbobochjhabJoin
import Derived.BigQuiet
import Derived.Deep.QuietTactic
namespace Go.Proofs.Ythaddbobochjhab
open Go.RowKit

def badB (x : ByteArray) : Bool := decide (x.size < 1 ∨ 63 < x.size)

def makeS (ls : List ByteArray) : ByteArray × Int :=
  if 127 < ls.length then (ByteArray.empty, 3)
  else if ls.any badB then (ByteArray.empty, 2)
  else if 255 < 1 + Nm.wsum ls then (ByteArray.empty, 3)
  else (⟨(Nm.joinL ls).toArray⟩, 0)

theorem wsum_good : ∀ (ls : List ByteArray), ls.any badB = false → Nm.wsum ls ≤ 64 * ls.length := by
  intro ls
  induction ls with
  | nil => intro _; simp [Nm.wsum]
  | cons x r ih =>
    intro h
    simp only [List.any_cons, Bool.or_eq_false_iff] at h
    have h1 : ¬ (x.size < 1 ∨ 63 < x.size) := by simpa [badB] using h.1
    have := ih h.2
    simp only [Nm.wsum, List.length_cons]; omega

theorem any_step {ls : List ByteArray} {k : Nat} {x : ByteArray} (h : ls[k]? = some x) (h0 : (ls.take k).any badB = false) (hg : ¬ (x.size < 1 ∨ 63 < x.size)) : (ls.take (k + 1)).any badB = false := by
  have : badB x = false := by simpa [badB] using hg
  rw [Nm.take_step h]; simp [h0, this]

theorem any_bad {ls : List ByteArray} {k : Nat} {x : ByteArray} (h : ls[k]? = some x) (hg : x.size < 1 ∨ 63 < x.size) : ls.any badB = true := by
  rw [List.any_eq_true]
  exact ⟨x, List.mem_of_getElem? h, by simpa [badB] using hg⟩

theorem make_bad {ls : List ByteArray} (h : ls.length ≤ 127) (hb : ls.any badB = true) : makeS ls = (ByteArray.empty, 2) := by
  rw [makeS, if_neg (by omega), if_pos hb]
theorem make_many {ls : List ByteArray} (h : 127 < ls.length) : makeS ls = (ByteArray.empty, 3) := by rw [makeS, if_pos h]
theorem make_long {ls : List ByteArray} (h : ls.length ≤ 127) (hb : ls.any badB = false) (hl : 255 < 1 + Nm.wsum ls) : makeS ls = (ByteArray.empty, 3) := by
  rw [makeS, if_neg (by omega), if_neg (by simp [hb]), if_pos hl]
theorem make_good {ls : List ByteArray} (h : ls.length ≤ 127) (hb : ls.any badB = false) (hl : ¬ 255 < 1 + Nm.wsum ls) : makeS ls = (⟨(Nm.joinL ls).toArray⟩, 0) := by
  rw [makeS, if_neg (by omega), if_neg (by simp [hb]), if_neg hl]

theorem make_wire {ls : List ByteArray} (h : ls.length ≤ 127) (hb : ls.any badB = false) : makeS ls = (wireS ls, wireC ls) := by
  by_cases hl : 255 < 1 + Nm.wsum ls
  · rw [make_long h hb hl, wireS, wireC, if_pos hl, if_pos hl]
  · rw [make_good h hb hl, wireS, wireC, if_neg hl, if_neg hl]

set_option maxRecDepth 100000 in
set_option maxHeartbeats 800000 in
theorem implMakeName_any (v : Value) (ls : List ByteArray) (w : World) (h : Nm.SRow w v ls) :
    Calls Try.prog 13 #[v] w fun e w' => e = .returned (.tuple #[.string (makeS ls).1, .int .i64 (makeS ls).2]) ∧ Below w.heap.size w w' := by
  have hwire := fun hq => wire_any v ls w h hq
  obtain ⟨a, cap, rfl, hcap, hmx, hnl, hc⟩ := h
  unfold maxLen at hmx
  by_cases hm : 127 < ls.length
  · have HM : Hid (makeS ls = (ByteArray.empty, 3)) := make_many hm
    have hm' : (127 : Int) < (ls.length : Int) := by omega
    clear hwire
    go_enter Try.func13, Try.ntmps13
    go_wp2
    go_ret2
    rw [HM.out]
    exact ⟨rfl, Below.refl _ _⟩
  · have hm' : (ls.length : Int) ≤ 127 := by omega
    go_enter Try.func13, Try.ntmps13
    go_wp2
    go_loop [11] (fun i => ∃ k : Nat, k ≤ ls.length ∧ i = .int .i64 k ∧ Hid ((ls.take k).any badB = false)) (fun i => ls.length - (intOf i).toNat)
    case atStart => exact ⟨0, Nat.zero_le _, rfl, by show _ = _; simp⟩
    case round =>
      obtain ⟨k, hk, rfl, HG⟩ := hrel
      by_cases hlt : k < ls.length
      · obtain ⟨x, hx⟩ : ∃ x, ls[k]? = some x := ⟨_, List.getElem?_eq_getElem hlt⟩
        obtain ⟨b, off, rfl, hcell⟩ := hc (by intro h; rw [h] at hlt; simp at hlt)
        have hcx := hcell k x hx
        by_cases hb : x.size < 1 ∨ 63 < x.size
        · have HM : Hid (makeS ls = (ByteArray.empty, 2)) := make_bad (by omega) (any_bad hx hb)
          clear hx hcell hc hwire
          by_cases hb1 : x.size < 1
          · have h1 : (x.size : Int) ≤ 0 := by omega
            clear hb
            go_wp2_with (go_at_call 21; go_in)
            go_ret2
            rw [HM.out]
            exact ⟨rfl, Below.refl _ _⟩
          · have h1 : (0 : Int) < (x.size : Int) := by omega
            have h2 : (63 : Int) < (x.size : Int) := by omega
            have h3 : decide ((x.size : Int) ≤ 63) = false := by simp; omega
            clear hb
            go_wp2_with (go_at_call 21; go_in)
            go_ret2
            rw [HM.out]
            exact ⟨rfl, Below.refl _ _⟩
        · have HN : Hid ((ls.take (k + 1)).any badB = false) := any_step hx HG.out hb
          have h1 : (0 : Int) < (x.size : Int) := by omega
          have h2 : (x.size : Int) ≤ 63 := by omega
          clear hx hcell hc hwire hb
          go_wp2_with (go_at_call 21; go_in)
          go_round
          case rel => exact ⟨k + 1, by omega, by go_num, HN⟩
          case measure => simp [intOf]; omega
      · have hkl : k = ls.length := by omega
        subst hkl
        rw [List.take_length] at HG
        have hws := wsum_good ls HG.out
        have HM : Hid (makeS ls = (wireS ls, wireC ls)) := make_wire (by omega) HG.out
        have Hw := hwire (by omega)
        clear hwire hc
        go_wp2_with fail
        refine Hw.mono ?_
        rintro e w2 ⟨rfl, hbel2⟩
        go_wp2
        go_ret2
        rw [HM.out]
        exact ⟨rfl, hbel2⟩

set_option maxRecDepth 100000 in
set_option maxHeartbeats 800000 in
theorem specMakeName_any (v : Value) (ls : List ByteArray) (w : World) (h : Nm.SRow w v ls) :
    Calls Try.prog 11 #[v] w fun e w' => e = .returned (.tuple #[.string (makeS ls).1, .int .i64 (makeS ls).2]) ∧ Below w.heap.size w w' := by
  have hjoin := fun hq => l01Join_any v ls w h hq
  obtain ⟨a, cap, rfl, hcap, hmx, hnl, hc⟩ := h
  unfold maxLen at hmx
  by_cases hm : 127 < ls.length
  · have HM : Hid (makeS ls = (ByteArray.empty, 3)) := make_many hm
    have hm' : (127 : Int) < (ls.length : Int) := by omega
    clear hjoin
    go_enter Try.func11, Try.ntmps11
    go_wp2
    go_ret2
    rw [HM.out]
    exact ⟨rfl, Below.refl _ _⟩
  · have hm' : (ls.length : Int) ≤ 127 := by omega
    go_enter Try.func11, Try.ntmps11
    go_wp2
    go_loop [4] (fun i => ∃ k : Nat, k ≤ ls.length ∧ i = .int .i64 k ∧ Hid ((ls.take k).any badB = false)) (fun i => ls.length - (intOf i).toNat)
    case atStart => exact ⟨0, Nat.zero_le _, rfl, by show _ = _; simp⟩
    case round =>
      obtain ⟨k, hk, rfl, HG⟩ := hrel
      by_cases hlt : k < ls.length
      · obtain ⟨x, hx⟩ : ∃ x, ls[k]? = some x := ⟨_, List.getElem?_eq_getElem hlt⟩
        obtain ⟨b, off, rfl, hcell⟩ := hc (by intro h; rw [h] at hlt; simp at hlt)
        have hcx := hcell k x hx
        by_cases hb : x.size < 1 ∨ 63 < x.size
        · have HM : Hid (makeS ls = (ByteArray.empty, 2)) := make_bad (by omega) (any_bad hx hb)
          clear hx hcell hc hjoin
          by_cases hb1 : x.size < 1
          · have h1 : decide ((x.size : Int) < 1) = true := by simp; omega
            clear hb
            go_wp2
            go_ret2
            rw [HM.out]
            exact ⟨rfl, Below.refl _ _⟩
          · have h1 : decide ((x.size : Int) < 1) = false := by simp; omega
            have h2 : decide ((63 : Int) < (x.size : Int)) = true := by simp; omega
            clear hb
            go_wp2
            go_ret2
            rw [HM.out]
            exact ⟨rfl, Below.refl _ _⟩
        · have HN : Hid ((ls.take (k + 1)).any badB = false) := any_step hx HG.out hb
          have h1 : decide ((x.size : Int) < 1) = false := by simp; omega
          have h2 : decide ((63 : Int) < (x.size : Int)) = false := by simp; omega
          clear hx hcell hc hjoin hb
          go_wp2
          go_round
          case rel => exact ⟨k + 1, by omega, by go_num, HN⟩
          case measure => simp [intOf]; omega
      · have hkl : k = ls.length := by omega
        subst hkl
        rw [List.take_length] at HG
        have hws := wsum_good ls HG.out
        have Hj := hjoin (by omega)
        have hjl := Nm.joinL_length ls
        have hsize : (ByteArray.mk (Nm.joinL ls).toArray).size = 1 + Nm.wsum ls := by rw [← size_list]; simp [hjl]; omega
        generalize hr : ByteArray.mk (Nm.joinL ls).toArray = r at *
        clear hjoin hc
        by_cases hl : 255 < 1 + Nm.wsum ls
        · have HM : Hid (makeS ls = (ByteArray.empty, 3)) := make_long (by omega) HG.out hl
          have hd : decide ((255 : Int) < (r.size : Int)) = true := by simp; omega
          clear hsize hr
          go_wp2_with fail
          refine Hj.mono ?_
          rintro e w2 ⟨rfl, hbel2⟩
          go_wp2
          go_ret2
          rw [HM.out]
          exact ⟨rfl, hbel2⟩
        · have HM : Hid (makeS ls = (r, 0)) := by show _ = _; rw [← hr]; exact make_good (by omega) HG.out hl
          have hd : decide ((255 : Int) < (r.size : Int)) = false := by simp; omega
          clear hsize hr
          go_wp2_with fail
          refine Hj.mono ?_
          rintro e w2 ⟨rfl, hbel2⟩
          go_wp2
          go_ret2
          rw [HM.out]
          exact ⟨rfl, hbel2⟩
end Go.Proofs.Ythaddbobochjhab
