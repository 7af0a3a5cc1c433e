import Derived.Test.YtechmpdfbpehiaaGreatDoorJSdF
import Derived.Laws.MakeOwn
import Derived.Deep.RegionWith
import Derived.Test.YtechmpdfbpehiaaGreatDoorSdL
import Derived.Test.YtechmpdfbpehiaaGreatDoorJV6M
import Derived.Test.YtechmpdfbpehiaaGreatDoorJV4T
/- spec.ShowV6 by its contract. -/
namespace Go.Proofs.YtechmpdfbpehiaaGreatDoor
open Go.RowKit

theorem Tryz.infoU8v : (Tryz.prog.info? 5).map (fun i => (i.zero, i.size, i.bytes)) = some (some (.int .u8 0), 1, 1) := by kernel_rfl
theorem made_zeros (m : Nat) : madeCells (Value.int .u8 0).cells (m * 1) = (Nm.bys (List.replicate m 0)).toArray := by
  apply Array.ext
  · rw [size_madeCells]; simp [Nm.bys]
  · intro i h1 h2
    simp [madeCells, Nm.bys, Value.cells, Nat.mod_one]
theorem zeros_conv (m : Nat) (W W' : World) (hb : Below (W.heap.size + 1) (W.alloc (.cells (Nm.bys (List.replicate m 0)).toArray 5)) W') (cp : Nat) :
    (convert 44 9 (.slice (some ⟨W.heap.size, 0, none⟩) m cp)).run Tryz.prog W' = .ok (.string (zeros m)) W' := by
  have := run_convert_bytes_back (P := Tryz.prog) W' 44 9 5 ⟨W.heap.size, 0, none⟩ cp (List.replicate m 0) Tryz.underlying44 Tryz.underlying5 Tryz.underlying9 (by
    intro j hj
    rw [Nm.addr_add, Nat.zero_add, hb.cell (by simp), cell_of_row _ _ j _ 5 (0, 0) (heap_alloc_new W _)]
    simp at hj
    simp [Nm.bys, hj])
  rw [List.length_replicate] at this
  exact this

set_option maxRecDepth 100000 in
set_option maxHeartbeats 4000000 in
theorem specShowV6_any (s : ByteArray) (w : World) :
    Calls Tryz.prog 30 #[.string s] w fun e w' => e = .returned (.tuple #[.string (showV6S s).1, .int .i64 (showV6S s).2]) ∧ Below w.heap.size w w' := by
  by_cases h16 : s.size = 16
  · have hn16 : ((s.size : Int) != 16) = false := by simp; omega
    obtain ⟨i0, hi, hz0, hz1, hz2⟩ := info_parts Tryz.infoU8v
    have hs16 : (s.size : Int) ≤ 16 := by omega
    have hs16' : (16 : Int) ≤ (s.size : Int) := by omega
    have HH := Nm.hide h16
    clear h16
    go_enter Tryz.func30, Tryz.ntmps30
    go_wp2
    go_loopw [4] (fun v wr => ∃ n : Nat, 1 ≤ n ∧ n ≤ 8 ∧ v = .int .i64 (n : Int) ∧ Hid (spFind (zf s) = spOut (zf s) n) ∧ Below w.heap.size w wr) (fun v _ => (intOf v).toNat)
    case atStart => exact ⟨8, by omega, by omega, rfl, rfl, Below.refl _ _⟩
    case round =>
      obtain ⟨n, hn1, hn8, rfl, HO, hbel⟩ := hrel
      by_cases hn2 : 2 ≤ n
      · have hn2' : (2 : Int) ≤ (n : Int) := by omega
        have HI := Nm.hide (sp_enter HO.out hn2)
        clear HO
        go_wp2
        go_loopw [5] (fun v wI => ∃ i : Nat, i + n ≤ 9 ∧ v = .int .i64 (i : Int) ∧ Hid (SpAt (zf s) n i) ∧ Below w.heap.size w wI) (fun v _ => 9 - (intOf v).toNat)
        case atStart => exact ⟨0, by omega, rfl, HI, hbel⟩
        case round =>
          obtain ⟨i, hin, rfl, HA, hbi⟩ := hrel
          clear HI hbel
          have hszi := hbi.size
          by_cases h8 : i + n ≤ 8
          · have h8' : (i : Int) + (n : Int) ≤ 8 := by omega
            obtain ⟨E, HE⟩ : ∃ E, Hid (E = s.extract (2 * i) (2 * (i + n))) := ⟨_, rfl⟩
            have hb1 : 2 * (i : Int) ≤ 2 * ((i : Int) + (n : Int)) := by omega
            have hb2 : 2 * ((i : Int) + (n : Int)) ≤ (s.size : Int) := by omega
            have hcut : s.extract (2 * (i : Int)).toNat (2 * ((i : Int) + (n : Int))).toNat = E := by
              rw [HE.out]; congr 1
            obtain ⟨Zc, HZc⟩ : ∃ Zc : Array Value, Hid (Zc = (Nm.bys (List.replicate (2 * n) 0)).toArray) := ⟨_, rfl⟩
            have hmk : ∀ W : World, (Instr.makeSlice 44 (.int .i64 (2 * (n : Int))) (.int .i64 (2 * (n : Int)))).run Tryz.prog W = .ok (.slice (some ⟨W.heap.size, 0, none⟩) (2 * n) (2 * n)) (W.alloc (.cells Zc 5)) := by
              intro W
              have h := run_make (P := Tryz.prog) W 44 5 i0 (.int .u8 0) Tryz.underlying44 hi hz0 .i64 .i64 (2 * (n : Int)) (2 * (n : Int)) (by omega) (by omega) (by rw [hz2]; omega) (by omega)
              rw [show (2 * (n : Int)).toNat = 2 * n by omega, hz1, made_zeros, ← HZc.out] at h
              exact h
            have hcv0 : (convert 44 9 (.slice (some ⟨wr.heap.size, 0, none⟩) (2 * n) (2 * n))).run Tryz.prog (wr.alloc (.cells Zc 5)) = .ok (.string (zeros (2 * n))) (wr.alloc (.cells Zc 5)) := by
              rw [HZc.out]; exact zeros_conv (2 * n) wr _ (Below.refl _ _) _
            have hcv1 : (convert 44 9 (.slice (some ⟨wr.heap.size, 0, none⟩) (2 * n) (2 * n))).run Tryz.prog (wr.alloc (.cells Zc 5)).drew = .ok (.string (zeros (2 * n))) (wr.alloc (.cells Zc 5)).drew := by
              rw [HZc.out]; exact zeros_conv (2 * n) wr _ (Below.refl _ _).drew _
            have HQ : Hid ((E.toList == (zeros (2 * n)).toList) = allZ (zf s) i n) := by show _ = _; rw [HE.out]; exact zeros_eq HH.out h8
            have HW : Hid (Below w.heap.size w (wr.alloc (.cells Zc 5)).drew) := (hbi.alloc hszi _).drew
            cases hz : allZ (zf s) i n with
            | false =>
              have HN := Nm.hide (sp_miss HA.out h8 hz)
              have hq : (E.toList == (zeros (2 * n)).toList) = false := by rw [HQ.out, hz]
              generalize zeros (2 * n) = ZS at *
              clear HA HQ hz
              go_wp2
              go_region
              go_wp2
              go_roundw
              case rel => exact ⟨i + 1, by omega, by go_num, HN, HW.out⟩
              case measure => simp [intOf]; omega
            | true =>
              have HF := Nm.hide (showV6_some HH.out (sp_hit HA.out h8 hz))
              have hq : (E.toList == (zeros (2 * n)).toList) = true := by rw [HQ.out, hz]
              generalize zeros (2 * n) = ZS at *
              have hr1 := fun W => l03Row_any s 0 i W HH.out (by omega) (by omega)
              have hr2 := fun W => l03Row_any s (i + n) 8 W HH.out (by omega) (by omega)
              rw [Nat.sub_zero] at hr1
              have z1 := rowS_size s 0 i
              have z2 := rowS_size s (i + n) (8 - (i + n))
              generalize rowS s 0 i = R1 at *
              generalize rowS s (i + n) (8 - (i + n)) = R2 at *
              rw [show (((0 : Nat) : Int)) = 0 from rfl] at hr1
              rw [show (((i + n : Nat) : Int)) = (i : Int) + (n : Int) by omega, show (((8 : Nat) : Int)) = 8 from rfl] at hr2
              have hz58 : (⟨#[58, 58]⟩ : ByteArray).size = 2 := rfl
              have a1 : ∀ W, (Go.Op.stringOp .add R1 ⟨#[58, 58]⟩).run Tryz.prog W = .ok (.string (R1 ++ ⟨#[58, 58]⟩)) W := fun W => run_string_add_sum W _ _ (by rw [hz58]; omega)
              have a2 : ∀ W, (Go.Op.stringOp .add (R1 ++ ⟨#[58, 58]⟩) R2).run Tryz.prog W = .ok (.string (R1 ++ ⟨#[58, 58]⟩ ++ R2)) W := fun W => run_string_add_sum W _ _ (by rw [ByteArray.size_append, hz58]; omega)
              clear HA HQ hz hz58
              go_wp2
              go_region
              go_wp2_with (first | (go_at_call_of 51 (Value.int IntKind.i64 8); refine (hr2 _).mono ?_; rintro e w3 ⟨rfl, m3, hw3⟩) | (go_at_call 51; refine (hr1 _).mono ?_; rintro e w2 ⟨rfl, m2, hw2⟩))
              go_ret2
              rw [HF.out]
              refine ⟨rfl, ?_⟩
              exact Go.below_drewN (hbi.alloc hszi _) _
          · have h8' : (8 : Int) < (i : Int) + (n : Int) := by omega
            have HN := Nm.hide (sp_exit HA.out (by omega))
            clear HA
            go_wp2
            go_roundw
            case rel => exact ⟨n - 1, by omega, by omega, by go_num, HN, hbi⟩
            case measure => simp [intOf]; omega
      · have hn1' : (n : Int) < 2 := by omega
        have HF := Nm.hide (showV6_none HH.out (sp_none HO.out (by omega)))
        have hr := fun W => l03Row_any s 0 8 W HH.out (by omega) (by omega)
        rw [show (((0 : Nat) : Int)) = 0 from rfl, show (((8 : Nat) : Int)) = 8 from rfl, Nat.sub_zero] at hr
        generalize rowS s 0 8 = R1 at *
        clear HO
        go_wp2_with (go_at_call 51; refine (hr _).mono ?_; rintro e w2 ⟨rfl, m2, hw2⟩)
        go_ret2
        rw [HF.out]
        refine ⟨rfl, ?_⟩
        exact Go.below_drewN hbel _
  · have HR := Nm.hide (showV6_bad h16)
    have hn16 : ((s.size : Int) != 16) = true := by simp; omega
    go_enter Tryz.func30, Tryz.ntmps30
    go_wp2
    go_ret2
    rw [HR.out]
    exact ⟨rfl, Below.refl _ _⟩
end Go.Proofs.YtechmpdfbpehiaaGreatDoor
/- spec.ShowData by its contract. -/
namespace Go.Proofs.YtechmpdfbpehiaaGreatDoor
open Go.RowKit
set_option linter.unusedVariables false

set_option maxRecDepth 100000 in
set_option maxHeartbeats 3200000 in
theorem specShowData_bad (t : Int) (d : ByteArray) (w : World) (hc : cutCode t d ≠ 0) :
    Calls Tryz.prog 15 #[.int .i64 t, .string d] w fun e w' => e = .returned (.tuple #[.string ⟨#[]⟩, .int .i64 (cutCode t d)]) ∧ Below w.heap.size w w' := by
  have hck := specCheckData_any t d w
  have hne : (cutCode t d != 0) = true := by rw [bne_iff_ne]; exact hc
  clear hc
  generalize cutCode t d = c at *
  go_enter Tryz.func15, Tryz.ntmps15
  go_wp2_with (go_at_call 13; refine hck.mono ?_; rintro e w1 ⟨rfl, hb1⟩)
  go_ret2
  exact ⟨rfl, hb1⟩

set_option maxRecDepth 100000 in
set_option maxHeartbeats 3200000 in
theorem specShowData_v4 (d : ByteArray) (w : World) (hd : d.size ≤ 65535) (hc : cutCode 1 d = 0) :
    Calls Tryz.prog 15 #[.int .i64 1, .string d] w fun e w' => e = .returned (.tuple #[.string (showV4S d).1, .int .i64 (showV4S d).2]) ∧ Below w.heap.size w w' := by
  have hck := specCheckData_any 1 d w
  rw [hc] at hck
  have hfm := fun W => l02Form_any 1 W
  have hpt := fun W => l02Parts_any (Dt.formS 1) d W (form_ok 1) hd
  have hsh := fun W => specShowV4_any d W
  generalize (Dt.parts ((Dt.formS 1).data.toList.map Dt.letP) d).isSome = isS at *
  generalize (showV4S d).1 = T at *
  generalize (showV4S d).2 = C at *
  generalize Dt.formS 1 = fm at *
  clear hc
  go_enter Tryz.func15, Tryz.ntmps15
  go_wp2_with (first | (go_at_call 13; refine hck.mono ?_; rintro e w1 ⟨rfl, hb1⟩) | (go_at_call 27; refine (hfm _).mono ?_; rintro e wf ⟨rfl, hw⟩; obtain rfl := hw.symm; clear hw) | (go_at_call 26; refine (hpt _).mono ?_; rintro e w2 ⟨vp, rfl, hrow, hb2⟩; clear hrow) | (go_at_call 29; refine (hsh _).mono ?_; rintro e w3 ⟨rfl, hb3⟩))
  go_ret2
  exact ⟨rfl, Nm.below_two (Nm.below_two hb1 hb2) hb3⟩

set_option maxRecDepth 100000 in
set_option maxHeartbeats 3200000 in
theorem specShowData_v6 (d : ByteArray) (w : World) (hd : d.size ≤ 65535) (hc : cutCode 28 d = 0) :
    Calls Tryz.prog 15 #[.int .i64 28, .string d] w fun e w' => e = .returned (.tuple #[.string (showV6S d).1, .int .i64 (showV6S d).2]) ∧ Below w.heap.size w w' := by
  have hck := specCheckData_any 28 d w
  rw [hc] at hck
  have hfm := fun W => l02Form_any 28 W
  have hpt := fun W => l02Parts_any (Dt.formS 28) d W (form_ok 28) hd
  have hsh := fun W => specShowV6_any d W
  generalize (Dt.parts ((Dt.formS 28).data.toList.map Dt.letP) d).isSome = isS at *
  generalize (showV6S d).1 = T at *
  generalize (showV6S d).2 = C at *
  generalize Dt.formS 28 = fm at *
  clear hc
  go_enter Tryz.func15, Tryz.ntmps15
  go_wp2_with (first | (go_at_call 13; refine hck.mono ?_; rintro e w1 ⟨rfl, hb1⟩) | (go_at_call 27; refine (hfm _).mono ?_; rintro e wf ⟨rfl, hw⟩; obtain rfl := hw.symm; clear hw) | (go_at_call 26; refine (hpt _).mono ?_; rintro e w2 ⟨vp, rfl, hrow, hb2⟩; clear hrow) | (go_at_call 30; refine (hsh _).mono ?_; rintro e w3 ⟨rfl, hb3⟩))
  go_ret2
  exact ⟨rfl, Nm.below_two (Nm.below_two hb1 hb2) hb3⟩

theorem cut_parts {t : Int} {d : ByteArray} (hc : cutCode t d = 0) : d.size ≤ 65535 ∧ (Dt.spans (Dt.implP t) 0 d).isSome = true ∧ ∃ ps, Dt.parts (Dt.specP t) d = some ps := by
  have hsp : (Dt.spans (Dt.implP t) 0 d).isSome = true ∧ d.size ≤ 65535 := by
    unfold cutCode at hc
    split at hc
    · cases hc
    · split at hc
      · cases hc
      · split at hc
        · exact ⟨by assumption, by omega⟩
        · cases hc
  refine ⟨hsp.2, hsp.1, ?_⟩
  have h := hsp.1
  rw [← Dt.forms_agree, Dt.spans_of_parts, Option.isSome_map] at h
  exact Option.isSome_iff_exists.1 h

theorem addr_size {k : Nat} {d : ByteArray} (h : (Dt.spans [.bs k] 0 d).isSome = true) : d.size = k := by
  obtain ⟨n, h1, h2⟩ := spans_cons_some h
  obtain ⟨h3, rfl⟩ := sz_bs h1
  rw [Dt.spans] at h2
  split at h2
  · rename_i hz
    simp at hz
    omega
  · simp at h2

theorem specShowData_any (t : Int) (d : ByteArray) (w : World) :
    Calls Tryz.prog 15 #[.int .i64 t, .string d] w fun e w' => e = .returned (.tuple #[.string (showDS showV4S showV6S t d).1, .int .i64 (showDS showV4S showV6S t d).2]) ∧ Below w.heap.size w w' := by
  unfold showDS
  by_cases hc : cutCode t d = 0
  · rw [if_pos hc]
    obtain ⟨hd, hsp, ps, hps⟩ := cut_parts hc
    by_cases h1 : t = 1
    · subst h1
      have hz := addr_size (k := 4) hsp
      have e1 : (showV4S d).2 = 0 := by rw [showV4S, if_pos hz]
      have e2 : joinS (dataWords showV4S showV6S 1 d) = (showV4S d).1 := by
        rw [dataWords, show formOf 1 = some (.inl [4]) from rfl]
        show joinS [(showV4S (d.extract 0 4)).1] = _
        rw [joinS_one, ← hz, ext_all]
      have := specShowData_v4 d w hd hc
      rw [e1] at this
      simp only [e2]
      exact this
    by_cases h28 : t = 28
    · subst h28
      have hz := addr_size (k := 16) hsp
      have e1 : (showV6S d).2 = 0 := by
        rw [showV6S, if_pos hz]
        split <;> rfl
      have e2 : joinS (dataWords showV4S showV6S 28 d) = (showV6S d).1 := by
        rw [dataWords, show formOf 28 = some (.inl [5]) from rfl]
        show joinS [(showV6S (d.extract 0 16)).1] = _
        rw [joinS_one, ← hz, ext_all]
      have := specShowData_v6 d w hd hc
      rw [e1] at this
      simp only [e2]
      exact this
    obtain ⟨R, hR, hJ, hL⟩ := data_rest (S4 := showV4S) (S6 := showV6S) h1 h28 hd hps
    obtain ⟨b1, b2⟩ := data_len (S4 := showV4S) (S6 := showV6S) v4_len v6_len hc
    have := specShowData_loop t d w ps R hc hps hd h1 h28 hR (by omega) (by rw [hJ]; omega)
    rw [hJ] at this
    exact this
  · rw [if_neg hc]
    exact specShowData_bad t d w hc
end Go.Proofs.YtechmpdfbpehiaaGreatDoor
