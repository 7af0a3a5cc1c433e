import Derived.Test.YtechmpdfbpehiaaGreatDoorJMsI
import Derived.Test.YtechmpdfbpehiaaGreatDoorJSCheck
import Derived.Test.YtechmpdfbpehiaaGreatDoorJTxt1
import Derived.Test.YtechmpdfbpehiaaGreatDoorJNumM
/- spec.ShowData by its contract: types but for addresses. -/
namespace Go.Proofs.YtechmpdfbpehiaaGreatDoor
open Go.RowKit
set_option linter.unusedVariables false

theorem byte_ne {c k : UInt8} (h : c ≠ k) : ((c.toNat : Int) == (k.toNat : Int)) = false := by
  rw [beq_eq_false_iff_ne]
  intro e
  exact h (UInt8.toNat_inj.1 (by omega))

theorem joinS_snoc_le (l : List ByteArray) (x : ByteArray) : (joinS l).size ≤ (joinS (l ++ [x])).size := by
  rcases Nat.eq_zero_or_pos l.length with h | h
  · have : l = [] := List.eq_nil_of_length_eq_zero h
    subst this
    exact Nat.zero_le _
  · rw [joinS_snoc x (fun e => by subst e; simp at h)]
    simp only [ByteArray.size_append]
    omega
theorem joinS_app_le : ∀ (b a : List ByteArray), (joinS a).size ≤ (joinS (a ++ b)).size := by
  intro b
  induction b with
  | nil => intro a; simp
  | cons y b ih =>
    intro a
    have e : a ++ y :: b = (a ++ [y]) ++ b := by simp
    rw [e]
    exact Nat.le_trans (joinS_snoc_le a y) (ih _)

theorem hex_two0 : ∀ c : Nat, c < 256 → ((hexS (c + 256)).extract 1 (hexS (c + 256)).size).data.toList = [hexDig (c / 16), hexDig (c % 16)] := by decide +kernel
theorem hex_two1 : ∀ c : Nat, c < 256 → (hexS (c + 256)).size = 3 := by decide +kernel
theorem byHex_snoc {d : ByteArray} {k : Nat} (h : k < d.size) : (⟨(byHex (d.data.toList.take k)).toArray⟩ : ByteArray) ++ (hexS (d[k].toNat + 256)).extract 1 (hexS (d[k].toNat + 256)).size = ⟨(byHex (d.data.toList.take (k + 1))).toArray⟩ := by
  apply ba_ext
  rw [byHex_step (Nm.get_data h)]
  simp only [ByteArray.data_append, Array.toList_append]
  rw [hex_two0 _ d[k].toNat_lt]

theorem num_small (s : ByteArray) (h : s.size ≤ 4) : numL s.data.toList < 9223372036854775808 := by
  have h1 := numL_lt s.data.toList
  have h2 : s.data.toList.length ≤ 4 := by simpa using h
  have h3 : 256 ^ s.data.toList.length ≤ 256 ^ 4 := Nat.pow_le_pow_right (by decide) h2
  omega

set_option maxRecDepth 100000 in
set_option maxHeartbeats 8000000 in
theorem specShowData_loop (t : Int) (d : ByteArray) (w : World) (ps R : List ByteArray) (hc : cutCode t d = 0) (hps : Dt.parts (Dt.specP t) d = some ps) (hd : d.size ≤ 65535) (h1 : t ≠ 1) (h28 : t ≠ 28) (hR : Rest (Dt.formS t) (scriptS t) d ps R 30 0 0 []) (hRl : R.length ≤ 16000001) (hRs : (joinS R).size ≤ 1000000000) :
    Calls Tryz.prog 15 #[.int .i64 t, .string d] w fun e w' => e = .returned (.tuple #[.string (joinS R), .int .i64 0]) ∧ Below w.heap.size w w' := by
  obtain ⟨i0, hi, hz0, hz1, hz2⟩ := info_parts Tryz.infoStr
  have hck := specCheckData_any t d w
  rw [hc] at hck
  have hfm := fun W => l02Form_any t W
  have hpt := fun W => l02Parts_any (Dt.formS t) d W (form_ok t) hd
  have hsc := fun W => l03Script_any t W
  have hok := form_ok t
  have b1 : (t == 1) = false := by rw [beq_eq_false_iff_ne]; exact h1
  have b2 : (t == 28) = false := by rw [beq_eq_false_iff_ne]; exact h28
  have HR := Nm.hide hR
  have HPS : Hid (∀ (W : World) (B : Nat) (v : Value), (∀ qs, Dt.parts ((Dt.formS t).data.toList.map Dt.letP) d = some qs → W.ownsRow B 9 1 v qs.length (qs.map Value.string)) → W.ownsRow B 9 1 v ps.length (ps.map Value.string)) := fun W B v h => h ps hps
  generalize hJ : joinS R = J
  generalize (Dt.parts ((Dt.formS t).data.toList.map Dt.letP) d).isSome = isS at *
  generalize hF : Dt.formS t = fm at *
  generalize scriptS t = sc at *
  clear hc hps hR h1 h28
  go_enter Tryz.func15, Tryz.ntmps15
  go_wp2_with (first | (go_at_call 13; refine hck.mono ?_; rintro e w1 ⟨rfl, hb1⟩) | (go_at_call 27; refine (hfm _).mono ?_; rintro e wf ⟨rfl, hw⟩; obtain rfl := hw.symm; clear hw) | (go_at_call 26; refine (hpt _).mono ?_; rintro e w2 ⟨vp, rfl, hrow, hb2⟩; have o2 := HPS.out _ _ _ hrow; obtain ⟨pa, pc, rfl⟩ := row_sl o2; clear hrow) | (go_at_call 31; refine (hsc _).mono ?_; rintro e wf ⟨rfl, hw⟩; obtain rfl := hw.symm; clear hw))
  have o0 := World.ownsRow_lit (base := w2.heap.size) (e := 9) (size := 1) w2 #[] 0 (Nat.le_refl _) (by decide) rfl
  have bw2 := Nm.below_two hb1 hb2
  have cp : CRow w2 (.slice pa ps.length pc) ps.length 1 (ps.map Value.string) := CRow.of_owns o2
  obtain ⟨_, pa', pc', hv, hcap, hmx, hpc⟩ := cp
  cases hv
  clear hck hfm hpt hsc o2 HPS hb1 hb2
  have hsh := fun (c : UInt8) (p X : ByteArray) (h : Sh c p X) W => l03Shown_any h W
  go_loopw [10, 11, 13] (fun vo vq vi wr => ∃ (f i q : Nat) (out : List ByteArray), vq = .int .i64 q ∧ vi = .int .i64 i ∧ i ≤ fm.size ∧ q ≤ 65536 * (i + 1) ∧ Hid (Rest fm sc d ps R f i q out) ∧ wr.ownsRow w2.heap.size 9 1 vo out.length (out.map Value.string) ∧ Below w2.heap.size w2 wr)
    (fun _ _ vi _ => fm.size - (intOf vi).toNat)
  case atStart => exact ⟨30, 0, 0, [], rfl, rfl, Nat.zero_le _, by omega, HR, o0, (Below.refl _ _).alloc (Nat.le_refl _) _⟩
  case round =>
    obtain ⟨f, i, q, out, rfl, rfl, hif, hq, HRE, oO, hbel⟩ := hrel
    clear o0 HR
    have hsz := hbel.size
    have hol := Nat.le_trans (rest_le _ _ _ _ HRE.out) hRl
    have hfs := hok.1
    rcases rest_open HRE.out with ⟨rfl, rfl⟩ | ⟨f', hlt, ⟨hb, h2, hq2, hi2, hrest⟩ | ⟨p, hp, hpl, ⟨hm, hrest⟩ | ⟨hst, hrest⟩ | ⟨X, hX, hrest⟩⟩⟩
    · obtain ⟨oa, oc, hov⟩ := row_sl oO
      subst hov
      have hlt' : (fm.size : Int) ≤ (fm.size : Int) := by omega
      have oR := CRow.of_owns oO
      obtain ⟨_, oa', oc', hv, hcap2, hmx2, hoc⟩ := oR
      cases hv
      obtain ⟨wo, hwo⟩ : ∃ wo, wo = wr := ⟨wr, rfl⟩
      subst hwo
      clear HRE hsh hpc
      go_wp2
      go_loopw [20, 21] (fun vt vi wr => ∃ (k : Nat) (X : ByteArray), vt = .string X ∧ vi = .int .i64 k ∧ k ≤ out.length ∧ Hid (X = joinS (out.take k)) ∧ Below wo.heap.size wo wr)
        (fun _ vi _ => out.length - (intOf vi).toNat)
      case atStart => exact ⟨0, ⟨#[]⟩, rfl, rfl, Nat.zero_le _, rfl, Below.refl _ _⟩
      case round =>
        obtain ⟨k, X, rfl, rfl, hk, HX, hbk⟩ := hrel
        by_cases hko : k < out.length
        · have hko' : (k : Int) < (out.length : Int) := by omega
          obtain ⟨x, hx⟩ : ∃ x, out[k]? = some x := ⟨_, List.getElem?_eq_getElem hko⟩
          obtain ⟨b, off, rfl, hcell⟩ := hoc (by omega)
          have hcx0 := hcell k (.string x) (by simp [hx])
          have hcx : wr.cell? ⟨b, off + k, none⟩ = some (.string x) := (hbk.cell (World.block_lt_of_cell? wo _ hcx0)).trans hcx0
          have htk : out.take (k + 1) = out.take k ++ [x] := by rw [List.take_add_one, hx]; rfl
          have hszk := joinS_app_le (out.drop (k + 1)) (out.take (k + 1))
          rw [List.take_append_drop, htk] at hszk
          have h32 : (⟨#[32]⟩ : ByteArray).size = 1 := rfl
          by_cases hk0 : k = 0
          · have hkz : (k : Int) ≤ 0 := by omega
            have htz : out.take k = [] := by rw [hk0, List.take_zero]
            have hX0 : X = ⟨#[]⟩ := by rw [HX.out, htz]; rfl
            subst hX0
            have hxs : x.size ≤ 1000000000 := by
              rw [htz, List.nil_append, joinS_one] at hszk
              omega
            have e0 : (⟨#[]⟩ : ByteArray).size = 0 := rfl
            have ha1 : ∀ W, (Go.Op.stringOp .add ⟨#[]⟩ x).run Tryz.prog W = .ok (.string (⟨#[]⟩ ++ x)) W := fun W => run_string_add_sum W _ _ (by omega)
            have HX2 : Hid ((⟨#[]⟩ : ByteArray) ++ x = joinS (out.take (k + 1))) := by
              rw [Hid, htk, htz, List.nil_append, joinS_one]
              apply ba_ext
              simp [ByteArray.data_append]
            clear hszk htk hcell hoc HX e0 htz hk0
            generalize (⟨#[]⟩ : ByteArray) ++ x = Z at *
            go_wp2
            go_roundw
            case rel => exact ⟨k + 1, Z, rfl, by go_num, by omega, HX2, hbk⟩
            case measure => simp [intOf]; omega
          · have hk0' : (0 : Int) < (k : Int) := by omega
            have hne : out.take k ≠ [] := fun e => by
              have := congrArg List.length e
              simp at this
              rcases this with h | h
              · omega
              · subst h; simp at hko
            have hxs : X.size + 1 + x.size ≤ 1000000000 := by
              rw [joinS_snoc x hne, ← HX.out] at hszk
              simp only [ByteArray.size_append, h32] at hszk
              omega
            have ha0 : ∀ W, (Go.Op.stringOp .add X ⟨#[32]⟩).run Tryz.prog W = .ok (.string (X ++ ⟨#[32]⟩)) W := fun W => run_string_add_sum W _ _ (by omega)
            have ha1 : ∀ W, (Go.Op.stringOp .add (X ++ ⟨#[32]⟩) x).run Tryz.prog W = .ok (.string (X ++ ⟨#[32]⟩ ++ x)) W := fun W => run_string_add_sum W _ _ (by rw [ByteArray.size_append]; omega)
            have HX2 : Hid (X ++ ⟨#[32]⟩ ++ x = joinS (out.take (k + 1))) := by rw [Hid, htk, joinS_snoc x hne, HX.out]
            clear hszk htk hcell hoc HX hne h32
            generalize X ++ ⟨#[32]⟩ ++ x = Z at *
            generalize X ++ ⟨#[32]⟩ = Z0 at *
            go_wp2
            go_roundw
            case rel => exact ⟨k + 1, Z, rfl, by go_num, by omega, HX2, hbk⟩
            case measure => simp [intOf]; omega
        · have hko' : (out.length : Int) ≤ (k : Int) := by omega
          have hXJ : X = J := by
            have h1 := HX.out
            rw [List.take_of_length_le (by omega)] at h1
            rw [h1, hJ]
          go_wp2
          go_ret2
          rw [hXJ]
          exact ⟨rfl, Nm.below_two (Nm.below_two bw2 hbel) hbk⟩
    · have hlt' : (i : Int) < (fm.size : Int) := by omega
      have hi100 : (i : Int) ≤ 100 := by omega
      obtain ⟨oa, oc, hov⟩ := row_sl oO
      subst hov
      have hby : ∀ W, (Instr.index 9 (.string fm) (.int .i64 (i : Int))).run Tryz.prog W = .ok (.int .u8 98) W := fun W => by rw [byte_at fm i hlt W, hb]; rfl
      have hsy0 := byte_at sc out.length h2
      have h2' : (out.length : Int) < (sc.size : Int) := by omega
      by_cases s50 : sc[out.length] = 50
      · have hw : widthOf sc[out.length] = 2 := by simp [widthOf, s50]
        rw [hw] at hq2 hi2 hrest
        have hsy : ∀ W, (Instr.index 9 (.string sc) (.int .i64 (out.length : Int))).run Tryz.prog W = .ok (.int .u8 50) W := fun W => by rw [hsy0 W, s50]; rfl
        have hqd : (q : Int) + 2 ≤ (d.size : Int) := by omega
        clear hsy0 hw s50
        have hnum := fun Wd => l02Num_any (d.extract q (q + 2)) Wd (by simp; omega)
        have hnl : numL (d.extract q (q + 2)).data.toList < 9223372036854775808 := num_small (d.extract q (q + 2)) (by simp; omega)
        have hdec := fun Wd => l03Dec_any (numL (d.extract q (q + 2)).data.toList) Wd hnl
        have HRE2 := Nm.hide hrest
        clear hrest HRE hsh hpc hnl hb
        generalize decS (numL (d.extract q (q + 2)).data.toList) = D at *
        generalize numL (d.extract q (q + 2)).data.toList = Nn at *
        go_wp2_with (first | (go_at_call 32; refine (hnum _).mono ?_; rintro e wn ⟨rfl, hw⟩; obtain rfl := hw.symm; clear hw) | (go_at_call 16; refine (hdec _).mono ?_; rintro e w3 ⟨rfl, hb3⟩; have oO3 := own_below oO hb3; have hS3 := hbel.trans (hb3.mono hsz)) | (at_builtin; refine wpList_append_own _ rfl (.tmp 83) (.tmp 92) 55 rfl w2.heap.size 9 i0 (.string ByteArray.empty) 1 16 Tryz.underlying55 hi hz0 hz1 hz2 rfl (by decide) _ _ _ rfl (oO3.alloc _) ⟨w3.heap.size, 0, none⟩ 1 1 [.string D] rfl rfl (cell_new1 _ _ _) (Nm.one_cell _ rfl) (by unfold maxLen; omega) (by omega) (by have := hS3.size; simp; omega) ?_))
        intro va wa hown' hgrow _
        obtain ⟨o4, b4⟩ := own_step hS3.size oO3 hS3 _ hown' hgrow
        clear hown' hgrow oO3 hS3 oO hbel
        go_wp2
        go_roundw
        case rel => exact ⟨f', i + 2, q + 2, out ++ [D], by go_num, by go_num, by omega, by omega, HRE2, o4, b4⟩
        case measure => simp [intOf]; omega
      · by_cases s52 : sc[out.length] = 52
        · have hw : widthOf sc[out.length] = 4 := by simp [widthOf, s52]
          rw [hw] at hq2 hi2 hrest
          have hsy : ∀ W, (Instr.index 9 (.string sc) (.int .i64 (out.length : Int))).run Tryz.prog W = .ok (.int .u8 52) W := fun W => by rw [hsy0 W, s52]; rfl
          have hqd : (q : Int) + 4 ≤ (d.size : Int) := by omega
          clear hsy0 hw s50 s52
          have hnum := fun Wd => l02Num_any (d.extract q (q + 4)) Wd (by simp; omega)
          have hnl : numL (d.extract q (q + 4)).data.toList < 9223372036854775808 := num_small (d.extract q (q + 4)) (by simp; omega)
          have hdec := fun Wd => l03Dec_any (numL (d.extract q (q + 4)).data.toList) Wd hnl
          have HRE2 := Nm.hide hrest
          clear hrest HRE hsh hpc hnl hb
          generalize decS (numL (d.extract q (q + 4)).data.toList) = D at *
          generalize numL (d.extract q (q + 4)).data.toList = Nn at *
          go_wp2_with (first | (go_at_call 32; refine (hnum _).mono ?_; rintro e wn ⟨rfl, hw⟩; obtain rfl := hw.symm; clear hw) | (go_at_call 16; refine (hdec _).mono ?_; rintro e w3 ⟨rfl, hb3⟩; have oO3 := own_below oO hb3; have hS3 := hbel.trans (hb3.mono hsz)) | (at_builtin; refine wpList_append_own _ rfl (.tmp 83) (.tmp 92) 55 rfl w2.heap.size 9 i0 (.string ByteArray.empty) 1 16 Tryz.underlying55 hi hz0 hz1 hz2 rfl (by decide) _ _ _ rfl (oO3.alloc _) ⟨w3.heap.size, 0, none⟩ 1 1 [.string D] rfl rfl (cell_new1 _ _ _) (Nm.one_cell _ rfl) (by unfold maxLen; omega) (by omega) (by have := hS3.size; simp; omega) ?_))
          intro va wa hown' hgrow _
          obtain ⟨o4, b4⟩ := own_step hS3.size oO3 hS3 _ hown' hgrow
          clear hown' hgrow oO3 hS3 oO hbel
          go_wp2
          go_roundw
          case rel => exact ⟨f', i + 4, q + 4, out ++ [D], by go_num, by go_num, by omega, by omega, HRE2, o4, b4⟩
          case measure => simp [intOf]; omega
        · by_cases s84 : sc[out.length] = 84
          · have hw : widthOf sc[out.length] = 4 := by simp [widthOf, s84]
            rw [hw] at hq2 hi2 hrest
            have hsy : ∀ W, (Instr.index 9 (.string sc) (.int .i64 (out.length : Int))).run Tryz.prog W = .ok (.int .u8 84) W := fun W => by rw [hsy0 W, s84]; rfl
            have hqd : (q : Int) + 4 ≤ (d.size : Int) := by omega
            clear hsy0 hw s50 s52 s84
            have hnum := fun Wd => l02Num_any (d.extract q (q + 4)) Wd (by simp; omega)
            have hnl : numL (d.extract q (q + 4)).data.toList < 9223372036854775808 := num_small (d.extract q (q + 4)) (by simp; omega)
            have hdec := fun Wd => l03Dec_any (numL (d.extract q (q + 4)).data.toList) Wd hnl
            have HRE2 := Nm.hide hrest
            clear hrest HRE hsh hpc hnl hb
            generalize decS (numL (d.extract q (q + 4)).data.toList) = D at *
            generalize numL (d.extract q (q + 4)).data.toList = Nn at *
            go_wp2_with (first | (go_at_call 32; refine (hnum _).mono ?_; rintro e wn ⟨rfl, hw⟩; obtain rfl := hw.symm; clear hw) | (go_at_call 16; refine (hdec _).mono ?_; rintro e w3 ⟨rfl, hb3⟩; have oO3 := own_below oO hb3; have hS3 := hbel.trans (hb3.mono hsz)) | (at_builtin; refine wpList_append_own _ rfl (.tmp 83) (.tmp 92) 55 rfl w2.heap.size 9 i0 (.string ByteArray.empty) 1 16 Tryz.underlying55 hi hz0 hz1 hz2 rfl (by decide) _ _ _ rfl (oO3.alloc _) ⟨w3.heap.size, 0, none⟩ 1 1 [.string D] rfl rfl (cell_new1 _ _ _) (Nm.one_cell _ rfl) (by unfold maxLen; omega) (by omega) (by have := hS3.size; simp; omega) ?_))
            intro va wa hown' hgrow _
            obtain ⟨o4, b4⟩ := own_step hS3.size oO3 hS3 _ hown' hgrow
            clear hown' hgrow oO3 hS3 oO hbel
            go_wp2
            go_roundw
            case rel => exact ⟨f', i + 4, q + 4, out ++ [D], by go_num, by go_num, by omega, by omega, HRE2, o4, b4⟩
            case measure => simp [intOf]; omega
          · have hw : widthOf sc[out.length] = 1 := by simp [widthOf, s50, s52, s84]
            rw [hw] at hq2 hi2 hrest
            have m1 : ((sc[out.length].toNat : Int) == 50) = false := byte_ne s50
            have m2 : ((sc[out.length].toNat : Int) == 52) = false := byte_ne s52
            have m3 : ((sc[out.length].toNat : Int) == 84) = false := byte_ne s84
            have hqd : (q : Int) + 1 ≤ (d.size : Int) := by omega
            have hsy := hsy0
            generalize sc[out.length].toNat = sb at *
            clear hsy0 hw s50 s52 s84
            have hnum := fun Wd => l02Num_any (d.extract q (q + 1)) Wd (by simp; omega)
            have hnl : numL (d.extract q (q + 1)).data.toList < 9223372036854775808 := num_small (d.extract q (q + 1)) (by simp; omega)
            have hdec := fun Wd => l03Dec_any (numL (d.extract q (q + 1)).data.toList) Wd hnl
            have HRE2 := Nm.hide hrest
            clear hrest HRE hsh hpc hnl hb
            generalize decS (numL (d.extract q (q + 1)).data.toList) = D at *
            generalize numL (d.extract q (q + 1)).data.toList = Nn at *
            go_wp2_with (first | (go_at_call 32; refine (hnum _).mono ?_; rintro e wn ⟨rfl, hw⟩; obtain rfl := hw.symm; clear hw) | (go_at_call 16; refine (hdec _).mono ?_; rintro e w3 ⟨rfl, hb3⟩; have oO3 := own_below oO hb3; have hS3 := hbel.trans (hb3.mono hsz)) | (at_builtin; refine wpList_append_own _ rfl (.tmp 83) (.tmp 92) 55 rfl w2.heap.size 9 i0 (.string ByteArray.empty) 1 16 Tryz.underlying55 hi hz0 hz1 hz2 rfl (by decide) _ _ _ rfl (oO3.alloc _) ⟨w3.heap.size, 0, none⟩ 1 1 [.string D] rfl rfl (cell_new1 _ _ _) (Nm.one_cell _ rfl) (by unfold maxLen; omega) (by omega) (by have := hS3.size; simp; omega) ?_))
            intro va wa hown' hgrow _
            obtain ⟨o4, b4⟩ := own_step hS3.size oO3 hS3 _ hown' hgrow
            clear hown' hgrow oO3 hS3 oO hbel
            go_wp2
            go_roundw
            case rel => exact ⟨f', i + 1, q + 1, out ++ [D], by go_num, by go_num, by omega, by omega, HRE2, o4, b4⟩
            case measure => simp [intOf]; omega
    · have hlt' : (i : Int) < (fm.size : Int) := by omega
      have hi100 : (i : Int) ≤ 100 := by omega
      have hby : ∀ W, (Instr.index 9 (.string fm) (.int .i64 (i : Int))).run Tryz.prog W = .ok (.int .u8 109) W := fun W => by rw [byte_at fm i hlt W, hm]; rfl
      have hpi : i < ps.length := (List.getElem?_eq_some_iff.1 hp).1
      have hpi' : (i : Int) < (ps.length : Int) := by omega
      obtain ⟨b, off, rfl, hcell⟩ := hpc (by omega)
      have hcx0 := hcell i (.string p) (by simp [hp])
      have hcx : ∀ W, Below w2.heap.size w2 W → W.cell? ⟨b, off + i, none⟩ = some (.string p) := fun W hW => (hW.cell (World.block_lt_of_cell? w2 _ hcx0)).trans hcx0
      have hcr := hcx wr hbel
      have hmt := fun W => specMapTypes_any p W (by omega)
      have hrl := rest_le _ _ _ _ hrest
      have HRE2 := Nm.hide hrest
      have hqs : (q : Int) + (p.size : Int) ≤ 1000000000 := by omega
      unfold tyWords at HRE2 hrl
      generalize mapC (mapS p) = C at *
      generalize mapL (mapS p) (typesOf (blocksS p)) = l at *
      have hll : out.length + l.length ≤ 16000001 := by simp at hrl; omega
      clear hrest hrl HRE hcell hcx0 hsh hpc
      obtain ⟨wo, hwo⟩ : ∃ wo, wo = wr := ⟨wr, rfl⟩
      subst hwo
      go_wp2_with (go_at_call 33; refine (hmt _).mono ?_; rintro e w3 ⟨vl, rfl, ol, hb3⟩; obtain ⟨la, lc, rfl⟩ := row_sl ol)
      have oO3 := own_below oO hb3
      have hS3 := hbel.trans (hb3.mono hsz)
      have oL3 := own_base ol hsz
      clear oO hbel ol hb3 hcr
      go_loopw [10, 17] (fun vo vk wr => ∃ (k : Nat) (ls : List ByteArray), vk = .int .i64 k ∧ k ≤ l.length ∧ Hid (ls = out ++ (l.take k).map showTypeS) ∧ ls.length ≤ 16000001 ∧ wr.ownsRow w2.heap.size 9 1 vo ls.length (ls.map Value.string) ∧ wr.ownsRow w2.heap.size 2 1 (.slice la l.length lc) l.length (intCells l) ∧ Below w2.heap.size w2 wr)
        (fun _ vk _ => l.length - (intOf vk).toNat)
      case atStart => exact ⟨0, out, rfl, Nat.zero_le _, by rw [Hid]; simp, by omega, oO3, oL3, hS3⟩
      case round =>
        clear oO3 oL3 hS3
        obtain ⟨k, ls, rfl, hk, HLS, hlsl, oS, oL, hbk⟩ := hrel
        have hszk := hbk.size
        by_cases hkl : k < l.length
        · have hkl' : (k : Int) < (l.length : Int) := by omega
          obtain ⟨ty, hty⟩ : ∃ ty, l[k]? = some ty := ⟨_, List.getElem?_eq_getElem hkl⟩
          obtain ⟨_, a', cap', hv, hcap3, hmx3, hlc⟩ := CRow.of_owns oL
          cases hv
          obtain ⟨b2, off2, rfl, hcell2⟩ := hlc (by omega)
          have hcx2 : wr.cell? ⟨b2, off2 + k, none⟩ = some (.int .i64 ty) := hcell2 k _ (by simp [intCells, hty])
          have HLS2 : Hid (ls ++ [showTypeS ty] = out ++ (l.take (k + 1)).map showTypeS) := by
            rw [Hid, HLS.out, List.take_add_one, hty]; simp
          have HLL : Hid ((ls ++ [showTypeS ty]).length ≤ 16000001) := by
            rw [Hid]
            have : ls.length = out.length + k := by rw [HLS.out]; simp; omega
            simp; omega
          have hcall := specShowType_any ty wr
          clear hlc hcell2 hty HLS
          generalize showTypeS ty = X at *
          go_wp2_with (first | (go_at_call 17; refine hcall.mono ?_; rintro e w5 ⟨rfl, hb5⟩; have oS5 := own_below oS hb5; have oL5 := own_below oL hb5; have hS5 := hbk.trans (hb5.mono hszk)) | (at_builtin; refine wpList_append_own _ rfl (.tmp 117) (.tmp 123) 55 rfl w2.heap.size 9 i0 (.string ByteArray.empty) 1 16 Tryz.underlying55 hi hz0 hz1 hz2 rfl (by decide) _ _ _ rfl (oS5.alloc _) ⟨w5.heap.size, 0, none⟩ 1 1 [.string X] rfl rfl (cell_new1 _ _ _) (Nm.one_cell _ rfl) (by unfold maxLen; omega) (by omega) (by have := hS5.size; simp; omega) ?_))
          intro va wa hown' hgrow _
          have oL6 := own_apart (oL5.alloc _) (oS5.alloc _) (by decide) hgrow
          obtain ⟨o6, b6⟩ := own_step hS5.size oS5 hS5 _ hown' hgrow
          clear hown' hgrow oS oL oS5 oL5 hbk
          go_wp2
          go_roundw
          case rel => exact ⟨k + 1, ls ++ [X], by go_num, by omega, HLS2, HLL.out, o6, oL6, b6⟩
          case measure => simp [intOf]; omega
        · have hkl' : (l.length : Int) ≤ (k : Int) := by omega
          have hlsq : Hid (ls = out ++ l.map showTypeS) := by
            have h1 := HLS.out
            rw [List.take_of_length_le (by omega)] at h1
            exact h1
          rw [← hlsq.out] at HRE2
          have hcr := hcx wr hbk
          go_wp2
          go_roundw
          case rel => exact ⟨f', i + 1, q + p.size, ls, by go_num, by go_num, by omega, by omega, HRE2, oS, hbk⟩
          case measure => simp [intOf]; omega
    · have hlt' : (i : Int) < (fm.size : Int) := by omega
      have hi100 : (i : Int) ≤ 100 := by omega
      have hby : ∀ W, (Instr.index 9 (.string fm) (.int .i64 (i : Int))).run Tryz.prog W = .ok (.int .u8 42) W := fun W => by rw [byte_at fm i hlt W, hst]; rfl
      have hpi : i < ps.length := (List.getElem?_eq_some_iff.1 hp).1
      have hpi' : (i : Int) < (ps.length : Int) := by omega
      obtain ⟨b, off, rfl, hcell⟩ := hpc (by omega)
      have hcx0 := hcell i (.string p) (by simp [hp])
      have hcx : ∀ W, Below w2.heap.size w2 W → W.cell? ⟨b, off + i, none⟩ = some (.string p) := fun W hW => (hW.cell (World.block_lt_of_cell? w2 _ hcx0)).trans hcx0
      have hrl := rest_le _ _ _ _ hrest
      have HRE2 := Nm.hide hrest
      have hqs : (q : Int) + (p.size : Int) ≤ 1000000000 := by omega
      have hdec := fun W => l03Dec_any d.size W (by omega)
      have hol2 : out.length + 2 ≤ 16000001 := by
        have : 2 ≤ (plainWords d).length := by unfold plainWords; simp
        simp only [List.length_append] at hrl
        omega
      have HOL3 : Hid (d.size ≠ 0 → out.length + 3 ≤ 16000001) := by
        intro h0
        have : (plainWords d).length = 3 := by unfold plainWords; simp [h0]
        simp only [List.length_append] at hrl
        omega
      clear hrest hrl HRE hcell hcx0 hsh hpc
      obtain ⟨wo, hwo⟩ : ∃ wo, wo = wr := ⟨wr, rfl⟩
      subst hwo
      go_wp2_with fail
      go_loopw [18, 19] (fun vh vk wr => ∃ (k : Nat) (X : ByteArray), vh = .string X ∧ vk = .int .i64 k ∧ k ≤ d.size ∧ X.size = 2 * k ∧ Hid (X = ⟨(byHex (d.data.toList.take k)).toArray⟩) ∧ Below wo.heap.size wo wr)
        (fun _ vk _ => d.size - (intOf vk).toNat)
      case atStart => exact ⟨0, ⟨#[]⟩, rfl, rfl, Nat.zero_le _, rfl, rfl, Below.refl _ _⟩
      case round =>
        obtain ⟨k, X, rfl, rfl, hk, hXs, HX, hbk⟩ := hrel
        have hszk := hbk.size
        by_cases hkd : k < d.size
        · have hkd' : (k : Int) < (d.size : Int) := by omega
          have hbk2 := byte_at d k hkd
          have hbw := byte_wide d[k]
          have hcl := d[k].toNat_lt
          have hhx := fun W => l03HexOf_any (d[k].toNat + 256) W (by omega)
          have h3 := hex_two1 d[k].toNat d[k].toNat_lt
          have HS := byHex_snoc hkd
          rw [← HX.out] at HS
          have HS2 := Nm.hide HS
          have hys : ((hexS (d[k].toNat + 256)).extract 1 (hexS (d[k].toNat + 256)).size).size = 2 := by simp [h3]
          clear HS HX
          generalize hexS (d[k].toNat + 256) = Z at *
          have hcast : ((d[k].toNat + 256 : Nat) : Int) = (d[k].toNat : Int) + 256 := by omega
          simp only [hcast] at hhx
          generalize d[k].toNat = c at *
          have ha1 : ∀ W, (Go.Op.stringOp .add X (Z.extract 1 Z.size)).run Tryz.prog W = .ok (.string (X ++ Z.extract 1 Z.size)) W := fun W => run_string_add_sum W _ _ (by omega)
          have hsz2 : (X ++ Z.extract 1 Z.size).size = 2 * (k + 1) := by rw [ByteArray.size_append]; omega
          go_wp2_with (go_at_call 34; refine (hhx _).mono ?_; rintro e w1 ⟨rfl, m2, rfl⟩)
          go_roundw
          case rel => exact ⟨k + 1, X ++ Z.extract 1 Z.size, by rw [h3], by go_num, by omega, hsz2, HS2, Go.below_drewN hbk _⟩
          case measure => simp [intOf]; omega
        · have hkd' : (d.size : Int) ≤ (k : Int) := by omega
          have hbel2 := hbel.trans (hbk.mono hbel.size)
          have oO2 := own_below oO hbk
          have hke : k = d.size := by omega
          have HXe : Hid (X = ⟨(byHex d.data.toList).toArray⟩) := by
            have h := HX.out
            rw [List.take_of_length_le (by rw [hke]; simp)] at h
            exact h
          have hl1 : (out ++ [(⟨#[92, 35]⟩ : ByteArray)]).length ≤ 16000000 := by simp; omega
          have HPW : Hid (plainWords d = ⟨#[92, 35]⟩ :: decS d.size :: (if d.size = 0 then [] else [X])) := by rw [Hid, HXe.out]; rfl
          clear HX HXe
          generalize decS d.size = D at *
          go_wp2_with (at_builtin; refine wpList_append_own _ rfl (.tmp 142) (.tmp 143) 55 rfl w2.heap.size 9 i0 (.string ByteArray.empty) 1 16 Tryz.underlying55 hi hz0 hz1 hz2 rfl (by decide) _ _ _ rfl (oO2.alloc _) ⟨wr.heap.size, 0, none⟩ 1 1 [.string ⟨#[92, 35]⟩] rfl rfl (cell_new1 _ _ _) (Nm.one_cell _ rfl) (by unfold maxLen; omega) (by omega) (by have := hbel2.size; simp; omega) ?_)
          intro va wa hown' hgrow _
          obtain ⟨o4, b4⟩ := own_step hbel2.size oO2 hbel2 _ hown' hgrow
          clear hown' hgrow oO2 oO hbel2 hbel hbk
          generalize hO1 : out ++ [(⟨#[92, 35]⟩ : ByteArray)] = out1 at *
          have hl2 : (out1 ++ [D]).length ≤ 16000001 := by simp; omega
          go_wp2_with (first | (go_at_call 16; refine (hdec _).mono ?_; rintro e w5 ⟨rfl, hb5⟩; have o5 := own_below o4 hb5; have hS5 := b4.trans (hb5.mono b4.size)) | (at_builtin; refine wpList_append_own _ rfl (.tmp 145) (.tmp 149) 55 rfl w2.heap.size 9 i0 (.string ByteArray.empty) 1 16 Tryz.underlying55 hi hz0 hz1 hz2 rfl (by decide) _ _ _ rfl (o5.alloc _) ⟨w5.heap.size, 0, none⟩ 1 1 [.string D] rfl rfl (cell_new1 _ _ _) (Nm.one_cell _ rfl) (by unfold maxLen; omega) (by omega) (by have := hS5.size; simp; omega) ?_))
          intro vb wb hown' hgrow _
          obtain ⟨o6, b6⟩ := own_step hS5.size o5 hS5 _ hown' hgrow
          clear hown' hgrow o5 o4 hS5 b4
          by_cases hx0 : X.size = 0
          · obtain ⟨hx0', hx0''⟩ := beq_empty hx0
            have hd0 : d.size = 0 := by omega
            have HE : Hid (out ++ plainWords d = out1 ++ [D]) := by
              rw [Hid, HPW.out, if_pos hd0, ← hO1]; simp
            rw [HE.out] at HRE2
            have hcr := hcx wb b6
            go_wp2
            go_roundw
            case rel => exact ⟨f', i + 1, q + p.size, out1 ++ [D], by go_num, by go_num, by omega, by omega, HRE2, o6, b6⟩
            case measure => simp [intOf]; omega
          · obtain ⟨hx0', hx0''⟩ := not_empty (s := X) (by omega)
            have hd0 : d.size ≠ 0 := by omega
            have hl3 := HOL3.out hd0
            have HE : Hid (out ++ plainWords d = out1 ++ [D] ++ [X]) := by
              rw [Hid, HPW.out, if_neg hd0, ← hO1]; simp
            rw [HE.out] at HRE2
            have hl4 : (out1 ++ [D]).length ≤ 16000000 := by rw [← hO1]; simp; omega
            generalize hO2 : out1 ++ [D] = out2 at *
            go_wp2_with (at_builtin; refine wpList_append_own _ rfl (.tmp 153) (.tmp 155) 55 rfl w2.heap.size 9 i0 (.string ByteArray.empty) 1 16 Tryz.underlying55 hi hz0 hz1 hz2 rfl (by decide) _ _ _ rfl (o6.alloc _) ⟨wb.heap.size, 0, none⟩ 1 1 [.string X] rfl rfl (cell_new1 _ _ _) (Nm.one_cell _ rfl) (by unfold maxLen; omega) (by omega) (by have := b6.size; simp; omega) ?_)
            intro vc wc hown' hgrow _
            obtain ⟨o7, b7⟩ := own_step b6.size o6 b6 _ hown' hgrow
            clear hown' hgrow o6 b6
            have hcr := hcx wc b7
            go_wp2
            go_roundw
            case rel => exact ⟨f', i + 1, q + p.size, out2 ++ [X], by go_num, by go_num, by omega, by omega, HRE2, o7, b7⟩
            case measure => simp [intOf]; omega
    · have hlt' : (i : Int) < (fm.size : Int) := by omega
      have hnc : fm[i].toNat ≠ 98 ∧ fm[i].toNat ≠ 109 ∧ fm[i].toNat ≠ 42 := by
        rcases hX.2 with ⟨h, _⟩ | ⟨h, _⟩ | ⟨h, _⟩ | ⟨h, _⟩ <;> rw [h] <;> decide
      have n1 : ((fm[i].toNat : Int) == 98) = false := by rw [beq_eq_false_iff_ne]; omega
      have n2 : ((fm[i].toNat : Int) == 109) = false := by rw [beq_eq_false_iff_ne]; omega
      have n3 : ((fm[i].toNat : Int) == 42) = false := by rw [beq_eq_false_iff_ne]; omega
      have hby := byte_at fm i hlt
      have hcall := fun W => hsh fm[i] p X hX W
      have hpi : i < ps.length := (List.getElem?_eq_some_iff.1 hp).1
      have hpi' : (i : Int) < (ps.length : Int) := by omega
      obtain ⟨b, off, rfl, hcell⟩ := hpc (by omega)
      have hcx0 := hcell i (.string p) (by simp [hp])
      have hcx : ∀ W, Below w2.heap.size w2 W → W.cell? ⟨b, off + i, none⟩ = some (.string p) := fun W hW => (hW.cell (World.block_lt_of_cell? w2 _ hcx0)).trans hcx0
      have hcr := hcx wr hbel
      have HRE2 : Hid (Rest fm sc d ps R f' (i + 1) (q + p.size) (out ++ [X])) := hrest
      have hqs : (q : Int) + (p.size : Int) ≤ 1000000000 := by omega
      clear hX hrest HRE hcell hcx0 hsh hpc
      generalize fm[i].toNat = c at *
      have hi100 : (i : Int) ≤ 100 := by omega
      go_wp2_with fail
      refine wp_region_held_drew (S := fun W => Below w2.heap.size w2 W) (by kernel_rfl) hbel.drew (fun hHeld => ?_)
      refine wpAnyH_take (i := 0) (v := ?_) rfl (by kernel_rfl) (by kernel_rfl) (by kernel_rfl) (fun _ _ _ h => h) (Or.inl ⟨by rfl, ?_⟩) (by assumption) ?_
      rotate_left 1
      · (intro w hSw; go_simp; try (with_reducible rfl))
      refine wpAnyH_take (i := 1) (v := ?_) rfl (by kernel_rfl) (by kernel_rfl) (by kernel_rfl) (fun _ _ _ h => h) (Or.inl ⟨by rfl, ?_⟩) (by assumption) ?_
      rotate_left 1
      · (intro w hSw; go_simp; try (with_reducible rfl))
      refine wpAnyH_take (i := 2) (v := ?_) rfl (by kernel_rfl) (by kernel_rfl) (by kernel_rfl) (fun _ _ _ h => h) (Or.inl ⟨by rfl, ?_⟩) (by assumption) ?_
      rotate_left 1
      · (intro w hSw; go_simp; try (with_reducible rfl))
      refine wpAnyH_take (i := 3) (v := ?_) rfl (by kernel_rfl) (by kernel_rfl) (by kernel_rfl) (fun _ _ _ h => h) (Or.inl ⟨by rfl, ?_⟩) (by assumption) ?_
      rotate_left 1
      · (intro w hSw; go_simp; try (with_reducible rfl))
      refine wpAnyH_take (i := 4) (v := ?_) rfl (by kernel_rfl) (by kernel_rfl) (by kernel_rfl) (fun _ _ _ h => h) (Or.inl ⟨by rfl, ?_⟩) (by assumption) ?_
      rotate_left 1
      · (intro w hSw; go_simp; try (with_reducible rfl))
      refine wpAnyH_take (i := 5) (v := ?_) rfl (by kernel_rfl) (by kernel_rfl) (by kernel_rfl) (fun _ _ _ h => h) (Or.inl ⟨by rfl, ?_⟩) (by assumption) ?_
      rotate_left 1
      · (intro w hSw; go_simp; try (with_reducible rfl))
      refine wpAnyH_take (i := 6) (v := ?_) rfl (by kernel_rfl) (by kernel_rfl) (by kernel_rfl) (fun _ _ _ h => h) (Or.inl ⟨by rfl, ?_⟩) (by assumption) ?_
      rotate_left 1
      · (intro w hSw; go_simp; try (with_reducible rfl))
      refine wpAnyH_take (i := 7) (v := ?_) rfl (by kernel_rfl) (by kernel_rfl) (by kernel_rfl) (fun _ _ _ h => h) (Or.inl ⟨by rfl, ?_⟩) (by assumption) ?_
      rotate_left 1
      · (intro W hSW; have hcw := hcx W hSW; go_simp; try (with_reducible rfl))
      refine wpAnyH_ready (rs := [8]) (by kernel_rfl) (by simp) ?_
      refine AllReadyH.cons rfl (fun K hK => ?_) AllReadyH.nil
      go_simp
      refine (hcall _).mono ?_
      rintro e w3 ⟨rfl, hb3⟩
      have hS3 : Below w2.heap.size w2 w3 := Below.trans hHeld (hb3.mono hHeld.size)
      have oO3 := own_below (own_below oO (Below.refl _ _).drew) hb3
      go_wp2_with fail
      refine hK.out _ _ hS3 (fun _ => ?_)
      clear hK K
      refine wpAnyH_ready (rs := [9]) (by kernel_rfl) (by simp) ?_
      refine AllReadyH.cons rfl (fun K hK => ?_) AllReadyH.nil
      go_simp
      refine hK.out _ _ (hS3.alloc hS3.size _) (fun _ => ?_)
      clear hK K
      refine wpAnyH_ready (rs := [10]) (by kernel_rfl) (by simp) ?_
      refine AllReadyH.cons rfl (fun K hK => ?_) AllReadyH.nil
      refine step_append_own rfl (.tmp 61) (.tmp 70) 55 rfl w2.heap.size 9 i0 (.string ByteArray.empty) 1 16 Tryz.underlying55 hi hz0 hz1 hz2 rfl (by decide) _ _ _ (by rfl) (oO3.alloc _) ⟨w3.heap.size, 0, none⟩ 1 1 [.string X] (by rfl) rfl (cell_new1 _ _ _) (Nm.one_cell _ rfl) (by unfold maxLen; omega) (by omega) (by have := hS3.size; simp; omega) ?_
      intro va wa hown' hgrow _
      obtain ⟨o4, b4⟩ := own_step hS3.size oO3 hS3 _ hown' hgrow
      refine hK.out _ _ b4 (fun _ => ?_)
      clear hK K hown' hgrow oO3 hS3 hHeld
      refine wpAnyH_take (i := 11) (v := ?_) rfl (by kernel_rfl) (by kernel_rfl) (by kernel_rfl) (fun _ _ _ h => h) (Or.inl ⟨by rfl, ?_⟩) (by assumption) ?_
      rotate_left 1
      · (intro w hSw; go_simp; try (with_reducible rfl))
      refine wpAnyH_done (by kernel_rfl) ?_ _
      have hcw := hcx _ b4
      go_wp2
      go_roundw
      case rel => exact ⟨f', i + 1, q + p.size, out ++ [X], by go_num, by go_num, by omega, by omega, HRE2, o4, b4⟩
      case measure => simp [intOf]; omega
end Go.Proofs.YtechmpdfbpehiaaGreatDoor
