import Derived.Test.YtddabafaejahbaaGreatDoorCut
import Derived.Test.YtddabafaejahbaaGreatDoorJRp1
import Derived.Test.YtddabafaejahbaaGreatDoorJINbd
import Derived.Test.YtddabafaejahbaaGreatDoorJOwnT
import Derived.Test.YtddabafaejahbaaGreatDoorJRdA
import Derived.Deep.CutRange
import Derived.Test.YtddabafaejahbaaGreatDoorJRc6
import Derived.Test.YtddabafaejahbaaGreatDoorJTf1
/- impl.CheckData by its contract. -/
namespace Go.Proofs.YtddabafaejahbaaGreatDoor
open Go.RowKit
set_option maxRecDepth 100000 in
set_option maxHeartbeats 400000 in
theorem implCheckData_any (t : Int) (d : ByteArray) (w : World) (hd : d.size ≤ 2000000) :
 Calls Tryz.prog 57 #[.int .i64 t, .string d] w fun e w' => e = .returned (.int .i64 (cutCode t d)) ∧ Below w.heap.size w w' := by
 have hcall := cutData_any t d w hd; go_enter Tryz.func57, Tryz.ntmps57; go_wp2_with (go_at_call 94; refine hcall.mono ?_; rintro e w2 ⟨v, rfl, _, _, hbel⟩)
 go_ret; exact ⟨rfl, hbel⟩
end Go.Proofs.YtddabafaejahbaaGreatDoor
/- impl.readPlain by its contract. -/
namespace Go.Proofs.YtddabafaejahbaaGreatDoor
open Go.RowKit
set_option linter.unusedVariables false
def plR (t : Int) (x D : ByteArray) : ByteArray × Int := match numO x 10 with
 | none => (⟨#[]⟩, 15)
 | some n => plainT t n D
theorem plain_one {t : Int} {x : Wrd} {r : List Wrd} (h : (x :: r).any (·.2) = false) : plainS t (x :: r) = plR t x.1 (dgs (x :: r)) := by
 unfold plainS; rw [if_neg (by rw [h]; decide)]; rfl
theorem plain_any {t : Int} {ws : List Wrd} (h : ws.any (·.2) = true) : plainS t ws = (⟨#[]⟩, 15) := by
 unfold plainS; rw [if_pos h]
set_option maxRecDepth 100000 in
set_option maxHeartbeats 4000000 in
theorem readPlain_any (t : Int) (v : Value) (ws : List Wrd) (w : World) (h : CRow w v ws.length 2 (wdVs ws)) (hn : ws.length ≤ 300) (hz : wsz ws ≤ 1048576) :
 Calls Tryz.prog 25 #[.int .i64 t, v] w fun e w' => e = .returned (strV (plainS t ws)) ∧ Below w.heap.size w w' := by
 have hcq := containsQ_any v ws w h
 cases ws with
 | nil =>
   obtain ⟨_, av, cv, rfl, hcap, hmx, hcc⟩ := h; clear hcc hcq; go_enter Tryz.func25, Tryz.ntmps25; go_wp2; go_ret2
   exact ⟨rfl, Below.refl _ _⟩
 | cons x r =>
   obtain ⟨_, av, cap, rfl, hcap, hmx, hcc⟩ := h; obtain ⟨b, off, rfl, hcell⟩ := hcc (by simp); simp only [List.length_cons] at *; have d0 : ((r.length : Int) + 1 == 0) = false := by rw [beq_eq_false_iff_ne]; omega
   cases hq : (x :: r).any (·.2) with
   | true =>
     rw [plain_any hq]; rw [hq] at hcq; clear hcc hcell hq; go_enter Tryz.func25, Tryz.ntmps25; go_wp2_with (go_at_call 50; refine hcq.mono ?_; rintro e w1 ⟨rfl, hb1⟩)
     go_ret2
     exact ⟨rfl, hb1⟩
   | false =>
     obtain ⟨R, HR⟩ : ∃ R, Hid (R = plR t x.1 (dgs (x :: r))) := ⟨_, rfl⟩; rw [plain_one hq, ← HR.out]; rw [hq] at hcq; have e0 : w.cell? ⟨b, off, none⟩ = some (.string x.1) := hcell _ _ (wdVs_at (x :: r) 0 0 x rfl (by decide))
     have HCE : Hid (∀ k y, r[k]? = some y → w.cell? ⟨b, off + 2 + k * 2, none⟩ = some (.string y.1) ∧ w.cell? ⟨b, off + 2 + k * 2 + 1, none⟩ = some (.bool y.2)) := by
      intro k y hk; have q0 := hcell _ _ (wdVs_at (x :: r) (k + 1) 0 y (by simpa using hk) (by decide)); have q1 := hcell _ _ (wdVs_at (x :: r) (k + 1) 1 y (by simpa using hk) (by decide)); rw [show off + 2 + k * 2 = off + ((k + 1) * 2 + 0) by omega]; refine ⟨q0, ?_⟩; rw [show off + ((k + 1) * 2 + 0) + 1 = off + ((k + 1) * 2 + 1) by omega]; exact q1
     have HSM : Hid (∀ k y, r[k]? = some y → (dgs ((x :: r).take (k + 1))).size + y.1.size ≤ 1048576 ∧ dgs ((x :: r).take (k + 1 + 1)) = dgs ((x :: r).take (k + 1)) ++ y.1) := by
      intro k y hk; have hk2 : (x :: r)[k + 1]? = some y := by simpa using hk
      exact ⟨Nat.le_trans (dgs_step_le hk2) hz, dgs_step hk2 (by omega)⟩
     have HD0 : Hid (dgs ((x :: r).take (0 + 1)) = ⟨#[]⟩) := dgs_one _; have hDz : (dgs (x :: r)).size ≤ 1048576 := Nat.le_trans (dgs_size _) hz; have hnum := fun W => readNumber_any x.1 10 W (by decide)
     rw [show ((10 : Nat) : Int) = 10 from rfl] at hnum; have HC1 : Hid (cap = 1 → r = []) := fun h1 => List.length_eq_zero_iff.1 (by omega)
     have hc2 : 1 ≤ cap := by omega
     have hrl : r.length ≤ 300 := by omega
     clear hcc hcell hq hz hn hmx hcap; go_enter Tryz.func25, Tryz.ntmps25; go_upto_region 4 with (go_at_call 50; refine hcq.mono ?_; rintro e w1 ⟨rfl, hb1⟩)
     have hfb := Lib.fresh_isBuilder 103 5 w1; have hB1 := hb1.alloc hb1.size (.cells #[.pointer none, .slice none 0 0] 103); have hsz1 := hb1.size; go_cut [20, 21, 22] from 19 to 22 (fun p q i wx => ∃ O c, p = .slice (some ⟨b, O, none⟩) r.length c ∧ q = .int .i64 (r.length : Int) ∧ i = .int .i64 0 ∧ wx = w1.alloc (.cells #[.pointer none, .slice none 0 0] 103) ∧ Hid (∀ k y, r[k]? = some y → w.cell? ⟨b, O + k * 2, none⟩ = some (.string y.1) ∧ w.cell? ⟨b, O + k * 2 + 1, none⟩ = some (.bool y.2)))
     case first =>
      by_cases hc1 : cap = 1
      · have hr0 := HC1.out hc1; subst hc1
        have HV : Hid (∀ k y, r[k]? = some y → w.cell? ⟨b, off + k * 2, none⟩ = some (.string y.1) ∧ w.cell? ⟨b, off + k * 2 + 1, none⟩ = some (.bool y.2)) := by
         intro k y hk; rw [hr0] at hk; simp at hk
        clear hr0 HC1 HCE HSM hnum; go_wp2; go_meet
        case rel => exact ⟨_, _, rfl, rfl, rfl, rfl, HV⟩
      · clear HC1 HSM hnum; go_wp2; go_meet
        case rel => exact ⟨_, _, rfl, rfl, rfl, rfl, HCE⟩
     case rest =>
      obtain ⟨O, c, rfl, rfl, rfl, rfl, HV⟩ := hcut; clear HC1 HCE hcq; have HDR : Hid (dgs ((x :: r).take (r.length + 1)) = dgs (x :: r)) := by show _ = _; rw [List.take_of_length_le (by simp)]
      have hlt1 : w1.heap.size < (w1.alloc (.cells #[.pointer none, .slice none 0 0] 103)).heap.size := by simp
      have hBB := (Below.refl w1.heap.size w1).alloc (Nat.le_refl _) (.cells #[.pointer none, .slice none 0 0] 103); have hfb0 : Lib.IsBuilder 103 5 w1.heap.size w1.heap.size (Lib.strCells (dgs ((x :: r).take (0 + 1)))) (w1.alloc (.cells #[.pointer none, .slice none 0 0] 103)) := by rw [HD0.out]; exact hfb
      have e1 : w1.cell? ⟨b, off, none⟩ = some (.string x.1) := (hb1.cell (World.block_lt_of_cell? w _ e0)).trans e0; clear hfb HD0; go_wp2
      go_loopw [22] (fun i wr => ∃ k : Nat, k ≤ r.length ∧ i = .int .i64 k ∧ Lib.IsBuilder 103 5 w1.heap.size w1.heap.size (Lib.strCells (dgs ((x :: r).take (k + 1)))) wr ∧ Below w1.heap.size w1 wr) (fun i _ => r.length - (intOf i).toNat)
      case atStart => exact ⟨0, Nat.zero_le _, rfl, hfb0, hBB⟩
      case round =>
       obtain ⟨k, hk, rfl, hbu, hbel⟩ := hrel; clear hfb0 hBB hlt1; have hszr := hbel.size
       by_cases hlt : k < r.length
       · obtain ⟨y, hy⟩ : ∃ y, r[k]? = some y := ⟨_, List.getElem?_eq_getElem hlt⟩; obtain ⟨c0, c1⟩ := HV.out k y hy; obtain ⟨hsm, hstep⟩ := HSM.out k y hy; have hbw := Nm.below_two hb1 hbel; have put : ∀ {O : Nat} {z : Value}, w.cell? ⟨b, O, none⟩ = some z → wr.cell? ⟨b, O, none⟩ = some z := fun h => (hbw.cell (World.block_lt_of_cell? w _ h)).trans h
         replace c0 := put c0
         replace c1 := put c1
         have i1 : (0 : Int) ≤ (k : Int) := by omega
         have i2 : (k : Int) < (r.length : Int) := by omega
         have hBo := (Below.refl wr.heap.size wr).alloc (Nat.le_refl _) (.cells #[.string y.1, .bool y.2] 40); have hu1 := bu_below hbu hBo; have hb2 := Nm.below_two hbel hBo; have HST := Nm.hide hstep; generalize hE : dgs ((x :: r).take (k + 1)) = E at *; clear hE hstep put hy hbw hbu hBo HDR; go_wp2_with (go_at_call 52; refine (writeString_any _ _ _ y.1 _ hu1 (by rw [Lib.strCells_length]; omega) hb2.size).mono ?_; rintro e w3 ⟨rfl, hu3, b3, hk3⟩)
         go_roundw
         case rel => exact ⟨k + 1, by omega, by go_num, .inr (by rw [HST.out, cells_cat]; exact hu3), hb2.trans b3⟩
         case measure => simp [intOf]; omega
       · have hkl : k = r.length := by omega
         subst hkl; rw [HDR.out] at hbu; have i2 : ¬ (r.length : Int) < (r.length : Int) := by omega
         have hbw := Nm.below_two hb1 hbel; have e2 : wr.cell? ⟨b, off, none⟩ = some (.string x.1) := (hbel.cell (World.block_lt_of_cell? w1 _ e1)).trans e1; clear HV HSM HDR e0 e1; generalize dgs (x :: r) = D at *; generalize r.length = m at *
         cases hO : numO x.1 10 with
         | none =>
           have HN : Hid (R = (⟨#[]⟩, 15)) := by show _ = _; rw [HR.out, plR, hO]
           rw [hO] at hnum; simp only [numV, Option.getD_none, Option.isSome_none] at hnum; clear hO HR; go_wp2_with (go_at_call 53; refine (hnum _).mono ?_; rintro e w2 ⟨rfl, hw⟩; obtain rfl := hw.symm; clear hw)
           go_ret2; rw [HN.out]
           exact ⟨rfl, hbw⟩
         | some n =>
           have hnl := numO_lt hO; have HP : Hid (R = plainT t n D) := by show _ = _; rw [HR.out, plR, hO]
           rw [hO] at hnum; simp only [numV, Option.getD_some, Option.isSome_some] at hnum; have hlen := fun W (hW : Lib.IsBuilder 103 5 w1.heap.size w1.heap.size (Lib.strCells D) W) => Tryz.Builder_Len _ _ _ W hW
           rw [Lib.strCells_length] at hlen; have hst := fun W hW hz => Tryz.Builder_String_any w1.heap.size w1.heap.size D.data.toList W hW hz
           have hbu2 := hbu; rw [Lib.strCells_eq] at hbu2; have hba : (⟨D.data.toList.toArray⟩ : ByteArray) = D := rfl; clear hO HR
           by_cases h2 : D.size = 2 * n
           · have b2 : ((D.size : Int) == 2 * (n : Int)) = true := by rw [beq_iff_eq]; omega
             have hhx := fun W => readHex_any D n W h2 (by omega)
             unfold hxV at hhx
             cases hh : hxL D.data.toList with
             | none =>
               rw [hh] at hhx; have HN : Hid (R = (⟨#[]⟩, 15)) := by show _ = _; rw [HP.out, plainT, if_neg (by simpa using h2), hh]
               clear hh HP h2; go_wp2_with (first | (go_at_call 53; refine (hnum _).mono ?_; rintro e w2 ⟨rfl, hw⟩; obtain rfl := hw.symm; clear hw) | (go_at_call 54; refine (hlen _ hbu).mono ?_; rintro e w2 ⟨rfl, hw⟩; obtain rfl := hw.symm; clear hw) | (go_at_call 56; refine (hst _ hbu2 hszr).mono ?_; rintro e w3 ⟨rfl, hb3⟩) | (go_at_call 55; refine (hhx _).mono ?_; rintro e w4 ⟨rfl, hb4⟩))
               go_ret2; rw [HN.out]
               exact ⟨rfl, Nm.below_two (Nm.below_two hb1 (hbel.trans hb3)) hb4⟩
             | some l =>
               rw [hh] at hhx; have hll := hx_len hh
               have hlz : (⟨l.toArray⟩ : ByteArray).size ≤ 2000000 := by
                show l.toArray.size ≤ _
                simp at hll ⊢; omega
               have hck := fun W => implCheckData_any t ⟨l.toArray⟩ W hlz
               have HQ : Hid (R = if cutCode t ⟨l.toArray⟩ = 0 then (⟨l.toArray⟩, 0) else (⟨#[]⟩, 7)) := by show _ = _; rw [HP.out, plainT, if_neg (by simpa using h2), hh]
               clear hh HP h2 hll hlz; simp only at hhx
               generalize (⟨l.toArray⟩ : ByteArray) = L at *
               by_cases hc0 : cutCode t L = 0
               · have HN : Hid (R = (L, 0)) := by show _ = _; rw [HQ.out, if_pos hc0]
                 rw [hc0] at hck; clear hc0 HQ; go_wp2_with (first | (go_at_call 53; refine (hnum _).mono ?_; rintro e w2 ⟨rfl, hw⟩; obtain rfl := hw.symm; clear hw) | (go_at_call 54; refine (hlen _ hbu).mono ?_; rintro e w2 ⟨rfl, hw⟩; obtain rfl := hw.symm; clear hw) | (go_at_call 56; refine (hst _ hbu2 hszr).mono ?_; rintro e w3 ⟨rfl, hb3⟩) | (go_at_call 55; refine (hhx _).mono ?_; rintro e w4 ⟨rfl, hb4⟩) | (go_at_call 57; refine (hck _).mono ?_; rintro e w5 ⟨rfl, hb5⟩))
                 go_ret2; rw [HN.out]; exact ⟨rfl, Nm.below_two (Nm.below_two (Nm.below_two hb1 (hbel.trans hb3)) hb4) hb5⟩
               · have HN : Hid (R = (⟨#[]⟩, 7)) := by show _ = _; rw [HQ.out, if_neg hc0]
                 have c0' : (cutCode t L == 0) = false := by simpa using hc0
                 clear hc0 HQ; generalize cutCode t L = C at *; go_wp2_with (first | (go_at_call 53; refine (hnum _).mono ?_; rintro e w2 ⟨rfl, hw⟩; obtain rfl := hw.symm; clear hw) | (go_at_call 54; refine (hlen _ hbu).mono ?_; rintro e w2 ⟨rfl, hw⟩; obtain rfl := hw.symm; clear hw) | (go_at_call 56; refine (hst _ hbu2 hszr).mono ?_; rintro e w3 ⟨rfl, hb3⟩) | (go_at_call 55; refine (hhx _).mono ?_; rintro e w4 ⟨rfl, hb4⟩) | (go_at_call 57; refine (hck _).mono ?_; rintro e w5 ⟨rfl, hb5⟩))
                 go_ret2; rw [HN.out]; exact ⟨rfl, Nm.below_two (Nm.below_two (Nm.below_two hb1 (hbel.trans hb3)) hb4) hb5⟩
           · have b2 : ((D.size : Int) == 2 * (n : Int)) = false := by rw [beq_eq_false_iff_ne]; omega
             have HN : Hid (R = (⟨#[]⟩, 15)) := by show _ = _; rw [HP.out, plainT, if_pos (by simpa using h2)]
             clear HP h2 hst; go_wp2_with (first | (go_at_call 53; refine (hnum _).mono ?_; rintro e w2 ⟨rfl, hw⟩; obtain rfl := hw.symm; clear hw) | (go_at_call 54; refine (hlen _ hbu).mono ?_; rintro e w2 ⟨rfl, hw⟩; obtain rfl := hw.symm; clear hw))
             go_ret2; rw [HN.out]; exact ⟨rfl, hbw⟩
theorem wf_smallR {t : Int} (h0 : 0 ≤ t) (h1 : t ≤ 65535) : (Lit.int .i64 t).wf = true := by
 have h2 : IntKind.i64.min = -9223372036854775808 := by decide
 have h3 : IntKind.i64.max = 9223372036854775807 := by decide
 show (decide (IntKind.i64.min ≤ t) && decide (t ≤ IntKind.i64.max)) = true
 rw [h2, h3]; simp
 omega
theorem zero_formR (w : World) : (zeroValue 53).run Tryz.prog w = .ok (.agg #[.nilFunc, .nilFunc]) w := by kernel_rfl
theorem form_one {t : Int} {F F' : List Nat ⊕ Bool} (h : (t, F) ∈ formTabR) (h' : (t, F') ∈ formTabR) : F = F' := by
 have key : ∀ x ∈ formTabR, ∀ y ∈ formTabR, x.1 = y.1 → x = y := by decide
 have := key _ h _ h' rfl; cases this
 rfl
theorem ins_form {t : Int} {F : List Nat ⊕ Bool} (h : (t, F) ∈ formTabR) : ∃ x ∈ insTabR, x.2 = t := by
 have key : ∀ x ∈ formTabR, ∃ y ∈ insTabR, y.2 = x.1 := by decide
 exact key _ h
theorem form_foundR {t : Int} {F : List Nat ⊕ Bool} {w : World} {r : Nat} {L : List (Int × Value)} (hM : IMap w r L) (hLF : ∀ p ∈ L, ∃ F, (p.1, F) ∈ formTabR ∧ TFr w F p.2) (hv : ∃ v, (t, v) ∈ L) (hF : (t, F) ∈ formTabR) (hwf : (Lit.int .i64 t).wf = true) :
 ∃ v, (Instr.lookup 55 (.map (some r)) (.int .i64 t) true).run Tryz.prog w = .ok (.tuple #[v, .bool true]) w ∧ TFr w F v := by
 rcases hM.get (P := Tryz.prog) (t := 55) (k := 2) (e := 53) Tryz.underlying2 Tryz.underlying55 (zero_formR w) hwf with ⟨hno, _⟩ | ⟨v, hin, hlk⟩
 · obtain ⟨v, hv⟩ := hv; exact absurd rfl (hno _ hv)
 · refine ⟨v, hlk, ?_⟩; obtain ⟨F', h1, h2⟩ := hLF _ hin; rw [form_one hF h1]; exact h2
theorem form_lostR {t : Int} {w : World} {r : Nat} {L : List (Int × Value)} (hM : IMap w r L) (hLF : ∀ p ∈ L, ∃ F, (p.1, F) ∈ formTabR ∧ TFr w F p.2) (hn : ∀ F, (t, F) ∉ formTabR) (hwf : (Lit.int .i64 t).wf = true) :
 (Instr.lookup 55 (.map (some r)) (.int .i64 t) true).run Tryz.prog w = .ok (.tuple #[.agg #[.nilFunc, .nilFunc], .bool false]) w := by
 rcases hM.get (P := Tryz.prog) (t := 55) (k := 2) (e := 53) Tryz.underlying2 Tryz.underlying55 (zero_formR w) hwf with ⟨hno, hlk⟩ | ⟨v, hin, hlk⟩
 · exact hlk
 · obtain ⟨F', h1, h2⟩ := hLF _ hin; exact absurd h1 (hn F')
/-- The reader of a form. -/
def fnOfR : List Nat ⊕ Bool → Nat
 | .inl _ => 110
 | .inr false => 121
 | .inr true => 129
theorem Reads.below {w W : World} (h : Reads w) (hb : Below w.heap.size w W) : Reads W :=
 ⟨fun s W2 h3 h4 => h.1 s W2 h3 (Nm.below_two hb h4), fun s W2 h4 => h.2 s W2 (Nm.below_two hb h4)⟩
theorem tf_reads {t : Int} {F : List Nat ⊕ Bool} {ws : List Wrd} {o : ByteArray} {W : World} {v u : Value} (hF : (t, F) ∈ formTabR) (hT : TFr W F v) (hv : CRow W u ws.length 2 (wdVs ws)) (hnm : ws.length ≤ 300) (hz : wsz ws ≤ 1048576) (ho : o.size ≤ 1048576) (hs : Reads W) (hM : MnemAt W) :
 ∃ gc G y, v = .agg #[.func (.func (fnOfR F)) #[] #[.pointer (some ⟨gc, 0, none⟩)], .func G #[] y] ∧
   ∀ W2, Below W.heap.size W W2 → Calls Tryz.prog (fnOfR F) #[u, .string o, .pointer (some ⟨gc, 0, none⟩)] W2 fun e w' => e = .returned (strV (formP F ws o)) ∧ Below W2.heap.size W2 w' := by
 rcases F with ks | b
 · obtain ⟨gc, G, y, gf, cap, h1, h2, h3⟩ := hT; refine ⟨gc, G, y, h1, fun W2 hW2 => ?_⟩; have hk2 := keptR_below hW2; exact justRead_any ks ws o gc gf cap u W2 (hk2 _ _ h2) (h3.kept hk2) (hv.below hW2) hnm (form_kinds hF) hz ho (hs.below hW2)
 · cases b with
   | false =>
     obtain ⟨gc, G, y, h1, h2, g, q, h3⟩ := hT; refine ⟨gc, G, y, h1, fun W2 hW2 => ?_⟩; have hk2 := keptR_below hW2
     exact manyRead_any ws o gc g q u W2 (hk2 _ _ h2) (hk2 _ _ h3) (hv.below hW2) hnm hz ho (hs.below hW2)
   | true =>
     obtain ⟨gc, b, G, y, h1, h2, h3⟩ := hT; refine ⟨gc, G, y, h1, fun W2 hW2 => ?_⟩; have hk2 := keptR_below hW2; exact ntRead_any ws o gc b u W2 (hk2 _ _ h2) (hk2 _ _ h3) (hv.below hW2) hnm hz ho (hs.below hW2) (hM.below hW2) map_size
end Go.Proofs.YtddabafaejahbaaGreatDoor
