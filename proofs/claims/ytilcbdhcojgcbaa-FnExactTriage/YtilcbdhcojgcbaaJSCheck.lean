import Derived.Test.YtilcbdhcojgcbaaParts
import Derived.Test.YtilcbdhcojgcbaaJCutM
import Derived.Test.YtilcbdhcojgcbaaJSDn
import Derived.Test.YtilcbdhcojgcbaaJVfE
import Derived.Test.YtilcbdhcojgcbaaJMath
import Derived.Test.YtilcbdhcojgcbaaJICp
import Derived.Test.YtilcbdhcojgcbaaRows
import Derived.WalkSpells
import Derived.WalkLawsBesides
/- spec.CheckData by its contract. -/
namespace Go.Proofs.Ytilcbdhcojgcbaa
open Go.RowKit

theorem okForm_of {f : ByteArray} (h1 : f.size ≤ 100) (h2 : f.data.toList.all (fun c => c == 110 || c == 98 || c == 116 || c == 115 || c == 99 || c == 109 || c == 42) = true) : okForm f := by
  refine ⟨h1, ?_⟩
  intro k hk
  have := List.all_eq_true.1 h2 f[k] (List.mem_of_getElem? (Nm.get_data hk))
  simpa [or_assoc] using this

theorem form_ok (t : Int) : okForm (Dt.formS t) := by
  unfold Dt.formS
  repeat' split
  all_goals exact okForm_of (by decide) (by decide)

theorem parts_some {t : Int} {d : ByteArray} : (Dt.parts (Dt.specP t) d).isSome = (Dt.spans (Dt.implP t) 0 d).isSome := by
  rw [← Dt.forms_agree, Dt.spans_of_parts]; simp

set_option maxRecDepth 100000 in
set_option maxHeartbeats 400000 in
theorem specCheckData_any (t : Int) (d : ByteArray) (w : World) :
    Calls Try.prog 62 #[.int .i64 t, .string d] w fun e w' => e = .returned (.int .i64 (cutCode t d)) ∧ Below w.heap.size w w' := by
  by_cases ht : t < 0 ∨ 65535 < t
  · have HC := Nm.hide (code_type (d := d) ht)
    by_cases ht0 : t < 0
    · clear ht
      go_enter Try.func62, Try.ntmps62
      go_wp2
      go_ret
      rw [HC.out.1]
      exact ⟨rfl, Below.refl _ _⟩
    · have ht1 : 65535 < t := by omega
      have ht2 : 0 ≤ t := by omega
      clear ht
      go_enter Try.func62, Try.ntmps62
      go_wp2
      go_ret
      rw [HC.out.1]
      exact ⟨rfl, Below.refl _ _⟩
  have ht0 : 0 ≤ t := by omega
  have ht1 : t ≤ 65535 := by omega
  by_cases hl : 65535 < d.size
  · have HC := Nm.hide (code_long ht hl)
    have hl' : (65535 : Int) < (d.size : Int) := by omega
    clear ht
    go_enter Try.func62, Try.ntmps62
    go_wp2
    go_ret
    rw [HC.out.1]
    exact ⟨rfl, Below.refl _ _⟩
  have hl' : (d.size : Int) ≤ 65535 := by omega
  have hcall := fun w => l02Parts_any (Dt.formS t) d w (form_ok t) (by omega)
  have hform := l02Form_any t
  have hps := parts_some (t := t) (d := d)
  rw [Dt.specP] at hps
  rw [hps] at hcall
  generalize Dt.formS t = f at *
  cases hq : Dt.spans (Dt.implP t) 0 d with
  | none =>
    have HC := Nm.hide (code_none ht hl hq)
    rw [hq] at hcall
    clear ht hl hq hps
    go_enter Try.func62, Try.ntmps62
    go_wp2_with (first | (go_at_call 63; refine (hform _).mono ?_; rintro e w1 ⟨rfl, hw⟩; obtain rfl : w = w1 := hw.symm; clear hw) | (go_at_call 72; refine (hcall _).mono ?_; rintro e w2 ⟨v, rfl, _, hbel⟩))
    go_ret
    rw [HC.out.1]
    exact ⟨rfl, hbel⟩
  | some sp =>
    have HC := Nm.hide (code_some ht hl hq)
    rw [hq] at hcall
    clear ht hl hq hps
    go_enter Try.func62, Try.ntmps62
    go_wp2_with (first | (go_at_call 63; refine (hform _).mono ?_; rintro e w1 ⟨rfl, hw⟩; obtain rfl : w = w1 := hw.symm; clear hw) | (go_at_call 72; refine (hcall _).mono ?_; rintro e w2 ⟨v, rfl, _, hbel⟩))
    go_ret
    rw [HC.out.1]
    exact ⟨rfl, hbel⟩
end Go.Proofs.Ytilcbdhcojgcbaa
/- spec.l04Pointed and spec.l04Data by their contracts. -/
namespace Go.Proofs.Ytilcbdhcojgcbaa
open Go.RowKit
set_option linter.unusedVariables false


theorem dtP_many (l : List UInt8) (fin : Nat) (ps : List (Option Nat)) : ∀ (n p : Nat) (acc : List UInt8), p ≤ fin → dtP l fin (List.replicate n (some 1) ++ ps) p acc = dtP l fin (some n :: ps) p acc := by
  intro n
  induction n with
  | zero => intro p acc h; simp [dtP, cutL, h]
  | succ n ih =>
    intro p acc h
    rw [List.replicate_succ, List.cons_append, dtP]
    by_cases h1 : p + 1 ≤ fin
    · rw [if_pos h1, ih (p + 1) _ h1, dtP, dtP]
      have e : p + 1 + n = p + (n + 1) := by omega
      rw [e, List.append_assoc, ← cutL_add, Nat.add_comm 1 n]
    · rw [if_neg h1, dtP, if_neg (by omega)]

/-- The model's pieces: a sign each. -/
def pcC (c : UInt8) : Option Nat := if c = 98 then some 1 else none

theorem spec_pieces {t : Nat} (h : pointed t) (l : List UInt8) (p fin : Nat) (hp : p ≤ fin) : dtP l fin ((Dt.formS t).data.toList.map pcC) p [] = dtP l fin (piecesOf t) p [] := by
  rcases h with rfl | rfl | rfl | rfl | rfl
  · rfl
  · rfl
  · show dtP l fin (none :: none :: (List.replicate 20 (some 1) ++ [])) p [] = dtP l fin [none, none, some 20] p []
    rw [dtP, dtP]
    split
    · rfl
    · split
      · rw [dtP, dtP]
        split
        · rfl
        · split
          · rename_i h2
            exact dtP_many l fin [] 20 _ _ h2
          · rfl
      · rfl
  · rfl
  · exact dtP_many l fin [none] 2 p [] hp

theorem form_signs {t : Nat} (h : pointed t) : ∀ i (hi : i < (Dt.formS t).size), (Dt.formS t)[i] = 98 ∨ (Dt.formS t)[i] = 110 := by
  rcases h with rfl | rfl | rfl | rfl | rfl <;> decide

/-- What l04Data answers. -/
def dtV : Rs (List UInt8) → Value
  | .inl c => .tuple #[.string ⟨#[]⟩, .int .i64 c]
  | .inr (d, _) => .tuple #[.string ⟨d.toArray⟩, .int .i64 0]

theorem mk_of {s : ByteArray} {l : List UInt8} (h : s.data.toList = l) : s = ⟨l.toArray⟩ := by
  subst h; simp

theorem dnS_at {l : List UInt8} {p : Nat} (h : p ≤ l.length) : dnS l (p : Int) = match dnF l p p [] none with | .inl c => ([], 0, c) | .inr (s, n) => (s, (n : Int), 0) := by
  rw [dnS, if_neg (by omega)]
  rfl

theorem dnF_code (l : List UInt8) (start pos : Nat) (acc : List UInt8) (nx : Option Nat) : ∀ c, dnF l start pos acc nx = .bad c → c ≠ 0 := by
  fun_induction dnF l start pos acc nx with
  | case1 => intro c e; cases e
  | case2 start pos acc nx h h0 h1 h2 h3 ih => exact ih
  | case6 start pos acc nx h h0 h1 h2 h3 h4 ih => exact ih
  | _ => intro c e; cases e; decide

theorem dnF_size2 (l : List UInt8) (start pos : Nat) (acc : List UInt8) (nx : Option Nat) : acc.length ≤ 254 → ∀ s q, dnF l start pos acc nx = .ok s q → s.length ≤ 255 := by
  fun_induction dnF l start pos acc nx with
  | case1 start pos acc nx h h0 => intro ha s q e; simp at e; obtain ⟨rfl, _⟩ := e; simp; omega
  | case2 start pos acc nx h h0 h1 h2 h3 ih => intro ha s q e; exact ih ha s q e
  | case6 start pos acc nx h h0 h1 h2 h3 h4 ih =>
    intro ha s q e
    refine ih ?_ s q e
    simp
    omega
  | _ => intro ha s q e; cases e

set_option maxRecDepth 100000 in
set_option maxHeartbeats 3200000 in
theorem l04Data_any (v : Value) (l : List UInt8) (t p fin : Nat) (w : World) (h : BySl w v l) (hl : l.length ≤ 1048576) (hp : p ≤ fin) (hfin : fin ≤ l.length) (hs : fin - p ≤ 65535) :
    Calls Try.prog 49 #[v, .int .i64 t, .int .i64 p, .int .i64 fin] w fun e w' => e = .returned (dtV (dataS l t p fin)) ∧ Below w.heap.size w w' := by
  have hby := h
  obtain ⟨hbl, a, cap, rfl, hcap, hmx, hc⟩ := h
  clear hc
  have hmp := fun W => l04Pointed_any t W
  by_cases h0 : p = fin
  · have HD : Hid (dtV (dataS l t p fin) = .tuple #[.string ⟨#[]⟩, .int .i64 0]) := by rw [Hid, dataS, if_pos h0]; rfl
    have h0' : ((p : Int) == (fin : Int)) = true := by rw [beq_iff_eq]; omega
    subst h0
    go_enter Try.func49, Try.ntmps49
    go_wp2
    go_ret2
    rw [HD.out]
    exact ⟨rfl, Below.refl _ _⟩
  · have h0' : ((p : Int) == (fin : Int)) = false := by rw [beq_eq_false_iff_ne]; omega
    by_cases hpt : pointed t
    · have hpd : decide (pointed t) = true := decide_eq_true hpt
      simp only [hpd] at hmp
      have HD : Hid (dataS l t p fin = dtP l fin ((Dt.formS t).data.toList.map pcC) p []) := by
        rw [Hid, dataS, if_neg h0, if_pos hpt, spec_pieces hpt l p fin hp]
      have hfm := fun W => l02Form_any (t : Int) W
      have hsg := form_signs hpt
      have hfl : (Dt.formS t).size ≤ 22 := by rcases hpt with rfl | rfl | rfl | rfl | rfl <;> decide
      rw [HD.out]
      clear HD hpd
      generalize Dt.formS t = fs at *
      generalize hR : dtP l fin (fs.data.toList.map pcC) p [] = R
      have hsd := fun (q : Nat) W (h : BySl W (.slice a l.length cap) l) => specDecodeName_any (.slice a l.length cap) l (q : Int) W h hl
      go_enter Try.func49, Try.ntmps49
      go_wp2_with (first | (go_at_call 61; refine (hmp _).mono ?_; rintro e w1 ⟨rfl, hw⟩; obtain rfl := hw.symm; clear hw) | (go_at_call 63; refine (hfm _).mono ?_; rintro e w2 ⟨rfl, hw⟩; obtain rfl := hw.symm; clear hw))
      go_loopw [2, 11, 13] (fun vp vo vi wr => ∃ (k pos : Nat) (s : ByteArray), k ≤ fs.size ∧ vi = .int .i64 k ∧ vp = .int .i64 pos ∧ pos ≤ fin ∧ vo = .string s ∧ s.size ≤ 256 * k ∧ Below w.heap.size w wr ∧ dtP l fin ((fs.data.toList.map pcC).drop k) pos s.data.toList = R)
        (fun _ _ vi _ => fs.size - (intOf vi).toNat)
      case atStart => exact ⟨0, p, _, Nat.zero_le _, rfl, rfl, hp, rfl, Nat.le_refl _, Below.refl _ _, hR⟩
      case round =>
        obtain ⟨k, pos, s, hk, rfl, rfl, hpos, rfl, hss, hbel, hres⟩ := hrel
        clear hR hmp hfm
        by_cases hlt : k < fs.size
        · have hlt' : (k : Int) < (fs.size : Int) := by omega
          have hdr : (fs.data.toList.map pcC).drop k = pcC fs[k] :: (fs.data.toList.map pcC).drop (k + 1) := by
            have h1 : k < (fs.data.toList.map pcC).length := by simp; exact hlt
            rw [List.drop_eq_getElem_cons h1]
            simp
            rfl
          rw [hdr] at hres
          rcases hsg k hlt with hb | hb
          · have hb' : ((fs[k].toNat : Int) == 98) = true := by rw [hb]; rfl
            rw [hb] at hres
            have e1 : pcC 98 = some 1 := rfl
            rw [e1, dtP] at hres
            by_cases hfit : pos + 1 ≤ fin
            · rw [if_pos hfit] at hres
              have hfit' : (pos : Int) < (fin : Int) := by omega
              obtain ⟨b, off, rfl, hcv⟩ := by_str hby (show pos + 1 ≤ l.length by omega) (by decide)
              have hcv1 := hcv wr hbel
              have hcp : ¬ cap = pos := by omega
              have hfc : (pos : Int) + 1 ≤ (cap : Int) := by omega
              have hsz : (ByteArray.mk ((l.drop pos).take 1).toArray).size = 1 := by show ((l.drop pos).take 1).toArray.size = 1; simp; omega
              have HRES : Hid (dtP l fin ((fs.data.toList.map pcC).drop (k + 1)) (pos + 1) (s ++ ⟨((l.drop pos).take 1).toArray⟩).data.toList = R) := by
                rw [Hid, ← hres]
                congr 1 <;> simp [cutL]
              generalize (⟨((l.drop pos).take 1).toArray⟩ : ByteArray) = x at *
              clear hres hcv hdr hsg hsd
              go_wp2
              go_roundw
              case rel => exact ⟨k + 1, pos + 1, s ++ x, by omega, by go_num, by go_num, hfit, rfl, by rw [ByteArray.size_append]; omega, hbel, HRES.out⟩
              case measure => simp [intOf]; omega
            · rw [if_neg hfit] at hres
              subst hres
              have hfit' : (fin : Int) ≤ (pos : Int) := by omega
              clear hdr hsg hsd
              go_wp2
              go_ret2
              exact ⟨rfl, hbel⟩
          · have hb' : ((fs[k].toNat : Int) == 98) = false := by rw [hb]; rfl
            rw [hb] at hres
            have e1 : pcC 110 = none := rfl
            rw [e1, dtP] at hres
            have hcall := hsd pos wr (hby.below hbel)
            rw [dnS_at (show pos ≤ l.length by omega)] at hcall
            cases hd : dnF l pos pos [] none using Rs.elim with
            | bad c =>
              rw [hd] at hres hcall
              simp only at hres hcall
              subst hres
              have hcn : (c != 0) = true := by rw [bne_iff_ne]; exact dnF_code l pos pos [] none c hd
              clear hdr hsg hsd
              go_wp2_with (go_at_call 29; refine hcall.mono ?_; rintro e w5 ⟨rfl, hb5⟩)
              go_ret2
              exact ⟨rfl, Nm.below_two hbel hb5⟩
            | ok nm nx =>
              rw [hd] at hres hcall
              simp only at hres hcall
              have hnl := dnF_size2 l pos pos [] none (by decide) nm nx hd
              by_cases hfit : nx ≤ fin
              · rw [if_pos hfit] at hres
                have hfit' : (nx : Int) ≤ (fin : Int) := by omega
                have hsz : (ByteArray.mk nm.toArray).size = nm.length := by show nm.toArray.size = _; simp
                have HRES : Hid (dtP l fin ((fs.data.toList.map pcC).drop (k + 1)) nx (s ++ ⟨nm.toArray⟩).data.toList = R) := by
                  rw [Hid, ← hres]
                  congr 1 <;> simp
                clear hres hdr hsg hsd
                go_wp2_with (go_at_call 29; refine hcall.mono ?_; rintro e w5 ⟨rfl, hb5⟩)
                go_roundw
                case rel => exact ⟨k + 1, nx, s ++ ⟨nm.toArray⟩, by omega, by go_num, by go_num, hfit, rfl, by rw [ByteArray.size_append]; omega, Nm.below_two hbel hb5, HRES.out⟩
                case measure => simp [intOf]; omega
              · rw [if_neg hfit] at hres
                subst hres
                have hfit' : (fin : Int) < (nx : Int) := by omega
                clear hdr hsg hsd
                go_wp2_with (go_at_call 29; refine hcall.mono ?_; rintro e w5 ⟨rfl, hb5⟩)
                go_ret2
                exact ⟨rfl, Nm.below_two hbel hb5⟩
        · have hge : (fs.size : Int) ≤ (k : Int) := by omega
          have hnil : (fs.data.toList.map pcC).drop k = [] := List.drop_eq_nil_of_le (by simp; show fs.size ≤ k; omega)
          rw [hnil, dtP] at hres
          by_cases he : pos = fin
          · rw [if_pos he] at hres
            have he' : ((pos : Int) != (fin : Int)) = false := by simp [he]
            subst hres
            go_wp2
            go_ret2
            exact ⟨rfl, hbel⟩
          · rw [if_neg he] at hres
            have he' : ((pos : Int) != (fin : Int)) = true := by rw [bne_iff_ne]; omega
            subst hres
            go_wp2
            go_ret2
            exact ⟨rfl, hbel⟩
    · have hpd : decide (pointed t) = false := decide_eq_false hpt
      simp only [hpd] at hmp
      have HD : Hid (dtV (dataS l t p fin) = if cutCode t ⟨(cutL l p (fin - p)).toArray⟩ = 0 then .tuple #[.string ⟨(cutL l p (fin - p)).toArray⟩, .int .i64 0] else .tuple #[.string ⟨#[]⟩, .int .i64 7]) := by
        rw [Hid, dataS, if_neg h0, if_neg hpt]
        split <;> rfl
      obtain ⟨b, off, rfl, hcv⟩ := by_str hby (show p + (fin - p) ≤ l.length by omega) (by omega)
      have hck := fun W => specCheckData_any (t : Int) ⟨(cutL l p (fin - p)).toArray⟩ W
      change ∀ W, _ → (convert _ _ _).run _ _ = .ok (.string ⟨(cutL l p (fin - p)).toArray⟩) W at hcv
      rw [HD.out]
      generalize cutCode t ⟨(cutL l p (fin - p)).toArray⟩ = cc at *
      generalize (⟨(cutL l p (fin - p)).toArray⟩ : ByteArray) = ds at *
      have hcv1 := hcv w (Below.refl _ _)
      have hcp : ¬ cap = p := by omega
      have hfc : (fin : Int) ≤ (cap : Int) := by omega
      have hpf : (p : Int) ≤ (fin : Int) := by omega
      clear HD hpd hcv
      by_cases hcc : cc = 0
      · subst hcc
        rw [if_pos rfl]
        go_enter Try.func49, Try.ntmps49
        go_wp2_with (first | (go_at_call 61; refine (hmp _).mono ?_; rintro e w1 ⟨rfl, hw⟩; obtain rfl := hw.symm; clear hw) | (go_at_call 62; refine (hck _).mono ?_; rintro e w2 ⟨rfl, hb2⟩))
        go_ret2
        exact ⟨rfl, hb2⟩
      · rw [if_neg hcc]
        have hne : (cc != 0) = true := by rw [bne_iff_ne]; exact hcc
        go_enter Try.func49, Try.ntmps49
        go_wp2_with (first | (go_at_call 61; refine (hmp _).mono ?_; rintro e w1 ⟨rfl, hw⟩; obtain rfl := hw.symm; clear hw) | (go_at_call 62; refine (hck _).mono ?_; rintro e w2 ⟨rfl, hb2⟩))
        go_ret2
        exact ⟨rfl, hb2⟩
end Go.Proofs.Ytilcbdhcojgcbaa
/- spec.l02Num by its contract. -/
namespace Go.Proofs.Ytilcbdhcojgcbaa
open Go.RowKit

set_option maxRecDepth 100000 in
set_option maxHeartbeats 400000 in
theorem l02Num_any (s : ByteArray) (w : World) (hs : s.size ≤ 6) :
    Calls Try.prog 13 #[.string s] w fun e w' => e = .returned (.int .i64 (numL s.data.toList)) ∧ w' = w := by
  go_enter Try.func13, Try.ntmps13
  go_wp2
  go_loop [3, 4] (fun u v => ∃ k : Nat, k ≤ s.size ∧ v = .int .i64 k ∧ u = .int .i64 (numL (s.data.toList.take k))) (fun _ v => s.size - (intOf v).toNat)
  case atStart => exact ⟨0, Nat.zero_le _, rfl, rfl⟩
  case round =>
    obtain ⟨k, hk, rfl, rfl⟩ := hrel
    by_cases hlt : k < s.size
    · have hd := Nm.get_data hlt
      have e1 : s.data.toList.take (k + 1) = s.data.toList.take k ++ [s[k]] := Nm.take_step hd
      have hb := numL_small (l := s.data.toList.take k) (by simp; omega)
      have e2 := numL_snoc (s.data.toList.take k) s[k]
      rw [← e1] at e2
      have hc : (s[k].toNat : Int) < 256 := by have := s[k].toNat_lt; omega
      have hlt' : (k : Int) < (s.size : Int) := by omega
      generalize numL (s.data.toList.take k) = m at *
      clear e1 hd
      go_wp2
      go_round
      case rel => exact ⟨k + 1, by omega, by go_num, by rw [e2]; go_num⟩
      case measure => simp [intOf]; omega
    · have hke : k = s.size := by omega
      subst hke
      have et : s.data.toList.take s.size = s.data.toList := List.take_of_length_le (by simp)
      rw [et]
      go_wp2
      go_ret
      exact ⟨rfl, rfl⟩
end Go.Proofs.Ytilcbdhcojgcbaa
