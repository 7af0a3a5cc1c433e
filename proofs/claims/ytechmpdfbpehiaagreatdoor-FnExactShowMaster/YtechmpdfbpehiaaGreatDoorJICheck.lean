import Derived.Test.YtechmpdfbpehiaaGreatDoorCut
import Derived.Test.YtechmpdfbpehiaaGreatDoorJTf3
import Derived.Test.YtechmpdfbpehiaaGreatDoorJData1
import Derived.Test.YtechmpdfbpehiaaGreatDoorJMath
import Derived.Test.YtechmpdfbpehiaaGreatDoorJNumM
/- impl.CheckData by its contract. -/
namespace Go.Proofs.YtechmpdfbpehiaaGreatDoor
open Go.RowKit

set_option maxRecDepth 100000 in
set_option maxHeartbeats 400000 in
theorem implCheckData_any (t : Int) (d : ByteArray) (w : World) (hd : d.size ≤ 2000000) :
    Calls Tryz.prog 40 #[.int .i64 t, .string d] w fun e w' => e = .returned (.int .i64 (cutCode t d)) ∧ Below w.heap.size w w' := by
  have hcall := cutData_any t d w hd
  go_enter Tryz.func40, Tryz.ntmps40
  go_wp2_with (go_at_call 54; refine hcall.mono ?_; rintro e w2 ⟨v, rfl, _, _, hbel⟩)
  go_ret
  exact ⟨rfl, hbel⟩
end Go.Proofs.YtechmpdfbpehiaaGreatDoor
/- impl.ShowData by its contract. -/
namespace Go.Proofs.YtechmpdfbpehiaaGreatDoor
open Go.RowKit
set_option linter.unusedVariables false


theorem wf_small {t : Int} (h0 : 0 ≤ t) (h1 : t ≤ 65535) : (Lit.int .i64 t).wf = true := by
  have h2 : IntKind.i64.min = -9223372036854775808 := by decide
  have h3 : IntKind.i64.max = 9223372036854775807 := by decide
  show (decide (IntKind.i64.min ≤ t) && decide (t ≤ IntKind.i64.max)) = true
  rw [h2, h3]
  simp
  omega

theorem zero_form (w : World) : (zeroValue 86).run Tryz.prog w = .ok (.agg #[.nilFunc, .nilFunc]) w := by kernel_rfl

theorem formTab_keys : (formTab.map (·.1)).Nodup := by decide

theorem formOf_some {t : Int} {F : List Nat ⊕ Bool} (h : (t, F) ∈ formTab) : formOf t = some F := by
  simp only [formTab, List.mem_cons, Prod.mk.injEq, List.not_mem_nil, or_false] at h
  rcases h with ⟨rfl, rfl⟩ | ⟨rfl, rfl⟩ | ⟨rfl, rfl⟩ | ⟨rfl, rfl⟩ | ⟨rfl, rfl⟩ | ⟨rfl, rfl⟩ | ⟨rfl, rfl⟩ | ⟨rfl, rfl⟩ | ⟨rfl, rfl⟩ | ⟨rfl, rfl⟩ | ⟨rfl, rfl⟩ | ⟨rfl, rfl⟩ | ⟨rfl, rfl⟩ | ⟨rfl, rfl⟩ <;> rfl
theorem formOf_none {t : Int} (h : ∀ x ∈ insTab, x.2 ≠ t) : formOf t = none := by
  unfold formOf
  rw [List.find?_eq_none.2]
  · rfl
  · intro p hp
    have : ∃ x ∈ insTab, x.2 = p.1 := by
      simp only [formTab, List.mem_cons, List.not_mem_nil, or_false] at hp
      rcases hp with rfl | rfl | rfl | rfl | rfl | rfl | rfl | rfl | rfl | rfl | rfl | rfl | rfl | rfl <;> simp [insTab]
    obtain ⟨x, hx, he⟩ := this
    have := h x hx
    simp only [beq_iff_eq]
    intro e
    exact this (by rw [he, e])

def showDS (S4 S6 : ByteArray → ByteArray × Int) (t : Int) (d : ByteArray) : ByteArray × Int := if cutCode t d = 0 then (joinS (dataWords S4 S6 t d), 0) else (⟨#[]⟩, cutCode t d)

set_option maxRecDepth 100000 in
set_option maxHeartbeats 3200000 in
theorem implShowData_bad (t : Int) (d : ByteArray) (w : World) (hd : d.size ≤ 1048576) (hc : cutCode t d ≠ 0) :
    Calls Tryz.prog 43 #[.int .i64 t, .string d] w fun e w' => e = .returned (.tuple #[.string ⟨#[]⟩, .int .i64 (cutCode t d)]) ∧ Below w.heap.size w w' := by
  have hck := implCheckData_any t d w (by omega)
  have hne : (cutCode t d != 0) = true := by rw [bne_iff_ne]; exact hc
  clear hc
  generalize cutCode t d = c at *
  go_enter Tryz.func43, Tryz.ntmps43
  go_wp2_with (go_at_call 40; refine hck.mono ?_; rintro e w1 ⟨rfl, hb1⟩)
  go_ret2
  exact ⟨rfl, hb1⟩

/-- What ShowData leans on. -/
structure SDL (S4 S6 : ByteArray → ByteArray × Int) (w : World) : Prop where
  sh : Shows S4 S6 w
  mn : MnemAt w

theorem SDL.below {S4 S6 : ByteArray → ByteArray × Int} {w W : World} (h : SDL S4 S6 w) (hb : Below w.heap.size w W) : SDL S4 S6 W :=
  ⟨⟨h.sh.1.below hb, fun s V hV => h.sh.2.1 s V (hb.trans (hV.mono hb.size)), fun s V hV => h.sh.2.2 s V (hb.trans (hV.mono hb.size))⟩, h.mn.below hb⟩

theorem just_len {t : Int} {F : List Nat ⊕ Bool} (h : (t, F) ∈ formTab) : ∀ ks, F = .inl ks → ks.length ≤ 100 := by
  have hall : (formTab.all fun x => match x.2 with | .inl ks => decide (ks.length ≤ 100) | .inr _ => true) = true := by decide
  have := List.all_eq_true.1 hall _ h
  intro ks e
  subst e
  simpa using this

/-- The writer of a form. -/
def fnOf : List Nat ⊕ Bool → Nat
  | .inl _ => 105
  | .inr false => 114
  | .inr true => 122

theorem tf_writes {S4 S6 : ByteArray → ByteArray × Int} {F : List Nat ⊕ Bool} {d : ByteArray} {W : World} {v : Value} (hs : SDL S4 S6 W) (hT : TFv W F v) (k1 : ∀ ks, F = .inl ks → okAll ks d) (k2 : F = .inr false → okMany d.size d) (k3 : F = .inr true → ∃ k, Dt.sz .nm d = some k) (hsz : d.size ≤ 65535) (hkl : ∀ ks, F = .inl ks → ks.length ≤ 100) (hl : (formWords S4 S6 F d).length ≤ 16000001) :
    ∃ g x y gc, v = .agg #[.func g x y, .func (.func (fnOf F)) #[] #[.pointer (some ⟨gc, 0, none⟩)]] ∧
      ∀ W2, Below W.heap.size W W2 → Calls Tryz.prog (fnOf F) #[.string d, .pointer (some ⟨gc, 0, none⟩)] W2 fun e w' => ∃ v, e = .returned v ∧ w'.ownsRow W2.heap.size 9 1 v (formWords S4 S6 F d).length ((formWords S4 S6 F d).map Value.string) ∧ Below W2.heap.size W2 w' := by
  rcases F with ks | b
  · obtain ⟨g, x, y, gc, gf, cap, h1, h2, h3⟩ := hT
    refine ⟨g, x, y, _, h1, fun W2 hW2 => ?_⟩
    have hk2 := kept_below hW2
    exact justWrite_any S4 S6 ks d W2 gf gc cap (hk2 _ _ h2) (h3.kept hk2) (k1 ks rfl) (by omega) (hs.below hW2).sh (hkl ks rfl)
  · cases b with
    | false =>
      obtain ⟨g, x, y, gc, h1, h2⟩ := hT
      refine ⟨g, x, y, _, h1, fun W2 hW2 => ?_⟩
      exact manyWrite_any d.size d W2 gc (kept_below hW2 _ _ h2) (k2 rfl) (by omega)
    | true =>
      obtain ⟨g, x, y, gc, h1, h2⟩ := hT
      refine ⟨g, x, y, _, h1, fun W2 hW2 => ?_⟩
      obtain ⟨k, hk⟩ := k3 rfl
      have hh := hs.below hW2
      have := ntWrite_any k d W2 gc (kept_below hW2 _ _ h2) hk (by omega) hh.mn hh.sh.1 (by simp only [formWords, hk, Option.getD_some, tyWords, List.length_cons, List.length_map] at hl; omega)
      simpa only [formWords, hk, Option.getD_some, fnOf] using this

theorem form_found {t : Int} {F : List Nat ⊕ Bool} {w : World} {r : Nat} {L : List (Int × Value)} (hM : IMap w r L) (hLF : ∀ p ∈ L, ∃ F, (p.1, F) ∈ formTab ∧ TFv w F p.2) (hv : ∃ v, (t, v) ∈ L) (hF : (t, F) ∈ formTab) (hwf : (Lit.int .i64 t).wf = true) :
    ∃ v, (Instr.lookup 88 (.map (some r)) (.int .i64 t) true).run Tryz.prog w = .ok (.tuple #[v, .bool true]) w ∧ TFv w F v := by
  rcases hM.get (P := Tryz.prog) (t := 88) (k := 2) (e := 86) Tryz.underlying2 Tryz.underlying88 (zero_form w) hwf with ⟨hno, _⟩ | ⟨v, hin, hlk⟩
  · obtain ⟨v, hv⟩ := hv
    exact absurd rfl (hno _ hv)
  · refine ⟨v, hlk, ?_⟩
    obtain ⟨F', h1, h2⟩ := hLF _ hin
    have e : some F = some F' := (formOf_some hF).symm.trans (formOf_some h1)
    cases e
    exact h2

set_option maxRecDepth 100000 in
set_option maxHeartbeats 3200000 in
theorem implShowData_form (S4 S6 : ByteArray → ByteArray × Int) (t : Int) (d : ByteArray) (w : World) (hd : d.size ≤ 1048576) (hc : cutCode t d = 0) (hs : SDL S4 S6 w) {F : List Nat ⊕ Bool} (hF : (t, F) ∈ formTab) (hj : (joinS (formWords S4 S6 F d)).size ≤ 1000000000) (hl : (formWords S4 S6 F d).length ≤ 16000001) :
    Calls Tryz.prog 43 #[.int .i64 t, .string d] w fun e w' => e = .returned (.tuple #[.string (joinS (formWords S4 S6 F d)), .int .i64 0]) ∧ Below w.heap.size w w' := by
  have hck := implCheckData_any t d w (by omega)
  have hsp : (Dt.spans (Dt.implP t) 0 d).isSome = true := by
    unfold cutCode at hc
    split at hc
    · cases hc
    · split at hc
      · cases hc
      · split at hc
        · assumption
        · cases hc
  have hsz : d.size ≤ 65535 := by
    unfold cutCode at hc
    split at hc
    · cases hc
    · split at hc
      · cases hc
      · omega
  have ht : 0 ≤ t ∧ t ≤ 65535 := by
    unfold cutCode at hc
    split at hc
    · cases hc
    · omega
  obtain ⟨k1, k2, k3⟩ := data_ok hF hsp
  rw [hc] at hck
  clear hc hsp
  have hwr := fun W v (hW : Below w.heap.size w W) (hT : TFv W F v) => tf_writes (d := d) (hs.below hW) hT k1 k2 k3 hsz (just_len hF) hl
  have hjn := fun (v : Value) W (h : W.ownsRow w.heap.size 9 1 v (formWords S4 S6 F d).length ((formWords S4 S6 F d).map Value.string)) => joinWords_any v (formWords S4 S6 F d) W h hj (by omega)
  have htf := fun W => textForms_any W
  have hwf := wf_small ht.1 ht.2
  obtain ⟨x0, hx0, hxt⟩ : ∃ x ∈ insTab, x.2 = t := by
    simp only [formTab, List.mem_cons, Prod.mk.injEq, List.not_mem_nil, or_false] at hF
    rcases hF with ⟨rfl, _⟩ | ⟨rfl, _⟩ | ⟨rfl, _⟩ | ⟨rfl, _⟩ | ⟨rfl, _⟩ | ⟨rfl, _⟩ | ⟨rfl, _⟩ | ⟨rfl, _⟩ | ⟨rfl, _⟩ | ⟨rfl, _⟩ | ⟨rfl, _⟩ | ⟨rfl, _⟩ | ⟨rfl, _⟩ | ⟨rfl, _⟩ <;> simp [insTab]
  clear k1 k2 k3 hl hj
  generalize formWords S4 S6 F d = ls at *
  generalize joinS ls = J at *
  have hff := fun (W : World) (r : Nat) (L : List (Int × Value)) (hM : IMap W r L) hLF (hLI : ∀ x ∈ insTab, ∃ v, (x.2, v) ∈ L) => form_found (w := W) hM hLF (by rw [← hxt]; exact hLI x0 hx0) hF hwf
  clear hF hs hxt hx0 hwf
  rcases F with ks | b
  · simp only [fnOf] at hwr
    go_enter Tryz.func43, Tryz.ntmps43
    go_wp2_with (first | (go_at_call 40; refine hck.mono ?_; rintro e w1 ⟨rfl, hb1⟩) | (go_at_call 58; refine (htf _).mono ?_; rintro e w2 ⟨⟨r, L, rfl, hM, hLF, hLI⟩, hb2⟩; obtain ⟨vv, hlk, hT⟩ := hff w2 r L hM hLF hLI; obtain ⟨g, x, y, gc, rfl, hwc⟩ := hwr w2 vv (Nm.below_two hb1 hb2) hT; clear hM hLF hLI hT) | (go_at_call 105; refine (hwc _ ((Below.refl _ _).alloc (Nat.le_refl _) _)).mono ?_; rintro e w3 ⟨v3, rfl, o3, hb3⟩; have hb03 := Nm.below_two (Nm.below_two (Nm.below_two hb1 hb2) ((Below.refl _ _).alloc (Nat.le_refl _) _)) hb3) | (go_at_call 44; refine (hjn _ _ (own_base o3 (Nm.below_two (Nm.below_two hb1 hb2) ((Below.refl _ _).alloc (Nat.le_refl _) _)).size)).mono ?_; rintro e w4 ⟨rfl, hb4⟩))
    go_ret2
    exact ⟨rfl, Nm.below_two hb03 hb4⟩
  · cases b with
    | false =>
      simp only [fnOf] at hwr
      go_enter Tryz.func43, Tryz.ntmps43
      go_wp2_with (first | (go_at_call 40; refine hck.mono ?_; rintro e w1 ⟨rfl, hb1⟩) | (go_at_call 58; refine (htf _).mono ?_; rintro e w2 ⟨⟨r, L, rfl, hM, hLF, hLI⟩, hb2⟩; obtain ⟨vv, hlk, hT⟩ := hff w2 r L hM hLF hLI; obtain ⟨g, x, y, gc, rfl, hwc⟩ := hwr w2 vv (Nm.below_two hb1 hb2) hT; clear hM hLF hLI hT) | (go_at_call 114; refine (hwc _ ((Below.refl _ _).alloc (Nat.le_refl _) _)).mono ?_; rintro e w3 ⟨v3, rfl, o3, hb3⟩; have hb03 := Nm.below_two (Nm.below_two (Nm.below_two hb1 hb2) ((Below.refl _ _).alloc (Nat.le_refl _) _)) hb3) | (go_at_call 44; refine (hjn _ _ (own_base o3 (Nm.below_two (Nm.below_two hb1 hb2) ((Below.refl _ _).alloc (Nat.le_refl _) _)).size)).mono ?_; rintro e w4 ⟨rfl, hb4⟩))
      go_ret2
      exact ⟨rfl, Nm.below_two hb03 hb4⟩
    | true =>
      simp only [fnOf] at hwr
      go_enter Tryz.func43, Tryz.ntmps43
      go_wp2_with (first | (go_at_call 40; refine hck.mono ?_; rintro e w1 ⟨rfl, hb1⟩) | (go_at_call 58; refine (htf _).mono ?_; rintro e w2 ⟨⟨r, L, rfl, hM, hLF, hLI⟩, hb2⟩; obtain ⟨vv, hlk, hT⟩ := hff w2 r L hM hLF hLI; obtain ⟨g, x, y, gc, rfl, hwc⟩ := hwr w2 vv (Nm.below_two hb1 hb2) hT; clear hM hLF hLI hT) | (go_at_call 122; refine (hwc _ ((Below.refl _ _).alloc (Nat.le_refl _) _)).mono ?_; rintro e w3 ⟨v3, rfl, o3, hb3⟩; have hb03 := Nm.below_two (Nm.below_two (Nm.below_two hb1 hb2) ((Below.refl _ _).alloc (Nat.le_refl _) _)) hb3) | (go_at_call 44; refine (hjn _ _ (own_base o3 (Nm.below_two (Nm.below_two hb1 hb2) ((Below.refl _ _).alloc (Nat.le_refl _) _)).size)).mono ?_; rintro e w4 ⟨rfl, hb4⟩))
      go_ret2
      exact ⟨rfl, Nm.below_two hb03 hb4⟩

theorem form_lost {t : Int} {w : World} {r : Nat} {L : List (Int × Value)} (hM : IMap w r L) (hLF : ∀ p ∈ L, ∃ F, (p.1, F) ∈ formTab ∧ TFv w F p.2) (hn : formOf t = none) (hwf : (Lit.int .i64 t).wf = true) :
    (Instr.lookup 88 (.map (some r)) (.int .i64 t) true).run Tryz.prog w = .ok (.tuple #[.agg #[.nilFunc, .nilFunc], .bool false]) w := by
  rcases hM.get (P := Tryz.prog) (t := 88) (k := 2) (e := 86) Tryz.underlying2 Tryz.underlying88 (zero_form w) hwf with ⟨hno, hlk⟩ | ⟨v, hin, hlk⟩
  · exact hlk
  · obtain ⟨F', h1, h2⟩ := hLF _ hin
    rw [formOf_some h1] at hn
    cases hn

set_option maxRecDepth 100000 in
set_option maxHeartbeats 3200000 in
theorem implShowData_plain (t : Int) (d : ByteArray) (w : World) (hd : d.size ≤ 1048576) (hc : cutCode t d = 0) (hT : PowTab w) (hn : formOf t = none) (hj : (joinS (plainWords d)).size ≤ 1000000000) :
    Calls Tryz.prog 43 #[.int .i64 t, .string d] w fun e w' => e = .returned (.tuple #[.string (joinS (plainWords d)), .int .i64 0]) ∧ Below w.heap.size w w' := by
  have hck := implCheckData_any t d w (by omega)
  have ht : 0 ≤ t ∧ t ≤ 65535 := by
    unfold cutCode at hc
    split at hc
    · cases hc
    · omega
  rw [hc] at hck
  clear hc
  have hwf := wf_small ht.1 ht.2
  have htf := fun W => textForms_any W
  have hff := fun (W : World) (r : Nat) (L : List (Int × Value)) (hM : IMap W r L) hLF => form_lost (t := t) (w := W) hM hLF hn hwf
  have hit := fun W (hb : Below w.heap.size w W) => itoa_any d.size W (by omega) (hT.below hb)
  by_cases h0 : d.size = 0
  · have HP : Hid (plainWords d = [⟨#[92, 35]⟩, decS d.size]) := by rw [Hid, plainWords, if_pos h0]
    obtain ⟨h0', h0''⟩ := beq_empty h0
    rw [HP.out] at hj ⊢
    have hjn := fun (v : Value) W (h : W.ownsRow w.heap.size 9 1 v 2 [.string ⟨#[92, 35]⟩, .string (decS d.size)]) => joinWords_any v [⟨#[92, 35]⟩, decS d.size] W h hj (by simp)
    generalize joinS [⟨#[92, 35]⟩, decS d.size] = J at *
    have HD : Hid True := trivial
    generalize decS d.size = D at *
    clear hj HP hn hwf hT h0
    go_enter Tryz.func43, Tryz.ntmps43
    go_wp2_with (first | (go_at_call 40; refine hck.mono ?_; rintro e w1 ⟨rfl, hb1⟩) | (go_at_call 58; refine (htf _).mono ?_; rintro e w2 ⟨⟨r, L, rfl, hM, hLF, hLI⟩, hb2⟩; have hlk := hff w2 r L hM hLF; have hbA := Nm.below_two (Nm.below_two hb1 hb2) ((Below.refl w2.heap.size w2).alloc (Nat.le_refl _) (.cells #[.nilFunc, .nilFunc] 86)); clear hM hLF hLI) | (go_at_call 59; refine (hit _ hbA).mono ?_; rintro e w3 ⟨rfl, hb3⟩; have hb03 := Nm.below_two hbA hb3) | (go_at_call 44; refine (hjn _ _ (World.ownsRow_lit (base := w.heap.size) (e := 9) (size := 1) w3 #[.string ⟨#[92, 35]⟩, .string D] 2 hb03.size (by decide) rfl)).mono ?_; rintro e w4 ⟨rfl, hb4⟩; have hb04 := Nm.below_two (Nm.below_two hb03 ((Below.refl w3.heap.size w3).alloc (Nat.le_refl _) (.cells #[.string ⟨#[92, 35]⟩, .string D] 9))) hb4))
    go_ret2
    exact ⟨rfl, hb04⟩
  · have HP : Hid (plainWords d = [⟨#[92, 35]⟩, decS d.size, ⟨(byHex d.data.toList).toArray⟩]) := by rw [Hid, plainWords, if_neg h0]
    obtain ⟨h0', h0''⟩ := not_empty (s := d) (by omega)
    rw [HP.out] at hj ⊢
    have hjn := fun (v : Value) W (h : W.ownsRow w.heap.size 9 1 v 3 [.string ⟨#[92, 35]⟩, .string (decS d.size), .string ⟨(byHex d.data.toList).toArray⟩]) => joinWords_any v [⟨#[92, 35]⟩, decS d.size, ⟨(byHex d.data.toList).toArray⟩] W h hj (by simp)
    have hhx := fun W => showHex_any d W (by omega) (by omega)
    generalize joinS [⟨#[92, 35]⟩, decS d.size, ⟨(byHex d.data.toList).toArray⟩] = J at *
    generalize (⟨(byHex d.data.toList).toArray⟩ : ByteArray) = X at *
    generalize decS d.size = D at *
    clear hj HP hn hwf hT h0
    go_enter Tryz.func43, Tryz.ntmps43
    go_wp2_with (first | (go_at_call 40; refine hck.mono ?_; rintro e w1 ⟨rfl, hb1⟩) | (go_at_call 58; refine (htf _).mono ?_; rintro e w2 ⟨⟨r, L, rfl, hM, hLF, hLI⟩, hb2⟩; have hlk := hff w2 r L hM hLF; have hbA := Nm.below_two (Nm.below_two hb1 hb2) ((Below.refl w2.heap.size w2).alloc (Nat.le_refl _) (.cells #[.nilFunc, .nilFunc] 86)); clear hM hLF hLI) | (go_at_call 59; refine (hit _ hbA).mono ?_; rintro e w3 ⟨rfl, hb3⟩; have hb03 := Nm.below_two hbA hb3) | (go_at_call 60; refine (hhx _).mono ?_; rintro e w5 ⟨rfl, hb5⟩; have hb05 := Nm.below_two hb03 hb5) | (go_at_call 44; refine (hjn _ _ (World.ownsRow_lit (base := w.heap.size) (e := 9) (size := 1) w5 #[.string ⟨#[92, 35]⟩, .string D, .string X] 3 hb05.size (by decide) rfl)).mono ?_; rintro e w4 ⟨rfl, hb4⟩; have hb04 := Nm.below_two (Nm.below_two hb05 ((Below.refl w5.heap.size w5).alloc (Nat.le_refl _) (.cells #[.string ⟨#[92, 35]⟩, .string D, .string X] 9))) hb4))
    go_ret2
    exact ⟨rfl, hb04⟩

theorem implShowData_any (S4 S6 : ByteArray → ByteArray × Int) (t : Int) (d : ByteArray) (w : World) (hd : d.size ≤ 1048576) (hs : SDL S4 S6 w) (hj : cutCode t d = 0 → (joinS (dataWords S4 S6 t d)).size ≤ 1000000000 ∧ (dataWords S4 S6 t d).length ≤ 16000001) :
    Calls Tryz.prog 43 #[.int .i64 t, .string d] w fun e w' => e = .returned (.tuple #[.string (showDS S4 S6 t d).1, .int .i64 (showDS S4 S6 t d).2]) ∧ Below w.heap.size w w' := by
  unfold showDS
  by_cases hc : cutCode t d = 0
  · rw [if_pos hc]
    obtain ⟨h1, h2⟩ := hj hc
    unfold dataWords at h1 h2 ⊢
    cases hf : formOf t with
    | none =>
      rw [hf] at h1
      exact implShowData_plain t d w hd hc hs.sh.1 hf h1
    | some F =>
      rw [hf] at h1 h2
      have hF : (t, F) ∈ formTab := by
        unfold formOf at hf
        cases hq : formTab.find? (fun x => x.1 == t) with
        | none => rw [hq] at hf; cases hf
        | some p =>
          rw [hq] at hf
          simp only [Option.map_some, Option.some.injEq] at hf
          have hm := List.mem_of_find?_eq_some hq
          have he := List.find?_some hq
          simp only [beq_iff_eq] at he
          rw [← he, ← hf]
          exact hm
      exact implShowData_form S4 S6 t d w hd hc hs hF h1 h2
  · rw [if_neg hc]
    exact implShowData_bad t d w hd hc
end Go.Proofs.YtechmpdfbpehiaaGreatDoor
/- Numbers in digits of base 16: mathematics. -/
namespace Go.Proofs.YtechmpdfbpehiaaGreatDoor
open Go.RowKit

def hexD (k : Nat) : UInt8 := if k < 10 then UInt8.ofNat (48 + k) else UInt8.ofNat (87 + k)
/-- A number's hexadecimal digits, no needless noughts. -/
def hexF : Nat → Nat → List UInt8
  | 0, _ => []
  | f + 1, n => if n < 16 then [hexD n] else hexF f (n / 16) ++ [hexD (n % 16)]
theorem hexF_enough : ∀ (f g n : Nat), n < f → n < g → hexF f n = hexF g n := by
  intro f
  induction f with
  | zero => intro g n h; omega
  | succ f ih =>
    intro g n hf hg
    cases g with
    | zero => omega
    | succ g =>
      rw [hexF, hexF]
      by_cases h : n < 16
      · rw [if_pos h, if_pos h]
      · rw [if_neg h, if_neg h, ih g (n / 16) (by omega) (by omega)]
def hexL (n : Nat) : List UInt8 := hexF (n + 1) n
def hexS (n : Nat) : ByteArray := ⟨(hexL n).toArray⟩
theorem hexL_small {n : Nat} (h : n < 16) : hexL n = [hexD n] := by rw [hexL, hexF, if_pos h]
theorem hexL_step {n : Nat} (h : ¬ n < 16) : hexL n = hexL (n / 16) ++ [hexD (n % 16)] := by
  rw [hexL, hexF, if_neg h, hexL]
  rw [hexF_enough n (n / 16 + 1) (n / 16) (by omega) (by omega)]
theorem hexL_len {n : Nat} (h : n < 65536) : (hexL n).length ≤ 4 := by
  by_cases h1 : n < 16
  · rw [hexL_small h1]; simp
  by_cases h2 : n / 16 < 16
  · rw [hexL_step h1, hexL_small h2]; simp
  by_cases h3 : n / 16 / 16 < 16
  · rw [hexL_step h1, hexL_step h2, hexL_small h3]; simp
  · rw [hexL_step h1, hexL_step h2, hexL_step h3, hexL_small (by omega)]; simp
theorem hexS_size {n : Nat} (h : n < 65536) : (hexS n).size ≤ 4 := by
  have := hexL_len h
  show (hexL n).toArray.size ≤ 4
  simpa using this

def hexLit : ByteArray := ⟨#[48, 49, 50, 51, 52, 53, 54, 55, 56, 57, 97, 98, 99, 100, 101, 102]⟩
theorem hexLit_at (k : Nat) (h : k < 16) : hexLit.extract k (k + 1) = ⟨#[hexD k]⟩ := by
  match k, h with
  | 0, _ => rfl
  | 1, _ => rfl
  | 2, _ => rfl
  | 3, _ => rfl
  | 4, _ => rfl
  | 5, _ => rfl
  | 6, _ => rfl
  | 7, _ => rfl
  | 8, _ => rfl
  | 9, _ => rfl
  | 10, _ => rfl
  | 11, _ => rfl
  | 12, _ => rfl
  | 13, _ => rfl
  | 14, _ => rfl
  | 15, _ => rfl
  | n + 16, h => exact absurd h (by omega)

end Go.Proofs.YtechmpdfbpehiaaGreatDoor
/- The groups of an address: mathematics. -/
namespace Go.Proofs.YtechmpdfbpehiaaGreatDoor
open Go.RowKit

/-- Group i of an address. -/
def grp (s : ByteArray) (i : Nat) : Nat := numL (s.extract (2 * i) (2 * i + 2)).data.toList
theorem grp_lt (s : ByteArray) (i : Nat) : grp s i < 65536 := by
  have h1 := numL_lt (s.extract (2 * i) (2 * i + 2)).data.toList
  have h2 : (s.extract (2 * i) (2 * i + 2)).data.toList.length ≤ 2 := by simp; omega
  have h3 : 256 ^ (s.extract (2 * i) (2 * i + 2)).data.toList.length ≤ 256 ^ 2 := Nat.pow_le_pow_right (by decide) h2
  have h4 : (256 : Nat) ^ 2 = 65536 := by decide
  unfold grp
  omega

/-- k groups from a on, a colon between each two. -/
def rowS (s : ByteArray) (a : Nat) : Nat → ByteArray
  | 0 => ⟨#[]⟩
  | k + 1 => (if 0 < k then rowS s a k ++ ⟨#[58]⟩ else rowS s a k) ++ hexS (grp s (a + k))
theorem rowS_size (s : ByteArray) (a : Nat) : ∀ k, (rowS s a k).size ≤ 5 * k := by
  intro k
  induction k with
  | zero => exact Nat.le_refl _
  | succ k ih =>
    have h := hexS_size (grp_lt s (a + k))
    rw [rowS]
    split
    · rw [ByteArray.size_append, ByteArray.size_append]
      have : (⟨#[58]⟩ : ByteArray).size = 1 := rfl
      omega
    · rw [ByteArray.size_append]; omega

end Go.Proofs.YtechmpdfbpehiaaGreatDoor
