import Derived.Test.YtephbegencpllaaGreatDoorJTf4
import Derived.Test.YtephbegencpllaaGreatDoorICheck
import Derived.Test.YtephbegencpllaaGreatDoorJShelfL
/- impl.ShowData by its contract. -/
namespace Go.Proofs.YtephbegencpllaaGreatDoor
open Go.RowKit
set_option linter.unusedVariables false


theorem wf_small {t : Int} (h0 : 0 ≤ t) (h1 : t ≤ 65535) : (Lit.int .i64 t).wf = true := by
  have h2 : IntKind.i64.min = -9223372036854775808 := by decide
  have h3 : IntKind.i64.max = 9223372036854775807 := by decide
  show (decide (IntKind.i64.min ≤ t) && decide (t ≤ IntKind.i64.max)) = true
  rw [h2, h3]
  simp
  omega

theorem zero_form (w : World) : (zeroValue 39).run Tryz.prog w = .ok (.agg #[.nilFunc, .nilFunc]) w := by kernel_rfl

theorem formTab_keys : (formTab.map (·.1)).Nodup := by decide

theorem formOf_some {t : Int} {F : List Nat ⊕ Bool} (h : (t, F) ∈ formTab) : formOf t = some F := by
  simp only [formTab, List.mem_cons, Prod.mk.injEq, List.not_mem_nil, or_false] at h
  rcases h with ⟨rfl, rfl⟩ | ⟨rfl, rfl⟩ | ⟨rfl, rfl⟩ | ⟨rfl, rfl⟩ | ⟨rfl, rfl⟩ | ⟨rfl, rfl⟩ | ⟨rfl, rfl⟩ | ⟨rfl, rfl⟩ | ⟨rfl, rfl⟩ | ⟨rfl, rfl⟩ | ⟨rfl, rfl⟩ | ⟨rfl, rfl⟩ | ⟨rfl, rfl⟩ | ⟨rfl, rfl⟩ <;> rfl
theorem formOf_none {t : Int} (h : ∀ x ∈ insTab, x.2 ≠ t) : formOf t = none := by
  unfold formOf
  rw [List.find?_eq_none.2]
  · rfl
  · intro p hp
    have : ∃ x ∈ insTab, x.2 = p.1 := by
      simp only [formTab, List.mem_cons, List.not_mem_nil, or_false] at hp
      rcases hp with rfl | rfl | rfl | rfl | rfl | rfl | rfl | rfl | rfl | rfl | rfl | rfl | rfl | rfl <;> simp [insTab]
    obtain ⟨x, hx, he⟩ := this
    have := h x hx
    simp only [beq_iff_eq]
    intro e
    exact this (by rw [he, e])

def showDS (S4 S6 : ByteArray → ByteArray × Int) (t : Int) (d : ByteArray) : ByteArray × Int := if cutCode t d = 0 then (joinS (dataWords S4 S6 t d), 0) else (⟨#[]⟩, cutCode t d)

set_option maxRecDepth 100000 in
set_option maxHeartbeats 3200000 in
theorem implShowData_bad (t : Int) (d : ByteArray) (w : World) (hd : d.size ≤ 1048576) (hc : cutCode t d ≠ 0) :
    Calls Tryz.prog 5 #[.int .i64 t, .string d] w fun e w' => e = .returned (.tuple #[.string ⟨#[]⟩, .int .i64 (cutCode t d)]) ∧ Below w.heap.size w w' := by
  have hck := implCheckData_any t d w (by omega)
  have hne : (cutCode t d != 0) = true := by rw [bne_iff_ne]; exact hc
  clear hc
  generalize cutCode t d = c at *
  go_enter Tryz.func5, Tryz.ntmps5
  go_wp2_with (go_at_call 18; refine hck.mono ?_; rintro e w1 ⟨rfl, hb1⟩)
  go_ret2
  exact ⟨rfl, hb1⟩

/-- What ShowData leans on. -/
structure SDL (S4 S6 : ByteArray → ByteArray × Int) (w : World) : Prop where
  sh : Shows S4 S6 w
  mn : MnemAt w

theorem SDL.below {S4 S6 : ByteArray → ByteArray × Int} {w W : World} (h : SDL S4 S6 w) (hb : Below w.heap.size w W) : SDL S4 S6 W :=
  ⟨⟨h.sh.1.below hb, fun s V hV => h.sh.2.1 s V (hb.trans (hV.mono hb.size)), fun s V hV => h.sh.2.2 s V (hb.trans (hV.mono hb.size))⟩, h.mn.below hb⟩

theorem just_len {t : Int} {F : List Nat ⊕ Bool} (h : (t, F) ∈ formTab) : ∀ ks, F = .inl ks → ks.length ≤ 100 := by
  have hall : (formTab.all fun x => match x.2 with | .inl ks => decide (ks.length ≤ 100) | .inr _ => true) = true := by decide
  have := List.all_eq_true.1 hall _ h
  intro ks e
  subst e
  simpa using this

/-- The writer of a form. -/
def fnOf : List Nat ⊕ Bool → Nat
  | .inl _ => 71
  | .inr false => 80
  | .inr true => 88

theorem tf_writes {S4 S6 : ByteArray → ByteArray × Int} {F : List Nat ⊕ Bool} {d : ByteArray} {W : World} {v : Value} (hs : SDL S4 S6 W) (hT : TFv W F v) (k1 : ∀ ks, F = .inl ks → okAll ks d) (k2 : F = .inr false → okMany d.size d) (k3 : F = .inr true → ∃ k, Dt.sz .nm d = some k) (hsz : d.size ≤ 65535) (hkl : ∀ ks, F = .inl ks → ks.length ≤ 100) (hl : (formWords S4 S6 F d).length ≤ 16000001) :
    ∃ g x y gc, v = .agg #[.func g x y, .func (.func (fnOf F)) #[] #[.pointer (some ⟨gc, 0, none⟩)]] ∧
      ∀ W2, Below W.heap.size W W2 → Calls Tryz.prog (fnOf F) #[.string d, .pointer (some ⟨gc, 0, none⟩)] W2 fun e w' => ∃ v, e = .returned v ∧ w'.ownsRow W2.heap.size 9 1 v (formWords S4 S6 F d).length ((formWords S4 S6 F d).map Value.string) ∧ Below W2.heap.size W2 w' := by
  rcases F with ks | b
  · obtain ⟨g, x, y, gc, gf, cap, h1, h2, h3⟩ := hT
    refine ⟨g, x, y, _, h1, fun W2 hW2 => ?_⟩
    have hk2 := kept_below hW2
    exact justWrite_any S4 S6 ks d W2 gf gc cap (hk2 _ _ h2) (h3.kept hk2) (k1 ks rfl) (by omega) (hs.below hW2).sh (hkl ks rfl)
  · cases b with
    | false =>
      obtain ⟨g, x, y, gc, h1, h2⟩ := hT
      refine ⟨g, x, y, _, h1, fun W2 hW2 => ?_⟩
      exact manyWrite_any d.size d W2 gc (kept_below hW2 _ _ h2) (k2 rfl) (by omega)
    | true =>
      obtain ⟨g, x, y, gc, h1, h2⟩ := hT
      refine ⟨g, x, y, _, h1, fun W2 hW2 => ?_⟩
      obtain ⟨k, hk⟩ := k3 rfl
      have hh := hs.below hW2
      have := ntWrite_any k d W2 gc (kept_below hW2 _ _ h2) hk (by omega) hh.mn hh.sh.1 (by simp only [formWords, hk, Option.getD_some, tyWords, List.length_cons, List.length_map] at hl; omega)
      simpa only [formWords, hk, Option.getD_some, fnOf] using this

theorem form_found {t : Int} {F : List Nat ⊕ Bool} {w : World} {r : Nat} {L : List (Int × Value)} (hM : IMap w r L) (hLF : ∀ p ∈ L, ∃ F, (p.1, F) ∈ formTab ∧ TFv w F p.2) (hv : ∃ v, (t, v) ∈ L) (hF : (t, F) ∈ formTab) (hwf : (Lit.int .i64 t).wf = true) :
    ∃ v, (Instr.lookup 41 (.map (some r)) (.int .i64 t) true).run Tryz.prog w = .ok (.tuple #[v, .bool true]) w ∧ TFv w F v := by
  rcases hM.get (P := Tryz.prog) (t := 41) (k := 2) (e := 39) Tryz.underlying2 Tryz.underlying41 (zero_form w) hwf with ⟨hno, _⟩ | ⟨v, hin, hlk⟩
  · obtain ⟨v, hv⟩ := hv
    exact absurd rfl (hno _ hv)
  · refine ⟨v, hlk, ?_⟩
    obtain ⟨F', h1, h2⟩ := hLF _ hin
    have e : some F = some F' := (formOf_some hF).symm.trans (formOf_some h1)
    cases e
    exact h2

set_option maxRecDepth 100000 in
set_option maxHeartbeats 3200000 in
theorem implShowData_form (S4 S6 : ByteArray → ByteArray × Int) (t : Int) (d : ByteArray) (w : World) (hd : d.size ≤ 1048576) (hc : cutCode t d = 0) (hs : SDL S4 S6 w) {F : List Nat ⊕ Bool} (hF : (t, F) ∈ formTab) (hj : (joinS (formWords S4 S6 F d)).size ≤ 1000000000) (hl : (formWords S4 S6 F d).length ≤ 16000001) :
    Calls Tryz.prog 5 #[.int .i64 t, .string d] w fun e w' => e = .returned (.tuple #[.string (joinS (formWords S4 S6 F d)), .int .i64 0]) ∧ Below w.heap.size w w' := by
  have hck := implCheckData_any t d w (by omega)
  have hsp : (Dt.spans (Dt.implP t) 0 d).isSome = true := by
    unfold cutCode at hc
    split at hc
    · cases hc
    · split at hc
      · cases hc
      · split at hc
        · assumption
        · cases hc
  have hsz : d.size ≤ 65535 := by
    unfold cutCode at hc
    split at hc
    · cases hc
    · split at hc
      · cases hc
      · omega
  have ht : 0 ≤ t ∧ t ≤ 65535 := by
    unfold cutCode at hc
    split at hc
    · cases hc
    · omega
  obtain ⟨k1, k2, k3⟩ := data_ok hF hsp
  rw [hc] at hck
  clear hc hsp
  have hwr := fun W v (hW : Below w.heap.size w W) (hT : TFv W F v) => tf_writes (d := d) (hs.below hW) hT k1 k2 k3 hsz (just_len hF) hl
  have hjn := fun (v : Value) W (h : W.ownsRow w.heap.size 9 1 v (formWords S4 S6 F d).length ((formWords S4 S6 F d).map Value.string)) => joinWords_any v (formWords S4 S6 F d) W h hj (by omega)
  have htf := fun W => textForms_any W
  have hwf := wf_small ht.1 ht.2
  obtain ⟨x0, hx0, hxt⟩ : ∃ x ∈ insTab, x.2 = t := by
    simp only [formTab, List.mem_cons, Prod.mk.injEq, List.not_mem_nil, or_false] at hF
    rcases hF with ⟨rfl, _⟩ | ⟨rfl, _⟩ | ⟨rfl, _⟩ | ⟨rfl, _⟩ | ⟨rfl, _⟩ | ⟨rfl, _⟩ | ⟨rfl, _⟩ | ⟨rfl, _⟩ | ⟨rfl, _⟩ | ⟨rfl, _⟩ | ⟨rfl, _⟩ | ⟨rfl, _⟩ | ⟨rfl, _⟩ | ⟨rfl, _⟩ <;> simp [insTab]
  clear k1 k2 k3 hl hj
  generalize formWords S4 S6 F d = ls at *
  generalize joinS ls = J at *
  have hff := fun (W : World) (r : Nat) (L : List (Int × Value)) (hM : IMap W r L) hLF (hLI : ∀ x ∈ insTab, ∃ v, (x.2, v) ∈ L) => form_found (w := W) hM hLF (by rw [← hxt]; exact hLI x0 hx0) hF hwf
  clear hF hs hxt hx0 hwf
  rcases F with ks | b
  · simp only [fnOf] at hwr
    go_enter Tryz.func5, Tryz.ntmps5
    go_wp2_with (first | (go_at_call 18; refine hck.mono ?_; rintro e w1 ⟨rfl, hb1⟩) | (go_at_call 19; refine (htf _).mono ?_; rintro e w2 ⟨⟨r, L, rfl, hM, hLF, hLI⟩, hb2⟩; obtain ⟨vv, hlk, hT⟩ := hff w2 r L hM hLF hLI; obtain ⟨g, x, y, gc, rfl, hwc⟩ := hwr w2 vv (Nm.below_two hb1 hb2) hT; clear hM hLF hLI hT) | (go_at_call 71; refine (hwc _ ((Below.refl _ _).alloc (Nat.le_refl _) _)).mono ?_; rintro e w3 ⟨v3, rfl, o3, hb3⟩; have hb03 := Nm.below_two (Nm.below_two (Nm.below_two hb1 hb2) ((Below.refl _ _).alloc (Nat.le_refl _) _)) hb3) | (go_at_call 20; refine (hjn _ _ (own_base o3 (Nm.below_two (Nm.below_two hb1 hb2) ((Below.refl _ _).alloc (Nat.le_refl _) _)).size)).mono ?_; rintro e w4 ⟨rfl, hb4⟩))
    go_ret2
    exact ⟨rfl, Nm.below_two hb03 hb4⟩
  · cases b with
    | false =>
      simp only [fnOf] at hwr
      go_enter Tryz.func5, Tryz.ntmps5
      go_wp2_with (first | (go_at_call 18; refine hck.mono ?_; rintro e w1 ⟨rfl, hb1⟩) | (go_at_call 19; refine (htf _).mono ?_; rintro e w2 ⟨⟨r, L, rfl, hM, hLF, hLI⟩, hb2⟩; obtain ⟨vv, hlk, hT⟩ := hff w2 r L hM hLF hLI; obtain ⟨g, x, y, gc, rfl, hwc⟩ := hwr w2 vv (Nm.below_two hb1 hb2) hT; clear hM hLF hLI hT) | (go_at_call 80; refine (hwc _ ((Below.refl _ _).alloc (Nat.le_refl _) _)).mono ?_; rintro e w3 ⟨v3, rfl, o3, hb3⟩; have hb03 := Nm.below_two (Nm.below_two (Nm.below_two hb1 hb2) ((Below.refl _ _).alloc (Nat.le_refl _) _)) hb3) | (go_at_call 20; refine (hjn _ _ (own_base o3 (Nm.below_two (Nm.below_two hb1 hb2) ((Below.refl _ _).alloc (Nat.le_refl _) _)).size)).mono ?_; rintro e w4 ⟨rfl, hb4⟩))
      go_ret2
      exact ⟨rfl, Nm.below_two hb03 hb4⟩
    | true =>
      simp only [fnOf] at hwr
      go_enter Tryz.func5, Tryz.ntmps5
      go_wp2_with (first | (go_at_call 18; refine hck.mono ?_; rintro e w1 ⟨rfl, hb1⟩) | (go_at_call 19; refine (htf _).mono ?_; rintro e w2 ⟨⟨r, L, rfl, hM, hLF, hLI⟩, hb2⟩; obtain ⟨vv, hlk, hT⟩ := hff w2 r L hM hLF hLI; obtain ⟨g, x, y, gc, rfl, hwc⟩ := hwr w2 vv (Nm.below_two hb1 hb2) hT; clear hM hLF hLI hT) | (go_at_call 88; refine (hwc _ ((Below.refl _ _).alloc (Nat.le_refl _) _)).mono ?_; rintro e w3 ⟨v3, rfl, o3, hb3⟩; have hb03 := Nm.below_two (Nm.below_two (Nm.below_two hb1 hb2) ((Below.refl _ _).alloc (Nat.le_refl _) _)) hb3) | (go_at_call 20; refine (hjn _ _ (own_base o3 (Nm.below_two (Nm.below_two hb1 hb2) ((Below.refl _ _).alloc (Nat.le_refl _) _)).size)).mono ?_; rintro e w4 ⟨rfl, hb4⟩))
      go_ret2
      exact ⟨rfl, Nm.below_two hb03 hb4⟩

theorem form_lost {t : Int} {w : World} {r : Nat} {L : List (Int × Value)} (hM : IMap w r L) (hLF : ∀ p ∈ L, ∃ F, (p.1, F) ∈ formTab ∧ TFv w F p.2) (hn : formOf t = none) (hwf : (Lit.int .i64 t).wf = true) :
    (Instr.lookup 41 (.map (some r)) (.int .i64 t) true).run Tryz.prog w = .ok (.tuple #[.agg #[.nilFunc, .nilFunc], .bool false]) w := by
  rcases hM.get (P := Tryz.prog) (t := 41) (k := 2) (e := 39) Tryz.underlying2 Tryz.underlying41 (zero_form w) hwf with ⟨hno, hlk⟩ | ⟨v, hin, hlk⟩
  · exact hlk
  · obtain ⟨F', h1, h2⟩ := hLF _ hin
    rw [formOf_some h1] at hn
    cases hn

set_option maxRecDepth 100000 in
set_option maxHeartbeats 3200000 in
theorem implShowData_plain (t : Int) (d : ByteArray) (w : World) (hd : d.size ≤ 1048576) (hc : cutCode t d = 0) (hT : PowTab w) (hn : formOf t = none) (hj : (joinS (plainWords d)).size ≤ 1000000000) :
    Calls Tryz.prog 5 #[.int .i64 t, .string d] w fun e w' => e = .returned (.tuple #[.string (joinS (plainWords d)), .int .i64 0]) ∧ Below w.heap.size w w' := by
  have hck := implCheckData_any t d w (by omega)
  have ht : 0 ≤ t ∧ t ≤ 65535 := by
    unfold cutCode at hc
    split at hc
    · cases hc
    · omega
  rw [hc] at hck
  clear hc
  have hwf := wf_small ht.1 ht.2
  have htf := fun W => textForms_any W
  have hff := fun (W : World) (r : Nat) (L : List (Int × Value)) (hM : IMap W r L) hLF => form_lost (t := t) (w := W) hM hLF hn hwf
  have hit := fun W (hb : Below w.heap.size w W) => itoa_any d.size W (by omega) (hT.below hb)
  by_cases h0 : d.size = 0
  · have HP : Hid (plainWords d = [⟨#[92, 35]⟩, decS d.size]) := by rw [Hid, plainWords, if_pos h0]
    obtain ⟨h0', h0''⟩ := beq_empty h0
    rw [HP.out] at hj ⊢
    have hjn := fun (v : Value) W (h : W.ownsRow w.heap.size 9 1 v 2 [.string ⟨#[92, 35]⟩, .string (decS d.size)]) => joinWords_any v [⟨#[92, 35]⟩, decS d.size] W h hj (by simp)
    generalize joinS [⟨#[92, 35]⟩, decS d.size] = J at *
    have HD : Hid True := trivial
    generalize decS d.size = D at *
    clear hj HP hn hwf hT h0
    go_enter Tryz.func5, Tryz.ntmps5
    go_wp2_with (first | (go_at_call 18; refine hck.mono ?_; rintro e w1 ⟨rfl, hb1⟩) | (go_at_call 19; refine (htf _).mono ?_; rintro e w2 ⟨⟨r, L, rfl, hM, hLF, hLI⟩, hb2⟩; have hlk := hff w2 r L hM hLF; have hbA := Nm.below_two (Nm.below_two hb1 hb2) ((Below.refl w2.heap.size w2).alloc (Nat.le_refl _) (.cells #[.nilFunc, .nilFunc] 39)); clear hM hLF hLI) | (go_at_call 21; refine (hit _ hbA).mono ?_; rintro e w3 ⟨rfl, hb3⟩; have hb03 := Nm.below_two hbA hb3) | (go_at_call 20; refine (hjn _ _ (World.ownsRow_lit (base := w.heap.size) (e := 9) (size := 1) w3 #[.string ⟨#[92, 35]⟩, .string D] 2 hb03.size (by decide) rfl)).mono ?_; rintro e w4 ⟨rfl, hb4⟩; have hb04 := Nm.below_two (Nm.below_two hb03 ((Below.refl w3.heap.size w3).alloc (Nat.le_refl _) (.cells #[.string ⟨#[92, 35]⟩, .string D] 9))) hb4))
    go_ret2
    exact ⟨rfl, hb04⟩
  · have HP : Hid (plainWords d = [⟨#[92, 35]⟩, decS d.size, ⟨(byHex d.data.toList).toArray⟩]) := by rw [Hid, plainWords, if_neg h0]
    obtain ⟨h0', h0''⟩ := not_empty (s := d) (by omega)
    rw [HP.out] at hj ⊢
    have hjn := fun (v : Value) W (h : W.ownsRow w.heap.size 9 1 v 3 [.string ⟨#[92, 35]⟩, .string (decS d.size), .string ⟨(byHex d.data.toList).toArray⟩]) => joinWords_any v [⟨#[92, 35]⟩, decS d.size, ⟨(byHex d.data.toList).toArray⟩] W h hj (by simp)
    have hhx := fun W => showHex_any d W (by omega) (by omega)
    generalize joinS [⟨#[92, 35]⟩, decS d.size, ⟨(byHex d.data.toList).toArray⟩] = J at *
    generalize (⟨(byHex d.data.toList).toArray⟩ : ByteArray) = X at *
    generalize decS d.size = D at *
    clear hj HP hn hwf hT h0
    go_enter Tryz.func5, Tryz.ntmps5
    go_wp2_with (first | (go_at_call 18; refine hck.mono ?_; rintro e w1 ⟨rfl, hb1⟩) | (go_at_call 19; refine (htf _).mono ?_; rintro e w2 ⟨⟨r, L, rfl, hM, hLF, hLI⟩, hb2⟩; have hlk := hff w2 r L hM hLF; have hbA := Nm.below_two (Nm.below_two hb1 hb2) ((Below.refl w2.heap.size w2).alloc (Nat.le_refl _) (.cells #[.nilFunc, .nilFunc] 39)); clear hM hLF hLI) | (go_at_call 21; refine (hit _ hbA).mono ?_; rintro e w3 ⟨rfl, hb3⟩; have hb03 := Nm.below_two hbA hb3) | (go_at_call 22; refine (hhx _).mono ?_; rintro e w5 ⟨rfl, hb5⟩; have hb05 := Nm.below_two hb03 hb5) | (go_at_call 20; refine (hjn _ _ (World.ownsRow_lit (base := w.heap.size) (e := 9) (size := 1) w5 #[.string ⟨#[92, 35]⟩, .string D, .string X] 3 hb05.size (by decide) rfl)).mono ?_; rintro e w4 ⟨rfl, hb4⟩; have hb04 := Nm.below_two (Nm.below_two hb05 ((Below.refl w5.heap.size w5).alloc (Nat.le_refl _) (.cells #[.string ⟨#[92, 35]⟩, .string D, .string X] 9))) hb4))
    go_ret2
    exact ⟨rfl, hb04⟩

theorem implShowData_any (S4 S6 : ByteArray → ByteArray × Int) (t : Int) (d : ByteArray) (w : World) (hd : d.size ≤ 1048576) (hs : SDL S4 S6 w) (hj : cutCode t d = 0 → (joinS (dataWords S4 S6 t d)).size ≤ 1000000000 ∧ (dataWords S4 S6 t d).length ≤ 16000001) :
    Calls Tryz.prog 5 #[.int .i64 t, .string d] w fun e w' => e = .returned (.tuple #[.string (showDS S4 S6 t d).1, .int .i64 (showDS S4 S6 t d).2]) ∧ Below w.heap.size w w' := by
  unfold showDS
  by_cases hc : cutCode t d = 0
  · rw [if_pos hc]
    obtain ⟨h1, h2⟩ := hj hc
    unfold dataWords at h1 h2 ⊢
    cases hf : formOf t with
    | none =>
      rw [hf] at h1
      exact implShowData_plain t d w hd hc hs.sh.1 hf h1
    | some F =>
      rw [hf] at h1 h2
      have hF : (t, F) ∈ formTab := by
        unfold formOf at hf
        cases hq : formTab.find? (fun x => x.1 == t) with
        | none => rw [hq] at hf; cases hf
        | some p =>
          rw [hq] at hf
          simp only [Option.map_some, Option.some.injEq] at hf
          have hm := List.mem_of_find?_eq_some hq
          have he := List.find?_some hq
          simp only [beq_iff_eq] at he
          rw [← he, ← hf]
          exact hm
      exact implShowData_form S4 S6 t d w hd hc hs hF h1 h2
  · rw [if_neg hc]
    exact implShowData_bad t d w hd hc
end Go.Proofs.YtephbegencpllaaGreatDoor
