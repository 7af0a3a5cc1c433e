import Derived.Test.YtddabafaejahbaaGreatDoorRi2
import Derived.Test.YtddabafaejahbaaGreatDoorJRdS
import Derived.Test.YtddabafaejahbaaGreatDoorJShelfM
import Derived.Test.YtddabafaejahbaaGreatDoorJSCheck
import Derived.Test.YtddabafaejahbaaGreatDoorJRmQ
import Derived.Test.YtddabafaejahbaaGreatDoorJSxL
/- The law of ReadMaster: its walk. -/
namespace Go.Proofs.YtddabafaejahbaaGreatDoor
open Go.RowKit
set_option linter.unusedVariables false
theorem readsM_of {w : World} (hsh : w.ShapedOpen Tryz.prog) : Reads w :=
 ⟨fun s W hs hb => implReadV4_any s W (shaped_below hsh hb) hs, fun s W hb => implReadV6_any s W (shaped_below hsh hb)⟩
theorem partsM {W : World} (h : laidMetH Tryz.prog Rows.fnExactReadMasterRow.laid W) : laidMet Tryz.prog (Rows.fnExactReadMasterRow.laid.filter fun x => x.2.handleName?.isNone) W ∧ handlesMet Tryz.prog (Rows.fnExactReadMasterRow.laid.filter fun x => x.2.handleName?.isSome) W := by
 unfold laidMetH at h; exact h
theorem mnemM_of {W : World} (h : laidMetH Tryz.prog Rows.fnExactReadMasterRow.laid W) : MnemAt W :=
 pairs_of_laid (g := 1) (t := 223) (e := 222) (ts := 9) (ti := 2) (n := 19) (zs := mnemTab) (partsM h).1 (List.mem_of_getElem? (i := 4) rfl) (by kernel_rfl) (by kernel_rfl) Tryz.underlying223 Tryz.underlying222 rfl rfl rfl rfl Tryz.underlying9 Tryz.underlying2 (by kernel_rfl) (by kernel_rfl) (by kernel_rfl) (by kernel_rfl)
theorem Tryz.etM : Tryz.prog.globalNamed "errors.errorType" = some 0 := by kernel_rfl
theorem Tryz.rtM : (Tryz.prog.cutTypes.find? (·.1 == "internal/reflectlite.rtype")).map (·.2) = some 237 := by kernel_rfl
theorem Tryz.oneRowM : ((List.range 322).filter fun t => Tryz.prog.rowNamed t [101, 114, 114, 111, 114]) = [74] := by kernel_rfl
theorem Tryz.sizeM : Tryz.prog.types.size = 322 := by kernel_rfl
theorem errM_of {W : World} (h : laidMetH Tryz.prog Rows.fnExactReadMasterRow.laid W) : ErrT W := by
 obtain ⟨name, u, ty, e1, e2, e3, e4, e5⟩ := (partsM h).2 _ (List.mem_of_getElem? (i := 0) rfl); have en : name = [101, 114, 114, 111, 114] := (Option.some.inj e1).symm; subst en; obtain rfl := Option.some.inj (Tryz.rtM.symm.trans e2); have hm : ty ∈ (List.range 322).filter fun t => Tryz.prog.rowNamed t [101, 114, 114, 111, 114] := List.mem_filter.2 ⟨List.mem_range.2 (by rw [← Tryz.sizeM]; exact e3), e4⟩
 rw [Tryz.oneRowM] at hm; obtain rfl := List.mem_singleton.1 hm; have hh : typeHandle Tryz.prog 74 = .pointer (some ⟨8, 74, none⟩) := by kernel_rfl
 rw [hh] at e5; unfold ErrT; simpa using World.var?_cell Tryz.etM e5 0
theorem lins_len : ∀ (ls : List Ln) (m m' : Ms), linsF m ls = .inr m' → m.org.size ≤ 1048576 → m.rs.length ≤ 500 → m'.rs.length ≤ 500 := by
 intro ls
 induction ls with
 | nil => intro m m' h _ hr; rw [linsF] at h; cases h; exact hr
 | cons l ls ih =>
   intro m m' h ho hr
   cases e : linF m l with
   | inl c => rw [lins_err e] at h; cases h
   | inr m2 =>
     rw [lins_ok e] at h; obtain ⟨h1, h2⟩ := lin_keep e ho hr; exact ih m2 m' h h1 h2
theorem mas_len (s o : ByteArray) (ho : o.size ≤ 1048576) : (masR s o).1.length ≤ 500 := by
 by_cases h1 : o.size ≠ 0 ∧ (Nm.split o).isSome = false
 · rw [mas_bad h1]; exact Nat.zero_le _
 · by_cases h2 : (lexR s).co = 0
   · rw [mas_lin h1 h2]
     cases e : linsF ⟨o, ⟨#[]⟩, -1, -1, []⟩ (lexR s).ls with
     | inl cq => obtain ⟨c, q⟩ := cq; exact Nat.zero_le _
     | inr m => exact lins_len _ _ _ e ho (Nat.zero_le _)
   · rw [mas_lex h1 h2]; exact Nat.zero_le _
theorem own_besM {W W1 : World} {B e s m : Nat} {v : Value} {b : Option Nat} {xs : List Value} (h : W.ownsRow B e s v m xs) (hg : W.grownBy W1 b) (ha : ∀ g, b = some g → v.ownBlock ≠ some g) : W1.ownsRow B e s v m xs := by
 refine h.kept hg ?_
 cases b with
 | none =>
   cases hv : v.ownBlock with
   | none => exact .inl rfl
   | some k => right; simp
 | some k => right; exact ha k rfl
set_option maxRecDepth 100000 in
set_option maxHeartbeats 1600000 in
theorem fnExactReadMaster_walk (a0 : ByteArray) (w0 : a0.size ≤ maxLen) (a1 : ByteArray) (w1 : a1.size ≤ maxLen) (w : World) (hL : laidMetH Tryz.prog Rows.fnExactReadMasterRow.laid w) (hsh : w.ShapedOpen Tryz.prog) :
 Calls Tryz.prog 4 #[.string a0, .string a1] w fun e w' => e = .returned (.bool true) ∧ Below w.heap.size w w' := by
 have HM := Nm.hide (mnemM_of hL); have HS := Nm.hide (readsM_of hsh); have HE := Nm.hide (errM_of hL); clear hL hsh
 by_cases hl : 1048576 < a0.size
 · have hl' : (1048576 : Int) < (a0.size : Int) := by omega
   go_enter Tryz.func4, Tryz.ntmps4; go_wp2; go_ret; exact ⟨rfl, Below.refl _ _⟩
 have hl' : (a0.size : Int) ≤ 1048576 := by omega
 by_cases hm : 1048576 < a1.size
 · have hm' : (1048576 : Int) < (a1.size : Int) := by omega
   go_enter Tryz.func4, Tryz.ntmps4; go_wp2; go_ret; exact ⟨rfl, Below.refl _ _⟩
 have hm' : (a1.size : Int) ≤ 1048576 := by omega
 have Hs := fun W => specReadMaster_any a0 a1 W (by omega)
 have Hi := fun W (hW : Below w.heap.size w W) => implReadMaster_any a0 a1 W (HE.out.below hW) (by omega) (fun c q h => lsF_code a0 _ 0 1 [] (Nat.le_refl _) (Nat.zero_le _) c q h) (fun W2 h2 => HM.out.below (Nm.below_two hW h2)) (fun W2 h2 => HS.out.below (Nm.below_two hW h2))
 have hlen := mas_len a0 a1 (by omega); generalize masR a0 a1 = R at *; obtain ⟨rs, c, q⟩ := R; simp only at hlen
 have h1 : (c != c) = false := by simp
 have h2 : (q != q) = false := by simp
 have heq := fun (r r' : Value) (W : World) => eqRVS_any r r' rs W
 obtain ⟨N, hN⟩ : ∃ N : Int, N = ((1 + rs.length * 5 : Nat) : Int) := ⟨_, rfl⟩; have hN0 : 0 ≤ N := by omega
 have hN1 : ¬ N < 0 := by omega
 have hNn : (N != N) = false := by simp
 have hmr := fun (r : Value) (B : Nat) (W : World) (h1 : W.ownsRow B 80 5 r rs.length (rvVs rs)) hB => markRRS_any r rs.length B 1 (rvVs rs) W h1 hB (by omega) (by decide)
 have hhr := fun (r : Value) (W : World) hc => heldRRS_any r rs.length 1 W hc (by omega) (by decide)
 rw [← hN] at hmr hhr; clear HM HS HE hN hlen; go_enter Tryz.func4, Tryz.ntmps4; go_wp2_with fail
 go_at_call 10
 refine (Hs _).mono ?_; rintro e w1 ⟨v1, rfl, o1, b1⟩; simp only at o1 ⊢
 obtain ⟨va, vc, rfl⟩ := own_sl o1; go_wp2_with fail
 go_at_call 11
 refine (Hi _ b1).mono ?_; rintro e w2 ⟨v2, rfl, o2, b2⟩; simp only at o2 ⊢
 obtain ⟨ua, uc, rfl⟩ := own_sl o2; have o12 := own_below o1 b2; go_wp2_with fail
 go_at_call 12
 refine (heq _ _ _ (CRow.of_owns o2) (CRow.of_owns o12)).mono ?_; rintro e w3 ⟨rfl, b3⟩; have o13 := own_below o12 b3; have o23 := own_below o2 b3; have b23 := Nm.below_two b2 b3; have hl1 : ∀ g, (Value.slice va rs.length vc).ownBlock = some g → g < w1.heap.size := fun g hg => (o1.lt g hg).2
 have hl2 : ∀ g, (Value.slice ua rs.length uc).ownBlock = some g → w1.heap.size ≤ g := fun g hg => (o2.lt g hg).1
 go_wp2_with fail
 go_at_call 13
 refine (hmr _ _ _ o23 b23.size).mono ?_; rintro e w4 ⟨rfl, o24, g4⟩; have b14 : Below w1.heap.size w1 w4 := b23.grown g4 b23.size (fun g hg => hl2 g hg); have o14 := own_besM o13 g4 (fun g hg hg' => by have := hl1 g hg'; have := hl2 g hg; omega); go_wp2_with fail
 go_at_call 14
 refine (hhr _ _ (CRow.of_owns o24)).mono ?_; rintro e w5 ⟨rfl, b5⟩; have b15 := Nm.below_two b14 b5; have b05 := Nm.below_two b1 b15; have o15 := own_below o14 b5; have o25 := own_below o24 b5; go_wp2_with fail
 go_at_call 11
 refine (Hi _ b05).mono ?_; rintro e w6 ⟨v6, rfl, o6, b6⟩; simp only at o6 ⊢
 obtain ⟨xa, xc, rfl⟩ := own_sl o6; have o16 := own_below o15 b6; have o26 := own_below o25 b6; go_wp2_with fail
 go_at_call 12
 refine (heq _ _ _ (CRow.of_owns o6) (CRow.of_owns o16)).mono ?_; rintro e w7 ⟨rfl, b7⟩; have o27 := own_below o26 b7; go_wp2_with fail
 go_at_call 14
 refine (hhr _ _ (CRow.of_owns o27)).mono ?_; rintro e w8 ⟨rfl, b8⟩; have b08 := Nm.below_two (Nm.below_two (Nm.below_two b05 b6) b7) b8; go_wp2; go_ret; exact ⟨rfl, b08⟩
end Go.Proofs.YtddabafaejahbaaGreatDoor
