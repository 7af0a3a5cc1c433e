import Derived.Test.YtddabafaejahbaaGreatDoorJRdB
import Derived.Test.YtddabafaejahbaaGreatDoorJRf4
import Derived.Test.YtddabafaejahbaaGreatDoorJICheck
/- impl.ReadData by its contract. -/
namespace Go.Proofs.YtddabafaejahbaaGreatDoor
open Go.RowKit
set_option linter.unusedVariables false

theorem wf_smallR {t : Int} (h0 : 0 ≤ t) (h1 : t ≤ 65535) : (Lit.int .i64 t).wf = true := by
  have h2 : IntKind.i64.min = -9223372036854775808 := by decide
  have h3 : IntKind.i64.max = 9223372036854775807 := by decide
  show (decide (IntKind.i64.min ≤ t) && decide (t ≤ IntKind.i64.max)) = true
  rw [h2, h3]
  simp
  omega
theorem zero_formR (w : World) : (zeroValue 53).run Tryz.prog w = .ok (.agg #[.nilFunc, .nilFunc]) w := by kernel_rfl
theorem form_one {t : Int} {F F' : List Nat ⊕ Bool} (h : (t, F) ∈ formTabR) (h' : (t, F') ∈ formTabR) : F = F' := by
  have key : ∀ x ∈ formTabR, ∀ y ∈ formTabR, x.1 = y.1 → x = y := by decide
  have := key _ h _ h' rfl
  cases this
  rfl
theorem ins_form {t : Int} {F : List Nat ⊕ Bool} (h : (t, F) ∈ formTabR) : ∃ x ∈ insTabR, x.2 = t := by
  have key : ∀ x ∈ formTabR, ∃ y ∈ insTabR, y.2 = x.1 := by decide
  exact key _ h
theorem form_foundR {t : Int} {F : List Nat ⊕ Bool} {w : World} {r : Nat} {L : List (Int × Value)} (hM : IMap w r L) (hLF : ∀ p ∈ L, ∃ F, (p.1, F) ∈ formTabR ∧ TFr w F p.2) (hv : ∃ v, (t, v) ∈ L) (hF : (t, F) ∈ formTabR) (hwf : (Lit.int .i64 t).wf = true) :
    ∃ v, (Instr.lookup 55 (.map (some r)) (.int .i64 t) true).run Tryz.prog w = .ok (.tuple #[v, .bool true]) w ∧ TFr w F v := by
  rcases hM.get (P := Tryz.prog) (t := 55) (k := 2) (e := 53) Tryz.underlying2 Tryz.underlying55 (zero_formR w) hwf with ⟨hno, _⟩ | ⟨v, hin, hlk⟩
  · obtain ⟨v, hv⟩ := hv
    exact absurd rfl (hno _ hv)
  · refine ⟨v, hlk, ?_⟩
    obtain ⟨F', h1, h2⟩ := hLF _ hin
    rw [form_one hF h1]
    exact h2
theorem form_lostR {t : Int} {w : World} {r : Nat} {L : List (Int × Value)} (hM : IMap w r L) (hLF : ∀ p ∈ L, ∃ F, (p.1, F) ∈ formTabR ∧ TFr w F p.2) (hn : ∀ F, (t, F) ∉ formTabR) (hwf : (Lit.int .i64 t).wf = true) :
    (Instr.lookup 55 (.map (some r)) (.int .i64 t) true).run Tryz.prog w = .ok (.tuple #[.agg #[.nilFunc, .nilFunc], .bool false]) w := by
  rcases hM.get (P := Tryz.prog) (t := 55) (k := 2) (e := 53) Tryz.underlying2 Tryz.underlying55 (zero_formR w) hwf with ⟨hno, hlk⟩ | ⟨v, hin, hlk⟩
  · exact hlk
  · obtain ⟨F', h1, h2⟩ := hLF _ hin
    exact absurd h1 (hn F')

/-- The reader of a form. -/
def fnOfR : List Nat ⊕ Bool → Nat
  | .inl _ => 110
  | .inr false => 121
  | .inr true => 129
theorem Reads.below {w W : World} (h : Reads w) (hb : Below w.heap.size w W) : Reads W :=
  ⟨fun s W2 h3 h4 => h.1 s W2 h3 (Nm.below_two hb h4), fun s W2 h4 => h.2 s W2 (Nm.below_two hb h4)⟩
theorem tf_reads {t : Int} {F : List Nat ⊕ Bool} {ws : List Wrd} {o : ByteArray} {W : World} {v u : Value} (hF : (t, F) ∈ formTabR) (hT : TFr W F v) (hv : CRow W u ws.length 2 (wdVs ws)) (hnm : ws.length ≤ 300) (hz : wsz ws ≤ 1048576) (ho : o.size ≤ 1048576) (hs : Reads W) (hM : MnemAt W) :
    ∃ gc G y, v = .agg #[.func (.func (fnOfR F)) #[] #[.pointer (some ⟨gc, 0, none⟩)], .func G #[] y] ∧
      ∀ W2, Below W.heap.size W W2 → Calls Tryz.prog (fnOfR F) #[u, .string o, .pointer (some ⟨gc, 0, none⟩)] W2 fun e w' => e = .returned (strV (formP F ws o)) ∧ Below W2.heap.size W2 w' := by
  rcases F with ks | b
  · obtain ⟨gc, G, y, gf, cap, h1, h2, h3⟩ := hT
    refine ⟨gc, G, y, h1, fun W2 hW2 => ?_⟩
    have hk2 := keptR_below hW2
    exact justRead_any ks ws o gc gf cap u W2 (hk2 _ _ h2) (h3.kept hk2) (hv.below hW2) hnm (form_kinds hF) hz ho (hs.below hW2)
  · cases b with
    | false =>
      obtain ⟨gc, G, y, h1, h2, g, q, h3⟩ := hT
      refine ⟨gc, G, y, h1, fun W2 hW2 => ?_⟩
      have hk2 := keptR_below hW2
      exact manyRead_any ws o gc g q u W2 (hk2 _ _ h2) (hk2 _ _ h3) (hv.below hW2) hnm hz ho (hs.below hW2)
    | true =>
      obtain ⟨gc, b, G, y, h1, h2, h3⟩ := hT
      refine ⟨gc, G, y, h1, fun W2 hW2 => ?_⟩
      have hk2 := keptR_below hW2
      exact ntRead_any ws o gc b u W2 (hk2 _ _ h2) (hk2 _ _ h3) (hv.below hW2) hnm hz ho (hs.below hW2) (hM.below hW2) map_size
end Go.Proofs.YtddabafaejahbaaGreatDoor
