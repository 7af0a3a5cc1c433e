/- The law of Lex: its walk. -/
import Derived.Test.YtjbdfooppokonaaDoorSxL
import Derived.Test.YtjbdfooppokonaaDoorLkB
import Derived.Test.YtjbdfooppokonaaDoorLkE
import Derived.Test.YtjbdfooppokonaaDoorLxW
namespace Go.Proofs.YtjbdfooppokonaaDoor
open Go.RowKit
set_option linter.unusedVariables false

theorem Tryd.etG : Tryd.prog.globalNamed "errors.errorType" = some 0 := by kernel_rfl
theorem Tryd.rtT : (Tryd.prog.cutTypes.find? (·.1 == "internal/reflectlite.rtype")).map (·.2) = some 83 := by kernel_rfl
theorem Tryd.oneRowE : ((List.range 125).filter fun t => Tryd.prog.rowNamed t [101, 114, 114, 111, 114]) = [40] := by kernel_rfl
theorem Tryd.sizeT : Tryd.prog.types.size = 125 := by kernel_rfl
theorem errT_of {W : World} (h : laidMetH Tryd.prog Rows.fnExactLexRow.laid W) : ErrT W := by
  have h' : laidMet Tryd.prog [] W ∧ handlesMet Tryd.prog Rows.fnExactLexRow.laid W := h
  obtain ⟨name, u, ty, e1, e2, e3, e4, e5⟩ := h'.2 _ (List.mem_singleton.2 rfl)
  have en : name = [101, 114, 114, 111, 114] := (Option.some.inj e1).symm
  subst en
  obtain rfl := Option.some.inj (Tryd.rtT.symm.trans e2)
  have hm : ty ∈ (List.range 125).filter fun t => Tryd.prog.rowNamed t [101, 114, 114, 111, 114] := List.mem_filter.2 ⟨List.mem_range.2 (by rw [← Tryd.sizeT]; exact e3), e4⟩
  rw [Tryd.oneRowE] at hm
  obtain rfl := List.mem_singleton.1 hm
  have hh : typeHandle Tryd.prog 40 = .pointer (some ⟨1, 40, none⟩) := by kernel_rfl
  rw [hh] at e5
  unfold ErrT
  simpa using World.var?_cell Tryd.etG e5 0

set_option maxRecDepth 100000 in
set_option maxHeartbeats 1600000 in
theorem fnExactLex_walk (a0 : ByteArray) (w0 : a0.size ≤ maxLen) (w : World) (hL : laidMetH Tryd.prog Rows.fnExactLexRow.laid w) :
    Calls Tryd.prog 3 #[.string a0] w fun e w' => e = .returned (.bool true) ∧ Below w.heap.size w w' := by
  have hE := errT_of hL
  clear hL
  by_cases hl : 1048576 < a0.size
  · have hl' : (1048576 : Int) < (a0.size : Int) := by omega
    go_enter Tryd.func3, Tryd.ntmps3
    go_wp2
    go_ret
    exact ⟨rfl, Below.refl _ _⟩
  · have hl' : (a0.size : Int) ≤ 1048576 := by omega
    have Hs := specLex_any a0 w
    have hsum := lexR_sum a0
    have hmem := lsum_mem (lexR a0).ls
    have h1 : (((lexR a0).co : Int) != ((lexR a0).co : Int)) = false := by simp
    have h2 : (((lexR a0).at_ : Int) != ((lexR a0).at_ : Int)) = false := by simp
    go_enter Tryd.func3, Tryd.ntmps3
    go_wp2_with fail
    go_at_call 4
    refine Hs.mono ?_
    rintro e w1 ⟨v1, p1, rfl, q1, l1, b1⟩
    obtain ⟨va, vc, rfl⟩ := own_sl l1.outer
    have Hi := implLex_any a0 w1 (hE.below b1)
    go_wp2_with fail
    go_at_call 5
    refine Hi.mono ?_
    rintro e w2 ⟨v2, p2, rfl, q2, l2, b2⟩
    obtain ⟨ua, uc, rfl⟩ := own_sl l2.outer
    have s2 : ll p2 ≤ 160000 := by rw [ll_map, q2]; exact hsum
    have n2 := ll_len p2
    have m2 : ∀ p ∈ p2, p.1.ws.length ≤ 100000 := by
      intro p hp
      have := hmem p.1 (by rw [← q2]; exact List.mem_map_of_mem hp)
      omega
    have l12 := l1.below b2
    have He := eqLineS_same _ _ p2 p1 _ _ w2 l2 l12 (by rw [q1, q2]) (by omega) (fun p hp => by have := m2 p hp; omega)
    go_wp2_with fail
    go_at_call 6
    refine He.mono ?_
    rintro e w3 ⟨rfl, b3⟩
    have l3 := l2.below b3
    have b13 := Nm.below_two b2 b3
    have Hm := markLineS_own _ p2 w1.heap.size 1 w3 l3 b13.size (by omega) m2 (by omega)
    go_wp2_with fail
    go_at_call 7
    refine Hm.mono ?_
    rintro e w4 ⟨rfl, l4, b4⟩
    have Hh := heldLineS_any _ p2 w1.heap.size 1 w4 l4 (by omega) m2 (by omega)
    go_wp2_with fail
    go_at_call 8
    refine Hh.mono ?_
    rintro e w5 ⟨rfl, b5⟩
    have b15 : Below w1.heap.size w1 w5 := ⟨b5.os.trans (b4.os.trans b13.os), b5.tape.trans (b4.tape.trans b13.tape), b5.output.trans (b4.output.trans b13.output), Nat.le_trans b13.size (Nat.le_trans b4.size b5.size), fun k hk => (b5.block k (by have := b13.size; have := b4.size; omega)).trans ((b4.block k hk).trans (b13.block k hk))⟩
    have b05 := Nm.below_two b1 b15
    have l15 := l1.below b15
    have l5 := l4.below b5
    have Hi2 := implLex_any a0 w5 (hE.below b05)
    have k2 : ((1 + (ll p2 : Int)) != (1 + (ll p2 : Int))) = false := by simp
    have k3 : 0 ≤ 1 + (ll p2 : Int) := by omega
    have k4 : ¬ 1 + (ll p2 : Int) < 0 := by omega
    go_wp2_with fail
    go_at_call 5
    refine Hi2.mono ?_
    rintro e w6 ⟨v6, p6, rfl, q6, l6, b6⟩
    obtain ⟨xa, xc, rfl⟩ := own_sl l6.outer
    have s6 : ll p6 ≤ 160000 := by rw [ll_map, q6]; exact hsum
    have n6 := ll_len p6
    have He2 := eqLineS_same _ _ p6 p1 _ _ w6 l6 (l15.below b6) (by rw [q1, q6]) (by omega) (fun p hp => by have := hmem p.1 (by rw [← q6]; exact List.mem_map_of_mem hp); omega)
    go_wp2_with fail
    go_at_call 6
    refine He2.mono ?_
    rintro e w7 ⟨rfl, b7⟩
    have l7 := (l5.below b6).below b7
    have Hh2 := heldLineS_any _ p2 w1.heap.size 1 w7 l7 (by omega) m2 (by omega)
    go_wp2_with fail
    go_at_call 8
    refine Hh2.mono ?_
    rintro e w8 ⟨rfl, b8⟩
    have b08 := Nm.below_two (Nm.below_two (Nm.below_two b05 b6) b7) b8
    go_wp2
    go_ret
    exact ⟨rfl, b08⟩
end Go.Proofs.YtjbdfooppokonaaDoor
