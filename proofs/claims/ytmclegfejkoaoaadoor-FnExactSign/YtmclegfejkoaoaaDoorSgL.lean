import Derived.Test.YtmclegfejkoaoaaDoorSgI
import Derived.Test.YtmclegfejkoaoaaDoorEnM
/- Sign by its contracts, both halves; laws.szKey, toKey. -/
namespace Go.Proofs.YtmclegfejkoaoaaDoor
open Go.RowKit
set_option linter.unusedVariables false

theorem wrap_neg (n : Int) (h : -9223372036854775808 ≤ n) (h2 : n < 9223372036854775808) : IntKind.i64.wrap n = n := by
  by_cases h0 : 0 ≤ n
  · exact Go.wrap_small n h0 h2
  · have e : n % 2 ^ 64 = n + 18446744073709551616 := by omega
    simp only [IntKind.wrap, IntKind.bits, IntKind.signed, e]
    rw [if_pos]
    · omega
    · simp
      omega

theorem sg_bad {m : List UInt8} {kn sc rq : ByteArray} {now : Int} (h : sgOK m kn sc rq now = false) : sgCode m kn sc rq now = 32 ∧ sgRes m kn sc rq now = [] := by
  have h1 : sgCode m kn sc rq now = 32 := by rw [sgCode, h]; rfl
  exact ⟨h1, by rw [sgRes, h1]; rfl⟩

theorem specSign_any (v : Value) (m : List UInt8) (kn sc rq : ByteArray) (now : Int) (w : World) (h : BySl w v m) (hm : m.length ≤ 1048576) (hkn : kn.size ≤ 1048576) :
    Calls Tryd.prog 5 #[v, .agg #[.string kn, .string sc], .int .i64 now, .string rq] w fun e w' => (∃ u, e = .returned (.tuple #[u, .int .i64 (sgCode m kn sc rq now)]) ∧ BySl w' u (sgRes m kn sc rq now)) ∧ Below w.heap.size w w' := by
  cases hok : sgOK m kn sc rq now with
  | true => exact specSign_ok v m kn sc rq now w h hm hok
  | false =>
    refine (specSign_bad v m kn sc rq now w h hm hkn hok).mono ?_
    rintro e w' ⟨rfl, hb⟩
    rw [(sg_bad hok).1, (sg_bad hok).2]
    exact ⟨⟨_, rfl, nil_by _⟩, hb⟩

theorem implSign_any (v : Value) (m : List UInt8) (kn sc rq : ByteArray) (now : Int) (w : World) (h : BySl w v m) (hm : m.length ≤ 1048576) (hkn : kn.size ≤ 1048576) (hF : ∃ t fr, w.heap[0]? = some (.cells (hvA H0) t fr)) (hK : KAt w 1) :
    Calls Tryd.prog 8 #[v, .agg #[.string kn, .string sc], .int .i64 now, .string rq] w fun e w' => (∃ u, e = .returned (.tuple #[u, .int .i64 (sgCode m kn sc rq now)]) ∧ w'.ownsRow w.heap.size 5 1 u (sgRes m kn sc rq now).length (Nm.bys (sgRes m kn sc rq now))) ∧ Below w.heap.size w w' := by
  cases hok : sgOK m kn sc rq now with
  | true => exact implSign_ok v m kn sc rq now w h hm hok hF hK
  | false =>
    refine (implSign_bad v m kn sc rq now w h hm hkn hok).mono ?_
    rintro e w' ⟨rfl, hb⟩
    rw [(sg_bad hok).1, (sg_bad hok).2]
    exact ⟨⟨_, rfl, World.ownsRow_nil _ _ _ _⟩, hb⟩

theorem sgRes_len {m : List UInt8} {kn sc rq : ByteArray} {now : Int} (hm : m.length ≤ 1048576) : (sgRes m kn sc rq now).length ≤ 65535 := by
  rw [sgRes]
  split
  · rename_i h
    rw [sgCode] at h
    split at h
    · rename_i hok
      split at h
      · cases h
      · split at h
        · cases h
        · simp only [sgOK, Bool.and_eq_true, decide_eq_true_eq] at hok
          have hnl : kn.data.toList.length = kn.size := by simp
          rw [sgOut, sign_len hok.1.1.1, hnl]
          omega
    · cases h
  · simp

def SzK (kn sc : ByteArray) (i : Int) : Prop := (0 ≤ i ∧ kn.size ≤ 1048576 ∧ sc.size ≤ 1048576) ∨ i = -1

set_option maxRecDepth 100000 in
set_option maxHeartbeats 1600000 in
theorem szKey_any (kn sc : ByteArray) (w : World) (hk : kn.size ≤ maxLen) (hs : sc.size ≤ maxLen) :
    Calls Tryd.prog 4 #[.agg #[.string kn, .string sc], .int .i64 1048576] w fun e w' => (∃ i : Int, e = .returned (.int .i64 i) ∧ SzK kn sc i) ∧ Below w.heap.size w w' := by
  unfold maxLen at hk hs
  have k0 := blk_new w #[.string kn, .string sc] 24
  have q0 := (blk_cell k0 0).trans rfl
  have q1 := (blk_cell k0 1).trans rfl
  have hB0 := (Below.refl w.heap.size w).alloc (Nat.le_refl _) (.cells #[.string kn, .string sc] 24)
  by_cases h1 : kn.size ≤ 1048576
  · obtain ⟨L1, hL1⟩ : ∃ L : Nat, (1048576 : Int) - (kn.size : Int) = (L : Int) := ⟨1048576 - kn.size, by omega⟩
    have hw1 : IntKind.i64.wrap (1048576 - (kn.size : Int)) = (L1 : Int) := by rw [Go.wrap_small _ (by omega) (by omega)]; omega
    have n1 : ¬ (L1 : Int) < 0 := by omega
    have hb1 : L1 ≤ 1048576 := by omega
    have HL1 := Nm.hide hL1
    clear hL1
    by_cases h2 : sc.size ≤ L1
    · obtain ⟨L2, hL2⟩ : ∃ L : Nat, (L1 : Int) - (sc.size : Int) = (L : Int) := ⟨L1 - sc.size, by omega⟩
      have hw2 : IntKind.i64.wrap ((L1 : Int) - (sc.size : Int)) = (L2 : Int) := by rw [Go.wrap_small _ (by omega) (by omega)]; omega
      have n2 : ¬ (L2 : Int) < 0 := by omega
      have HL2 := Nm.hide hL2
      clear hL2
      go_enter Tryd.func4, Tryd.ntmps4
      go_wp2
      go_ret
      exact ⟨⟨_, rfl, .inl ⟨by omega, h1, by omega⟩⟩, hB0⟩
    · have hw2 : IntKind.i64.wrap ((L1 : Int) - (sc.size : Int)) = (L1 : Int) - (sc.size : Int) := wrap_neg _ (by omega) (by omega)
      have n2 : (L1 : Int) - (sc.size : Int) < 0 := by omega
      clear h2
      go_enter Tryd.func4, Tryd.ntmps4
      go_wp2
      go_ret
      exact ⟨⟨_, rfl, .inr rfl⟩, hB0⟩
  · have hw1 : IntKind.i64.wrap (1048576 - (kn.size : Int)) = 1048576 - (kn.size : Int) := wrap_neg _ (by omega) (by omega)
    have n1 : 1048576 - (kn.size : Int) < 0 := by omega
    clear h1
    go_enter Tryd.func4, Tryd.ntmps4
    go_wp2
    go_ret
    exact ⟨⟨_, rfl, .inr rfl⟩, hB0⟩

set_option maxRecDepth 100000 in
set_option maxHeartbeats 1600000 in
theorem toKey_any (kn sc : ByteArray) (w : World) :
    Calls Tryd.prog 7 #[.agg #[.string kn, .string sc]] w fun e w' => e = .returned (.agg #[.string kn, .string sc]) ∧ Below w.heap.size w w' := by
  have k0 := blk_new w #[.string kn, .string sc] 24
  have hB0 := (Below.refl w.heap.size w).alloc (Nat.le_refl _) (.cells #[.string kn, .string sc] 24)
  go_enter Tryd.func7, Tryd.ntmps7
  go_wp2
  have hB1 := hB0.alloc hB0.size (.cells #[.string kn, .string sc] 29)
  have hB2 := hB1.alloc hB1.size (.cells #[.string kn, .string sc] 29)
  have k2 := blk_new (w.alloc (.cells #[.string kn, .string sc] 24)) #[.string kn, .string sc] 29
  rw [World.size_alloc] at k2
  exact bodyPost_ret (v := .agg _) (run_results_row Tryd.results7 rfl (blk_alloc k2 _) Tryd.underlying29 rfl (by kernel_rfl)) rfl ⟨rfl, hB2⟩
end Go.Proofs.YtmclegfejkoaoaaDoor
