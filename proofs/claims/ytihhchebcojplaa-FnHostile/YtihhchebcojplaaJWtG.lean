import Derived.Test.YtihhchebcojplaaJWrR
import Derived.Test.YtihhchebcojplaaRows
import Derived.WalkSpells
import Derived.WalkLawsBesides
import Derived.Test.YtihhchebcojplaaJDataM
import Derived.Test.YtihhchebcojplaaJMath
import Derived.RegionTactic
/- spec.l04Head by its contract. -/
namespace Go.Proofs.Ytihhchebcojplaa
open Go.RowKit
set_option linter.unusedVariables false

def flagsS (qr : Bool) (op : Nat) (aa tc rd ra z ad cd : Bool) (code : Nat) : Nat := flS qr 15 + op * 2048 + flS aa 10 + flS tc 9 + flS rd 8 + flS ra 7 + flS z 6 + flS ad 5 + flS cd 4 + code
theorem flS_le (b : Bool) (i : Nat) : flS b i ≤ 2 ^ i := by cases b <;> simp [flS]
theorem flagsS_lt (qr : Bool) (op : Nat) (aa tc rd ra z ad cd : Bool) (code : Nat) (h1 : op ≤ 15) (h2 : code ≤ 15) : flagsS qr op aa tc rd ra z ad cd code < 65536 := by
  have a := flS_le qr 15
  have b := flS_le aa 10
  have c := flS_le tc 9
  have d := flS_le rd 8
  have e := flS_le ra 7
  have f := flS_le z 6
  have g := flS_le ad 5
  have h := flS_le cd 4
  simp only [Nat.reducePow] at a b c d e f g h
  unfold flagsS
  omega
def headL (id fl : Nat) (cs : List Nat) : List UInt8 := put2 id ++ put2 fl ++ cs.flatMap put2
theorem cat_mk (a b : List UInt8) : (⟨a.toArray⟩ : ByteArray) ++ ⟨b.toArray⟩ = ⟨(a ++ b).toArray⟩ := by
  apply ByteArray.ext
  simp
theorem headL_len (id fl : Nat) (cs : List Nat) : (headL id fl cs).length = 4 + 2 * cs.length := by
  have : (cs.flatMap put2).length = 2 * cs.length := by
    induction cs with
    | nil => rfl
    | cons x xs ih => simp [put2] at ih ⊢; omega
  simp [headL, this, put2]
  omega

theorem below_hd {w w2 : World} {X : Obj} {cs : Array Value} {T : TypeId} (n : Nat) (h : Below (((w.alloc X).alloc (.cells cs T)).drewN n).heap.size (((w.alloc X).alloc (.cells cs T)).drewN n) w2) : Below w.heap.size w w2 ∧ Blk w2 (w.heap.size + 1) cs T := by
  have b := ((Below.refl w.heap.size w).alloc (Nat.le_refl _) X).alloc (by simp) (.cells cs T)
  have b' : Below w.heap.size w (((w.alloc X).alloc (.cells cs T)).drewN n) := ⟨b.os, b.tape, b.output, b.size, b.block⟩
  refine ⟨b'.trans (h.mono b'.size), ?_⟩
  have k := blk_new (w.alloc X) cs T
  rw [show (w.alloc X).heap.size = w.heap.size + 1 by simp] at k
  have k' : Blk (((w.alloc X).alloc (.cells cs T)).drewN n) (w.heap.size + 1) cs T := k
  exact blk_below k' h
theorem headL_step (id fl c : Nat) (cs : List Nat) : (⟨(headL id fl cs).toArray⟩ : ByteArray) ++ ⟨(put2 c).toArray⟩ = ⟨(headL id fl (cs ++ [c])).toArray⟩ := by
  rw [cat_mk]; simp [headL]
theorem headL_fit (id fl c : Nat) (cs : List Nat) (h : cs.length ≤ 4) : ¬ 9223372036854775807 < (⟨(headL id fl cs).toArray⟩ : ByteArray).size + (⟨(put2 c).toArray⟩ : ByteArray).size := by
  rw [← ByteArray.size_append, headL_step]
  show ¬ 9223372036854775807 < (headL id fl (cs ++ [c])).toArray.size
  rw [List.size_toArray, headL_len]
  simp
  omega

set_option maxRecDepth 100000 in
set_option maxHeartbeats 1600000 in
theorem l04Head_any (id op code c0 c1 c2 c3 : Nat) (qr aa tc rd ra z ad cd : Bool) (w : World) (hid : id < 65536) (hop : op ≤ 15) (hcode : code ≤ 15) (h0 : c0 < 65536) (h1 : c1 < 65536) (h2 : c2 < 65536) (h3 : c3 < 65536) :
    Calls Try.prog 22 #[.agg #[.int .i64 (id : Int), .bool qr, .int .i64 (op : Int), .bool aa, .bool tc, .bool rd, .bool ra, .bool z, .bool ad, .bool cd, .int .i64 (code : Int)], .agg #[.int .i64 (c0 : Int), .int .i64 (c1 : Int), .int .i64 (c2 : Int), .int .i64 (c3 : Int)]] w fun e w' => e = .returned (.string ⟨(headL id (flagsS qr op aa tc rd ra z ad cd code) [c0, c1, c2, c3]).toArray⟩) ∧ Below w.heap.size w w' := by
  have hfl := flagsS_lt qr op aa tc rd ra z ad cd code hop hcode
  have HF : Hid (flagsS qr op aa tc rd ra z ad cd code = flS qr 15 + op * 2048 + flS aa 10 + flS tc 9 + flS rd 8 + flS ra 7 + flS z 6 + flS ad 5 + flS cd 4 + code) := rfl
  have f15 : ∀ W, Calls Try.prog 43 #[.bool qr, .int .i64 15] W fun e w' => e = .returned (.int .i64 (flS qr 15 : Int)) ∧ w' = W := fun W => l04Flag_any qr 15 (by decide) W
  have f10 : ∀ W, Calls Try.prog 43 #[.bool aa, .int .i64 10] W fun e w' => e = .returned (.int .i64 (flS aa 10 : Int)) ∧ w' = W := fun W => l04Flag_any aa 10 (by decide) W
  have f9 : ∀ W, Calls Try.prog 43 #[.bool tc, .int .i64 9] W fun e w' => e = .returned (.int .i64 (flS tc 9 : Int)) ∧ w' = W := fun W => l04Flag_any tc 9 (by decide) W
  have f8 : ∀ W, Calls Try.prog 43 #[.bool rd, .int .i64 8] W fun e w' => e = .returned (.int .i64 (flS rd 8 : Int)) ∧ w' = W := fun W => l04Flag_any rd 8 (by decide) W
  have f7 : ∀ W, Calls Try.prog 43 #[.bool ra, .int .i64 7] W fun e w' => e = .returned (.int .i64 (flS ra 7 : Int)) ∧ w' = W := fun W => l04Flag_any ra 7 (by decide) W
  have f6 : ∀ W, Calls Try.prog 43 #[.bool z, .int .i64 6] W fun e w' => e = .returned (.int .i64 (flS z 6 : Int)) ∧ w' = W := fun W => l04Flag_any z 6 (by decide) W
  have f5 : ∀ W, Calls Try.prog 43 #[.bool ad, .int .i64 5] W fun e w' => e = .returned (.int .i64 (flS ad 5 : Int)) ∧ w' = W := fun W => l04Flag_any ad 5 (by decide) W
  have f4 : ∀ W, Calls Try.prog 43 #[.bool cd, .int .i64 4] W fun e w' => e = .returned (.int .i64 (flS cd 4 : Int)) ∧ w' = W := fun W => l04Flag_any cd 4 (by decide) W
  have l15 := flS_le qr 15
  have l10 := flS_le aa 10
  have l9 := flS_le tc 9
  have l8 := flS_le rd 8
  have l7 := flS_le ra 7
  have l6 := flS_le z 6
  have l5 := flS_le ad 5
  have l4 := flS_le cd 4
  simp only [Nat.reducePow] at l15 l10 l9 l8 l7 l6 l5 l4
  generalize flS qr 15 = k15 at *
  generalize flS aa 10 = k10 at *
  generalize flS tc 9 = k9 at *
  generalize flS rd 8 = k8 at *
  generalize flS ra 7 = k7 at *
  generalize flS z 6 = k6 at *
  generalize flS ad 5 = k5 at *
  generalize flS cd 4 = k4 at *
  generalize flagsS qr op aa tc rd ra z ad cd code = FL at *
  have hpI := fun W => l02Put2_any id W hid
  have hpF : ∀ W, Calls Try.prog 44 #[.int .i64 ((k15 : Int) + (op : Int) * 2048 + k10 + k9 + k8 + k7 + k6 + k5 + k4 + code), .int .i64 2] W fun e w' => e = .returned (.string ⟨(put2 FL).toArray⟩) ∧ Below W.heap.size W w' := by
    intro W
    have := l02Put2_any FL W hfl
    rw [show ((FL : Nat) : Int) = (k15 : Int) + (op : Int) * 2048 + k10 + k9 + k8 + k7 + k6 + k5 + k4 + code by rw [HF.out]; omega] at this
    exact this
  have hcat : (⟨(put2 id).toArray⟩ : ByteArray) ++ ⟨(put2 FL).toArray⟩ = ⟨(headL id FL []).toArray⟩ := by rw [cat_mk]; simp [headL]
  have hps2 : ¬ 9223372036854775807 < (⟨(put2 id).toArray⟩ : ByteArray).size + (⟨(put2 FL).toArray⟩ : ByteArray).size := by
    rw [← ByteArray.size_append, hcat]
    show ¬ 9223372036854775807 < (headL id FL []).toArray.size
    rw [List.size_toArray, headL_len]; decide
  clear HF
  generalize (⟨(put2 id).toArray⟩ : ByteArray) = P1 at *
  generalize (⟨(put2 FL).toArray⟩ : ByteArray) = P2 at *
  go_enter Try.func22, Try.ntmps22
  go_wp2_with fail
  go_quiet ((go_at_call 43; first | with_reducible exact Calls.quiet_of_same (f15 _) | with_reducible exact Calls.quiet_of_same (f10 _) | with_reducible exact Calls.quiet_of_same (f9 _) | with_reducible exact Calls.quiet_of_same (f8 _) | with_reducible exact Calls.quiet_of_same (f7 _) | with_reducible exact Calls.quiet_of_same (f6 _) | with_reducible exact Calls.quiet_of_same (f5 _) | with_reducible exact Calls.quiet_of_same (f4 _)))
  go_wp2_with (first
    | (go_at_call 44; with_reducible refine (hpI _).mono ?_; rintro e w2 ⟨rfl, hb2⟩)
    | (go_at_call 44; with_reducible refine (hpF _).mono ?_; rintro e w3 ⟨rfl, hb3⟩))
  obtain ⟨be2, bl2⟩ := below_hd nq hb2
  have be3 := Nm.below_two be2 hb3
  have bl3 := blk_below bl2 hb3
  clear hb2 hb3 be2 bl2 hcat hps2 hpI hpF f15 f10 f9 f8 f7 f6 f5 f4
  go_loopw [6, 7] (fun o i wr => ∃ k : Nat, k ≤ 4 ∧ i = .int .i64 (k : Int) ∧ o = .string ⟨(headL id FL ([c0, c1, c2, c3].take k)).toArray⟩ ∧ Below w.heap.size w wr ∧ Blk wr (w.heap.size + 1) #[.int .i64 (c0 : Int), .int .i64 (c1 : Int), .int .i64 (c2 : Int), .int .i64 (c3 : Int)] 59) (fun _ i _ => 4 - (intOf i).toNat)
  case atStart => exact ⟨0, by omega, rfl, rfl, be3, bl3⟩
  case round =>
    obtain ⟨k, hk, rfl, rfl, hbe, hbl⟩ := hrel
    clear be3 bl3
    obtain rfl | rfl | rfl | rfl | rfl : k = 0 ∨ k = 1 ∨ k = 2 ∨ k = 3 ∨ k = 4 := by omega
    · have hp := fun W => l02Put2_any c0 W h0
      have hst := headL_step id FL c0 ([c0, c1, c2, c3].take 0)
      have hft := headL_fit id FL c0 ([c0, c1, c2, c3].take 0) (by simp)
      have cl : wr.cell? ⟨w.heap.size + 1, 0, none⟩ = some (.int .i64 (c0 : Int)) := (blk_cell hbl 0).trans rfl
      try simp only [List.take_succ_cons] at hst hft ⊢
      try simp only [List.take_zero] at hst hft ⊢
      try simp only [List.cons_append] at hst hft ⊢
      try simp only [List.nil_append] at hst hft ⊢
      generalize (⟨(put2 c0).toArray⟩ : ByteArray) = PC at *
      generalize (⟨(headL id FL _).toArray⟩ : ByteArray) = HD at hst hft ⊢
      go_wp2_with (go_at_call 44; with_reducible refine (hp _).mono ?_; rintro e w5 ⟨rfl, hb5⟩)
      go_roundw
      case rel => exact ⟨1, by omega, by go_num, by simp only [List.take_succ_cons, List.take_zero], Nm.below_two hbe hb5, blk_below hbl hb5⟩
      case measure => simp [intOf]
    · have hp := fun W => l02Put2_any c1 W h1
      have hst := headL_step id FL c1 ([c0, c1, c2, c3].take 1)
      have hft := headL_fit id FL c1 ([c0, c1, c2, c3].take 1) (by simp)
      have cl : wr.cell? ⟨w.heap.size + 1, 1, none⟩ = some (.int .i64 (c1 : Int)) := (blk_cell hbl 1).trans rfl
      try simp only [List.take_succ_cons] at hst hft ⊢
      try simp only [List.take_zero] at hst hft ⊢
      try simp only [List.cons_append] at hst hft ⊢
      try simp only [List.nil_append] at hst hft ⊢
      generalize (⟨(put2 c1).toArray⟩ : ByteArray) = PC at *
      generalize (⟨(headL id FL _).toArray⟩ : ByteArray) = HD at hst hft ⊢
      go_wp2_with (go_at_call 44; with_reducible refine (hp _).mono ?_; rintro e w5 ⟨rfl, hb5⟩)
      go_roundw
      case rel => exact ⟨2, by omega, by go_num, by simp only [List.take_succ_cons, List.take_zero], Nm.below_two hbe hb5, blk_below hbl hb5⟩
      case measure => simp [intOf]
    · have hp := fun W => l02Put2_any c2 W h2
      have hst := headL_step id FL c2 ([c0, c1, c2, c3].take 2)
      have hft := headL_fit id FL c2 ([c0, c1, c2, c3].take 2) (by simp)
      have cl : wr.cell? ⟨w.heap.size + 1, 2, none⟩ = some (.int .i64 (c2 : Int)) := (blk_cell hbl 2).trans rfl
      try simp only [List.take_succ_cons] at hst hft ⊢
      try simp only [List.take_zero] at hst hft ⊢
      try simp only [List.cons_append] at hst hft ⊢
      try simp only [List.nil_append] at hst hft ⊢
      generalize (⟨(put2 c2).toArray⟩ : ByteArray) = PC at *
      generalize (⟨(headL id FL _).toArray⟩ : ByteArray) = HD at hst hft ⊢
      go_wp2_with (go_at_call 44; with_reducible refine (hp _).mono ?_; rintro e w5 ⟨rfl, hb5⟩)
      go_roundw
      case rel => exact ⟨3, by omega, by go_num, by simp only [List.take_succ_cons, List.take_zero], Nm.below_two hbe hb5, blk_below hbl hb5⟩
      case measure => simp [intOf]
    · have hp := fun W => l02Put2_any c3 W h3
      have hst := headL_step id FL c3 ([c0, c1, c2, c3].take 3)
      have hft := headL_fit id FL c3 ([c0, c1, c2, c3].take 3) (by simp)
      have cl : wr.cell? ⟨w.heap.size + 1, 3, none⟩ = some (.int .i64 (c3 : Int)) := (blk_cell hbl 3).trans rfl
      try simp only [List.take_succ_cons] at hst hft ⊢
      try simp only [List.take_zero] at hst hft ⊢
      try simp only [List.cons_append] at hst hft ⊢
      try simp only [List.nil_append] at hst hft ⊢
      generalize (⟨(put2 c3).toArray⟩ : ByteArray) = PC at *
      generalize (⟨(headL id FL _).toArray⟩ : ByteArray) = HD at hst hft ⊢
      go_wp2_with (go_at_call 44; with_reducible refine (hp _).mono ?_; rintro e w5 ⟨rfl, hb5⟩)
      go_roundw
      case rel => exact ⟨4, by omega, by go_num, by simp only [List.take_succ_cons, List.take_zero], Nm.below_two hbe hb5, blk_below hbl hb5⟩
      case measure => simp [intOf]
    · go_wp2
      go_ret
      exact ⟨rfl, hbe⟩
end Go.Proofs.Ytihhchebcojplaa
/- Words that are joined. -/
namespace Go.Proofs.Ytihhchebcojplaa
open Go.RowKit

theorem wrap_pos (n : Nat) (h : n < 9223372036854775808) : IntKind.i64.wrap (n : Int) = (n : Int) := by
  have e : (n : Int) % 2 ^ 64 = n := Int.emod_eq_of_lt (by omega) (by omega)
  simp only [IntKind.wrap, IntKind.bits, IntKind.signed, e]
  rw [if_neg]
  simp
  omega

theorem i64_or_nat (a b : Nat) (ha : a < 9223372036854775808) (hb : b < 9223372036854775808) : bits .or .i64 (a : Int) (b : Int) = ((a ||| b : Nat) : Int) := by
  have hx : a ||| b < 2 ^ 63 := Nat.or_lt_two_pow (by omega) (by omega)
  show IntKind.i64.wrap ((BitVec.ofInt 64 (a : Int) ||| BitVec.ofInt 64 (b : Int)).toNat : Int) = _
  rw [BitVec.toNat_or, ofInt_u64 a (by omega), ofInt_u64 b (by omega)]
  exact wrap_pos _ (by omega)

theorem or_join (i a b : Nat) (h : b < 2 ^ i) (ha : 2 ^ i * a + b < 9223372036854775808) : bits .or .i64 ((2 ^ i * a : Nat) : Int) (b : Int) = ((2 ^ i * a + b : Nat) : Int) := by
  rw [i64_or_nat _ _ (by omega) (by omega), ← Nat.two_pow_add_eq_or_of_lt h]
end Go.Proofs.Ytihhchebcojplaa
/- A head's flags, joined bit by bit; a message as it is written: mathematics. -/
namespace Go.Proofs.Ytihhchebcojplaa
open Go.RowKit
set_option linter.unusedVariables false

theorem or_bit (f i : Nat) (h : f / 2 ^ i % 2 = 0) : f ||| 2 ^ i = f + 2 ^ i := by
  have hp : 0 < 2 ^ i := Nat.two_pow_pos i
  obtain ⟨hi, lo, hlo, rfl⟩ : ∃ hi lo, lo < 2 ^ i ∧ f = 2 ^ (i + 1) * hi + lo := by
    refine ⟨f / 2 ^ i / 2, f % 2 ^ i, Nat.mod_lt _ hp, ?_⟩
    have h1 := Nat.div_add_mod f (2 ^ i)
    have h2 := Nat.div_add_mod (f / 2 ^ i) 2
    rw [h] at h2
    rw [Nat.pow_succ, Nat.mul_assoc, show 2 * (f / 2 ^ i / 2) = f / 2 ^ i by omega]
    exact h1.symm
  have e1 : 2 ^ (i + 1) * hi + lo = 2 ^ (i + 1) * hi ||| lo := Nat.two_pow_add_eq_or_of_lt (by rw [Nat.pow_succ]; omega) hi
  have e2 : 2 ^ (i + 1) * hi + 2 ^ i = 2 ^ (i + 1) * hi ||| 2 ^ i := Nat.two_pow_add_eq_or_of_lt (by rw [Nat.pow_succ]; omega) hi
  have e3 : 2 ^ i * (2 * hi + 1) + lo = 2 ^ i * (2 * hi + 1) ||| lo := Nat.two_pow_add_eq_or_of_lt hlo _
  have e4 : 2 ^ (i + 1) * hi + 2 ^ i = 2 ^ i * (2 * hi + 1) := by rw [Nat.pow_succ, Nat.mul_add, Nat.mul_one, Nat.mul_assoc]
  rw [e1, Nat.or_assoc, Nat.or_comm lo, ← Nat.or_assoc, ← e2, e4, ← e3, ← e4, ← e1]
  omega

def flP (h : Hr) : List (Bool × Nat) := [(h.qr, 15), (h.aa, 10), (h.tc, 9), (h.rd, 8), (h.ra, 7), (h.z, 6), (h.ad, 5), (h.cd, 4)]
def flN (op code : Nat) : List (Bool × Nat) → Nat
  | [] => op * 2048 + code
  | p :: r => flS p.1 p.2 + flN op code r
theorem flS_c (b : Bool) (i : Nat) : flS b i = 2 ^ i * b.toNat := by cases b <;> simp [flS]
theorem flN_all (h : Hr) (op code : Nat) : flN op code (flP h) = flagsS h.qr op h.aa h.tc h.rd h.ra h.z h.ad h.cd code := by
  simp only [flP, flN, flagsS]
  omega
theorem tn_le (b : Bool) : b.toNat ≤ 1 := by cases b <;> simp
/-- One flag more. -/
theorem flN_step (h : Hr) (op code : Nat) (ho : op ≤ 15) (hc : code ≤ 15) (j : Nat) (i : Nat) (hj : (flP h)[j]? = some (true, i)) :
    bits .or .i64 (flN op code ((flP h).take j) : Int) ((2 ^ i : Nat) : Int) = (flN op code ((flP h).take (j + 1)) : Int) := by
  have t1 := tn_le h.qr
  have t2 := tn_le h.aa
  have t3 := tn_le h.tc
  have t4 := tn_le h.rd
  have t5 := tn_le h.ra
  have t6 := tn_le h.z
  have t7 := tn_le h.ad
  have t8 := tn_le h.cd
  rcases j with _ | _ | _ | _ | _ | _ | _ | _ | j
  all_goals simp [flP] at hj
  all_goals
    obtain ⟨hb, rfl⟩ := hj
    simp only [flP, List.take_succ_cons, List.take_zero, flN, flS_c, hb, Bool.toNat_true]
    rw [i64_or_nat _ _ (by omega) (by decide), or_bit _ _ (by omega)]
    omega
theorem flN_skip (h : Hr) (op code : Nat) (j : Nat) (i : Nat) (hj : (flP h)[j]? = some (false, i)) : flN op code ((flP h).take (j + 1)) = flN op code ((flP h).take j) := by
  rcases j with _ | _ | _ | _ | _ | _ | _ | _ | j
  all_goals simp [flP] at hj
  all_goals
    obtain ⟨hb, rfl⟩ := hj
    simp only [flP, List.take_succ_cons, List.take_zero, flN, flS_c, hb, Bool.toNat_false]
    omega
theorem flN_first (op code : Nat) (ho : op ≤ 15) (hc : code ≤ 15) : bits .or .i64 ((op : Int) * 2048) (code : Int) = (flN op code [] : Int) := by
  have := or_join 11 op code (by omega) (by omega)
  rw [show ((2 ^ 11 * op : Nat) : Int) = (op : Int) * 2048 by omega] at this
  rw [this, flN]
  omega

/-- A question. -/
def qqW (q : Qr) (s : Wst) : Wst := ((nmX q.nm s).1 ++ (put2 q.ty.toNat ++ put2 q.cl.toNat), (nmX q.nm s).2)
def qqWs (l : List Qr) (s : Wst) : Wst := l.foldl (fun s q => qqW q s) s
theorem qqWs_cons (q : Qr) (l : List Qr) (s : Wst) : qqWs (q :: l) s = qqWs l (qqW q s) := rfl
theorem qu_parts {q : Qr} (h : quOK q = true) : (Nm.split q.nm).isSome = true ∧ (∃ t : Nat, q.ty = (t : Int) ∧ t < 65536) ∧ (∃ c : Nat, q.cl = (c : Int) ∧ c < 65536) := by
  simp only [quOK, Bool.and_eq_true] at h
  obtain ⟨⟨h1, h2⟩, h3⟩ := h
  obtain ⟨t, ht, htl⟩ := inB_nat h2
  obtain ⟨c, hc, hcl⟩ := inB_nat h3
  exact ⟨h1, ⟨t, ht, by omega⟩, ⟨c, hc, by omega⟩⟩
theorem qqW_len {q : Qr} (h : quOK q = true) (s : Wst) : s.1.length ≤ (qqW q s).1.length ∧ (qqW q s).1.length ≤ s.1.length + 65800 := by
  obtain ⟨h1, _⟩ := qu_parts h
  have a := nmX_len h1 s
  have b := name_short h1
  simp [qqW, put2]
  omega
theorem qqW_ok (q : Qr) (s : Wst) (h : PlOK s.2 s.1.length) : PlOK (qqW q s).2 (qqW q s).1.length := (nmX_ok q.nm s h).mono (by simp [qqW])
def hdW (m : Mg) : List UInt8 := headL m.hd.id.toNat (flagsS m.hd.qr m.hd.op.toNat m.hd.aa m.hd.tc m.hd.rd m.hd.ra m.hd.z m.hd.ad m.hd.cd m.hd.code.toNat) [m.qs.length, m.an.length, m.au.length, m.ex.length]
/-- A message. -/
def msgW (m : Mg) : Wst := rrWs m.ex (rrWs m.au (rrWs m.an (qqWs m.qs (hdW m, []))))
theorem hd_parts {h : Hr} (k : hdOK h = true) : (∃ i : Nat, h.id = (i : Int) ∧ i < 65536) ∧ (∃ o : Nat, h.op = (o : Int) ∧ o ≤ 15) ∧ (∃ c : Nat, h.code = (c : Int) ∧ c ≤ 15) := by
  simp only [hdOK, Bool.and_eq_true] at k
  obtain ⟨⟨h1, h2⟩, h3⟩ := k
  obtain ⟨a, ha, hal⟩ := inB_nat h1
  obtain ⟨b, hb, hbl⟩ := inB_nat h2
  obtain ⟨c, hc, hcl⟩ := inB_nat h3
  exact ⟨⟨a, ha, by omega⟩, ⟨b, hb, by omega⟩, ⟨c, hc, by omega⟩⟩
end Go.Proofs.Ytihhchebcojplaa
/- impl.within by its contract. -/
namespace Go.Proofs.Ytihhchebcojplaa
open Go.RowKit
set_option linter.unusedVariables false

set_option maxRecDepth 100000 in
set_option maxHeartbeats 400000 in
theorem within_any (n m : Int) (w : World) : Calls Try.prog 58 #[.int .i64 n, .int .i64 m] w fun e w' => e = .returned (.bool (decide (0 ≤ n) && decide (n ≤ m))) ∧ w' = w := by
  by_cases h0 : 0 ≤ n
  · by_cases h1 : n ≤ m
    · have e : (decide (0 ≤ n) && decide (n ≤ m)) = true := by simp [h0, h1]
      rw [e]
      clear e
      go_enter Try.func58, Try.ntmps58
      go_wp2
      go_ret
      exact ⟨rfl, rfl⟩
    · have h1' : m < n := by omega
      have e : (decide (0 ≤ n) && decide (n ≤ m)) = false := by simp [h0, h1]
      rw [e]
      clear e
      go_enter Try.func58, Try.ntmps58
      go_wp2
      go_ret
      exact ⟨rfl, rfl⟩
  · have h0' : n < 0 := by omega
    have e : (decide (0 ≤ n) && decide (n ≤ m)) = false := by simp [h0]
    rw [e]
    clear e
    go_enter Try.func58, Try.ntmps58
    go_wp2
    go_ret
    exact ⟨rfl, rfl⟩
end Go.Proofs.Ytihhchebcojplaa
/- A record that lies in a block. -/
namespace Go.Proofs.Ytihhchebcojplaa
open Go.RowKit
set_option linter.unusedVariables false

/-- The five cells of a record that lies in a block. -/
def RB (w : World) (g : Nat) (r : Rr) : Prop := w.cell? ⟨g, 0, none⟩ = some (.string r.own) ∧ w.cell? ⟨g, 1, none⟩ = some (.int .i64 r.ty) ∧ w.cell? ⟨g, 2, none⟩ = some (.int .i64 r.cl) ∧ w.cell? ⟨g, 3, none⟩ = some (.int .i64 r.tt) ∧ w.cell? ⟨g, 4, none⟩ = some (.string r.da)
theorem RB.below {w W : World} {g : Nat} {r : Rr} (h : RB w g r) (hb : Below w.heap.size w W) : RB W g r := by
  obtain ⟨a, b, c, d, e⟩ := h
  have put : ∀ {O : Nat} {z : Value}, w.cell? ⟨g, O, none⟩ = some z → W.cell? ⟨g, O, none⟩ = some z := fun h => (hb.cell (World.block_lt_of_cell? w _ h)).trans h
  exact ⟨put a, put b, put c, put d, put e⟩
theorem RB.new (w : World) (r : Rr) (t : Nat) : RB (w.alloc (.cells #[.string r.own, .int .i64 r.ty, .int .i64 r.cl, .int .i64 r.tt, .string r.da] t)) w.heap.size r := by
  refine ⟨?_, ?_, ?_, ?_, ?_⟩ <;> simp
end Go.Proofs.Ytihhchebcojplaa
/- impl.nameSize by its contract. -/
namespace Go.Proofs.Ytihhchebcojplaa
open Go.RowKit

/-- A size and whether there is one, as Go tells them. -/
def szV (o : Option Nat) : Value := .tuple #[.int .i64 ((o.getD 0 : Nat) : Int), .bool o.isSome]

theorem nsz_none {s : ByteArray} {i : Nat} (h : Dt.nameAtS s = Dt.nameF 256 s i) (h1 : Dt.nameF 256 s i = ByteArray.empty) : szV (Dt.sz .nm s) = .tuple #[.int .i64 0, .bool false] := by
  have : (Dt.nameAtS s).size = 0 := by rw [h, h1]; rfl
  rw [Dt.sz, if_pos this]; rfl
theorem nsz_zero {s : ByteArray} {i : Nat} (h : Dt.nameAtS s = Dt.nameF 256 s i) (h1 : i < s.size) (h2 : i < 255) (h0 : s[i].toNat = 0) : szV (Dt.sz .nm s) = .tuple #[.int .i64 ((i : Int) + 1), .bool true] := by
  have e : Dt.nameF 256 s i = s.extract 0 (i + 1) := by rw [Dt.nameF, dif_pos ⟨h1, h2⟩, if_pos h0]
  have e1 : (Dt.nameAtS s).size = i + 1 := by rw [h, e]; simp; omega
  rw [Dt.sz, if_neg (by omega), e1]; rfl
theorem nsz_step {s : ByteArray} {i : Nat} (h : Dt.nameAtS s = Dt.nameF 256 s i) (h1 : i < s.size) (h2 : i < 255) (h0 : s[i].toNat ≠ 0) (h3 : s[i].toNat ≤ 63) : Dt.nameAtS s = Dt.nameF 256 s (i + (1 + s[i].toNat)) := by
  rw [h, Dt.nameF, dif_pos ⟨h1, h2⟩, if_neg h0, if_neg (by omega), show i + s[i].toNat + 1 = i + (1 + s[i].toNat) by omega]
  exact Dt.nameF_enough _ _ _ _ (by omega) (by omega)
theorem nsz_big {s : ByteArray} {i : Nat} (h1 : i < s.size) (h2 : i < 255) (h0 : 63 < s[i].toNat) : Dt.nameF 256 s i = ByteArray.empty := by
  rw [Dt.nameF, dif_pos ⟨h1, h2⟩, if_neg (by omega), if_pos h0]
theorem nsz_end {s : ByteArray} {i : Nat} (h : ¬ (i < s.size ∧ i < 255)) : Dt.nameF 256 s i = ByteArray.empty := by
  rw [Dt.nameF, dif_neg h]

set_option maxRecDepth 100000 in
set_option maxHeartbeats 800000 in
theorem nameSize_any (s : ByteArray) (w : World) :
    Calls Try.prog 81 #[.string s] w fun e w' => e = .returned (szV (Dt.sz .nm s)) ∧ w' = w := by
  have H0 : Dt.nameAtS s = Dt.nameF 256 s 0 := rfl
  go_enter Try.func81, Try.ntmps81
  go_wp2
  go_loop [4] (fun v => ∃ i : Nat, i < 255 ∧ v = .int .i64 i ∧ Dt.nameAtS s = Dt.nameF 256 s i) (fun v => 400 - (intOf v).toNat)
  case atStart => exact ⟨0, by omega, rfl, H0⟩
  case round =>
    obtain ⟨i, hi, rfl, hn⟩ := hrel
    clear H0
    by_cases h1 : i < s.size
    · have h1' : (i : Int) < (s.size : Int) := by omega
      have hc : (s[i].toNat : Int) < 256 := by have := s[i].toNat_lt; omega
      by_cases h3 : s[i].toNat = 0
      · have HN := Nm.hide (nsz_zero hn h1 hi h3)
        have h3' : ((s[i].toNat : Int) == 0) = true := by rw [beq_iff_eq]; omega
        clear hn h3
        go_wp2
        go_ret2
        rw [HN.out]
        exact ⟨rfl, rfl⟩
      · have h3' : ((s[i].toNat : Int) == 0) = false := by rw [beq_eq_false_iff_ne]; omega
        have h3'' : (0 : Int) < (s[i].toNat : Int) := by omega
        by_cases h4 : 63 < s[i].toNat
        · have HN := Nm.hide (nsz_none hn (nsz_big h1 hi h4))
          have h4' : (63 : Int) < (s[i].toNat : Int) := by omega
          clear hn h3
          go_wp2_with (go_at_call 88; go_in)
          go_ret2
          rw [HN.out]
          exact ⟨rfl, rfl⟩
        · have h4' : (s[i].toNat : Int) ≤ 63 := by omega
          have hst := nsz_step hn h1 hi h3 (by omega)
          by_cases h5 : 255 ≤ i + (1 + s[i].toNat)
          · have HN := Nm.hide (nsz_none hst (nsz_end (by omega)))
            have h5' : (255 : Int) ≤ (i : Int) + (1 + (s[i].toNat : Int)) := by omega
            clear hn h3 hst
            go_wp2_with (go_at_call 88; go_in)
            go_ret2
            rw [HN.out]
            exact ⟨rfl, rfl⟩
          · have HN := Nm.hide hst
            have h5' : (i : Int) + (1 + (s[i].toNat : Int)) < 255 := by omega
            clear hn h3 hst
            go_wp2_with (go_at_call 88; go_in)
            go_round
            case rel => exact ⟨i + (1 + s[i].toNat), by omega, by go_num, HN.out⟩
            case measure => simp [intOf]; omega
    · have HN := Nm.hide (nsz_none hn (nsz_end (by omega)))
      have h1' : (s.size : Int) ≤ (i : Int) := by omega
      clear hn
      go_wp2
      go_ret2
      rw [HN.out]
      exact ⟨rfl, rfl⟩
end Go.Proofs.Ytihhchebcojplaa
/- impl.NameOK by its contract. -/
namespace Go.Proofs.Ytihhchebcojplaa
open Go.RowKit

theorem nok_true {s : ByteArray} (h : (Nm.split s).isSome = true) : Dt.sz .nm s = some s.size := by
  obtain ⟨h1, h2⟩ := (Dt.name_iff s).1 h
  rw [Dt.sz, if_neg h1, h2]
theorem nok_false {s : ByteArray} (h : (Nm.split s).isSome = false) : Dt.sz .nm s = none ∨ ∃ n, Dt.sz .nm s = some n ∧ n ≠ s.size := by
  by_cases h0 : (Dt.nameAtS s).size = 0
  · left; rw [Dt.sz, if_pos h0]
  · right
    refine ⟨_, by rw [Dt.sz, if_neg h0], ?_⟩
    intro e
    rw [(Dt.name_iff s).2 ⟨h0, e⟩] at h
    simp at h

set_option maxRecDepth 100000 in
set_option maxHeartbeats 400000 in
theorem implNameOK_same (s : ByteArray) (w : World) :
    Calls Try.prog 59 #[.string s] w fun e w' => e = .returned (.bool (Nm.split s).isSome) ∧ w' = w := by
  have hcall := nameSize_any s
  cases hq : (Nm.split s).isSome with
  | true =>
    rw [nok_true hq] at hcall
    simp only [szV, Option.getD_some, Option.isSome_some] at hcall
    clear hq
    go_enter Try.func59, Try.ntmps59
    go_wp2_with (go_at_call 81; refine (hcall _).mono ?_; rintro e w1 ⟨rfl, rfl⟩)
    go_ret
    exact ⟨rfl, rfl⟩
  | false =>
    rcases nok_false hq with h | ⟨n, h, hn⟩
    · rw [h] at hcall
      simp only [szV, Option.getD_none, Option.isSome_none] at hcall
      clear hq h
      go_enter Try.func59, Try.ntmps59
      go_wp2_with (go_at_call 81; refine (hcall _).mono ?_; rintro e w1 ⟨rfl, rfl⟩)
      go_ret
      exact ⟨rfl, rfl⟩
    · rw [h] at hcall
      simp only [szV, Option.getD_some, Option.isSome_some] at hcall
      have hb : ((n : Int) == (s.size : Int)) = false := by rw [beq_eq_false_iff_ne]; omega
      have hb2 : (n == s.size) = false := by rw [beq_eq_false_iff_ne]; omega
      clear hq h
      go_enter Try.func59, Try.ntmps59
      go_wp2_with (go_at_call 81; refine (hcall _).mono ?_; rintro e w1 ⟨rfl, rfl⟩)
      go_ret
      exact ⟨rfl, rfl⟩

theorem implNameOK_any (s : ByteArray) (w : World) (_ : s.size ≤ maxLen) :
    Calls Try.prog 59 #[.string s] w fun e w' => e = .returned (.bool (Nm.split s).isSome) ∧ Below w.heap.size w w' := by
  refine (implNameOK_same s w).mono ?_
  rintro e w' ⟨rfl, rfl⟩
  exact ⟨rfl, Below.refl _ _⟩
end Go.Proofs.Ytihhchebcojplaa
/- impl.foldByte by its contract. -/
namespace Go.Proofs.Ytihhchebcojplaa
open Go.RowKit

theorem ret_u8 {a b : Int} (h : a = b) : Ending.returned (.int .u8 a) = .returned (.int .u8 b) := by rw [h]

set_option maxRecDepth 100000 in
set_option maxHeartbeats 400000 in
theorem foldByte_any (c : UInt8) (w : World) :
    Calls Try.prog 114 #[.int .u8 c.toNat] w fun e w' => e = .returned (.int .u8 (Nm.low c).toNat) ∧ w' = w := by
  have hcl : (c.toNat : Int) < 256 := by have := c.toNat_lt; omega
  by_cases hup : 65 ≤ c.toNat ∧ c.toNat ≤ 90
  · have HL := Nm.hide (Nm.low_up hup)
    have d1 : decide ((65 : Int) ≤ (c.toNat : Int)) = true := by simp; omega
    have d2 : decide ((c.toNat : Int) ≤ 90) = true := by simp; omega
    have hb1 : (c.toNat : Int) ≤ 90 := by omega
    clear hup
    go_enter Try.func114, Try.ntmps114
    go_wp2
    go_ret
    rw [HL.out]
    exact ⟨rfl, rfl⟩
  · have HL := Nm.hide (Nm.low_id hup)
    by_cases hlo : 65 ≤ c.toNat
    · have d1 : decide ((65 : Int) ≤ (c.toNat : Int)) = true := by simp; omega
      have d2 : decide ((c.toNat : Int) ≤ 90) = false := by simp; omega
      clear hup
      go_enter Try.func114, Try.ntmps114
      go_wp2
      go_ret
      rw [HL.out]
      exact ⟨rfl, rfl⟩
    · have d1 : decide ((65 : Int) ≤ (c.toNat : Int)) = false := by simp; omega
      clear hup
      go_enter Try.func114, Try.ntmps114
      go_wp2
      go_ret
      rw [HL.out]
      exact ⟨rfl, rfl⟩

end Go.Proofs.Ytihhchebcojplaa
/- impl.isDigit, isLetter, isTag by their contracts. -/
namespace Go.Proofs.Ytihhchebcojplaa
open Go.RowKit

def digD (c : UInt8) : Bool := decide (48 ≤ c.toNat) && decide (c.toNat ≤ 57)
def letD (c : UInt8) : Bool := decide (97 ≤ (Nm.low c).toNat) && decide ((Nm.low c).toNat ≤ 122)

theorem alnum_or (c : UInt8) : Dt.alnumB c = (digD c || letD c) := by
  unfold Dt.alnumB digD letD Nm.low
  have hc := c.toNat_lt
  by_cases h : 65 ≤ c.toNat ∧ c.toNat ≤ 90
  · rw [if_pos h]
    have e : (UInt8.ofNat (c.toNat + 32)).toNat = c.toNat + 32 := by simp; omega
    rw [e, Bool.eq_iff_iff]
    simp
    omega
  · rw [if_neg h, Bool.eq_iff_iff]
    simp
    omega

set_option maxRecDepth 100000 in
set_option maxHeartbeats 400000 in
theorem isDigitD_any (c : UInt8) (w : World) :
    Calls Try.prog 112 #[.int .u8 c.toNat] w fun e w' => e = .returned (.bool (digD c)) ∧ w' = w := by
  by_cases h1 : 48 ≤ c.toNat
  · have d1 : decide ((48 : Int) ≤ (c.toNat : Int)) = true := by simp; omega
    have HE : Hid (digD c = decide ((c.toNat : Int) ≤ 57)) := by
      show _ = _
      rw [digD, decide_eq_true h1, Bool.true_and, Bool.eq_iff_iff]
      simp; omega
    go_enter Try.func112, Try.ntmps112
    go_wp2
    go_ret
    rw [HE.out]
    exact ⟨rfl, rfl⟩
  · have d1 : decide ((48 : Int) ≤ (c.toNat : Int)) = false := by simp; omega
    have HE : Hid (digD c = false) := by
      show _ = _
      rw [digD, decide_eq_false h1]; rfl
    go_enter Try.func112, Try.ntmps112
    go_wp2
    go_ret
    rw [HE.out]
    exact ⟨rfl, rfl⟩

set_option maxRecDepth 100000 in
set_option maxHeartbeats 400000 in
theorem isLetter_any (c : UInt8) (w : World) :
    Calls Try.prog 113 #[.int .u8 c.toNat] w fun e w' => e = .returned (.bool (letD c)) ∧ w' = w := by
  have hcall := foldByte_any c
  by_cases h1 : 97 ≤ (Nm.low c).toNat
  · have HE : Hid (letD c = decide (((Nm.low c).toNat : Int) ≤ 122)) := by
      show _ = _
      rw [letD, decide_eq_true h1, Bool.true_and, Bool.eq_iff_iff]
      simp; omega
    have d1 : decide ((97 : Int) ≤ ((Nm.low c).toNat : Int)) = true := by simp; omega
    go_enter Try.func113, Try.ntmps113
    go_wp2_with (go_at_call 114; refine (hcall _).mono ?_; rintro e w1 ⟨rfl, rfl⟩)
    go_ret
    rw [HE.out]
    exact ⟨rfl, rfl⟩
  · have d1 : decide ((97 : Int) ≤ ((Nm.low c).toNat : Int)) = false := by simp; omega
    have HE : Hid (letD c = false) := by
      show _ = _
      rw [letD, decide_eq_false h1]; rfl
    go_enter Try.func113, Try.ntmps113
    go_wp2_with (go_at_call 114; refine (hcall _).mono ?_; rintro e w1 ⟨rfl, rfl⟩)
    go_ret
    rw [HE.out]
    exact ⟨rfl, rfl⟩

def tagT (t : ByteArray) : Bool := t.data.toList.all Dt.alnumB && (decide (0 < t.size) && decide (t.size ≤ 15))

theorem tagT_bad {t : ByteArray} {j : Nat} (hj : j < t.size) (h : Dt.alnumB t[j] = false) : tagT t = false := by
  rw [tagT, Bool.and_eq_false_iff]
  left
  rw [List.all_eq_false]
  exact ⟨t[j], List.mem_of_getElem? (Nm.get_data hj), by simp [h]⟩
theorem tagT_good {t : ByteArray} (h : ∀ j, (hj : j < t.size) → Dt.alnumB t[j] = true) : tagT t = (decide (0 < t.size) && decide (t.size ≤ 15)) := by
  rw [tagT]
  have : t.data.toList.all Dt.alnumB = true := by
    rw [List.all_eq_true]
    intro c hc
    obtain ⟨i, hi⟩ := List.getElem?_of_mem hc
    have hl : i < t.size := by
      have := (List.getElem?_eq_some_iff.1 hi).1
      simpa using this
    rw [Nm.get_data hl] at hi
    simp at hi
    rw [← hi]
    exact h _ hl
  rw [this, Bool.true_and]

set_option maxRecDepth 100000 in
set_option maxHeartbeats 800000 in
theorem isTag_any (t : ByteArray) (w : World) (ht : t.size ≤ 1000000000) :
    Calls Try.prog 111 #[.string t] w fun e w' => e = .returned (.bool (tagT t)) ∧ w' = w := by
  go_enter Try.func111, Try.ntmps111
  go_wp2
  go_loop [6] (fun v => ∃ j : Nat, j ≤ t.size ∧ v = .int .i64 j ∧ ∀ i, i < j → (hi : i < t.size) → Dt.alnumB t[i] = true) (fun v => t.size - (intOf v).toNat)
  case atStart => exact ⟨0, by omega, rfl, fun i h => by omega⟩
  case round =>
    obtain ⟨j, hj, rfl, ha⟩ := hrel
    by_cases hlt : j < t.size
    · have hlt' : (j : Int) < (t.size : Int) := by omega
      have hd := isDigitD_any t[j]
      have hl := isLetter_any t[j]
      have hor := alnum_or t[j]
      cases hA : digD t[j] with
      | true =>
        have HJ : Hid (∀ i, i < j + 1 → (hi : i < t.size) → Dt.alnumB t[i] = true) := by
          show ∀ i, _
          intro i h2 h3
          by_cases e : i = j
          · subst e; rw [hor, hA]; rfl
          · exact ha i (by omega) h3
        rw [hA] at hd
        clear ha hor hA
        go_wp2_with (first | (go_at_call 112; refine (hd _).mono ?_; rintro e w2 ⟨rfl, hw⟩; obtain rfl : w = w2 := hw.symm; clear hw) | (go_at_call 113; refine (hl _).mono ?_; rintro e w2 ⟨rfl, hw⟩; obtain rfl : w = w2 := hw.symm; clear hw))
        go_round
        case rel => exact ⟨j + 1, by omega, by go_num, HJ.out⟩
        case measure => simp [intOf]; omega
      | false =>
        rw [hA] at hd
        cases hB : letD t[j] with
        | true =>
          have HJ : Hid (∀ i, i < j + 1 → (hi : i < t.size) → Dt.alnumB t[i] = true) := by
            show ∀ i, _
            intro i h2 h3
            by_cases e : i = j
            · subst e; rw [hor, hB]; simp
            · exact ha i (by omega) h3
          rw [hB] at hl
          clear ha hor hA hB
          go_wp2_with (first | (go_at_call 112; refine (hd _).mono ?_; rintro e w2 ⟨rfl, hw⟩; obtain rfl : w = w2 := hw.symm; clear hw) | (go_at_call 113; refine (hl _).mono ?_; rintro e w2 ⟨rfl, hw⟩; obtain rfl : w = w2 := hw.symm; clear hw))
          go_round
          case rel => exact ⟨j + 1, by omega, by go_num, HJ.out⟩
          case measure => simp [intOf]; omega
        | false =>
          have HT := Nm.hide (tagT_bad hlt (by rw [hor, hA, hB]; rfl))
          rw [hB] at hl
          clear ha hor hA hB
          go_wp2_with (first | (go_at_call 112; refine (hd _).mono ?_; rintro e w2 ⟨rfl, hw⟩; obtain rfl : w = w2 := hw.symm; clear hw) | (go_at_call 113; refine (hl _).mono ?_; rintro e w2 ⟨rfl, hw⟩; obtain rfl : w = w2 := hw.symm; clear hw))
          go_ret
          rw [HT.out]
          exact ⟨rfl, rfl⟩
    · have hlt' : (t.size : Int) ≤ (j : Int) := by omega
      have HT := Nm.hide (tagT_good (fun i h => ha i (by omega) h))
      clear ha
      by_cases h0 : 0 < t.size
      · have h0' : (0 : Int) < (t.size : Int) := by omega
        have HU : Hid (tagT t = decide ((t.size : Int) ≤ 15)) := by
          show _ = _
          rw [HT.out, decide_eq_true h0, Bool.true_and, Bool.eq_iff_iff]
          simp; omega
        clear HT
        go_wp2
        go_ret
        rw [HU.out]
        exact ⟨rfl, rfl⟩
      · have h0' : (t.size : Int) ≤ 0 := by omega
        have HU : Hid (tagT t = false) := by
          show _ = _
          rw [HT.out, decide_eq_false h0, Bool.false_and]
        clear HT
        go_wp2
        go_ret
        rw [HU.out]
        exact ⟨rfl, rfl⟩

theorem tag_of {d : ByteArray} {n : Nat} (hn : (Dt.txtS d).size = n) (_ : n ≠ 0) : tagT (d.extract 1 n) = Dt.tagB d := by
  have hle := Dt.txt_le d
  have he := Dt.txt_ext d
  rw [hn] at he
  have e1 : (d.extract 1 n).data.toList = (Dt.txtS d).data.toList.drop 1 := by
    rw [← he]
    simp only [ByteArray.data_extract, Array.toList_extract, List.extract_eq_take_drop]
    simp
    rw [← List.drop_one, ← List.drop_one, List.drop_take]
  have e2 : (d.extract 1 n).size = n - 1 := by simp; omega
  rw [tagT, Dt.tagB, e1, e2, hn, Bool.eq_iff_iff]
  simp
  constructor
  · rintro ⟨h1, h2, h3⟩; exact ⟨⟨by omega, by omega⟩, h1⟩
  · rintro ⟨⟨h1, h2⟩, h3⟩; exact ⟨h3, by omega, by omega⟩
end Go.Proofs.Ytihhchebcojplaa
