import Derived.Test.YtpahnhpeelaigaaRows
import Derived.WalkSpells
import Derived.WalkLawsBesides
import Derived.Test.YtpahnhpeelaigaaWtG
import Derived.Test.YtpahnhpeelaigaaWrM
import Derived.Test.YtpahnhpeelaigaaJDataM
import Derived.Test.YtpahnhpeelaigaaJMath
import Derived.RegionTactic
import Derived.Test.YtpahnhpeelaigaaJPut
/- Words that are joined. -/
namespace Go.Proofs.Ytpahnhpeelaigaa
open Go.RowKit

theorem wrap_pos (n : Nat) (h : n < 9223372036854775808) : IntKind.i64.wrap (n : Int) = (n : Int) := by
  have e : (n : Int) % 2 ^ 64 = n := Int.emod_eq_of_lt (by omega) (by omega)
  simp only [IntKind.wrap, IntKind.bits, IntKind.signed, e]
  rw [if_neg]
  simp
  omega

theorem i64_or_nat (a b : Nat) (ha : a < 9223372036854775808) (hb : b < 9223372036854775808) : bits .or .i64 (a : Int) (b : Int) = ((a ||| b : Nat) : Int) := by
  have hx : a ||| b < 2 ^ 63 := Nat.or_lt_two_pow (by omega) (by omega)
  show IntKind.i64.wrap ((BitVec.ofInt 64 (a : Int) ||| BitVec.ofInt 64 (b : Int)).toNat : Int) = _
  rw [BitVec.toNat_or, ofInt_u64 a (by omega), ofInt_u64 b (by omega)]
  exact wrap_pos _ (by omega)

theorem or_join (i a b : Nat) (h : b < 2 ^ i) (ha : 2 ^ i * a + b < 9223372036854775808) : bits .or .i64 ((2 ^ i * a : Nat) : Int) (b : Int) = ((2 ^ i * a + b : Nat) : Int) := by
  rw [i64_or_nat _ _ (by omega) (by omega), ← Nat.two_pow_add_eq_or_of_lt h]
end Go.Proofs.Ytpahnhpeelaigaa
/- A head's flags, joined bit by bit; a message as it is written: mathematics. -/
namespace Go.Proofs.Ytpahnhpeelaigaa
open Go.RowKit
set_option linter.unusedVariables false

theorem or_bit (f i : Nat) (h : f / 2 ^ i % 2 = 0) : f ||| 2 ^ i = f + 2 ^ i := by
  have hp : 0 < 2 ^ i := Nat.two_pow_pos i
  obtain ⟨hi, lo, hlo, rfl⟩ : ∃ hi lo, lo < 2 ^ i ∧ f = 2 ^ (i + 1) * hi + lo := by
    refine ⟨f / 2 ^ i / 2, f % 2 ^ i, Nat.mod_lt _ hp, ?_⟩
    have h1 := Nat.div_add_mod f (2 ^ i)
    have h2 := Nat.div_add_mod (f / 2 ^ i) 2
    rw [h] at h2
    rw [Nat.pow_succ, Nat.mul_assoc, show 2 * (f / 2 ^ i / 2) = f / 2 ^ i by omega]
    exact h1.symm
  have e1 : 2 ^ (i + 1) * hi + lo = 2 ^ (i + 1) * hi ||| lo := Nat.two_pow_add_eq_or_of_lt (by rw [Nat.pow_succ]; omega) hi
  have e2 : 2 ^ (i + 1) * hi + 2 ^ i = 2 ^ (i + 1) * hi ||| 2 ^ i := Nat.two_pow_add_eq_or_of_lt (by rw [Nat.pow_succ]; omega) hi
  have e3 : 2 ^ i * (2 * hi + 1) + lo = 2 ^ i * (2 * hi + 1) ||| lo := Nat.two_pow_add_eq_or_of_lt hlo _
  have e4 : 2 ^ (i + 1) * hi + 2 ^ i = 2 ^ i * (2 * hi + 1) := by rw [Nat.pow_succ, Nat.mul_add, Nat.mul_one, Nat.mul_assoc]
  rw [e1, Nat.or_assoc, Nat.or_comm lo, ← Nat.or_assoc, ← e2, e4, ← e3, ← e4, ← e1]
  omega

def flP (h : Hr) : List (Bool × Nat) := [(h.qr, 15), (h.aa, 10), (h.tc, 9), (h.rd, 8), (h.ra, 7), (h.z, 6), (h.ad, 5), (h.cd, 4)]
def flN (op code : Nat) : List (Bool × Nat) → Nat
  | [] => op * 2048 + code
  | p :: r => flS p.1 p.2 + flN op code r
theorem flS_c (b : Bool) (i : Nat) : flS b i = 2 ^ i * b.toNat := by cases b <;> simp [flS]
theorem flN_all (h : Hr) (op code : Nat) : flN op code (flP h) = flagsS h.qr op h.aa h.tc h.rd h.ra h.z h.ad h.cd code := by
  simp only [flP, flN, flagsS]
  omega
theorem tn_le (b : Bool) : b.toNat ≤ 1 := by cases b <;> simp
/-- One flag more. -/
theorem flN_step (h : Hr) (op code : Nat) (ho : op ≤ 15) (hc : code ≤ 15) (j : Nat) (i : Nat) (hj : (flP h)[j]? = some (true, i)) :
    bits .or .i64 (flN op code ((flP h).take j) : Int) ((2 ^ i : Nat) : Int) = (flN op code ((flP h).take (j + 1)) : Int) := by
  have t1 := tn_le h.qr
  have t2 := tn_le h.aa
  have t3 := tn_le h.tc
  have t4 := tn_le h.rd
  have t5 := tn_le h.ra
  have t6 := tn_le h.z
  have t7 := tn_le h.ad
  have t8 := tn_le h.cd
  rcases j with _ | _ | _ | _ | _ | _ | _ | _ | j
  all_goals simp [flP] at hj
  all_goals
    obtain ⟨hb, rfl⟩ := hj
    simp only [flP, List.take_succ_cons, List.take_zero, flN, flS_c, hb, Bool.toNat_true]
    rw [i64_or_nat _ _ (by omega) (by decide), or_bit _ _ (by omega)]
    omega
theorem flN_skip (h : Hr) (op code : Nat) (j : Nat) (i : Nat) (hj : (flP h)[j]? = some (false, i)) : flN op code ((flP h).take (j + 1)) = flN op code ((flP h).take j) := by
  rcases j with _ | _ | _ | _ | _ | _ | _ | _ | j
  all_goals simp [flP] at hj
  all_goals
    obtain ⟨hb, rfl⟩ := hj
    simp only [flP, List.take_succ_cons, List.take_zero, flN, flS_c, hb, Bool.toNat_false]
    omega
theorem flN_first (op code : Nat) (ho : op ≤ 15) (hc : code ≤ 15) : bits .or .i64 ((op : Int) * 2048) (code : Int) = (flN op code [] : Int) := by
  have := or_join 11 op code (by omega) (by omega)
  rw [show ((2 ^ 11 * op : Nat) : Int) = (op : Int) * 2048 by omega] at this
  rw [this, flN]
  omega

/-- A question. -/
def qqW (q : Qr) (s : Wst) : Wst := ((nmX q.nm s).1 ++ (put2 q.ty.toNat ++ put2 q.cl.toNat), (nmX q.nm s).2)
def qqWs (l : List Qr) (s : Wst) : Wst := l.foldl (fun s q => qqW q s) s
theorem qqWs_cons (q : Qr) (l : List Qr) (s : Wst) : qqWs (q :: l) s = qqWs l (qqW q s) := rfl
theorem qu_parts {q : Qr} (h : quOK q = true) : (Nm.split q.nm).isSome = true ∧ (∃ t : Nat, q.ty = (t : Int) ∧ t < 65536) ∧ (∃ c : Nat, q.cl = (c : Int) ∧ c < 65536) := by
  simp only [quOK, Bool.and_eq_true] at h
  obtain ⟨⟨h1, h2⟩, h3⟩ := h
  obtain ⟨t, ht, htl⟩ := inB_nat h2
  obtain ⟨c, hc, hcl⟩ := inB_nat h3
  exact ⟨h1, ⟨t, ht, by omega⟩, ⟨c, hc, by omega⟩⟩
theorem qqW_len {q : Qr} (h : quOK q = true) (s : Wst) : s.1.length ≤ (qqW q s).1.length ∧ (qqW q s).1.length ≤ s.1.length + 65800 := by
  obtain ⟨h1, _⟩ := qu_parts h
  have a := nmX_len h1 s
  have b := name_short h1
  simp [qqW, put2]
  omega
theorem qqW_ok (q : Qr) (s : Wst) (h : PlOK s.2 s.1.length) : PlOK (qqW q s).2 (qqW q s).1.length := (nmX_ok q.nm s h).mono (by simp [qqW])
def hdW (m : Mg) : List UInt8 := headL m.hd.id.toNat (flagsS m.hd.qr m.hd.op.toNat m.hd.aa m.hd.tc m.hd.rd m.hd.ra m.hd.z m.hd.ad m.hd.cd m.hd.code.toNat) [m.qs.length, m.an.length, m.au.length, m.ex.length]
/-- A message. -/
def msgW (m : Mg) : Wst := rrWs m.ex (rrWs m.au (rrWs m.an (qqWs m.qs (hdW m, []))))
theorem hd_parts {h : Hr} (k : hdOK h = true) : (∃ i : Nat, h.id = (i : Int) ∧ i < 65536) ∧ (∃ o : Nat, h.op = (o : Int) ∧ o ≤ 15) ∧ (∃ c : Nat, h.code = (c : Int) ∧ c ≤ 15) := by
  simp only [hdOK, Bool.and_eq_true] at k
  obtain ⟨⟨h1, h2⟩, h3⟩ := k
  obtain ⟨a, ha, hal⟩ := inB_nat h1
  obtain ⟨b, hb, hbl⟩ := inB_nat h2
  obtain ⟨c, hc, hcl⟩ := inB_nat h3
  exact ⟨⟨a, ha, by omega⟩, ⟨b, hb, by omega⟩, ⟨c, hc, by omega⟩⟩
end Go.Proofs.Ytpahnhpeelaigaa
/- impl.nameSize by its contract. -/
namespace Go.Proofs.Ytpahnhpeelaigaa
open Go.RowKit

/-- A size and whether there is one, as Go tells them. -/
def szV (o : Option Nat) : Value := .tuple #[.int .i64 ((o.getD 0 : Nat) : Int), .bool o.isSome]

theorem nsz_none {s : ByteArray} {i : Nat} (h : Dt.nameAtS s = Dt.nameF 256 s i) (h1 : Dt.nameF 256 s i = ByteArray.empty) : szV (Dt.sz .nm s) = .tuple #[.int .i64 0, .bool false] := by
  have : (Dt.nameAtS s).size = 0 := by rw [h, h1]; rfl
  rw [Dt.sz, if_pos this]; rfl
theorem nsz_zero {s : ByteArray} {i : Nat} (h : Dt.nameAtS s = Dt.nameF 256 s i) (h1 : i < s.size) (h2 : i < 255) (h0 : s[i].toNat = 0) : szV (Dt.sz .nm s) = .tuple #[.int .i64 ((i : Int) + 1), .bool true] := by
  have e : Dt.nameF 256 s i = s.extract 0 (i + 1) := by rw [Dt.nameF, dif_pos ⟨h1, h2⟩, if_pos h0]
  have e1 : (Dt.nameAtS s).size = i + 1 := by rw [h, e]; simp; omega
  rw [Dt.sz, if_neg (by omega), e1]; rfl
theorem nsz_step {s : ByteArray} {i : Nat} (h : Dt.nameAtS s = Dt.nameF 256 s i) (h1 : i < s.size) (h2 : i < 255) (h0 : s[i].toNat ≠ 0) (h3 : s[i].toNat ≤ 63) : Dt.nameAtS s = Dt.nameF 256 s (i + (1 + s[i].toNat)) := by
  rw [h, Dt.nameF, dif_pos ⟨h1, h2⟩, if_neg h0, if_neg (by omega), show i + s[i].toNat + 1 = i + (1 + s[i].toNat) by omega]
  exact Dt.nameF_enough _ _ _ _ (by omega) (by omega)
theorem nsz_big {s : ByteArray} {i : Nat} (h1 : i < s.size) (h2 : i < 255) (h0 : 63 < s[i].toNat) : Dt.nameF 256 s i = ByteArray.empty := by
  rw [Dt.nameF, dif_pos ⟨h1, h2⟩, if_neg (by omega), if_pos h0]
theorem nsz_end {s : ByteArray} {i : Nat} (h : ¬ (i < s.size ∧ i < 255)) : Dt.nameF 256 s i = ByteArray.empty := by
  rw [Dt.nameF, dif_neg h]

set_option maxRecDepth 100000 in
set_option maxHeartbeats 800000 in
theorem nameSize_any (s : ByteArray) (w : World) :
    Calls Try.prog 68 #[.string s] w fun e w' => e = .returned (szV (Dt.sz .nm s)) ∧ w' = w := by
  have H0 : Dt.nameAtS s = Dt.nameF 256 s 0 := rfl
  go_enter Try.func68, Try.ntmps68
  go_wp2
  go_loop [4] (fun v => ∃ i : Nat, i < 255 ∧ v = .int .i64 i ∧ Dt.nameAtS s = Dt.nameF 256 s i) (fun v => 400 - (intOf v).toNat)
  case atStart => exact ⟨0, by omega, rfl, H0⟩
  case round =>
    obtain ⟨i, hi, rfl, hn⟩ := hrel
    clear H0
    by_cases h1 : i < s.size
    · have h1' : (i : Int) < (s.size : Int) := by omega
      have hc : (s[i].toNat : Int) < 256 := by have := s[i].toNat_lt; omega
      by_cases h3 : s[i].toNat = 0
      · have HN := Nm.hide (nsz_zero hn h1 hi h3)
        have h3' : ((s[i].toNat : Int) == 0) = true := by rw [beq_iff_eq]; omega
        clear hn h3
        go_wp2
        go_ret2
        rw [HN.out]
        exact ⟨rfl, rfl⟩
      · have h3' : ((s[i].toNat : Int) == 0) = false := by rw [beq_eq_false_iff_ne]; omega
        have h3'' : (0 : Int) < (s[i].toNat : Int) := by omega
        by_cases h4 : 63 < s[i].toNat
        · have HN := Nm.hide (nsz_none hn (nsz_big h1 hi h4))
          have h4' : (63 : Int) < (s[i].toNat : Int) := by omega
          clear hn h3
          go_wp2_with (go_at_call 72; go_in)
          go_ret2
          rw [HN.out]
          exact ⟨rfl, rfl⟩
        · have h4' : (s[i].toNat : Int) ≤ 63 := by omega
          have hst := nsz_step hn h1 hi h3 (by omega)
          by_cases h5 : 255 ≤ i + (1 + s[i].toNat)
          · have HN := Nm.hide (nsz_none hst (nsz_end (by omega)))
            have h5' : (255 : Int) ≤ (i : Int) + (1 + (s[i].toNat : Int)) := by omega
            clear hn h3 hst
            go_wp2_with (go_at_call 72; go_in)
            go_ret2
            rw [HN.out]
            exact ⟨rfl, rfl⟩
          · have HN := Nm.hide hst
            have h5' : (i : Int) + (1 + (s[i].toNat : Int)) < 255 := by omega
            clear hn h3 hst
            go_wp2_with (go_at_call 72; go_in)
            go_round
            case rel => exact ⟨i + (1 + s[i].toNat), by omega, by go_num, HN.out⟩
            case measure => simp [intOf]; omega
    · have HN := Nm.hide (nsz_none hn (nsz_end (by omega)))
      have h1' : (s.size : Int) ≤ (i : Int) := by omega
      clear hn
      go_wp2
      go_ret2
      rw [HN.out]
      exact ⟨rfl, rfl⟩
end Go.Proofs.Ytpahnhpeelaigaa
/- Numbers within bounds, by the contracts of the two tests. -/
namespace Go.Proofs.Ytpahnhpeelaigaa
open Go.RowKit
set_option linter.unusedVariables false

set_option maxRecDepth 100000 in
set_option maxHeartbeats 400000 in
theorem within_any (n m : Int) (w : World) : Calls Try.prog 57 #[.int .i64 n, .int .i64 m] w fun e w' => e = .returned (.bool (decide (0 ≤ n) && decide (n ≤ m))) ∧ w' = w := by
  by_cases h0 : 0 ≤ n
  · by_cases h1 : n ≤ m
    · have e : (decide (0 ≤ n) && decide (n ≤ m)) = true := by simp [h0, h1]
      rw [e]
      clear e
      go_enter Try.func57, Try.ntmps57
      go_wp2
      go_ret
      exact ⟨rfl, rfl⟩
    · have h1' : m < n := by omega
      have e : (decide (0 ≤ n) && decide (n ≤ m)) = false := by simp [h0, h1]
      rw [e]
      clear e
      go_enter Try.func57, Try.ntmps57
      go_wp2
      go_ret
      exact ⟨rfl, rfl⟩
  · have h0' : n < 0 := by omega
    have e : (decide (0 ≤ n) && decide (n ≤ m)) = false := by simp [h0]
    rw [e]
    clear e
    go_enter Try.func57, Try.ntmps57
    go_wp2
    go_ret
    exact ⟨rfl, rfl⟩

set_option maxRecDepth 100000 in
set_option maxHeartbeats 400000 in
theorem l04In_any (n m : Int) (w : World) : Calls Try.prog 29 #[.int .i64 n, .int .i64 m] w fun e w' => e = .returned (.bool (decide (0 ≤ n) && decide (n ≤ m))) ∧ w' = w := by
  by_cases h0 : 0 ≤ n
  · by_cases h1 : n ≤ m
    · have e : (decide (0 ≤ n) && decide (n ≤ m)) = true := by simp [h0, h1]
      rw [e]
      clear e
      go_enter Try.func29, Try.ntmps29
      go_wp2
      go_ret
      exact ⟨rfl, rfl⟩
    · have h1' : m < n := by omega
      have e : (decide (0 ≤ n) && decide (n ≤ m)) = false := by simp [h0, h1]
      rw [e]
      clear e
      go_enter Try.func29, Try.ntmps29
      go_wp2
      go_ret
      exact ⟨rfl, rfl⟩
  · have h0' : n < 0 := by omega
    have e : (decide (0 ≤ n) && decide (n ≤ m)) = false := by simp [h0]
    rw [e]
    clear e
    go_enter Try.func29, Try.ntmps29
    go_wp2
    go_ret
    exact ⟨rfl, rfl⟩
end Go.Proofs.Ytpahnhpeelaigaa
/- A record that lies in a block. -/
namespace Go.Proofs.Ytpahnhpeelaigaa
open Go.RowKit
set_option linter.unusedVariables false

/-- The five cells of a record that lies in a block. -/
def RB (w : World) (g : Nat) (r : Rr) : Prop := w.cell? ⟨g, 0, none⟩ = some (.string r.own) ∧ w.cell? ⟨g, 1, none⟩ = some (.int .i64 r.ty) ∧ w.cell? ⟨g, 2, none⟩ = some (.int .i64 r.cl) ∧ w.cell? ⟨g, 3, none⟩ = some (.int .i64 r.tt) ∧ w.cell? ⟨g, 4, none⟩ = some (.string r.da)
theorem RB.below {w W : World} {g : Nat} {r : Rr} (h : RB w g r) (hb : Below w.heap.size w W) : RB W g r := by
  obtain ⟨a, b, c, d, e⟩ := h
  have put : ∀ {O : Nat} {z : Value}, w.cell? ⟨g, O, none⟩ = some z → W.cell? ⟨g, O, none⟩ = some z := fun h => (hb.cell (World.block_lt_of_cell? w _ h)).trans h
  exact ⟨put a, put b, put c, put d, put e⟩
theorem RB.new (w : World) (r : Rr) (t : Nat) : RB (w.alloc (.cells #[.string r.own, .int .i64 r.ty, .int .i64 r.cl, .int .i64 r.tt, .string r.da] t)) w.heap.size r := by
  refine ⟨?_, ?_, ?_, ?_, ?_⟩ <;> simp
end Go.Proofs.Ytpahnhpeelaigaa
