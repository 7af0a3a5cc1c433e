import Derived.Test.YtoiajlgmnkoekaaTake1
import Derived.Test.YtoiajlgmnkoekaaBlocks
import Derived.Test.YtoiajlgmnkoekaaNameSz
/- The pieces of the program's forms, each by its contract. -/
namespace Go.Proofs.Ytoiajlgmnkoekaa
open Go.RowKit

/-- What a piece answers: its size, and whether it stands there. -/
def Took (p : Dt.Pc) (d : ByteArray) (w : World) (e : Ending) (w' : World) : Prop :=
  ∃ m : Nat, e = .returned (.tuple #[.int .i64 (m : Int), .bool (Dt.sz p d).isSome]) ∧ (∀ n, Dt.sz p d = some n → n = m) ∧ Below w.heap.size w w'

theorem took_none {p : Dt.Pc} {d : ByteArray} (h : Dt.sz p d = none) {w w' : World} (m : Nat) (hb : Below w.heap.size w w') : Took p d w (.returned (.tuple #[.int .i64 (m : Int), .bool false])) w' :=
  ⟨m, by rw [h]; rfl, (fun n hn => by rw [h] at hn; cases hn), hb⟩
theorem took_some {p : Dt.Pc} {d : ByteArray} {m : Nat} (h : Dt.sz p d = some m) {w w' : World} (hb : Below w.heap.size w w') : Took p d w (.returned (.tuple #[.int .i64 (m : Int), .bool true])) w' :=
  ⟨m, by rw [h]; rfl, (fun n hn => by rw [h] at hn; cases hn; rfl), hb⟩

theorem Took.no {p : Dt.Pc} {d : ByteArray} {w w' : World} {e : Ending} (h : Took p d w e w') (hq : Dt.sz p d = none) : ∃ m : Nat, e = .returned (.tuple #[.int .i64 (m : Int), .bool false]) ∧ Below w.heap.size w w' := by
  obtain ⟨m, he, _, hb⟩ := h
  rw [hq] at he
  exact ⟨m, he, hb⟩
theorem Took.yes {p : Dt.Pc} {d : ByteArray} {w w' : World} {e : Ending} {n : Nat} (h : Took p d w e w') (hq : Dt.sz p d = some n) : e = .returned (.tuple #[.int .i64 (n : Int), .bool true]) ∧ Below w.heap.size w w' := by
  obtain ⟨m, he, hm, hb⟩ := h
  obtain rfl := hm n hq
  rw [hq] at he
  exact ⟨he, hb⟩

set_option maxRecDepth 100000 in
set_option maxHeartbeats 400000 in
theorem takeName_any (d : ByteArray) (w : World) :
    Calls Try.prog 78 #[.agg #[], .string d] w (Took .nm d w) := by
  have hcall := nameSize_any d
  go_enter Try.func78, Try.ntmps78
  cases hq : Dt.sz .nm d with
  | none =>
    have HQ := Nm.hide hq
    rw [hq] at hcall
    simp only [szV, Option.getD_none, Option.isSome_none] at hcall
    clear hq
    go_wp2_with (go_at_call 29; refine (hcall _).mono ?_; rintro e w1 ⟨rfl, rfl⟩)
    go_ret2
    exact took_none HQ.out 0 ((Below.refl _ _).alloc (Nat.le_refl _) _)
  | some m =>
    have HQ := Nm.hide hq
    rw [hq] at hcall
    simp only [szV, Option.getD_some, Option.isSome_some] at hcall
    clear hq
    go_wp2_with (go_at_call 29; refine (hcall _).mono ?_; rintro e w1 ⟨rfl, rfl⟩)
    go_ret2
    exact took_some HQ.out ((Below.refl _ _).alloc (Nat.le_refl _) _)

set_option maxRecDepth 100000 in
set_option maxHeartbeats 400000 in
theorem takeBytes_any (n : Nat) (d : ByteArray) (w : World) :
    Calls Try.prog 77 #[.int .i64 (n : Int), .string d] w (Took (.bs n) d w) := by
  by_cases h : n ≤ d.size
  · have HQ : Hid (Dt.sz (.bs n) d = some n) := by show _ = _; rw [Dt.sz, if_pos h]
    have h' : (n : Int) ≤ (d.size : Int) := by omega
    go_enter Try.func77, Try.ntmps77
    go_wp2
    go_ret2
    exact took_some HQ.out (Below.refl _ _)
  · have HQ : Hid (Dt.sz (.bs n) d = none) := by show _ = _; rw [Dt.sz, if_neg h]
    have h' : (d.size : Int) < (n : Int) := by omega
    go_enter Try.func77, Try.ntmps77
    go_wp2
    go_ret2
    exact took_none HQ.out n (Below.refl _ _)

theorem tx_short {d : ByteArray} (h : 0 < d.size) (h1 : d.size < 1 + d[0].toNat) : Dt.sz .tx d = none := by
  have e : Dt.txtS d = ByteArray.empty := by rw [Dt.txtS, dif_pos h, if_neg (by omega)]
  rw [Dt.sz, e]; rfl
theorem tx_good {d : ByteArray} (h : 0 < d.size) (h1 : 1 + d[0].toNat ≤ d.size) : Dt.sz .tx d = some (1 + d[0].toNat) := by
  have e : Dt.txtS d = d.extract 0 (d[0].toNat + 1) := by rw [Dt.txtS, dif_pos h, if_pos (by omega)]
  have e1 : (Dt.txtS d).size = 1 + d[0].toNat := by rw [e]; simp; omega
  rw [Dt.sz, if_neg (by omega), e1]
theorem tx_none {d : ByteArray} (h : d.size = 0) : Dt.sz .tx d = none := by
  have e : Dt.txtS d = ByteArray.empty := by rw [Dt.txtS, dif_neg (by omega)]
  rw [Dt.sz, e]; rfl

set_option maxRecDepth 100000 in
set_option maxHeartbeats 400000 in
theorem takeText_any (d : ByteArray) (w : World) (hd : d.size ≤ 1000000000) :
    Calls Try.prog 80 #[.agg #[], .string d] w (Took .tx d w) := by
  by_cases h0 : d.size = 0
  · have HQ := Nm.hide (tx_none h0)
    obtain ⟨e1, e2⟩ := beq_empty h0
    clear h0
    go_enter Try.func80, Try.ntmps80
    go_wp2
    go_ret2
    exact took_none HQ.out 0 ((Below.refl _ _).alloc (Nat.le_refl _) _)
  · have hp : 0 < d.size := by omega
    have hp' : (0 : Int) < (d.size : Int) := by omega
    obtain ⟨e1, e2⟩ := not_empty hp
    have hc : (d[0].toNat : Int) < 256 := by have := d[0].toNat_lt; omega
    by_cases h1 : 1 + d[0].toNat ≤ d.size
    · have HQ := Nm.hide (tx_good hp h1)
      have h1' : (1 : Int) + (d[0].toNat : Int) ≤ (d.size : Int) := by omega
      clear h0
      go_enter Try.func80, Try.ntmps80
      go_wp2
      go_ret2
      exact took_some HQ.out ((Below.refl _ _).alloc (Nat.le_refl _) _)
    · have HQ := Nm.hide (tx_short hp (by omega))
      have h1' : (d.size : Int) < (1 : Int) + (d[0].toNat : Int) := by omega
      have h1b : decide ((1 : Int) + (d[0].toNat : Int) ≤ (d.size : Int)) = false := by simp; omega
      clear h0
      go_enter Try.func80, Try.ntmps80
      go_wp2
      go_ret2
      exact took_none HQ.out (1 + d[0].toNat) ((Below.refl _ _).alloc (Nat.le_refl _) _)

set_option maxRecDepth 100000 in
set_option maxHeartbeats 400000 in
theorem takeRest_any (d : ByteArray) (w : World) :
    Calls Try.prog 85 #[.agg #[], .string d] w (Took .rs d w) := by
  have HQ : Hid (Dt.sz .rs d = some d.size) := rfl
  go_enter Try.func85, Try.ntmps85
  go_wp2
  go_ret2
  exact took_some HQ.out ((Below.refl _ _).alloc (Nat.le_refl _) _)

set_option maxRecDepth 100000 in
set_option maxHeartbeats 400000 in
theorem takeMap_any (d : ByteArray) (w : World) (hd : d.size ≤ 2000000) :
    Calls Try.prog 86 #[.agg #[], .string d] w (Took .mp d w) := by
  have hcall := fun w => mapBlocks_any d w hd
  cases hM : mapS d with
  | true =>
    have HQ : Hid (Dt.sz .mp d = some d.size) := by show _ = _; rw [Dt.sz, hM]; rfl
    rw [hM] at hcall
    clear hM
    go_enter Try.func86, Try.ntmps86
    go_wp2_with (go_at_call 87; refine (hcall _).mono ?_; rintro e w1 ⟨v, rfl, _, hbel⟩; have HB : Hid (Below w.heap.size w w1) := Nm.below_two ((Below.refl _ _).alloc (Nat.le_refl _) _) hbel; clear hbel)
    go_ret2
    exact took_some HQ.out HB.out
  | false =>
    have HQ : Hid (Dt.sz .mp d = none) := by show _ = _; rw [Dt.sz, hM]; rfl
    rw [hM] at hcall
    clear hM
    go_enter Try.func86, Try.ntmps86
    go_wp2_with (go_at_call 87; refine (hcall _).mono ?_; rintro e w1 ⟨v, rfl, _, hbel⟩; have HB : Hid (Below w.heap.size w w1) := Nm.below_two ((Below.refl _ _).alloc (Nat.le_refl _) _) hbel; clear hbel)
    go_ret2
    exact took_none HQ.out _ HB.out
end Go.Proofs.Ytoiajlgmnkoekaa
