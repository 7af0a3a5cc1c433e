import Derived.Test.YtfficbpalibmoaaGreatDoorJMath
import Derived.Test.YtfficbpalibmoaaGreatDoorJDcM
import Derived.Test.YtfficbpalibmoaaGreatDoorRows
import Derived.WalkSpells
import Derived.WalkLawsBesides
import Derived.RegionTactic
import Derived.ChangeAlike
import Derived.BigRegion
import Derived.Test.YtfficbpalibmoaaGreatDoorJOwnT
import Derived.Test.YtfficbpalibmoaaGreatDoorJPiece
import Derived.Deep.RegionHeld
/- spec.l01Join by its contract. -/
namespace Go.Proofs.YtfficbpalibmoaaGreatDoor
open Go.RowKit

set_option maxRecDepth 100000 in
set_option maxHeartbeats 800000 in
theorem l01Join_any (v : Value) (ls : List ByteArray) (w : World) (h : Nm.SRow w v ls) (hlen : Nm.wsum ls ≤ 1000000000) :
    Calls Tryz.prog 61 #[v] w fun e w' => e = .returned (.string ⟨(Nm.joinL ls).toArray⟩) ∧ Below w.heap.size w w' := by
  obtain ⟨a, cap, rfl, hcap, hmx, hnl, hc⟩ := h
  have hll := Nm.length_le_wsum ls
  go_enter Tryz.func61, Tryz.ntmps61
  go_wp2
  go_loopw [3, 4] (fun t i wr => ∃ (k : Nat) (s : ByteArray), k ≤ ls.length ∧ i = .int .i64 k ∧ t = .string s ∧ Hid (s.data.toList = Nm.preL (ls.take k)) ∧ Below w.heap.size w wr)
    (fun _ i _ => ls.length - (intOf i).toNat)
  case atStart => exact ⟨0, _, Nat.zero_le _, rfl, rfl, rfl, Below.refl _ _⟩
  case round =>
    obtain ⟨k, s, hk, rfl, rfl, HS, hbel⟩ := hrel
    have hw := Nm.wsum_take_le ls k
    have hsz := hbel.size
    have hss : s.size = Nm.wsum (ls.take k) := by rw [← size_list, HS.out, Nm.preL_length]
    have hss' : s.size ≤ 1000000000 := by omega
    by_cases hlt : k < ls.length
    · obtain ⟨x, hx⟩ : ∃ x, ls[k]? = some x := ⟨_, List.getElem?_eq_getElem hlt⟩
      obtain ⟨b, off, rfl, hcell⟩ := hc (by intro h; rw [h] at hlt; simp at hlt)
      have hbk : b < wr.heap.size := Nat.lt_of_lt_of_le (World.block_lt_of_cell? w _ (hcell k x hx)) hsz
      have hcx : wr.cell? ⟨b, off + k, none⟩ = some (.string x) := (hbel.cell (World.block_lt_of_cell? w _ (hcell k x hx))).trans (hcell k x hx)
      have HP : Hid (Nm.preL (ls.take (k + 1)) = Nm.preL (ls.take k) ++ (UInt8.ofNat x.size :: x.data.toList)) := Nm.preL_step hx
      have hw1 : s.size + (1 + x.size) ≤ 1000000000 := by
        have h1 := Nm.wsum_step hx
        have h2 := Nm.wsum_take_le ls (k + 1)
        omega
      have hcv := fun n => conv_one_drew n wr
      clear hx hcell hc hnl hss hw
      go_wp2
      go_region
      all_goals
        go_wp2
        go_roundw
        case rel => exact ⟨k + 1, _, by omega, by go_num, rfl, by show _ = _; rw [HP.out, ← HS.out]; simp [byte_mod], (hbel.alloc hsz _).drew⟩
        case measure => simp [intOf]; omega
    · have hkl : k = ls.length := by omega
      subst hkl
      rw [List.take_length] at HS
      clear hc hnl hw hlt hss
      have hone : (ByteArray.mk #[0]).size = 1 := rfl
      go_wp2
      go_ret
      exact ⟨ret_str (ba_ext (by simp [Nm.joinL, HS.out])), hbel⟩
end Go.Proofs.YtfficbpalibmoaaGreatDoor
/- Keys: valid or not; the algorithm's name; by their contracts. -/
namespace Go.Proofs.YtfficbpalibmoaaGreatDoor
open Go.RowKit
set_option linter.unusedVariables false

def keyB (nm sc : ByteArray) : Bool := (Nm.split nm).isSome && (decide (1 ≤ sc.size) && decide (sc.size ≤ 64))

set_option maxRecDepth 100000 in
set_option maxHeartbeats 1600000 in
theorem isValid_any (nm sc : ByteArray) (w : World) (hn : nm.size ≤ maxLen) :
    Calls Tryz.prog 50 #[.agg #[.string nm, .string sc]] w fun e w' => e = .returned (.bool (keyB nm sc)) ∧ Below w.heap.size w w' := by
  have hno := fun W => implNameOK_any nm W hn
  clear hn
  have k0 := blk_new w #[.string nm, .string sc] 52
  have hB0 := (Below.refl w.heap.size w).alloc (Nat.le_refl _) (.cells #[.string nm, .string sc] 52)
  have HM : Hid (keyB nm sc = ((Nm.split nm).isSome && (decide (1 ≤ sc.size) && decide (sc.size ≤ 64)))) := rfl
  have q0 := blk_cell k0 0
  generalize keyB nm sc = M at *
  generalize (Nm.split nm).isSome = B at *
  cases B with
  | false =>
    obtain rfl : M = false := by rw [HM.out]; simp
    go_enter Tryz.func50, Tryz.ntmps50
    go_wp2_with (go_at_call 56; refine (hno _).mono ?_; rintro e w1 ⟨rfl, hb1⟩)
    go_ret
    exact ⟨rfl, Nm.below_two hB0 hb1⟩
  | true =>
    by_cases h1 : 1 ≤ sc.size
    · have h1' : (1 : Int) ≤ (sc.size : Int) := by omega
      have h1'' : (0 : Int) < (sc.size : Int) := by omega
      by_cases h2 : sc.size ≤ 64
      · have h2' : (sc.size : Int) ≤ 64 := by omega
        obtain rfl : M = true := by rw [HM.out]; simp [h1, h2]
        clear h1 h2
        go_enter Tryz.func50, Tryz.ntmps50
        go_wp2_with (go_at_call 56; refine (hno _).mono ?_; rintro e w1 ⟨rfl, hb1⟩; have q1 := (blk_cell (blk_below k0 hb1) 1).trans rfl)
        go_ret
        exact ⟨rfl, Nm.below_two hB0 hb1⟩
      · have h2' : ¬ (sc.size : Int) ≤ 64 := by omega
        have h2'' : decide ((sc.size : Int) ≤ 64) = false := by simpa using h2'
        obtain rfl : M = false := by rw [HM.out]; simp [h2]
        clear h1 h2
        go_enter Tryz.func50, Tryz.ntmps50
        go_wp2_with (go_at_call 56; refine (hno _).mono ?_; rintro e w1 ⟨rfl, hb1⟩; have q1 := (blk_cell (blk_below k0 hb1) 1).trans rfl)
        go_ret
        exact ⟨rfl, Nm.below_two hB0 hb1⟩
    · have h1' : ¬ (1 : Int) ≤ (sc.size : Int) := by omega
      have h1'' : ¬ (0 : Int) < (sc.size : Int) := by omega
      obtain rfl : M = false := by rw [HM.out]; simp [h1]
      clear h1
      go_enter Tryz.func50, Tryz.ntmps50
      go_wp2_with (go_at_call 56; refine (hno _).mono ?_; rintro e w1 ⟨rfl, hb1⟩; have q1 := (blk_cell (blk_below k0 hb1) 1).trans rfl)
      go_ret
      exact ⟨rfl, Nm.below_two hB0 hb1⟩

set_option maxRecDepth 100000 in
set_option maxHeartbeats 1600000 in
theorem l09KeyOK_any (nm sc : ByteArray) (w : World) (hn : nm.size ≤ maxLen) :
    Calls Tryz.prog 20 #[.agg #[.string nm, .string sc]] w fun e w' => e = .returned (.bool (keyB nm sc)) ∧ Below w.heap.size w w' := by
  have hno := fun W => specNameOK_any nm W hn
  clear hn
  have k0 := blk_new w #[.string nm, .string sc] 52
  have hB0 := (Below.refl w.heap.size w).alloc (Nat.le_refl _) (.cells #[.string nm, .string sc] 52)
  have HM : Hid (keyB nm sc = ((Nm.split nm).isSome && (decide (1 ≤ sc.size) && decide (sc.size ≤ 64)))) := rfl
  have q0 := blk_cell k0 0
  generalize keyB nm sc = M at *
  generalize (Nm.split nm).isSome = B at *
  cases B with
  | false =>
    obtain rfl : M = false := by rw [HM.out]; simp
    go_enter Tryz.func20, Tryz.ntmps20
    go_wp2_with (go_at_call 41; refine (hno _).mono ?_; rintro e w1 ⟨rfl, hb1⟩)
    go_ret
    exact ⟨rfl, Nm.below_two hB0 hb1⟩
  | true =>
    by_cases h1 : 1 ≤ sc.size
    · have h1' : (1 : Int) ≤ (sc.size : Int) := by omega
      have h1'' : (0 : Int) < (sc.size : Int) := by omega
      by_cases h2 : sc.size ≤ 64
      · have h2' : (sc.size : Int) ≤ 64 := by omega
        obtain rfl : M = true := by rw [HM.out]; simp [h1, h2]
        clear h1 h2
        go_enter Tryz.func20, Tryz.ntmps20
        go_wp2_with (go_at_call 41; refine (hno _).mono ?_; rintro e w1 ⟨rfl, hb1⟩; have q1 := (blk_cell (blk_below k0 hb1) 1).trans rfl)
        go_ret
        exact ⟨rfl, Nm.below_two hB0 hb1⟩
      · have h2' : ¬ (sc.size : Int) ≤ 64 := by omega
        have h2'' : decide ((sc.size : Int) ≤ 64) = false := by simpa using h2'
        obtain rfl : M = false := by rw [HM.out]; simp [h2]
        clear h1 h2
        go_enter Tryz.func20, Tryz.ntmps20
        go_wp2_with (go_at_call 41; refine (hno _).mono ?_; rintro e w1 ⟨rfl, hb1⟩; have q1 := (blk_cell (blk_below k0 hb1) 1).trans rfl)
        go_ret
        exact ⟨rfl, Nm.below_two hB0 hb1⟩
    · have h1' : ¬ (1 : Int) ≤ (sc.size : Int) := by omega
      have h1'' : ¬ (0 : Int) < (sc.size : Int) := by omega
      obtain rfl : M = false := by rw [HM.out]; simp [h1]
      clear h1
      go_enter Tryz.func20, Tryz.ntmps20
      go_wp2_with (go_at_call 41; refine (hno _).mono ?_; rintro e w1 ⟨rfl, hb1⟩; have q1 := (blk_cell (blk_below k0 hb1) 1).trans rfl)
      go_ret
      exact ⟨rfl, Nm.below_two hB0 hb1⟩

set_option maxRecDepth 100000 in
set_option maxHeartbeats 1600000 in
theorem l09Alg_any (w : World) : Calls Tryz.prog 43 #[] w fun e w' => e = .returned (.string ⟨algL.toArray⟩) ∧ Below w.heap.size w w' := by
  have hB0 := (Below.refl w.heap.size w).alloc (Nat.le_refl _) (.cells #[.string ⟨#[104, 109, 97, 99, 45, 115, 104, 97, 50, 53, 54]⟩] 9)
  have ho := World.ownsRow_lit (base := w.heap.size) (e := 9) (size := 1) w #[.string ⟨#[104, 109, 97, 99, 45, 115, 104, 97, 50, 53, 54]⟩] 1 (Nat.le_refl _) (by decide) rfl
  have hj := l01Join_any (.slice (some ⟨w.heap.size, 0, none⟩) 1 1) [⟨#[104, 109, 97, 99, 45, 115, 104, 97, 50, 53, 54]⟩] _ (Nm.SRow.of_owns ho) (by decide)
  have e : Nm.joinL [⟨#[104, 109, 97, 99, 45, 115, 104, 97, 50, 53, 54]⟩] = algL := by decide
  rw [e] at hj
  go_enter Tryz.func43, Tryz.ntmps43
  go_wp2_with fail
  refine hj.mono ?_
  rintro e w1 ⟨rfl, hb1⟩
  go_wp2
  go_ret
  exact ⟨rfl, Nm.below_two hB0 hb1⟩
end Go.Proofs.YtfficbpalibmoaaGreatDoor
/- A row of keys; impl.validKeys by its contract. -/
namespace Go.Proofs.YtfficbpalibmoaaGreatDoor
open Go.RowKit
set_option linter.unusedVariables false

/-- the cells of a row of keys -/
def kyVs (xs : List (ByteArray × ByteArray)) : List Value := xs.flatMap fun k => [.string k.1, .string k.2]
theorem kyVs_len (xs : List (ByteArray × ByteArray)) : (kyVs xs).length = xs.length * 2 := by
  induction xs with
  | nil => rfl
  | cons x xs ih =>
    have e : kyVs (x :: xs) = [.string x.1, .string x.2] ++ kyVs xs := by simp [kyVs]
    rw [e, List.length_append, ih]
    simp
    omega
theorem kyVs_at : ∀ (xs : List (ByteArray × ByteArray)) (k j : Nat) (x : ByteArray × ByteArray), xs[k]? = some x → j < 2 → (kyVs xs)[k * 2 + j]? = [Value.string x.1, .string x.2][j]? := by
  intro xs
  induction xs with
  | nil => intro k j x h; simp at h
  | cons y xs ih =>
    intro k j x h hj
    have e : kyVs (y :: xs) = [.string y.1, .string y.2] ++ kyVs xs := by simp [kyVs]
    cases k with
    | zero =>
      simp at h; subst h
      rw [e, Nat.zero_mul, Nat.zero_add, List.getElem?_append_left (by simpa using hj)]
    | succ k =>
      simp at h
      rw [e, List.getElem?_append_right (by simp; omega), show (k + 1) * 2 + j - [Value.string y.1, .string y.2].length = k * 2 + j by simp; omega]
      exact ih k j x h hj
theorem ky_all {xs : List (ByteArray × ByteArray)} {k : Nat} {x : ByteArray × ByteArray} (h : xs[k]? = some x) : (xs.take (k + 1)).all (fun p => keyB p.1 p.2) = ((xs.take k).all (fun p => keyB p.1 p.2) && keyB x.1 x.2) := by
  rw [List.take_add_one, h]
  simp

set_option maxRecDepth 100000 in
set_option maxHeartbeats 1600000 in
theorem validKeys_any (v : Value) (xs : List (ByteArray × ByteArray)) (w : World) (h : CRow w v xs.length 2 (kyVs xs)) (hx : ∀ x ∈ xs, x.1.size ≤ maxLen) :
    Calls Tryz.prog 28 #[v] w fun e w' => e = .returned (.bool (xs.all (fun p => keyB p.1 p.2) && decide (xs.length ≤ 8))) ∧ Below w.heap.size w w' := by
  obtain ⟨_, a, cap, rfl, hcap, hmx, hc⟩ := h
  unfold maxLen at hmx
  have hs := fun (x : ByteArray × ByteArray) (hr : x ∈ xs) W => isValid_any x.1 x.2 W (hx x hr)
  obtain ⟨RES, HRES⟩ : ∃ R, Hid (R = (xs.all (fun p => keyB p.1 p.2) && decide (xs.length ≤ 8))) := ⟨_, rfl⟩
  rw [← HRES.out]
  clear hx
  go_enter Tryz.func28, Tryz.ntmps28
  go_wp2
  go_loopw [7] (fun i wr => ∃ k : Nat, k ≤ xs.length ∧ i = .int .i64 k ∧ Hid ((xs.take k).all (fun p => keyB p.1 p.2) = true) ∧ Below w.heap.size w wr) (fun i _ => xs.length - (intOf i).toNat)
  case atStart => exact ⟨0, Nat.zero_le _, rfl, by show _ = _; simp, Below.refl _ _⟩
  case round =>
    obtain ⟨k, hk, rfl, HA, hbel⟩ := hrel
    by_cases hlt : k < xs.length
    · obtain ⟨x, hxk⟩ : ∃ x, xs[k]? = some x := ⟨_, List.getElem?_eq_getElem hlt⟩
      obtain ⟨b, off, rfl, hcell⟩ := hc (by omega)
      have put : ∀ {O : Nat} {z : Value}, w.cell? ⟨b, O, none⟩ = some z → wr.cell? ⟨b, O, none⟩ = some z := fun h => (hbel.cell (World.block_lt_of_cell? w _ h)).trans h
      have c0 : wr.cell? ⟨b, off + k * 2, none⟩ = some (.string x.1) := put (hcell _ _ (kyVs_at xs k 0 x hxk (by decide)))
      have c1 : wr.cell? ⟨b, off + k * 2 + 1, none⟩ = some (.string x.2) := put (hcell _ _ (kyVs_at xs k 1 x hxk (by decide)))
      have hmem := List.mem_of_getElem? hxk
      have hone := fun W => hs x hmem W
      have i1 : (0 : Int) ≤ (k : Int) := by omega
      have i2 : (k : Int) < (xs.length : Int) := by omega
      have hB0 := (Below.refl wr.heap.size wr).alloc (Nat.le_refl _) (.cells #[.string x.1, .string x.2] 52)
      cases hok : keyB x.1 x.2 with
      | true =>
        have HA2 : Hid ((xs.take (k + 1)).all (fun p => keyB p.1 p.2) = true) := by show _ = _; rw [ky_all hxk, HA.out, hok]; rfl
        rw [hok] at hone
        clear hs hok hmem hxk hcell hc
        obtain ⟨x1, x2⟩ := x
        simp only at *
        go_wp2_with fail
        refine (hone _).mono ?_
        rintro e w1 ⟨rfl, hb1⟩
        go_wp2
        go_roundw
        case rel => exact ⟨k + 1, by omega, by go_num, HA2, Nm.below_two (Nm.below_two hbel hB0) hb1⟩
        case measure => simp [intOf]; omega
      | false =>
        obtain rfl : RES = false := by
          rw [HRES.out]
          have : xs.all (fun p => keyB p.1 p.2) = false := by rw [List.all_eq_false]; exact ⟨x, hmem, by simp [hok]⟩
          rw [this]; rfl
        rw [hok] at hone
        clear hs hok hmem hxk hcell hc HRES
        obtain ⟨x1, x2⟩ := x
        simp only at *
        go_wp2_with fail
        refine (hone _).mono ?_
        rintro e w1 ⟨rfl, hb1⟩
        go_wp2
        go_ret
        exact ⟨rfl, Nm.below_two (Nm.below_two hbel hB0) hb1⟩
    · have hkl : k = xs.length := by omega
      subst hkl
      have HT := HA.out
      rw [List.take_length] at HT
      obtain rfl : RES = decide ((xs.length : Int) ≤ 8) := by rw [HRES.out, HT, Bool.true_and]; simp; omega
      clear hs HT HA hc HRES
      have i2 : ¬ (xs.length : Int) < (xs.length : Int) := by omega
      go_wp2
      go_ret
      exact ⟨rfl, hbel⟩
end Go.Proofs.YtfficbpalibmoaaGreatDoor
/- What Verify answers: mathematics. -/
namespace Go.Proofs.YtfficbpalibmoaaGreatDoor
open Go.RowKit
set_option linter.unusedVariables false

/-- A record of the type of signatures. -/
def vTs (r : Rm) : Bool := decide (r.ty = 250)
def strayB (m : Mm) : Bool := m.an.any vTs || (m.au.any vTs || m.ex.dropLast.any vTs)
/-- A record that is a signature, but for its type. -/
def datB (r : Rm) : Bool := decide (r.cl = 255) && (decide (r.ttl = 0) && (decide (r.dat.length = 61) && (decide ((r.dat.take 13).map Nm.low = algL) && (decide ((r.dat.drop 21).take 2 = [0, 32]) && decide (r.dat.drop 57 = [0, 0, 0, 0])))))
/-- The verdict. -/
structure Vd where
  code : Int
  signed : Bool
  key : Int
  sum : List UInt8
  body : List UInt8
def vd0 : Vd := ⟨32, false, 0, [], []⟩
def vdU (l : List UInt8) : Vd := ⟨0, false, -1, [], l⟩
/-- The message without its signature, which began at a place. -/
def bodyL (l : List UInt8) (r : Rm) (n q : Nat) : List UInt8 := (r.dat.drop 55).take 2 ++ (l.drop 2).take 8 ++ bigL (n - 1) 2 ++ (l.take q).drop 12
def keyAt (ks : List (ByteArray × ByteArray)) (o : ByteArray) : Option Nat := ks.findIdx? (fun k => sameS k.1 o)
def lateN (t f : Nat) (now : Int) : Bool := decide ((f : Int) < now - (t : Int)) || decide ((f : Int) < (t : Int) - now)
/-- The code of a signature by a key. -/
def codeV (k : ByteArray × ByteArray) (body d : List UInt8) (now : Int) (rq : ByteArray) : Int :=
  if sumL k.2.data.toList rq.data.toList body (Nm.foldS k.1).data.toList (sT d) (sF d) = sS d then (if lateN (sT d) (sF d) now then 31 else 0) else 30
def vdS (ks : List (ByteArray × ByteArray)) (r : Rm) (body : List UInt8) (now : Int) (rq : ByteArray) : Vd :=
  match keyAt ks ⟨r.owner.toArray⟩ with
  | none => ⟨29, true, -1, sS r.dat, body⟩
  | some i => ⟨codeV (ks.getD i (ByteArray.empty, ByteArray.empty)) body r.dat now rq, true, (i : Int), sS r.dat, body⟩
/-- Where the last record begins. -/
def lastP (l : List UInt8) : Nat := match manyS (quS l) (n16 l 4) 12 [] with
  | .inl _ => 0
  | .inr (_, p1) => match manyS (rrS l) (n16 l 6 + n16 l 8 + n16 l 10 - 1) p1 [] with
    | .inl _ => 0
    | .inr (_, q) => q
def vPre (ks : List (ByteArray × ByteArray)) (now : Int) (rq : ByteArray) : Bool := decide (ks.length ≤ 8) && (decide (0 ≤ now) && (decide (now ≤ 281474976710655) && (decide (rq.size ≤ 32) && ks.all (fun p => keyB p.1 p.2))))
/-- Of a message that was read. -/
def verM (l : List UInt8) (m : Mm) (ks : List (ByteArray × ByteArray)) (now : Int) (rq : ByteArray) : Vd :=
  if strayB m then vd0 else match m.ex.getLast? with
    | none => vdU l
    | some r => if vTs r then (if datB r then vdS ks r (bodyL l r m.ex.length (lastP l)) now rq else vd0) else vdU l
def verL (l : List UInt8) (ks : List (ByteArray × ByteArray)) (now : Int) (rq : ByteArray) : Vd :=
  match msgS l with
  | .inl _ => vd0
  | .inr (m, _) => if vPre ks now rq then verM l m ks now rq else vd0

theorem manyN_len {α : Type} (f : Nat → Rs α) : ∀ (n p : Nat) (acc : List α) {ys : List α} {q : Nat}, manyS f n p acc = .ok ys q → ys.length = acc.length + n := by
  intro n
  induction n with
  | zero => intro p acc ys q h; rw [manyS] at h; cases h; rfl
  | succ n ih =>
    intro p acc ys q h
    rw [manyS] at h
    cases hf : f p using Rs.elim with
    | bad c => rw [hf] at h; cases h
    | ok y r =>
      rw [hf] at h
      have := ih r _ h
      rw [this]
      simp
      omega
theorem msgS_lens {l : List UInt8} {m : Mm} {p : Nat} (h : msgS l = .ok m p) : m.an.length = n16 l 6 ∧ m.au.length = n16 l 8 ∧ m.ex.length = n16 l 10 ∧ 12 ≤ l.length ∧ l.length ≤ 65535 ∧ n16 l 4 + n16 l 6 + n16 l 8 + n16 l 10 ≤ 400 := by
  rw [msgS] at h
  split at h
  · cases h
  · split at h
    · cases h
    · split at h
      · cases h
      · rw [listsS] at h
        cases h1 : manyS (quS l) (n16 l 4) 12 [] using Rs.elim with
        | bad c => rw [h1] at h; cases h
        | ok qs p1 =>
          rw [h1] at h
          simp only at h
          cases h2 : manyS (rrS l) (n16 l 6) p1 [] using Rs.elim with
          | bad c => rw [h2] at h; cases h
          | ok an p2 =>
            rw [h2] at h
            simp only at h
            cases h3 : manyS (rrS l) (n16 l 8) p2 [] using Rs.elim with
            | bad c => rw [h3] at h; cases h
            | ok au p3 =>
              rw [h3] at h
              simp only at h
              cases h4 : manyS (rrS l) (n16 l 10) p3 [] using Rs.elim with
              | bad c => rw [h4] at h; cases h
              | ok ex p4 =>
                rw [h4] at h
                simp only at h
                split at h
                · cases h
                · cases h
                  have e2 := manyN_len _ _ _ _ h2
                  have e3 := manyN_len _ _ _ _ h3
                  have e4 := manyN_len _ _ _ _ h4
                  simp only [List.length_nil, Nat.zero_add] at e2 e3 e4
                  exact ⟨e2, e3, e4, by omega, by omega, by omega⟩
/-- The place that the model's reading tells. -/
theorem last_is {l : List UInt8} {m : Mm} {p : Nat} {n : Int} (h : msgS l = .ok m p) (hL : LastOK l m n) (hx : 0 < m.ex.length) : n = (lastP l : Int) ∧ ∃ (qs : List Qm) (P1 : Nat) (xs : List Rm), manyS (quS l) (n16 l 4) 12 [] = .ok qs P1 ∧ manyS (rrS l) (n16 l 6 + n16 l 8 + n16 l 10 - 1) P1 [] = .ok xs (lastP l) := by
  obtain ⟨e1, e2, e3, _⟩ := msgS_lens h
  obtain ⟨qs, P1, pos, hq, hI⟩ := hL
  have hlen : (allR m).length = n16 l 6 + n16 l 8 + n16 l 10 := by simp [allR]; omega
  obtain ⟨q, xs, rfl, hm⟩ := hI.2 (by omega)
  rw [hlen] at hm
  have : lastP l = q := by rw [lastP, hq]; simp only; rw [hm]
  rw [this]
  exact ⟨rfl, qs, P1, xs, hq, hm⟩

theorem any_step {α : Type} {p : α → Bool} {xs : List α} {k : Nat} {x : α} (h : xs[k]? = some x) : (xs.take (k + 1)).any p = ((xs.take k).any p || p x) := by
  rw [List.take_add_one, h]
  simp
theorem any_at {α : Type} {p : α → Bool} {xs : List α} {k : Nat} {x : α} (h : xs[k]? = some x) (hp : p x = true) : xs.any p = true := by
  rw [List.any_eq_true]
  exact ⟨x, List.mem_of_getElem? h, hp⟩
end Go.Proofs.YtfficbpalibmoaaGreatDoor
/- A region whose last operation, a store, may break what is held: everything else waits for nothing of it. -/
namespace Go.Proofs.YtfficbpalibmoaaGreatDoor
open Go

section
variable {P : Program} {ops : Array Oper} {Q : Exit → Act → World → Prop} {md : Region.Mode} {S : World → Prop} {L : Nat}

/-- Whatever order is picked from here on, and S holds behind every operation but number L. -/
def wpAnyL (P : Program) (md : Region.Mode) (ops : Array Oper) (Q : Exit → Act → World → Prop) (S : World → Prop) (L : Nat) : Nat → Array Bool → Act → World → Prop
  | 0, listed, a, w => Region.ready md ops listed = [] ∧ Q .normal a w
  | fuel + 1, listed, a, w =>
    (Region.ready md ops listed = [] → Q .normal a w) ∧
    ∀ i ∈ Region.ready md ops listed, wpOp P ops Q i (fun a' w' => (i = L ∨ S w') ∧ wpAnyL P md ops Q S L fuel (listed.setIfInBounds i true) a' w') a w

theorem wpAny_of_last : ∀ (fuel : Nat) (listed : Array Bool) (a : Act) (w : World), wpAnyL P md ops Q S L fuel listed a w → wpAny P md ops Q fuel listed a w
  | 0, _, _, _, h => h
  | fuel + 1, _, _, _, h => ⟨h.1, fun i hi => wpOp_mono (fun a' w' h' => wpAny_of_last fuel _ a' w' h'.2) (h.2 i hi)⟩

/-- Number L waits for number i. -/
def waitsFor (md : Region.Mode) (ops : Array Oper) (L i : Nat) : Bool := match ops[L]? with
  | some o => o.after.any (fun e => Region.binds md e && e.on == i)
  | none => true

/-- Of two that may come up neither waits for the other. -/
theorem ready_free {listed : Array Bool} {i j : Nat} {oj : Oper} (hi : i ∈ Region.ready md ops listed) (hj : j ∈ Region.ready md ops listed) (ho : ops[j]? = some oj) : ∀ e ∈ oj.after, Region.binds md e = true → e.on ≠ i := by
  rintro e he hb rfl
  obtain ⟨_, o, ho2, hall⟩ := mem_ready.1 hj
  obtain rfl : oj = o := Option.some.inj (ho.symm.trans ho2)
  have h1 := hall e he hb
  have h0 := (mem_ready.1 hi).1
  rw [Array.getD_eq_getD_getElem?] at h0 h1
  cases hx : listed[e.on]? with
  | none => rw [hx] at h1; cases h1
  | some b => rw [hx] at h0 h1; simp only [Option.getD_some] at h0 h1; rw [h0] at h1; cases h1

/-- So number L does not come up ahead of what it waits for. -/
theorem last_waits {listed : Array Bool} {i j : Nat} (hL : waitsFor md ops L i = true) (hi : i ∈ Region.ready md ops listed) (hj : j ∈ Region.ready md ops listed) : j ≠ L := by
  rintro rfl
  obtain ⟨_, o, ho, _⟩ := mem_ready.1 hj
  rw [waitsFor, ho] at hL
  simp only [Array.any_eq_true', Bool.and_eq_true, beq_iff_eq] at hL
  obtain ⟨e, he, hb, h⟩ := hL
  exact ready_free hi hj ho e he hb h

/-- What nobody touches that may come ahead of it. -/
def Untouched (md : Region.Mode) (ops : Array Oper) (oi : Oper) (i : Nat) (listed : Array Bool) : Prop := ∀ j oj, ops[j]? = some oj → j ≠ i → listed.getD j true = false → (∀ e ∈ oj.after, Region.binds md e = true → e.on ≠ i) → oi.apart ops oj = true

theorem Untouched.more {oi : Oper} {i j : Nat} {listed : Array Bool} (h : Untouched md ops oi i listed) (hj : listed.getD j true = false) : Untouched md ops oi i (listed.setIfInBounds j true) := by
  intro k ok hk hki hun
  refine h k ok hk hki ?_
  rcases Nat.decEq j k with hne | rfl
  · rw [getD_set_ne true hne] at hun; exact hun
  · exact hj

theorem wpAnyL_first {i : Nat} {oi : Oper} {v : Value} (hi : ops[i]? = some oi) (hsel : ∀ (j : Nat) (o : Oper) cs b, ops[j]? = some o → o.op ≠ .select cs b)
    (hQ : ∀ c a w, Q (.panic c) (a.put oi.dst v) w → Q (.panic c) a w) (hL : waitsFor md ops L i = true) (fuel : Nat) :
    ∀ (listed : Array Bool) (a : Act) (w : World), Untouched md ops oi i listed → i ∈ Region.ready md ops listed → YieldsIf P ops S oi v a → S w →
      wpAnyL P md ops Q S L fuel (listed.setIfInBounds i true) (a.put oi.dst v) w → wpAnyL P md ops Q S L (fuel + 1) listed a w := by
  induction fuel with
  | zero =>
    intro listed a w _ hr hy hS H
    refine ⟨fun h => absurd (h ▸ hr) (by simp), fun j hj => ?_⟩
    rcases Nat.decEq j i with hne | rfl
    · exact absurd (H.1 ▸ ready_mono hj hne) (by simp)
    · exact hy.wpOp hi hS ⟨.inr hS, H⟩
  | succ fuel ih =>
    intro listed a w hun hr hy hS H
    refine ⟨fun h => absurd (h ▸ hr) (by simp), fun j hj => ?_⟩
    rcases Nat.decEq j i with hne | rfl
    · obtain ⟨hju, oj, hoj, _⟩ := mem_ready.1 hj
      have hstep := wpOp_putIf hoj (hun j oj hoj hne hju (ready_free hr hj hoj)) (fun cs b => hsel i oi cs b hi) (fun cs b => hsel j oj cs b hoj) hQ hy (H.2 j (ready_mono hj hne))
      refine wpOp_mono (fun a' w' ⟨hy', hS', hW⟩ => ?_) hstep
      have hSw := hS'.resolve_left (last_waits hL hr hj)
      exact ⟨.inr hSw, ih _ a' w' (hun.more hju) (ready_mono hr (Ne.symm hne)) hy' hSw (by rw [Array.setIfInBounds_comm _ _ hne]; exact hW)⟩
    · exact hy.wpOp hi hS ⟨.inr hS, H⟩

/-- Take number i first. -/
theorem wpAnyL_take {i : Nat} {oi : Oper} {v : Value} {fuel : Nat} {listed : Array Bool} {a : Act} {w : World} (hi : ops[i]? = some oi)
    (hs : Region.noSelect ops = true) (hf : Region.free md ops listed i = true) (hr : (Region.ready md ops listed).contains i = true) (hL : waitsFor md ops L i = true)
    (hQ : ∀ c a w, Q (.panic c) (a.put oi.dst v) w → Q (.panic c) a w) (hy : YieldsIf P ops S oi v a) (hS : S w)
    (h : wpAnyL P md ops Q S L fuel (listed.setIfInBounds i true) (a.put oi.dst v) w) : wpAnyL P md ops Q S L (fuel + 1) listed a w :=
  wpAnyL_first hi (Region.noSelect_spec hs) hQ hL fuel listed a w (Region.free_spec hi hf) (by simpa using hr) hy hS h

/-- Just one may come up, and it is not number L. -/
theorem wpAnyL_one {i : Nat} {o : Oper} {fuel : Nat} {listed : Array Bool} {a : Act} {w : World} (hr : Region.ready md ops listed = [i]) (ho : ops[i]? = some o)
    (h : ∀ K' : Act → World → Prop, Shut (∀ a w, S w → (S w → wpAnyL P md ops Q S L fuel (listed.setIfInBounds i true) a w) → K' a w) → if Region.wanted o (yielded ops a.tmps) = true then Oper.wp P o a w K' Q else K' (a.put o.dst undef) w) :
    wpAnyL P md ops Q S L (fuel + 1) listed a w := by
  refine ⟨fun h0 => (by rw [hr] at h0; cases h0), fun j hj => ?_⟩
  rw [hr] at hj
  obtain rfl : j = i := by simpa using hj
  exact wpOp_step ho (fun K' hK => h K' (fun a w hS hW => hK a w ⟨.inr hS, hW hS⟩))

/-- Number L comes up, the last of all. -/
theorem wpAnyL_end {o : Oper} {fuel : Nat} {listed : Array Bool} {a : Act} {w : World} (hr : Region.ready md ops listed = [L]) (ho : ops[L]? = some o) (he : Region.ready md ops (listed.setIfInBounds L true) = [])
    (h : ∀ K' : Act → World → Prop, Shut (∀ a w, Q .normal a w → K' a w) → if Region.wanted o (yielded ops a.tmps) = true then Oper.wp P o a w K' Q else K' (a.put o.dst undef) w) :
    wpAnyL P md ops Q S L (fuel + 1) listed a w := by
  refine ⟨fun h0 => (by rw [hr] at h0; cases h0), fun j hj => ?_⟩
  rw [hr] at hj
  obtain rfl : j = L := by simpa using hj
  refine wpOp_step ho (fun K' hK => h K' (fun a w hq => hK a w ⟨.inl rfl, ?_⟩))
  cases fuel with
  | zero => exact ⟨he, hq⟩
  | succ n => exact ⟨fun _ => hq, by rw [he]; intro i hi; cases hi⟩

theorem wp_region_last {id : Nat} {a : Act} {w : World} (S : World → Prop) (L : Nat) (hm : P.follows .mixedOrders = true) (hS : S w.drew)
    (h : S w.drew → wpAnyL P .any ops Q S L ops.size (Array.replicate ops.size false) a w.drew) : (Code.region id ops true).wp P Q a w :=
  wp_region_any hm (wpAny_of_last _ _ _ _ (h hS))
end
end Go.Proofs.YtfficbpalibmoaaGreatDoor
/- A region in whatever order: its end; two at once. -/
namespace Go.Proofs.YtfficbpalibmoaaGreatDoor
open Go

section
variable {P : Program} {ops : Array Oper} {Q : Exit → Act → World → Prop} {md : Region.Mode} {S : World → Prop} {L : Nat}

/-- All have come up. -/
theorem wpAnyL_done {fuel : Nat} {listed : Array Bool} {a : Act} {w : World} (hr : Region.ready md ops listed = []) (hq : Q .normal a w) : wpAnyL P md ops Q S L fuel listed a w := by
  cases fuel with
  | zero => exact ⟨hr, hq⟩
  | succ n => exact ⟨fun _ => hq, by rw [hr]; intro i hi; cases hi⟩

/-- Just two may come up. -/
theorem wpAnyL_two {i j : Nat} {o o' : Oper} {fuel : Nat} {listed : Array Bool} {a : Act} {w : World} (hr : Region.ready md ops listed = [i, j]) (ho : ops[i]? = some o) (ho' : ops[j]? = some o')
    (h : ∀ K' : Act → World → Prop, Shut (∀ a w, S w → (S w → wpAnyL P md ops Q S L fuel (listed.setIfInBounds i true) a w) → K' a w) → if Region.wanted o (yielded ops a.tmps) = true then Oper.wp P o a w K' Q else K' (a.put o.dst undef) w)
    (h' : ∀ K' : Act → World → Prop, Shut (∀ a w, S w → (S w → wpAnyL P md ops Q S L fuel (listed.setIfInBounds j true) a w) → K' a w) → if Region.wanted o' (yielded ops a.tmps) = true then Oper.wp P o' a w K' Q else K' (a.put o'.dst undef) w) :
    wpAnyL P md ops Q S L (fuel + 1) listed a w := by
  refine ⟨fun h0 => (by rw [hr] at h0; cases h0), fun k hk => ?_⟩
  rw [hr] at hk
  rcases (show k = i ∨ k = j by simpa using hk) with rfl | rfl
  · exact wpOp_step ho (fun K' hK => h K' (fun a w hS hW => hK a w ⟨.inr hS, hW hS⟩))
  · exact wpOp_step ho' (fun K' hK => h' K' (fun a w hS hW => hK a w ⟨.inr hS, hW hS⟩))

end
end Go.Proofs.YtfficbpalibmoaaGreatDoor
