import Derived.Test.YtfficbpalibmoaaGreatDoorJMath
import Derived.Test.YtfficbpalibmoaaGreatDoorJOwnT
import Derived.Deep.AppendSrc
import Derived.Lib.AppendZerosOnto
import Derived.Test.YtfficbpalibmoaaGreatDoorJSgR
import Derived.Test.YtfficbpalibmoaaGreatDoorJIWo
import Derived.Test.YtfficbpalibmoaaGreatDoorRows
import Derived.WalkSpells
import Derived.WalkLawsBesides
/- slices.Grow and slices.Concat of bytes, by their contracts. -/
namespace Go.Proofs.YtfficbpalibmoaaGreatDoor
open Go.RowKit
set_option linter.unusedVariables false

theorem wpList_app_ran {P : Program} {ops : Array Oper} {rest : List Oper} {o : Oper} {a : Act} {w : World} {Q : Exit → Act → World → Prop} (hgd : o.guard = none) (s x : Operand) (t t2 : TypeId)
    (ho : o.op = .call { callee := .builtin .append, args := #[s, x], argTypes := #[t, t2] }) (v u v' : Value) (w' : World) (hs : a.eval s = v) (hx : a.eval x = u)
    (hr : (Builtin.append_ #[t, t2] o.type #[v, u]).run P w = .ok v' w') (h : wpList P ops Q rest (a.put o.dst v') w') : wpList P ops Q (o :: rest) a w :=
  wpList_plain hgd fun _ hK => by
    unfold Oper.wp execOp
    simp only [ho, resolve, invoke, builtin, Sem.run_bind, Sem.run_pure, Result.andThen_ok, List.map_toArray, List.map_cons, List.map_nil, hs, hx, hr]
    exact hK _ _ h

theorem bys_ones (l : List UInt8) : ∀ u ∈ Nm.bys l, u.oneCell' = true := by
  intro u hu
  rw [Nm.bys] at hu
  obtain ⟨b, _, rfl⟩ := List.mem_map.1 hu
  rfl

/-- append(v, u...): v a row of the call's own, u one that is read. -/
theorem own_app {w : World} {B n : Nat} {v u : Value} {l r : List UInt8} (hown : w.ownsRow B 5 1 v n (Nm.bys l)) (hv : v.ownBlock ≠ none) (hs : BySl w u r) (hn : n ≤ 10000000) (hr : r.length ≤ 10000000) (hB : B ≤ w.heap.size) :
    ∃ v' w', (Builtin.append_ #[22, 22] 22 #[v, u]).run Tryz.prog w = .ok v' w' ∧ w'.ownsRow B 5 1 v' (n + r.length) (Nm.bys (l ++ r)) ∧ w.grownBy w' v.ownBlock ∧ v'.ownBlock ≠ none := by
  obtain ⟨j0, hj, k0, k1, k2⟩ := info_parts Tryz.infoBy
  obtain ⟨hlen, a, cap, rfl, hcap, hmx, hc⟩ := hs
  cases a with
  | none =>
    have hn : r.length = 0 := by
      rcases Nat.eq_zero_or_pos r.length with h | h
      · exact h
      · obtain ⟨b, off, e, _⟩ := hc h
        cases e
    have hl0 : r = [] := List.eq_nil_of_length_eq_zero hn
    subst hl0
    rcases hown.2 with ⟨rfl, rfl⟩ | ⟨g, cap', cur, rfl, hbg, hg, hnc, hcm, hcs, htake⟩
    · exact absurd rfl hv
    · refine ⟨_, _, run_append_room_src (P := Tryz.prog) w 22 22 22 5 j0 Tryz.underlying22 hj g 0 n cap' (.slice none 0 cap) 0 [] (Src.ofNil _ Tryz.underlying22 cap) (by omega) (by simp) (by simp), ?_, ⟨rfl, rfl, rfl, Nat.le_refl _, fun _ _ _ => rfl⟩, by simp [Value.ownBlock]⟩
      rw [List.append_nil]
      exact hown
  | some x =>
    obtain ⟨v', w', h1, h2, h3, h4⟩ := run_append_own (P := Tryz.prog) w B 22 22 5 j0 (.int .u8 0) 1 1 Tryz.underlying22 hj k0 k1 k2 rfl (by decide) v n (Nm.bys l) hown x r.length cap (Nm.bys r) hlen (by
      intro j u hu
      have hp : 0 < r.length := by
        rcases Nat.eq_zero_or_pos r.length with h | h
        · have : r = [] := List.eq_nil_of_length_eq_zero h
          subst this
          simp [Nm.bys] at hu
        · exact h
      obtain ⟨b, off, e, hcell⟩ := hc hp
      simp only [Option.some.injEq] at e
      subst e
      rw [Nm.addr_add]
      exact hcell j u hu) (bys_ones r) (by unfold maxLen; omega) (by omega) hB
    refine ⟨v', w', h1, by rw [Nm.bys_append]; exact h2, h3, ?_⟩
    intro e
    rcases h2.2 with ⟨rfl, hz⟩ | ⟨g, cap', cur, rfl, _⟩
    · have := (h4.1 rfl).1
      rw [this] at hv
      exact hv rfl
    · cases e

set_option maxRecDepth 100000 in
set_option maxHeartbeats 1600000 in
theorem grow_any (n : Nat) (hn : 0 < n) (hn2 : n ≤ 10000000) (w : World) :
    Calls Tryz.prog 99 #[.slice none 0 0, .int .i64 (n : Int)] w fun e w' => ∃ v, e = .returned v ∧ w'.ownsRow w.heap.size 5 1 v 0 [] ∧ v.ownBlock ≠ none ∧ Below w.heap.size w w' := by
  obtain ⟨j0, hj, k0, k1, k2⟩ := info_parts Tryz.infoBy
  have hr := Lib.run_append_nil_zeros (P := Tryz.prog) w 22 3 22 5 j0 (.int .u8 0) .i64 .i64 Tryz.underlying22 Tryz.underlying3 hj k0 n hn (by omega) (by omega) (by rw [k2]; omega)
  have i1 : ¬ (n : Int) < 0 := by omega
  have i2 : (0 : Int) < (n : Int) := by omega
  have hge := grownCap_ge w n 0 5
  have hcm : grownCap w n 0 5 ≤ maxLen := grownCap_le_maxLen w n 0 5 (by unfold maxLen; omega)
  have hzs : (Value.int IntKind.u8 0).cells.size = 1 := rfl
  have hown : (w.drew.alloc (.cells (Builtin.zeroCells (Value.int IntKind.u8 0).cells n ++ Builtin.zeroCells (Value.int IntKind.u8 0).cells (grownCap w n 0 5 - n)) 5)).ownsRow w.heap.size 5 1 (.slice (some ⟨w.heap.size, 0, none⟩) 0 (grownCap w n 0 5)) 0 [] := by
    refine ⟨rfl, .inr ⟨w.heap.size, _, _, rfl, Nat.le_refl _, heap_alloc_new w.drew _, Nat.zero_le _, hcm, ?_, by simp⟩⟩
    simp only [Array.size_append, size_zeroCells, hzs]
    omega
  have hB : Below w.heap.size w (w.drew.alloc (.cells (Builtin.zeroCells (Value.int IntKind.u8 0).cells n ++ Builtin.zeroCells (Value.int IntKind.u8 0).cells (grownCap w n 0 5 - n)) 5)) := (Below.refl w.heap.size w).drew.alloc (Nat.le_refl _) _
  generalize Builtin.zeroCells (Value.int IntKind.u8 0).cells n ++ Builtin.zeroCells (Value.int IntKind.u8 0).cells (grownCap w n 0 5 - n) = Z at *
  generalize grownCap w n 0 5 = C at *
  go_enter Tryz.func99, Tryz.ntmps99
  go_wp2_with (refine wpList_app_ran rfl (.tmp 20) (.tmp 21) 22 3 rfl _ _ _ _ rfl rfl hr ?_)
  go_ret
  exact ⟨_, rfl, hown, by simp [Value.ownBlock], hB⟩

set_option maxRecDepth 100000 in
set_option maxHeartbeats 3200000 in
theorem concat_own (v1 v2 : Value) (l1 l2 : List UInt8) (b : Nat) (w : World) (hc0 : w.cell? ⟨b, 0, none⟩ = some v1) (hc1 : w.cell? ⟨b, 1, none⟩ = some v2) (h1 : BySl w v1 l1) (h2 : BySl w v2 l2) (hp : 0 < l1.length) (hl1 : l1.length ≤ 3000000) (hl2 : l2.length ≤ 3000000) :
    Calls Tryz.prog 91 #[.slice (some ⟨b, 0, none⟩) 2 2] w fun e w' => ∃ v, e = .returned v ∧ w'.ownsRow w.heap.size 5 1 v (l1 ++ l2).length (Nm.bys (l1 ++ l2)) ∧ Below w.heap.size w w' := by
  obtain ⟨a1, c1, rfl⟩ : ∃ a1 c1, v1 = .slice a1 l1.length c1 := by obtain ⟨_, a, c, e, _⟩ := h1; exact ⟨a, c, e⟩
  obtain ⟨a2, c2, rfl⟩ : ∃ a2 c2, v2 = .slice a2 l2.length c2 := by obtain ⟨_, a, c, e, _⟩ := h2; exact ⟨a, c, e⟩
  obtain ⟨N, hN⟩ : ∃ N, N = l1.length + l2.length := ⟨_, rfl⟩
  have hw0 : IntKind.i64.wrap (l1.length : Int) = (l1.length : Int) := Go.wrap_small _ (by omega) (by omega)
  have hw1 : IntKind.i64.wrap ((l1.length : Int) + (l2.length : Int)) = (N : Int) := by rw [Go.wrap_small _ (by omega) (by omega)]; omega
  have hgr := fun W => grow_any N (by omega) (by omega) W
  have n1 : ¬ (l1.length : Int) < 0 := by omega
  have n2 : ¬ (N : Int) < 0 := by omega
  have hbl := World.block_lt_of_cell? w _ hc0
  have HN := Nm.hide hN
  clear hN
  go_enter Tryz.func91, Tryz.ntmps91
  go_wp2
  go_loopw [3, 11] (fun s i wr => w = wr ∧ ((s = .int .i64 0 ∧ i = .int .i64 0) ∨ (s = .int .i64 (l1.length : Int) ∧ i = .int .i64 1) ∨ (s = .int .i64 (N : Int) ∧ i = .int .i64 2))) (fun _ i _ => 2 - (intOf i).toNat)
  case atStart => exact ⟨rfl, .inl ⟨rfl, rfl⟩⟩
  case round =>
    obtain ⟨rfl, hr⟩ := hrel
    rcases hr with ⟨rfl, rfl⟩ | ⟨rfl, rfl⟩ | ⟨rfl, rfl⟩
    · go_wp2
      go_roundw
      case rel => exact ⟨by trivial, .inr (.inl ⟨rfl, rfl⟩)⟩
      case measure => simp [intOf]
    · go_wp2
      go_roundw
      case rel => exact ⟨by trivial, .inr (.inr ⟨rfl, rfl⟩)⟩
      case measure => simp [intOf]
    · go_wp2_with fail
      refine (hgr _).mono ?_
      rintro e w1 ⟨v0, rfl, ho, hob, hb1⟩
      obtain ⟨ax, cx, rfl⟩ := own_sl ho
      clear hgr hw0 hw1 n1 n2
      go_wp2
      go_loopw [6, 27] (fun v i wr => Below w.heap.size w wr ∧ v.ownBlock ≠ none ∧ ((i = .int .i64 0 ∧ wr.ownsRow w.heap.size 5 1 v 0 (Nm.bys [])) ∨ (i = .int .i64 1 ∧ wr.ownsRow w.heap.size 5 1 v l1.length (Nm.bys l1)) ∨ (i = .int .i64 2 ∧ wr.ownsRow w.heap.size 5 1 v N (Nm.bys (l1 ++ l2))))) (fun _ i _ => 2 - (intOf i).toNat)
      case atStart => exact ⟨hb1, hob, .inl ⟨rfl, ho⟩⟩
      case round =>
        clear ho hob hb1
        obtain ⟨hbel, hob, hr⟩ := hrel
        have hsw := hbel.size
        have d0 := (hbel.cell (p := ⟨b, 0, none⟩) hbl).trans hc0
        have d1 := (hbel.cell (p := ⟨b, 1, none⟩) hbl).trans hc1
        rcases hr with ⟨rfl, ho⟩ | ⟨rfl, ho⟩ | ⟨rfl, ho⟩
        · obtain ⟨ax, cx, rfl⟩ := own_sl ho
          obtain ⟨v', w', hrun, ho', hg, hob'⟩ := own_app ho hob (h1.below hbel) (by omega) (by omega) hsw
          have hb' := hbel.grown hg hsw (fun q hq => (ho.lt q hq).1)
          rw [List.nil_append, Nat.zero_add] at ho'
          obtain ⟨ay, cy, rfl⟩ := own_sl ho'
          clear h1 h2 hc0 hc1 hg
          go_wp2_with (refine wpList_app_ran rfl (.tmp 31) (.tmp 32) 22 22 rfl _ _ _ _ rfl rfl hrun ?_)
          go_roundw
          case rel => exact ⟨hb', hob', .inr (.inl ⟨rfl, ho'⟩)⟩
          case measure => simp [intOf]
        · obtain ⟨ax, cx, rfl⟩ := own_sl ho
          obtain ⟨v', w', hrun, ho', hg, hob'⟩ := own_app ho hob (h2.below hbel) (by omega) (by omega) hsw
          have hb' := hbel.grown hg hsw (fun q hq => (ho.lt q hq).1)
          rw [← HN.out] at ho'
          obtain ⟨ay, cy, rfl⟩ := own_sl ho'
          clear h1 h2 hc0 hc1 hg
          go_wp2_with (refine wpList_app_ran rfl (.tmp 31) (.tmp 32) 22 22 rfl _ _ _ _ rfl rfl hrun ?_)
          go_roundw
          case rel => exact ⟨hb', hob', .inr (.inr ⟨rfl, ho'⟩)⟩
          case measure => simp [intOf]
        · obtain ⟨ax, cx, rfl⟩ := own_sl ho
          clear h1 h2 hc0 hc1
          go_wp2
          go_ret
          refine ⟨_, rfl, ?_, hbel⟩
          have e : (l1 ++ l2).length = N := by rw [List.length_append, HN.out]
          rw [e]
          exact ho

theorem concat_any (v1 v2 : Value) (l1 l2 : List UInt8) (b : Nat) (w : World) (hc0 : w.cell? ⟨b, 0, none⟩ = some v1) (hc1 : w.cell? ⟨b, 1, none⟩ = some v2) (h1 : BySl w v1 l1) (h2 : BySl w v2 l2) (hp : 0 < l1.length) (hl1 : l1.length ≤ 3000000) (hl2 : l2.length ≤ 3000000) :
    Calls Tryz.prog 91 #[.slice (some ⟨b, 0, none⟩) 2 2] w fun e w' => ∃ v, e = .returned v ∧ BySl w' v (l1 ++ l2) ∧ Below w.heap.size w w' := by
  refine (concat_own v1 v2 l1 l2 b w hc0 hc1 h1 h2 hp hl1 hl2).mono ?_
  rintro e w' ⟨v, rfl, ho, hb⟩
  exact ⟨v, rfl, CRow.of_owns ho, hb⟩
end Go.Proofs.YtfficbpalibmoaaGreatDoor
/- A signature's cells: more of them. -/
namespace Go.Proofs.YtfficbpalibmoaaGreatDoor
open Go.RowKit
set_option linter.unusedVariables false

def z32 : List UInt8 := List.replicate 32 0
theorem z32_len : z32.length = 32 := rfl
theorem sgA_one (nm : ByteArray) (t f id : Nat) (s : List UInt8) : (sgA nm t f s id).all (·.oneCell') = true := Array.all_eq_true_iff_forall_mem.2 (fun v hv => by
  simp only [sgA, sgC, List.mem_toArray, List.mem_cons, List.mem_append, List.not_mem_nil, or_false] at hv
  rcases hv with rfl | rfl | rfl | hv | rfl
  · rfl
  · rfl
  · rfl
  · exact bys_ones _ v hv
  · rfl)

/-- a stretch of bytes that is read -/
theorem cut_by {w : World} {a : Option Addr} {m : List UInt8} {cap lo n : Nat} (h : BySl w (.slice a m.length cap) m) (hn : lo + n ≤ m.length) (hp : 0 < n) : ∃ b off, a = some ⟨b, off, none⟩ ∧ CRow w (.slice (some ⟨b, off + lo, none⟩) n (cap - lo)) n 1 (Nm.bys ((m.drop lo).take n)) := by
  obtain ⟨_, a', c', e, h1, h2, h3⟩ := h
  cases e
  obtain ⟨b, off, rfl, hc⟩ := h3 (by omega)
  refine ⟨b, off, rfl, by rw [Nm.bys_length, List.length_take, List.length_drop]; omega, _, _, rfl, by omega, by omega, fun _ => ⟨b, off + lo, rfl, fun i x hx => ?_⟩⟩
  have hi : i < n := by
    have := (List.getElem?_eq_some_iff.1 hx).1
    rw [Nm.bys_length, List.length_take] at this
    omega
  rw [Nat.add_assoc]
  refine hc (lo + i) x ?_
  simp only [Nm.bys, List.getElem?_map] at hx ⊢
  rw [List.getElem?_take_of_lt hi, List.getElem?_drop] at hx
  exact hx
end Go.Proofs.YtfficbpalibmoaaGreatDoor
/- impl.readBig by its contract. -/
namespace Go.Proofs.YtfficbpalibmoaaGreatDoor
open Go.RowKit

theorem or4 (a b c d : Nat) (ha : a < 256) (hb : b < 256) (hc : c < 256) (hd : d < 256) :
    bits .or .i64 (bits .or .i64 (bits .or .i64 ((a : Int) * 16777216) ((b : Int) * 65536)) ((c : Int) * 256)) (d : Int) = ((((a * 256 + b) * 256 + c) * 256 + d : Nat) : Int) := by
  have e1 : (a : Int) * 16777216 = ((2 ^ 24 * a : Nat) : Int) := by omega
  have e2 : (b : Int) * 65536 = ((b * 65536 : Nat) : Int) := by omega
  have e3 : (c : Int) * 256 = ((c * 256 : Nat) : Int) := by omega
  rw [e1, e2, e3, or_join 24 a _ (by omega) (by omega)]
  have e4 : 2 ^ 24 * a + b * 65536 = 2 ^ 16 * (a * 256 + b) := by omega
  rw [e4, or_join 16 _ _ (by omega) (by omega)]
  have e5 : 2 ^ 16 * (a * 256 + b) + c * 256 = 2 ^ 8 * ((a * 256 + b) * 256 + c) := by omega
  rw [e5, or_join 8 _ _ (by omega) (by omega)]
  congr 1
  omega

def num4 (a b c d : UInt8) : Nat := ((a.toNat * 256 + b.toNat) * 256 + c.toNat) * 256 + d.toNat

theorem big_step (m : Nat) (c : UInt8) (h : m < 281474976710656) : bits .or .i64 ((m : Int) * 256) (c.toNat : Int) = ((m * 256 + c.toNat : Nat) : Int) := by
  have hc := c.toNat_lt
  have e : (m : Int) * 256 = ((2 ^ 8 * m : Nat) : Int) := by omega
  rw [e, or_join 8 m _ (by omega) (by omega)]
  congr 1
  omega

set_option maxRecDepth 100000 in
set_option maxHeartbeats 400000 in
theorem readBig_any (s : ByteArray) (w : World) (hs : s.size ≤ 6) :
    Calls Tryz.prog 55 #[.string s] w fun e w' => e = .returned (.int .i64 (numL s.data.toList)) ∧ w' = w := by
  go_enter Tryz.func55, Tryz.ntmps55
  go_wp2
  go_loop [3, 7] (fun u v => ∃ k : Nat, k ≤ s.size ∧ v = .int .i64 k ∧ u = .int .i64 (numL (s.data.toList.take k))) (fun _ v => s.size - (intOf v).toNat)
  case atStart => exact ⟨0, Nat.zero_le _, rfl, rfl⟩
  case round =>
    obtain ⟨k, hk, rfl, rfl⟩ := hrel
    by_cases hlt : k < s.size
    · have hd := Nm.get_data hlt
      have e1 : s.data.toList.take (k + 1) = s.data.toList.take k ++ [s[k]] := Nm.take_step hd
      have hb := numL_small (l := s.data.toList.take k) (by simp; omega)
      have e2 := numL_snoc (s.data.toList.take k) s[k]
      rw [← e1] at e2
      have hc : (s[k].toNat : Int) < 256 := by have := s[k].toNat_lt; omega
      have hlt' : (k : Int) < (s.size : Int) := by omega
      have HB := Nm.hide (big_step (numL (s.data.toList.take k)) s[k] hb)
      generalize numL (s.data.toList.take k) = m at *
      clear e1 hd
      go_wp2
      go_round
      case rel => exact ⟨k + 1, by omega, by go_num, by rw [e2, ← HB.out]⟩
      case measure => simp [intOf]; omega
    · have hke : k = s.size := by omega
      subst hke
      have et : s.data.toList.take s.size = s.data.toList := List.take_of_length_le (by simp)
      rw [et]
      go_wp2
      go_ret
      exact ⟨rfl, rfl⟩
end Go.Proofs.YtfficbpalibmoaaGreatDoor
/- impl.foldByte by its contract. -/
namespace Go.Proofs.YtfficbpalibmoaaGreatDoor
open Go.RowKit

theorem ret_u8 {a b : Int} (h : a = b) : Ending.returned (.int .u8 a) = .returned (.int .u8 b) := by rw [h]

set_option maxRecDepth 100000 in
set_option maxHeartbeats 400000 in
theorem foldByte_any (c : UInt8) (w : World) :
    Calls Tryz.prog 74 #[.int .u8 c.toNat] w fun e w' => e = .returned (.int .u8 (Nm.low c).toNat) ∧ w' = w := by
  have hcl : (c.toNat : Int) < 256 := by have := c.toNat_lt; omega
  by_cases hup : 65 ≤ c.toNat ∧ c.toNat ≤ 90
  · have HL := Nm.hide (Nm.low_up hup)
    have d1 : decide ((65 : Int) ≤ (c.toNat : Int)) = true := by simp; omega
    have d2 : decide ((c.toNat : Int) ≤ 90) = true := by simp; omega
    have hb1 : (c.toNat : Int) ≤ 90 := by omega
    clear hup
    go_enter Tryz.func74, Tryz.ntmps74
    go_wp2
    go_ret
    rw [HL.out]
    exact ⟨rfl, rfl⟩
  · have HL := Nm.hide (Nm.low_id hup)
    by_cases hlo : 65 ≤ c.toNat
    · have d1 : decide ((65 : Int) ≤ (c.toNat : Int)) = true := by simp; omega
      have d2 : decide ((c.toNat : Int) ≤ 90) = false := by simp; omega
      clear hup
      go_enter Tryz.func74, Tryz.ntmps74
      go_wp2
      go_ret
      rw [HL.out]
      exact ⟨rfl, rfl⟩
    · have d1 : decide ((65 : Int) ≤ (c.toNat : Int)) = false := by simp; omega
      clear hup
      go_enter Tryz.func74, Tryz.ntmps74
      go_wp2
      go_ret
      rw [HL.out]
      exact ⟨rfl, rfl⟩

end Go.Proofs.YtfficbpalibmoaaGreatDoor
/- Bytes of a string, laid in a new row. -/
namespace Go.Proofs.YtfficbpalibmoaaGreatDoor
open Go.RowKit

/-- The bytes 'l' lie at the head of block g, and may be written. -/
def BRow (w : World) (g : Nat) (l : List UInt8) : Prop := ∀ j c, l[j]? = some c → w.cell? ⟨g, j, none⟩ = some (.int .u8 c.toNat) ∧ w.frozen? ⟨g, j, none⟩ = false

theorem BRow.set {w : World} {g k : Nat} {l : List UInt8} {d : UInt8} (h : BRow w g l) (hk : k < l.length) : BRow (w.setCell ⟨g, k, none⟩ (.int .u8 d.toNat)) g (l.set k d) := by
  intro j c hj
  obtain ⟨x, hx⟩ : ∃ x, l[k]? = some x := ⟨_, List.getElem?_eq_getElem hk⟩
  by_cases e : k = j
  · subst e
    rw [List.getElem?_set_self hk] at hj
    simp at hj
    subst hj
    exact ⟨World.cell?_setCell_same _ _ _ (h k x hx).1, by rw [World.frozen?_setCell]; exact (h k x hx).2⟩
  · rw [List.getElem?_set_ne e] at hj
    refine ⟨?_, by rw [World.frozen?_setCell]; exact (h j c hj).2⟩
    rw [World.cell?_setCell_other w ⟨g, k, none⟩ ⟨g, j, none⟩ _ (by intro h; cases h; exact e rfl)]
    exact (h j c hj).1

theorem new_bytes (s : ByteArray) (w : World) : ∃ cap W, s.size ≤ cap ∧ (s.size ≤ maxLen → cap ≤ maxLen) ∧
    (convert 9 22 (.string s)).run Tryz.prog w = .ok (.slice (some ⟨w.heap.size, 0, none⟩) s.size cap) W ∧ BRow W w.heap.size s.data.toList ∧ Below w.heap.size w W := by
  refine ⟨_, _, grownCap_ge w s.size 0 5, grownCap_le_maxLen w s.size 0 5, run_bytes_of_string w 9 22 5 s Tryz.underlying9 Tryz.underlying22 Tryz.underlying5, ?_, ?_⟩
  · intro j c hj
    have hj' : j < s.data.size := by
      have := (List.getElem?_eq_some_iff.1 hj).1
      simpa using this
    have hc : s.data[j] = c := by
      have := (List.getElem?_eq_some_iff.1 hj).2
      simpa using this
    constructor
    · have e := cell_of_row (w.drew.alloc (.cells (bytesRow s (grownCap w s.size 0 5)) 5 ((bytesRow s (grownCap w s.size 0 5)).size, (bytesRow s (grownCap w s.size 0 5)).size + 1))) w.heap.size j _ 5 _ (heap_alloc_new w.drew _)
      rw [e, bytesRow_at s _ j hj', hc]
    · have e := World.frozen?_alloc_mark w.drew (bytesRow s (grownCap w s.size 0 5)) 5 (bytesRow s (grownCap w s.size 0 5)).size ((bytesRow s (grownCap w s.size 0 5)).size + 1) j
      rw [show w.heap.size = w.drew.heap.size from rfl, e]
      have : s.data.size ≤ (bytesRow s (grownCap w s.size 0 5)).size := by simp [bytesRow]
      simp; omega
  · exact ((Below.refl _ w).drew).alloc (Nat.le_refl _) _

end Go.Proofs.YtfficbpalibmoaaGreatDoor
