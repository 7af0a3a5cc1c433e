import Derived.Test.YtfficbpalibmoaaGreatDoorJSgR
import Derived.Test.YtfficbpalibmoaaGreatDoorJOrdI
import Derived.Test.YtfficbpalibmoaaGreatDoorJFoldText
import Derived.Lib.AppendStr
import Derived.Test.YtfficbpalibmoaaGreatDoorJJoin
import Derived.Test.YtfficbpalibmoaaGreatDoorVfK
import Derived.ChangeKeysEq
import Derived.Deep.MidRow
import Derived.Test.YtfficbpalibmoaaGreatDoorJLwR
import Derived.Test.YtfficbpalibmoaaGreatDoorJHd1
import Derived.Test.YtfficbpalibmoaaGreatDoorJOwnT
import Derived.Test.YtfficbpalibmoaaGreatDoorJICc
/- (impl.signature).over by its contract. -/
namespace Go.Proofs.YtfficbpalibmoaaGreatDoor
open Go.RowKit
set_option linter.unusedVariables false

/-- append(v, s...): v a row of the call's own, s a text. -/
theorem own_str {w : World} {B n : Nat} {v : Value} {l : List UInt8} {s : ByteArray} {r : List UInt8} (hown : w.ownsRow B 5 1 v n (Nm.bys l)) (hs : s = ⟨r.toArray⟩) (hn : n ≤ 10000000) (hr : r.length ≤ 10000000) (hB : B ≤ w.heap.size) :
    ∃ v' w', (Builtin.append_ #[22, 9] 22 #[v, .string s]).run Tryz.prog w = .ok v' w' ∧ w'.ownsRow B 5 1 v' (n + r.length) (Nm.bys (l ++ r)) ∧ w.grownBy w' v.ownBlock ∧ (0 < r.length → v'.ownBlock ≠ none) := by
  obtain ⟨j0, hj, k0, k1, k2⟩ := info_parts Tryz.infoBy
  have hz : s.size = r.length := by rw [hs, ba_size]
  obtain ⟨v', w', h1, h2, h3, h4⟩ := Go.Lib.run_append_own_string (P := Tryz.prog) w B 22 9 22 5 j0 Tryz.underlying22 Tryz.underlying9 hj k0 k1 k2 v n (Nm.bys l) hown s (by unfold maxLen; omega) (by omega) hB
  rw [hz, Nm.bys_str, ← Nm.bys_append, hs] at h2
  have e : (ByteArray.mk r.toArray).data.toList = r := by simp
  rw [e] at h2
  refine ⟨v', w', h1, h2, h3, fun hp => ?_⟩
  rcases h2.2 with ⟨rfl, hz2⟩ | ⟨g, cap, cur, rfl, _⟩
  · omega
  · simp [Value.ownBlock]

theorem free_by {w : World} {B : Nat} {v : Value} {l : List UInt8} (h : FRow w B v l) : BySl w v l := by
  obtain ⟨g, cap, rfl, h1, h2, h3, h4, h5, h6⟩ := h
  refine ⟨by rw [Nm.bys_length, Nat.mul_one], _, _, rfl, h1, h2, fun _ => ⟨g, 0, rfl, fun i x hx => ?_⟩⟩
  obtain ⟨c, hc, rfl⟩ := bys_get hx
  rw [Nat.zero_add]
  exact h6 i c hc

/-- append(v, u...): u not empty. -/
theorem own_appP {w : World} {B n : Nat} {v u : Value} {l r : List UInt8} (hown : w.ownsRow B 5 1 v n (Nm.bys l)) (hs : BySl w u r) (hp : 0 < r.length) (hn : n ≤ 10000000) (hr : r.length ≤ 10000000) (hB : B ≤ w.heap.size) :
    ∃ v' w', (Builtin.append_ #[22, 22] 22 #[v, u]).run Tryz.prog w = .ok v' w' ∧ w'.ownsRow B 5 1 v' (n + r.length) (Nm.bys (l ++ r)) ∧ w.grownBy w' v.ownBlock := by
  obtain ⟨j0, hj, k0, k1, k2⟩ := info_parts Tryz.infoBy
  obtain ⟨hlen, a, cap, rfl, hcap, hmx, hc⟩ := hs
  obtain ⟨b, off, rfl, hcell⟩ := hc hp
  obtain ⟨v', w', h1, h2, h3, h4⟩ := run_append_own (P := Tryz.prog) w B 22 22 5 j0 (.int .u8 0) 1 1 Tryz.underlying22 hj k0 k1 k2 rfl (by decide) v n (Nm.bys l) hown ⟨b, off, none⟩ r.length cap (Nm.bys r) hlen (by
    intro j u hu
    rw [Nm.addr_add]
    exact hcell j u hu) (bys_ones r) (by unfold maxLen; omega) (by omega) hB
  exact ⟨v', w', h1, by rw [Nm.bys_append]; exact h2, h3⟩

/-- what is ahead of the body -/
def rqL (rq : List UInt8) : List UInt8 := if rq.length = 0 then [] else bigL rq.length 2 ++ rq

theorem wp_app_ran {P : Program} {o : Oper} {a : Act} {w : World} {K : Act → World → Prop} {Q : Exit → Act → World → Prop} (s x : Operand) (t t2 : TypeId)
    (ho : o.op = .call { callee := .builtin .append, args := #[s, x], argTypes := #[t, t2] }) (v u v' : Value) (w' : World) (hs : a.eval s = v) (hx : a.eval x = u)
    (hr : (Builtin.append_ #[t, t2] o.type #[v, u]).run P w = .ok v' w') (h : K (a.put o.dst v') w') : Oper.wp P o a w K Q := by
  unfold Oper.wp execOp
  simp only [ho, resolve, invoke, builtin, Sem.run_bind, Sem.run_pure, Result.andThen_ok, List.map_toArray, List.map_cons, List.map_nil, hs, hx, hr]
  exact h

set_option maxRecDepth 100000 in
set_option maxHeartbeats 3200000 in
theorem over_any (nm kn sc rq : ByteArray) (t f id : Nat) (sum mb : List UInt8) (vb : Value) (w : World) (hs : sum.length = 32) (ht : t ≤ 281474976710655) (hf : f ≤ 65535) (hb : BySl w vb mb) (hbp : 0 < mb.length) (hbl : mb.length ≤ 1000000)
    (hkn : kn.size ≤ maxLen) (hfz : (Nm.foldS kn).size ≤ 1000) (hsc : sc.size ≤ 1048576) (hrq : rq.size ≤ 1000) (hF : ∃ t fr, w.heap[0]? = some (.cells (hvA H0) t fr)) (hK : KAt w 1) :
    Calls Tryz.prog 58 #[.agg (sgA nm t f sum id), vb, .agg #[.string kn, .string sc], .string rq] w fun e w' => e = .returned (.agg (byA (sumL sc.data.toList rq.data.toList mb (Nm.foldS kn).data.toList t f))) ∧ Below w.heap.size w w' := by
  have hz32 : ∀ W, (zeroValue 66).run Tryz.prog W = .ok (.agg (Array.replicate 32 (.int .u8 0))) W := by
    have := zero_of_info (P := Tryz.prog) (t := 66) (v := .agg (Array.replicate 32 (.int .u8 0))) (n := 32) (by kernel_rfl)
    exact this.1
  have hB0 := (Below.refl w.heap.size w).alloc (Nat.le_refl _) (.cells (sgA nm t f sum id) 68)
  have hB1 := hB0.alloc hB0.size (.cells #[.string kn, .string sc] 52)
  have hB2 := hB1.alloc hB1.size (.cells (Array.replicate 32 (.int .u8 0)) 66)
  obtain ⟨W0, hW0⟩ : ∃ W0, W0 = ((w.alloc (.cells (sgA nm t f sum id) 68)).alloc (.cells #[.string kn, .string sc] 52)).alloc (.cells (Array.replicate 32 (.int .u8 0)) 66) := ⟨_, rfl⟩
  have k4 : Blk W0 w.heap.size (sgA nm t f sum id) 68 := by rw [hW0]; exact blk_alloc (blk_alloc (blk_new _ _ _) _) _
  have k6 : Blk W0 (w.heap.size + 1) #[.string kn, .string sc] 52 := by
    have h := blk_new (w.alloc (.cells (sgA nm t f sum id) 68)) #[.string kn, .string sc] 52
    rw [World.size_alloc] at h
    rw [hW0]; exact blk_alloc h _
  have k8 : Blk W0 (w.heap.size + 1 + 1) (Array.replicate 32 (.int .u8 0)) 66 := by
    have h := blk_new ((w.alloc (.cells (sgA nm t f sum id) 68)).alloc (.cells #[.string kn, .string sc] 52)) (Array.replicate 32 (.int .u8 0)) 66
    rw [World.size_alloc, World.size_alloc] at h
    rw [hW0]; exact h
  have hBW : Below w.heap.size w W0 := by rw [hW0]; exact hB2
  have hb0 := hb.below hBW
  have hfo := fun W => implFoldName_any kn W hkn
  have h255 : ∀ W, Calls Tryz.prog 54 #[.int .i64 255, .int .i64 2] W fun e w' => e = .returned (.string ⟨(bigL 255 2).toArray⟩) ∧ Below W.heap.size W w' := fun W => bigBytesN_any 255 2 W (by omega) (by decide) (by decide)
  have h04 : ∀ W, Calls Tryz.prog 54 #[.int .i64 0, .int .i64 4] W fun e w' => e = .returned (.string ⟨(bigL 0 4).toArray⟩) ∧ Below W.heap.size W w' := fun W => bigBytesN_any 0 4 W (by omega) (by decide) (by decide)
  have hfl : (Nm.foldS kn).data.toList.length = (Nm.foldS kn).size := by simp
  have hrl : rq.data.toList.length = rq.size := by simp
  obtain ⟨C27, a27, e27⟩ := cat_ex (Nm.foldS kn).data.toList (bigL 255 2) (Nm.foldS kn) ⟨(bigL 255 2).toArray⟩ (ba_mk _).symm rfl (by simp only [big_len]; omega)
  obtain ⟨C29, a29, e29⟩ := cat_ex _ (bigL 0 4) C27 ⟨(bigL 0 4).toArray⟩ e27 rfl (by simp only [big_len, List.length_append]; omega)
  obtain ⟨C30, a30, e30⟩ := cat_ex _ algL C29 ⟨#[11, 104, 109, 97, 99, 45, 115, 104, 97, 50, 53, 54, 0]⟩ e29 rfl (by simp only [big_len, List.length_append, List.length_cons, List.length_nil]; omega)
  have hl30 : ((Nm.foldS kn).data.toList ++ bigL 255 2 ++ bigL 0 4 ++ algL).length ≤ 1100 := by simp only [big_len, List.length_append, List.length_cons, List.length_nil]; omega
  generalize hR30 : (Nm.foldS kn).data.toList ++ bigL 255 2 ++ bigL 0 4 ++ algL = R30 at *
  have HR30 := Nm.hide hR30
  have HE30 := Nm.hide e30
  have HFL := Nm.hide hfl
  have HRL := Nm.hide hrl
  clear e27 e29 e30 hR30 hfl hrl
  generalize (⟨(bigL 255 2).toArray⟩ : ByteArray) = B2 at h255 a27
  generalize (⟨(bigL 0 4).toArray⟩ : ByteArray) = B4 at h04 a29
  obtain ⟨FK, hFK⟩ : ∃ FK, FK = Nm.foldS kn := ⟨_, rfl⟩
  rw [← hFK] at hfo a27 hfz
  have HFK := Nm.hide hFK
  clear hFK
  have h6 : ∀ W, Calls Tryz.prog 54 #[.int .i64 (t : Int), .int .i64 6] W fun e w' => e = .returned (.string ⟨(bigL t 6).toArray⟩) ∧ Below W.heap.size W w' := fun W => bigBytesN_any t 6 W (by omega) (by decide) (by decide)
  have h2 : ∀ W, Calls Tryz.prog 54 #[.int .i64 (f : Int), .int .i64 2] W fun e w' => e = .returned (.string ⟨(bigL f 2).toArray⟩) ∧ Below W.heap.size W w' := fun W => bigBytesN_any f 2 W (by omega) (by decide) (by decide)
  obtain ⟨C39, a39, e39⟩ := cat_ex (bigL t 6) (bigL f 2) ⟨(bigL t 6).toArray⟩ ⟨(bigL f 2).toArray⟩ rfl rfl (by simp only [big_len]; omega)
  obtain ⟨C40, a40, e40⟩ := cat_ex _ [0, 0, 0, 0] C39 ⟨#[0, 0, 0, 0]⟩ e39 rfl (by simp only [big_len, List.length_append, List.length_cons, List.length_nil]; omega)
  have hl40 : (bigL t 6 ++ bigL f 2 ++ [0, 0, 0, 0]).length ≤ 100 := by simp only [big_len, List.length_append, List.length_cons, List.length_nil]; omega
  have HT0 : Hid (textL rq.data.toList mb (Nm.foldS kn).data.toList t f = rqL rq.data.toList ++ mb ++ R30 ++ (bigL t 6 ++ bigL f 2 ++ [0, 0, 0, 0])) := by show _ = _; rw [← HR30.out, textL, rqL]; simp only [List.append_assoc]
  generalize hR40 : bigL t 6 ++ bigL f 2 ++ [0, 0, 0, 0] = R40 at *
  have HE40 := Nm.hide e40
  have HSL := Nm.hide (show sc.data.toList.length = sc.size by simp)
  clear e39 e40 hR40
  generalize (⟨(bigL t 6).toArray⟩ : ByteArray) = B6 at h6 a39
  generalize (⟨(bigL f 2).toArray⟩ : ByteArray) = BF at h2 a39
  have hS : ∀ W, Below W0.heap.size W0 W → (W.cell? ⟨w.heap.size, 1, none⟩ = some (.int .i64 (t : Int)) ∧ W.cell? ⟨w.heap.size, 2, none⟩ = some (.int .i64 (f : Int))) ∧ True := by
    intro W hW
    have k := blk_below k4 hW
    exact ⟨⟨(blk_cell k 1).trans sgA_1, (blk_cell k 2).trans sgA_2⟩, trivial⟩
  clear hb hB0 hB1 hB2 hkn ht hf
  obtain ⟨ab, cb, rfl⟩ : ∃ a c, vb = .slice a mb.length c := by obtain ⟨_, a, c, e, _⟩ := hb0; exact ⟨a, c, e⟩
  by_cases hq : rq.size = 0
  · have hq' : rq.toList.isEmpty = true := by
      have : rq.toList = [] := List.length_eq_zero_iff.1 (by rw [Nm.tl_len]; exact hq)
      simp [this]
    have HQ := Nm.hide hq
    clear hq
    obtain ⟨n0, hn0⟩ : ∃ n0 : Nat, n0 = 0 := ⟨_, rfl⟩
    have hown : W0.ownsRow W0.heap.size 5 1 (.slice none 0 0) n0 (Nm.bys []) := by rw [hn0]; exact World.ownsRow_nil W0 W0.heap.size 5 1
    have hnb : n0 ≤ 1100 := by omega
    obtain ⟨hdr, hhd⟩ : ∃ hdr : List UInt8, hdr = [] := ⟨_, rfl⟩
    rw [← hhd] at hown
    have HDL : Hid (hdr.length = n0) := by show _ = _; rw [hhd, hn0]; rfl
    have HT : Hid (textL rq.data.toList mb (Nm.foldS kn).data.toList t f = hdr ++ mb ++ R30 ++ R40) := by show _ = _; rw [HT0.out, rqL, if_pos (by rw [HRL.out]; exact HQ.out), hhd]
    clear hn0 hhd HT0
    have hbel := Below.refl W0.heap.size W0
    have hbr := hb0
    have hsz := Nat.le_refl W0.heap.size
    subst hW0
    go_enter Tryz.func58, Tryz.ntmps58
    obtain ⟨v2, w2, r2, o2, g2⟩ := own_appP hown hbr hbp (by omega) (by omega) hsz
    have hB2 := hbel.grown g2 hsz (fun q hq => (hown.lt q hq).1)
    obtain ⟨ya, yc, rfl⟩ := own_sl o2
    have q2 := blk_cell (blk_below k6 hB2) 0
    clear hbr g2 hown hbel
    go_wp2_with (first
      | (at_builtin; refine wpList_app_ran rfl (.tmp 12) (.tmp 17) 22 9 rfl _ _ _ _ rfl rfl r1 ?_; clear r1)
      | (at_builtin; refine wpList_app_ran rfl (.tmp 19) (.tmp 20) 22 22 rfl _ _ _ _ rfl rfl r2 ?_; clear r2)
      | (go_at_call 76; refine (hfo _).mono ?_; rintro e w3 ⟨rfl, b3⟩))
    have hB3 := Nm.below_two hB2 b3
    have o3 := own_below o2 b3
    clear hB2 b3 o2 q2 hsz hfo
    refine (h255 _).mono ?_
    rintro e w4 ⟨rfl, b4⟩
    have hB4 := Nm.below_two hB3 b4
    have o4 := own_below o3 b4
    clear hB3 b4 o3
    go_wp2_with fail
    refine (h04 _).mono ?_
    rintro e w5 ⟨rfl, b5⟩
    have hB5 := Nm.below_two hB4 b5
    have o5 := own_below o4 b5
    have hsz5 := hB5.size
    clear hB4 b5 o4
    obtain ⟨v6, w6, r6, o6, g6, _⟩ := own_str o5 HE30.out (by omega) (by omega) hsz5
    have hB6 := hB5.grown g6 hsz5 (fun q hq => (o5.lt q hq).1)
    obtain ⟨xa6, xc6, rfl⟩ := own_sl o6
    clear g6 o5 hB5
    go_wp2_with (at_builtin; refine wpList_app_ran rfl (.tmp 22) (.tmp 30) 22 9 rfl _ _ _ _ rfl rfl r6 ?_; clear r6 a27 a29 a30 h255 h04 hsz5)
    have hS0 := hS w6.drew hB6.drew
    have hbl := hB6.drew
    have o7 : w6.drew.ownsRow _ 5 1 (.slice xa6 (n0 + mb.length + R30.length) xc6) (n0 + mb.length + R30.length) (Nm.bys (hdr ++ mb ++ R30)) := o6
    clear hB6 o6
    refine wp_region_last (S := fun W => (W.cell? ⟨w.heap.size, 1, none⟩ = some (.int .i64 (t : Int)) ∧ W.cell? ⟨w.heap.size, 2, none⟩ = some (.int .i64 (f : Int))) ∧ True) (L := 1000) (by kernel_rfl) hS0 (fun hH => ?_)
    clear hS0
    refine wpAnyL_take (i := 0) (v := ?_) rfl (by kernel_rfl) (by kernel_rfl) (by kernel_rfl) (by kernel_rfl) (fun _ _ _ h => h) (Or.inl ⟨by rfl, ?_⟩) (by assumption) ?_
    rotate_left 1
    · (intro w hSw; go_simp; try (with_reducible rfl))
    refine wpAnyL_take (i := 1) (v := ?_) rfl (by kernel_rfl) (by kernel_rfl) (by kernel_rfl) (by kernel_rfl) (fun _ _ _ h => h) (Or.inl ⟨by rfl, ?_⟩) (by assumption) ?_
    rotate_left 1
    · (intro w hSw; go_simp; try (with_reducible rfl))
    refine wpAnyL_take (i := 2) (v := ?_) rfl (by kernel_rfl) (by kernel_rfl) (by kernel_rfl) (by kernel_rfl) (fun _ _ _ h => h) (Or.inl ⟨by rfl, ?_⟩) (by assumption) ?_
    rotate_left 1
    · (intro w hSw; go_simp; try (with_reducible rfl))
    refine wpAnyL_take (i := 4) (v := ?_) rfl (by kernel_rfl) (by kernel_rfl) (by kernel_rfl) (by kernel_rfl) (fun _ _ _ h => h) (Or.inl ⟨by rfl, ?_⟩) (by assumption) ?_
    rotate_left 1
    · (intro w hSw; go_simp; try (with_reducible rfl))
    refine wpAnyL_take (i := 5) (v := ?_) rfl (by kernel_rfl) (by kernel_rfl) (by kernel_rfl) (by kernel_rfl) (fun _ _ _ h => h) (Or.inl ⟨by rfl, ?_⟩) (by assumption) ?_
    rotate_left 1
    · (intro w hSw; go_simp; try (with_reducible rfl))
    refine wpAnyL_one (i := 3) (by kernel_rfl) rfl (fun K hK' => ?_)
    go_simp
    refine (h6 _).mono ?_
    rintro e w8 ⟨rfl, b8⟩
    have hb8 := Nm.below_two hbl b8
    have o8 := own_below o7 b8
    clear hbl o7 b8
    go_wp2_with fail
    refine hK'.out _ _ (hS _ hb8) (fun hH => ?_)
    clear hK' K
    refine wpAnyL_one (i := 6) (by kernel_rfl) rfl (fun K hK' => ?_)
    go_simp
    refine (h2 _).mono ?_
    rintro e w9 ⟨rfl, b9⟩
    have hb9 := Nm.below_two hb8 b9
    have o9 := own_below o8 b9
    clear hb8 o8 b9
    go_wp2_with fail
    refine hK'.out _ _ (hS _ hb9) (fun hH => ?_)
    clear hK' K
    refine wpAnyL_take (i := 7) (v := ?_) rfl (by kernel_rfl) (by kernel_rfl) (by kernel_rfl) (by kernel_rfl) (fun _ _ _ h => h) (Or.inl ⟨by rfl, ?_⟩) (by assumption) ?_
    rotate_left 1
    · (intro w hSw; go_simp; try (with_reducible rfl))
    refine wpAnyL_take (i := 8) (v := ?_) rfl (by kernel_rfl) (by kernel_rfl) (by kernel_rfl) (by kernel_rfl) (fun _ _ _ h => h) (Or.inl ⟨by rfl, ?_⟩) (by assumption) ?_
    rotate_left 1
    · (intro w hSw; go_simp; try (with_reducible rfl))
    obtain ⟨v10, w10, r10, o10, g10, _⟩ := own_str o9 HE40.out (by omega) (by omega) hb9.size
    have hb10 := hb9.grown g10 hb9.size (fun q hq => (o9.lt q hq).1)
    obtain ⟨xa10, xc10, rfl⟩ := own_sl o10
    clear g10 o9 hb9
    refine wpAnyL_one (i := 9) (by kernel_rfl) rfl (fun K hK' => ?_)
    rw [if_pos (by rfl)]
    refine wp_app_ran (.tmp 32) (.tmp 40) 22 9 rfl _ _ _ _ rfl rfl r10 ?_
    refine hK'.out _ _ (hS _ hb10) (fun hH => ?_)
    clear hK' K r10
    refine wpAnyL_take (i := 10) (v := ?_) rfl (by kernel_rfl) (by kernel_rfl) (by kernel_rfl) (by kernel_rfl) (fun _ _ _ h => h) (Or.inl ⟨by rfl, ?_⟩) (by assumption) ?_
    rotate_left 1
    · (intro w hSw; go_simp; try (with_reducible rfl))
    refine wpAnyL_done (by kernel_rfl) ?_
    have q1 := (blk_cell (blk_below k6 hb10) 1).trans rfl
    have k8' := blk_below k8 hb10
    have hBw := Nm.below_two hBW hb10
    obtain ⟨vs, w11, r11, f11, b11⟩ := FRow.new sc w10 (by omega)
    have hby : BySl w11 (.slice xa10 (n0 + mb.length + R30.length + R40.length) xc10) (hdr ++ mb ++ R30 ++ R40) := by
      have e : (hdr ++ mb ++ R30 ++ R40).length = n0 + mb.length + R30.length + R40.length := by rw [List.length_append, List.length_append, List.length_append, HDL.out]
      show CRow _ _ (hdr ++ mb ++ R30 ++ R40).length _ _
      rw [e]
      exact (CRow.of_owns o10).below b11
    have hks : BySl w11 vs sc.data.toList := free_by f11
    have hB11 := Nm.below_two hBw b11
    have k11 := blk_below k8' b11
    have hhm := implHmac_any vs _ sc.data.toList _ w11 hks hby (by rw [HSL.out]; exact hsc) (by rw [List.length_append, List.length_append, List.length_append, HDL.out]; omega) (by
      obtain ⟨t, fr, hh⟩ := hF
      exact ⟨t, fr, (hB11.block _ (Array.getElem?_eq_some_iff.1 hh).1).trans hh⟩) (hK.below hB11)
    have hs32 := hmac_len sc.data.toList (hdr ++ mb ++ R30 ++ R40)
    have HR : Hid (sumL sc.data.toList rq.data.toList mb (Nm.foldS kn).data.toList t f = hmacL sc.data.toList (hdr ++ mb ++ R30 ++ R40)) := by show _ = _; rw [sumL, HT.out]
    generalize hmacL sc.data.toList (hdr ++ mb ++ R30 ++ R40) = sm at *
    have hsM : (byA sm).size = 32 := by rw [byA_size]; exact hs32
    have hinfM : (Tryz.prog.info? 66).map (·.size) = some (byA sm).size := by rw [hsM]; kernel_rfl
    have HsM := Nm.hide hsM
    obtain ⟨sa, scp, rfl⟩ : ∃ a c, vs = .slice a sc.data.toList.length c := by obtain ⟨_, a, c, e, _⟩ := hks; exact ⟨a, c, e⟩
    clear hby hks f11 b11 hBw k8' hb10 o10 hS hs32 hsM hF hK hH h6 h2
    go_wp2_with fail
    refine hhm.mono ?_
    rintro e w12 ⟨rfl, b12⟩
    have hB12 := Nm.below_two hB11 b12
    have k12 := blk_below k11 b12
    have hsz12 := hB12.size
    clear hhm k11 hB11 b12
    go_wp2_with (refine wpList_store_blk (.tmp 8) (.tmp 46) 66 rfl rfl rfl (w.heap.size + 1 + 1) _ _ k12 rfl rfl hinfM (by rw [HsM.out]; simp) (byA_one _) ?_; intro w13 k13 o13)
    have hb13 := o13.below hB12 (by omega) hsz12
    exact bodyPost_ret (v := .agg _) (run_results_cell Tryz.results58 rfl k13 Tryz.underlying66 hinfM) rfl ⟨by rw [HR.out], hb13⟩
  · have hq' : rq.toList.isEmpty = false := by
      have : rq.toList ≠ [] := fun e => hq (by rw [← Nm.tl_len, e]; rfl)
      simpa using this
    have hrz : (rq.size : Int) = (rq.size : Int) := rfl
    have hq2 : ∀ W, Calls Tryz.prog 54 #[.int .i64 (rq.size : Int), .int .i64 2] W fun e w' => e = .returned (.string ⟨(bigL rq.size 2).toArray⟩) ∧ Below W.heap.size W w' := fun W => bigBytesN_any rq.size 2 W (by omega) (by decide) (by decide)
    obtain ⟨C17, a17, e17⟩ := cat_ex (bigL rq.size 2) rq.data.toList ⟨(bigL rq.size 2).toArray⟩ rq rfl (ba_mk _).symm (by simp only [big_len, HRL.out]; omega)
    obtain ⟨hdr, hhd⟩ : ∃ hdr : List UInt8, hdr = bigL rq.size 2 ++ rq.data.toList := ⟨_, rfl⟩
    have HT : Hid (textL rq.data.toList mb (Nm.foldS kn).data.toList t f = hdr ++ mb ++ R30 ++ R40) := by show _ = _; rw [HT0.out, rqL, if_neg (by rw [HRL.out]; exact hq), hhd, HRL.out]
    have hdl : hdr.length = 2 + rq.size := by rw [hhd, List.length_append, big_len, HRL.out]
    rw [← hhd] at e17
    obtain ⟨n0, hn0⟩ : ∃ n0 : Nat, n0 = 0 + hdr.length := ⟨_, rfl⟩
    have HDL : Hid (hdr.length = n0) := by show _ = _; omega
    have hnb : n0 ≤ 1100 := by omega
    have hdb : hdr.length ≤ 1100 := by omega
    have HE17 := Nm.hide e17
    generalize (⟨(bigL rq.size 2).toArray⟩ : ByteArray) = BQ at hq2 a17
    have HN0 := Nm.hide hn0
    clear e17 hhd hdl hn0 hrz HT0 hq
    subst hW0
    go_enter Tryz.func58, Tryz.ntmps58
    go_wp2_with fail
    refine (hq2 _).mono ?_
    rintro e w1 ⟨rfl, b1⟩
    have o0 : w1.ownsRow _ 5 1 (.slice none 0 0) 0 (Nm.bys []) := World.ownsRow_nil w1 (((w.alloc (.cells (sgA nm t f sum id) 68)).alloc (.cells #[.string kn, .string sc] 52)).alloc (.cells (Array.replicate 32 (.int .u8 0)) 66)).heap.size 5 1
    obtain ⟨v1, w1', r1, hown, g1, _⟩ := own_str o0 HE17.out (by omega) (by omega) b1.size
    have hbel := b1.grown g1 b1.size (fun q hq => (o0.lt q hq).1)
    rw [← HN0.out, List.nil_append] at hown
    obtain ⟨xa1, xc1, rfl⟩ := own_sl hown
    have hsz := hbel.size
    have hbr := hb0.below hbel
    clear o0 g1 b1 hq2
    obtain ⟨v2, w2, r2, o2, g2⟩ := own_appP hown hbr hbp (by omega) (by omega) hsz
    have hB2 := hbel.grown g2 hsz (fun q hq => (hown.lt q hq).1)
    obtain ⟨ya, yc, rfl⟩ := own_sl o2
    have q2 := blk_cell (blk_below k6 hB2) 0
    clear hbr g2 hown hbel
    go_wp2_with (first
      | (at_builtin; refine wpList_app_ran rfl (.tmp 12) (.tmp 17) 22 9 rfl _ _ _ _ rfl rfl r1 ?_; clear r1)
      | (at_builtin; refine wpList_app_ran rfl (.tmp 19) (.tmp 20) 22 22 rfl _ _ _ _ rfl rfl r2 ?_; clear r2)
      | (go_at_call 76; refine (hfo _).mono ?_; rintro e w3 ⟨rfl, b3⟩))
    have hB3 := Nm.below_two hB2 b3
    have o3 := own_below o2 b3
    clear hB2 b3 o2 q2 hsz hfo
    refine (h255 _).mono ?_
    rintro e w4 ⟨rfl, b4⟩
    have hB4 := Nm.below_two hB3 b4
    have o4 := own_below o3 b4
    clear hB3 b4 o3
    go_wp2_with fail
    refine (h04 _).mono ?_
    rintro e w5 ⟨rfl, b5⟩
    have hB5 := Nm.below_two hB4 b5
    have o5 := own_below o4 b5
    have hsz5 := hB5.size
    clear hB4 b5 o4
    obtain ⟨v6, w6, r6, o6, g6, _⟩ := own_str o5 HE30.out (by omega) (by omega) hsz5
    have hB6 := hB5.grown g6 hsz5 (fun q hq => (o5.lt q hq).1)
    obtain ⟨xa6, xc6, rfl⟩ := own_sl o6
    clear g6 o5 hB5
    go_wp2_with (at_builtin; refine wpList_app_ran rfl (.tmp 22) (.tmp 30) 22 9 rfl _ _ _ _ rfl rfl r6 ?_; clear r6 a27 a29 a30 h255 h04 hsz5)
    have hS0 := hS w6.drew hB6.drew
    have hbl := hB6.drew
    have o7 : w6.drew.ownsRow _ 5 1 (.slice xa6 (n0 + mb.length + R30.length) xc6) (n0 + mb.length + R30.length) (Nm.bys (hdr ++ mb ++ R30)) := o6
    clear hB6 o6
    refine wp_region_last (S := fun W => (W.cell? ⟨w.heap.size, 1, none⟩ = some (.int .i64 (t : Int)) ∧ W.cell? ⟨w.heap.size, 2, none⟩ = some (.int .i64 (f : Int))) ∧ True) (L := 1000) (by kernel_rfl) hS0 (fun hH => ?_)
    clear hS0
    refine wpAnyL_take (i := 0) (v := ?_) rfl (by kernel_rfl) (by kernel_rfl) (by kernel_rfl) (by kernel_rfl) (fun _ _ _ h => h) (Or.inl ⟨by rfl, ?_⟩) (by assumption) ?_
    rotate_left 1
    · (intro w hSw; go_simp; try (with_reducible rfl))
    refine wpAnyL_take (i := 1) (v := ?_) rfl (by kernel_rfl) (by kernel_rfl) (by kernel_rfl) (by kernel_rfl) (fun _ _ _ h => h) (Or.inl ⟨by rfl, ?_⟩) (by assumption) ?_
    rotate_left 1
    · (intro w hSw; go_simp; try (with_reducible rfl))
    refine wpAnyL_take (i := 2) (v := ?_) rfl (by kernel_rfl) (by kernel_rfl) (by kernel_rfl) (by kernel_rfl) (fun _ _ _ h => h) (Or.inl ⟨by rfl, ?_⟩) (by assumption) ?_
    rotate_left 1
    · (intro w hSw; go_simp; try (with_reducible rfl))
    refine wpAnyL_take (i := 4) (v := ?_) rfl (by kernel_rfl) (by kernel_rfl) (by kernel_rfl) (by kernel_rfl) (fun _ _ _ h => h) (Or.inl ⟨by rfl, ?_⟩) (by assumption) ?_
    rotate_left 1
    · (intro w hSw; go_simp; try (with_reducible rfl))
    refine wpAnyL_take (i := 5) (v := ?_) rfl (by kernel_rfl) (by kernel_rfl) (by kernel_rfl) (by kernel_rfl) (fun _ _ _ h => h) (Or.inl ⟨by rfl, ?_⟩) (by assumption) ?_
    rotate_left 1
    · (intro w hSw; go_simp; try (with_reducible rfl))
    refine wpAnyL_one (i := 3) (by kernel_rfl) rfl (fun K hK' => ?_)
    go_simp
    refine (h6 _).mono ?_
    rintro e w8 ⟨rfl, b8⟩
    have hb8 := Nm.below_two hbl b8
    have o8 := own_below o7 b8
    clear hbl o7 b8
    go_wp2_with fail
    refine hK'.out _ _ (hS _ hb8) (fun hH => ?_)
    clear hK' K
    refine wpAnyL_one (i := 6) (by kernel_rfl) rfl (fun K hK' => ?_)
    go_simp
    refine (h2 _).mono ?_
    rintro e w9 ⟨rfl, b9⟩
    have hb9 := Nm.below_two hb8 b9
    have o9 := own_below o8 b9
    clear hb8 o8 b9
    go_wp2_with fail
    refine hK'.out _ _ (hS _ hb9) (fun hH => ?_)
    clear hK' K
    refine wpAnyL_take (i := 7) (v := ?_) rfl (by kernel_rfl) (by kernel_rfl) (by kernel_rfl) (by kernel_rfl) (fun _ _ _ h => h) (Or.inl ⟨by rfl, ?_⟩) (by assumption) ?_
    rotate_left 1
    · (intro w hSw; go_simp; try (with_reducible rfl))
    refine wpAnyL_take (i := 8) (v := ?_) rfl (by kernel_rfl) (by kernel_rfl) (by kernel_rfl) (by kernel_rfl) (fun _ _ _ h => h) (Or.inl ⟨by rfl, ?_⟩) (by assumption) ?_
    rotate_left 1
    · (intro w hSw; go_simp; try (with_reducible rfl))
    obtain ⟨v10, w10, r10, o10, g10, _⟩ := own_str o9 HE40.out (by omega) (by omega) hb9.size
    have hb10 := hb9.grown g10 hb9.size (fun q hq => (o9.lt q hq).1)
    obtain ⟨xa10, xc10, rfl⟩ := own_sl o10
    clear g10 o9 hb9
    refine wpAnyL_one (i := 9) (by kernel_rfl) rfl (fun K hK' => ?_)
    rw [if_pos (by rfl)]
    refine wp_app_ran (.tmp 32) (.tmp 40) 22 9 rfl _ _ _ _ rfl rfl r10 ?_
    refine hK'.out _ _ (hS _ hb10) (fun hH => ?_)
    clear hK' K r10
    refine wpAnyL_take (i := 10) (v := ?_) rfl (by kernel_rfl) (by kernel_rfl) (by kernel_rfl) (by kernel_rfl) (fun _ _ _ h => h) (Or.inl ⟨by rfl, ?_⟩) (by assumption) ?_
    rotate_left 1
    · (intro w hSw; go_simp; try (with_reducible rfl))
    refine wpAnyL_done (by kernel_rfl) ?_
    have q1 := (blk_cell (blk_below k6 hb10) 1).trans rfl
    have k8' := blk_below k8 hb10
    have hBw := Nm.below_two hBW hb10
    obtain ⟨vs, w11, r11, f11, b11⟩ := FRow.new sc w10 (by omega)
    have hby : BySl w11 (.slice xa10 (n0 + mb.length + R30.length + R40.length) xc10) (hdr ++ mb ++ R30 ++ R40) := by
      have e : (hdr ++ mb ++ R30 ++ R40).length = n0 + mb.length + R30.length + R40.length := by rw [List.length_append, List.length_append, List.length_append, HDL.out]
      show CRow _ _ (hdr ++ mb ++ R30 ++ R40).length _ _
      rw [e]
      exact (CRow.of_owns o10).below b11
    have hks : BySl w11 vs sc.data.toList := free_by f11
    have hB11 := Nm.below_two hBw b11
    have k11 := blk_below k8' b11
    have hhm := implHmac_any vs _ sc.data.toList _ w11 hks hby (by rw [HSL.out]; exact hsc) (by rw [List.length_append, List.length_append, List.length_append, HDL.out]; omega) (by
      obtain ⟨t, fr, hh⟩ := hF
      exact ⟨t, fr, (hB11.block _ (Array.getElem?_eq_some_iff.1 hh).1).trans hh⟩) (hK.below hB11)
    have hs32 := hmac_len sc.data.toList (hdr ++ mb ++ R30 ++ R40)
    have HR : Hid (sumL sc.data.toList rq.data.toList mb (Nm.foldS kn).data.toList t f = hmacL sc.data.toList (hdr ++ mb ++ R30 ++ R40)) := by show _ = _; rw [sumL, HT.out]
    generalize hmacL sc.data.toList (hdr ++ mb ++ R30 ++ R40) = sm at *
    have hsM : (byA sm).size = 32 := by rw [byA_size]; exact hs32
    have hinfM : (Tryz.prog.info? 66).map (·.size) = some (byA sm).size := by rw [hsM]; kernel_rfl
    have HsM := Nm.hide hsM
    obtain ⟨sa, scp, rfl⟩ : ∃ a c, vs = .slice a sc.data.toList.length c := by obtain ⟨_, a, c, e, _⟩ := hks; exact ⟨a, c, e⟩
    clear hby hks f11 b11 hBw k8' hb10 o10 hS hs32 hsM hF hK hH h6 h2
    go_wp2_with fail
    refine hhm.mono ?_
    rintro e w12 ⟨rfl, b12⟩
    have hB12 := Nm.below_two hB11 b12
    have k12 := blk_below k11 b12
    have hsz12 := hB12.size
    clear hhm k11 hB11 b12
    go_wp2_with (refine wpList_store_blk (.tmp 8) (.tmp 46) 66 rfl rfl rfl (w.heap.size + 1 + 1) _ _ k12 rfl rfl hinfM (by rw [HsM.out]; simp) (byA_one _) ?_; intro w13 k13 o13)
    have hb13 := o13.below hB12 (by omega) hsz12
    exact bodyPost_ret (v := .agg _) (run_results_cell Tryz.results58 rfl k13 Tryz.underlying66 hinfM) rfl ⟨by rw [HR.out], hb13⟩
end Go.Proofs.YtfficbpalibmoaaGreatDoor
/- (impl.signature).isLate by its contract. -/
namespace Go.Proofs.YtfficbpalibmoaaGreatDoor
open Go.RowKit
set_option linter.unusedVariables false

theorem wrap_ng (n : Int) (h : -9223372036854775808 ≤ n) (h2 : n < 9223372036854775808) : IntKind.i64.wrap n = n := by
  by_cases h0 : 0 ≤ n
  · exact Go.wrap_small n h0 h2
  · have e : n % 2 ^ 64 = n + 18446744073709551616 := by omega
    simp only [IntKind.wrap, IntKind.bits, IntKind.signed, e]
    rw [if_pos]
    · omega
    · simp
      omega

/-- further from a signature's time than its fudge -/
def lateB (t f n : Nat) : Bool := decide ((f : Int) < (n : Int) - (t : Int)) || decide ((f : Int) < (t : Int) - (n : Int))

set_option maxRecDepth 100000 in
set_option maxHeartbeats 1600000 in
theorem isLate_any (nm : ByteArray) (t f id n : Nat) (sum : List UInt8) (ht : t ≤ 281474976710655) (hn : n ≤ 281474976710655) (w : World) :
    Calls Tryz.prog 59 #[.agg (sgA nm t f sum id), .int .i64 (n : Int)] w fun e w' => e = .returned (.bool (lateB t f n)) ∧ Below w.heap.size w w' := by
  have k0 := blk_new w (sgA nm t f sum id) 68
  have hB0 := (Below.refl w.heap.size w).alloc (Nat.le_refl _) (.cells (sgA nm t f sum id) 68)
  have q1 := (blk_cell k0 1).trans sgA_1
  have q2 := (blk_cell k0 2).trans sgA_2
  obtain ⟨d1, hd1⟩ : ∃ d : Int, d = (n : Int) - (t : Int) := ⟨_, rfl⟩
  obtain ⟨d2, hd2⟩ : ∃ d : Int, d = (t : Int) - (n : Int) := ⟨_, rfl⟩
  have hw1 : IntKind.i64.wrap ((n : Int) - (t : Int)) = d1 := by rw [wrap_ng _ (by omega) (by omega)]; exact hd1.symm
  have hw2 : IntKind.i64.wrap ((t : Int) - (n : Int)) = d2 := by rw [wrap_ng _ (by omega) (by omega)]; exact hd2.symm
  have HM : Hid (lateB t f n = (decide ((f : Int) < d1) || decide ((f : Int) < d2))) := by show _ = _; rw [lateB, hd1, hd2]
  rw [HM.out]
  generalize sgA nm t f sum id = SA at *
  clear hd1 hd2 HM ht hn
  by_cases h1 : (f : Int) < d1
  · rw [decide_eq_true h1, Bool.true_or]
    go_enter Tryz.func59, Tryz.ntmps59
    go_wp2
    go_ret
    exact ⟨rfl, hB0⟩
  · have h1' : decide ((f : Int) < d1) = false := decide_eq_false h1
    rw [h1', Bool.false_or]
    go_enter Tryz.func59, Tryz.ntmps59
    go_wp2
    go_ret
    exact ⟨rfl, hB0⟩
end Go.Proofs.YtfficbpalibmoaaGreatDoor
/- (impl.signature).check by its contract. -/
namespace Go.Proofs.YtfficbpalibmoaaGreatDoor
open Go.RowKit
set_option linter.unusedVariables false

theorem part_by {P : Program} {e : TypeId} {i : TypeInfo} {l : List UInt8} {k : Nat} {c : UInt8} (hu : P.underlying e = some (.int .u8)) (hi : P.info? e = some i) (hs : i.size = 1) (h : l[k]? = some c) (W : World) : (part e (byA l) k).run P W = .ok (.int .u8 (c.toNat : Int)) W := by
  have hv : (byA l)[k]? = some (.int .u8 (c.toNat : Int)) := by simp [byA, h]
  simp [part, isAgg, run_underlying hu, sizeOf, typeInfo, hi, hs, hv]

theorem eq_items {P : Program} {e : TypeId} {i : TypeInfo} (d : Nat) {a b : List UInt8} (hu : P.underlying e = some (.int .u8)) (hi : P.info? e = some i) (hs : i.size = 1) : ∀ (is : List Nat), (∀ k ∈ is, k < a.length ∧ k < b.length) → ∀ W, (Op.eqItems (d + 1) e 1 (byA a) (byA b) is).run P W = .ok (is.all (fun k => a[k]? == b[k]?)) W := by
  intro is
  induction is with
  | nil => intro _ W; simp [Op.eqItems]
  | cons k is ih =>
    intro hk W
    obtain ⟨h1, h2⟩ := hk k (List.mem_cons_self)
    have ha := List.getElem?_eq_getElem h1
    have hb := List.getElem?_eq_getElem h2
    have pa := fun W => part_by hu hi hs ha W
    have pb := fun W => part_by hu hi hs hb W
    have ihr := ih (fun j hj => hk j (List.mem_cons_of_mem _ hj)) W
    have he : (Op.equalIn (d + 1) e (.int .u8 ((a[k]).toNat : Int)) (.int .u8 ((b[k]).toNat : Int))).run P W = .ok (((a[k]).toNat : Int) == ((b[k]).toNat : Int)) W := by
      simp [Op.equalIn, run_underlying hu]
    have hq : (((a[k]).toNat : Int) == ((b[k]).toNat : Int)) = (a[k]? == b[k]?) := by
      rw [ha, hb, Bool.eq_iff_iff]
      simp only [beq_iff_eq, Option.some.injEq, Int.natCast_inj]
      exact UInt8.toNat_inj
    rw [Op.eqItems, Nat.mul_one]
    simp only [Sem.run_bind, pa, pb, he, Result.andThen_ok, hq]
    rw [List.all_cons]
    cases (a[k]? == b[k]?) with
    | false => simp
    | true => simpa using ihr

theorem eq_arr {P : Program} {t e : TypeId} {i : TypeInfo} {a b : List UInt8} {n : Nat} (hut : P.underlying t = some (.array n e)) (hu : P.underlying e = some (.int .u8)) (hi : P.info? e = some i) (hs : i.size = 1) (hc : P.cellsOf e = 1) (ha : a.length = n) (hb : b.length = n) (W : World) :
    (Op.equal t (.agg (byA a)) (.agg (byA b))).run P W = .ok (decide (a = b)) W := by
  show (Op.equalIn (9998 + 1 + 1) t (.agg (byA a)) (.agg (byA b))).run P W = _
  rw [run_equalIn_array _ (9998 + 1) (byA a) (byA b) hut hi, hc, eq_items 9998 hu hi hs _ (fun k hk => by have := List.mem_range.1 hk; omega)]
  congr 1
  rw [Bool.eq_iff_iff, List.all_eq_true, decide_eq_true_eq]
  constructor
  · intro h
    apply List.ext_getElem?
    intro k
    by_cases hk : k < n
    · have := h k (List.mem_range.2 hk)
      simpa using this
    · rw [List.getElem?_eq_none (by omega), List.getElem?_eq_none (by omega)]
  · rintro rfl k _
    simp
end Go.Proofs.YtfficbpalibmoaaGreatDoor
/- (impl.signature).check by its contract: the walk. -/
namespace Go.Proofs.YtfficbpalibmoaaGreatDoor
open Go.RowKit
set_option linter.unusedVariables false

theorem exec_loadM {P : Program} {a : Act} {o : Oper} {X : World} (t : TypeId) (p : Operand) (ho : o.op = .load t p) (b off : Nat) (cs : List Value) (d : TypeDesc) (hp : a.eval p = .pointer (some ⟨b, off, none⟩)) (hk : X.rangeAt b off cs) (hu : P.underlying t = some d)
    (hd : d.isRow = true) (hi : (P.info? t).map (·.size) = some cs.length) : (execOp a.eval o).run P X = .ok (.value (.agg cs.toArray)) X := by
  unfold execOp
  simp only [ho, hp, Instr.loadAt, Instr.sureAddr, Sem.run_bind, Sem.run_pure, Result.andThen_ok, run_loadVar_mid X b off t cs d hk hu hd hi]

set_option maxRecDepth 100000 in
set_option maxHeartbeats 3200000 in
theorem check_any (nm kn sc rq : ByteArray) (t f id n : Nat) (sum mb : List UInt8) (vb : Value) (w : World) (hs : sum.length = 32) (ht : t ≤ 281474976710655) (hf : f ≤ 65535) (hn : n ≤ 281474976710655) (hb : BySl w vb mb) (hbp : 0 < mb.length) (hbl : mb.length ≤ 1000000)
    (hkn : kn.size ≤ maxLen) (hfz : (Nm.foldS kn).size ≤ 1000) (hsc : sc.size ≤ 1048576) (hrq : rq.size ≤ 1000) (hF : ∃ t fr, w.heap[0]? = some (.cells (hvA H0) t fr)) (hK : KAt w 1) :
    Calls Tryz.prog 34 #[.agg (sgA nm t f sum id), vb, .agg #[.string kn, .string sc], .int .i64 (n : Int), .string rq] w fun e w' => e = .returned (.int .i64 (if sumL sc.data.toList rq.data.toList mb (Nm.foldS kn).data.toList t f = sum then (if lateB t f n then 31 else 0) else 30)) ∧ Below w.heap.size w w' := by
  have k0 := blk_alloc (blk_new w (sgA nm t f sum id) 68) (.cells #[.string kn, .string sc] 52)
  have hB0 := (Below.refl w.heap.size w).alloc (Nat.le_refl _) (.cells (sgA nm t f sum id) 68)
  have k1 := blk_new (w.alloc (.cells (sgA nm t f sum id) 68)) #[.string kn, .string sc] 52
  rw [World.size_alloc] at k1
  have hB1 := hB0.alloc hB0.size (.cells #[.string kn, .string sc] 52)
  have hov := fun W (hW : Below w.heap.size w W) => over_any nm kn sc rq t f id sum mb vb W hs ht hf (hb.below hW) hbp hbl hkn hfz hsc hrq (by
    obtain ⟨t0, fr, h0⟩ := hF
    exact ⟨t0, fr, (hW.block _ (Array.getElem?_eq_some_iff.1 h0).1).trans h0⟩) (hK.below hW)
  obtain ⟨SM, eSM⟩ : ∃ s, s = sumL sc.data.toList rq.data.toList mb (Nm.foldS kn).data.toList t f := ⟨_, rfl⟩
  have hSM : SM.length = 32 := by rw [eSM]; exact hmac_len _ _
  rw [← eSM] at hov ⊢
  have hinS := sgI_info (sgA nm t f sum id) (sgA_size hs)
  obtain ⟨i8, hi8, hs8⟩ := info_one (P := Tryz.prog) (e := 5) (by kernel_rfl)
  have heq := fun W => eq_arr (P := Tryz.prog) (t := 66) (a := sum) (b := SM) Tryz.underlying66 Tryz.underlying5 hi8 hs8 (by kernel_rfl) hs hSM W
  have hlt := fun W => isLate_any nm t f id n sum ht hn W
  have hS : ∀ W, Below (w.heap.size + 2) ((w.alloc (.cells (sgA nm t f sum id) 68)).alloc (.cells #[.string kn, .string sc] 52)) W → Blk W w.heap.size (sgA nm t f sum id) 68 ∧ Blk W (w.heap.size + 1) #[.string kn, .string sc] 52 := fun W hW => ⟨(hW.block _ (by omega)).trans k0, (hW.block _ (by omega)).trans k1⟩
  obtain ⟨RES, HRES⟩ : ∃ R : Int, Hid (R = (if SM = sum then (if lateB t f n then 31 else 0) else 30)) := ⟨_, rfl⟩
  rw [← HRES.out]
  clear hF hK hb eSM
  have hsz : ((w.alloc (.cells (sgA nm t f sum id) 68)).alloc (.cells #[.string kn, .string sc] 52)).heap.size = w.heap.size + 2 := by rw [World.size_alloc, World.size_alloc]
  have hS0 := hS _ ((Below.refl (w.heap.size + 2) _).drew)
  have hS1 := fun W (hW : Below (((w.alloc (.cells (sgA nm t f sum id) 68)).alloc (.cells #[.string kn, .string sc] 52)).drew).heap.size ((w.alloc (.cells (sgA nm t f sum id) 68)).alloc (.cells #[.string kn, .string sc] 52)).drew W) => (show Blk W w.heap.size (sgA nm t f sum id) 68 ∧ Blk W (w.heap.size + 1) #[.string kn, .string sc] 52 from ⟨blk_below hS0.1 hW, blk_below hS0.2 hW⟩)
  have hB1d := hB1.drew
  clear hS k0 k1 hB0 hB1 hsz
  go_enter Tryz.func34, Tryz.ntmps34
  go_wp2
  generalize (w.alloc (.cells (sgA nm t f sum id) 68)).alloc (.cells #[.string kn, .string sc] 52) = W0 at *
  refine wp_region_last (S := fun X => Blk X w.heap.size (sgA nm t f sum id) 68 ∧ Blk X (w.heap.size + 1) #[.string kn, .string sc] 52) (L := 1000) (by kernel_rfl) hS0 (fun hH => ?_)
  refine wpAnyL_take (i := 0) (v := ?_) rfl (by kernel_rfl) (by kernel_rfl) (by kernel_rfl) (by kernel_rfl) (fun _ _ _ h => h) (Or.inl ⟨by rfl, ?_⟩) (by assumption) ?_
  rotate_left 1
  · (intro w hSw; go_simp; try (with_reducible rfl))
  refine wpAnyL_take (i := 1) (v := .agg (byA sum)) rfl (by kernel_rfl) (by kernel_rfl) (by kernel_rfl) (by kernel_rfl) (fun _ _ _ h => h) (Or.inl ⟨by rfl, ?_⟩) (by assumption) ?_
  · intro X hX
    exact exec_loadM 66 (.tmp 12) rfl w.heap.size 3 (Nm.bys sum) _ (by rfl) (fun j v hv => (blk_cell hX.1 (3 + j)).trans (sgA_sum hv)) Tryz.underlying66 rfl (by rw [Nm.bys_length, hs]; kernel_rfl)
  refine wpAnyL_take (i := 2) (v := .agg (sgA nm t f sum id)) rfl (by kernel_rfl) (by kernel_rfl) (by kernel_rfl) (by kernel_rfl) (fun _ _ _ h => h) (Or.inl ⟨by rfl, ?_⟩) (by assumption) ?_
  · intro X hX
    exact exec_load 68 (.tmp 5) rfl w.heap.size _ _ (by rfl) hX.1 Tryz.underlying68 rfl hinS
  refine wpAnyL_take (i := 3) (v := ?_) rfl (by kernel_rfl) (by kernel_rfl) (by kernel_rfl) (by kernel_rfl) (fun _ _ _ h => h) (Or.inl ⟨by rfl, ?_⟩) (by assumption) ?_
  rotate_left 1
  · (intro w hSw; go_simp; try (with_reducible rfl))
  refine wpAnyL_take (i := 4) (v := .agg #[.string kn, .string sc]) rfl (by kernel_rfl) (by kernel_rfl) (by kernel_rfl) (by kernel_rfl) (fun _ _ _ h => h) (Or.inl ⟨by rfl, ?_⟩) (by assumption) ?_
  · intro X hX
    exact exec_load 52 (.tmp 7) rfl (w.heap.size + 1) _ _ (by rfl) hX.2 Tryz.underlying52 rfl (by kernel_rfl)
  refine wpAnyL_take (i := 5) (v := ?_) rfl (by kernel_rfl) (by kernel_rfl) (by kernel_rfl) (by kernel_rfl) (fun _ _ _ h => h) (Or.inl ⟨by rfl, ?_⟩) (by assumption) ?_
  rotate_left 1
  · (intro w hSw; go_simp; try (with_reducible rfl))
  refine wpAnyL_one (i := 6) (by kernel_rfl) rfl (fun K hK => ?_)
  go_simp
  refine (hov _ hB1d).mono ?_
  rintro e w2 ⟨rfl, b2⟩
  have hS2 := hS1 _ b2
  have hB2 := Nm.below_two hB1d b2
  clear b2 hB1d hS1 hov
  go_wp2_with fail
  refine hK.out _ _ hS2 (fun _ => ?_)
  clear hK K
  refine wpAnyL_take (i := 7) (v := .bool (!(decide (sum = SM)))) rfl (by kernel_rfl) (by kernel_rfl) (by kernel_rfl) (by kernel_rfl) (fun _ _ _ h => h) (Or.inl ⟨by rfl, ?_⟩) (by assumption) ?_
  · intro X hX
    go_simp
    have h9 : (Op.equalIn 10000 66 (.agg (byA sum)) (.agg (byA SM))).run Tryz.prog X = .ok (decide (sum = SM)) X := heq X
    rw [h9]
    rfl
  refine wpAnyL_take (i := 8) (v := ?_) rfl (by kernel_rfl) (by kernel_rfl) (by kernel_rfl) (by kernel_rfl) (fun _ _ _ h => h) (Or.inl ⟨by rfl, ?_⟩) (by assumption) ?_
  rotate_left 1
  · (intro w hSw; go_simp; try (with_reducible rfl))
  refine wpAnyL_done (by kernel_rfl) ?_
  have k2 := hS2.1
  by_cases hsm : SM = sum
  · have hd1 : decide (sum = SM) = true := by simp [hsm]
    rw [hd1]
    cases hL : lateB t f n with
    | false =>
      obtain rfl : RES = 0 := by rw [HRES.out, if_pos hsm, hL]; rfl
      rw [hL] at hlt
      clear hsm hd1 HRES hL heq
      go_wp2_with (refine wpList_load_blk (.tmp 5) 68 rfl rfl w.heap.size _ _ k2 rfl Tryz.underlying68 rfl hinS ?_)
      refine (hlt _).mono ?_
      rintro e w3 ⟨rfl, b3⟩
      go_wp2
      go_ret
      exact ⟨rfl, Nm.below_two hB2 b3⟩
    | true =>
      obtain rfl : RES = 31 := by rw [HRES.out, if_pos hsm, hL]; rfl
      rw [hL] at hlt
      clear hsm hd1 HRES hL heq
      go_wp2_with (refine wpList_load_blk (.tmp 5) 68 rfl rfl w.heap.size _ _ k2 rfl Tryz.underlying68 rfl hinS ?_)
      refine (hlt _).mono ?_
      rintro e w3 ⟨rfl, b3⟩
      go_wp2
      go_ret
      exact ⟨rfl, Nm.below_two hB2 b3⟩
  · have hd1 : decide (sum = SM) = false := by rw [decide_eq_false_iff_not]; exact fun h => hsm h.symm
    rw [hd1]
    obtain rfl : RES = 30 := by rw [HRES.out, if_neg hsm]
    clear hsm hd1 HRES heq
    go_wp2
    go_ret
    exact ⟨rfl, hB2⟩
end Go.Proofs.YtfficbpalibmoaaGreatDoor
/- impl.lastRecord by its contract. -/
namespace Go.Proofs.YtfficbpalibmoaaGreatDoor
open Go.RowKit
set_option linter.unusedVariables false

theorem vf_below {w w1 w2 : World} {g : Nat} (h : w.grownBy w1 (some g)) (h2 : Below w1.heap.size w1 w2) : w.grownBy w2 (some g) :=
  ⟨h2.os.trans h.os, h2.tape.trans h.tape, h2.output.trans h.output, Nat.le_trans h.size h2.size, fun k hk hne => (h2.block k (Nat.lt_of_lt_of_le hk h.size)).trans (h.block k hk hne)⟩
theorem vf_step {w w1 w2 : World} {g : Nat} (h : w.grownBy w1 (some g)) (h2 : w1.grownBy w2 (some g)) : w.grownBy w2 (some g) :=
  ⟨h2.os.trans h.os, h2.tape.trans h.tape, h2.output.trans h.output, Nat.le_trans h.size h2.size, fun k hk hne => (h2.block k (Nat.lt_of_lt_of_le hk h.size) hne).trans (h.block k hk hne)⟩

set_option maxRecDepth 100000 in
set_option maxHeartbeats 3200000 in
theorem lastRecord_any (a : Option Addr) (l : List UInt8) (cap : Nat) (w : World) (h : BySl w (.slice a l.length cap) l) (hl : 12 ≤ l.length) (hl2 : l.length ≤ 65535) (qs : List Qm) (P1 : Nat) (xs : List Rm) (q : Nat)
    (hq : manyS (quS l) (n16 l 4) 12 [] = .ok qs P1) (hr : manyS (rrS l) (n16 l 6 + n16 l 8 + n16 l 10 - 1) P1 [] = .ok xs q) (hc : 1 ≤ n16 l 10) (hs : n16 l 4 + n16 l 6 + n16 l 8 + n16 l 10 ≤ 400) :
    Calls Tryz.prog 53 #[.slice a l.length cap] w fun e w' => e = .returned (.int .i64 (q : Int)) ∧ q ≤ l.length ∧ Below w.heap.size w w' := by
  have k0 := blk_new w #[.slice a l.length cap, .int .i64 0] 92
  have hB0 := (Below.refl w.heap.size w).alloc (Nat.le_refl _) (.cells #[.slice a l.length cap, .int .i64 0] 92)
  have hfar : ∀ w', (w.alloc (.cells #[.slice a l.length cap, .int .i64 0] 92)).grownBy w' (some w.heap.size) → BySl w' (.slice a l.length cap) l := fun w' hg => h.below (hB0.grown hg hB0.size (fun k hk => by simp at hk; omega))
  have hfin : ∀ w', (w.alloc (.cells #[.slice a l.length cap, .int .i64 0] 92)).grownBy w' (some w.heap.size) → Below w.heap.size w w' := fun w' hg => hB0.grown hg hB0.size (fun k hk => by simp at hk; omega)
  have hh := head_any w.heap.size a l cap _ k0 hfar (by omega)
  have hlt : w.heap.size < (w.alloc (.cells #[.slice a l.length cap, .int .i64 0] 92)).heap.size := by rw [World.size_alloc]; omega
  have q4 := n16_lt l 4
  have hcnt : (n16 l 6 : Int) + (n16 l 8 : Int) + (n16 l 10 : Int) - 1 = ((n16 l 6 + n16 l 8 + n16 l 10 - 1 : Nat) : Int) := by omega
  have hbig : n16 l 6 + n16 l 8 + n16 l 10 - 1 ≤ 65535 := by omega
  have s1 : (n16 l 6 : Int) + (n16 l 8 : Int) ≤ 400 := by omega
  have s2 : (n16 l 6 : Int) + (n16 l 8 : Int) + (n16 l 10 : Int) ≤ 400 := by omega
  simp only [hdA, ctA] at hh
  generalize ((n16 l 2 / 2048 % 16 : Nat) : Int) = op at *
  generalize ((n16 l 2 % 16 : Nat) : Int) = cd at *
  generalize (n16 l 2).testBit 15 = t15 at *
  generalize (n16 l 2).testBit 10 = t10 at *
  generalize (n16 l 2).testBit 9 = t9 at *
  generalize (n16 l 2).testBit 8 = t8 at *
  generalize (n16 l 2).testBit 7 = t7 at *
  generalize (n16 l 2).testBit 6 = t6 at *
  generalize (n16 l 2).testBit 5 = t5 at *
  generalize (n16 l 2).testBit 4 = t4 at *
  generalize (n16 l 0 : Int) = i0 at *
  generalize hk1 : n16 l 4 = k1 at *
  generalize hk2 : n16 l 6 = k2 at *
  generalize hk3 : n16 l 8 = k3 at *
  generalize hk4 : n16 l 10 = k4 at *
  obtain ⟨N, hN⟩ : ∃ N, N = k2 + k3 + k4 - 1 := ⟨_, rfl⟩
  rw [← hN] at hr hcnt hbig
  clear hk1 hk2 hk3 hk4 hN hs hc h
  go_enter Tryz.func53, Tryz.ntmps53
  go_wp2_with fail
  refine hh.mono ?_
  rintro e w1 (⟨_, rfl, r1, g1⟩ | ⟨hbad, _⟩)
  rotate_left 1
  · omega
  clear hh k0
  have hA1 := (Below.refl w1.heap.size w1).alloc (Nat.le_refl _) (.cells #[.int .i64 i0, .bool t15, .int .i64 op, .bool t10, .bool t9, .bool t8, .bool t7, .bool t6, .bool t5, .bool t4, .int .i64 cd] 42)
  have hA2 := (hA1.alloc hA1.size (.cells #[.int .i64 (k1 : Int), .int .i64 (k2 : Int), .int .i64 (k3 : Int), .int .i64 (k4 : Int)] 74))
  have kC := blk_new (w1.alloc (.cells #[.int .i64 i0, .bool t15, .int .i64 op, .bool t10, .bool t9, .bool t8, .bool t7, .bool t6, .bool t5, .bool t4, .int .i64 cd] 42)) #[.int .i64 (k1 : Int), .int .i64 (k2 : Int), .int .i64 (k3 : Int), .int .i64 (k4 : Int)] 74
  rw [World.size_alloc] at kC
  have r2 := rd_below r1 hA2
  have G2 := vf_below g1 hA2
  have hlt1 := blk_lt (rd_blk r1)
  have cc := fun i => blk_cell kC i
  go_wp2_with fail
  refine (questions_any w.heap.size a l cap 12 k1 _ r2 (fun w' hg => hfar w' (vf_step G2 hg)) hl (by omega) (by omega)).mono ?_
  rintro e w3 (⟨ys, q', v, hm, rfl, E3⟩ | ⟨c, hm, _⟩)
  rotate_left 1
  · rw [hq] at hm; cases hm
  rw [hq] at hm
  cases hm
  have kC3 := blk_grown kC E3.grown (by intro e; have := Option.some.inj e; omega)
  have G3 := vf_step G2 E3.grown
  have r3 := E3.rd
  have le3 := E3.le
  clear cc kC r1 r2 G2 g1 hA1 hA2 E3
  have cc := fun i => blk_cell kC3 i
  go_wp2_with fail
  refine (records_any w.heap.size a l cap P1 N _ r3 (fun w' hg => hfar w' (vf_step G3 hg)) le3 (by omega) hbig).mono ?_
  rintro e w4 (⟨zs, q2, v2, hm, rfl, E4⟩ | ⟨c, hm, _⟩)
  rotate_left 1
  · rw [hr] at hm; cases hm
  rw [hr] at hm
  cases hm
  have c1 := blk_cell (rd_blk E4.rd) 1
  have F := Nm.hide (And.intro E4.le (hfin _ (vf_step G3 E4.grown)))
  clear cc kC3 r3 le3 G3 E4 hfar hfin
  go_wp2
  go_ret
  exact ⟨rfl, F.out.1, F.out.2⟩
end Go.Proofs.YtfficbpalibmoaaGreatDoor
/- slices.Clone of bytes by its contract; places rise: mathematics. -/
namespace Go.Proofs.YtfficbpalibmoaaGreatDoor
open Go.RowKit
set_option linter.unusedVariables false

theorem dnF_ge (l : List UInt8) (start pos : Nat) (acc : List UInt8) (nx : Option Nat) : ∀ P, (nx = none → P ≤ pos) → (∀ x, nx = some x → P ≤ x) → ∀ s q, dnF l start pos acc nx = .ok s q → P ≤ q := by
  fun_induction dnF l start pos acc nx with
  | case1 start pos acc nx h h0 =>
    intro P h1 h2 s q e
    simp at e
    obtain ⟨_, rfl⟩ := e
    cases nx with
    | none => have := h1 rfl; simp; omega
    | some x => simpa using h2 x rfl
  | case2 start pos acc nx h h0 h1 h2 h3 ih =>
    intro P g1 g2 s q e
    refine ih P (fun h => by cases h) ?_ s q e
    intro x hxe
    simp only [Option.some.injEq] at hxe
    cases nx with
    | none => have := g1 rfl; simp at hxe; omega
    | some y => simp at hxe; have := g2 y rfl; omega
  | case6 start pos acc nx h h0 h1 h2 h3 h4 ih =>
    intro P g1 g2 s q e
    exact ih P (fun h => by have := g1 h; omega) g2 s q e
  | _ => intro P g1 g2 s q e; cases e
theorem quS_ge {l : List UInt8} {p q : Nat} {x : Qm} (h : quS l p = .ok x q) : p ≤ q := by
  rw [quS] at h
  cases hd : dnF l p p [] none using Rs.elim with
  | bad c => rw [hd] at h; cases h
  | ok s nx =>
    rw [hd] at h
    simp only at h
    have := dnF_ge l p p [] none p (fun _ => Nat.le_refl _) (fun x h => by cases h) s nx hd
    split at h
    · cases h; omega
    · cases h
theorem rrS_ge {l : List UInt8} {p q : Nat} {x : Rm} (h : rrS l p = .ok x q) : p ≤ q := by
  rw [rrS] at h
  cases hd : dnF l p p [] none using Rs.elim with
  | bad c => rw [hd] at h; cases h
  | ok s nx =>
    rw [hd] at h
    simp only at h
    have := dnF_ge l p p [] none p (fun _ => Nat.le_refl _) (fun x h => by cases h) s nx hd
    split at h
    · split at h
      · split at h
        · cases h
        · cases h; omega
      · cases h
    · cases h
theorem manyS_ge {α : Type} {f : Nat → Rs α} (hf : ∀ p x q, f p = .ok x q → p ≤ q) : ∀ (n p : Nat) (acc : List α) {ys : List α} {q : Nat}, manyS f n p acc = .ok ys q → p ≤ q := by
  intro n
  induction n with
  | zero => intro p acc ys q h; rw [manyS] at h; cases h; exact Nat.le_refl _
  | succ n ih =>
    intro p acc ys q h
    rw [manyS] at h
    cases hp : f p using Rs.elim with
    | bad c => rw [hp] at h; cases h
    | ok y r =>
      rw [hp] at h
      exact Nat.le_trans (hf p y r hp) (ih r _ h)
theorem last_ge {l : List UInt8} {qs : List Qm} {P1 q n : Nat} {xs : List Rm} (hq : manyS (quS l) (n16 l 4) 12 [] = .ok qs P1) (hr : manyS (rrS l) n P1 [] = .ok xs q) : 12 ≤ q :=
  Nat.le_trans (manyS_ge (fun _ _ _ h => quS_ge h) _ _ _ hq) (manyS_ge (fun _ _ _ h => rrS_ge h) _ _ _ hr)

set_option maxRecDepth 100000 in
set_option maxHeartbeats 1600000 in
theorem clone_by (a : Option Addr) (l : List UInt8) (cap : Nat) (w : World) (h : BySl w (.slice a l.length cap) l) (hp : 0 < l.length) (hl : l.length ≤ 1048576) :
    Calls Tryz.prog 31 #[.slice a l.length cap] w fun e w' => ∃ g c, e = .returned (.slice (some ⟨g, 0, none⟩) l.length c) ∧ w'.ownsRow w.heap.size 5 1 (.slice (some ⟨g, 0, none⟩) l.length c) l.length (Nm.bys l) ∧ Below w.heap.size w w' := by
  have hB := (Below.refl w.heap.size w).alloc (Nat.le_refl _) (.cells #[] 5)
  have hown : (w.alloc (.cells #[] 5)).ownsRow w.heap.size 5 1 (.slice (some ⟨w.heap.size, 0, none⟩) 0 0) 0 (Nm.bys []) := World.ownsRow_made w #[] 0 (Nat.le_refl _) (by decide) rfl
  obtain ⟨v', w', r1, o1, g1, n1⟩ := own_app hown (by simp [Value.ownBlock]) (h.below hB) (by omega) (by omega) (by simp)
  obtain ⟨_, a', c', e', _, _, hc⟩ := h
  cases e'
  obtain ⟨b, off, rfl, _⟩ := hc hp
  have hB1 := hB.grown g1 hB.size (fun k hk => by simp [Value.ownBlock] at hk; omega)
  rw [Nat.zero_add, List.nil_append] at o1
  have hnil : ∀ W, (binOp .eql 22 (.slice (some ⟨b, off, none⟩) l.length cap) (.slice none 0 0)).run Tryz.prog W = .ok (.bool false) W := fun W => by kernel_rfl
  clear hc hown
  go_enter Tryz.func31, Tryz.ntmps31
  go_wp2_with (refine wpList_app_ran rfl (.tmp 5) (.tmp 6) 22 22 rfl _ _ _ _ rfl rfl r1 ?_; clear r1)
  go_ret
  rcases o1.2 with ⟨e0, _⟩ | ⟨g, c, cur, e0, hrest⟩
  · rw [e0] at n1; simp [Value.ownBlock] at n1
  · subst e0
    exact ⟨g, c, rfl, o1, hB1⟩
end Go.Proofs.YtfficbpalibmoaaGreatDoor
