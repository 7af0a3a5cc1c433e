import Derived.Test.YtmclegfejkoaoaaDoorSgR
import Derived.Test.YtmclegfejkoaoaaDoorIHm
import Derived.Test.YtmclegfejkoaoaaDoorJFoldText
import Derived.Lib.AppendStr
/- (impl.signature).over by its contract. -/
namespace Go.Proofs.YtmclegfejkoaoaaDoor
open Go.RowKit
set_option linter.unusedVariables false

/-- append(v, s...): v a row of the call's own, s a text. -/
theorem own_str {w : World} {B n : Nat} {v : Value} {l : List UInt8} {s : ByteArray} {r : List UInt8} (hown : w.ownsRow B 5 1 v n (Nm.bys l)) (hs : s = ⟨r.toArray⟩) (hn : n ≤ 10000000) (hr : r.length ≤ 10000000) (hB : B ≤ w.heap.size) :
    ∃ v' w', (Builtin.append_ #[22, 9] 22 #[v, .string s]).run Tryd.prog w = .ok v' w' ∧ w'.ownsRow B 5 1 v' (n + r.length) (Nm.bys (l ++ r)) ∧ w.grownBy w' v.ownBlock ∧ (0 < r.length → v'.ownBlock ≠ none) := by
  obtain ⟨j0, hj, k0, k1, k2⟩ := info_parts Tryd.infoBy
  have hz : s.size = r.length := by rw [hs, ba_size]
  obtain ⟨v', w', h1, h2, h3, h4⟩ := Go.Lib.run_append_own_string (P := Tryd.prog) w B 22 9 22 5 j0 Tryd.underlying22 Tryd.underlying9 hj k0 k1 k2 v n (Nm.bys l) hown s (by unfold maxLen; omega) (by omega) hB
  rw [hz, Nm.bys_str, ← Nm.bys_append, hs] at h2
  have e : (ByteArray.mk r.toArray).data.toList = r := by simp
  rw [e] at h2
  refine ⟨v', w', h1, h2, h3, fun hp => ?_⟩
  rcases h2.2 with ⟨rfl, hz2⟩ | ⟨g, cap, cur, rfl, _⟩
  · omega
  · simp [Value.ownBlock]

theorem free_by {w : World} {B : Nat} {v : Value} {l : List UInt8} (h : FRow w B v l) : BySl w v l := by
  obtain ⟨g, cap, rfl, h1, h2, h3, h4, h5, h6⟩ := h
  refine ⟨by rw [Nm.bys_length, Nat.mul_one], _, _, rfl, h1, h2, fun _ => ⟨g, 0, rfl, fun i x hx => ?_⟩⟩
  obtain ⟨c, hc, rfl⟩ := bys_get hx
  rw [Nat.zero_add]
  exact h6 i c hc

/-- append(v, u...): u not empty. -/
theorem own_appP {w : World} {B n : Nat} {v u : Value} {l r : List UInt8} (hown : w.ownsRow B 5 1 v n (Nm.bys l)) (hs : BySl w u r) (hp : 0 < r.length) (hn : n ≤ 10000000) (hr : r.length ≤ 10000000) (hB : B ≤ w.heap.size) :
    ∃ v' w', (Builtin.append_ #[22, 22] 22 #[v, u]).run Tryd.prog w = .ok v' w' ∧ w'.ownsRow B 5 1 v' (n + r.length) (Nm.bys (l ++ r)) ∧ w.grownBy w' v.ownBlock := by
  obtain ⟨j0, hj, k0, k1, k2⟩ := info_parts Tryd.infoBy
  obtain ⟨hlen, a, cap, rfl, hcap, hmx, hc⟩ := hs
  obtain ⟨b, off, rfl, hcell⟩ := hc hp
  obtain ⟨v', w', h1, h2, h3, h4⟩ := run_append_own (P := Tryd.prog) w B 22 22 5 j0 (.int .u8 0) 1 1 Tryd.underlying22 hj k0 k1 k2 rfl (by decide) v n (Nm.bys l) hown ⟨b, off, none⟩ r.length cap (Nm.bys r) hlen (by
    intro j u hu
    rw [Nm.addr_add]
    exact hcell j u hu) (bys_ones r) (by unfold maxLen; omega) (by omega) hB
  exact ⟨v', w', h1, by rw [Nm.bys_append]; exact h2, h3⟩

/-- what is ahead of the body -/
def rqL (rq : List UInt8) : List UInt8 := if rq.length = 0 then [] else bigL rq.length 2 ++ rq

theorem wp_app_ran {P : Program} {o : Oper} {a : Act} {w : World} {K : Act → World → Prop} {Q : Exit → Act → World → Prop} (s x : Operand) (t t2 : TypeId)
    (ho : o.op = .call { callee := .builtin .append, args := #[s, x], argTypes := #[t, t2] }) (v u v' : Value) (w' : World) (hs : a.eval s = v) (hx : a.eval x = u)
    (hr : (Builtin.append_ #[t, t2] o.type #[v, u]).run P w = .ok v' w') (h : K (a.put o.dst v') w') : Oper.wp P o a w K Q := by
  unfold Oper.wp execOp
  simp only [ho, resolve, invoke, builtin, Sem.run_bind, Sem.run_pure, Result.andThen_ok, List.map_toArray, List.map_cons, List.map_nil, hs, hx, hr]
  exact h

set_option maxRecDepth 100000 in
set_option maxHeartbeats 3200000 in
theorem over_any (nm kn sc rq : ByteArray) (t f id : Nat) (sum mb : List UInt8) (vb : Value) (w : World) (hs : sum.length = 32) (ht : t ≤ 281474976710655) (hf : f ≤ 65535) (hb : BySl w vb mb) (hbp : 0 < mb.length) (hbl : mb.length ≤ 1000000)
    (hkn : kn.size ≤ maxLen) (hfz : (Nm.foldS kn).size ≤ 1000) (hsc : sc.size ≤ 1048576) (hrq : rq.size ≤ 1000) (hF : ∃ t fr, w.heap[0]? = some (.cells (hvA H0) t fr)) (hK : KAt w 1) :
    Calls Tryd.prog 22 #[.agg (sgA nm t f sum id), vb, .agg #[.string kn, .string sc], .string rq] w fun e w' => e = .returned (.agg (byA (sumL sc.data.toList rq.data.toList mb (Nm.foldS kn).data.toList t f))) ∧ Below w.heap.size w w' := by
  have hz32 : ∀ W, (zeroValue 41).run Tryd.prog W = .ok (.agg (Array.replicate 32 (.int .u8 0))) W := by
    have := zero_of_info (P := Tryd.prog) (t := 41) (v := .agg (Array.replicate 32 (.int .u8 0))) (n := 32) (by kernel_rfl)
    exact this.1
  have hB0 := (Below.refl w.heap.size w).alloc (Nat.le_refl _) (.cells (sgA nm t f sum id) 43)
  have hB1 := hB0.alloc hB0.size (.cells #[.string kn, .string sc] 29)
  have hB2 := hB1.alloc hB1.size (.cells (Array.replicate 32 (.int .u8 0)) 41)
  obtain ⟨W0, hW0⟩ : ∃ W0, W0 = ((w.alloc (.cells (sgA nm t f sum id) 43)).alloc (.cells #[.string kn, .string sc] 29)).alloc (.cells (Array.replicate 32 (.int .u8 0)) 41) := ⟨_, rfl⟩
  have k4 : Blk W0 w.heap.size (sgA nm t f sum id) 43 := by rw [hW0]; exact blk_alloc (blk_alloc (blk_new _ _ _) _) _
  have k6 : Blk W0 (w.heap.size + 1) #[.string kn, .string sc] 29 := by
    have h := blk_new (w.alloc (.cells (sgA nm t f sum id) 43)) #[.string kn, .string sc] 29
    rw [World.size_alloc] at h
    rw [hW0]; exact blk_alloc h _
  have k8 : Blk W0 (w.heap.size + 1 + 1) (Array.replicate 32 (.int .u8 0)) 41 := by
    have h := blk_new ((w.alloc (.cells (sgA nm t f sum id) 43)).alloc (.cells #[.string kn, .string sc] 29)) (Array.replicate 32 (.int .u8 0)) 41
    rw [World.size_alloc, World.size_alloc] at h
    rw [hW0]; exact h
  have hBW : Below w.heap.size w W0 := by rw [hW0]; exact hB2
  have hb0 := hb.below hBW
  have hfo := fun W => implFoldName_any kn W hkn
  have h255 : ∀ W, Calls Tryd.prog 24 #[.int .i64 255, .int .i64 2] W fun e w' => e = .returned (.string ⟨(bigL 255 2).toArray⟩) ∧ Below W.heap.size W w' := fun W => bigBytesN_any 255 2 W (by omega) (by decide) (by decide)
  have h04 : ∀ W, Calls Tryd.prog 24 #[.int .i64 0, .int .i64 4] W fun e w' => e = .returned (.string ⟨(bigL 0 4).toArray⟩) ∧ Below W.heap.size W w' := fun W => bigBytesN_any 0 4 W (by omega) (by decide) (by decide)
  have hfl : (Nm.foldS kn).data.toList.length = (Nm.foldS kn).size := by simp
  have hrl : rq.data.toList.length = rq.size := by simp
  obtain ⟨C27, a27, e27⟩ := cat_ex (Nm.foldS kn).data.toList (bigL 255 2) (Nm.foldS kn) ⟨(bigL 255 2).toArray⟩ (ba_mk _).symm rfl (by simp only [big_len]; omega)
  obtain ⟨C29, a29, e29⟩ := cat_ex _ (bigL 0 4) C27 ⟨(bigL 0 4).toArray⟩ e27 rfl (by simp only [big_len, List.length_append]; omega)
  obtain ⟨C30, a30, e30⟩ := cat_ex _ algL C29 ⟨#[11, 104, 109, 97, 99, 45, 115, 104, 97, 50, 53, 54, 0]⟩ e29 rfl (by simp only [big_len, List.length_append, List.length_cons, List.length_nil]; omega)
  have hl30 : ((Nm.foldS kn).data.toList ++ bigL 255 2 ++ bigL 0 4 ++ algL).length ≤ 1100 := by simp only [big_len, List.length_append, List.length_cons, List.length_nil]; omega
  generalize hR30 : (Nm.foldS kn).data.toList ++ bigL 255 2 ++ bigL 0 4 ++ algL = R30 at *
  have HR30 := Nm.hide hR30
  have HE30 := Nm.hide e30
  have HFL := Nm.hide hfl
  have HRL := Nm.hide hrl
  clear e27 e29 e30 hR30 hfl hrl
  generalize (⟨(bigL 255 2).toArray⟩ : ByteArray) = B2 at h255 a27
  generalize (⟨(bigL 0 4).toArray⟩ : ByteArray) = B4 at h04 a29
  obtain ⟨FK, hFK⟩ : ∃ FK, FK = Nm.foldS kn := ⟨_, rfl⟩
  rw [← hFK] at hfo a27 hfz
  have HFK := Nm.hide hFK
  clear hFK
  have h6 : ∀ W, Calls Tryd.prog 24 #[.int .i64 (t : Int), .int .i64 6] W fun e w' => e = .returned (.string ⟨(bigL t 6).toArray⟩) ∧ Below W.heap.size W w' := fun W => bigBytesN_any t 6 W (by omega) (by decide) (by decide)
  have h2 : ∀ W, Calls Tryd.prog 24 #[.int .i64 (f : Int), .int .i64 2] W fun e w' => e = .returned (.string ⟨(bigL f 2).toArray⟩) ∧ Below W.heap.size W w' := fun W => bigBytesN_any f 2 W (by omega) (by decide) (by decide)
  obtain ⟨C39, a39, e39⟩ := cat_ex (bigL t 6) (bigL f 2) ⟨(bigL t 6).toArray⟩ ⟨(bigL f 2).toArray⟩ rfl rfl (by simp only [big_len]; omega)
  obtain ⟨C40, a40, e40⟩ := cat_ex _ [0, 0, 0, 0] C39 ⟨#[0, 0, 0, 0]⟩ e39 rfl (by simp only [big_len, List.length_append, List.length_cons, List.length_nil]; omega)
  have hl40 : (bigL t 6 ++ bigL f 2 ++ [0, 0, 0, 0]).length ≤ 100 := by simp only [big_len, List.length_append, List.length_cons, List.length_nil]; omega
  have HT0 : Hid (textL rq.data.toList mb (Nm.foldS kn).data.toList t f = rqL rq.data.toList ++ mb ++ R30 ++ (bigL t 6 ++ bigL f 2 ++ [0, 0, 0, 0])) := by show _ = _; rw [← HR30.out, textL, rqL]; simp only [List.append_assoc]
  generalize hR40 : bigL t 6 ++ bigL f 2 ++ [0, 0, 0, 0] = R40 at *
  have HE40 := Nm.hide e40
  have HSL := Nm.hide (show sc.data.toList.length = sc.size by simp)
  clear e39 e40 hR40
  generalize (⟨(bigL t 6).toArray⟩ : ByteArray) = B6 at h6 a39
  generalize (⟨(bigL f 2).toArray⟩ : ByteArray) = BF at h2 a39
  have hS : ∀ W, Below W0.heap.size W0 W → (W.cell? ⟨w.heap.size, 1, none⟩ = some (.int .i64 (t : Int)) ∧ W.cell? ⟨w.heap.size, 2, none⟩ = some (.int .i64 (f : Int))) ∧ True := by
    intro W hW
    have k := blk_below k4 hW
    exact ⟨⟨(blk_cell k 1).trans sgA_1, (blk_cell k 2).trans sgA_2⟩, trivial⟩
  clear hb hB0 hB1 hB2 hkn ht hf
  obtain ⟨ab, cb, rfl⟩ : ∃ a c, vb = .slice a mb.length c := by obtain ⟨_, a, c, e, _⟩ := hb0; exact ⟨a, c, e⟩
  by_cases hq : rq.size = 0
  · have hq' : rq.toList.isEmpty = true := by
      have : rq.toList = [] := List.length_eq_zero_iff.1 (by rw [Nm.tl_len]; exact hq)
      simp [this]
    have HQ := Nm.hide hq
    clear hq
    obtain ⟨n0, hn0⟩ : ∃ n0 : Nat, n0 = 0 := ⟨_, rfl⟩
    have hown : W0.ownsRow W0.heap.size 5 1 (.slice none 0 0) n0 (Nm.bys []) := by rw [hn0]; exact World.ownsRow_nil W0 W0.heap.size 5 1
    have hnb : n0 ≤ 1100 := by omega
    obtain ⟨hdr, hhd⟩ : ∃ hdr : List UInt8, hdr = [] := ⟨_, rfl⟩
    rw [← hhd] at hown
    have HDL : Hid (hdr.length = n0) := by show _ = _; rw [hhd, hn0]; rfl
    have HT : Hid (textL rq.data.toList mb (Nm.foldS kn).data.toList t f = hdr ++ mb ++ R30 ++ R40) := by show _ = _; rw [HT0.out, rqL, if_pos (by rw [HRL.out]; exact HQ.out), hhd]
    clear hn0 hhd HT0
    have hbel := Below.refl W0.heap.size W0
    have hbr := hb0
    have hsz := Nat.le_refl W0.heap.size
    subst hW0
    go_enter Tryd.func22, Tryd.ntmps22
    obtain ⟨v2, w2, r2, o2, g2⟩ := own_appP hown hbr hbp (by omega) (by omega) hsz
    have hB2 := hbel.grown g2 hsz (fun q hq => (hown.lt q hq).1)
    obtain ⟨ya, yc, rfl⟩ := own_sl o2
    have q2 := blk_cell (blk_below k6 hB2) 0
    clear hbr g2 hown hbel
    go_wp2_with (first
      | (at_builtin; refine wpList_app_ran rfl (.tmp 12) (.tmp 17) 22 9 rfl _ _ _ _ rfl rfl r1 ?_; clear r1)
      | (at_builtin; refine wpList_app_ran rfl (.tmp 19) (.tmp 20) 22 22 rfl _ _ _ _ rfl rfl r2 ?_; clear r2)
      | (go_at_call 32; refine (hfo _).mono ?_; rintro e w3 ⟨rfl, b3⟩))
    have hB3 := Nm.below_two hB2 b3
    have o3 := own_below o2 b3
    clear hB2 b3 o2 q2 hsz hfo
    refine (h255 _).mono ?_
    rintro e w4 ⟨rfl, b4⟩
    have hB4 := Nm.below_two hB3 b4
    have o4 := own_below o3 b4
    clear hB3 b4 o3
    go_wp2_with fail
    refine (h04 _).mono ?_
    rintro e w5 ⟨rfl, b5⟩
    have hB5 := Nm.below_two hB4 b5
    have o5 := own_below o4 b5
    have hsz5 := hB5.size
    clear hB4 b5 o4
    obtain ⟨v6, w6, r6, o6, g6, _⟩ := own_str o5 HE30.out (by omega) (by omega) hsz5
    have hB6 := hB5.grown g6 hsz5 (fun q hq => (o5.lt q hq).1)
    obtain ⟨xa6, xc6, rfl⟩ := own_sl o6
    clear g6 o5 hB5
    go_wp2_with (at_builtin; refine wpList_app_ran rfl (.tmp 22) (.tmp 30) 22 9 rfl _ _ _ _ rfl rfl r6 ?_; clear r6 a27 a29 a30 h255 h04 hsz5)
    have hS0 := hS w6.drew hB6.drew
    have hbl := hB6.drew
    have o7 : w6.drew.ownsRow _ 5 1 (.slice xa6 (n0 + mb.length + R30.length) xc6) (n0 + mb.length + R30.length) (Nm.bys (hdr ++ mb ++ R30)) := o6
    clear hB6 o6
    refine wp_region_last (S := fun W => (W.cell? ⟨w.heap.size, 1, none⟩ = some (.int .i64 (t : Int)) ∧ W.cell? ⟨w.heap.size, 2, none⟩ = some (.int .i64 (f : Int))) ∧ True) (L := 1000) (by kernel_rfl) hS0 (fun hH => ?_)
    clear hS0
    refine wpAnyL_take (i := 0) (v := ?_) rfl (by kernel_rfl) (by kernel_rfl) (by kernel_rfl) (by kernel_rfl) (fun _ _ _ h => h) (Or.inl ⟨by rfl, ?_⟩) (by assumption) ?_
    rotate_left 1
    · (intro w hSw; go_simp; try (with_reducible rfl))
    refine wpAnyL_take (i := 1) (v := ?_) rfl (by kernel_rfl) (by kernel_rfl) (by kernel_rfl) (by kernel_rfl) (fun _ _ _ h => h) (Or.inl ⟨by rfl, ?_⟩) (by assumption) ?_
    rotate_left 1
    · (intro w hSw; go_simp; try (with_reducible rfl))
    refine wpAnyL_take (i := 2) (v := ?_) rfl (by kernel_rfl) (by kernel_rfl) (by kernel_rfl) (by kernel_rfl) (fun _ _ _ h => h) (Or.inl ⟨by rfl, ?_⟩) (by assumption) ?_
    rotate_left 1
    · (intro w hSw; go_simp; try (with_reducible rfl))
    refine wpAnyL_take (i := 4) (v := ?_) rfl (by kernel_rfl) (by kernel_rfl) (by kernel_rfl) (by kernel_rfl) (fun _ _ _ h => h) (Or.inl ⟨by rfl, ?_⟩) (by assumption) ?_
    rotate_left 1
    · (intro w hSw; go_simp; try (with_reducible rfl))
    refine wpAnyL_take (i := 5) (v := ?_) rfl (by kernel_rfl) (by kernel_rfl) (by kernel_rfl) (by kernel_rfl) (fun _ _ _ h => h) (Or.inl ⟨by rfl, ?_⟩) (by assumption) ?_
    rotate_left 1
    · (intro w hSw; go_simp; try (with_reducible rfl))
    refine wpAnyL_one (i := 3) (by kernel_rfl) rfl (fun K hK' => ?_)
    go_simp
    refine (h6 _).mono ?_
    rintro e w8 ⟨rfl, b8⟩
    have hb8 := Nm.below_two hbl b8
    have o8 := own_below o7 b8
    clear hbl o7 b8
    go_wp2_with fail
    refine hK'.out _ _ (hS _ hb8) (fun hH => ?_)
    clear hK' K
    refine wpAnyL_one (i := 6) (by kernel_rfl) rfl (fun K hK' => ?_)
    go_simp
    refine (h2 _).mono ?_
    rintro e w9 ⟨rfl, b9⟩
    have hb9 := Nm.below_two hb8 b9
    have o9 := own_below o8 b9
    clear hb8 o8 b9
    go_wp2_with fail
    refine hK'.out _ _ (hS _ hb9) (fun hH => ?_)
    clear hK' K
    refine wpAnyL_take (i := 7) (v := ?_) rfl (by kernel_rfl) (by kernel_rfl) (by kernel_rfl) (by kernel_rfl) (fun _ _ _ h => h) (Or.inl ⟨by rfl, ?_⟩) (by assumption) ?_
    rotate_left 1
    · (intro w hSw; go_simp; try (with_reducible rfl))
    refine wpAnyL_take (i := 8) (v := ?_) rfl (by kernel_rfl) (by kernel_rfl) (by kernel_rfl) (by kernel_rfl) (fun _ _ _ h => h) (Or.inl ⟨by rfl, ?_⟩) (by assumption) ?_
    rotate_left 1
    · (intro w hSw; go_simp; try (with_reducible rfl))
    obtain ⟨v10, w10, r10, o10, g10, _⟩ := own_str o9 HE40.out (by omega) (by omega) hb9.size
    have hb10 := hb9.grown g10 hb9.size (fun q hq => (o9.lt q hq).1)
    obtain ⟨xa10, xc10, rfl⟩ := own_sl o10
    clear g10 o9 hb9
    refine wpAnyL_one (i := 9) (by kernel_rfl) rfl (fun K hK' => ?_)
    rw [if_pos (by rfl)]
    refine wp_app_ran (.tmp 32) (.tmp 40) 22 9 rfl _ _ _ _ rfl rfl r10 ?_
    refine hK'.out _ _ (hS _ hb10) (fun hH => ?_)
    clear hK' K r10
    refine wpAnyL_take (i := 10) (v := ?_) rfl (by kernel_rfl) (by kernel_rfl) (by kernel_rfl) (by kernel_rfl) (fun _ _ _ h => h) (Or.inl ⟨by rfl, ?_⟩) (by assumption) ?_
    rotate_left 1
    · (intro w hSw; go_simp; try (with_reducible rfl))
    refine wpAnyL_done (by kernel_rfl) ?_
    have q1 := (blk_cell (blk_below k6 hb10) 1).trans rfl
    have k8' := blk_below k8 hb10
    have hBw := Nm.below_two hBW hb10
    obtain ⟨vs, w11, r11, f11, b11⟩ := FRow.new sc w10 (by omega)
    have hby : BySl w11 (.slice xa10 (n0 + mb.length + R30.length + R40.length) xc10) (hdr ++ mb ++ R30 ++ R40) := by
      have e : (hdr ++ mb ++ R30 ++ R40).length = n0 + mb.length + R30.length + R40.length := by rw [List.length_append, List.length_append, List.length_append, HDL.out]
      show CRow _ _ (hdr ++ mb ++ R30 ++ R40).length _ _
      rw [e]
      exact (CRow.of_owns o10).below b11
    have hks : BySl w11 vs sc.data.toList := free_by f11
    have hB11 := Nm.below_two hBw b11
    have k11 := blk_below k8' b11
    have hhm := implHmac_any vs _ sc.data.toList _ w11 hks hby (by rw [HSL.out]; exact hsc) (by rw [List.length_append, List.length_append, List.length_append, HDL.out]; omega) (by
      obtain ⟨t, fr, hh⟩ := hF
      exact ⟨t, fr, (hB11.block _ (Array.getElem?_eq_some_iff.1 hh).1).trans hh⟩) (hK.below hB11)
    have hs32 := hmac_len sc.data.toList (hdr ++ mb ++ R30 ++ R40)
    have HR : Hid (sumL sc.data.toList rq.data.toList mb (Nm.foldS kn).data.toList t f = hmacL sc.data.toList (hdr ++ mb ++ R30 ++ R40)) := by show _ = _; rw [sumL, HT.out]
    generalize hmacL sc.data.toList (hdr ++ mb ++ R30 ++ R40) = sm at *
    have hsM : (byA sm).size = 32 := by rw [byA_size]; exact hs32
    have hinfM : (Tryd.prog.info? 41).map (·.size) = some (byA sm).size := by rw [hsM]; kernel_rfl
    have HsM := Nm.hide hsM
    obtain ⟨sa, scp, rfl⟩ : ∃ a c, vs = .slice a sc.data.toList.length c := by obtain ⟨_, a, c, e, _⟩ := hks; exact ⟨a, c, e⟩
    clear hby hks f11 b11 hBw k8' hb10 o10 hS hs32 hsM hF hK hH h6 h2
    go_wp2_with fail
    refine hhm.mono ?_
    rintro e w12 ⟨rfl, b12⟩
    have hB12 := Nm.below_two hB11 b12
    have k12 := blk_below k11 b12
    have hsz12 := hB12.size
    clear hhm k11 hB11 b12
    go_wp2_with (refine wpList_store_blk (.tmp 8) (.tmp 46) 41 rfl rfl rfl (w.heap.size + 1 + 1) _ _ k12 rfl rfl hinfM (by rw [HsM.out]; simp) (byA_one _) ?_; intro w13 k13 o13)
    have hb13 := o13.below hB12 (by omega) hsz12
    exact bodyPost_ret (v := .agg _) (run_results_cell Tryd.results22 rfl k13 Tryd.underlying41 hinfM) rfl ⟨by rw [HR.out], hb13⟩
  · have hq' : rq.toList.isEmpty = false := by
      have : rq.toList ≠ [] := fun e => hq (by rw [← Nm.tl_len, e]; rfl)
      simpa using this
    have hrz : (rq.size : Int) = (rq.size : Int) := rfl
    have hq2 : ∀ W, Calls Tryd.prog 24 #[.int .i64 (rq.size : Int), .int .i64 2] W fun e w' => e = .returned (.string ⟨(bigL rq.size 2).toArray⟩) ∧ Below W.heap.size W w' := fun W => bigBytesN_any rq.size 2 W (by omega) (by decide) (by decide)
    obtain ⟨C17, a17, e17⟩ := cat_ex (bigL rq.size 2) rq.data.toList ⟨(bigL rq.size 2).toArray⟩ rq rfl (ba_mk _).symm (by simp only [big_len, HRL.out]; omega)
    obtain ⟨hdr, hhd⟩ : ∃ hdr : List UInt8, hdr = bigL rq.size 2 ++ rq.data.toList := ⟨_, rfl⟩
    have HT : Hid (textL rq.data.toList mb (Nm.foldS kn).data.toList t f = hdr ++ mb ++ R30 ++ R40) := by show _ = _; rw [HT0.out, rqL, if_neg (by rw [HRL.out]; exact hq), hhd, HRL.out]
    have hdl : hdr.length = 2 + rq.size := by rw [hhd, List.length_append, big_len, HRL.out]
    rw [← hhd] at e17
    obtain ⟨n0, hn0⟩ : ∃ n0 : Nat, n0 = 0 + hdr.length := ⟨_, rfl⟩
    have HDL : Hid (hdr.length = n0) := by show _ = _; omega
    have hnb : n0 ≤ 1100 := by omega
    have hdb : hdr.length ≤ 1100 := by omega
    have HE17 := Nm.hide e17
    generalize (⟨(bigL rq.size 2).toArray⟩ : ByteArray) = BQ at hq2 a17
    have HN0 := Nm.hide hn0
    clear e17 hhd hdl hn0 hrz HT0 hq
    subst hW0
    go_enter Tryd.func22, Tryd.ntmps22
    go_wp2_with fail
    refine (hq2 _).mono ?_
    rintro e w1 ⟨rfl, b1⟩
    have o0 : w1.ownsRow _ 5 1 (.slice none 0 0) 0 (Nm.bys []) := World.ownsRow_nil w1 (((w.alloc (.cells (sgA nm t f sum id) 43)).alloc (.cells #[.string kn, .string sc] 29)).alloc (.cells (Array.replicate 32 (.int .u8 0)) 41)).heap.size 5 1
    obtain ⟨v1, w1', r1, hown, g1, _⟩ := own_str o0 HE17.out (by omega) (by omega) b1.size
    have hbel := b1.grown g1 b1.size (fun q hq => (o0.lt q hq).1)
    rw [← HN0.out, List.nil_append] at hown
    obtain ⟨xa1, xc1, rfl⟩ := own_sl hown
    have hsz := hbel.size
    have hbr := hb0.below hbel
    clear o0 g1 b1 hq2
    obtain ⟨v2, w2, r2, o2, g2⟩ := own_appP hown hbr hbp (by omega) (by omega) hsz
    have hB2 := hbel.grown g2 hsz (fun q hq => (hown.lt q hq).1)
    obtain ⟨ya, yc, rfl⟩ := own_sl o2
    have q2 := blk_cell (blk_below k6 hB2) 0
    clear hbr g2 hown hbel
    go_wp2_with (first
      | (at_builtin; refine wpList_app_ran rfl (.tmp 12) (.tmp 17) 22 9 rfl _ _ _ _ rfl rfl r1 ?_; clear r1)
      | (at_builtin; refine wpList_app_ran rfl (.tmp 19) (.tmp 20) 22 22 rfl _ _ _ _ rfl rfl r2 ?_; clear r2)
      | (go_at_call 32; refine (hfo _).mono ?_; rintro e w3 ⟨rfl, b3⟩))
    have hB3 := Nm.below_two hB2 b3
    have o3 := own_below o2 b3
    clear hB2 b3 o2 q2 hsz hfo
    refine (h255 _).mono ?_
    rintro e w4 ⟨rfl, b4⟩
    have hB4 := Nm.below_two hB3 b4
    have o4 := own_below o3 b4
    clear hB3 b4 o3
    go_wp2_with fail
    refine (h04 _).mono ?_
    rintro e w5 ⟨rfl, b5⟩
    have hB5 := Nm.below_two hB4 b5
    have o5 := own_below o4 b5
    have hsz5 := hB5.size
    clear hB4 b5 o4
    obtain ⟨v6, w6, r6, o6, g6, _⟩ := own_str o5 HE30.out (by omega) (by omega) hsz5
    have hB6 := hB5.grown g6 hsz5 (fun q hq => (o5.lt q hq).1)
    obtain ⟨xa6, xc6, rfl⟩ := own_sl o6
    clear g6 o5 hB5
    go_wp2_with (at_builtin; refine wpList_app_ran rfl (.tmp 22) (.tmp 30) 22 9 rfl _ _ _ _ rfl rfl r6 ?_; clear r6 a27 a29 a30 h255 h04 hsz5)
    have hS0 := hS w6.drew hB6.drew
    have hbl := hB6.drew
    have o7 : w6.drew.ownsRow _ 5 1 (.slice xa6 (n0 + mb.length + R30.length) xc6) (n0 + mb.length + R30.length) (Nm.bys (hdr ++ mb ++ R30)) := o6
    clear hB6 o6
    refine wp_region_last (S := fun W => (W.cell? ⟨w.heap.size, 1, none⟩ = some (.int .i64 (t : Int)) ∧ W.cell? ⟨w.heap.size, 2, none⟩ = some (.int .i64 (f : Int))) ∧ True) (L := 1000) (by kernel_rfl) hS0 (fun hH => ?_)
    clear hS0
    refine wpAnyL_take (i := 0) (v := ?_) rfl (by kernel_rfl) (by kernel_rfl) (by kernel_rfl) (by kernel_rfl) (fun _ _ _ h => h) (Or.inl ⟨by rfl, ?_⟩) (by assumption) ?_
    rotate_left 1
    · (intro w hSw; go_simp; try (with_reducible rfl))
    refine wpAnyL_take (i := 1) (v := ?_) rfl (by kernel_rfl) (by kernel_rfl) (by kernel_rfl) (by kernel_rfl) (fun _ _ _ h => h) (Or.inl ⟨by rfl, ?_⟩) (by assumption) ?_
    rotate_left 1
    · (intro w hSw; go_simp; try (with_reducible rfl))
    refine wpAnyL_take (i := 2) (v := ?_) rfl (by kernel_rfl) (by kernel_rfl) (by kernel_rfl) (by kernel_rfl) (fun _ _ _ h => h) (Or.inl ⟨by rfl, ?_⟩) (by assumption) ?_
    rotate_left 1
    · (intro w hSw; go_simp; try (with_reducible rfl))
    refine wpAnyL_take (i := 4) (v := ?_) rfl (by kernel_rfl) (by kernel_rfl) (by kernel_rfl) (by kernel_rfl) (fun _ _ _ h => h) (Or.inl ⟨by rfl, ?_⟩) (by assumption) ?_
    rotate_left 1
    · (intro w hSw; go_simp; try (with_reducible rfl))
    refine wpAnyL_take (i := 5) (v := ?_) rfl (by kernel_rfl) (by kernel_rfl) (by kernel_rfl) (by kernel_rfl) (fun _ _ _ h => h) (Or.inl ⟨by rfl, ?_⟩) (by assumption) ?_
    rotate_left 1
    · (intro w hSw; go_simp; try (with_reducible rfl))
    refine wpAnyL_one (i := 3) (by kernel_rfl) rfl (fun K hK' => ?_)
    go_simp
    refine (h6 _).mono ?_
    rintro e w8 ⟨rfl, b8⟩
    have hb8 := Nm.below_two hbl b8
    have o8 := own_below o7 b8
    clear hbl o7 b8
    go_wp2_with fail
    refine hK'.out _ _ (hS _ hb8) (fun hH => ?_)
    clear hK' K
    refine wpAnyL_one (i := 6) (by kernel_rfl) rfl (fun K hK' => ?_)
    go_simp
    refine (h2 _).mono ?_
    rintro e w9 ⟨rfl, b9⟩
    have hb9 := Nm.below_two hb8 b9
    have o9 := own_below o8 b9
    clear hb8 o8 b9
    go_wp2_with fail
    refine hK'.out _ _ (hS _ hb9) (fun hH => ?_)
    clear hK' K
    refine wpAnyL_take (i := 7) (v := ?_) rfl (by kernel_rfl) (by kernel_rfl) (by kernel_rfl) (by kernel_rfl) (fun _ _ _ h => h) (Or.inl ⟨by rfl, ?_⟩) (by assumption) ?_
    rotate_left 1
    · (intro w hSw; go_simp; try (with_reducible rfl))
    refine wpAnyL_take (i := 8) (v := ?_) rfl (by kernel_rfl) (by kernel_rfl) (by kernel_rfl) (by kernel_rfl) (fun _ _ _ h => h) (Or.inl ⟨by rfl, ?_⟩) (by assumption) ?_
    rotate_left 1
    · (intro w hSw; go_simp; try (with_reducible rfl))
    obtain ⟨v10, w10, r10, o10, g10, _⟩ := own_str o9 HE40.out (by omega) (by omega) hb9.size
    have hb10 := hb9.grown g10 hb9.size (fun q hq => (o9.lt q hq).1)
    obtain ⟨xa10, xc10, rfl⟩ := own_sl o10
    clear g10 o9 hb9
    refine wpAnyL_one (i := 9) (by kernel_rfl) rfl (fun K hK' => ?_)
    rw [if_pos (by rfl)]
    refine wp_app_ran (.tmp 32) (.tmp 40) 22 9 rfl _ _ _ _ rfl rfl r10 ?_
    refine hK'.out _ _ (hS _ hb10) (fun hH => ?_)
    clear hK' K r10
    refine wpAnyL_take (i := 10) (v := ?_) rfl (by kernel_rfl) (by kernel_rfl) (by kernel_rfl) (by kernel_rfl) (fun _ _ _ h => h) (Or.inl ⟨by rfl, ?_⟩) (by assumption) ?_
    rotate_left 1
    · (intro w hSw; go_simp; try (with_reducible rfl))
    refine wpAnyL_done (by kernel_rfl) ?_
    have q1 := (blk_cell (blk_below k6 hb10) 1).trans rfl
    have k8' := blk_below k8 hb10
    have hBw := Nm.below_two hBW hb10
    obtain ⟨vs, w11, r11, f11, b11⟩ := FRow.new sc w10 (by omega)
    have hby : BySl w11 (.slice xa10 (n0 + mb.length + R30.length + R40.length) xc10) (hdr ++ mb ++ R30 ++ R40) := by
      have e : (hdr ++ mb ++ R30 ++ R40).length = n0 + mb.length + R30.length + R40.length := by rw [List.length_append, List.length_append, List.length_append, HDL.out]
      show CRow _ _ (hdr ++ mb ++ R30 ++ R40).length _ _
      rw [e]
      exact (CRow.of_owns o10).below b11
    have hks : BySl w11 vs sc.data.toList := free_by f11
    have hB11 := Nm.below_two hBw b11
    have k11 := blk_below k8' b11
    have hhm := implHmac_any vs _ sc.data.toList _ w11 hks hby (by rw [HSL.out]; exact hsc) (by rw [List.length_append, List.length_append, List.length_append, HDL.out]; omega) (by
      obtain ⟨t, fr, hh⟩ := hF
      exact ⟨t, fr, (hB11.block _ (Array.getElem?_eq_some_iff.1 hh).1).trans hh⟩) (hK.below hB11)
    have hs32 := hmac_len sc.data.toList (hdr ++ mb ++ R30 ++ R40)
    have HR : Hid (sumL sc.data.toList rq.data.toList mb (Nm.foldS kn).data.toList t f = hmacL sc.data.toList (hdr ++ mb ++ R30 ++ R40)) := by show _ = _; rw [sumL, HT.out]
    generalize hmacL sc.data.toList (hdr ++ mb ++ R30 ++ R40) = sm at *
    have hsM : (byA sm).size = 32 := by rw [byA_size]; exact hs32
    have hinfM : (Tryd.prog.info? 41).map (·.size) = some (byA sm).size := by rw [hsM]; kernel_rfl
    have HsM := Nm.hide hsM
    obtain ⟨sa, scp, rfl⟩ : ∃ a c, vs = .slice a sc.data.toList.length c := by obtain ⟨_, a, c, e, _⟩ := hks; exact ⟨a, c, e⟩
    clear hby hks f11 b11 hBw k8' hb10 o10 hS hs32 hsM hF hK hH h6 h2
    go_wp2_with fail
    refine hhm.mono ?_
    rintro e w12 ⟨rfl, b12⟩
    have hB12 := Nm.below_two hB11 b12
    have k12 := blk_below k11 b12
    have hsz12 := hB12.size
    clear hhm k11 hB11 b12
    go_wp2_with (refine wpList_store_blk (.tmp 8) (.tmp 46) 41 rfl rfl rfl (w.heap.size + 1 + 1) _ _ k12 rfl rfl hinfM (by rw [HsM.out]; simp) (byA_one _) ?_; intro w13 k13 o13)
    have hb13 := o13.below hB12 (by omega) hsz12
    exact bodyPost_ret (v := .agg _) (run_results_cell Tryd.results22 rfl k13 Tryd.underlying41 hinfM) rfl ⟨by rw [HR.out], hb13⟩
end Go.Proofs.YtmclegfejkoaoaaDoor
