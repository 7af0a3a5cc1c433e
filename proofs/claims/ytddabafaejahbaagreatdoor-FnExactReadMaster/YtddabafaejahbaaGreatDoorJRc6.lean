import Derived.Test.YtddabafaejahbaaGreatDoorJINbd
import Derived.Test.YtddabafaejahbaaGreatDoorJTxt8
/- slices.Repeat of one form, by its contract; the reader of one text or more. -/
namespace Go.Proofs.YtddabafaejahbaaGreatDoor
open Go.RowKit
set_option linter.unusedVariables false
theorem wpList_copy_ranR {P : Program} {ops : Array Oper} {rest : List Oper} {o : Oper} {a : Act} {w : World} {Q : Exit → Act → World → Prop} (hgd : o.guard = none) (s x : Operand) (t t2 : TypeId)
 (ho : o.op = .call { callee := .builtin .copy, args := #[s, x], argTypes := #[t, t2] }) (v u v' : Value) (w' : World) (hs : a.eval s = v) (hx : a.eval x = u)
 (hr : (Builtin.copy_ #[t, t2] o.type #[v, u]).run P w = .ok v' w') (h : wpList P ops Q rest (a.put o.dst v') w') : wpList P ops Q (o :: rest) a w :=
 wpList_plain hgd fun _ hK => by
  unfold Oper.wp execOp; simp only [ho, resolve, invoke, builtin, Sem.run_bind, Sem.run_pure, Result.andThen_ok, List.map_toArray, List.map_cons, List.map_nil, hs, hx, hr]; exact hK _ _ h
theorem step_copy_ranR {P : Program} {ops : Array Oper} {o : Oper} {a : Act} {w : World} {K : Act → World → Prop} {Q : Exit → Act → World → Prop} {E : Prop} (hgd : o.guard = none) (s x : Operand) (t t2 : TypeId)
 (ho : o.op = .call { callee := .builtin .copy, args := #[s, x], argTypes := #[t, t2] }) (v u v' : Value) (w' : World) (hs : a.eval s = v) (hx : a.eval x = u)
 (hr : (Builtin.copy_ #[t, t2] o.type #[v, u]).run P w = .ok v' w') (h : K (a.put o.dst v') w') : if Region.wanted o (yielded ops a.tmps) = true then Oper.wp P o a w K Q else E := by
 have hw : Region.wanted o (yielded ops a.tmps) = true := by simp [Region.wanted, hgd]
 rw [if_pos hw]; unfold Oper.wp execOp; simp only [ho, resolve, invoke, builtin, Sem.run_bind, Sem.run_pure, Result.andThen_ok, List.map_toArray, List.map_cons, List.map_nil, hs, hx, hr]; exact h
/-- The first k pairs of cells are f1, f2. -/
def Fil (f1 f2 : Value) (l : List Value) (k : Nat) : Prop := ∀ i, i < k * 2 → l[i]? = some (if i % 2 = 0 then f1 else f2)
theorem fil_step {f1 f2 : Value} {l cs : List Value} {k m : Nat} (h : Fil f1 f2 l k) (hc : ∀ i, i < m * 2 → cs[i]? = some (if i % 2 = 0 then f1 else f2)) (hl : cs.length = m * 2) (hk : k * 2 ≤ l.length) : Fil f1 f2 (l.take (k * 2) ++ cs ++ l.drop (k * 2 + cs.length)) (k + m) := by
 intro i hi; have h1 : (l.take (k * 2)).length = k * 2 := by rw [List.length_take]; omega
 by_cases hik : i < k * 2
 · rw [List.append_assoc, List.getElem?_append_left (by omega), List.getElem?_take_of_lt hik]; exact h i hik
 · rw [List.append_assoc, List.getElem?_append_right (by omega), h1, List.getElem?_append_left (by omega), hc _ (by omega)]; congr 2; rw [show (i - k * 2) % 2 = i % 2 by omega]
theorem fil_take {f1 f2 : Value} {l : List Value} {k m : Nat} (h : Fil f1 f2 l k) (hm : m ≤ k) : ∀ i, i < m * 2 → (l.take (m * 2))[i]? = some (if i % 2 = 0 then f1 else f2) := by
 intro i hi; rw [List.getElem?_take_of_lt hi]; exact h i (by omega)
theorem fil_one {f1 f2 : Value} {l : List Value} {k : Nat} (h : Fil f1 f2 l k) (hf1 : f1.oneCell' = true) (hf2 : f2.oneCell' = true) (hk : k * 2 ≤ l.length) : ∀ v ∈ l.take (k * 2), v.oneCell' = true := by
 intro v hv; obtain ⟨i, hi⟩ := List.mem_iff_getElem?.1 hv; have h2 := (List.getElem?_eq_some_iff.1 hi).1; rw [List.length_take] at h2; rw [fil_take h (Nat.le_refl _) i (by omega)] at hi; cases hi
 split <;> assumption
theorem Tryz.infoWF : (Tryz.prog.info? 113).map (fun i => (i.zero, i.size, i.bytes)) = some (some (.agg #[.nilFunc, .nilFunc]), 2, 16) := by kernel_rfl
set_option maxRecDepth 100000 in
set_option maxHeartbeats 1600000 in
theorem repeat_any (F1 F2 : Fn) (x1 y1 x2 y2 : Array Value) (g0 n : Nat) (w : World) (h1 : w.cell? ⟨g0, 0, none⟩ = some (.func F1 x1 y1)) (h2 : w.cell? ⟨g0, 1, none⟩ = some (.func F2 x2 y2)) (hn1 : 1 ≤ n) (hn : n ≤ 300) :
 Calls Tryz.prog 122 #[.slice (some ⟨g0, 0, none⟩) 1 1, .int .i64 (n : Int)] w fun e w' => ∃ g, e = .returned (.slice (some ⟨g, 0, none⟩) n n) ∧ (∀ i, i < n → w'.cell? ⟨g, i * 2, none⟩ = some (.func F1 x1 y1) ∧ w'.cell? ⟨g, i * 2 + 1, none⟩ = some (.func F2 x2 y2)) ∧ Below w.heap.size w w' := by
 obtain ⟨i0, hi, hz0, hz1, hz2⟩ := info_parts Tryz.infoWF; have hinfo : (Tryz.prog.info? 113).map (·.size) = some 2 := by rw [hi]; simp [hz1]
 obtain ⟨M, hM⟩ : ∃ M, M = madeCells (Value.agg #[.nilFunc, .nilFunc]).cells (((n : Nat) : Int).toNat * i0.size) := ⟨_, rfl⟩; have hMs : M.size = n * 2 := by rw [hM, size_madeCells, hz1]; simp
 have hmk : ∀ W : World, (Instr.makeSlice 155 (.int .i64 (n : Int)) (.int .i64 (n : Int))).run Tryz.prog W = .ok (.slice (some ⟨W.heap.size, 0, none⟩) n n) (W.alloc (.cells M 113)) := by
  intro W; have h := run_make (P := Tryz.prog) W 155 113 i0 (.agg #[.nilFunc, .nilFunc]) Tryz.underlying155 hi hz0 .i64 .i64 (n : Int) (n : Int) (by omega) (by omega) (by rw [hz2]; omega) (by omega); rw [← hM] at h; simpa using h
 clear hM; have hB0 := (Below.refl w.heap.size w).alloc (Nat.le_refl _) (.cells M 113); have k0 := blk_new w M 113
 obtain ⟨W1, cur1, hcp, hk1, hs1, hf1, hb1⟩ : ∃ W1 cur1, (Builtin.copy_ #[155, 155] 3 #[.slice (some ⟨w.heap.size, 0, none⟩) n n, .slice (some ⟨g0, 0, none⟩) 1 1]).run Tryz.prog (w.alloc (.cells M 113)) = .ok (.int .i64 1) W1 ∧ Blk W1 w.heap.size cur1 113 ∧ cur1.size = n * 2 ∧ Fil (.func F1 x1 y1) (.func F2 x2 y2) cur1.toList 1 ∧ Below w.heap.size w W1 := by
  have hmin : Nat.min 1 n = 1 := Nat.min_eq_left hn1
  have hr := run_copy_rowK (P := Tryz.prog) (w.alloc (.cells M 113)) 155 155 3 113 w.heap.size 0 n n ⟨g0, 0, none⟩ 1 1 M 113 [.func F1 x1 y1, .func F2 x2 y2] 2 Tryz.underlying155 hinfo k0 (by rw [hmin]; rfl) (by
   intro j v hj; rw [Nm.addr_add]
   match j, hj with
   | 0, hj => cases hj; exact (hB0.cell (World.block_lt_of_cell? w _ h1)).trans h1
   | 1, hj => cases hj; exact (hB0.cell (World.block_lt_of_cell? w _ h2)).trans h2
   | j + 2, hj => simp at hj) (by simp; omega) (by intro v hv; simp at hv; rcases hv with rfl | rfl <;> rfl)
  rw [hmin] at hr; refine ⟨_, _, hr, setRow_blk k0 _, by simp; omega, ?_, hB0.grown (setRow_grown _ _ _) (by simp) (fun q hq => by cases hq; exact Nat.le_refl _)⟩; rw [List.toList_toArray]
  have := fil_step (f1 := .func F1 x1 y1) (f2 := .func F2 x2 y2) (l := M.toList) (cs := [.func F1 x1 y1, .func F2 x2 y2]) (k := 0) (m := 1) (fun i hi => by omega) (fun i hi => by
   match i, hi with
   | 0, _ => rfl
   | 1, _ => rfl
   | i + 2, hi => omega) rfl (Nat.zero_le _)
  simpa using this
 have hmul := fun W => mul_one_any n W hn
 have HF1 := Nm.hide hf1; clear hf1 hB0 k0 hz0 hz1 hz2 hi hMs; have n1 : (1 : Int) ≤ (n : Int) := by omega
 have n3 : (n : Int) ≤ 300 := by omega
 have t1 : decide ((n : Int) < 0) = false := by simp
 have t2 : decide (9223372036854775807 < (n : Int)) = false := by simp; omega
 go_enter Tryz.func122, Tryz.ntmps122; go_wp2_with (first | (go_at_call 174; refine (hmul _).mono ?_; rintro e w1 ⟨rfl, hw⟩; obtain rfl := hw.symm; clear hw) | (refine wpList_copy_ranR rfl (.tmp 31) (.tmp 32) 155 155 rfl _ _ _ _ rfl rfl hcp ?_))
 clear hcp hmk
 go_loopw [8] (fun i wr => ∃ (k : Nat) (cur : Array Value), 1 ≤ k ∧ k ≤ n ∧ i = .int .i64 k ∧ Blk wr w.heap.size cur 113 ∧ Hid (cur.size = n * 2 ∧ Fil (.func F1 x1 y1) (.func F2 x2 y2) cur.toList k) ∧ Below w.heap.size w wr) (fun i _ => n - (intOf i).toNat)
 case atStart => exact ⟨1, cur1, Nat.le_refl _, hn1, rfl, hk1, ⟨hs1, HF1.out⟩, hb1⟩
 case round =>
  obtain ⟨k, cur, hk1', hk, rfl, hbk, HC, hbel⟩ := hrel
  by_cases hlt : k < n
  · obtain ⟨hcs, hfl⟩ := HC.out; obtain ⟨m, hm⟩ : ∃ m, m = Nat.min k (n - k) := ⟨_, rfl⟩; have hmk2 : m ≤ k := by rw [hm]; exact Nat.min_le_left _ _
    have hmn : m ≤ n - k := by rw [hm]; exact Nat.min_le_right _ _
    have hm1 : 1 ≤ m := by rw [hm]; exact Nat.le_min.2 ⟨hk1', by omega⟩
    have hlen : cur.toList.length = n * 2 := by simpa using hcs
    have hcl : (cur.toList.take (m * 2)).length = m * 2 := by rw [List.length_take, hlen]; omega
    obtain ⟨W2, cur2, hcp, hk2, hs2, hb2⟩ : ∃ W2 cur2, (Builtin.copy_ #[155, 155] 3 #[.slice (some ⟨w.heap.size, k * 2, none⟩) (n - k) (n - k), .slice (some ⟨w.heap.size, 0, none⟩) k n]).run Tryz.prog wr.drew = .ok (.int .i64 (m : Int)) W2 ∧ Blk W2 w.heap.size cur2 113 ∧ Hid (cur2.size = n * 2 ∧ Fil (.func F1 x1 y1) (.func F2 x2 y2) cur2.toList (k + m)) ∧ Below w.heap.size w W2 := by
     have hr := run_copy_rowK (P := Tryz.prog) wr.drew 155 155 3 113 w.heap.size (k * 2) (n - k) (n - k) ⟨w.heap.size, 0, none⟩ k n cur 113 (cur.toList.take (m * 2)) 2 Tryz.underlying155 hinfo hbk (by rw [← hm, hcl]) (by
      intro j v hj; rw [Nm.addr_add, Nat.zero_add]; show wr.cell? _ = _
      rw [blk_cell hbk, ← Array.getElem?_toList]; have hj2 := (List.getElem?_eq_some_iff.1 hj).1; rw [hcl] at hj2; rw [List.getElem?_take_of_lt hj2] at hj
      exact hj) (by rw [hcl, hcs]; omega) (fun v hv => fil_one (k := m) (fun i hi => hfl i (by omega)) rfl rfl (by rw [hlen]; omega) v hv)
     rw [← hm] at hr; refine ⟨_, _, hr, setRow_blk hbk _, ⟨?_, ?_⟩, hbel.drew.grown (setRow_grown _ _ _) hbel.size (fun q hq => by cases hq; exact Nat.le_refl _)⟩
     · rw [List.size_toArray, List.length_append, List.length_append, List.length_take, List.length_drop, hcl, hlen]; omega
     · rw [List.toList_toArray]; exact fil_step hfl (fil_take hfl hmk2) hcl (by rw [hlen]; omega)
    have i1 : (0 : Int) ≤ (k : Int) := by omega
    have i2 : (k : Int) ≤ (n : Int) := by omega
    have i3 : (k : Int) < (n : Int) := by omega
    have i4 : ¬ n = k := by omega
    have i5 : (m : Int) ≤ 300 := by omega
    have iw : IntKind.i64.wrap ((k : Int) + (m : Int)) = (k : Int) + (m : Int) := Go.wrap_small _ (by omega) (by omega); clear hm hcs hfl hlen hcl HC hbk hinfo; go_wp2_with fail
    refine wp_region_last (S := fun W => True) (L := 1000) (by kernel_rfl) trivial (fun hH => ?_); refine tkA 0 rfl ?_; refine tkA 1 rfl ?_; refine tkA 2 rfl ?_; refine tkA 3 rfl ?_; refine tkA 4 rfl ?_; refine tkA 5 rfl ?_; refine tkA 6 rfl ?_; refine wpAnyL_one (i := 7) (by kernel_rfl) rfl (fun KQ hK' => ?_); refine step_copy_ranR rfl (.tmp 41) (.tmp 44) 155 155 rfl _ _ _ _ (by go_simp) (by go_simp) hcp ?_; refine hK'.out _ _ trivial (fun hH => ?_); clear hK' KQ; refine tkA 8 rfl ?_; refine tkA 9 rfl ?_; refine wpAnyL_done (by kernel_rfl) ?_; clear hH hcp; go_simp; go_roundw
    case rel => exact ⟨.int .i64 ((k : Int) + (m : Int)), _, _, _, _, _, _, _, _, _, _, _, _, _, ⟨k + m, cur2, by omega, by omega, by go_num, hk2, hs2, hb2⟩, rfl⟩
    case measure => simp [intOf]; omega
  · have hkn : k = n := by omega
    subst hkn; go_wp2; go_ret; refine ⟨_, rfl, fun i hi => ⟨?_, ?_⟩, hbel⟩
    · rw [blk_cell hbk, ← Array.getElem?_toList, HC.out.2 _ (by omega), if_pos (by omega)]
    · rw [blk_cell hbk, ← Array.getElem?_toList, HC.out.2 _ (by omega), if_neg (by omega)]
def manyR (ws : List Wrd) (o : ByteArray) : ByteArray × Int := if ws.length = 0 then (⟨#[]⟩, 15) else eachS o (List.replicate ws.length 1) ws ⟨#[]⟩
set_option maxRecDepth 100000 in
set_option maxHeartbeats 1600000 in
theorem manyRead_any (ws : List Wrd) (o : ByteArray) (gc : Nat) (g : Fn) (q : Array Value) (v : Value) (w : World) (h0 : w.cell? ⟨gc, 0, none⟩ = some (.func (.func 99) #[] #[])) (h1 : w.cell? ⟨gc, 1, none⟩ = some (.func g #[] q)) (hv : CRow w v ws.length 2 (wdVs ws)) (hnm : ws.length ≤ 300) (hz : wsz ws ≤ 1048576) (ho : o.size ≤ 1048576) (hs : Reads w) :
 Calls Tryz.prog 121 #[v, .string o, .pointer (some ⟨gc, 0, none⟩)] w fun e w' => e = .returned (strV (manyR ws o)) ∧ Below w.heap.size w w' := by
 by_cases hn : ws.length = 0
 · have hr : manyR ws o = (⟨#[]⟩, 15) := by rw [manyR, if_pos hn]
   rw [hr]; obtain ⟨_, av, cv, rfl, hcap, hmx, hcc⟩ := hv; clear hr hcc hs; rw [hn]; go_enter Tryz.func121, Tryz.ntmps121; go_wp2; go_ret2; exact ⟨rfl, Below.refl _ _⟩
 · have hr : manyR ws o = eachS o (List.replicate ws.length 1) ws ⟨#[]⟩ := by rw [manyR, if_neg hn]
   rw [hr]; have hB0 := (Below.refl w.heap.size w).alloc (Nat.le_refl _) (.cells #[.func (.func 99) #[] #[], .func g #[] q] 113); have hrep := repeat_any (.func 99) g #[] #[] #[] q w.heap.size ws.length (w.alloc (.cells #[.func (.func 99) #[] #[], .func g #[] q] 113)) (by simp) (by simp) (by omega) hnm
   have hre : ∀ gf W, Below w.heap.size w W → (∀ i, i < ws.length → W.cell? ⟨gf, i * 2, none⟩ = some (.func (.func 99) #[] #[]) ∧ W.cell? ⟨gf, i * 2 + 1, none⟩ = some (.func g #[] q)) → Calls Tryz.prog 111 #[.slice (some ⟨gf, 0, none⟩) ws.length ws.length, v, .string o] W fun e w' => e = .returned (strV (eachS o (List.replicate ws.length 1) ws ⟨#[]⟩)) ∧ Below W.heap.size W w' := by
    intro gf W hW hc
    have h2 := readEach_any (List.replicate ws.length 1) ws o gf ws.length v W (by
     intro i K hi; have hi2 := List.getElem?_eq_some_iff.1 hi; have hlt := hi2.1; rw [List.length_replicate] at hlt; have hK : K = 1 := by rw [← hi2.2, List.getElem_replicate]
     subst hK; exact ⟨_, _, _, _, _, (hc i hlt).1, (hc i hlt).2, rfl⟩) (hv.below hW) (by simp) hnm (by
     intro K hK; rw [List.eq_of_mem_replicate hK]
     exact .inl (by decide)) hz ho ⟨fun s W2 h3 h4 => hs.1 s W2 h3 (Nm.below_two hW h4), fun s W2 h4 => hs.2 s W2 (Nm.below_two hW h4)⟩
    rw [List.length_replicate] at h2; exact h2
   obtain ⟨_, av, cv, rfl, hcap, hmx, hcc⟩ := hv; have d1 : ((ws.length : Int) == 0) = false := by rw [beq_eq_false_iff_ne]; omega
   clear hr hcc hs hn; generalize eachS o (List.replicate ws.length 1) ws ⟨#[]⟩ = R at *; unfold strV at *; go_enter Tryz.func121, Tryz.ntmps121; go_wp2_with (first | (go_at_call 122; refine hrep.mono ?_; rintro e w1 ⟨gf, rfl, hc, hb1⟩; have hB1 := Nm.below_two hB0 hb1) | (go_at_call 111; refine (hre gf _ hB1 hc).mono ?_; rintro e w2 ⟨rfl, hb2⟩))
   go_ret2; exact ⟨rfl, Nm.below_two hB1 hb2⟩
/-- A name and types. -/
def ntR : List Wrd → ByteArray → ByteArray × Int
 | [], _ => (⟨#[]⟩, 15)
 | x :: r, o => if (readWd 110 x o).2 ≠ 0 then (⟨#[]⟩, (readWd 110 x o).2) else if (tysE (tysR r [])).2 ≠ 0 then (⟨#[]⟩, (tysE (tysR r [])).2) else ((readWd 110 x o).1 ++ (tysE (tysR r [])).1, 0)
theorem wsz_tail {x : Wrd} {ws : List Wrd} {N : Nat} (h : wsz (x :: ws) ≤ N) : wsz ws ≤ N := by rw [wsz_cons] at h; omega
theorem str_sum {a b : ByteArray} (h : a.size + b.size ≤ 100000000) : ¬ 9223372036854775807 < a.size + b.size := by omega
set_option maxRecDepth 100000 in
set_option maxHeartbeats 4000000 in
theorem ntRead_any (ws : List Wrd) (o : ByteArray) (gc b0 : Nat) (v : Value) (w : World) (hgc : w.cell? ⟨gc, 0, none⟩ = some (.func (.func 157) #[] #[.pointer (some ⟨b0, 0, none⟩)])) (hb0 : w.cell? ⟨b0, 0, none⟩ = some (.func (.func 96) #[] #[])) (hv : CRow w v ws.length 2 (wdVs ws)) (hnm : ws.length ≤ 300) (hz : wsz ws ≤ 1048576) (ho : o.size ≤ 1048576) (hs : Reads w) (hM : MnemAt w) (hbig : ∀ l : List Int, (mapR l).1.size ≤ 10000000) :
 Calls Tryz.prog 129 #[v, .string o, .pointer (some ⟨gc, 0, none⟩)] w fun e w' => e = .returned (strV (ntR ws o)) ∧ Below w.heap.size w w' := by
 cases ws with
 | nil =>
   obtain ⟨_, av, cv, rfl, hcap, hmx, hcc⟩ := hv; clear hcc hs hM hbig; go_enter Tryz.func129, Tryz.ntmps129; go_wp2; go_ret2
   exact ⟨rfl, Below.refl _ _⟩
 | cons x ws =>
   obtain ⟨R, HR⟩ : ∃ R, Hid (R = ntR (x :: ws) o) := ⟨_, rfl⟩; rw [← HR.out]; have hrz := readWd_size 110 x o; have hxz := wsz_mem (List.mem_cons_self : x ∈ x :: ws); obtain ⟨F0, cp, hfe, _, hcall⟩ := read_calls (K := 0) (x := x.1) (o := o) (q := x.2) ⟨b0, rfl, hb0⟩ (.inl (by decide)) (by omega) (by unfold maxLen; omega) hs; obtain ⟨e1, _, e2⟩ := Value.func.inj hfe; cases e1
   subst e2; obtain ⟨_, av, cap, rfl, hcap, hmx, hcc⟩ := hv; obtain ⟨b, off, rfl, hcell⟩ := hcc (by simp); have c0 : w.cell? ⟨b, off, none⟩ = some (.string x.1) := hcell _ _ (wdVs_at (x :: ws) 0 0 x rfl (by decide)); have c1 : w.cell? ⟨b, off + 1, none⟩ = some (.bool x.2) := hcell _ _ (wdVs_at (x :: ws) 0 1 x rfl (by decide)); have hrow : CRow w (.slice (some ⟨b, off, none⟩) (ws.length + 1) cap) (ws.length + 1) 2 (wdVs (x :: ws)) := ⟨by rw [wdVs_len]; rfl, _, _, rfl, hcap, hmx, hcc⟩; obtain ⟨q1, q2, q3⟩ := wd_tail hrow; have hws : ws.length ≤ 300 := by simp at hnm; omega
   have hz2 := wsz_tail hz; have ht2 := fun W (hW : Below w.heap.size w W) => readTypes_any _ ws W (q2.below hW) hws hz2 (hM.below hW)
   have ht3 := fun (h1 : cap = 1) W (hW : Below w.heap.size w W) => readTypes_any _ ws W ((q3 h1).below hW) hws hz2 (hM.below hW)
   have hkc : kc 0 = 110 := rfl; rw [hkc] at hcall; obtain ⟨N, hN⟩ : ∃ N, N = readWd 110 (x.1, x.2) o := ⟨_, rfl⟩; obtain ⟨T, hT⟩ : ∃ T, T = tysE (tysR ws []) := ⟨_, rfl⟩
   have hTz : T.1.size ≤ 10000000 := by
    rw [hT]
    cases tysR ws [] with
    | error c => exact Nat.zero_le _
    | ok l => exact hbig l
   have hNz : N.1.size ≤ 10000000 := by rw [hN]; show (readWd 110 x o).1.size ≤ _; omega
   have HRR : Hid (R = if N.2 ≠ 0 then (⟨#[]⟩, N.2) else if T.2 ≠ 0 then (⟨#[]⟩, T.2) else (N.1 ++ T.1, 0)) := by show _ = _; rw [HR.out, ntR, hN, hT]
   rw [← hN] at hcall; rw [← hT] at ht2 ht3; clear hkc hN hT HR hrz hxz hcell hcc hs hM hbig hrow q2 q3 hz hz2 hnm hcap hmx hfe hb0; unfold strV at *; simp only [List.length_cons]; generalize hwl : ws.length = n at *; clear hwl; have n1 : (1 : Int) ≤ (n : Int) + 1 := by omega
   have n0 : (0 : Int) < (n : Int) + 1 := by omega
   have nz : ((n : Int) + 1 == 0) = false := by rw [beq_eq_false_iff_ne]; omega
   go_enter Tryz.func129, Tryz.ntmps129; go_wp2_with fail
   refine wp_region_last (S := fun W => W.cell? ⟨gc, 0, none⟩ = some (.func (.func 157) #[] #[.pointer (some ⟨b0, 0, none⟩)]) ∧ W.cell? ⟨b, off, none⟩ = some (.string x.1) ∧ W.cell? ⟨b, off + 1, none⟩ = some (.bool x.2)) (L := 1000) (by kernel_rfl) ⟨hgc, c0, c1⟩ (fun hH => ?_); refine tkC 0 rfl ?_; refine tkC 1 rfl ?_; refine tkC 2 rfl ?_; refine tkC 3 rfl ?_; refine tkC 4 rfl ?_; refine tkC 5 rfl ?_; refine wpAnyL_one (i := 6) (by kernel_rfl) rfl (fun KQ hK' => ?_); go_simp; refine (hcall _ (Below.refl _ _).drew).mono ?_; rintro e w2 ⟨rfl, hb2⟩; have hB2 : Below w.heap.size w w2 := (Below.refl _ w).drew.trans hb2; have s0 := (hB2.cell (World.block_lt_of_cell? _ _ hgc)).trans hgc; have s1 := (hB2.cell (World.block_lt_of_cell? _ _ c0)).trans c0; have s2 := (hB2.cell (World.block_lt_of_cell? _ _ c1)).trans c1; clear hb2 hcall hgc c0 c1; go_wp2_with fail
   refine hK'.out _ _ ⟨s0, s1, s2⟩ (fun hH => ?_); clear hK' KQ; refine tkC 7 rfl ?_; refine tkC 8 rfl ?_; refine tkC 9 rfl ?_; refine tkC 10 rfl ?_; refine tkC 11 rfl ?_; refine wpAnyL_done (by kernel_rfl) ?_; clear hH s0 s1 s2
   by_cases h0 : N.2 = 0
   · have d0 : (N.2 == 0) = true := by simpa using h0
     have HR2 : Hid (R = if T.2 ≠ 0 then (⟨#[]⟩, T.2) else (N.1 ++ T.1, 0)) := by show _ = _; rw [HRR.out, if_neg (by simpa using h0)]
     clear h0 HRR; have hsum := str_sum (a := N.1) (b := T.1) (by omega)
     by_cases hc1 : cap = 1
     · have hn0 : n = 0 := by omega
       subst hc1 hn0; have ht := ht3 rfl w2 hB2; clear ht2 ht3
       by_cases h1 : T.2 = 0
       · have d1 : (T.2 == 0) = true := by simpa using h1
         have HN : Hid (R = (N.1 ++ T.1, 0)) := by show _ = _; rw [HR2.out, if_neg (by simpa using h1)]
         clear h1 HR2; go_wp2_with (go_at_call 130; refine ht.mono ?_; rintro e w3 ⟨rfl, hb3⟩)
         go_ret2; rw [HN.out]; exact ⟨rfl, Nm.below_two hB2 hb3⟩
       · have d1 : (T.2 == 0) = false := by simpa using h1
         have HN : Hid (R = (⟨#[]⟩, T.2)) := by show _ = _; rw [HR2.out, if_pos h1]
         clear h1 HR2; go_wp2_with (go_at_call 130; refine ht.mono ?_; rintro e w3 ⟨rfl, hb3⟩)
         go_ret2; rw [HN.out]; exact ⟨rfl, Nm.below_two hB2 hb3⟩
     · have ht := ht2 w2 hB2; clear ht2 ht3
       by_cases h1 : T.2 = 0
       · have d1 : (T.2 == 0) = true := by simpa using h1
         have HN : Hid (R = (N.1 ++ T.1, 0)) := by show _ = _; rw [HR2.out, if_neg (by simpa using h1)]
         clear h1 HR2; go_wp2_with (go_at_call 130; refine ht.mono ?_; rintro e w3 ⟨rfl, hb3⟩)
         go_ret2; rw [HN.out]; exact ⟨rfl, Nm.below_two hB2 hb3⟩
       · have d1 : (T.2 == 0) = false := by simpa using h1
         have HN : Hid (R = (⟨#[]⟩, T.2)) := by show _ = _; rw [HR2.out, if_pos h1]
         clear h1 HR2; go_wp2_with (go_at_call 130; refine ht.mono ?_; rintro e w3 ⟨rfl, hb3⟩)
         go_ret2; rw [HN.out]; exact ⟨rfl, Nm.below_two hB2 hb3⟩
   · have d0 : (N.2 == 0) = false := by simpa using h0
     have HN : Hid (R = (⟨#[]⟩, N.2)) := by show _ = _; rw [HRR.out, if_pos h0]
     clear h0 HRR ht2 ht3; go_wp2; go_ret2; rw [HN.out]; exact ⟨rfl, hB2⟩
/-- What a form reads. -/
def formP (F : List Nat ⊕ Bool) (ws : List Wrd) (o : ByteArray) : ByteArray × Int := match F with
 | .inl ks => justR ks ws o
 | .inr false => manyR ws o
 | .inr true => ntR ws o
/-- No more than 65535 bytes. -/
def capD (p : ByteArray × Int) : ByteArray × Int := if p.2 ≠ 0 then (⟨#[]⟩, p.2) else if 65535 < p.1.size then (⟨#[]⟩, 7) else (p.1, 0)
theorem out_nil : outTo (memB []) 256 = [] := by decide +kernel
theorem map_nil : mapR [] = (⟨#[]⟩, 0) := by
 have h : okT [] = true := rfl; rw [mapR, if_pos h, out_nil]
theorem map_size (l : List Int) : (mapR l).1.size ≤ 10000000 := by
 unfold mapR; split
 · show (outTo (memB l) 256).toArray.size ≤ _
   have := outTo_len (memB l) 256; simp
   omega
 · exact Nat.zero_le _
theorem mnN_rng : ∀ k, k < 19 → 0 ≤ mnN k ∧ mnN k ≤ 65535 := by decide
theorem cat_nil (b : ByteArray) : b ++ (⟨#[]⟩ : ByteArray) = b := by
 apply ByteArray.ext; simp [ByteArray.data_append]
theorem capD_bad {c : Int} (h : c ≠ 0) : capD (⟨#[]⟩, c) = (⟨#[]⟩, c) := by rw [capD, if_pos h]
theorem capD_ok (b : ByteArray) : capD (b, 0) = if 65535 < b.size then (⟨#[]⟩, 7) else (b, 0) := by rw [capD, if_neg (by simp)]
/-- A script's words, one behind the other, are those of a form. -/
theorem each_rd (s o : ByteArray) : ∀ (ks : List Nat) (ws : List Wrd) (i : Nat) (b : ByteArray), ks.length = ws.length → (∀ j K, ks[j]? = some K → kindAt s (i + j) ≠ 109 ∧ ∀ x, readWd (kindAt s (i + j)) x o = readWd (kc K) x o) →
 rdE (rdF s o i ws b []) = capD (eachS o ks ws b) := by
 intro ks
 induction ks with
 | nil =>
   intro ws i b hl _
   cases ws with
   | nil => rw [rdF, rdE, each_nil, capD_ok, map_nil, cat_nil]
   | cons x ws => simp at hl
 | cons K ks ih =>
   intro ws i b hl hk
   cases ws with
   | nil => simp at hl
   | cons x ws =>
     obtain ⟨h1, h2⟩ := hk 0 K rfl; rw [Nat.add_zero] at h1 h2; rw [rdF, if_neg h1, h2]
     by_cases h0 : (readWd (kc K) x o).2 = 0
     · rw [if_neg (by simpa using h0), each_ok h0]; refine ih ws (i + 1) _ (by simpa using hl) (fun j K' hj => ?_); have := hk (j + 1) K' (by simpa using hj); rw [show i + 1 + j = i + (j + 1) by omega]; exact this
     · rw [if_pos h0, each_bad h0, rdE, capD_bad h0]
theorem rd_rng (x : ByteArray) (h : (readTyS x).2 = 0) : 0 ≤ (readTyS x).1 ∧ (readTyS x).1 ≤ 65535 := by
 unfold readTyS at h ⊢
 cases hf : tyFind x with
 | some k =>
   have hk := List.mem_of_find?_eq_some hf
   exact mnN_rng k (List.mem_range.1 hk)
 | none =>
   rw [hf] at h; simp only at h ⊢
   unfold tyTail at h ⊢; split
   · rename_i h4; rw [if_pos h4] at h
     cases hn : numO (x.extract 4 x.size) 5 with
     | none => rw [hn] at h; simp at h
     | some n =>
       rw [hn] at h; simp only at h ⊢
       split
       · simp only; omega
       · rename_i h6; rw [if_neg h6] at h; simp at h
   · rename_i h4; rw [if_neg h4] at h; simp at h
theorem tys_rd (s o : ByteArray) : ∀ (ws : List Wrd) (i : Nat) (b : ByteArray) (ts : List Int), (∀ j, kindAt s (i + j) = 109) → rdF s o i ws b ts = (tysR ws ts).map (fun l => (b, l)) := by
 intro ws
 induction ws with
 | nil => intro i b ts _; rfl
 | cons x ws ih =>
   intro i b ts hk; have h0 := hk 0; rw [Nat.add_zero] at h0; rw [rdF, if_pos h0, tysR]
   by_cases hq : x.2 = true
   · rw [if_pos hq, if_pos hq]; rfl
   · rw [if_neg hq, if_neg hq]
     by_cases hc : (readTyS x.1).2 ≠ 0
     · rw [if_pos hc, if_pos hc]; rfl
     · rw [if_neg hc, if_neg hc]; refine ih (i + 1) b _ (fun j => ?_); have := hk (j + 1); rw [show i + 1 + j = i + (j + 1) by omega]; exact this
theorem tys_good : ∀ (ws : List Wrd) (ts l : List Int), (∀ t ∈ ts, 0 ≤ t ∧ t ≤ 65535) → tysR ws ts = .ok l → ∀ t ∈ l, 0 ≤ t ∧ t ≤ 65535 := by
 intro ws
 induction ws with
 | nil => intro ts l h e; rw [tysR] at e; cases e; exact h
 | cons x ws ih =>
   intro ts l h e; rw [tysR] at e
   split at e
   · cases e
   · split at e
     · cases e
     · rename_i hc; refine ih _ l ?_ e; intro t ht
       rcases List.mem_append.1 ht with ht | ht
       · exact h t ht
       · rw [List.mem_singleton] at ht; rw [ht]; exact rd_rng _ (by simpa using hc)
theorem tys_err : ∀ (ws : List Wrd) (ts : List Int) (c : Int), tysR ws ts = .error c → c ≠ 0 := by
 intro ws
 induction ws with
 | nil => intro ts c e; rw [tysR] at e; cases e
 | cons x ws ih =>
   intro ts c e; rw [tysR] at e
   split at e
   · cases e; decide
   · split at e
     · rename_i hc; cases e; exact hc
     · exact ih _ c e
theorem nt_rd (s o : ByteArray) (ws : List Wrd) (h0 : kindAt s 0 = 110) (h1 : ∀ j, kindAt s (1 + j) = 109) (hw : ws ≠ []) : rdE (rdF s o 0 ws ⟨#[]⟩ []) = capD (ntR ws o) := by
 cases ws with
 | nil => exact absurd rfl hw
 | cons x r =>
   rw [rdF, if_neg (by rw [h0]; decide), h0, ntR]
   by_cases hc : (readWd 110 x o).2 = 0
   · rw [if_neg (by simpa using hc), if_neg (by simpa using hc), tys_rd s o r (0 + 1) _ _ (by simpa using h1)]
     have hb : ((⟨#[]⟩ : ByteArray) ++ (readWd 110 x o).1) = (readWd 110 x o).1 := by
      apply ByteArray.ext; simp [ByteArray.data_append]
     rw [hb]
     cases ht : tysR r [] with
     | error c =>
       have hc0 := tys_err r [] c ht; rw [tysE, if_pos hc0, capD_bad hc0]
       rfl
     | ok l =>
       have hg := tys_good r [] l (fun t ht => by cases ht) ht; have h2 : (mapR l).2 = 0 := by rw [mapR_good hg]
       rw [tysE, if_neg (by simpa using h2), capD_ok]; rfl
   · rw [if_pos hc, if_pos hc, rdE, capD_bad hc]
/-- A form's kinds are its script. -/
def fits (s : ByteArray) (ks : List Nat) : Bool := decide (0 < s.size) && decide (s.size = ks.length) && decide (kindAt s (s.size - 1) ≠ 109) && decide (kindAt s (s.size - 1) ≠ 115) && (List.range ks.length).all fun j => decide (kindAt s j ≠ 109) && decide (kindAt s j = kc (ks.getD j 0))
theorem kindAt_lt {s : ByteArray} {i : Nat} (h : i < s.size) : kindAt s i = s[i] := by rw [kindAt, dif_pos h]
theorem form_just {t : Int} {ks : List Nat} {ws : List Wrd} {o : ByteArray} (h : fits (scriptS t) ks = true) : formD t ws o = capD (justR ks ws o) := by
 simp only [fits, Bool.and_eq_true, decide_eq_true_eq, List.all_eq_true, List.mem_range] at h; obtain ⟨⟨⟨⟨h1, h2⟩, h3⟩, h4⟩, h5⟩ := h
 have hm : manyB (scriptS t) ws.length = decide (ws.length = ks.length) := by
  rw [kindAt_lt (by omega)] at h3 h4; rw [manyB, dif_pos h1, if_neg h3, if_neg h4, h2]
 rw [formD, hm, justR]
 by_cases hn : ws.length = ks.length
 · rw [if_neg (by
    rintro (h | h)
    · omega
    · have := of_decide_eq_false h
      exact this hn), if_neg (by simpa using hn)]
   refine each_rd _ o ks ws 0 _ hn.symm (fun j K hj => ?_); have hj2 := List.getElem?_eq_some_iff.1 hj; obtain ⟨q1, q2⟩ := h5 j hj2.1; rw [Nat.zero_add]; have hK : ks.getD j 0 = K := by rw [List.getD_eq_getElem?_getD, hj]; rfl
   rw [hK] at q2; exact ⟨q1, fun x => by rw [q2]⟩
 · rw [if_pos (by simp [hn]), if_pos hn, capD_bad (by decide)]
theorem wd_115 (x : Wrd) (o : ByteArray) : readWd 115 x o = readWd (kc 1) x o := by
 show readWd 115 x o = readWd 116 x o
 have h1 : isTx 115 = true := rfl; have h2 : isTx 116 = true := rfl; rw [readWd, if_pos h1, readWd, if_pos h2]; unfold readTx; rw [if_neg (show ¬ (115 : UInt8) = 118 by decide), if_neg (show ¬ (116 : UInt8) = 118 by decide)]
theorem form_many (ws : List Wrd) (o : ByteArray) : formD 16 ws o = capD (manyR ws o) := by
 have hs : scriptS 16 = ⟨#[115]⟩ := rfl
 have hk : ∀ i, kindAt ⟨#[115]⟩ i = 115 := by
  intro i; unfold kindAt; split
  · rename_i h; have : i = 0 := by have h2 : i < 1 := h; omega
    subst this; rfl
  · rfl
 have hm : manyB ⟨#[115]⟩ ws.length = decide (1 ≤ ws.length) := rfl; rw [formD, hs, hm, manyR]
 by_cases hn : ws.length = 0
 · rw [if_pos (by simp [hn]), if_pos hn, capD_bad (by decide)]
 · rw [if_neg, if_neg hn]
   · refine each_rd _ o (List.replicate ws.length 1) ws 0 _ (by simp) (fun j K hj => ?_); have hj2 := List.getElem?_eq_some_iff.1 hj; have hK : K = 1 := by rw [← hj2.2, List.getElem_replicate]
     rw [hk, hK]; exact ⟨by decide, fun x => wd_115 x o⟩
   · rintro (h | h)
     · cases h
     · have := of_decide_eq_false h; omega
theorem form_nt (ws : List Wrd) (o : ByteArray) : formD 47 ws o = capD (ntR ws o) := by
 have hs : scriptS 47 = ⟨#[110, 109]⟩ := rfl
 have hk : ∀ i, kindAt ⟨#[110, 109]⟩ (1 + i) = 109 := by
  intro i; unfold kindAt; split
  · rename_i h; have : i = 0 := by have h2 : 1 + i < 2 := h; omega
    subst this; rfl
  · rfl
 have hm : manyB ⟨#[110, 109]⟩ ws.length = decide (1 ≤ ws.length) := rfl; rw [formD, hs, hm]
 cases ws with
 | nil => rw [if_pos (by simp), ntR, capD_bad (by decide)]
 | cons x r =>
   rw [if_neg]
   · exact nt_rd _ o (x :: r) rfl hk (by simp)
   · rintro (h | h)
     · cases h
     · simp at h
/-- The form of a type reads what its script reads. -/
theorem form_eq {t : Int} {F : List Nat ⊕ Bool} {ws : List Wrd} {o : ByteArray} (h : (t, F) ∈ formTabR) : formD t ws o = capD (formP F ws o) := by
 simp only [formTabR, List.mem_cons, Prod.mk.injEq, List.not_mem_nil, or_false] at h
 rcases h with ⟨rfl, rfl⟩ | ⟨rfl, rfl⟩ | ⟨rfl, rfl⟩ | ⟨rfl, rfl⟩ | ⟨rfl, rfl⟩ | ⟨rfl, rfl⟩ | ⟨rfl, rfl⟩ | ⟨rfl, rfl⟩ | ⟨rfl, rfl⟩ | ⟨rfl, rfl⟩ | ⟨rfl, rfl⟩ | ⟨rfl, rfl⟩ | ⟨rfl, rfl⟩ | ⟨rfl, rfl⟩
 all_goals first
  | exact form_just (by decide)
  | exact form_many ws o
  | exact form_nt ws o
theorem form_none {t : Int} {ws : List Wrd} {o : ByteArray} (h : ∀ F, (t, F) ∉ formTabR) : formD t ws o = (⟨#[]⟩, 15) := by
 have hs : scriptS t = ⟨#[]⟩ := by
  have g : ∀ k F, (k, F) ∈ formTabR → t ≠ k := by
   rintro k F hk rfl; exact h F hk
  have n1 := g 1 _ (List.mem_of_getElem? (i := 0) rfl); have n2 := g 28 _ (List.mem_of_getElem? (i := 1) rfl); have n3 := g 2 _ (List.mem_of_getElem? (i := 2) rfl); have n4 := g 5 _ (List.mem_of_getElem? (i := 3) rfl); have n5 := g 12 _ (List.mem_of_getElem? (i := 4) rfl); have n6 := g 39 _ (List.mem_of_getElem? (i := 5) rfl); have n7 := g 15 _ (List.mem_of_getElem? (i := 6) rfl); have n8 := g 6 _ (List.mem_of_getElem? (i := 7) rfl); have n9 := g 33 _ (List.mem_of_getElem? (i := 8) rfl); have n10 := g 16 _ (List.mem_of_getElem? (i := 9) rfl); have n11 := g 13 _ (List.mem_of_getElem? (i := 10) rfl); have n12 := g 35 _ (List.mem_of_getElem? (i := 11) rfl); have n13 := g 257 _ (List.mem_of_getElem? (i := 12) rfl); have n14 := g 47 _ (List.mem_of_getElem? (i := 13) rfl); unfold scriptS; simp only [n1, n2, n3, n4, n5, n6, n7, n8, n9, n10, n11, n12, n13, n14, or_self, if_false]
 rw [formD, hs, if_pos (.inl rfl)]
/-- The kinds of a form are kinds. -/
theorem form_kinds {t : Int} {ks : List Nat} (h : (t, .inl ks) ∈ formTabR) : ∀ K ∈ ks, kindOK K := by
 simp only [formTabR, List.mem_cons, Prod.mk.injEq, List.not_mem_nil, or_false, Sum.inl.injEq] at h
 have key : ∀ l : List Nat, (l.all fun K => decide (K ≤ 6) || decide (K = 8) || decide (K = 9) || decide (K = 11)) = true → ∀ K ∈ l, kindOK K := by
  intro l hl K hK; have := List.all_eq_true.1 hl K hK; simp at this; unfold kindOK; omega
 rcases h with ⟨rfl, rfl⟩ | ⟨rfl, rfl⟩ | ⟨rfl, rfl⟩ | ⟨rfl, rfl⟩ | ⟨rfl, rfl⟩ | ⟨rfl, rfl⟩ | ⟨rfl, rfl⟩ | ⟨rfl, rfl⟩ | ⟨rfl, rfl⟩ | ⟨_, h⟩ | ⟨rfl, rfl⟩ | ⟨rfl, rfl⟩ | ⟨rfl, rfl⟩ | ⟨_, h⟩
 all_goals first
  | (cases h; done)
  | exact key _ (by decide)
end Go.Proofs.YtddabafaejahbaaGreatDoor
