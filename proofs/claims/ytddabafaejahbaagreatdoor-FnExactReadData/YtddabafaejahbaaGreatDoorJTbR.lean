import Derived.Test.YtddabafaejahbaaGreatDoorJTxt6A
import Derived.Laws.CopyRow
import Derived.Lib.AppendZerosOnto
import Derived.Lib.Overlaps
import Derived.Test.YtddabafaejahbaaGreatDoorJRc4
/- copy of rows of any size of element; rows that grow by zeros: laws of no program. -/
namespace Go.Proofs.YtddabafaejahbaaGreatDoor
open Go.RowKit
set_option linter.unusedVariables false

theorem run_copy_rowK {P : Program} (w : World) (dT sT ty elem : TypeId) (g o dLen dCap : Nat) (a : Addr) (sLen sCap : Nat) (cur : Array Value) (t : TypeId) (cs : List Value) (sz : Nat)
    (hu : P.underlying dT = some (.slice elem)) (hs : (P.info? elem).map (·.size) = some sz)
    (hg : w.heap[g]? = some (.cells cur t (0, 0))) (hn : cs.length = Nat.min sLen dLen * sz)
    (hsrc : ∀ j v, cs[j]? = some v → w.cell? (a.add j) = some v) (hfit : o + cs.length ≤ cur.size) (h1 : ∀ v ∈ cs, v.oneCell' = true) :
    (Builtin.copy_ #[dT, sT] ty #[.slice (some ⟨g, o, none⟩) dLen dCap, .slice (some a) sLen sCap]).run P w =
      .ok (goInt (Nat.min sLen dLen)) (w.setRow g (cur.toList.take o ++ cs ++ cur.toList.drop (o + cs.length)).toArray) := by
  have hl := run_loadCells_list (P := P) w a cs hsrc
  have hst := run_storeCells_at P g o t cs 0 cur w hg (by simpa using hfit) h1
  cases hq : P.info? elem with
  | none => simp [hq] at hs
  | some i =>
    have hi : i.size = sz := by simpa [hq] using hs
    simp [Builtin.copy_, run_underlying hu, Builtin.lenOf, Builtin.firstCells, sizeOf, typeInfo, hq, hi, ← hn, hl, hst]

theorem wpList_app_ranT {P : Program} {ops : Array Oper} {rest : List Oper} {o : Oper} {a : Act} {w : World} {Q : Exit → Act → World → Prop} (hgd : o.guard = none) (s x : Operand) (t t2 : TypeId)
    (ho : o.op = .call { callee := .builtin .append, args := #[s, x], argTypes := #[t, t2] }) (v u v' : Value) (w' : World) (hs : a.eval s = v) (hx : a.eval x = u)
    (hr : (Builtin.append_ #[t, t2] o.type #[v, u]).run P w = .ok v' w') (h : wpList P ops Q rest (a.put o.dst v') w') : wpList P ops Q (o :: rest) a w :=
  wpList_plain hgd fun _ hK => by
    unfold Oper.wp execOp
    simp only [ho, resolve, invoke, builtin, Sem.run_bind, Sem.run_pure, Result.andThen_ok, List.map_toArray, List.map_cons, List.map_nil, hs, hx, hr]
    exact hK _ _ h

theorem setRow_blk {w : World} {g : Nat} {cur : Array Value} {t : TypeId} (hg : Blk w g cur t) (cs : Array Value) : Blk (w.setRow g cs) g cs t := by
  unfold Blk at *
  have hlt := (Array.getElem?_eq_some_iff.1 hg).1
  have he := (Array.getElem?_eq_some_iff.1 hg).2
  simp [World.setRow, Array.getElem?_modify, hg]
theorem setRow_size (w : World) (g : Nat) (cs : Array Value) : (w.setRow g cs).heap.size = w.heap.size := by simp [World.setRow]
theorem setRow_grown (w : World) (g : Nat) (cs : Array Value) : w.grownBy (w.setRow g cs) (some g) :=
  ⟨rfl, rfl, rfl, by rw [setRow_size]; exact Nat.le_refl _, fun k hk hne => setRow_other w g k cs (fun e => hne (by rw [e]))⟩
/-- A row of one's own out of its block. -/
theorem own_of_blk {w : World} {B e s g n cap : Nat} {cur : Array Value} {xs : List Value} (hg : Blk w g cur e) (hB : B ≤ g) (hn : n ≤ cap) (hm : cap ≤ maxLen) (hs : cur.size = cap * s) (ht : cur.toList.take (n * s) = xs) : w.ownsRow B e s (.slice (some ⟨g, 0, none⟩) n cap) n xs := by
  refine ⟨?_, .inr ⟨g, cap, cur, rfl, hB, hg, hn, hm, hs, ht⟩⟩
  rw [← ht, List.length_take, Array.length_toList, hs, Nat.min_eq_left (Nat.mul_le_mul_right _ hn)]
/-- Two cells are put in at a place of a row that has room. -/
theorem ins_room {cur xs : List Value} {i n cap : Nat} (x0 x1 : Value) (hcl : cur.length = cap * 2) (ht : cur.take (n * 2) = xs) (hi : i < n) (hr : n + 1 ≤ cap) :
    ∀ c1, c1 = cur.take ((i + 1) * 2) ++ xs.drop (i * 2) ++ cur.drop ((i + 1) * 2 + (xs.drop (i * 2)).length) → c1.length = cap * 2 ∧ ∀ c2, c2 = c1.take (i * 2) ++ [x0, x1] ++ c1.drop (i * 2 + [x0, x1].length) → c2.length = cap * 2 ∧ c2.take ((n + 1) * 2) = xs.take (i * 2) ++ [x0, x1] ++ xs.drop (i * 2) := by
  intro c1 h1
  have hxl : xs.length = n * 2 := by rw [← ht, List.length_take]; omega
  have hdl : (xs.drop (i * 2)).length = (n - i) * 2 := by rw [List.length_drop, hxl]; omega
  have htl : (cur.take ((i + 1) * 2)).length = (i + 1) * 2 := by rw [List.length_take]; omega
  have hl1 : c1.length = cap * 2 := by rw [h1]; simp only [List.length_append, htl, hdl, List.length_drop]; omega
  refine ⟨hl1, fun c2 h2 => ?_⟩
  have e1 : c1.take (i * 2) = xs.take (i * 2) := by
    rw [h1, List.append_assoc, List.take_append, htl, List.take_take, show i * 2 - (i + 1) * 2 = 0 by omega, List.take_zero, List.append_nil, ← ht, List.take_take]
    congr 1
    omega
  have e2 : c1.drop (i * 2 + [x0, x1].length) = xs.drop (i * 2) ++ cur.drop ((i + 1) * 2 + (xs.drop (i * 2)).length) := by
    rw [show i * 2 + [x0, x1].length = (i + 1) * 2 by simp; omega, h1, List.append_assoc, List.drop_append, htl, Nat.sub_self, List.drop_zero, List.drop_of_length_le (Nat.le_of_eq htl), List.nil_append]
  have hxt : (xs.take (i * 2)).length = i * 2 := by rw [List.length_take, hxl]; omega
  rw [e1, e2] at h2
  have hl3 : (xs.take (i * 2) ++ [x0, x1] ++ xs.drop (i * 2)).length = (n + 1) * 2 := by simp only [List.length_append, hxt, hdl, List.length_cons, List.length_nil]; omega
  have e3 : c2 = (xs.take (i * 2) ++ [x0, x1] ++ xs.drop (i * 2)) ++ cur.drop ((i + 1) * 2 + (xs.drop (i * 2)).length) := by rw [h2]; simp only [List.append_assoc]
  refine ⟨?_, ?_⟩
  · rw [e3, List.length_append, hl3, List.length_drop, hcl, hdl]; omega
  · rw [e3, ← hl3, List.take_left]
/-- Two cells and the rest are put behind the beginning of a row, in a new block. -/
theorem ins_grow {xs z : List Value} {i n cap : Nat} (x0 x1 : Value) (hxl : xs.length = n * 2) (hi : i < n) (hr : n + 1 ≤ cap) (hz : (xs.take (i * 2) ++ z).length = cap * 2) :
    ∀ c1, c1 = (xs.take (i * 2) ++ z).take (i * 2) ++ [x0, x1] ++ (xs.take (i * 2) ++ z).drop (i * 2 + [x0, x1].length) → c1.length = cap * 2 ∧ ∀ c2, c2 = c1.take ((i + 1) * 2) ++ xs.drop (i * 2) ++ c1.drop ((i + 1) * 2 + (xs.drop (i * 2)).length) → c2.length = cap * 2 ∧ c2.take ((n + 1) * 2) = xs.take (i * 2) ++ [x0, x1] ++ xs.drop (i * 2) := by
  intro c1 h1
  have hxt : (xs.take (i * 2)).length = i * 2 := by rw [List.length_take, hxl]; omega
  have hdl : (xs.drop (i * 2)).length = (n - i) * 2 := by rw [List.length_drop, hxl]; omega
  have e1 : (xs.take (i * 2) ++ z).take (i * 2) = xs.take (i * 2) := by
    have := List.take_left (l₁ := xs.take (i * 2)) (l₂ := z)
    rw [hxt] at this
    exact this
  rw [e1] at h1
  have hl1 : c1.length = cap * 2 := by
    rw [h1]
    simp only [List.length_append, hxt, List.length_drop, List.length_cons, List.length_nil] at hz ⊢
    omega
  refine ⟨hl1, fun c2 h2 => ?_⟩
  have hl2 : (xs.take (i * 2) ++ [x0, x1]).length = (i + 1) * 2 := by simp only [List.length_append, hxt, List.length_cons, List.length_nil]; omega
  have e2 : c1.take ((i + 1) * 2) = xs.take (i * 2) ++ [x0, x1] := by rw [h1, ← hl2, List.take_left]
  rw [e2] at h2
  have hl3 : (xs.take (i * 2) ++ [x0, x1] ++ xs.drop (i * 2)).length = (n + 1) * 2 := by rw [List.length_append, hl2, hdl]; omega
  refine ⟨?_, ?_⟩
  · rw [h2, List.length_append, hl3, List.length_drop, hl1, hdl]; omega
  · rw [h2, ← hl3, List.take_left]
end Go.Proofs.YtddabafaejahbaaGreatDoor
/- slices.Repeat of one form, by its contract; the reader of one text or more. -/
namespace Go.Proofs.YtddabafaejahbaaGreatDoor
open Go.RowKit
set_option linter.unusedVariables false

theorem wpList_copy_ranR {P : Program} {ops : Array Oper} {rest : List Oper} {o : Oper} {a : Act} {w : World} {Q : Exit → Act → World → Prop} (hgd : o.guard = none) (s x : Operand) (t t2 : TypeId)
    (ho : o.op = .call { callee := .builtin .copy, args := #[s, x], argTypes := #[t, t2] }) (v u v' : Value) (w' : World) (hs : a.eval s = v) (hx : a.eval x = u)
    (hr : (Builtin.copy_ #[t, t2] o.type #[v, u]).run P w = .ok v' w') (h : wpList P ops Q rest (a.put o.dst v') w') : wpList P ops Q (o :: rest) a w :=
  wpList_plain hgd fun _ hK => by
    unfold Oper.wp execOp
    simp only [ho, resolve, invoke, builtin, Sem.run_bind, Sem.run_pure, Result.andThen_ok, List.map_toArray, List.map_cons, List.map_nil, hs, hx, hr]
    exact hK _ _ h
theorem step_copy_ranR {P : Program} {ops : Array Oper} {o : Oper} {a : Act} {w : World} {K : Act → World → Prop} {Q : Exit → Act → World → Prop} {E : Prop} (hgd : o.guard = none) (s x : Operand) (t t2 : TypeId)
    (ho : o.op = .call { callee := .builtin .copy, args := #[s, x], argTypes := #[t, t2] }) (v u v' : Value) (w' : World) (hs : a.eval s = v) (hx : a.eval x = u)
    (hr : (Builtin.copy_ #[t, t2] o.type #[v, u]).run P w = .ok v' w') (h : K (a.put o.dst v') w') : if Region.wanted o (yielded ops a.tmps) = true then Oper.wp P o a w K Q else E := by
  have hw : Region.wanted o (yielded ops a.tmps) = true := by simp [Region.wanted, hgd]
  rw [if_pos hw]
  unfold Oper.wp execOp
  simp only [ho, resolve, invoke, builtin, Sem.run_bind, Sem.run_pure, Result.andThen_ok, List.map_toArray, List.map_cons, List.map_nil, hs, hx, hr]
  exact h

/-- The first k pairs of cells are f1, f2. -/
def Fil (f1 f2 : Value) (l : List Value) (k : Nat) : Prop := ∀ i, i < k * 2 → l[i]? = some (if i % 2 = 0 then f1 else f2)
theorem fil_step {f1 f2 : Value} {l cs : List Value} {k m : Nat} (h : Fil f1 f2 l k) (hc : ∀ i, i < m * 2 → cs[i]? = some (if i % 2 = 0 then f1 else f2)) (hl : cs.length = m * 2) (hk : k * 2 ≤ l.length) : Fil f1 f2 (l.take (k * 2) ++ cs ++ l.drop (k * 2 + cs.length)) (k + m) := by
  intro i hi
  have h1 : (l.take (k * 2)).length = k * 2 := by rw [List.length_take]; omega
  by_cases hik : i < k * 2
  · rw [List.append_assoc, List.getElem?_append_left (by omega), List.getElem?_take_of_lt hik]
    exact h i hik
  · rw [List.append_assoc, List.getElem?_append_right (by omega), h1, List.getElem?_append_left (by omega), hc _ (by omega)]
    congr 2
    rw [show (i - k * 2) % 2 = i % 2 by omega]
theorem fil_take {f1 f2 : Value} {l : List Value} {k m : Nat} (h : Fil f1 f2 l k) (hm : m ≤ k) : ∀ i, i < m * 2 → (l.take (m * 2))[i]? = some (if i % 2 = 0 then f1 else f2) := by
  intro i hi
  rw [List.getElem?_take_of_lt hi]
  exact h i (by omega)
theorem fil_one {f1 f2 : Value} {l : List Value} {k : Nat} (h : Fil f1 f2 l k) (hf1 : f1.oneCell' = true) (hf2 : f2.oneCell' = true) (hk : k * 2 ≤ l.length) : ∀ v ∈ l.take (k * 2), v.oneCell' = true := by
  intro v hv
  obtain ⟨i, hi⟩ := List.mem_iff_getElem?.1 hv
  have h2 := (List.getElem?_eq_some_iff.1 hi).1
  rw [List.length_take] at h2
  rw [fil_take h (Nat.le_refl _) i (by omega)] at hi
  cases hi
  split <;> assumption
theorem Tryz.infoWF : (Tryz.prog.info? 113).map (fun i => (i.zero, i.size, i.bytes)) = some (some (.agg #[.nilFunc, .nilFunc]), 2, 16) := by kernel_rfl

set_option maxRecDepth 100000 in
set_option maxHeartbeats 1600000 in
theorem repeat_any (F1 F2 : Fn) (x1 y1 x2 y2 : Array Value) (g0 n : Nat) (w : World) (h1 : w.cell? ⟨g0, 0, none⟩ = some (.func F1 x1 y1)) (h2 : w.cell? ⟨g0, 1, none⟩ = some (.func F2 x2 y2)) (hn1 : 1 ≤ n) (hn : n ≤ 300) :
    Calls Tryz.prog 122 #[.slice (some ⟨g0, 0, none⟩) 1 1, .int .i64 (n : Int)] w fun e w' => ∃ g, e = .returned (.slice (some ⟨g, 0, none⟩) n n) ∧ (∀ i, i < n → w'.cell? ⟨g, i * 2, none⟩ = some (.func F1 x1 y1) ∧ w'.cell? ⟨g, i * 2 + 1, none⟩ = some (.func F2 x2 y2)) ∧ Below w.heap.size w w' := by
  obtain ⟨i0, hi, hz0, hz1, hz2⟩ := info_parts Tryz.infoWF
  have hinfo : (Tryz.prog.info? 113).map (·.size) = some 2 := by rw [hi]; simp [hz1]
  obtain ⟨M, hM⟩ : ∃ M, M = madeCells (Value.agg #[.nilFunc, .nilFunc]).cells (((n : Nat) : Int).toNat * i0.size) := ⟨_, rfl⟩
  have hMs : M.size = n * 2 := by rw [hM, size_madeCells, hz1]; simp
  have hmk : ∀ W : World, (Instr.makeSlice 155 (.int .i64 (n : Int)) (.int .i64 (n : Int))).run Tryz.prog W = .ok (.slice (some ⟨W.heap.size, 0, none⟩) n n) (W.alloc (.cells M 113)) := by
    intro W
    have h := run_make (P := Tryz.prog) W 155 113 i0 (.agg #[.nilFunc, .nilFunc]) Tryz.underlying155 hi hz0 .i64 .i64 (n : Int) (n : Int) (by omega) (by omega) (by rw [hz2]; omega) (by omega)
    rw [← hM] at h
    simpa using h
  clear hM
  have hB0 := (Below.refl w.heap.size w).alloc (Nat.le_refl _) (.cells M 113)
  have k0 := blk_new w M 113
  obtain ⟨W1, cur1, hcp, hk1, hs1, hf1, hb1⟩ : ∃ W1 cur1, (Builtin.copy_ #[155, 155] 3 #[.slice (some ⟨w.heap.size, 0, none⟩) n n, .slice (some ⟨g0, 0, none⟩) 1 1]).run Tryz.prog (w.alloc (.cells M 113)) = .ok (.int .i64 1) W1 ∧ Blk W1 w.heap.size cur1 113 ∧ cur1.size = n * 2 ∧ Fil (.func F1 x1 y1) (.func F2 x2 y2) cur1.toList 1 ∧ Below w.heap.size w W1 := by
    have hmin : Nat.min 1 n = 1 := Nat.min_eq_left hn1
    have hr := run_copy_rowK (P := Tryz.prog) (w.alloc (.cells M 113)) 155 155 3 113 w.heap.size 0 n n ⟨g0, 0, none⟩ 1 1 M 113 [.func F1 x1 y1, .func F2 x2 y2] 2 Tryz.underlying155 hinfo k0 (by rw [hmin]; rfl) (by
      intro j v hj
      rw [Nm.addr_add]
      match j, hj with
      | 0, hj => cases hj; exact (hB0.cell (World.block_lt_of_cell? w _ h1)).trans h1
      | 1, hj => cases hj; exact (hB0.cell (World.block_lt_of_cell? w _ h2)).trans h2
      | j + 2, hj => simp at hj) (by simp; omega) (by intro v hv; simp at hv; rcases hv with rfl | rfl <;> rfl)
    rw [hmin] at hr
    refine ⟨_, _, hr, setRow_blk k0 _, by simp; omega, ?_, hB0.grown (setRow_grown _ _ _) (by simp) (fun q hq => by cases hq; exact Nat.le_refl _)⟩
    rw [List.toList_toArray]
    have := fil_step (f1 := .func F1 x1 y1) (f2 := .func F2 x2 y2) (l := M.toList) (cs := [.func F1 x1 y1, .func F2 x2 y2]) (k := 0) (m := 1) (fun i hi => by omega) (fun i hi => by
      match i, hi with
      | 0, _ => rfl
      | 1, _ => rfl
      | i + 2, hi => omega) rfl (Nat.zero_le _)
    simpa using this
  have hmul := fun W => mul_one_any n W hn
  have HF1 := Nm.hide hf1
  clear hf1 hB0 k0 hz0 hz1 hz2 hi hMs
  have n1 : (1 : Int) ≤ (n : Int) := by omega
  have n3 : (n : Int) ≤ 300 := by omega
  have t1 : decide ((n : Int) < 0) = false := by simp
  have t2 : decide (9223372036854775807 < (n : Int)) = false := by simp; omega
  go_enter Tryz.func122, Tryz.ntmps122
  go_wp2_with (first | (go_at_call 174; refine (hmul _).mono ?_; rintro e w1 ⟨rfl, hw⟩; obtain rfl := hw.symm; clear hw) | (refine wpList_copy_ranR rfl (.tmp 31) (.tmp 32) 155 155 rfl _ _ _ _ rfl rfl hcp ?_))
  clear hcp hmk
  go_loopw [8] (fun i wr => ∃ (k : Nat) (cur : Array Value), 1 ≤ k ∧ k ≤ n ∧ i = .int .i64 k ∧ Blk wr w.heap.size cur 113 ∧ Hid (cur.size = n * 2 ∧ Fil (.func F1 x1 y1) (.func F2 x2 y2) cur.toList k) ∧ Below w.heap.size w wr) (fun i _ => n - (intOf i).toNat)
  case atStart => exact ⟨1, cur1, Nat.le_refl _, hn1, rfl, hk1, ⟨hs1, HF1.out⟩, hb1⟩
  case round =>
    obtain ⟨k, cur, hk1', hk, rfl, hbk, HC, hbel⟩ := hrel
    by_cases hlt : k < n
    · obtain ⟨hcs, hfl⟩ := HC.out
      obtain ⟨m, hm⟩ : ∃ m, m = Nat.min k (n - k) := ⟨_, rfl⟩
      have hmk2 : m ≤ k := by rw [hm]; exact Nat.min_le_left _ _
      have hmn : m ≤ n - k := by rw [hm]; exact Nat.min_le_right _ _
      have hm1 : 1 ≤ m := by rw [hm]; exact Nat.le_min.2 ⟨hk1', by omega⟩
      have hlen : cur.toList.length = n * 2 := by simpa using hcs
      have hcl : (cur.toList.take (m * 2)).length = m * 2 := by rw [List.length_take, hlen]; omega
      obtain ⟨W2, cur2, hcp, hk2, hs2, hb2⟩ : ∃ W2 cur2, (Builtin.copy_ #[155, 155] 3 #[.slice (some ⟨w.heap.size, k * 2, none⟩) (n - k) (n - k), .slice (some ⟨w.heap.size, 0, none⟩) k n]).run Tryz.prog wr.drew = .ok (.int .i64 (m : Int)) W2 ∧ Blk W2 w.heap.size cur2 113 ∧ Hid (cur2.size = n * 2 ∧ Fil (.func F1 x1 y1) (.func F2 x2 y2) cur2.toList (k + m)) ∧ Below w.heap.size w W2 := by
        have hr := run_copy_rowK (P := Tryz.prog) wr.drew 155 155 3 113 w.heap.size (k * 2) (n - k) (n - k) ⟨w.heap.size, 0, none⟩ k n cur 113 (cur.toList.take (m * 2)) 2 Tryz.underlying155 hinfo hbk (by rw [← hm, hcl]) (by
          intro j v hj
          rw [Nm.addr_add, Nat.zero_add]
          show wr.cell? _ = _
          rw [blk_cell hbk, ← Array.getElem?_toList]
          have hj2 := (List.getElem?_eq_some_iff.1 hj).1
          rw [hcl] at hj2
          rw [List.getElem?_take_of_lt hj2] at hj
          exact hj) (by rw [hcl, hcs]; omega) (fun v hv => fil_one (k := m) (fun i hi => hfl i (by omega)) rfl rfl (by rw [hlen]; omega) v hv)
        rw [← hm] at hr
        refine ⟨_, _, hr, setRow_blk hbk _, ⟨?_, ?_⟩, hbel.drew.grown (setRow_grown _ _ _) hbel.size (fun q hq => by cases hq; exact Nat.le_refl _)⟩
        · rw [List.size_toArray, List.length_append, List.length_append, List.length_take, List.length_drop, hcl, hlen]
          omega
        · rw [List.toList_toArray]
          exact fil_step hfl (fil_take hfl hmk2) hcl (by rw [hlen]; omega)
      have i1 : (0 : Int) ≤ (k : Int) := by omega
      have i2 : (k : Int) ≤ (n : Int) := by omega
      have i3 : (k : Int) < (n : Int) := by omega
      have i4 : ¬ n = k := by omega
      have i5 : (m : Int) ≤ 300 := by omega
      have iw : IntKind.i64.wrap ((k : Int) + (m : Int)) = (k : Int) + (m : Int) := Go.wrap_small _ (by omega) (by omega)
      clear hm hcs hfl hlen hcl HC hbk hinfo
      go_wp2_with fail
      refine wp_region_last (S := fun W => True) (L := 1000) (by kernel_rfl) trivial (fun hH => ?_)
      refine wpAnyL_take (i := 0) (v := ?_) rfl (by kernel_rfl) (by kernel_rfl) (by kernel_rfl) (by kernel_rfl) (fun _ _ _ h => h) (Or.inl ⟨by rfl, ?_⟩) (by assumption) ?_
      rotate_left 1
      · (intro w hSw; go_simp; try (with_reducible rfl))
      refine wpAnyL_take (i := 1) (v := ?_) rfl (by kernel_rfl) (by kernel_rfl) (by kernel_rfl) (by kernel_rfl) (fun _ _ _ h => h) (Or.inl ⟨by rfl, ?_⟩) (by assumption) ?_
      rotate_left 1
      · (intro w hSw; go_simp; try (with_reducible rfl))
      refine wpAnyL_take (i := 2) (v := ?_) rfl (by kernel_rfl) (by kernel_rfl) (by kernel_rfl) (by kernel_rfl) (fun _ _ _ h => h) (Or.inl ⟨by rfl, ?_⟩) (by assumption) ?_
      rotate_left 1
      · (intro w hSw; go_simp; try (with_reducible rfl))
      refine wpAnyL_take (i := 3) (v := ?_) rfl (by kernel_rfl) (by kernel_rfl) (by kernel_rfl) (by kernel_rfl) (fun _ _ _ h => h) (Or.inl ⟨by rfl, ?_⟩) (by assumption) ?_
      rotate_left 1
      · (intro w hSw; go_simp; try (with_reducible rfl))
      refine wpAnyL_take (i := 4) (v := ?_) rfl (by kernel_rfl) (by kernel_rfl) (by kernel_rfl) (by kernel_rfl) (fun _ _ _ h => h) (Or.inl ⟨by rfl, ?_⟩) (by assumption) ?_
      rotate_left 1
      · (intro w hSw; go_simp; try (with_reducible rfl))
      refine wpAnyL_take (i := 5) (v := ?_) rfl (by kernel_rfl) (by kernel_rfl) (by kernel_rfl) (by kernel_rfl) (fun _ _ _ h => h) (Or.inl ⟨by rfl, ?_⟩) (by assumption) ?_
      rotate_left 1
      · (intro w hSw; go_simp; try (with_reducible rfl))
      refine wpAnyL_take (i := 6) (v := ?_) rfl (by kernel_rfl) (by kernel_rfl) (by kernel_rfl) (by kernel_rfl) (fun _ _ _ h => h) (Or.inl ⟨by rfl, ?_⟩) (by assumption) ?_
      rotate_left 1
      · (intro w hSw; go_simp; try (with_reducible rfl))
      refine wpAnyL_one (i := 7) (by kernel_rfl) rfl (fun KQ hK' => ?_)
      refine step_copy_ranR rfl (.tmp 41) (.tmp 44) 155 155 rfl _ _ _ _ (by go_simp) (by go_simp) hcp ?_
      refine hK'.out _ _ trivial (fun hH => ?_)
      clear hK' KQ
      refine wpAnyL_take (i := 8) (v := ?_) rfl (by kernel_rfl) (by kernel_rfl) (by kernel_rfl) (by kernel_rfl) (fun _ _ _ h => h) (Or.inl ⟨by rfl, ?_⟩) (by assumption) ?_
      rotate_left 1
      · (intro w hSw; go_simp; try (with_reducible rfl))
      refine wpAnyL_take (i := 9) (v := ?_) rfl (by kernel_rfl) (by kernel_rfl) (by kernel_rfl) (by kernel_rfl) (fun _ _ _ h => h) (Or.inl ⟨by rfl, ?_⟩) (by assumption) ?_
      rotate_left 1
      · (intro w hSw; go_simp; try (with_reducible rfl))
      refine wpAnyL_done (by kernel_rfl) ?_
      clear hH hcp
      go_simp
      go_roundw
      case rel => exact ⟨.int .i64 ((k : Int) + (m : Int)), _, _, _, _, _, _, _, _, _, _, _, _, _, ⟨k + m, cur2, by omega, by omega, by go_num, hk2, hs2, hb2⟩, rfl⟩
      case measure => simp [intOf]; omega
    · have hkn : k = n := by omega
      subst hkn
      go_wp2
      go_ret
      refine ⟨_, rfl, fun i hi => ⟨?_, ?_⟩, hbel⟩
      · rw [blk_cell hbk, ← Array.getElem?_toList, HC.out.2 _ (by omega), if_pos (by omega)]
      · rw [blk_cell hbk, ← Array.getElem?_toList, HC.out.2 _ (by omega), if_neg (by omega)]
end Go.Proofs.YtddabafaejahbaaGreatDoor
