import Derived.Test.YtdcbhohlglncnaaGreatJClone
import Derived.Test.YtdcbhohlglncnaaGreatJMath
import Derived.Deep.QuietTactic
import Derived.BigQuiet
import Derived.Laws.CopyRow
import Derived.Lib.AppendZerosOnto
import Derived.Lib.Overlaps
/- (labelList).compare by its contract. -/
namespace Go.Proofs.YtdcbhohlglncnaaGreat
open Go.RowKit
theorem cell_drewN (w : World) (m : Nat) (a : Addr) : (w.drewN m).cell? a = w.cell? a := by simp
set_option maxRecDepth 100000 in
set_option maxHeartbeats 800000 in
theorem compare_any (v u : Value) (xs ys : List ByteArray) (w : World) (h : Nm.SRow w v xs) (h' : Nm.SRow w u ys) (hxs : ∀ x ∈ xs, x.size ≤ 1000000000) (hlx : xs.length ≤ 1000000000) (hly : ys.length ≤ 1000000000) :
 Calls Tryz.prog 141 #[v, u] w fun e w' => e = .returned (.int .i64 (Nm.cmpLs xs ys)) ∧ ∃ m, w' = w.drewN m := by
 obtain ⟨a, cap, rfl, hcap, hmx, hnl, hc⟩ := h
 obtain ⟨a', cap', rfl, hcap', hmx', hnl', hc'⟩ := h'
 clear hnl hnl'
 go_enter Tryz.func141, Tryz.ntmps141
 go_wp2
 go_loopw [5] (fun i wr => ∃ k : Nat, k ≤ xs.length ∧ k ≤ ys.length ∧ i = .int .i64 ((k : Int) + 1) ∧ Hid (Nm.cmpLs xs ys = Nm.cmpRev (xs.reverse.drop k) (ys.reverse.drop k)) ∧ ∃ m, Hid (wr = w.drewN m))
  (fun i _ => xs.length + 1 - (intOf i).toNat)
 case atStart => exact ⟨0, Nat.zero_le _, Nat.zero_le _, rfl, by show _ = _; simp [Nm.cmpLs], 0, rfl⟩
 case round =>
  obtain ⟨k, hka, hkb, rfl, HT, m, HW⟩ := hrel
  by_cases h1 : k < xs.length ∧ k < ys.length
  · obtain ⟨h1, h2⟩ := h1
    have i1 : (k : Int) + 1 ≤ (xs.length : Int) := by omega
    have i2 : (k : Int) + 1 ≤ (ys.length : Int) := by omega
    obtain ⟨x, hx⟩ : ∃ x, xs[xs.length - (k + 1)]? = some x := ⟨_, List.getElem?_eq_getElem (by omega)⟩
    obtain ⟨y, hy⟩ : ∃ y, ys[ys.length - (k + 1)]? = some y := ⟨_, List.getElem?_eq_getElem (by omega)⟩
    obtain ⟨b, off, rfl, hcell⟩ := hc (by intro h; rw [h] at h1; simp at h1)
    obtain ⟨b', off', rfl, hcell'⟩ := hc' (by intro h; rw [h] at h2; simp at h2)
    have hcx : wr.cell? ⟨b, off + (xs.length - (k + 1)), none⟩ = some (.string x) := by rw [HW.out, cell_drewN]; exact hcell _ _ hx
    have hcy : wr.cell? ⟨b', off' + (ys.length - (k + 1)), none⟩ = some (.string y) := by rw [HW.out, cell_drewN]; exact hcell' _ _ hy
    have hxz := hxs x (List.mem_of_getElem? hx)
    have q1 : (0 : Int) ≤ (xs.length : Int) - ((k : Int) + 1) := by omega
    have q2 : (xs.length : Int) - ((k : Int) + 1) < (xs.length : Int) := by omega
    have q3 : ((xs.length : Int) - ((k : Int) + 1)).toNat = xs.length - (k + 1) := by omega
    have q4 : (0 : Int) ≤ (ys.length : Int) - ((k : Int) + 1) := by omega
    have q5 : (ys.length : Int) - ((k : Int) + 1) < (ys.length : Int) := by omega
    have q6 : ((ys.length : Int) - ((k : Int) + 1)).toNat = ys.length - (k + 1) := by omega
    have hrx := Nm.rev_get h1 hx
    have hry := Nm.rev_get h2 hy
    by_cases he : Nm.ordS x y = 0
    · have HN : Hid (Nm.cmpLs xs ys = Nm.cmpRev (xs.reverse.drop (k + 1)) (ys.reverse.drop (k + 1))) := HT.out.trans (Nm.cmp_go hrx hry he)
      have hcf := fun W => compareFolded_any x y W hxz
      rw [he] at hcf
      have hz : ((0 : Int) != 0) = false := rfl
      clear he hx hy hrx hry hcell hcell' hc hc' hxs
      go_wp2
      go_quiet ((go_at_call 166; exact Calls.quiet_of (hcf _)))
      go_wp2
      go_roundw
      case rel => exact ⟨k + 1, by omega, by omega, by go_num, HN, _, by show _ = _; rw [HW.out, World.drewN_drewN]⟩
      case measure => simp [intOf]; omega
    · have HO : Hid (Nm.cmpLs xs ys = Nm.ordS x y) := HT.out.trans (Nm.cmp_stop hrx hry he)
      have hcf := fun W => compareFolded_any x y W hxz
      have hz : (Nm.ordS x y != 0) = true := by rw [bne_iff_ne]; exact he
      generalize Nm.ordS x y = o at *
      clear he hx hy hrx hry hcell hcell' hc hc' hxs
      go_wp2
      go_quiet ((go_at_call 166; exact Calls.quiet_of (hcf _)))
      go_wp2
      go_ret
      rw [HO.out]
      exact ⟨rfl, _, by rw [HW.out, World.drewN_drewN]⟩
  · have HO : Hid (Nm.cmpLs xs ys = Nm.cmpI xs.length ys.length) := by
     show _ = _
     rw [HT.out, Nm.cmp_end (by simpa using hka) (by simpa using hkb) (by simp; omega)]
     simp
    clear hc hc' hxs
    by_cases h2 : k < xs.length
    · have g1 : (k : Int) + 1 ≤ (xs.length : Int) := by omega
      have g2 : (ys.length : Int) < (k : Int) + 1 := by omega
      clear h1
      go_wp2_with fail
      refine (cmpInt_any _ _ _).mono ?_
      rintro e w3 ⟨rfl, rfl⟩
      go_wp2
      go_ret
      rw [HO.out]
      exact ⟨rfl, _, HW.out⟩
    · have g1 : (xs.length : Int) < (k : Int) + 1 := by omega
      clear h1
      go_wp2_with fail
      refine (cmpInt_any _ _ _).mono ?_
      rintro e w3 ⟨rfl, rfl⟩
      go_wp2
      go_ret
      rw [HO.out]
      exact ⟨rfl, _, HW.out⟩
end Go.Proofs.YtdcbhohlglncnaaGreat
/- (*table).place$1 at its three instances, by their contracts. -/
namespace Go.Proofs.YtdcbhohlglncnaaGreat
open Go.RowKit
set_option linter.unusedVariables false
set_option maxRecDepth 100000 in
set_option maxHeartbeats 1600000 in
theorem place1S_any (tb g : Nat) (rv : Value) (k d t : ByteArray) (w : World) (kb : Blk w tb #[.pointer (some ⟨g, 0, none⟩)] 192) (kg : Blk w g #[cmpSv, rv] 256) :
 Calls Tryz.prog 222 #[.agg #[.string k, .string d], .string t, .pointer (some ⟨tb, 0, none⟩)] w fun e w' => e = .returned (.int .i64 (Nm.ordL k.data.toList t.data.toList)) ∧ Below w.heap.size w w' := by
 have hB := (Below.refl w.heap.size w).alloc (Nat.le_refl _) (.cells #[.string k, .string d] 258)
 have rb := fun i => blk_cell (blk_below kb hB) i
 have rg := fun i => blk_cell (blk_below kg hB) i
 have hc := fun W => compare_any' k t W
 unfold cmpSv at rg
 generalize Nm.ordL k.data.toList t.data.toList = C at *
 go_enter Tryz.func222, Tryz.ntmps222
 go_wp2
 go_quiet ((go_at_call 178; exact Calls.quiet_of_same (hc _)))
 go_wp2
 go_ret
 exact ⟨rfl, Go.below_drewN hB _⟩
set_option maxRecDepth 100000 in
set_option maxHeartbeats 1600000 in
theorem place1I_any (tb g : Nat) (rv pv : Value) (k t : Int) (w : World) (kb : Blk w tb #[.pointer (some ⟨g, 0, none⟩)] 142) (kg : Blk w g #[cmpIv, rv] 187) :
 Calls Tryz.prog 185 #[.agg #[.int .i64 k, pv], .int .i64 t, .pointer (some ⟨tb, 0, none⟩)] w fun e w' => e = .returned (.int .i64 (Nm.cmpI k t)) ∧ Below w.heap.size w w' := by
 have hB := (Below.refl w.heap.size w).alloc (Nat.le_refl _) (.cells #[.int .i64 k, pv] 189)
 have rb := fun i => blk_cell (blk_below kb hB) i
 have rg := fun i => blk_cell (blk_below kg hB) i
 have hc := fun W => cmp64_any k t W
 unfold cmpIv at rg
 generalize Nm.cmpI k t = C at *
 go_enter Tryz.func185, Tryz.ntmps185
 go_wp2
 go_quiet ((go_at_call 174; exact Calls.quiet_of_same (hc _)))
 go_wp2
 go_ret
 exact ⟨rfl, Go.below_drewN hB _⟩
set_option maxRecDepth 100000 in
set_option maxHeartbeats 1600000 in
theorem place1L_any (tb g : Nat) (rv pv kv tv : Value) (ks ts : List ByteArray) (w : World) (kb : Blk w tb #[.pointer (some ⟨g, 0, none⟩)] 127) (kg : Blk w g #[cmpLv, rv] 180)
 (hk : Nm.SRow w kv ks) (ht : Nm.SRow w tv ts) (hks : ∀ x ∈ ks, x.size ≤ 1000000000) (hkl : ks.length ≤ 1000000000) (htl : ts.length ≤ 1000000000) :
 Calls Tryz.prog 215 #[.agg #[kv, pv], tv, .pointer (some ⟨tb, 0, none⟩)] w fun e w' => e = .returned (.int .i64 (Nm.cmpLs ks ts)) ∧ Below w.heap.size w w' := by
 have hB := (Below.refl w.heap.size w).alloc (Nat.le_refl _) (.cells #[kv, pv] 182)
 have rb := fun i => blk_cell (blk_below kb hB) i
 have rg := fun i => blk_cell (blk_below kg hB) i
 have hc := fun m => compare_any kv tv ks ts _ (hk.below (Go.below_drewN hB m)) (ht.below (Go.below_drewN hB m)) hks hkl htl
 unfold cmpLv at rg
 obtain ⟨ka, kc, rfl, _⟩ := hk
 obtain ⟨ta, tc, rfl, _⟩ := ht
 generalize Nm.cmpLs ks ts = C at *
 go_enter Tryz.func215, Tryz.ntmps215
 go_wp2
 go_quiet ((go_at_call 141; exact Calls.quiet_of (hc _)))
 go_wp2
 go_ret
 exact ⟨rfl, Go.below_drewN hB _⟩
theorem run_copy_rowK {P : Program} (w : World) (dT sT ty elem : TypeId) (g o dLen dCap : Nat) (a : Addr) (sLen sCap : Nat) (cur : Array Value) (t : TypeId) (cs : List Value) (sz : Nat)
 (hu : P.underlying dT = some (.slice elem)) (hs : (P.info? elem).map (·.size) = some sz)
 (hg : w.heap[g]? = some (.cells cur t (0, 0))) (hn : cs.length = Nat.min sLen dLen * sz)
 (hsrc : ∀ j v, cs[j]? = some v → w.cell? (a.add j) = some v) (hfit : o + cs.length ≤ cur.size) (h1 : ∀ v ∈ cs, v.oneCell' = true) :
 (Builtin.copy_ #[dT, sT] ty #[.slice (some ⟨g, o, none⟩) dLen dCap, .slice (some a) sLen sCap]).run P w =
  .ok (goInt (Nat.min sLen dLen)) (w.setRow g (cur.toList.take o ++ cs ++ cur.toList.drop (o + cs.length)).toArray) := by
 have hl := run_loadCells_list (P := P) w a cs hsrc
 have hst := run_storeCells_at P g o t cs 0 cur w hg (by simpa using hfit) h1
 cases hq : P.info? elem with
 | none => simp [hq] at hs
 | some i =>
   have hi : i.size = sz := by simpa [hq] using hs
   simp [Builtin.copy_, run_underlying hu, Builtin.lenOf, Builtin.firstCells, sizeOf, typeInfo, hq, hi, ← hn, hl, hst]
theorem wpList_app_ranT {P : Program} {ops : Array Oper} {rest : List Oper} {o : Oper} {a : Act} {w : World} {Q : Exit → Act → World → Prop} (hgd : o.guard = none) (s x : Operand) (t t2 : TypeId)
 (ho : o.op = .call { callee := .builtin .append, args := #[s, x], argTypes := #[t, t2] }) (v u v' : Value) (w' : World) (hs : a.eval s = v) (hx : a.eval x = u)
 (hr : (Builtin.append_ #[t, t2] o.type #[v, u]).run P w = .ok v' w') (h : wpList P ops Q rest (a.put o.dst v') w') : wpList P ops Q (o :: rest) a w :=
 wpList_plain hgd fun _ hK => by
  unfold Oper.wp execOp
  simp only [ho, resolve, invoke, builtin, Sem.run_bind, Sem.run_pure, Result.andThen_ok, List.map_toArray, List.map_cons, List.map_nil, hs, hx, hr]
  exact hK _ _ h
theorem setRow_blk {w : World} {g : Nat} {cur : Array Value} {t : TypeId} (hg : Blk w g cur t) (cs : Array Value) : Blk (w.setRow g cs) g cs t := by
 unfold Blk at *
 have hlt := (Array.getElem?_eq_some_iff.1 hg).1
 have he := (Array.getElem?_eq_some_iff.1 hg).2
 simp [World.setRow, Array.getElem?_modify, hg]
theorem setRow_size (w : World) (g : Nat) (cs : Array Value) : (w.setRow g cs).heap.size = w.heap.size := by simp [World.setRow]
theorem setRow_grown (w : World) (g : Nat) (cs : Array Value) : w.grownBy (w.setRow g cs) (some g) :=
 ⟨rfl, rfl, rfl, by rw [setRow_size]; exact Nat.le_refl _, fun k hk hne => setRow_other w g k cs (fun e => hne (by rw [e]))⟩
/-- A row of one's own out of its block. -/
theorem own_of_blk {w : World} {B e s g n cap : Nat} {cur : Array Value} {xs : List Value} (hg : Blk w g cur e) (hB : B ≤ g) (hn : n ≤ cap) (hm : cap ≤ maxLen) (hs : cur.size = cap * s) (ht : cur.toList.take (n * s) = xs) : w.ownsRow B e s (.slice (some ⟨g, 0, none⟩) n cap) n xs := by
 refine ⟨?_, .inr ⟨g, cap, cur, rfl, hB, hg, hn, hm, hs, ht⟩⟩
 rw [← ht, List.length_take, Array.length_toList, hs, Nat.min_eq_left (Nat.mul_le_mul_right _ hn)]
/-- Two cells are put in at a place of a row that has room. -/
theorem ins_room {cur xs : List Value} {i n cap : Nat} (x0 x1 : Value) (hcl : cur.length = cap * 2) (ht : cur.take (n * 2) = xs) (hi : i < n) (hr : n + 1 ≤ cap) :
 ∀ c1, c1 = cur.take ((i + 1) * 2) ++ xs.drop (i * 2) ++ cur.drop ((i + 1) * 2 + (xs.drop (i * 2)).length) → c1.length = cap * 2 ∧ ∀ c2, c2 = c1.take (i * 2) ++ [x0, x1] ++ c1.drop (i * 2 + [x0, x1].length) → c2.length = cap * 2 ∧ c2.take ((n + 1) * 2) = xs.take (i * 2) ++ [x0, x1] ++ xs.drop (i * 2) := by
 intro c1 h1
 have hxl : xs.length = n * 2 := by rw [← ht, List.length_take]; omega
 have hdl : (xs.drop (i * 2)).length = (n - i) * 2 := by rw [List.length_drop, hxl]; omega
 have htl : (cur.take ((i + 1) * 2)).length = (i + 1) * 2 := by rw [List.length_take]; omega
 have hl1 : c1.length = cap * 2 := by rw [h1]; simp only [List.length_append, htl, hdl, List.length_drop]; omega
 refine ⟨hl1, fun c2 h2 => ?_⟩
 have e1 : c1.take (i * 2) = xs.take (i * 2) := by
  rw [h1, List.append_assoc, List.take_append, htl, List.take_take, show i * 2 - (i + 1) * 2 = 0 by omega, List.take_zero, List.append_nil, ← ht, List.take_take]
  congr 1
  omega
 have e2 : c1.drop (i * 2 + [x0, x1].length) = xs.drop (i * 2) ++ cur.drop ((i + 1) * 2 + (xs.drop (i * 2)).length) := by
  rw [show i * 2 + [x0, x1].length = (i + 1) * 2 by simp; omega, h1, List.append_assoc, List.drop_append, htl, Nat.sub_self, List.drop_zero, List.drop_of_length_le (Nat.le_of_eq htl), List.nil_append]
 have hxt : (xs.take (i * 2)).length = i * 2 := by rw [List.length_take, hxl]; omega
 rw [e1, e2] at h2
 have hl3 : (xs.take (i * 2) ++ [x0, x1] ++ xs.drop (i * 2)).length = (n + 1) * 2 := by simp only [List.length_append, hxt, hdl, List.length_cons, List.length_nil]; omega
 have e3 : c2 = (xs.take (i * 2) ++ [x0, x1] ++ xs.drop (i * 2)) ++ cur.drop ((i + 1) * 2 + (xs.drop (i * 2)).length) := by rw [h2]; simp only [List.append_assoc]
 refine ⟨?_, ?_⟩
 · rw [e3, List.length_append, hl3, List.length_drop, hcl, hdl]; omega
 · rw [e3, ← hl3, List.take_left]
/-- Two cells and the rest are put behind the beginning of a row, in a new block. -/
theorem ins_grow {xs z : List Value} {i n cap : Nat} (x0 x1 : Value) (hxl : xs.length = n * 2) (hi : i < n) (hr : n + 1 ≤ cap) (hz : (xs.take (i * 2) ++ z).length = cap * 2) :
 ∀ c1, c1 = (xs.take (i * 2) ++ z).take (i * 2) ++ [x0, x1] ++ (xs.take (i * 2) ++ z).drop (i * 2 + [x0, x1].length) → c1.length = cap * 2 ∧ ∀ c2, c2 = c1.take ((i + 1) * 2) ++ xs.drop (i * 2) ++ c1.drop ((i + 1) * 2 + (xs.drop (i * 2)).length) → c2.length = cap * 2 ∧ c2.take ((n + 1) * 2) = xs.take (i * 2) ++ [x0, x1] ++ xs.drop (i * 2) := by
 intro c1 h1
 have hxt : (xs.take (i * 2)).length = i * 2 := by rw [List.length_take, hxl]; omega
 have hdl : (xs.drop (i * 2)).length = (n - i) * 2 := by rw [List.length_drop, hxl]; omega
 have e1 : (xs.take (i * 2) ++ z).take (i * 2) = xs.take (i * 2) := by
  have := List.take_left (l₁ := xs.take (i * 2)) (l₂ := z)
  rw [hxt] at this
  exact this
 rw [e1] at h1
 have hl1 : c1.length = cap * 2 := by
  rw [h1]
  simp only [List.length_append, hxt, List.length_drop, List.length_cons, List.length_nil] at hz ⊢
  omega
 refine ⟨hl1, fun c2 h2 => ?_⟩
 have hl2 : (xs.take (i * 2) ++ [x0, x1]).length = (i + 1) * 2 := by simp only [List.length_append, hxt, List.length_cons, List.length_nil]; omega
 have e2 : c1.take ((i + 1) * 2) = xs.take (i * 2) ++ [x0, x1] := by rw [h1, ← hl2, List.take_left]
 rw [e2] at h2
 have hl3 : (xs.take (i * 2) ++ [x0, x1] ++ xs.drop (i * 2)).length = (n + 1) * 2 := by rw [List.length_append, hl2, hdl]; omega
 refine ⟨?_, ?_⟩
 · rw [h2, List.length_append, hl3, List.length_drop, hl1, hdl]; omega
 · rw [h2, ← hl3, List.take_left]
end Go.Proofs.YtdcbhohlglncnaaGreat
