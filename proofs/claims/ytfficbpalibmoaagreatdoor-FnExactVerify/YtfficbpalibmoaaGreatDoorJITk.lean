import Derived.Test.YtfficbpalibmoaaGreatDoorJFoldText
import Derived.Test.YtfficbpalibmoaaGreatDoorJIWo
import Derived.Test.YtfficbpalibmoaaGreatDoorJJoin
import Derived.Test.YtfficbpalibmoaaGreatDoorJMath
import Derived.Test.YtfficbpalibmoaaGreatDoorRows
import Derived.WalkSpells
import Derived.WalkLawsBesides
import Derived.RegionTactic
import Derived.BigRegion
import Derived.BigQuiet
import Derived.Deep.QuietTactic
import Derived.OpenShut
import Derived.Test.YtfficbpalibmoaaGreatDoorJPiece
import Derived.Test.YtfficbpalibmoaaGreatDoorJICc
/- (impl.state).take by its contract. -/
namespace Go.Proofs.YtfficbpalibmoaaGreatDoor
open Go.RowKit
set_option linter.unusedVariables false

theorem run_index_arr {P : Program} {t e : TypeId} {n k : Nat} {cs : Array Value} {v : Value} {i : TypeInfo} (hu : P.underlying t = some (.array n e)) (hue : P.underlying e = some (.int .u32)) (hi : P.info? e = some i) (hs : i.size = 1) (hk : k < n) (hv : cs[k]? = some v) (W : World) :
    (Instr.index t (.agg cs) (.int .i64 (k : Int))).run P W = .ok v W := by
  have h0 : (0 : Int) ≤ (k : Int) ∧ (k : Int) < (n : Int) := by omega
  simp [Instr.index, asIntOf, run_underlying hu, run_underlying hue, part, isAgg, sizeOf, typeInfo, hi, hs, h0, hk, hv]
theorem info_one {P : Program} {e : TypeId} (h : (P.info? e).map (·.size) = some 1) : ∃ i, P.info? e = some i ∧ i.size = 1 := by
  cases hq : P.info? e with
  | none => simp [hq] at h
  | some i => exact ⟨i, rfl, by simpa [hq] using h⟩
theorem hvA_size (s : Sv) : (hvA s).size = 8 := rfl
theorem hvA_one (s : Sv) : (hvA s).all (·.oneCell') = true := all8 _ _ _ _ _ _ _ _
/-- The words K lie in block g. -/
def KAt (W : World) (g : Nat) : Prop := ∀ i, i < 64 → W.cell? ⟨g, i, none⟩ = some (.int .u32 ((KW i).toNat : Int))
theorem KAt.below {w W : World} {g : Nat} (h : KAt w g) (hb : Below w.heap.size w W) : KAt W g := fun i hi => (hb.cell (World.block_lt_of_cell? w _ (h i hi))).trans (h i hi)

theorem wp_store_blk {P : Program} {o : Oper} {a : Act} {w : World} {K : Act → World → Prop} {Q : Exit → Act → World → Prop} (p x : Operand) (t : TypeId) (ho : o.op = .store t p x) (hdst : o.dst = none) (b : Nat) (c c' : Array Value) (hk : Blk w b c t)
    (hp : a.eval p = .pointer (some ⟨b, 0, none⟩)) (hx : a.eval x = .agg c') (hi : (P.info? t).map (·.size) = some c'.size) (hs : c.size = c'.size) (h1 : c'.all (·.oneCell') = true)
    (h : ∀ w', Blk w' b c' t → Only b w w' → K a w') : o.wp P a w K Q := by
  unfold Oper.wp execOp
  simp only [ho, hp, hx, Instr.storeAt, Instr.sureAddr, Sem.run_bind, Sem.run_pure, Result.andThen_ok, run_storeVar_row w b t t c c' hk hi hs h1]
  have e : a.put o.dst undef = a := by rw [hdst]; rfl
  show K (a.put o.dst undef) _
  rw [e]
  exact h _ (blk_setRow hk) Only.setRow

set_option maxRecDepth 100000 in
set_option maxHeartbeats 8000000 in
theorem stTake_any (s : Sv) (t : List UInt8) (w : World) (hK : KAt w 1) :
    Calls Tryz.prog 97 #[.agg (hvA s), .agg (blA t)] w fun e w' => e = .returned (.agg (hvA (addSv s (roundsW (fun i => wordAt t (4 * i)) s 64)))) ∧ Below w.heap.size w w' := by
  have hinf8 : (Tryz.prog.info? 138).map (·.size) = some 8 := by kernel_rfl
  have hinf64 : (Tryz.prog.info? 133).map (·.size) = some (blA t).size := by rw [blA_size]; kernel_rfl
  obtain ⟨m, hm⟩ : ∃ m : Nat → Wd, (fun i => wordAt t (4 * i)) = m := ⟨_, rfl⟩
  have hwd := fun W => words_any t W
  rw [hm]
  simp only [hm] at hwd
  have hinfA : (Tryz.prog.info? 138).map (·.size) = some (hvA s).size := hinf8
  have kA : ∀ Z : Array Value, Blk (((w.alloc (.cells (hvA s) 138)).alloc (.cells (blA t) 133)).alloc (.cells Z 138)) w.heap.size (hvA s) 138 := fun Z => blk_alloc (blk_alloc (blk_new _ _ _) _) _
  have kA2 : ∀ Z Y : Array Value, Blk ((((w.alloc (.cells (hvA s) 138)).alloc (.cells (blA t) 133)).alloc (.cells Z 138)).alloc (.cells Y 138)) (w.heap.size + 1 + 1 + 1) Y 138 := by
    intro Z Y
    have h := blk_new (((w.alloc (.cells (hvA s) 138)).alloc (.cells (blA t) 133)).alloc (.cells Z 138)) Y 138
    rw [World.size_alloc, World.size_alloc, World.size_alloc] at h
    exact h
  have kB2 : ∀ Z Y : Array Value, Blk ((((w.alloc (.cells (hvA s) 138)).alloc (.cells (blA t) 133)).alloc (.cells Z 138)).alloc (.cells Y 138)) (w.heap.size + 1) (blA t) 133 := by
    intro Z Y
    have h := blk_new (w.alloc (.cells (hvA s) 138)) (blA t) 133
    rw [World.size_alloc] at h
    exact blk_alloc (blk_alloc h _) _
  have kC2 : ∀ Z Y : Array Value, Blk ((((w.alloc (.cells (hvA s) 138)).alloc (.cells (blA t) 133)).alloc (.cells Z 138)).alloc (.cells Y 138)) (w.heap.size + 1 + 1) Z 138 := by
    intro Z Y
    have h := blk_new ((w.alloc (.cells (hvA s) 138)).alloc (.cells (blA t) 133)) Z 138
    rw [World.size_alloc, World.size_alloc] at h
    exact blk_alloc h _
  have hB2 : ∀ Z Y : Array Value, Below w.heap.size w ((((w.alloc (.cells (hvA s) 138)).alloc (.cells (blA t) 133)).alloc (.cells Z 138)).alloc (.cells Y 138)) := by
    intro Z Y
    have h1 := (Below.refl w.heap.size w).alloc (Nat.le_refl _) (.cells (hvA s) 138)
    have h2 := h1.alloc h1.size (.cells (blA t) 133)
    have h3 := h2.alloc h2.size (.cells Z 138)
    exact h3.alloc h3.size _
  go_enter Tryz.func97, Tryz.ntmps97
  go_wp2_with (first
    | (refine wpList_load_blk (.tmp 2) 138 rfl rfl w.heap.size _ _ (kA _) rfl Tryz.underlying138 rfl hinfA ?_)
    | (refine wpList_store_blk (.tmp 5) (.tmp 9) 138 rfl rfl rfl (w.heap.size + 1 + 1 + 1) _ _ (kA2 _ _) rfl rfl hinfA rfl (all8 _ _ _ _ _ _ _ _) ?_; intro w1 k5 o5; have k2 := o5.blk (blk_alloc (kA _) _) (by omega); have k3 := o5.blk (kB2 _ _) (by omega); have k4 := o5.blk (kC2 _ _) (by omega); have hB3 := o5.below (hB2 _ _) (by omega) (hB2 _ _).size; clear o5)
    | (refine wpList_load_blk (.tmp 3) 133 rfl rfl (w.heap.size + 1) _ _ k3 rfl Tryz.underlying133 rfl hinf64 ?_)
    | (go_at_call 106; refine (hwd _).mono ?_; rintro e w2 ⟨rfl, hb2⟩))
  have k52 := blk_below k5 hb2
  have k22 := blk_below k2 hb2
  have k42 := blk_below k4 hb2
  have hBw := Nm.below_two hB3 hb2
  have hK2 := hK.below hBw
  clear k5 k2 k4 k3 hB3 hb2 kA kA2 kB2 kC2 hB2 hwd
  have HK1 := Nm.hide (World.block_lt_of_cell? w _ (hK 0 (by decide)))
  have hp0 := hBw.size
  clear hK
  generalize hp : w.heap.size = p0 at *
  have HP := Nm.hide hp
  clear hp
  go_loopw [12] (fun i wr => ∃ k : Nat, k ≤ 64 ∧ i = .int .i64 k ∧ Blk wr (p0 + 1 + 1 + 1) (hvA (roundsW m s k)) 138 ∧ Only (p0 + 1 + 1 + 1) w2 wr) (fun i _ => 64 - (intOf i).toNat)
  case atStart => exact ⟨0, by omega, rfl, k52, Only.refl _ _⟩
  case round =>
    obtain ⟨k, hk, rfl, kk, hO⟩ := hrel
    clear k52
    by_cases hlt : k < 64
    · have i1 : (0 : Int) ≤ (k : Int) := by omega
      have i2 : (k : Int) < 64 := by omega
      have ha := wA_at (m := m) hlt hlt
      have hsz := wA_size m 64
      have HR := Nm.hide (show roundsW m s (k + 1) = roundX (roundsW m s k) (KW k + wF m k) by rw [roundX_eq]; rfl)
      have hKc := hO.cell (b := 1) (by have := World.block_lt_of_cell? w2 _ (hK2 0 (by decide)); have := HK1.out; omega) (hK2 k hlt)
      generalize roundsW m s k = v at *
      generalize hwA : wA m 64 = WA at *
      generalize wF m k = wk at *
      obtain ⟨va, vb, vc, vd, ve, vf, vg, vh⟩ := v
      obtain ⟨ui, hui, hus⟩ := info_one (P := Tryz.prog) (e := 124) (by kernel_rfl)
      have hix := fun W => run_index_arr (P := Tryz.prog) (W := W) Tryz.underlying126 Tryz.underlying124 hui hus hlt ha
      have hcl := hvA_cells kk
      have hpk := blk_lt kk
      have hS : ∀ W, Below wr.heap.size wr W → (W.cell? ⟨p0 + 1 + 1 + 1, 0, none⟩ = some (.int .u32 (va.toNat : Int)) ∧ W.cell? ⟨p0 + 1 + 1 + 1, 1, none⟩ = some (.int .u32 (vb.toNat : Int)) ∧ W.cell? ⟨p0 + 1 + 1 + 1, 2, none⟩ = some (.int .u32 (vc.toNat : Int)) ∧ W.cell? ⟨p0 + 1 + 1 + 1, 3, none⟩ = some (.int .u32 (vd.toNat : Int)) ∧ W.cell? ⟨p0 + 1 + 1 + 1, 4, none⟩ = some (.int .u32 (ve.toNat : Int)) ∧ W.cell? ⟨p0 + 1 + 1 + 1, 5, none⟩ = some (.int .u32 (vf.toNat : Int)) ∧ W.cell? ⟨p0 + 1 + 1 + 1, 6, none⟩ = some (.int .u32 (vg.toNat : Int)) ∧ W.cell? ⟨p0 + 1 + 1 + 1, 7, none⟩ = some (.int .u32 (vh.toNat : Int)) ∧ W.cell? ⟨1, k, none⟩ = some (.int .u32 ((KW k).toNat : Int))) ∧ Below wr.heap.size wr W := fun W hW =>
        ⟨⟨(hW.cell hpk).trans hcl.1, (hW.cell hpk).trans hcl.2.1, (hW.cell hpk).trans hcl.2.2.1, (hW.cell hpk).trans hcl.2.2.2.1, (hW.cell hpk).trans hcl.2.2.2.2.1, (hW.cell hpk).trans hcl.2.2.2.2.2.1, (hW.cell hpk).trans hcl.2.2.2.2.2.2.1, (hW.cell hpk).trans hcl.2.2.2.2.2.2.2, (hW.cell (World.block_lt_of_cell? wr _ hKc)).trans hKc⟩, hW⟩
      have hS0 := hS wr.drew (Below.refl _ _).drew
      clear hcl ha hsz hKc
      go_wp2
      refine wp_region_last (S := fun W => (W.cell? ⟨p0 + 1 + 1 + 1, 0, none⟩ = some (.int .u32 (va.toNat : Int)) ∧ W.cell? ⟨p0 + 1 + 1 + 1, 1, none⟩ = some (.int .u32 (vb.toNat : Int)) ∧ W.cell? ⟨p0 + 1 + 1 + 1, 2, none⟩ = some (.int .u32 (vc.toNat : Int)) ∧ W.cell? ⟨p0 + 1 + 1 + 1, 3, none⟩ = some (.int .u32 (vd.toNat : Int)) ∧ W.cell? ⟨p0 + 1 + 1 + 1, 4, none⟩ = some (.int .u32 (ve.toNat : Int)) ∧ W.cell? ⟨p0 + 1 + 1 + 1, 5, none⟩ = some (.int .u32 (vf.toNat : Int)) ∧ W.cell? ⟨p0 + 1 + 1 + 1, 6, none⟩ = some (.int .u32 (vg.toNat : Int)) ∧ W.cell? ⟨p0 + 1 + 1 + 1, 7, none⟩ = some (.int .u32 (vh.toNat : Int)) ∧ W.cell? ⟨1, k, none⟩ = some (.int .u32 ((KW k).toNat : Int))) ∧ Below wr.heap.size wr W) 7 (by kernel_rfl) hS0 (fun hH => ?_)
      clear hS0
      refine wpAnyL_take (i := 0) (v := ?_) rfl (by kernel_rfl) (by kernel_rfl) (by kernel_rfl) (by kernel_rfl) (fun _ _ _ h => h) (Or.inl ⟨by rfl, ?_⟩) (by assumption) ?_
      rotate_left 1
      · (intro w hSw; go_simp; try (with_reducible rfl))
      refine wpAnyL_take (i := 1) (v := ?_) rfl (by kernel_rfl) (by kernel_rfl) (by kernel_rfl) (by kernel_rfl) (fun _ _ _ h => h) (Or.inl ⟨by rfl, ?_⟩) (by assumption) ?_
      rotate_left 1
      · (intro w hSw; go_simp; try (with_reducible rfl))
      refine wpAnyL_take (i := 2) (v := ?_) rfl (by kernel_rfl) (by kernel_rfl) (by kernel_rfl) (by kernel_rfl) (fun _ _ _ h => h) (Or.inl ⟨by rfl, ?_⟩) (by assumption) ?_
      rotate_left 1
      · (intro w hSw; go_simp; try (with_reducible rfl))
      refine wpAnyL_take (i := 3) (v := ?_) rfl (by kernel_rfl) (by kernel_rfl) (by kernel_rfl) (by kernel_rfl) (fun _ _ _ h => h) (Or.inl ⟨by rfl, ?_⟩) (by assumption) ?_
      rotate_left 1
      · (intro w hSw; go_simp; try (with_reducible rfl))
      refine wpAnyL_take (i := 4) (v := ?_) rfl (by kernel_rfl) (by kernel_rfl) (by kernel_rfl) (by kernel_rfl) (fun _ _ _ h => h) (Or.inl ⟨by rfl, ?_⟩) (by assumption) ?_
      rotate_left 1
      · (intro w hSw; go_simp; try (with_reducible rfl))
      refine wpAnyL_take (i := 5) (v := ?_) rfl (by kernel_rfl) (by kernel_rfl) (by kernel_rfl) (by kernel_rfl) (fun _ _ _ h => h) (Or.inl ⟨by rfl, ?_⟩) (by assumption) ?_
      rotate_left 1
      · (intro w hSw; go_simp; try (with_reducible rfl))
      rw [wr_add]
      refine wpAnyL_one (i := 6) (by kernel_rfl) rfl (fun K hK => ?_)
      go_simp
      refine (round_any ⟨va, vb, vc, vd, ve, vf, vg, vh⟩ (KW k + wk) _).mono ?_
      rintro e w3 ⟨rfl, hb3⟩
      have hb4 : Below wr.heap.size wr w3 := (Below.refl _ wr).drew.trans hb3
      have kk3 := blk_below kk hb4
      have hO3 := hO.more hb4
      rw [← HR.out]
      go_wp2_with fail
      refine hK.out _ _ (hS _ hb4) (fun _ => ?_)
      clear hK K hS hH hb3 kk hO hb4
      refine wpAnyL_end (by kernel_rfl) rfl (by kernel_rfl) (fun K hK => ?_)
      rw [if_pos (by rfl)]
      refine wp_store_blk (.tmp 5) (.tmp 22) 138 rfl rfl (p0 + 1 + 1 + 1) _ _ kk3 rfl rfl (by rw [hvA_size]; exact hinf8) (by rw [hvA_size, hvA_size]) (hvA_one _) ?_
      intro w4 k4' o4
      refine hK.out _ _ ?_
      clear hK K
      have hO4 := hO3.then o4 (.inl rfl)
      clear o4 hO3 kk3
      go_wp2
      go_roundw
      case rel => exact ⟨k + 1, by omega, by go_num, k4', hO4⟩
      case measure => simp [intOf]; omega
    · obtain rfl : k = 64 := by omega
      rw [show ((64 : Nat) : Int) = 64 from rfl]
      have k2w := hO.blk k22 (by omega)
      have k4w := hO.blk k42 (by omega)
      have hBr := hO.below hBw (by omega) hp0
      have hpr := Nat.le_trans hp0 hO.size
      clear k22 k42 hK2
      generalize hv64 : roundsW m s 64 = v at *
      have HV := Nm.hide hv64
      clear hv64
      go_wp2
      go_loopw [24] (fun i wl => ∃ k : Nat, k ≤ 8 ∧ i = .int .i64 k ∧ Blk wl p0 (adA s v k) 138 ∧ Only p0 wr wl) (fun i _ => 8 - (intOf i).toNat)
      case atStart => exact ⟨0, by omega, rfl, k2w, Only.refl _ _⟩
      case round =>
        obtain ⟨k, hk, rfl, kq, hQ⟩ := hrel
        have kv := hQ.blk kk (by omega)
        have k4x := hQ.blk k4w (by omega)
        clear k2w
        by_cases hlt : k < 8
        · have c6 := (blk_cell kq k).trans (adA_at (Nat.lt_irrefl k) hlt)
          have c15 := (blk_cell kv k).trans (hvA_at v hlt)
          have f6 := blk_frozen kq k
          have i1 : (0 : Int) ≤ (k : Int) := by omega
          have i2 : (k : Int) < 8 := by omega
          have kS := Nm.hide (show Blk (World.setCell _ ⟨p0, k, none⟩ (.int .u32 ((((svL s)[k]?).getD 0 + ((svL v)[k]?).getD 0).toNat : Int))) p0 (adA s v (k + 1)) 138 by
            have h := blk_set kq k (.int .u32 ((((svL s)[k]?).getD 0 + ((svL v)[k]?).getD 0).toNat : Int))
            rw [adA_set hlt] at h
            exact h)
          have hOS := Nm.hide (hQ.set (i := k) (v := .int .u32 ((((svL s)[k]?).getD 0 + ((svL v)[k]?).getD 0).toNat : Int)))
          generalize ((svL s)[k]?).getD 0 = x at *
          generalize ((svL v)[k]?).getD 0 = y at *
          go_wp2
          go_region
          all_goals go_wp2
          rw [w_add x y]
          go_roundw
          case rel => exact ⟨k + 1, by omega, by go_num, blk_drew kS.out, hOS.out.drew⟩
          case measure => simp [intOf]; omega
        · obtain rfl : k = 8 := by omega
          rw [adA_all] at kq
          have hpl := blk_lt kq
          go_wp2_with (first
            | (refine wpList_load_blk (.tmp 2) 138 rfl rfl p0 _ _ kq rfl Tryz.underlying138 rfl (by rw [hvA_size]; exact hinf8) ?_)
            | (refine wpList_store_blk (.tmp 4) (.tmp 36) 138 rfl rfl rfl (p0 + 1 + 1) _ _ k4x rfl rfl (by rw [hvA_size]; exact hinf8) (by rw [hvA_size]; rfl) (hvA_one _) ?_; intro w9 k9 o9))
          have hb := o9.below (hQ.below hBr (Nat.le_refl _) hpr) (by omega) (Nat.le_trans hpr hQ.size)
          exact bodyPost_ret (v := .agg _) (run_results_cell Tryz.results97 rfl k9 Tryz.underlying138 (by rw [hvA_size]; exact hinf8)) rfl ⟨by rw [HV.out], by rw [HP.out]; exact hb⟩
end Go.Proofs.YtfficbpalibmoaaGreatDoor
/- impl.fail, (*reader).take by their contracts. -/
namespace Go.Proofs.YtfficbpalibmoaaGreatDoor
open Go.RowKit
set_option linter.unusedVariables false

/-- What a reader panics with. -/
def fault (c : Int) : List PanicEntry := [{ v := .iface 110 (.agg #[.int .i64 c]), recovered := false }]

set_option maxRecDepth 100000 in
set_option maxHeartbeats 400000 in
theorem fail_any (c : Int) (w : World) :
    Calls Tryz.prog 66 #[.int .i64 c] w fun e w' => e = .panicked (fault c) ∧ w' = w := by
  go_enter Tryz.func66, Tryz.ntmps66
  go_wp2
  simp [bodyPost, fault]

theorem bp_panic {P : Program} {f : Func} {R : Ending → World → Prop} {ch : List PanicEntry} {a : Act} {w : World} (hd : a.defers = []) (h : R (.panicked ch) w) : bodyPost P f R (.panic ch) a w := by
  simp only [bodyPost]
  exact ⟨hd, h⟩

/-- A reader lies in block g: its bytes' slice, its place. -/
def Rd (w : World) (g : Nat) (v : Value) (p : Nat) : Prop := w.heap[g]? = some (.cells #[v, .int .i64 p] 92 (0, 0))

/-- What take tells of a slice. -/
def cutV (a : Option Addr) (cap p size : Nat) : Value := if cap = p then .slice a size 0 else .slice (a.map (fun x => x.add p)) size (cap - p)

theorem grown_drew {w w' : World} {row : Option Nat} (h : w.grownBy w' row) : w.grownBy w'.drew row := ⟨h.os, h.tape, h.output, h.size, h.block⟩

theorem rd_set {w : World} {g p q : Nat} {v : Value} (h : Rd w g v p) : Rd (w.setCell ⟨g, 1, none⟩ (.int .i64 q)) g v q ∧ w.grownBy (w.setCell ⟨g, 1, none⟩ (.int .i64 q)) (some g) := by
  refine ⟨?_, ⟨rfl, rfl, rfl, by simp, fun k _ hk => heap_setCell_other w ⟨g, 1, none⟩ k _ (fun e => hk (by simp [e]))⟩⟩
  unfold Rd
  rw [heap_setCell_same w g 1 _ _ _ h]; rfl

set_option maxRecDepth 100000 in
set_option maxHeartbeats 800000 in
theorem take_any (g : Nat) (a : Option Addr) (n cap p size : Nat) (w : World) (h : Rd w g (.slice a n cap) p) (hp : p ≤ n) (hn : n ≤ cap) (hnn : n ≤ 1048576) (hs : size ≤ 65535) :
    Calls Tryz.prog 93 #[.pointer (some ⟨g, 0, none⟩), .int .i64 size] w fun e w' =>
      (p + size ≤ n ∧ e = .returned (cutV a cap p size) ∧ Rd w' g (.slice a n cap) (p + size) ∧ w.grownBy w' (some g)) ∨
      (n < p + size ∧ e = .panicked (fault 8) ∧ w.grownBy w' (some g)) := by
  have c0 : w.cell? ⟨g, 0, none⟩ = some (.slice a n cap) := by rw [cell_of_row _ _ _ _ _ _ h]; rfl
  have c1 : w.cell? ⟨g, 1, none⟩ = some (.int .i64 p) := by rw [cell_of_row _ _ _ _ _ _ h]; rfl
  have f0 := frozen_of_row w g 0 _ _ h
  have f1 := frozen_of_row w g 1 _ _ h
  by_cases hlt : n < p + size
  · have hlt' : (n : Int) - (p : Int) < (size : Int) := by omega
    go_enter Tryz.func93, Tryz.ntmps93
    go_wp2
    go_region
    go_wp2_with (go_at_call 66; refine (fail_any 8 _).mono ?_; rintro e w1 ⟨rfl, rfl⟩)
    refine bp_panic rfl ?_
    exact .inr ⟨hlt, rfl, grown_drew (World.grownBy.refl _ _)⟩
  · have hlt' : (size : Int) ≤ (n : Int) - (p : Int) := by omega
    have HS := Nm.hide (rd_set (q := p + size) h)
    simp only [Int.natCast_add] at HS
    have HL : Hid (p + size ≤ n) := by exact Nat.le_of_not_lt hlt
    have hcell := fun q => (World.cell?_setCell_other w ⟨g, 1, none⟩ ⟨g, 0, none⟩ (.int .i64 q) (by simp))
    clear hlt
    by_cases hcp : cap = p
    · subst hcp
      go_enter Tryz.func93, Tryz.ntmps93
      go_wp2
      go_region
      go_wp2
      go_region
      go_wp2
      go_ret
      exact .inl ⟨HL.out, by simp [cutV], HS.out.1, grown_drew (grown_drew HS.out.2)⟩
    · go_enter Tryz.func93, Tryz.ntmps93
      go_wp2
      go_region
      go_wp2
      go_region
      go_wp2
      go_ret
      exact .inl ⟨HL.out, by simp [cutV, hcp], HS.out.1, grown_drew (grown_drew HS.out.2)⟩
end Go.Proofs.YtfficbpalibmoaaGreatDoor
/- (*reader).number by its contract. -/
namespace Go.Proofs.YtfficbpalibmoaaGreatDoor
open Go.RowKit
set_option linter.unusedVariables false

theorem by_drop {l : List UInt8} {p size : Nat} : Nm.bys ((l.drop p).take size) = ((Nm.bys l).drop p).take size := by
  simp [Nm.bys]

/-- What take tells leads to the bytes from the place on. -/
theorem cut_row {w : World} {a : Option Addr} {l : List UInt8} {cap p size : Nat} (h : BySl w (.slice a l.length cap) l) (hp : p + size ≤ l.length) : CRow w (cutV a cap p size) size 1 (Nm.bys ((l.drop p).take size)) := by
  obtain ⟨_, a', cap', e, h1, h2, h3⟩ := h
  simp only [Value.slice.injEq] at e
  obtain ⟨rfl, _, rfl⟩ := e
  have hlen : (Nm.bys ((l.drop p).take size)).length = size * 1 := by rw [Nm.bys_length]; simp; omega
  refine ⟨hlen, ?_⟩
  by_cases hcp : cap = p
  · refine ⟨a, 0, by rw [cutV, if_pos hcp], by omega, by omega, fun h => by omega⟩
  · refine ⟨a.map (fun x => x.add p), cap - p, by rw [cutV, if_neg hcp], by omega, by omega, fun h => ?_⟩
    obtain ⟨b, off, rfl, hc⟩ := h3 (by omega)
    refine ⟨b, off + p, by simp [Nm.addr_add], fun i x hx => ?_⟩
    rw [by_drop, List.getElem?_take] at hx
    split at hx
    · rw [List.getElem?_drop] at hx
      rw [Nat.add_assoc]
      exact hc _ _ hx
    · cases hx

theorem cut_str {w : World} {v : Value} {l : List UInt8} {n : Nat} (h : CRow w v n 1 (Nm.bys l)) : (convert 22 9 v).run Tryz.prog w = .ok (.string ⟨l.toArray⟩) w := by
  obtain ⟨hl, a, cap, rfl, h1, h2, h3⟩ := h
  rw [Nm.bys_length, Nat.mul_one] at hl
  subst hl
  rcases Nat.eq_zero_or_pos l.length with h0 | hpos
  · have : l = [] := List.length_eq_zero_iff.1 h0
    subst this
    cases a with
    | none => exact (run_convert_bytes_string w 22 9 5 none 0 cap Tryz.underlying22 Tryz.underlying5 Tryz.underlying9).trans rfl
    | some x => exact run_convert_bytes_back w 22 9 5 x cap [] Tryz.underlying22 Tryz.underlying5 Tryz.underlying9 (by intro j hj; simp at hj)
  · obtain ⟨b, off, rfl, hc⟩ := h3 hpos
    refine run_convert_bytes_back w 22 9 5 ⟨b, off, none⟩ cap l Tryz.underlying22 Tryz.underlying5 Tryz.underlying9 ?_
    intro j hj
    rw [Nm.addr_add]
    exact hc j _ (by simp [Nm.bys, hj])

set_option maxRecDepth 100000 in
set_option maxHeartbeats 800000 in
theorem number_any (g : Nat) (a : Option Addr) (l : List UInt8) (cap p size : Nat) (w : World) (h : Rd w g (.slice a l.length cap) p) (hl : BySl w (.slice a l.length cap) l) (hfar : ∀ w', w.grownBy w' (some g) → BySl w' (.slice a l.length cap) l) (hp : p ≤ l.length) (hnn : l.length ≤ 1048576) (hs : size ≤ 6) :
    Calls Tryz.prog 83 #[.pointer (some ⟨g, 0, none⟩), .int .i64 size] w fun e w' =>
      (p + size ≤ l.length ∧ e = .returned (.int .i64 (numL ((l.drop p).take size))) ∧ Rd w' g (.slice a l.length cap) (p + size) ∧ w.grownBy w' (some g)) ∨
      (l.length < p + size ∧ e = .panicked (fault 8) ∧ w.grownBy w' (some g)) := by
  have hcap : l.length ≤ cap := by
    obtain ⟨_, a', cap', e, h1, _⟩ := hl
    simp only [Value.slice.injEq] at e
    obtain ⟨rfl, _, rfl⟩ := e
    exact h1
  have ht := take_any g a l.length cap p size w h hp hcap hnn (by omega)
  by_cases hlt : p + size ≤ l.length
  · have hcv := fun W (h : w.grownBy W (some g)) => cut_str (cut_row (hfar W h) hlt)
    have hrb := fun W => readBig_any ⟨((l.drop p).take size).toArray⟩ W (by show ((l.drop p).take size).toArray.size ≤ 6; simp; omega)
    generalize hq : cutV a cap p size = q at *
    have hlt2 : ¬ l.length < p + size := by omega
    simp only [hlt, hlt2, true_and, false_and, or_false] at ht
    go_enter Tryz.func83, Tryz.ntmps83
    go_wp2_with (first | (go_at_call 93; refine ht.mono ?_; rintro e w1 ⟨rfl, hr1, hg1⟩; have hcv1 := hcv w1 hg1) | (go_at_call 55; refine (hrb _).mono ?_; rintro e w2 ⟨rfl, rfl⟩))
    go_ret
    exact .inl ⟨hlt, rfl, hr1, hg1⟩
  · have hlt2 : l.length < p + size := by omega
    simp only [hlt, hlt2, true_and, false_and, false_or] at ht
    go_enter Tryz.func83, Tryz.ntmps83
    go_wp2_with (go_at_call 93; refine ht.mono ?_; rintro e w1 ⟨rfl, hg1⟩)
    refine bp_panic rfl ?_
    exact .inr ⟨hlt2, rfl, hg1⟩
end Go.Proofs.YtfficbpalibmoaaGreatDoor
