import Derived.Test.YtechmpdfbpehiaaGreatDoorJMsI
import Derived.Test.YtechmpdfbpehiaaGreatDoorShelfB
import Derived.Test.YtechmpdfbpehiaaGreatDoorJData1
/- impl.ShowMaster by its contract. -/
namespace Go.Proofs.YtechmpdfbpehiaaGreatDoor
open Go.RowKit
set_option linter.unusedVariables false

theorem wr_any (B b : Nat) (bs : List Value) (s : ByteArray) (w : World) (h : Lib.IsBuilder 46 5 B b bs w) (hlen : bs.length + s.size ≤ 140737488355328) (hBw : B ≤ w.heap.size) :
    Calls Tryz.prog 20 #[.pointer (some ⟨b, 0, none⟩), .string s] w fun e w' => e = .returned (.tuple #[.int .i64 s.size, .nilIface]) ∧ (Lib.BuilderAt 46 5 B b (.pointer (some ⟨b, 0, none⟩)) (bs ++ Lib.strCells s) w' ∧ Below B w w') :=
  Any.Builder_WriteString { Tryz.lays156 with } Tryz.Builder_Extra_156 B b bs s w h hlen hBw

theorem bs_any (B b : Nat) (l : List UInt8) (w : World) (h : Lib.IsBuilder 46 5 B b (Lib.byteCells l) w) (hBw : B ≤ w.heap.size) :
    Calls Tryz.prog 23 #[.pointer (some ⟨b, 0, none⟩)] w fun e w' => e = .returned (.string ⟨l.toArray⟩) ∧ Below B w w' :=
  Any.Builder_String_any { Tryz.lays156 with } Tryz.Builder_Extra_156 B b l w h hBw

theorem builder_lt {T e : TypeId} {B b : Nat} {bs : List Value} {w : World} (h : Lib.IsBuilder T e B b bs w) : b < w.heap.size := by
  rcases h with h | h <;> exact h.lt

theorem builder_below {T e : TypeId} {B b : Nat} {bs : List Value} {w W : World} (h : Lib.IsBuilder T e B b bs w) (hb : Below w.heap.size w W) : Lib.IsBuilder T e B b bs W := by
  have hlt := builder_lt h
  rcases h with ⟨hB, v, h1, h2, h3⟩ | ⟨hB, v, h1, h2, h3⟩
  · exact .inl ⟨hB, v, (hb.block b hlt).trans h1, own_below h2 hb, h3⟩
  · exact .inr ⟨hB, v, (hb.block b hlt).trans h1, own_below h2 hb, h3⟩

set_option maxRecDepth 100000 in
set_option maxHeartbeats 3200000 in
theorem implShowMaster_any {S4 S6 : ByteArray → ByteArray × Int} (h4 : ∀ s, (S4 s).1.size ≤ 200) (h6 : ∀ s, (S6 s).1.size ≤ 200) (v : Value) (xs : List Rr) (w : World) (hs : SDL S4 S6 w) (h : CRow w v xs.length 5 (rvVs xs)) (hx : ∀ r ∈ xs, r.own.size ≤ 1048576 ∧ r.da.size ≤ 1048576) :
    Calls Tryz.prog 7 #[v] w fun e w' => e = .returned (.tuple #[.string (masterS S4 S6 xs).1, .int .i64 (masterS S4 S6 xs).2]) ∧ Below w.heap.size w w' := by
  obtain ⟨_, a, cap, rfl, hcap, hmx, hc⟩ := h
  unfold masterS
  by_cases hn : 500 < xs.length
  · rw [if_pos hn]
    have hn' : (500 : Int) < (xs.length : Int) := by omega
    clear hx hc
    go_enter Tryz.func7, Tryz.ntmps7
    go_wp2
    go_ret2
    exact ⟨rfl, Below.refl _ _⟩
  rw [if_neg hn]
  have hn' : (xs.length : Int) ≤ 500 := by omega
  obtain ⟨RES, HRES⟩ : ∃ R, Hid (R = if xs.all mrOK = true then outF S4 S6 xs ⟨#[]⟩ else (⟨#[]⟩, 32)) := ⟨_, rfl⟩
  rw [← HRES.out]
  have hmr := fun (r : Rr) (hr : r ∈ xs) W => isMaster_any r W (hx r hr).1 (hx r hr).2
  have hsr := fun (r : Rr) (hr : r ∈ xs) (ho : mrOK r = true) W (hW : Below w.heap.size w W) => showRecord_any h4 h6 r W (hs.below hW) ho (hx r hr).1 (hx r hr).2
  have hll := fun (r : Rr) (hr : r ∈ xs) (ho : mrOK r = true) => line_len h4 h6 (r := r) (mr_facts ho).2.2.1.2 (hx r hr).1
  have hcells : ∀ (k : Nat) (x : Rr) (W : World), xs[k]? = some x → Below w.heap.size w W → ∃ b off, a = some ⟨b, off, none⟩ ∧ W.cell? ⟨b, off + k * 5, none⟩ = some (.string x.own) ∧ W.cell? ⟨b, off + k * 5 + 1, none⟩ = some (.int .i64 x.ty) ∧ W.cell? ⟨b, off + k * 5 + 2, none⟩ = some (.int .i64 x.cl) ∧ W.cell? ⟨b, off + k * 5 + 3, none⟩ = some (.int .i64 x.tt) ∧ W.cell? ⟨b, off + k * 5 + 4, none⟩ = some (.string x.da) := by
    intro k x W hk hW
    have hlt : k < xs.length := (List.getElem?_eq_some_iff.1 hk).1
    obtain ⟨b, off, rfl, hcell⟩ := hc (by omega)
    obtain ⟨c0, c1, c2, c3, c4⟩ := rv_cells hcell hk
    have put : ∀ {O : Nat} {z : Value}, w.cell? ⟨b, O, none⟩ = some z → W.cell? ⟨b, O, none⟩ = some z := fun h => (hW.cell (World.block_lt_of_cell? w _ h)).trans h
    exact ⟨b, off, rfl, put c0, put c1, put c2, put c3, put c4⟩
  clear hx hc
  go_enter Tryz.func7, Tryz.ntmps7
  go_wp2
  go_loopw [14] (fun i wr => ∃ k : Nat, k ≤ xs.length ∧ i = .int .i64 k ∧ Hid ((xs.take k).all mrOK = true) ∧ Below w.heap.size w wr) (fun i _ => xs.length - (intOf i).toNat)
  case atStart => exact ⟨0, Nat.zero_le _, rfl, by show _ = _; simp, Below.refl _ _⟩
  case round =>
    obtain ⟨k, hk, rfl, HA, hbel⟩ := hrel
    by_cases hlt : k < xs.length
    · obtain ⟨x, hxk⟩ : ∃ x, xs[k]? = some x := ⟨_, List.getElem?_eq_getElem hlt⟩
      obtain ⟨b, off, rfl, c0, c1, c2, c3, c4⟩ := hcells k x wr hxk hbel
      have hmem := List.mem_of_getElem? hxk
      have hone := fun W => hmr x hmem W
      have i1 : (0 : Int) ≤ (k : Int) := by omega
      have i2 : (k : Int) < (xs.length : Int) := by omega
      have hB1 := hbel.alloc hbel.size (.cells #[.string x.own, .int .i64 x.ty, .int .i64 x.cl, .int .i64 x.tt, .string x.da] 33)
      cases hok : mrOK x with
      | true =>
        have HA2 : Hid ((xs.take (k + 1)).all mrOK = true) := by show _ = _; rw [all_take hxk, HA.out, hok]; rfl
        rw [hok] at hone
        clear hmr hsr hll hcells hok hmem hxk hs
        obtain ⟨o, ty, cl, tt, da⟩ := x
        simp only at *
        go_wp2_with (go_at_call 19; refine (hone _).mono ?_; rintro e w1 ⟨rfl, hb1⟩)
        go_roundw
        case rel => exact ⟨k + 1, by omega, by go_num, HA2, Nm.below_two hB1 hb1⟩
        case measure => simp [intOf]; omega
      | false =>
        have hz : xs.all mrOK = false := by
          rw [List.all_eq_false]
          exact ⟨x, hmem, by simp [hok]⟩
        obtain rfl : RES = (⟨#[]⟩, 32) := by rw [HRES.out, hz]; rfl
        clear hz HRES
        rw [hok] at hone
        clear hmr hsr hll hcells hok hmem hxk hs
        obtain ⟨o, ty, cl, tt, da⟩ := x
        simp only at *
        go_wp2_with (go_at_call 19; refine (hone _).mono ?_; rintro e w1 ⟨rfl, hb1⟩)
        go_ret2
        exact ⟨rfl, Nm.below_two hB1 hb1⟩
    · have hkl : k = xs.length := by omega
      have hall : xs.all mrOK = true := by
        have := HA.out
        rwa [hkl, List.take_length] at this
      have HR : Hid (RES = outF S4 S6 (xs.drop 0) ⟨#[]⟩) := by
        show _ = _
        rw [HRES.out, if_pos hall]; rfl
      clear HRES
      subst hkl
      have hao : ∀ r ∈ xs, mrOK r = true := List.all_eq_true.1 hall
      clear hall hmr HA
      obtain ⟨wb, hwb⟩ : ∃ wb, wb = wr := ⟨wr, rfl⟩
      subst hwb
      have hfb := Lib.fresh_isBuilder 46 5 wb
      have hBb := hbel.alloc hbel.size (.cells #[.pointer none, .slice none 0 0] 46)
      go_wp2
      go_loopw [24] (fun i wr => ∃ (k : Nat) (out : ByteArray), k ≤ xs.length ∧ i = .int .i64 k ∧ out.size ≤ 40000 ∧ Hid (RES = outF S4 S6 (xs.drop k) out) ∧ Lib.IsBuilder 46 5 wb.heap.size wb.heap.size (Lib.byteCells out.data.toList) wr ∧ wb.heap.size ≤ wr.heap.size ∧ Below w.heap.size w wr) (fun i _ => xs.length - (intOf i).toNat)
      case atStart => exact ⟨0, ⟨#[]⟩, Nat.zero_le _, rfl, by decide, HR, hfb, by simp, hBb⟩
      case round =>
        obtain ⟨k, out, hk, rfl, hos, HA, hbu, hsz, hbel2⟩ := hrel
        clear hfb hBb HR
        have hbel := hbel
        by_cases hlt : k < xs.length
        · obtain ⟨x, hxk⟩ : ∃ x, xs[k]? = some x := ⟨_, List.getElem?_eq_getElem hlt⟩
          obtain ⟨b, off, rfl, c0, c1, c2, c3, c4⟩ := hcells k x wr hxk hbel2
          have hmem := List.mem_of_getElem? hxk
          have hone := fun W hW => hsr x hmem (hao x hmem) W hW
          have hll1 := hll x hmem (hao x hmem)
          have hlz : (lineS S4 S6 x).size ≤ 200000001 := by
            have e : (⟨#[10]⟩ : ByteArray).size = 1 := rfl
            rw [lineS, ByteArray.size_append]; omega
          have HS := outF_step (S4 := S4) (S6 := S6) hxk out
          have i1 : (0 : Int) ≤ (k : Int) := by omega
          have i3 : (k : Int) < (xs.length : Int) := by omega
          have hB1 := hbel2.alloc hbel2.size (.cells #[.string x.own, .int .i64 x.ty, .int .i64 x.cl, .int .i64 x.tt, .string x.da] 33)
          have hbu1 := builder_below hbu ((Below.refl wr.heap.size wr).alloc (Nat.le_refl _) (.cells #[.string x.own, .int .i64 x.ty, .int .i64 x.cl, .int .i64 x.tt, .string x.da] 33))
          generalize lineS S4 S6 x = LN at *
          have happ : Lib.byteCells out.data.toList ++ Lib.strCells LN = Lib.byteCells (out ++ LN).data.toList := by
            rw [Lib.strCells_eq, ByteArray.data_append, Array.toList_append, Lib.byteCells_append]
          have hbl : (Lib.byteCells (out ++ LN).data.toList).length = (out ++ LN).size := by rw [Lib.byteCells_length]; simp
          have hbl0 : (Lib.byteCells out.data.toList).length = out.size := by rw [Lib.byteCells_length]; simp
          by_cases hbig : 40000 < (out ++ LN).size
          · obtain rfl : RES = (⟨#[]⟩, 11) := by rw [HA.out, HS, if_pos hbig]
            rw [ByteArray.size_append] at hbig hbl
            have hbig' : (40000 : Int) < (out.size : Int) + (LN.size : Int) := by omega
            clear hsr hll hcells hmem hxk hs hao HS HA hll1
            obtain ⟨o, ty, cl, tt, da⟩ := x
            simp only at *
            go_wp2_with (first | (go_at_call 21; refine (hone _ hB1).mono ?_; rintro e w1 ⟨rfl, hb1⟩; have hbu2 := builder_below hbu1 hb1; have hB2 := Nm.below_two hB1 hb1; have hz2 : wb.heap.size ≤ w1.heap.size := by (have := hb1.size; simp at this; omega)) | (go_at_call 20; refine (wr_any _ _ _ _ _ hbu2 (by omega) hz2).mono ?_; rintro e w3 ⟨rfl, hbu3, hb3⟩; rw [happ] at hbu3; have hB3 := hB2.trans (hb3.mono hbel.size)) | (go_at_call 22; refine (Tryz.Builder_Len _ _ _ _ (.inr hbu3)).mono ?_; rintro e wf ⟨rfl, hw⟩; obtain rfl := hw.symm; clear hw; rw [hbl, Int.natCast_add]))
            go_ret2
            exact ⟨rfl, hB3⟩
          · have hbig2 := hbig
            rw [ByteArray.size_append] at hbig2 hbl
            have hbig' : (out.size : Int) + (LN.size : Int) ≤ 40000 := by omega
            have HA2 : Hid (RES = outF S4 S6 (xs.drop (k + 1)) (out ++ LN)) := by show _ = _; rw [HA.out, HS, if_neg hbig]
            clear hbig
            clear hsr hll hcells hmem hxk hs hao HS HA hll1
            obtain ⟨o, ty, cl, tt, da⟩ := x
            simp only at *
            go_wp2_with (first | (go_at_call 21; refine (hone _ hB1).mono ?_; rintro e w1 ⟨rfl, hb1⟩; have hbu2 := builder_below hbu1 hb1; have hB2 := Nm.below_two hB1 hb1; have hz2 : wb.heap.size ≤ w1.heap.size := by (have := hb1.size; simp at this; omega)) | (go_at_call 20; refine (wr_any _ _ _ _ _ hbu2 (by omega) hz2).mono ?_; rintro e w3 ⟨rfl, hbu3, hb3⟩; rw [happ] at hbu3; have hB3 := hB2.trans (hb3.mono hbel.size)) | (go_at_call 22; refine (Tryz.Builder_Len _ _ _ _ (.inr hbu3)).mono ?_; rintro e wf ⟨rfl, hw⟩; obtain rfl := hw.symm; clear hw; rw [hbl, Int.natCast_add]))
            go_roundw
            case rel => exact ⟨k + 1, out ++ LN, by omega, by go_num, by rw [ByteArray.size_append]; omega, HA2, .inr hbu3, Nat.le_trans hz2 hb3.size, hB3⟩
            case measure => simp [intOf]; omega
        · have hkl : k = xs.length := by omega
          obtain rfl : RES = (out, 0) := by rw [HA.out, hkl, List.drop_length, outF]
          have i3 : (xs.length : Int) ≤ (k : Int) := by omega
          have eo : (⟨out.data.toList.toArray⟩ : ByteArray) = out := by simp
          clear hsr hll hcells hs hao HA
          go_wp2_with (go_at_call 23; refine (bs_any _ _ _ _ hbu hsz).mono ?_; rintro e w3 ⟨rfl, hb3⟩; rw [eo])
          go_ret2
          exact ⟨rfl, hbel2.trans (hb3.mono hbel.size)⟩
end Go.Proofs.YtechmpdfbpehiaaGreatDoor
