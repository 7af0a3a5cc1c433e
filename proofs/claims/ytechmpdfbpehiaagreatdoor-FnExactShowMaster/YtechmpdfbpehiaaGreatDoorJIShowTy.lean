import Derived.Test.YtechmpdfbpehiaaGreatDoorJTxt5A
import Derived.Test.YtechmpdfbpehiaaGreatDoorJTxt1
import Derived.Test.YtechmpdfbpehiaaGreatDoorJIShowT
import Derived.Test.YtechmpdfbpehiaaGreatDoorIWr6
import Derived.Test.YtechmpdfbpehiaaGreatDoorJCRow
import Derived.Test.YtechmpdfbpehiaaGreatDoorJMath
/- impl.ShowType by its contract. -/
namespace Go.Proofs.YtechmpdfbpehiaaGreatDoor
open Go.RowKit

set_option maxRecDepth 100000 in
set_option maxHeartbeats 1600000 in
theorem implShowType_any (t : Int) (w : World) (hM : MnemAt w) (hT : PowTab w) :
    Calls Tryz.prog 46 #[.int .i64 t] w fun e w' => e = .returned (.string (showTypeS t)) ∧ Below w.heap.size w w' := by
  by_cases h : t < 0 ∨ 65535 < t
  · have HR := Nm.hide (showType_out h)
    by_cases h0 : t < 0
    · clear h
      go_enter Tryz.func46, Tryz.ntmps46
      go_wp2
      go_ret
      rw [HR.out]
      exact ⟨rfl, Below.refl _ _⟩
    · have h1 : 65535 < t := by omega
      have h2 : 0 ≤ t := by omega
      clear h
      go_enter Tryz.func46, Tryz.ntmps46
      go_wp2
      go_ret
      rw [HR.out]
      exact ⟨rfl, Below.refl _ _⟩
  · have h1 : t ≤ 65535 := by omega
    have h2 : 0 ≤ t := by omega
    obtain ⟨bt, bf, hblk⟩ := hM
    generalize hmc : mnemCells = mc at hblk
    have HMC := Nm.hide hmc
    have hsz : (Tryz.prog.info? 92).map (·.size) = some mc.size := by rw [← hmc]; kernel_rfl
    clear hmc
    go_enter Tryz.func46, Tryz.ntmps46
    go_wp2_with (guard_target = wpList _ _ _ ({ dst := some 11, op := Go.Op.load 92 (Go.Operand.global 0), type := _, pos := _, after := _, guard := none } :: _) _ _; refine wpList_load_row rfl 92 (.global 0) rfl 0 rfl bt mc bf _ hblk Tryz.underlying92 rfl hsz ?_)
    go_loopw [12] (fun i wr => ∃ k : Nat, k ≤ 19 ∧ i = .int .i64 k ∧ Hid (∀ j, j < k → mnN j ≠ t) ∧ Below w.heap.size w wr)
      (fun i _ => 19 - (intOf i).toNat)
    case atStart => exact ⟨0, by omega, rfl, fun j h => by omega, Below.refl _ _⟩
    case round =>
      obtain ⟨k, hk, rfl, HNO, hbel⟩ := hrel
      have hszb := hbel.size
      by_cases hlt : k < 19
      · have hlt' : (k : Int) < 19 := by omega
        have hidx := fun W => mnem_index k hlt W
        rw [HMC.out] at hidx
        have HA := Nm.hide (mn_all hlt)
        have HX : Hid (∃ n, n = mnN k) := ⟨_, rfl⟩
        by_cases he : mnN k = t
        · have HR : Hid (showTypeS t = mnT k) := by
            show _ = _
            rw [← he, showType_mn (by have := HA.out; omega) (by rw [HA.out.1]; exact HA.out.2.2.2), HA.out.1]
          rw [he] at hidx
          clear HA HX he
          generalize mnT k = T at *
          go_wp2
          go_ret
          rw [HR.out]
          exact ⟨rfl, hbel.alloc hszb _⟩
        · have hne : (mnN k == t) = false := by rw [beq_eq_false_iff_ne]; exact he
          have HN : Hid (∀ j, j < k + 1 → mnN j ≠ t) := by
            show ∀ j, _
            intro j hj
            by_cases e : j = k
            · subst e; exact he
            · exact HNO.out j (by omega)
          clear HA HX he
          generalize mnN k = N at *
          generalize mnT k = T at *
          go_wp2
          go_roundw
          case rel => exact ⟨k + 1, by omega, by go_num, HN, hbel.alloc hszb _⟩
          case measure => simp [intOf]; omega
      · have hke : k = 19 := by omega
        subst hke
        have HR := Nm.hide (showType_num h (mn_none HNO.out))
        obtain ⟨n, rfl⟩ := Int.eq_ofNat_of_zero_le h2
        rw [Int.toNat_natCast] at HR
        have hf := formatInt10_any n wr (by omega) (hT.below hbel)
        have hz : (decS n).size ≤ 20 := by
          have := decL_len20 (n := n) (by omega)
          show (decL n).toArray.size ≤ 20
          simpa using this
        generalize decS n = D at *
        have hsum : 4 + D.size ≤ 9223372036854775807 := by omega
        clear h HNO
        go_wp2_with (go_at_call 45; refine hf.mono ?_; rintro e w2 ⟨rfl, hb2⟩)
        go_ret
        rw [HR.out]
        exact ⟨rfl, Nm.below_two hbel hb2⟩
end Go.Proofs.YtechmpdfbpehiaaGreatDoor
/- nameAndTypes' writer by its contract. -/
namespace Go.Proofs.YtechmpdfbpehiaaGreatDoor
open Go.RowKit
set_option linter.unusedVariables false

theorem row_sl {w : World} {B e s m : Nat} {v : Value} {xs : List Value} (h : w.ownsRow B e s v m xs) : ∃ a cap, v = .slice a m cap := by
  rcases h.2 with ⟨rfl, rfl⟩ | ⟨g', cap', cur, rfl, _⟩
  · exact ⟨_, _, rfl⟩
  · exact ⟨_, _, rfl⟩

/-- The types that a type map tells, as words. -/
def tyWords (r : ByteArray) : List ByteArray := (mapL (mapS r) (typesOf (blocksS r))).map showTypeS

set_option maxRecDepth 100000 in
set_option maxHeartbeats 4000000 in
theorem ntWrite_any (k : Nat) (d : ByteArray) (w : World) (gc : Nat) (hgc : w.cell? ⟨gc, 1, none⟩ = some (.func (.func 91) #[] #[])) (hk : Dt.sz .nm d = some k) (hd : d.size ≤ 1000000) (hM : MnemAt w) (hT : PowTab w) (hn : (mapL (mapS (d.extract k d.size)) (typesOf (blocksS (d.extract k d.size)))).length ≤ 16000000) :
    Calls Tryz.prog 122 #[.string d, .pointer (some ⟨gc, 0, none⟩)] w fun e w' => ∃ v, e = .returned v ∧ w'.ownsRow w.heap.size 9 1 v ((Nm.showS (d.extract 0 k)).1 :: tyWords (d.extract k d.size)).length (((Nm.showS (d.extract 0 k)).1 :: tyWords (d.extract k d.size)).map Value.string) ∧ Below w.heap.size w w' := by
  obtain ⟨i0, hi, hz0, hz1, hz2⟩ := info_parts Tryz.infoStr
  have hle := Dt.sz_le hk
  have hname := fun W => nameWrite_any d k W hk hd
  have hmap := fun W => implMapTypes_any (d.extract k d.size) W (by simp; omega)
  have hty := fun (t : Int) W (hb : Below w.heap.size w W) => implShowType_any t W (hM.below hb) (hT.below hb)
  obtain ⟨A, HA⟩ : ∃ A, Hid (A = (Nm.showS (d.extract 0 k)).1 :: tyWords (d.extract k d.size)) := ⟨_, rfl⟩
  rw [← HA.out]
  have hk' : (k : Int) ≤ (d.size : Int) := by omega
  unfold tyWords at HA
  simp only [wrV] at hname
  generalize (Nm.showS (d.extract 0 k)).1 = T at *
  generalize mapC (mapS (d.extract k d.size)) = C at *
  generalize mapL (mapS (d.extract k d.size)) (typesOf (blocksS (d.extract k d.size))) = l at *
  clear hk hM hT
  go_enter Tryz.func122, Tryz.ntmps122
  go_wp2_with (first | (go_at_call 91; refine (hname _).mono ?_; rintro e w1 ⟨rfl, hb1⟩) | (go_at_call 123; refine (hmap _).mono ?_; rintro e w2 ⟨vl, rfl, ol, hb2⟩; obtain ⟨la, lc, rfl⟩ := row_sl ol))
  have hbA : Below w1.heap.size w1 (w1.alloc (.cells #[.string T] 9)) := (Below.refl _ _).alloc (Nat.le_refl _) _
  have oA := World.ownsRow_lit (base := w.heap.size) (e := 9) (size := 1) w1 #[.string T] 1 hb1.size (by decide) rfl
  have oS := own_below oA hb2
  have hb02 := Nm.below_two (Nm.below_two hb1 hbA) hb2
  have oL := own_base ol (Nm.below_two hb1 hbA).size
  clear oA ol hbA
  go_loopw [6, 29] (fun v i wr => ∃ (j : Nat) (ls : List ByteArray), j ≤ l.length ∧ i = .int .i64 j ∧ Hid (ls = T :: (l.take j).map showTypeS) ∧ ls.length ≤ 16000001 ∧ wr.ownsRow w.heap.size 9 1 v ls.length (ls.map Value.string) ∧ wr.ownsRow w.heap.size 2 1 (.slice la l.length lc) l.length (intCells l) ∧ Below w.heap.size w wr)
    (fun _ i _ => l.length - (intOf i).toNat)
  case atStart => exact ⟨0, [T], Nat.zero_le _, rfl, rfl, by simp, oS, oL, hb02⟩
  case round =>
    clear oS oL hb02 hb1 hb2
    obtain ⟨j, ls, hj, rfl, HLS, hll, oS, oL, hbel⟩ := hrel
    have hsz := hbel.size
    by_cases hlt : j < l.length
    · have hlt' : (j : Int) < (l.length : Int) := by omega
      obtain ⟨t, ht⟩ : ∃ t, l[j]? = some t := ⟨_, List.getElem?_eq_getElem hlt⟩
      obtain ⟨_, a', cap', hv, hcap, hmx, hc⟩ := CRow.of_owns oL
      cases hv
      obtain ⟨b, off, rfl, hcell⟩ := hc (by omega)
      have hcx : wr.cell? ⟨b, off + j, none⟩ = some (.int .i64 t) := hcell j _ (by simp [intCells, ht])
      have HLS2 : Hid (ls ++ [showTypeS t] = T :: (l.take (j + 1)).map showTypeS) := by
        rw [Hid, HLS.out, List.take_add_one, ht]; simp
      have HLL : Hid ((ls ++ [showTypeS t]).length ≤ 16000001) := by
        rw [Hid]
        have : ls.length = j + 1 := by rw [HLS.out]; simp; omega
        simp; omega
      have hcall := hty t wr hbel
      clear hc hcell ht HLS
      generalize showTypeS t = X at *
      go_wp2_with (first | (go_at_call 46; refine hcall.mono ?_; rintro e w3 ⟨rfl, hb3⟩; have oS3 := own_below oS hb3; have oL3 := own_below oL hb3; have hbel3 := hbel.trans (hb3.mono hsz); have hsz3 := hbel3.size) | (at_builtin; refine wpList_append_own _ rfl (.tmp 33) (.tmp 36) 55 rfl w.heap.size 9 i0 (.string ByteArray.empty) 1 16 Tryz.underlying55 hi hz0 hz1 hz2 rfl (by decide) _ _ _ rfl (oS3.alloc _) ⟨w3.heap.size, 0, none⟩ 1 1 [.string X] rfl rfl (cell_new1 _ _ _) (Nm.one_cell _ rfl) (by unfold maxLen; omega) (by omega) (by simp; omega) ?_))
      intro v' w4 hown' hgrow _
      have oL4 := own_apart (oL3.alloc _) (oS3.alloc _) (by decide) hgrow
      obtain ⟨o4, b4⟩ := own_step hsz3 oS3 hbel3 _ hown' hgrow
      clear hown' hgrow oS oL oS3 oL3 hbel
      go_wp2
      go_roundw
      case rel => exact ⟨j + 1, ls ++ [X], by omega, by go_num, HLS2, HLL.out, o4, oL4, b4⟩
      case measure => simp [intOf]; omega
    · have hlt' : (l.length : Int) ≤ (j : Int) := by omega
      have hA : A = ls := by
        have h1 := HLS.out
        rw [List.take_of_length_le (by omega)] at h1
        rw [h1, HA.out]
      go_wp2
      go_ret
      rw [hA]
      exact ⟨_, rfl, oS, hbel⟩
end Go.Proofs.YtechmpdfbpehiaaGreatDoor
/- The parts of data, step by step: mathematics. -/
namespace Go.Proofs.YtechmpdfbpehiaaGreatDoor.Dt
open Go.RowKit

/-- Where the cutting stands: 'ps' are the parts that were cut off, 'd' is the rest, 'r' the letters that are left. -/
def PAt (fs : List Pc) (d0 : ByteArray) (ps : List ByteArray) (r : List Pc) (d : ByteArray) : Prop :=
  parts fs d0 = (parts r d).map (fun t => ps ++ t)

theorem pat_start (fs : List Pc) (d0 : ByteArray) : PAt fs d0 [] fs d0 := by simp [PAt]
theorem pat_end {fs : List Pc} {d0 d : ByteArray} {ps : List ByteArray} (h : PAt fs d0 ps [] d) (h0 : d.size = 0) : parts fs d0 = some ps := by
  rw [h, parts, if_pos h0]; simp
theorem pat_left {fs : List Pc} {d0 d : ByteArray} {ps : List ByteArray} (h : PAt fs d0 ps [] d) (h0 : d.size ≠ 0) : parts fs d0 = none := by
  rw [h, parts, if_neg h0]; rfl
theorem pat_none {fs r : List Pc} {p : Pc} {d0 d : ByteArray} {ps : List ByteArray} (h : PAt fs d0 ps (p :: r) d) (h0 : sz p d = none) : parts fs d0 = none := by
  rw [h, parts, h0]; rfl
theorem pat_step {fs r : List Pc} {p : Pc} {d0 d x : ByteArray} {ps : List ByteArray} {n : Nat} (h : PAt fs d0 ps (p :: r) d) (h0 : sz p d = some n) (hx : d.extract 0 n = x) : PAt fs d0 (ps ++ [x]) r (d.extract x.size d.size) := by
  have hn := sz_le h0
  have e : x.size = n := by rw [← hx]; simp; omega
  rw [PAt, h, parts, h0, Option.map_map, hx, e]
  congr 1; funext t; simp

theorem drop_let {f : ByteArray} {k : Nat} (hk : k < f.size) : (f.data.toList.map letP).drop k = letP f[k] :: (f.data.toList.map letP).drop (k + 1) := by
  have hl : k < (f.data.toList.map letP).length := by simpa using hk
  rw [List.drop_eq_getElem_cons hl]
  simp
  rfl

theorem name_ext (d : ByteArray) (h : (nameAtS d).size ≠ 0) : d.extract 0 (nameAtS d).size = nameAtS d := by
  obtain ⟨e, e1, e2, e3, e4, e5⟩ := nameF_name 256 d 0 h
  have e6 : nameAtS d = d.extract 0 e := e4
  have e7 : (nameAtS d).size = e := by rw [e6]; simp; omega
  rw [e7, e6]

theorem txt_ext (d : ByteArray) : d.extract 0 (txtS d).size = txtS d := by
  by_cases h : 0 < d.size
  · by_cases h1 : d[0].toNat + 1 ≤ d.size
    · have e : txtS d = d.extract 0 (d[0].toNat + 1) := by rw [txtS, dif_pos h, if_pos h1]
      have e7 : (txtS d).size = d[0].toNat + 1 := by rw [e]; simp; omega
      rw [e7, e]
    · have e : txtS d = ByteArray.empty := by rw [txtS, dif_pos h, if_neg h1]
      rw [e]; simp
  · have e : txtS d = ByteArray.empty := by rw [txtS, dif_neg h]
    rw [e]; simp

theorem ext_none (d : ByteArray) : d.extract d.size d.size = ByteArray.empty := by
  apply Nm.ba_ext
  simp

/-- Where the reading of short texts stands. -/
def TAt (d p : ByteArray) : Prop := p.size ≤ d.size ∧ d.extract 0 p.size = p ∧ txsS d = p.size + txsS (d.extract p.size d.size)

theorem tat_start (d : ByteArray) : TAt d ⟨#[]⟩ := by
  have e : (⟨#[]⟩ : ByteArray).size = 0 := rfl
  refine ⟨by omega, ?_, ?_⟩
  · rw [e]
    apply Nm.ba_ext
    simp
  · rw [e]; simp
theorem tat_end {d p : ByteArray} (h : TAt d p) (h0 : (txtS (d.extract p.size d.size)).size = 0) : txsS d = p.size := by
  rw [h.2.2, txs_none h0]; rfl
theorem tat_step {d p : ByteArray} (h : TAt d p) (h0 : (txtS (d.extract p.size d.size)).size ≠ 0) : TAt d (p ++ txtS (d.extract p.size d.size)) := by
  obtain ⟨h1, h2, h3⟩ := h
  have ht := txt_le (d.extract p.size d.size)
  have hte := txt_ext (d.extract p.size d.size)
  generalize hT : txtS (d.extract p.size d.size) = T at *
  have hz : (p ++ T).size = p.size + T.size := by simp
  have hd : (d.extract p.size d.size).size = d.size - p.size := by simp
  refine ⟨by omega, ?_, ?_⟩
  · apply Nm.ba_ext
    rw [hz]
    have e1 : (p ++ T).data.toList = p.data.toList ++ T.data.toList := by simp
    rw [e1, ← hte]
    conv => rhs; arg 1; rw [← h2]
    simp only [ByteArray.data_extract, Array.toList_extract, List.extract_eq_take_drop]
    simp
    rw [List.take_add]
    congr 1
    rw [List.take_take, Nat.min_eq_left (by omega)]
  · rw [hz, h3, txs_step (by rw [hT]; exact h0), hT]
    have e : (d.extract p.size d.size).extract T.size (d.extract p.size d.size).size = d.extract (p.size + T.size) d.size := ext_ext (by omega) (Nat.le_refl _)
    rw [e]; omega

/-- Where the reading of a tag stands. -/
theorem tag_short {d : ByteArray} (h : (txtS d).size < 2 ∨ 16 < (txtS d).size) : tagB d = false := by
  rw [tagB]
  rcases h with h | h
  · simp; omega
  · simp; omega
theorem tag_bad {d : ByteArray} {k : Nat} (hk : 1 ≤ k) (hl : k < (txtS d).size) (h : alnumB (txtS d)[k] = false) : tagB d = false := by
  rw [tagB, Bool.and_eq_false_iff]
  right
  rw [List.all_eq_false]
  refine ⟨(txtS d)[k], ?_, by simp [h]⟩
  have : ((txtS d).data.toList.drop 1)[k - 1]? = some (txtS d)[k] := by
    rw [List.getElem?_drop, show 1 + (k - 1) = k by omega]
    exact Nm.get_data hl
  exact List.mem_of_getElem? this
theorem tag_good {d : ByteArray} (h2 : 2 ≤ (txtS d).size) (h16 : (txtS d).size ≤ 16) (h : ∀ j, 1 ≤ j → (hj : j < (txtS d).size) → alnumB (txtS d)[j] = true) : tagB d = true := by
  rw [tagB]
  simp only [h2, h16, decide_true, Bool.true_and, List.all_eq_true]
  intro c hc
  obtain ⟨i, hi⟩ := List.getElem?_of_mem hc
  rw [List.getElem?_drop] at hi
  have hl : 1 + i < (txtS d).size := by
    have := (List.getElem?_eq_some_iff.1 hi).1
    simpa using this
  rw [Nm.get_data hl] at hi
  simp at hi
  rw [← hi]
  exact h _ (by omega) hl
end Go.Proofs.YtechmpdfbpehiaaGreatDoor.Dt
/- Cutting data by the program's forms, step by step: mathematics. -/
namespace Go.Proofs.YtechmpdfbpehiaaGreatDoor
open Go.RowKit

def cutCode (t : Int) (d : ByteArray) : Int :=
  if t < 0 ∨ 65535 < t then 6 else if 65535 < d.size then 7 else if (Dt.spans (Dt.implP t) 0 d).isSome then 0 else 7
def cutS (t : Int) (d : ByteArray) : Option (List (Nat × Nat)) := if t < 0 ∨ 65535 < t then none else if 65535 < d.size then none else Dt.spans (Dt.implP t) 0 d

def spanCells (sp : List (Nat × Nat)) : List Value := sp.flatMap fun s => [.int .i64 (s.1 : Int), .int .i64 (s.2 : Int)]
theorem spanCells_append (a b : List (Nat × Nat)) : spanCells (a ++ b) = spanCells a ++ spanCells b := by simp [spanCells]

/-- Where the cutting stands. -/
def CAt (fs : List Dt.Pc) (d : ByteArray) (sp : List (Nat × Nat)) (r : List Dt.Pc) (a : Nat) : Prop :=
  Dt.spans fs 0 d = (Dt.spans r a (d.extract a d.size)).map (fun t => sp ++ t)

theorem cat_start (fs : List Dt.Pc) (d : ByteArray) : CAt fs d [] fs 0 := by simp [CAt]
theorem cat_end {fs : List Dt.Pc} {d : ByteArray} {sp : List (Nat × Nat)} {a : Nat} (h : CAt fs d sp [] a) (h0 : d.size ≤ a) : Dt.spans fs 0 d = some sp := by
  rw [h, Dt.spans, if_pos (by simp; omega)]; simp
theorem cat_left {fs : List Dt.Pc} {d : ByteArray} {sp : List (Nat × Nat)} {a : Nat} (h : CAt fs d sp [] a) (h0 : a < d.size) : Dt.spans fs 0 d = none := by
  rw [h, Dt.spans, if_neg (by simp; omega)]; rfl
theorem cat_none {fs r : List Dt.Pc} {p : Dt.Pc} {d : ByteArray} {sp : List (Nat × Nat)} {a : Nat} (h : CAt fs d sp (p :: r) a) (h0 : Dt.sz p (d.extract a d.size) = none) : Dt.spans fs 0 d = none := by
  rw [h, Dt.spans, h0]; rfl
theorem cat_step {fs r : List Dt.Pc} {p : Dt.Pc} {d : ByteArray} {sp : List (Nat × Nat)} {a n : Nat} (h : CAt fs d sp (p :: r) a) (ha : a ≤ d.size) (h0 : Dt.sz p (d.extract a d.size) = some n) :
    CAt fs d (sp ++ if p.isN then [(a, a + n)] else []) r (a + n) ∧ a + n ≤ d.size := by
  have hn := Dt.sz_le h0
  have hz : (d.extract a d.size).size = d.size - a := by simp
  refine ⟨?_, by omega⟩
  rw [CAt, h, Dt.spans, h0, Option.map_map, Dt.ext_ext (by omega) (Nat.le_refl _)]
  congr 1
  funext t
  cases p.isN <;> simp

theorem code_type {t : Int} {d : ByteArray} (h : t < 0 ∨ 65535 < t) : cutCode t d = 6 ∧ cutS t d = none := by
  rw [cutCode, cutS, if_pos h, if_pos h]; exact ⟨rfl, rfl⟩
theorem code_long {t : Int} {d : ByteArray} (h : ¬ (t < 0 ∨ 65535 < t)) (h1 : 65535 < d.size) : cutCode t d = 7 ∧ cutS t d = none := by
  rw [cutCode, cutS, if_neg h, if_neg h, if_pos h1, if_pos h1]; exact ⟨rfl, rfl⟩
theorem code_none {t : Int} {d : ByteArray} (h : ¬ (t < 0 ∨ 65535 < t)) (h1 : ¬ 65535 < d.size) (h2 : Dt.spans (Dt.implP t) 0 d = none) : cutCode t d = 7 ∧ cutS t d = none := by
  rw [cutCode, cutS, if_neg h, if_neg h, if_neg h1, if_neg h1, h2]; exact ⟨rfl, rfl⟩
theorem code_some {t : Int} {d : ByteArray} {sp : List (Nat × Nat)} (h : ¬ (t < 0 ∨ 65535 < t)) (h1 : ¬ 65535 < d.size) (h2 : Dt.spans (Dt.implP t) 0 d = some sp) : cutCode t d = 0 ∧ cutS t d = some sp := by
  rw [cutCode, cutS, if_neg h, if_neg h, if_neg h1, if_neg h1, h2]; exact ⟨rfl, rfl⟩
theorem implP_len (t : Int) : (Dt.implP t).length ≤ 5 := by
  unfold Dt.implP
  repeat' split
  all_goals simp
end Go.Proofs.YtechmpdfbpehiaaGreatDoor
