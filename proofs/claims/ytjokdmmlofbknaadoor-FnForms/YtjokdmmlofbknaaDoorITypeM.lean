import Derived.Test.YtjokdmmlofbknaaDoorJSEsc
import Derived.Test.YtjokdmmlofbknaaDoorJCRow
import Derived.Deep.OwnRows
/- impl.TypeMap by its contract. -/
namespace Go.Proofs.YtjokdmmlofbknaaDoor
open Go.RowKit

def isZero : Value → Bool
  | .int .u8 0 => true
  | _ => false
theorem isZero_eq {x : Value} (h : isZero x = true) : x = .int .u8 0 := by
  unfold isZero at h
  split at h
  · rfl
  · cases h

theorem zero_ok : (match Tryd.prog.info? 68 with
  | some i => match i.zero with
    | some (.agg Z) => Z.size == 8192 && Z.toList.all isZero
    | _ => false
  | none => false) = true := by kernel_rfl

theorem zero_arr : ∃ Z : Array Value, Z.size = 8192 ∧ (∀ i, i < 8192 → Z[i]? = some (.int .u8 0)) ∧ ∀ w, (zeroValue 68).run Tryd.prog w = .ok (.agg Z) w := by
  have h := zero_ok
  split at h
  · rename_i i hi
    split at h
    · rename_i Z hz
      rw [Bool.and_eq_true, beq_iff_eq, List.all_eq_true] at h
      refine ⟨Z, h.1, ?_, ?_⟩
      · intro j hj
        have hj' : j < Z.size := by omega
        rw [Array.getElem?_eq_getElem hj']
        have := h.2 Z[j] (by rw [Array.mem_toList_iff]; exact Array.getElem_mem hj')
        rw [isZero_eq this]
      · intro w
        simp [zeroValue, typeInfo, hi, hz]
    · cases h
  · cases h

theorem Tryd.infoU8i : (Tryd.prog.info? 5).map (fun i => (i.zero, i.size, i.bytes)) = some (some (.int .u8 0), 1, 1) := by kernel_rfl
theorem arr_len : Tryd.prog.arrayLen 68 = 8192 := by kernel_rfl
theorem arr_elem : Tryd.prog.elem 68 = 5 := by kernel_rfl

theorem arr_slice {g p : Nat} (hp : p < 256) (W : World) : (Instr.sliceAt 68 (.pointer (some ⟨g, 0, none⟩)) (some (.int .i64 ((p : Int) * 32))) (some (.int .i64 (((p : Int) + 1) * 32))) none).run Tryd.prog W = .ok (.slice (some ⟨g, p * 32, none⟩) 32 (8192 - p * 32)) W := by
  obtain ⟨i0, hi, hz0, hz1, hz2⟩ := info_parts Tryd.infoU8i
  have h := run_sliceAt_array_lh (P := Tryd.prog) W 68 ⟨g, 0, none⟩ (by rw [arr_len, arr_elem]; exact Tryd.underlying68) .i64 .i64 ((p : Int) * 32) (((p : Int) + 1) * 32) (by omega) (by omega) (by rw [arr_len]; omega)
  have hs : (sizeOf 5).run Tryd.prog W = .ok 1 W := by simp [sizeOf, typeInfo, hi, hz1]
  rw [h, arr_elem, hs, arr_len]
  have e1 : ((p : Int) * 32).toNat = p * 32 := by omega
  have e2 : (((p : Int) + 1) * 32).toNat = p * 32 + 32 := by omega
  simp only [Result.andThen, slicedAt, e1, e2]
  rw [if_neg (by omega), Nat.mul_one, Nm.addr_add, Nat.zero_add, show p * 32 + 32 - p * 32 = 32 by omega]

theorem arr_apart {w w1 : World} {B n g : Nat} {v : Value} {xs : List Value} {f : Nat → Value} (h : w.ownsRow B 5 1 v n xs) (hr : w.rowIs g 68 8192 f) (hg : w.grownBy w1 v.ownBlock) : w1.rowIs g 68 8192 f := by
  refine hr.of_block ?_
  have hlt := hr.lt
  obtain ⟨c, hb, _, _⟩ := hr
  refine hg.block g hlt ?_
  rcases h.2 with ⟨rfl, _⟩ | ⟨g', cap, cur, rfl, _, hh, _⟩
  · simp [Value.ownBlock]
  · simp only [Value.ownBlock, ne_eq, Option.some.injEq]
    intro e
    subst e
    rw [hb] at hh
    simp at hh

theorem cell_new2i (w : World) (x y : Value) (e : Nat) : ∀ (j : Nat) (u : Value), [x, y][j]? = some u → (w.alloc (.cells #[x, y] e)).cell? ((⟨w.heap.size, 0, none⟩ : Addr).add j) = some u := by
  intro j u hj
  match j, hj with
  | 0, hj => simp at hj; subst hj; simp [Addr.add]
  | 1, hj => simp at hj; subst hj; simp [Addr.add]

theorem nil_str (W : World) : (convert 22 9 (.slice none 0 0)).run Tryd.prog W = .ok (.string ⟨#[]⟩) W := by
  rw [run_convert_bytes_string _ 22 9 5 _ _ _ Tryd.underlying22 Tryd.underlying5 Tryd.underlying9]
  rfl

theorem bys_oneT {x : Value} {l : List UInt8} (h : x ∈ Nm.bys l) : x.oneCell' = true := by
  simp [Nm.bys] at h
  obtain ⟨c, _, rfl⟩ := h
  rfl

theorem arr_news {w : World} {g p m : Nat} {S : Nat → Bool} (hr : w.rowIs g 68 8192 (fun j => .int .u8 ((byteS S j : Nat) : Int))) (hp : p < 256) (hm : m ≤ 32) : ∀ (j : Nat) (u : Value), (Nm.bys (blkB S p m))[j]? = some u → w.cell? ((⟨g, p * 32, none⟩ : Addr).add j) = some u := by
  intro j u hj
  rw [Nm.bys, List.getElem?_map] at hj
  have hjm : j < m := by
    cases hq : (blkB S p m)[j]? with
    | none => rw [hq] at hj; cases hj
    | some c =>
      have := (List.getElem?_eq_some_iff.1 hq).1
      rwa [blkB_len] at this
  have e : (blkB S p m)[j]? = some (UInt8.ofNat (byteS S (32 * p + j))) := by simp [blkB, hjm]
  rw [e] at hj
  rw [Nm.addr_add, hr.cell (i := p * 32 + j) (by omega), show p * 32 + j = 32 * p + j by omega]
  have hb := byteS_lt S (32 * p + j)
  have : (UInt8.ofNat (byteS S (32 * p + j))).toNat = byteS S (32 * p + j) := by simp; omega
  simp only [Option.map_some, Option.some.injEq] at hj
  rw [← hj, this]

set_option maxRecDepth 100000 in
set_option maxHeartbeats 8000000 in
theorem implTypeMap_any (v : Value) (l : List Int) (w : World) (h : CRow w v l.length 1 (intCells l)) (hl : l.length ≤ 1000000000) :
    Calls Tryd.prog 17 #[v] w fun e w' => e = .returned (.tuple #[.string (mapR l).1, .int .i64 (mapR l).2]) ∧ Below w.heap.size w w' := by
  obtain ⟨_, a, cap, rfl, hcap, hmx, hc⟩ := h
  obtain ⟨i0, hi, hz0, hz1, hz2⟩ := info_parts Tryd.infoU8i
  obtain ⟨Z, hZ, hZ0, hzv⟩ := zero_arr
  have hrow0 : (w.alloc (.cells Z 68)).rowIs w.heap.size 68 8192 (fun k => .int .u8 ((byteS (memB (l.take 0)) k : Nat) : Int)) := by
    have h1 := World.rowIs_alloc w Z 68 (fun _ => .int .u8 0) (fun i hi => hZ0 i (by omega))
    rw [hZ] at h1
    refine h1.congr (fun i _ => ?_)
    rw [List.take_zero, byteS_none]; rfl
  have hbel0 : Below w.heap.size w (w.alloc (.cells Z 68)) := (Below.refl _ _).alloc (Nat.le_refl _) _
  clear hZ hZ0
  go_enter Tryd.func17, Tryd.ntmps17
  go_wp2
  go_loopw [12] (fun i wr => ∃ k : Nat, k ≤ l.length ∧ i = .int .i64 k ∧ Hid (∀ t ∈ l.take k, 0 ≤ t ∧ t ≤ 65535) ∧ wr.rowIs w.heap.size 68 8192 (fun j => .int .u8 ((byteS (memB (l.take k)) j : Nat) : Int)) ∧ Below w.heap.size w wr)
    (fun i _ => l.length - (intOf i).toNat)
  case atStart => exact ⟨0, Nat.zero_le _, rfl, by show ∀ t ∈ l.take 0, _; simp, hrow0, hbel0⟩
  case round =>
    obtain ⟨k, hk, rfl, HV, hrow, hbel⟩ := hrel
    clear hrow0 hbel0 hzv
    by_cases hlt : k < l.length
    · have hlt' : (k : Int) < (l.length : Int) := by omega
      obtain ⟨t, ht⟩ : ∃ t, l[k]? = some t := ⟨_, List.getElem?_eq_getElem hlt⟩
      obtain ⟨b, off, rfl, hcell⟩ := hc (by omega)
      have hcx0 := hcell k (.int .i64 t) (by simp [intCells, ht])
      have hcx : wr.cell? ⟨b, off + k, none⟩ = some (.int .i64 t) := (hbel.cell (World.block_lt_of_cell? w _ hcx0)).trans hcx0
      by_cases hbad : t < 0 ∨ 65535 < t
      · have HR := Nm.hide (mapR_bad ht hbad)
        clear hc hcell hcx0 ht HV
        by_cases ht0 : t < 0
        · clear hbad
          go_wp2
          go_ret2
          rw [HR.out]
          exact ⟨rfl, hbel⟩
        · have ht1 : 65535 < t := by omega
          have ht2 : 0 ≤ t := by omega
          clear hbad
          go_wp2
          go_ret2
          rw [HR.out]
          exact ⟨rfl, hbel⟩
      · have ht1 : t ≤ 65535 := by omega
        have ht2 : 0 ≤ t := by omega
        obtain ⟨n, rfl⟩ := Int.eq_ofNat_of_zero_le ht2
        have hS : ∀ j, memB (l.take (k + 1)) j = if j = n then true else memB (l.take k) j := by
          intro j
          have := memB_step ht j ht2
          simpa using this
        have hix : n / 8 < 8192 := by omega
        have hix' : (n : Int) / 8 < 8192 := by omega
        have hj0 : (0 : Int) ≤ (n : Int) / 8 := by omega
        have htn : ((n : Int) / 8).toNat = n / 8 := by omega
        have hwj : IntKind.i64.wrap ((n : Int) / 8) = (n : Int) / 8 := Go.wrap_small _ (by omega) (by omega)
        have hwm : IntKind.i64.wrap ((n : Int) % 8) = (n : Int) % 8 := Go.wrap_small _ (by omega) (by omega)
        have hcn := hrow.cell hix
        have hfn := hrow.frozen (n / 8)
        have hor := or_bit (n := n) hS
        have HROW : Hid ((wr.setCell ⟨w.heap.size, n / 8, none⟩ (.int .u8 (bits .or .u8 ((byteS (memB (l.take k)) (n / 8) : Nat) : Int) ((128 : Int) / 2 ^ (n % 8))))).rowIs w.heap.size 68 8192 (fun j => .int .u8 ((byteS (memB (l.take (k + 1))) j : Nat) : Int))) := by
          refine (hrow.set (n / 8) _).congr (fun j _ => ?_)
          by_cases e : j = n / 8
          · subst e; rw [if_pos rfl, hor]
          · rw [if_neg e, byteS_else hS e]
        have HB : Hid (Below w.heap.size w (wr.setCell ⟨w.heap.size, n / 8, none⟩ (.int .u8 (bits .or .u8 ((byteS (memB (l.take k)) (n / 8) : Nat) : Int) ((128 : Int) / 2 ^ (n % 8)))))) := hbel.setCell (Nat.le_refl _) _
        have HV2 : Hid (∀ t ∈ l.take (k + 1), 0 ≤ t ∧ t ≤ 65535) := by
          show ∀ t ∈ l.take (k + 1), _
          rw [Nm.take_step ht]
          intro t' ht'
          rcases List.mem_append.1 ht' with h1 | h1
          · exact HV.out t' h1
          · simp at h1; subst h1; omega
        clear hc hcell hcx0 ht HV hbad hrow hS hor
        go_wp2
        go_region
        go_wp2
        go_roundw
        case rel => exact ⟨k + 1, by omega, by go_num, HV2, HROW.out.drew, HB.out.drew⟩
        case measure => simp [intOf]; omega
    · have hlt' : (l.length : Int) ≤ (k : Int) := by omega
      have hv := HV.out
      rw [List.take_of_length_le (by omega)] at hv hrow
      have HR := Nm.hide (mapR_good hv)
      obtain ⟨w1, hw1⟩ : ∃ w1, w1 = wr := ⟨wr, rfl⟩
      subst hw1
      generalize memB l = S at *
      have hg1 := hrow.lt
      have hd1 : decide (k < l.length) = false := by simp; omega
      have hd2 : decide ((k : Int) < (l.length : Int)) = false := by simp; omega
      clear hc HV hv hlt
      go_wp2
      go_loopw [7, 32] (fun o u wr => ∃ p : Nat, p ≤ 256 ∧ u = .int .i64 p ∧ wr.ownsRow (w.heap.size + 1) 5 1 o (outTo S p).length (Nm.bys (outTo S p)) ∧ wr.rowIs w.heap.size 68 8192 (fun j => .int .u8 ((byteS S j : Nat) : Int)) ∧ Below w.heap.size w wr)
        (fun _ u _ => 256 - (intOf u).toNat)
      case atStart => exact ⟨0, by omega, rfl, World.ownsRow_nil _ _ _ _, hrow, hbel⟩
      case round =>
        obtain ⟨p, hp, rfl, hown, hrow2, hbel2⟩ := hrel
        clear hrow hbel hg1
        have hg2 := hrow2.lt
        have hol := outTo_len S p
        by_cases hpl : p < 256
        · have hpl' : (p : Int) < 256 := by omega
          have hsl0 := arr_slice (g := w.heap.size) hpl
          obtain ⟨C, hC, hsl⟩ : ∃ C : Nat, 32 ≤ C ∧ C ≤ 8192 ∧ ∀ W : World, (Instr.sliceAt 68 (.pointer (some ⟨w.heap.size, 0, none⟩)) (some (.int .i64 ((p : Int) * 32))) (some (.int .i64 (((p : Int) + 1) * 32))) none).run Tryd.prog W = .ok (.slice (some ⟨w.heap.size, p * 32, none⟩) 32 C) W := ⟨8192 - p * 32, by omega, by omega, hsl0⟩
          obtain ⟨hC2, hsl⟩ := hsl
          clear hsl0
          go_wp2
          go_loop [9] (fun bv => ∃ m : Nat, m ≤ 32 ∧ bv = .slice (some ⟨w.heap.size, p * 32, none⟩) m C ∧ Hid (blkN S p = trim (fun q => byteS S (32 * p + q)) m))
            (fun bv => match bv with | .slice _ m _ => m | _ => 0)
          case atStart => exact ⟨32, Nat.le_refl _, rfl, rfl⟩
          case round =>
            obtain ⟨m, hm, rfl, HT⟩ := hrel
            clear hsl
            by_cases hm0 : m = 0
            · subst hm0
              have hN : blkN S p = 0 := HT.out
              have HO := Nm.hide (outTo_zero S hN)
              clear HT hN
              go_wp2
              go_roundw
              case rel => exact ⟨p + 1, by omega, by go_num, by rw [HO.out]; exact hown, hrow2, hbel2⟩
              case measure => simp [intOf]; omega
            · obtain ⟨q, rfl⟩ : ∃ q, m = q + 1 := ⟨m - 1, by omega⟩
              have hq1 : (0 : Int) < (q : Int) + 1 := by omega
              have hcq : wr.cell? ⟨w.heap.size, p * 32 + q, none⟩ = some (.int .u8 ((byteS S (32 * p + q) : Nat) : Int)) := by
                rw [hrow2.cell (i := p * 32 + q) (by omega), show p * 32 + q = 32 * p + q by omega]
              by_cases hz : byteS S (32 * p + q) = 0
              · have HT2 : Hid (blkN S p = trim (fun q => byteS S (32 * p + q)) q) := by show _ = _; rw [HT.out, trim_down (f := fun q => byteS S (32 * p + q)) hz]
                simp only [hz] at hcq
                clear HT
                go_wp2
                go_round
                case rel => exact ⟨q, by omega, rfl, HT2⟩
                case measure => show q < q + 1; omega
              · have hN : blkN S p = q + 1 := by rw [HT.out, trim_stop (f := fun q => byteS S (32 * p + q)) hz]
                have hbz : (((byteS S (32 * p + q) : Nat) : Int) == 0) = false := by rw [beq_eq_false_iff_ne]; omega
                have hsz2 : w.heap.size + 1 ≤ wr.heap.size := by omega
                have hO := outTo_more S (w := p) (by omega)
                rw [hN] at hO
                have hpb : (UInt8.ofNat p).toNat = p := by simp; omega
                have hqb : (UInt8.ofNat (q + 1)).toNat = q + 1 := by simp; omega
                have hO1 : Nm.bys (outTo S p) ++ [.int .u8 (p : Int), .int .u8 ((q : Int) + 1)] = Nm.bys (outTo S p ++ [UInt8.ofNat p, UInt8.ofNat (q + 1)]) := by
                  rw [Nm.bys_append]
                  simp only [Nm.bys, List.map_cons, List.map_nil, hpb, hqb]
                  rfl
                have hO2 : Nm.bys (outTo S p ++ [UInt8.ofNat p, UInt8.ofNat (q + 1)]) ++ Nm.bys (blkB S p (q + 1)) = Nm.bys (outTo S (p + 1)) := by
                  rw [← Nm.bys_append, hO, List.append_assoc]
                have hlen1 : (outTo S p ++ [UInt8.ofNat p, UInt8.ofNat (q + 1)]).length = (outTo S p).length + 2 := by simp
                have hlen2 : (outTo S (p + 1)).length = (outTo S p).length + 2 + (q + 1) := by rw [hO]; simp [blkB_len]; omega
                have HO1 := Nm.hide hO1
                have HO2 := Nm.hide hO2
                have HL2 := Nm.hide hlen2
                have HB := Nm.hide (blkB_len S p (q + 1))
                have hqi : (q : Int) + 1 < 256 := by omega
                clear HT hN hO hO1 hO2 hlen1 hlen2 hz hm0 hpb hqb
                generalize (outTo S p).length = N0 at *
                generalize outTo S p ++ [UInt8.ofNat p, UInt8.ofNat (q + 1)] = X1 at *
                go_wp2_with (at_builtin; refine wpList_append_own _ rfl (.tmp 61) (.tmp 67) 22 rfl (w.heap.size + 1) 5 i0 (.int .u8 0) 1 1 Tryd.underlying22 hi hz0 hz1 hz2 rfl (by decide) _ _ _ rfl (hown.alloc _) ⟨wr.heap.size, 0, none⟩ 2 2 [.int .u8 (p : Int), .int .u8 ((q : Int) + 1)] rfl rfl (cell_new2i _ _ _ _) (by intro u hu; simp at hu; rcases hu with rfl | rfl <;> rfl) (by unfold maxLen; omega) (by omega) (by simp; omega) ?_)
                intro v' w6 hown6 hgrow _
                rw [HO1.out] at hown6
                have hr6 := arr_apart (hown.alloc _) (hrow2.alloc _) hgrow
                have hb6 : Below w.heap.size w w6 := (hbel2.alloc (by omega) _).grown hgrow (by simp; omega) (fun z hz => Nat.le_of_succ_le (hown.lt z hz).1)
                have hz6 : w.heap.size + 1 ≤ w6.heap.size := by have := hgrow.size; simp at this; omega
                have hnews := arr_news (p := p) (m := q + 1) hr6 hpl (by omega)
                clear hgrow hown hrow2 hbel2 hcq
                go_wp2_with (at_builtin; refine wpList_append_own _ rfl (.tmp 69) (.tmp 70) 22 rfl (w.heap.size + 1) 5 i0 (.int .u8 0) 1 1 Tryd.underlying22 hi hz0 hz1 hz2 rfl (by decide) _ _ _ rfl hown6 ⟨w.heap.size, p * 32, none⟩ (q + 1) C (Nm.bys (blkB S p (q + 1))) rfl (by rw [Nm.bys_length, HB.out, Nat.mul_one]) hnews (fun u hu => bys_oneT hu) (by unfold maxLen; omega) (by omega) hz6 ?_)
                intro v7 w7 hown7 hgrow7 _
                rw [HO2.out] at hown7
                have hr7 := arr_apart hown6 hr6 hgrow7
                have hb7 : Below w.heap.size w w7 := hb6.grown hgrow7 (by omega) (fun z hz => Nat.le_of_succ_le (hown6.lt z hz).1)
                clear hgrow7 hown6 hr6 hb6
                go_wp2
                go_roundw
                case rel => exact ⟨p + 1, by omega, by go_num, by rw [HL2.out]; exact hown7, hr7, hb7⟩
                case measure => simp [intOf]; omega
        · have hpl' : (256 : Int) ≤ (p : Int) := by omega
          obtain rfl : p = 256 := by omega
          by_cases hn0 : (outTo S 256).length = 0
          · have he : outTo S 256 = [] := List.length_eq_zero_iff.1 hn0
            have HE : Hid ((⟨(outTo S 256).toArray⟩ : ByteArray) = ⟨#[]⟩) := by show _ = _; rw [he]
            rcases hown.2 with ⟨rfl, _⟩ | ⟨g, cp, cur, rfl, _, _, h1, h2, _⟩
            · have hcv := nil_str wr
              clear hown hn0 he
              go_wp2
              go_ret2
              rw [HR.out, HE.out]
              exact ⟨rfl, hbel2⟩
            · have hcv := run_convert_bytes_back (P := Tryd.prog) wr 22 9 5 ⟨g, 0, none⟩ cp [] Tryd.underlying22 Tryd.underlying5 Tryd.underlying9 (by intro j hj; simp at hj)
              rw [hn0]
              have hcv : (convert 22 9 (.slice (some ⟨g, 0, none⟩) 0 cp)).run Tryd.prog wr = .ok (.string ⟨#[]⟩) wr := hcv
              clear hown hn0 he
              go_wp2
              go_ret2
              rw [HR.out, HE.out]
              exact ⟨rfl, hbel2⟩
          · obtain ⟨g, cp, rfl, hcv⟩ := Nm.conv_own (P := Tryd.prog) (src := 22) (dst := 9) Tryd.underlying22 Tryd.underlying5 Tryd.underlying9 hown (by omega)
            obtain ⟨R, HRR, hcv⟩ : ∃ R, Hid (R = (⟨(outTo S 256).toArray⟩ : ByteArray)) ∧ (convert 22 9 (.slice (some ⟨g, 0, none⟩) (outTo S 256).length cp)).run Tryd.prog wr = .ok (.string R) wr := ⟨_, rfl, hcv⟩
            clear hown hn0
            go_wp2
            go_ret2
            rw [HR.out, ← HRR.out]
            exact ⟨rfl, hbel2⟩
end Go.Proofs.YtjokdmmlofbknaaDoor
