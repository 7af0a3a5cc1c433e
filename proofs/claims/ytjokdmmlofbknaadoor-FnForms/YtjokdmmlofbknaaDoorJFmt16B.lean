import Derived.Test.YtjokdmmlofbknaaDoorJData4
import Derived.Lib.AppendIntMem
import Derived.Shelf.Strings.Builder1
import Derived.Shelf.Strings.Builder2
import Derived.Shelf.Strings.OnBuilder
import Derived.Shelf.Strconv.Itoa0
import Derived.Shelf.Strconv.Itoa1
import Derived.Shelf.LaysM
import Derived.Shelf.Strconv.Itoa2
import Derived.Shelf.Strconv.Itoa3
import Derived.Shelf.Strconv.Itoa4
import Derived.Shelf.Strings.Search1
import Derived.Shelf.Strings.Search2
import Derived.Shelf.Strings.Search3
import Derived.Shelf.Strings.Cut
import Derived.Shelf.Strings.Count
import Derived.Shelf.Strings.Shaped
import Derived.Shelf.Strings.Split
import Derived.Shelf.Strings.SplitShaped
import Derived.Shelf.Unicode.DecodeSlow
import Derived.Test.YtjokdmmlofbknaaDoorProg
/- internal/strconv.formatBits and strconv.FormatInt at base 16, below 65536, by their contracts. -/
namespace Go.Proofs.YtjokdmmlofbknaaDoor
open Go.RowKit

theorem BruTab.below {w w' : World} (h : BruTab w) (hb : Below w.heap.size w w') : BruTab w' := (Lib.tabBelow_of_tabIs h) w' hb

theorem zero65 (W : World) : (zeroValue 125).run Tryd.prog W = .ok (.agg (Nm.bys (List.replicate 65 0)).toArray) W := by kernel_rfl
theorem row_new (w : World) (l : List UInt8) (t : TypeId) : BRow (w.alloc (.cells (Nm.bys l).toArray t)) w.heap.size l := by
  intro j c hj
  refine ⟨?_, ?_⟩
  · rw [cell_of_row _ _ j _ t (0, 0) (heap_alloc_new w _)]
    simp [Nm.bys, hj]
  · exact frozen_of_row _ _ j _ t (heap_alloc_new w _)

theorem slice65 (g p : Nat) (W : World) (hp : p < 65) : (Instr.sliceAt 125 (.pointer (some ⟨g, 0, none⟩)) (some (.int .i64 (p : Int))) none none).run Tryd.prog W = .ok (.slice (some ⟨g, p, none⟩) (65 - p) (65 - p)) W := by
  have hal : Tryd.prog.arrayLen 125 = 65 := by kernel_rfl
  have hso : (sizeOf (Tryd.prog.elem 125)).run Tryd.prog W = .ok 1 W := by kernel_rfl
  rw [run_sliceAt_array_l W 125 ⟨g, 0, none⟩ (by kernel_rfl) .i64 (p : Int) (by omega) (by rw [hal]; omega), hso, hal]
  simp only [Result.andThen, slicedAt, Int.toNat_natCast, Nat.mul_one]
  rw [if_neg (by omega), Nm.addr_add, Nat.zero_add]

set_option maxRecDepth 100000 in
set_option maxHeartbeats 3000000 in
theorem formatBits16_any (n : Nat) (w : World) (hn : n < 65536) (hB : BruTab w) :
    Calls Tryd.prog 58 #[.slice none 0 0, .int .u64 (n : Int), .int .i64 16, .bool false, .bool false] w fun e w' => e = .returned (.tuple #[.slice none 0 0, .string (hexS n)]) ∧ Below w.heap.size w w' := by
  have hst := Nm.hide (hexAt_start hn)
  have htz := fun W (hb : Below w.heap.size w W) => tz16_any W (hB.below hb)
  have hpw := fun W => pow16_any W
  have hn' : (n : Int) < 65536 := by omega
  obtain ⟨Z, HZ, hzv⟩ : ∃ Z : Array Value, Hid (Z = (Nm.bys (List.replicate 65 0)).toArray) ∧ ∀ W, (zeroValue 125).run Tryd.prog W = .ok (.agg Z) W := ⟨_, rfl, zero65⟩
  go_enter Tryd.func58, Tryd.ntmps58
  go_wp2_with (first | (go_at_call 71; refine (hpw _).mono ?_; rintro e w1 ⟨rfl, rfl⟩) | (go_at_call 72; refine (htz _ ((Below.refl _ _).alloc (Nat.le_refl _) _)).mono ?_; rintro e w2 ⟨rfl, rfl⟩))
  go_loopw [1, 13] (fun x i wr => ∃ (m : Int) (u q j : Nat) (t l : List UInt8), x = .int .u64 m ∧ Hid (m = (u : Int)) ∧ 0 ≤ m ∧ m < 65536 ∧ i = .int .i64 (q : Int) ∧ q + j = 65 ∧ j ≤ 3 ∧ u < 65536 ∧ Hid (HexAt n u j t) ∧ Hid (l.length = 65) ∧ Hid (l.drop (65 - j) = t) ∧ BRow wr w.heap.size l ∧ Below w.heap.size w wr)
    (fun x _ _ => (intOf x).toNat)
  case atStart =>
    refine ⟨n, n, 65, 0, [], List.replicate 65 0, rfl, rfl, by omega, by omega, rfl, by omega, by omega, by omega, hst, by show _ = _; simp, by show _ = _; simp, ?_, (Below.refl _ _).alloc (Nat.le_refl _) _⟩
    rw [HZ.out]
    exact row_new _ _ _
  case round =>
    obtain ⟨m, u, q, j, t, l, rfl, HM, hm0, hm1, rfl, hqj, hj, hu, HA, HL, HD, hrow, hbel⟩ := hrel
    clear hst hzv HZ
    have hq1 : 62 ≤ q := by omega
    have hq2 : q ≤ 65 := by omega
    have hqn : 65 - j - 1 = q - 1 := by omega
    have hk : q - 1 < l.length := by rw [HL.out]; omega
    obtain ⟨c0, hc0⟩ : ∃ c0, l[q - 1]? = some c0 := ⟨_, List.getElem?_eq_getElem hk⟩
    obtain ⟨hcell, hfz⟩ := hrow (q - 1) c0 hc0
    have HQJ := Nm.hide hqj
    by_cases hge : 16 ≤ u
    · have hge' : (16 : Int) ≤ m := by have := HM.out; omega
      have ha := and15 u hu
      have hix := fun W => dig_index (u % 16) (by omega) W
      have HN := Nm.hide (hexAt_next HA.out hge)
      have HS := Nm.hide (tail_set (d := hexD (u % 16)) HL.out hj HD.out)
      rw [hqn] at HS
      have HB := Nm.hide (hrow.set (k := q - 1) (d := hexD (u % 16)) hk)
      have HW : Hid (Below w.heap.size w (wr.setCell ⟨w.heap.size, q - 1, none⟩ (.int .u8 (hexD (u % 16)).toNat))) := hbel.setCell (Nat.le_refl _) _
      rw [show digLit = (⟨#[48, 49, 50, 51, 52, 53, 54, 55, 56, 57, 97, 98, 99, 100, 101, 102, 103, 104, 105, 106, 107, 108, 109, 110, 111, 112, 113, 114, 115, 116, 117, 118, 119, 120, 121, 122]⟩ : ByteArray) from rfl] at hix
      obtain ⟨r, hr⟩ : ∃ r : Int, r = ((u % 16 : Nat) : Int) := ⟨_, rfl⟩
      rw [← hr] at ha hix
      rw [← HM.out] at ha
      have HU : Hid (m / 16 = ((u / 16 : Nat) : Int)) := by show _ = _; rw [HM.out]; omega
      have HU2 : Hid (0 ≤ m / 16 ∧ m / 16 < 65536 ∧ (m / 16).toNat < m.toNat) := by show _ ∧ _; omega
      generalize hexD (u % 16) = d at *
      clear hrow HL HD HA hr hqj hqn hu hge
      go_wp2
      have h3 := hexAt_j HN.out
      refine ⟨⟨m / 16, u / 16, q - 1, j + 1, _, l.set (q - 1) d, by go_num, HU, HU2.out.1, HU2.out.2.1, by go_num, by have := HQJ.out; omega, h3.1, h3.2, HN, HS.out.1, HS.out.2, HB.out, HW.out⟩, ?_⟩
      simp only [intOf]
      exact HU2.out.2.2
    · have hlt' : m < 16 := by have := HM.out; omega
      obtain ⟨p, rfl⟩ : ∃ p, q = p + 1 := ⟨q - 1, by omega⟩
      rw [Nat.add_sub_cancel] at *
      have hix := fun W => dig_index u (by omega) W
      have HN := Nm.hide (hexAt_end HA.out (by omega))
      have HS := Nm.hide (tail_set (d := hexD u) HL.out hj HD.out)
      rw [hqn] at HS
      have HB := Nm.hide (hrow.set (k := p) (d := hexD u) hk)
      have HW : Hid (Below w.heap.size w (wr.setCell ⟨w.heap.size, p, none⟩ (.int .u8 (hexD u).toNat))) := hbel.setCell (Nat.le_refl _) _
      have hlen : (hexL n).length = 65 - (p) := by
        rw [HN.out, List.length_cons, HA.out.2.1]; omega
      have hcv : ∀ cp, (convert 22 9 (.slice (some ⟨w.heap.size, p, none⟩) (65 - p) cp)).run Tryd.prog (wr.setCell ⟨w.heap.size, p, none⟩ (.int .u8 (hexD u).toNat)) = .ok (.string (hexS n)) (wr.setCell ⟨w.heap.size, p, none⟩ (.int .u8 (hexD u).toNat)) := by
        intro cp
        have := run_convert_bytes_back (P := Tryd.prog) (wr.setCell ⟨w.heap.size, p, none⟩ (.int .u8 (hexD u).toNat)) 22 9 5 ⟨w.heap.size, p, none⟩ cp (hexL n) Tryd.underlying22 Tryd.underlying5 Tryd.underlying9 (by
          intro k hk2
          have h1 : (l.set (p) (hexD u)).drop (p) = hexL n := by
            rw [HN.out, ← HS.out.2]
            congr 1
            omega
          have h2 : (l.set (p) (hexD u))[p + k]? = some (hexL n)[k] := by
            rw [← List.getElem?_drop, h1, List.getElem?_eq_getElem hk2]
          rw [Nm.addr_add]
          exact (HB.out (p + k) _ h2).1)
        rw [hlen] at this
        exact this
      rw [show digLit = (⟨#[48, 49, 50, 51, 52, 53, 54, 55, 56, 57, 97, 98, 99, 100, 101, 102, 103, 104, 105, 106, 107, 108, 109, 110, 111, 112, 113, 114, 115, 116, 117, 118, 119, 120, 121, 122]⟩ : ByteArray) from rfl] at hix
      rw [← HM.out] at hix
      obtain ⟨H, HH⟩ : ∃ H, Hid (H = hexS n) := ⟨_, rfl⟩
      rw [← HH.out] at hcv
      generalize hexD u = d at *
      clear hrow HL HD HA hqj hqn hlen HS HN hu hge HM
      have hdd : decide ((16 : Int) ≤ m) = false := by simp; omega
      have hsl : ∀ W : World, (Instr.sliceAt 125 (.pointer (some ⟨w.heap.size, 0, none⟩)) (some (.int .i64 (p : Int))) none none).run Tryd.prog W = .ok (.slice (some ⟨w.heap.size, p, none⟩) (65 - p) (65 - p)) W := fun W => slice65 w.heap.size p W (by omega)
      clear hm0 hm1 hlt'
      go_wp2
      go_ret2
      rw [← HH.out]
      exact ⟨rfl, HW.out⟩

set_option maxRecDepth 100000 in
set_option maxHeartbeats 400000 in
theorem inner16_any (n : Nat) (w : World) (hn : n < 65536) (hB : BruTab w) :
    Calls Tryd.prog 40 #[.int .i64 (n : Int), .int .i64 16] w fun e w' => e = .returned (.string (hexS n)) ∧ Below w.heap.size w w' := by
  have hf := formatBits16_any n w hn hB
  generalize hexS n = H at *
  have hn' : (n : Int) < 65536 := by omega
  have hn0 : (0 : Int) ≤ (n : Int) := by omega
  go_enter Tryd.func40, Tryd.ntmps40
  go_wp2_with (go_at_call 58; refine hf.mono ?_; rintro e w1 ⟨rfl, hb1⟩)
  go_ret
  exact ⟨rfl, hb1⟩

set_option maxRecDepth 100000 in
set_option maxHeartbeats 400000 in
theorem formatInt16_any (n : Nat) (w : World) (hn : n < 65536) (hB : BruTab w) :
    Calls Tryd.prog 23 #[.int .i64 (n : Int), .int .i64 16] w fun e w' => e = .returned (.string (hexS n)) ∧ Below w.heap.size w w' := by
  have hf := inner16_any n w hn hB
  generalize hexS n = H at *
  go_enter Tryd.func23, Tryd.ntmps23
  go_wp2_with (go_at_call 40; refine hf.mono ?_; rintro e w1 ⟨rfl, hb1⟩)
  go_ret
  exact ⟨rfl, hb1⟩
end Go.Proofs.YtjokdmmlofbknaaDoor
/- Contracts of the library at this dump. -/
namespace Go.Proofs
open Go.Shelf
def Tryd.lays156_ren : Go.Shelf.Ren := ⟨fun | 156 => 26 | 165 => 41 | 166 => 42 | 169 => 43 | 240 => 59 | 241 => 60 | 276 => 73 | 277 => 74 | n => n, fun | 31 => 45 | 9 => 9 | 3 => 3 | 4 => 4 | 0 => 0 | 20 => 20 | 72 => 80 | 76 => 84 | 70 => 78 | 37 => 22 | 75 => 83 | 127 => 108 | 164 => 127 | 5 => 5 | 80 => 86 | n => n, fun | n => n⟩
theorem Tryd.lays156 : Go.Proofs.Lays.n156 Tryd.prog Tryd.lays156_ren := {
  mixed := by kernel_rfl
  f156 := Tryd.func26.trans (congrArg some (by kernel_rfl))
  f165 := Tryd.func41.trans (congrArg some (by kernel_rfl))
  f166 := Tryd.func42.trans (congrArg some (by kernel_rfl))
  f169 := Tryd.func43.trans (congrArg some (by kernel_rfl))
  f240 := Tryd.func59.trans (congrArg some (by kernel_rfl))
  f241 := Tryd.func60.trans (congrArg some (by kernel_rfl))
  f276 := Tryd.func73.trans (congrArg some (by kernel_rfl))
  f277 := Tryd.func74.trans (congrArg some (by kernel_rfl))
  t0 := Tryd.underlying0
  a0 := Tryd.isAgg0
  z0 := Tryd.sizeOf0
  v0 := Tryd.zeroValue0
  t3 := Tryd.underlying3
  a3 := Tryd.isAgg3
  z3 := Tryd.sizeOf3
  v3 := Tryd.zeroValue3
  t4 := Tryd.underlying4
  a4 := Tryd.isAgg4
  z4 := Tryd.sizeOf4
  v4 := Tryd.zeroValue4
  t9 := Tryd.underlying9
  a9 := Tryd.isAgg9
  z9 := Tryd.sizeOf9
  v9 := Tryd.zeroValue9
  t20 := Tryd.underlying20
  a20 := Tryd.isAgg20
  z20 := Tryd.sizeOf20
  v20 := Tryd.zeroValue20
  t31 := Tryd.underlying45
  a31 := Tryd.isAgg45
  z31 := Tryd.sizeOf45
  v31 := Tryd.zeroValue45
  t37 := Tryd.underlying22
  a37 := Tryd.isAgg22
  z37 := Tryd.sizeOf22
  v37 := Tryd.zeroValue22
  t70 := Tryd.underlying78
  a70 := Tryd.isAgg78
  z70 := Tryd.sizeOf78
  v70 := Tryd.zeroValue78
  t72 := Tryd.underlying80
  a72 := Tryd.isAgg80
  z72 := Tryd.sizeOf80
  v72 := Tryd.zeroValue80
  t75 := Tryd.underlying83
  a75 := Tryd.isAgg83
  z75 := Tryd.sizeOf83
  v75 := Tryd.zeroValue83
  t76 := Tryd.underlying84
  a76 := Tryd.isAgg84
  z76 := Tryd.sizeOf84
  v76 := Tryd.zeroValue84
  t127 := Tryd.underlying108
  a127 := Tryd.isAgg108
  z127 := Tryd.sizeOf108
  v127 := Tryd.zeroValue108
  t164 := Tryd.underlying127
  a164 := Tryd.isAgg127
  z164 := Tryd.sizeOf127
  v164 := Tryd.zeroValue127 }
theorem Tryd.Builder_Extra_156 : Builder.Extra Tryd.prog Tryd.lays156_ren := {
  sizeBuilder := by kernel_rfl
  liesBuilder := by kernel_rfl
  t5 := Tryd.underlying5
  a5 := Tryd.isAgg5
  z5 := Tryd.sizeOf5
  v5 := Tryd.zeroValue5
  infoByte := by kernel_rfl
  cellsByte := by kernel_rfl
  sizeByte := by kernel_rfl
  neB5 := by decide }
open Go.RowKit in
theorem Tryd.strings_Join_none (a : Option Addr) (c : Nat) (sep : ByteArray) (w : World) :
    Calls Tryd.prog 26 #[.slice a 0 c, .string sep] w fun e w' => e = .returned (.string ⟨#[]⟩) ∧ w' = w := Any.strings_Join_none Tryd.lays156 Tryd.Builder_Extra_156 a c sep w
open Go.RowKit in
theorem Tryd.strings_Join (bk o c : Nat) (xs : List ByteArray) (sep : ByteArray) (w : World) (hcells : ∀ (j : Nat) x, xs[j]? = some x → w.cell? ⟨bk, o + j, none⟩ = some (.string x)) (hbk : bk < w.heap.size) (hN : xs.length ≤ 140737488355328) (hcap : xs.length ≤ c) (hlen : (Lib.join (xs.map (·.data.toList)) sep.data.toList).length ≤ 140737488355328) :
    Calls Tryd.prog 26 #[.slice (some ⟨bk, o, none⟩) xs.length c, .string sep] w fun e w' => e = .returned (.string ⟨(Lib.join (xs.map (·.data.toList)) sep.data.toList).toArray⟩) ∧ Below w.heap.size w w' := Any.strings_Join Tryd.lays156 Tryd.Builder_Extra_156 bk o c xs sep w hcells hbk hN hcap hlen
end Go.Proofs
