import Derived.Test.YtjokdmmlofbknaaDoorJDraw6
import Derived.Test.YtjokdmmlofbknaaDoorJFmB
import Derived.Test.YtjokdmmlofbknaaDoorJSEsc
import Derived.Test.YtjokdmmlofbknaaDoorJCutM
import Derived.Test.YtjokdmmlofbknaaDoorJFmG
import Derived.Test.YtjokdmmlofbknaaDoorFmH
import Derived.Test.YtjokdmmlofbknaaDoorV6J
import Derived.Test.YtjokdmmlofbknaaDoorV6K
import Derived.Test.YtjokdmmlofbknaaDoorJPowT
import Derived.Test.YtjokdmmlofbknaaDoorV4I
import Derived.Test.YtjokdmmlofbknaaDoorJFmtI
import Derived.Test.YtjokdmmlofbknaaDoorJINbd
import Derived.Test.YtjokdmmlofbknaaDoorIShowT
import Derived.Test.YtjokdmmlofbknaaDoorIReadT
import Derived.Test.YtjokdmmlofbknaaDoorITypeM
import Derived.Test.YtjokdmmlofbknaaDoorJIMapT
import Derived.Test.YtjokdmmlofbknaaDoorICheck
import Derived.Deep.CutRange
/- The law FnForms: its walk. -/
namespace Go.Proofs.YtjokdmmlofbknaaDoor
open Go.RowKit
set_option linter.unusedVariables false

theorem powTab_of {W : World} (hL : laidMet Tryd.prog Rows.fnFormsRow.laid W) : PowTab W :=
  tab_of_laid (g := 1) (t := 123) (e := 38) (n := 20) hL (by exact List.Mem.tail _ (List.Mem.tail _ (List.Mem.head _))) (by kernel_rfl) (by kernel_rfl) Tryd.underlying123 Tryd.underlying38 (by kernel_rfl) (by kernel_rfl)
theorem bruTab_of {W : World} (hL : laidMet Tryd.prog Rows.fnFormsRow.laid W) : BruTab W :=
  tab_of_laid (g := 4) (t := 138) (e := 5) (n := 64) hL (by exact List.Mem.tail _ (List.Mem.head _)) (by kernel_rfl) (by kernel_rfl) Tryd.underlying138 Tryd.underlying5 (by kernel_rfl) (by kernel_rfl)
theorem mnem_of {W : World} (hL : laidMet Tryd.prog Rows.fnFormsRow.laid W) : MnemAt W :=
  pairs_of_laid (g := 0) (t := 62) (e := 61) (ts := 9) (ti := 2) (n := 19) (zs := mnemTab) hL (by exact List.Mem.tail _ (List.Mem.tail _ (List.Mem.tail _ (List.Mem.tail _ (List.Mem.head _))))) (by kernel_rfl) (by kernel_rfl) Tryd.underlying62 Tryd.underlying61 rfl rfl rfl rfl Tryd.underlying9 Tryd.underlying2 (by kernel_rfl) (by kernel_rfl) (by kernel_rfl) (by kernel_rfl)

theorem v4_size (s : ByteArray) : (showV4S s).1.size ≤ 2000000 := by
  rw [showV4S]
  split
  · rename_i h
    show (v4Text s).toArray.size ≤ _
    have := join_len (v4Parts s.data.toList) (by
      intro x hx
      obtain ⟨c, _, rfl⟩ := List.mem_map.1 hx
      exact dec_small c.toNat_lt)
    have e := congrArg ByteArray.size (v4_joined s)
    have e1 : (⟨(v4Text s).toArray⟩ : ByteArray).size = (v4Text s).toArray.size := rfl
    have e2 : (⟨(Lib.join ((v4Parts s.data.toList).map (·.data.toList)) [46]).toArray⟩ : ByteArray).size = (Lib.join ((v4Parts s.data.toList).map (·.data.toList)) [46]).length := by rw [mk_sz]
    have e3 : (v4Parts s.data.toList).length = s.size := by simp [v4Parts]
    omega
  · show (#[] : Array UInt8).size ≤ _; decide
theorem type_size (t : Int) : (showTypeS t).size ≤ 1000000000 := by
  rw [showTypeS]
  split
  · show (#[] : Array UInt8).size ≤ _; decide
  · split
    · rename_i h _
      rw [ByteArray.size_append, decS_size]
      have := dec_lenK 4 t.toNat (by omega)
      have e : (⟨#[84, 89, 80, 69]⟩ : ByteArray).size = 4 := rfl
      omega
    · have := mnemS_len t; omega

theorem mem_snoc (t x : Int) (l : List Int) : decide (t ∈ l ++ [x]) = (decide (t ∈ l) || (x == t)) := by
  rw [Bool.eq_iff_iff]
  simp only [decide_eq_true_iff, List.mem_append, List.mem_singleton, Bool.or_eq_true, beq_iff_eq]
  constructor
  · rintro (h | h)
    · exact .inl h
    · exact .inr h.symm
  · rintro (h | h)
    · exact .inl h
    · exact .inr h.symm

/-- What is asked of an address of sixteen bytes. -/
theorem v6_cases (s : ByteArray) : (s.size = 16 ∧ (showV6S s).2 = 0 ∧ readV6S (showV6S s).1 = (s, 0)) ∨ (s.size ≠ 16 ∧ (showV6S s).2 = 7) := by
  by_cases h : s.size = 16
  · exact .inl ⟨h, (v6_back h).2, (v6_back h).1⟩
  · exact .inr ⟨h, by rw [showV6S, if_neg h]⟩
theorem v4_cases (s : ByteArray) : (s.size = 4 ∧ (showV4S s).2 = 0 ∧ readV4S (showV4S s).1 = (s, 0)) ∨ (s.size ≠ 4 ∧ (showV4S s).2 = 7) := by
  by_cases h : s.size = 4
  · exact .inl ⟨h, by rw [showV4S, if_pos h], v4_back h⟩
  · exact .inr ⟨h, by rw [showV4S, if_neg h]⟩

set_option maxRecDepth 1000000 in
set_option maxHeartbeats 4000000 in
theorem fnForms_walk (a0 : Option Addr) (len0 cap0 : Nat) (z0 : List Int) (w : World) (w0 : Row8 w a0 len0 cap0 z0) (hL : laidMet Tryd.prog Rows.fnFormsRow.laid w) (hsh : w.ShapedOpen Tryd.prog) :
    Calls Tryd.prog 3 #[.slice a0 len0 cap0] w fun e w' => e = .returned (.bool true) ∧ Below w.heap.size w w' := by
  by_cases hl0 : 1048576 < len0
  · have hl0' : (1048576 : Int) < (len0 : Int) := by omega
    go_enter Tryd.func3, Tryd.ntmps3
    go_wp2
    go_ret
    exact ⟨rfl, Below.refl _ _⟩
  have hl0' : (len0 : Int) ≤ 1048576 := by omega
  have hln : len0 ≤ 1048576 := by omega
  have hcd := row8_code w0
  have hP := powTab_of hL
  have hB := bruTab_of hL
  have hM := mnem_of hL
  have D6 := drawShowV6_any a0 len0 cap0 w hcd hln
  have D4 := fun W (hb : Below w.heap.size w W) => drawShowV4_any a0 len0 cap0 W (code_below hcd hb) hln
  have DT := fun W (hb : Below w.heap.size w W) => drawShowType_any a0 len0 cap0 W (code_below hcd hb) hln
  have DX := fun W (hb : Below w.heap.size w W) => drawShowText_any a0 len0 cap0 W (code_below hcd hb) hln
  have DM := fun W (hb : Below w.heap.size w W) => drawTypeMap_any a0 len0 cap0 W (code_below hcd hb) hln
  have S6 := fun s W (hb : Below w.heap.size w W) => implShowV6_any s W (hB.below hb)
  have R6 := fun s W (hb : Below w.heap.size w W) => implReadV6_any s W (shaped_below hsh hb)
  have S4 := fun s W (hb : Below w.heap.size w W) => implShowV4_any s W (hP.below hb)
  have R4 := fun s W (hb : Below w.heap.size w W) (h : s.size ≤ 2000000) => implReadV4_any s W (shaped_below hsh hb) h
  have ST := fun t W (hb : Below w.heap.size w W) => implShowType_any t W (hM.below hb) (hP.below hb)
  have RT := fun s W (hb : Below w.heap.size w W) (h : s.size ≤ 1000000000) => implReadType_any s W h (hM.below hb)
  simp only [strV, pairV] at R6 R4 RT
  clear hL hsh hP hB hM hcd w0
  go_enter Tryd.func3, Tryd.ntmps3
  go_wp2_with fail
  refine D6.mono ?_
  rintro e w1 ⟨six, rfl, hz6, b1⟩
  clear D6
  go_wp2_with fail
  refine (S6 six _ b1).mono ?_
  rintro e w2 ⟨rfl, b2⟩
  replace b2 := Nm.below_two b1 b2
  clear S6 b1
  go_wp2_with fail
  refine (R6 _ _ b2).mono ?_
  rintro e w3 ⟨rfl, b3⟩
  replace b3 := Nm.below_two b2 b3
  clear R6 b2
  have V6 := v6_cases six
  generalize showV6S six = P6 at *
  generalize readV6S P6.1 = Q6 at *
  obtain ⟨t6, c6⟩ := P6
  obtain ⟨r6, d6⟩ := Q6
  simp only at V6 ⊢
  go_upto_region 6 with fail
  go_cut [62] from 44 to 62 (fun c wx => c = .bool false ∧ wx = w3)
  case first =>
    rcases V6 with ⟨h1, rfl, h3⟩ | ⟨h1, rfl⟩
    · cases h3
      have e1 : ((six.size : Int) == 16) = true := by rw [beq_iff_eq]; omega
      have e2 : (six.toList != six.toList) = false := by simp
      go_wp2_with fail
      go_meet
      exact ⟨rfl, rfl⟩
    · have e1 : ((six.size : Int) == 16) = false := by rw [beq_eq_false_iff_ne]; omega
      go_wp2_with fail
      go_meet
      exact ⟨rfl, rfl⟩
  case rest =>
    obtain ⟨rfl, rfl⟩ := hcut
    clear V6
    go_wp2_with fail
    refine (D4 _ b3).mono ?_
    rintro e w4 ⟨four, rfl, hz4, b4⟩
    replace b4 := Nm.below_two b3 b4
    clear D4 b3
    go_wp2_with fail
    refine (S4 four _ b4).mono ?_
    rintro e w5 ⟨rfl, b5⟩
    replace b5 := Nm.below_two b4 b5
    clear S4 b4
    go_wp2_with fail
    refine (R4 _ _ b5 (v4_size _)).mono ?_
    rintro e w6 ⟨rfl, b6⟩
    replace b6 := Nm.below_two b5 b6
    clear R4 b5
    have V4 := v4_cases four
    generalize showV4S four = P4 at *
    generalize readV4S P4.1 = Q4 at *
    obtain ⟨t4, c4⟩ := P4
    obtain ⟨r4, d4⟩ := Q4
    simp only at V4 ⊢
    go_upto_region 11 with fail
    go_cut [93] from 75 to 93 (fun c wx => c = .bool false ∧ wx = w6)
    case first =>
      rcases V4 with ⟨h1, rfl, h3⟩ | ⟨h1, rfl⟩
      · cases h3
        have e1 : ((four.size : Int) == 4) = true := by rw [beq_iff_eq]; omega
        have e2 : (four.toList != four.toList) = false := by simp
        go_wp2_with fail
        go_meet
        exact ⟨rfl, rfl⟩
      · have e1 : ((four.size : Int) == 4) = false := by rw [beq_eq_false_iff_ne]; omega
        go_wp2_with fail
        go_meet
        exact ⟨rfl, rfl⟩
    case rest =>
      obtain ⟨rfl, rfl⟩ := hcut
      clear V4
      go_wp2_with fail
      refine (DT _ b6).mono ?_
      rintro e w7 ⟨ty, rfl, b7⟩
      replace b7 := Nm.below_two b6 b7
      clear DT b6
      go_wp2_with fail
      refine (ST ty _ b7).mono ?_
      rintro e w8 ⟨rfl, b8⟩
      replace b8 := Nm.below_two b7 b8
      clear ST b7
      go_wp2_with fail
      refine (RT _ _ b8 (type_size _)).mono ?_
      rintro e w9 ⟨rfl, b9⟩
      replace b9 := Nm.below_two b8 b9
      clear RT b8
      have VT := fun h0 h1 => type_back (t := ty) h0 h1
      generalize showTypeS ty = PT at *
      generalize readTyS PT = QT at *
      obtain ⟨rT, dT⟩ := QT
      simp only at VT ⊢
      go_upto_region 16 with fail
      go_cut [117] from 103 to 117 (fun c wx => c = .bool false ∧ wx = w9)
      case first =>
        by_cases h0 : 0 ≤ ty
        · by_cases h1 : ty ≤ 65535
          · have h3 := VT h0 h1
            clear VT
            cases h3
            have e2 : (ty != ty) = false := by simp
            go_wp2_with fail
            go_meet
            exact ⟨rfl, rfl⟩
          · have h1' : 65535 < ty := by omega
            clear VT
            go_wp2_with fail
            go_meet
            exact ⟨rfl, rfl⟩
        · have h0' : ty < 0 := by omega
          clear VT
          go_wp2_with fail
          go_meet
          exact ⟨rfl, rfl⟩
      case rest =>
        obtain ⟨rfl, rfl⟩ := hcut
        clear VT
        go_wp2_with fail
        refine (DX _ b9).mono ?_
        rintro e w10 ⟨tx, rfl, hzx, b10⟩
        replace b10 := Nm.below_two b9 b10
        clear DX b9
        go_wp2_with fail
        refine (implShowText_any tx _ (by omega)).mono ?_
        rintro e w11 ⟨rfl, b11⟩
        replace b11 := Nm.below_two b10 b11
        clear b10
        obtain ⟨x2, x3⟩ := text_two tx
        have xb := text_back tx
        generalize showTextS tx = Q at *
        have x2' : ¬ (Q.size : Int) < 2 := by omega
        have x4 : (1 : Int) ≤ (Q.size : Int) - 1 := by omega
        have x5 : (Q.size : Int) - 1 ≤ (Q.size : Int) := by omega
        have RX := implReadText_any (Q.extract 1 (Q.size - 1)) w11 (by rw [ByteArray.size_extract]; omega)
        rw [xb] at RX
        simp only at RX
        clear xb
        have x7 : (tx.toList != tx.toList) = false := by simp
        go_wp2_with fail
        refine RX.mono ?_
        rintro e w12 ⟨rfl, b12⟩
        replace b12 := Nm.below_two b11 b12
        clear RX b11
        go_wp2_with fail
        refine (DM _ b12).mono ?_
        rintro e w13 ⟨vt, ls, rfl, ot, hlt, b13⟩
        have hrt := CRow.of_owns ot
        have hbt := b13
        replace b13 := Nm.below_two b12 b13
        clear DM b12 x2 x3 x2' x4 x5 x7
        go_wp2_with fail
        refine (implTypeMap_any vt ls _ hrt (by omega)).mono ?_
        rintro e w14 ⟨rfl, b14⟩
        have hrt2 := hrt.below b14
        replace b14 := Nm.below_two b13 b14
        clear b13 ot
        have mz := mapR_size ls
        go_wp2_with fail
        refine (implMapTypes_any _ _ (by omega)).mono ?_
        rintro e w15 ⟨vl, rfl, ol, b15⟩
        have hrt3 := hrt2.below b15
        have hrl := CRow.of_owns ol
        replace b15 := Nm.below_two b14 b15
        clear b14 ol hrt hrt2 hbt
        rcases map_code ls with hc | hc
        · obtain ⟨m1, m2, m3, m4⟩ := map_back hc
          have m5 := nsec_ok m1 m4
          have CD := fun W => implCheckData_any 47 (⟨#[0]⟩ ++ (mapR ls).1) W (by rw [ByteArray.size_append]; show 1 + _ ≤ _; omega)
          rw [m5] at CD
          rw [m1] at hrl ⊢
          simp only [mapL, mapC, if_true] at hrl ⊢
          generalize mapR ls = PM at *
          obtain ⟨bits, cM⟩ := PM
          simp only at hc m1 m2 m3 m4 m5 CD hrl ⊢
          subst hc
          generalize typesOf (blocksS bits) = L at *
          obtain ⟨_, at1, ct1, rfl, hct, hmt, hcl⟩ := hrt3
          obtain ⟨_, al1, cl1, rfl, hcl1, hml, hcl2⟩ := hrl
          clear m1 m5
          obtain ⟨wz, hwz⟩ : ∃ wz, wz = w15 := ⟨_, rfl⟩
          rw [← hwz] at hcl hcl2 b15
          have hbz := Nm.hide (show Below wz.heap.size wz w15 by rw [hwz]; exact Below.refl _ _)
          clear hwz
          go_wp2_with fail
          go_loopw [26] (fun vi wr => ∃ i : Nat, i ≤ ls.length ∧ vi = .int .i64 i ∧ Below wz.heap.size wz wr) (fun vi _ => ls.length - (intOf vi).toNat)
          case atStart => exact ⟨0, Nat.zero_le _, rfl, hbz.out⟩
          case round =>
            obtain ⟨i, hi, rfl, hbr⟩ := hrel
            clear hbz
            by_cases hil : i < ls.length
            · have hil' : (i : Int) < (ls.length : Int) := by omega
              obtain ⟨t, ht⟩ : ∃ t, ls[i]? = some t := ⟨_, List.getElem?_eq_getElem hil⟩
              obtain ⟨bt, ft, rfl, hct2⟩ := hcl (by omega)
              have hcT : wz.cell? ⟨bt, ft + i, none⟩ = some (.int .i64 t) := hct2 i _ (by rw [intCells, List.getElem?_map, ht]; rfl)
              have htL := m2 t (List.mem_of_getElem? ht)
              have hLp : 0 < L.length := List.length_pos_of_mem htL
              obtain ⟨bl, fl, rfl, hcL2⟩ := hcl2 hLp
              have HR := Nm.hide hbr
              clear hct2 ht hcl hcl2 CD m2 hbr
              obtain ⟨wy, hwy⟩ : ∃ wy, wy = wr := ⟨_, rfl⟩
              have HY := Nm.hide (show Below wz.heap.size wz wr from HR.out)
              go_wp2_with fail
              go_loopw [27, 28] (fun vf vk wq => ∃ k : Nat, k ≤ L.length ∧ vk = .int .i64 k ∧ vf = .bool (decide (t ∈ L.take k)) ∧ Below wz.heap.size wz wq) (fun _ vk _ => L.length - (intOf vk).toNat)
              case atStart => exact ⟨0, Nat.zero_le _, rfl, by simp, HY.out⟩
              case round =>
                obtain ⟨k, hk, rfl, rfl, hbq⟩ := hrel
                clear HR HY hwy
                by_cases hkl : k < L.length
                · have hkl' : (k : Int) < (L.length : Int) := by omega
                  obtain ⟨x, hx⟩ : ∃ x, L[k]? = some x := ⟨_, List.getElem?_eq_getElem hkl⟩
                  have c1 := hcL2 k (.int .i64 x) (by rw [intCells, List.getElem?_map, hx]; rfl)
                  have q1 := (hbq.cell (World.block_lt_of_cell? _ _ c1)).trans c1
                  have q2 := (hbq.cell (World.block_lt_of_cell? _ _ hcT)).trans hcT
                  have HN : Hid (decide (t ∈ L.take (k + 1)) = (decide (t ∈ L.take k) || (x == t))) := by
                    show _ = _
                    rw [Nm.take_step hx]
                    exact mem_snoc _ _ _
                  have HB := Nm.hide hbq
                  clear c1 hx hbq hcL2 hcT
                  generalize decide (t ∈ L.take k) = f at *
                  cases f with
                  | false =>
                    go_wp2
                    go_region
                    go_wp2
                    go_roundw
                    case rel => exact ⟨k + 1, by omega, by go_num, by rw [HN.out, Bool.false_or], HB.out.drew⟩
                    case measure => simp [intOf]; omega
                  | true =>
                    go_wp2
                    go_region
                    go_wp2
                    go_roundw
                    case rel => exact ⟨k + 1, by omega, by go_num, by rw [HN.out, Bool.true_or], HB.out.drew⟩
                    case measure => simp [intOf]; omega
                · obtain rfl : k = L.length := by omega
                  have hf : decide (t ∈ L.take L.length) = true := by rw [List.take_length]; simpa using htL
                  rw [hf]
                  have HB := Nm.hide hbq
                  clear hf hbq
                  go_wp2
                  go_roundw
                  case rel => exact ⟨i + 1, by omega, by go_num, HB.out⟩
                  case measure => simp [intOf]; omega
            · obtain rfl : i = ls.length := by omega
              have m3' : (L.length : Int) ≤ (ls.length : Int) := by omega
              clear hil hcl hcl2
              go_wp2_with (go_at_call 19; refine (CD _).mono ?_; rintro e wk ⟨rfl, hbk⟩)
              go_ret
              exact ⟨rfl, Nm.below_two (b15.trans (hbr.mono b15.size)) hbk⟩
        · rw [hc]
          go_wp2
          go_ret
          exact ⟨rfl, b15⟩
end Go.Proofs.YtjokdmmlofbknaaDoor
