import Derived.Test.YtihhchebcojplaaJDrP
import Derived.Test.YtihhchebcojplaaJByS
import Derived.Test.YtihhchebcojplaaJAgM
import Derived.Test.YtihhchebcojplaaJLwR
/- The law FnHostile: its walk. -/
namespace Go.Proofs.Ytihhchebcojplaa
open Go.RowKit
set_option linter.unusedVariables false

theorem code_of_by {w : World} {a : Option Addr} {cap : Nat} {l : List UInt8} (h : BySl w (.slice a l.length cap) l) : CodeIn w a l.length := by
  obtain ⟨_, a', cap', e, hcap, hmx, hc⟩ := h
  simp only [Value.slice.injEq] at e
  obtain ⟨rfl, _, rfl⟩ := e
  rcases Nat.eq_zero_or_pos l.length with hz | hp
  · exact .inl hz
  · obtain ⟨b, off, rfl, hcell⟩ := hc hp
    refine .inr ⟨b, off, rfl, fun i hi => ⟨(l[i].toNat : Int), hcell i _ (by simp [Nm.bys, hi]), by omega, ?_⟩⟩
    have := l[i].toNat_lt
    omega

set_option maxRecDepth 100000 in
set_option maxHeartbeats 6400000 in
theorem fnHostile_walk (a0 : Option Addr) (len0 cap0 : Nat) (z0 : List Int) (a1 : Option Addr) (len1 cap1 : Nat) (z1 : List Int) (w : World) (w0 : RowB w a0 len0 cap0 z0) (w1 : RowB w a1 len1 cap1 z1) :
    Calls Try.prog 3 #[.slice a0 len0 cap0, .slice a1 len1 cap1] w fun e w' => e = .returned (.bool true) ∧ Below w.heap.size w w' := by
  obtain ⟨l0, hlen0, hrow0⟩ := rowB w0
  obtain ⟨l1, hlen1, hrow1⟩ := rowB w1
  clear w0 w1
  by_cases hl0 : 1048576 < len0
  · have hl0' : (1048576 : Int) < (len0 : Int) := by omega
    go_enter Try.func3, Try.ntmps3
    go_wp2
    go_ret
    exact ⟨rfl, Below.refl _ _⟩
  have hl0' : (len0 : Int) ≤ 1048576 := by omega
  by_cases hl1 : 1048576 < len1
  · have hl1' : (1048576 : Int) < (len1 : Int) := by omega
    go_enter Try.func3, Try.ntmps3
    go_wp2
    go_ret
    exact ⟨rfl, Below.refl _ _⟩
  have hl1' : (len1 : Int) ≤ 1048576 := by omega
  subst hlen0 hlen1
  have hdr := drawDecode_any a0 l0.length cap0 w (code_of_by hrow0) (by omega)
  go_enter Try.func3, Try.ntmps3
  go_wp2_with fail
  refine hdr.mono ?_
  rintro e wd ⟨vd, Ld, rfl, ownd, hLd, hbd⟩
  obtain ⟨od, cd, rfl⟩ := own_sl ownd
  clear hdr
  by_cases hpar : l0.length % 2 = 1
  · have hpar' : ((l0.length : Int) % 2 == 1) = true := by rw [beq_iff_eq]; omega
    obtain ⟨v2, w2, r2, own2, b2⟩ := copy_row (hrow1.below hbd) (by omega)
    obtain ⟨o2, c2, rfl⟩ := own_sl own2
    have HB := Nm.below_two hbd b2
    have hBy := CRow.of_owns own2
    go_wp2_with (at_builtin; refine wpList_append_ran rfl (.tmp 28) (.tmp 29) 22 rfl _ _ _ _ rfl rfl r2 ?_)
    obtain ⟨L, hL⟩ : ∃ L, L = l1 := ⟨_, rfl⟩
    have hLl : l1.length ≤ 50000001 := by omega
    subst hL
    clear hbd b2 own2 r2 hrow0 hrow1 ownd hLd
    have hsp := specDecode_wide _ L _ hBy (by omega)
    have him := fun V W (h : BySl W V L) => implDecode_wideO V L W h (by omega)
    have hfew := msO_few L
    unfold DecPost at hsp him
    have hor := msO_or L
    generalize msO L = O at *
    obtain ⟨d, f, M, c⟩ := O
    simp only at hsp him hfew hor
    simp only [msA] at hsp him
    have Hor := Nm.hide hor
    clear hor
    generalize hi0 : ((d : Nat) : Int) = i0 at *
    generalize hi2 : ((f / 2048 % 16 : Nat) : Int) = i2 at *
    generalize hi10 : ((f % 16 : Nat) : Int) = i10 at *
    generalize ht15 : f.testBit 15 = t15 at *
    generalize ht10 : f.testBit 10 = t10 at *
    generalize ht9 : f.testBit 9 = t9 at *
    generalize ht8 : f.testBit 8 = t8 at *
    generalize ht7 : f.testBit 7 = t7 at *
    generalize ht6 : f.testBit 6 = t6 at *
    generalize ht5 : f.testBit 5 = t5 at *
    generalize ht4 : f.testBit 4 = t4 at *
    have HG := Nm.hide (And.intro hi0 (And.intro hi2 (And.intro hi10 (And.intro ht15 (And.intro ht10 (And.intro ht9 (And.intro ht8 (And.intro ht7 (And.intro ht6 (And.intro ht5 ht4))))))))))
    clear hi0 hi2 hi10 ht15 ht10 ht9 ht8 ht7 ht6 ht5 ht4
    have hlw := fun (q a u x q' a' u' x' : Value) W (h : LRd W M q a u x) (h' : LRd W M q' a' u' x') => lwMessage_any i0 i2 i10 t15 t10 t9 t8 t7 t6 t5 t4 M q a u x q' a' u' x' W h h' hfew
    have hcc : (c != c) = false := by simp
    clear hfew
    refine hsp.mono ?_
    rintro e w3 ⟨b3, q, x, y, z, rfl, L3⟩
    obtain ⟨x1, y1, rfl⟩ := row_val L3.rq
    obtain ⟨x2, y2, rfl⟩ := row_val L3.ra
    obtain ⟨x3, y3, rfl⟩ := row_val L3.ru
    obtain ⟨x4, y4, rfl⟩ := row_val L3.rx
    have M3 := mvar_new (cs := #[.int .i64 i0, .bool t15, .int .i64 i2, .bool t10, .bool t9, .bool t8, .bool t7, .bool t6, .bool t5, .bool t4, .int .i64 i10, .slice x1 M.qs.length y1, .slice x2 M.an.length y2, .slice x3 M.au.length y3, .slice x4 M.ex.length y4]) L3
    have hA3 : Below w3.heap.size w3 (w3.alloc (.cells #[.int .i64 i0, .bool t15, .int .i64 i2, .bool t10, .bool t9, .bool t8, .bool t7, .bool t6, .bool t5, .bool t4, .int .i64 i10, .slice x1 M.qs.length y1, .slice x2 M.an.length y2, .slice x3 M.au.length y3, .slice x4 M.ex.length y4] 29)) := (Below.refl _ _).alloc (Nat.le_refl _) _
    have HB3 := Nm.below_two HB (Nm.below_two b3 hA3)
    have hBy3 := hBy.below (Nm.below_two b3 hA3)
    clear hA3 L3 b3
    obtain ⟨v4, w4, r4, own4, b4⟩ := copy_row hBy3 (by omega)
    obtain ⟨o4, c4, rfl⟩ := own_sl own4
    rw [World.size_alloc] at r4
    go_wp2_with (at_builtin; refine wpList_append_ran rfl (.tmp 37) (.tmp 38) 22 rfl _ _ _ _ rfl rfl r4 ?_)
    refine (him _ _ (CRow.of_owns own4)).mono ?_
    rintro e w5 ⟨b5, q, x, y, z, rfl, L5⟩
    obtain ⟨u1, o1, rfl⟩ := row_val L5.rq
    obtain ⟨u2, o2, rfl⟩ := row_val L5.ra
    obtain ⟨u3, o3, rfl⟩ := row_val L5.ru
    obtain ⟨u4, o4, rfl⟩ := row_val L5.rx
    have M5 := mvar_new (cs := #[.int .i64 i0, .bool t15, .int .i64 i2, .bool t10, .bool t9, .bool t8, .bool t7, .bool t6, .bool t5, .bool t4, .int .i64 i10, .slice u1 M.qs.length o1, .slice u2 M.an.length o2, .slice u3 M.au.length o3, .slice u4 M.ex.length o4]) L5
    have hA5 : Below w5.heap.size w5 (w5.alloc (.cells #[.int .i64 i0, .bool t15, .int .i64 i2, .bool t10, .bool t9, .bool t8, .bool t7, .bool t6, .bool t5, .bool t4, .int .i64 i10, .slice u1 M.qs.length o1, .slice u2 M.an.length o2, .slice u3 M.au.length o3, .slice u4 M.ex.length o4] 29)) := (Below.refl _ _).alloc (Nat.le_refl _) _
    have b35 := Nm.below_two b4 (Nm.below_two b5 hA5)
    have HB5 := Nm.below_two HB3 b35
    have M35 := M3.below b35
    clear r4 own4 b4 b5 hA5 L5 M3 hBy3 HB3 b35
    have cm := fun i => blk_cell M35.b i
    have cg := fun i => blk_cell M5.b i
    go_wp2_with fail
    refine (hlw _ _ _ _ _ _ _ _ _ M5.l.rd M35.l.rd).mono ?_
    rintro e w6 ⟨rfl, b6⟩
    have M6 := M5.below b6
    have M36 := M35.below b6
    have HB6 := Nm.below_two HB5 b6
    have cm := fun i => blk_cell M36.b i
    have cg := fun i => blk_cell M6.b i
    clear M5 M35 HB5 b6
    rcases Hor.out with hc | ⟨e0, hM, rfl, rfl, rfl⟩
    · have hc0 : (c != 0) = true := by simp [hc]
      clear Hor HG
      as_aux_lemma =>
        go_wp2
        go_ret
        exact ⟨rfl, HB6⟩
    · have henc := fun q a u x B W (h : Lists W B M q a u x) => encode_read hM q a u x B W h
      have hdec := fun hz V W (h : BySl W V (msgW (mgOf L M)).1) => decode_again hM hz V W h
      obtain ⟨g1, g2, g3, g4, g5, g6, g7, g8, g9, g10, g11⟩ := HG.out
      simp only [msA, g1, g2, g3, g4, g5, g6, g7, g8, g9, g10, g11] at henc hdec
      generalize (msgW (mgOf L M)).1 = N at *
      clear hM Hor HG g1 g2 g3 g4 g5 g6 g7 g8 g9 g10 g11 hcc
      as_aux_lemma =>
        go_wp2_with fail
        refine (henc _ _ _ _ _ _ M6.l).mono ?_
        rintro e w7 ⟨b7, ⟨v7, rfl, a7, c7, rfl⟩ | ⟨hz, v7, rfl, own7⟩⟩
        · go_wp2
          go_ret
          exact ⟨rfl, Nm.below_two HB6 b7⟩
        · obtain ⟨a7, c7, rfl⟩ := own_sl own7
          have M37 := M36.below b7
          have HB7 := Nm.below_two HB6 b7
          clear M36 M6 HB6 b7 cm cg
          as_aux_lemma =>
            go_wp2_with fail
            refine (hdec hz _ _ (CRow.of_owns own7)).mono ?_
            rintro e w8 ⟨b8, q, x, y, z, rfl, L8⟩
            obtain ⟨d1, e1, rfl⟩ := row_val L8.rq
            obtain ⟨d2, e2, rfl⟩ := row_val L8.ra
            obtain ⟨d3, e3, rfl⟩ := row_val L8.ru
            obtain ⟨d4, e4, rfl⟩ := row_val L8.rx
            have M8 := mvar_new (cs := #[.int .i64 i0, .bool t15, .int .i64 i2, .bool t10, .bool t9, .bool t8, .bool t7, .bool t6, .bool t5, .bool t4, .int .i64 i10, .slice d1 M.qs.length e1, .slice d2 M.an.length e2, .slice d3 M.au.length e3, .slice d4 M.ex.length e4]) L8
            have hA8 : Below w8.heap.size w8 (w8.alloc (.cells #[.int .i64 i0, .bool t15, .int .i64 i2, .bool t10, .bool t9, .bool t8, .bool t7, .bool t6, .bool t5, .bool t4, .int .i64 i10, .slice d1 M.qs.length e1, .slice d2 M.an.length e2, .slice d3 M.au.length e3, .slice d4 M.ex.length e4] 29)) := (Below.refl _ _).alloc (Nat.le_refl _) _
            have b78 := Nm.below_two b8 hA8
            have HB8 := Nm.below_two HB7 b78
            have M38 := M37.below b78
            have cm := fun i => blk_cell M38.b i
            have cg := fun i => blk_cell M8.b i
            clear M37 b8 hA8 L8 b78
            go_wp2_with fail
            refine (hlw _ _ _ _ _ _ _ _ _ M8.l.rd M38.l.rd).mono ?_
            rintro e w9 ⟨rfl, b9⟩
            go_wp2
            go_ret
            exact ⟨rfl, Nm.below_two HB8 b9⟩
  · have hpar' : ((l0.length : Int) % 2 == 1) = false := by rw [beq_eq_false_iff_ne]; omega
    have HB := hbd
    have hBy := CRow.of_owns ownd
    go_wp2_with fail
    obtain ⟨L, hL⟩ : ∃ L, L = Ld := ⟨_, rfl⟩
    subst hL
    clear hbd ownd hrow0 hrow1
    have hsp := specDecode_wide _ L _ hBy (by omega)
    have him := fun V W (h : BySl W V L) => implDecode_wideO V L W h (by omega)
    have hfew := msO_few L
    unfold DecPost at hsp him
    have hor := msO_or L
    generalize msO L = O at *
    obtain ⟨d, f, M, c⟩ := O
    simp only at hsp him hfew hor
    simp only [msA] at hsp him
    have Hor := Nm.hide hor
    clear hor
    generalize hi0 : ((d : Nat) : Int) = i0 at *
    generalize hi2 : ((f / 2048 % 16 : Nat) : Int) = i2 at *
    generalize hi10 : ((f % 16 : Nat) : Int) = i10 at *
    generalize ht15 : f.testBit 15 = t15 at *
    generalize ht10 : f.testBit 10 = t10 at *
    generalize ht9 : f.testBit 9 = t9 at *
    generalize ht8 : f.testBit 8 = t8 at *
    generalize ht7 : f.testBit 7 = t7 at *
    generalize ht6 : f.testBit 6 = t6 at *
    generalize ht5 : f.testBit 5 = t5 at *
    generalize ht4 : f.testBit 4 = t4 at *
    have HG := Nm.hide (And.intro hi0 (And.intro hi2 (And.intro hi10 (And.intro ht15 (And.intro ht10 (And.intro ht9 (And.intro ht8 (And.intro ht7 (And.intro ht6 (And.intro ht5 ht4))))))))))
    clear hi0 hi2 hi10 ht15 ht10 ht9 ht8 ht7 ht6 ht5 ht4
    have hlw := fun (q a u x q' a' u' x' : Value) W (h : LRd W M q a u x) (h' : LRd W M q' a' u' x') => lwMessage_any i0 i2 i10 t15 t10 t9 t8 t7 t6 t5 t4 M q a u x q' a' u' x' W h h' hfew
    have hcc : (c != c) = false := by simp
    clear hfew
    refine hsp.mono ?_
    rintro e w3 ⟨b3, q, x, y, z, rfl, L3⟩
    obtain ⟨x1, y1, rfl⟩ := row_val L3.rq
    obtain ⟨x2, y2, rfl⟩ := row_val L3.ra
    obtain ⟨x3, y3, rfl⟩ := row_val L3.ru
    obtain ⟨x4, y4, rfl⟩ := row_val L3.rx
    have M3 := mvar_new (cs := #[.int .i64 i0, .bool t15, .int .i64 i2, .bool t10, .bool t9, .bool t8, .bool t7, .bool t6, .bool t5, .bool t4, .int .i64 i10, .slice x1 M.qs.length y1, .slice x2 M.an.length y2, .slice x3 M.au.length y3, .slice x4 M.ex.length y4]) L3
    have hA3 : Below w3.heap.size w3 (w3.alloc (.cells #[.int .i64 i0, .bool t15, .int .i64 i2, .bool t10, .bool t9, .bool t8, .bool t7, .bool t6, .bool t5, .bool t4, .int .i64 i10, .slice x1 M.qs.length y1, .slice x2 M.an.length y2, .slice x3 M.au.length y3, .slice x4 M.ex.length y4] 29)) := (Below.refl _ _).alloc (Nat.le_refl _) _
    have HB3 := Nm.below_two HB (Nm.below_two b3 hA3)
    have hBy3 := hBy.below (Nm.below_two b3 hA3)
    clear hA3 L3 b3
    obtain ⟨v4, w4, r4, own4, b4⟩ := copy_row hBy3 (by omega)
    obtain ⟨o4, c4, rfl⟩ := own_sl own4
    rw [World.size_alloc] at r4
    go_wp2_with (at_builtin; refine wpList_append_ran rfl (.tmp 37) (.tmp 38) 22 rfl _ _ _ _ rfl rfl r4 ?_)
    refine (him _ _ (CRow.of_owns own4)).mono ?_
    rintro e w5 ⟨b5, q, x, y, z, rfl, L5⟩
    obtain ⟨u1, o1, rfl⟩ := row_val L5.rq
    obtain ⟨u2, o2, rfl⟩ := row_val L5.ra
    obtain ⟨u3, o3, rfl⟩ := row_val L5.ru
    obtain ⟨u4, o4, rfl⟩ := row_val L5.rx
    have M5 := mvar_new (cs := #[.int .i64 i0, .bool t15, .int .i64 i2, .bool t10, .bool t9, .bool t8, .bool t7, .bool t6, .bool t5, .bool t4, .int .i64 i10, .slice u1 M.qs.length o1, .slice u2 M.an.length o2, .slice u3 M.au.length o3, .slice u4 M.ex.length o4]) L5
    have hA5 : Below w5.heap.size w5 (w5.alloc (.cells #[.int .i64 i0, .bool t15, .int .i64 i2, .bool t10, .bool t9, .bool t8, .bool t7, .bool t6, .bool t5, .bool t4, .int .i64 i10, .slice u1 M.qs.length o1, .slice u2 M.an.length o2, .slice u3 M.au.length o3, .slice u4 M.ex.length o4] 29)) := (Below.refl _ _).alloc (Nat.le_refl _) _
    have b35 := Nm.below_two b4 (Nm.below_two b5 hA5)
    have HB5 := Nm.below_two HB3 b35
    have M35 := M3.below b35
    clear r4 own4 b4 b5 hA5 L5 M3 hBy3 HB3 b35
    have cm := fun i => blk_cell M35.b i
    have cg := fun i => blk_cell M5.b i
    go_wp2_with fail
    refine (hlw _ _ _ _ _ _ _ _ _ M5.l.rd M35.l.rd).mono ?_
    rintro e w6 ⟨rfl, b6⟩
    have M6 := M5.below b6
    have M36 := M35.below b6
    have HB6 := Nm.below_two HB5 b6
    have cm := fun i => blk_cell M36.b i
    have cg := fun i => blk_cell M6.b i
    clear M5 M35 HB5 b6
    rcases Hor.out with hc | ⟨e0, hM, rfl, rfl, rfl⟩
    · have hc0 : (c != 0) = true := by simp [hc]
      clear Hor HG
      as_aux_lemma =>
        go_wp2
        go_ret
        exact ⟨rfl, HB6⟩
    · have henc := fun q a u x B W (h : Lists W B M q a u x) => encode_read hM q a u x B W h
      have hdec := fun hz V W (h : BySl W V (msgW (mgOf L M)).1) => decode_again hM hz V W h
      obtain ⟨g1, g2, g3, g4, g5, g6, g7, g8, g9, g10, g11⟩ := HG.out
      simp only [msA, g1, g2, g3, g4, g5, g6, g7, g8, g9, g10, g11] at henc hdec
      generalize (msgW (mgOf L M)).1 = N at *
      clear hM Hor HG g1 g2 g3 g4 g5 g6 g7 g8 g9 g10 g11 hcc
      as_aux_lemma =>
        go_wp2_with fail
        refine (henc _ _ _ _ _ _ M6.l).mono ?_
        rintro e w7 ⟨b7, ⟨v7, rfl, a7, c7, rfl⟩ | ⟨hz, v7, rfl, own7⟩⟩
        · go_wp2
          go_ret
          exact ⟨rfl, Nm.below_two HB6 b7⟩
        · obtain ⟨a7, c7, rfl⟩ := own_sl own7
          have M37 := M36.below b7
          have HB7 := Nm.below_two HB6 b7
          clear M36 M6 HB6 b7 cm cg
          as_aux_lemma =>
            go_wp2_with fail
            refine (hdec hz _ _ (CRow.of_owns own7)).mono ?_
            rintro e w8 ⟨b8, q, x, y, z, rfl, L8⟩
            obtain ⟨d1, e1, rfl⟩ := row_val L8.rq
            obtain ⟨d2, e2, rfl⟩ := row_val L8.ra
            obtain ⟨d3, e3, rfl⟩ := row_val L8.ru
            obtain ⟨d4, e4, rfl⟩ := row_val L8.rx
            have M8 := mvar_new (cs := #[.int .i64 i0, .bool t15, .int .i64 i2, .bool t10, .bool t9, .bool t8, .bool t7, .bool t6, .bool t5, .bool t4, .int .i64 i10, .slice d1 M.qs.length e1, .slice d2 M.an.length e2, .slice d3 M.au.length e3, .slice d4 M.ex.length e4]) L8
            have hA8 : Below w8.heap.size w8 (w8.alloc (.cells #[.int .i64 i0, .bool t15, .int .i64 i2, .bool t10, .bool t9, .bool t8, .bool t7, .bool t6, .bool t5, .bool t4, .int .i64 i10, .slice d1 M.qs.length e1, .slice d2 M.an.length e2, .slice d3 M.au.length e3, .slice d4 M.ex.length e4] 29)) := (Below.refl _ _).alloc (Nat.le_refl _) _
            have b78 := Nm.below_two b8 hA8
            have HB8 := Nm.below_two HB7 b78
            have M38 := M37.below b78
            have cm := fun i => blk_cell M38.b i
            have cg := fun i => blk_cell M8.b i
            clear M37 b8 hA8 L8 b78
            go_wp2_with fail
            refine (hlw _ _ _ _ _ _ _ _ _ M8.l.rd M38.l.rd).mono ?_
            rintro e w9 ⟨rfl, b9⟩
            go_wp2
            go_ret
            exact ⟨rfl, Nm.below_two HB8 b9⟩
end Go.Proofs.Ytihhchebcojplaa
