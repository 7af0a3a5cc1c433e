import Derived.Test.YtakonfkefoeenahSDe
import Derived.Test.YtakonfkefoeenahJByO
import Derived.Test.YtakonfkefoeenahMkM3
/- The law of Decode: its walk. -/
namespace Go.Proofs.Ytakonfkefoeenah
open Go.RowKit
set_option linter.unusedVariables false

theorem manyS_len {α : Type} {f : Nat → Rs α} : ∀ (n p : Nat) (acc xs : List α) (q : Nat), manyS f n p acc = .ok xs q → xs.length = acc.length + n := by
  intro n
  induction n with
  | zero => intro p acc xs q h; rw [manyS] at h; cases h; rfl
  | succ n ih =>
    intro p acc xs q h
    rw [manyS] at h
    split at h
    · cases h
    · have := ih _ _ _ _ h
      simp at this
      omega

theorem msO_small (l : List UInt8) : small4 (msO l).m := by
  have z : small4 (⟨[], [], [], []⟩ : Mm) := by unfold small4; simp
  rw [msO]
  cases hm : msgS l using Rs.elim with
  | bad c => exact z
  | ok m p =>
    simp only
    rw [msgS] at hm
    split at hm
    · cases hm
    split at hm
    · cases hm
    split at hm
    · cases hm
    rename_i hc
    cases h1 : manyS (quS l) (n16 l 4) 12 [] using Rs.elim with
    | bad c => rw [listsS_q h1] at hm; cases hm
    | ok qs p1 =>
      cases h2 : manyS (rrS l) (n16 l 6) p1 [] using Rs.elim with
      | bad c => rw [listsS_a h1 h2] at hm; cases hm
      | ok an p2 =>
        cases h3 : manyS (rrS l) (n16 l 8) p2 [] using Rs.elim with
        | bad c => rw [listsS_u h1 h2 h3] at hm; cases hm
        | ok au p3 =>
          cases h4 : manyS (rrS l) (n16 l 10) p3 [] using Rs.elim with
          | bad c => rw [listsS_e h1 h2 h3 h4] at hm; cases hm
          | ok ex p4 =>
            rw [listsS_ok h1 h2 h3 h4] at hm
            split at hm
            · cases hm
            · cases hm
              have e1 := manyS_len _ _ _ _ _ h1
              have e2 := manyS_len _ _ _ _ _ h2
              have e3 := manyS_len _ _ _ _ _ h3
              have e4 := manyS_len _ _ _ _ _ h4
              simp at e1 e2 e3 e4
              refine ⟨?_, ?_, ?_, ?_⟩ <;> simp only <;> omega

/-- A message in a variable, and its lists. -/
structure MVar (W : World) (p B : Nat) (cs : Array Value) (m : Mm) (q a u x : Value) : Prop where
  b : Blk W p cs 28
  l : Lists W B m q a u x

theorem MVar.below {W W1 : World} {p B : Nat} {cs : Array Value} {m : Mm} {q a u x : Value} (h : MVar W p B cs m q a u x) (hb : Below W.heap.size W W1) : MVar W1 p B cs m q a u x := ⟨blk_below h.b hb, lists_below h.l hb⟩

theorem MVar.bytes {W W1 : World} {p B B' n : Nat} {cs : Array Value} {m : Mm} {q a u x v : Value} {xs : List Value} (h : MVar W p B cs m q a u x) (ho : W.ownsRow B' 5 1 v n xs) (hg : W.grownBy W1 v.ownBlock) : MVar W1 p B cs m q a u x :=
  ⟨blk_grown h.b hg (row_blk ho h.b (by decide)), own_apart h.l.rq ho (by decide) hg, own_apart h.l.ra ho (by decide) hg, own_apart h.l.ru ho (by decide) hg, own_apart h.l.rx ho (by decide) hg, h.l.au, h.l.ax, h.l.ux⟩

theorem mvar_new {W : World} {B : Nat} {cs : Array Value} {m : Mm} {q a u x : Value} (h : Lists W B m q a u x) : MVar (W.alloc (.cells cs 28)) W.heap.size B cs m q a u x :=
  ⟨blk_new W cs _, lists_below h ((Below.refl _ _).alloc (Nat.le_refl _) _)⟩

theorem Lists.base {W : World} {B B' : Nat} {m : Mm} {q a u x : Value} (h : Lists W B m q a u x) (hb : B' ≤ B) : Lists W B' m q a u x := ⟨own_base h.rq hb, own_base h.ra hb, own_base h.ru hb, own_base h.rx hb, h.au, h.ax, h.ux⟩

theorem below_more {B : Nat} {w W W1 : World} (h : Below B w W) (hb : Below W.heap.size W W1) (hB : B ≤ W.heap.size) : Below B w W1 := h.trans (hb.mono hB)

set_option maxRecDepth 100000 in
set_option maxHeartbeats 6400000 in
theorem fnExactDecode_walk (a0 : Option Addr) (len0 cap0 : Nat) (z0 : List Int) (w : World) (w0 : RowB w a0 len0 cap0 z0) :
    Calls Try.prog 3 #[.slice a0 len0 cap0] w fun e w' => e = .returned (.bool true) ∧ Below w.heap.size w w' := by
  obtain ⟨l, hlen, hrow⟩ := rowB w0
  by_cases hl : 1048576 < len0
  · have hl' : (1048576 : Int) < (len0 : Int) := by omega
    go_enter Try.func3, Try.ntmps3
    go_wp2
    go_ret
    exact ⟨rfl, Below.refl _ _⟩
  · have hl' : (len0 : Int) ≤ 1048576 := by omega
    subst hlen
    have hto := fun V W (h : BySl W V l) => toByteS_own V l W h (by omega)
    have hsp := fun V W (h : BySl W V l) => specDecode_any V l W h (by omega)
    have him := fun V W (h : BySl W V l) => implDecode_one V l W h (by omega)
    have heb := fun V U W (h : BySl W V l) (h' : BySl W U l) => eqByteS_any V U l W h h' (by omega)
    have hmb := fun V B W (h : W.ownsRow B 5 1 V l.length (Nm.bys l)) => markByteS_any V l.length B (Nm.bys l) W h (by omega)
    have hsm := msO_small l
    unfold DecPost at hsp him
    simp only [msA] at hsp him
    generalize (msO l).m = m at *
    generalize ((msO l).d : Int) = i0 at *
    generalize (((msO l).f / 2048 % 16 : Nat) : Int) = i2 at *
    generalize (((msO l).f % 16 : Nat) : Int) = i10 at *
    generalize (msO l).c = c at *
    generalize (msO l).f.testBit 15 = t15 at *
    generalize (msO l).f.testBit 10 = t10 at *
    generalize (msO l).f.testBit 9 = t9 at *
    generalize (msO l).f.testBit 8 = t8 at *
    generalize (msO l).f.testBit 7 = t7 at *
    generalize (msO l).f.testBit 6 = t6 at *
    generalize (msO l).f.testBit 5 = t5 at *
    generalize (msO l).f.testBit 4 = t4 at *
    have heq := fun (q a u x q' a' u' x' : Value) W (h : CLists W m q a u x) (h' : CLists W m q' a' u' x') => eqMessage_any i0 i2 i10 t15 t10 t9 t8 t7 t6 t5 t4 m q a u x q' a' u' x' W h h' hsm
    have hmm := fun (q a u x : Value) B W (h : Lists W B m q a u x) (hB : B ≤ W.heap.size) => markMessage_any i0 i2 i10 t15 t10 t9 t8 t7 t6 t5 t4 m q a u x B W h hB hsm
    have hhm := fun (q a u x : Value) W (h : CMarked W m q a u x) => heldMessage_any i0 i2 i10 t15 t10 t9 t8 t7 t6 t5 t4 m q a u x W h hsm
    have hcc : (c != c) = false := by simp
    have hmn : (((lastMark m : Nat) : Int) != ((lastMark m : Nat) : Int)) = false := by simp
    have hm0 : (0 : Int) ≤ ((lastMark m : Nat) : Int) := by omega
    generalize ((lastMark m : Nat) : Int) = LM at *
    have hk0 : (0 : Int) ≤ ((1 + l.length : Nat) : Int) := by omega
    generalize ((1 + l.length : Nat) : Int) = KM at *
    clear w0 hsm
    go_enter Try.func3, Try.ntmps3
    go_wp2_with fail
    refine (hto _ _ hrow).mono ?_
    rintro e w1 ⟨v1, rfl, c1, b1⟩
    go_wp2_with fail
    refine (hsp _ _ (by_of_own c1)).mono ?_
    rintro e w2 ⟨b2, q, x, y, z, rfl, L2⟩
    obtain ⟨x1, y1, rfl⟩ := row_val L2.rq
    obtain ⟨x2, y2, rfl⟩ := row_val L2.ra
    obtain ⟨x3, y3, rfl⟩ := row_val L2.ru
    obtain ⟨x4, y4, rfl⟩ := row_val L2.rx
    have M2 := mvar_new (cs := #[.int .i64 i0, .bool t15, .int .i64 i2, .bool t10, .bool t9, .bool t8, .bool t7, .bool t6, .bool t5, .bool t4, .int .i64 i10, .slice x1 m.qs.length y1, .slice x2 m.an.length y2, .slice x3 m.au.length y3, .slice x4 m.ex.length y4]) L2
    have hA2 : Below w2.heap.size w2 (w2.alloc (.cells #[.int .i64 i0, .bool t15, .int .i64 i2, .bool t10, .bool t9, .bool t8, .bool t7, .bool t6, .bool t5, .bool t4, .int .i64 i10, .slice x1 m.qs.length y1, .slice x2 m.an.length y2, .slice x3 m.au.length y3, .slice x4 m.ex.length y4] 28)) := (Below.refl _ _).alloc (Nat.le_refl _) _
    have b02 := Nm.below_two (Nm.below_two b1 b2) hA2
    have cm2 := fun i => blk_cell M2.b i
    clear hA2 L2 b2 c1 b1
    go_wp2_with fail
    refine (hto _ _ (hrow.below b02)).mono ?_
    rintro e w3 ⟨v3, rfl, X3, b3⟩
    generalize hW2 : w2.alloc (.cells #[.int .i64 i0, .bool t15, .int .i64 i2, .bool t10, .bool t9, .bool t8, .bool t7, .bool t6, .bool t5, .bool t4, .int .i64 i10, .slice x1 m.qs.length y1, .slice x2 m.an.length y2, .slice x3 m.au.length y3, .slice x4 m.ex.length y4] 28) = W2 at *
    generalize w2.heap.size = p3 at *
    clear hW2 cm2
    go_wp2_with fail
    refine (him _ _ (by_of_own X3)).mono ?_
    rintro e w4 ⟨b4, q, x, y, z, rfl, L4⟩
    obtain ⟨u1, o1, rfl⟩ := row_val L4.rq
    obtain ⟨u2, o2, rfl⟩ := row_val L4.ra
    obtain ⟨u3, o3, rfl⟩ := row_val L4.ru
    obtain ⟨u4, o4, rfl⟩ := row_val L4.rx
    have G5 := mvar_new (cs := #[.int .i64 i0, .bool t15, .int .i64 i2, .bool t10, .bool t9, .bool t8, .bool t7, .bool t6, .bool t5, .bool t4, .int .i64 i10, .slice u1 m.qs.length o1, .slice u2 m.an.length o2, .slice u3 m.au.length o3, .slice u4 m.ex.length o4]) (L4.base b3.size)
    have hA4 : Below w4.heap.size w4 (w4.alloc (.cells #[.int .i64 i0, .bool t15, .int .i64 i2, .bool t10, .bool t9, .bool t8, .bool t7, .bool t6, .bool t5, .bool t4, .int .i64 i10, .slice u1 m.qs.length o1, .slice u2 m.an.length o2, .slice u3 m.au.length o3, .slice u4 m.ex.length o4] 28)) := (Below.refl _ _).alloc (Nat.le_refl _) _
    have b35 := Nm.below_two b4 hA4
    have bS := Nm.below_two b3 b35
    have X5 := own_below X3 b35
    have M5 := M2.below bS
    have cm := fun i => blk_cell M5.b i
    have cg := fun i => blk_cell G5.b i
    clear hA4 L4 b4 b35 X3 b3
    go_wp2_with fail
    refine (heq _ _ _ _ _ _ _ _ _ G5.l.cl M5.l.cl).mono ?_
    rintro e w6 ⟨rfl, b6⟩
    have bS6 := below_more bS b6 bS.size
    have G6 := G5.below b6
    have X6 := own_below X5 b6
    clear cm cg M5 G5 X5 b6 bS
    as_aux_lemma =>
      go_wp2_with fail
      refine (hto _ _ (hrow.below (Nm.below_two b02 bS6))).mono ?_
      rintro e w7 ⟨v7, rfl, X7, b7⟩
      have bS7 := below_more bS6 b7 bS6.size
      have G7 := G6.below b7
      have X67 := own_below X6 b7
      clear G6 X6 b7 bS6
      go_wp2_with fail
      refine (heb _ _ _ (by_of_own X67) (by_of_own X7)).mono ?_
      rintro e w8 ⟨rfl, b8⟩
      have bS8 := below_more bS7 b8 bS7.size
      have G8 := G7.below b8
      have X8 := own_below X67 b8
      clear G7 X67 X7 b8 bS7
      go_wp2_with fail
      refine (hmb _ _ _ X8).mono ?_
      rintro e w9 ⟨rfl, g9⟩
      have bS9 := below_row bS8 g9 bS8.size (fun k hk => (X8.lt k hk).1)
      have G9 := G8.bytes X8 g9
      have M9 := M2.below bS9
      have cm := fun i => blk_cell M9.b i
      have cg := fun i => blk_cell G9.b i
      clear G8 X8 g9 bS8
      as_aux_lemma =>
        go_wp2_with fail
        refine (heq _ _ _ _ _ _ _ _ _ G9.l.cl M9.l.cl).mono ?_
        rintro e w10 ⟨rfl, b10⟩
        have bS10 := below_more bS9 b10 bS9.size
        have G10 := G9.below b10
        have cg := fun i => blk_cell G10.b i
        clear cm M9 G9 b10 bS9
        go_wp2_with fail
        refine (hmm _ _ _ _ _ _ G10.l bS10.size).mono ?_
        rintro e w11 ⟨rfl, K11, b11, kp11⟩
        have B11 := kp11 _ _ _ (by decide) (by decide) G10.b
        have bS11 := bS10.trans b11
        have cg := fun i => blk_cell B11 i
        clear kp11 G10 b11 bS10
        as_aux_lemma =>
          go_wp2_with fail
          refine (hhm _ _ _ _ _ K11.cm).mono ?_
          rintro e w12 ⟨rfl, b12⟩
          have bS12 := below_more bS11 b12 bS11.size
          have K12 := K11.below b12
          have B12 := blk_below B11 b12
          clear cg K11 B11 b12 bS11
          go_wp2_with fail
          refine (hto _ _ (hrow.below (Nm.below_two b02 bS12))).mono ?_
          rintro e w13 ⟨v13, rfl, X13, b13⟩
          have bS13 := below_more bS12 b13 bS12.size
          have K13 := K12.below b13
          have B13 := blk_below B12 b13
          clear K12 B12 b13 bS12
          as_aux_lemma =>
            go_wp2_with fail
            refine (him _ _ (by_of_own X13)).mono ?_
            rintro e w14 ⟨b14, q, x, y, z, rfl, L14⟩
            obtain ⟨d1, e1, rfl⟩ := row_val L14.rq
            obtain ⟨d2, e2, rfl⟩ := row_val L14.ra
            obtain ⟨d3, e3, rfl⟩ := row_val L14.ru
            obtain ⟨d4, e4, rfl⟩ := row_val L14.rx
            have H15 := mvar_new (cs := #[.int .i64 i0, .bool t15, .int .i64 i2, .bool t10, .bool t9, .bool t8, .bool t7, .bool t6, .bool t5, .bool t4, .int .i64 i10, .slice d1 m.qs.length e1, .slice d2 m.an.length e2, .slice d3 m.au.length e3, .slice d4 m.ex.length e4]) L14
            have hA14 : Below w14.heap.size w14 (w14.alloc (.cells #[.int .i64 i0, .bool t15, .int .i64 i2, .bool t10, .bool t9, .bool t8, .bool t7, .bool t6, .bool t5, .bool t4, .int .i64 i10, .slice d1 m.qs.length e1, .slice d2 m.an.length e2, .slice d3 m.au.length e3, .slice d4 m.ex.length e4] 28)) := (Below.refl _ _).alloc (Nat.le_refl _) _
            have b15 := Nm.below_two b14 hA14
            have bS15 := below_more bS13 b15 bS13.size
            have K15 := K13.below b15
            have B15 := blk_below B13 b15
            have M15 := M2.below bS15
            have cm := fun i => blk_cell M15.b i
            have ch := fun i => blk_cell H15.b i
            clear K13 B13 b14 hA14 b15 bS13 L14 X13
            go_wp2_with fail
            refine (heq _ _ _ _ _ _ _ _ _ H15.l.cl M15.l.cl).mono ?_
            rintro e w16 ⟨rfl, b16⟩
            have bS16 := below_more bS15 b16 bS15.size
            have K16 := K15.below b16
            have B16 := blk_below B15 b16
            have cg := fun i => blk_cell B16 i
            clear cm ch H15 M15 K15 B15 b16 bS15
            go_wp2_with fail
            refine (hhm _ _ _ _ _ K16.cm).mono ?_
            rintro e w17 ⟨rfl, b17⟩
            have bS17 := below_more bS16 b17 bS16.size
            go_wp2
            go_ret
            exact ⟨rfl, Nm.below_two b02 bS17⟩
end Go.Proofs.Ytakonfkefoeenah
