import Derived.Test.YtilcbdhcojgcbaaJVfW
import Derived.Test.YtilcbdhcojgcbaaSRe
import Derived.Shelf.LaysM
import Derived.Shelf.Strconv.Clone
import Derived.Test.YtilcbdhcojgcbaaProg
import Derived.Test.YtilcbdhcojgcbaaJMath
import Derived.Test.YtilcbdhcojgcbaaJSOp
import Derived.Test.YtilcbdhcojgcbaaJOrdL
import Derived.Deep.QuietTactic
import Derived.BigQuiet
/- What Triage says: mathematics; a message that was read, as its contracts want it. -/
namespace Go.Proofs.Ytilcbdhcojgcbaa
open Go.RowKit
set_option linter.unusedVariables false

def rr1 (r : Rm) : Rr := ⟨⟨r.owner.toArray⟩, r.ty, r.cl, r.ttl, ⟨r.dat.toArray⟩⟩
def qr1 (q : Qm) : Qr := ⟨⟨q.name.toArray⟩, q.ty, q.cl⟩
/-- What was read, as a message. -/
def mg1 (d f : Nat) (M : Mm) : Mg := ⟨⟨d, f.testBit 15, ((f / 2048 % 16 : Nat) : Int), f.testBit 10, f.testBit 9, f.testBit 8, f.testBit 7, f.testBit 6, f.testBit 5, f.testBit 4, ((f % 16 : Nat) : Int)⟩, M.qs.map qr1, M.an.map rr1, M.au.map rr1, M.ex.map rr1⟩
theorem mgV_1 (d f : Nat) (M : Mm) (q a u x : Value) : mgV (mg1 d f M).hd q a u x = msA d f q a u x := rfl
theorem qv_1 (xs : List Qm) : qvVs (xs.map qr1) = quCs xs := by
  induction xs with
  | nil => rfl
  | cons x xs ih =>
    have e1 : qvVs (qr1 x :: xs.map qr1) = quC x ++ qvVs (xs.map qr1) := by simp [qvVs, qvV, qr1, quC]
    have e2 : quCs (x :: xs) = quC x ++ quCs xs := by simp [quCs]
    rw [List.map_cons, e1, e2, ih]
theorem rv_1 (xs : List Rm) : rvVs (xs.map rr1) = rrCs xs := by
  induction xs with
  | nil => rfl
  | cons x xs ih =>
    have e2 : rrCs (x :: xs) = rrC x ++ rrCs xs := by simp [rrCs]
    rw [List.map_cons, rvVs_cons, e2, ih]
    rfl
theorem mrow_1 {w : World} {d f : Nat} {M : Mm} {q a u x : Value} (h : LRd w M q a u x) : MRow w (mg1 d f M) q a u x := by
  refine ⟨?_, ?_, ?_, ?_⟩
  · have := h.rq; rw [mg1]; simp only [List.length_map, qv_1]; exact this
  · have := h.ra; rw [mg1]; simp only [List.length_map, rv_1]; exact this
  · have := h.ru; rw [mg1]; simp only [List.length_map, rv_1]; exact this
  · have := h.rx; rw [mg1]; simp only [List.length_map, rv_1]; exact this

theorem rrS_d41 {l : List UInt8} {p q : Nat} {r : Rm} (h : rrS l p = .ok r q) (ht : r.ty = 41) : r.dat.length ≤ 65535 := by
  rw [rrS] at h
  cases hd : dnF l p p [] none using Rs.elim with
  | bad c => rw [hd] at h; cases h
  | ok s nx =>
    rw [hd] at h
    simp only at h
    split at h
    · split at h
      · cases he : dataS l (n16 l nx) (nx + 10) (nx + 10 + n16 l (nx + 8)) using Rs.elim with
        | bad c => rw [he] at h; cases h
        | ok d q' =>
          rw [he] at h
          simp only at h
          cases h
          simp only at ht ⊢
          rw [ht, dataS] at he
          have hn := n16_lt l (nx + 8)
          split at he
          · cases he
            simp
          · split at he
            · rename_i hp
              exact absurd hp (by decide)
            · split at he
              · cases he
                simp [cutL]
                omega
              · cases he
      · cases h
    · cases h
theorem ex_41 {l : List UInt8} {m : Mm} {p : Nat} (h : msgS l = .ok m p) : ∀ r ∈ m.ex, r.ty = 41 → r.dat.length ≤ 65535 := by
  rw [msgS] at h
  split at h
  · cases h
  split at h
  · cases h
  split at h
  · cases h
  rw [listsS] at h
  cases h1 : manyS (quS l) (n16 l 4) 12 [] using Rs.elim with
  | bad c => rw [h1] at h; cases h
  | ok qs p1 =>
    rw [h1] at h
    simp only at h
    cases h2 : manyS (rrS l) (n16 l 6) p1 [] using Rs.elim with
    | bad c => rw [h2] at h; cases h
    | ok an p2 =>
      rw [h2] at h
      simp only at h
      cases h3 : manyS (rrS l) (n16 l 8) p2 [] using Rs.elim with
      | bad c => rw [h3] at h; cases h
      | ok au p3 =>
        rw [h3] at h
        simp only at h
        cases h4 : manyS (rrS l) (n16 l 10) p3 [] using Rs.elim with
        | bad c => rw [h4] at h; cases h
        | ok ex p4 =>
          rw [h4] at h
          simp only at h
          split at h
          · cases h
          · cases h
            exact manyS_all (P := fun r => r.ty = 41 → r.dat.length ≤ 65535) (fun p x e hx => rrS_d41 hx) _ _ _ (by simp) h4

/-- What is done with a message that is well formed. -/
def triE (op : Nat) (ver : Int) : Int := if op ≠ 0 ∧ op ≠ 5 then 3 else if 0 < ver then 4 else if op = 5 then 5 else 6
/-- Of a message that was read. -/
def triM (d f : Nat) (m : Mm) : Int := if m.qs.length = 1 ∧ (fsV m).2.2 = 0 then (match edR (mg1 d f m) with
  | none => 2
  | some E => triE (f / 2048 % 16) E.ver) else 2
/-- What is done with a message. -/
def triN (l : List UInt8) : Int := if l.length < 12 ∨ (n16 l 2).testBit 15 = true then 1 else match msgS l with
  | .inl _ => 2
  | .inr (m, _) => triM (n16 l 0) (n16 l 2) m

theorem ver_fs {l : List UInt8} {m : Mm} {p : Nat} (h : msgS l = .ok m p) : ((verL l [] 0 ⟨#[]⟩).code = 32 ∧ (fsV m).2.2 = 32) ∨ ((verL l [] 0 ⟨#[]⟩).code ≠ 32 ∧ (fsV m).2.2 = 0) := by
  have hpre : vPre [] 0 ⟨#[]⟩ = true := by decide
  have e : verL l [] 0 ⟨#[]⟩ = verM l m [] 0 ⟨#[]⟩ := by rw [verL, h]; simp [hpre]
  rw [e, verM]
  cases hst : strayB m with
  | true => exact .inl ⟨rfl, by rw [fsV_stray hst]⟩
  | false =>
    rw [fsV_clean hst]
    simp only [Bool.false_eq_true, if_false]
    cases hx : m.ex.getLast? with
    | none => exact .inr ⟨by show (0 : Int) ≠ 32; decide, rfl⟩
    | some r =>
      simp only
      cases ht : vTs r with
      | false => exact .inr ⟨by show (0 : Int) ≠ 32; decide, rfl⟩
      | true =>
        simp only [if_true]
        cases hd : datB r with
        | false => exact .inl ⟨rfl, rfl⟩
        | true =>
          refine .inr ⟨?_, rfl⟩
          simp only [if_true, vdS, keyAt, List.findIdx?_nil]
          decide
end Go.Proofs.Ytilcbdhcojgcbaa
/- spec.Triage by its contract. -/
namespace Go.Proofs.Ytilcbdhcojgcbaa
open Go.RowKit
set_option linter.unusedVariables false

set_option maxRecDepth 100000 in
set_option maxHeartbeats 3200000 in
theorem specTriage_any (v : Value) (l : List UInt8) (w : World) (h : BySl w v l) (hl : l.length ≤ 1048576) :
    Calls Try.prog 4 #[v] w fun e w' => e = .returned (.int .i64 (triN l)) ∧ Below w.heap.size w w' := by
  have hdh := specDecodeHead_any v l w h hl
  have hde := fun W (hW : Below w.heap.size w W) => specDecode_any v l W (h.below hW) hl
  have hve := fun W (hW : Below w.heap.size w W) => specVerify_any v (.slice none 0 0) l [] 0 ⟨#[]⟩ W (h.below hW) hl ⟨rfl, none, 0, rfl, by decide, by decide, fun hp => by simp at hp⟩ (by simp)
  obtain ⟨av, cv, rfl⟩ : ∃ a c, v = .slice a l.length c := by obtain ⟨_, a, c, e, _⟩ := h; exact ⟨a, c, e⟩
  obtain ⟨TR, hTR⟩ : ∃ R, R = triN l := ⟨_, rfl⟩
  rw [← hTR]
  rw [triN] at hTR
  clear h
  by_cases h12 : l.length < 12
  · rw [if_pos (.inl h12)] at hTR
    subst hTR
    rw [dhV, if_neg (by omega)] at hdh
    simp only [hd0, ct0] at hdh
    clear hde hve
    go_enter Try.func4, Try.ntmps4
    go_wp2_with fail
    refine hdh.mono ?_
    rintro e w1 ⟨rfl, b1⟩
    go_wp2
    go_ret
    exact ⟨rfl, (b1.alloc b1.size _).alloc (b1.alloc b1.size _).size _⟩
  · rw [dhV, if_pos (by omega)] at hdh
    simp only [hdA, ctA] at hdh
    have hH0 := fun w1 (b1 : Below w.heap.size w w1) => (b1.alloc b1.size (.cells #[.int .i64 (n16 l 0 : Int), .bool ((n16 l 2).testBit 15), .int .i64 ((n16 l 2 / 2048 % 16 : Nat) : Int), .bool ((n16 l 2).testBit 10), .bool ((n16 l 2).testBit 9), .bool ((n16 l 2).testBit 8), .bool ((n16 l 2).testBit 7), .bool ((n16 l 2).testBit 6), .bool ((n16 l 2).testBit 5), .bool ((n16 l 2).testBit 4), .int .i64 ((n16 l 2 % 16 : Nat) : Int)] 28)).alloc (b1.alloc b1.size (.cells #[.int .i64 (n16 l 0 : Int), .bool ((n16 l 2).testBit 15), .int .i64 ((n16 l 2 / 2048 % 16 : Nat) : Int), .bool ((n16 l 2).testBit 10), .bool ((n16 l 2).testBit 9), .bool ((n16 l 2).testBit 8), .bool ((n16 l 2).testBit 7), .bool ((n16 l 2).testBit 6), .bool ((n16 l 2).testBit 5), .bool ((n16 l 2).testBit 4), .int .i64 ((n16 l 2 % 16 : Nat) : Int)] 28)).size (.cells #[.int .i64 (n16 l 4 : Int), .int .i64 (n16 l 6 : Int), .int .i64 (n16 l 8 : Int), .int .i64 (n16 l 10 : Int)] 29)
    cases hq : (n16 l 2).testBit 15 with
    | true =>
      rw [if_pos (.inr hq)] at hTR
      subst hTR
      rw [hq] at hdh hH0
      clear hde hve
      go_enter Try.func4, Try.ntmps4
      go_wp2_with fail
      refine hdh.mono ?_
      rintro e w1 ⟨rfl, b1⟩
      have hb := hH0 _ b1
      go_wp2
      go_ret
      exact ⟨rfl, hb⟩
    | false =>
      rw [if_neg (by rw [hq]; simp; omega)] at hTR
      rw [hq] at hdh hH0
      have HTR := Nm.hide hTR
      clear hTR
      go_enter Try.func4, Try.ntmps4
      go_wp2_with fail
      refine hdh.mono ?_
      rintro e w1 ⟨rfl, b1⟩
      have hb := hH0 _ b1
      clear hdh hH0 b1
      go_wp2_with fail
      refine (hde _ hb).mono ?_
      rintro e w3 ⟨b3, q, a, u, x, rfl, hL⟩
      have hb3 := Nm.below_two hb b3
      clear hde b3 hb
      cases hm : msgS l using Rs.elim with
      | bad c =>
        have hO : msO l = ⟨0, 0, ⟨[], [], [], []⟩, c⟩ := by rw [msO, hm]
        have hc := code_bad hm
        have HE : Hid (TR = 2) := by show _ = _; rw [HTR.out, hm]
        rw [hO] at hL ⊢
        have hc2 : (c != 0) = true := by simpa using hc
        obtain ⟨x1, y1, rfl⟩ := row_val hL.rq
        obtain ⟨x2, y2, rfl⟩ := row_val hL.ra
        obtain ⟨x3, y3, rfl⟩ := row_val hL.ru
        obtain ⟨x4, y4, rfl⟩ := row_val hL.rx
        have hbA := hb3.alloc hb3.size (.cells (msA 0 0 (.slice x1 0 y1) (.slice x2 0 y2) (.slice x3 0 y3) (.slice x4 0 y4)) 35)
        simp only [msA, List.length_nil] at hbA ⊢
        clear hO hc hve hm
        go_wp2
        go_ret
        rw [HE.out]
        exact ⟨rfl, hbA⟩
      | ok m p =>
        have hO : msO l = ⟨n16 l 0, n16 l 2, m, 0⟩ := by rw [msO, hm]
        have h41 := ex_41 hm
        obtain ⟨l1, l2, l3, _, _, l6⟩ := msgS_lens hm
        have hvf := ver_fs hm
        have HT : Hid (TR = triM (n16 l 0) (n16 l 2) m) := by show _ = _; rw [HTR.out, hm]
        rw [hO] at hL ⊢
        have g1 : m.an.length ≤ 400 := by omega
        have g2 : m.au.length ≤ 400 := by omega
        have g3 : m.ex.length ≤ 400 := by omega
        clear hO hm HTR l1 l2 l3 l6 hq
        generalize n16 l 0 = d at *
        generalize n16 l 2 = f at *
        obtain ⟨x1, y1, rfl⟩ := row_val hL.rq
        obtain ⟨x2, y2, rfl⟩ := row_val hL.ra
        obtain ⟨x3, y3, rfl⟩ := row_val hL.ru
        obtain ⟨x4, y4, rfl⟩ := row_val hL.rx
        have hbA := hb3.alloc hb3.size (.cells (msA d f (.slice x1 m.qs.length y1) (.slice x2 m.an.length y2) (.slice x3 m.au.length y3) (.slice x4 m.ex.length y4)) 35)
        have kM := blk_new w3 (msA d f (.slice x1 m.qs.length y1) (.slice x2 m.an.length y2) (.slice x3 m.au.length y3) (.slice x4 m.ex.length y4)) 35
        have hR := hL.rd.below ((Below.refl w3.heap.size w3).alloc (Nat.le_refl _) (.cells (msA d f (.slice x1 m.qs.length y1) (.slice x2 m.an.length y2) (.slice x3 m.au.length y3) (.slice x4 m.ex.length y4)) 35))
        have hre := specReadEdns_any (mg1 d f m) _ _ _ _ _ (mrow_1 (d := d) (f := f) hR) ⟨by simp [mg1]; omega, by simp [mg1]; omega, by simp [mg1]; omega⟩ (by
          intro r hr ht
          simp only [mg1, List.mem_map] at hr
          obtain ⟨r', hr', rfl⟩ := hr
          have := h41 r' hr' (by simp only [rr1] at ht; omega)
          simp only [rr1, ba_size]
          omega)
        rw [mgV_1] at hre
        unfold EdPost at hre
        have HR := Nm.hide hR
        have r14 := fun i => blk_cell kM i
        have HM := Nm.hide kM
        simp only [msA] at hbA kM hre r14 ⊢
        clear hL hR h41 hb3
        by_cases hq1 : m.qs.length = 1
        · have e1 : ((m.qs.length : Int) != 1) = false := by rw [hq1]; rfl
          cases hed : edR (mg1 d f m) with
          | none =>
            rw [hed] at hre
            have HE : Hid (TR = 2) := by
              show _ = _
              rw [HT.out, triM, hed]
              split <;> rfl
            simp only [edZ] at hre
            clear hed HT hvf hve hq1
            go_wp2_with (refine wpList_load_blk (.tmp 6) 35 rfl rfl w3.heap.size _ _ kM rfl Try.underlying35 rfl (by kernel_rfl) ?_)
            refine hre.mono ?_
            rintro e w5 ⟨rfl, b5⟩
            have hb5 := Nm.below_two hbA b5
            have hbE := hb5.alloc hb5.size (.cells #[.bool false, .int .i64 0, .int .i64 0, .int .i64 0, .slice none 0 0] 40)
            clear r14
            go_wp2
            go_ret
            rw [HE.out]
            exact ⟨rfl, hbE⟩
          | some E =>
            rw [hed] at hre
            simp only [edC] at hre
            have HT2 : Hid (TR = if (fsV m).2.2 = 0 then triE (f / 2048 % 16) E.ver else 2) := by
              show _ = _
              rw [HT.out, triM, hed]
              by_cases hf0 : (fsV m).2.2 = 0
              · rw [if_pos ⟨hq1, hf0⟩, if_pos hf0]
              · rw [if_neg (fun h => hf0 h.2), if_neg hf0]
            clear hed HT hq1
            go_wp2_with (refine wpList_load_blk (.tmp 6) 35 rfl rfl w3.heap.size _ _ kM rfl Try.underlying35 rfl (by kernel_rfl) ?_)
            refine hre.mono ?_
            rintro e w5 ⟨⟨v5, rfl, ho5⟩, b5⟩
            obtain ⟨z5, t5, rfl⟩ := own_sl ho5
            have hb5 := Nm.below_two hbA b5
            have hbE := hb5.alloc hb5.size (.cells #[.bool E.present, .int .i64 E.size, .int .i64 E.ver, .int .i64 E.flags, .slice z5 E.opts.length t5] 40)
            have kE := blk_new w5 #[.bool E.present, .int .i64 E.size, .int .i64 E.ver, .int .i64 E.flags, .slice z5 E.opts.length t5] 40
            have kM5 := blk_alloc (blk_below kM b5) (.cells #[.bool E.present, .int .i64 E.size, .int .i64 E.ver, .int .i64 E.flags, .slice z5 E.opts.length t5] 40)
            clear r14 kM hre ho5 b5 hb5
            go_wp2_with fail
            refine (hve _ hbE).mono ?_
            rintro e w7 ⟨⟨u7, rfl, hu7⟩, b7⟩
            obtain ⟨_, a7, c7, rfl, _⟩ := hu7
            have hb7 := Nm.below_two hbE b7
            have c2 := (blk_cell (blk_below kM5 b7) 2).trans rfl
            have cE := (blk_cell (blk_below kE b7) 2).trans rfl
            generalize verL l [] 0 ⟨#[]⟩ = V at *
            simp only [vdC]
            clear hve b7 kE kM5 hbE HM HR
            rcases hvf with ⟨hv, hf0⟩ | ⟨hv, hf0⟩
            · obtain rfl : TR = 2 := by rw [HT2.out, hf0]; rfl
              obtain ⟨vc, vs, vk, vu, vb⟩ := V
              simp only at hv
              have hp : ∀ W, (Instr.field 44 (.agg #[.int .i64 vc, .bool vs, .int .i64 vk, .string ⟨vu.toArray⟩, .slice a7 vb.length c7]) 0).run Try.prog W = .ok (.int .i64 vc) W := fun W => by
                simp [Instr.field, run_underlying Try.underlying44, asAgg, part, go_sem]
              subst hv
              clear HT2
              go_wp2
              go_ret
              exact ⟨rfl, hb7⟩
            · have HT3 : Hid (TR = triE (f / 2048 % 16) E.ver) := by show _ = _; rw [HT2.out, if_pos hf0]
              obtain ⟨vc, vs, vk, vu, vb⟩ := V
              simp only at hv
              have hv1 : (vc == 32) = false := by simpa using hv
              have hp : ∀ W, (Instr.field 44 (.agg #[.int .i64 vc, .bool vs, .int .i64 vk, .string ⟨vu.toArray⟩, .slice a7 vb.length c7]) 0).run Try.prog W = .ok (.int .i64 vc) W := fun W => by
                simp [Instr.field, run_underlying Try.underlying44, asAgg, part, go_sem]
              clear HT2 hf0
              generalize f / 2048 % 16 = OP at *
              by_cases o1 : OP ≠ 0 ∧ OP ≠ 5
              · obtain rfl : TR = 3 := by rw [HT3.out, triE, if_pos o1]
                have n0 : ((OP : Int) != 0) = true := by simp; omega
                have n5 : ((OP : Int) != 5) = true := by simp; omega
                clear HT3 o1
                go_wp2
                go_ret
                exact ⟨rfl, hb7⟩
              by_cases o2 : 0 < E.ver
              · obtain rfl : TR = 4 := by rw [HT3.out, triE, if_neg o1, if_pos o2]
                clear HT3
                by_cases o3 : OP = 0
                · have n0 : ((OP : Int) != 0) = false := by simp; omega
                  clear o1 o3
                  go_wp2
                  go_ret
                  exact ⟨rfl, hb7⟩
                · have n0 : ((OP : Int) != 0) = true := by simp; omega
                  have n5 : ((OP : Int) != 5) = false := by simp; omega
                  clear o1 o3
                  go_wp2
                  go_ret
                  exact ⟨rfl, hb7⟩
              · by_cases o3 : OP = 0
                · obtain rfl : TR = 6 := by rw [HT3.out, triE, if_neg o1, if_neg o2, if_neg (by omega)]
                  have n0 : ((OP : Int) != 0) = false := by simp; omega
                  have n5 : ((OP : Int) == 5) = false := by simp; omega
                  have n6 : ¬ (OP : Int) = 5 := by omega
                  clear o1 o3 HT3
                  go_wp2
                  go_ret
                  exact ⟨rfl, hb7⟩
                · obtain rfl : TR = 5 := by rw [HT3.out, triE, if_neg o1, if_neg o2, if_pos (by omega)]
                  have n0 : ((OP : Int) != 0) = true := by simp; omega
                  have n5 : ((OP : Int) != 5) = false := by simp; omega
                  have n6 : ((OP : Int) == 5) = true := by simp; omega
                  have n7 : decide ((OP : Int) = 5) = true := by simp; omega
                  clear o1 o3 HT3
                  go_wp2
                  go_ret
                  exact ⟨rfl, hb7⟩
        · have e1 : ((m.qs.length : Int) != 1) = true := by simp; omega
          have HE : Hid (TR = 2) := by
            show _ = _
            rw [HT.out, triM, if_neg (fun h => hq1 h.1)]
          clear HT hvf hve hq1 hre kM
          go_wp2
          go_ret
          rw [HE.out]
          exact ⟨rfl, hbA⟩
end Go.Proofs.Ytilcbdhcojgcbaa
/- Contracts of the library at this dump. -/
namespace Go.Proofs
open Go.Shelf
def Try.laysM316_ren : Go.Shelf.Ren := ⟨fun | 316 => 69 | n => n, fun | 9 => 9 | 3 => 3 | 4 => 4 | 37 => 22 | 0 => 0 | 127 => 126 | 5 => 5 | n => n, fun | n => n⟩
theorem Try.laysM316 : Go.Proofs.LaysM.n316 Try.prog Try.laysM316_ren := {
  mixed := by kernel_rfl
  f316 := Try.func69.trans (congrArg some (by kernel_rfl))
  t0 := Try.underlying0
  a0 := Try.isAgg0
  z0 := Try.sizeOf0
  v0 := Try.zeroValue0
  t3 := Try.underlying3
  a3 := Try.isAgg3
  z3 := Try.sizeOf3
  v3 := Try.zeroValue3
  t4 := Try.underlying4
  a4 := Try.isAgg4
  z4 := Try.sizeOf4
  v4 := Try.zeroValue4
  t9 := Try.underlying9
  a9 := Try.isAgg9
  z9 := Try.sizeOf9
  v9 := Try.zeroValue9
  t37 := Try.underlying22
  a37 := Try.isAgg22
  z37 := Try.sizeOf22
  v37 := Try.zeroValue22
  t127 := Try.underlying126
  a127 := Try.isAgg126
  z127 := Try.sizeOf126
  v127 := Try.zeroValue126
  t5 := Try.underlying5
  a5 := Try.isAgg5
  z5 := Try.sizeOf5
  v5 := Try.zeroValue5
  i0 := by kernel_rfl
  i3 := by kernel_rfl
  i4 := by kernel_rfl
  i5 := by kernel_rfl
  i9 := by kernel_rfl
  i37 := by kernel_rfl
  i127 := by kernel_rfl }
open Go.RowKit in
theorem Try.stringslite_Clone (s : ByteArray) (w : World) (hlim : s.size ≤ 281474976710656) :
    Calls Try.prog 69 #[.string s] w fun e w' => e = .returned (.string s) ∧ Below w.heap.size w w' := Any.stringslite_Clone Try.laysM316 s w hlim
end Go.Proofs
/- strings.Clone by its contract. -/
namespace Go.Proofs.Ytilcbdhcojgcbaa
open Go.RowKit
set_option linter.unusedVariables false
theorem cloneStr_any (s : ByteArray) (w : World) (h : s.size ≤ 281474976710656) :
    Calls Try.prog 58 #[.string s] w fun e w' => e = .returned (.string s) ∧ Below w.heap.size w w' := by
  have hc := fun W => Try.stringslite_Clone s W h
  go_enter Try.func58, Try.ntmps58
  go_wp2_with (go_at_call 69; refine (hc _).mono ?_; rintro e w1 ⟨rfl, b1⟩)
  go_ret
  exact ⟨rfl, b1⟩
end Go.Proofs.Ytilcbdhcojgcbaa
/- impl.readOptions by its contract. -/
namespace Go.Proofs.Ytilcbdhcojgcbaa
open Go.RowKit
set_option linter.unusedVariables false

set_option maxRecDepth 100000 in
set_option maxHeartbeats 1600000 in
theorem readOptions_any (D : ByteArray) (w : World) (hD : D.size ≤ 1048576) :
    Calls Try.prog 45 #[.string D] w (OpPost D.data.toList w) := by
  obtain ⟨i0, hi, hz0, hz1, hz2⟩ := info_parts Try.infoOpz2
  obtain ⟨RES, HRES⟩ : ∃ R, Hid (R = optR D.data.toList) := ⟨_, rfl⟩
  have hro : w.ownsRow w.heap.size 83 2 (.slice none 0 0) ([] : List (Int × ByteArray)).length (opVs []) := ⟨rfl, .inl ⟨rfl, rfl⟩⟩
  have hDl : D.data.toList.length = D.size := by simp
  have HR0 : Hid (optA (D.size + 1) [] D.data.toList = RES) := by show _ = _; rw [HRES.out, optR, hDl]
  have hnum := fun (s : ByteArray) (hs : s.size ≤ 6) W => readBig_any s W hs
  clear hDl
  go_enter Try.func45, Try.ntmps45
  go_wp2
  go_loopw [0, 4] (fun s u wr => ∃ (S : ByteArray) (acc : List (Int × ByteArray)), s = .string S ∧ acc.length + S.size ≤ D.size ∧ Hid (optA (S.size + 1) acc S.data.toList = RES) ∧ wr.ownsRow w.heap.size 83 2 u acc.length (opVs acc) ∧ Below w.heap.size w wr) (fun s _ _ => oStr s)
  case atStart => exact ⟨D, [], rfl, by simp, HR0, hro, Below.refl _ _⟩
  case round =>
    obtain ⟨S, acc, rfl, hb, HR, hown, hbel⟩ := hrel
    clear hro HR0
    have hSl : S.data.toList.length = S.size := by simp
    by_cases h0 : S.size = 0
    · obtain ⟨e1, e2⟩ := beq_empty h0
      have HE : Hid (RES = some acc) := by
        show _ = _
        have hnil : S.data.toList = [] := List.length_eq_zero_iff.1 (by omega)
        rw [← HR.out, hnil, optA_nil]
      clear hSl h0 hnum
      go_wp2
      go_ret2
      refine ⟨?_, hbel⟩
      rw [← HRES.out, HE.out]
      exact ⟨_, rfl, hown⟩
    · obtain ⟨e1, e2⟩ := not_empty (s := S) (by omega)
      have hnn : S.data.toList ≠ [] := fun e => h0 (by rw [← hSl, e]; rfl)
      by_cases h4 : S.size < 4
      · have HE : Hid (RES = none) := by
          show _ = _
          rw [← HR.out, optA_bad hnn (.inl (by omega))]
        have h4' : (S.size : Int) < 4 := by omega
        clear hSl h0 hnum hnn
        go_wp2
        go_ret2
        refine ⟨?_, hbel⟩
        rw [← HRES.out, HE.out]
        rfl
      · obtain ⟨N, hN⟩ : ∃ N, N = numL ((S.data.toList.drop 2).take 2) := ⟨_, rfl⟩
        have hN16 : N < 65536 := by
          have h1 := numL_lt ((S.data.toList.drop 2).take 2)
          have h2 : ((S.data.toList.drop 2).take 2).length ≤ 2 := by simp; omega
          have h3 : 256 ^ ((S.data.toList.drop 2).take 2).length ≤ 256 ^ 2 := Nat.pow_le_pow_right (by decide) h2
          omega
        have hn1 := hnum (S.extract 2 4) (by rw [ByteArray.size_extract]; omega)
        rw [ba_cut, ← hN] at hn1
        have hn2 := hnum (S.extract 0 2) (by rw [ByteArray.size_extract]; omega)
        rw [ba_cut, List.drop_zero] at hn2
        obtain ⟨C, hC⟩ : ∃ C, C = numL (S.data.toList.take 2) := ⟨_, rfl⟩
        rw [← hC] at hn2
        have h4' : ¬ (S.size : Int) < 4 := by omega
        have q4 : (4 : Int) ≤ (S.size : Int) := by omega
        have q2 : (2 : Int) ≤ (S.size : Int) := by omega
        have hZ : (S.extract 4 S.size).size = S.size - 4 := by rw [ByteArray.size_extract]; omega
        by_cases hbig : S.size < 4 + N
        · have HE : Hid (RES = none) := by
            show _ = _
            rw [← HR.out, optA_bad hnn (.inr (by rw [← hN]; omega))]
          obtain ⟨T, hT⟩ : ∃ T, T = S.extract 4 S.size := ⟨_, rfl⟩
          rw [← hT] at hZ
          have hb1 : (T.size : Int) < (N : Int) := by omega
          clear hSl h0 hnum hnn hN hC
          go_wp2
          go_quiet ((go_at_call 57; first | with_reducible exact Calls.quiet_of_same (hn1 _) | with_reducible exact Calls.quiet_of_same (hn2 _)))
          go_wp2
          rw [← hT]
          go_wp2
          go_ret2
          refine ⟨?_, hbel.trans ⟨rfl, rfl, rfl, Nat.le_refl _, fun _ _ => rfl⟩⟩
          rw [← HRES.out, HE.out]
          rfl
        · have hstep := optA_step (f := S.size) (acc := acc) hnn (by rw [← hN]; omega)
          rw [HR.out, ← hN, ← hC] at hstep
          obtain ⟨T, hT⟩ : ∃ T, T = S.extract 4 S.size := ⟨_, rfl⟩
          rw [← hT] at hZ
          have hTl : T.data.toList = S.data.toList.drop 4 := by rw [hT, ba_drop]
          obtain ⟨X, hX⟩ : ∃ X, X = T.extract 0 N := ⟨_, rfl⟩
          obtain ⟨S2, hS2⟩ : ∃ X, X = T.extract N T.size := ⟨_, rfl⟩
          have eX : (⟨((S.data.toList.drop 4).take N).toArray⟩ : ByteArray) = X := by
            have := ba_of (ba_cut T 0 N)
            rw [hTl, List.drop_zero, Nat.sub_zero] at this
            rw [hX, this]
          have hS2z : S2.size = T.size - N := by rw [hS2, ByteArray.size_extract]; omega
          have hXz : X.size ≤ 1048576 := by rw [hX, ByteArray.size_extract]; omega
          have HR2 : Hid (optA (S2.size + 1) (acc ++ [((C : Int), X)]) S2.data.toList = RES) := by
            show _ = _
            rw [hstep, eX, hS2, ba_drop, hTl, List.drop_drop, ByteArray.size_extract]
            refine optA_enough _ _ _ _ ?_ ?_
            · rw [List.length_drop]; omega
            · rw [List.length_drop]; omega
          have hb1 : ¬ (T.size : Int) < (N : Int) := by omega
          have hb2 : (N : Int) ≤ (T.size : Int) := by omega
          have hcl := fun W => cloneStr_any X W (by omega)
          have HS2z := Nm.hide hS2z
          have HZ := Nm.hide hZ
          have HT := Nm.hide hT
          have HX := Nm.hide hX
          have HS2 := Nm.hide hS2
          clear hSl h0 hnn hN hC eX hS2z hZ hstep HR hTl hnum hT hX hS2
          obtain ⟨ya, yc, rfl⟩ := own_sl hown
          have hrow : ∀ q, Value.ownBlock (.slice ya acc.length yc) = some q → w.heap.size ≤ q := fun q hq => (hown.lt q hq).1
          go_wp2
          go_quiet ((go_at_call 57; first | with_reducible exact Calls.quiet_of_same (hn1 _) | with_reducible exact Calls.quiet_of_same (hn2 _)))
          have hdr : Below wr.heap.size wr (wr.drewN nq) := ⟨rfl, rfl, rfl, Nat.le_refl _, fun _ _ => rfl⟩
          have ho1 := own_below hown hdr
          have hbd := Nm.below_two hbel hdr
          clear hown hbel hdr hn1 hn2
          generalize wr.drewN nq = W1 at *
          go_wp2_with fail
          rw [← HT.out]
          go_wp2_with fail
          rw [← HX.out]
          go_wp2_with fail
          refine (hcl _).mono ?_
          rintro e w2 ⟨rfl, b2⟩
          have ho2 := own_below ho1 b2
          have hbe2 := Nm.below_two hbd b2
          have hz2' := hbe2.size
          clear ho1 hbd b2 hcl
          go_wp2_with (at_builtin; refine wpList_append_own _ rfl (.tmp 24) (.tmp 31) 38 rfl w.heap.size 83 i0 _ 2 24 Try.underlying38 hi hz0 hz1 hz2 rfl (by decide) _ _ _ rfl (ho2.alloc _) ⟨w2.heap.size, 0, none⟩ 1 1 [.int .i64 (C : Int), .string X] rfl rfl (cell_newO _ _ _) (by intro u hu; simp at hu; rcases hu with rfl | rfl <;> rfl) (by unfold maxLen; omega) (by omega) (by simp; omega) ?_; intro va wa hown9 hgrow9 hnl9; clear hnl9)
          have hown10 : wa.ownsRow w.heap.size 83 2 va (acc ++ [((C : Int), X)]).length (opVs (acc ++ [((C : Int), X)])) := by
            rw [opVs_app, List.length_append]
            exact hown9
          have hb9 := (hbe2.alloc hbe2.size (.cells #[.int .i64 (C : Int), .string X] 83)).grown hgrow9 (hbe2.alloc hbe2.size (.cells #[.int .i64 (C : Int), .string X] 83)).size hrow
          obtain ⟨za, zc, rfl⟩ := own_sl hown10
          clear hown9 hgrow9 ho2 hbe2
          go_wp2_with fail
          rw [← HS2.out]
          go_roundw
          case rel => exact ⟨S2, acc ++ [((C : Int), X)], rfl, by rw [List.length_append, HS2z.out, HZ.out]; simp; omega, HR2, hown10, hb9⟩
          case measure => show S2.size < S.size; rw [HS2z.out, HZ.out]; omega
end Go.Proofs.Ytilcbdhcojgcbaa
