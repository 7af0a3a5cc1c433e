import Derived.Test.YtddabafaejahbaaGreatDoorJRmG
import Derived.Test.YtddabafaejahbaaGreatDoorJLxAv
/- (*parser).records by its contract. -/
namespace Go.Proofs.YtddabafaejahbaaGreatDoor
open Go.RowKit
set_option linter.unusedVariables false
theorem lp_at (ps : List Lp) (j i : Nat) (x : Lp) (h : ps[j]? = some x) (hi : i < 3) : (lpVs ps)[j * 3 + i]? = (lpV x)[i]? := by
 induction ps generalizing j with
 | nil => simp at h
 | cons y ps ih =>
   cases j with
   | zero =>
     simp at h; subst h; simp only [lpVs, List.flatMap_cons, Nat.zero_mul, Nat.zero_add]
     rw [List.getElem?_append_left (by simpa [lpV] using hi)]
   | succ j =>
     simp at h; simp only [lpVs, List.flatMap_cons]; rw [List.getElem?_append_right (by simp [lpV]; omega), show (j + 1) * 3 + i - (lpV y).length = j * 3 + i by simp [lpV]; omega]; exact ih j h
theorem Frm.cell {B g : Nat} {w w' : World} (h : Frm B g w w') {b i : Nat} {x : Value} (hb : b < B) (hg : b ≠ g) (hx : w.cell? ⟨b, i, none⟩ = some x) : w'.cell? ⟨b, i, none⟩ = some x := by
 rw [World.cell?_of_block (w := w) (w' := w') (a := ⟨b, i, none⟩) (h.block b hb hg)]; exact hx
theorem Frm.lineCell {B g : Nat} {w w' : World} (h : Frm B g w w') {b i : Nat} {x : Value} {cs : Array Value} {c : Nat × Nat} (hk : w.heap[b]? = some (.cells cs 64 c)) (hg : b ≠ g) (hx : w.cell? ⟨b, i, none⟩ = some x) : w'.cell? ⟨b, i, none⟩ = some x := by
 rw [World.cell?_of_block (w := w) (w' := w') (a := ⟨b, i, none⟩) (h.line b cs c hk hg)]; exact hx
/-- What records answers for lines that were cut. -/
def RcP (w0 : World) (r : Sum (Int × Nat) Ms) (e : Ending) (w' : World) : Prop :=
 Below w0.heap.size w0 w' ∧ match r with
 | .inl (c, q) => e = .returned (.tuple #[.slice none 0 0, .iface 133 (.agg #[.int .i64 (q : Int), codI c])])
 | .inr m => ∃ v, e = .returned (.tuple #[v, .nilIface]) ∧ w'.ownsRow w0.heap.size 80 5 v m.rs.length (rvVs m.rs)
theorem lins_err {m : Ms} {l : Ln} {ls : List Ln} {c : Int} (h : linF m l = .inl c) : linsF m (l :: ls) = .inl (c, l.num) := by rw [linsF, h]
theorem lins_ok {m m' : Ms} {l : Ln} {ls : List Ln} (h : linF m l = .inr m') : linsF m (l :: ls) = linsF m' ls := by rw [linsF, h]
set_option maxRecDepth 100000 in
set_option maxHeartbeats 4000000 in
theorem records_run (w0 : World) (o : ByteArray) (ls : List Ln) (g : Nat) (s : ByteArray) (w : World) (h : Lx (psR ⟨o, ⟨#[]⟩, -1, -1, []⟩ (.slice none 0 0)) w g s 0 1 0) (hg0 : w0.heap.size ≤ g) (h0 : Below w0.heap.size w0 w) (ho : o.size ≤ 1048576) (hs : s.size ≤ 40000) (hls : lsF s 0 1 [] = .inr ls) (hok : o.size = 0 ∨ (Nm.split o).isSome = true) (hM : ∀ W, Below w0.heap.size w0 W → MnemAt W) (hR : ∀ W, Below w0.heap.size w0 W → Reads W) :
 Calls Tryz.prog 32 #[.pointer (some ⟨g, 0, none⟩)] w (RcP w0 (linsF ⟨o, ⟨#[]⟩, -1, -1, []⟩ ls)) := by
 obtain ⟨R, HR⟩ : ∃ R, Hid (R = linsF ⟨o, ⟨#[]⟩, -1, -1, []⟩ ls) := ⟨_, rfl⟩; rw [← HR.out]; have hgl := h.lt; obtain ⟨c4, c5, c6, c7, c8⟩ := ps_cells h; have hline := fun W (hW : Lx (psR ⟨o, ⟨#[]⟩, -1, -1, []⟩ (.slice none 0 0)) W g s 0 1 0) => hls ▸ lines_any g s W hW hs
 have HLs : Hid (∀ l ∈ ls, LnOk s.size l) := lsF_lines s _ 0 1 [] (Nat.le_refl _) (Nat.zero_le _) (by intro l hl; cases hl) ls hls; have HMR := Nm.hide (And.intro hM hR); have hNO := fun W => implNameOK_any o W (by unfold maxLen; omega)
 clear hM hR hls
 by_cases h1 : o.size = 0
 · obtain ⟨q1, q2⟩ := beq_empty h1; have hli := hline w h; clear h1 hok hNO hline; go_enter Tryz.func32, Tryz.ntmps32; go_wp2_with fail
   clear c4 c5 c6 c7 c8 h; go_at_call 76
   refine hli.mono ?_; rintro e w2 ⟨hg2, v, ps, rfl, hps, hlo, p, n, hl2⟩; subst hps; have h02 : Below w0.heap.size w0 w2 := ⟨hg2.os.trans h0.os, hg2.tape.trans h0.tape, hg2.output.trans h0.output, Nat.le_trans h0.size hg2.size, fun k hk => (hg2.block k (by omega) (by simp; omega)).trans (h0.block k hk)⟩; have hs2 := hg2.size; clear hli hg2 h0; obtain ⟨va, vc, rfl⟩ := own_sl hlo.outer; go_wp2
   go_loopw [35] (fun i wr => ∃ (j : Nat) (m : Ms) (v' : Value), j ≤ ps.length ∧ i = .int .i64 (j : Int) ∧ Hid (R = linsF m ((ps.map (·.1)).drop j)) ∧ Hid (m.org.size ≤ 1048576 ∧ m.rs.length ≤ 500) ∧ Lx (psR m v') wr g s p n 0 ∧ wr.ownsRow w2.heap.size 80 5 v' m.rs.length (rvVs m.rs) ∧ Frm w2.heap.size g w2 wr) (fun i _ => ps.length - (intOf i).toNat)
   case atStart => exact ⟨0, _, _, Nat.zero_le _, rfl, by simpa using HR, ⟨ho, Nat.zero_le _⟩, hl2, World.ownsRow_nil _ _ _ _, Frm.refl _ _ _⟩
   case round =>
    obtain ⟨j, m, v', hj, rfl, HL, HB, hl, hv, hF⟩ := hrel; have hsz := hF.size
    have hmx : ps.length ≤ 9223372036854775807 := by
     obtain ⟨_, a9, cap9, e9, hc9, hm9, _⟩ := CRow.of_owns hlo.outer; unfold maxLen at *; omega
    by_cases hlt : j < ps.length
    · obtain ⟨x, hx⟩ : ∃ x, ps[j]? = some x := ⟨_, List.getElem?_eq_getElem hlt⟩; have ex : x = ps[j] := Option.some.inj (hx.symm.trans (List.getElem?_eq_getElem hlt))
      have hd : (ps.map (·.1)).drop j = x.1 :: (ps.map (·.1)).drop (j + 1) := by
       rw [List.drop_eq_getElem_cons (by simpa using hlt), ex]; simp
      have hmem : x.1 ∈ ps.map (·.1) := List.mem_map.2 ⟨x, List.mem_of_getElem? hx, rfl⟩; obtain ⟨l0, l1, l2⟩ := HLs.out x.1 hmem
      obtain ⟨b, rfl⟩ : ∃ b, va = some ⟨b, 0, none⟩ := by
       rcases hlo.outer.2 with ⟨e, h0⟩ | ⟨b, cap, cur, e, _⟩
       · omega
       · cases e; exact ⟨b, rfl⟩
      obtain ⟨b1, b2⟩ := hlo.outer.lt b rfl; have n1 := hlo.inner j x hx; obtain ⟨ua, uc, hu⟩ := own_sl n1; have c0 : wr.cell? ⟨b, j * 3, none⟩ = some (.int .i64 (x.1.num : Int)) := hF.cell b2 (by omega) ((hlo.outer.cellAt (j * 3) (by omega)).trans (lp_at ps j 0 x hx (by decide))); have c1 : wr.cell? ⟨b, j * 3 + 1, none⟩ = some (.bool x.1.bl) := hF.cell b2 (by omega) ((hlo.outer.cellAt (j * 3 + 1) (by omega)).trans (lp_at ps j 1 x hx (by decide))); have c2 : wr.cell? ⟨b, j * 3 + 2, none⟩ = some x.2 := hF.cell b2 (by omega) ((hlo.outer.cellAt (j * 3 + 2) (by omega)).trans (lp_at ps j 2 x hx (by decide)))
      have hub : ∀ b off k c, Value.slice ua x.1.ws.length uc = .slice (some ⟨b, off, none⟩) k c → b < w2.heap.size ∧ b ≠ g := by
       intro b off k c e; have := n1.lt b (by rw [hu, e]; rfl); omega
      rw [hu] at c2 n1; have hcr := hF.crow (CRow.of_owns n1) hub; have bA := (Below.refl _ wr).alloc (Nat.le_refl _) (.cells #[.int .i64 (x.1.num : Int), .bool x.1.bl, .slice ua x.1.ws.length uc] 64); have hFA : Frm w2.heap.size g wr _ := Frm.bel (g := g) bA hsz; have hFB := hF.trans hFA; have kA := blk_new wr #[.int .i64 (x.1.num : Int), .bool x.1.bl, .slice ua x.1.ws.length uc] 64
      have kC : (wr.alloc (.cells #[.int .i64 (x.1.num : Int), .bool x.1.bl, .slice ua x.1.ws.length uc] 64)).cell? ⟨wr.heap.size, 0, none⟩ = some (.int .i64 (x.1.num : Int)) := by
       rw [cell_of_row _ _ _ _ _ _ kA]; rfl
      have hrd := read_any w0 m v' (.slice ua x.1.ws.length uc) x.1.num x.1.bl x.1.ws w2.heap.size g p n 0 s _ (hl.below bA) (own_below hv bA) hFB.size (by omega) hg0 (hFB.below h02 hg0 (by omega)) HB.out.1 HB.out.2 (hcr.below bA) hub l0 l1 (by omega) HMR.out.1 HMR.out.2; have hLR := HL.out; rw [hd] at hLR; have hgw : wr.heap.size ≠ g := by omega
      have i1 : (0 : Int) ≤ (j : Int) := by omega
      have i2 : (j : Int) < (ps.length : Int) := by omega
      have h0w := fun W (hW : Frm w2.heap.size g _ W) => (hFB.trans hW).below h02 hg0 (by omega)
      have hFW := fun W (hW : Frm w2.heap.size g _ W) => hFB.trans hW
      cases hE : linF m x.1 with
      | inl c =>
        rw [lins_err hE] at hLR; have hrd2 := hE ▸ hrd; have HN := Nm.hide hLR; clear hLR HL hE hrd hd hx ex hmem hub hcr n1 hl hv hFA hFB hF hlo bA; go_wp2_with (go_at_call 77; refine hrd2.mono ?_; rintro e w3 ⟨hF3, rfl⟩; have k3 := hF3.lineCell kA hgw kC; have h03 := h0w w3 hF3; clear hF3 kC kA h0w hFW)
        go_region
        go_wp2; go_ret2; rw [HN.out]
        exact ⟨h03.drew, rfl⟩
      | inr m' =>
        rw [lins_ok hE] at hLR; have hrd2 := hE ▸ hrd; have HN := Nm.hide hLR; have HK := Nm.hide (lin_keep hE HB.out.1 HB.out.2); clear hLR HL hE hrd hd hx ex hmem hub hcr n1 hl hv hFA hFB hF hlo bA; go_wp2_with (go_at_call 77; refine hrd2.mono ?_; rintro e w3 ⟨hF3, rfl, v3, hl3, hv3⟩; have hF4 := hFW w3 hF3; clear hF3 kC kA h0w hFW)
        go_roundw
        case rel => exact ⟨j + 1, m', v3, by omega, by go_num, HN, HK, hl3, hv3, hF4⟩
        case measure => simp [intOf]; omega
    · have hjn : j = ps.length := by omega
      subst hjn
      have HN : Hid (R = .inr m) := by
       show _ = _
       rw [HL.out, List.drop_of_length_le (by simp)]; rfl
      obtain ⟨c4, c5, c6, c7, c8⟩ := ps_cells hl; have h03 := hF.below h02 hg0 (by omega); have hv2 := own_base hv (B' := w0.heap.size) h02.size; obtain ⟨xa, xc, rfl⟩ := own_sl hv; clear HL hlo hF hl hv; go_wp2; go_ret2; rw [HN.out]; exact ⟨h03, _, rfl, hv2⟩
 · obtain ⟨q1, q2⟩ := not_empty (s := o) (by omega); have hsp : (Nm.split o).isSome = true := by rcases hok with h | h; exact absurd h h1; exact h
   rw [hsp] at hNO; clear h1 hok hsp; go_enter Tryz.func32, Tryz.ntmps32; go_wp2_with fail
   go_at_call 24
   refine (hNO _).mono ?_; rintro e w1 ⟨rfl, hb1⟩; have hli := hline w1 (h.below hb1); have h01 : Below w0.heap.size w0 w1 := (Frm.bel (B := w.heap.size) (g := g) hb1 (Nat.le_refl _)).below h0 hg0 hgl; have hgl1 : g < w1.heap.size := Nat.lt_of_lt_of_le hgl hb1.size; clear c4 c5 c6 c7 c8 h h0 hb1 hNO hline hgl; have h0 := h01; have hgl := hgl1; clear h01 hgl1; go_wp2_with fail
   go_at_call 76
   refine hli.mono ?_; rintro e w2 ⟨hg2, v, ps, rfl, hps, hlo, p, n, hl2⟩; subst hps; have h02 : Below w0.heap.size w0 w2 := ⟨hg2.os.trans h0.os, hg2.tape.trans h0.tape, hg2.output.trans h0.output, Nat.le_trans h0.size hg2.size, fun k hk => (hg2.block k (by omega) (by simp; omega)).trans (h0.block k hk)⟩; have hs2 := hg2.size; clear hli hg2 h0; obtain ⟨va, vc, rfl⟩ := own_sl hlo.outer; go_wp2
   go_loopw [35] (fun i wr => ∃ (j : Nat) (m : Ms) (v' : Value), j ≤ ps.length ∧ i = .int .i64 (j : Int) ∧ Hid (R = linsF m ((ps.map (·.1)).drop j)) ∧ Hid (m.org.size ≤ 1048576 ∧ m.rs.length ≤ 500) ∧ Lx (psR m v') wr g s p n 0 ∧ wr.ownsRow w2.heap.size 80 5 v' m.rs.length (rvVs m.rs) ∧ Frm w2.heap.size g w2 wr) (fun i _ => ps.length - (intOf i).toNat)
   case atStart => exact ⟨0, _, _, Nat.zero_le _, rfl, by simpa using HR, ⟨ho, Nat.zero_le _⟩, hl2, World.ownsRow_nil _ _ _ _, Frm.refl _ _ _⟩
   case round =>
    obtain ⟨j, m, v', hj, rfl, HL, HB, hl, hv, hF⟩ := hrel; have hsz := hF.size
    have hmx : ps.length ≤ 9223372036854775807 := by
     obtain ⟨_, a9, cap9, e9, hc9, hm9, _⟩ := CRow.of_owns hlo.outer; unfold maxLen at *; omega
    by_cases hlt : j < ps.length
    · obtain ⟨x, hx⟩ : ∃ x, ps[j]? = some x := ⟨_, List.getElem?_eq_getElem hlt⟩; have ex : x = ps[j] := Option.some.inj (hx.symm.trans (List.getElem?_eq_getElem hlt))
      have hd : (ps.map (·.1)).drop j = x.1 :: (ps.map (·.1)).drop (j + 1) := by
       rw [List.drop_eq_getElem_cons (by simpa using hlt), ex]; simp
      have hmem : x.1 ∈ ps.map (·.1) := List.mem_map.2 ⟨x, List.mem_of_getElem? hx, rfl⟩; obtain ⟨l0, l1, l2⟩ := HLs.out x.1 hmem
      obtain ⟨b, rfl⟩ : ∃ b, va = some ⟨b, 0, none⟩ := by
       rcases hlo.outer.2 with ⟨e, h0⟩ | ⟨b, cap, cur, e, _⟩
       · omega
       · cases e; exact ⟨b, rfl⟩
      obtain ⟨b1, b2⟩ := hlo.outer.lt b rfl; have n1 := hlo.inner j x hx; obtain ⟨ua, uc, hu⟩ := own_sl n1; have c0 : wr.cell? ⟨b, j * 3, none⟩ = some (.int .i64 (x.1.num : Int)) := hF.cell b2 (by omega) ((hlo.outer.cellAt (j * 3) (by omega)).trans (lp_at ps j 0 x hx (by decide))); have c1 : wr.cell? ⟨b, j * 3 + 1, none⟩ = some (.bool x.1.bl) := hF.cell b2 (by omega) ((hlo.outer.cellAt (j * 3 + 1) (by omega)).trans (lp_at ps j 1 x hx (by decide))); have c2 : wr.cell? ⟨b, j * 3 + 2, none⟩ = some x.2 := hF.cell b2 (by omega) ((hlo.outer.cellAt (j * 3 + 2) (by omega)).trans (lp_at ps j 2 x hx (by decide)))
      have hub : ∀ b off k c, Value.slice ua x.1.ws.length uc = .slice (some ⟨b, off, none⟩) k c → b < w2.heap.size ∧ b ≠ g := by
       intro b off k c e; have := n1.lt b (by rw [hu, e]; rfl); omega
      rw [hu] at c2 n1; have hcr := hF.crow (CRow.of_owns n1) hub; have bA := (Below.refl _ wr).alloc (Nat.le_refl _) (.cells #[.int .i64 (x.1.num : Int), .bool x.1.bl, .slice ua x.1.ws.length uc] 64); have hFA : Frm w2.heap.size g wr _ := Frm.bel (g := g) bA hsz; have hFB := hF.trans hFA; have kA := blk_new wr #[.int .i64 (x.1.num : Int), .bool x.1.bl, .slice ua x.1.ws.length uc] 64
      have kC : (wr.alloc (.cells #[.int .i64 (x.1.num : Int), .bool x.1.bl, .slice ua x.1.ws.length uc] 64)).cell? ⟨wr.heap.size, 0, none⟩ = some (.int .i64 (x.1.num : Int)) := by
       rw [cell_of_row _ _ _ _ _ _ kA]; rfl
      have hrd := read_any w0 m v' (.slice ua x.1.ws.length uc) x.1.num x.1.bl x.1.ws w2.heap.size g p n 0 s _ (hl.below bA) (own_below hv bA) hFB.size (by omega) hg0 (hFB.below h02 hg0 (by omega)) HB.out.1 HB.out.2 (hcr.below bA) hub l0 l1 (by omega) HMR.out.1 HMR.out.2; have hLR := HL.out; rw [hd] at hLR; have hgw : wr.heap.size ≠ g := by omega
      have i1 : (0 : Int) ≤ (j : Int) := by omega
      have i2 : (j : Int) < (ps.length : Int) := by omega
      have h0w := fun W (hW : Frm w2.heap.size g _ W) => (hFB.trans hW).below h02 hg0 (by omega)
      have hFW := fun W (hW : Frm w2.heap.size g _ W) => hFB.trans hW
      cases hE : linF m x.1 with
      | inl c =>
        rw [lins_err hE] at hLR; have hrd2 := hE ▸ hrd; have HN := Nm.hide hLR; clear hLR HL hE hrd hd hx ex hmem hub hcr n1 hl hv hFA hFB hF hlo bA; go_wp2_with (go_at_call 77; refine hrd2.mono ?_; rintro e w3 ⟨hF3, rfl⟩; have k3 := hF3.lineCell kA hgw kC; have h03 := h0w w3 hF3; clear hF3 kC kA h0w hFW)
        go_region
        go_wp2; go_ret2; rw [HN.out]
        exact ⟨h03.drew, rfl⟩
      | inr m' =>
        rw [lins_ok hE] at hLR; have hrd2 := hE ▸ hrd; have HN := Nm.hide hLR; have HK := Nm.hide (lin_keep hE HB.out.1 HB.out.2); clear hLR HL hE hrd hd hx ex hmem hub hcr n1 hl hv hFA hFB hF hlo bA; go_wp2_with (go_at_call 77; refine hrd2.mono ?_; rintro e w3 ⟨hF3, rfl, v3, hl3, hv3⟩; have hF4 := hFW w3 hF3; clear hF3 kC kA h0w hFW)
        go_roundw
        case rel => exact ⟨j + 1, m', v3, by omega, by go_num, HN, HK, hl3, hv3, hF4⟩
        case measure => simp [intOf]; omega
    · have hjn : j = ps.length := by omega
      subst hjn
      have HN : Hid (R = .inr m) := by
       show _ = _
       rw [HL.out, List.drop_of_length_le (by simp)]; rfl
      obtain ⟨c4, c5, c6, c7, c8⟩ := ps_cells hl; have h03 := hF.below h02 hg0 (by omega); have hv2 := own_base hv (B' := w0.heap.size) h02.size; obtain ⟨xa, xc, rfl⟩ := own_sl hv; clear HL hlo hF hl hv; go_wp2; go_ret2; rw [HN.out]; exact ⟨h03, _, rfl, hv2⟩
/-- An end with nothing but an error. -/
def RcE (w0 : World) (z : Value) (e : Ending) (w' : World) : Prop := e = .returned (.tuple #[.slice none 0 0, z]) ∧ Below w0.heap.size w0 w'
set_option maxRecDepth 100000 in
set_option maxHeartbeats 1600000 in
theorem records_bad (w0 : World) (m : Ms) (v : Value) (g p n o : Nat) (s : ByteArray) (w : World) (h : Lx (psR m v) w g s p n o) (hg0 : w0.heap.size ≤ g) (h0 : Below w0.heap.size w0 w) (ho : m.org.size ≤ 1048576) (h1 : m.org.size ≠ 0) (h2 : (Nm.split m.org).isSome = false) :
 Calls Tryz.prog 32 #[.pointer (some ⟨g, 0, none⟩)] w (RcE w0 (codI 32)) := by
 have hgl := h.lt; obtain ⟨c4, c5, c6, c7, c8⟩ := ps_cells h; have hNO := fun W => implNameOK_any m.org W (by unfold maxLen; omega)
 rw [h2] at hNO; obtain ⟨q1, q2⟩ := not_empty (s := m.org) (by omega); clear h1 h2; go_enter Tryz.func32, Tryz.ntmps32; go_wp2_with (go_at_call 24; refine (hNO _).mono ?_; rintro e w1 ⟨rfl, hb1⟩; have h01 : Below w0.heap.size w0 w1 := (Frm.bel (B := w.heap.size) (g := g) hb1 (Nat.le_refl _)).below h0 hg0 hgl)
 go_ret2; exact ⟨rfl, h01⟩
set_option maxRecDepth 100000 in
set_option maxHeartbeats 1600000 in
theorem records_size (w0 : World) (m : Ms) (v : Value) (g p n o : Nat) (s : ByteArray) (w : World) (h : Lx (psR m v) w g s p n o) (hg0 : w0.heap.size ≤ g) (h0 : Below w0.heap.size w0 w) (ho : m.org.size ≤ 1048576) (hok : m.org.size = 0 ∨ (Nm.split m.org).isSome = true) (hs : 40000 < s.size) :
 Calls Tryz.prog 32 #[.pointer (some ⟨g, 0, none⟩)] w (RcE w0 (codE 11)) := by
 have hline : ∀ W, Lx (psR m v) W g s p n o → Below w0.heap.size w0 W → Calls Tryz.prog 76 #[.pointer (some ⟨g, 0, none⟩)] W fun e w' => e = .returned (.tuple #[.slice none 0 0, codE 11]) ∧ Below w0.heap.size w0 w' := by
  intro W hW hb; refine (lines_size g p n o s W hW hs).mono ?_; rintro e w' ⟨rfl, rfl⟩; exact ⟨rfl, hb⟩
 have hgl := h.lt; obtain ⟨c4, c5, c6, c7, c8⟩ := ps_cells h; have hNO := fun W => implNameOK_any m.org W (by unfold maxLen; omega)
 by_cases h1 : m.org.size = 0
 · obtain ⟨q1, q2⟩ := beq_empty h1; have hli := hline w h h0; clear h1 hok hNO hline; go_enter Tryz.func32, Tryz.ntmps32; go_wp2_with (go_at_call 76; refine hli.mono ?_; rintro e w2 ⟨rfl, h02⟩)
   go_ret2; exact ⟨rfl, h02⟩
 · obtain ⟨q1, q2⟩ := not_empty (s := m.org) (by omega); have hsp : (Nm.split m.org).isSome = true := by rcases hok with h | h; exact absurd h h1; exact h
   rw [hsp] at hNO; clear h1 hok hsp; go_enter Tryz.func32, Tryz.ntmps32; go_wp2_with (first | (go_at_call 24; refine (hNO _).mono ?_; rintro e w1 ⟨rfl, hb1⟩; have hli := hline w1 (h.below hb1) ((Frm.bel (B := w.heap.size) (g := g) hb1 (Nat.le_refl _)).below h0 hg0 hgl)) | (go_at_call 76; refine hli.mono ?_; rintro e w2 ⟨rfl, h02⟩))
   go_ret2; exact ⟨rfl, h02⟩
set_option maxRecDepth 100000 in
set_option maxHeartbeats 1600000 in
theorem records_lex (w0 : World) (m : Ms) (v : Value) (g c q : Nat) (s : ByteArray) (w : World) (h : Lx (psR m v) w g s 0 1 0) (hg0 : w0.heap.size ≤ g) (h0 : Below w0.heap.size w0 w) (ho : m.org.size ≤ 1048576) (hok : m.org.size = 0 ∨ (Nm.split m.org).isSome = true) (hs : s.size ≤ 40000) (hls : lsF s 0 1 [] = .inl (c, q)) :
 Calls Tryz.prog 32 #[.pointer (some ⟨g, 0, none⟩)] w (RcE w0 (linE q c)) := by
 have hline : ∀ W, Lx (psR m v) W g s 0 1 0 → Below w0.heap.size w0 W → Calls Tryz.prog 76 #[.pointer (some ⟨g, 0, none⟩)] W fun e w' => e = .returned (.tuple #[.slice none 0 0, linE q c]) ∧ Below w0.heap.size w0 w' := by
  intro W hW hb; have hgl := hW.lt; have hl := lines_any g s W hW hs; rw [hls] at hl; refine hl.mono ?_; rintro e w' ⟨hg, rfl⟩; exact ⟨rfl, (Frm.gr (B := W.heap.size) (g := g) hg (Nat.le_refl _)).below hb hg0 hgl⟩
 clear hls; have hgl := h.lt; obtain ⟨c4, c5, c6, c7, c8⟩ := ps_cells h; have hNO := fun W => implNameOK_any m.org W (by unfold maxLen; omega)
 by_cases h1 : m.org.size = 0
 · obtain ⟨q1, q2⟩ := beq_empty h1; have hli := hline w h h0; clear h1 hok hNO hline; go_enter Tryz.func32, Tryz.ntmps32; go_wp2_with (go_at_call 76; refine hli.mono ?_; rintro e w2 ⟨rfl, h02⟩)
   go_ret2; exact ⟨rfl, h02⟩
 · obtain ⟨q1, q2⟩ := not_empty (s := m.org) (by omega); have hsp : (Nm.split m.org).isSome = true := by rcases hok with h | h; exact absurd h h1; exact h
   rw [hsp] at hNO; clear h1 hok hsp; go_enter Tryz.func32, Tryz.ntmps32; go_wp2_with (first | (go_at_call 24; refine (hNO _).mono ?_; rintro e w1 ⟨rfl, hb1⟩; have hli := hline w1 (h.below hb1) ((Frm.bel (B := w.heap.size) (g := g) hb1 (Nat.le_refl _)).below h0 hg0 hgl)) | (go_at_call 76; refine hli.mono ?_; rintro e w2 ⟨rfl, h02⟩))
   go_ret2; exact ⟨rfl, h02⟩
set_option maxRecDepth 100000 in
set_option maxHeartbeats 1600000 in
theorem tell_codeI (c : Int) (w : World) (he : ErrT w) :
 Calls Tryz.prog 33 #[codI c] w fun e w' => e = .returned (.tuple #[.int .i64 c, .int .i64 0]) ∧ Below w.heap.size w w' := by
 have k1 := blk_new w #[.int .i64 0] 128; have e1 := he.alloc (.cells #[.int .i64 0] 128); have ha := as_cc c 0 w.heap.size _ e1 k1; have hlt := he.lt; go_enter Tryz.func33, Tryz.ntmps33; go_wp2_with fail
 go_at_call 78
 refine ha.mono ?_; rintro e w2 ⟨rfl, k2, g2⟩; have r2 : w2.cell? ⟨w.heap.size, 0, none⟩ = some (.int .i64 c) := blk_cell k2 0; have e2 := (e1.grown g2 (by omega)).alloc (.cells #[.int .i64 0, .nilIface] 133); have k3 := blk_new w2 #[.int .i64 0, .nilIface] 133; have hb := as_cl c _ _ w2.heap.size _ e2 k3; have g3 := gr_trans (gr_alloc (w := w) (g := w.heap.size) (.cells #[.int .i64 0] 128)) g2; have b3 := below_gr g3 (Nat.le_refl _); clear ha k1 e1 g2 e2 k3 g3 k2; go_wp2_with fail
 go_at_call 78
 refine hb.mono ?_; rintro e w4 ⟨rfl, k4, g4⟩; have b4 := below_gr (gr_trans (gr_alloc (w := w2) (g := w2.heap.size) (.cells #[.int .i64 0, .nilIface] 133)) g4) (Nat.le_refl _); go_wp2; refine bodyPost_ret (v := .tuple #[.int .i64 c, .int .i64 0]) ?_ rfl ⟨rfl, Nm.below_two b3 b4⟩; simp [results, Tryz.f33, go_sem]
set_option maxRecDepth 100000 in
set_option maxHeartbeats 1600000 in
theorem tell_lineI (q c : Int) (w : World) (he : ErrT w) :
 Calls Tryz.prog 33 #[.iface 133 (.agg #[.int .i64 q, codI c])] w fun e w' => e = .returned (.tuple #[.int .i64 c, .int .i64 q]) ∧ Below w.heap.size w w' := by
 have k1 := blk_new w #[.int .i64 0] 128; have e1 := he.alloc (.cells #[.int .i64 0] 128); have ha := as_lc q c 0 w.heap.size _ e1 k1; have hlt := he.lt; go_enter Tryz.func33, Tryz.ntmps33; go_wp2_with fail
 go_at_call 78
 refine ha.mono ?_; rintro e w2 ⟨rfl, k2, g2⟩; have r2 : w2.cell? ⟨w.heap.size, 0, none⟩ = some (.int .i64 c) := blk_cell k2 0; have e2 := (e1.grown g2 (by omega)).alloc (.cells #[.int .i64 0, .nilIface] 133); have k3 := blk_new w2 #[.int .i64 0, .nilIface] 133; have hb := as_ll q (.iface 128 (.int .i64 c)) _ _ rfl w2.heap.size _ e2 k3; have g3 := gr_trans (gr_alloc (w := w) (g := w.heap.size) (.cells #[.int .i64 0] 128)) g2; have b3 := below_gr g3 (Nat.le_refl _); clear ha k1 e1 g2 e2 k3 g3 k2; go_wp2_with fail
 go_at_call 78
 refine hb.mono ?_; rintro e w4 ⟨rfl, k4, g4⟩; have r4 : w4.cell? ⟨w2.heap.size, 0, none⟩ = some (.int .i64 q) := blk_cell k4 0; have b4 := below_gr (gr_trans (gr_alloc (w := w2) (g := w2.heap.size) (.cells #[.int .i64 0, .nilIface] 133)) g4) (Nat.le_refl _); go_wp2; refine bodyPost_ret (v := .tuple #[.int .i64 c, .int .i64 q]) ?_ rfl ⟨rfl, Nm.below_two b3 b4⟩; simp [results, Tryz.f33, go_sem]
/-- Records and an error, as ReadMaster will tell them. -/
def RaP (w0 : World) (r : List Rr × Int × Int) (e : Ending) (w' : World) : Prop :=
 ∃ v z, e = .returned (.tuple #[v, z]) ∧ Below w0.heap.size w0 w' ∧ w'.ownsRow w0.heap.size 80 5 v r.1.length (rvVs r.1) ∧
   ((z = .nilIface ∧ r.2 = (0, 0)) ∨ (∃ c : Int, z = codI c ∧ r.2 = (c, 0)) ∨ ∃ q c : Int, z = .iface 133 (.agg #[.int .i64 q, codI c]) ∧ r.2 = (c, q))
theorem records_all (w0 : World) (o : ByteArray) (g : Nat) (s : ByteArray) (w : World) (h : Lx (psR ⟨o, ⟨#[]⟩, -1, -1, []⟩ (.slice none 0 0)) w g s 0 1 0) (hg0 : w0.heap.size ≤ g) (h0 : Below w0.heap.size w0 w) (ho : o.size ≤ 1048576) (hc : ∀ c q, lsF s 0 1 [] = .inl (c, q) → c ≠ 0) (hM : ∀ W, Below w0.heap.size w0 W → MnemAt W) (hR : ∀ W, Below w0.heap.size w0 W → Reads W) :
 Calls Tryz.prog 32 #[.pointer (some ⟨g, 0, none⟩)] w (RaP w0 (masR s o)) := by
 by_cases hbad : o.size ≠ 0 ∧ (Nm.split o).isSome = false
 · have e : masR s o = ([], 32, 0) := by rw [masR, if_pos hbad]
   rw [e]; refine (records_bad w0 _ _ g 0 1 0 s w h hg0 h0 ho hbad.1 hbad.2).mono ?_; rintro e w' ⟨rfl, hb⟩; exact ⟨_, _, rfl, hb, World.ownsRow_nil _ _ _ _, .inr (.inl ⟨32, rfl, rfl⟩)⟩
 · have hok : o.size = 0 ∨ (Nm.split o).isSome = true := by
    by_cases h1 : o.size = 0
    · exact .inl h1
    · right
      cases h2 : (Nm.split o).isSome with
      | true => rfl
      | false => exact absurd ⟨h1, h2⟩ hbad
   by_cases hs : 40000 < s.size
   · have e : masR s o = ([], 11, 0) := by
      have e2 : lexR s = ⟨[], 11, 0⟩ := by rw [lexR, if_pos hs]
      rw [masR, if_neg hbad, e2, if_pos (by decide)]; rfl
     rw [e]; refine (records_size w0 _ _ g 0 1 0 s w h hg0 h0 ho hok hs).mono ?_; rintro e w' ⟨rfl, hb⟩; exact ⟨_, _, rfl, hb, World.ownsRow_nil _ _ _ _, .inr (.inl ⟨11, rfl, rfl⟩)⟩
   · cases hL : lsF s 0 1 [] with
     | inl x =>
       obtain ⟨c, q⟩ := x
       have e : masR s o = ([], (c : Int), (q : Int)) := by
        have e2 : lexR s = ⟨[], c, q⟩ := by rw [lexR, if_neg hs, hL]
        rw [masR, if_neg hbad, e2, if_pos (hc c q hL)]
       rw [e]; refine (records_lex w0 _ _ g c q s w h hg0 h0 ho hok (by omega) hL).mono ?_; rintro e w' ⟨rfl, hb⟩
       exact ⟨_, _, rfl, hb, World.ownsRow_nil _ _ _ _, .inr (.inr ⟨q, c, rfl, rfl⟩)⟩
     | inr ls =>
       have e : masR s o = match linsF ⟨o, ⟨#[]⟩, -1, -1, []⟩ ls with
        | .inl (c, q) => ([], c, (q : Int))
        | .inr m => (m.rs, 0, 0) := by
        have e2 : lexR s = ⟨ls, 0, 0⟩ := by rw [lexR, if_neg hs, hL]
        rw [masR, if_neg hbad, e2, if_neg (by simp)]
        dsimp only
        generalize linsF ⟨o, ⟨#[]⟩, -1, -1, []⟩ ls = X; cases X <;> rfl
       rw [e]; have hr := records_run w0 o ls g s w h hg0 h0 ho (by omega) hL hok hM hR
       cases hE : linsF ⟨o, ⟨#[]⟩, -1, -1, []⟩ ls with
       | inl x =>
         obtain ⟨c, q⟩ := x; rw [hE] at hr; refine hr.mono ?_; rintro e w' ⟨hb, rfl⟩
         exact ⟨_, _, rfl, hb, World.ownsRow_nil _ _ _ _, .inr (.inr ⟨q, c, rfl, rfl⟩)⟩
       | inr m =>
         rw [hE] at hr; refine hr.mono ?_; rintro e w' ⟨hb, v, rfl, hv⟩; exact ⟨_, _, rfl, hb, hv, .inl ⟨rfl, rfl⟩⟩
/-- What ReadMaster answers, as it lies. -/
def MasP (r : List Rr × Int × Int) (w : World) (e : Ending) (w' : World) : Prop :=
 ∃ v, e = .returned (.tuple #[v, .int .i64 r.2.1, .int .i64 r.2.2]) ∧ w'.ownsRow w.heap.size 80 5 v r.1.length (rvVs r.1) ∧ Below w.heap.size w w'
set_option maxRecDepth 100000 in
set_option maxHeartbeats 1600000 in
theorem implReadMaster_any (s o : ByteArray) (w : World) (he : ErrT w) (ho : o.size ≤ 1048576) (hc : ∀ c q, lsF s 0 1 [] = .inl (c, q) → c ≠ 0) (hM : ∀ W, Below w.heap.size w W → MnemAt W) (hR : ∀ W, Below w.heap.size w W → Reads W) :
 Calls Tryz.prog 11 #[.string s, .string o] w (MasP (masR s o) w) := by
 have hnl := newLexer_any s w; go_enter Tryz.func11, Tryz.ntmps11; go_wp2_with fail
 go_at_call 31
 refine hnl.mono ?_; rintro e w1 ⟨rfl, b1⟩; have hlx : Lx (psR ⟨o, ⟨#[]⟩, -1, -1, []⟩ (.slice none 0 0)) (w1.alloc (.cells #[.string s, .int .i64 0, .int .i64 1, .int .i64 0, .string o, .string ⟨#[]⟩, .int .i64 (-1), .int .i64 (-1), .slice none 0 0] 72)) w1.heap.size s 0 1 0 := blk_new w1 #[.string s, .int .i64 0, .int .i64 1, .int .i64 0, .string o, .string ⟨#[]⟩, .int .i64 (-1), .int .i64 (-1), .slice none 0 0] 72; have b2 := b1.alloc b1.size (.cells #[.string s, .int .i64 0, .int .i64 1, .int .i64 0, .string o, .string ⟨#[]⟩, .int .i64 (-1), .int .i64 (-1), .slice none 0 0] 72); have hra := records_all w o w1.heap.size s _ hlx b1.size b2 ho hc hM hR; generalize masR s o = R at *; obtain ⟨rs, co, q0⟩ := R; clear hnl hc hM hR hlx; go_wp2_with fail
 go_at_call 32
 refine hra.mono ?_; rintro e w3 ⟨v, z, rfl, b3, hv, hz⟩; have e3 := he.below b3; have hv2 := fun W (hW : Below w3.heap.size w3 W) => own_below hv hW
 obtain ⟨va, vc, rfl⟩ := own_sl hv; clear hra hv
 rcases hz with ⟨rfl, hz⟩ | ⟨c, rfl, hz⟩ | ⟨q, c, rfl, hz⟩
 · cases hz
   have hte := tell_nil w3; go_wp2_with (go_at_call 33; refine hte.mono ?_; rintro e w4 ⟨rfl, b4⟩)
   go_ret3; exact ⟨_, rfl, hv2 _ b4, Nm.below_two b3 b4⟩
 · cases hz
   have hte := tell_codeI co w3 e3; go_wp2_with (go_at_call 33; refine hte.mono ?_; rintro e w4 ⟨rfl, b4⟩)
   go_ret3; exact ⟨_, rfl, hv2 _ b4, Nm.below_two b3 b4⟩
 · cases hz
   have hte := tell_lineI q0 co w3 e3; go_wp2_with (go_at_call 33; refine hte.mono ?_; rintro e w4 ⟨rfl, b4⟩)
   go_ret3; exact ⟨_, rfl, hv2 _ b4, Nm.below_two b3 b4⟩
end Go.Proofs.YtddabafaejahbaaGreatDoor
