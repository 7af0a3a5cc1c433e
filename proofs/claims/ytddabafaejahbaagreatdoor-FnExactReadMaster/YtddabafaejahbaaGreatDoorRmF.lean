import Derived.Test.YtddabafaejahbaaGreatDoorJRmD
import Derived.Test.YtddabafaejahbaaGreatDoorJINbd
import Derived.Test.YtddabafaejahbaaGreatDoorRi2
import Derived.Deep.CutRange
/- (*parser).record by its contract: the owner. -/
namespace Go.Proofs.YtddabafaejahbaaGreatDoor
open Go.RowKit
set_option linter.unusedVariables false
/-- What lies below B is as it was, but for block g. -/
structure Frm (B g : Nat) (w w' : World) : Prop where
 os : w'.os = w.os
 tape : w'.tape = w.tape
 output : w'.output = w.output
 size : w.heap.size ≤ w'.heap.size
 block : ∀ k, k < B → k ≠ g → w'.heap[k]? = w.heap[k]?
 line : ∀ k cs c, w.heap[k]? = some (.cells cs 64 c) → k ≠ g → w'.heap[k]? = w.heap[k]?
theorem lt_some {w : World} {k : Nat} {x : Obj} (h : w.heap[k]? = some x) : k < w.heap.size := by
 rcases Nat.lt_or_ge k w.heap.size with h1 | h1
 · exact h1
 · rw [Array.getElem?_eq_none h1] at h; cases h
theorem own_noline {W : World} {B s m : Nat} {v : Value} {xs : List Value} (h : W.ownsRow B 80 s v m xs) {k : Nat} {cs : Array Value} {c : Nat × Nat} (hk : W.heap[k]? = some (.cells cs 64 c)) : v.ownBlock ≠ some k := by
 intro hv
 rcases h.2 with ⟨rfl, _⟩ | ⟨g2, cap2, cur2, rfl, _, hh, _⟩
 · cases hv
 · simp only [Value.ownBlock, Option.some.injEq] at hv; subst hv; rw [hh] at hk; simp only [Option.some.injEq, Obj.cells.injEq] at hk; exact absurd hk.2.1 (by decide)
theorem Frm.refl (B g : Nat) (w : World) : Frm B g w w := ⟨rfl, rfl, rfl, Nat.le_refl _, fun _ _ _ => rfl, fun _ _ _ _ _ => rfl⟩
theorem Frm.trans {B g : Nat} {w w1 w2 : World} (h : Frm B g w w1) (h2 : Frm B g w1 w2) : Frm B g w w2 :=
 ⟨h2.os.trans h.os, h2.tape.trans h.tape, h2.output.trans h.output, Nat.le_trans h.size h2.size, fun k hk hne => (h2.block k hk hne).trans (h.block k hk hne), fun k cs c hk hne => (h2.line k cs c ((h.line k cs c hk hne).trans hk) hne).trans (h.line k cs c hk hne)⟩
theorem Frm.gr {B g : Nat} {w w' : World} (h : w.grownBy w' (some g)) (hB : B ≤ w.heap.size) : Frm B g w w' :=
 ⟨h.os, h.tape, h.output, h.size, fun k hk hne => h.block k (by omega) (by simpa using hne), fun k cs c hk hne => h.block k (lt_some hk) (by simpa using hne)⟩
theorem Frm.bel {B g : Nat} {w w' : World} (h : Below w.heap.size w w') (hB : B ≤ w.heap.size) : Frm B g w w' :=
 ⟨h.os, h.tape, h.output, h.size, fun k hk _ => h.block k (by omega), fun k cs c hk _ => h.block k (lt_some hk)⟩
theorem Frm.below {B g : Nat} {w0 w w' : World} (h : Frm B g w w') (h0 : Below w0.heap.size w0 w) (hg : w0.heap.size ≤ g) (hB : g < B) : Below w0.heap.size w0 w' :=
 ⟨h.os.trans h0.os, h.tape.trans h0.tape, h.output.trans h0.output, Nat.le_trans h0.size h.size, fun k hk => (h.block k (by omega) (by omega)).trans (h0.block k hk)⟩
theorem Frm.crow {B g : Nat} {w w' : World} {u : Value} {k s : Nat} {cs : List Value} (h : Frm B g w w') (hu : CRow w u k s cs) (hub : ∀ b off k c, u = .slice (some ⟨b, off, none⟩) k c → b < B ∧ b ≠ g) : CRow w' u k s cs := by
 obtain ⟨h0, a, cap, rfl, h1, h2, h3⟩ := hu; refine ⟨h0, a, cap, rfl, h1, h2, fun hp => ?_⟩; obtain ⟨b, off, rfl, hc⟩ := h3 hp; obtain ⟨q1, q2⟩ := hub b off _ _ rfl; refine ⟨b, off, rfl, fun i x hx => ?_⟩; rw [World.cell?_of_block (w := w) (w' := w') (a := ⟨b, off + i, none⟩) (h.block b q1 q2)]; exact hc i x hx
/-- An error, or none and the parser as it is then, with its list. -/
def PsQ (B g : Nat) (s : ByteArray) (p n o : Nat) (w : World) (r : Sum Int Ms) (e : Ending) (w' : World) : Prop :=
 Frm B g w w' ∧ match r with
 | .inl c => e = .returned (codI c)
 | .inr m => e = .returned .nilIface ∧ ∃ v, Lx (psR m v) w' g s p n o ∧ w'.ownsRow B 80 5 v m.rs.length (rvVs m.rs)
theorem rec_own {m : Ms} {x : Wrd} {r : List Wrd} : recF m false (x :: r) = match nwF m x with
 | .inl c => .inl c
 | .inr m' => bodF m' r := by
 rw [recF, if_neg (by decide), nwF]; have hw : word1 (x :: r) 0 = x := rfl; rw [hw]
 by_cases h1 : x.2 = true
 · rw [if_pos h1, if_pos h1]
 · rw [if_neg h1, if_neg h1]
   by_cases h2 : (readS x.1 m.org).2 ≠ 0
   · rw [if_pos h2, if_pos h2]
   · rw [if_neg h2, if_neg h2]; rfl
theorem nw_keep {m m' : Ms} {x : Wrd} (h : nwF m x = .inr m') : m'.org = m.org ∧ m'.rs = m.rs := by
 unfold nwF at h
 split at h
 · cases h
 · split at h
   · cases h
   · cases h; exact ⟨rfl, rfl⟩
theorem Tryz.infoRm : (Tryz.prog.info? 80).map (fun i => (i.zero, i.size, i.bytes)) = some (some (.agg #[.string ByteArray.empty, .int .i64 0, .int .i64 0, .int .i64 0, .string ByteArray.empty]), 5, 56) := by kernel_rfl
theorem frF_tail : ∀ (ws : List Wrd) (t c t' c' : Option Nat) (r : List Wrd), frF ws t c = .inr (t', c', r) → r.length ≤ ws.length ∧ wsz r ≤ wsz ws := by
 intro ws
 induction ws with
 | nil => intro t c t' c' r h; rw [frF] at h; cases h; exact ⟨Nat.le_refl _, Nat.le_refl _⟩
 | cons x ws ih =>
   intro t c t' c' r h; rw [frF] at h
   split at h
   · cases h; exact ⟨Nat.le_refl _, Nat.le_refl _⟩
   · split at h
     · split at h
       · cases h
       · have := ih _ _ _ _ _ h; rw [wsz_cons]; exact ⟨by simp; omega, by omega⟩
     · cases hc : clsS x.1 with
       | none => rw [hc] at h; cases h; exact ⟨Nat.le_refl _, Nat.le_refl _⟩
       | some k =>
         rw [hc] at h; simp only at h
         split at h
         · cases h
         · have := ih _ _ _ _ _ h; rw [wsz_cons]; exact ⟨by simp; omega, by omega⟩
theorem tyF_cons {r : List Wrd} {ty : Int} (h : tyF r = .inr ty) : ∃ y q, r = y :: q := by
 cases r with
 | nil => cases h
 | cons y q => exact ⟨y, q, rfl⟩
theorem bod_own {m : Ms} {ws : List Wrd} (h : m.own.size = 0) : bodF m ws = .inl 17 := by rw [bodF, if_pos h]
theorem bod_front {m : Ms} {ws : List Wrd} {c : Int} (h : m.own.size ≠ 0) (hf : frF ws none none = .inl c) : bodF m ws = .inl c := by rw [bodF, if_neg h, hf]
theorem bod_type {m : Ms} {ws r : List Wrd} {t c : Option Nat} {e : Int} (h : m.own.size ≠ 0) (hf : frF ws none none = .inr (t, c, r)) (ht : tyF r = .inl e) : bodF m ws = .inl e := by rw [bodF, if_neg h, hf]; simp only; rw [ht]
theorem bod_rest {m : Ms} {ws r : List Wrd} {t c : Option Nat} {ty : Int} (h : m.own.size ≠ 0) (hf : frF ws none none = .inr (t, c, r)) (ht : tyF r = .inr ty) : bodF m ws = if c.isSome = true ∧ c ≠ some 1 then .inl 19
 else if timF m t = -1 then .inl 18
 else if (readDS ty r.tail m.org).2 ≠ 0 then .inl (readDS ty r.tail m.org).2
 else if 500 ≤ m.rs.length then .inl 12
 else .inr { laF m t with rs := m.rs ++ [⟨m.own, ty, 1, timF m t, (readDS ty r.tail m.org).1⟩] } := by rw [bodF, if_neg h, hf]; simp only; rw [ht]; rfl
set_option maxRecDepth 100000 in
set_option maxHeartbeats 4000000 in
theorem record_any (w0 : World) (m : Ms) (v u : Value) (num : Int) (bl : Bool) (ws : List Wrd) (B g p n o : Nat) (s : ByteArray) (w : World) (h : Lx (psR m v) w g s p n o) (hv : w.ownsRow B 80 5 v m.rs.length (rvVs m.rs)) (hB : B ≤ w.heap.size) (hg : g < B) (hg0 : w0.heap.size ≤ g) (hb0 : Below w0.heap.size w0 w) (ho : m.org.size ≤ 1048576) (hrs : m.rs.length ≤ 500) (hu : CRow w u ws.length 2 (wdVs ws)) (hub : ∀ b off k c, u = .slice (some ⟨b, off, none⟩) k c → b < B ∧ b ≠ g) (h0 : 0 < ws.length) (hn : ws.length ≤ 300) (hz : wsz ws ≤ 1000000) (hM : ∀ W, Below w0.heap.size w0 W → MnemAt W) (hR : ∀ W, Below w0.heap.size w0 W → Reads W) :
 Calls Tryz.prog 144 #[.pointer (some ⟨g, 0, none⟩), .agg #[.int .i64 num, .bool bl, u]] w (PsQ B g s p n o w (recF m bl ws)) := by
 obtain ⟨R, HR⟩ : ∃ R, Hid (R = recF m bl ws) := ⟨_, rfl⟩; rw [← HR.out]; have HU := Nm.hide hu; obtain ⟨_, a, cap, rfl, hcap, hmx, hc⟩ := hu; obtain ⟨b, off, rfl, hcell⟩ := hc h0; obtain ⟨hbB, hbg⟩ := hub b off _ _ rfl; have HCE := Nm.hide hcell; have HMM := Nm.hide hM; have HRR := Nm.hide hR; have hA := h.grown (b := none) (w' := w.alloc (.cells #[.int .i64 num, .bool bl, .slice (some ⟨b, off, none⟩) ws.length cap] 64)) ⟨rfl, rfl, rfl, by simp, fun k hk _ => heap_alloc_old _ _ hk⟩ (by simp); have hVA := hv.alloc (.cells #[.int .i64 num, .bool bl, .slice (some ⟨b, off, none⟩) ws.length cap] 64); have bA := (Below.refl w.heap.size w).alloc (Nat.le_refl _) (.cells #[.int .i64 num, .bool bl, .slice (some ⟨b, off, none⟩) ws.length cap] 64); clear hcell hc hmx hM hR; go_enter Tryz.func144, Tryz.ntmps144; go_upto_if 17 with fail
 go_cut [5] from 18 to 27 (fun q wx => ∃ (m' : Ms) (ws' : List Wrd) (b' off' cap' : Nat), q = .slice (some ⟨b', off', none⟩) ws'.length cap' ∧ Hid (R = bodF m' ws' ∧ b' < B ∧ b' ≠ g ∧ ws'.length ≤ 300 ∧ wsz ws' ≤ 1000000 ∧ m'.org.size ≤ 1048576 ∧ m'.rs.length ≤ 500) ∧ Hid (CRow wx q ws'.length 2 (wdVs ws')) ∧ Lx (psR m' v) wx g s p n o ∧ wx.ownsRow B 80 5 v m'.rs.length (rvVs m'.rs) ∧ Frm B g w wx)
 case first =>
  cases bl with
  | true =>
    have HE : Hid (R = bodF m ws) := by show _ = _; rw [HR.out, recF, if_pos rfl]
    have HU2 := Nm.hide (HU.out.below bA); clear HR HU HCE HMM HRR; go_wp2; go_meet
    case rel => exact ⟨m, ws, b, off, cap, rfl, ⟨HE.out, hbB, hbg, hn, hz, ho, hrs⟩, HU2, hA, hVA, Frm.bel bA hB⟩
  | false =>
    cases ws with
    | nil => simp at h0
    | cons x r =>
      have hr := rec_own (m := m) (x := x) (r := r); have c0 : w.cell? ⟨b, off, none⟩ = some (.string x.1) := HCE.out _ _ (wdVs_at (x :: r) 0 0 x rfl (by decide)); have c1 : w.cell? ⟨b, off + 1, none⟩ = some (.bool x.2) := HCE.out _ _ (wdVs_at (x :: r) 0 1 x rfl (by decide)); have d0 := fun O => (old_allocR (World.block_lt_of_cell? w _ c0) O off).1.trans c0
      have d1 := fun O => (old_allocR (World.block_lt_of_cell? w _ c1) O (off + 1)).1.trans c1
      have hnw := newOwner_any m v x g p n o s _ hA ho; have hzr : wsz r ≤ 1000000 := by rw [wsz_cons] at hz; omega
      have hFA : Frm B g w (w.alloc (.cells #[.int .i64 num, .bool false, .slice (some ⟨b, off, none⟩) (x :: r).length cap] 64)) := Frm.bel bA hB; have hBA : B ≤ (w.alloc (.cells #[.int .i64 num, .bool false, .slice (some ⟨b, off, none⟩) (x :: r).length cap] 64)).heap.size := by simp; omega
      cases hN : nwF m x with
      | inl c =>
        rw [hN] at hr hnw; have HN : Hid (R = .inl c) := by show _ = _; rw [HR.out, hr]
        simp only [List.length_cons] at *; generalize r.length = q at *; have n0 : (0 : Int) < (q : Int) + 1 := by omega
        clear hr hN HR HU HCE HMM HRR; go_wp2_with (go_at_call 188; refine hnw.mono ?_; rintro e w2 ⟨g2, rfl⟩)
        go_ret; rw [HN.out]
        exact ⟨hFA.trans (Frm.gr g2 hBA), rfl⟩
      | inr m' =>
        rw [hN] at hr hnw; have HE : Hid (R = bodF m' r) := by show _ = _; rw [HR.out, hr]
        obtain ⟨ko, kr⟩ := nw_keep hN; have HKO : Hid (m'.org = m.org ∧ m'.rs = m.rs) := ⟨ko, kr⟩; have HROW := Nm.hide (wd_tail HU.out); simp only [List.length_cons] at *; clear hr hN HR HU HCE HMM HRR ko kr; have HQ : Hid (r.length + 1 ≤ cap) := hcap; generalize hq : r.length = q at *; have HQQ := Nm.hide hq; have n0 : (0 : Int) < (q : Int) + 1 := by omega
        have n1 : (1 : Int) ≤ (q : Int) + 1 := by omega
        clear hq
        by_cases hc1 : cap = 1
        · have hq0 : q = 0 := by omega
          subst hc1 hq0; simp only [Nat.zero_add] at hnw hFA hBA hVA; go_wp2_with (go_at_call 188; refine hnw.mono ?_; rintro e w2 ⟨g2, rfl, hL2⟩)
          go_meet
          case rel =>
           have hF2 := hFA.trans (Frm.gr g2 hBA); refine ⟨m', r, b, off, 0, by rw [HQQ.out], ⟨HE.out, hbB, hbg, by rw [HQQ.out]; omega, hzr, by rw [HKO.out.1]; exact ho, by rw [HKO.out.2]; exact hrs⟩, ?_, hL2, by rw [HKO.out.2]; exact own_grL hVA g2 hg, hF2⟩; have := hF2.crow (HROW.out.2.2 (by first | trivial | rfl)) (fun b' off' k c e => by cases e; exact ⟨hbB, hbg⟩); rw [HQQ.out]; exact this
        · go_wp2_with (go_at_call 188; refine hnw.mono ?_; rintro e w2 ⟨g2, rfl, hL2⟩)
          go_meet
          case rel =>
           have hF2 := hFA.trans (Frm.gr g2 hBA); refine ⟨m', r, b, off + 2, cap - 1, by rw [HQQ.out], ⟨HE.out, hbB, hbg, by rw [HQQ.out]; omega, hzr, by rw [HKO.out.1]; exact ho, by rw [HKO.out.2]; exact hrs⟩, ?_, hL2, by rw [HKO.out.2]; exact own_grL hVA g2 hg, hF2⟩; have := hF2.crow HROW.out.2.1 (fun b' off' k c e => by cases e; exact ⟨hbB, hbg⟩); rw [HQQ.out]; exact this
 case rest =>
  obtain ⟨m', ws', b', off', cap', rfl, HF, HROW, hL, hV, hF⟩ := hcut; have hBc : B ≤ wc.heap.size := Nat.le_trans hB hF.size; have h0c := hF.below hb0 hg0 hg; obtain ⟨c4, c5, c6, c7, c8, cf⟩ := ps_cells hL; obtain ⟨R1, R2, R3, R4, R5, R6, R7⟩ := HF.out; have HR1 := Nm.hide R1; clear HF R1 HR HU HCE hA hVA bA
  by_cases hs : m'.own.size = 0
  · obtain ⟨q1, q2⟩ := beq_empty hs; have HN : Hid (R = .inl 17) := by show _ = _; rw [HR1.out, bod_own hs]
    clear HR1 HROW hs HMM HRR; go_wp2; go_ret; rw [HN.out]; exact ⟨hF, rfl⟩
  · obtain ⟨q1, q2⟩ := not_empty (s := m'.own) (by omega); have hrf := readFront_any _ ws' wc HROW.out R4 R5
    cases hfr : frF ws' none none with
    | inl c =>
      rw [hfr] at hrf; have HN : Hid (R = .inl c) := by show _ = _; rw [HR1.out, bod_front hs hfr]
      clear HR1 HROW hs HMM HRR hfr; go_wp2_with (go_at_call 189; refine hrf.mono ?_; rintro e w2 ⟨hb2, fx, fy, fa, fl, fm, rfl⟩)
      go_ret; rw [HN.out]
      exact ⟨hF.trans (Frm.bel (hb2.alloc hb2.size _) hBc), rfl⟩
    | inr tcr =>
      obtain ⟨t, c, r⟩ := tcr; rw [hfr] at hrf; obtain ⟨hrl, hrz⟩ := frF_tail _ _ _ _ _ _ hfr; go_wp2_with (go_at_call 189; refine hrf.mono ?_; rintro e w2 ⟨hb2, u2, rfl, hu2, hub2⟩; obtain ⟨_, ua, uc, rfl, _⟩ := id hu2)
      have HUB : Hid (∀ b off k c, Value.slice ua r.length uc = .slice (some ⟨b, off, none⟩) k c → b < B ∧ b ≠ g) := by
       intro b1 o1 k1 c1 e; obtain ⟨_, _, _, e2⟩ := hub2 b1 o1 k1 c1 e; cases e2
       exact ⟨R2, R3⟩
      clear hub2; have b3 := hb2.alloc hb2.size (.cells #[.int .i64 (optI t), .int .i64 (optI c)] 230); have k3 := blk_new w2 #[.int .i64 (optI t), .int .i64 (optI c)] 230; have hu3 := hu2.below ((Below.refl w2.heap.size w2).alloc (Nat.le_refl _) (.cells #[.int .i64 (optI t), .int .i64 (optI c)] 230)); have hL3 := hL.below b3; have hV3 := own_below hV b3; have hF3 := hF.trans (Frm.bel (g := g) b3 hBc); have h03 := hF3.below hb0 hg0 hg; have hg2 : g < w2.heap.size := Nat.lt_of_lt_of_le (Nat.lt_of_lt_of_le hg hBc) hb2.size; have hB3 : B ≤ (w2.alloc (.cells #[.int .i64 (optI t), .int .i64 (optI c)] 230)).heap.size := by have := hb2.size; simp; omega
      have HM3 := Nm.hide (HMM.out _ h03); clear b3 hu2 hrf hL hV hF h0c hb2 HROW hBc; generalize hF0 : w2.heap.size = f at *; generalize w2.alloc (.cells #[.int .i64 (optI t), .int .i64 (optI c)] 230) = W3 at *; clear hF0; have hot := readOwnType_any _ r W3 hu3 (by omega) HM3.out
      cases hty : tyF r with
      | inl e =>
        rw [hty] at hot; have HN : Hid (R = .inl e) := by show _ = _; rw [HR1.out, bod_type hs hfr hty]
        clear HR1 hs HMM HRR hfr hty; unfold tyV at hot; go_wp2_with (go_at_call 190; refine hot.mono ?_; rintro e w4 ⟨rfl, hb4⟩)
        go_ret; rw [HN.out]
        exact ⟨hF3.trans (Frm.bel hb4 hB3), rfl⟩
      | inr ty =>
        rw [hty] at hot; obtain ⟨y, q, rfl⟩ := tyF_cons hty
        have HR2 : Hid (R = if c.isSome = true ∧ c ≠ some 1 then .inl 19
         else if timF m' t = -1 then .inl 18
         else if (readDS ty q m'.org).2 ≠ 0 then .inl (readDS ty q m'.org).2
         else if 500 ≤ m'.rs.length then .inl 12
         else .inr { laF m' t with rs := m'.rs ++ [⟨m'.own, ty, 1, timF m' t, (readDS ty q m'.org).1⟩] }) := by show _ = _; rw [HR1.out, bod_rest hs hfr hty]; rfl
        clear HR1 hs hfr hty; unfold tyV at hot; go_upto_region 15 with (go_at_call 190; refine hot.mono ?_; rintro e w4 ⟨rfl, hb4⟩)
        have k4 := blk_below k3 hb4; have hL4 := hL3.below hb4; have hV4 := own_below hV3 hb4; have hF4 := hF3.trans (Frm.bel (g := g) hb4 hB3); have h04 := hF4.below hb0 hg0 hg; have hu4 := hu3.below hb4; have hB4 : B ≤ w4.heap.size := Nat.le_trans hB3 hb4.size; clear k3 hL3 hV3 hF3 h03 hu3 hB3 HM3 hot hb4; obtain ⟨cb, HCB⟩ : ∃ cb : Bool, Hid (cb = decide (c.isSome = true ∧ c ≠ some 1)) := ⟨_, rfl⟩; have f0 := (blk_cell k4 0).trans rfl; have f1 := (blk_cell k4 1).trans rfl; go_cut [58] from 51 to 58 (fun z wx => z = .bool cb ∧ wx = w4)
        case first =>
         cases c with
         | none =>
           have HE : Hid (cb = false) := by show _ = _; rw [HCB.out]; rfl
           have e1 : (optI none == -1) = true := rfl; clear HCB HR2 HMM HRR; go_wp2; go_meet
           case rel => rw [HE.out]; exact ⟨rfl, rfl⟩
         | some k =>
           have e1 : (optI (some k) == -1) = false := by rw [beq_eq_false_iff_ne]; exact optI_ne rfl
           by_cases hk : k = 1
           · have HE : Hid (cb = false) := by show _ = _; rw [HCB.out, hk]; rfl
             have e2 : (optI (some k) == 1) = true := by rw [hk]; rfl
             clear HCB HR2 HMM HRR hk; go_wp2; go_meet
             case rel => rw [HE.out]; exact ⟨by simp [bne, e1, e2], rfl⟩
           · have HE : Hid (cb = true) := by show _ = _; rw [HCB.out, decide_eq_true_eq]; exact ⟨rfl, by simpa using hk⟩
             have e2 : (optI (some k) == 1) = false := by rw [beq_eq_false_iff_ne, optI_some]; omega
             clear HCB HR2 HMM HRR hk; go_wp2; go_meet
             case rel => rw [HE.out]; exact ⟨by simp [bne, e1, e2], rfl⟩
        case rest =>
         obtain ⟨rfl, rfl⟩ := hcut
         cases cb with
         | true =>
           have HN : Hid (R = .inl 19) := by show _ = _; rw [HR2.out, if_pos (of_decide_eq_true HCB.out.symm)]
           clear HR2 HMM HRR HCB; go_wp2; go_ret; rw [HN.out]
           exact ⟨hF4, rfl⟩
         | false =>
           have HR3 : Hid (R = if timF m' t = -1 then .inl 18
            else if (readDS ty q m'.org).2 ≠ 0 then .inl (readDS ty q m'.org).2
            else if 500 ≤ m'.rs.length then .inl 12
            else .inr { laF m' t with rs := m'.rs ++ [⟨m'.own, ty, 1, timF m' t, (readDS ty q m'.org).1⟩] }) := by show _ = _; rw [HR2.out, if_neg (of_decide_eq_false HCB.out.symm)]
           clear HR2 HCB; have htm := timeOf_any m' v t c g p n o s _ hL4; have HLA : Hid ((laF m' t).org = m'.org ∧ (laF m' t).own = m'.own ∧ (laF m' t).rs = m'.rs) := ⟨rfl, rfl, rfl⟩; generalize hTM : timF m' t = TM at *
           by_cases hT1 : TM = -1
           · have HN : Hid (R = .inl 18) := by show _ = _; rw [HR3.out, if_pos hT1]
             have e1 : (TM == -1) = true := by rw [beq_iff_eq]; exact hT1
             clear HR3 HMM HRR hT1 hTM; go_wp2_with (go_at_call 191; refine htm.mono ?_; rintro e w5 ⟨rfl, hL5, g5⟩)
             go_ret; rw [HN.out]; exact ⟨hF4.trans (Frm.gr g5 hB4), rfl⟩
           · have HR4 : Hid (R = if (readDS ty q m'.org).2 ≠ 0 then .inl (readDS ty q m'.org).2
              else if 500 ≤ m'.rs.length then .inl 12
              else .inr { laF m' t with rs := m'.rs ++ [⟨m'.own, ty, 1, TM, (readDS ty q m'.org).1⟩] }) := by show _ = _; rw [HR3.out, if_neg hT1]
             have e1 : (TM == -1) = false := by rw [beq_eq_false_iff_ne]; exact hT1
             clear HR3 hT1 hTM; go_upto_region 20 with (go_at_call 191; refine htm.mono ?_; rintro e w5 ⟨rfl, hL5, g5⟩)
             have hV5 := own_grL hV4 g5 hg; have hF5 := hF4.trans (Frm.gr g5 hB4); have hu5 := (Frm.gr g5 hB4).crow hu4 HUB.out; have h05 := hF5.below hb0 hg0 hg; have hB5 : B ≤ w5.heap.size := Nat.le_trans hB4 g5.size; have o5 : w5.cell? ⟨g, 4, none⟩ = some (.string m'.org) := (ps_cells hL5).1; have h05d : Below w0.heap.size w0 w5.drew := h05.drew; have hRd := HRR.out _ h05d; have hMd := HMM.out _ h05d; obtain ⟨_, ua', uc', ea, _, _, hcu⟩ := id hu5; cases ea
             obtain ⟨b5, f5, rfl, _⟩ := hcu (by simp); have hqz : wsz q ≤ 1048576 := by rw [wsz_cons] at hrz; omega
             have hql : q.length ≤ 300 := by simp at hrl; omega
             simp only [List.length_cons] at hu5; obtain ⟨t1, t2, t3⟩ := wd_tail hu5; have hdr : Below w5.heap.size w5 w5.drew := (Below.refl _ w5).drew; have hrd2 := implReadData_any ty _ q m'.org _ (t2.below hdr) (by omega) hqz R6 hRd hMd; have hrd3 := fun h1 => implReadData_any ty _ q m'.org _ ((t3 h1).below hdr) (by omega) hqz R6 hRd hMd
             obtain ⟨D, hD⟩ : ∃ D, D = readDS ty q m'.org := ⟨_, rfl⟩; rw [← hD] at hrd2 hrd3; have HR5 : Hid (R = if D.2 ≠ 0 then .inl D.2 else if 500 ≤ m'.rs.length then .inl 12 else .inr { laF m' t with rs := m'.rs ++ [⟨m'.own, ty, 1, TM, D.1⟩] }) := by show _ = _; rw [HR4.out, hD]
             clear HR4 hD HMM HRR hRd hMd hu5 hcu t2 t3 hu4 HUB hL4 hV4 hF4 h04 htm k4 f0 f1; unfold strV at *; generalize q.length = ql at *; have n1 : (1 : Int) ≤ (ql : Int) + 1 := by omega
             go_cut [11, 12] from 66 to 76 (fun z1 z2 wx => z1 = .string D.1 ∧ z2 = .int .i64 D.2 ∧ Below w5.heap.size w5 wx)
             case first =>
              by_cases hc1 : uc = 1
              · have hq0 : ql = 0 := by omega
                subst hc1 hq0; have hrd := hrd3 rfl; clear hrd2 hrd3 HR5; refine wp_region_last (S := fun W => W.cell? ⟨g, 4, none⟩ = some (.string m'.org) ∧ True) (L := 1000) (by kernel_rfl) ⟨o5, trivial⟩ (fun hH => ?_); refine tkB 0 rfl ?_; refine tkB 1 rfl ?_; refine tkB 2 rfl ?_; refine tkB 3 rfl ?_; refine tkB 4 rfl ?_; refine tkB 5 rfl ?_; refine tkB 6 rfl ?_; refine wpAnyL_one (i := 7) (by kernel_rfl) rfl (fun KQ hK' => ?_); go_simp; refine hrd.mono ?_; rintro e w6 ⟨rfl, hb6⟩; have hb6' : Below w5.heap.size w5 w6 := hdr.trans hb6; have o6 : w6.cell? ⟨g, 4, none⟩ = some (.string m'.org) := (hb6'.cell (World.block_lt_of_cell? w5 _ o5)).trans o5; clear hb6; go_wp2_with fail
                refine hK'.out _ _ ⟨o6, trivial⟩ (fun hH => ?_); clear hK' KQ; refine tkB 8 rfl ?_; refine tkB 9 rfl ?_; refine tkB 10 rfl ?_; refine tkB 11 rfl ?_; refine tkB 12 rfl ?_; refine wpAnyL_done (by kernel_rfl) ?_; clear hH; go_wp2_with fail
                go_meet
                case rel => exact ⟨rfl, rfl, hb6'⟩
              · have hrd := hrd2; clear hrd2 hrd3 HR5; refine wp_region_last (S := fun W => W.cell? ⟨g, 4, none⟩ = some (.string m'.org) ∧ True) (L := 1000) (by kernel_rfl) ⟨o5, trivial⟩ (fun hH => ?_); refine tkB 0 rfl ?_; refine tkB 1 rfl ?_; refine tkB 2 rfl ?_; refine tkB 3 rfl ?_; refine tkB 4 rfl ?_; refine tkB 5 rfl ?_; refine tkB 6 rfl ?_; refine wpAnyL_one (i := 7) (by kernel_rfl) rfl (fun KQ hK' => ?_); go_simp; refine hrd.mono ?_; rintro e w6 ⟨rfl, hb6⟩; have hb6' : Below w5.heap.size w5 w6 := hdr.trans hb6; have o6 : w6.cell? ⟨g, 4, none⟩ = some (.string m'.org) := (hb6'.cell (World.block_lt_of_cell? w5 _ o5)).trans o5; clear hb6; go_wp2_with fail
                refine hK'.out _ _ ⟨o6, trivial⟩ (fun hH => ?_); clear hK' KQ; refine tkB 8 rfl ?_; refine tkB 9 rfl ?_; refine tkB 10 rfl ?_; refine tkB 11 rfl ?_; refine tkB 12 rfl ?_; refine wpAnyL_done (by kernel_rfl) ?_; clear hH; go_wp2_with fail
                go_meet
                case rel => exact ⟨rfl, rfl, hb6'⟩
             case rest =>
              obtain ⟨rfl, rfl, hb6⟩ := hcut; have hL6 := hL5.below hb6; have hV6 := own_below hV5 hb6; have hF6 := hF5.trans (Frm.bel (g := g) hb6 hB5); have hB6 : B ≤ wc.heap.size := Nat.le_trans hB5 hb6.size; clear hrd2 hrd3 hL5 hV5 hF5 h05 h05d hdr o5 hB5 hb6 g5 hB4
              by_cases hD0 : D.2 = 0
              · have HR6 : Hid (R = if 500 ≤ m'.rs.length then .inl 12 else .inr { laF m' t with rs := m'.rs ++ [⟨m'.own, ty, 1, TM, D.1⟩] }) := by show _ = _; rw [HR5.out, if_neg (by simpa using hD0)]
                have d0 : (D.2 == 0) = true := by simpa using hD0
                obtain ⟨va, vc, rfl⟩ := own_sl hV6; obtain ⟨c4', c5', c6', c7', c8', cf'⟩ := ps_cells hL6; have r5 : wc.cell? ⟨g, 5, none⟩ = some (.string m'.own) := c5'; clear HR5 hD0 c4' c5' c6' c7'
                by_cases h5 : 500 ≤ m'.rs.length
                · have HN : Hid (R = .inl 12) := by show _ = _; rw [HR6.out, if_pos h5]
                  have e5 : m'.rs.length = 500 := by omega
                  have HN2 := HN; have i5 : ((m'.rs.length : Int) == 500) = true := by rw [e5]; rfl
                  clear HR6 h5 e5; generalize m'.rs.length = rl at *; go_wp2; go_ret; rw [HN.out]; exact ⟨hF6, rfl⟩
                · have HN : Hid (R = .inr { laF m' t with rs := m'.rs ++ [⟨m'.own, ty, 1, TM, D.1⟩] }) := by show _ = _; rw [HR6.out, if_neg h5]
                  have i5 : ((m'.rs.length : Int) == 500) = false := by rw [beq_eq_false_iff_ne]; omega
                  obtain ⟨i0, hi, hz0, hz1, hz2⟩ := info_parts Tryz.infoRm; clear HR6; go_upto_region 25 with fail
                  have hgw := hL6.lt; have a8 := fun O => (old_allocR hgw O 8).1.trans c8'
                  have a5 := fun O => (old_allocR hgw O 5).1.trans r5
                  refine wp_region_last (S := fun W => W.cell? ⟨g, 8, none⟩ = some (.slice va m'.rs.length vc) ∧ W.cell? ⟨g, 5, none⟩ = some (.string m'.own)) (L := 17) (by kernel_rfl) ⟨c8', r5⟩ (fun hH => ?_); refine tkB 0 rfl ?_; refine tkB 1 rfl ?_; refine tkB 2 rfl ?_; refine tkB 3 rfl ?_; refine tkB 4 rfl ?_; refine tkB 5 rfl ?_; refine tkB 6 rfl ?_; refine tkB 7 rfl ?_; refine tkB 8 rfl ?_; refine tkB 9 rfl ?_; refine tkB 10 rfl ?_; refine tkB 11 rfl ?_; refine tkB 12 rfl ?_; refine wpAnyL_one (i := 13) (by kernel_rfl) rfl (fun KQ hK' => ?_); go_simp; refine hK'.out _ _ ⟨a8 _, a5 _⟩ (fun hH => ?_); clear hK' KQ; have hVn := own_below (hV6.alloc (.cells #[.string m'.own, .int .i64 ty, .int .i64 1, .int .i64 TM, .string D.1] 80)) (Below.refl _ _).drew; have hLn : Lx (psR (laF m' t) (.slice va m'.rs.length vc)) (wc.alloc (.cells #[.string m'.own, .int .i64 ty, .int .i64 1, .int .i64 TM, .string D.1] 80)).drew g s p n o := hL6.below ((Below.refl _ wc).alloc (Nat.le_refl _) _).drew; have hFn := hF6.trans (Frm.bel (g := g) ((Below.refl _ wc).alloc (Nat.le_refl _) (.cells #[.string m'.own, .int .i64 ty, .int .i64 1, .int .i64 TM, .string D.1] 80)).drew hB6); have kn := blk_new wc #[.string m'.own, .int .i64 ty, .int .i64 1, .int .i64 TM, .string D.1] 80; refine wpAnyL_one (i := 14) (by kernel_rfl) rfl (fun KQ hK' => ?_); refine step_append_own rfl (.tmp 92) (.tmp 101) 30 rfl B 80 i0 (.agg #[.string ByteArray.empty, .int .i64 0, .int .i64 0, .int .i64 0, .string ByteArray.empty]) 5 56 Tryz.underlying30 hi hz0 hz1 hz2 rfl (by decide) _ _ _ (by go_simp) hVn ⟨wc.heap.size, 0, none⟩ 1 1 [.string m'.own, .int .i64 ty, .int .i64 1, .int .i64 TM, .string D.1] (by go_simp) rfl (fun j z hz => by rw [Nm.addr_add, Nat.zero_add]; exact (blk_cell kn j).trans (by simpa using hz)) (by intro z hz; simp at hz; rcases hz with rfl | rfl | rfl | rfl | rfl <;> rfl) (by unfold maxLen; omega) (by omega) (by simp [World.drew]; omega) ?_; intro v' w7 hown7 hgrow7 _; have hL7 := hLn.row hVn hgrow7 hg; have hF7 : Frm B g w w7 := hFn.trans ⟨hgrow7.os, hgrow7.tape, hgrow7.output, hgrow7.size, fun k hk _ => hgrow7.block k (by simp [World.drew]; omega) (fun e => by have := (hVn.lt k e.symm).1; omega), fun k cs c hk _ => hgrow7.block k (lt_some hk) (fun e => own_noline hVn hk e.symm)⟩; obtain ⟨xa, xc, rfl⟩ := own_sl hown7; obtain ⟨_, e5', _, _, e8', ef'⟩ := ps_cells hL7; have r5' : w7.cell? ⟨g, 5, none⟩ = some (.string m'.own) := e5'; have f8 := ef' 8; have hL8 := ps_rs hL7 (.slice xa (m'.rs.length + 1) xc) (m'.rs ++ [⟨m'.own, ty, 1, TM, D.1⟩]); have hV8 := own_far_lt (g := g) (i := 8) (y := .slice xa (m'.rs.length + 1) xc) hown7 hg; have hF8 := hF7.trans (Frm.gr (gr_set w7 g 8 (.slice xa (m'.rs.length + 1) xc)) (Nat.le_trans hB hF7.size))
                  have HV8 : Hid ((w7.setCell ⟨g, 8, none⟩ (.slice xa (m'.rs.length + 1) xc)).ownsRow B 80 5 (.slice xa (m'.rs.length + 1) xc) (m'.rs ++ [(⟨m'.own, ty, 1, TM, D.1⟩ : Rr)]).length (rvVs (m'.rs ++ [(⟨m'.own, ty, 1, TM, D.1⟩ : Rr)]))) := by
                   show World.ownsRow _ _ _ _ _ _ _
                   rw [List.length_append]; have e : rvVs (m'.rs ++ [⟨m'.own, ty, 1, TM, D.1⟩]) = rvVs m'.rs ++ [.string m'.own, .int .i64 ty, .int .i64 1, .int .i64 TM, .string D.1] := by simp [rvVs, rvV]
                   rw [e]; exact hV8
                  clear hVn hLn hFn kn hown7 hgrow7 hV8 hL6 hV6 hF6; refine hK'.out _ _ ⟨e8', r5'⟩ (fun hH => ?_); clear hK' KQ; refine wpAnyL_one (i := 15) (by kernel_rfl) rfl (fun KQ hK' => ?_); go_simp; refine hK'.out _ _ ⟨e8', r5'⟩ (fun hH => ?_); clear hK' KQ; refine tkB 16 rfl ?_; refine wpAnyL_end (by kernel_rfl) rfl (by kernel_rfl) (fun KQ hK' => ?_); go_simp; refine hK'.out _ _ ?_; clear hK' KQ; go_wp2; go_ret; rw [HN.out]; exact ⟨hF8, rfl, _, hL8, HV8.out⟩
              · have HN : Hid (R = .inl D.2) := by show _ = _; rw [HR5.out, if_pos hD0]
                have d0 : (D.2 == 0) = false := by simpa using hD0
                clear HR5 hD0; go_wp2; go_ret; rw [HN.out]; exact ⟨hF6, rfl⟩
end Go.Proofs.YtddabafaejahbaaGreatDoor
