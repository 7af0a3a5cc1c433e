import Derived.Test.YtihhchebcojplaaJDrK
import Derived.Test.YtihhchebcojplaaJMath
import Derived.Test.YtihhchebcojplaaJDataM
import Derived.Test.YtihhchebcojplaaRows
import Derived.RegionTactic
import Derived.BigRegion
import Derived.Test.YtihhchebcojplaaJParts
import Derived.Laws.OwnMore
/- spec.l04Bend by its contract: some bytes, in a row of its own. -/
namespace Go.Proofs.Ytihhchebcojplaa
open Go.RowKit
set_option linter.unusedVariables false

theorem next_big {x N : Int} (hx : 0 ≤ x) (h1 : 1 ≤ N) (h2 : N ≤ 1073741824) : 0 ≤ wrap64 (x.tmod N) ∧ wrap64 (x.tmod N) < N := by
  have a1 : 0 ≤ x.tmod N := Int.tmod_nonneg N hx
  have a2 : x.tmod N < N := Int.tmod_lt_of_pos x (by omega)
  rw [IntWalk.wrap64_in (x.tmod N) ⟨by omega, by omega⟩]
  exact ⟨a1, a2⟩

set_option maxRecDepth 100000 in
set_option maxHeartbeats 800000 in
theorem l01Next_big (g : Nat) (a : Option Addr) (n cap : Nat) (N : Int) (w : World) (h : Src w g a n cap) (hN : N ≤ 1073741824) :
    Calls Try.prog 12 #[.pointer (some ⟨g, 0, none⟩), .int .i64 N] w fun e w' => ∃ r : Int, e = .returned (.int .i64 r) ∧ 0 ≤ r ∧ (0 < N → r < N) ∧ Src w' g a n cap ∧ w.grownBy w' (some g) := by
  obtain ⟨pos, st, hb, hp0, hpn, hn, hcode⟩ := h
  by_cases hN0 : N ≤ 0
  · go_enter Try.func12, Try.ntmps12
    go_wp2
    go_ret
    exact ⟨0, rfl, by omega, by omega, ⟨pos, st, hb, hp0, hpn, hn, hcode⟩, World.grownBy.refl _ _⟩
  · have c0 : w.cell? ⟨g, 0, none⟩ = some (.slice a n cap) := by rw [cell_of_row _ _ _ _ _ _ hb]; rfl
    have c1 : w.cell? ⟨g, 1, none⟩ = some (.int .i64 pos) := by rw [cell_of_row _ _ _ _ _ _ hb]; rfl
    have c2 : w.cell? ⟨g, 2, none⟩ = some (.int .u64 st) := by rw [cell_of_row _ _ _ _ _ _ hb]; rfl
    have f0 := frozen_of_row w g 0 _ _ hb
    have f1 := frozen_of_row w g 1 _ _ hb
    have f2 := frozen_of_row w g 2 _ _ hb
    have hN1 : 1 ≤ N := by omega
    by_cases hlt : pos < n
    · obtain ⟨b, off, rfl, hbg, hcell⟩ := hcode.resolve_left (by omega)
      obtain ⟨k, rfl⟩ := Int.eq_ofNat_of_zero_le hp0
      obtain ⟨c, hc, hc0, hc1⟩ := hcell k (by omega)
      have HS := fun s2 => Nm.hide (src_two hb hn hcode s2 ((k : Int) + 1) (by omega) (by omega))
      clear hb hcode
      go_enter Try.func12, Try.ntmps12
      go_wp2
      go_region
      go_wp2
      go_region
      go_wp2
      go_ret
      have B := next_big (N := N) (bits_nn .xor (IntKind.u64.wrap (IntKind.u64.wrap (st * 6364136223846793005) + 1442695040888963407) / 8589934592) c) hN1 hN
      exact ⟨_, rfl, B.1, fun _ => B.2, (HS _).out.1, grown_drewS (grown_drewS (HS _).out.2)⟩
    · have HS := fun s2 => Nm.hide (src_one hb hp0 hpn hn hcode s2)
      have hge : (n : Int) ≤ pos := by omega
      clear hb hcode
      go_enter Try.func12, Try.ntmps12
      go_wp2
      go_region
      go_wp2
      go_ret
      have B := next_big (N := N) (x := IntKind.u64.wrap (IntKind.u64.wrap (st * 6364136223846793005) + 1442695040888963407) / 8589934592) (Int.ediv_nonneg (u64_nn _) (by decide)) hN1 hN
      exact ⟨_, rfl, B.1, fun _ => B.2, (HS _).out.1, grown_drewS (HS _).out.2⟩

theorem own_pre {w : World} {B e g n cap k : Nat} {xs : List Value} (h : w.ownsRow B e 1 (.slice (some ⟨g, 0, none⟩) n cap) n xs) (hk : k ≤ n) : w.ownsRow B e 1 (.slice (some ⟨g, 0, none⟩) k cap) k (xs.take k) := by
  obtain ⟨h1, h2⟩ := h
  refine ⟨by simp; omega, ?_⟩
  rcases h2 with ⟨h', _⟩ | ⟨g', cap', cur, h', hb, hg, hnc, hcm, hcs, htake⟩
  · simp at h'
  · simp only [Value.slice.injEq, Option.some.injEq, Addr.mk.injEq, and_true, true_and] at h'
    obtain ⟨rfl, rfl⟩ := h'
    refine .inr ⟨g, cap, cur, rfl, hb, hg, by omega, hcm, hcs, ?_⟩
    rw [← htake, List.take_take]
    congr 1
    omega

theorem own_form {w : World} {B e n : Nat} {v : Value} {xs : List Value} (h : w.ownsRow B e 1 v n xs) (hn : 0 < n) : ∃ g cap, v = .slice (some ⟨g, 0, none⟩) n cap := by
  rcases h.2 with ⟨_, h'⟩ | ⟨g', cap', cur, h', _⟩
  · omega
  · exact ⟨_, _, h'⟩

theorem own_cap {w : World} {B e g n cap : Nat} {xs : List Value} (h : w.ownsRow B e 1 (.slice (some ⟨g, 0, none⟩) n cap) n xs) : n ≤ cap ∧ cap ≤ maxLen := by
  rcases h.2 with ⟨h', _⟩ | ⟨g', cap', cur, h', hb, hg, hnc, hcm, hcs, htake⟩
  · simp at h'
  · simp only [Value.slice.injEq, Option.some.injEq, Addr.mk.injEq, and_true, true_and] at h'
    obtain ⟨rfl, rfl⟩ := h'
    exact ⟨hnc, hcm⟩

theorem bys_take (l : List UInt8) (k : Nat) : (Nm.bys l).take k = Nm.bys (l.take k) := by simp [Nm.bys, List.map_take]
theorem bys_setD (l : List UInt8) (k : Nat) (c : UInt8) : (Nm.bys l).set k (.int .u8 (c.toNat : Int)) = Nm.bys (l.set k c) := by simp [Nm.bys, List.map_set]
theorem bys_at (l : List UInt8) (k : Nat) (h : k < l.length) : (Nm.bys l)[k]? = some (.int .u8 (l[k].toNat : Int)) := by simp [Nm.bys, h]

set_option maxRecDepth 100000 in
set_option maxHeartbeats 1600000 in
theorem l04Bend_any (g : Nat) (a : Option Addr) (n cap B bg cp : Nat) (L : List UInt8) (w : World) (h : Src w g a n cap) (hb : w.ownsRow B 5 1 (.slice (some ⟨bg, 0, none⟩) L.length cp) L.length (Nm.bys L)) (h12 : 12 ≤ L.length) (hL : L.length ≤ 50000000) :
    Calls Try.prog 13 #[.pointer (some ⟨g, 0, none⟩), .slice (some ⟨bg, 0, none⟩) L.length cp] w fun e w' => ∃ (v : Value) (M : List UInt8), e = .returned v ∧ w'.ownsRow w.heap.size 5 1 v M.length (Nm.bys M) ∧ M.length ≤ 50000001 ∧ (∃ o c, v = .slice (some o) M.length c) ∧ Src w' g a n cap ∧ w.grownBy w' (some g) := by
  obtain ⟨j0, hj, k0, k1, k2⟩ := info_parts Try.infoU8d
  have hcd := src_code h
  go_enter Try.func13, Try.ntmps13
  go_wp2
  go_loopw [5, 6] (fun v i wr => ∃ (k : Nat), k ≤ L.length ∧ i = .int .i64 k ∧ wr.ownsRow w.heap.size 5 1 v k (Nm.bys (L.take k)) ∧ Src wr g a n cap ∧ w.grownBy wr (some g))
    (fun _ i _ => L.length - (intOf i).toNat)
  case atStart => exact ⟨0, Nat.zero_le _, rfl, World.ownsRow_made w #[] 0 (Nat.le_refl _) (by decide) rfl, src_below h ((Below.refl _ _).alloc (Nat.le_refl _) _), grown_alloc (World.grownBy.refl _ _) _⟩
  case round =>
    obtain ⟨k, hk, rfl, hown, hsrc, hgr⟩ := hrel
    have hsz := hgr.size
    have hbr := hb.kept hgr (row_src hb h (by decide))
    clear h hb
    by_cases hlt : k < L.length
    · have hc := (hbr.cellAt k (by omega)).trans (bys_at L k hlt)
      obtain ⟨c, hce⟩ : ∃ c, c = L[k] := ⟨_, rfl⟩
      have htk : L.take (k + 1) = L.take k ++ [c] := by rw [hce]; exact List.take_succ_eq_append_getElem hlt
      rw [← hce] at hc
      clear hce
      go_wp2_with (at_builtin; refine wpList_append_own _ rfl (.tmp 15) (.tmp 20) 22 rfl w.heap.size 5 j0 (.int .u8 0) 1 1 Try.underlying22 hj k0 k1 k2 rfl (by decide) _ _ _ rfl (hown.alloc _) ⟨wr.heap.size, 0, none⟩ 1 1 [.int .u8 (c.toNat : Int)] rfl rfl (cell_one_new _ _ _) (Nm.one_cell _ rfl) (by unfold maxLen; omega) (by omega) (by simp; omega) ?_; intro vb wb hown4 hgrow4 hnl4; clear hnl4; have hrow : ∀ q, Value.ownBlock _ = some q → w.heap.size ≤ q := fun q hq => (hown.lt q hq).1; have hs4 := src_grown (src_below hsrc ((Below.refl _ _).alloc (Nat.le_refl _) _)) hgrow4 hrow hcd.2 hcd.1; have hg4 := grown_own (grown_alloc hgr _) hgrow4 hrow; rw [Nm.bys_mark, ← Nm.bys_append, ← htk] at hown4; clear hgrow4 hown)
      go_roundw
      case rel => exact ⟨k + 1, by omega, by go_num, hown4, hs4, hg4⟩
      case measure => simp [intOf]; omega
    · obtain rfl : k = L.length := by omega
      rw [List.take_length] at hown
      obtain ⟨og, oc, rfl⟩ := own_form hown (by omega)
      obtain ⟨hnc, hcm⟩ := own_cap hown
      have hgo : g ≠ og := by
        rcases row_src hown hsrc (by decide) with e | e
        · simp [Value.ownBlock] at e
        · intro e2; subst e2; exact e rfl
      have hbo : w.heap.size ≤ og := (hown.lt og rfl).1
      clear hbr hlt hk
      have hp : ¬ ((L.length : Int) = 0) := by omega
      go_wp2_with fail
      refine (l01Next_big g a n cap (L.length : Int) _ hsrc (by omega)).mono ?_
      rintro e w1 ⟨p, rfl, hp0, hp1, hs1, hg1⟩
      have hp2 := hp1 (by omega)
      obtain ⟨p, rfl⟩ := Int.eq_ofNat_of_zero_le hp0
      have hown1 := hown.kept hg1 (row_src hown hsrc (by decide))
      have hgr1 := grown_step hgr hg1
      clear hown hsrc hgr hg1 hp1 hp0
      go_wp2_with fail
      refine (l01Next_any g a n cap 5 _ hs1 (by decide)).mono ?_
      rintro e w2 ⟨r, rfl, hr0, hr1, hs2, hg2⟩
      have hr2 := hr1 (by decide)
      have hown2 := hown1.kept hg2 (row_src hown1 hs1 (by decide))
      have hgr2 := grown_step hgr1 hg2
      clear hown1 hs1 hgr1 hg2 hr1
      rcases (by omega : r = 0 ∨ r = 1 ∨ r = 2 ∨ r = 3 ∨ r = 4) with rfl | rfl | rfl | rfl | rfl
      · have hown3 := own_pre (k := p) hown2 (by omega)
        rw [bys_take] at hown3
        have hpl : (L.take p).length = p := by simp; omega
        go_wp2
        go_ret
        exact ⟨_, L.take p, rfl, by rw [hpl]; exact hown3, by omega, by rw [hpl]; exact ⟨_, _, rfl⟩, hs2, hgr2⟩
      · go_wp2_with (first | (
          go_at_call 12
          refine (l01Next_any g a n cap 256 _ hs2 (by decide)).mono ?_
          rintro e w3 ⟨q, rfl, hq0, hq1, hs3, hg3⟩
          have hq2 := hq1 (by decide)
          have hown3 := hown2.kept hg3 (row_src hown2 hs2 (by decide))
          have hgr3 := grown_step hgr2 hg3
          have hsz3 := hgr3.size
          obtain ⟨c, hc⟩ := byte_of_int hq0 hq2
          subst hc
          clear hown2 hs2 hgr2 hg3 hq1) | (at_builtin; refine wpList_append_own _ rfl (.tmp 39) (.tmp 43) 22 rfl w.heap.size 5 j0 (.int .u8 0) 1 1 Try.underlying22 hj k0 k1 k2 rfl (by decide) _ _ _ rfl (hown3.alloc _) ⟨w3.heap.size, 0, none⟩ 1 1 [.int .u8 (c.toNat : Int)] rfl rfl (cell_one_new _ _ _) (Nm.one_cell _ rfl) (by unfold maxLen; omega) (by omega) (by simp; omega) ?_; intro vb wb hown4 hgrow4 hnl4; clear hnl4; have hrow : ∀ q, Value.ownBlock _ = some q → w.heap.size ≤ q := fun q hq => (hown3.lt q hq).1; have hs4 := src_grown (src_below hs3 ((Below.refl _ _).alloc (Nat.le_refl _) _)) hgrow4 hrow hcd.2 hcd.1; have hg4 := grown_own (grown_alloc hgr3 _) hgrow4 hrow; rw [Nm.bys_mark, ← Nm.bys_append] at hown4; clear hgrow4 hown3))
        go_ret
        obtain ⟨o5, c5, rfl⟩ := own_form hown4 (by omega)
        have hsl : (L ++ [c]).length = L.length + 1 := by simp
        exact ⟨_, L ++ [c], rfl, by rw [hsl]; exact hown4, by omega, by rw [hsl]; exact ⟨_, _, rfl⟩, hs4, hg4⟩
      · go_wp2_with (
          go_at_call 12
          refine (l01Next_any g a n cap 256 _ hs2 (by decide)).mono ?_
          rintro e w3 ⟨q, rfl, hq0, hq1, hs3, hg3⟩
          have hq2 := hq1 (by decide)
          have hown3 := hown2.kept hg3 (row_src hown2 hs2 (by decide))
          have hgr3 := grown_step hgr2 hg3
          obtain ⟨c, hc⟩ := byte_of_int (r := q) (by omega) (by omega)
          have hsto := hown3.stored p (.int .u8 (c.toNat : Int))
          rw [bys_setD] at hsto
          have hcl := (hown3.cellAt p (by omega)).trans (bys_at L p (by omega))
          have hfz := hown3.frozenAt p
          subst hc
          clear hown2 hown3 hs2 hgr2 hg3 hq1)
        go_ret
        have hsl : (L.set p c).length = L.length := by simp
        exact ⟨_, L.set p c, rfl, by rw [hsl]; exact hsto.1, by omega, by rw [hsl]; exact ⟨_, _, rfl⟩, src_grown (w0 := w) hs3 hsto.2 (fun k hk => by cases hk; exact hbo) hcd.2 hcd.1, grown_own hgr3 hsto.2 (fun k hk => by cases hk; exact hbo)⟩
      · go_wp2_with fail
        refine (l01Next_any g a n cap 2 _ hs2 (by decide)).mono ?_
        rintro e w3 ⟨q, rfl, hq0, hq1, hs3, hg3⟩
        have hq2 := hq1 (by decide)
        have hown3 := hown2.kept hg3 (row_src hown2 hs2 (by decide))
        have hgr3 := grown_step hgr2 hg3
        have hcl := (hown3.cellAt p (by omega)).trans (bys_at L p (by omega))
        have hfz := hown3.frozenAt p
        clear hown2 hs2 hgr2 hg3 hq1
        rcases (by omega : q = 0 ∨ q = 1) with rfl | rfl
        · have hsto := hown3.stored p (.int .u8 ((192 : UInt8).toNat : Int))
          rw [bys_setD] at hsto
          go_wp2
          go_ret
          have hsl : (L.set p 192).length = L.length := by simp
          exact ⟨_, L.set p 192, rfl, by rw [hsl]; exact hsto.1, by omega, by rw [hsl]; exact ⟨_, _, rfl⟩, src_grown (w0 := w) hs3 hsto.2 (fun k hk => by cases hk; exact hbo) hcd.2 hcd.1, grown_own hgr3 hsto.2 (fun k hk => by cases hk; exact hbo)⟩
        · have hsto := hown3.stored p (.int .u8 ((193 : UInt8).toNat : Int))
          rw [bys_setD] at hsto
          go_wp2
          go_ret
          have hsl : (L.set p 193).length = L.length := by simp
          exact ⟨_, L.set p 193, rfl, by rw [hsl]; exact hsto.1, by omega, by rw [hsl]; exact ⟨_, _, rfl⟩, src_grown (w0 := w) hs3 hsto.2 (fun k hk => by cases hk; exact hbo) hcd.2 hcd.1, grown_own hgr3 hsto.2 (fun k hk => by cases hk; exact hbo)⟩
      · have hgt : (11 : Int) < (L.length : Int) := by omega
        go_wp2_with fail
        refine (l01Next_any g a n cap 8 _ hs2 (by decide)).mono ?_
        rintro e w5 ⟨t, rfl, ht0, ht1, hs5, hg5⟩
        have ht2 := ht1 (by decide)
        obtain ⟨t, rfl⟩ := Int.eq_ofNat_of_zero_le ht0
        have hown5 := hown2.kept hg5 (row_src hown2 hs2 (by decide))
        have hgr5 := grown_step hgr2 hg5
        clear hown2 hs2 hgr2 hg5 ht1 ht0
        go_wp2_with fail
        refine (l01Next_any g a n cap 4 _ hs5 (by decide)).mono ?_
        rintro e w3 ⟨q, rfl, hq0, hq1, hs3, hg3⟩
        have hq2 := hq1 (by decide)
        have hown3 := hown5.kept hg3 (row_src hown5 hs5 (by decide))
        have hgr3 := grown_step hgr5 hg3
        obtain ⟨c, hc⟩ := byte_of_int (r := q) (by omega) (by omega)
        subst hc
        have hsto := hown3.stored (4 + t) (.int .u8 (c.toNat : Int))
        rw [bys_setD] at hsto
        have hcl := (hown3.cellAt (4 + t) (by omega)).trans (bys_at L (4 + t) (by omega))
        have hfz := hown3.frozenAt (4 + t)
        clear hown5 hown3 hs5 hgr5 hg3 hq1
        go_wp2
        go_ret
        have hsl : (L.set (4 + t) c).length = L.length := by simp
        exact ⟨_, L.set (4 + t) c, rfl, by rw [hsl]; exact hsto.1, by omega, by rw [hsl]; exact ⟨_, _, rfl⟩, src_grown (w0 := w) hs3 hsto.2 (fun k hk => by cases hk; exact hbo) hcd.2 hcd.1, grown_own hgr3 hsto.2 (fun k hk => by cases hk; exact hbo)⟩
end Go.Proofs.Ytihhchebcojplaa
/- spec.l04Name by its contract. -/
namespace Go.Proofs.Ytihhchebcojplaa
open Go.RowKit
set_option linter.unusedVariables false

theorem Try.infoPl : (Try.prog.info? 122).map (fun i => (i.zero, i.size, i.bytes)) = some (some (.agg #[.string ByteArray.empty, .int .i64 0]), 2, 24) := by kernel_rfl

theorem idx0 (s : ByteArray) (h : 0 < s.size) (W : World) : (Instr.index 9 (.string s) (.int .i64 0)).run Try.prog W = .ok (.int .u8 (s[0].toNat : Int)) W := by
  have := byte_in s 0 h W
  simpa using this

set_option maxRecDepth 100000 in
set_option maxHeartbeats 3200000 in
theorem l04Name_any (s : ByteArray) (ls0 : List ByteArray) (hs : Nm.split s = some ls0) (g B : Nat) (bs : List UInt8) (pls : List (ByteArray × Nat)) (vb vp : Value) (w : World) (h : SW w g B bs pls vb vp) (hB : B ≤ w.heap.size) (hl : bs.length + 256 ≤ 50000000) (hok : PlOK pls bs.length) :
    Calls Try.prog 45 #[.pointer (some ⟨g, 0, none⟩), .string s] w fun e w' => e = .returned (.tuple #[]) ∧ ∃ vb' vp', SW w' g B (nmW ls0 bs pls).1 (nmW ls0 bs pls).2 vb' vp' ∧ Bk B w w' := by
  obtain ⟨i0, hi, hz0, hz1, hz2⟩ := info_parts Try.infoPl
  have hsz := Nm.split_size hs
  have hxs := (Nm.split_join hs).2
  obtain rfl := nmB_split hs
  generalize hRES : nmW ls0 bs pls = RES
  have hbd : bs.length + Nm.wsum ls0 + 1 ≤ 50000000 := by omega
  clear hsz hs hl
  go_enter Try.func45, Try.ntmps45
  go_wp2
  go_loopw [1] (fun nv wr => ∃ (ls : List ByteArray) (bs' : List UInt8) (pls' : List (ByteArray × Nat)) (vb' vp' : Value), nv = .string (nmB ls) ∧ SW wr g B bs' pls' vb' vp' ∧ B ≤ wr.heap.size ∧ Bk B w wr ∧ PlOK pls' bs'.length ∧ (∀ x ∈ ls, 1 ≤ x.size ∧ x.size ≤ 63) ∧ bs'.length + Nm.wsum ls + 1 ≤ 50000000 ∧ Hid (nmW ls bs' pls' = RES)) (fun nv _ => match nv with | .string t => t.size | _ => 0)
  case atStart => exact ⟨ls0, bs, pls, vb, vp, rfl, h, hB, Bk.refl _ _, hok, hxs, hbd, hRES⟩
  case round =>
    obtain ⟨ls, bs', pls', vb', vp', rfl, hS, hBw, hbel, hok', hxs', hbd', HR⟩ := hrel
    clear h hB hok hxs hbd hRES
    cases ls with
    | nil =>
      have e1 := nmB_nil
      obtain rfl : (bs' ++ [0], pls') = RES := HR.out
      clear HR
      have hcall := fun W (h : SW W g B bs' pls' vb' vp') (hB : B ≤ W.heap.size) => l04Text_any (nmB []) g B bs' pls' vb' vp' W h hB (by rw [nmB_size]; simp [Nm.wsum] at hbd' ⊢; omega)
      rw [show (nmB []).data.toList = [0] from nmB_data []] at hcall
      generalize nmB [] = N0 at *
      go_wp2_with (go_at_call 21; refine (hcall wr hS hBw).mono ?_; rintro e w5 ⟨rfl, vb5, hS5, hb5⟩)
      refine bodyPost_end (v := .tuple #[]) ?_ rfl ⟨rfl, ⟨vb5, vp', hS5⟩, hbel.trans hb5⟩
      simp [results, Try.results45, go_sem]
    | cons l ls =>
      obtain ⟨x1, x2⟩ := hxs' l (List.mem_cons_self ..)
      have e1 := nmB_ne l ls x1
      have hws : Nm.wsum (l :: ls) = 1 + l.size + Nm.wsum ls := by simp [Nm.wsum]
      have hnz := nmB_size (l :: ls)
      have hse := l04Seen_any (nmB (l :: ls)) g B bs' pls' vb' vp' wr hS (by have := hok'.1; omega)
      obtain ⟨s1, s2⟩ := seenS_lt hok' (nmB (l :: ls))
      by_cases hsn : 0 ≤ seenS pls' (nmB (l :: ls))
      · obtain ⟨q, hq⟩ : ∃ q : Nat, seenS pls' (nmB (l :: ls)) = (q : Int) := ⟨_, (Int.toNat_of_nonneg hsn).symm⟩
        have HE : (bs' ++ put2 (49152 + q), pls') = RES := by
          rw [← HR.out, nmW, if_pos hsn, hq, Int.toNat_natCast]
        clear HR
        subst HE
        rw [hq] at hse
        have hq2 : (q : Int) ≤ 16383 := by omega
        have hq0 : (0 : Int) ≤ (q : Int) := by omega
        have hput : ∀ W, Calls Try.prog 44 #[.int .i64 (49152 + (q : Int)), .int .i64 2] W fun e w' => e = .returned (.string ⟨(put2 (49152 + q)).toArray⟩) ∧ Below W.heap.size W w' := by
          intro W
          have := l02Put2_any (49152 + q) W (by omega)
          rw [Int.natCast_add] at this
          exact this
        have hcall := fun W (h : SW W g B bs' pls' vb' vp') (hB : B ≤ W.heap.size) => l04Text_any ⟨(put2 (49152 + q)).toArray⟩ g B bs' pls' vb' vp' W h hB (by show bs'.length + (put2 _).toArray.size ≤ _; simp [put2]; omega)
        have HP : (ByteArray.mk (put2 (49152 + q)).toArray).data.toList = put2 (49152 + q) := by simp
        rw [HP] at hcall
        clear HP s1 s2 hsn hq hxs'
        generalize (ByteArray.mk (put2 (49152 + q)).toArray) = PB at *
        generalize nmB (l :: ls) = NB at *
        go_wp2_with first
          | (go_at_call 68; refine hse.mono ?_; rintro e wr ⟨rfl, rfl⟩)
          | (go_at_call 44; refine (hput _).mono ?_; rintro e w5 ⟨rfl, hb5⟩)
          | (go_at_call 21; refine (hcall _ (hS.below hb5) (Nat.le_trans hBw hb5.size)).mono ?_; rintro e w6 ⟨rfl, vb6, hS6, hb6⟩)
        refine bodyPost_ret (v := .tuple #[]) ?_ rfl ⟨rfl, ⟨vb6, vp', hS6⟩, hbel.trans ((Bk.of hb5 hBw).trans hb6)⟩
        simp [results, Try.results45, go_sem]
      · have HR2 : Hid (nmW ls (bs' ++ (UInt8.ofNat l.size :: l.data.toList)) (if bs'.length ≤ 16383 then pls' ++ [(nmB (l :: ls), bs'.length)] else pls') = RES) := by
          have := HR.out
          rw [nmW, if_neg hsn] at this
          exact this
        have hq : seenS pls' (nmB (l :: ls)) = -1 := by omega
        rw [hq] at hse
        have hn0 : 0 < (nmB (l :: ls)).size := by omega
        have hidx := fun W => idx0 (nmB (l :: ls)) hn0 W
        rw [nmB_0 l ls x2 hn0] at hidx
        have htx := fun pl vp2 W (h : SW W g B bs' pl vb' vp2) (hB : B ≤ W.heap.size) => l04Text_any ((nmB (l :: ls)).extract 0 (l.size + 1)) g B bs' pl vb' vp2 W h hB (by rw [ByteArray.size_extract]; omega)
        rw [nmB_pre l ls] at htx
        have hrest := nmB_rest l ls
        have hnz' : ((nmB (l :: ls)).size : Int) = 1 + l.size + Nm.wsum ls + 1 := by rw [hnz, hws]; omega
        have hxs2 : ∀ x ∈ ls, 1 ≤ x.size ∧ x.size ≤ 63 := fun x hx => hxs' x (List.mem_cons_of_mem _ hx)
        have hgt : ¬ (nmB ls).size ≥ (nmB (l :: ls)).size := by rw [hnz, hws, nmB_size]; omega
        clear HR hsn hq s1 s2 hxs' hn0
        generalize nmB (l :: ls) = NB at *
        have hcr : (l.size : Int) + 1 ≤ (NB.size : Int) := by omega
        clear hnz hnz'
        obtain ⟨xa, ya, hv⟩ := own_sl hS.rb
        obtain ⟨xp, yp, hvp⟩ := own_sl hS.rp
        subst hv hvp
        have c0 : wr.cell? ⟨g, 0, none⟩ = some (.slice xa bs'.length ya) := (blk_cell hS.blk 0).trans rfl
        have c1 : wr.cell? ⟨g, 1, none⟩ = some (.slice xp pls'.length yp) := (blk_cell hS.blk 1).trans rfl
        by_cases hsh : bs'.length ≤ 16383
        · rw [if_pos hsh] at HR2
          have hsh' : (bs'.length : Int) ≤ 16383 := by omega
          have hok2 := (hok'.put (p := (NB, bs'.length)) hsh).mono (m := (bs' ++ (UInt8.ofNat l.size :: l.data.toList)).length) (by simp)
          go_wp2_with (go_at_call 68; refine hse.mono ?_; rintro e wr ⟨rfl, rfl⟩)
          refine wp_region_last (fun W => W.cell? ⟨g, 0, none⟩ = some (.slice xa bs'.length ya) ∧ W.cell? ⟨g, 1, none⟩ = some (.slice xp pls'.length yp)) 16 (by kernel_rfl) ⟨c0, c1⟩ (fun hHeld => ?_)
          refine wpAnyL_take (i := 0) (v := ?_) rfl (by kernel_rfl) (by kernel_rfl) (by kernel_rfl) (by kernel_rfl) (fun _ _ _ h => h) (Or.inl ⟨by rfl, ?_⟩) (by assumption) ?_
          rotate_left 1
          · (rintro w ⟨hSw1, hSw2⟩; go_simp; try (with_reducible rfl))
          refine wpAnyL_take (i := 1) (v := ?_) rfl (by kernel_rfl) (by kernel_rfl) (by kernel_rfl) (by kernel_rfl) (fun _ _ _ h => h) (Or.inl ⟨by rfl, ?_⟩) (by assumption) ?_
          rotate_left 1
          · (rintro w ⟨hSw1, hSw2⟩; go_simp; try (with_reducible rfl))
          refine wpAnyL_take (i := 2) (v := ?_) rfl (by kernel_rfl) (by kernel_rfl) (by kernel_rfl) (by kernel_rfl) (fun _ _ _ h => h) (Or.inl ⟨by rfl, ?_⟩) (by assumption) ?_
          rotate_left 1
          · (rintro w ⟨hSw1, hSw2⟩; go_simp; try (with_reducible rfl))
          refine wpAnyL_take (i := 3) (v := ?_) rfl (by kernel_rfl) (by kernel_rfl) (by kernel_rfl) (by kernel_rfl) (fun _ _ _ h => h) (Or.inl ⟨by rfl, ?_⟩) (by assumption) ?_
          rotate_left 1
          · (rintro w ⟨hSw1, hSw2⟩; go_simp; try (with_reducible rfl))
          refine wpAnyL_take (i := 4) (v := ?_) rfl (by kernel_rfl) (by kernel_rfl) (by kernel_rfl) (by kernel_rfl) (fun _ _ _ h => h) (Or.inl ⟨by rfl, ?_⟩) (by assumption) ?_
          rotate_left 1
          · (rintro w ⟨hSw1, hSw2⟩; go_simp; try (with_reducible rfl))
          refine wpAnyL_take (i := 5) (v := ?_) rfl (by kernel_rfl) (by kernel_rfl) (by kernel_rfl) (by kernel_rfl) (fun _ _ _ h => h) (Or.inl ⟨by rfl, ?_⟩) (by assumption) ?_
          rotate_left 1
          · (rintro w ⟨hSw1, hSw2⟩; go_simp; try (with_reducible rfl))
          refine wpAnyL_take (i := 6) (v := ?_) rfl (by kernel_rfl) (by kernel_rfl) (by kernel_rfl) (by kernel_rfl) (fun _ _ _ h => h) (Or.inl ⟨by rfl, ?_⟩) (by assumption) ?_
          rotate_left 1
          · (rintro w ⟨hSw1, hSw2⟩; go_simp; try (with_reducible rfl))
          refine wpAnyL_take (i := 7) (v := ?_) rfl (by kernel_rfl) (by kernel_rfl) (by kernel_rfl) (by kernel_rfl) (fun _ _ _ h => h) (Or.inl ⟨by rfl, ?_⟩) (by assumption) ?_
          rotate_left 1
          · (rintro w ⟨hSw1, hSw2⟩; go_simp; try (with_reducible rfl))
          refine wpAnyL_take (i := 8) (v := ?_) rfl (by kernel_rfl) (by kernel_rfl) (by kernel_rfl) (by kernel_rfl) (fun _ _ _ h => h) (Or.inl ⟨by rfl, ?_⟩) (by assumption) ?_
          rotate_left 1
          · (rintro w ⟨hSw1, hSw2⟩; go_simp; try (with_reducible rfl))
          refine wpAnyL_take (i := 9) (v := ?_) rfl (by kernel_rfl) (by kernel_rfl) (by kernel_rfl) (by kernel_rfl) (fun _ _ _ h => h) (Or.inl ⟨by rfl, ?_⟩) (by assumption) ?_
          rotate_left 1
          · (rintro w ⟨hSw1, hSw2⟩; go_simp; try (with_reducible rfl))
          refine wpAnyL_take (i := 10) (v := ?_) rfl (by kernel_rfl) (by kernel_rfl) (by kernel_rfl) (by kernel_rfl) (fun _ _ _ h => h) (Or.inl ⟨by rfl, ?_⟩) (by assumption) ?_
          rotate_left 1
          · (rintro w ⟨hSw1, hSw2⟩; go_simp; try (with_reducible rfl))
          refine wpAnyL_take (i := 11) (v := ?_) rfl (by kernel_rfl) (by kernel_rfl) (by kernel_rfl) (by kernel_rfl) (fun _ _ _ h => h) (Or.inl ⟨by rfl, ?_⟩) (by assumption) ?_
          rotate_left 1
          · (rintro w ⟨hSw1, hSw2⟩; go_simp; try (with_reducible rfl))
          have hSd : SW wr.drew g B bs' pls' (.slice xa bs'.length ya) (.slice xp pls'.length yp) := hS.below (Below.refl _ _).drew
          have hSa := hSd.below ((Below.refl _ _).alloc (Nat.le_refl _) (.cells #[.string NB, .int .i64 bs'.length] 122))
          refine wpAnyL_one (i := 12) (by kernel_rfl) rfl (fun K hK => ?_)
          go_simp
          refine hK.out _ _ ⟨(blk_cell hSa.blk 0).trans rfl, (blk_cell hSa.blk 1).trans rfl⟩ (fun hH2 => ?_)
          clear hK K
          refine wpAnyL_one (i := 13) (by kernel_rfl) rfl (fun K hK => ?_)
          have hba := hSa.rp
          refine step_append_own rfl (.tmp 28) (.tmp 36) 56 rfl B 122 i0 _ 2 24 Try.underlying56 hi hz0 hz1 hz2 rfl (by decide) (.slice xp pls'.length yp) pls'.length (plVs pls') (by rfl) hba ⟨wr.drew.heap.size, 0, none⟩ 1 1 [.string NB, .int .i64 bs'.length] (by rfl) rfl (cell_newW _ _ _) (by intro u hu; simp at hu; rcases hu with rfl | rfl <;> rfl) (by have := hok'.1; unfold maxLen; omega) (by have := hok'.1; omega) (by simp; omega) ?_
          intro va wa hown9 hgrow9 hnl9
          clear hnl9
          obtain ⟨xb, yb, hvb⟩ := own_sl hown9
          have hblk9 : Blk wa g #[.slice xa bs'.length ya, .slice xp pls'.length yp] 58 := blk_grown hSa.blk hgrow9 (fun e => own_blk hba hSa.blk (by decide) e)
          have hrb9 := own_beside hSa.rb hgrow9 (own_kinds hSa.rb hba (by decide))
          have b9 : Bk B w wa := (hbel.trans (Bk.of ((Below.refl wr.heap.size wr).drew.alloc (Nat.le_refl _) _) hBw)).app hba hgrow9 (by simp; omega) (.inr rfl)
          have c9 : wa.cell? ⟨g, 0, none⟩ = some (.slice xa bs'.length ya) := (blk_cell hblk9 0).trans rfl
          have d9 : wa.cell? ⟨g, 1, none⟩ = some (.slice xp pls'.length yp) := (blk_cell hblk9 1).trans rfl
          have f9 := blk_frozen hblk9 1
          rw [hvb]
          refine hK.out _ _ ⟨c9, d9⟩ (fun hH3 => ?_)
          clear hK K
          refine wpAnyL_one (i := 14) (by kernel_rfl) rfl (fun K hK => ?_)
          go_simp
          refine hK.out _ _ ⟨c9, d9⟩ (fun hH4 => ?_)
          clear hK K
          refine wpAnyL_take (i := 15) (v := ?_) rfl (by kernel_rfl) (by kernel_rfl) (by kernel_rfl) (by kernel_rfl) (fun _ _ _ h => h) (Or.inl ⟨by rfl, ?_⟩) (by assumption) ?_
          rotate_left 1
          · (rintro w ⟨hSw1, hSw2⟩; go_simp; try (with_reducible rfl))
          refine wpAnyL_end (by kernel_rfl) rfl (by kernel_rfl) (fun K hK => ?_)
          go_simp
          refine hK.out _ _ ?_
          clear hK K
          rw [hvb] at hown9
          have hS10 : SW (wa.setCell ⟨g, 1, none⟩ (.slice xb (pls'.length + 1) yb)) g B bs' (pls' ++ [(NB, bs'.length)]) (.slice xa bs'.length ya) (.slice xb (pls'.length + 1) yb) := ⟨blk_set hblk9 1 _, own_far hrb9 (own_blk hrb9 hblk9 (by decide)), by rw [plVs_app, List.length_append]; exact own_far hown9 (own_blk hown9 hblk9 (by decide)), hS.bg⟩
          have b10 : Bk B w (wa.setCell ⟨g, 1, none⟩ (.slice xb (pls'.length + 1) yb)) := b9.set hblk9 hS.bg _ _
          have hB10 : B ≤ (wa.setCell ⟨g, 1, none⟩ (.slice xb (pls'.length + 1) yb)).heap.size := by have := blk_lt hblk9; have := hS.bg; simp; omega
          generalize wa.setCell ⟨g, 1, none⟩ (.slice xb (pls'.length + 1) yb) = W10 at *
          clear hown9 hgrow9 hblk9 hrb9 b9 c9 f9 d9 hba hSa hSd hS c0 c1 hse hH2 hH3 hH4 hHeld
          have htx2 := htx _ _ W10 hS10 hB10
          clear htx hok'
          go_wp2_with (go_at_call 21; refine htx2.mono ?_; rintro e w6 ⟨rfl, vb6, hS6, hb6⟩)
          go_roundw
          case rel => exact ⟨ls, _, _, vb6, _, rfl, hS6, Nat.le_trans hB10 hb6.be.size, b10.trans hb6, hok2, hxs2, by simp; omega, HR2⟩
          case measure => simp; omega
        · rw [if_neg hsh] at HR2
          have hsh' : (16383 : Int) < (bs'.length : Int) := by omega
          have hok2 := hok'.mono (m := (bs' ++ (UInt8.ofNat l.size :: l.data.toList)).length) (by simp)
          have htx2 := htx _ _ wr hS hBw
          clear htx hok'
          go_wp2_with first
            | (go_at_call 68; refine hse.mono ?_; rintro e wr ⟨rfl, rfl⟩)
            | (go_at_call 21; refine htx2.mono ?_; rintro e w6 ⟨rfl, vb6, hS6, hb6⟩)
          go_roundw
          case rel => exact ⟨ls, _, _, vb6, _, rfl, hS6, Nat.le_trans hBw hb6.be.size, hbel.trans hb6, hok2, hxs2, by simp; omega, HR2⟩
          case measure => simp; omega
end Go.Proofs.Ytihhchebcojplaa
/- spec.l04Question by its contract. -/
namespace Go.Proofs.Ytihhchebcojplaa
open Go.RowKit
set_option linter.unusedVariables false

def quW (ls : List ByteArray) (ty cl : Nat) (bs : List UInt8) (pls : List (ByteArray × Nat)) : Wst := ((nmW ls bs pls).1 ++ (put2 ty ++ put2 cl), (nmW ls bs pls).2)

/-- The writer and a box beside it. -/
def SWB (w W : World) (g B : Nat) (bs : List UInt8) (pls : List (ByteArray × Nat)) (vb vp : Value) (b : Nat) (cs : Array Value) (T : TypeId) : Prop := (SW W g B bs pls vb vp ∧ B ≤ W.heap.size ∧ Bk B w W) ∧ Blk W b cs T
theorem SWB.below {w W W1 : World} {g B b : Nat} {bs : List UInt8} {pls : List (ByteArray × Nat)} {vb vp : Value} {cs : Array Value} {T : TypeId} (h : SWB w W g B bs pls vb vp b cs T) (hb : Below W.heap.size W W1) : SWB w W1 g B bs pls vb vp b cs T :=
  ⟨⟨h.1.1.below hb, Nat.le_trans h.1.2.1 hb.size, h.1.2.2.trans (Bk.of hb h.1.2.1)⟩, blk_below h.2 hb⟩

set_option maxRecDepth 100000 in
set_option maxHeartbeats 3200000 in
theorem l04Question_any (s : ByteArray) (ls : List ByteArray) (hs : Nm.split s = some ls) (ty cl : Nat) (hty : ty < 65536) (hcl : cl < 65536) (g B : Nat) (bs : List UInt8) (pls : List (ByteArray × Nat)) (vb vp : Value) (w : World) (h : SW w g B bs pls vb vp) (hB : B ≤ w.heap.size) (hl : bs.length + 300 ≤ 50000000) (hok : PlOK pls bs.length) :
    Calls Try.prog 23 #[.pointer (some ⟨g, 0, none⟩), .agg #[.string s, .int .i64 ty, .int .i64 cl]] w fun e w' => e = .returned (.tuple #[]) ∧ ∃ vb' vp', SW w' g B (quW ls ty cl bs pls).1 (quW ls ty cl bs pls).2 vb' vp' ∧ Bk B w w' := by
  have bA := (Below.refl w.heap.size w).alloc (Nat.le_refl _) (.cells #[.string s, .int .i64 ty, .int .i64 cl] 53)
  have hblk := blk_new w #[.string s, .int .i64 ty, .int .i64 cl] 53
  have hnm := l04Name_any s ls hs g B bs pls vb vp _ (h.below bA) (Nat.le_trans hB bA.size) (by omega) hok
  have hp1 := fun W => l02Put2_any ty W hty
  have hp2 := fun W => l02Put2_any cl W hcl
  have hlen := nmW_len ls bs pls (fun x hx => ((Nm.split_join hs).2 x hx).1)
  have hsz := Nm.split_size hs
  have HQ : Hid (quW ls ty cl bs pls = ((nmW ls bs pls).1 ++ ((⟨(put2 ty).toArray⟩ : ByteArray) ++ ⟨(put2 cl).toArray⟩).data.toList, (nmW ls bs pls).2)) := by
    show _ = _
    simp [quW, ByteArray.data_append]
  have hps : ((⟨(put2 ty).toArray⟩ : ByteArray) ++ ⟨(put2 cl).toArray⟩).size = 4 := by
    rw [ByteArray.size_append]; rfl
  have hps2 : ¬ 9223372036854775807 < (⟨(put2 ty).toArray⟩ : ByteArray).size + (⟨(put2 cl).toArray⟩ : ByteArray).size := by rw [← ByteArray.size_append, hps]; decide
  have hgl : w.heap.size < (w.alloc (.cells #[.string s, .int .i64 ty, .int .i64 cl] 53)).heap.size := by simp
  have htx := fun vb2 vp2 W (h : SW W g B (nmW ls bs pls).1 (nmW ls bs pls).2 vb2 vp2) (hB : B ≤ W.heap.size) => l04Text_any ((⟨(put2 ty).toArray⟩ : ByteArray) ++ ⟨(put2 cl).toArray⟩) g B _ _ vb2 vp2 W h hB (by rw [hps]; omega)
  rw [HQ.out]
  clear hps HQ hlen hsz hs
  generalize (⟨(put2 ty).toArray⟩ : ByteArray) = P1 at *
  generalize (⟨(put2 cl).toArray⟩ : ByteArray) = P2 at *
  generalize nmW ls bs pls = N at *
  go_enter Try.func23, Try.ntmps23
  go_wp2_with (go_at_call 45; refine hnm.mono ?_; rintro e w1 ⟨rfl, vb1, vp1, hS1, hb1⟩)
  have hbk : SWB w w1 g B N.1 N.2 vb1 vp1 w.heap.size #[.string s, .int .i64 ty, .int .i64 cl] 53 := ⟨⟨hS1, Nat.le_trans hB (Nat.le_trans bA.size hb1.be.size), (Bk.of bA hB).trans hb1⟩, hb1.kp _ _ _ hblk (by decide) (by decide) (by decide)⟩
  clear hS1 hb1 hblk bA hnm h hgl hB
  generalize w.heap.size = bx at *
  refine wp_region_held_drew (S := fun W => W.cell? ⟨bx, 1, none⟩ = some (.int .i64 ty) ∧ W.cell? ⟨bx, 2, none⟩ = some (.int .i64 cl)) (by kernel_rfl) ⟨(blk_cell hbk.2 1).trans rfl, (blk_cell hbk.2 2).trans rfl⟩ (fun hHeld => ?_)
  refine wpAnyH_take (i := 0) (v := ?_) rfl (by kernel_rfl) (by kernel_rfl) (by kernel_rfl) (fun _ _ _ h => h) (Or.inl ⟨by rfl, ?_⟩) (by assumption) ?_
  rotate_left 1
  · (rintro w ⟨hSw1, hSw2⟩; go_simp; try (with_reducible rfl))
  refine wpAnyH_take (i := 1) (v := ?_) rfl (by kernel_rfl) (by kernel_rfl) (by kernel_rfl) (fun _ _ _ h => h) (Or.inl ⟨by rfl, ?_⟩) (by assumption) ?_
  rotate_left 1
  · (rintro w ⟨hSw1, hSw2⟩; go_simp; try (with_reducible rfl))
  refine wpAnyH_take (i := 2) (v := ?_) rfl (by kernel_rfl) (by kernel_rfl) (by kernel_rfl) (fun _ _ _ h => h) (Or.inl ⟨by rfl, ?_⟩) (by assumption) ?_
  rotate_left 1
  · (rintro w ⟨hSw1, hSw2⟩; go_simp; try (with_reducible rfl))
  refine wpAnyH_take (i := 4) (v := ?_) rfl (by kernel_rfl) (by kernel_rfl) (by kernel_rfl) (fun _ _ _ h => h) (Or.inl ⟨by rfl, ?_⟩) (by assumption) ?_
  rotate_left 1
  · (rintro w ⟨hSw1, hSw2⟩; go_simp; try (with_reducible rfl))
  refine wpAnyH_take (i := 5) (v := ?_) rfl (by kernel_rfl) (by kernel_rfl) (by kernel_rfl) (fun _ _ _ h => h) (Or.inl ⟨by rfl, ?_⟩) (by assumption) ?_
  rotate_left 1
  · (rintro w ⟨hSw1, hSw2⟩; go_simp; try (with_reducible rfl))
  have hbk := hbk.below (Below.refl _ _).drew
  refine wpAnyH_ready (rs := [3]) (by kernel_rfl) (by simp) ?_
  refine AllReadyH.cons rfl (fun K hK => ?_) AllReadyH.nil
  go_simp
  refine (hp1 _).mono ?_
  rintro e wn ⟨rfl, hbn⟩
  go_wp2_with fail
  have hbk := hbk.below hbn
  refine hK.out _ _ ⟨(blk_cell hbk.2 1).trans rfl, (blk_cell hbk.2 2).trans rfl⟩ (fun _ => ?_)
  clear hK K
  refine wpAnyH_ready (rs := [6]) (by kernel_rfl) (by simp) ?_
  refine AllReadyH.cons rfl (fun K hK => ?_) AllReadyH.nil
  go_simp
  refine (hp2 _).mono ?_
  rintro e wn ⟨rfl, hbn⟩
  go_wp2_with fail
  have hbk := hbk.below hbn
  refine hK.out _ _ ⟨(blk_cell hbk.2 1).trans rfl, (blk_cell hbk.2 2).trans rfl⟩ (fun _ => ?_)
  clear hK K
  refine wpAnyH_take (i := 7) (v := .string (P1 ++ P2)) rfl (by kernel_rfl) (by kernel_rfl) (by kernel_rfl) (fun _ _ _ h => h) (Or.inl ⟨by rfl, ?_⟩) (by assumption) ?_
  · rintro w ⟨hSw1, hSw2⟩
    go_simp
    try (rw [if_neg hps2])
    try rfl
  refine wpAnyH_ready (rs := [8]) (by kernel_rfl) (by simp) ?_
  refine AllReadyH.cons rfl (fun K hK => ?_) AllReadyH.nil
  go_simp
  refine (htx _ _ _ hbk.1.1 hbk.1.2.1).mono ?_
  rintro e w6 ⟨rfl, vb6, hS6, hb6⟩
  go_wp2_with fail
  have hb7 := hb6.kp _ _ _ hbk.2 (by decide) (by decide) (by decide)
  refine hK.out _ _ ⟨(blk_cell hb7 1).trans rfl, (blk_cell hb7 2).trans rfl⟩ (fun _ => ?_)
  clear hK K
  refine wpAnyH_done (by kernel_rfl) ?_ _
  refine bodyPost_end (v := .tuple #[]) ?_ rfl ⟨rfl, vb6, vp1, hS6, hbk.1.2.2.trans hb6⟩
  simp [results, Try.results23, go_sem]
end Go.Proofs.Ytihhchebcojplaa
/- spec.l04Pointed by its contract. -/
namespace Go.Proofs.Ytihhchebcojplaa
open Go.RowKit
set_option linter.unusedVariables false

set_option maxRecDepth 100000 in
set_option maxHeartbeats 800000 in
theorem l04Pointed_any (t : Nat) (w : World) :
    Calls Try.prog 46 #[.int .i64 t] w fun e w' => e = .returned (.bool (decide (pointed t))) ∧ w' = w := by
  by_cases h : pointed t
  · rcases h with rfl | rfl | rfl | rfl | rfl
    all_goals
      go_enter Try.func46, Try.ntmps46
      go_wp2
      go_ret
      exact ⟨rfl, rfl⟩
  · have HD : Hid (decide (pointed t) = false) := by exact decide_eq_false h
    unfold pointed at h
    have b2 : ((t : Int) == 2) = false := by rw [beq_eq_false_iff_ne]; omega
    have b5 : ((t : Int) == 5) = false := by rw [beq_eq_false_iff_ne]; omega
    have b6 : ((t : Int) == 6) = false := by rw [beq_eq_false_iff_ne]; omega
    have b12 : ((t : Int) == 12) = false := by rw [beq_eq_false_iff_ne]; omega
    have b15 : ((t : Int) == 15) = false := by rw [beq_eq_false_iff_ne]; omega
    clear h
    go_enter Try.func46, Try.ntmps46
    go_wp2
    go_ret
    rw [HD.out]
    exact ⟨rfl, rfl⟩
end Go.Proofs.Ytihhchebcojplaa
/- A byte of the model's writer is stored. -/
namespace Go.Proofs.Ytihhchebcojplaa
open Go.RowKit
set_option linter.unusedVariables false

theorem bys_set (bs : List UInt8) (j : Nat) (x : UInt8) : (Nm.bys bs).set j (.int .u8 (x.toNat : Int)) = Nm.bys (bs.set j x) := by
  simp [Nm.bys, List.map_set]
theorem SW.store {w : World} {g B b cap n : Nat} {bs : List UInt8} {pls : List (ByteArray × Nat)} {vp : Value} (h : SW w g B bs pls (.slice (some ⟨b, 0, none⟩) n cap) vp) (hn : n = bs.length) (j : Nat) (x : UInt8) :
    SW (w.setCell ⟨b, j, none⟩ (.int .u8 (x.toNat : Int))) g B (bs.set j x) pls (.slice (some ⟨b, 0, none⟩) n cap) vp := by
  subst hn
  have hb := h.rb
  have hne : (Value.slice (some ⟨b, 0, none⟩) bs.length cap).ownBlock ≠ some g := own_blk hb h.blk (by decide)
  have hgb : g ≠ b := by intro e; subst e; exact hne rfl
  refine ⟨blk_far h.blk hgb, ?_, ?_, h.bg⟩
  · rw [← bys_set, List.length_set]
    exact (hb.stored j _).1
  · refine own_far h.rp ?_
    exact own_kinds h.rp hb (by decide) b rfl
theorem SW.storeBk {w0 w : World} {g B b cap n : Nat} {bs : List UInt8} {pls : List (ByteArray × Nat)} {vp : Value} (h : SW w g B bs pls (.slice (some ⟨b, 0, none⟩) n cap) vp) (hk : Bk B w0 w) (j : Nat) (x : Value) :
    Bk B w0 (w.setCell ⟨b, j, none⟩ x) := by
  have hb := h.rb
  have hBb : B ≤ b := (hb.lt b rfl).1
  refine ⟨hk.be.setCell hBb _, fun k c T hk' h1 h2 h3 => ?_⟩
  have hk2 := hk.kp k c T hk' h1 h2 h3
  refine blk_far hk2 (fun e => ?_)
  subst e
  exact own_blk hb hk2 (Ne.symm h1) rfl
theorem SW.some {w : World} {g B : Nat} {bs : List UInt8} {pls : List (ByteArray × Nat)} {vb vp : Value} (h : SW w g B bs pls vb vp) (hn : 0 < bs.length) : ∃ b cap, vb = .slice (some ⟨b, 0, none⟩) bs.length cap := by
  rcases h.rb.2 with ⟨rfl, h2⟩ | ⟨g', cap', cur, rfl, _⟩
  · simp at h2; simp [h2] at hn
  · exact ⟨g', cap', rfl⟩
theorem Bk.row {B b e s n : Nat} {w w' : World} {v : Value} {xs : List Value} (h : Bk B w w') (ho : w.ownsRow b e s v n xs) (h1 : e ≠ 5) (h2 : e ≠ 122) (h3 : e ≠ 58) : w'.ownsRow b e s v n xs := by
  refine ⟨ho.1, ?_⟩
  rcases ho.2 with hn | ⟨g, cap, cur, rfl, hb, hh, r⟩
  · exact .inl hn
  · exact .inr ⟨g, cap, cur, rfl, hb, h.kp g cur e hh h1 h2 h3, r⟩
theorem daP_step {fs : List Dt.Pc} {ps : List ByteArray} {k : Nat} {p : Dt.Pc} {x : ByteArray} {s : Wst} (hp : fs[k]? = some p) (hx : ps[k]? = some x) :
    daP (fs.drop k) (ps.drop k) s = daP (fs.drop (k + 1)) (ps.drop (k + 1)) (if p.isN then nmX x s else (s.1 ++ x.data.toList, s.2)) := by
  obtain ⟨h1, e1⟩ := List.getElem?_eq_some_iff.1 hp
  obtain ⟨h2, e2⟩ := List.getElem?_eq_some_iff.1 hx
  rw [List.drop_eq_getElem_cons h1, List.drop_eq_getElem_cons h2, e1, e2, daP]
theorem catL_step {ps : List ByteArray} {k : Nat} {x : ByteArray} (hx : ps[k]? = some x) : (Dt.catL (ps.drop k)).length = x.size + (Dt.catL (ps.drop (k + 1))).length := by
  obtain ⟨h2, e2⟩ := List.getElem?_eq_some_iff.1 hx
  rw [List.drop_eq_getElem_cons h2, e2]
  simp [Dt.catL]
end Go.Proofs.Ytihhchebcojplaa
