import Derived.Test.YtocadkdfhfiijaaJWtW
import Derived.Test.YtocadkdfhfiijaaJMath
import Derived.Test.YtocadkdfhfiijaaRows
import Derived.WalkSpells
import Derived.WalkLawsBesides
import Derived.RegionTactic
import Derived.BigRegion
import Derived.Deep.OwnRows
import Derived.OpenShut
import Derived.Test.YtocadkdfhfiijaaJDrE
import Derived.Deep.AppendSrc
/- spec.DrawDecode by its contract: some bytes, in a row of their own. -/
namespace Go.Proofs.Ytocadkdfhfiijaa
open Go.RowKit
set_option linter.unusedVariables false

def slLenD : Value → Nat
  | .slice _ k _ => k
  | _ => 0

set_option maxRecDepth 100000 in
set_option maxHeartbeats 1600000 in
theorem drawDecode_any (a : Option Addr) (n cap : Nat) (w : World) (h : CodeIn w a n) (hn : n ≤ 1048576) :
    Calls Try.prog 4 #[.slice a n cap] w fun e w' => ∃ (v : Value) (L : List UInt8), e = .returned v ∧ w'.ownsRow w.heap.size 5 1 v L.length (Nm.bys L) ∧ L.length ≤ 50000001 ∧ Below w.heap.size w w' := by
  obtain ⟨j0, hj, k0, k1, k2⟩ := info_parts Try.infoU8d
  go_enter Try.func4, Try.ntmps4
  go_wp2_with fail
  refine (l01Begin_any a n cap _ h hn).mono ?_
  rintro e w1 ⟨st, rfl, hb1⟩
  have HS := src_made (cap := cap) (code_below h hb1) hn st
  have HB := hb1.alloc hb1.size (.cells #[.slice a n cap, .int .i64 0, .int .u64 st] 38 (0, 0))
  obtain ⟨g, hge⟩ : ∃ g, g = w1.heap.size := ⟨_, rfl⟩
  have hgw : w.heap.size ≤ g := by have := hb1.size; omega
  go_wp2_with fail
  rw [← hge] at HS ⊢
  clear hge
  refine (l04DrawMessage_any g a n cap _ HS).mono ?_
  rintro e w2 ⟨m, q, va, u, x, rfl, hM, m1, m2, m3, m4, m5, m6, hs2, hg2⟩
  have hmg : mgW m := ⟨m6, m1, m2, m3, m4, m5⟩
  have HB2 := HB.grown hg2 HB.size (fun k hk => by simp at hk; omega)
  clear hb1 HB HS hg2 m1 m2 m3 m4 m5 m6 h
  go_wp2_with fail
  refine (l04Write_w m q va u x _ hM.read (mgW_small hmg) hmg).mono ?_
  rintro e w3 ⟨v, rfl, hown, hb3⟩
  have hlen := msgW_lenW hmg
  generalize (msgW m).1 = L at *
  have hs3 := src_below hs2 hb3
  have hcd := src_code hs2
  have hw2 : w.heap.size ≤ w2.heap.size := HB2.size
  have HB3 := HB2.trans (hb3.mono hw2)
  have hw3 := hb3.size
  obtain ⟨og, oc, rfl⟩ := own_form hown (by omega)
  clear hM hb3 hs2 HB2 hmg
  go_wp2_with fail
  refine (l01Next_any g a n cap 3 _ hs3 (by decide)).mono ?_
  rintro e w4 ⟨r3, rfl, h30, h31, hs4, hg4⟩
  have hown4 := hown.kept hg4 (row_src hown hs3 (by decide))
  have HB4 := HB3.grown hg4 HB3.size (fun k hk => by simp at hk; omega)
  have hw4 : w2.heap.size ≤ w4.heap.size := Nat.le_trans hw3 hg4.size
  clear hown hs3 HB3 hg4 h31 hw3
  by_cases hz3 : r3 = 0
  · subst hz3
    go_wp2_with fail
    refine (l04Bend_any g a n cap _ og oc L _ hs4 hown4 hlen.1 hlen.2).mono ?_
    rintro e w5 ⟨v5, M5, rfl, hown5, hl5, ⟨o5, c5, rfl⟩, hs5, hg5⟩
    replace hown5 := own_baseD hown5 hw4
    have HB5 := HB4.grown hg5 HB4.size (fun k hk => by simp at hk; omega)
    have hw5 : w2.heap.size ≤ w5.heap.size := Nat.le_trans hw4 hg5.size
    clear hown4 hs4 HB4 hg5 hlen hw4
    go_wp2_with fail
    refine (l01Next_any g a n cap 40 _ hs5 (by decide)).mono ?_
    rintro e w6 ⟨r6, rfl, h60, h61, hs6, hg6⟩
    have hown6 := hown5.kept hg6 (row_src hown5 hs5 (by decide))
    have HB6 := HB5.grown hg6 HB5.size (fun k hk => by simp at hk; omega)
    have hz6 := hg6.size
    have hw6 : w2.heap.size ≤ w6.heap.size := by omega
    clear hown5 hs5 hg6 HB5 h61 hz6
    by_cases hz : r6 = 0
    · subst hz
      go_wp2_with fail
      go_loopw [4] (fun v wr => ∃ M : List UInt8, wr.ownsRow w2.heap.size 5 1 v M.length (Nm.bys M) ∧ M.length ≤ 50000001 ∧ Src wr g a n cap ∧ Below w.heap.size w wr ∧ w2.heap.size ≤ wr.heap.size) (fun v _ => 65536 - slLenD v)
      case atStart => exact ⟨_, hown6, by omega, hs6, HB6, hw6⟩
      case round =>
        obtain ⟨M, hown, hMl, hsr, HBr, hwr⟩ := hrel
        clear hown6 hs6 HB6 hw6
        obtain ⟨o7, c7, rfl⟩ := own_sl hown
        by_cases hlt : M.length ≤ 65535
        · have hlt' : (M.length : Int) ≤ 65535 := by omega
          go_wp2_with (at_builtin; refine wpList_append_own _ rfl (.tmp 18) (.tmp 19) 22 rfl w2.heap.size 5 j0 (.int .u8 0) 1 1 Try.underlying22 hj k0 k1 k2 rfl (by decide) _ _ _ rfl (hown.alloc _) ⟨wr.heap.size, 0, none⟩ 1 1 [.int .u8 ((0 : UInt8).toNat : Int)] rfl rfl (cell_one_new _ _ _) (Nm.one_cell _ rfl) (by unfold maxLen; omega) (by omega) (by simp; omega) ?_; intro vb wb hown8 hgrow8 hnl8; clear hnl8; have hrow : ∀ q, Value.ownBlock _ = some q → w2.heap.size ≤ q := fun q hq => (hown.lt q hq).1; have hs8 := src_grown (w0 := w2) (src_below hsr ((Below.refl _ _).alloc (Nat.le_refl _) _)) hgrow8 hrow hcd.2 hcd.1; have HB8 := (HBr.alloc HBr.size _).grown hgrow8 (HBr.alloc HBr.size _).size (fun k hk => Nat.le_trans hw2 (hrow k hk)); have hz8 := hgrow8.size; rw [Nm.bys_mark, ← Nm.bys_append] at hown8; clear hgrow8 hown)
          have hl8 : (M ++ [0]).length = M.length + 1 := by simp
          have hz9 : w2.heap.size ≤ wb.heap.size := by simp at hz8; omega
          obtain ⟨o9, c9, rfl⟩ := own_sl hown8
          go_roundw
          case rel => exact ⟨M ++ [0], by rw [hl8]; exact hown8, by omega, hs8, HB8, hz9⟩
          case measure => simp only [slLenD]; omega
        · have hge' : ¬ ((M.length : Int) ≤ 65535) := by omega
          obtain ⟨o9, c9, e9⟩ := own_form hown (by omega)
          obtain ⟨rfl, rfl⟩ : o7 = some ⟨o9, 0, none⟩ ∧ c7 = c9 := by simp at e9; exact e9
          clear e9
          obtain ⟨hnc, hcm⟩ := own_cap hown
          go_wp2_with fail
          refine (l01Next_any g a n cap 2 _ hsr (by decide)).mono ?_
          rintro e w9 ⟨r9, rfl, h90, h91, hs9, hg9⟩
          have h92 := h91 (by decide)
          have hown9 := hown.kept hg9 (row_src hown hsr (by decide))
          have HB9 := HBr.grown hg9 HBr.size (fun k hk => by simp at hk; omega)
          clear hown hsr hg9 HBr h91
          rcases (by omega : r9 = 0 ∨ r9 = 1) with rfl | rfl
          · have hownA := own_pre (k := 65535) hown9 (by omega)
            rw [bys_take] at hownA
            have hpl : (M.take 65535).length = 65535 := by simp; omega
            go_wp2
            go_ret
            exact ⟨_, M.take 65535, rfl, by rw [hpl]; exact own_baseD hownA hw2, by omega, HB9⟩
          · have hownA := own_pre (k := 65536) hown9 (by omega)
            rw [bys_take] at hownA
            have hpl : (M.take 65536).length = 65536 := by simp; omega
            go_wp2
            go_ret
            exact ⟨_, M.take 65536, rfl, by rw [hpl]; exact own_baseD hownA hw2, by omega, HB9⟩
    · have hz' : (r6 == 0) = false := by rw [beq_eq_false_iff_ne]; exact hz
      go_wp2
      go_ret
      exact ⟨_, _, rfl, own_baseD hown6 hw2, by omega, HB6⟩
  · have hz3' : (r3 == 0) = false := by rw [beq_eq_false_iff_ne]; exact hz3
    obtain ⟨w5, hw5e⟩ : ∃ w5, w5 = w4 := ⟨_, rfl⟩
    subst hw5e
    have hown5 := hown4
    have HB5 := HB4
    have hs5 := hs4
    have hw5 := hw4
    clear hown4 HB4 hs4 hw4
    have hl5 : L.length ≤ 50000001 := by omega
    go_wp2_with fail
    refine (l01Next_any g a n cap 40 _ hs5 (by decide)).mono ?_
    rintro e w6 ⟨r6, rfl, h60, h61, hs6, hg6⟩
    have hown6 := hown5.kept hg6 (row_src hown5 hs5 (by decide))
    have HB6 := HB5.grown hg6 HB5.size (fun k hk => by simp at hk; omega)
    have hz6 := hg6.size
    have hw6 : w2.heap.size ≤ w6.heap.size := by omega
    clear hown5 hs5 hg6 HB5 h61 hz6
    by_cases hz : r6 = 0
    · subst hz
      go_wp2_with fail
      go_loopw [4] (fun v wr => ∃ M : List UInt8, wr.ownsRow w2.heap.size 5 1 v M.length (Nm.bys M) ∧ M.length ≤ 50000001 ∧ Src wr g a n cap ∧ Below w.heap.size w wr ∧ w2.heap.size ≤ wr.heap.size) (fun v _ => 65536 - slLenD v)
      case atStart => exact ⟨_, hown6, by omega, hs6, HB6, hw6⟩
      case round =>
        obtain ⟨M, hown, hMl, hsr, HBr, hwr⟩ := hrel
        clear hown6 hs6 HB6 hw6
        obtain ⟨o7, c7, rfl⟩ := own_sl hown
        by_cases hlt : M.length ≤ 65535
        · have hlt' : (M.length : Int) ≤ 65535 := by omega
          go_wp2_with (at_builtin; refine wpList_append_own _ rfl (.tmp 18) (.tmp 19) 22 rfl w2.heap.size 5 j0 (.int .u8 0) 1 1 Try.underlying22 hj k0 k1 k2 rfl (by decide) _ _ _ rfl (hown.alloc _) ⟨wr.heap.size, 0, none⟩ 1 1 [.int .u8 ((0 : UInt8).toNat : Int)] rfl rfl (cell_one_new _ _ _) (Nm.one_cell _ rfl) (by unfold maxLen; omega) (by omega) (by simp; omega) ?_; intro vb wb hown8 hgrow8 hnl8; clear hnl8; have hrow : ∀ q, Value.ownBlock _ = some q → w2.heap.size ≤ q := fun q hq => (hown.lt q hq).1; have hs8 := src_grown (w0 := w2) (src_below hsr ((Below.refl _ _).alloc (Nat.le_refl _) _)) hgrow8 hrow hcd.2 hcd.1; have HB8 := (HBr.alloc HBr.size _).grown hgrow8 (HBr.alloc HBr.size _).size (fun k hk => Nat.le_trans hw2 (hrow k hk)); have hz8 := hgrow8.size; rw [Nm.bys_mark, ← Nm.bys_append] at hown8; clear hgrow8 hown)
          have hl8 : (M ++ [0]).length = M.length + 1 := by simp
          have hz9 : w2.heap.size ≤ wb.heap.size := by simp at hz8; omega
          obtain ⟨o9, c9, rfl⟩ := own_sl hown8
          go_roundw
          case rel => exact ⟨M ++ [0], by rw [hl8]; exact hown8, by omega, hs8, HB8, hz9⟩
          case measure => simp only [slLenD]; omega
        · have hge' : ¬ ((M.length : Int) ≤ 65535) := by omega
          obtain ⟨o9, c9, e9⟩ := own_form hown (by omega)
          obtain ⟨rfl, rfl⟩ : o7 = some ⟨o9, 0, none⟩ ∧ c7 = c9 := by simp at e9; exact e9
          clear e9
          obtain ⟨hnc, hcm⟩ := own_cap hown
          go_wp2_with fail
          refine (l01Next_any g a n cap 2 _ hsr (by decide)).mono ?_
          rintro e w9 ⟨r9, rfl, h90, h91, hs9, hg9⟩
          have h92 := h91 (by decide)
          have hown9 := hown.kept hg9 (row_src hown hsr (by decide))
          have HB9 := HBr.grown hg9 HBr.size (fun k hk => by simp at hk; omega)
          clear hown hsr hg9 HBr h91
          rcases (by omega : r9 = 0 ∨ r9 = 1) with rfl | rfl
          · have hownA := own_pre (k := 65535) hown9 (by omega)
            rw [bys_take] at hownA
            have hpl : (M.take 65535).length = 65535 := by simp; omega
            go_wp2
            go_ret
            exact ⟨_, M.take 65535, rfl, by rw [hpl]; exact own_baseD hownA hw2, by omega, HB9⟩
          · have hownA := own_pre (k := 65536) hown9 (by omega)
            rw [bys_take] at hownA
            have hpl : (M.take 65536).length = 65536 := by simp; omega
            go_wp2
            go_ret
            exact ⟨_, M.take 65536, rfl, by rw [hpl]; exact own_baseD hownA hw2, by omega, HB9⟩
    · have hz' : (r6 == 0) = false := by rw [beq_eq_false_iff_ne]; exact hz
      go_wp2
      go_ret
      exact ⟨_, _, rfl, own_baseD hown6 hw2, by omega, HB6⟩
end Go.Proofs.Ytocadkdfhfiijaa
/- Rows of bytes that came in. -/
namespace Go.Proofs.Ytocadkdfhfiijaa
open Go.RowKit
set_option linter.unusedVariables false

/-- A slice of bytes that came in. -/
def RowB (w : World) (a : Option Addr) (len cap : Nat) (zs : List Int) : Prop :=
  (a = none ∧ len = 0 ∧ cap = 0 ∧ zs = []) ∨
  ∃ x, a = some x ∧ len ≤ cap ∧ cap ≤ maxLen ∧ zs.length = cap ∧ (∀ i, i < zs.length → w.cell? (x.add i) = some (.int .u8 (zs.getD i 0))) ∧ ∀ n ∈ zs, (Lit.int .u8 n).wf = true

theorem u8_wf {z : Int} (h : (Lit.int .u8 z).wf = true) : ((UInt8.ofNat z.toNat).toNat : Int) = z := by
  have h2 := bounds_u8 h
  simp
  omega

theorem rowB {w : World} {a : Option Addr} {n cap : Nat} {zs : List Int} (h : RowB w a n cap zs) : ∃ l : List UInt8, l.length = n ∧ CRow w (.slice a n cap) n 1 (Nm.bys l) := by
  rcases h with ⟨rfl, rfl, rfl, rfl⟩ | ⟨x, rfl, hl, hm, hz, hc, hw⟩
  · exact ⟨[], rfl, rfl, none, 0, rfl, Nat.le_refl _, by decide, fun h => by omega⟩
  · have hlen : ((zs.take n).map (fun z => UInt8.ofNat z.toNat)).length = n := by simp; omega
    refine ⟨(zs.take n).map (fun z => UInt8.ofNat z.toNat), hlen, by rw [Nm.bys_length, hlen, Nat.mul_one], some x, cap, rfl, hl, hm, fun hp => ?_⟩
    have hs : x.spot = none := by
      have := World.cell?_spot (hc 0 (by omega))
      simpa [Addr.add] using this
    obtain ⟨b, off, sp⟩ := x
    simp only at hs
    subst hs
    refine ⟨b, off, rfl, fun i y hy => ?_⟩
    have hi : i < n := by
      have := (List.getElem?_eq_some_iff.1 hy).1
      rwa [Nm.bys_length, hlen] at this
    rw [← Nm.addr_add, hc i (by omega), ← hy]
    have hz : zs[i]? = some (zs.getD i 0) := by rw [List.getD_eq_getElem?_getD, List.getElem?_eq_getElem (by omega)]; rfl
    rw [Nm.bys, List.getElem?_map, List.getElem?_map, List.getElem?_take, if_pos hi, hz]
    simp only [Option.map_some]
    rw [u8_wf (hw _ (List.mem_of_getElem? hz))]

theorem Try.infoBy : (Try.prog.info? 5).map (fun i => (i.zero, i.size, i.bytes)) = some (some (.int .u8 0), 1, 1) := by kernel_rfl

/-- Bytes lie where a slice leads. -/
abbrev BySl (w : World) (v : Value) (l : List UInt8) : Prop := CRow w v l.length 1 (Nm.bys l)
end Go.Proofs.Ytocadkdfhfiijaa
/- append([]byte{}, b...): a row of bytes copied into one of one's own. -/
namespace Go.Proofs.Ytocadkdfhfiijaa
open Go.RowKit
set_option linter.unusedVariables false

theorem wpList_append_ran {P : Program} {ops : Array Oper} {rest : List Oper} {o : Oper} {a : Act} {w : World} {Q : Exit → Act → World → Prop} (hgd : o.guard = none) (s x : Operand) (t : TypeId)
    (ho : o.op = .call { callee := .builtin .append, args := #[s, x], argTypes := #[t, t] }) (v u v' : Value) (w' : World) (hs : a.eval s = v) (hx : a.eval x = u)
    (hr : (Builtin.append_ #[t, t] o.type #[v, u]).run P w = .ok v' w') (h : wpList P ops Q rest (a.put o.dst v') w') : wpList P ops Q (o :: rest) a w :=
  wpList_plain hgd fun _ hK => by
    unfold Oper.wp execOp
    simp only [ho, resolve, invoke, builtin, Sem.run_bind, Sem.run_pure, Result.andThen_ok, List.map_toArray, List.map_cons, List.map_nil, hs, hx, hr]
    exact hK _ _ h

theorem bys_cells (l : List UInt8) : ∀ u ∈ Nm.bys l, u.oneCell' = true := by
  intro u hu
  rw [Nm.bys] at hu
  obtain ⟨b, _, rfl⟩ := List.mem_map.1 hu
  rfl

theorem copy_row {w : World} {v : Value} {l : List UInt8} (h : BySl w v l) (hl : l.length ≤ 100000000) :
    ∃ v' w', (Builtin.append_ #[22, 22] 22 #[.slice (some ⟨w.heap.size, 0, none⟩) 0 0, v]).run Try.prog (w.alloc (.cells #[] 5 (0, 0))) = .ok v' w' ∧
      w'.ownsRow w.heap.size 5 1 v' l.length (Nm.bys l) ∧ Below w.heap.size w w' := by
  obtain ⟨j0, hj, k0, k1, k2⟩ := info_parts Try.infoU8d
  have hB := (Below.refl w.heap.size w).alloc (Nat.le_refl _) (.cells #[] 5 (0, 0))
  have hown : (w.alloc (.cells #[] 5 (0, 0))).ownsRow w.heap.size 5 1 (.slice (some ⟨w.heap.size, 0, none⟩) 0 0) 0 [] := World.ownsRow_made w #[] 0 (Nat.le_refl _) (by decide) rfl
  have h' := h.below hB
  obtain ⟨hlen, a, cap, rfl, hcap, hmx, hc⟩ := h'
  cases a with
  | none =>
    have hn : l.length = 0 := by
      rcases Nat.eq_zero_or_pos l.length with h | h
      · exact h
      · obtain ⟨b, off, e, _⟩ := hc h
        cases e
    have hl0 : l = [] := List.eq_nil_of_length_eq_zero hn
    subst hl0
    refine ⟨_, _, run_append_room_src (P := Try.prog) (w.alloc (.cells #[] 5 (0, 0))) 22 22 22 5 j0 Try.underlying22 hj w.heap.size 0 0 0 (.slice none 0 cap) 0 [] (Src.ofNil _ Try.underlying22 cap) (by omega) (by simp) (by simp), ?_, ?_⟩
    · exact hown
    · exact hB
  | some x =>
    obtain ⟨v', w', h1, h2, h3, _⟩ := run_append_own (P := Try.prog) (w.alloc (.cells #[] 5 (0, 0))) w.heap.size 22 22 5 j0 (.int .u8 0) 1 1 Try.underlying22 hj k0 k1 k2 rfl (by decide) _ 0 [] hown x l.length cap (Nm.bys l) hlen (by
      intro j u hu
      have hp : 0 < l.length := by
        rcases Nat.eq_zero_or_pos l.length with h | h
        · have : l = [] := List.eq_nil_of_length_eq_zero h
          subst this
          simp [Nm.bys] at hu
        · exact h
      obtain ⟨b, off, e, hcell⟩ := hc hp
      simp only [Option.some.injEq] at e
      subst e
      rw [Nm.addr_add]
      exact hcell j u hu) (bys_cells l) (by unfold maxLen; omega) (by omega) (by simp)
    refine ⟨v', w', h1, ?_, hB.grown h3 hB.size (fun k hk => by simp [Value.ownBlock] at hk; omega)⟩
    simpa using h2
end Go.Proofs.Ytocadkdfhfiijaa
/- A name within a message: mathematics. -/
namespace Go.Proofs.Ytocadkdfhfiijaa

/-- What reading comes to: a code, or what was read and the place behind it. -/
abbrev Rs (α : Type) := Sum Int (α × Nat)
abbrev Rs.bad {α : Type} (code : Int) : Rs α := Sum.inl code
abbrev Rs.ok {α : Type} (x : α) (next : Nat) : Rs α := Sum.inr (x, next)
theorem Rs.elim {α : Type} {motive : Rs α → Prop} (bad : ∀ c, motive (Rs.bad c)) (ok : ∀ x n, motive (Rs.ok x n)) (r : Rs α) : motive r := by
  rcases r with c | ⟨x, n⟩
  · exact bad c
  · exact ok x n

/-- What reading a name comes to. -/
abbrev Dn := Rs (List UInt8)

/-- The byte at a place. -/
def byAt (l : List UInt8) (i : Nat) : Nat := (l.getD i 0).toNat

theorem byAt_lt (l : List UInt8) (i : Nat) : byAt l i < 256 := UInt8.toNat_lt _

theorem byAt_cell {l : List UInt8} {i : Nat} (h : i < l.length) : (Nm.bys l)[i]? = some (.int .u8 (byAt l i : Int)) := by
  simp [Nm.bys, byAt, h]

/-- The name that stands at a place, of which 'acc' has been read; 'nx' is the place behind its first pointer. -/
def dnF (l : List UInt8) (start pos : Nat) (acc : List UInt8) (nx : Option Nat) : Dn :=
  if h : pos < l.length then
    if byAt l pos = 0 then .ok (acc ++ [0]) (nx.getD (pos + 1))
    else if 192 ≤ byAt l pos then
      if pos + 1 < l.length then
        if h3 : (byAt l pos - 192) * 256 + byAt l (pos + 1) < start then
          dnF l ((byAt l pos - 192) * 256 + byAt l (pos + 1)) ((byAt l pos - 192) * 256 + byAt l (pos + 1)) acc (some (nx.getD (pos + 2)))
        else .bad 9
      else .bad 8
    else if 63 < byAt l pos then .bad 2
    else if pos + 1 + byAt l pos ≤ l.length then
      if acc.length + 1 + byAt l pos + 1 ≤ 255 then dnF l start (pos + 1 + byAt l pos) (acc ++ (l.drop pos).take (1 + byAt l pos)) nx
      else .bad 3
    else .bad 8
  else .bad 8

theorem dnF_end {l : List UInt8} {start pos : Nat} {acc : List UInt8} {nx : Option Nat} (h : l.length ≤ pos) : dnF l start pos acc nx = .bad 8 := by
  rw [dnF, dif_neg (by omega)]
theorem dnF_root {l : List UInt8} {start pos : Nat} {acc : List UInt8} {nx : Option Nat} (h : pos < l.length) (h0 : byAt l pos = 0) : dnF l start pos acc nx = .ok (acc ++ [0]) (nx.getD (pos + 1)) := by
  rw [dnF, dif_pos h, if_pos h0]
theorem dnF_cut {l : List UInt8} {start pos : Nat} {acc : List UInt8} {nx : Option Nat} (h : pos < l.length) (h0 : 192 ≤ byAt l pos) (h1 : l.length ≤ pos + 1) : dnF l start pos acc nx = .bad 8 := by
  rw [dnF, dif_pos h, if_neg (by omega), if_pos h0, if_neg (by omega)]
theorem dnF_ahead {l : List UInt8} {start pos : Nat} {acc : List UInt8} {nx : Option Nat} (h0 : 192 ≤ byAt l pos) (h1 : pos + 1 < l.length) (h2 : start ≤ (byAt l pos - 192) * 256 + byAt l (pos + 1)) : dnF l start pos acc nx = .bad 9 := by
  rw [dnF, dif_pos (by omega), if_neg (by omega), if_pos h0, if_pos h1, dif_neg (by omega)]
theorem dnF_ptr {l : List UInt8} {start pos : Nat} {acc : List UInt8} {nx : Option Nat} (h0 : 192 ≤ byAt l pos) (h1 : pos + 1 < l.length) (h2 : (byAt l pos - 192) * 256 + byAt l (pos + 1) < start) :
    dnF l start pos acc nx = dnF l ((byAt l pos - 192) * 256 + byAt l (pos + 1)) ((byAt l pos - 192) * 256 + byAt l (pos + 1)) acc (some (nx.getD (pos + 2))) := by
  rw [dnF, dif_pos (by omega), if_neg (by omega), if_pos h0, if_pos h1, dif_pos h2]
theorem dnF_label {l : List UInt8} {start pos : Nat} {acc : List UInt8} {nx : Option Nat} (h : pos < l.length) (h0 : 63 < byAt l pos) (h1 : byAt l pos < 192) : dnF l start pos acc nx = .bad 2 := by
  rw [dnF, dif_pos h, if_neg (by omega), if_neg (by omega), if_pos h0]
theorem dnF_short {l : List UInt8} {start pos : Nat} {acc : List UInt8} {nx : Option Nat} (h : pos < l.length) (h0 : 0 < byAt l pos) (h1 : byAt l pos ≤ 63) (h2 : l.length < pos + 1 + byAt l pos) : dnF l start pos acc nx = .bad 8 := by
  rw [dnF, dif_pos h, if_neg (by omega), if_neg (by omega), if_neg (by omega), if_neg (by omega)]
theorem dnF_long {l : List UInt8} {start pos : Nat} {acc : List UInt8} {nx : Option Nat} (h0 : 0 < byAt l pos) (h1 : byAt l pos ≤ 63) (h2 : pos + 1 + byAt l pos ≤ l.length) (h3 : 255 < acc.length + 1 + byAt l pos + 1) : dnF l start pos acc nx = .bad 3 := by
  rw [dnF, dif_pos (by omega), if_neg (by omega), if_neg (by omega), if_neg (by omega), if_pos h2, if_neg (by omega)]
theorem dnF_more {l : List UInt8} {start pos : Nat} {acc : List UInt8} {nx : Option Nat} (h0 : 0 < byAt l pos) (h1 : byAt l pos ≤ 63) (h2 : pos + 1 + byAt l pos ≤ l.length) (h3 : acc.length + 1 + byAt l pos + 1 ≤ 255) :
    dnF l start pos acc nx = dnF l start (pos + 1 + byAt l pos) (acc ++ (l.drop pos).take (1 + byAt l pos)) nx := by
  rw [dnF, dif_pos (by omega), if_neg (by omega), if_neg (by omega), if_neg (by omega), if_pos h2, if_pos h3]

/-- What DecodeName answers: the name, the place behind it, the code. -/
def dnS (l : List UInt8) (p : Int) : List UInt8 × Int × Int :=
  if p < 0 ∨ (l.length : Int) < p then ([], 0, 32)
  else match dnF l p.toNat p.toNat [] none with
    | .inl c => ([], 0, c)
    | .inr (s, n) => (s, n, 0)
end Go.Proofs.Ytocadkdfhfiijaa
