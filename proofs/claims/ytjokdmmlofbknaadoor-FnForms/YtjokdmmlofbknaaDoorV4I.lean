import Derived.Test.YtjokdmmlofbknaaDoorJReadM
import Derived.Test.YtjokdmmlofbknaaDoorJINum
import Derived.Test.YtjokdmmlofbknaaDoorJTyM
import Derived.ChangeAgain
/- impl.ReadV4 by its contract. -/
namespace Go.Proofs.YtjokdmmlofbknaaDoor
open Go.RowKit

theorem shaped_below {P : Program} {w w' : World} (h : w.ShapedOpen P) (hb : Below w.heap.size w w') : w'.ShapedOpen P :=
  h.keptBut (hb.frame (fun _ => False)) (fun _ hp => hp.elim)

/-- What strings.SplitN at five parts gives. -/
def Parts5 (s : ByteArray) (w w' : World) (v : Value) : Prop :=
  ∃ n cap, v = .slice (some ⟨w.heap.size, 0, none⟩) n cap ∧ (n = 4 ↔ (cutB s 46).length = 4) ∧ n ≤ cap ∧ cap ≤ 5 ∧ ((cutB s 46).length = 4 → ∀ (k : Nat) (x : ByteArray), (cutB s 46)[k]? = some x → w'.cell? ⟨w.heap.size, k, none⟩ = some (.string x))
theorem splitN5_any (s : ByteArray) (w : World) (hsh : w.ShapedOpen Tryd.prog) (hs : s.size ≤ 2000000) :
    Calls Tryd.prog 31 #[.string s, .string ⟨#[46]⟩, .int .i64 5] w fun e w' => ∃ v, e = .returned v ∧ Parts5 s w w' v ∧ Below w.heap.size w w' := by
  refine (Tryd.strings_SplitN_shaped s ⟨#[46]⟩ 5 w hsh (by omega) (by decide) (by decide) (by decide)).mono ?_
  rintro e w' ⟨rfl, rfl⟩
  have hl := splitB_len s 46 (min 5 (s.size + 1) - 1)
  have hc := cutB_le s 46
  have hpos : 1 ≤ (cutB s 46).length := by
    rw [cutB_len]
    obtain ⟨h, t, e⟩ := cutP_ne 46 s.data.toList
    rw [e]; simp
  refine ⟨_, rfl, ⟨_, _, rfl, ?_, ?_, ?_, ?_⟩, (Below.refl _ _).alloc (Nat.le_refl _) _⟩
  · rw [hl]; omega
  · rw [hl]; omega
  · omega
  · intro h4 k x hx
    have e : Lib.splitB ⟨#[46]⟩ 0 (min 5 (s.size + 1) - 1) s = cutB s 46 := splitB_cut (by omega)
    rw [e]
    have hk : k < (cutB s 46).length := (List.getElem?_eq_some_iff.1 hx).1
    have hcell : ∀ (o : Array Value) (t : TypeId), (w.alloc (.cells o t)).cell? ⟨w.heap.size, k, none⟩ = o[k]? := fun o t => cell_of_row _ _ k o t (0, 0) (heap_alloc_new w _)
    rw [hcell]
    unfold Lib.cellsOf
    rw [List.getElem?_toArray, List.getElem?_append_left (by simpa using hk), List.getElem?_map, hx]
    rfl

set_option maxRecDepth 100000 in
set_option maxHeartbeats 4000000 in
theorem implReadV4_any (s : ByteArray) (w : World) (hsh : w.ShapedOpen Tryd.prog) (hs : s.size ≤ 2000000) :
    Calls Tryd.prog 9 #[.string s] w fun e w' => e = .returned (strV (readV4S s)) ∧ Below w.heap.size w w' := by
  obtain ⟨R, HR⟩ : ∃ R, Hid (R = strV (readV4S s)) := ⟨_, rfl⟩
  rw [← HR.out]
  obtain ⟨i0, hi, hz0, hz1, hz2⟩ := info_parts Tryd.infoU8x
  have hcut := splitN5_any s w hsh hs
  clear hsh
  by_cases h4 : (cutB s 46).length = 4
  · have hst := Nm.hide (v4_start (cutB s 46))
    have HBAD : Hid (∀ k o p, V4At (cutB s 46) k o → (cutB s 46)[k]? = some p → v4Part p = none → R = .tuple #[.string ⟨#[]⟩, .int .i64 7]) := fun k o p h1 h2 h3 => by rw [HR.out, v4_bad h1 h2 h3]; rfl
    have HEND : Hid (∀ o, V4At (cutB s 46) 4 o → R = .tuple #[.string ⟨o.toArray⟩, .int .i64 0]) := fun o h1 => by rw [HR.out, v4_end h4 h1]; rfl
    clear HR
    unfold Parts5 at hcut
    generalize cutB s 46 = ls at *
    go_enter Tryd.func9, Tryd.ntmps9
    go_wp2_with (go_at_call 31; refine hcut.mono ?_; rintro e w1 ⟨v, rfl, ⟨n0, cap, rfl, hn4, hnc, hcap, hcell⟩, hb1⟩; refine Hid.out ?_)
    obtain rfl : n0 = 4 := hn4.2 h4
    have hcell := hcell h4
    have HH4 := Nm.hide h4
    have hb1s := hb1.size
    have hcap' : 4 ≤ cap := hnc
    clear hn4 h4 hcut hnc
    refine Nm.hide ?_
    go_wp2
    go_loopw [5, 17] (fun v i wr => ∃ (k : Nat) (l : List UInt8), k ≤ 4 ∧ i = .int .i64 k ∧ Hid (l.length = k) ∧ Hid (V4At ls k l) ∧ wr.ownsRow w1.heap.size 5 1 v k (Nm.bys l) ∧ Below w1.heap.size w1 wr)
      (fun _ i _ => 4 - (intOf i).toNat)
    case atStart => exact ⟨0, [], by omega, rfl, rfl, hst, World.ownsRow_nil _ _ _ _, Below.refl _ _⟩
    case round =>
      obtain ⟨k, l, hk, rfl, HL, HV, hown, hbel⟩ := hrel
      clear hst
      have hsz := hbel.size
      by_cases hlt : k < 4
      · have hlt' : (k : Int) < 4 := by omega
        obtain ⟨p, hp⟩ : ∃ p, ls[k]? = some p := ⟨_, List.getElem?_eq_getElem (by rw [HH4.out]; exact hlt)⟩
        have hcp : wr.cell? ⟨w.heap.size, k, none⟩ = some (.string p) := (hbel.cell (World.block_lt_of_cell? w1 _ (hcell k p hp))).trans (hcell k p hp)
        have hnum := fun W => readNumber_any p 3 W (by decide)
        rw [show ((3 : Nat) : Int) = 3 from rfl] at hnum
        cases hn : numO p 3 with
        | none =>
          have HN : Hid (R = .tuple #[.string ⟨#[]⟩, .int .i64 7]) := HBAD.out k l p HV.out hp (part_none hn)
          rw [hn] at hnum
          simp only [numV, Option.getD_none, Option.isSome_none] at hnum
          clear hn hp hown HV
          go_wp2_with (go_at_call 32; refine (hnum _).mono ?_; rintro e w3 ⟨rfl, hw⟩; obtain rfl : wr = w3 := hw.symm; clear hw)
          go_ret2
          rw [HN.out]
          exact ⟨rfl, Nm.below_two hb1 hbel⟩
        | some n =>
          have hpos := num_pos hn
          have HD := Nm.hide (dec_iff hn hpos)
          rw [hn] at hnum
          simp only [numV, Option.getD_some, Option.isSome_some] at hnum
          by_cases hbig : 255 < n
          · have HN : Hid (R = .tuple #[.string ⟨#[]⟩, .int .i64 7]) := HBAD.out k l p HV.out hp (part_big hn hbig)
            have hbig' : 255 < (n : Int) := by omega
            clear hn hp hown HV
            go_wp2_with (go_at_call 32; refine (hnum _).mono ?_; rintro e w3 ⟨rfl, hw⟩; obtain rfl : wr = w3 := hw.symm; clear hw)
            go_ret2
            rw [HN.out]
            exact ⟨rfl, Nm.below_two hb1 hbel⟩
          · have hle' : (n : Int) ≤ 255 := by omega
            have HB : Hid (((UInt8.ofNat n).toNat : Int) = (n : Int)) := by show _ = _; simp; omega
            have hc0 : (p[0].toNat : Int) < 256 := by have := p[0].toNat_lt; omega
            by_cases he : 1 < p.size ∧ p[0].toNat = 48
            · have HN : Hid (R = .tuple #[.string ⟨#[]⟩, .int .i64 7]) := HBAD.out k l p HV.out hp (part_not hn (fun e => (HD.out.1 e) he))
              have g1 : (1 : Int) < (p.size : Int) := by omega
              have g2 : ((p[0].toNat : Int) == 48) = true := by rw [beq_iff_eq]; omega
              clear hn hp hown HV he
              go_wp2_with (go_at_call 32; refine (hnum _).mono ?_; rintro e w3 ⟨rfl, hw⟩; obtain rfl : wr = w3 := hw.symm; clear hw)
              go_ret2
              rw [HN.out]
              exact ⟨rfl, Nm.below_two hb1 hbel⟩
            · have HN := Nm.hide (v4_next HV.out hp (part_some hn (by omega) (HD.out.2 he)))
              have HL2 : Hid ((l ++ [UInt8.ofNat n]).length = k + 1) := by show _ = _; rw [List.length_append, HL.out]; rfl
              by_cases g : 1 < p.size
              · have g1 : (1 : Int) < (p.size : Int) := by omega
                have g2 : ((p[0].toNat : Int) == 48) = false := by rw [beq_eq_false_iff_ne]; omega
                clear hn hp HV he
                go_wp2_with (first | (go_at_call 32; refine (hnum _).mono ?_; rintro e w3 ⟨rfl, hw⟩; obtain rfl : wr = w3 := hw.symm; clear hw) | (at_builtin; refine wpList_append_own _ rfl (.tmp 42) (.tmp 45) 22 rfl w1.heap.size 5 i0 (.int .u8 0) 1 1 Tryd.underlying22 hi hz0 hz1 hz2 rfl (by decide) _ _ _ rfl (hown.alloc _) ⟨wr.heap.size, 0, none⟩ 1 1 [.int .u8 (n : Int)] rfl rfl (cell_new1 _ _ _) (Nm.one_cell _ rfl) (by unfold maxLen; omega) (by omega) (by simp; omega) ?_))
                intro v' w4 hown' hgrow _
                rw [← HB.out] at hown'
                obtain ⟨X, HX, o4, b4, z4⟩ := one_step (c := UInt8.ofNat n) hsz hown hbel _ hown' hgrow
                clear hown' hgrow hown hbel
                go_wp2
                go_roundw
                case rel => exact ⟨k + 1, X, by omega, by go_num, by show _ = _; rw [HX.out]; exact HL2.out, by show V4At _ _ _; rw [HX.out]; exact HN.out, o4, b4⟩
                case measure => simp [intOf]; omega
              · have g1 : (p.size : Int) ≤ 1 := by omega
                clear hn hp HV he
                go_wp2_with (first | (go_at_call 32; refine (hnum _).mono ?_; rintro e w3 ⟨rfl, hw⟩; obtain rfl : wr = w3 := hw.symm; clear hw) | (at_builtin; refine wpList_append_own _ rfl (.tmp 42) (.tmp 45) 22 rfl w1.heap.size 5 i0 (.int .u8 0) 1 1 Tryd.underlying22 hi hz0 hz1 hz2 rfl (by decide) _ _ _ rfl (hown.alloc _) ⟨wr.heap.size, 0, none⟩ 1 1 [.int .u8 (n : Int)] rfl rfl (cell_new1 _ _ _) (Nm.one_cell _ rfl) (by unfold maxLen; omega) (by omega) (by simp; omega) ?_))
                intro v' w4 hown' hgrow _
                rw [← HB.out] at hown'
                obtain ⟨X, HX, o4, b4, z4⟩ := one_step (c := UInt8.ofNat n) hsz hown hbel _ hown' hgrow
                clear hown' hgrow hown hbel
                go_wp2
                go_roundw
                case rel => exact ⟨k + 1, X, by omega, by go_num, by show _ = _; rw [HX.out]; exact HL2.out, by show V4At _ _ _; rw [HX.out]; exact HN.out, o4, b4⟩
                case measure => simp [intOf]; omega
      · have hke : k = 4 := by omega
        subst hke
        have HN := Nm.hide (HEND.out l HV.out)
        obtain ⟨g, cp, rfl, hcv⟩ := Nm.conv_own (P := Tryd.prog) (src := 22) (dst := 9) Tryd.underlying22 Tryd.underlying5 Tryd.underlying9 hown (by omega)
        obtain ⟨RR, HRR, hcv⟩ : ∃ RR, Hid (RR = (⟨l.toArray⟩ : ByteArray)) ∧ (convert 22 9 (.slice (some ⟨g, 0, none⟩) 4 cp)).run Tryd.prog wr = .ok (.string RR) wr := ⟨_, rfl, hcv⟩
        clear hown HV
        go_wp2
        go_ret2
        rw [HN.out, ← HRR.out]
        exact ⟨rfl, Nm.below_two hb1 hbel⟩
  · have HN : Hid (R = .tuple #[.string ⟨#[]⟩, .int .i64 7]) := by show _ = _; rw [HR.out, v4_count h4]; rfl
    clear HR
    unfold Parts5 at hcut
    generalize cutB s 46 = ls at *
    go_enter Tryd.func9, Tryd.ntmps9
    go_wp2_with (go_at_call 31; refine hcut.mono ?_; rintro e w1 ⟨v, rfl, ⟨n0, cap, rfl, hn4, hnc, hcap, hcell⟩, hb1⟩; refine Hid.out ?_)
    have h4' : ((n0 : Int) == 4) = false := by
      rw [beq_eq_false_iff_ne]
      intro e
      exact h4 (hn4.1 (by omega))
    have h4'' : ((n0 : Int) != 4) = true := by rw [bne, h4']; rfl
    clear hcell hcut hn4 h4
    refine Nm.hide ?_
    go_wp2
    go_ret2
    rw [HN.out]
    exact ⟨rfl, hb1⟩
end Go.Proofs.YtjokdmmlofbknaaDoor
