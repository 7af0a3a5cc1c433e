import Derived.Test.YtddabafaejahbaaGreatDoorJMath
import Derived.Test.YtddabafaejahbaaGreatDoorJIParts
import Derived.Test.YtddabafaejahbaaGreatDoorJTxt8
import Derived.Test.YtddabafaejahbaaGreatDoorJOwnT
/- spec.l02Put at width 2 by its contract. -/
namespace Go.Proofs.YtddabafaejahbaaGreatDoor
open Go.RowKit
theorem put2_cells {n : Nat} (h : n < 65536) : Nm.bys (put2 n) = [.int .u8 ((n : Int) / 256), .int .u8 ((n : Int) % 256)] := by
 simp [Nm.bys, put2]
 omega
theorem put2_step {W wr w1 : World} {v v' : Value} {B e n : Nat} {l : List Value} {x : Value} (hB : B ≤ wr.heap.size)
 (hown : wr.ownsRow B e 1 v n l) (hbel : Below B W wr) (o : Obj) (hgrow : (wr.alloc o).grownBy w1 v.ownBlock)
 (hown' : w1.ownsRow B e 1 v' (n + 1) (l ++ [x])) :
 w1.ownsRow B e 1 v' (n + 1) (l ++ [x]) ∧ Below B W w1 := by
 refine ⟨hown', ?_⟩; refine (hbel.alloc hB o).grown hgrow (by simp; omega) ?_; intro k hk; exact (hown.lt k hk).1
set_option maxRecDepth 100000 in
set_option maxHeartbeats 800000 in
theorem l02Put2_any (n : Nat) (w : World) (hn : n < 65536) :
 Calls Tryz.prog 45 #[.int .i64 (n : Int), .int .i64 2] w fun e w' => e = .returned (.string ⟨(put2 n).toArray⟩) ∧ Below w.heap.size w w' := by
 obtain ⟨i0, hi, hz0, hz1, hz2⟩ := info_parts Tryz.infoB; have hcs := put2_cells hn; have hn' : (n : Int) < 65536 := by omega
 go_enter Tryz.func45, Tryz.ntmps45; go_wp2
 go_loopw [5, 6] (fun v i wr => ∃ j : Nat, j ≤ 2 ∧ i = .int .i64 (1 - (j : Int)) ∧ wr.ownsRow w.heap.size 5 1 v j ([Value.int .u8 ((n : Int) / 256), .int .u8 ((n : Int) % 256)].take j) ∧ Below w.heap.size w wr)
  (fun _ i _ => (intOf i + 1).toNat)
 case atStart => exact ⟨0, by omega, rfl, World.ownsRow_made w #[] 0 (Nat.le_refl _) (by decide) rfl, (Below.refl _ _).alloc (Nat.le_refl _) _⟩
 case round =>
  obtain ⟨j, hj, rfl, hown, hbel⟩ := hrel; have hsz := hbel.size; obtain rfl | rfl | rfl : j = 0 ∨ j = 1 ∨ j = 2 := by omega
  · simp only [List.take_zero, Int.sub_zero, Int.cast_ofNat_Int] at hown ⊢; go_wp2_with (at_builtin; refine wpList_append_own _ rfl (.tmp 14) (.tmp 21) 87 rfl w.heap.size 5 i0 (.int .u8 0) 1 1 Tryz.underlying87 hi hz0 hz1 hz2 rfl (by decide) _ _ _ rfl (hown.alloc _) ⟨wr.heap.size, 0, none⟩ 1 1 [.int .u8 ((n : Int) / 256)] rfl rfl (cell_new1 _ _ _) (Nm.one_cell _ rfl) (by unfold maxLen; omega) (by omega) (by simp; omega) ?_)
    intro v' w1 hown' hgrow _; have R := put2_step hsz hown hbel _ hgrow hown'; clear hown' hgrow hown hbel; go_wp2; go_roundw
    case rel => exact ⟨1, by omega, by go_num, R.1, R.2⟩
    case measure => simp [intOf]
  · simp only [List.take_succ_cons, List.take_zero] at hown ⊢; go_wp2_with (at_builtin; refine wpList_append_own _ rfl (.tmp 14) (.tmp 21) 87 rfl w.heap.size 5 i0 (.int .u8 0) 1 1 Tryz.underlying87 hi hz0 hz1 hz2 rfl (by decide) _ _ _ rfl (hown.alloc _) ⟨wr.heap.size, 0, none⟩ 1 1 [.int .u8 ((n : Int) % 256)] rfl rfl (cell_new1 _ _ _) (Nm.one_cell _ rfl) (by unfold maxLen; omega) (by omega) (by simp; omega) ?_)
    intro v' w1 hown' hgrow _; have R := put2_step hsz hown hbel _ hgrow hown'; clear hown' hgrow hown hbel; go_wp2; go_roundw
    case rel => exact ⟨2, by omega, by go_num, R.1, R.2⟩
    case measure => simp [intOf]
  · simp only [List.take_succ_cons, List.take_zero] at hown ⊢; rw [← hcs] at hown; have HC := Nm.conv_own (P := Tryz.prog) (src := 87) (dst := 9) Tryz.underlying87 Tryz.underlying5 Tryz.underlying9 hown (by omega); obtain ⟨g, cap, rfl, hcv⟩ := HC; clear hown; go_wp2; go_ret; exact ⟨rfl, hbel⟩
end Go.Proofs.YtddabafaejahbaaGreatDoor
/- spec.l03Hex by its contract. -/
namespace Go.Proofs.YtddabafaejahbaaGreatDoor
open Go.RowKit
set_option maxRecDepth 100000 in
set_option maxHeartbeats 800000 in
theorem l03Hex_any (c : UInt8) (w : World) :
 Calls Tryz.prog 38 #[.int .u8 c.toNat] w fun e w' => e = .returned (.int .i64 (hexV c)) ∧ w' = w := by
 have hdig := l01Digit_any c; have hc : (c.toNat : Int) < 256 := by have := c.toNat_lt; omega
 obtain ⟨Z, HZ⟩ : ∃ Z, Hid (Z = hexV c) := ⟨_, rfl⟩; rw [← HZ.out]
 cases hD : Nm.digB c with
 | true =>
   have hr : 48 ≤ c.toNat ∧ c.toNat ≤ 57 := by simp [Nm.digB] at hD; omega
   have h1 : (48 : Int) ≤ (c.toNat : Int) := by omega
   have h2 : (c.toNat : Int) ≤ 57 := by omega
   have HN : Hid (Z = (c.toNat : Int) - 48) := by show _ = _; rw [HZ.out, hexV, if_pos hD]
   rw [hD] at hdig; clear hD hr; go_enter Tryz.func38, Tryz.ntmps38; go_wp2_with (go_at_call 79; refine (hdig _).mono ?_; rintro e w1 ⟨rfl, hw⟩; obtain rfl : w = w1 := hw.symm; clear hw)
   go_ret; rw [HN.out]
   exact ⟨rfl, rfl⟩
 | false =>
   rw [hD] at hdig
   by_cases g1 : 97 ≤ c.toNat
   · by_cases g2 : c.toNat ≤ 102
     · have h1 : (97 : Int) ≤ (c.toNat : Int) := by omega
       have h2 : (c.toNat : Int) ≤ 102 := by omega
       have HN : Hid (Z = (c.toNat : Int) - 97 + 10) := by show _ = _; rw [HZ.out, hexV, if_neg (by simp [hD]), if_pos ⟨g1, g2⟩]
       clear hD; go_enter Tryz.func38, Tryz.ntmps38; go_wp2_with (go_at_call 79; refine (hdig _).mono ?_; rintro e w1 ⟨rfl, hw⟩; obtain rfl : w = w1 := hw.symm; clear hw)
       go_ret; rw [HN.out]; exact ⟨rfl, rfl⟩
     · have h1 : (97 : Int) ≤ (c.toNat : Int) := by omega
       have h2 : (102 : Int) < (c.toNat : Int) := by omega
       have d2 : decide ((c.toNat : Int) ≤ 102) = false := by simp; omega
       have d3 : decide ((c.toNat : Int) ≤ 70) = false := by simp; omega
       have HN : Hid (Z = -1) := by show _ = _; rw [HZ.out, hexV, if_neg (by simp [hD]), if_neg (by omega), if_neg (by omega)]
       clear hD; go_enter Tryz.func38, Tryz.ntmps38; go_wp2_with (go_at_call 79; refine (hdig _).mono ?_; rintro e w1 ⟨rfl, hw⟩; obtain rfl : w = w1 := hw.symm; clear hw)
       go_ret; rw [HN.out]; exact ⟨rfl, rfl⟩
   · have d1 : decide ((97 : Int) ≤ (c.toNat : Int)) = false := by simp; omega
     by_cases g3 : 65 ≤ c.toNat
     · by_cases g4 : c.toNat ≤ 70
       · have h1 : (65 : Int) ≤ (c.toNat : Int) := by omega
         have h2 : (c.toNat : Int) ≤ 70 := by omega
         have HN : Hid (Z = (c.toNat : Int) - 65 + 10) := by show _ = _; rw [HZ.out, hexV, if_neg (by simp [hD]), if_neg (by omega), if_pos ⟨g3, g4⟩]
         clear hD; go_enter Tryz.func38, Tryz.ntmps38; go_wp2_with (go_at_call 79; refine (hdig _).mono ?_; rintro e w1 ⟨rfl, hw⟩; obtain rfl : w = w1 := hw.symm; clear hw)
         go_ret; rw [HN.out]; exact ⟨rfl, rfl⟩
       · have h1 : (65 : Int) ≤ (c.toNat : Int) := by omega
         have h2 : (70 : Int) < (c.toNat : Int) := by omega
         have d2 : decide ((c.toNat : Int) ≤ 70) = false := by simp; omega
         have HN : Hid (Z = -1) := by show _ = _; rw [HZ.out, hexV, if_neg (by simp [hD]), if_neg (by omega), if_neg (by omega)]
         clear hD; go_enter Tryz.func38, Tryz.ntmps38; go_wp2_with (go_at_call 79; refine (hdig _).mono ?_; rintro e w1 ⟨rfl, hw⟩; obtain rfl : w = w1 := hw.symm; clear hw)
         go_ret; rw [HN.out]; exact ⟨rfl, rfl⟩
     · have h1 : (c.toNat : Int) < 65 := by omega
       have d2 : decide ((65 : Int) ≤ (c.toNat : Int)) = false := by simp; omega
       have HN : Hid (Z = -1) := by show _ = _; rw [HZ.out, hexV, if_neg (by simp [hD]), if_neg (by omega), if_neg (by omega)]
       clear hD; go_enter Tryz.func38, Tryz.ntmps38; go_wp2_with (go_at_call 79; refine (hdig _).mono ?_; rintro e w1 ⟨rfl, hw⟩; obtain rfl : w = w1 := hw.symm; clear hw)
       go_ret; rw [HN.out]; exact ⟨rfl, rfl⟩
end Go.Proofs.YtddabafaejahbaaGreatDoor
/- spec.l03Groups by its contract. -/
namespace Go.Proofs.YtddabafaejahbaaGreatDoor
open Go.RowKit
/-- What l03Groups tells. -/
def grpV (o : Option (List UInt8)) : Value := .tuple #[.string ⟨(o.getD []).toArray⟩, .bool o.isSome]
theorem part_v4 {p : ByteArray} (h : (readV4S p).2 = 0) : gPart p true = some (readV4S p).1.data.toList := by rw [gPart, if_pos ⟨rfl, h⟩]
theorem part_hex {p : ByteArray} {b : Bool} (h : ¬ (b = true ∧ (readV4S p).2 = 0)) : gPart p b = (grpO p).map put2 := by rw [gPart, if_neg h]
theorem v4_code (p : ByteArray) : (readV4S p).2 = 0 ∨ (readV4S p).2 = 7 := by
 unfold readV4S; split
 · split <;> simp
 · simp
theorem cat_string (o b : List UInt8) : (⟨o.toArray⟩ : ByteArray) ++ ⟨b.toArray⟩ = ⟨(o ++ b).toArray⟩ := by
 apply Nm.ba_ext; simp
set_option maxRecDepth 100000 in
set_option maxHeartbeats 4000000 in
theorem l03Groups_any (s : ByteArray) (last : Bool) (w : World) (hs : s.size ≤ 200) :
 Calls Tryz.prog 84 #[.string s, .bool last] w fun e w' => e = .returned (grpV (groupsS s last)) ∧ Below w.heap.size w w' := by
 obtain ⟨R, HR⟩ : ∃ R, Hid (R = grpV (groupsS s last)) := ⟨_, rfl⟩; rw [← HR.out]
 by_cases h0 : s.size = 0
 · have HN : Hid (R = .tuple #[.string ⟨#[]⟩, .bool true]) := by show _ = _; rw [HR.out, groupsS, if_pos h0]; rfl
   obtain ⟨he, _⟩ := beq_empty (s := s) h0; go_enter Tryz.func84, Tryz.ntmps84; go_wp2; go_ret2; rw [HN.out]; exact ⟨rfl, Below.refl _ _⟩
 obtain ⟨he, _⟩ := not_empty (s := s) (by omega); have hcut := l03Cut_any s 58 w (by omega); rw [show (((58 : UInt8).toNat : Nat) : Int) = 58 from rfl] at hcut; have HG : Hid (R = grpV (gFrom last (cutB s 58))) := by show _ = _; rw [HR.out, groupsS, if_neg h0]
 have hle := cutB_le s 58
 have hsizes : ∀ (k : Nat) (p : ByteArray), (cutB s 58)[k]? = some p → p.size ≤ 201 := by
  intro k p hp; have h1 : p.data.toList ∈ cutP 58 s.data.toList := by rw [← cutB_data]; exact List.mem_map.2 ⟨p, List.mem_of_getElem? hp, rfl⟩
  have h2 := cutP_sum 58 s.data.toList
  have h3 : ∀ (l : List (List UInt8)) (x : List UInt8), x ∈ l → x.length ≤ (l.map List.length).sum := by
   intro l
   induction l with
   | nil => intro x hx; cases hx
   | cons y r ih =>
     intro x hx
     rcases List.mem_cons.1 hx with e | e
     · subst e; simp
     · have := ih x e; simp; omega
  have h4 := h3 _ _ h1; have h5 : p.data.toList.length = p.size := by simp
  have h6 : s.data.toList.length = s.size := by simp
  omega
 have hpos : 1 ≤ (cutB s 58).length := by
  rw [cutB_len]; obtain ⟨h, t, e⟩ := cutP_ne 58 s.data.toList; rw [e]; simp
 have hst := Nm.hide (g_start last (cutB s 58)); clear HR; generalize cutB s 58 = ls at *; go_enter Tryz.func84, Tryz.ntmps84; go_wp2_with (go_at_call 82; refine hcut.mono ?_; rintro e w1 ⟨v, rfl, hown1, hb1⟩; refine Hid.out ?_)
 have hb1s := hb1.size; obtain ⟨a, cap, rfl, hcap, hmx, hnl, hc⟩ := Nm.SRow.of_owns hown1; obtain ⟨b, off, rfl, hcell⟩ := hc (by intro e; rw [e] at hpos; simp at hpos); clear hown1 hc hnl hcut; refine Nm.hide ?_; go_wp2
 go_loopw [7, 8] (fun v i wr => ∃ (k : Nat) (o : List UInt8), k ≤ ls.length ∧ i = .int .i64 (k : Int) ∧ v = .string ⟨o.toArray⟩ ∧ o.length ≤ 4 * k ∧ Hid (GAt last ls k o) ∧ Below w1.heap.size w1 wr)
  (fun _ i _ => ls.length - (intOf i).toNat)
 case atStart => exact ⟨0, [], by omega, rfl, rfl, by simp, hst, Below.refl _ _⟩
 case round =>
  obtain ⟨k, o, hk, rfl, rfl, hol, HA, hbel⟩ := hrel; clear hst
  by_cases hlt : k < ls.length
  · have hlt' : (k : Int) < (ls.length : Int) := by omega
    obtain ⟨p, hp⟩ : ∃ p, ls[k]? = some p := ⟨_, List.getElem?_eq_getElem hlt⟩; have hps := hsizes k p hp
    have hcp : ∀ W, Below wr.heap.size wr W → W.cell? ⟨b, off + k, none⟩ = some (.string p) := fun W hW => by
     have h1 : wr.cell? ⟨b, off + k, none⟩ = some (.string p) := (hbel.cell (World.block_lt_of_cell? w1 _ (hcell k p hp))).trans (hcell k p hp); exact (hW.cell (World.block_lt_of_cell? wr _ h1)).trans h1
    have hc0 := hcp wr (Below.refl _ _); have hv4 := specReadV4_any p wr (by omega); simp only [strV] at hv4; have HNX : Hid (∀ bb, gPart p (last && decide (k + 1 = ls.length)) = some bb → GAt last ls (k + 1) (o ++ bb)) := fun bb hbb => g_next HA.out hp hbb
    have HBD : Hid (gPart p (last && decide (k + 1 = ls.length)) = none → R = .tuple #[.string ⟨#[]⟩, .bool false]) := fun hbb => by rw [HG.out, g_bad HA.out hp hbb]; rfl
    rcases v4_code p with hc4 | hc4
    · cases last with
      | false =>
        have HP : Hid (gPart p (false && decide (k + 1 = ls.length)) = (grpO p).map put2) := part_hex (by simp); rw [hc4] at hv4; generalize (readV4S p).1 = F at *
        by_cases hp1 : p.size < 1
        · have HN : Hid (R = .tuple #[.string ⟨#[]⟩, .bool false]) := HBD.out (by rw [HP.out, grpO_len (by omega)]; rfl); have hp1' : (p.size : Int) < 1 := by omega
          clear HNX HBD HP HA HG hsizes; generalize (⟨o.toArray⟩ : ByteArray) = O at *; go_wp2_with (go_at_call 42; refine hv4.mono ?_; rintro e w2 ⟨rfl, hb2⟩; have hc2 := hcp w2 hb2; clear hcp)
          go_ret2; rw [HN.out]; exact ⟨rfl, Nm.below_two hb1 (Nm.below_two hbel hb2)⟩
        have hp1' : (1 : Int) ≤ (p.size : Int) := by omega
        by_cases hp4 : 4 < p.size
        · have HN : Hid (R = .tuple #[.string ⟨#[]⟩, .bool false]) := HBD.out (by rw [HP.out, grpO_len (by omega)]; rfl); have hp4' : (4 : Int) < (p.size : Int) := by omega
          clear HNX HBD HP HA HG hsizes; generalize (⟨o.toArray⟩ : ByteArray) = O at *; go_wp2_with (go_at_call 42; refine hv4.mono ?_; rintro e w2 ⟨rfl, hb2⟩; have hc2 := hcp w2 hb2; clear hcp)
          go_ret2; rw [HN.out]; exact ⟨rfl, Nm.below_two hb1 (Nm.below_two hbel hb2)⟩
        have hp4' : (p.size : Int) ≤ 4 := by omega
        obtain ⟨O, HO⟩ : ∃ O, Hid (O = (⟨o.toArray⟩ : ByteArray)) := ⟨_, rfl⟩; have hOs : O.size = o.length := by rw [HO.out]; rfl
        rw [← HO.out]; go_wp2_with (go_at_call 42; refine hv4.mono ?_; rintro e w2 ⟨rfl, hb2⟩; have hc2 := hcp w2 hb2; clear hcp)
        go_loop [11, 12] (fun u v => ∃ (j : Nat) (m : Int), j ≤ p.size ∧ v = .int .i64 (j : Int) ∧ u = .int .i64 m ∧ Hid (m = ((hexN (p.data.toList.take j) : Nat) : Int)) ∧ 0 ≤ m ∧ m < 65536 ∧ Hid (∀ i, i < j → (hi : i < p.size) → 0 ≤ hexV p[i])) (fun _ v => p.size - (intOf v).toNat)
        case atStart => exact ⟨0, 0, Nat.zero_le _, rfl, rfl, rfl, by omega, by omega, fun i h => by omega⟩
        case round =>
         obtain ⟨j, m, hj, rfl, rfl, HM, hm0, hm1, HX⟩ := hrel
         by_cases hjl : j < p.size
         · have hjl' : (j : Int) < (p.size : Int) := by omega
           have hc256 : (p[j].toNat : Int) < 256 := by have := p[j].toNat_lt; omega
           have hhx := l03Hex_any p[j]; have hvl := hexV_lt p[j]; have hnl := hexN_small (l := p.data.toList.take j) (by simp; omega)
           by_cases hneg : hexV p[j] < 0
           · have HN : Hid (R = .tuple #[.string ⟨#[]⟩, .bool false]) := HBD.out (by rw [HP.out, grpO_bad hjl hneg]; rfl); clear HNX HBD HP HA HG hsizes; generalize hexV p[j] = h at *; clear hnl hvl HM; go_wp2_with (go_at_call 38; refine (hhx _).mono ?_; rintro e w3 ⟨rfl, hw⟩; obtain rfl : w2 = w3 := hw.symm; clear hw)
             go_ret2; rw [HN.out]; exact ⟨rfl, Nm.below_two hb1 (Nm.below_two hbel hb2)⟩
           · have hnn : 0 ≤ hexV p[j] := by omega
             have HX2 : Hid (∀ i, i < j + 1 → (hi : i < p.size) → 0 ≤ hexV p[i]) := by
              show ∀ i, _
              intro i hij hip
              by_cases e : i = j
              · subst e; exact hnn
              · exact HX.out i (by omega) hip
             have HV : Hid (m * 16 + hexV p[j] = ((hexN (p.data.toList.take (j + 1)) : Nat) : Int) ∧ m * 16 + hexV p[j] < 65536) := by
              show _ ∧ _
              have hnl2 := hexN_small (l := p.data.toList.take (j + 1)) (by simp; omega); have hmm := HM.out; have e1 : hexN (p.data.toList.take (j + 1)) = hexN (p.data.toList.take j) * 16 + (hexV p[j]).toNat := by rw [show p.data.toList.take (j + 1) = p.data.toList.take j ++ [p[j]] from Nm.take_step (Nm.get_data hjl), hexN_snoc]
              omega
             clear HX; generalize hexV p[j] = h at *; have hh16 : h < 16 := hvl.1; have hmh : m * 16 + h < 65536 := HV.out.2; clear hnl hvl HM hneg; go_wp2_with (go_at_call 38; refine (hhx _).mono ?_; rintro e w3 ⟨rfl, hw⟩; obtain rfl : w2 = w3 := hw.symm; clear hw)
             go_round
             case rel => exact ⟨j + 1, m * 16 + h, by omega, by go_num, by go_num, HV.out.1, by omega, HV.out.2, HX2⟩
             case measure => simp [intOf]; omega
         · have hje : j = p.size := by omega
           subst hje; have hjl' : (p.size : Int) ≤ (p.size : Int) := by omega
           have et : p.data.toList.take p.size = p.data.toList := List.take_of_length_le (by simp); have hg := grpO_good (by omega) (by omega) (fun i hi => HX.out i hi hi); rw [et] at HM; have hN := hexN_small (l := p.data.toList) (by simp; omega); have HN := Nm.hide (HNX.out (put2 (hexN p.data.toList)) (by rw [HP.out, hg]; rfl)); have hpt := l02Put2_any (hexN p.data.toList) w2 hN; rw [← HM.out] at hpt; have HC : Hid (O ++ ⟨(put2 (hexN p.data.toList)).toArray⟩ = ⟨(o ++ put2 (hexN p.data.toList)).toArray⟩) := by show _ = _; rw [HO.out]; exact cat_string _ _
           have hl2 : (⟨(put2 (hexN p.data.toList)).toArray⟩ : ByteArray).size = 2 := rfl; have hl3 : (o ++ put2 (hexN p.data.toList)).length = o.length + 2 := by rw [List.length_append]; rfl
           generalize put2 (hexN p.data.toList) = Q at *; generalize (⟨Q.toArray⟩ : ByteArray) = QS at *; clear HNX HBD HP HA HG hsizes hg et HX HM hN; go_wp2_with (go_at_call 45; refine hpt.mono ?_; rintro e w4 ⟨rfl, hb4⟩)
           go_roundw
           case rel => exact ⟨k + 1, o ++ Q, by omega, by go_num, by rw [← HC.out], by omega, HN, Nm.below_two hbel (Nm.below_two hb2 hb4)⟩
           case measure => simp [intOf]; omega
      | true =>
        by_cases hkl : k + 1 = ls.length
        · have HP : Hid (gPart p (true && decide (k + 1 = ls.length)) = some (readV4S p).1.data.toList) := by show _ = _; rw [decide_eq_true hkl]; exact part_v4 hc4
          have hq : ((k : Int) == (ls.length : Int) - 1) = true := by rw [beq_iff_eq]; omega
          have hf4 := v4_four hc4; have HN := Nm.hide (HNX.out _ HP.out); rw [hc4] at hv4; obtain ⟨O, HO⟩ : ∃ O, Hid (O = (⟨o.toArray⟩ : ByteArray)) := ⟨_, rfl⟩; have hOs : O.size = o.length := by rw [HO.out]; rfl
          have hFs : (readV4S p).1.size = 4 := by rw [← hf4]; simp
          have HC : Hid (O ++ (readV4S p).1 = ⟨(o ++ (readV4S p).1.data.toList).toArray⟩) := by show _ = _; rw [HO.out, ← cat_string]
          have hl3 : (o ++ (readV4S p).1.data.toList).length = o.length + 4 := by rw [List.length_append, hf4]
          rw [← HO.out]; generalize o ++ (readV4S p).1.data.toList = Q at *; generalize (readV4S p).1 = F at *; clear HNX HBD HP HA HG hsizes hf4; go_wp2_with (go_at_call 42; refine hv4.mono ?_; rintro e w2 ⟨rfl, hb2⟩; have hc2 := hcp w2 hb2; clear hcp)
          go_roundw
          case rel => exact ⟨k + 1, Q, by omega, by go_num, by rw [← HC.out], by omega, HN, Nm.below_two hbel hb2⟩
          case measure => simp [intOf]; omega
        · have HP : Hid (gPart p (true && decide (k + 1 = ls.length)) = (grpO p).map put2) := by show _ = _; rw [decide_eq_false hkl]; exact part_hex (by simp)
          have hq : ((k : Int) == (ls.length : Int) - 1) = false := by rw [beq_eq_false_iff_ne]; omega
          rw [hc4] at hv4; generalize (readV4S p).1 = F at *
          by_cases hp1 : p.size < 1
          · have HN : Hid (R = .tuple #[.string ⟨#[]⟩, .bool false]) := HBD.out (by rw [HP.out, grpO_len (by omega)]; rfl); have hp1' : (p.size : Int) < 1 := by omega
            clear HNX HBD HP HA HG hsizes; generalize (⟨o.toArray⟩ : ByteArray) = O at *; go_wp2_with (go_at_call 42; refine hv4.mono ?_; rintro e w2 ⟨rfl, hb2⟩; have hc2 := hcp w2 hb2; clear hcp)
            go_ret2; rw [HN.out]; exact ⟨rfl, Nm.below_two hb1 (Nm.below_two hbel hb2)⟩
          have hp1' : (1 : Int) ≤ (p.size : Int) := by omega
          by_cases hp4 : 4 < p.size
          · have HN : Hid (R = .tuple #[.string ⟨#[]⟩, .bool false]) := HBD.out (by rw [HP.out, grpO_len (by omega)]; rfl); have hp4' : (4 : Int) < (p.size : Int) := by omega
            clear HNX HBD HP HA HG hsizes; generalize (⟨o.toArray⟩ : ByteArray) = O at *; go_wp2_with (go_at_call 42; refine hv4.mono ?_; rintro e w2 ⟨rfl, hb2⟩; have hc2 := hcp w2 hb2; clear hcp)
            go_ret2; rw [HN.out]; exact ⟨rfl, Nm.below_two hb1 (Nm.below_two hbel hb2)⟩
          have hp4' : (p.size : Int) ≤ 4 := by omega
          obtain ⟨O, HO⟩ : ∃ O, Hid (O = (⟨o.toArray⟩ : ByteArray)) := ⟨_, rfl⟩; have hOs : O.size = o.length := by rw [HO.out]; rfl
          rw [← HO.out]; go_wp2_with (go_at_call 42; refine hv4.mono ?_; rintro e w2 ⟨rfl, hb2⟩; have hc2 := hcp w2 hb2; clear hcp)
          go_loop [11, 12] (fun u v => ∃ (j : Nat) (m : Int), j ≤ p.size ∧ v = .int .i64 (j : Int) ∧ u = .int .i64 m ∧ Hid (m = ((hexN (p.data.toList.take j) : Nat) : Int)) ∧ 0 ≤ m ∧ m < 65536 ∧ Hid (∀ i, i < j → (hi : i < p.size) → 0 ≤ hexV p[i])) (fun _ v => p.size - (intOf v).toNat)
          case atStart => exact ⟨0, 0, Nat.zero_le _, rfl, rfl, rfl, by omega, by omega, fun i h => by omega⟩
          case round =>
           obtain ⟨j, m, hj, rfl, rfl, HM, hm0, hm1, HX⟩ := hrel
           by_cases hjl : j < p.size
           · have hjl' : (j : Int) < (p.size : Int) := by omega
             have hc256 : (p[j].toNat : Int) < 256 := by have := p[j].toNat_lt; omega
             have hhx := l03Hex_any p[j]; have hvl := hexV_lt p[j]; have hnl := hexN_small (l := p.data.toList.take j) (by simp; omega)
             by_cases hneg : hexV p[j] < 0
             · have HN : Hid (R = .tuple #[.string ⟨#[]⟩, .bool false]) := HBD.out (by rw [HP.out, grpO_bad hjl hneg]; rfl); clear HNX HBD HP HA HG hsizes; generalize hexV p[j] = h at *; clear hnl hvl HM; go_wp2_with (go_at_call 38; refine (hhx _).mono ?_; rintro e w3 ⟨rfl, hw⟩; obtain rfl : w2 = w3 := hw.symm; clear hw)
               go_ret2; rw [HN.out]; exact ⟨rfl, Nm.below_two hb1 (Nm.below_two hbel hb2)⟩
             · have hnn : 0 ≤ hexV p[j] := by omega
               have HX2 : Hid (∀ i, i < j + 1 → (hi : i < p.size) → 0 ≤ hexV p[i]) := by
                show ∀ i, _
                intro i hij hip
                by_cases e : i = j
                · subst e; exact hnn
                · exact HX.out i (by omega) hip
               have HV : Hid (m * 16 + hexV p[j] = ((hexN (p.data.toList.take (j + 1)) : Nat) : Int) ∧ m * 16 + hexV p[j] < 65536) := by
                show _ ∧ _
                have hnl2 := hexN_small (l := p.data.toList.take (j + 1)) (by simp; omega); have hmm := HM.out; have e1 : hexN (p.data.toList.take (j + 1)) = hexN (p.data.toList.take j) * 16 + (hexV p[j]).toNat := by rw [show p.data.toList.take (j + 1) = p.data.toList.take j ++ [p[j]] from Nm.take_step (Nm.get_data hjl), hexN_snoc]
                omega
               clear HX; generalize hexV p[j] = h at *; have hh16 : h < 16 := hvl.1; have hmh : m * 16 + h < 65536 := HV.out.2; clear hnl hvl HM hneg; go_wp2_with (go_at_call 38; refine (hhx _).mono ?_; rintro e w3 ⟨rfl, hw⟩; obtain rfl : w2 = w3 := hw.symm; clear hw)
               go_round
               case rel => exact ⟨j + 1, m * 16 + h, by omega, by go_num, by go_num, HV.out.1, by omega, HV.out.2, HX2⟩
               case measure => simp [intOf]; omega
           · have hje : j = p.size := by omega
             subst hje; have hjl' : (p.size : Int) ≤ (p.size : Int) := by omega
             have et : p.data.toList.take p.size = p.data.toList := List.take_of_length_le (by simp); have hg := grpO_good (by omega) (by omega) (fun i hi => HX.out i hi hi); rw [et] at HM; have hN := hexN_small (l := p.data.toList) (by simp; omega); have HN := Nm.hide (HNX.out (put2 (hexN p.data.toList)) (by rw [HP.out, hg]; rfl)); have hpt := l02Put2_any (hexN p.data.toList) w2 hN; rw [← HM.out] at hpt; have HC : Hid (O ++ ⟨(put2 (hexN p.data.toList)).toArray⟩ = ⟨(o ++ put2 (hexN p.data.toList)).toArray⟩) := by show _ = _; rw [HO.out]; exact cat_string _ _
             have hl2 : (⟨(put2 (hexN p.data.toList)).toArray⟩ : ByteArray).size = 2 := rfl; have hl3 : (o ++ put2 (hexN p.data.toList)).length = o.length + 2 := by rw [List.length_append]; rfl
             generalize put2 (hexN p.data.toList) = Q at *; generalize (⟨Q.toArray⟩ : ByteArray) = QS at *; clear HNX HBD HP HA HG hsizes hg et HX HM hN; go_wp2_with (go_at_call 45; refine hpt.mono ?_; rintro e w4 ⟨rfl, hb4⟩)
             go_roundw
             case rel => exact ⟨k + 1, o ++ Q, by omega, by go_num, by rw [← HC.out], by omega, HN, Nm.below_two hbel (Nm.below_two hb2 hb4)⟩
             case measure => simp [intOf]; omega
    · have HP : Hid (gPart p (last && decide (k + 1 = ls.length)) = (grpO p).map put2) := part_hex (fun h => by rw [hc4] at h; exact absurd h.2 (by decide)); rw [hc4] at hv4; generalize (readV4S p).1 = F at *
      by_cases hp1 : p.size < 1
      · have HN : Hid (R = .tuple #[.string ⟨#[]⟩, .bool false]) := HBD.out (by rw [HP.out, grpO_len (by omega)]; rfl); have hp1' : (p.size : Int) < 1 := by omega
        clear HNX HBD HP HA HG hsizes; generalize (⟨o.toArray⟩ : ByteArray) = O at *; go_wp2_with (go_at_call 42; refine hv4.mono ?_; rintro e w2 ⟨rfl, hb2⟩; have hc2 := hcp w2 hb2; clear hcp)
        go_ret2; rw [HN.out]; exact ⟨rfl, Nm.below_two hb1 (Nm.below_two hbel hb2)⟩
      have hp1' : (1 : Int) ≤ (p.size : Int) := by omega
      by_cases hp4 : 4 < p.size
      · have HN : Hid (R = .tuple #[.string ⟨#[]⟩, .bool false]) := HBD.out (by rw [HP.out, grpO_len (by omega)]; rfl); have hp4' : (4 : Int) < (p.size : Int) := by omega
        clear HNX HBD HP HA HG hsizes; generalize (⟨o.toArray⟩ : ByteArray) = O at *; go_wp2_with (go_at_call 42; refine hv4.mono ?_; rintro e w2 ⟨rfl, hb2⟩; have hc2 := hcp w2 hb2; clear hcp)
        go_ret2; rw [HN.out]; exact ⟨rfl, Nm.below_two hb1 (Nm.below_two hbel hb2)⟩
      have hp4' : (p.size : Int) ≤ 4 := by omega
      obtain ⟨O, HO⟩ : ∃ O, Hid (O = (⟨o.toArray⟩ : ByteArray)) := ⟨_, rfl⟩; have hOs : O.size = o.length := by rw [HO.out]; rfl
      rw [← HO.out]; go_wp2_with (go_at_call 42; refine hv4.mono ?_; rintro e w2 ⟨rfl, hb2⟩; have hc2 := hcp w2 hb2; clear hcp)
      go_loop [11, 12] (fun u v => ∃ (j : Nat) (m : Int), j ≤ p.size ∧ v = .int .i64 (j : Int) ∧ u = .int .i64 m ∧ Hid (m = ((hexN (p.data.toList.take j) : Nat) : Int)) ∧ 0 ≤ m ∧ m < 65536 ∧ Hid (∀ i, i < j → (hi : i < p.size) → 0 ≤ hexV p[i])) (fun _ v => p.size - (intOf v).toNat)
      case atStart => exact ⟨0, 0, Nat.zero_le _, rfl, rfl, rfl, by omega, by omega, fun i h => by omega⟩
      case round =>
       obtain ⟨j, m, hj, rfl, rfl, HM, hm0, hm1, HX⟩ := hrel
       by_cases hjl : j < p.size
       · have hjl' : (j : Int) < (p.size : Int) := by omega
         have hc256 : (p[j].toNat : Int) < 256 := by have := p[j].toNat_lt; omega
         have hhx := l03Hex_any p[j]; have hvl := hexV_lt p[j]; have hnl := hexN_small (l := p.data.toList.take j) (by simp; omega)
         by_cases hneg : hexV p[j] < 0
         · have HN : Hid (R = .tuple #[.string ⟨#[]⟩, .bool false]) := HBD.out (by rw [HP.out, grpO_bad hjl hneg]; rfl); clear HNX HBD HP HA HG hsizes; generalize hexV p[j] = h at *; clear hnl hvl HM; go_wp2_with (go_at_call 38; refine (hhx _).mono ?_; rintro e w3 ⟨rfl, hw⟩; obtain rfl : w2 = w3 := hw.symm; clear hw)
           go_ret2; rw [HN.out]; exact ⟨rfl, Nm.below_two hb1 (Nm.below_two hbel hb2)⟩
         · have hnn : 0 ≤ hexV p[j] := by omega
           have HX2 : Hid (∀ i, i < j + 1 → (hi : i < p.size) → 0 ≤ hexV p[i]) := by
            show ∀ i, _
            intro i hij hip
            by_cases e : i = j
            · subst e; exact hnn
            · exact HX.out i (by omega) hip
           have HV : Hid (m * 16 + hexV p[j] = ((hexN (p.data.toList.take (j + 1)) : Nat) : Int) ∧ m * 16 + hexV p[j] < 65536) := by
            show _ ∧ _
            have hnl2 := hexN_small (l := p.data.toList.take (j + 1)) (by simp; omega); have hmm := HM.out; have e1 : hexN (p.data.toList.take (j + 1)) = hexN (p.data.toList.take j) * 16 + (hexV p[j]).toNat := by rw [show p.data.toList.take (j + 1) = p.data.toList.take j ++ [p[j]] from Nm.take_step (Nm.get_data hjl), hexN_snoc]
            omega
           clear HX; generalize hexV p[j] = h at *; have hh16 : h < 16 := hvl.1; have hmh : m * 16 + h < 65536 := HV.out.2; clear hnl hvl HM hneg; go_wp2_with (go_at_call 38; refine (hhx _).mono ?_; rintro e w3 ⟨rfl, hw⟩; obtain rfl : w2 = w3 := hw.symm; clear hw)
           go_round
           case rel => exact ⟨j + 1, m * 16 + h, by omega, by go_num, by go_num, HV.out.1, by omega, HV.out.2, HX2⟩
           case measure => simp [intOf]; omega
       · have hje : j = p.size := by omega
         subst hje; have hjl' : (p.size : Int) ≤ (p.size : Int) := by omega
         have et : p.data.toList.take p.size = p.data.toList := List.take_of_length_le (by simp); have hg := grpO_good (by omega) (by omega) (fun i hi => HX.out i hi hi); rw [et] at HM; have hN := hexN_small (l := p.data.toList) (by simp; omega); have HN := Nm.hide (HNX.out (put2 (hexN p.data.toList)) (by rw [HP.out, hg]; rfl)); have hpt := l02Put2_any (hexN p.data.toList) w2 hN; rw [← HM.out] at hpt; have HC : Hid (O ++ ⟨(put2 (hexN p.data.toList)).toArray⟩ = ⟨(o ++ put2 (hexN p.data.toList)).toArray⟩) := by show _ = _; rw [HO.out]; exact cat_string _ _
         have hl2 : (⟨(put2 (hexN p.data.toList)).toArray⟩ : ByteArray).size = 2 := rfl; have hl3 : (o ++ put2 (hexN p.data.toList)).length = o.length + 2 := by rw [List.length_append]; rfl
         generalize put2 (hexN p.data.toList) = Q at *; generalize (⟨Q.toArray⟩ : ByteArray) = QS at *; clear HNX HBD HP HA HG hsizes hg et HX HM hN; go_wp2_with (go_at_call 45; refine hpt.mono ?_; rintro e w4 ⟨rfl, hb4⟩)
         go_roundw
         case rel => exact ⟨k + 1, o ++ Q, by omega, by go_num, by rw [← HC.out], by omega, HN, Nm.below_two hbel (Nm.below_two hb2 hb4)⟩
         case measure => simp [intOf]; omega
  · have hke : k = ls.length := by omega
    have HN : Hid (R = .tuple #[.string ⟨o.toArray⟩, .bool true]) := by show _ = _; rw [HG.out, g_end HA.out (by omega)]; rfl
    have hlt' : (ls.length : Int) ≤ (k : Int) := by omega
    clear HA HG hsizes; generalize (⟨o.toArray⟩ : ByteArray) = O at *; go_wp2; go_ret2; rw [HN.out]; exact ⟨rfl, Nm.below_two hb1 hbel⟩
end Go.Proofs.YtddabafaejahbaaGreatDoor
