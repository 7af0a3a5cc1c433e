import Derived.Test.YtddabafaejahbaaGreatDoorJMath
import Derived.Test.YtddabafaejahbaaGreatDoorJRv1
import Derived.Test.YtddabafaejahbaaGreatDoorJTxt6A
import Derived.Test.YtddabafaejahbaaGreatDoorJWdP
import Derived.ChangeAgain
import Derived.Test.YtddabafaejahbaaGreatDoorJRf4
import Derived.Test.YtddabafaejahbaaGreatDoorJIBg
import Derived.Shelf.Strings.Builder1
import Derived.Shelf.Strings.Builder2
import Derived.Shelf.Strings.OnBuilder
import Derived.Shelf.Small.Strs
import Derived.Shelf.Utf8.RuneCount
import Derived.Shelf.Strconv.Itoa0
import Derived.Shelf.Strconv.Itoa1
import Derived.Shelf.LaysM
import Derived.Shelf.Strconv.Itoa2
import Derived.Shelf.Strconv.Itoa3
import Derived.Shelf.Strings.Search1
import Derived.Shelf.Strings.Search2
import Derived.Shelf.Strings.Search3
import Derived.Shelf.Strings.Cut
import Derived.Shelf.Strings.Count
import Derived.Shelf.Strings.Shaped
import Derived.Shelf.Strings.Split
import Derived.Shelf.Strings.SplitShaped
import Derived.Shelf.Unicode.Decode
import Derived.Shelf.Strings.RuneCount
import Derived.Shelf.Strings.Explode
import Derived.Shelf.Bits.Mul64
import Derived.Shelf.Unicode.DecodeSlow
import Derived.Shelf.Unicode.DecodeAny
import Derived.Ground.Names2Prog
import Derived.Shelf.Slices.SearchI
import Derived.Test.YtddabafaejahbaaGreatDoorProg
/- impl.ReadV4 by its contract. -/
namespace Go.Proofs.YtddabafaejahbaaGreatDoor
open Go.RowKit

theorem shaped_below {P : Program} {w w' : World} (h : w.ShapedOpen P) (hb : Below w.heap.size w w') : w'.ShapedOpen P :=
  h.keptBut (hb.frame (fun _ => False)) (fun _ hp => hp.elim)

/-- What strings.SplitN at five parts gives. -/
def Parts5 (s : ByteArray) (w w' : World) (v : Value) : Prop :=
  ∃ n cap, v = .slice (some ⟨w.heap.size, 0, none⟩) n cap ∧ (n = 4 ↔ (cutB s 46).length = 4) ∧ n ≤ cap ∧ cap ≤ 5 ∧ ((cutB s 46).length = 4 → ∀ (k : Nat) (x : ByteArray), (cutB s 46)[k]? = some x → w'.cell? ⟨w.heap.size, k, none⟩ = some (.string x))
theorem splitN5_any (s : ByteArray) (w : World) (hsh : w.ShapedOpen Tryz.prog) (hs : s.size ≤ 2000000) :
    Calls Tryz.prog 115 #[.string s, .string ⟨#[46]⟩, .int .i64 5] w fun e w' => ∃ v, e = .returned v ∧ Parts5 s w w' v ∧ Below w.heap.size w w' := by
  refine (Tryz.strings_SplitN_shaped s ⟨#[46]⟩ 5 w hsh (by omega) (by decide) (by decide) (by decide)).mono ?_
  rintro e w' ⟨rfl, rfl⟩
  have hl := splitB_len s 46 (min 5 (s.size + 1) - 1)
  have hc := cutB_le s 46
  have hpos : 1 ≤ (cutB s 46).length := by
    rw [cutB_len]
    obtain ⟨h, t, e⟩ := cutP_ne 46 s.data.toList
    rw [e]; simp
  refine ⟨_, rfl, ⟨_, _, rfl, ?_, ?_, ?_, ?_⟩, (Below.refl _ _).alloc (Nat.le_refl _) _⟩
  · rw [hl]; omega
  · rw [hl]; omega
  · omega
  · intro h4 k x hx
    have e : Lib.splitB ⟨#[46]⟩ 0 (min 5 (s.size + 1) - 1) s = cutB s 46 := splitB_cut (by omega)
    rw [e]
    have hk : k < (cutB s 46).length := (List.getElem?_eq_some_iff.1 hx).1
    have hcell : ∀ (o : Array Value) (t : TypeId), (w.alloc (.cells o t)).cell? ⟨w.heap.size, k, none⟩ = o[k]? := fun o t => cell_of_row _ _ k o t (0, 0) (heap_alloc_new w _)
    rw [hcell]
    unfold Lib.cellsOf
    rw [List.getElem?_toArray, List.getElem?_append_left (by simpa using hk), List.getElem?_map, hx]
    rfl

set_option maxRecDepth 100000 in
set_option maxHeartbeats 4000000 in
theorem implReadV4_any (s : ByteArray) (w : World) (hsh : w.ShapedOpen Tryz.prog) (hs : s.size ≤ 2000000) :
    Calls Tryz.prog 64 #[.string s] w fun e w' => e = .returned (strV (readV4S s)) ∧ Below w.heap.size w w' := by
  obtain ⟨R, HR⟩ : ∃ R, Hid (R = strV (readV4S s)) := ⟨_, rfl⟩
  rw [← HR.out]
  obtain ⟨i0, hi, hz0, hz1, hz2⟩ := info_parts Tryz.infoU8x
  have hcut := splitN5_any s w hsh hs
  clear hsh
  by_cases h4 : (cutB s 46).length = 4
  · have hst := Nm.hide (v4_start (cutB s 46))
    have HBAD : Hid (∀ k o p, V4At (cutB s 46) k o → (cutB s 46)[k]? = some p → v4Part p = none → R = .tuple #[.string ⟨#[]⟩, .int .i64 7]) := fun k o p h1 h2 h3 => by rw [HR.out, v4_bad h1 h2 h3]; rfl
    have HEND : Hid (∀ o, V4At (cutB s 46) 4 o → R = .tuple #[.string ⟨o.toArray⟩, .int .i64 0]) := fun o h1 => by rw [HR.out, v4_end h4 h1]; rfl
    clear HR
    unfold Parts5 at hcut
    generalize cutB s 46 = ls at *
    go_enter Tryz.func64, Tryz.ntmps64
    go_wp2_with (go_at_call 115; refine hcut.mono ?_; rintro e w1 ⟨v, rfl, ⟨n0, cap, rfl, hn4, hnc, hcap, hcell⟩, hb1⟩; refine Hid.out ?_)
    obtain rfl : n0 = 4 := hn4.2 h4
    have hcell := hcell h4
    have HH4 := Nm.hide h4
    have hb1s := hb1.size
    have hcap' : 4 ≤ cap := hnc
    clear hn4 h4 hcut hnc
    refine Nm.hide ?_
    go_wp2
    go_loopw [5, 17] (fun v i wr => ∃ (k : Nat) (l : List UInt8), k ≤ 4 ∧ i = .int .i64 k ∧ Hid (l.length = k) ∧ Hid (V4At ls k l) ∧ wr.ownsRow w1.heap.size 5 1 v k (Nm.bys l) ∧ Below w1.heap.size w1 wr)
      (fun _ i _ => 4 - (intOf i).toNat)
    case atStart => exact ⟨0, [], by omega, rfl, rfl, hst, World.ownsRow_nil _ _ _ _, Below.refl _ _⟩
    case round =>
      obtain ⟨k, l, hk, rfl, HL, HV, hown, hbel⟩ := hrel
      clear hst
      have hsz := hbel.size
      by_cases hlt : k < 4
      · have hlt' : (k : Int) < 4 := by omega
        obtain ⟨p, hp⟩ : ∃ p, ls[k]? = some p := ⟨_, List.getElem?_eq_getElem (by rw [HH4.out]; exact hlt)⟩
        have hcp : wr.cell? ⟨w.heap.size, k, none⟩ = some (.string p) := (hbel.cell (World.block_lt_of_cell? w1 _ (hcell k p hp))).trans (hcell k p hp)
        have hnum := fun W => readNumber_any p 3 W (by decide)
        rw [show ((3 : Nat) : Int) = 3 from rfl] at hnum
        cases hn : numO p 3 with
        | none =>
          have HN : Hid (R = .tuple #[.string ⟨#[]⟩, .int .i64 7]) := HBAD.out k l p HV.out hp (part_none hn)
          rw [hn] at hnum
          simp only [numV, Option.getD_none, Option.isSome_none] at hnum
          clear hn hp hown HV
          go_wp2_with (go_at_call 53; refine (hnum _).mono ?_; rintro e w3 ⟨rfl, hw⟩; obtain rfl : wr = w3 := hw.symm; clear hw)
          go_ret2
          rw [HN.out]
          exact ⟨rfl, Nm.below_two hb1 hbel⟩
        | some n =>
          have hpos := num_pos hn
          have HD := Nm.hide (dec_iff hn hpos)
          rw [hn] at hnum
          simp only [numV, Option.getD_some, Option.isSome_some] at hnum
          by_cases hbig : 255 < n
          · have HN : Hid (R = .tuple #[.string ⟨#[]⟩, .int .i64 7]) := HBAD.out k l p HV.out hp (part_big hn hbig)
            have hbig' : 255 < (n : Int) := by omega
            clear hn hp hown HV
            go_wp2_with (go_at_call 53; refine (hnum _).mono ?_; rintro e w3 ⟨rfl, hw⟩; obtain rfl : wr = w3 := hw.symm; clear hw)
            go_ret2
            rw [HN.out]
            exact ⟨rfl, Nm.below_two hb1 hbel⟩
          · have hle' : (n : Int) ≤ 255 := by omega
            have HB : Hid (((UInt8.ofNat n).toNat : Int) = (n : Int)) := by show _ = _; simp; omega
            have hc0 : (p[0].toNat : Int) < 256 := by have := p[0].toNat_lt; omega
            by_cases he : 1 < p.size ∧ p[0].toNat = 48
            · have HN : Hid (R = .tuple #[.string ⟨#[]⟩, .int .i64 7]) := HBAD.out k l p HV.out hp (part_not hn (fun e => (HD.out.1 e) he))
              have g1 : (1 : Int) < (p.size : Int) := by omega
              have g2 : ((p[0].toNat : Int) == 48) = true := by rw [beq_iff_eq]; omega
              clear hn hp hown HV he
              go_wp2_with (go_at_call 53; refine (hnum _).mono ?_; rintro e w3 ⟨rfl, hw⟩; obtain rfl : wr = w3 := hw.symm; clear hw)
              go_ret2
              rw [HN.out]
              exact ⟨rfl, Nm.below_two hb1 hbel⟩
            · have HN := Nm.hide (v4_next HV.out hp (part_some hn (by omega) (HD.out.2 he)))
              have HL2 : Hid ((l ++ [UInt8.ofNat n]).length = k + 1) := by show _ = _; rw [List.length_append, HL.out]; rfl
              by_cases g : 1 < p.size
              · have g1 : (1 : Int) < (p.size : Int) := by omega
                have g2 : ((p[0].toNat : Int) == 48) = false := by rw [beq_eq_false_iff_ne]; omega
                clear hn hp HV he
                go_wp2_with (first | (go_at_call 53; refine (hnum _).mono ?_; rintro e w3 ⟨rfl, hw⟩; obtain rfl : wr = w3 := hw.symm; clear hw) | (at_builtin; refine wpList_append_own _ rfl (.tmp 42) (.tmp 45) 87 rfl w1.heap.size 5 i0 (.int .u8 0) 1 1 Tryz.underlying87 hi hz0 hz1 hz2 rfl (by decide) _ _ _ rfl (hown.alloc _) ⟨wr.heap.size, 0, none⟩ 1 1 [.int .u8 (n : Int)] rfl rfl (cell_new1 _ _ _) (Nm.one_cell _ rfl) (by unfold maxLen; omega) (by omega) (by simp; omega) ?_))
                intro v' w4 hown' hgrow _
                rw [← HB.out] at hown'
                obtain ⟨X, HX, o4, b4, z4⟩ := one_step (c := UInt8.ofNat n) hsz hown hbel _ hown' hgrow
                clear hown' hgrow hown hbel
                go_wp2
                go_roundw
                case rel => exact ⟨k + 1, X, by omega, by go_num, by show _ = _; rw [HX.out]; exact HL2.out, by show V4At _ _ _; rw [HX.out]; exact HN.out, o4, b4⟩
                case measure => simp [intOf]; omega
              · have g1 : (p.size : Int) ≤ 1 := by omega
                clear hn hp HV he
                go_wp2_with (first | (go_at_call 53; refine (hnum _).mono ?_; rintro e w3 ⟨rfl, hw⟩; obtain rfl : wr = w3 := hw.symm; clear hw) | (at_builtin; refine wpList_append_own _ rfl (.tmp 42) (.tmp 45) 87 rfl w1.heap.size 5 i0 (.int .u8 0) 1 1 Tryz.underlying87 hi hz0 hz1 hz2 rfl (by decide) _ _ _ rfl (hown.alloc _) ⟨wr.heap.size, 0, none⟩ 1 1 [.int .u8 (n : Int)] rfl rfl (cell_new1 _ _ _) (Nm.one_cell _ rfl) (by unfold maxLen; omega) (by omega) (by simp; omega) ?_))
                intro v' w4 hown' hgrow _
                rw [← HB.out] at hown'
                obtain ⟨X, HX, o4, b4, z4⟩ := one_step (c := UInt8.ofNat n) hsz hown hbel _ hown' hgrow
                clear hown' hgrow hown hbel
                go_wp2
                go_roundw
                case rel => exact ⟨k + 1, X, by omega, by go_num, by show _ = _; rw [HX.out]; exact HL2.out, by show V4At _ _ _; rw [HX.out]; exact HN.out, o4, b4⟩
                case measure => simp [intOf]; omega
      · have hke : k = 4 := by omega
        subst hke
        have HN := Nm.hide (HEND.out l HV.out)
        obtain ⟨g, cp, rfl, hcv⟩ := Nm.conv_own (P := Tryz.prog) (src := 87) (dst := 9) Tryz.underlying87 Tryz.underlying5 Tryz.underlying9 hown (by omega)
        obtain ⟨RR, HRR, hcv⟩ : ∃ RR, Hid (RR = (⟨l.toArray⟩ : ByteArray)) ∧ (convert 87 9 (.slice (some ⟨g, 0, none⟩) 4 cp)).run Tryz.prog wr = .ok (.string RR) wr := ⟨_, rfl, hcv⟩
        clear hown HV
        go_wp2
        go_ret2
        rw [HN.out, ← HRR.out]
        exact ⟨rfl, Nm.below_two hb1 hbel⟩
  · have HN : Hid (R = .tuple #[.string ⟨#[]⟩, .int .i64 7]) := by show _ = _; rw [HR.out, v4_count h4]; rfl
    clear HR
    unfold Parts5 at hcut
    generalize cutB s 46 = ls at *
    go_enter Tryz.func64, Tryz.ntmps64
    go_wp2_with (go_at_call 115; refine hcut.mono ?_; rintro e w1 ⟨v, rfl, ⟨n0, cap, rfl, hn4, hnc, hcap, hcell⟩, hb1⟩; refine Hid.out ?_)
    have h4' : ((n0 : Int) == 4) = false := by
      rw [beq_eq_false_iff_ne]
      intro e
      exact h4 (hn4.1 (by omega))
    have h4'' : ((n0 : Int) != 4) = true := by rw [bne, h4']; rfl
    clear hcell hcut hn4 h4
    refine Nm.hide ?_
    go_wp2
    go_ret2
    rw [HN.out]
    exact ⟨rfl, hb1⟩
end Go.Proofs.YtddabafaejahbaaGreatDoor
/- impl.readGroup by its contract. -/
namespace Go.Proofs.YtddabafaejahbaaGreatDoor
open Go.RowKit

theorem wrap_pos6 (n : Nat) (h : n < 9223372036854775808) : IntKind.i64.wrap (n : Int) = (n : Int) := by
  have e : (n : Int) % 2 ^ 64 = n := Int.emod_eq_of_lt (by omega) (by omega)
  simp only [IntKind.wrap, IntKind.bits, IntKind.signed, e]
  rw [if_neg]
  simp
  omega
theorem i64_or6 (a b : Nat) (ha : a < 9223372036854775808) (hb : b < 9223372036854775808) : bits .or .i64 (a : Int) (b : Int) = ((a ||| b : Nat) : Int) := by
  have hx : a ||| b < 2 ^ 63 := Nat.or_lt_two_pow (by omega) (by omega)
  show IntKind.i64.wrap ((BitVec.ofInt 64 (a : Int) ||| BitVec.ofInt 64 (b : Int)).toNat : Int) = _
  rw [BitVec.toNat_or, ofInt_u64 a (by omega), ofInt_u64 b (by omega)]
  exact wrap_pos6 _ (by omega)
theorem or_hex (m d : Nat) (hd : d < 16) (hm : m < 281474976710656) : bits .or .i64 ((m : Int) * 16) (d : Int) = ((m * 16 + d : Nat) : Int) := by
  have e : (m : Int) * 16 = ((2 ^ 4 * m : Nat) : Int) := by omega
  rw [e, i64_or6 _ _ (by omega) (by omega), ← Nat.two_pow_add_eq_or_of_lt (by omega)]
  congr 1
  omega

/-- What readGroup answers: nothing, or two new bytes. -/
def grp2V (o : Option Nat) (w : World) : Value := match o with
  | none => .tuple #[.slice none 0 0, .bool false]
  | some _ => .tuple #[.slice (some ⟨w.heap.size, 0, none⟩) 2 2, .bool true]
def grp2W (o : Option Nat) (w : World) : World := match o with
  | none => w
  | some n => w.alloc (.cells #[.int .u8 ((n : Int) / 256), .int .u8 ((n : Int) % 256)] 5)

set_option maxRecDepth 100000 in
set_option maxHeartbeats 800000 in
theorem readGroup_any (p : ByteArray) (w : World) : Calls Tryz.prog 173 #[.string p] w fun e w' => e = .returned (grp2V (grpO p) w) ∧ w' = grp2W (grpO p) w := by
  by_cases h1 : p.size < 1
  · have HN : Hid (grpO p = none) := grpO_len (by omega)
    obtain ⟨h1', _⟩ := beq_empty (s := p) (by omega)
    rw [HN.out]
    go_enter Tryz.func173, Tryz.ntmps173
    go_wp2
    go_ret2
    exact ⟨rfl, rfl⟩
  obtain ⟨h1', _⟩ := not_empty (s := p) (by omega)
  by_cases h2 : 4 < p.size
  · have HN : Hid (grpO p = none) := grpO_len (by omega)
    have h2' : (4 : Int) < (p.size : Int) := by omega
    rw [HN.out]
    go_enter Tryz.func173, Tryz.ntmps173
    go_wp2
    go_ret2
    exact ⟨rfl, rfl⟩
  have h2' : (p.size : Int) ≤ 4 := by omega
  have h4 : p.size ≤ 4 := by omega
  obtain ⟨O, HO'⟩ : ∃ O, Hid (O = grpO p) := ⟨_, rfl⟩
  rw [← HO'.out]
  go_enter Tryz.func173, Tryz.ntmps173
  go_wp2
  go_loop [4, 17] (fun u v => ∃ k : Nat, k ≤ p.size ∧ v = .int .i64 k ∧ u = .int .i64 ((hexN (p.data.toList.take k) : Nat) : Int) ∧ ∀ j, j < k → (hj : j < p.size) → 0 ≤ hexV p[j]) (fun _ v => p.size - (intOf v).toNat)
  case atStart => exact ⟨0, Nat.zero_le _, rfl, rfl, fun j h => by omega⟩
  case round =>
    obtain ⟨k, hk, rfl, rfl, hd⟩ := hrel
    by_cases hlt : k < p.size
    · have hlt' : (k : Int) < (p.size : Int) := by omega
      have hhex := hexValue_any p[k] w
      have hb : hexN (p.data.toList.take k) < 65536 := hexN_small (by simp; omega)
      have hrange := hexV_lt p[k]
      by_cases hneg : hexV p[k] < 0
      · have HN : Hid (grpO p = none) := grpO_bad hlt hneg
        rw [hexR_no hneg] at hhex
        clear hd hneg hrange
        generalize hexN (p.data.toList.take k) = m at *
        go_wp2_with (go_at_call 93; refine hhex.mono ?_; rintro e w1 ⟨rfl, hw⟩; obtain rfl : w = w1 := hw.symm; clear hw)
        go_ret2
        rw [HO'.out, HN.out]
        exact ⟨rfl, rfl⟩
      · obtain ⟨d, hdv⟩ : ∃ d : Nat, hexV p[k] = d := ⟨(hexV p[k]).toNat, by omega⟩
        have e1 : p.data.toList.take (k + 1) = p.data.toList.take k ++ [p[k]] := Nm.take_step (Nm.get_data hlt)
        have e2 := hexN_snoc (p.data.toList.take k) p[k]
        rw [← e1, hdv, Int.toNat_natCast] at e2
        have hd16 : d < 16 := by omega
        have HO := Nm.hide (or_hex (hexN (p.data.toList.take k)) d hd16 (by omega))
        have HD : Hid (∀ j, j < k + 1 → (hj : j < p.size) → 0 ≤ hexV p[j]) := by
          show ∀ j, _
          intro j hj hjs
          by_cases e : j = k
          · subst e; omega
          · exact hd j (by omega) hjs
        have HV := Nm.hide e2
        rw [hdv, hexR_yes] at hhex
        have hd16' : (d : Int) < 16 := by omega
        clear hd hdv hneg hrange e1 e2
        generalize hexN (p.data.toList.take k) = m at *
        go_wp2_with (go_at_call 93; refine hhex.mono ?_; rintro e w1 ⟨rfl, hw⟩; obtain rfl : w = w1 := hw.symm; clear hw)
        go_round
        case rel => exact ⟨k + 1, by omega, by go_num, by rw [HV.out, ← HO.out], HD.out⟩
        case measure => simp [intOf]; omega
    · have hlt' : (p.size : Int) ≤ (k : Int) := by omega
      have hks : k = p.size := by omega
      have HN : Hid (grpO p = some (hexN (p.data.toList.take k))) := by
        show _ = _
        rw [grpO_good (by omega) h4 (fun j hj => hd j (by omega) hj), hks, List.take_of_length_le (by simp)]
      have hb : hexN (p.data.toList.take k) < 65536 := hexN_small (by simp; omega)
      have hb' : ((hexN (p.data.toList.take k) : Nat) : Int) < 65536 := by omega
      clear hd
      generalize hexN (p.data.toList.take k) = m at *
      go_wp2
      go_ret2
      rw [HO'.out, HN.out]
      exact ⟨rfl, rfl⟩
end Go.Proofs.YtddabafaejahbaaGreatDoor
/- Contracts of the library at this dump. -/
namespace Go.Proofs
open Go.Shelf
def Tryz.laysM145_ren : Go.Shelf.Ren := ⟨fun | 145 => 118 | 220 => 171 | 219 => 207 | 217 => 228 | 225 => 229 | 224 => 230 | 267 => 231 | 266 => 239 | 314 => 240 | n => n, fun | 9 => 9 | 4 => 4 | 59 => 160 | 3 => 3 | 5 => 5 | 46 => 93 | 146 => 266 | 51 => 265 | n => n, fun | 1 => 3 | n => n⟩
theorem Tryz.laysM145 : Go.Proofs.LaysM.n145 Tryz.prog Tryz.laysM145_ren := {
  mixed := by kernel_rfl
  f145 := Tryz.func118.trans (congrArg some (by kernel_rfl))
  f217 := Tryz.func228.trans (congrArg some (by kernel_rfl))
  f219 := Tryz.func207.trans (congrArg some (by kernel_rfl))
  f220 := Tryz.func171.trans (congrArg some (by kernel_rfl))
  f224 := Tryz.func230.trans (congrArg some (by kernel_rfl))
  f225 := Tryz.func229.trans (congrArg some (by kernel_rfl))
  f266 := Tryz.func239.trans (congrArg some (by kernel_rfl))
  f267 := Tryz.func231.trans (congrArg some (by kernel_rfl))
  f314 := Tryz.func240.trans (congrArg some (by kernel_rfl))
  t3 := Tryz.underlying3
  a3 := Tryz.isAgg3
  z3 := Tryz.sizeOf3
  v3 := Tryz.zeroValue3
  t4 := Tryz.underlying4
  a4 := Tryz.isAgg4
  z4 := Tryz.sizeOf4
  v4 := Tryz.zeroValue4
  t5 := Tryz.underlying5
  a5 := Tryz.isAgg5
  z5 := Tryz.sizeOf5
  v5 := Tryz.zeroValue5
  t9 := Tryz.underlying9
  a9 := Tryz.isAgg9
  z9 := Tryz.sizeOf9
  v9 := Tryz.zeroValue9
  t46 := Tryz.underlying93
  a46 := Tryz.isAgg93
  z46 := Tryz.sizeOf93
  v46 := Tryz.zeroValue93
  t51 := Tryz.underlying265
  a51 := Tryz.isAgg265
  z51 := Tryz.sizeOf265
  v51 := Tryz.zeroValue265
  t59 := Tryz.underlying160
  a59 := Tryz.isAgg160
  z59 := Tryz.sizeOf160
  v59 := Tryz.zeroValue160
  t146 := Tryz.underlying266
  a146 := Tryz.isAgg266
  z146 := Tryz.sizeOf266
  v146 := Tryz.zeroValue266
  g1 := by kernel_rfl
  i3 := by kernel_rfl
  i4 := by kernel_rfl
  i5 := by kernel_rfl
  i9 := by kernel_rfl
  i46 := by kernel_rfl
  i51 := by kernel_rfl
  i59 := by kernel_rfl
  i146 := by kernel_rfl
  m1 := by kernel_rfl
  s1_3 := fun w h => Go.Proofs.cell_of_shapedOpen_int (zero := #[.int .i64 0]) (t := 3) h (of_decide_eq_true (by kernel_rfl)) (by kernel_rfl) rfl (by kernel_rfl) (by kernel_rfl) Tryz.underlying3 }
open Go.RowKit Go.Lib in
theorem Tryz.strings_Cut_shaped (s sep : ByteArray) (w : World) (h : w.ShapedOpen Tryz.prog) (hs : s.size < 4294967281) :
    Calls Tryz.prog 118 #[.string s, .string sep] w fun e w' => e = .returned (.tuple #[.string ⟨(Lib.cut s.data.toList sep.data.toList).1.toArray⟩, .string ⟨(Lib.cut s.data.toList sep.data.toList).2.1.toArray⟩, .bool (Lib.cut s.data.toList sep.data.toList).2.2]) ∧ ∃ n, w' = w.drewN n := Any.strings_Cut_shaped Tryz.laysM145 s sep w h hs
def Tryz.laysM146_ren : Go.Shelf.Ren := ⟨fun | 146 => 172 | 221 => 168 | 268 => 203 | 138 => 204 | 143 => 205 | 195 => 224 | 197 => 225 | 218 => 226 | 219 => 207 | 260 => 238 | 217 => 228 | 225 => 229 | 224 => 230 | 267 => 231 | 266 => 239 | 314 => 240 | n => n, fun | 9 => 9 | 31 => 82 | 3 => 3 | 4 => 4 | 0 => 0 | 105 => 280 | 21 => 21 | 5 => 5 | 46 => 93 | 119 => 292 | 139 => 295 | 138 => 294 | 146 => 266 | 51 => 265 | n => n, fun | 1 => 3 | 3 => 6 | 4 => 7 | n => n⟩
theorem Tryz.laysM146 : Go.Proofs.LaysM.n146 Tryz.prog Tryz.laysM146_ren := {
  mixed := by kernel_rfl
  f138 := Tryz.func204.trans (congrArg some (by kernel_rfl))
  f143 := Tryz.func205.trans (congrArg some (by kernel_rfl))
  f146 := Tryz.func172.trans (congrArg some (by kernel_rfl))
  f195 := Tryz.func224.trans (congrArg some (by kernel_rfl))
  f197 := Tryz.func225.trans (congrArg some (by kernel_rfl))
  f217 := Tryz.func228.trans (congrArg some (by kernel_rfl))
  f218 := Tryz.func226.trans (congrArg some (by kernel_rfl))
  f219 := Tryz.func207.trans (congrArg some (by kernel_rfl))
  f221 := Tryz.func168.trans (congrArg some (by kernel_rfl))
  f224 := Tryz.func230.trans (congrArg some (by kernel_rfl))
  f225 := Tryz.func229.trans (congrArg some (by kernel_rfl))
  f260 := Tryz.func238.trans (congrArg some (by kernel_rfl))
  f266 := Tryz.func239.trans (congrArg some (by kernel_rfl))
  f267 := Tryz.func231.trans (congrArg some (by kernel_rfl))
  f268 := Tryz.func203.trans (congrArg some (by kernel_rfl))
  f314 := Tryz.func240.trans (congrArg some (by kernel_rfl))
  t0 := Tryz.underlying0
  a0 := Tryz.isAgg0
  z0 := Tryz.sizeOf0
  v0 := Tryz.zeroValue0
  t3 := Tryz.underlying3
  a3 := Tryz.isAgg3
  z3 := Tryz.sizeOf3
  v3 := Tryz.zeroValue3
  t4 := Tryz.underlying4
  a4 := Tryz.isAgg4
  z4 := Tryz.sizeOf4
  v4 := Tryz.zeroValue4
  t5 := Tryz.underlying5
  a5 := Tryz.isAgg5
  z5 := Tryz.sizeOf5
  v5 := Tryz.zeroValue5
  t9 := Tryz.underlying9
  a9 := Tryz.isAgg9
  z9 := Tryz.sizeOf9
  v9 := Tryz.zeroValue9
  t21 := Tryz.underlying21
  a21 := Tryz.isAgg21
  z21 := Tryz.sizeOf21
  v21 := Tryz.zeroValue21
  t31 := Tryz.underlying82
  a31 := Tryz.isAgg82
  z31 := Tryz.sizeOf82
  v31 := Tryz.zeroValue82
  t46 := Tryz.underlying93
  a46 := Tryz.isAgg93
  z46 := Tryz.sizeOf93
  v46 := Tryz.zeroValue93
  t51 := Tryz.underlying265
  a51 := Tryz.isAgg265
  z51 := Tryz.sizeOf265
  v51 := Tryz.zeroValue265
  t105 := Tryz.underlying280
  a105 := Tryz.isAgg280
  z105 := Tryz.sizeOf280
  v105 := Tryz.zeroValue280
  t119 := Tryz.underlying292
  a119 := Tryz.isAgg292
  z119 := Tryz.sizeOf292
  t138 := Tryz.underlying294
  a138 := Tryz.isAgg294
  z138 := Tryz.sizeOf294
  v138 := Tryz.zeroValue294
  t139 := Tryz.underlying295
  a139 := Tryz.isAgg295
  z139 := Tryz.sizeOf295
  v139 := Tryz.zeroValue295
  t146 := Tryz.underlying266
  a146 := Tryz.isAgg266
  z146 := Tryz.sizeOf266
  v146 := Tryz.zeroValue266
  g1 := by kernel_rfl
  g3 := by kernel_rfl
  g4 := by kernel_rfl
  i0 := by kernel_rfl
  i3 := by kernel_rfl
  i4 := by kernel_rfl
  i5 := by kernel_rfl
  i9 := by kernel_rfl
  i21 := by kernel_rfl
  i31 := by kernel_rfl
  i46 := by kernel_rfl
  i51 := by kernel_rfl
  i105 := by kernel_rfl
  i138 := by kernel_rfl
  i139 := by kernel_rfl
  i146 := by kernel_rfl
  m1 := by kernel_rfl
  s1_3 := fun w h => Go.Proofs.cell_of_shapedOpen_int (zero := #[.int .i64 0]) (t := 3) h (of_decide_eq_true (by kernel_rfl)) (by kernel_rfl) rfl (by kernel_rfl) (by kernel_rfl) Tryz.underlying3
  m3 := by kernel_rfl
  m4 := by kernel_rfl }
open Go.RowKit Go.Lib in
theorem Tryz.strings_Split_shaped (s sep : ByteArray) (w : World) (h : w.ShapedOpen Tryz.prog) (hs : s.size < 4294967281) (h1 : 1 ≤ sep.size) :
    Calls Tryz.prog 172 #[.string s, .string sep] w fun e w' =>
      e = .returned (.slice (some ⟨w.heap.size, 0, none⟩) (Lib.countB s sep + 1) (Lib.countB s sep + 1)) ∧ w' = w.alloc (.cells ((Lib.splitB sep 0 (Lib.countB s sep) s).map Value.string).toArray 9) := Any.strings_Split_shaped Tryz.laysM146 s sep w h hs h1
end Go.Proofs
