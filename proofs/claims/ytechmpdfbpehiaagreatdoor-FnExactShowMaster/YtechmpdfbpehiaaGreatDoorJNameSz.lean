import Derived.Test.YtechmpdfbpehiaaGreatDoorJMath
import Derived.Test.YtechmpdfbpehiaaGreatDoorRows
import Derived.WalkSpells
import Derived.WalkLawsBesides
import Derived.WalkKit
/- impl.nameSize by its contract. -/
namespace Go.Proofs.YtechmpdfbpehiaaGreatDoor
open Go.RowKit

/-- A size and whether there is one, as Go tells them. -/
def szV (o : Option Nat) : Value := .tuple #[.int .i64 ((o.getD 0 : Nat) : Int), .bool o.isSome]

theorem nsz_none {s : ByteArray} {i : Nat} (h : Dt.nameAtS s = Dt.nameF 256 s i) (h1 : Dt.nameF 256 s i = ByteArray.empty) : szV (Dt.sz .nm s) = .tuple #[.int .i64 0, .bool false] := by
  have : (Dt.nameAtS s).size = 0 := by rw [h, h1]; rfl
  rw [Dt.sz, if_pos this]; rfl
theorem nsz_zero {s : ByteArray} {i : Nat} (h : Dt.nameAtS s = Dt.nameF 256 s i) (h1 : i < s.size) (h2 : i < 255) (h0 : s[i].toNat = 0) : szV (Dt.sz .nm s) = .tuple #[.int .i64 ((i : Int) + 1), .bool true] := by
  have e : Dt.nameF 256 s i = s.extract 0 (i + 1) := by rw [Dt.nameF, dif_pos ⟨h1, h2⟩, if_pos h0]
  have e1 : (Dt.nameAtS s).size = i + 1 := by rw [h, e]; simp; omega
  rw [Dt.sz, if_neg (by omega), e1]; rfl
theorem nsz_step {s : ByteArray} {i : Nat} (h : Dt.nameAtS s = Dt.nameF 256 s i) (h1 : i < s.size) (h2 : i < 255) (h0 : s[i].toNat ≠ 0) (h3 : s[i].toNat ≤ 63) : Dt.nameAtS s = Dt.nameF 256 s (i + (1 + s[i].toNat)) := by
  rw [h, Dt.nameF, dif_pos ⟨h1, h2⟩, if_neg h0, if_neg (by omega), show i + s[i].toNat + 1 = i + (1 + s[i].toNat) by omega]
  exact Dt.nameF_enough _ _ _ _ (by omega) (by omega)
theorem nsz_big {s : ByteArray} {i : Nat} (h1 : i < s.size) (h2 : i < 255) (h0 : 63 < s[i].toNat) : Dt.nameF 256 s i = ByteArray.empty := by
  rw [Dt.nameF, dif_pos ⟨h1, h2⟩, if_neg (by omega), if_pos h0]
theorem nsz_end {s : ByteArray} {i : Nat} (h : ¬ (i < s.size ∧ i < 255)) : Dt.nameF 256 s i = ByteArray.empty := by
  rw [Dt.nameF, dif_neg h]

set_option maxRecDepth 100000 in
set_option maxHeartbeats 800000 in
theorem nameSize_any (s : ByteArray) (w : World) :
    Calls Tryz.prog 53 #[.string s] w fun e w' => e = .returned (szV (Dt.sz .nm s)) ∧ w' = w := by
  have H0 : Dt.nameAtS s = Dt.nameF 256 s 0 := rfl
  go_enter Tryz.func53, Tryz.ntmps53
  go_wp2
  go_loop [4] (fun v => ∃ i : Nat, i < 255 ∧ v = .int .i64 i ∧ Dt.nameAtS s = Dt.nameF 256 s i) (fun v => 400 - (intOf v).toNat)
  case atStart => exact ⟨0, by omega, rfl, H0⟩
  case round =>
    obtain ⟨i, hi, rfl, hn⟩ := hrel
    clear H0
    by_cases h1 : i < s.size
    · have h1' : (i : Int) < (s.size : Int) := by omega
      have hc : (s[i].toNat : Int) < 256 := by have := s[i].toNat_lt; omega
      by_cases h3 : s[i].toNat = 0
      · have HN := Nm.hide (nsz_zero hn h1 hi h3)
        have h3' : ((s[i].toNat : Int) == 0) = true := by rw [beq_iff_eq]; omega
        clear hn h3
        go_wp2
        go_ret2
        rw [HN.out]
        exact ⟨rfl, rfl⟩
      · have h3' : ((s[i].toNat : Int) == 0) = false := by rw [beq_eq_false_iff_ne]; omega
        have h3'' : (0 : Int) < (s[i].toNat : Int) := by omega
        by_cases h4 : 63 < s[i].toNat
        · have HN := Nm.hide (nsz_none hn (nsz_big h1 hi h4))
          have h4' : (63 : Int) < (s[i].toNat : Int) := by omega
          clear hn h3
          go_wp2_with (go_at_call 63; go_in)
          go_ret2
          rw [HN.out]
          exact ⟨rfl, rfl⟩
        · have h4' : (s[i].toNat : Int) ≤ 63 := by omega
          have hst := nsz_step hn h1 hi h3 (by omega)
          by_cases h5 : 255 ≤ i + (1 + s[i].toNat)
          · have HN := Nm.hide (nsz_none hst (nsz_end (by omega)))
            have h5' : (255 : Int) ≤ (i : Int) + (1 + (s[i].toNat : Int)) := by omega
            clear hn h3 hst
            go_wp2_with (go_at_call 63; go_in)
            go_ret2
            rw [HN.out]
            exact ⟨rfl, rfl⟩
          · have HN := Nm.hide hst
            have h5' : (i : Int) + (1 + (s[i].toNat : Int)) < 255 := by omega
            clear hn h3 hst
            go_wp2_with (go_at_call 63; go_in)
            go_round
            case rel => exact ⟨i + (1 + s[i].toNat), by omega, by go_num, HN.out⟩
            case measure => simp [intOf]; omega
    · have HN := Nm.hide (nsz_none hn (nsz_end (by omega)))
      have h1' : (s.size : Int) ≤ (i : Int) := by omega
      clear hn
      go_wp2
      go_ret2
      rw [HN.out]
      exact ⟨rfl, rfl⟩
end Go.Proofs.YtechmpdfbpehiaaGreatDoor
/- impl.NameOK by its contract. -/
namespace Go.Proofs.YtechmpdfbpehiaaGreatDoor
open Go.RowKit

theorem nok_true {s : ByteArray} (h : (Nm.split s).isSome = true) : Dt.sz .nm s = some s.size := by
  obtain ⟨h1, h2⟩ := (Dt.name_iff s).1 h
  rw [Dt.sz, if_neg h1, h2]
theorem nok_false {s : ByteArray} (h : (Nm.split s).isSome = false) : Dt.sz .nm s = none ∨ ∃ n, Dt.sz .nm s = some n ∧ n ≠ s.size := by
  by_cases h0 : (Dt.nameAtS s).size = 0
  · left; rw [Dt.sz, if_pos h0]
  · right
    refine ⟨_, by rw [Dt.sz, if_neg h0], ?_⟩
    intro e
    rw [(Dt.name_iff s).2 ⟨h0, e⟩] at h
    simp at h

set_option maxRecDepth 100000 in
set_option maxHeartbeats 400000 in
theorem implNameOK_same (s : ByteArray) (w : World) :
    Calls Tryz.prog 37 #[.string s] w fun e w' => e = .returned (.bool (Nm.split s).isSome) ∧ w' = w := by
  have hcall := nameSize_any s
  cases hq : (Nm.split s).isSome with
  | true =>
    rw [nok_true hq] at hcall
    simp only [szV, Option.getD_some, Option.isSome_some] at hcall
    clear hq
    go_enter Tryz.func37, Tryz.ntmps37
    go_wp2_with (go_at_call 53; refine (hcall _).mono ?_; rintro e w1 ⟨rfl, rfl⟩)
    go_ret
    exact ⟨rfl, rfl⟩
  | false =>
    rcases nok_false hq with h | ⟨n, h, hn⟩
    · rw [h] at hcall
      simp only [szV, Option.getD_none, Option.isSome_none] at hcall
      clear hq h
      go_enter Tryz.func37, Tryz.ntmps37
      go_wp2_with (go_at_call 53; refine (hcall _).mono ?_; rintro e w1 ⟨rfl, rfl⟩)
      go_ret
      exact ⟨rfl, rfl⟩
    · rw [h] at hcall
      simp only [szV, Option.getD_some, Option.isSome_some] at hcall
      have hb : ((n : Int) == (s.size : Int)) = false := by rw [beq_eq_false_iff_ne]; omega
      have hb2 : (n == s.size) = false := by rw [beq_eq_false_iff_ne]; omega
      clear hq h
      go_enter Tryz.func37, Tryz.ntmps37
      go_wp2_with (go_at_call 53; refine (hcall _).mono ?_; rintro e w1 ⟨rfl, rfl⟩)
      go_ret
      exact ⟨rfl, rfl⟩

theorem implNameOK_any (s : ByteArray) (w : World) (_ : s.size ≤ maxLen) :
    Calls Tryz.prog 37 #[.string s] w fun e w' => e = .returned (.bool (Nm.split s).isSome) ∧ Below w.heap.size w w' := by
  refine (implNameOK_same s w).mono ?_
  rintro e w' ⟨rfl, rfl⟩
  exact ⟨rfl, Below.refl _ _⟩
end Go.Proofs.YtechmpdfbpehiaaGreatDoor
/- impl.splitName by its contract. -/
namespace Go.Proofs.YtechmpdfbpehiaaGreatDoor
open Go.RowKit

set_option maxRecDepth 100000 in
set_option maxHeartbeats 800000 in
theorem splitName_any (s : ByteArray) (w : World) (_ : s.size ≤ maxLen) :
    Calls Tryz.prog 56 #[.string s] w fun e w' => ∃ v, e = .returned (.tuple #[v, .bool (Nm.split s).isSome]) ∧
      w'.ownsRow w.heap.size 9 1 v ((Nm.split s).getD []).length (((Nm.split s).getD []).map Value.string) ∧ Below w.heap.size w w' := by
  obtain ⟨i0, hi, hz0, hz1, hz2⟩ := info_parts Tryz.infoStr
  have hcall := implNameOK_same s
  cases hq : Nm.split s with
  | none =>
    rw [hq] at hcall
    simp only [Option.isSome_none] at hcall
    clear hq
    go_enter Tryz.func56, Tryz.ntmps56
    go_wp2_with (go_at_call 37; refine (hcall _).mono ?_; rintro e w1 ⟨rfl, hw⟩; obtain rfl : w = w1 := hw.symm; clear hw)
    go_ret2
    exact ⟨_, rfl, World.ownsRow_nil _ _ _ _, Below.refl _ _⟩
  | some L =>
    have hz := Nm.split_size hq
    have hst := Nm.at_start s hz.2
    have HQ := Nm.hide hq
    rw [hq] at hcall
    simp only [Option.isSome_some] at hcall
    clear hq
    have hz2' := hz.2
    clear hz
    go_enter Tryz.func56, Tryz.ntmps56
    go_wp2_with (go_at_call 37; refine (hcall _).mono ?_; rintro e w1 ⟨rfl, hw⟩; obtain rfl : w = w1 := hw.symm; clear hw)
    go_loopw [4, 5] (fun v x wr => ∃ (ls : List ByteArray) (r : ByteArray), x = .string r ∧ Nm.At s ls r ∧ ls.length + r.size ≤ 255 ∧ wr.ownsRow w.heap.size 9 1 v ls.length (ls.map Value.string) ∧ Below w.heap.size w wr)
      (fun _ x _ => match x with | .string r => r.size | _ => 0)
    case atStart => exact ⟨[], s, rfl, hst, by simp; omega, World.ownsRow_nil _ _ _ _, Below.refl _ _⟩
    case round =>
      obtain ⟨ls, r, rfl, hat, hb, hown, hbel⟩ := hrel
      clear hst
      have hq := HQ.out
      by_cases h0 : r.size = 0
      · rw [Nm.at_empty hat h0] at hq; simp at hq
      · have hp : 0 < r.size := by omega
        have hn : (r[0].toNat : Int) < 256 := by have := r[0].toNat_lt; omega
        by_cases h1 : r.size = 1 ∧ r[0].toNat = 0
        · have hL : L = ls := by
            have := Nm.at_end hat hp h1.2 h1.1
            rw [hq] at this
            simpa using this
          have e1 := Nm.tl_one hp h1.1 h1.2
          have e1' : (r.toList != [0]) = false := by rw [bne, e1]; rfl
          clear h1 hq HQ
          go_wp2
          go_ret2
          rw [hL]
          exact ⟨_, rfl, hown, hbel⟩
        · have e1 := Nm.tl_not_one hp h1
          have e1' : (r.toList != [0]) = true := by rw [bne, e1]; rfl
          by_cases h2 : r[0].toNat = 0
          · rw [Nm.at_zero hat hp h2 (fun h => h1 ⟨h, h2⟩)] at hq; simp at hq
          · by_cases h3 : 63 < r[0].toNat ∨ r.size < r[0].toNat + 1
            · rw [Nm.at_bad hat hp h2 h3] at hq; simp at hq
            · have e4 : (r[0].toNat : Int) ≤ 63 := by omega
              have e5 : (r[0].toNat : Int) + 1 ≤ (r.size : Int) := by omega
              have e5' : 1 + r[0].toNat ≤ r.size := by omega
              have hi0 : (0 : Int) < (r.size : Int) := by omega
              have HN : Hid (Nm.At s (ls ++ [r.extract 1 (r[0].toNat + 1)]) (r.extract (r[0].toNat + 1) r.size)) := Nm.at_step hat hp h2 (by omega) (by omega)
              have hsz := hbel.size
              clear h2 h1 h0 h3 hq HQ
              go_wp2_with (at_builtin; refine wpList_append_own _ rfl (.tmp 16) (.tmp 21) 79 rfl w.heap.size 9 i0 (.string ByteArray.empty) 1 16 Tryz.underlying79 hi hz0 hz1 hz2 rfl (by decide) _ _ _ rfl (hown.alloc _) ⟨wr.heap.size, 0, none⟩ 1 1 [.string (r.extract 1 (1 + r[0].toNat))] rfl rfl (cell_new1 _ _ _) (Nm.one_cell _ rfl) (by unfold maxLen; omega) (by omega) (by simp; omega) ?_)
              intro v' w1 hown' hgrow _
              have R := own_step hsz hown hbel _ hown' hgrow
              clear hown' hgrow hown hbel
              go_wp2
              go_roundw
              case rel => exact ⟨_, _, rfl, by simpa [Nat.add_comm] using HN.out, by simp; omega, R.1, R.2⟩
              case measure => simp; omega
end Go.Proofs.YtechmpdfbpehiaaGreatDoor
/- (labelList).wireSize and (labelList).wire by their contracts. -/
namespace Go.Proofs.YtechmpdfbpehiaaGreatDoor
open Go.RowKit

theorem Tryz.infoU8 : (Tryz.prog.info? 5).map (fun i => (i.zero, i.size, i.bytes)) = some (some (.int .u8 0), 1, 1) := by kernel_rfl

set_option maxRecDepth 100000 in
set_option maxHeartbeats 400000 in
theorem wireSize_any (v : Value) (ls : List ByteArray) (w : World) (h : Nm.SRow w v ls) (hlen : Nm.wsum ls ≤ 1000000000) :
    Calls Tryz.prog 153 #[v] w fun e w' => e = .returned (.int .i64 ((1 + Nm.wsum ls : Nat) : Int)) ∧ w' = w := by
  obtain ⟨a, cap, rfl, hcap, hmx, hnl, hc⟩ := h
  have hll := Nm.length_le_wsum ls
  by_cases hne : ls = []
  · subst hne
    go_enter Tryz.func153, Tryz.ntmps153
    go_wp2
    go_loop [3, 8] (fun t i => t = .int .i64 1 ∧ i = .int .i64 0) (fun _ _ => 0)
    case atStart => exact ⟨rfl, rfl⟩
    case round =>
      obtain ⟨rfl, rfl⟩ := hrel
      go_wp2
      go_ret
      exact ⟨rfl, rfl⟩
  · obtain ⟨b, off, rfl, hcell⟩ := hc hne
    clear hc hnl hne
    go_enter Tryz.func153, Tryz.ntmps153
    go_wp2
    go_loop [3, 8] (fun t i => ∃ k : Nat, k ≤ ls.length ∧ i = .int .i64 k ∧ t = .int .i64 ((1 + Nm.wsum (ls.take k) : Nat) : Int)) (fun _ i => ls.length - (intOf i).toNat)
    case atStart => exact ⟨0, Nat.zero_le _, rfl, rfl⟩
    case round =>
      obtain ⟨k, hk, rfl, rfl⟩ := hrel
      have hw := Nm.wsum_take_le ls k
      by_cases hlt : k < ls.length
      · obtain ⟨x, hx⟩ : ∃ x, ls[k]? = some x := ⟨_, List.getElem?_eq_getElem hlt⟩
        have hcx := hcell k x hx
        have HS : Hid (Nm.wsum (ls.take (k + 1)) = Nm.wsum (ls.take k) + (1 + x.size)) := Nm.wsum_step hx
        have hw1 : Nm.wsum (ls.take k) + (1 + x.size) ≤ Nm.wsum ls := by rw [← HS.out]; exact Nm.wsum_take_le ls (k + 1)
        clear hx hcell
        go_wp2
        go_round
        case rel => exact ⟨k + 1, by omega, by go_num, by rw [HS.out]; go_num⟩
        case measure => simp [intOf]; omega
      · go_wp2
        go_ret
        have : k = ls.length := by omega
        subst this
        rw [List.take_length]
        exact ⟨rfl, rfl⟩

def wireS (ls : List ByteArray) : ByteArray := if 255 < 1 + Nm.wsum ls then ByteArray.empty else ⟨(Nm.joinL ls).toArray⟩
def wireC (ls : List ByteArray) : Int := if 255 < 1 + Nm.wsum ls then 3 else 0

theorem wireS_short {ls : List ByteArray} (h : Nm.wsum ls ≤ 254) : wireS ls = ⟨(Nm.joinL ls).toArray⟩ := if_neg (by omega)
theorem wireC_short {ls : List ByteArray} (h : Nm.wsum ls ≤ 254) : wireC ls = 0 := if_neg (by omega)

theorem byte_len (x : ByteArray) (h : x.size ≤ 255) : [Value.int .u8 (x.size : Int)] = Nm.bys [UInt8.ofNat x.size] := by
  simp [Nm.bys]; omega

set_option maxRecDepth 100000 in
set_option maxHeartbeats 800000 in
theorem wire_any (v : Value) (ls : List ByteArray) (w : World) (h : Nm.SRow w v ls) (hlen : Nm.wsum ls ≤ 1000000000) :
    Calls Tryz.prog 134 #[v] w fun e w' => e = .returned (.tuple #[.string (wireS ls), .int .i64 (wireC ls)]) ∧ Below w.heap.size w w' := by
  have hws := wireSize_any v ls w h hlen
  obtain ⟨j0, hj, k0, k1, k2⟩ := info_parts Tryz.infoU8
  obtain ⟨a, cap, rfl, hcap, hmx, hnl, hc⟩ := h
  have hll := Nm.length_le_wsum ls
  by_cases hlong : 255 < 1 + Nm.wsum ls
  · have HS : Hid (wireS ls = ByteArray.empty) := if_pos hlong
    have HC : Hid (wireC ls = 3) := if_pos hlong
    have hl' : (255 : Int) < ((1 + Nm.wsum ls : Nat) : Int) := by omega
    clear hc
    go_enter Tryz.func134, Tryz.ntmps134
    go_wp2_with fail
    refine hws.mono ?_
    rintro e w1 ⟨rfl, rfl⟩
    go_wp2
    go_ret2
    rw [HS.out, HC.out]
    exact ⟨rfl, Below.refl _ _⟩
  · have HS : Hid (wireS ls = ⟨(Nm.joinL ls).toArray⟩) := if_neg hlong
    have HC : Hid (wireC ls = 0) := if_neg hlong
    have hl' : ((1 + Nm.wsum ls : Nat) : Int) ≤ 255 := by omega
    go_enter Tryz.func134, Tryz.ntmps134
    go_wp2_with fail
    refine hws.mono ?_
    rintro e w1 ⟨rfl, rfl⟩
    go_wp2_with (at_make; refine wpList_make_own _ rfl _ _ 44 rfl w1.heap.size 5 j0 (.int .u8 0) 1 Tryz.underlying44 hj k0 k1 .i64 .i64 _ (1 + Nm.wsum ls) rfl rfl rfl (by rw [k2]; omega) (by unfold maxLen; omega) (Nat.le_refl _) ?_; intro w2 hown0 hgrow0)
    go_loopw [5, 16] (fun v i wr => ∃ k : Nat, k ≤ ls.length ∧ i = .int .i64 k ∧ wr.ownsRow w1.heap.size 5 1 v (Nm.wsum (ls.take k)) (Nm.bys (Nm.preL (ls.take k))) ∧ Below w1.heap.size w1 wr)
      (fun _ i _ => ls.length - (intOf i).toNat)
    case atStart => exact ⟨0, Nat.zero_le _, rfl, hown0, (Below.refl _ w1).grown hgrow0 (Nat.le_refl _) (fun k hk => by cases hk)⟩
    case round =>
      obtain ⟨k, hk, rfl, hown, hbel⟩ := hrel
      have hw := Nm.wsum_take_le ls k
      have hsz := hbel.size
      by_cases hlt : k < ls.length
      · obtain ⟨x, hx⟩ : ∃ x, ls[k]? = some x := ⟨_, List.getElem?_eq_getElem hlt⟩
        obtain ⟨b, off, rfl, hcell⟩ := hc (by intro h; rw [h] at hlt; simp at hlt)
        have hcx : wr.cell? ⟨b, off + k, none⟩ = some (.string x) := (hbel.cell (World.block_lt_of_cell? w1 _ (hcell k x hx))).trans (hcell k x hx)
        have HW : Hid (Nm.wsum (ls.take (k + 1)) = Nm.wsum (ls.take k) + (1 + x.size)) := Nm.wsum_step hx
        have HP : Hid (Nm.preL (ls.take (k + 1)) = Nm.preL (ls.take k) ++ (UInt8.ofNat x.size :: x.data.toList)) := Nm.preL_step hx
        have hw1 : Nm.wsum (ls.take k) + (1 + x.size) ≤ Nm.wsum ls := by rw [← HW.out]; exact Nm.wsum_take_le ls (k + 1)
        clear hx hcell hc hnl hws hown0 hgrow0
        go_wp2_with (first | (at_builtin; refine wpList_append_own _ rfl (.tmp 20) (.tmp 24) 44 rfl w1.heap.size 5 j0 (.int .u8 0) 1 1 Tryz.underlying44 hj k0 k1 k2 rfl (by decide) _ _ _ rfl (hown.alloc _) ⟨wr.heap.size, 0, none⟩ 1 1 [.int .u8 (x.size : Int)] rfl rfl (cell_one_new _ _ _) (Nm.one_cell _ rfl) (by unfold maxLen; omega) (by omega) (by simp; omega) ?_; intro va wa hown1 hgrow1 hnl1; clear hnl1; rw [byte_len x (by omega)] at hown1; have R1 := Nm.bys_step (x := [UInt8.ofNat x.size]) (by simp; omega) (hown.alloc _) (hbel.alloc hsz _) hown1 hgrow1; clear hown1 hgrow1) | (at_builtin; refine Go.Lib.wpList_append_own_string _ rfl (.tmp 26) (.tmp 27) 44 9 rfl w1.heap.size 5 j0 Tryz.underlying44 Tryz.underlying9 hj k0 k1 k2 _ _ _ rfl R1.1 x rfl (by unfold maxLen; omega) (by omega) R1.2.size ?_; intro vb wb hown2 hgrow2 hnl2; clear hnl2; have R2 := Nm.bys_step_str R1.2.size R1.1 R1.2 hown2 hgrow2; clear hown2 hgrow2))
        go_roundw
        case rel => exact ⟨k + 1, by omega, by go_num, by rw [HW.out, HP.out]; simpa [Nat.add_assoc] using R2.1, R2.2⟩
        case measure => simp [intOf]; omega
      · have hkl : k = ls.length := by omega
        subst hkl
        rw [List.take_length] at hown
        clear hc hnl hws hown0 hgrow0 hw hlt
        have hone : (ByteArray.mk #[0]).size = 1 := rfl
        go_wp2_with (at_builtin; refine Go.Lib.wpList_append_own_string _ rfl (.tmp 30) _ 44 9 rfl w1.heap.size 5 j0 Tryz.underlying44 Tryz.underlying9 hj k0 k1 k2 _ _ _ rfl hown ⟨#[0]⟩ rfl (by unfold maxLen; omega) (by omega) hsz ?_; intro vb wb hown2 hgrow2 hnl2; clear hnl2; have R2 := Nm.bys_step_str hsz hown hbel hown2 hgrow2; clear hown2 hgrow2; obtain ⟨g, cp, rfl, hcv⟩ := Nm.conv_own (P := Tryz.prog) Tryz.underlying44 Tryz.underlying5 Tryz.underlying9 R2.1 (by omega); rw [hone] at hcv)
        go_ret2
        rw [HS.out, HC.out]
        exact ⟨rfl, R2.2⟩
end Go.Proofs.YtechmpdfbpehiaaGreatDoor
