import Derived.Test.YtakonfkefoeenahJMath
import Derived.Test.YtakonfkefoeenahRows
import Derived.WalkSpells
import Derived.WalkLawsBesides
import Derived.RegionTactic
import Derived.ChangeAlike
import Derived.BigRegion
/- A name within a message: mathematics. -/
namespace Go.Proofs.Ytakonfkefoeenah

/-- What reading comes to: a code, or what was read and the place behind it. -/
abbrev Rs (α : Type) := Sum Int (α × Nat)
abbrev Rs.bad {α : Type} (code : Int) : Rs α := Sum.inl code
abbrev Rs.ok {α : Type} (x : α) (next : Nat) : Rs α := Sum.inr (x, next)
theorem Rs.elim {α : Type} {motive : Rs α → Prop} (bad : ∀ c, motive (Rs.bad c)) (ok : ∀ x n, motive (Rs.ok x n)) (r : Rs α) : motive r := by
  rcases r with c | ⟨x, n⟩
  · exact bad c
  · exact ok x n

/-- What reading a name comes to. -/
abbrev Dn := Rs (List UInt8)

/-- The byte at a place. -/
def byAt (l : List UInt8) (i : Nat) : Nat := (l.getD i 0).toNat

theorem byAt_lt (l : List UInt8) (i : Nat) : byAt l i < 256 := UInt8.toNat_lt _

theorem byAt_cell {l : List UInt8} {i : Nat} (h : i < l.length) : (Nm.bys l)[i]? = some (.int .u8 (byAt l i : Int)) := by
  simp [Nm.bys, byAt, h]

/-- The name that stands at a place, of which 'acc' has been read; 'nx' is the place behind its first pointer. -/
def dnF (l : List UInt8) (start pos : Nat) (acc : List UInt8) (nx : Option Nat) : Dn :=
  if h : pos < l.length then
    if byAt l pos = 0 then .ok (acc ++ [0]) (nx.getD (pos + 1))
    else if 192 ≤ byAt l pos then
      if pos + 1 < l.length then
        if h3 : (byAt l pos - 192) * 256 + byAt l (pos + 1) < start then
          dnF l ((byAt l pos - 192) * 256 + byAt l (pos + 1)) ((byAt l pos - 192) * 256 + byAt l (pos + 1)) acc (some (nx.getD (pos + 2)))
        else .bad 9
      else .bad 8
    else if 63 < byAt l pos then .bad 2
    else if pos + 1 + byAt l pos ≤ l.length then
      if acc.length + 1 + byAt l pos + 1 ≤ 255 then dnF l start (pos + 1 + byAt l pos) (acc ++ (l.drop pos).take (1 + byAt l pos)) nx
      else .bad 3
    else .bad 8
  else .bad 8

theorem dnF_end {l : List UInt8} {start pos : Nat} {acc : List UInt8} {nx : Option Nat} (h : l.length ≤ pos) : dnF l start pos acc nx = .bad 8 := by
  rw [dnF, dif_neg (by omega)]
theorem dnF_root {l : List UInt8} {start pos : Nat} {acc : List UInt8} {nx : Option Nat} (h : pos < l.length) (h0 : byAt l pos = 0) : dnF l start pos acc nx = .ok (acc ++ [0]) (nx.getD (pos + 1)) := by
  rw [dnF, dif_pos h, if_pos h0]
theorem dnF_cut {l : List UInt8} {start pos : Nat} {acc : List UInt8} {nx : Option Nat} (h : pos < l.length) (h0 : 192 ≤ byAt l pos) (h1 : l.length ≤ pos + 1) : dnF l start pos acc nx = .bad 8 := by
  rw [dnF, dif_pos h, if_neg (by omega), if_pos h0, if_neg (by omega)]
theorem dnF_ahead {l : List UInt8} {start pos : Nat} {acc : List UInt8} {nx : Option Nat} (h0 : 192 ≤ byAt l pos) (h1 : pos + 1 < l.length) (h2 : start ≤ (byAt l pos - 192) * 256 + byAt l (pos + 1)) : dnF l start pos acc nx = .bad 9 := by
  rw [dnF, dif_pos (by omega), if_neg (by omega), if_pos h0, if_pos h1, dif_neg (by omega)]
theorem dnF_ptr {l : List UInt8} {start pos : Nat} {acc : List UInt8} {nx : Option Nat} (h0 : 192 ≤ byAt l pos) (h1 : pos + 1 < l.length) (h2 : (byAt l pos - 192) * 256 + byAt l (pos + 1) < start) :
    dnF l start pos acc nx = dnF l ((byAt l pos - 192) * 256 + byAt l (pos + 1)) ((byAt l pos - 192) * 256 + byAt l (pos + 1)) acc (some (nx.getD (pos + 2))) := by
  rw [dnF, dif_pos (by omega), if_neg (by omega), if_pos h0, if_pos h1, dif_pos h2]
theorem dnF_label {l : List UInt8} {start pos : Nat} {acc : List UInt8} {nx : Option Nat} (h : pos < l.length) (h0 : 63 < byAt l pos) (h1 : byAt l pos < 192) : dnF l start pos acc nx = .bad 2 := by
  rw [dnF, dif_pos h, if_neg (by omega), if_neg (by omega), if_pos h0]
theorem dnF_short {l : List UInt8} {start pos : Nat} {acc : List UInt8} {nx : Option Nat} (h : pos < l.length) (h0 : 0 < byAt l pos) (h1 : byAt l pos ≤ 63) (h2 : l.length < pos + 1 + byAt l pos) : dnF l start pos acc nx = .bad 8 := by
  rw [dnF, dif_pos h, if_neg (by omega), if_neg (by omega), if_neg (by omega), if_neg (by omega)]
theorem dnF_long {l : List UInt8} {start pos : Nat} {acc : List UInt8} {nx : Option Nat} (h0 : 0 < byAt l pos) (h1 : byAt l pos ≤ 63) (h2 : pos + 1 + byAt l pos ≤ l.length) (h3 : 255 < acc.length + 1 + byAt l pos + 1) : dnF l start pos acc nx = .bad 3 := by
  rw [dnF, dif_pos (by omega), if_neg (by omega), if_neg (by omega), if_neg (by omega), if_pos h2, if_neg (by omega)]
theorem dnF_more {l : List UInt8} {start pos : Nat} {acc : List UInt8} {nx : Option Nat} (h0 : 0 < byAt l pos) (h1 : byAt l pos ≤ 63) (h2 : pos + 1 + byAt l pos ≤ l.length) (h3 : acc.length + 1 + byAt l pos + 1 ≤ 255) :
    dnF l start pos acc nx = dnF l start (pos + 1 + byAt l pos) (acc ++ (l.drop pos).take (1 + byAt l pos)) nx := by
  rw [dnF, dif_pos (by omega), if_neg (by omega), if_neg (by omega), if_neg (by omega), if_pos h2, if_pos h3]

/-- What DecodeName answers: the name, the place behind it, the code. -/
def dnS (l : List UInt8) (p : Int) : List UInt8 × Int × Int :=
  if p < 0 ∨ (l.length : Int) < p then ([], 0, 32)
  else match dnF l p.toNat p.toNat [] none with
    | .inl c => ([], 0, c)
    | .inr (s, n) => (s, n, 0)
end Go.Proofs.Ytakonfkefoeenah
/- string([]byte{c}), and small things. -/
namespace Go.Proofs.Ytakonfkefoeenah
open Go.RowKit

theorem conv_one (n : Int) (W : World) :
    (convert 22 9 (.slice (some ⟨W.heap.size, 0, none⟩) 1 1)).run Try.prog (W.alloc (.cells #[.int .u8 n] 5)) = .ok (.string ⟨#[UInt8.ofNat n.toNat]⟩) (W.alloc (.cells #[.int .u8 n] 5)) := by
  rw [run_convert_bytes_string _ 22 9 5 _ _ _ Try.underlying22 Try.underlying5 Try.underlying9]
  have hl := run_loadCells_list (P := Try.prog) (W.alloc (.cells #[.int .u8 n] 5)) ⟨W.heap.size, 0, none⟩ ([n].map (Value.int .u8)) (fun j v hj => cell_one_new W (.int .u8 n) 5 j v hj)
  rw [run_bytesToString _ _ 1 1 [n] hl]
  rfl

theorem conv_one_drew (n : Int) (W : World) :
    (convert 22 9 (.slice (some ⟨W.heap.size, 0, none⟩) 1 1)).run Try.prog (W.alloc (.cells #[.int .u8 n] 5)).drew = .ok (.string ⟨#[UInt8.ofNat n.toNat]⟩) (W.alloc (.cells #[.int .u8 n] 5)).drew :=
  conv_one n W.drew

theorem ret_str {a b : ByteArray} (h : a = b) : Ending.returned (.string a) = .returned (.string b) := by rw [h]

theorem byte_mod (n : Nat) : UInt8.ofNat (n % 256) = UInt8.ofNat n := by
  apply UInt8.toNat_inj.1
  simp

theorem ba_ext {a b : ByteArray} (h : a.data.toList = b.data.toList) : a = b := by
  apply ByteArray.ext
  exact Array.toList_inj.1 h

theorem size_list (s : ByteArray) : s.data.toList.length = s.size := by simp

end Go.Proofs.Ytakonfkefoeenah
/- spec.l01Join by its contract. -/
namespace Go.Proofs.Ytakonfkefoeenah
open Go.RowKit

set_option maxRecDepth 100000 in
set_option maxHeartbeats 800000 in
theorem l01Join_any (v : Value) (ls : List ByteArray) (w : World) (h : Nm.SRow w v ls) (hlen : Nm.wsum ls ≤ 1000000000) :
    Calls Try.prog 35 #[v] w fun e w' => e = .returned (.string ⟨(Nm.joinL ls).toArray⟩) ∧ Below w.heap.size w w' := by
  obtain ⟨a, cap, rfl, hcap, hmx, hnl, hc⟩ := h
  have hll := Nm.length_le_wsum ls
  go_enter Try.func35, Try.ntmps35
  go_wp2
  go_loopw [3, 4] (fun t i wr => ∃ (k : Nat) (s : ByteArray), k ≤ ls.length ∧ i = .int .i64 k ∧ t = .string s ∧ Hid (s.data.toList = Nm.preL (ls.take k)) ∧ Below w.heap.size w wr)
    (fun _ i _ => ls.length - (intOf i).toNat)
  case atStart => exact ⟨0, _, Nat.zero_le _, rfl, rfl, rfl, Below.refl _ _⟩
  case round =>
    obtain ⟨k, s, hk, rfl, rfl, HS, hbel⟩ := hrel
    have hw := Nm.wsum_take_le ls k
    have hsz := hbel.size
    have hss : s.size = Nm.wsum (ls.take k) := by rw [← size_list, HS.out, Nm.preL_length]
    have hss' : s.size ≤ 1000000000 := by omega
    by_cases hlt : k < ls.length
    · obtain ⟨x, hx⟩ : ∃ x, ls[k]? = some x := ⟨_, List.getElem?_eq_getElem hlt⟩
      obtain ⟨b, off, rfl, hcell⟩ := hc (by intro h; rw [h] at hlt; simp at hlt)
      have hbk : b < wr.heap.size := Nat.lt_of_lt_of_le (World.block_lt_of_cell? w _ (hcell k x hx)) hsz
      have hcx : wr.cell? ⟨b, off + k, none⟩ = some (.string x) := (hbel.cell (World.block_lt_of_cell? w _ (hcell k x hx))).trans (hcell k x hx)
      have HP : Hid (Nm.preL (ls.take (k + 1)) = Nm.preL (ls.take k) ++ (UInt8.ofNat x.size :: x.data.toList)) := Nm.preL_step hx
      have hw1 : s.size + (1 + x.size) ≤ 1000000000 := by
        have h1 := Nm.wsum_step hx
        have h2 := Nm.wsum_take_le ls (k + 1)
        omega
      have hcv := fun n => conv_one_drew n wr
      clear hx hcell hc hnl hss hw
      go_wp2
      go_region
      all_goals
        go_wp2
        go_roundw
        case rel => exact ⟨k + 1, _, by omega, by go_num, rfl, by show _ = _; rw [HP.out, ← HS.out]; simp [byte_mod], (hbel.alloc hsz _).drew⟩
        case measure => simp [intOf]; omega
    · have hkl : k = ls.length := by omega
      subst hkl
      rw [List.take_length] at HS
      clear hc hnl hw hlt hss
      have hone : (ByteArray.mk #[0]).size = 1 := rfl
      go_wp2
      go_ret
      exact ⟨ret_str (ba_ext (by simp [Nm.joinL, HS.out])), hbel⟩
end Go.Proofs.Ytakonfkefoeenah
