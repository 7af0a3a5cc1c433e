import Derived.Test.YtihhchebcojplaaJMath
import Derived.Test.YtihhchebcojplaaJByS
import Derived.Test.YtihhchebcojplaaJJoin
import Derived.Laws.BytesString
/- A name within a message: mathematics. -/
namespace Go.Proofs.Ytihhchebcojplaa

/-- What reading comes to: a code, or what was read and the place behind it. -/
abbrev Rs (α : Type) := Sum Int (α × Nat)
abbrev Rs.bad {α : Type} (code : Int) : Rs α := Sum.inl code
abbrev Rs.ok {α : Type} (x : α) (next : Nat) : Rs α := Sum.inr (x, next)
theorem Rs.elim {α : Type} {motive : Rs α → Prop} (bad : ∀ c, motive (Rs.bad c)) (ok : ∀ x n, motive (Rs.ok x n)) (r : Rs α) : motive r := by
  rcases r with c | ⟨x, n⟩
  · exact bad c
  · exact ok x n

/-- What reading a name comes to. -/
abbrev Dn := Rs (List UInt8)

/-- The byte at a place. -/
def byAt (l : List UInt8) (i : Nat) : Nat := (l.getD i 0).toNat

theorem byAt_lt (l : List UInt8) (i : Nat) : byAt l i < 256 := UInt8.toNat_lt _

theorem byAt_cell {l : List UInt8} {i : Nat} (h : i < l.length) : (Nm.bys l)[i]? = some (.int .u8 (byAt l i : Int)) := by
  simp [Nm.bys, byAt, h]

/-- The name that stands at a place, of which 'acc' has been read; 'nx' is the place behind its first pointer. -/
def dnF (l : List UInt8) (start pos : Nat) (acc : List UInt8) (nx : Option Nat) : Dn :=
  if h : pos < l.length then
    if byAt l pos = 0 then .ok (acc ++ [0]) (nx.getD (pos + 1))
    else if 192 ≤ byAt l pos then
      if pos + 1 < l.length then
        if h3 : (byAt l pos - 192) * 256 + byAt l (pos + 1) < start then
          dnF l ((byAt l pos - 192) * 256 + byAt l (pos + 1)) ((byAt l pos - 192) * 256 + byAt l (pos + 1)) acc (some (nx.getD (pos + 2)))
        else .bad 9
      else .bad 8
    else if 63 < byAt l pos then .bad 2
    else if pos + 1 + byAt l pos ≤ l.length then
      if acc.length + 1 + byAt l pos + 1 ≤ 255 then dnF l start (pos + 1 + byAt l pos) (acc ++ (l.drop pos).take (1 + byAt l pos)) nx
      else .bad 3
    else .bad 8
  else .bad 8

theorem dnF_end {l : List UInt8} {start pos : Nat} {acc : List UInt8} {nx : Option Nat} (h : l.length ≤ pos) : dnF l start pos acc nx = .bad 8 := by
  rw [dnF, dif_neg (by omega)]
theorem dnF_root {l : List UInt8} {start pos : Nat} {acc : List UInt8} {nx : Option Nat} (h : pos < l.length) (h0 : byAt l pos = 0) : dnF l start pos acc nx = .ok (acc ++ [0]) (nx.getD (pos + 1)) := by
  rw [dnF, dif_pos h, if_pos h0]
theorem dnF_cut {l : List UInt8} {start pos : Nat} {acc : List UInt8} {nx : Option Nat} (h : pos < l.length) (h0 : 192 ≤ byAt l pos) (h1 : l.length ≤ pos + 1) : dnF l start pos acc nx = .bad 8 := by
  rw [dnF, dif_pos h, if_neg (by omega), if_pos h0, if_neg (by omega)]
theorem dnF_ahead {l : List UInt8} {start pos : Nat} {acc : List UInt8} {nx : Option Nat} (h0 : 192 ≤ byAt l pos) (h1 : pos + 1 < l.length) (h2 : start ≤ (byAt l pos - 192) * 256 + byAt l (pos + 1)) : dnF l start pos acc nx = .bad 9 := by
  rw [dnF, dif_pos (by omega), if_neg (by omega), if_pos h0, if_pos h1, dif_neg (by omega)]
theorem dnF_ptr {l : List UInt8} {start pos : Nat} {acc : List UInt8} {nx : Option Nat} (h0 : 192 ≤ byAt l pos) (h1 : pos + 1 < l.length) (h2 : (byAt l pos - 192) * 256 + byAt l (pos + 1) < start) :
    dnF l start pos acc nx = dnF l ((byAt l pos - 192) * 256 + byAt l (pos + 1)) ((byAt l pos - 192) * 256 + byAt l (pos + 1)) acc (some (nx.getD (pos + 2))) := by
  rw [dnF, dif_pos (by omega), if_neg (by omega), if_pos h0, if_pos h1, dif_pos h2]
theorem dnF_label {l : List UInt8} {start pos : Nat} {acc : List UInt8} {nx : Option Nat} (h : pos < l.length) (h0 : 63 < byAt l pos) (h1 : byAt l pos < 192) : dnF l start pos acc nx = .bad 2 := by
  rw [dnF, dif_pos h, if_neg (by omega), if_neg (by omega), if_pos h0]
theorem dnF_short {l : List UInt8} {start pos : Nat} {acc : List UInt8} {nx : Option Nat} (h : pos < l.length) (h0 : 0 < byAt l pos) (h1 : byAt l pos ≤ 63) (h2 : l.length < pos + 1 + byAt l pos) : dnF l start pos acc nx = .bad 8 := by
  rw [dnF, dif_pos h, if_neg (by omega), if_neg (by omega), if_neg (by omega), if_neg (by omega)]
theorem dnF_long {l : List UInt8} {start pos : Nat} {acc : List UInt8} {nx : Option Nat} (h0 : 0 < byAt l pos) (h1 : byAt l pos ≤ 63) (h2 : pos + 1 + byAt l pos ≤ l.length) (h3 : 255 < acc.length + 1 + byAt l pos + 1) : dnF l start pos acc nx = .bad 3 := by
  rw [dnF, dif_pos (by omega), if_neg (by omega), if_neg (by omega), if_neg (by omega), if_pos h2, if_neg (by omega)]
theorem dnF_more {l : List UInt8} {start pos : Nat} {acc : List UInt8} {nx : Option Nat} (h0 : 0 < byAt l pos) (h1 : byAt l pos ≤ 63) (h2 : pos + 1 + byAt l pos ≤ l.length) (h3 : acc.length + 1 + byAt l pos + 1 ≤ 255) :
    dnF l start pos acc nx = dnF l start (pos + 1 + byAt l pos) (acc ++ (l.drop pos).take (1 + byAt l pos)) nx := by
  rw [dnF, dif_pos (by omega), if_neg (by omega), if_neg (by omega), if_neg (by omega), if_pos h2, if_pos h3]

/-- What DecodeName answers: the name, the place behind it, the code. -/
def dnS (l : List UInt8) (p : Int) : List UInt8 × Int × Int :=
  if p < 0 ∨ (l.length : Int) < p then ([], 0, 32)
  else match dnF l p.toNat p.toNat [] none with
    | .inl c => ([], 0, c)
    | .inr (s, n) => (s, n, 0)
end Go.Proofs.Ytihhchebcojplaa
/- spec.DecodeName by its contract. -/
namespace Go.Proofs.Ytihhchebcojplaa
open Go.RowKit
set_option linter.unusedVariables false

/-- The model's mark of the place behind the first pointer. -/
def nxV : Option Nat → Int
  | none => -1
  | some x => x

theorem by_str {w : World} {a : Option Addr} {l : List UInt8} {cap p n : Nat} (h : BySl w (.slice a l.length cap) l) (hp : p + n ≤ l.length) (hn : 0 < n) :
    ∃ b off, a = some ⟨b, off, none⟩ ∧ ∀ W, Below w.heap.size w W → (convert 22 9 (.slice (some ⟨b, off + p, none⟩) n (cap - p))).run Try.prog W = .ok (.string ⟨((l.drop p).take n).toArray⟩) W := by
  have h' := h
  obtain ⟨_, a', cap', e, h1, h2, h3⟩ := h'
  simp only [Value.slice.injEq] at e
  obtain ⟨rfl, _, rfl⟩ := e
  obtain ⟨b, off, rfl, hc⟩ := h3 (by omega)
  refine ⟨b, off, rfl, fun W hW => ?_⟩
  have hlen : ((l.drop p).take n).length = n := by simp; omega
  have := run_convert_bytes_back (P := Try.prog) W 22 9 5 ⟨b, off + p, none⟩ (cap - p) ((l.drop p).take n) Try.underlying22 Try.underlying5 Try.underlying9 (by
    intro j hj
    rw [Nm.addr_add, Nat.add_assoc]
    have h5 : (Nm.bys l)[p + j]? = some (.int .u8 (((l.drop p).take n)[j].toNat : Int)) := by
      have : p + j < l.length := by omega
      simp [Nm.bys, this]
    have h6 := hc _ _ h5
    exact (hW.cell (World.block_lt_of_cell? w _ h6)).trans h6)
  rw [hlen] at this
  exact this

theorem pre_more {l : List UInt8} {p n : Nat} {ls : List ByteArray} (h : p < l.length) (hn : byAt l p = n) (hp : p + 1 + n ≤ l.length) : Nm.preL (ls ++ [⟨((l.drop (p + 1)).take n).toArray⟩]) = Nm.preL ls ++ (l.drop p).take (1 + n) := by
  have hsz : (ByteArray.mk ((l.drop (p + 1)).take n).toArray).size = n := by
    show ((l.drop (p + 1)).take n).toArray.size = n
    simp; omega
  have e : (l.drop p).take (1 + n) = UInt8.ofNat n :: (l.drop (p + 1)).take n := by
    rw [List.drop_eq_getElem_cons h, Nat.add_comm 1 n, List.take_succ_cons, ← hn, byAt, List.getD_eq_getElem?_getD, List.getElem?_eq_getElem h]
    simp
  rw [Nm.preL_append, e]
  simp [Nm.preL, hsz]

set_option maxRecDepth 100000 in
set_option maxHeartbeats 3200000 in
theorem specDecodeName_any (v : Value) (l : List UInt8) (p : Int) (w : World) (h : BySl w v l) (hl : l.length ≤ 1048576) :
    Calls Try.prog 30 #[v, .int .i64 p] w fun e w' => e = .returned (.tuple #[.string ⟨(dnS l p).1.toArray⟩, .int .i64 (dnS l p).2.1, .int .i64 (dnS l p).2.2]) ∧ Below w.heap.size w w' := by
  have hby := h
  obtain ⟨i0, hi, hz0, hz1, hz2⟩ := info_parts Try.infoStr
  obtain ⟨hbl, a, cap, rfl, hcap, hmx, hc⟩ := h
  by_cases hbad : p < 0 ∨ (l.length : Int) < p
  · rw [dnS, if_pos hbad]
    clear hc
    rcases hbad with hb | hb
    · go_enter Try.func30, Try.ntmps30
      go_wp2
      go_ret3
      exact ⟨rfl, Below.refl _ _⟩
    · have hb0 : 0 ≤ p := by omega
      go_enter Try.func30, Try.ntmps30
      go_wp2
      go_ret3
      exact ⟨rfl, Below.refl _ _⟩
  · obtain ⟨k, rfl⟩ := Int.eq_ofNat_of_zero_le (show 0 ≤ p by omega)
    rw [dnS, if_neg hbad]
    have hk : k ≤ l.length := by omega
    have hk' : (k : Int) ≤ (l.length : Int) := by omega
    have hto : ((k : Int)).toNat = k := by omega
    rw [hto]
    generalize hR : dnF l k k [] none = R
    have hk2 : ¬ l.length < k := by omega
    have hk3 : ¬ (k : Int) < 0 := by omega
    go_enter Try.func30, Try.ntmps30
    go_wp2
    go_loopw [1, 8, 9, 10, 11] (fun vp vl vn vx vs wr => ∃ (start pos : Nat) (ls : List ByteArray) (nx : Option Nat), vp = .int .i64 pos ∧ pos ≤ l.length ∧ wr.ownsRow w.heap.size 9 1 vl ls.length (ls.map Value.string) ∧ vn = .int .i64 ((1 + Nm.wsum ls : Nat) : Int) ∧ Nm.wsum ls ≤ 254 ∧ vx = .int .i64 (nxV nx) ∧ vs = .int .i64 start ∧ start ≤ l.length ∧ Below w.heap.size w wr ∧ dnF l start pos (Nm.preL ls) nx = R)
      (fun _ _ vn _ vs _ => (intOf vs).toNat * 300 + (255 - (intOf vn).toNat))
    case atStart => exact ⟨k, k, [], none, rfl, hk, World.ownsRow_made w #[] 0 (Nat.le_refl _) (by decide) rfl, rfl, by decide, rfl, rfl, hk, (Below.refl _ _).alloc (Nat.le_refl _) _, hR⟩
    case round =>
      obtain ⟨start, pos, ls, nx, rfl, hpos, hown, rfl, hws, rfl, rfl, hst, hbel, hres⟩ := hrel
      have hpl := Nm.preL_length ls
      have hll := Nm.length_le_wsum ls
      have hsz := hbel.size
      clear hR hbad hto
      by_cases hend : l.length ≤ pos
      · rw [dnF_end hend] at hres
        subst hres
        have hend' : (l.length : Int) ≤ (pos : Int) := by omega
        clear hown
        go_wp2
        go_ret3
        exact ⟨rfl, hbel⟩
      · have hlt : pos < l.length := by omega
        have hlt' : (pos : Int) < (l.length : Int) := by omega
        obtain ⟨b, off, rfl, hcell⟩ := hc (by omega)
        have hc0 := hcell pos _ (byAt_cell hlt)
        have hcx : wr.cell? ⟨b, off + pos, none⟩ = some (.int .u8 (byAt l pos : Int)) := (hbel.cell (World.block_lt_of_cell? w _ hc0)).trans hc0
        have hb := byAt_lt l pos
        have hb' : (byAt l pos : Int) < 256 := by omega
        by_cases h0 : byAt l pos = 0
        · rw [dnF_root hlt h0] at hres
          subst hres
          rw [h0] at hcx
          have hjn := fun W (hB : Below wr.heap.size wr W) => l01Join_any _ ls W (Nm.SRow.of_owns (own_below hown hB)) (by omega)
          clear hcell hc hc0
          cases nx with
          | none =>
            simp only [nxV]
            go_wp2_with (go_at_call 50; refine (hjn _ (Below.refl _ _)).mono ?_; rintro e w1 ⟨rfl, hb1⟩)
            go_ret3
            exact ⟨rfl, Nm.below_two hbel hb1⟩
          | some x =>
            simp only [nxV]
            go_wp2_with (go_at_call 50; refine (hjn _ (Below.refl _ _)).mono ?_; rintro e w1 ⟨rfl, hb1⟩)
            go_ret3
            exact ⟨rfl, Nm.below_two hbel hb1⟩
        · have h0' : ((byAt l pos : Int) == 0) = false := by rw [beq_eq_false_iff_ne]; omega
          by_cases h192 : 192 ≤ byAt l pos
          · have h192' : (192 : Int) ≤ (byAt l pos : Int) := by omega
            by_cases hcut : l.length ≤ pos + 1
            · rw [dnF_cut hlt h192 hcut] at hres
              subst hres
              have hcut' : (l.length : Int) ≤ (pos : Int) + 1 := by omega
              generalize byAt l pos = n at *
              clear hown hcell hc hc0
              go_wp2
              go_ret3
              exact ⟨rfl, hbel⟩
            · have hlt2 : pos + 1 < l.length := by omega
              have hlt2' : (pos : Int) + 1 < (l.length : Int) := by omega
              have hd0 := hcell (pos + 1) _ (byAt_cell hlt2)
              have hdx : wr.cell? ⟨b, off + (pos + 1), none⟩ = some (.int .u8 (byAt l (pos + 1) : Int)) := (hbel.cell (World.block_lt_of_cell? w _ hd0)).trans hd0
              have hb2 := byAt_lt l (pos + 1)
              have hb2' : (byAt l (pos + 1) : Int) < 256 := by omega
              by_cases hahead : start ≤ (byAt l pos - 192) * 256 + byAt l (pos + 1)
              · rw [dnF_ahead h192 hlt2 hahead] at hres
                subst hres
                have hah' : (start : Int) ≤ ((byAt l pos : Int) - 192) * 256 + (byAt l (pos + 1) : Int) := by omega
                generalize byAt l pos = n at *
                generalize byAt l (pos + 1) = m at *
                clear hown hcell hc hc0 hd0
                go_wp2
                go_ret3
                exact ⟨rfl, hbel⟩
              · have hback : (byAt l pos - 192) * 256 + byAt l (pos + 1) < start := by omega
                rw [dnF_ptr h192 hlt2 hback] at hres
                have HRES := Nm.hide hres
                clear hres
                have e2 : ((byAt l pos : Int) - 192) * 256 + (byAt l (pos + 1) : Int) = (((byAt l pos - 192) * 256 + byAt l (pos + 1) : Nat) : Int) := by omega
                have hah' : (((byAt l pos - 192) * 256 + byAt l (pos + 1) : Nat) : Int) < (start : Int) := by omega
                generalize hto : (byAt l pos - 192) * 256 + byAt l (pos + 1) = to at *
                generalize byAt l pos = n at *
                generalize byAt l (pos + 1) = m at *
                clear hcell hc hc0 hd0
                cases nx with
                | none =>
                  simp only [nxV]
                  go_wp2
                  go_roundw
                  case rel => exact ⟨to, to, ls, some (pos + 2), rfl, by omega, hown, rfl, hws, rfl, rfl, by omega, hbel, HRES.out⟩
                  case measure => simp only [intOf]; omega
                | some x =>
                  simp only [nxV]
                  go_wp2
                  go_roundw
                  case rel => exact ⟨to, to, ls, some x, rfl, by omega, hown, rfl, hws, rfl, rfl, by omega, hbel, HRES.out⟩
                  case measure => simp only [intOf]; omega
          · have h192' : (byAt l pos : Int) < 192 := by omega
            by_cases h63 : 63 < byAt l pos
            · rw [dnF_label hlt h63 (by omega)] at hres
              subst hres
              have h63' : (63 : Int) < (byAt l pos : Int) := by omega
              generalize byAt l pos = n at *
              clear hown hcell hc hc0
              go_wp2
              go_ret3
              exact ⟨rfl, hbel⟩
            · have h63' : (byAt l pos : Int) ≤ 63 := by omega
              by_cases hsh : l.length < pos + 1 + byAt l pos
              · rw [dnF_short hlt (by omega) (by omega) hsh] at hres
                subst hres
                have hsh' : (l.length : Int) < (pos : Int) + 1 + (byAt l pos : Int) := by omega
                generalize byAt l pos = n at *
                clear hown hcell hc hc0
                go_wp2
                go_ret3
                exact ⟨rfl, hbel⟩
              · have hok : pos + 1 + byAt l pos ≤ l.length := by omega
                have hok' : (pos : Int) + 1 + (byAt l pos : Int) ≤ (l.length : Int) := by omega
                by_cases hlong : 255 < (Nm.preL ls).length + 1 + byAt l pos + 1
                · rw [dnF_long (by omega) (by omega) hok hlong] at hres
                  subst hres
                  have hlong' : (255 : Int) < ((1 + Nm.wsum ls : Nat) : Int) + 1 + (byAt l pos : Int) := by omega
                  generalize byAt l pos = n at *
                  clear hown hcell hc hc0
                  go_wp2
                  go_ret3
                  exact ⟨rfl, hbel⟩
                · rw [dnF_more (by omega) (by omega) hok (by omega)] at hres
                  have HRES := Nm.hide hres
                  clear hres
                  obtain ⟨b2, off2, hbo, hcv⟩ := by_str hby (show pos + 1 + byAt l pos ≤ l.length from hok) (by omega)
                  simp only [Option.some.injEq, Addr.mk.injEq, and_true] at hbo
                  obtain ⟨rfl, rfl⟩ := hbo
                  have hcv1 := hcv wr hbel
                  have HP := Nm.hide (pre_more (ls := ls) hlt rfl hok)
                  have hxs : (ByteArray.mk ((l.drop (pos + 1)).take (byAt l pos)).toArray).size = byAt l pos := by
                    show ((l.drop (pos + 1)).take (byAt l pos)).toArray.size = _
                    simp; omega
                  have HW : Hid (Nm.wsum (ls ++ [⟨((l.drop (pos + 1)).take (byAt l pos)).toArray⟩]) = Nm.wsum ls + (1 + byAt l pos)) := by
                    rw [Hid, Nm.wsum_append]; simp [Nm.wsum, hxs]
                  have hcp : ¬ cap = pos + 1 := by omega
                  have hshort' : ((1 + Nm.wsum ls : Nat) : Int) + 1 + (byAt l pos : Int) ≤ 255 := by omega
                  have hshort : Nm.wsum ls + (1 + byAt l pos) ≤ 254 := by omega
                  generalize (⟨((l.drop (pos + 1)).take (byAt l pos)).toArray⟩ : ByteArray) = xs at *
                  generalize byAt l pos = n at *
                  clear hcell hc hc0 hcv hlong
                  go_wp2_with (at_builtin; refine wpList_append_own _ rfl (.tmp 81) (.tmp 91) 101 rfl w.heap.size 9 i0 (.string ByteArray.empty) 1 16 Try.underlying101 hi hz0 hz1 hz2 rfl (by decide) _ _ _ rfl (hown.alloc _) ⟨wr.heap.size, 0, none⟩ 1 1 [.string xs] rfl rfl (cell_new1 _ _ _) (Nm.one_cell _ rfl) (by unfold maxLen; omega) (by omega) (by simp; omega) ?_; intro v' w1 hown' hgrow hnl; clear hnl; have RR := Nm.hide (own_step hsz hown hbel _ hown' hgrow); clear hown' hgrow hown hbel)
                  go_roundw
                  case rel =>
                    refine ⟨start, pos + 1 + n, ls ++ [xs], nx, by go_num, hok, RR.out.1, ?_, ?_, rfl, rfl, hst, RR.out.2, ?_⟩
                    · rw [HW.out]; go_num
                    · rw [HW.out]; exact hshort
                    · rw [HP.out]; exact HRES.out
                  case measure => simp only [intOf]; omega
end Go.Proofs.Ytihhchebcojplaa
