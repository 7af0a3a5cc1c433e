import Derived.Test.YtddabafaejahbaaGreatDoorJCutM
import Derived.Test.YtddabafaejahbaaGreatDoorJTxt5A
import Derived.Shelf.Strings.Builder1
import Derived.Shelf.Strings.Builder2
import Derived.Shelf.Strings.OnBuilder
import Derived.Shelf.Small.Strs
import Derived.Shelf.Utf8.RuneCount
import Derived.Shelf.Strconv.Itoa0
import Derived.Shelf.Strconv.Itoa1
import Derived.Shelf.LaysM
import Derived.Shelf.Strconv.Itoa2
import Derived.Shelf.Strconv.Itoa3
import Derived.Shelf.Strings.Search1
import Derived.Shelf.Strings.Search2
import Derived.Shelf.Strings.Search3
import Derived.Shelf.Strings.Cut
import Derived.Shelf.Strings.Count
import Derived.Shelf.Strings.Shaped
import Derived.Shelf.Strings.Split
import Derived.Shelf.Strings.SplitShaped
import Derived.Shelf.Unicode.Decode
import Derived.Shelf.Strings.RuneCount
import Derived.Shelf.Strings.Explode
import Derived.Shelf.Bits.Mul64
import Derived.Shelf.Unicode.DecodeSlow
import Derived.Shelf.Unicode.DecodeAny
import Derived.Ground.Names2Prog
import Derived.Shelf.Slices.SearchI
import Derived.Test.YtddabafaejahbaaGreatDoorProg
import Derived.Test.YtddabafaejahbaaGreatDoorJTxt3
import Derived.Test.YtddabafaejahbaaGreatDoorJTxt6A
/- ReadData as mathematics: a form's words one behind the other; sizes. -/
namespace Go.Proofs.YtddabafaejahbaaGreatDoor
open Go.RowKit
set_option linter.unusedVariables false

theorem rtF_len : ∀ (f : Nat) (l r : List UInt8), rtF f l = some r → r.length ≤ l.length := by
  intro f
  induction f with
  | zero => intro l r h; simp [rtF] at h; subst h; simp
  | succ f ih =>
    intro l r h
    cases l with
    | nil => simp [rtF] at h; subst h; simp
    | cons c l =>
      rw [rtF] at h
      split at h
      · cases he : Nm.escF l with
        | none => rw [he] at h; cases h
        | some p =>
          obtain ⟨b, n⟩ := p
          rw [he] at h
          simp only at h
          cases hr : rtF f (l.drop n) with
          | none => rw [hr] at h; cases h
          | some t =>
            rw [hr] at h
            have := ih _ _ hr
            simp at h
            subst h
            simp at this ⊢
            omega
      · cases hr : rtF f l with
        | none => rw [hr] at h; cases h
        | some t =>
          rw [hr] at h
          have := ih _ _ hr
          simp at h
          subst h
          simp at this ⊢
          omega
theorem text_size (x : ByteArray) : (readTextR x).1.size ≤ x.size := by
  unfold readTextR
  cases h : readTextL x.data.toList with
  | none => exact Nat.zero_le _
  | some l =>
    have := rtF_len _ _ _ h
    simp only
    show l.toArray.size ≤ _
    simp at this ⊢
    exact this
theorem rv4_size (x : ByteArray) : (readV4S x).1.size ≤ 4 := by
  by_cases h : (readV4S x).2 = 0
  · unfold readV4S at h ⊢
    split
    · rename_i h4
      cases hv : v4All (cutB x 46) with
      | none => exact Nat.zero_le _
      | some l =>
        have key : ∀ (ls : List ByteArray) (l : List UInt8), v4All ls = some l → l.length = ls.length := by
          intro ls
          induction ls with
          | nil => intro l h; simp [v4All] at h; subst h; rfl
          | cons p r ih =>
            intro l h
            rw [v4All] at h
            cases hp : v4Part p with
            | none => rw [hp] at h; cases h
            | some n =>
              rw [hp] at h
              simp only at h
              cases hr : v4All r with
              | none => rw [hr] at h; cases h
              | some t =>
                rw [hr] at h
                simp at h
                subst h
                simp [ih t hr]
        have := key _ _ hv
        simp only
        show l.toArray.size ≤ 4
        simp
        omega
    · exact Nat.zero_le _
  · unfold readV4S at h ⊢
    split
    · cases hv : v4All (cutB x 46) with
      | none => exact Nat.zero_le _
      | some l => rename_i h4; rw [if_pos h4, hv] at h; exact absurd rfl h
    · exact Nat.zero_le _
theorem rv6_size (x : ByteArray) : (readV6S x).1.size ≤ 30 := by
  unfold readV6S
  split
  · exact Nat.zero_le _
  · split
    · unfold v6Gap
      split
      · split
        · exact Nat.zero_le _
        · show (List.toArray _).size ≤ 30
          simp
          omega
      · exact Nat.zero_le _
    · unfold v6Whole
      split
      · split
        · show (List.toArray _).size ≤ 30
          simp
          omega
        · exact Nat.zero_le _
      · exact Nat.zero_le _
theorem make_size (ls : List ByteArray) : (makeS ls).1.size ≤ 255 := by
  unfold makeS
  split
  · exact Nat.zero_le _
  · split
    · exact Nat.zero_le _
    · split
      · exact Nat.zero_le _
      · show (List.toArray _).size ≤ 255
        have := Nm.joinL_length ls
        simp
        omega
theorem readS_size (t o : ByteArray) : (readS t o).1.size ≤ o.size + 255 := by
  unfold readS
  split
  · exact Nat.zero_le _
  · split
    · exact Nat.zero_le _
    · split
      · exact Nat.zero_le _
      · split
        · split
          · exact Nat.zero_le _
          · simp
        · split
          · show 1 ≤ _; omega
          · split
            · exact Nat.zero_le _
            · split
              · exact Nat.le_trans (make_size _) (by omega)
              · split
                · exact Nat.zero_le _
                · exact Nat.le_trans (make_size _) (by omega)
theorem lenS_size (x : ByteArray) : (lenS x).size = 1 + x.size := by rw [lenS, ByteArray.size_append]; rfl
theorem big_size (n k : Nat) : (⟨(bigL n k).toArray⟩ : ByteArray).size = k := by
  show (bigL n k).toArray.size = k
  simp [bigL]
theorem timW_size (x : ByteArray) : (timW x).1.size ≤ 4 := by
  unfold timW
  split
  · simp only; rw [big_size]; omega
  · exact Nat.zero_le _
theorem readWd_size (c : UInt8) (x : Wrd) (o : ByteArray) : (readWd c x o).1.size ≤ x.1.size + o.size + 300 := by
  unfold readWd
  split
  · have h1 := text_size x.1
    unfold readTx
    split
    · exact Nat.zero_le _
    · split
      · simp only; omega
      · split
        · exact Nat.zero_le _
        · simp only; rw [lenS_size]; omega
  · split
    · exact Nat.zero_le _
    · have h4 := rv4_size x.1
      have h6 := rv6_size x.1
      have hs := readS_size x.1 o
      have ht := timW_size x.1
      have hc := c.toNat_lt
      unfold readPl
      split
      · omega
      · split
        · omega
        · split
          · omega
          · split
            · split
              · split
                · simp only; rw [big_size]; omega
                · omega
              · omega
            · split
              · split
                · simp only; rw [lenS_size]; omega
                · exact Nat.zero_le _
              · split
                · split
                  · simp only; rw [big_size]; omega
                  · exact Nat.zero_le _
                · exact Nat.zero_le _

/-- The kind of the word at a place. -/
def kindAt (s : ByteArray) (i : Nat) : UInt8 := if h : i < s.size then s[i] else if h2 : 0 < s.size then s[s.size - 1]'(by omega) else 0
/-- The words of a form: the data, the types. -/
def rdF (s o : ByteArray) : Nat → List Wrd → ByteArray → List Int → Except Int (ByteArray × List Int)
  | _, [], b, ts => .ok (b, ts)
  | i, x :: r, b, ts =>
    if kindAt s i = 109 then
      if x.2 = true then .error 15
      else if (readTyS x.1).2 ≠ 0 then .error (readTyS x.1).2
      else rdF s o (i + 1) r b (ts ++ [(readTyS x.1).1])
    else if (readWd (kindAt s i) x o).2 ≠ 0 then .error (readWd (kindAt s i) x o).2
    else rdF s o (i + 1) r (b ++ (readWd (kindAt s i) x o).1) ts
def rdE : Except Int (ByteArray × List Int) → ByteArray × Int
  | .error c => (⟨#[]⟩, c)
  | .ok p => if 65535 < (p.1 ++ (mapR p.2).1).size then (⟨#[]⟩, 7) else (p.1 ++ (mapR p.2).1, 0)
def formD (t : Int) (ws : List Wrd) (o : ByteArray) : ByteArray × Int :=
  if (scriptS t).size = 0 ∨ manyB (scriptS t) ws.length = false then (⟨#[]⟩, 15) else rdE (rdF (scriptS t) o 0 ws ⟨#[]⟩ [])
def plainMk : ByteArray := ⟨#[92, 35]⟩
def isPl (ws : List Wrd) : Bool := match ws with
  | [] => false
  | x :: _ => x.1.toList == [92, 35] && !x.2
def readDS (t : Int) (ws : List Wrd) (o : ByteArray) : ByteArray × Int :=
  if t < 0 ∨ 65535 < t then (⟨#[]⟩, 6)
  else if o.size ≠ 0 ∧ (Nm.split o).isSome = false then (⟨#[]⟩, 32)
  else if 300 < ws.length then (⟨#[]⟩, 11)
  else if isPl ws = true then plainS t ws.tail
  else formD t ws o

theorem drop_at {ws : List Wrd} {j : Nat} {x : Wrd} (h : ws[j]? = some x) : ws.drop j = x :: ws.drop (j + 1) := by
  have hl := List.getElem?_eq_some_iff.1 h
  rw [List.drop_eq_getElem_cons hl.1, hl.2]
/-- Where the reading of words stands. -/
def RdAt (s o : ByteArray) (ws : List Wrd) (j : Nat) (b : ByteArray) (ts : List Int) : Prop := rdF s o 0 ws ⟨#[]⟩ [] = rdF s o j (ws.drop j) b ts
section
variable {s o b : ByteArray} {ws : List Wrd} {j : Nat} {ts : List Int} {x : Wrd}
theorem rd_end (h : RdAt s o ws j b ts) (hj : ws.length ≤ j) : rdE (rdF s o 0 ws ⟨#[]⟩ []) = if 65535 < (b ++ (mapR ts).1).size then (⟨#[]⟩, 7) else (b ++ (mapR ts).1, 0) := by
  rw [RdAt] at h
  rw [h, List.drop_eq_nil_of_le hj, rdF, rdE]
theorem rd_quot (h : RdAt s o ws j b ts) (hx : ws[j]? = some x) (hk : kindAt s j = 109) (hq : x.2 = true) : rdE (rdF s o 0 ws ⟨#[]⟩ []) = (⟨#[]⟩, 15) := by
  rw [RdAt] at h
  rw [h, drop_at hx, rdF, if_pos hk, if_pos hq, rdE]
theorem rd_type (h : RdAt s o ws j b ts) (hx : ws[j]? = some x) (hk : kindAt s j = 109) (hq : x.2 = false) (hc : (readTyS x.1).2 ≠ 0) : rdE (rdF s o 0 ws ⟨#[]⟩ []) = (⟨#[]⟩, (readTyS x.1).2) := by
  rw [RdAt] at h
  rw [h, drop_at hx, rdF, if_pos hk, if_neg (by simp [hq]), if_pos hc, rdE]
theorem rd_typ2 (h : RdAt s o ws j b ts) (hx : ws[j]? = some x) (hk : kindAt s j = 109) (hq : x.2 = false) (hc : (readTyS x.1).2 = 0) : RdAt s o ws (j + 1) b (ts ++ [(readTyS x.1).1]) := by
  rw [RdAt] at h ⊢
  rw [h, drop_at hx, rdF, if_pos hk, if_neg (by simp [hq]), if_neg (by simpa using hc)]
theorem rd_word (h : RdAt s o ws j b ts) (hx : ws[j]? = some x) (hk : kindAt s j ≠ 109) (hc : (readWd (kindAt s j) x o).2 ≠ 0) : rdE (rdF s o 0 ws ⟨#[]⟩ []) = (⟨#[]⟩, (readWd (kindAt s j) x o).2) := by
  rw [RdAt] at h
  rw [h, drop_at hx, rdF, if_neg hk, if_pos hc, rdE]
theorem rd_wor2 (h : RdAt s o ws j b ts) (hx : ws[j]? = some x) (hk : kindAt s j ≠ 109) (hc : (readWd (kindAt s j) x o).2 = 0) : RdAt s o ws (j + 1) (b ++ (readWd (kindAt s j) x o).1) ts := by
  rw [RdAt] at h ⊢
  rw [h, drop_at hx, rdF, if_neg hk, if_neg (by simpa using hc)]
end
theorem script_size (t : Int) : (scriptS t).size ≤ 7 := by
  unfold scriptS
  repeat' split
  all_goals decide
end Go.Proofs.YtddabafaejahbaaGreatDoor
/- Contracts of the library at this dump. -/
namespace Go.Proofs
open Go.Shelf
def Tryz.lays170_ren : Go.Shelf.Ren := ⟨fun | 170 => 54 | n => n, fun | 70 => 101 | 3 => 3 | 0 => 0 | 72 => 103 | 37 => 87 | 5 => 5 | n => n, fun | n => n⟩
theorem Tryz.lays170 : Go.Proofs.Lays.n170 Tryz.prog Tryz.lays170_ren := {
  mixed := by kernel_rfl
  f170 := Tryz.func54.trans (congrArg some (by kernel_rfl))
  t0 := Tryz.underlying0
  a0 := Tryz.isAgg0
  z0 := Tryz.sizeOf0
  v0 := Tryz.zeroValue0
  t3 := Tryz.underlying3
  a3 := Tryz.isAgg3
  z3 := Tryz.sizeOf3
  v3 := Tryz.zeroValue3
  t37 := Tryz.underlying87
  a37 := Tryz.isAgg87
  z37 := Tryz.sizeOf87
  v37 := Tryz.zeroValue87
  t70 := Tryz.underlying101
  a70 := Tryz.isAgg101
  z70 := Tryz.sizeOf101
  v70 := Tryz.zeroValue101
  t72 := Tryz.underlying103
  a72 := Tryz.isAgg103
  z72 := Tryz.sizeOf103
  v72 := Tryz.zeroValue103 }
open Go.RowKit in
theorem Tryz.Builder_Len (B b : Nat) (bs : List Value) (w : World) (h : Lib.IsBuilder 103 5 B b bs w) :
    Calls Tryz.prog 54 #[.pointer (some ⟨b, 0, none⟩)] w fun e w' => e = .returned (.int .i64 bs.length) ∧ w' = w := Any.Builder_Len Tryz.lays170 B b bs w h
def Tryz.lays169_ren : Go.Shelf.Ren := ⟨fun | 169 => 56 | n => n, fun | 70 => 101 | 9 => 9 | 0 => 0 | 72 => 103 | 37 => 87 | 127 => 149 | 3 => 3 | 5 => 5 | n => n, fun | n => n⟩
theorem Tryz.lays169 : Go.Proofs.Lays.n169 Tryz.prog Tryz.lays169_ren := {
  mixed := by kernel_rfl
  f169 := Tryz.func56.trans (congrArg some (by kernel_rfl))
  t0 := Tryz.underlying0
  a0 := Tryz.isAgg0
  z0 := Tryz.sizeOf0
  v0 := Tryz.zeroValue0
  t3 := Tryz.underlying3
  a3 := Tryz.isAgg3
  z3 := Tryz.sizeOf3
  v3 := Tryz.zeroValue3
  t9 := Tryz.underlying9
  a9 := Tryz.isAgg9
  z9 := Tryz.sizeOf9
  v9 := Tryz.zeroValue9
  t37 := Tryz.underlying87
  a37 := Tryz.isAgg87
  z37 := Tryz.sizeOf87
  v37 := Tryz.zeroValue87
  t70 := Tryz.underlying101
  a70 := Tryz.isAgg101
  z70 := Tryz.sizeOf101
  v70 := Tryz.zeroValue101
  t72 := Tryz.underlying103
  a72 := Tryz.isAgg103
  z72 := Tryz.sizeOf103
  v72 := Tryz.zeroValue103
  t127 := Tryz.underlying149
  a127 := Tryz.isAgg149
  z127 := Tryz.sizeOf149
  v127 := Tryz.zeroValue149 }
theorem Tryz.Builder_Extra_169 : Builder.Extra Tryz.prog Tryz.lays169_ren := {
  sizeBuilder := by kernel_rfl
  liesBuilder := by kernel_rfl
  t5 := Tryz.underlying5
  a5 := Tryz.isAgg5
  z5 := Tryz.sizeOf5
  v5 := Tryz.zeroValue5
  infoByte := by kernel_rfl
  cellsByte := by kernel_rfl
  sizeByte := by kernel_rfl
  neB5 := by decide }
open Go.RowKit in
theorem Tryz.Builder_String (B b : Nat) (l : List UInt8) (w : World) (h : Lib.IsBuilder 103 5 B b (Lib.byteCells l) w) (h0 : l ≠ []) :
    Calls Tryz.prog 56 #[.pointer (some ⟨b, 0, none⟩)] w fun e w' => e = .returned (.string ⟨l.toArray⟩) ∧ Below B w w' := Any.Builder_String Tryz.lays169 Tryz.Builder_Extra_169 B b l w h h0
open Go.RowKit in
theorem Tryz.Builder_String_empty (B b : Nat) (w : World) (h : Lib.IsBuilder 103 5 B b [] w) (hBw : B ≤ w.heap.size) :
    Calls Tryz.prog 56 #[.pointer (some ⟨b, 0, none⟩)] w fun e w' => e = .returned (.string ⟨#[]⟩) ∧ Below B w w' := Any.Builder_String_empty Tryz.lays169 Tryz.Builder_Extra_169 B b w h hBw
open Go.RowKit in
theorem Tryz.Builder_String_any (B b : Nat) (l : List UInt8) (w : World) (h : Lib.IsBuilder 103 5 B b (Lib.byteCells l) w) (hBw : B ≤ w.heap.size) :
    Calls Tryz.prog 56 #[.pointer (some ⟨b, 0, none⟩)] w fun e w' => e = .returned (.string ⟨l.toArray⟩) ∧ Below B w w' := Any.Builder_String_any Tryz.lays169 Tryz.Builder_Extra_169 B b l w h hBw
end Go.Proofs
/- A builder of strings, carried on. -/
namespace Go.Proofs.YtddabafaejahbaaGreatDoor
open Go.RowKit
set_option linter.unusedVariables false
theorem bu_lt {T e : TypeId} {B b : Nat} {bs : List Value} {w : World} (h : Lib.IsBuilder T e B b bs w) : b < w.heap.size := by
  rcases h with h | h <;> exact h.lt

theorem bu_below {T e : TypeId} {B b : Nat} {bs : List Value} {w W : World} (h : Lib.IsBuilder T e B b bs w) (hb : Below w.heap.size w W) : Lib.IsBuilder T e B b bs W := by
  have hlt := bu_lt h
  rcases h with ⟨hB, v, h1, h2, h3⟩ | ⟨hB, v, h1, h2, h3⟩
  · exact .inl ⟨hB, v, (hb.block b hlt).trans h1, own_below h2 hb, h3⟩
  · exact .inr ⟨hB, v, (hb.block b hlt).trans h1, own_below h2 hb, h3⟩
end Go.Proofs.YtddabafaejahbaaGreatDoor
/- (*strings.Builder).WriteString by its contract. -/
namespace Go.Proofs.YtddabafaejahbaaGreatDoor
open Go.RowKit
set_option linter.unusedVariables false

set_option maxRecDepth 100000 in
set_option maxHeartbeats 1000000 in
theorem copyCheck_any (B b : Nat) (bs : List Value) (w : World) (h : Lib.IsBuilder 103 5 B b bs w) :
    Calls Tryz.prog 91 #[.pointer (some ⟨b, 0, none⟩)] w fun e w' => e = .returned (.tuple #[]) ∧ (Lib.BuilderAt 103 5 B b (.pointer (some ⟨b, 0, none⟩)) bs w' ∧ Below B w w' ∧ ∀ g cs T, T ≠ 103 → Blk w g cs T → Blk w' g cs T) := by
  have X := Tryz.Builder_Extra_169
  obtain ⟨j, hj, hjs⟩ := Option.map_eq_some_iff.1 X.sizeBuilder
  rcases h with h | h
  · have h0 := h.cell0
    have hsh := h.shape
    have hfz := h.frozen0
    have hend : (Lib.BuilderAt 103 5 B b (.pointer (some ⟨b, 0, none⟩)) bs (w.setCell ⟨b, 0, none⟩ (.pointer (some ⟨b, 0, none⟩))) ∧ Below B w (w.setCell ⟨b, 0, none⟩ (.pointer (some ⟨b, 0, none⟩))) ∧ ∀ g cs T, T ≠ 103 → Blk w g cs T → Blk (w.setCell ⟨b, 0, none⟩ (.pointer (some ⟨b, 0, none⟩))) g cs T) := ⟨h.used _, (Below.refl B w).setCell (p := ⟨b, 0, none⟩) h.1 _, fun g cs T hT hg => blk_far hg (fun e => by obtain ⟨_, v, hbk, _⟩ := h; subst e; have e3 := hg.symm.trans hbk; injection e3 with e3; injection e3 with _ e4; exact hT e4)⟩
    go_enter Tryz.func91, Tryz.ntmps91
    go_wp2
    rw [Lib.run_to_unsafe w ⟨b, 0, none⟩ Tryz.underlying101 Tryz.underlying178 hj (by rw [hjs]; decide) hsh (Nat.zero_lt_succ 1)]
    simp only [Result.andThen]
    rw [Oper.upon_value]
    go_wp2
    rw [run_callFunc_extern Tryz.func153 (by kernel_rfl) (by kernel_rfl) (by kernel_rfl) (e := Extern.AbiNoEscape.same) (by kernel_rfl)]
    rw [Lib.run_noEscape]
    simp only [Result.andThen]
    rw [Oper.upon_value]
    go_wp2
    rw [Lib.run_from_unsafe w ⟨b, 0, none⟩ Tryz.underlying178 Tryz.underlying101 hj hsh X.liesBuilder]
    simp only [Result.andThen]
    rw [Oper.upon_value]
    go_wp2
    go_end0
    exact ⟨rfl, hend⟩
  · have h0 := h.cell0
    go_enter Tryz.func91, Tryz.ntmps91
    go_wp2
    rw [Lib.run_neq_ptr_same w _ Tryz.underlying101 hj]
    go_wp2
    go_end0
    exact ⟨rfl, h, Below.refl B _, fun _ _ _ _ h => h⟩

set_option maxRecDepth 100000 in
set_option maxHeartbeats 1000000 in
theorem writeString_any (B b : Nat) (bs : List Value) (s : ByteArray) (w : World) (h : Lib.IsBuilder 103 5 B b bs w) (hlen : bs.length + s.size ≤ 140737488355328) (hBw : B ≤ w.heap.size) :
    Calls Tryz.prog 52 #[.pointer (some ⟨b, 0, none⟩), .string s] w fun e w' => e = .returned (.tuple #[.int .i64 s.size, .nilIface]) ∧ (Lib.BuilderAt 103 5 B b (.pointer (some ⟨b, 0, none⟩)) (bs ++ Lib.strCells s) w' ∧ Below B w w' ∧ ∀ g cs T, T ≠ 103 → T ≠ 5 → Blk w g cs T → Blk w' g cs T) := by
  obtain ⟨i0, hi, hz0, hz1, hz2⟩ := info_parts Tryz.infoBy
  go_enter Tryz.func52, Tryz.ntmps52
  go_wp2_with (go_at_call 91; refine (copyCheck_any B b bs _ h).mono ?_)
  rintro e w1 ⟨rfl, h1, hb1, hk1⟩
  obtain ⟨hB, v, hbk, hown, hne⟩ := h1
  have hs1 := hb1.size
  have c0 : w1.cell? ⟨b, 0, none⟩ = some (.pointer (some ⟨b, 0, none⟩)) := by rw [Lib.cell_of_heap hbk]; rfl
  have c1 : w1.cell? ⟨b, 1, none⟩ = some v := by rw [Lib.cell_of_heap hbk]; rfl
  go_wp2_with (at_builtin; refine Lib.wpList_append_own_string _ rfl _ _ 87 9 rfl B 5 i0 Tryz.underlying87 Tryz.underlying9 hi hz0 hz1 hz2 _ _ _ rfl hown s rfl (by unfold maxLen; omega) (by omega) (by omega) ?_)
  intro v' w2 hown' hgrow _
  have hlt : b < w1.heap.size := by
    rcases Nat.lt_or_ge b w1.heap.size with h' | h'
    · exact h'
    · simp [Array.getElem?_eq_none h'] at hbk
  have hb2 : w2.heap[b]? = some (.cells #[.pointer (some ⟨b, 0, none⟩), v] 103 (0, 0)) := by
    rw [hgrow.block b hlt (fun e => hne e.symm)]
    exact hbk
  have d0 : w2.cell? ⟨b, 0, none⟩ = some (.pointer (some ⟨b, 0, none⟩)) := by rw [Lib.cell_of_heap hb2]; rfl
  have d1 : w2.cell? ⟨b, 1, none⟩ = some v := by rw [Lib.cell_of_heap hb2]; rfl
  have f1 : w2.frozen? ⟨b, 1, none⟩ = false := Lib.frozen_of_heap hb2 1
  obtain ⟨ao, n', cap, rfl⟩ : ∃ ao n' cap, v' = .slice ao n' cap := by
    rcases hown'.2 with ⟨hv, _⟩ | ⟨g, cap, cur, hv, _⟩
    · exact ⟨_, _, _, hv⟩
    · exact ⟨_, _, _, hv⟩
  go_wp2
  go_ret2
  refine ⟨rfl, ?_, ?_, ?_⟩
  · exact Lib.BuilderAt.put (T := 103) (e := 5) hB hb2 (bs' := bs ++ Lib.strCells s) (by simpa [Lib.strCells_length] using hown') (by decide)
  · exact (hb1.grown hgrow (by omega) (fun k hk => (hown.lt k hk).1)).setCell (p := ⟨b, 1, none⟩) hB _
  · intro g cs T hT hT8 hg
    have hg1 := hk1 g cs T hT hg
    have hgb : g ≠ b := fun e => by subst e; have e3 := hg1.symm.trans hbk; injection e3 with e3; injection e3 with _ e4; exact hT e4
    refine blk_far (blk_grown hg1 hgrow ?_) hgb
    intro e
    rcases hown.2 with ⟨hv, _⟩ | ⟨g2, cap2, cur, hv, _, hh, _⟩
    · rw [hv] at e; cases e
    · rw [hv] at e
      simp only [Value.ownBlock, Option.some.injEq] at e
      subst e
      have e3 := hg1.symm.trans hh
      injection e3 with e3
      injection e3 with _ e4
      exact hT8 e4
end Go.Proofs.YtddabafaejahbaaGreatDoor
