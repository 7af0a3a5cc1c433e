import Derived.Test.YtddabafaejahbaaGreatDoorJSCheck
import Derived.Shelf.Strings.Builder1
import Derived.Shelf.Strings.Builder2
import Derived.Shelf.Strings.OnBuilder
import Derived.Shelf.Small.Strs
import Derived.Shelf.Utf8.RuneCount
import Derived.Shelf.Strconv.Itoa0
import Derived.Shelf.Strconv.Itoa1
import Derived.Shelf.LaysM
import Derived.Shelf.Strconv.Itoa2
import Derived.Shelf.Strconv.Itoa3
import Derived.Shelf.Strings.Search1
import Derived.Shelf.Strings.Search2
import Derived.Shelf.Strings.Search3
import Derived.Shelf.Strings.Cut
import Derived.Shelf.Strings.Count
import Derived.Shelf.Strings.Shaped
import Derived.Shelf.Strings.Split
import Derived.Shelf.Strings.SplitShaped
import Derived.Shelf.Unicode.Decode
import Derived.Shelf.Strings.RuneCount
import Derived.Shelf.Strings.Explode
import Derived.Shelf.Bits.Mul64
import Derived.Shelf.Unicode.DecodeSlow
import Derived.Shelf.Unicode.DecodeAny
import Derived.Ground.Names2Prog
import Derived.Shelf.Slices.SearchI
import Derived.Test.YtddabafaejahbaaGreatDoorProg
import Derived.Test.YtddabafaejahbaaGreatDoorJTxt8
import Derived.Deep.RegionHeld
import Derived.Test.YtddabafaejahbaaGreatDoorRows
import Derived.Test.YtddabafaejahbaaGreatDoorRc2
import Derived.Test.YtddabafaejahbaaGreatDoorJRv3
import Derived.Test.YtddabafaejahbaaGreatDoorJOwnT
import Derived.Deep.QuietTactic
import Derived.BigQuiet
/- ReadData as mathematics: a form's words one behind the other; sizes. -/
namespace Go.Proofs.YtddabafaejahbaaGreatDoor
open Go.RowKit
set_option linter.unusedVariables false
theorem rtF_len : ∀ (f : Nat) (l r : List UInt8), rtF f l = some r → r.length ≤ l.length := by
 intro f
 induction f with
 | zero => intro l r h; simp [rtF] at h; subst h; simp
 | succ f ih =>
   intro l r h
   cases l with
   | nil => simp [rtF] at h; subst h; simp
   | cons c l =>
     rw [rtF] at h
     split at h
     · cases he : Nm.escF l with
       | none => rw [he] at h; cases h
       | some p =>
         obtain ⟨b, n⟩ := p; rw [he] at h; simp only at h
         cases hr : rtF f (l.drop n) with
         | none => rw [hr] at h; cases h
         | some t =>
           rw [hr] at h; have := ih _ _ hr; simp at h; subst h; simp at this ⊢; omega
     · cases hr : rtF f l with
       | none => rw [hr] at h; cases h
       | some t =>
         rw [hr] at h; have := ih _ _ hr; simp at h; subst h; simp at this ⊢; omega
theorem text_size (x : ByteArray) : (readTextR x).1.size ≤ x.size := by
 unfold readTextR
 cases h : readTextL x.data.toList with
 | none => exact Nat.zero_le _
 | some l =>
   have := rtF_len _ _ _ h; simp only
   show l.toArray.size ≤ _
   simp at this ⊢; exact this
theorem rv4_size (x : ByteArray) : (readV4S x).1.size ≤ 4 := by
 by_cases h : (readV4S x).2 = 0
 · unfold readV4S at h ⊢; split
   · rename_i h4
     cases hv : v4All (cutB x 46) with
     | none => exact Nat.zero_le _
     | some l =>
       have key : ∀ (ls : List ByteArray) (l : List UInt8), v4All ls = some l → l.length = ls.length := by
        intro ls
        induction ls with
        | nil => intro l h; simp [v4All] at h; subst h; rfl
        | cons p r ih =>
          intro l h; rw [v4All] at h
          cases hp : v4Part p with
          | none => rw [hp] at h; cases h
          | some n =>
            rw [hp] at h; simp only at h
            cases hr : v4All r with
            | none => rw [hr] at h; cases h
            | some t =>
              rw [hr] at h; simp at h; subst h; simp [ih t hr]
       have := key _ _ hv; simp only
       show l.toArray.size ≤ 4
       simp
       omega
   · exact Nat.zero_le _
 · unfold readV4S at h ⊢; split
   · cases hv : v4All (cutB x 46) with
     | none => exact Nat.zero_le _
     | some l => rename_i h4; rw [if_pos h4, hv] at h; exact absurd rfl h
   · exact Nat.zero_le _
theorem rv6_size (x : ByteArray) : (readV6S x).1.size ≤ 30 := by
 unfold readV6S; split
 · exact Nat.zero_le _
 · split
   · unfold v6Gap; split
     · split
       · exact Nat.zero_le _
       · show (List.toArray _).size ≤ 30
         simp
         omega
     · exact Nat.zero_le _
   · unfold v6Whole; split
     · split
       · show (List.toArray _).size ≤ 30
         simp
         omega
       · exact Nat.zero_le _
     · exact Nat.zero_le _
theorem make_size (ls : List ByteArray) : (makeS ls).1.size ≤ 255 := by
 unfold makeS; split
 · exact Nat.zero_le _
 · split
   · exact Nat.zero_le _
   · split
     · exact Nat.zero_le _
     · show (List.toArray _).size ≤ 255
       have := Nm.joinL_length ls; simp
       omega
theorem readS_size (t o : ByteArray) : (readS t o).1.size ≤ o.size + 255 := by
 unfold readS; split
 · exact Nat.zero_le _
 · split
   · exact Nat.zero_le _
   · split
     · exact Nat.zero_le _
     · split
       · split
         · exact Nat.zero_le _
         · simp
       · split
         · show 1 ≤ _; omega
         · split
           · exact Nat.zero_le _
           · split
             · exact Nat.le_trans (make_size _) (by omega)
             · split
               · exact Nat.zero_le _
               · exact Nat.le_trans (make_size _) (by omega)
theorem lenS_size (x : ByteArray) : (lenS x).size = 1 + x.size := by rw [lenS, ByteArray.size_append]; rfl
theorem big_size (n k : Nat) : (⟨(bigL n k).toArray⟩ : ByteArray).size = k := by
 show (bigL n k).toArray.size = k
 simp [bigL]
theorem timW_size (x : ByteArray) : (timW x).1.size ≤ 4 := by
 unfold timW; split
 · simp only; rw [big_size]; omega
 · exact Nat.zero_le _
theorem readWd_size (c : UInt8) (x : Wrd) (o : ByteArray) : (readWd c x o).1.size ≤ x.1.size + o.size + 300 := by
 unfold readWd; split
 · have h1 := text_size x.1; unfold readTx; split
   · exact Nat.zero_le _
   · split
     · simp only; omega
     · split
       · exact Nat.zero_le _
       · simp only; rw [lenS_size]; omega
 · split
   · exact Nat.zero_le _
   · have h4 := rv4_size x.1; have h6 := rv6_size x.1; have hs := readS_size x.1 o; have ht := timW_size x.1; have hc := c.toNat_lt; unfold readPl; split
     · omega
     · split
       · omega
       · split
         · omega
         · split
           · split
             · split
               · simp only; rw [big_size]; omega
               · omega
             · omega
           · split
             · split
               · simp only; rw [lenS_size]; omega
               · exact Nat.zero_le _
             · split
               · split
                 · simp only; rw [big_size]; omega
                 · exact Nat.zero_le _
               · exact Nat.zero_le _
/-- The kind of the word at a place. -/
def kindAt (s : ByteArray) (i : Nat) : UInt8 := if h : i < s.size then s[i] else if h2 : 0 < s.size then s[s.size - 1]'(by omega) else 0
/-- The words of a form: the data, the types. -/
def rdF (s o : ByteArray) : Nat → List Wrd → ByteArray → List Int → Except Int (ByteArray × List Int)
 | _, [], b, ts => .ok (b, ts)
 | i, x :: r, b, ts =>
   if kindAt s i = 109 then
    if x.2 = true then .error 15
    else if (readTyS x.1).2 ≠ 0 then .error (readTyS x.1).2
    else rdF s o (i + 1) r b (ts ++ [(readTyS x.1).1])
   else if (readWd (kindAt s i) x o).2 ≠ 0 then .error (readWd (kindAt s i) x o).2
   else rdF s o (i + 1) r (b ++ (readWd (kindAt s i) x o).1) ts
def rdE : Except Int (ByteArray × List Int) → ByteArray × Int
 | .error c => (⟨#[]⟩, c)
 | .ok p => if 65535 < (p.1 ++ (mapR p.2).1).size then (⟨#[]⟩, 7) else (p.1 ++ (mapR p.2).1, 0)
def formD (t : Int) (ws : List Wrd) (o : ByteArray) : ByteArray × Int :=
 if (scriptS t).size = 0 ∨ manyB (scriptS t) ws.length = false then (⟨#[]⟩, 15) else rdE (rdF (scriptS t) o 0 ws ⟨#[]⟩ [])
def isPl (ws : List Wrd) : Bool := match ws with
 | [] => false
 | x :: _ => x.1.toList == [92, 35] && !x.2
def readDS (t : Int) (ws : List Wrd) (o : ByteArray) : ByteArray × Int :=
 if t < 0 ∨ 65535 < t then (⟨#[]⟩, 6)
 else if o.size ≠ 0 ∧ (Nm.split o).isSome = false then (⟨#[]⟩, 32)
 else if 300 < ws.length then (⟨#[]⟩, 11)
 else if isPl ws = true then plainS t ws.tail
 else formD t ws o
theorem drop_at {ws : List Wrd} {j : Nat} {x : Wrd} (h : ws[j]? = some x) : ws.drop j = x :: ws.drop (j + 1) := by
 have hl := List.getElem?_eq_some_iff.1 h; rw [List.drop_eq_getElem_cons hl.1, hl.2]
/-- Where the reading of words stands. -/
def RdAt (s o : ByteArray) (ws : List Wrd) (j : Nat) (b : ByteArray) (ts : List Int) : Prop := rdF s o 0 ws ⟨#[]⟩ [] = rdF s o j (ws.drop j) b ts
section
variable {s o b : ByteArray} {ws : List Wrd} {j : Nat} {ts : List Int} {x : Wrd}
theorem rd_end (h : RdAt s o ws j b ts) (hj : ws.length ≤ j) : rdE (rdF s o 0 ws ⟨#[]⟩ []) = if 65535 < (b ++ (mapR ts).1).size then (⟨#[]⟩, 7) else (b ++ (mapR ts).1, 0) := by
 rw [RdAt] at h; rw [h, List.drop_eq_nil_of_le hj, rdF, rdE]
theorem rd_quot (h : RdAt s o ws j b ts) (hx : ws[j]? = some x) (hk : kindAt s j = 109) (hq : x.2 = true) : rdE (rdF s o 0 ws ⟨#[]⟩ []) = (⟨#[]⟩, 15) := by
 rw [RdAt] at h; rw [h, drop_at hx, rdF, if_pos hk, if_pos hq, rdE]
theorem rd_type (h : RdAt s o ws j b ts) (hx : ws[j]? = some x) (hk : kindAt s j = 109) (hq : x.2 = false) (hc : (readTyS x.1).2 ≠ 0) : rdE (rdF s o 0 ws ⟨#[]⟩ []) = (⟨#[]⟩, (readTyS x.1).2) := by
 rw [RdAt] at h; rw [h, drop_at hx, rdF, if_pos hk, if_neg (by simp [hq]), if_pos hc, rdE]
theorem rd_typ2 (h : RdAt s o ws j b ts) (hx : ws[j]? = some x) (hk : kindAt s j = 109) (hq : x.2 = false) (hc : (readTyS x.1).2 = 0) : RdAt s o ws (j + 1) b (ts ++ [(readTyS x.1).1]) := by
 rw [RdAt] at h ⊢; rw [h, drop_at hx, rdF, if_pos hk, if_neg (by simp [hq]), if_neg (by simpa using hc)]
theorem rd_word (h : RdAt s o ws j b ts) (hx : ws[j]? = some x) (hk : kindAt s j ≠ 109) (hc : (readWd (kindAt s j) x o).2 ≠ 0) : rdE (rdF s o 0 ws ⟨#[]⟩ []) = (⟨#[]⟩, (readWd (kindAt s j) x o).2) := by
 rw [RdAt] at h; rw [h, drop_at hx, rdF, if_neg hk, if_pos hc, rdE]
theorem rd_wor2 (h : RdAt s o ws j b ts) (hx : ws[j]? = some x) (hk : kindAt s j ≠ 109) (hc : (readWd (kindAt s j) x o).2 = 0) : RdAt s o ws (j + 1) (b ++ (readWd (kindAt s j) x o).1) ts := by
 rw [RdAt] at h ⊢; rw [h, drop_at hx, rdF, if_neg hk, if_neg (by simpa using hc)]
end
theorem script_size (t : Int) : (scriptS t).size ≤ 7 := by
 unfold scriptS
 repeat' split
 all_goals decide
end Go.Proofs.YtddabafaejahbaaGreatDoor
/- Contracts of the library at this dump. -/
namespace Go.Proofs
open Go.Shelf
def Tryz.lays170_ren : Go.Shelf.Ren := ⟨fun | 170 => 54 | n => n, fun | 70 => 101 | 3 => 3 | 0 => 0 | 72 => 103 | 37 => 87 | 5 => 5 | n => n, fun | n => n⟩
theorem Tryz.lays170 : Go.Proofs.Lays.n170 Tryz.prog Tryz.lays170_ren := {
 mixed := by kernel_rfl
 f170 := Tryz.func54.trans (congrArg some (by kernel_rfl))
 t0 := Tryz.underlying0
 a0 := Tryz.isAgg0
 z0 := Tryz.sizeOf0
 v0 := Tryz.zeroValue0
 t3 := Tryz.underlying3
 a3 := Tryz.isAgg3
 z3 := Tryz.sizeOf3
 v3 := Tryz.zeroValue3
 t37 := Tryz.underlying87
 a37 := Tryz.isAgg87
 z37 := Tryz.sizeOf87
 v37 := Tryz.zeroValue87
 t70 := Tryz.underlying101
 a70 := Tryz.isAgg101
 z70 := Tryz.sizeOf101
 v70 := Tryz.zeroValue101
 t72 := Tryz.underlying103
 a72 := Tryz.isAgg103
 z72 := Tryz.sizeOf103
 v72 := Tryz.zeroValue103 }
open Go.RowKit in
theorem Tryz.Builder_Len (B b : Nat) (bs : List Value) (w : World) (h : Lib.IsBuilder 103 5 B b bs w) :
 Calls Tryz.prog 54 #[.pointer (some ⟨b, 0, none⟩)] w fun e w' => e = .returned (.int .i64 bs.length) ∧ w' = w := Any.Builder_Len Tryz.lays170 B b bs w h
def Tryz.lays169_ren : Go.Shelf.Ren := ⟨fun | 169 => 56 | n => n, fun | 70 => 101 | 9 => 9 | 0 => 0 | 72 => 103 | 37 => 87 | 127 => 149 | 3 => 3 | 5 => 5 | n => n, fun | n => n⟩
theorem Tryz.lays169 : Go.Proofs.Lays.n169 Tryz.prog Tryz.lays169_ren := {
 mixed := by kernel_rfl
 f169 := Tryz.func56.trans (congrArg some (by kernel_rfl))
 t0 := Tryz.underlying0
 a0 := Tryz.isAgg0
 z0 := Tryz.sizeOf0
 v0 := Tryz.zeroValue0
 t3 := Tryz.underlying3
 a3 := Tryz.isAgg3
 z3 := Tryz.sizeOf3
 v3 := Tryz.zeroValue3
 t9 := Tryz.underlying9
 a9 := Tryz.isAgg9
 z9 := Tryz.sizeOf9
 v9 := Tryz.zeroValue9
 t37 := Tryz.underlying87
 a37 := Tryz.isAgg87
 z37 := Tryz.sizeOf87
 v37 := Tryz.zeroValue87
 t70 := Tryz.underlying101
 a70 := Tryz.isAgg101
 z70 := Tryz.sizeOf101
 v70 := Tryz.zeroValue101
 t72 := Tryz.underlying103
 a72 := Tryz.isAgg103
 z72 := Tryz.sizeOf103
 v72 := Tryz.zeroValue103
 t127 := Tryz.underlying149
 a127 := Tryz.isAgg149
 z127 := Tryz.sizeOf149
 v127 := Tryz.zeroValue149 }
theorem Tryz.Builder_Extra_169 : Builder.Extra Tryz.prog Tryz.lays169_ren := {
 sizeBuilder := by kernel_rfl
 liesBuilder := by kernel_rfl
 t5 := Tryz.underlying5
 a5 := Tryz.isAgg5
 z5 := Tryz.sizeOf5
 v5 := Tryz.zeroValue5
 infoByte := by kernel_rfl
 cellsByte := by kernel_rfl
 sizeByte := by kernel_rfl
 neB5 := by decide }
open Go.RowKit in
theorem Tryz.Builder_String (B b : Nat) (l : List UInt8) (w : World) (h : Lib.IsBuilder 103 5 B b (Lib.byteCells l) w) (h0 : l ≠ []) :
 Calls Tryz.prog 56 #[.pointer (some ⟨b, 0, none⟩)] w fun e w' => e = .returned (.string ⟨l.toArray⟩) ∧ Below B w w' := Any.Builder_String Tryz.lays169 Tryz.Builder_Extra_169 B b l w h h0
open Go.RowKit in
theorem Tryz.Builder_String_empty (B b : Nat) (w : World) (h : Lib.IsBuilder 103 5 B b [] w) (hBw : B ≤ w.heap.size) :
 Calls Tryz.prog 56 #[.pointer (some ⟨b, 0, none⟩)] w fun e w' => e = .returned (.string ⟨#[]⟩) ∧ Below B w w' := Any.Builder_String_empty Tryz.lays169 Tryz.Builder_Extra_169 B b w h hBw
open Go.RowKit in
theorem Tryz.Builder_String_any (B b : Nat) (l : List UInt8) (w : World) (h : Lib.IsBuilder 103 5 B b (Lib.byteCells l) w) (hBw : B ≤ w.heap.size) :
 Calls Tryz.prog 56 #[.pointer (some ⟨b, 0, none⟩)] w fun e w' => e = .returned (.string ⟨l.toArray⟩) ∧ Below B w w' := Any.Builder_String_any Tryz.lays169 Tryz.Builder_Extra_169 B b l w h hBw
end Go.Proofs
/- A builder of strings, carried on. -/
namespace Go.Proofs.YtddabafaejahbaaGreatDoor
open Go.RowKit
set_option linter.unusedVariables false
theorem bu_lt {T e : TypeId} {B b : Nat} {bs : List Value} {w : World} (h : Lib.IsBuilder T e B b bs w) : b < w.heap.size := by
 rcases h with h | h <;> exact h.lt
theorem bu_below {T e : TypeId} {B b : Nat} {bs : List Value} {w W : World} (h : Lib.IsBuilder T e B b bs w) (hb : Below w.heap.size w W) : Lib.IsBuilder T e B b bs W := by
 have hlt := bu_lt h
 rcases h with ⟨hB, v, h1, h2, h3⟩ | ⟨hB, v, h1, h2, h3⟩
 · exact .inl ⟨hB, v, (hb.block b hlt).trans h1, own_below h2 hb, h3⟩
 · exact .inr ⟨hB, v, (hb.block b hlt).trans h1, own_below h2 hb, h3⟩
set_option maxRecDepth 100000 in
set_option maxHeartbeats 1000000 in
theorem copyCheck_any (B b : Nat) (bs : List Value) (w : World) (h : Lib.IsBuilder 103 5 B b bs w) :
 Calls Tryz.prog 91 #[.pointer (some ⟨b, 0, none⟩)] w fun e w' => e = .returned (.tuple #[]) ∧ (Lib.BuilderAt 103 5 B b (.pointer (some ⟨b, 0, none⟩)) bs w' ∧ Below B w w' ∧ ∀ g cs T, T ≠ 103 → Blk w g cs T → Blk w' g cs T) := by
 have X := Tryz.Builder_Extra_169; obtain ⟨j, hj, hjs⟩ := Option.map_eq_some_iff.1 X.sizeBuilder
 rcases h with h | h
 · have h0 := h.cell0; have hsh := h.shape; have hfz := h.frozen0; have hend : (Lib.BuilderAt 103 5 B b (.pointer (some ⟨b, 0, none⟩)) bs (w.setCell ⟨b, 0, none⟩ (.pointer (some ⟨b, 0, none⟩))) ∧ Below B w (w.setCell ⟨b, 0, none⟩ (.pointer (some ⟨b, 0, none⟩))) ∧ ∀ g cs T, T ≠ 103 → Blk w g cs T → Blk (w.setCell ⟨b, 0, none⟩ (.pointer (some ⟨b, 0, none⟩))) g cs T) := ⟨h.used _, (Below.refl B w).setCell (p := ⟨b, 0, none⟩) h.1 _, fun g cs T hT hg => blk_far hg (fun e => by obtain ⟨_, v, hbk, _⟩ := h; subst e; have e3 := hg.symm.trans hbk; injection e3 with e3; injection e3 with _ e4; exact hT e4)⟩; go_enter Tryz.func91, Tryz.ntmps91; go_wp2; rw [Lib.run_to_unsafe w ⟨b, 0, none⟩ Tryz.underlying101 Tryz.underlying178 hj (by rw [hjs]; decide) hsh (Nat.zero_lt_succ 1)]; simp only [Result.andThen]; rw [Oper.upon_value]; go_wp2; rw [run_callFunc_extern Tryz.func153 (by kernel_rfl) (by kernel_rfl) (by kernel_rfl) (e := Extern.AbiNoEscape.same) (by kernel_rfl)]; rw [Lib.run_noEscape]; simp only [Result.andThen]; rw [Oper.upon_value]; go_wp2; rw [Lib.run_from_unsafe w ⟨b, 0, none⟩ Tryz.underlying178 Tryz.underlying101 hj hsh X.liesBuilder]; simp only [Result.andThen]; rw [Oper.upon_value]; go_wp2
   go_end0
   exact ⟨rfl, hend⟩
 · have h0 := h.cell0; go_enter Tryz.func91, Tryz.ntmps91; go_wp2; rw [Lib.run_neq_ptr_same w _ Tryz.underlying101 hj]; go_wp2
   go_end0
   exact ⟨rfl, h, Below.refl B _, fun _ _ _ _ h => h⟩
set_option maxRecDepth 100000 in
set_option maxHeartbeats 1000000 in
theorem writeString_any (B b : Nat) (bs : List Value) (s : ByteArray) (w : World) (h : Lib.IsBuilder 103 5 B b bs w) (hlen : bs.length + s.size ≤ 140737488355328) (hBw : B ≤ w.heap.size) :
 Calls Tryz.prog 52 #[.pointer (some ⟨b, 0, none⟩), .string s] w fun e w' => e = .returned (.tuple #[.int .i64 s.size, .nilIface]) ∧ (Lib.BuilderAt 103 5 B b (.pointer (some ⟨b, 0, none⟩)) (bs ++ Lib.strCells s) w' ∧ Below B w w' ∧ ∀ g cs T, T ≠ 103 → T ≠ 5 → Blk w g cs T → Blk w' g cs T) := by
 obtain ⟨i0, hi, hz0, hz1, hz2⟩ := info_parts Tryz.infoBy; go_enter Tryz.func52, Tryz.ntmps52; go_wp2_with (go_at_call 91; refine (copyCheck_any B b bs _ h).mono ?_)
 rintro e w1 ⟨rfl, h1, hb1, hk1⟩; obtain ⟨hB, v, hbk, hown, hne⟩ := h1; have hs1 := hb1.size; have c0 : w1.cell? ⟨b, 0, none⟩ = some (.pointer (some ⟨b, 0, none⟩)) := by rw [Lib.cell_of_heap hbk]; rfl
 have c1 : w1.cell? ⟨b, 1, none⟩ = some v := by rw [Lib.cell_of_heap hbk]; rfl
 go_wp2_with (at_builtin; refine Lib.wpList_append_own_string _ rfl _ _ 87 9 rfl B 5 i0 Tryz.underlying87 Tryz.underlying9 hi hz0 hz1 hz2 _ _ _ rfl hown s rfl (by unfold maxLen; omega) (by omega) (by omega) ?_)
 intro v' w2 hown' hgrow _
 have hlt : b < w1.heap.size := by
  rcases Nat.lt_or_ge b w1.heap.size with h' | h'
  · exact h'
  · simp [Array.getElem?_eq_none h'] at hbk
 have hb2 : w2.heap[b]? = some (.cells #[.pointer (some ⟨b, 0, none⟩), v] 103 (0, 0)) := by
  rw [hgrow.block b hlt (fun e => hne e.symm)]; exact hbk
 have d0 : w2.cell? ⟨b, 0, none⟩ = some (.pointer (some ⟨b, 0, none⟩)) := by rw [Lib.cell_of_heap hb2]; rfl
 have d1 : w2.cell? ⟨b, 1, none⟩ = some v := by rw [Lib.cell_of_heap hb2]; rfl
 have f1 : w2.frozen? ⟨b, 1, none⟩ = false := Lib.frozen_of_heap hb2 1
 obtain ⟨ao, n', cap, rfl⟩ : ∃ ao n' cap, v' = .slice ao n' cap := by
  rcases hown'.2 with ⟨hv, _⟩ | ⟨g, cap, cur, hv, _⟩
  · exact ⟨_, _, _, hv⟩
  · exact ⟨_, _, _, hv⟩
 go_wp2; go_ret2; refine ⟨rfl, ?_, ?_, ?_⟩
 · exact Lib.BuilderAt.put (T := 103) (e := 5) hB hb2 (bs' := bs ++ Lib.strCells s) (by simpa [Lib.strCells_length] using hown') (by decide)
 · exact (hb1.grown hgrow (by omega) (fun k hk => (hown.lt k hk).1)).setCell (p := ⟨b, 1, none⟩) hB _
 · intro g cs T hT hT8 hg; have hg1 := hk1 g cs T hT hg; have hgb : g ≠ b := fun e => by subst e; have e3 := hg1.symm.trans hbk; injection e3 with e3; injection e3 with _ e4; exact hT e4
   refine blk_far (blk_grown hg1 hgrow ?_) hgb; intro e
   rcases hown.2 with ⟨hv, _⟩ | ⟨g2, cap2, cur, hv, _, hh, _⟩
   · rw [hv] at e; cases e
   · rw [hv] at e; simp only [Value.ownBlock, Option.some.injEq] at e; subst e; have e3 := hg1.symm.trans hh
     injection e3 with e3
     injection e3 with _ e4
     exact hT8 e4
end Go.Proofs.YtddabafaejahbaaGreatDoor
/- A region whose last operation, a store, may break what is held: everything else waits for nothing of it. -/
namespace Go.Proofs.YtddabafaejahbaaGreatDoor
open Go
section
variable {P : Program} {ops : Array Oper} {Q : Exit → Act → World → Prop} {md : Region.Mode} {S : World → Prop} {L : Nat}
/-- Whatever order is picked from here on, and S holds behind every operation but number L. -/
def wpAnyL (P : Program) (md : Region.Mode) (ops : Array Oper) (Q : Exit → Act → World → Prop) (S : World → Prop) (L : Nat) : Nat → Array Bool → Act → World → Prop
 | 0, listed, a, w => Region.ready md ops listed = [] ∧ Q .normal a w
 | fuel + 1, listed, a, w =>
   (Region.ready md ops listed = [] → Q .normal a w) ∧
   ∀ i ∈ Region.ready md ops listed, wpOp P ops Q i (fun a' w' => (i = L ∨ S w') ∧ wpAnyL P md ops Q S L fuel (listed.setIfInBounds i true) a' w') a w
theorem wpAny_of_last : ∀ (fuel : Nat) (listed : Array Bool) (a : Act) (w : World), wpAnyL P md ops Q S L fuel listed a w → wpAny P md ops Q fuel listed a w
 | 0, _, _, _, h => h
 | fuel + 1, _, _, _, h => ⟨h.1, fun i hi => wpOp_mono (fun a' w' h' => wpAny_of_last fuel _ a' w' h'.2) (h.2 i hi)⟩
/-- Number L waits for number i. -/
def waitsFor (md : Region.Mode) (ops : Array Oper) (L i : Nat) : Bool := match ops[L]? with
 | some o => o.after.any (fun e => Region.binds md e && e.on == i)
 | none => true
/-- Of two that may come up neither waits for the other. -/
theorem ready_free {listed : Array Bool} {i j : Nat} {oj : Oper} (hi : i ∈ Region.ready md ops listed) (hj : j ∈ Region.ready md ops listed) (ho : ops[j]? = some oj) : ∀ e ∈ oj.after, Region.binds md e = true → e.on ≠ i := by
 rintro e he hb rfl; obtain ⟨_, o, ho2, hall⟩ := mem_ready.1 hj; obtain rfl : oj = o := Option.some.inj (ho.symm.trans ho2); have h1 := hall e he hb; have h0 := (mem_ready.1 hi).1; rw [Array.getD_eq_getD_getElem?] at h0 h1
 cases hx : listed[e.on]? with
 | none => rw [hx] at h1; cases h1
 | some b => rw [hx] at h0 h1; simp only [Option.getD_some] at h0 h1; rw [h0] at h1; cases h1
/-- So number L does not come up ahead of what it waits for. -/
theorem last_waits {listed : Array Bool} {i j : Nat} (hL : waitsFor md ops L i = true) (hi : i ∈ Region.ready md ops listed) (hj : j ∈ Region.ready md ops listed) : j ≠ L := by
 rintro rfl; obtain ⟨_, o, ho, _⟩ := mem_ready.1 hj; rw [waitsFor, ho] at hL; simp only [Array.any_eq_true', Bool.and_eq_true, beq_iff_eq] at hL; obtain ⟨e, he, hb, h⟩ := hL; exact ready_free hi hj ho e he hb h
/-- What nobody touches that may come ahead of it. -/
def Untouched (md : Region.Mode) (ops : Array Oper) (oi : Oper) (i : Nat) (listed : Array Bool) : Prop := ∀ j oj, ops[j]? = some oj → j ≠ i → listed.getD j true = false → (∀ e ∈ oj.after, Region.binds md e = true → e.on ≠ i) → oi.apart ops oj = true
theorem Untouched.more {oi : Oper} {i j : Nat} {listed : Array Bool} (h : Untouched md ops oi i listed) (hj : listed.getD j true = false) : Untouched md ops oi i (listed.setIfInBounds j true) := by
 intro k ok hk hki hun; refine h k ok hk hki ?_
 rcases Nat.decEq j k with hne | rfl
 · rw [getD_set_ne true hne] at hun; exact hun
 · exact hj
theorem wpAnyL_first {i : Nat} {oi : Oper} {v : Value} (hi : ops[i]? = some oi) (hsel : ∀ (j : Nat) (o : Oper) cs b, ops[j]? = some o → o.op ≠ .select cs b)
 (hQ : ∀ c a w, Q (.panic c) (a.put oi.dst v) w → Q (.panic c) a w) (hL : waitsFor md ops L i = true) (fuel : Nat) :
 ∀ (listed : Array Bool) (a : Act) (w : World), Untouched md ops oi i listed → i ∈ Region.ready md ops listed → YieldsIf P ops S oi v a → S w →
   wpAnyL P md ops Q S L fuel (listed.setIfInBounds i true) (a.put oi.dst v) w → wpAnyL P md ops Q S L (fuel + 1) listed a w := by
 induction fuel with
 | zero =>
   intro listed a w _ hr hy hS H; refine ⟨fun h => absurd (h ▸ hr) (by simp), fun j hj => ?_⟩
   rcases Nat.decEq j i with hne | rfl
   · exact absurd (H.1 ▸ ready_mono hj hne) (by simp)
   · exact hy.wpOp hi hS ⟨.inr hS, H⟩
 | succ fuel ih =>
   intro listed a w hun hr hy hS H; refine ⟨fun h => absurd (h ▸ hr) (by simp), fun j hj => ?_⟩
   rcases Nat.decEq j i with hne | rfl
   · obtain ⟨hju, oj, hoj, _⟩ := mem_ready.1 hj; have hstep := wpOp_putIf hoj (hun j oj hoj hne hju (ready_free hr hj hoj)) (fun cs b => hsel i oi cs b hi) (fun cs b => hsel j oj cs b hoj) hQ hy (H.2 j (ready_mono hj hne)); refine wpOp_mono (fun a' w' ⟨hy', hS', hW⟩ => ?_) hstep; have hSw := hS'.resolve_left (last_waits hL hr hj); exact ⟨.inr hSw, ih _ a' w' (hun.more hju) (ready_mono hr (Ne.symm hne)) hy' hSw (by rw [Array.setIfInBounds_comm _ _ hne]; exact hW)⟩
   · exact hy.wpOp hi hS ⟨.inr hS, H⟩
/-- Take number i first. -/
theorem wpAnyL_take {i : Nat} {oi : Oper} {v : Value} {fuel : Nat} {listed : Array Bool} {a : Act} {w : World} (hi : ops[i]? = some oi)
 (hs : Region.noSelect ops = true) (hf : Region.free md ops listed i = true) (hr : (Region.ready md ops listed).contains i = true) (hL : waitsFor md ops L i = true)
 (hQ : ∀ c a w, Q (.panic c) (a.put oi.dst v) w → Q (.panic c) a w) (hy : YieldsIf P ops S oi v a) (hS : S w)
 (h : wpAnyL P md ops Q S L fuel (listed.setIfInBounds i true) (a.put oi.dst v) w) : wpAnyL P md ops Q S L (fuel + 1) listed a w :=
 wpAnyL_first hi (Region.noSelect_spec hs) hQ hL fuel listed a w (Region.free_spec hi hf) (by simpa using hr) hy hS h
/-- The same with all that is closed by reckoning filled in; tkA to tkD: the value, too, where S is one fact, two, three, four. -/
theorem tkL {i : Nat} {oi : Oper} {v : Value} {fuel : Nat} {listed : Array Bool} {a : Act} {w : World} (hi : ops[i]? = some oi)
 (hy : ∀ w, S w → (execOp a.eval oi).run P w = .ok (.value v) w) (h : wpAnyL P md ops Q S L fuel (listed.setIfInBounds i true) (a.put oi.dst v) w)
 (hs : Region.noSelect ops = true := by kernel_rfl) (hf : Region.free md ops listed i = true := by kernel_rfl) (hr : (Region.ready md ops listed).contains i = true := by kernel_rfl) (hL : waitsFor md ops L i = true := by kernel_rfl)
 (hQ : ∀ c a w, Q (.panic c) (a.put oi.dst v) w → Q (.panic c) a w := by exact fun _ _ _ h => h) (hw : Region.wanted oi (yielded ops a.tmps) = true := by rfl) (hS : S w := by assumption) : wpAnyL P md ops Q S L (fuel + 1) listed a w :=
 wpAnyL_take hi hs hf hr hL hQ (Or.inl ⟨hw, hy⟩) hS h
theorem tkA (i : Nat) {oi : Oper} {v : Value} {fuel : Nat} {listed : Array Bool} {a : Act} {w : World} (hi : ops[i]? = some oi)
 (h : wpAnyL P md ops Q S L fuel (listed.setIfInBounds i true) (a.put oi.dst v) w) (hy : ∀ w, S w → (execOp a.eval oi).run P w = .ok (.value v) w := by intro w hSw; go_simp; try (with_reducible rfl))
 (hs : Region.noSelect ops = true := by kernel_rfl) (hf : Region.free md ops listed i = true := by kernel_rfl) (hr : (Region.ready md ops listed).contains i = true := by kernel_rfl) (hL : waitsFor md ops L i = true := by kernel_rfl)
 (hQ : ∀ c a w, Q (.panic c) (a.put oi.dst v) w → Q (.panic c) a w := by exact fun _ _ _ h => h) (hw : Region.wanted oi (yielded ops a.tmps) = true := by rfl) (hS : S w := by assumption) : wpAnyL P md ops Q S L (fuel + 1) listed a w :=
 wpAnyL_take hi hs hf hr hL hQ (Or.inl ⟨hw, hy⟩) hS h
theorem tkB (i : Nat) {oi : Oper} {v : Value} {fuel : Nat} {listed : Array Bool} {a : Act} {w : World} (hi : ops[i]? = some oi)
 (h : wpAnyL P md ops Q S L fuel (listed.setIfInBounds i true) (a.put oi.dst v) w) (hy : ∀ w, S w → (execOp a.eval oi).run P w = .ok (.value v) w := by intro w hSw; obtain ⟨s0, s1⟩ := hSw; go_simp; try (with_reducible rfl))
 (hs : Region.noSelect ops = true := by kernel_rfl) (hf : Region.free md ops listed i = true := by kernel_rfl) (hr : (Region.ready md ops listed).contains i = true := by kernel_rfl) (hL : waitsFor md ops L i = true := by kernel_rfl)
 (hQ : ∀ c a w, Q (.panic c) (a.put oi.dst v) w → Q (.panic c) a w := by exact fun _ _ _ h => h) (hw : Region.wanted oi (yielded ops a.tmps) = true := by rfl) (hS : S w := by assumption) : wpAnyL P md ops Q S L (fuel + 1) listed a w :=
 wpAnyL_take hi hs hf hr hL hQ (Or.inl ⟨hw, hy⟩) hS h
theorem tkC (i : Nat) {oi : Oper} {v : Value} {fuel : Nat} {listed : Array Bool} {a : Act} {w : World} (hi : ops[i]? = some oi)
 (h : wpAnyL P md ops Q S L fuel (listed.setIfInBounds i true) (a.put oi.dst v) w) (hy : ∀ w, S w → (execOp a.eval oi).run P w = .ok (.value v) w := by intro w hSw; obtain ⟨s0, s1, s2⟩ := hSw; go_simp; try (with_reducible rfl))
 (hs : Region.noSelect ops = true := by kernel_rfl) (hf : Region.free md ops listed i = true := by kernel_rfl) (hr : (Region.ready md ops listed).contains i = true := by kernel_rfl) (hL : waitsFor md ops L i = true := by kernel_rfl)
 (hQ : ∀ c a w, Q (.panic c) (a.put oi.dst v) w → Q (.panic c) a w := by exact fun _ _ _ h => h) (hw : Region.wanted oi (yielded ops a.tmps) = true := by rfl) (hS : S w := by assumption) : wpAnyL P md ops Q S L (fuel + 1) listed a w :=
 wpAnyL_take hi hs hf hr hL hQ (Or.inl ⟨hw, hy⟩) hS h
theorem tkD (i : Nat) {oi : Oper} {v : Value} {fuel : Nat} {listed : Array Bool} {a : Act} {w : World} (hi : ops[i]? = some oi)
 (h : wpAnyL P md ops Q S L fuel (listed.setIfInBounds i true) (a.put oi.dst v) w) (hy : ∀ w, S w → (execOp a.eval oi).run P w = .ok (.value v) w := by intro w hSw; obtain ⟨s0, s1, s2, s3⟩ := hSw; go_simp; try (with_reducible rfl))
 (hs : Region.noSelect ops = true := by kernel_rfl) (hf : Region.free md ops listed i = true := by kernel_rfl) (hr : (Region.ready md ops listed).contains i = true := by kernel_rfl) (hL : waitsFor md ops L i = true := by kernel_rfl)
 (hQ : ∀ c a w, Q (.panic c) (a.put oi.dst v) w → Q (.panic c) a w := by exact fun _ _ _ h => h) (hw : Region.wanted oi (yielded ops a.tmps) = true := by rfl) (hS : S w := by assumption) : wpAnyL P md ops Q S L (fuel + 1) listed a w :=
 wpAnyL_take hi hs hf hr hL hQ (Or.inl ⟨hw, hy⟩) hS h
/-- Just one may come up, and it is not number L. -/
theorem wpAnyL_one {i : Nat} {o : Oper} {fuel : Nat} {listed : Array Bool} {a : Act} {w : World} (hr : Region.ready md ops listed = [i]) (ho : ops[i]? = some o)
 (h : ∀ K' : Act → World → Prop, Shut (∀ a w, S w → (S w → wpAnyL P md ops Q S L fuel (listed.setIfInBounds i true) a w) → K' a w) → if Region.wanted o (yielded ops a.tmps) = true then Oper.wp P o a w K' Q else K' (a.put o.dst undef) w) :
 wpAnyL P md ops Q S L (fuel + 1) listed a w := by
 refine ⟨fun h0 => (by rw [hr] at h0; cases h0), fun j hj => ?_⟩; rw [hr] at hj; obtain rfl : j = i := by simpa using hj
 exact wpOp_step ho (fun K' hK => h K' (fun a w hS hW => hK a w ⟨.inr hS, hW hS⟩))
/-- Number L comes up, the last of all. -/
theorem wpAnyL_end {o : Oper} {fuel : Nat} {listed : Array Bool} {a : Act} {w : World} (hr : Region.ready md ops listed = [L]) (ho : ops[L]? = some o) (he : Region.ready md ops (listed.setIfInBounds L true) = [])
 (h : ∀ K' : Act → World → Prop, Shut (∀ a w, Q .normal a w → K' a w) → if Region.wanted o (yielded ops a.tmps) = true then Oper.wp P o a w K' Q else K' (a.put o.dst undef) w) :
 wpAnyL P md ops Q S L (fuel + 1) listed a w := by
 refine ⟨fun h0 => (by rw [hr] at h0; cases h0), fun j hj => ?_⟩; rw [hr] at hj; obtain rfl : j = L := by simpa using hj
 refine wpOp_step ho (fun K' hK => h K' (fun a w hq => hK a w ⟨.inl rfl, ?_⟩))
 cases fuel with
 | zero => exact ⟨he, hq⟩
 | succ n => exact ⟨fun _ => hq, by rw [he]; intro i hi; cases hi⟩
theorem wp_region_last {id : Nat} {a : Act} {w : World} (S : World → Prop) (L : Nat) (hm : P.follows .mixedOrders = true) (hS : S w.drew)
 (h : S w.drew → wpAnyL P .any ops Q S L ops.size (Array.replicate ops.size false) a w.drew) : (Code.region id ops true).wp P Q a w :=
 wp_region_any hm (wpAny_of_last _ _ _ _ (h hS))
end
end Go.Proofs.YtddabafaejahbaaGreatDoor
/- A region in whatever order: its end; two at once. -/
namespace Go.Proofs.YtddabafaejahbaaGreatDoor
open Go
section
variable {P : Program} {ops : Array Oper} {Q : Exit → Act → World → Prop} {md : Region.Mode} {S : World → Prop} {L : Nat}
/-- All have come up. -/
theorem wpAnyL_done {fuel : Nat} {listed : Array Bool} {a : Act} {w : World} (hr : Region.ready md ops listed = []) (hq : Q .normal a w) : wpAnyL P md ops Q S L fuel listed a w := by
 cases fuel with
 | zero => exact ⟨hr, hq⟩
 | succ n => exact ⟨fun _ => hq, by rw [hr]; intro i hi; cases hi⟩
/-- Just two may come up. -/
theorem wpAnyL_two {i j : Nat} {o o' : Oper} {fuel : Nat} {listed : Array Bool} {a : Act} {w : World} (hr : Region.ready md ops listed = [i, j]) (ho : ops[i]? = some o) (ho' : ops[j]? = some o')
 (h : ∀ K' : Act → World → Prop, Shut (∀ a w, S w → (S w → wpAnyL P md ops Q S L fuel (listed.setIfInBounds i true) a w) → K' a w) → if Region.wanted o (yielded ops a.tmps) = true then Oper.wp P o a w K' Q else K' (a.put o.dst undef) w)
 (h' : ∀ K' : Act → World → Prop, Shut (∀ a w, S w → (S w → wpAnyL P md ops Q S L fuel (listed.setIfInBounds j true) a w) → K' a w) → if Region.wanted o' (yielded ops a.tmps) = true then Oper.wp P o' a w K' Q else K' (a.put o'.dst undef) w) :
 wpAnyL P md ops Q S L (fuel + 1) listed a w := by
 refine ⟨fun h0 => (by rw [hr] at h0; cases h0), fun k hk => ?_⟩; rw [hr] at hk
 rcases (show k = i ∨ k = j by simpa using hk) with rfl | rfl
 · exact wpOp_step ho (fun K' hK => h K' (fun a w hS hW => hK a w ⟨.inr hS, hW hS⟩))
 · exact wpOp_step ho' (fun K' hK => h' K' (fun a w hS hW => hK a w ⟨.inr hS, hW hS⟩))
end
end Go.Proofs.YtddabafaejahbaaGreatDoor
/- impl.readEach by its contract. -/
namespace Go.Proofs.YtddabafaejahbaaGreatDoor
open Go.RowKit
set_option linter.unusedVariables false
/-- Words read one by one, each by its kind. -/
def eachS (o : ByteArray) : List Nat → List Wrd → ByteArray → ByteArray × Int
 | K :: ks, x :: ws, b => if (readWd (kc K) x o).2 ≠ 0 then (⟨#[]⟩, (readWd (kc K) x o).2) else eachS o ks ws (b ++ (readWd (kc K) x o).1)
 | _, _, b => (b, 0)
theorem each_bad {o b : ByteArray} {ks : List Nat} {ws : List Wrd} {K : Nat} {x : Wrd} (h : (readWd (kc K) x o).2 ≠ 0) : eachS o (K :: ks) (x :: ws) b = (⟨#[]⟩, (readWd (kc K) x o).2) := by rw [eachS, if_pos h]
theorem each_ok {o b : ByteArray} {ks : List Nat} {ws : List Wrd} {K : Nat} {x : Wrd} (h : (readWd (kc K) x o).2 = 0) : eachS o (K :: ks) (x :: ws) b = eachS o ks ws (b ++ (readWd (kc K) x o).1) := by rw [eachS, if_neg (by simpa using h)]
theorem each_nil {o b : ByteArray} {ws : List Wrd} : eachS o [] ws b = (b, 0) := by rw [eachS]; simp
theorem dropK {l : List Nat} {j K : Nat} (h : l[j]? = some K) : l.drop j = K :: l.drop (j + 1) := by
 have hl := List.getElem?_eq_some_iff.1 h; rw [List.drop_eq_getElem_cons hl.1, hl.2]
theorem wsz_step {ws : List Wrd} {j : Nat} {x : Wrd} (h : ws[j]? = some x) : wsz (ws.take (j + 1)) = wsz (ws.take j) + x.1.size := by
 have hl := List.getElem?_eq_some_iff.1 h; rw [List.take_succ_eq_append_getElem hl.1, hl.2, wsz_app, wsz_cons]; rfl
theorem cells_cat (a b : ByteArray) : Lib.strCells (a ++ b) = Lib.strCells a ++ Lib.strCells b := by
 simp [Lib.strCells, ByteArray.data_append]
set_option maxRecDepth 100000 in
set_option maxHeartbeats 4000000 in
theorem readEach_any (ks : List Nat) (ws : List Wrd) (o : ByteArray) (gf cap : Nat) (v : Value) (w : World) (hf : RForms w gf ks) (hv : CRow w v ws.length 2 (wdVs ws)) (hn : ks.length = ws.length) (hnm : ws.length ≤ 300) (hok : ∀ K ∈ ks, kindOK K) (hz : wsz ws ≤ 1048576) (ho : o.size ≤ 1048576) (hs : Reads w) :
 Calls Tryz.prog 111 #[.slice (some ⟨gf, 0, none⟩) ks.length cap, v, .string o] w fun e w' => e = .returned (strV (eachS o ks ws ⟨#[]⟩)) ∧ Below w.heap.size w w' := by
 obtain ⟨R, HR⟩ : ∃ R, Hid (R = eachS o ks ws ⟨#[]⟩) := ⟨_, rfl⟩; rw [← HR.out]; have HST : Hid (R = eachS o (ks.drop 0) (ws.drop 0) ⟨#[]⟩) := HR; obtain ⟨_, av, cv, rfl, hcap, hmx, hcc⟩ := hv; have HNL := Nm.hide hn; have hks : ks.length ≤ 300 := by omega
 have HF := Nm.hide hf; have HCC := Nm.hide hcc; have HOK := Nm.hide hok; have HS := Nm.hide hs; have hfb := Lib.fresh_isBuilder 103 5 w; have hB0 := (Below.refl w.heap.size w).alloc (Nat.le_refl _) (.cells #[.pointer none, .slice none 0 0] 103); clear hf hcc hok hs HR hn; go_enter Tryz.func111, Tryz.ntmps111; go_wp2
 go_loopw [15] (fun i wr => ∃ (k : Nat) (b : ByteArray), k ≤ ks.length ∧ i = .int .i64 k ∧ Lib.IsBuilder 103 5 w.heap.size w.heap.size (Lib.strCells b) wr ∧ Hid (R = eachS o (ks.drop k) (ws.drop k) b) ∧ Hid (b.size ≤ wsz (ws.take k) + k * (o.size + 300)) ∧ Below w.heap.size w wr) (fun i _ => ks.length - (intOf i).toNat)
 case atStart => exact ⟨0, ⟨#[]⟩, Nat.zero_le _, rfl, hfb, HST, Nat.zero_le _, hB0⟩
 case round =>
  clear hfb hB0 HST; obtain ⟨k, b, hk, rfl, hbu, HA, HL, hbel⟩ := hrel
  by_cases hlt : k < ks.length
  · have hn := HNL.out; obtain ⟨x, hx⟩ : ∃ x, ws[k]? = some x := ⟨_, List.getElem?_eq_getElem (by omega)⟩; obtain ⟨K, hK⟩ : ∃ K, ks[k]? = some K := ⟨_, List.getElem?_eq_getElem hlt⟩; obtain ⟨bw, off, rfl, hcell⟩ := HCC.out (by omega); obtain ⟨fr, fx, fy, F2, u2, c1, c2, hv⟩ := HF.out k K hK; have hxz := wsz_mem (List.mem_of_getElem? hx); obtain ⟨F0, cp, hfe, hF, hcall0⟩ := read_calls (x := x.1) (o := o) (q := x.2) hv (HOK.out K (List.mem_of_getElem? hK)) (by omega) (by unfold maxLen; omega) HS.out; obtain ⟨rfl, rfl, rfl⟩ := Value.func.inj hfe; have d0 := hcell _ _ (wdVs_at ws k 0 x hx (by decide)); have d1 := hcell _ _ (wdVs_at ws k 1 x hx (by decide)); have put : ∀ {g O : Nat} {z : Value}, w.cell? ⟨g, O, none⟩ = some z → wr.cell? ⟨g, O, none⟩ = some z := fun h => (hbel.cell (World.block_lt_of_cell? w _ h)).trans h
    replace c1 := put c1
    replace c2 := put c2
    replace d0 : wr.cell? ⟨bw, off + k * 2, none⟩ = some (.string x.1) := put d0
    replace d1 : wr.cell? ⟨bw, off + k * 2 + 1, none⟩ = some (.bool x.2) := put d1
    have hBo := (Below.refl wr.heap.size wr).alloc (Nat.le_refl _) (.cells #[.func (.func F0) #[] fy, .func F2 #[] u2] 113); have kO := blk_new wr #[.func (.func F0) #[] fy, .func F2 #[] u2] 113; have hbD : Below w.heap.size w (wr.alloc (.cells #[.func (.func F0) #[] fy, .func F2 #[] u2] 113)).drew := (Nm.below_two hbel hBo).drew; have huD := bu_below hbu (hBo.trans (Below.refl _ _).drew); have a0 := (blk_cell kO 0).trans rfl; have a1 := (blk_cell kO 1).trans rfl; have a2 := (hBo.cell (World.block_lt_of_cell? wr _ d0)).trans d0; have a3 := (hBo.cell (World.block_lt_of_cell? wr _ d1)).trans d1; have e0 : (wr.alloc (.cells #[.func (.func F0) #[] fy, .func F2 #[] u2] 113)).drew.cell? ⟨wr.heap.size, 0, none⟩ = some (.func (.func F0) #[] fy) := a0; have e1 : (wr.alloc (.cells #[.func (.func F0) #[] fy, .func F2 #[] u2] 113)).drew.cell? ⟨wr.heap.size, 1, none⟩ = some (.func F2 #[] u2) := a1; have e2 : (wr.alloc (.cells #[.func (.func F0) #[] fy, .func F2 #[] u2] 113)).drew.cell? ⟨bw, off + k * 2, none⟩ = some (.string x.1) := a2; have e3 : (wr.alloc (.cells #[.func (.func F0) #[] fy, .func F2 #[] u2] 113)).drew.cell? ⟨bw, off + k * 2 + 1, none⟩ = some (.bool x.2) := a3; have hcall := fun W hW => hcall0 W hW
    have hrz := readWd_size (kc K) x o; obtain ⟨r, hr⟩ : ∃ r, r = readWd (kc K) x o := ⟨_, rfl⟩; have hstep := HA.out; rw [dropK hK, drop_at hx] at hstep; have HOK2 : Hid (r.2 = 0 → R = eachS o (ks.drop (k + 1)) (ws.drop (k + 1)) (b ++ r.1)) := fun h => by rw [hstep, each_ok (by rw [← hr]; exact h), ← hr]
    have HBD : Hid (r.2 ≠ 0 → R = (⟨#[]⟩, r.2)) := fun h => by rw [hstep, each_bad (by rw [← hr]; exact h), ← hr]
    have HLE2 : Hid ((b ++ r.1).size ≤ wsz (ws.take (k + 1)) + (k + 1) * (o.size + 300)) := by
     show _ ≤ _
     have h1 := HL.out; rw [wsz_step hx, ByteArray.size_append, Nat.add_mul, hr]; omega
    have HLE : Hid (b.size + r.1.size ≤ 140737488355328) := by
     show _ ≤ _
     have h1 := HL.out; have h2 := wsz_take ws k; have h3 : k * (o.size + 300) ≤ 300 * (1048576 + 300) := Nat.mul_le_mul (by omega) (by omega); rw [hr]; omega
    rw [← hr] at hcall; clear hr hstep hrz HA HL; have i1 : (0 : Int) ≤ (k : Int) := by omega
    have i2 : (k : Int) < (ws.length : Int) := by omega
    have i3 : (k : Int) < (ks.length : Int) := by omega
    have HX := Nm.hide hx; have HK := Nm.hide hK; clear hcell put hx hK hv hcall0 hn; unfold strV at hcall
    rcases hF with rfl | rfl | rfl
    · go_wp2_with fail
      generalize hWa : wr.alloc (.cells #[.func (.func 157) #[] fy, .func F2 #[] u2] 113) = Wa at *; refine wp_region_last (S := fun W => W.cell? ⟨wr.heap.size, 0, none⟩ = some (.func (.func 157) #[] fy) ∧ W.cell? ⟨wr.heap.size, 1, none⟩ = some (.func F2 #[] u2) ∧ W.cell? ⟨bw, off + k * 2, none⟩ = some (.string x.1) ∧ W.cell? ⟨bw, off + k * 2 + 1, none⟩ = some (.bool x.2)) (L := 1000) (by kernel_rfl) ⟨a0, a1, a2, a3⟩ (fun hH => ?_); refine tkD 0 rfl ?_; refine tkD 1 rfl ?_; refine tkD 2 rfl ?_; refine tkD 3 rfl ?_; refine tkD 4 rfl ?_; refine tkD 5 rfl ?_; refine tkD 6 rfl ?_; refine wpAnyL_one (i := 7) (by kernel_rfl) rfl (fun KQ hK' => ?_); go_simp; refine (hcall _ hbD).mono ?_; rintro e w2 ⟨rfl, hb2⟩; have hu2 := bu_below huD hb2; have hB2 := Nm.below_two hbD hb2; have s0 := (hb2.cell (World.block_lt_of_cell? _ _ e0)).trans e0; have s1 := (hb2.cell (World.block_lt_of_cell? _ _ e1)).trans e1; have s2 := (hb2.cell (World.block_lt_of_cell? _ _ e2)).trans e2; have s3 := (hb2.cell (World.block_lt_of_cell? _ _ e3)).trans e3; clear hb2 huD hbD hcall e0 e1 e2 e3 a0 a1 a2 a3; go_wp2_with fail
      refine hK'.out _ _ ⟨s0, s1, s2, s3⟩ (fun hH => ?_); clear hK' KQ; refine tkD 8 rfl ?_; refine tkD 9 rfl ?_; refine tkD 10 rfl ?_; refine tkD 11 rfl ?_; refine tkD 12 rfl ?_; refine wpAnyL_done (by kernel_rfl) ?_; clear hH s0 s1 s2 s3
      by_cases h0 : r.2 = 0
      · have d0' : (r.2 == 0) = true := by simpa using h0
        have HN := Nm.hide (HOK2.out h0); have hle := HLE.out; have hsz2 := hB2.size; go_wp2_with (go_at_call 52; refine (writeString_any _ _ _ r.1 _ hu2 (by rw [Lib.strCells_length]; omega) hsz2).mono ?_; rintro e w3 ⟨rfl, hu3, b3, hk3⟩)
        go_roundw
        case rel => exact ⟨k + 1, b ++ r.1, by omega, by go_num, .inr (by rw [cells_cat]; exact hu3), HN, HLE2, hB2.trans b3⟩
        case measure => simp [intOf]; omega
      · have d0' : (r.2 == 0) = false := by simpa using h0
        have HN := Nm.hide (HBD.out h0); go_wp2; go_ret2; refine ⟨?_, hB2⟩; rw [HN.out]; rfl
    · go_wp2_with fail
      generalize hWa : wr.alloc (.cells #[.func (.func 99) #[] fy, .func F2 #[] u2] 113) = Wa at *; refine wp_region_last (S := fun W => W.cell? ⟨wr.heap.size, 0, none⟩ = some (.func (.func 99) #[] fy) ∧ W.cell? ⟨wr.heap.size, 1, none⟩ = some (.func F2 #[] u2) ∧ W.cell? ⟨bw, off + k * 2, none⟩ = some (.string x.1) ∧ W.cell? ⟨bw, off + k * 2 + 1, none⟩ = some (.bool x.2)) (L := 1000) (by kernel_rfl) ⟨a0, a1, a2, a3⟩ (fun hH => ?_); refine tkD 0 rfl ?_; refine tkD 1 rfl ?_; refine tkD 2 rfl ?_; refine tkD 3 rfl ?_; refine tkD 4 rfl ?_; refine tkD 5 rfl ?_; refine tkD 6 rfl ?_; refine wpAnyL_one (i := 7) (by kernel_rfl) rfl (fun KQ hK' => ?_); go_simp; refine (hcall _ hbD).mono ?_; rintro e w2 ⟨rfl, hb2⟩; have hu2 := bu_below huD hb2; have hB2 := Nm.below_two hbD hb2; have s0 := (hb2.cell (World.block_lt_of_cell? _ _ e0)).trans e0; have s1 := (hb2.cell (World.block_lt_of_cell? _ _ e1)).trans e1; have s2 := (hb2.cell (World.block_lt_of_cell? _ _ e2)).trans e2; have s3 := (hb2.cell (World.block_lt_of_cell? _ _ e3)).trans e3; clear hb2 huD hbD hcall e0 e1 e2 e3 a0 a1 a2 a3; go_wp2_with fail
      refine hK'.out _ _ ⟨s0, s1, s2, s3⟩ (fun hH => ?_); clear hK' KQ; refine tkD 8 rfl ?_; refine tkD 9 rfl ?_; refine tkD 10 rfl ?_; refine tkD 11 rfl ?_; refine tkD 12 rfl ?_; refine wpAnyL_done (by kernel_rfl) ?_; clear hH s0 s1 s2 s3
      by_cases h0 : r.2 = 0
      · have d0' : (r.2 == 0) = true := by simpa using h0
        have HN := Nm.hide (HOK2.out h0); have hle := HLE.out; have hsz2 := hB2.size; go_wp2_with (go_at_call 52; refine (writeString_any _ _ _ r.1 _ hu2 (by rw [Lib.strCells_length]; omega) hsz2).mono ?_; rintro e w3 ⟨rfl, hu3, b3, hk3⟩)
        go_roundw
        case rel => exact ⟨k + 1, b ++ r.1, by omega, by go_num, .inr (by rw [cells_cat]; exact hu3), HN, HLE2, hB2.trans b3⟩
        case measure => simp [intOf]; omega
      · have d0' : (r.2 == 0) = false := by simpa using h0
        have HN := Nm.hide (HBD.out h0); go_wp2; go_ret2; refine ⟨?_, hB2⟩; rw [HN.out]; rfl
    · go_wp2_with fail
      generalize hWa : wr.alloc (.cells #[.func (.func 127) #[] fy, .func F2 #[] u2] 113) = Wa at *; refine wp_region_last (S := fun W => W.cell? ⟨wr.heap.size, 0, none⟩ = some (.func (.func 127) #[] fy) ∧ W.cell? ⟨wr.heap.size, 1, none⟩ = some (.func F2 #[] u2) ∧ W.cell? ⟨bw, off + k * 2, none⟩ = some (.string x.1) ∧ W.cell? ⟨bw, off + k * 2 + 1, none⟩ = some (.bool x.2)) (L := 1000) (by kernel_rfl) ⟨a0, a1, a2, a3⟩ (fun hH => ?_); refine tkD 0 rfl ?_; refine tkD 1 rfl ?_; refine tkD 2 rfl ?_; refine tkD 3 rfl ?_; refine tkD 4 rfl ?_; refine tkD 5 rfl ?_; refine tkD 6 rfl ?_; refine wpAnyL_one (i := 7) (by kernel_rfl) rfl (fun KQ hK' => ?_); go_simp; refine (hcall _ hbD).mono ?_; rintro e w2 ⟨rfl, hb2⟩; have hu2 := bu_below huD hb2; have hB2 := Nm.below_two hbD hb2; have s0 := (hb2.cell (World.block_lt_of_cell? _ _ e0)).trans e0; have s1 := (hb2.cell (World.block_lt_of_cell? _ _ e1)).trans e1; have s2 := (hb2.cell (World.block_lt_of_cell? _ _ e2)).trans e2; have s3 := (hb2.cell (World.block_lt_of_cell? _ _ e3)).trans e3; clear hb2 huD hbD hcall e0 e1 e2 e3 a0 a1 a2 a3; go_wp2_with fail
      refine hK'.out _ _ ⟨s0, s1, s2, s3⟩ (fun hH => ?_); clear hK' KQ; refine tkD 8 rfl ?_; refine tkD 9 rfl ?_; refine tkD 10 rfl ?_; refine tkD 11 rfl ?_; refine tkD 12 rfl ?_; refine wpAnyL_done (by kernel_rfl) ?_; clear hH s0 s1 s2 s3
      by_cases h0 : r.2 = 0
      · have d0' : (r.2 == 0) = true := by simpa using h0
        have HN := Nm.hide (HOK2.out h0); have hle := HLE.out; have hsz2 := hB2.size; go_wp2_with (go_at_call 52; refine (writeString_any _ _ _ r.1 _ hu2 (by rw [Lib.strCells_length]; omega) hsz2).mono ?_; rintro e w3 ⟨rfl, hu3, b3, hk3⟩)
        go_roundw
        case rel => exact ⟨k + 1, b ++ r.1, by omega, by go_num, .inr (by rw [cells_cat]; exact hu3), HN, HLE2, hB2.trans b3⟩
        case measure => simp [intOf]; omega
      · have d0' : (r.2 == 0) = false := by simpa using h0
        have HN := Nm.hide (HBD.out h0); go_wp2; go_ret2; refine ⟨?_, hB2⟩; rw [HN.out]; rfl
  · have hkl : k = ks.length := by omega
    subst hkl; have i2 : ¬ (ks.length : Int) < (ks.length : Int) := by omega
    have HE : Hid (R = (b, 0)) := by
     show _ = _
     rw [HA.out, List.drop_length, each_nil]
    have hst := fun W hW hz => Tryz.Builder_String_any w.heap.size w.heap.size b.data.toList W hW hz
    rw [Lib.strCells_eq] at hbu; clear hcap HF HCC; go_wp2_with (go_at_call 56; refine (hst _ hbu hbel.size).mono ?_; rintro e w3 ⟨rfl, hb3⟩)
    go_ret2; refine ⟨?_, hbel.trans hb3⟩; rw [HE.out]; rfl
end Go.Proofs.YtddabafaejahbaaGreatDoor
/- impl.compareFolded, (labelList).compare by their contracts. -/
namespace Go.Proofs.YtddabafaejahbaaGreatDoor
open Go.RowKit
set_option maxRecDepth 100000 in
set_option maxHeartbeats 400000 in
theorem cmpByte_any (a b : UInt8) (w : World) :
 Calls Tryz.prog 232 #[.int .u8 a.toNat, .int .u8 b.toNat] w fun e w' => e = .returned (.int .i64 (Nm.cmpI a.toNat b.toNat)) ∧ w' = w := by
 have ha : ((a.toNat : Int) != (a.toNat : Int)) = false := by simp
 have hb : ((b.toNat : Int) != (b.toNat : Int)) = false := by simp
 by_cases h1 : (a.toNat : Int) < (b.toNat : Int)
 · have HC := Nm.hide (Nm.cmpI_lt h1); have d1 : decide ((a.toNat : Int) < (b.toNat : Int)) = true := by simpa using h1
   go_enter Tryz.func232, Tryz.ntmps232; go_wp2; go_ret; rw [HC.out]; exact ⟨rfl, rfl⟩
 · have d1 : decide ((a.toNat : Int) < (b.toNat : Int)) = false := by simpa using h1
   by_cases h2 : (b.toNat : Int) < (a.toNat : Int)
   · have HC := Nm.hide (Nm.cmpI_gt h2); have d2 : decide ((b.toNat : Int) < (a.toNat : Int)) = true := by simpa using h2
     go_enter Tryz.func232, Tryz.ntmps232; go_wp2; go_ret; rw [HC.out]; exact ⟨rfl, rfl⟩
   · have HC := Nm.hide (Nm.cmpI_eq (show (a.toNat : Int) = (b.toNat : Int) by omega)); have d2 : decide ((b.toNat : Int) < (a.toNat : Int)) = false := by simpa using h2
     go_enter Tryz.func232, Tryz.ntmps232; go_wp2; go_ret; rw [HC.out]; exact ⟨rfl, rfl⟩
set_option maxRecDepth 100000 in
set_option maxHeartbeats 400000 in
theorem cmpInt_any (a b : Int) (w : World) :
 Calls Tryz.prog 233 #[.int .i64 a, .int .i64 b] w fun e w' => e = .returned (.int .i64 (Nm.cmpI a b)) ∧ w' = w := by
 have ha : (a != a) = false := by simp
 have hb : (b != b) = false := by simp
 by_cases h1 : a < b
 · have HC := Nm.hide (Nm.cmpI_lt h1); go_enter Tryz.func233, Tryz.ntmps233; go_wp2; go_ret; rw [HC.out]; exact ⟨rfl, rfl⟩
 · by_cases h2 : b < a
   · have HC := Nm.hide (Nm.cmpI_gt h2); go_enter Tryz.func233, Tryz.ntmps233; go_wp2; go_ret; rw [HC.out]; exact ⟨rfl, rfl⟩
   · have HC := Nm.hide (Nm.cmpI_eq (show a = b by omega)); go_enter Tryz.func233, Tryz.ntmps233; go_wp2; go_ret; rw [HC.out]; exact ⟨rfl, rfl⟩
set_option maxRecDepth 100000 in
set_option maxHeartbeats 800000 in
theorem compareFolded_any (a b : ByteArray) (w : World) (ha : a.size ≤ 1000000000) :
 Calls Tryz.prog 210 #[.string a, .string b] w fun e w' => e = .returned (.int .i64 (Nm.ordS a b)) ∧ ∃ m, w' = w.drewN m := by
 go_enter Tryz.func210, Tryz.ntmps210; go_wp2
 go_loopw [5] (fun i wr => ∃ k : Nat, k ≤ a.size ∧ k ≤ b.size ∧ i = .int .i64 k ∧ Hid ((Nm.smallL a.data.toList).take k = (Nm.smallL b.data.toList).take k) ∧ ∃ m, Hid (wr = w.drewN m))
  (fun i _ => a.size - (intOf i).toNat)
 case atStart => exact ⟨0, Nat.zero_le _, Nat.zero_le _, rfl, by show _ = _; simp, 0, rfl⟩
 case round =>
  obtain ⟨k, hka, hkb, rfl, HT, m, HW⟩ := hrel
  by_cases h1 : k < a.size ∧ k < b.size
  · obtain ⟨h1, h2⟩ := h1; have d1 : decide ((k : Int) < (a.size : Int)) = true := by simp; omega
    have d2 : decide ((k : Int) < (b.size : Int)) = true := by simp; omega
    have i1 : (k : Int) < (a.size : Int) := by omega
    have i2 : (k : Int) < (b.size : Int) := by omega
    by_cases he : Nm.low a[k] = Nm.low b[k]
    · have HN : Hid ((Nm.smallL a.data.toList).take (k + 1) = (Nm.smallL b.data.toList).take (k + 1)) := Nm.take_snoc_eq HT.out (Nm.small_get h1) (Nm.small_get h2) he; have hc : (Nm.cmpI (Nm.low a[k]).toNat (Nm.low b[k]).toNat != 0) = false := by rw [Nm.cmpI_eq (by rw [he])]; rfl
      clear he; go_wp2; go_quiet (first | (go_at_call 154; exact Calls.quiet_of_same (foldByte_any _ _)) | (go_at_call 232; exact Calls.quiet_of_same (cmpByte_any _ _ _)))
      go_wp2; go_roundw
      case rel => exact ⟨k + 1, by omega, by omega, by go_num, HN, _, by show _ = _; rw [HW.out, World.drewN_drewN]⟩
      case measure => simp [intOf]; omega
    · have HO : Hid (Nm.ordS a b = Nm.cmpI (Nm.low a[k]).toNat (Nm.low b[k]).toNat) := Nm.ord_at k _ _ _ _ HT.out (Nm.small_get h1) (Nm.small_get h2) he
      have hc : (Nm.cmpI (Nm.low a[k]).toNat (Nm.low b[k]).toNat != 0) = true := by
       rw [bne_iff_ne]; exact Nm.cmpI_ne (fun e => he (UInt8.toNat_inj.1 (by omega)))
      clear he; go_wp2; go_quiet (first | (go_at_call 154; exact Calls.quiet_of_same (foldByte_any _ _)) | (go_at_call 232; exact Calls.quiet_of_same (cmpByte_any _ _ _)))
      go_wp2; go_ret; rw [HO.out]; exact ⟨rfl, _, by rw [HW.out, World.drewN_drewN]⟩
  · have HO : Hid (Nm.ordS a b = Nm.cmpI a.size b.size) := by
     show _ = _
     have := Nm.ord_end k _ _ HT.out (by rw [Nm.smallL_length]; omega) (by rw [Nm.smallL_length]; omega) (by rw [Nm.smallL_length, Nm.smallL_length]; omega); rw [Nm.smallL_length, Nm.smallL_length] at this; exact this
    by_cases h2 : k < a.size
    · have g2 : b.size ≤ k := by omega
      have d2 : decide (k < b.size) = false := by simp; omega
      clear h1; go_wp2_with fail
      refine (cmpInt_any _ _ _).mono ?_; rintro e w3 ⟨rfl, rfl⟩; go_wp2; go_ret; rw [HO.out]; exact ⟨rfl, _, HW.out⟩
    · have g2 : a.size ≤ k := by omega
      have d2 : decide (k < a.size) = false := by simp; omega
      clear h1; go_wp2_with fail
      refine (cmpInt_any _ _ _).mono ?_; rintro e w3 ⟨rfl, rfl⟩; go_wp2; go_ret; rw [HO.out]; exact ⟨rfl, _, HW.out⟩
end Go.Proofs.YtddabafaejahbaaGreatDoor
