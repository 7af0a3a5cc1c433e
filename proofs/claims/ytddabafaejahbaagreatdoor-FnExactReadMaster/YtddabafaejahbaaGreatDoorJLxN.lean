import Derived.Test.YtddabafaejahbaaGreatDoorJLxE
import Derived.Test.YtddabafaejahbaaGreatDoorJRdA
import Derived.Test.YtddabafaejahbaaGreatDoorJINbd
import Derived.Test.YtddabafaejahbaaGreatDoorJShelfM
import Derived.Test.YtddabafaejahbaaGreatDoorJOwnT
import Derived.Test.YtddabafaejahbaaGreatDoorJIParts
import Derived.Test.YtddabafaejahbaaGreatDoorJV6T
import Derived.Test.YtddabafaejahbaaGreatDoorJData1
import Derived.Test.YtddabafaejahbaaGreatDoorJTxt8
/- Rows of lines of one's own, their words apart; the lines of a text. -/
namespace Go.Proofs.YtddabafaejahbaaGreatDoor
open Go.RowKit
set_option linter.unusedVariables false
theorem lnF_ok (s : ByteArray) (num : Nat) : ∀ (k p n o : Nat) (ws : List Wrd), s.size - p ≤ k → p ≤ s.size → ∀ p' n' ws', lnF s num p n o ws = .inr (p', n', ws') → p ≤ p' ∧ p' ≤ s.size ∧ (p < s.size → p < p') ∧ (n ≤ p + 1 → n' ≤ p' + 1) := by
 have fin : ∀ {p n : Nat} {ws : List Wrd} {p' n' : Nat} {ws' : List Wrd}, finL num p n ws = .inr (p', n', ws') → p = p' ∧ n = n' := by
  intro p n ws p' n' ws' h; unfold finL at h
  split at h
  · cases h
  · cases h; exact ⟨rfl, rfl⟩
 intro k
 induction k with
 | zero =>
   intro p n o ws hk hp p' n' ws' h; have : ¬ p < s.size := by omega
   rw [lnF, dif_neg this] at h
   split at h
   · obtain ⟨rfl, rfl⟩ := fin h; exact ⟨Nat.le_refl _, hp, fun h => absurd h this, fun h => h⟩
   · cases h
 | succ k ih =>
   intro p n o ws hk hp p' n' ws' h
   by_cases hlt : p < s.size
   · have go : ∀ q m o' ws2, p < q → q ≤ s.size → (n ≤ p + 1 → m ≤ q + 1) → lnF s num q m o' ws2 = .inr (p', n', ws') → p ≤ p' ∧ p' ≤ s.size ∧ (p < s.size → p < p') ∧ (n ≤ p + 1 → n' ≤ p' + 1) := by
      intro q m o' ws2 h1 h2 h3 h4; obtain ⟨a, b, c, d⟩ := ih q m o' ws2 (by omega) h2 p' n' ws' h4; exact ⟨by omega, b, fun _ => by omega, fun h => d (h3 h)⟩
     rw [lnF, dif_pos hlt] at h
     by_cases h10 : s[p] = 10
     · rw [dif_pos h10] at h
       split at h
       · obtain ⟨rfl, rfl⟩ := fin h; exact ⟨by omega, by omega, fun _ => by omega, fun _ => by omega⟩
       · exact go _ _ _ _ (by omega) (by omega) (by omega) h
     · rw [dif_neg h10] at h
       split at h
       · exact go _ _ _ _ (by omega) (by omega) (by omega) h
       · split at h
         · exact go _ _ _ _ (comE_gt hlt h10) (comE_le s p hp) (by have := comE_gt hlt h10; omega) h
         · split at h
           · split at h
             · exact go _ _ _ _ (by omega) (by omega) (by omega) h
             · cases h
           · split at h
             · split at h
               · cases h
               · exact go _ _ _ _ (by omega) (by omega) (by omega) h
             · split at h
               · split at h
                 · rename_i h0; have h1 := qutF_ge s (p + 1); obtain ⟨h2, -⟩ := qutF_lt s (p + 1) h0; exact go _ _ _ _ (by omega) (by omega) (by omega) h
                 · cases h
               · split at h
                 · rename_i h0; have h1 := barF_gt hlt h0.1 h0.2; have h2 := barF_le s p hp; exact go _ _ _ _ (by omega) (by omega) (by omega) h
                 · cases h
   · rw [lnF, dif_neg hlt] at h
     split at h
     · obtain ⟨rfl, rfl⟩ := fin h; exact ⟨Nat.le_refl _, hp, fun h => absurd h hlt, fun h => h⟩
     · cases h
/-- What becomes of the lines. -/
abbrev LsR := Sum (Nat × Nat) (List Ln)
/-- The lines from a place on at which one begins. -/
def lsF (s : ByteArray) (p n : Nat) (acc : List Ln) : LsR :=
 if h : p < s.size then
  match lnF s n p n 0 [] with
  | .inl (c, q) => .inl (c, q)
  | .inr (p', n', ws) => if h2 : p < p' then lsF s p' n' (if ws.length = 0 then acc else acc ++ [⟨n, isBl s[p], ws⟩]) else .inr []
 else .inr acc
theorem lsF_end {s : ByteArray} {p n : Nat} {acc : List Ln} (h : ¬ p < s.size) : lsF s p n acc = .inr acc := by rw [lsF, dif_neg h]
theorem lsF_err {s : ByteArray} {p n c q : Nat} {acc : List Ln} (h : p < s.size) (e : lnF s n p n 0 [] = .inl (c, q)) : lsF s p n acc = .inl (c, q) := by rw [lsF, dif_pos h, e]
theorem lsF_ok {s : ByteArray} {p n p' n' : Nat} {ws : List Wrd} {acc : List Ln} (h : p < s.size) (e : lnF s n p n 0 [] = .inr (p', n', ws)) : lsF s p n acc = lsF s p' n' (if ws.length = 0 then acc else acc ++ [⟨n, isBl s[p], ws⟩]) := by
 rw [lsF, dif_pos h, e]; exact dif_pos ((lnF_ok s n _ p n 0 [] (Nat.le_refl _) (by omega) _ _ _ e).2.2.1 h)
/-- What Lex answers: lines, code, place. -/
structure LX where
 ls : List Ln
 co : Nat
 at_ : Nat
def lexR (s : ByteArray) : LX := if 40000 < s.size then ⟨[], 11, 0⟩ else match lsF s 0 1 [] with
 | .inl (c, q) => ⟨[], c, q⟩
 | .inr ls => ⟨ls, 0, 0⟩
/-- A line as it lies, with the slice of its words. -/
abbrev Lp := Ln × Value
def lpV (p : Lp) : List Value := [.int .i64 p.1.num, .bool p.1.bl, p.2]
def lpVs (ps : List Lp) : List Value := ps.flatMap lpV
/-- Lines of one's own: the row, each line's words, no two in one block. -/
structure LOwn (w : World) (B : Nat) (v : Value) (ps : List Lp) : Prop where
 outer : w.ownsRow B 64 3 v ps.length (lpVs ps)
 inner : ∀ (i : Nat) (p : Lp), ps[i]? = some p → w.ownsRow B 40 2 p.2 p.1.ws.length (wdVs p.1.ws)
 apart : ∀ (i j : Nat) (p q : Lp), ps[i]? = some p → ps[j]? = some q → i ≠ j → ∀ g, p.2.ownBlock = some g → q.2.ownBlock ≠ some g
theorem own_besideL {W W1 : World} {B e s m : Nat} {v : Value} {b : Option Nat} {xs : List Value} (h : W.ownsRow B e s v m xs) (hg : W.grownBy W1 b) (ha : ∀ g, b = some g → v.ownBlock ≠ some g) : W1.ownsRow B e s v m xs := by
 refine h.kept hg ?_
 cases b with
 | none =>
   cases hv : v.ownBlock with
   | none => exact .inl rfl
   | some k => right; simp
 | some k => right; exact ha k rfl
theorem own_kindsL {W : World} {B e s m B' e' s' m' : Nat} {v u : Value} {xs ys : List Value} (h : W.ownsRow B e s v m xs) (h' : W.ownsRow B' e' s' u m' ys) (hne : e ≠ e') : ∀ g, u.ownBlock = some g → v.ownBlock ≠ some g := by
 intro g hu hv
 rcases h'.2 with ⟨rfl, _⟩ | ⟨g', cap', cur', rfl, _, hh', _⟩
 · cases hu
 · rcases h.2 with ⟨rfl, _⟩ | ⟨g2, cap2, cur2, rfl, _, hh, _⟩
   · cases hv
   · simp only [Value.ownBlock, Option.some.injEq] at hu hv; subst hu; subst hv; rw [hh] at hh'; simp only [Option.some.injEq, Obj.cells.injEq] at hh'; exact hne hh'.2.1
theorem LOwn.nil (w : World) (B : Nat) : LOwn w B (.slice none 0 0) [] := ⟨World.ownsRow_nil _ _ _ _, by simp, by simp⟩
/-- What is written is none of its blocks. -/
theorem LOwn.beside {w w' : World} {B : Nat} {v : Value} {ps : List Lp} {b : Option Nat} (h : LOwn w B v ps) (hg : w.grownBy w' b) (hb : ∀ g, b = some g → g < B) : LOwn w' B v ps :=
 ⟨own_besideL h.outer hg (fun g e e2 => by have := (h.outer.lt g e2).1; have := hb g e; omega), fun i p hp => own_besideL (h.inner i p hp) hg (fun g e e2 => by have := ((h.inner i p hp).lt g e2).1; have := hb g e; omega), h.apart⟩
theorem LOwn.base {w : World} {B B' : Nat} {v : Value} {ps : List Lp} (h : LOwn w B v ps) (hb : B' ≤ B) : LOwn w B' v ps :=
 ⟨own_base h.outer hb, fun i p hp => own_base (h.inner i p hp) hb, h.apart⟩
theorem snoc_casesL {α : Type} {xs : List α} {y x : α} {i : Nat} (hx : (xs ++ [y])[i]? = some x) : (i < xs.length ∧ xs[i]? = some x) ∨ (i = xs.length ∧ x = y) := by
 by_cases hi : i < xs.length
 · rw [List.getElem?_append_left hi] at hx; exact .inl ⟨hi, hx⟩
 · rw [List.getElem?_append_right (by omega)] at hx
   have h0 : i - xs.length = 0 := by
    rcases Nat.eq_zero_or_pos (i - xs.length) with h | h
    · exact h
    · rw [List.getElem?_eq_none (by simp; omega)] at hx; cases hx
   rw [h0] at hx; simp at hx; exact .inr ⟨by omega, hx.symm⟩
/-- A line is put behind them; its words lie in a block that none of them has. -/
theorem LOwn.snoc {w w2 : World} {B : Nat} {v v' u : Value} {l : Ln} {ps : List Lp} (h : LOwn w B v ps)
 (hu : w.ownsRow B 40 2 u l.ws.length (wdVs l.ws)) (ha : ∀ p ∈ ps, ∀ g, p.2.ownBlock = some g → u.ownBlock ≠ some g)
 (ho : w2.ownsRow B 64 3 v' (ps.length + 1) (lpVs ps ++ lpV (l, u))) (hg : w.grownBy w2 v.ownBlock) : LOwn w2 B v' (ps ++ [(l, u)]) := by
 have e : lpVs (ps ++ [(l, u)]) = lpVs ps ++ lpV (l, u) := by simp [lpVs]
 refine ⟨by rw [e]; simpa using ho, fun i p hp => ?_, fun i j p q hp hq hne g hg1 => ?_⟩
 · rcases snoc_casesL hp with ⟨_, hp'⟩ | ⟨_, rfl⟩
   · have := h.inner i p hp'; exact own_besideL this hg (own_kindsL this h.outer (by decide))
   · exact own_besideL hu hg (own_kindsL hu h.outer (by decide))
 · rcases snoc_casesL hp with ⟨hi, hp'⟩ | ⟨hi, rfl⟩ <;> rcases snoc_casesL hq with ⟨hj, hq'⟩ | ⟨hj, rfl⟩
   · exact h.apart i j p q hp' hq' hne g hg1
   · exact ha p (List.mem_of_getElem? hp') g hg1
   · intro e; exact ha q (List.mem_of_getElem? hq') g e hg1
   · omega
theorem cellL3 (w : World) (x y z : Value) (e b : Nat) (hb : b = w.heap.size) : ∀ (j : Nat) (u : Value), [x, y, z][j]? = some u → (w.alloc (.cells #[x, y, z] e)).cell? ((⟨b, 0, none⟩ : Addr).add j) = some u := by
 subst hb; intro j u hj
 match j, hj with
 | 0, hj => simp at hj; subst hj; simp [Addr.add]
 | 1, hj => simp at hj; subst hj; simp [Addr.add]
 | 2, hj => simp at hj; subst hj; simp [Addr.add]
theorem threeL (x y z : Value) (h : x.oneCell' = true) (h' : y.oneCell' = true) (h'' : z.oneCell' = true) : ∀ u : Value, u ∈ [x, y, z] → u.oneCell' = true := by
 intro u hu; simp at hu; rcases hu with rfl | rfl | rfl <;> assumption
theorem Tryz.infoLine : (Tryz.prog.info? 64).map (fun i => (i.zero, i.size, i.bytes)) = some (some (.agg #[.int .i64 0, .bool false, .slice none 0 0]), 3, 40) := by kernel_rfl
/-- The class that a word tells. -/
def clsS (x : ByteArray) : Option Nat :=
 if ((Nm.small x).toList == [105, 110]) = true then some 1
 else if ((Nm.small x).toList == [99, 115]) = true then some 2
 else if ((Nm.small x).toList == [99, 104]) = true then some 3
 else if ((Nm.small x).toList == [104, 115]) = true then some 4
 else nbdO x ⟨#[67, 76, 65, 83, 83]⟩
/-- Times and classes at the front of words: one of each at most; the words behind them. -/
def frF : List Wrd → Option Nat → Option Nat → Sum Int (Option Nat × Option Nat × List Wrd)
 | [], t, c => .inr (t, c, [])
 | x :: r, t, c =>
   if x.2 = true then .inr (t, c, x :: r)
   else if (ttlS x.1).2 = 0 then (if t.isSome = true then .inl 15 else frF r (some (ttlS x.1).1.toNat) c)
   else match clsS x.1 with
    | some k => if c.isSome = true then .inl 15 else frF r t (some k)
    | none => .inr (t, c, x :: r)
/-- What a zone's text has told so far. -/
structure Ms where
 org : ByteArray
 own : ByteArray
 us : Int
 la : Int
 rs : List Rr
/-- A number that may be there, as it lies. -/
def optI (t : Option Nat) : Int := match t with
 | some n => (n : Int)
 | none => -1
def word1 (ws : List Wrd) (i : Nat) : Wrd := ws.getD i (⟨#[]⟩, false)
/-- What a directive asks. -/
def dirF (m : Ms) (ws : List Wrd) : Sum Int Ms :=
 if ((Nm.small (word1 ws 0).1).toList == [36, 111, 114, 105, 103, 105, 110]) = false ∧ ((Nm.small (word1 ws 0).1).toList == [36, 116, 116, 108]) = false then .inl 16
 else if ws.length ≠ 2 ∨ (word1 ws 1).2 = true then .inl 15
 else if ((Nm.small (word1 ws 0).1).toList == [36, 111, 114, 105, 103, 105, 110]) = true then
  (if (readS (word1 ws 1).1 m.org).2 ≠ 0 then .inl (readS (word1 ws 1).1 m.org).2 else .inr { m with org := (readS (word1 ws 1).1 m.org).1 })
 else if (ttlS (word1 ws 1).1).2 ≠ 0 then .inl (ttlS (word1 ws 1).1).2 else .inr { m with us := (ttlS (word1 ws 1).1).1 }
/-- The type at the front of words. -/
def tyF (ws : List Wrd) : Sum Int Int :=
 match ws with
 | [] => .inl 15
 | x :: _ => if x.2 = true then .inl 15 else if (readTyS x.1).2 ≠ 0 then .inl (readTyS x.1).2 else if metaB (readTyS x.1).1 = true then .inl 6 else .inr (readTyS x.1).1
/-- The time of a record. -/
def timF (m : Ms) (t : Option Nat) : Int := match t with
 | some n => (n : Int)
 | none => if m.us ≠ -1 then m.us else m.la
/-- A record's words behind its owner. -/
def bodF (m : Ms) (ws : List Wrd) : Sum Int Ms :=
 if m.own.size = 0 then .inl 17
 else match frF ws none none with
  | .inl c => .inl c
  | .inr (t, c, r) => match tyF r with
    | .inl e => .inl e
    | .inr ty =>
      if c.isSome = true ∧ c ≠ some 1 then .inl 19
      else if timF m t = -1 then .inl 18
      else if (readDS ty r.tail m.org).2 ≠ 0 then .inl (readDS ty r.tail m.org).2
      else if 500 ≤ m.rs.length then .inl 12
      else .inr { m with la := (match t with | some n => (n : Int) | none => m.la), rs := m.rs ++ [⟨m.own, ty, 1, timF m t, (readDS ty r.tail m.org).1⟩] }
/-- A record. -/
def recF (m : Ms) (bl : Bool) (ws : List Wrd) : Sum Int Ms :=
 if bl = true then bodF m ws
 else if (word1 ws 0).2 = true then .inl 15
 else if (readS (word1 ws 0).1 m.org).2 ≠ 0 then .inl (readS (word1 ws 0).1 m.org).2
 else bodF { m with own := (readS (word1 ws 0).1 m.org).1 } ws.tail
def isDir (l : Ln) : Bool := !l.bl && !(word1 l.ws 0).2 && decide ((word1 l.ws 0).1.data.toList.head? = some 36)
def linF (m : Ms) (l : Ln) : Sum Int Ms := if isDir l = true then dirF m l.ws else recF m l.bl l.ws
def linsF : Ms → List Ln → Sum (Int × Nat) Ms
 | m, [] => .inr m
 | m, l :: ls => match linF m l with
   | .inl c => .inl (c, l.num)
   | .inr m' => linsF m' ls
/-- What ReadMaster answers. -/
def masR (s o : ByteArray) : List Rr × Int × Int :=
 if o.size ≠ 0 ∧ (Nm.split o).isSome = false then ([], 32, 0)
 else if (lexR s).co ≠ 0 then ([], (lexR s).co, (lexR s).at_)
 else match linsF ⟨o, ⟨#[]⟩, -1, -1, []⟩ (lexR s).ls with
  | .inl (c, q) => ([], c, q)
  | .inr m => (m.rs, 0, 0)
end Go.Proofs.YtddabafaejahbaaGreatDoor
/- impl.foldByte, impl.foldText and impl.FoldName by their contracts. -/
namespace Go.Proofs.YtddabafaejahbaaGreatDoor
open Go.RowKit
theorem low_set {l : List UInt8} {k : Nat} {c : UInt8} (h : l[k]? = some c) : (Nm.smallL (l.take k) ++ l.drop k).set k (Nm.low c) = Nm.smallL (l.take (k + 1)) ++ l.drop (k + 1) := by
 have hk : k < l.length := (List.getElem?_eq_some_iff.1 h).1; have hx : l[k] = c := (List.getElem?_eq_some_iff.1 h).2; have hl : (Nm.smallL (l.take k)).length = k := by simp [Nm.smallL]; omega
 rw [Nm.smallL_step h, List.set_append_right _ _ (by omega), hl, List.drop_eq_getElem_cons hk, hx]; simp
set_option maxRecDepth 100000 in
set_option maxHeartbeats 800000 in
theorem foldText_any (s : ByteArray) (w : World) (hs : s.size ≤ 1000000000) :
 Calls Tryz.prog 186 #[.string s] w fun e w' => e = .returned (.string (Nm.small s)) ∧ Below w.heap.size w w' := by
 obtain ⟨cap, W, hcap, hmx, hrun, hrow, hbel⟩ := new_bytes s w; have hmx' := hmx (by unfold maxLen; omega); unfold maxLen at hmx'; clear hmx; go_enter Tryz.func186, Tryz.ntmps186; go_wp2
 go_loopw [10] (fun i wr => ∃ k : Nat, k ≤ s.size ∧ i = .int .i64 k ∧ BRow wr w.heap.size (Nm.smallL (s.data.toList.take k) ++ s.data.toList.drop k) ∧ Below w.heap.size w wr)
  (fun i _ => s.size - (intOf i).toNat)
 case atStart => exact ⟨0, Nat.zero_le _, rfl, by simpa [Nm.smallL] using hrow, hbel⟩
 case round =>
  obtain ⟨k, hk, rfl, hrk, hbk⟩ := hrel; clear hrun hrow hbel
  by_cases hlt : k < s.size
  · have hd := Nm.get_data hlt
    have hll : (Nm.smallL (s.data.toList.take k) ++ s.data.toList.drop k)[k]? = some s[k] := by
     rw [List.getElem?_append_right (by simp [Nm.smallL]; omega)]; simp [Nm.smallL, Nat.min_eq_left hk]
     simpa using hd
    have hck := hrk k _ hll; have HB := Nm.hide (hrk.set (k := k) (d := Nm.low s[k]) (by simp [Nm.smallL]; omega)); rw [low_set hd] at HB; have HW : Hid (Below w.heap.size w (wr.setCell ⟨w.heap.size, k, none⟩ (.int .u8 (Nm.low s[k]).toNat))) := hbk.setCell (Nat.le_refl _) _; obtain ⟨hc1, hc2⟩ := hck; clear hd hll hrk; go_wp2_with (go_at_call 154; refine (foldByte_any _ _).mono ?_; rintro e w3 ⟨rfl, rfl⟩)
    go_roundw
    case rel => exact ⟨k + 1, by omega, by go_num, HB.out, HW.out⟩
    case measure => simp [intOf]; omega
  · have hkl : k = s.size := by omega
    subst hkl
    have hcv := run_convert_bytes_back (P := Tryz.prog) wr 87 9 5 ⟨w.heap.size, 0, none⟩ cap (Nm.smallL s.data.toList) Tryz.underlying87 Tryz.underlying5 Tryz.underlying9 (by
     intro j hj; rw [Nm.addr_add, Nat.zero_add]; refine (hrk j _ ?_).1; rw [List.take_of_length_le (by simp), List.drop_of_length_le (by simp), List.append_nil]
     exact List.getElem?_eq_getElem hj)
    have hsl : (Nm.smallL s.data.toList).length = s.size := by simp [Nm.smallL]
    rw [hsl, show (⟨(Nm.smallL s.data.toList).toArray⟩ : ByteArray) = Nm.small s from rfl] at hcv; clear hrk hlt hsl; go_wp2; go_ret; exact ⟨rfl, hbk⟩
end Go.Proofs.YtddabafaejahbaaGreatDoor
/- The program's small functions of a zone's text, by their contracts. -/
namespace Go.Proofs.YtddabafaejahbaaGreatDoor
open Go.RowKit
set_option linter.unusedVariables false
/-- A code as an error. -/
abbrev codI (c : Int) : Value := .iface 128 (.int .i64 c)
def clsV (o : Option Nat) : Value := .tuple #[.int .i64 ((o.getD 0 : Nat) : Int), .bool o.isSome]
set_option maxRecDepth 100000 in
set_option maxHeartbeats 800000 in
theorem readClass_any (x : ByteArray) (w : World) (hx : x.size ≤ 1000000) :
 Calls Tryz.prog 235 #[.string x] w fun e w' => e = .returned (clsV (clsS x)) ∧ Below w.heap.size w w' := by
 have hf := foldText_any x w (by omega); have hn := fun W => readNumbered_any x ⟨#[67, 76, 65, 83, 83]⟩ W (by omega)
 unfold clsS; generalize Nm.small x = y at *
 cases h1 : (y.toList == [105, 110]) with
 | true =>
   go_enter Tryz.func235, Tryz.ntmps235; go_wp2_with (go_at_call 186; refine hf.mono ?_; rintro e w1 ⟨rfl, hb1⟩)
   go_ret2
   exact ⟨rfl, hb1⟩
 | false =>
   cases h2 : (y.toList == [99, 115]) with
   | true =>
     go_enter Tryz.func235, Tryz.ntmps235; go_wp2_with (go_at_call 186; refine hf.mono ?_; rintro e w1 ⟨rfl, hb1⟩)
     go_ret2
     exact ⟨rfl, hb1⟩
   | false =>
     cases h3 : (y.toList == [99, 104]) with
     | true =>
       go_enter Tryz.func235, Tryz.ntmps235; go_wp2_with (go_at_call 186; refine hf.mono ?_; rintro e w1 ⟨rfl, hb1⟩)
       go_ret2
       exact ⟨rfl, hb1⟩
     | false =>
       cases h4 : (y.toList == [104, 115]) with
       | true =>
         go_enter Tryz.func235, Tryz.ntmps235; go_wp2_with (go_at_call 186; refine hf.mono ?_; rintro e w1 ⟨rfl, hb1⟩)
         go_ret2
         exact ⟨rfl, hb1⟩
       | false =>
         generalize nbdO x ⟨#[67, 76, 65, 83, 83]⟩ = N at *; unfold numV at hn; go_enter Tryz.func235, Tryz.ntmps235; go_wp2_with (first | (go_at_call 186; refine hf.mono ?_; rintro e w1 ⟨rfl, hb1⟩) | (go_at_call 211; refine (hn _).mono ?_; rintro e w2 ⟨rfl, m, hw2⟩; have hb2 := (show Below w.heap.size w w2 by rw [hw2]; exact Go.below_drewN hb1 m); clear hw2))
         go_ret2; exact ⟨rfl, hb2⟩
set_option maxRecDepth 100000 in
set_option maxHeartbeats 800000 in
theorem give_new (n : Int) (g i : Nat) (w : World) (hc : w.cell? ⟨g, i, none⟩ = some (.int .i64 (-1))) (hf : w.frozen? ⟨g, i, none⟩ = false) :
 Calls Tryz.prog 234 #[.pointer (some ⟨g, i, none⟩), .int .i64 n] w fun e w' => e = .returned .nilIface ∧ w' = w.setCell ⟨g, i, none⟩ (.int .i64 n) := by
 go_enter Tryz.func234, Tryz.ntmps234; go_wp2; go_ret; exact ⟨rfl, rfl⟩
set_option maxRecDepth 100000 in
set_option maxHeartbeats 800000 in
theorem give_old (n m : Int) (g i : Nat) (w : World) (hc : w.cell? ⟨g, i, none⟩ = some (.int .i64 m)) (hm : m ≠ -1) :
 Calls Tryz.prog 234 #[.pointer (some ⟨g, i, none⟩), .int .i64 n] w fun e w' => e = .returned (codI 15) ∧ w' = w := by
 have d1 : (m == -1) = false := by rw [beq_eq_false_iff_ne]; exact hm
 go_enter Tryz.func234, Tryz.ntmps234; go_wp2; go_ret; exact ⟨rfl, rfl⟩
set_option maxRecDepth 100000 in
set_option maxHeartbeats 800000 in
theorem errorOf_any (c : Int) (w : World) :
 Calls Tryz.prog 187 #[.int .i64 c] w fun e w' => e = .returned (if c = 0 then .nilIface else codI c) ∧ w' = w := by
 by_cases h : c = 0
 · subst h; rw [if_pos rfl]; go_enter Tryz.func187, Tryz.ntmps187; go_wp2; go_ret; exact ⟨rfl, rfl⟩
 · rw [if_neg h]; have d1 : (c == 0) = false := by rw [beq_eq_false_iff_ne]; exact h
   clear h; go_enter Tryz.func187, Tryz.ntmps187; go_wp2; go_ret; exact ⟨rfl, rfl⟩
/-- The type at the front of words, as it is answered. -/
def tyV : Sum Int Int → Value
 | .inl c => .tuple #[.int .i64 0, codI c]
 | .inr t => .tuple #[.int .i64 t, .nilIface]
set_option maxRecDepth 100000 in
set_option maxHeartbeats 1600000 in
theorem readOwnType_any (v : Value) (ws : List Wrd) (w : World) (h : CRow w v ws.length 2 (wdVs ws)) (hz : wsz ws ≤ 1000000) (hM : MnemAt w) :
 Calls Tryz.prog 190 #[v] w fun e w' => e = .returned (tyV (tyF ws)) ∧ Below w.heap.size w w' := by
 obtain ⟨_, a, cap, rfl, hcap, hmx, hc⟩ := h
 cases ws with
 | nil =>
   clear hc; go_enter Tryz.func190, Tryz.ntmps190; go_wp2; go_ret2
   exact ⟨rfl, Below.refl _ _⟩
 | cons x r =>
   obtain ⟨b, off, rfl, hcell⟩ := hc (by simp); have c0 : w.cell? ⟨b, off, none⟩ = some (.string x.1) := hcell _ _ (wdVs_at (x :: r) 0 0 x rfl (by decide)); have c1 : w.cell? ⟨b, off + 1, none⟩ = some (.bool x.2) := hcell _ _ (wdVs_at (x :: r) 0 1 x rfl (by decide)); have hxz := wsz_mem (List.mem_cons_self : x ∈ x :: r); have hty := implReadType_any x.1 w (by omega) hM; have hme := fun t W => isMeta_any t W
   simp only [List.length_cons] at *; generalize hn : r.length = n at *; have d0 : ((n : Int) + 1 == 0) = false := by rw [beq_eq_false_iff_ne]; omega
   have n0 : (0 : Int) < (n : Int) + 1 := by omega
   obtain ⟨R, HR⟩ : ∃ R, Hid (R = tyV (tyF (x :: r))) := ⟨_, rfl⟩; rw [← HR.out]; have HE : Hid (tyF (x :: r) = if x.2 = true then .inl 15 else if (readTyS x.1).2 ≠ 0 then .inl (readTyS x.1).2 else if metaB (readTyS x.1).1 = true then .inl 6 else .inr (readTyS x.1).1) := rfl; generalize readTyS x.1 = T at *; clear hcell hc hcap hn hM hxz hz; unfold pairV at hty
   cases hq : x.2 with
   | true =>
     rw [hq] at c1; have HN : Hid (R = .tuple #[.int .i64 0, codI 15]) := by show _ = _; rw [HR.out, HE.out, if_pos hq]; rfl
     clear HE HR hq; go_enter Tryz.func190, Tryz.ntmps190; go_wp2; go_ret2; rw [HN.out]
     exact ⟨rfl, Below.refl _ _⟩
   | false =>
     rw [hq] at c1
     by_cases h0 : T.2 = 0
     · cases hm : metaB T.1 with
       | true =>
         have HN : Hid (R = .tuple #[.int .i64 0, codI 6]) := by show _ = _; rw [HR.out, HE.out, if_neg (by rw [hq]; decide), if_neg (by simpa using h0), if_pos hm]; rfl
         have hme2 := hme T.1; rw [hm] at hme2; rw [h0] at hty; clear HE HR hq h0 hm hme; go_enter Tryz.func190, Tryz.ntmps190; go_wp2_with (first | (go_at_call 176; refine hty.mono ?_; rintro e w1 ⟨rfl, hb1⟩) | (go_at_call 217; refine (hme2 _).mono ?_; rintro e w2 ⟨rfl, hw⟩; obtain rfl := hw.symm; clear hw))
         go_ret2; rw [HN.out]
         exact ⟨rfl, hb1⟩
       | false =>
         have HN : Hid (R = .tuple #[.int .i64 T.1, .nilIface]) := by show _ = _; rw [HR.out, HE.out, if_neg (by rw [hq]; decide), if_neg (by simpa using h0), if_neg (by rw [hm]; decide)]; rfl
         have hme2 := hme T.1; rw [hm] at hme2; rw [h0] at hty; clear HE HR hq h0 hm hme; go_enter Tryz.func190, Tryz.ntmps190; go_wp2_with (first | (go_at_call 176; refine hty.mono ?_; rintro e w1 ⟨rfl, hb1⟩) | (go_at_call 217; refine (hme2 _).mono ?_; rintro e w2 ⟨rfl, hw⟩; obtain rfl := hw.symm; clear hw))
         go_ret2; rw [HN.out]; exact ⟨rfl, hb1⟩
     · have HN : Hid (R = .tuple #[.int .i64 0, codI T.2]) := by show _ = _; rw [HR.out, HE.out, if_neg (by rw [hq]; decide), if_pos h0]; rfl
       have d1 : (T.2 == 0) = false := by simpa using h0
       clear HE HR hq h0 hme; go_enter Tryz.func190, Tryz.ntmps190; go_wp2_with (go_at_call 176; refine hty.mono ?_; rintro e w1 ⟨rfl, hb1⟩)
       go_ret2; rw [HN.out]; exact ⟨rfl, hb1⟩
/-- What lies behind a parser's lexer. -/
def psR (m : Ms) (v : Value) : Array Value × Nat := (#[.string m.org, .string m.own, .int .i64 m.us, .int .i64 m.la, v], 72)
theorem Lx.tail {RT : Array Value × Nat} {w : World} {g p n o : Nat} {s : ByteArray} (h : Lx RT w g s p n o) (i : Nat) : w.cell? ⟨g, 4 + i, none⟩ = RT.1[i]? := by
 rw [cell_of_row _ _ _ _ _ _ h, Array.getElem?_append_right (by simp)]; congr 1; simp
theorem Lx.put {RT : Array Value × Nat} {w : World} {g p n o : Nat} {s : ByteArray} (h : Lx RT w g s p n o) (i : Nat) (v : Value) (hi : i < RT.1.size) : Lx (RT.1.setIfInBounds i v, RT.2) (w.setCell ⟨g, 4 + i, none⟩ v) g s p n o := by
 unfold Lx; rw [heap_setCell_same w g (4 + i) _ _ _ h]; congr 2; apply Array.ext_getElem?; intro k; rw [Array.getElem?_setIfInBounds]
 by_cases e : 4 + i = k
 · subst e; rw [if_pos rfl, Array.getElem?_append_right (by simp)]; simp only [List.size_toArray, List.length_cons, List.length_nil, Array.size_append, Nat.add_sub_cancel_left]; rw [Array.getElem?_setIfInBounds, if_pos rfl, if_pos hi, if_pos (by omega)]
 · rw [if_neg e]
   by_cases hk : k < 4
   · rw [Array.getElem?_append_left (by simpa using hk), Array.getElem?_append_left (by simpa using hk)]
   · rw [Array.getElem?_append_right (by simpa using hk), Array.getElem?_append_right (by simpa using hk)]; simp only [List.size_toArray, List.length_cons, List.length_nil]; rw [Array.getElem?_setIfInBounds, if_neg (by omega)]
theorem optI_some (n : Nat) : optI (some n) = (n : Int) := rfl
theorem optI_ne {t : Option Nat} (h : t.isSome = true) : optI t ≠ -1 := by
 cases t with
 | none => cases h
 | some n => rw [optI_some]; omega
/-- A word at the front: an error; no time nor class; what there is then. -/
def tkF (x : Wrd) (t c : Option Nat) : Sum Int (Option (Option Nat × Option Nat)) :=
 if x.2 = true then .inr none
 else if (ttlS x.1).2 = 0 then (if t.isSome = true then .inl 15 else .inr (some (some (ttlS x.1).1.toNat, c)))
 else match clsS x.1 with
  | some k => if c.isSome = true then .inl 15 else .inr (some (t, some k))
  | none => .inr none
theorem frF_err {x : Wrd} {r : List Wrd} {t c : Option Nat} {e : Int} (h : tkF x t c = .inl e) : frF (x :: r) t c = .inl e := by
 rw [frF]; unfold tkF at h
 split at h
 · cases h
 · split at h
   · split at h
     · cases h; rename_i h1 h2 h3; rw [if_neg h1, if_pos h2, if_pos h3]
     · cases h
   · rename_i h1 h2; rw [if_neg h1, if_neg h2]
     cases hc : clsS x.1 with
     | none => rw [hc] at h; cases h
     | some k =>
       rw [hc] at h; simp only at h ⊢
       split at h
       · rename_i h3; cases h; rw [if_pos h3]
       · cases h
theorem frF_stop {x : Wrd} {r : List Wrd} {t c : Option Nat} (h : tkF x t c = .inr none) : frF (x :: r) t c = .inr (t, c, x :: r) := by
 rw [frF]; unfold tkF at h
 split at h
 · rename_i h1; rw [if_pos h1]
 · split at h
   · split at h
     · cases h
     · cases h
   · rename_i h1 h2; rw [if_neg h1, if_neg h2]
     cases hc : clsS x.1 with
     | none => rfl
     | some k =>
       rw [hc] at h; simp only at h
       split at h
       · cases h
       · cases h
theorem frF_more {x : Wrd} {r : List Wrd} {t c t' c' : Option Nat} (h : tkF x t c = .inr (some (t', c'))) : frF (x :: r) t c = frF r t' c' := by
 rw [frF]; unfold tkF at h
 split at h
 · cases h
 · split at h
   · split at h
     · cases h
     · rename_i h1 h2 h3; cases h
       rw [if_neg h1, if_pos h2, if_neg h3]
   · rename_i h1 h2; rw [if_neg h1, if_neg h2]
     cases hc : clsS x.1 with
     | none => rw [hc] at h; cases h
     | some k =>
       rw [hc] at h; simp only at h ⊢
       split at h
       · cases h
       · rename_i h3; cases h; rw [if_neg h3]
def TkP (g : Nat) (t c : Option Nat) (w : World) (r : Sum Int (Option (Option Nat × Option Nat))) (e : Ending) (w' : World) : Prop :=
 w.grownBy w' (some g) ∧ match r with
 | .inl k => e = .returned (.tuple #[.bool true, codI k])
 | .inr none => e = .returned (.tuple #[.bool false, .nilIface]) ∧ Blk w' g #[.int .i64 (optI t), .int .i64 (optI c)] 230
 | .inr (some (t', c')) => e = .returned (.tuple #[.bool true, .nilIface]) ∧ Blk w' g #[.int .i64 (optI t'), .int .i64 (optI c')] 230
set_option maxRecDepth 100000 in
set_option maxHeartbeats 1600000 in
theorem take_any (x : Wrd) (t c : Option Nat) (g : Nat) (w : World) (hx : x.1.size ≤ 1000000) (hb : Blk w g #[.int .i64 (optI t), .int .i64 (optI c)] 230) :
 Calls Tryz.prog 216 #[.pointer (some ⟨g, 0, none⟩), .agg #[.string x.1, .bool x.2]] w (TkP g t c w (tkF x t c)) := by
 have hT := fun W => implReadTTL_any x.1 W
 have hC := fun W => readClass_any x.1 W hx
 have hB := blk_alloc hb (.cells #[.string x.1, .bool x.2] 40); have g0 : w.grownBy (w.alloc (.cells #[.string x.1, .bool x.2] 40)) (some g) := gr_alloc _; obtain ⟨x1, x2⟩ := x
 cases x2 with
 | true =>
   have hr : tkF (x1, true) t c = .inr none := by rw [tkF, if_pos rfl]
   rw [hr]; clear hT hC; go_enter Tryz.func216, Tryz.ntmps216; go_wp2; go_ret2
   exact ⟨g0, rfl, hB⟩
 | false =>
   simp only at hT hC hB g0 hx ⊢
   obtain ⟨TT, hTT⟩ : ∃ T, T = ttlS x1 := ⟨_, rfl⟩
   have hpos : TT.2 = 0 → ∃ n : Nat, TT.1 = (n : Int) := fun h => by
    have := ttlS_rng x1; rw [← hTT] at this; exact ⟨TT.1.toNat, by omega⟩
   obtain ⟨R, HR⟩ : ∃ R, Hid (R = tkF (x1, false) t c) := ⟨_, rfl⟩
   have HE : Hid (R = if TT.2 = 0 then (if t.isSome = true then .inl 15 else .inr (some (some TT.1.toNat, c))) else match clsS x1 with | some k => if c.isSome = true then .inl 15 else .inr (some (t, some k)) | none => .inr none) := by
    show _ = _
    rw [HR.out, hTT]; rfl
   rw [← HR.out]; rw [← hTT] at hT; unfold ttlV at hT; clear HR hTT; have r0 := (blk_cell hB 0).trans rfl; have r1 := (blk_cell hB 1).trans rfl; have f0 := blk_frozen hB 0; have f1 := blk_frozen hB 1
   by_cases h0 : TT.2 = 0
   · obtain ⟨n, hn⟩ := hpos h0; rw [hn, h0] at hT
     cases ht : t with
     | none =>
       subst ht; have HN : Hid (R = .inr (some (some n, c))) := by show _ = _; rw [HE.out, if_pos h0, if_neg (by simp), hn]; rfl
       have hg := give_new (n : Int) g 0 _ r0 f0; have hS := blk_set hB 0 (.int .i64 (n : Int)); have g1 := gr_trans g0 (gr_set _ g 0 (.int .i64 (n : Int))); clear HE hpos h0 hn hC; go_enter Tryz.func216, Tryz.ntmps216; go_wp2_with (first | (go_at_call 109; refine (hT _).mono ?_; rintro e w1 ⟨rfl, hw⟩; obtain rfl := hw.symm; clear hw) | (go_at_call 234; refine hg.mono ?_; rintro e w2 ⟨rfl, rfl⟩))
       go_ret2; rw [HN.out]
       exact ⟨g1, rfl, hS⟩
     | some m =>
       subst ht; have HN : Hid (R = .inl 15) := by show _ = _; rw [HE.out, if_pos h0, if_pos (show (some m).isSome = true from rfl)]
       have hg := give_old (n : Int) (optI (some m)) g 0 _ r0 (optI_ne rfl); clear HE hpos h0 hn hC; go_enter Tryz.func216, Tryz.ntmps216; go_wp2_with (first | (go_at_call 109; refine (hT _).mono ?_; rintro e w1 ⟨rfl, hw⟩; obtain rfl := hw.symm; clear hw) | (go_at_call 234; refine hg.mono ?_; rintro e w2 ⟨rfl, rfl⟩))
       go_ret2; rw [HN.out]; exact ⟨g0, rfl⟩
   · have d0 : (TT.2 == 0) = false := by simpa using h0
     have HE2 : Hid (R = match clsS x1 with | some k => if c.isSome = true then .inl 15 else .inr (some (t, some k)) | none => .inr none) := by show _ = _; rw [HE.out, if_neg h0]
     clear HE hpos h0
     cases hk : clsS x1 with
     | none =>
       have HN : Hid (R = .inr none) := by show _ = _; rw [HE2.out, hk]
       rw [hk] at hC; simp only [clsV, Option.getD_none, Option.isSome_none] at hC; clear HE2 hk; go_enter Tryz.func216, Tryz.ntmps216; go_wp2_with (first | (go_at_call 109; refine (hT _).mono ?_; rintro e w1 ⟨rfl, hw⟩; obtain rfl := hw.symm; clear hw) | (go_at_call 235; refine (hC _).mono ?_; rintro e w2 ⟨rfl, hb2⟩))
       go_ret2; rw [HN.out]
       exact ⟨gr_belL g0 hb2, rfl, blk_below hB hb2⟩
     | some k =>
       rw [hk] at hC; simp only [clsV, Option.getD_some, Option.isSome_some] at hC
       cases hc : c with
       | none =>
         subst hc; have HN : Hid (R = .inr (some (t, some k))) := by show _ = _; rw [HE2.out, hk]; rfl
         clear HE2 hk; go_enter Tryz.func216, Tryz.ntmps216; go_wp2_with (first | (go_at_call 109; refine (hT _).mono ?_; rintro e w1 ⟨rfl, hw⟩; obtain rfl := hw.symm; clear hw) | (go_at_call 235; refine (hC _).mono ?_; rintro e w2 ⟨rfl, hb2⟩; have hB2 := blk_below hB hb2; have g2 := gr_belL g0 hb2) | (go_at_call 234; refine (give_new (k : Int) g 1 _ ((blk_cell hB2 1).trans rfl) (blk_frozen hB2 1)).mono ?_; rintro e w3 ⟨rfl, rfl⟩))
         go_ret2; rw [HN.out]
         exact ⟨gr_trans g2 (gr_set _ g 1 (.int .i64 (k : Int))), rfl, blk_set hB2 1 (.int .i64 (k : Int))⟩
       | some m =>
         subst hc; have HN : Hid (R = .inl 15) := by show _ = _; rw [HE2.out, hk]; rfl
         clear HE2 hk; go_enter Tryz.func216, Tryz.ntmps216; go_wp2_with (first | (go_at_call 109; refine (hT _).mono ?_; rintro e w1 ⟨rfl, hw⟩; obtain rfl := hw.symm; clear hw) | (go_at_call 235; refine (hC _).mono ?_; rintro e w2 ⟨rfl, hb2⟩; have hB2 := blk_below hB hb2; have g2 := gr_belL g0 hb2) | (go_at_call 234; refine (give_old (k : Int) (optI (some m)) g 1 _ ((blk_cell hB2 1).trans rfl) (optI_ne rfl)).mono ?_; rintro e w3 ⟨rfl, rfl⟩))
         go_ret2; rw [HN.out]; exact ⟨g2, rfl⟩
/-- The words from a place on. -/
theorem wd_drop {w : World} {b off cap : Nat} {ws : List Wrd} (k : Nat) (h : CRow w (.slice (some ⟨b, off, none⟩) ws.length cap) ws.length 2 (wdVs ws)) (hk : k ≤ ws.length) :
 CRow w (.slice (some ⟨b, off + k * 2, none⟩) (ws.length - k) (cap - k)) (ws.drop k).length 2 (wdVs (ws.drop k)) := by
 obtain ⟨hl, a, c, e, hcap, hmx, hc⟩ := h; cases e
 refine ⟨by rw [wdVs_len], _, _, by rw [List.length_drop], by rw [List.length_drop]; omega, by omega, fun hp => ⟨b, off + k * 2, rfl, ?_⟩⟩; rw [List.length_drop] at hp; obtain ⟨b', off', e, hcell⟩ := hc (by omega); cases e
 intro i y hy; have e2 : wdVs ws = wdVs (ws.take k) ++ wdVs (ws.drop k) := by rw [← wdVs_app, List.take_append_drop]
 have e3 : (wdVs (ws.take k)).length = k * 2 := by rw [wdVs_len, List.length_take, Nat.min_eq_left hk]
 have := hcell (k * 2 + i) y (by rw [e2, List.getElem?_append_right (by omega), e3, Nat.add_sub_cancel_left]; exact hy); rw [← Nat.add_assoc] at this; exact this
def FrP (v : Value) (w : World) (r : Sum Int (Option Nat × Option Nat × List Wrd)) (e : Ending) (w' : World) : Prop :=
 Below w.heap.size w w' ∧ match r with
 | .inl c => ∃ x y a l m, e = .returned (.tuple #[.agg #[.int .i64 x, .int .i64 y], .slice a l m, codI c])
 | .inr (t, c, r) => ∃ u, e = .returned (.tuple #[.agg #[.int .i64 (optI t), .int .i64 (optI c)], u, .nilIface]) ∧ CRow w' u r.length 2 (wdVs r) ∧ ∀ b off k c, u = .slice (some ⟨b, off, none⟩) k c → ∃ off' k' c', v = .slice (some ⟨b, off', none⟩) k' c'
set_option maxRecDepth 100000 in
set_option maxHeartbeats 3200000 in
theorem readFront_any (v : Value) (ws : List Wrd) (w : World) (h : CRow w v ws.length 2 (wdVs ws)) (hn : ws.length ≤ 300) (hz : wsz ws ≤ 1000000) :
 Calls Tryz.prog 189 #[v] w (FrP v w (frF ws none none)) := by
 have HC := Nm.hide h; obtain ⟨_, a, cap, rfl, hcap, hmx, hc⟩ := h; have HCC := Nm.hide hc; have HZ := Nm.hide hz; clear hc hz; obtain ⟨R, HR⟩ : ∃ R, Hid (R = frF ws none none) := ⟨_, rfl⟩; rw [← HR.out]; have HST : Hid (R = frF (ws.drop 0) none none) := HR; have k0 := blk_new w #[.int .i64 0, .int .i64 0] 230; have k1 := blk_new (w.alloc (.cells #[.int .i64 0, .int .i64 0] 230)) #[.int .i64 (-1), .int .i64 (-1)] 230; have k0' := blk_alloc k0 (.cells #[.int .i64 (-1), .int .i64 (-1)] 230); rw [World.size_alloc] at k1; have hB0 := ((Below.refl w.heap.size w).alloc (Nat.le_refl _) (.cells #[.int .i64 0, .int .i64 0] 230)).alloc (by simp) (.cells #[.int .i64 (-1), .int .i64 (-1)] 230); clear HR k0; go_enter Tryz.func189, Tryz.ntmps189; go_wp2
 go_loopw [13] (fun i wr => ∃ (j : Nat) (t c : Option Nat), j ≤ ws.length ∧ i = .int .i64 (j : Int) ∧ Hid (R = frF (ws.drop j) t c) ∧ Blk wr w.heap.size #[.int .i64 0, .int .i64 0] 230 ∧ Blk wr (w.heap.size + 1) #[.int .i64 (optI t), .int .i64 (optI c)] 230 ∧ Below w.heap.size w wr) (fun i _ => ws.length - (intOf i).toNat)
 case atStart => exact ⟨0, none, none, Nat.zero_le _, rfl, HST, k0', k1, hB0⟩
 case round =>
  obtain ⟨j, t, c, hj, rfl, HA, hk0, hk1, hbel⟩ := hrel; clear HST k0' k1 hB0
  by_cases hlt : j < ws.length
  · obtain ⟨x, hx⟩ : ∃ x, ws[j]? = some x := ⟨_, List.getElem?_eq_getElem hlt⟩; obtain ⟨b, off, rfl, hcell⟩ := HCC.out (by omega); have put : ∀ {g O : Nat} {z : Value}, w.cell? ⟨g, O, none⟩ = some z → wr.cell? ⟨g, O, none⟩ = some z := fun h => (hbel.cell (World.block_lt_of_cell? w _ h)).trans h
    have c0 : wr.cell? ⟨b, off + j * 2, none⟩ = some (.string x.1) := put (hcell _ _ (wdVs_at ws j 0 x hx (by decide))); have c1 : wr.cell? ⟨b, off + j * 2 + 1, none⟩ = some (.bool x.2) := put (hcell _ _ (wdVs_at ws j 1 x hx (by decide))); have hxz := wsz_mem (List.mem_of_getElem? hx); have hzz := HZ.out; have i1 : (0 : Int) ≤ (j : Int) := by omega
    have i2 : (j : Int) < (ws.length : Int) := by omega
    have i3 : (j : Int) ≤ (ws.length : Int) := by omega
    have i4 : ¬ cap = j := by omega
    have a0 := blk_alloc hk0 (.cells #[.string x.1, .bool x.2] 40); have a1 := blk_alloc hk1 (.cells #[.string x.1, .bool x.2] 40); have hBa := hbel.alloc hbel.size (.cells #[.string x.1, .bool x.2] 40); have htk := take_any x t c (w.heap.size + 1) _ (by omega) a1; have HX := Nm.hide hx; have hstep := HA.out; rw [drop_at hx] at hstep; have HROW := Nm.hide (wd_drop j HC.out hj); have hwr := hbel.size; have hlt1 := blk_lt hk1
    cases hT : tkF x t c with
    | inl e =>
      rw [hT] at htk; have HN : Hid (R = .inl e) := by show _ = _; rw [hstep, frF_err hT]
      clear hstep hx hcell put HA HC HCC hT; go_wp2_with (go_at_call 216; refine htk.mono ?_; rintro e w2 ⟨g2, rfl⟩; have b0 := blk_grown a0 g2 (by simp); have d0 := (blk_cell b0 0).trans rfl; have d1 := (blk_cell b0 1).trans rfl; have f0 := blk_frozen b0 0; have f1 := blk_frozen b0 1; have q1 := blk_cell (blk_set (blk_set b0 0 (.int .i64 0)) 1 (.int .i64 0)) 0; have q2 := blk_cell (blk_set (blk_set b0 0 (.int .i64 0)) 1 (.int .i64 0)) 1; have hB2 : Below w.heap.size w w2 := ⟨g2.os.trans hBa.os, g2.tape.trans hBa.tape, g2.output.trans hBa.output, Nat.le_trans hBa.size g2.size, fun k hk => (g2.block k (by simp; omega) (by simp; omega)).trans (hBa.block k hk)⟩)
      refine bodyPost_ret (v := .tuple #[.agg #[.int .i64 0, .int .i64 0], .slice none 0 0, codI e]) ?_ rfl ?_
      · simp [results, Tryz.f189, go_sem, q1, q2]
      · rw [HN.out]
        exact ⟨(hB2.setCell (Nat.le_refl _) _).setCell (Nat.le_refl _) _, _, _, _, _, _, rfl⟩
    | inr o =>
      cases o with
      | none =>
        rw [hT] at htk; have HN : Hid (R = .inr (t, c, ws.drop j)) := by show _ = _; rw [hstep, frF_stop hT, ← drop_at HX.out]
        clear hstep hx hcell put HA HC HCC hT; go_wp2_with (go_at_call 216; refine htk.mono ?_; rintro e w2 ⟨g2, rfl, b1⟩; have b0 := blk_grown a0 g2 (by simp); have hB2 : Below w.heap.size w w2 := ⟨g2.os.trans hBa.os, g2.tape.trans hBa.tape, g2.output.trans hBa.output, Nat.le_trans hBa.size g2.size, fun k hk => (g2.block k (by simp; omega) (by simp; omega)).trans (hBa.block k hk)⟩)
        have c0' : w2.drew.cell? ⟨w.heap.size + 1, 0, none⟩ = some (.int .i64 (optI t)) := (blk_cell b1 0).trans rfl; have c1' : w2.drew.cell? ⟨w.heap.size + 1, 1, none⟩ = some (.int .i64 (optI c)) := (blk_cell b1 1).trans rfl; have d0 : w2.cell? ⟨w.heap.size, 0, none⟩ = some (.int .i64 0) := (blk_cell b0 0).trans rfl; have d1 : w2.cell? ⟨w.heap.size, 1, none⟩ = some (.int .i64 0) := (blk_cell b0 1).trans rfl; have f0 : w2.frozen? ⟨w.heap.size, 0, none⟩ = false := blk_frozen b0 0; have f1 : w2.frozen? ⟨w.heap.size, 1, none⟩ = false := blk_frozen b0 1; have bS : Blk ((w2.setCell ⟨w.heap.size, 0, none⟩ (.int .i64 (optI t))).setCell ⟨w.heap.size, 1, none⟩ (.int .i64 (optI c))) w.heap.size #[.int .i64 (optI t), .int .i64 (optI c)] 230 := blk_set (blk_set b0 0 (.int .i64 (optI t))) 1 (.int .i64 (optI c)); have q1 := (blk_cell bS 0).trans rfl; have q2 := (blk_cell bS 1).trans rfl; have hBS : Below w.heap.size w ((w2.setCell ⟨w.heap.size, 0, none⟩ (.int .i64 (optI t))).setCell ⟨w.heap.size, 1, none⟩ (.int .i64 (optI c))).drew := ((hB2.setCell (Nat.le_refl _) _).setCell (Nat.le_refl _) _).drew; refine wp_region_last (S := fun W => W.cell? ⟨w.heap.size + 1, 0, none⟩ = some (.int .i64 (optI t)) ∧ W.cell? ⟨w.heap.size + 1, 1, none⟩ = some (.int .i64 (optI c))) (L := 1000) (by kernel_rfl) ⟨c0', c1'⟩ (fun hH => ?_); refine tkB 0 rfl ?_; refine tkB 1 rfl ?_; refine tkB 2 rfl ?_; refine tkB 3 rfl ?_; refine wpAnyL_one (i := 4) (by kernel_rfl) rfl (fun KQ hK' => ?_); go_simp; refine hK'.out _ _ ⟨?_, ?_⟩ (fun hH => ?_)
        · show ((w2.setCell _ _).setCell _ _).cell? _ = _
          rw [World.cell?_setCell_other _ _ _ _ (by simp), World.cell?_setCell_other _ _ _ _ (by simp)]; exact c0'
        · show ((w2.setCell _ _).setCell _ _).cell? _ = _
          rw [World.cell?_setCell_other _ _ _ _ (by simp), World.cell?_setCell_other _ _ _ _ (by simp)]; exact c1'
        clear hK' KQ; refine tkB 5 rfl ?_; refine tkB 6 rfl ?_; refine wpAnyL_done (by kernel_rfl) ?_; clear hH; go_wp2_with fail
        refine bodyPost_ret (v := .tuple #[.agg #[.int .i64 (optI t), .int .i64 (optI c)], .slice (some ⟨b, off + j * 2, none⟩) (ws.length - j) (cap - j), .nilIface]) ?_ rfl ?_
        · simp [results, Tryz.f189, go_sem, q1, q2]
        · rw [HN.out]
          exact ⟨hBS, _, rfl, HROW.out.below hBS, fun b' off' k' c' e => by cases e; exact ⟨_, _, _, rfl⟩⟩
      | some tc =>
        obtain ⟨t', c'⟩ := tc; rw [hT] at htk; have HN : Hid (R = frF (ws.drop (j + 1)) t' c') := by show _ = _; rw [hstep, frF_more hT]
        clear hstep hx hcell put HA HC HCC hT; go_wp2_with (go_at_call 216; refine htk.mono ?_; rintro e w2 ⟨g2, rfl, b1⟩; have b0 := blk_grown a0 g2 (by simp); have hB2 : Below w.heap.size w w2 := ⟨g2.os.trans hBa.os, g2.tape.trans hBa.tape, g2.output.trans hBa.output, Nat.le_trans hBa.size g2.size, fun k hk => (g2.block k (by simp; omega) (by simp; omega)).trans (hBa.block k hk)⟩)
        go_roundw
        case rel => exact ⟨j + 1, t', c', by omega, by go_num, HN, b0, b1, hB2⟩
        case measure => simp [intOf]; omega
  · have hjn : j = ws.length := by omega
    subst hjn; have i2 : ¬ (ws.length : Int) < (ws.length : Int) := by omega
    have HE : Hid (R = .inr (t, c, [])) := by show _ = _; rw [HA.out, List.drop_length, frF]
    have c0 := (blk_cell hk1 0).trans rfl; have c1 := (blk_cell hk1 1).trans rfl; have d0 := (blk_cell hk0 0).trans rfl; have d1 := (blk_cell hk0 1).trans rfl; have f0 := blk_frozen hk0 0; have f1 := blk_frozen hk0 1; have q1 := blk_cell (blk_set (blk_set hk0 0 (.int .i64 (optI t))) 1 (.int .i64 (optI c))) 0; have q2 := blk_cell (blk_set (blk_set hk0 0 (.int .i64 (optI t))) 1 (.int .i64 (optI c))) 1; clear HA HC HCC; go_wp2; refine bodyPost_ret (v := .tuple #[.agg #[.int .i64 (optI t), .int .i64 (optI c)], .slice none 0 0, .nilIface]) ?_ rfl ?_
    · simp [results, Tryz.f189, go_sem, q1, q2]
    · rw [HE.out]; exact ⟨(hbel.setCell (Nat.le_refl _) _).setCell (Nat.le_refl _) _, _, rfl, ⟨rfl, _, 0, rfl, Nat.le_refl _, by decide, fun h => absurd h (by simp)⟩, fun b off k c e => by cases e⟩
end Go.Proofs.YtddabafaejahbaaGreatDoor
