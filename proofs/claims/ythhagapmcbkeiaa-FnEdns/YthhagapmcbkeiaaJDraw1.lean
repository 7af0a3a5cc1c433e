import Derived.Test.YthhagapmcbkeiaaJSgR
import Derived.Maps.AppendAt
import Derived.Test.YthhagapmcbkeiaaJMath
import Derived.Test.YthhagapmcbkeiaaRows
import Derived.WalkSpells
import Derived.WalkLawsBesides
import Derived.RegionTactic
import Derived.ChangeAlike
import Derived.BigRegion
import Derived.Test.YthhagapmcbkeiaaJShL8
import Derived.WalkKit
import Derived.Deep.LoopGhost
/- spec.l01Bytes by its contract. -/
namespace Go.Proofs.Ythhagapmcbkeiaa
open Go.RowKit

theorem Try.infoU8d : (Try.prog.info? 5).map (fun i => (i.zero, i.size, i.bytes)) = some (some (.int .u8 0), 1, 1) := by kernel_rfl

theorem conv_emptyd (c : Nat) (W : World) : (convert 22 9 (.slice (some ⟨c, 0, none⟩) 0 0)).run Try.prog W = .ok (.string ByteArray.empty) W :=
  run_convert_bytes_back W 22 9 5 ⟨c, 0, none⟩ 0 [] Try.underlying22 Try.underlying5 Try.underlying9 (by intro j hj; simp at hj)

theorem byte_of_int {r : Int} (h0 : 0 ≤ r) (h1 : r < 256) : ∃ c : UInt8, (c.toNat : Int) = r := by
  refine ⟨UInt8.ofNat r.toNat, ?_⟩
  simp
  omega

set_option maxRecDepth 100000 in
set_option maxHeartbeats 800000 in
theorem l01Bytes_any (g : Nat) (a : Option Addr) (n cap : Nat) (N : Int) (w : World) (h : Src w g a n cap) (hN0 : 0 ≤ N) (hN : N ≤ 1048576) :
    Calls Try.prog 26 #[.pointer (some ⟨g, 0, none⟩), .int .i64 N] w fun e w' => ∃ s : ByteArray, e = .returned (.string s) ∧ (s.size : Int) = N ∧ Src w' g a n cap ∧ w.grownBy w' (some g) := by
  obtain ⟨j0, hj, k0, k1, k2⟩ := info_parts Try.infoU8d
  obtain ⟨m, rfl⟩ := Int.eq_ofNat_of_zero_le hN0
  have hcd := src_code h
  by_cases hz : m = 0
  · subst hz
    have hcv := fun W => conv_emptyd w.heap.size W
    go_enter Try.func26, Try.ntmps26
    go_wp2
    go_loop [5, 6] (fun v i => v = .slice (some ⟨w.heap.size, 0, none⟩) 0 0 ∧ i = .int .i64 0) (fun _ _ => 0)
    case atStart => exact ⟨rfl, rfl⟩
    case round =>
      obtain ⟨rfl, rfl⟩ := hrel
      go_wp2
      go_ret
      exact ⟨ByteArray.empty, rfl, rfl, src_below h ((Below.refl _ _).alloc (Nat.le_refl _) _), grown_alloc (World.grownBy.refl _ _) _⟩
  · go_enter Try.func26, Try.ntmps26
    go_wp2
    go_loopw [5, 6] (fun v i wr => ∃ (k : Nat) (l : List UInt8), k ≤ m ∧ i = .int .i64 k ∧ wr.ownsRow w.heap.size 5 1 v k (Nm.bys l) ∧ Src wr g a n cap ∧ w.grownBy wr (some g))
      (fun _ i _ => m - (intOf i).toNat)
    case atStart => exact ⟨0, [], Nat.zero_le _, rfl, World.ownsRow_made w #[] 0 (Nat.le_refl _) (by decide) rfl, src_below h ((Below.refl _ _).alloc (Nat.le_refl _) _), grown_alloc (World.grownBy.refl _ _) _⟩
    case round =>
      obtain ⟨k, l, hk, rfl, hown, hsrc, hgr⟩ := hrel
      have hsz := hgr.size
      clear h
      by_cases hlt : k < m
      · go_wp2_with (first | (go_at_call 11; refine (l01Next_any g a n cap 256 _ hsrc (by decide)).mono ?_; rintro e w3 ⟨r, rfl, hr0, hr1, hsrc3, hgr3⟩; have hr2 := hr1 (by decide); obtain ⟨c, hc⟩ := byte_of_int hr0 hr2; subst hc; have hown3 := hown.kept hgr3 (row_src hown hsrc (by decide)); have hg3 := grown_step hgr hgr3; have hsz3 := hg3.size; clear hr1) | (at_builtin; refine wpList_append_own _ rfl (.tmp 13) (.tmp 17) 22 rfl w.heap.size 5 j0 (.int .u8 0) 1 1 Try.underlying22 hj k0 k1 k2 rfl (by decide) _ _ _ rfl (hown3.alloc _) ⟨w3.heap.size, 0, none⟩ 1 1 [.int .u8 (c.toNat : Int)] rfl rfl (cell_one_new _ _ _) (Nm.one_cell _ rfl) (by unfold maxLen; omega) (by omega) (by simp; omega) ?_; intro vb wb hown4 hgrow4 hnl4; clear hnl4; have hrow : ∀ q, Value.ownBlock _ = some q → w.heap.size ≤ q := fun q hq => (hown3.lt q hq).1; have hs4 := src_grown (src_below hsrc3 ((Below.refl _ _).alloc (Nat.le_refl _) _)) hgrow4 hrow hcd.2 hcd.1; have hg4 := grown_own (grown_alloc hg3 _) hgrow4 hrow; rw [Nm.bys_mark, ← Nm.bys_append] at hown4; clear hgrow4 hown3))
        go_roundw
        case rel => exact ⟨k + 1, _, by omega, by go_num, hown4, hs4, hg4⟩
        case measure => simp [intOf]; omega
      · have hke : k = m := by omega
        subst hke
        have hll : l.length = k := by have := hown.1; rw [Nm.bys_length] at this; omega
        obtain ⟨g6, cp6, rfl, hcv⟩ := Nm.conv_own (P := Try.prog) Try.underlying22 Try.underlying5 Try.underlying9 hown (by omega)
        have hms := mk_size l
        clear hown hlt
        go_wp2
        go_ret
        exact ⟨_, rfl, by rw [hms]; omega, hsrc, hgr⟩
end Go.Proofs.Ythhagapmcbkeiaa
/- string([]byte{c}), and small things. -/
namespace Go.Proofs.Ythhagapmcbkeiaa
open Go.RowKit

theorem conv_one (n : Int) (W : World) :
    (convert 22 9 (.slice (some ⟨W.heap.size, 0, none⟩) 1 1)).run Try.prog (W.alloc (.cells #[.int .u8 n] 5)) = .ok (.string ⟨#[UInt8.ofNat n.toNat]⟩) (W.alloc (.cells #[.int .u8 n] 5)) := by
  rw [run_convert_bytes_string _ 22 9 5 _ _ _ Try.underlying22 Try.underlying5 Try.underlying9]
  have hl := run_loadCells_list (P := Try.prog) (W.alloc (.cells #[.int .u8 n] 5)) ⟨W.heap.size, 0, none⟩ ([n].map (Value.int .u8)) (fun j v hj => cell_one_new W (.int .u8 n) 5 j v hj)
  rw [run_bytesToString _ _ 1 1 [n] hl]
  rfl

theorem conv_one_drew (n : Int) (W : World) :
    (convert 22 9 (.slice (some ⟨W.heap.size, 0, none⟩) 1 1)).run Try.prog (W.alloc (.cells #[.int .u8 n] 5)).drew = .ok (.string ⟨#[UInt8.ofNat n.toNat]⟩) (W.alloc (.cells #[.int .u8 n] 5)).drew :=
  conv_one n W.drew

theorem ret_str {a b : ByteArray} (h : a = b) : Ending.returned (.string a) = .returned (.string b) := by rw [h]

theorem byte_mod (n : Nat) : UInt8.ofNat (n % 256) = UInt8.ofNat n := by
  apply UInt8.toNat_inj.1
  simp

theorem ba_ext {a b : ByteArray} (h : a.data.toList = b.data.toList) : a = b := by
  apply ByteArray.ext
  exact Array.toList_inj.1 h

theorem size_list (s : ByteArray) : s.data.toList.length = s.size := by simp

end Go.Proofs.Ythhagapmcbkeiaa
/- spec.l01Join by its contract. -/
namespace Go.Proofs.Ythhagapmcbkeiaa
open Go.RowKit

end Go.Proofs.Ythhagapmcbkeiaa
/- spec.l01Label by its contract. -/
namespace Go.Proofs.Ythhagapmcbkeiaa
open Go.RowKit

end Go.Proofs.Ythhagapmcbkeiaa
/- Strings that are drawn, one behind the other. -/
namespace Go.Proofs.Ythhagapmcbkeiaa
open Go.RowKit

theorem mkj_size (ls : List ByteArray) : (⟨(Nm.joinL ls).toArray⟩ : ByteArray).size = Nm.wsum ls + 1 := by
  rw [mk_size, Nm.joinL_length]

theorem wsum_snoc (ls : List ByteArray) (x : ByteArray) : Nm.wsum (ls ++ [x]) = Nm.wsum ls + (1 + x.size) := by
  rw [Nm.wsum_append]; simp [Nm.wsum]

/-- What an append of one string onto a row of the call's own leaves, beside a source. -/
theorem str_step {w w3 wb : World} {g n cap e : Nat} {a : Option Addr} {v vb : Value} {ls : List ByteArray} {x : ByteArray} {o : Obj}
    (hown : w3.ownsRow w.heap.size e 1 v ls.length (ls.map Value.string)) (hsrc : Src w3 g a n cap) (hg : w.grownBy w3 (some g)) (hlt : g < w.heap.size) (hcode : CodeAt w g a n)
    (hown' : wb.ownsRow w.heap.size e 1 vb (ls.length + 1) (ls.map Value.string ++ [.string x])) (hgrow : (w3.alloc o).grownBy wb v.ownBlock) :
    wb.ownsRow w.heap.size e 1 vb (ls ++ [x]).length ((ls ++ [x]).map Value.string) ∧ Src wb g a n cap ∧ w.grownBy wb (some g) := by
  have hrow : ∀ q, v.ownBlock = some q → w.heap.size ≤ q := fun q hq => (hown.lt q hq).1
  exact ⟨by simpa using hown', src_grown (src_below hsrc ((Below.refl _ _).alloc (Nat.le_refl _) _)) hgrow hrow hlt hcode, grown_own (grown_alloc hg _) hgrow hrow⟩
end Go.Proofs.Ythhagapmcbkeiaa
/- The pieces of a form of data, as plain mathematics. -/
namespace Go.Proofs.Ythhagapmcbkeiaa.Dt
open Go.RowKit

/-- How many bytes of short texts stand behind one another at the beginning. -/
def txsF : Nat → ByteArray → Nat
  | 0, _ => 0
  | f + 1, d => if (txtS d).size = 0 then 0 else (txtS d).size + txsF f (d.extract (txtS d).size d.size)

theorem txt_le (d : ByteArray) : (txtS d).size ≤ d.size := by
  unfold txtS
  split
  · split
    · simp; omega
    · simp
  · simp

theorem txsF_enough : ∀ (f g : Nat) (d : ByteArray), d.size < f → d.size < g → txsF f d = txsF g d := by
  intro f
  induction f with
  | zero => intro g d hf; omega
  | succ f ih =>
    intro g d hf hg
    cases g with
    | zero => omega
    | succ g =>
      rw [txsF, txsF]
      by_cases h : (txtS d).size = 0
      · rw [if_pos h, if_pos h]
      · have := txt_le d
        rw [if_neg h, if_neg h, ih g _ (by simp; omega) (by simp; omega)]

def txsS (d : ByteArray) : Nat := txsF (d.size + 1) d

theorem txs_none {d : ByteArray} (h : (txtS d).size = 0) : txsS d = 0 := by rw [txsS, txsF, if_pos h]
theorem txs_step {d : ByteArray} (h : (txtS d).size ≠ 0) : txsS d = (txtS d).size + txsS (d.extract (txtS d).size d.size) := by
  have := txt_le d
  rw [txsS, txsF, if_neg h, txsF_enough _ ((d.extract (txtS d).size d.size).size + 1) _ (by simp; omega) (by simp)]
  rfl

theorem txsF_le : ∀ (f : Nat) (d : ByteArray), txsF f d ≤ d.size := by
  intro f
  induction f with
  | zero => intro d; simp [txsF]
  | succ f ih =>
    intro d
    rw [txsF]
    split
    · omega
    · have := ih (d.extract (txtS d).size d.size)
      have h2 := txt_le d
      simp at this
      omega
theorem txs_le (d : ByteArray) : txsS d ≤ d.size := txsF_le _ d

def tagB (d : ByteArray) : Bool := decide (2 ≤ (txtS d).size) && decide ((txtS d).size ≤ 16) && ((txtS d).data.toList.drop 1).all alnumB

/-- The pieces of a form: a name, so many bytes, a short text, short texts, short texts up to the end, a tag, a tag and the rest, a type map, the rest. -/
abbrev Pc : Type := Option (Option (Option (Option (Option (Option (Option (Option Nat)))))))
abbrev Pc.nm : Pc := none
abbrev Pc.tx : Pc := some none
abbrev Pc.txs : Pc := some (some none)
abbrev Pc.txe : Pc := some (some (some none))
abbrev Pc.tag : Pc := some (some (some (some none)))
abbrev Pc.tagr : Pc := some (some (some (some (some none))))
abbrev Pc.mp : Pc := some (some (some (some (some (some none)))))
abbrev Pc.rs : Pc := some (some (some (some (some (some (some none))))))
abbrev Pc.bs (n : Nat) : Pc := some (some (some (some (some (some (some (some n)))))))

theorem Pc.elim {P : Pc → Prop} (p : Pc) (nm : P Pc.nm) (bs : ∀ n, P (Pc.bs n)) (tx : P Pc.tx) (txs : P Pc.txs) (txe : P Pc.txe) (tag : P Pc.tag) (tagr : P Pc.tagr) (mp : P Pc.mp) (rs : P Pc.rs) : P p := by
  rcases p with _ | _ | _ | _ | _ | _ | _ | _ | n
  · exact nm
  · exact tx
  · exact txs
  · exact txe
  · exact tag
  · exact tagr
  · exact mp
  · exact rs
  · exact bs n

def Pc.isN : Pc → Bool
  | none => true
  | some _ => false

/-- How many bytes the piece has that stands at the beginning; none: it does not stand there. -/
def sz : Pc → ByteArray → Option Nat
  | none, d => if (nameAtS d).size = 0 then none else some (nameAtS d).size
  | some none, d => if (txtS d).size = 0 then none else some (txtS d).size
  | some (some none), d => if txsS d = 0 then none else some (txsS d)
  | some (some (some none)), d => if txsS d = 0 ∨ txsS d ≠ d.size then none else some d.size
  | some (some (some (some none))), d => if tagB d then some (txtS d).size else none
  | some (some (some (some (some none)))), d => if tagB d then some d.size else none
  | some (some (some (some (some (some none))))), d => if mapS d then some d.size else none
  | some (some (some (some (some (some (some none)))))), d => some d.size
  | some (some (some (some (some (some (some (some n))))))), d => if n ≤ d.size then some n else none

theorem nameF_le : ∀ (f : Nat) (s : ByteArray) (i : Nat), (nameF f s i).size ≤ s.size := by
  intro f
  induction f with
  | zero => intro s i; simp [nameF]
  | succ f ih =>
    intro s i
    rw [nameF]
    split
    · split
      · simp; omega
      · split
        · simp
        · exact ih _ _
    · simp
theorem name_le (s : ByteArray) : (nameAtS s).size ≤ s.size := nameF_le _ _ _

theorem sz_le {p : Pc} {d : ByteArray} {n : Nat} (h : sz p d = some n) : n ≤ d.size := by
  have h1 := name_le d
  have h2 := txt_le d
  have h3 := txs_le d
  cases p using Pc.elim <;> simp only [sz] at h
  all_goals first
    | (split at h
       · simp at h
       · simp at h; omega)
    | (split at h
       · simp at h; omega
       · simp at h)
    | (simp at h; omega)

/-- The parts of data, by a form; none: it has not the form. -/
def parts : List Pc → ByteArray → Option (List ByteArray)
  | [], d => if d.size = 0 then some [] else none
  | p :: r, d =>
    match sz p d with
    | none => none
    | some n => (parts r (d.extract n d.size)).map (fun l => d.extract 0 n :: l)

/-- Where the names stand in data whose first byte is the a-th. -/
def spans : List Pc → Nat → ByteArray → Option (List (Nat × Nat))
  | [], _, d => if d.size = 0 then some [] else none
  | p :: r, a, d =>
    match sz p d with
    | none => none
    | some n => (spans r (a + n) (d.extract n d.size)).map (fun l => if p.isN then (a, a + n) :: l else l)

def spansOf : List Pc → List ByteArray → Nat → List (Nat × Nat)
  | p :: r, x :: xs, a => if p.isN then (a, a + x.size) :: spansOf r xs (a + x.size) else spansOf r xs (a + x.size)
  | _, _, _ => []

theorem spans_of_parts : ∀ (fs : List Pc) (d : ByteArray) (a : Nat), spans fs a d = (parts fs d).map (fun ps => spansOf fs ps a) := by
  intro fs
  induction fs with
  | nil => intro d a; rw [spans, parts]; split <;> simp [spansOf]
  | cons p r ih =>
    intro d a
    rw [spans, parts]
    cases h : sz p d with
    | none => simp
    | some n =>
      have hn := sz_le h
      simp only [ih]
      cases parts r (d.extract n d.size) with
      | none => simp
      | some l =>
        have : (d.extract 0 n).size = n := by simp; omega
        simp [spansOf, this]

theorem spans_bs (m n : Nat) (r : List Pc) (a : Nat) (d : ByteArray) : spans (.bs m :: .bs n :: r) a d = spans (.bs (m + n) :: r) a d := by
  rw [spans, spans]
  simp only [sz]
  by_cases h : m ≤ d.size
  · rw [if_pos h]
    simp only [spans, sz]
    have e : (d.extract m d.size).size = d.size - m := by simp
    rw [e]
    by_cases h2 : m + n ≤ d.size
    · rw [if_pos (by omega), if_pos h2]
      have e2 : (d.extract m d.size).extract n (d.size - m) = d.extract (m + n) d.size := by
        rw [ByteArray.extract_extract]
        congr 1
        omega
      simp only [e2, Pc.isN, Nat.add_assoc]
      simp
    · rw [if_neg (by omega), if_neg h2]; simp
  · rw [if_neg h, if_neg (by omega)]

theorem spans_tag (a : Nat) (d : ByteArray) : spans [.tagr] a d = spans [.tag, .rs] a d := by
  have h2 := txt_le d
  simp only [spans, sz]
  by_cases h : tagB d
  · simp [h, Pc.isN]
  · simp [h]

theorem spans_txs (a : Nat) (d : ByteArray) : spans [.txs] a d = spans [.txe] a d := by
  have h3 := txs_le d
  simp only [spans, sz]
  by_cases h : txsS d = 0
  · simp [h]
  · by_cases h2 : txsS d = d.size
    · have h4 : d.size ≠ 0 := by omega
      simp [h2, h4, Pc.isN]
    · simp [h, h2]
      omega

/-- A form's letter as a piece. -/
def letP (c : UInt8) : Pc :=
  if c = 110 then .nm else if c = 98 then .bs 1 else if c = 116 then .tx else if c = 115 then .txs else if c = 99 then .tagr else if c = 109 then .mp else .rs

def specP (t : Int) : List Pc := (formS t).data.toList.map letP

def implP (t : Int) : List Pc :=
  if t = 1 then [.bs 4]
  else if t = 28 then [.bs 16]
  else if t = 2 ∨ t = 5 ∨ t = 12 ∨ t = 39 then [.nm]
  else if t = 15 then [.bs 2, .nm]
  else if t = 6 then [.nm, .nm, .bs 20]
  else if t = 33 then [.bs 6, .nm]
  else if t = 16 then [.txe]
  else if t = 13 then [.tx, .tx]
  else if t = 35 then [.bs 4, .tx, .tx, .tx, .nm]
  else if t = 257 then [.bs 1, .tag, .rs]
  else if t = 47 then [.nm, .mp]
  else [.rs]

theorem spans_cons {p : Pc} {r r' : List Pc} (h : ∀ a d, spans r a d = spans r' a d) (a : Nat) (d : ByteArray) : spans (p :: r) a d = spans (p :: r') a d := by
  rw [spans, spans]
  cases sz p d with
  | none => rfl
  | some n => simp only [h]

theorem forms_agree (t : Int) (a : Nat) (d : ByteArray) : spans (specP t) a d = spans (implP t) a d := by
  unfold specP implP formS
  by_cases h1 : t = 1
  · subst h1; simp [letP, spans_bs]
  by_cases h2 : t = 2 ∨ t = 5 ∨ t = 12 ∨ t = 39
  · have : t ≠ 28 := by omega
    simp [h1, h2, this, letP]
  by_cases h3 : t = 6
  · subst h3
    simp [letP]
    refine spans_cons (fun a d => ?_) a d
    refine spans_cons (fun a d => ?_) a d
    simp [spans_bs]
  by_cases h4 : t = 13
  · subst h4; simp [letP]
  by_cases h5 : t = 15
  · subst h5; simp [letP, spans_bs]
  by_cases h6 : t = 16
  · subst h6; simp [letP, spans_txs]
  by_cases h7 : t = 28
  · subst h7; simp [letP, spans_bs]
  by_cases h8 : t = 33
  · subst h8; simp [letP, spans_bs]
  by_cases h9 : t = 35
  · subst h9; simp [letP, spans_bs]
  by_cases h10 : t = 47
  · subst h10; simp [letP]
  by_cases h11 : t = 257
  · subst h11
    simp [letP]
    exact spans_cons (fun a d => spans_tag a d) a d
  simp [h1, h2, h3, h4, h5, h6, h7, h8, h9, h10, h11, letP]
end Go.Proofs.Ythhagapmcbkeiaa.Dt
/- Names at the beginning of a text are names; data folded, by its parts and by its places. -/
namespace Go.Proofs.Ythhagapmcbkeiaa.Dt
open Go.RowKit
set_option linter.unusedVariables false

theorem ext_get {s : ByteArray} {i e : Nat} (h : i < e) (he : e ≤ s.size) : (s.extract i e)[0]'(by simp; omega) = s[i] := by
  rw [ByteArray.getElem_extract]
  simp

theorem ext_ext {s : ByteArray} {i e n : Nat} (h : i + n ≤ e) (he : e ≤ s.size) : (s.extract i e).extract n (s.extract i e).size = s.extract (i + n) e := by
  rw [ByteArray.extract_extract]
  congr 1
  simp
  omega

theorem nameF_name : ∀ (f : Nat) (s : ByteArray) (i : Nat), (nameF f s i).size ≠ 0 →
    ∃ e, i < e ∧ e ≤ 255 ∧ e ≤ s.size ∧ nameF f s i = s.extract 0 e ∧ ∀ g, e - i < g → (Nm.splitF g (s.extract i e)).isSome = true := by
  intro f
  induction f with
  | zero => intro s i h; simp [nameF] at h
  | succ f ih =>
    intro s i h
    rw [nameF] at h ⊢
    by_cases h1 : i < s.size ∧ i < 255
    · rw [dif_pos h1] at h ⊢
      by_cases h2 : s[i].toNat = 0
      · rw [if_pos h2]
        refine ⟨i + 1, by omega, by omega, by omega, rfl, ?_⟩
        intro g hg
        obtain ⟨g, rfl⟩ : ∃ k, g = k + 1 := ⟨g - 1, by omega⟩
        rw [Nm.splitF_end g _ (by simp; omega) (by rw [ext_get (by omega) (by omega)]; exact h2) (by simp; omega)]
        rfl
      · rw [if_neg h2] at h ⊢
        by_cases h3 : 63 < s[i].toNat
        · rw [if_pos h3] at h; simp at h
        · rw [if_neg h3] at h ⊢
          obtain ⟨e, e1, e2, e3, e4, e5⟩ := ih s _ h
          refine ⟨e, by omega, e2, e3, e4, ?_⟩
          intro g hg
          obtain ⟨g, rfl⟩ : ∃ k, g = k + 1 := ⟨g - 1, by omega⟩
          have hp : 0 < (s.extract i e).size := by simp; omega
          have h0 : (s.extract i e)[0] = s[i] := ext_get (by omega) e3
          rw [Nm.splitF_step g _ hp (by rw [h0]; exact h2) (by rw [h0]; omega) (by rw [h0]; simp; omega), h0, ext_ext (by omega) e3]
          have := e5 g (by omega)
          rw [show i + (s[i].toNat + 1) = i + s[i].toNat + 1 by omega]
          simpa using this
    · rw [dif_neg h1] at h; simp at h

theorem nameAt_name {s : ByteArray} (h : (nameAtS s).size ≠ 0) : (Nm.split (nameAtS s)).isSome = true := by
  obtain ⟨e, e1, e2, e3, e4, e5⟩ := nameF_name 256 s 0 h
  have e6 : nameAtS s = s.extract 0 e := e4
  rw [e6, Nm.split_short _ (by simp; omega)]
  exact e5 256 (by omega)

theorem ext_all (s : ByteArray) : s.extract 0 s.size = s := by simp

theorem splitF_nameF : ∀ (g : Nat) (f : Nat) (s : ByteArray) (i : Nat), s.size ≤ 255 → 255 < f + i → i ≤ s.size → (Nm.splitF g (s.extract i s.size)).isSome = true → nameF f s i = s := by
  intro g
  induction g with
  | zero => intro f s i _ _ _ h; simp [Nm.splitF] at h
  | succ g ih =>
    intro f s i hs hf hi h
    by_cases hp : i < s.size
    · obtain ⟨f, rfl⟩ : ∃ k, f = k + 1 := ⟨f - 1, by omega⟩
      have hz : (s.extract i s.size).size = s.size - i := by simp
      have hq : 0 < (s.extract i s.size).size := by omega
      have h0 : (s.extract i s.size)[0] = s[i] := ext_get hp (Nat.le_refl _)
      rw [nameF, dif_pos ⟨hp, by omega⟩]
      by_cases h2 : s[i].toNat = 0
      · rw [if_pos h2]
        by_cases h3 : (s.extract i s.size).size = 1
        · rw [show i + 1 = s.size by omega]; exact ext_all s
        · rw [Nm.splitF_zero g _ hq (by rw [h0]; exact h2) h3] at h; simp at h
      · rw [if_neg h2]
        by_cases h3 : 63 < s[i].toNat ∨ s.size - i < s[i].toNat + 1
        · rw [Nm.splitF_bad g _ hq (by rw [h0]; exact h2) (by rw [h0, hz]; exact h3)] at h; simp at h
        · rw [if_neg (by omega)]
          rw [Nm.splitF_step g _ hq (by rw [h0]; exact h2) (by rw [h0]; omega) (by rw [h0, hz]; omega), h0, ext_ext (by omega) (Nat.le_refl _)] at h
          refine ih f s _ hs (by omega) (by omega) ?_
          rw [show i + (s[i].toNat + 1) = i + s[i].toNat + 1 by omega] at h
          simpa using h
    · rw [Nm.splitF_empty _ _ (by simp; omega)] at h; simp at h

theorem name_iff (s : ByteArray) : (Nm.split s).isSome = true ↔ (nameAtS s).size ≠ 0 ∧ (nameAtS s).size = s.size := by
  constructor
  · intro h
    by_cases hl : s.size ≤ 255
    · rw [Nm.split_short s hl] at h
      have e : nameAtS s = s := splitF_nameF 256 256 s 0 hl (by omega) (by omega) (by simpa using h)
      rw [e]
      refine ⟨?_, rfl⟩
      intro h0
      rw [Nm.splitF_empty _ _ h0] at h; simp at h
    · rw [Nm.split_long s (by omega)] at h; simp at h
  · rintro ⟨h0, h⟩
    obtain ⟨e, e1, e2, e3, e4, e5⟩ := nameF_name 256 s 0 h0
    have e6 : nameAtS s = s.extract 0 e := e4
    have e7 : e = s.size := by rw [e6] at h; simp at h; omega
    have e8 : nameAtS s = s := by rw [e6, e7]; exact ext_all s
    have := nameAt_name h0
    rwa [e8] at this

/-! Folding. -/

def catL (ps : List ByteArray) : List UInt8 := (ps.map (fun x => x.data.toList)).flatten

def foldL : List Pc → List ByteArray → List UInt8
  | p :: r, x :: xs => (if p.isN then Nm.smallL x.data.toList else x.data.toList) ++ foldL r xs
  | _, _ => []

theorem ext_cat (d : ByteArray) (n : Nat) (h : n ≤ d.size) : (d.extract 0 n).data.toList ++ (d.extract n d.size).data.toList = d.data.toList := by
  have e1 : (d.extract 0 n).data.toList = d.data.toList.take n := by simp
  have e2 : (d.extract n d.size).data.toList = d.data.toList.drop n := by
    simp only [ByteArray.data_extract, Array.toList_extract]
    rw [List.extract_eq_take_drop, List.take_of_length_le (by simp)]
  rw [e1, e2, List.take_append_drop]

theorem parts_cat : ∀ (fs : List Pc) (d : ByteArray) (ps : List ByteArray), parts fs d = some ps → fs.length = ps.length ∧ catL ps = d.data.toList ∧
    ∀ (i : Nat) (p : Pc) (x : ByteArray), fs[i]? = some p → ps[i]? = some x → p.isN = true → (Nm.split x).isSome = true := by
  intro fs
  induction fs with
  | nil =>
    intro d ps h
    rw [parts] at h
    split at h
    · rename_i h0
      simp at h
      subst h
      refine ⟨rfl, ?_, ?_⟩
      · have : d.data.toList.length = 0 := by simpa using h0
        rw [List.length_eq_zero_iff.1 this]; rfl
      · intro i p x h; simp at h
    · simp at h
  | cons p r ih =>
    intro d ps h
    rw [parts] at h
    cases hs : sz p d with
    | none => rw [hs] at h; simp at h
    | some n =>
      rw [hs] at h
      have hn := sz_le hs
      cases hr : parts r (d.extract n d.size) with
      | none => simp [hr] at h
      | some l =>
        simp [hr] at h
        obtain ⟨i1, i2, i3⟩ := ih _ _ hr
        subst h
        refine ⟨by simp [i1], ?_, ?_⟩
        · have : catL (d.extract 0 n :: l) = (d.extract 0 n).data.toList ++ catL l := by simp [catL]
          rw [this, i2, ext_cat d n hn]
        · intro i q x hq hx hN
          cases i with
          | zero =>
            simp at hq hx
            subst hq
            subst hx
            cases p using Pc.elim <;> simp [Pc.isN] at hN
            simp only [sz] at hs
            split at hs
            · simp at hs
            · rename_i h0
              simp at hs
              obtain ⟨e, e1, e2, e3, e4, e5⟩ := nameF_name 256 d 0 h0
              have e6 : nameAtS d = d.extract 0 e := e4
              have e7 : e = n := by rw [e6] at hs; simp at hs; omega
              rw [← e7, ← e6]
              exact nameAt_name h0
          | succ i =>
            simp at hq hx
            exact i3 i q x hq hx hN

def lowIn (s : Nat × Nat) (l : List UInt8) : List UInt8 := l.take s.1 ++ (Nm.smallL ((l.drop s.1).take (s.2 - s.1)) ++ l.drop s.2)
def lowAll (sp : List (Nat × Nat)) (l : List UInt8) : List UInt8 := sp.foldl (fun l s => lowIn s l) l

theorem lowAll_parts : ∀ (fs : List Pc) (ps : List ByteArray) (pre : List UInt8), fs.length = ps.length → lowAll (spansOf fs ps pre.length) (pre ++ catL ps) = pre ++ foldL fs ps := by
  intro fs
  induction fs with
  | nil =>
    intro ps pre h
    have : ps = [] := List.length_eq_zero_iff.1 (by simpa using h.symm)
    subst this
    simp [spansOf, lowAll, foldL, catL]
  | cons p r ih =>
    intro ps pre h
    cases ps with
    | nil => simp at h
    | cons x xs =>
      have hl : r.length = xs.length := by simpa using h
      have hx : x.data.toList.length = x.size := by simp
      have hc : catL (x :: xs) = x.data.toList ++ catL xs := by simp [catL]
      rw [spansOf, hc, foldL]
      cases hN : p.isN with
      | true =>
        simp only [if_true]
        have e1 : lowIn (pre.length, pre.length + x.size) (pre ++ (x.data.toList ++ catL xs)) = (pre ++ Nm.smallL x.data.toList) ++ catL xs := by
          have k1 : (pre ++ (x.data.toList ++ catL xs)).take pre.length = pre := List.take_left' rfl
          have k2 : (pre ++ (x.data.toList ++ catL xs)).drop pre.length = x.data.toList ++ catL xs := List.drop_left' rfl
          have k3 : (x.data.toList ++ catL xs).take x.size = x.data.toList := List.take_left' hx
          have k4 : (pre ++ (x.data.toList ++ catL xs)).drop (pre.length + x.size) = catL xs := by
            rw [← List.append_assoc]
            exact List.drop_left' (by rw [List.length_append, hx])
          simp only [lowIn]
          rw [k1, k2, Nat.add_sub_cancel_left, k3, k4, List.append_assoc]
        have e2 : lowAll ((pre.length, pre.length + x.size) :: spansOf r xs (pre.length + x.size)) (pre ++ (x.data.toList ++ catL xs)) = lowAll (spansOf r xs (pre.length + x.size)) ((pre ++ Nm.smallL x.data.toList) ++ catL xs) := by
          rw [← e1]; rfl
        have e3 : pre.length + x.size = (pre ++ Nm.smallL x.data.toList).length := by simp [Nm.smallL]
        rw [e2, e3, ih xs _ hl]
        simp
      | false =>
        simp only [if_false, Bool.false_eq_true]
        have e3 : pre.length + x.size = (pre ++ x.data.toList).length := by simp
        rw [e3, ← List.append_assoc, ih xs _ hl]
        simp

/-- Data folded; nothing where it is not of its form. -/
def foldDS (t : Int) (d : ByteArray) : ByteArray :=
  match spans (implP t) 0 d with
  | none => ByteArray.empty
  | some sp => ⟨(lowAll sp d.data.toList).toArray⟩

theorem foldDS_none {t : Int} {d : ByteArray} (h : parts (specP t) d = none) : foldDS t d = ByteArray.empty := by
  rw [foldDS, ← forms_agree, spans_of_parts, h]; rfl

theorem foldDS_some {t : Int} {d : ByteArray} {ps : List ByteArray} (h : parts (specP t) d = some ps) : foldDS t d = ⟨(foldL (specP t) ps).toArray⟩ := by
  obtain ⟨h1, h2, h3⟩ := parts_cat _ _ _ h
  rw [foldDS, ← forms_agree, spans_of_parts, h]
  have := lowAll_parts (specP t) ps [] h1
  simp only [List.length_nil, List.nil_append] at this
  rw [h2] at this
  simp only [Option.map_some, this]
end Go.Proofs.Ythhagapmcbkeiaa.Dt
/- impl.nameSize by its contract. -/
namespace Go.Proofs.Ythhagapmcbkeiaa
open Go.RowKit

/-- A size and whether there is one, as Go tells them. -/
def szV (o : Option Nat) : Value := .tuple #[.int .i64 ((o.getD 0 : Nat) : Int), .bool o.isSome]

theorem nsz_none {s : ByteArray} {i : Nat} (h : Dt.nameAtS s = Dt.nameF 256 s i) (h1 : Dt.nameF 256 s i = ByteArray.empty) : szV (Dt.sz .nm s) = .tuple #[.int .i64 0, .bool false] := by
  have : (Dt.nameAtS s).size = 0 := by rw [h, h1]; rfl
  rw [Dt.sz, if_pos this]; rfl
theorem nsz_zero {s : ByteArray} {i : Nat} (h : Dt.nameAtS s = Dt.nameF 256 s i) (h1 : i < s.size) (h2 : i < 255) (h0 : s[i].toNat = 0) : szV (Dt.sz .nm s) = .tuple #[.int .i64 ((i : Int) + 1), .bool true] := by
  have e : Dt.nameF 256 s i = s.extract 0 (i + 1) := by rw [Dt.nameF, dif_pos ⟨h1, h2⟩, if_pos h0]
  have e1 : (Dt.nameAtS s).size = i + 1 := by rw [h, e]; simp; omega
  rw [Dt.sz, if_neg (by omega), e1]; rfl
theorem nsz_step {s : ByteArray} {i : Nat} (h : Dt.nameAtS s = Dt.nameF 256 s i) (h1 : i < s.size) (h2 : i < 255) (h0 : s[i].toNat ≠ 0) (h3 : s[i].toNat ≤ 63) : Dt.nameAtS s = Dt.nameF 256 s (i + (1 + s[i].toNat)) := by
  rw [h, Dt.nameF, dif_pos ⟨h1, h2⟩, if_neg h0, if_neg (by omega), show i + s[i].toNat + 1 = i + (1 + s[i].toNat) by omega]
  exact Dt.nameF_enough _ _ _ _ (by omega) (by omega)
theorem nsz_big {s : ByteArray} {i : Nat} (h1 : i < s.size) (h2 : i < 255) (h0 : 63 < s[i].toNat) : Dt.nameF 256 s i = ByteArray.empty := by
  rw [Dt.nameF, dif_pos ⟨h1, h2⟩, if_neg (by omega), if_pos h0]
theorem nsz_end {s : ByteArray} {i : Nat} (h : ¬ (i < s.size ∧ i < 255)) : Dt.nameF 256 s i = ByteArray.empty := by
  rw [Dt.nameF, dif_neg h]

set_option maxRecDepth 100000 in
set_option maxHeartbeats 800000 in
theorem nameSize_any (s : ByteArray) (w : World) :
    Calls Try.prog 56 #[.string s] w fun e w' => e = .returned (szV (Dt.sz .nm s)) ∧ w' = w := by
  have H0 : Dt.nameAtS s = Dt.nameF 256 s 0 := rfl
  go_enter Try.func56, Try.ntmps56
  go_wp2
  go_loop [4] (fun v => ∃ i : Nat, i < 255 ∧ v = .int .i64 i ∧ Dt.nameAtS s = Dt.nameF 256 s i) (fun v => 400 - (intOf v).toNat)
  case atStart => exact ⟨0, by omega, rfl, H0⟩
  case round =>
    obtain ⟨i, hi, rfl, hn⟩ := hrel
    clear H0
    by_cases h1 : i < s.size
    · have h1' : (i : Int) < (s.size : Int) := by omega
      have hc : (s[i].toNat : Int) < 256 := by have := s[i].toNat_lt; omega
      by_cases h3 : s[i].toNat = 0
      · have HN := Nm.hide (nsz_zero hn h1 hi h3)
        have h3' : ((s[i].toNat : Int) == 0) = true := by rw [beq_iff_eq]; omega
        clear hn h3
        go_wp2
        go_ret2
        rw [HN.out]
        exact ⟨rfl, rfl⟩
      · have h3' : ((s[i].toNat : Int) == 0) = false := by rw [beq_eq_false_iff_ne]; omega
        have h3'' : (0 : Int) < (s[i].toNat : Int) := by omega
        by_cases h4 : 63 < s[i].toNat
        · have HN := Nm.hide (nsz_none hn (nsz_big h1 hi h4))
          have h4' : (63 : Int) < (s[i].toNat : Int) := by omega
          clear hn h3
          go_wp2_with (go_at_call 62; go_in)
          go_ret2
          rw [HN.out]
          exact ⟨rfl, rfl⟩
        · have h4' : (s[i].toNat : Int) ≤ 63 := by omega
          have hst := nsz_step hn h1 hi h3 (by omega)
          by_cases h5 : 255 ≤ i + (1 + s[i].toNat)
          · have HN := Nm.hide (nsz_none hst (nsz_end (by omega)))
            have h5' : (255 : Int) ≤ (i : Int) + (1 + (s[i].toNat : Int)) := by omega
            clear hn h3 hst
            go_wp2_with (go_at_call 62; go_in)
            go_ret2
            rw [HN.out]
            exact ⟨rfl, rfl⟩
          · have HN := Nm.hide hst
            have h5' : (i : Int) + (1 + (s[i].toNat : Int)) < 255 := by omega
            clear hn h3 hst
            go_wp2_with (go_at_call 62; go_in)
            go_round
            case rel => exact ⟨i + (1 + s[i].toNat), by omega, by go_num, HN.out⟩
            case measure => simp [intOf]; omega
    · have HN := Nm.hide (nsz_none hn (nsz_end (by omega)))
      have h1' : (s.size : Int) ≤ (i : Int) := by omega
      clear hn
      go_wp2
      go_ret2
      rw [HN.out]
      exact ⟨rfl, rfl⟩
end Go.Proofs.Ythhagapmcbkeiaa
/- impl.NameOK by its contract. -/
namespace Go.Proofs.Ythhagapmcbkeiaa
open Go.RowKit

theorem nok_true {s : ByteArray} (h : (Nm.split s).isSome = true) : Dt.sz .nm s = some s.size := by
  obtain ⟨h1, h2⟩ := (Dt.name_iff s).1 h
  rw [Dt.sz, if_neg h1, h2]
theorem nok_false {s : ByteArray} (h : (Nm.split s).isSome = false) : Dt.sz .nm s = none ∨ ∃ n, Dt.sz .nm s = some n ∧ n ≠ s.size := by
  by_cases h0 : (Dt.nameAtS s).size = 0
  · left; rw [Dt.sz, if_pos h0]
  · right
    refine ⟨_, by rw [Dt.sz, if_neg h0], ?_⟩
    intro e
    rw [(Dt.name_iff s).2 ⟨h0, e⟩] at h
    simp at h

set_option maxRecDepth 100000 in
set_option maxHeartbeats 400000 in
theorem implNameOK_same (s : ByteArray) (w : World) :
    Calls Try.prog 44 #[.string s] w fun e w' => e = .returned (.bool (Nm.split s).isSome) ∧ w' = w := by
  have hcall := nameSize_any s
  cases hq : (Nm.split s).isSome with
  | true =>
    rw [nok_true hq] at hcall
    simp only [szV, Option.getD_some, Option.isSome_some] at hcall
    clear hq
    go_enter Try.func44, Try.ntmps44
    go_wp2_with (go_at_call 56; refine (hcall _).mono ?_; rintro e w1 ⟨rfl, rfl⟩)
    go_ret
    exact ⟨rfl, rfl⟩
  | false =>
    rcases nok_false hq with h | ⟨n, h, hn⟩
    · rw [h] at hcall
      simp only [szV, Option.getD_none, Option.isSome_none] at hcall
      clear hq h
      go_enter Try.func44, Try.ntmps44
      go_wp2_with (go_at_call 56; refine (hcall _).mono ?_; rintro e w1 ⟨rfl, rfl⟩)
      go_ret
      exact ⟨rfl, rfl⟩
    · rw [h] at hcall
      simp only [szV, Option.getD_some, Option.isSome_some] at hcall
      have hb : ((n : Int) == (s.size : Int)) = false := by rw [beq_eq_false_iff_ne]; omega
      have hb2 : (n == s.size) = false := by rw [beq_eq_false_iff_ne]; omega
      clear hq h
      go_enter Try.func44, Try.ntmps44
      go_wp2_with (go_at_call 56; refine (hcall _).mono ?_; rintro e w1 ⟨rfl, rfl⟩)
      go_ret
      exact ⟨rfl, rfl⟩

theorem implNameOK_any (s : ByteArray) (w : World) (_ : s.size ≤ maxLen) :
    Calls Try.prog 44 #[.string s] w fun e w' => e = .returned (.bool (Nm.split s).isSome) ∧ Below w.heap.size w w' := by
  refine (implNameOK_same s w).mono ?_
  rintro e w' ⟨rfl, rfl⟩
  exact ⟨rfl, Below.refl _ _⟩
end Go.Proofs.Ythhagapmcbkeiaa
/- impl.splitName by its contract. -/
namespace Go.Proofs.Ythhagapmcbkeiaa
open Go.RowKit

end Go.Proofs.Ythhagapmcbkeiaa
/- Rows of the call's own, side by side. -/
namespace Go.Proofs.Ythhagapmcbkeiaa
open Go.RowKit

theorem Try.infoU8r : (Try.prog.info? 5).map (fun i => (i.zero, i.size, i.bytes)) = some (some (.int .u8 0), 1, 1) := by kernel_rfl

theorem owns_apart {w w1 : World} {B e e' n n' : Nat} {v u : Value} {xs ys : List Value} (h : w.ownsRow B e 1 v n xs) (h' : w.ownsRow B e' 1 u n' ys) (hne : e ≠ e') (hg : w.grownBy w1 u.ownBlock) : w1.ownsRow B e 1 v n xs := by
  refine h.kept hg ?_
  rcases h.2 with ⟨rfl, _⟩ | ⟨g, cap, cur, rfl, _, hh, _⟩
  · exact .inl rfl
  · right
    rcases h'.2 with ⟨rfl, _⟩ | ⟨g', cap', cur', rfl, _, hh', _⟩
    · simp [Value.ownBlock]
    · simp only [Value.ownBlock, ne_eq, Option.some.injEq]
      intro e2
      subst e2
      rw [hh] at hh'
      simp at hh'
      exact hne hh'.2

theorem owns_shape {w : World} {B e n : Nat} {v : Value} {xs : List Value} (h : w.ownsRow B e 1 v n xs) : ∃ a cap, v = .slice a n cap := by
  rcases h.2 with ⟨rfl, rfl⟩ | ⟨g, cap, cur, rfl, _⟩
  · exact ⟨_, _, rfl⟩
  · exact ⟨_, _, rfl⟩

theorem grow1 (w : World) (o : Obj) : w.heap.size ≤ (w.alloc o).heap.size := ((Below.refl w.heap.size w).alloc (Nat.le_refl _) o).size

theorem made2 (w : World) (o : Obj) (e : Nat) : ((w.alloc o).alloc (.cells #[] e)).ownsRow w.heap.size e 1 (.slice (some ⟨w.heap.size + 1, 0, none⟩) 0 0) 0 [] := by
  have h : (w.alloc o).heap.size = w.heap.size + 1 := by simp
  rw [← h]
  exact World.ownsRow_made (w.alloc o) #[] 0 (grow1 w o) (by decide) rfl

theorem owns_bel {w w' : World} {B e n : Nat} {v : Value} {xs : List Value} (h : w.ownsRow B e 1 v n xs) (hb : Below w.heap.size w w') : w'.ownsRow B e 1 v n xs := by
  refine ⟨h.1, ?_⟩
  rcases h.2 with h0 | ⟨g, cap, cur, h1, h2, h3, h4⟩
  · exact .inl h0
  · exact .inr ⟨g, cap, cur, h1, h2, by rw [hb.block g (Array.getElem?_eq_some_iff.1 h3).1]; exact h3, h4⟩

theorem owns_base {w : World} {B B' e n : Nat} {v : Value} {xs : List Value} (h : w.ownsRow B e 1 v n xs) (hB : B' ≤ B) : w.ownsRow B' e 1 v n xs := by
  refine ⟨h.1, ?_⟩
  rcases h.2 with h0 | ⟨g, cap, cur, h1, h2, h3⟩
  · exact .inl h0
  · exact .inr ⟨g, cap, cur, h1, Nat.le_trans hB h2, h3⟩

theorem u8_ne {c : UInt8} {n : Nat} (hn : n < 256) (h : c ≠ UInt8.ofNat n) : ((c.toNat : Int) == (n : Int)) = false := by
  rw [beq_eq_false_iff_ne]
  intro e
  apply h
  apply UInt8.toNat_inj.1
  simp
  omega

theorem extract_drop (s : ByteArray) (k : Nat) : (s.extract k s.size).data.toList = s.data.toList.drop k := by
  simp only [ByteArray.data_extract, Array.toList_extract]
  rw [List.extract_eq_take_drop, List.take_of_length_le (by simp)]

end Go.Proofs.Ythhagapmcbkeiaa
/- spec.l01Name by its contract. -/
namespace Go.Proofs.Ythhagapmcbkeiaa
open Go.RowKit

end Go.Proofs.Ythhagapmcbkeiaa
/- Bytes of a string, laid in a new row. -/
namespace Go.Proofs.Ythhagapmcbkeiaa
open Go.RowKit

/-- The bytes 'l' lie at the head of block g, and may be written. -/
def BRow (w : World) (g : Nat) (l : List UInt8) : Prop := ∀ j c, l[j]? = some c → w.cell? ⟨g, j, none⟩ = some (.int .u8 c.toNat) ∧ w.frozen? ⟨g, j, none⟩ = false

theorem BRow.set {w : World} {g k : Nat} {l : List UInt8} {d : UInt8} (h : BRow w g l) (hk : k < l.length) : BRow (w.setCell ⟨g, k, none⟩ (.int .u8 d.toNat)) g (l.set k d) := by
  intro j c hj
  obtain ⟨x, hx⟩ : ∃ x, l[k]? = some x := ⟨_, List.getElem?_eq_getElem hk⟩
  by_cases e : k = j
  · subst e
    rw [List.getElem?_set_self hk] at hj
    simp at hj
    subst hj
    exact ⟨World.cell?_setCell_same _ _ _ (h k x hx).1, by rw [World.frozen?_setCell]; exact (h k x hx).2⟩
  · rw [List.getElem?_set_ne e] at hj
    refine ⟨?_, by rw [World.frozen?_setCell]; exact (h j c hj).2⟩
    rw [World.cell?_setCell_other w ⟨g, k, none⟩ ⟨g, j, none⟩ _ (by intro h; cases h; exact e rfl)]
    exact (h j c hj).1

theorem new_bytes (s : ByteArray) (w : World) : ∃ cap W, s.size ≤ cap ∧ (s.size ≤ maxLen → cap ≤ maxLen) ∧
    (convert 9 22 (.string s)).run Try.prog w = .ok (.slice (some ⟨w.heap.size, 0, none⟩) s.size cap) W ∧ BRow W w.heap.size s.data.toList ∧ Below w.heap.size w W := by
  refine ⟨_, _, grownCap_ge w s.size 0 5, grownCap_le_maxLen w s.size 0 5, run_bytes_of_string w 9 22 5 s Try.underlying9 Try.underlying22 Try.underlying5, ?_, ?_⟩
  · intro j c hj
    have hj' : j < s.data.size := by
      have := (List.getElem?_eq_some_iff.1 hj).1
      simpa using this
    have hc : s.data[j] = c := by
      have := (List.getElem?_eq_some_iff.1 hj).2
      simpa using this
    constructor
    · have e := cell_of_row (w.drew.alloc (.cells (bytesRow s (grownCap w s.size 0 5)) 5 ((bytesRow s (grownCap w s.size 0 5)).size, (bytesRow s (grownCap w s.size 0 5)).size + 1))) w.heap.size j _ 5 _ (heap_alloc_new w.drew _)
      rw [e, bytesRow_at s _ j hj', hc]
    · have e := World.frozen?_alloc_mark w.drew (bytesRow s (grownCap w s.size 0 5)) 5 (bytesRow s (grownCap w s.size 0 5)).size ((bytesRow s (grownCap w s.size 0 5)).size + 1) j
      rw [show w.heap.size = w.drew.heap.size from rfl, e]
      have : s.data.size ≤ (bytesRow s (grownCap w s.size 0 5)).size := by simp [bytesRow]
      simp; omega
  · exact ((Below.refl _ w).drew).alloc (Nat.le_refl _) _

end Go.Proofs.Ythhagapmcbkeiaa
/- spec.l01Spoil by its contract. -/
namespace Go.Proofs.Ythhagapmcbkeiaa
open Go.RowKit

theorem brow_grown {w w1 : World} {g gb : Nat} {l : List UInt8} (h : BRow w gb l) (hg : w.grownBy w1 (some g)) (hne : gb ≠ g) : BRow w1 gb l := by
  intro j c hj
  obtain ⟨h1, h2⟩ := h j c hj
  have hlt := World.block_lt_of_cell? w _ h1
  have hblk := hg.block gb hlt (fun e => hne (by simpa using e))
  exact ⟨(World.cell?_of_block (w := w) hblk).trans h1, (World.frozen?_of_block (w := w) hblk).trans h2⟩

theorem conv_brow {w : World} {gb cap k : Nat} {l : List UInt8} (h : BRow w gb l) (hk : k ≤ l.length) :
    (convert 22 9 (.slice (some ⟨gb, 0, none⟩) k cap)).run Try.prog w = .ok (.string ⟨(l.take k).toArray⟩) w := by
  have hl : (l.take k).length = k := by simp; omega
  have := run_convert_bytes_back (P := Try.prog) w 22 9 5 ⟨gb, 0, none⟩ cap (l.take k) Try.underlying22 Try.underlying5 Try.underlying9 (by
    intro j hj
    rw [Nm.addr_add, Nat.zero_add]
    refine (h j _ ?_).1
    rw [List.getElem_take]
    exact List.getElem?_eq_getElem (by omega))
  rw [hl] at this
  exact this

theorem src_setOther {w : World} {g gb i n cap : Nat} {a : Option Addr} {v : Value} (h : Src w g a n cap) (hne : gb ≠ g) (hcode : n = 0 ∨ ∀ b off, a = some ⟨b, off, none⟩ → b ≠ gb) : Src (w.setCell ⟨gb, i, none⟩ v) g a n cap := by
  obtain ⟨pos, st, h1, h2, h3, h4, h5⟩ := h
  refine ⟨pos, st, ?_, h2, h3, h4, ?_⟩
  · rw [heap_setCell_other w ⟨gb, i, none⟩ g v (fun e => hne e.symm)]; exact h1
  · rcases h5 with h5 | ⟨b, off, e, hb, hc⟩
    · exact .inl h5
    · rcases hcode with h6 | h6
      · exact .inl h6
      · refine .inr ⟨b, off, e, hb, fun j hj => ?_⟩
        obtain ⟨c, hc1, hc2⟩ := hc j hj
        refine ⟨c, ?_, hc2⟩
        rw [World.cell?_setCell_other w ⟨gb, i, none⟩ ⟨b, off + j, none⟩ v (by intro h; cases h; exact h6 _ off e rfl)]
        exact hc1

theorem grown_set {w w1 : World} {g gb i : Nat} {v : Value} (h : w.grownBy w1 (some g)) (hb : w.heap.size ≤ gb) : w.grownBy (w1.setCell ⟨gb, i, none⟩ v) (some g) :=
  grown_own h (row := some gb) ⟨rfl, rfl, rfl, by simp, fun k _ hk => heap_setCell_other w1 ⟨gb, i, none⟩ k v (fun e => hk (by simp [e]))⟩ (fun k hk => by simp at hk; omega)

theorem brow_len_set {l : List UInt8} {k : Nat} {d : UInt8} : (l.set k d).length = l.length := by simp

end Go.Proofs.Ythhagapmcbkeiaa
