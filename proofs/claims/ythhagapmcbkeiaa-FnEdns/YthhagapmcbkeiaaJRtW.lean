import Derived.Test.YthhagapmcbkeiaaJIwN
import Derived.Test.YthhagapmcbkeiaaIwB
import Derived.Test.YthhagapmcbkeiaaJMath
import Derived.Test.YthhagapmcbkeiaaRows
import Derived.WalkSpells
import Derived.WalkLawsBesides
import Derived.RegionTactic
import Derived.BigRegion
import Derived.BigQuiet
import Derived.Deep.QuietTactic
import Derived.OpenShut
import Derived.Test.YthhagapmcbkeiaaJSgN
import Derived.Test.YthhagapmcbkeiaaJSRe
import Derived.Laws.AppendOwn
/- A message that was written is read again: mathematics. -/
namespace Go.Proofs.Ythhagapmcbkeiaa
open Go.RowKit
set_option linter.unusedVariables false

theorem nmX_pre (x : ByteArray) (s : Wst) : s.1 <+: (nmX x s).1 := by
  obtain ⟨xs, h⟩ := nmW_adds ((Nm.split x).getD []) s.1 s.2
  exact ⟨xs, h.symm⟩
theorem qqW_pre (q : Qr) (s : Wst) : s.1 <+: (qqW q s).1 := (nmX_pre q.nm s).trans ⟨_, rfl⟩
theorem qqWs_pre : ∀ (l : List Qr) (s : Wst), s.1 <+: (qqWs l s).1 := by
  intro l
  induction l with
  | nil => intro s; exact List.prefix_refl _
  | cons q l ih => intro s; rw [qqWs_cons]; exact (qqW_pre q s).trans (ih _)
theorem rrW_pre {r : Rr} (h : rcOK r = true) (s : Wst) : s.1 <+: (rrW r s).1 := by
  obtain ⟨h1, ⟨t, ht, htl⟩, ⟨c, hc, hcl⟩, _⟩ := rc_parts h
  have hA : (rrA r.own t c r.tt s).1 = ((nmX r.own s).1 ++ (put2 t ++ put2 c ++ put4 r.tt)) ++ [0, 0] := by simp [rrA]
  obtain ⟨ys, hys⟩ := daW_adds t r.da (rrA r.own t c r.tt s)
  have hW : (rrW r s).1 = ((nmX r.own s).1 ++ (put2 t ++ put2 c ++ put4 r.tt)) ++ put2 ys.length ++ ys := by
    have := rrFin_eq hA hys
    rw [rrW, ht, hc]
    simp only [Int.toNat_natCast]
    exact this
  rw [hW, List.append_assoc, List.append_assoc]
  exact (nmX_pre r.own s).trans ⟨_, rfl⟩
theorem rrWs_pre : ∀ (l : List Rr) (s : Wst), l.all rcOK = true → s.1 <+: (rrWs l s).1 := by
  intro l
  induction l with
  | nil => intro s h; exact List.prefix_refl _
  | cons r l ih =>
    intro s h
    simp only [List.all_cons, Bool.and_eq_true] at h
    rw [rrWs_cons]
    exact (rrW_pre h.1 s).trans (ih _ h.2)

theorem manyQ_dec {L : List UInt8} : ∀ (l : List Qr) (s : Wst) (acc : List Qm), l.all quOK = true → StD L s → (qqWs l s).1 <+: L → manyS (quS L) l.length s.1.length acc = .ok (acc ++ l.map qmOf) (qqWs l s).1.length ∧ StD L (qqWs l s) := by
  intro l
  induction l with
  | nil => intro s acc h hs hp; exact ⟨by simp [manyS, qqWs], hs⟩
  | cons q l ih =>
    intro s acc h hs hp
    simp only [List.all_cons, Bool.and_eq_true] at h
    rw [qqWs_cons] at hp ⊢
    obtain ⟨d1, d2⟩ := quS_dec h.1 hs ((qqWs_pre l _).trans hp)
    obtain ⟨i1, i2⟩ := ih (qqW q s) (acc ++ [qmOf q]) h.2 d2 hp
    refine ⟨?_, i2⟩
    rw [List.length_cons, manyS, d1]
    simp only
    rw [i1]
    simp
theorem manyR_dec {L : List UInt8} : ∀ (l : List Rr) (s : Wst) (acc : List Rm), l.all rcOK = true → StD L s → (rrWs l s).1 <+: L → manyS (rrS L) l.length s.1.length acc = .ok (acc ++ l.map rmOf) (rrWs l s).1.length ∧ StD L (rrWs l s) := by
  intro l
  induction l with
  | nil => intro s acc h hs hp; exact ⟨by simp [manyS, rrWs], hs⟩
  | cons r l ih =>
    intro s acc h hs hp
    simp only [List.all_cons, Bool.and_eq_true] at h
    rw [rrWs_cons] at hp ⊢
    obtain ⟨d1, d2⟩ := rrS_dec h.1 hs ((rrWs_pre l _ h.2).trans hp)
    obtain ⟨i1, i2⟩ := ih (rrW r s) (acc ++ [rmOf r]) h.2 d2 hp
    refine ⟨?_, i2⟩
    rw [List.length_cons, manyS, d1]
    simp only
    rw [i1]
    simp

def mmOf (m : Mg) : Mm := ⟨m.qs.map qmOf, m.an.map rmOf, m.au.map rmOf, m.ex.map rmOf⟩
def flOf (h : Hr) : Nat := flagsS h.qr h.op.toNat h.aa h.tc h.rd h.ra h.z h.ad h.cd h.code.toNat

theorem msgS_dec {m : Mg} (h : mgOK m = true) (hl : (msgW m).1.length ≤ 65535) :
    msgS (msgW m).1 = .ok (mmOf m) (msgW m).1.length ∧ n16 (msgW m).1 0 = m.hd.id.toNat ∧ n16 (msgW m).1 2 = flOf m.hd := by
  simp only [mgOK, Bool.and_eq_true, decide_eq_true_eq] at h
  obtain ⟨⟨⟨⟨⟨hsm, hhd⟩, hqs⟩, han⟩, hau⟩, hex⟩ := h
  obtain ⟨⟨id, hid, hidl⟩, ⟨op, hop, hopl⟩, ⟨code, hco, hcol⟩⟩ := hd_parts hhd
  have hfl : flOf m.hd < 65536 := by rw [flOf, hop, hco]; exact flagsS_lt _ _ _ _ _ _ _ _ _ _ hopl hcol
  have hlen := hdW_len m
  have p1 : (hdW m, ([] : List (ByteArray × Nat))).1 <+: (qqWs m.qs (hdW m, [])).1 := qqWs_pre _ _
  have p2 := rrWs_pre m.an (qqWs m.qs (hdW m, [])) han
  have p3 := rrWs_pre m.au (rrWs m.an (qqWs m.qs (hdW m, []))) hau
  have p4 := rrWs_pre m.ex (rrWs m.au (rrWs m.an (qqWs m.qs (hdW m, [])))) hex
  have hs0 : StD (msgW m).1 (hdW m, []) := ⟨PlOK_nil _, PlD.nil _, fun p hp => by cases hp⟩
  obtain ⟨q1, q2⟩ := manyQ_dec m.qs (hdW m, []) [] hqs hs0 (p2.trans (p3.trans p4))
  obtain ⟨a1, a2⟩ := manyR_dec m.an _ [] han q2 (p3.trans p4)
  obtain ⟨u1, u2⟩ := manyR_dec m.au _ [] hau a2 p4
  obtain ⟨x1, x2⟩ := manyR_dec m.ex _ [] hex u2 (List.prefix_refl _)
  have hp : hdW m <+: (msgW m).1 := p1.trans (p2.trans (p3.trans p4))
  have hle := hp.length_le
  have hW : hdW m = put2 id ++ put2 (flOf m.hd) ++ (put2 m.qs.length ++ (put2 m.an.length ++ (put2 m.au.length ++ put2 m.ex.length))) := by
    rw [hdW, headL, ← flOf, hid]
    simp
  have g0 : Has (msgW m).1 0 (put2 id) := Has.of_pre hp (ys := []) (zs := put2 (flOf m.hd) ++ (put2 m.qs.length ++ (put2 m.an.length ++ (put2 m.au.length ++ put2 m.ex.length)))) (by rw [hW]; simp) rfl
  have g2 : Has (msgW m).1 2 (put2 (flOf m.hd)) := Has.of_pre hp (ys := put2 id) (zs := put2 m.qs.length ++ (put2 m.an.length ++ (put2 m.au.length ++ put2 m.ex.length))) (by rw [hW]) rfl
  have g4 : Has (msgW m).1 4 (put2 m.qs.length) := Has.of_pre hp (ys := put2 id ++ put2 (flOf m.hd)) (zs := put2 m.an.length ++ (put2 m.au.length ++ put2 m.ex.length)) (by rw [hW]; simp) rfl
  have g6 : Has (msgW m).1 6 (put2 m.an.length) := Has.of_pre hp (ys := put2 id ++ put2 (flOf m.hd) ++ put2 m.qs.length) (zs := put2 m.au.length ++ put2 m.ex.length) (by rw [hW]; simp) rfl
  have g8 : Has (msgW m).1 8 (put2 m.au.length) := Has.of_pre hp (ys := put2 id ++ put2 (flOf m.hd) ++ put2 m.qs.length ++ put2 m.an.length) (zs := put2 m.ex.length) (by rw [hW]; simp) rfl
  have g10 : Has (msgW m).1 10 (put2 m.ex.length) := Has.of_pre hp (ys := put2 id ++ put2 (flOf m.hd) ++ put2 m.qs.length ++ put2 m.an.length ++ put2 m.au.length) (zs := []) (by rw [hW]; simp) rfl
  have n0 := n16_has g0 hidl
  have n2 := n16_has g2 hfl
  have n4 := n16_has g4 (by omega)
  have n6 := n16_has g6 (by omega)
  have n8 := n16_has g8 (by omega)
  have n10 := n16_has g10 (by omega)
  refine ⟨?_, by rw [n0, hid]; simp, n2⟩
  simp only [hlen] at q1
  have hend : (rrWs m.ex (rrWs m.au (rrWs m.an (qqWs m.qs (hdW m, []))))).1.length = (msgW m).1.length := rfl
  rw [msgS, if_neg (by omega), if_neg (by omega), n4, n6, n8, n10, if_neg (by omega), listsS, n4, q1]
  simp only
  rw [n6, a1]
  simp only
  rw [n8, u1]
  simp only
  rw [n10, x1]
  simp only
  rw [hend, if_neg (by omega)]
  rfl

/-- The head's bits are its fields. -/
theorem hd_bits {h : Hr} (k : hdOK h = true) : hdA h.id.toNat (flOf h) = (hrV h).toArray := by
  obtain ⟨⟨id, hid, hidl⟩, ⟨op, hop, hopl⟩, ⟨code, hco, hcol⟩⟩ := hd_parts k
  obtain ⟨i0, b1, i2, b3, b4, b5, b6, b7, b8, b9, i10⟩ := h
  simp only at hid hop hco
  subst hid hop hco
  have t1 := tn_le b1
  have t3 := tn_le b3
  have t4 := tn_le b4
  have t5 := tn_le b5
  have t6 := tn_le b6
  have t7 := tn_le b7
  have t8 := tn_le b8
  have t9 := tn_le b9
  have hb : ∀ (f i : Nat) (b : Bool), f / 2 ^ i % 2 = b.toNat → f.testBit i = b := by
    intro f i b e
    rw [Nat.testBit_eq_decide_div_mod_eq, e]
    cases b <;> rfl
  have hF : flOf ⟨(id : Int), b1, (op : Int), b3, b4, b5, b6, b7, b8, b9, (code : Int)⟩ = 32768 * b1.toNat + op * 2048 + 1024 * b3.toNat + 512 * b4.toNat + 256 * b5.toNat + 128 * b6.toNat + 64 * b7.toNat + 32 * b8.toNat + 16 * b9.toNat + code := by
    simp only [flOf, flagsS, flS_c, Int.toNat_natCast]
  rw [hF]
  simp only [hdA, hrV, Int.toNat_natCast]
  rw [hb _ 15 b1 (by omega), hb _ 10 b3 (by omega), hb _ 9 b4 (by omega), hb _ 8 b5 (by omega), hb _ 7 b6 (by omega), hb _ 6 b7 (by omega), hb _ 5 b8 (by omega), hb _ 4 b9 (by omega)]
  have e1 : (32768 * b1.toNat + op * 2048 + 1024 * b3.toNat + 512 * b4.toNat + 256 * b5.toNat + 128 * b6.toNat + 64 * b7.toNat + 32 * b8.toNat + 16 * b9.toNat + code) / 2048 % 16 = op := by omega
  have e2 : (32768 * b1.toNat + op * 2048 + 1024 * b3.toNat + 512 * b4.toNat + 256 * b5.toNat + 128 * b6.toNat + 64 * b7.toNat + 32 * b8.toNat + 16 * b9.toNat + code) % 16 = code := by omega
  rw [e1, e2]
end Go.Proofs.Ythhagapmcbkeiaa
/- impl.fail, (*reader).take by their contracts. -/
namespace Go.Proofs.Ythhagapmcbkeiaa
open Go.RowKit
set_option linter.unusedVariables false

/-- What a reader panics with. -/
def fault (c : Int) : List PanicEntry := [{ v := .iface 95 (.agg #[.int .i64 c]), recovered := false }]

set_option maxRecDepth 100000 in
set_option maxHeartbeats 400000 in
theorem fail_any (c : Int) (w : World) :
    Calls Try.prog 37 #[.int .i64 c] w fun e w' => e = .panicked (fault c) ∧ w' = w := by
  go_enter Try.func37, Try.ntmps37
  go_wp2
  simp [bodyPost, fault]

theorem bp_panic {P : Program} {f : Func} {R : Ending → World → Prop} {ch : List PanicEntry} {a : Act} {w : World} (hd : a.defers = []) (h : R (.panicked ch) w) : bodyPost P f R (.panic ch) a w := by
  simp only [bodyPost]
  exact ⟨hd, h⟩

/-- A reader lies in block g: its bytes' slice, its place. -/
def Rd (w : World) (g : Nat) (v : Value) (p : Nat) : Prop := w.heap[g]? = some (.cells #[v, .int .i64 p] 64 (0, 0))

/-- What take tells of a slice. -/
def cutV (a : Option Addr) (cap p size : Nat) : Value := if cap = p then .slice a size 0 else .slice (a.map (fun x => x.add p)) size (cap - p)

theorem grown_drew {w w' : World} {row : Option Nat} (h : w.grownBy w' row) : w.grownBy w'.drew row := ⟨h.os, h.tape, h.output, h.size, h.block⟩

theorem rd_set {w : World} {g p q : Nat} {v : Value} (h : Rd w g v p) : Rd (w.setCell ⟨g, 1, none⟩ (.int .i64 q)) g v q ∧ w.grownBy (w.setCell ⟨g, 1, none⟩ (.int .i64 q)) (some g) := by
  refine ⟨?_, ⟨rfl, rfl, rfl, by simp, fun k _ hk => heap_setCell_other w ⟨g, 1, none⟩ k _ (fun e => hk (by simp [e]))⟩⟩
  unfold Rd
  rw [heap_setCell_same w g 1 _ _ _ h]; rfl

set_option maxRecDepth 100000 in
set_option maxHeartbeats 800000 in
theorem take_any (g : Nat) (a : Option Addr) (n cap p size : Nat) (w : World) (h : Rd w g (.slice a n cap) p) (hp : p ≤ n) (hn : n ≤ cap) (hnn : n ≤ 1048576) (hs : size ≤ 65535) :
    Calls Try.prog 60 #[.pointer (some ⟨g, 0, none⟩), .int .i64 size] w fun e w' =>
      (p + size ≤ n ∧ e = .returned (cutV a cap p size) ∧ Rd w' g (.slice a n cap) (p + size) ∧ w.grownBy w' (some g)) ∨
      (n < p + size ∧ e = .panicked (fault 8) ∧ w.grownBy w' (some g)) := by
  have c0 : w.cell? ⟨g, 0, none⟩ = some (.slice a n cap) := by rw [cell_of_row _ _ _ _ _ _ h]; rfl
  have c1 : w.cell? ⟨g, 1, none⟩ = some (.int .i64 p) := by rw [cell_of_row _ _ _ _ _ _ h]; rfl
  have f0 := frozen_of_row w g 0 _ _ h
  have f1 := frozen_of_row w g 1 _ _ h
  by_cases hlt : n < p + size
  · have hlt' : (n : Int) - (p : Int) < (size : Int) := by omega
    go_enter Try.func60, Try.ntmps60
    go_wp2
    go_region
    go_wp2_with (go_at_call 37; refine (fail_any 8 _).mono ?_; rintro e w1 ⟨rfl, rfl⟩)
    refine bp_panic rfl ?_
    exact .inr ⟨hlt, rfl, grown_drew (World.grownBy.refl _ _)⟩
  · have hlt' : (size : Int) ≤ (n : Int) - (p : Int) := by omega
    have HS := Nm.hide (rd_set (q := p + size) h)
    simp only [Int.natCast_add] at HS
    have HL : Hid (p + size ≤ n) := by exact Nat.le_of_not_lt hlt
    have hcell := fun q => (World.cell?_setCell_other w ⟨g, 1, none⟩ ⟨g, 0, none⟩ (.int .i64 q) (by simp))
    clear hlt
    by_cases hcp : cap = p
    · subst hcp
      go_enter Try.func60, Try.ntmps60
      go_wp2
      go_region
      go_wp2
      go_region
      go_wp2
      go_ret
      exact .inl ⟨HL.out, by simp [cutV], HS.out.1, grown_drew (grown_drew HS.out.2)⟩
    · go_enter Try.func60, Try.ntmps60
      go_wp2
      go_region
      go_wp2
      go_region
      go_wp2
      go_ret
      exact .inl ⟨HL.out, by simp [cutV, hcp], HS.out.1, grown_drew (grown_drew HS.out.2)⟩
end Go.Proofs.Ythhagapmcbkeiaa
/- (*reader).number by its contract. -/
namespace Go.Proofs.Ythhagapmcbkeiaa
open Go.RowKit
set_option linter.unusedVariables false

theorem by_drop {l : List UInt8} {p size : Nat} : Nm.bys ((l.drop p).take size) = ((Nm.bys l).drop p).take size := by
  simp [Nm.bys]

/-- What take tells leads to the bytes from the place on. -/
theorem cut_row {w : World} {a : Option Addr} {l : List UInt8} {cap p size : Nat} (h : BySl w (.slice a l.length cap) l) (hp : p + size ≤ l.length) : CRow w (cutV a cap p size) size 1 (Nm.bys ((l.drop p).take size)) := by
  obtain ⟨_, a', cap', e, h1, h2, h3⟩ := h
  simp only [Value.slice.injEq] at e
  obtain ⟨rfl, _, rfl⟩ := e
  have hlen : (Nm.bys ((l.drop p).take size)).length = size * 1 := by rw [Nm.bys_length]; simp; omega
  refine ⟨hlen, ?_⟩
  by_cases hcp : cap = p
  · refine ⟨a, 0, by rw [cutV, if_pos hcp], by omega, by omega, fun h => by omega⟩
  · refine ⟨a.map (fun x => x.add p), cap - p, by rw [cutV, if_neg hcp], by omega, by omega, fun h => ?_⟩
    obtain ⟨b, off, rfl, hc⟩ := h3 (by omega)
    refine ⟨b, off + p, by simp [Nm.addr_add], fun i x hx => ?_⟩
    rw [by_drop, List.getElem?_take] at hx
    split at hx
    · rw [List.getElem?_drop] at hx
      rw [Nat.add_assoc]
      exact hc _ _ hx
    · cases hx

theorem cut_str {w : World} {v : Value} {l : List UInt8} {n : Nat} (h : CRow w v n 1 (Nm.bys l)) : (convert 22 9 v).run Try.prog w = .ok (.string ⟨l.toArray⟩) w := by
  obtain ⟨hl, a, cap, rfl, h1, h2, h3⟩ := h
  rw [Nm.bys_length, Nat.mul_one] at hl
  subst hl
  rcases Nat.eq_zero_or_pos l.length with h0 | hpos
  · have : l = [] := List.length_eq_zero_iff.1 h0
    subst this
    cases a with
    | none => exact (run_convert_bytes_string w 22 9 5 none 0 cap Try.underlying22 Try.underlying5 Try.underlying9).trans rfl
    | some x => exact run_convert_bytes_back w 22 9 5 x cap [] Try.underlying22 Try.underlying5 Try.underlying9 (by intro j hj; simp at hj)
  · obtain ⟨b, off, rfl, hc⟩ := h3 hpos
    refine run_convert_bytes_back w 22 9 5 ⟨b, off, none⟩ cap l Try.underlying22 Try.underlying5 Try.underlying9 ?_
    intro j hj
    rw [Nm.addr_add]
    exact hc j _ (by simp [Nm.bys, hj])

set_option maxRecDepth 100000 in
set_option maxHeartbeats 800000 in
theorem number_any (g : Nat) (a : Option Addr) (l : List UInt8) (cap p size : Nat) (w : World) (h : Rd w g (.slice a l.length cap) p) (hl : BySl w (.slice a l.length cap) l) (hfar : ∀ w', w.grownBy w' (some g) → BySl w' (.slice a l.length cap) l) (hp : p ≤ l.length) (hnn : l.length ≤ 1048576) (hs : size ≤ 6) :
    Calls Try.prog 51 #[.pointer (some ⟨g, 0, none⟩), .int .i64 size] w fun e w' =>
      (p + size ≤ l.length ∧ e = .returned (.int .i64 (numL ((l.drop p).take size))) ∧ Rd w' g (.slice a l.length cap) (p + size) ∧ w.grownBy w' (some g)) ∨
      (l.length < p + size ∧ e = .panicked (fault 8) ∧ w.grownBy w' (some g)) := by
  have hcap : l.length ≤ cap := by
    obtain ⟨_, a', cap', e, h1, _⟩ := hl
    simp only [Value.slice.injEq] at e
    obtain ⟨rfl, _, rfl⟩ := e
    exact h1
  have ht := take_any g a l.length cap p size w h hp hcap hnn (by omega)
  by_cases hlt : p + size ≤ l.length
  · have hcv := fun W (h : w.grownBy W (some g)) => cut_str (cut_row (hfar W h) hlt)
    have hrb := fun W => readBig_any ⟨((l.drop p).take size).toArray⟩ W (by show ((l.drop p).take size).toArray.size ≤ 6; simp; omega)
    generalize hq : cutV a cap p size = q at *
    have hlt2 : ¬ l.length < p + size := by omega
    simp only [hlt, hlt2, true_and, false_and, or_false] at ht
    go_enter Try.func51, Try.ntmps51
    go_wp2_with (first | (go_at_call 60; refine ht.mono ?_; rintro e w1 ⟨rfl, hr1, hg1⟩; have hcv1 := hcv w1 hg1) | (go_at_call 41; refine (hrb _).mono ?_; rintro e w2 ⟨rfl, rfl⟩))
    go_ret
    exact .inl ⟨hlt, rfl, hr1, hg1⟩
  · have hlt2 : l.length < p + size := by omega
    simp only [hlt, hlt2, true_and, false_and, false_or] at ht
    go_enter Try.func51, Try.ntmps51
    go_wp2_with (go_at_call 60; refine ht.mono ?_; rintro e w1 ⟨rfl, hg1⟩)
    refine bp_panic rfl ?_
    exact .inr ⟨hlt2, rfl, hg1⟩
end Go.Proofs.Ythhagapmcbkeiaa
/- (*reader).name by its contract. -/
namespace Go.Proofs.Ythhagapmcbkeiaa
open Go.RowKit
set_option linter.unusedVariables false

theorem Try.infoRd : (Try.prog.info? 5).map (fun i => (i.zero, i.size, i.bytes)) = some (some (.int .u8 0), 1, 1) := by kernel_rfl

theorem gr_step {w w1 w2 : World} {g : Nat} (h : w.grownBy w1 (some g)) (h2 : w1.grownBy w2 (some g)) : w.grownBy w2 (some g) :=
  ⟨h2.os.trans h.os, h2.tape.trans h.tape, h2.output.trans h.output, Nat.le_trans h.size h2.size, fun k hk hne => (h2.block k (Nat.lt_of_lt_of_le hk h.size) hne).trans (h.block k hk hne)⟩

theorem gr_own {w w1 w2 : World} {g : Nat} {row : Option Nat} (h : w.grownBy w1 (some g)) (h2 : w1.grownBy w2 row) (hr : ∀ k, row = some k → w.heap.size ≤ k) : w.grownBy w2 (some g) :=
  ⟨h2.os.trans h.os, h2.tape.trans h.tape, h2.output.trans h.output, Nat.le_trans h.size h2.size, fun k hk hne =>
    (h2.block k (Nat.lt_of_lt_of_le hk h.size) (fun e => by have := hr k e.symm; omega)).trans (h.block k hk hne)⟩

theorem gr_below {w w1 w2 : World} {g : Nat} (h : w.grownBy w1 (some g)) (h2 : Below w1.heap.size w1 w2) : w.grownBy w2 (some g) :=
  ⟨h2.os.trans h.os, h2.tape.trans h.tape, h2.output.trans h.output, Nat.le_trans h.size h2.size, fun k hk hne =>
    (h2.block k (Nat.lt_of_lt_of_le hk h.size)).trans (h.block k hk hne)⟩

theorem rd_lt {w : World} {g p : Nat} {v : Value} (h : Rd w g v p) : g < w.heap.size := (Array.getElem?_eq_some_iff.1 h).1

theorem rd_below {w w1 : World} {g p : Nat} {v : Value} (h : Rd w g v p) (hb : Below w.heap.size w w1) : Rd w1 g v p := by
  unfold Rd
  rw [hb.block g (rd_lt h)]; exact h

theorem rd_grown {w w1 : World} {g p : Nat} {v : Value} {row : Option Nat} (h : Rd w g v p) (hg : w.grownBy w1 row) (hr : row ≠ some g) : Rd w1 g v p := by
  unfold Rd
  rw [hg.block g (rd_lt h) (fun e => hr e.symm)]; exact h

/-- A row of the call's own is not a reader's block: its elements are of another type. -/
theorem row_rd {w : World} {B e m g p : Nat} {v V : Value} {xs : List Value} (h : w.ownsRow B e 1 v m xs) (hs : Rd w g V p) (hne : e ≠ 64) : v.ownBlock = none ∨ v.ownBlock ≠ some g := by
  rcases h.2 with ⟨rfl, _⟩ | ⟨g', cap', cur, rfl, _, hh, _⟩
  · exact .inl rfl
  · right
    simp only [Value.ownBlock, ne_eq, Option.some.injEq]
    intro e2
    subst e2
    unfold Rd at hs
    rw [hh] at hs
    simp at hs
    exact hne hs.2

theorem row_rd' {w : World} {B e m g p : Nat} {v V : Value} {xs : List Value} (h : w.ownsRow B e 1 v m xs) (hs : Rd w g V p) (hne : e ≠ 64) : v.ownBlock ≠ some g := by
  rcases row_rd h hs hne with h | h
  · rw [h]; simp
  · exact h

/-- How far a name has been read: the row 'vo' holds 'acc', the reader that walks lies in gw, the first one (in g) behind the first pointer. -/
structure NSt (w wr : World) (g gw : Nat) (V : Value) (n : Nat) (vo : Value) (acc : List UInt8) (nx : Option Nat) (pos : Nat) : Prop where
  own : wr.ownsRow w.heap.size 5 1 vo acc.length (Nm.bys acc)
  rd : Rd wr gw V pos
  le : pos ≤ n
  ptr : (nx = none ∧ gw = g) ∨ ∃ x, nx = some x ∧ x ≤ n ∧ Rd wr g V x ∧ w.heap.size ≤ gw
  grown : w.grownBy wr (some g)
  lt : g < w.heap.size

section
variable {w wr w1 : World} {g gw n pos pos1 : Nat} {V vo vo1 : Value} {acc acc1 : List UInt8} {nx : Option Nat}

theorem NSt.far (h : NSt w wr g gw V n vo acc nx pos) (hg : wr.grownBy w1 (some gw)) : w.grownBy w1 (some g) := by
  rcases h.ptr with ⟨_, rfl⟩ | ⟨x, _, _, _, hge⟩
  · exact gr_step h.grown hg
  · exact gr_own h.grown hg (fun k hk => by simp at hk; omega)

theorem NSt.read (h : NSt w wr g gw V n vo acc nx pos) (hg : wr.grownBy w1 (some gw)) (hr : Rd w1 gw V pos1) (hle : pos1 ≤ n) : NSt w w1 g gw V n vo acc nx pos1 := by
  refine ⟨h.own.kept hg (row_rd h.own h.rd (by decide)), hr, hle, ?_, h.far hg, h.lt⟩
  rcases h.ptr with hp | ⟨x, hx, hxn, hrx, hge⟩
  · exact .inl hp
  · refine .inr ⟨x, hx, hxn, rd_grown hrx hg ?_, hge⟩
    have := h.lt
    simp; omega

theorem NSt.app (h : NSt w wr g gw V n vo acc nx pos) (hg : wr.grownBy w1 vo.ownBlock) (ho : w1.ownsRow w.heap.size 5 1 vo1 acc1.length (Nm.bys acc1)) : NSt w w1 g gw V n vo1 acc1 nx pos := by
  refine ⟨ho, rd_grown h.rd hg (row_rd' h.own h.rd (by decide)), h.le, ?_, gr_own h.grown hg (fun k hk => (h.own.lt k hk).1), h.lt⟩
  rcases h.ptr with hp | ⟨x, hx, hxn, hrx, hge⟩
  · exact .inl hp
  · exact .inr ⟨x, hx, hxn, rd_grown hrx hg (row_rd' h.own hrx (by decide)), hge⟩

theorem NSt.alloc (h : NSt w wr g gw V n vo acc nx pos) (o : Obj) : NSt w (wr.alloc o) g gw V n vo acc nx pos := by
  have hb : Below wr.heap.size wr (wr.alloc o) := (Below.refl _ _).alloc (Nat.le_refl _) o
  refine ⟨h.own.alloc _, rd_below h.rd hb, h.le, ?_, gr_below h.grown hb, h.lt⟩
  rcases h.ptr with hp | ⟨x, hx, hxn, hrx, hge⟩
  · exact .inl hp
  · exact .inr ⟨x, hx, hxn, rd_below hrx hb, hge⟩

theorem NSt.lead (h : NSt w wr g gw V n vo acc nx pos) {tq : Nat} (hto : tq ≤ n) :
    NSt w (wr.alloc (.cells #[V, .int .i64 (tq : Int)] 64)) g wr.heap.size V n vo acc (some (nx.getD pos)) tq := by
  have hb : Below wr.heap.size wr (wr.alloc (.cells #[V, .int .i64 (tq : Int)] 64)) := (Below.refl _ _).alloc (Nat.le_refl _) _
  refine ⟨h.own.alloc _, ?_, hto, ?_, gr_below h.grown hb, h.lt⟩
  · unfold Rd; show (wr.heap.push _)[wr.heap.size]? = _; simp
  · rcases h.ptr with ⟨rfl, rfl⟩ | ⟨x, rfl, hxn, hrx, hge⟩
    · exact .inr ⟨pos, rfl, h.le, rd_below h.rd hb, h.grown.size⟩
    · exact .inr ⟨x, rfl, hxn, rd_below hrx hb, h.grown.size⟩

theorem NSt.done (h : NSt w wr g gw V n vo acc nx pos) : Rd wr g V (nx.getD pos) ∧ nx.getD pos ≤ n := by
  rcases h.ptr with ⟨rfl, rfl⟩ | ⟨x, rfl, hxn, hrx, hge⟩
  · exact ⟨h.rd, h.le⟩
  · exact ⟨hrx, hxn⟩
end

/-- A slice's length. -/
def slLen : Value → Nat
  | .slice _ n _ => n
  | _ => 0

theorem own_len {w : World} {B e n : Nat} {v : Value} {xs : List Value} (h : w.ownsRow B e 1 v n xs) : slLen v = n := by
  rcases h.2 with ⟨rfl, rfl⟩ | ⟨g', cap', cur, rfl, _⟩ <;> rfl

theorem num_one {l : List UInt8} {p : Nat} (h : p < l.length) : numL ((l.drop p).take 1) = byAt l p := by
  rw [List.drop_eq_getElem_cons h, List.take_succ_cons, List.take_zero, numL, byAt, List.getD_eq_getElem?_getD, List.getElem?_eq_getElem h]
  simp

theorem take_more {l : List UInt8} {p k : Nat} (h : p < l.length) : (l.drop p).take (1 + k) = UInt8.ofNat (byAt l p) :: (l.drop (p + 1)).take k := by
  rw [List.drop_eq_getElem_cons h, Nat.add_comm, List.take_succ_cons, byAt, List.getD_eq_getElem?_getD, List.getElem?_eq_getElem h]
  simp

end Go.Proofs.Ythhagapmcbkeiaa
