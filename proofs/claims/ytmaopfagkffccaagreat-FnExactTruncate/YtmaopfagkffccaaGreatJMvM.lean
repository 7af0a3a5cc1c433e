import Derived.Test.YtmaopfagkffccaaGreatJCrI
import Derived.Test.YtmaopfagkffccaaGreatJPartsM
import Derived.Test.YtmaopfagkffccaaGreatRows
import Derived.WalkSpells
import Derived.WalkLawsBesides
import Derived.Deep.RegionHeld
import Derived.Laws.AppendOwn
import Derived.Deep.RegionHeld3
import Derived.Deep.RegionLaw
import Derived.Test.YtmaopfagkffccaaGreatJMath
import Derived.Test.YtmaopfagkffccaaGreatJDataM
import Derived.RegionTactic
import Derived.BigRegion
/- Valid messages: mathematics. -/
namespace Go.Proofs.YtmaopfagkffccaaGreat
open Go.RowKit
set_option linter.unusedVariables false

def hdOK (h : Hr) : Bool := inB h.id 65535 && inB h.op 15 && inB h.code 15
def quOK (q : Qr) : Bool := (Nm.split q.nm).isSome && inB q.ty 65535 && inB q.cl 65535
def mgOK (m : Mg) : Bool := decide (m.qs.length + m.an.length + m.au.length + m.ex.length ≤ 400) && hdOK m.hd && m.qs.all quOK && m.an.all rcOK && m.au.all rcOK && m.ex.all rcOK
end Go.Proofs.YtmaopfagkffccaaGreat
/- Messages that are not too great. -/
namespace Go.Proofs.YtmaopfagkffccaaGreat
open Go.RowKit

def MSmall (m : Mg) : Prop := (∀ r ∈ m.qs, r.nm.size ≤ 1048576) ∧ (∀ r ∈ m.an, r.own.size ≤ 1048576 ∧ r.da.size ≤ 1048576) ∧ (∀ r ∈ m.au, r.own.size ≤ 1048576 ∧ r.da.size ≤ 1048576) ∧ (∀ r ∈ m.ex, r.own.size ≤ 1048576 ∧ r.da.size ≤ 1048576) ∧ m.qs.length ≤ 1048576 ∧ m.an.length ≤ 1048576 ∧ m.au.length ≤ 1048576 ∧ m.ex.length ≤ 1048576
end Go.Proofs.YtmaopfagkffccaaGreat
/- Words that are joined. -/
namespace Go.Proofs.YtmaopfagkffccaaGreat
open Go.RowKit

theorem wrap_pos (n : Nat) (h : n < 9223372036854775808) : IntKind.i64.wrap (n : Int) = (n : Int) := by
  have e : (n : Int) % 2 ^ 64 = n := Int.emod_eq_of_lt (by omega) (by omega)
  simp only [IntKind.wrap, IntKind.bits, IntKind.signed, e]
  rw [if_neg]
  simp
  omega

theorem i64_or_nat (a b : Nat) (ha : a < 9223372036854775808) (hb : b < 9223372036854775808) : bits .or .i64 (a : Int) (b : Int) = ((a ||| b : Nat) : Int) := by
  have hx : a ||| b < 2 ^ 63 := Nat.or_lt_two_pow (by omega) (by omega)
  show IntKind.i64.wrap ((BitVec.ofInt 64 (a : Int) ||| BitVec.ofInt 64 (b : Int)).toNat : Int) = _
  rw [BitVec.toNat_or, ofInt_u64 a (by omega), ofInt_u64 b (by omega)]
  exact wrap_pos _ (by omega)

theorem or_join (i a b : Nat) (h : b < 2 ^ i) (ha : 2 ^ i * a + b < 9223372036854775808) : bits .or .i64 ((2 ^ i * a : Nat) : Int) (b : Int) = ((2 ^ i * a + b : Nat) : Int) := by
  rw [i64_or_nat _ _ (by omega) (by omega), ← Nat.two_pow_add_eq_or_of_lt h]
end Go.Proofs.YtmaopfagkffccaaGreat
/- A region whose last operation, a store, may break what is held: everything else waits for nothing of it. -/
namespace Go.Proofs.YtmaopfagkffccaaGreat
open Go

section
variable {P : Program} {ops : Array Oper} {Q : Exit → Act → World → Prop} {md : Region.Mode} {S : World → Prop} {L : Nat}

/-- Whatever order is picked from here on, and S holds behind every operation but number L. -/
def wpAnyL (P : Program) (md : Region.Mode) (ops : Array Oper) (Q : Exit → Act → World → Prop) (S : World → Prop) (L : Nat) : Nat → Array Bool → Act → World → Prop
  | 0, listed, a, w => Region.ready md ops listed = [] ∧ Q .normal a w
  | fuel + 1, listed, a, w =>
    (Region.ready md ops listed = [] → Q .normal a w) ∧
    ∀ i ∈ Region.ready md ops listed, wpOp P ops Q i (fun a' w' => (i = L ∨ S w') ∧ wpAnyL P md ops Q S L fuel (listed.setIfInBounds i true) a' w') a w

theorem wpAny_of_last : ∀ (fuel : Nat) (listed : Array Bool) (a : Act) (w : World), wpAnyL P md ops Q S L fuel listed a w → wpAny P md ops Q fuel listed a w
  | 0, _, _, _, h => h
  | fuel + 1, _, _, _, h => ⟨h.1, fun i hi => wpOp_mono (fun a' w' h' => wpAny_of_last fuel _ a' w' h'.2) (h.2 i hi)⟩

/-- Number L waits for number i. -/
def waitsFor (md : Region.Mode) (ops : Array Oper) (L i : Nat) : Bool := match ops[L]? with
  | some o => o.after.any (fun e => Region.binds md e && e.on == i)
  | none => true

/-- Of two that may come up neither waits for the other. -/
theorem ready_free {listed : Array Bool} {i j : Nat} {oj : Oper} (hi : i ∈ Region.ready md ops listed) (hj : j ∈ Region.ready md ops listed) (ho : ops[j]? = some oj) : ∀ e ∈ oj.after, Region.binds md e = true → e.on ≠ i := by
  rintro e he hb rfl
  obtain ⟨_, o, ho2, hall⟩ := mem_ready.1 hj
  obtain rfl : oj = o := Option.some.inj (ho.symm.trans ho2)
  have h1 := hall e he hb
  have h0 := (mem_ready.1 hi).1
  rw [Array.getD_eq_getD_getElem?] at h0 h1
  cases hx : listed[e.on]? with
  | none => rw [hx] at h1; cases h1
  | some b => rw [hx] at h0 h1; simp only [Option.getD_some] at h0 h1; rw [h0] at h1; cases h1

/-- So number L does not come up ahead of what it waits for. -/
theorem last_waits {listed : Array Bool} {i j : Nat} (hL : waitsFor md ops L i = true) (hi : i ∈ Region.ready md ops listed) (hj : j ∈ Region.ready md ops listed) : j ≠ L := by
  rintro rfl
  obtain ⟨_, o, ho, _⟩ := mem_ready.1 hj
  rw [waitsFor, ho] at hL
  simp only [Array.any_eq_true', Bool.and_eq_true, beq_iff_eq] at hL
  obtain ⟨e, he, hb, h⟩ := hL
  exact ready_free hi hj ho e he hb h

/-- What nobody touches that may come ahead of it. -/
def Untouched (md : Region.Mode) (ops : Array Oper) (oi : Oper) (i : Nat) (listed : Array Bool) : Prop := ∀ j oj, ops[j]? = some oj → j ≠ i → listed.getD j true = false → (∀ e ∈ oj.after, Region.binds md e = true → e.on ≠ i) → oi.apart ops oj = true

theorem Untouched.more {oi : Oper} {i j : Nat} {listed : Array Bool} (h : Untouched md ops oi i listed) (hj : listed.getD j true = false) : Untouched md ops oi i (listed.setIfInBounds j true) := by
  intro k ok hk hki hun
  refine h k ok hk hki ?_
  rcases Nat.decEq j k with hne | rfl
  · rw [getD_set_ne true hne] at hun; exact hun
  · exact hj

theorem wpAnyL_first {i : Nat} {oi : Oper} {v : Value} (hi : ops[i]? = some oi) (hsel : ∀ (j : Nat) (o : Oper) cs b, ops[j]? = some o → o.op ≠ .select cs b)
    (hQ : ∀ c a w, Q (.panic c) (a.put oi.dst v) w → Q (.panic c) a w) (hL : waitsFor md ops L i = true) (fuel : Nat) :
    ∀ (listed : Array Bool) (a : Act) (w : World), Untouched md ops oi i listed → i ∈ Region.ready md ops listed → YieldsIf P ops S oi v a → S w →
      wpAnyL P md ops Q S L fuel (listed.setIfInBounds i true) (a.put oi.dst v) w → wpAnyL P md ops Q S L (fuel + 1) listed a w := by
  induction fuel with
  | zero =>
    intro listed a w _ hr hy hS H
    refine ⟨fun h => absurd (h ▸ hr) (by simp), fun j hj => ?_⟩
    rcases Nat.decEq j i with hne | rfl
    · exact absurd (H.1 ▸ ready_mono hj hne) (by simp)
    · exact hy.wpOp hi hS ⟨.inr hS, H⟩
  | succ fuel ih =>
    intro listed a w hun hr hy hS H
    refine ⟨fun h => absurd (h ▸ hr) (by simp), fun j hj => ?_⟩
    rcases Nat.decEq j i with hne | rfl
    · obtain ⟨hju, oj, hoj, _⟩ := mem_ready.1 hj
      have hstep := wpOp_putIf hoj (hun j oj hoj hne hju (ready_free hr hj hoj)) (fun cs b => hsel i oi cs b hi) (fun cs b => hsel j oj cs b hoj) hQ hy (H.2 j (ready_mono hj hne))
      refine wpOp_mono (fun a' w' ⟨hy', hS', hW⟩ => ?_) hstep
      have hSw := hS'.resolve_left (last_waits hL hr hj)
      exact ⟨.inr hSw, ih _ a' w' (hun.more hju) (ready_mono hr (Ne.symm hne)) hy' hSw (by rw [Array.setIfInBounds_comm _ _ hne]; exact hW)⟩
    · exact hy.wpOp hi hS ⟨.inr hS, H⟩

/-- Take number i first. -/
theorem wpAnyL_take {i : Nat} {oi : Oper} {v : Value} {fuel : Nat} {listed : Array Bool} {a : Act} {w : World} (hi : ops[i]? = some oi)
    (hs : Region.noSelect ops = true) (hf : Region.free md ops listed i = true) (hr : (Region.ready md ops listed).contains i = true) (hL : waitsFor md ops L i = true)
    (hQ : ∀ c a w, Q (.panic c) (a.put oi.dst v) w → Q (.panic c) a w) (hy : YieldsIf P ops S oi v a) (hS : S w)
    (h : wpAnyL P md ops Q S L fuel (listed.setIfInBounds i true) (a.put oi.dst v) w) : wpAnyL P md ops Q S L (fuel + 1) listed a w :=
  wpAnyL_first hi (Region.noSelect_spec hs) hQ hL fuel listed a w (Region.free_spec hi hf) (by simpa using hr) hy hS h

/-- Just one may come up, and it is not number L. -/
theorem wpAnyL_one {i : Nat} {o : Oper} {fuel : Nat} {listed : Array Bool} {a : Act} {w : World} (hr : Region.ready md ops listed = [i]) (ho : ops[i]? = some o)
    (h : ∀ K' : Act → World → Prop, Shut (∀ a w, S w → (S w → wpAnyL P md ops Q S L fuel (listed.setIfInBounds i true) a w) → K' a w) → if Region.wanted o (yielded ops a.tmps) = true then Oper.wp P o a w K' Q else K' (a.put o.dst undef) w) :
    wpAnyL P md ops Q S L (fuel + 1) listed a w := by
  refine ⟨fun h0 => (by rw [hr] at h0; cases h0), fun j hj => ?_⟩
  rw [hr] at hj
  obtain rfl : j = i := by simpa using hj
  exact wpOp_step ho (fun K' hK => h K' (fun a w hS hW => hK a w ⟨.inr hS, hW hS⟩))

/-- Number L comes up, the last of all. -/
theorem wpAnyL_end {o : Oper} {fuel : Nat} {listed : Array Bool} {a : Act} {w : World} (hr : Region.ready md ops listed = [L]) (ho : ops[L]? = some o) (he : Region.ready md ops (listed.setIfInBounds L true) = [])
    (h : ∀ K' : Act → World → Prop, Shut (∀ a w, Q .normal a w → K' a w) → if Region.wanted o (yielded ops a.tmps) = true then Oper.wp P o a w K' Q else K' (a.put o.dst undef) w) :
    wpAnyL P md ops Q S L (fuel + 1) listed a w := by
  refine ⟨fun h0 => (by rw [hr] at h0; cases h0), fun j hj => ?_⟩
  rw [hr] at hj
  obtain rfl : j = L := by simpa using hj
  refine wpOp_step ho (fun K' hK => h K' (fun a w hq => hK a w ⟨.inl rfl, ?_⟩))
  cases fuel with
  | zero => exact ⟨he, hq⟩
  | succ n => exact ⟨fun _ => hq, by rw [he]; intro i hi; cases hi⟩

theorem wp_region_last {id : Nat} {a : Act} {w : World} (S : World → Prop) (L : Nat) (hm : P.follows .mixedOrders = true) (hS : S w.drew)
    (h : S w.drew → wpAnyL P .any ops Q S L ops.size (Array.replicate ops.size false) a w.drew) : (Code.region id ops true).wp P Q a w :=
  wp_region_any hm (wpAny_of_last _ _ _ _ (h hS))
end
end Go.Proofs.YtmaopfagkffccaaGreat
/- A step of a drawn region: append onto a row of one's own. -/
namespace Go.Proofs.YtmaopfagkffccaaGreat
open Go
set_option linter.unusedVariables false

theorem step_append_own {P : Program} {ops : Array Oper} {o : Oper} {a : Act} {w : World} {K : Act → World → Prop} {Q : Exit → Act → World → Prop} {E : Prop} (hgd : o.guard = none) (s x : Operand) (t : TypeId)
    (ho : o.op = .call { callee := .builtin .append, args := #[s, x], argTypes := #[t, t] })
    (base : Nat) (e : TypeId) (i : TypeInfo) (z : Value) (size bytes : Nat) (ht : P.underlying t = some (.slice e)) (hi : P.info? e = some i) (hz : i.zero = some z)
    (hsize : i.size = size) (hby : i.bytes = bytes) (hzs : z.cells.size = size) (hsz : 0 < size)
    (v : Value) (n : Nat) (xs : List Value) (hs : a.eval s = v) (hown : w.ownsRow base e size v n xs)
    (ad : Addr) (m c : Nat) (news : List Value) (hx : a.eval x = .slice (some ad) m c) (hl : news.length = m * size) (hnews : ∀ j u, news[j]? = some u → w.cell? (ad.add j) = some u) (h1 : ∀ u ∈ news, u.oneCell' = true)
    (h63 : n + m ≤ maxLen) (hbytes : (n + m) * bytes ≤ 140737488355328) (hbase : base ≤ w.heap.size)
    (h : ∀ v' w', w'.ownsRow base e size v' (n + m) (xs ++ news) → w.grownBy w' v.ownBlock → (v' = .slice none 0 0 ↔ v = .slice none 0 0 ∧ m = 0) → K (a.put o.dst v') w') :
    if Region.wanted o (yielded ops a.tmps) = true then Oper.wp P o a w K Q else E := by
  have hw : Region.wanted o (yielded ops a.tmps) = true := by simp [Region.wanted, hgd]
  rw [if_pos hw]
  exact wp_append_own w s x t ho base e i z size bytes ht hi hz hsize hby hzs hsz v n xs hs hown ad m c news hx hl hnews h1 h63 hbytes hbase h

end Go.Proofs.YtmaopfagkffccaaGreat
/- The model's writer; spec.l04Text by its contract. -/
namespace Go.Proofs.YtmaopfagkffccaaGreat
open Go.RowKit
set_option linter.unusedVariables false

def plV (p : ByteArray × Nat) : List Value := [.string p.1, .int .i64 (p.2 : Int)]
def plVs (l : List (ByteArray × Nat)) : List Value := l.flatMap plV
theorem plVs_app (a b : List (ByteArray × Nat)) : plVs (a ++ b) = plVs a ++ plVs b := by simp [plVs]

/-- The model's writer lies in block g. -/
structure SW (w : World) (g B : Nat) (bs : List UInt8) (pls : List (ByteArray × Nat)) (vb vp : Value) : Prop where
  blk : Blk w g #[vb, vp] 98
  rb : w.ownsRow B 5 1 vb bs.length (Nm.bys bs)
  rp : w.ownsRow B 129 2 vp pls.length (plVs pls)
  bg : B ≤ g
theorem SW.below {w W : World} {g B : Nat} {bs : List UInt8} {pls : List (ByteArray × Nat)} {vb vp : Value} (h : SW w g B bs pls vb vp) (hb : Below w.heap.size w W) : SW W g B bs pls vb vp := ⟨blk_below h.blk hb, own_below h.rb hb, own_below h.rp hb, h.bg⟩

theorem own_blk {W : World} {B e s m b : Nat} {v : Value} {xs : List Value} {cs : Array Value} {T : TypeId} (h : W.ownsRow B e s v m xs) (hb : Blk W b cs T) (hne : e ≠ T) : v.ownBlock ≠ some b := by
  rcases h.2 with ⟨rfl, _⟩ | ⟨g', cap', cur, rfl, _, hh, _⟩
  · simp [Value.ownBlock]
  · simp only [Value.ownBlock, ne_eq, Option.some.injEq]
    intro e2
    subst e2
    unfold Blk at hb
    rw [hh] at hb
    simp at hb
    exact hne hb.2
theorem own_beside {W W1 : World} {B e s m : Nat} {v u : Value} {xs : List Value} (h : W.ownsRow B e s v m xs) (hg : W.grownBy W1 u.ownBlock) (ha : ∀ g, u.ownBlock = some g → v.ownBlock ≠ some g) : W1.ownsRow B e s v m xs := by
  refine h.kept hg ?_
  cases hu : u.ownBlock with
  | none =>
    cases hv : v.ownBlock with
    | none => exact .inl rfl
    | some k => right; simp
  | some k => right; exact ha k hu
theorem own_kinds {W : World} {B e s m B' e' s' m' : Nat} {v u : Value} {xs ys : List Value} (h : W.ownsRow B e s v m xs) (h' : W.ownsRow B' e' s' u m' ys) (hne : e ≠ e') : ∀ g, u.ownBlock = some g → v.ownBlock ≠ some g := by
  intro g hg
  rcases h'.2 with ⟨rfl, _⟩ | ⟨g', cap', cur', rfl, r⟩
  · cases hg
  · simp only [Value.ownBlock, Option.some.injEq] at hg
    subst hg
    exact own_ne h ⟨h'.1, .inr ⟨g', cap', cur', rfl, r⟩⟩ hne

/-- Below B, and of other types than the writer's own nothing is changed. -/
structure Bk (B : Nat) (w w' : World) : Prop where
  be : Below B w w'
  kp : ∀ k cs T, Blk w k cs T → T ≠ 5 → T ≠ 129 → T ≠ 98 → Blk w' k cs T
theorem Bk.refl (B : Nat) (w : World) : Bk B w w := ⟨Below.refl _ _, fun _ _ _ h _ _ _ => h⟩
theorem Bk.trans {B : Nat} {a b c : World} (h : Bk B a b) (k : Bk B b c) : Bk B a c := ⟨h.be.trans k.be, fun i cs T hb h1 h2 h3 => k.kp i cs T (h.kp i cs T hb h1 h2 h3) h1 h2 h3⟩
theorem Bk.of {B : Nat} {w w' : World} (h : Below w.heap.size w w') (hB : B ≤ w.heap.size) : Bk B w w' := ⟨h.mono hB, fun i cs T hb _ _ _ => blk_below hb h⟩
theorem Bk.app {B e s n : Nat} {w W W1 : World} {v : Value} {xs : List Value} (h : Bk B w W) (ho : W.ownsRow B e s v n xs) (hg : W.grownBy W1 v.ownBlock) (hB : B ≤ W.heap.size) (he : e = 5 ∨ e = 129) : Bk B w W1 := by
  refine ⟨h.be.grown hg hB (fun q hq => (ho.lt q hq).1), fun i cs T hb h1 h2 h3 => ?_⟩
  have hb' := h.kp i cs T hb h1 h2 h3
  refine blk_grown hb' hg (fun e => own_blk ho hb' ?_ e)
  rcases he with rfl | rfl
  · exact Ne.symm h1
  · exact Ne.symm h2
theorem Bk.set {B g : Nat} {w W : World} {cs : Array Value} (h : Bk B w W) (hb : Blk W g cs 98) (hg : B ≤ g) (i : Nat) (v : Value) : Bk B w (W.setCell ⟨g, i, none⟩ v) := by
  refine ⟨h.be.setCell hg _, fun k c T hk h1 h2 h3 => ?_⟩
  have hk' := h.kp k c T hk h1 h2 h3
  refine blk_far hk' (fun e => ?_)
  subst e
  unfold Blk at hk' hb
  rw [hb] at hk'
  simp at hk'
  exact h3 hk'.2.symm

theorem Tryz.infoU8w : (Tryz.prog.info? 5).map (fun i => (i.zero, i.size, i.bytes)) = some (some (.int .u8 0), 1, 1) := by kernel_rfl

theorem byte_in (s : ByteArray) (k : Nat) (hk : k < s.size) (W : World) : (Instr.index 9 (.string s) (.int .i64 (k : Int))).run Tryz.prog W = .ok (.int .u8 (s[k].toNat : Int)) W := by
  rw [run_index_string W 9 s .i64 (k : Int) Tryz.underlying9]
  simp [hk]
theorem cell_newW (w : World) (cs : Array Value) (e : Nat) : ∀ (j : Nat) (u : Value), cs.toList[j]? = some u → (w.alloc (.cells cs e)).cell? ((⟨w.heap.size, 0, none⟩ : Addr).add j) = some u := by
  intro j u h
  rw [Nm.addr_add, Nat.zero_add]
  have : (w.alloc (.cells cs e)).heap[w.heap.size]? = some (.cells cs e (0, 0)) := by show (w.heap.push _)[w.heap.size]? = _; simp
  rw [cell_of_row _ _ _ _ _ _ this]
  simpa using h

set_option maxRecDepth 100000 in
set_option maxHeartbeats 3200000 in
theorem l04Text_any (s : ByteArray) (g B : Nat) (bs : List UInt8) (pls : List (ByteArray × Nat)) (vb vp : Value) (w : World) (h : SW w g B bs pls vb vp) (hB : B ≤ w.heap.size) (hl : bs.length + s.size ≤ 100000000) :
    Calls Tryz.prog 57 #[.pointer (some ⟨g, 0, none⟩), .string s] w fun e w' => e = .returned (.tuple #[]) ∧ ∃ vb', SW w' g B (bs ++ s.data.toList) pls vb' vp ∧ Bk B w w' := by
  obtain ⟨i0, hi, hz0, hz1, hz2⟩ := info_parts Tryz.infoU8w
  have hsz : s.data.toList.length = s.size := by simp
  have hbyte := fun k hk W => byte_in s k hk W
  go_enter Tryz.func57, Tryz.ntmps57
  go_wp2
  go_loopw [4] (fun i wr => ∃ (k : Nat) (vb' : Value), k ≤ s.size ∧ i = .int .i64 k ∧ SW wr g B (bs ++ s.data.toList.take k) pls vb' vp ∧ B ≤ wr.heap.size ∧ Bk B w wr) (fun i _ => s.size - (intOf i).toNat)
  case atStart => exact ⟨0, vb, Nat.zero_le _, rfl, by simpa using h, hB, Bk.refl _ _⟩
  case round =>
    obtain ⟨k, vb', hk, rfl, hS, hBw, hbel⟩ := hrel
    clear h hB
    by_cases hlt : k < s.size
    · have hlt' : (k : Int) < (s.size : Int) := by omega
      have hby := hbyte k hlt
      obtain ⟨xa, ya, hv⟩ := own_sl hS.rb
      have hN : (bs ++ s.data.toList.take k).length = bs.length + k := by simp; omega
      rw [hN] at hv
      subst hv
      have hb' := hS.rb
      rw [hN] at hb'
      have HT : Hid (Nm.bys (bs ++ s.data.toList.take k) ++ [.int .u8 (s[k].toNat : Int)] = Nm.bys (bs ++ s.data.toList.take (k + 1))) := by
        show _ = _
        rw [List.take_add_one, Nm.get_data hlt, ← List.append_assoc]
        simp [Nm.bys]
      have HL : Hid (bs.length + k + 1 = (bs ++ s.data.toList.take (k + 1)).length) := by show _ = _; simp; omega
      have c0 : wr.cell? ⟨g, 0, none⟩ = some (.slice xa (bs.length + k) ya) := (blk_cell hS.blk 0).trans rfl
      generalize (s[k].toNat : Int) = cc at *
      clear hbyte
      go_wp2_with fail
      refine wp_region_last (fun W => W.cell? ⟨g, 0, none⟩ = some (.slice xa (bs.length + k) ya)) 12 (by kernel_rfl) c0 (fun hHeld => ?_)
      refine wpAnyL_take (i := 0) (v := ?_) rfl (by kernel_rfl) (by kernel_rfl) (by kernel_rfl) (by kernel_rfl) (fun _ _ _ h => h) (Or.inl ⟨by rfl, ?_⟩) (by assumption) ?_
      rotate_left 1
      · (intro w hSw; go_simp; try (with_reducible rfl))
      refine wpAnyL_take (i := 1) (v := ?_) rfl (by kernel_rfl) (by kernel_rfl) (by kernel_rfl) (by kernel_rfl) (fun _ _ _ h => h) (Or.inl ⟨by rfl, ?_⟩) (by assumption) ?_
      rotate_left 1
      · (intro w hSw; go_simp; try (with_reducible rfl))
      refine wpAnyL_take (i := 2) (v := ?_) rfl (by kernel_rfl) (by kernel_rfl) (by kernel_rfl) (by kernel_rfl) (fun _ _ _ h => h) (Or.inl ⟨by rfl, ?_⟩) (by assumption) ?_
      rotate_left 1
      · (intro w hSw; go_simp; try (with_reducible rfl))
      refine wpAnyL_take (i := 3) (v := ?_) rfl (by kernel_rfl) (by kernel_rfl) (by kernel_rfl) (by kernel_rfl) (fun _ _ _ h => h) (Or.inl ⟨by rfl, ?_⟩) (by assumption) ?_
      rotate_left 1
      · (intro w hSw; go_simp; try (with_reducible rfl))
      refine wpAnyL_take (i := 4) (v := ?_) rfl (by kernel_rfl) (by kernel_rfl) (by kernel_rfl) (by kernel_rfl) (fun _ _ _ h => h) (Or.inl ⟨by rfl, ?_⟩) (by assumption) ?_
      rotate_left 1
      · (intro w hSw; go_simp; try (with_reducible rfl))
      refine wpAnyL_take (i := 5) (v := ?_) rfl (by kernel_rfl) (by kernel_rfl) (by kernel_rfl) (by kernel_rfl) (fun _ _ _ h => h) (Or.inl ⟨by rfl, ?_⟩) (by assumption) ?_
      rotate_left 1
      · (intro w hSw; go_simp; try (with_reducible rfl))
      refine wpAnyL_take (i := 6) (v := ?_) rfl (by kernel_rfl) (by kernel_rfl) (by kernel_rfl) (by kernel_rfl) (fun _ _ _ h => h) (Or.inl ⟨by rfl, ?_⟩) (by assumption) ?_
      rotate_left 1
      · (intro w hSw; go_simp; try (with_reducible rfl))
      refine wpAnyL_take (i := 7) (v := ?_) rfl (by kernel_rfl) (by kernel_rfl) (by kernel_rfl) (by kernel_rfl) (fun _ _ _ h => h) (Or.inl ⟨by rfl, ?_⟩) (by assumption) ?_
      rotate_left 1
      · (intro w hSw; go_simp; try (with_reducible rfl))
      have hSd : SW wr.drew g B (bs ++ s.data.toList.take k) pls (.slice xa (bs.length + k) ya) vp := hS.below (Below.refl _ _).drew
      have hSa := hSd.below ((Below.refl _ _).alloc (Nat.le_refl _) (.cells #[.int .u8 cc] 5))
      refine wpAnyL_one (i := 8) (by kernel_rfl) rfl (fun K hK => ?_)
      go_simp
      refine hK.out _ _ ((blk_cell hSa.blk 0).trans rfl) (fun hH2 => ?_)
      clear hK K
      refine wpAnyL_one (i := 9) (by kernel_rfl) rfl (fun K hK => ?_)
      have hba := hSa.rb
      rw [hN] at hba
      refine step_append_own rfl (.tmp 15) (.tmp 19) 66 rfl B 5 i0 _ 1 1 Tryz.underlying66 hi hz0 hz1 hz2 rfl (by decide) (.slice xa (bs.length + k) ya) (bs.length + k) (Nm.bys (bs ++ s.data.toList.take k)) (by rfl) hba ⟨wr.drew.heap.size, 0, none⟩ 1 1 [.int .u8 cc] (by rfl) rfl (cell_newW _ _ _) (by intro u hu; simp at hu; subst hu; rfl) (by unfold maxLen; omega) (by omega) (by simp; omega) ?_
      intro va wa hown9 hgrow9 hnl9
      clear hnl9
      rw [HT.out] at hown9
      obtain ⟨xb, yb, hvb⟩ := own_sl hown9
      have hblk9 : Blk wa g #[.slice xa (bs.length + k) ya, vp] 98 := blk_grown hSa.blk hgrow9 (fun e => own_blk hba hSa.blk (by decide) e)
      have hrp9 := own_beside hSa.rp hgrow9 (own_kinds hSa.rp hba (by decide))
      have b9 : Bk B w wa := (hbel.trans (Bk.of ((Below.refl wr.heap.size wr).drew.alloc (Nat.le_refl _) _) hBw)).app hba hgrow9 (by simp; omega) (.inl rfl)
      have c9 : wa.cell? ⟨g, 0, none⟩ = some (.slice xa (bs.length + k) ya) := (blk_cell hblk9 0).trans rfl
      have f9 := blk_frozen hblk9 0
      rw [hvb]
      refine hK.out _ _ c9 (fun hH3 => ?_)
      clear hK K
      refine wpAnyL_one (i := 10) (by kernel_rfl) rfl (fun K hK => ?_)
      go_simp
      refine hK.out _ _ c9 (fun hH4 => ?_)
      clear hK K
      refine wpAnyL_take (i := 11) (v := ?_) rfl (by kernel_rfl) (by kernel_rfl) (by kernel_rfl) (by kernel_rfl) (fun _ _ _ h => h) (Or.inl ⟨by rfl, ?_⟩) (by assumption) ?_
      rotate_left 1
      · (intro w hSw; go_simp; try (with_reducible rfl))
      refine wpAnyL_end (by kernel_rfl) rfl (by kernel_rfl) (fun K hK => ?_)
      go_simp
      refine hK.out _ _ ?_
      clear hK K
      rw [hvb] at hown9
      have hS10 : SW (wa.setCell ⟨g, 0, none⟩ (.slice xb (bs.length + k + 1) yb)) g B (bs ++ s.data.toList.take (k + 1)) pls (.slice xb (bs.length + k + 1) yb) vp := ⟨blk_set hblk9 0 _, by rw [← HL.out]; exact own_far hown9 (own_blk hown9 hblk9 (by decide)), own_far hrp9 (own_blk hrp9 hblk9 (by decide)), hS.bg⟩
      have b10 : Bk B w (wa.setCell ⟨g, 0, none⟩ (.slice xb (bs.length + k + 1) yb)) := b9.set hblk9 hS.bg _ _
      have hB10 : B ≤ (wa.setCell ⟨g, 0, none⟩ (.slice xb (bs.length + k + 1) yb)).heap.size := by have := blk_lt hblk9; have := hS.bg; simp; omega
      generalize wa.setCell ⟨g, 0, none⟩ (.slice xb (bs.length + k + 1) yb) = W10 at *
      clear hown9 hgrow9 hblk9 hrp9 b9 c9 f9 hba hSa hSd hS c0
      go_wp2
      go_roundw
      case rel => exact ⟨k + 1, _, by omega, by go_num, hS10, hB10, b10⟩
      case measure => simp [intOf]; omega
    · have hkl : k = s.size := by omega
      subst hkl
      have hlt' : (s.size : Int) ≤ (s.size : Int) := by omega
      rw [List.take_of_length_le (by omega)] at hS
      clear hbyte
      go_wp2
      refine bodyPost_end (v := .tuple #[]) ?_ rfl ⟨rfl, vb', hS, hbel⟩
      simp [results, Tryz.results57, go_sem]
end Go.Proofs.YtmaopfagkffccaaGreat
/- spec.l04Seen by its contract. -/
namespace Go.Proofs.YtmaopfagkffccaaGreat
open Go.RowKit
set_option linter.unusedVariables false

/-- The first place of a rest of a name; -1: there is none. -/
def seenS : List (ByteArray × Nat) → ByteArray → Int
  | [], _ => -1
  | p :: r, t => if p.1 = t then (p.2 : Int) else seenS r t

theorem plVs_at : ∀ (xs : List (ByteArray × Nat)) (k j : Nat) (x : ByteArray × Nat), xs[k]? = some x → j < 2 → (plVs xs)[k * 2 + j]? = (plV x)[j]? := by
  intro xs
  induction xs with
  | nil => intro k j x h; simp at h
  | cons y xs ih =>
    intro k j x h hj
    have e : plVs (y :: xs) = plV y ++ plVs xs := by simp [plVs]
    have hl : (plV y).length = 2 := rfl
    cases k with
    | zero =>
      simp at h; subst h
      rw [e, Nat.zero_mul, Nat.zero_add, List.getElem?_append_left (by omega)]
    | succ k =>
      simp at h
      rw [e, List.getElem?_append_right (by omega), hl, show (k + 1) * 2 + j - 2 = k * 2 + j by omega]
      exact ih k j x h hj

theorem seen_step {xs : List (ByteArray × Nat)} {k : Nat} {x : ByteArray × Nat} (h : xs[k]? = some x) (t : ByteArray) : seenS (xs.drop k) t = if x.1 = t then (x.2 : Int) else seenS (xs.drop (k + 1)) t := by
  obtain ⟨hk, hx⟩ := List.getElem?_eq_some_iff.1 h
  rw [List.drop_eq_getElem_cons hk, hx, seenS]
theorem str_yes {a b : ByteArray} (h : a = b) : (a.toList == b.toList) = true := by simp [h]
theorem str_no {a b : ByteArray} (h : a ≠ b) : (a.toList == b.toList) = false := by
  rw [beq_eq_false_iff_ne]
  intro e
  apply h
  have : a.data.toList = b.data.toList := by rw [← ByteArray.toList_eq, ← ByteArray.toList_eq]; exact e
  exact ByteArray.ext (Array.toList_inj.1 this)

set_option maxRecDepth 100000 in
set_option maxHeartbeats 3200000 in
theorem l04Seen_any (t : ByteArray) (g B : Nat) (bs : List UInt8) (pls : List (ByteArray × Nat)) (vb vp : Value) (w : World) (h : SW w g B bs pls vb vp) (hl : pls.length ≤ 100000000) :
    Calls Tryz.prog 87 #[.pointer (some ⟨g, 0, none⟩), .string t] w fun e w' => e = .returned (.int .i64 (seenS pls t)) ∧ w' = w := by
  obtain ⟨_, pa, pc, hv, hcap, hmx, hc⟩ := CRow.of_owns h.rp
  subst hv
  unfold maxLen at hmx
  have c1 : w.cell? ⟨g, 1, none⟩ = some (.slice pa pls.length pc) := (blk_cell h.blk 1).trans rfl
  obtain ⟨RES, HR0⟩ : ∃ R, Hid (R = seenS (pls.drop 0) t) := ⟨_, rfl⟩
  have hgoal : seenS pls t = RES := by rw [HR0.out]; rfl
  rw [hgoal]
  clear h hgoal
  go_enter Tryz.func87, Tryz.ntmps87
  go_wp2
  go_loop [5] (fun i => ∃ k : Nat, k ≤ pls.length ∧ i = .int .i64 k ∧ Hid (RES = seenS (pls.drop k) t)) (fun i => pls.length - (intOf i).toNat)
  case atStart => exact ⟨0, Nat.zero_le _, rfl, HR0⟩
  case round =>
    obtain ⟨k, hk, rfl, HA⟩ := hrel
    clear HR0
    by_cases hlt : k < pls.length
    · obtain ⟨x, hx⟩ : ∃ x, pls[k]? = some x := ⟨_, List.getElem?_eq_getElem hlt⟩
      obtain ⟨b, off, rfl, hcell⟩ := hc (by omega)
      have d0 := hcell (k * 2) _ ((plVs_at pls k 0 x hx (by decide)).trans rfl)
      have d1 := hcell (k * 2 + 1) _ ((plVs_at pls k 1 x hx (by decide)).trans rfl)
      rw [← Nat.add_assoc] at d1
      have HS := seen_step hx t
      have i1 : (0 : Int) ≤ (k : Int) := by omega
      have i2 : (k : Int) < (pls.length : Int) := by omega
      clear hcell hc hx
      obtain ⟨tl, at'⟩ := x
      simp only at d0 d1 HS
      by_cases he : tl = t
      · have e1 := str_yes he
        obtain rfl : RES = (at' : Int) := by rw [HA.out, HS, if_pos he]
        clear HA HS he
        go_wp2
        go_ret
        exact ⟨rfl, rfl⟩
      · have e1 := str_no he
        have HA2 : Hid (RES = seenS (pls.drop (k + 1)) t) := by show _ = _; rw [HA.out, HS, if_neg he]
        clear HA HS he
        go_wp2
        go_round
        case rel => exact ⟨k + 1, by omega, by go_num, HA2⟩
        case measure => simp [intOf]; omega
    · have hkl : k = pls.length := by omega
      subst hkl
      obtain rfl : RES = -1 := by rw [HA.out, List.drop_length]; rfl
      have i2 : (pls.length : Int) ≤ (pls.length : Int) := by omega
      clear hc HA
      go_wp2
      go_ret
      exact ⟨rfl, rfl⟩
end Go.Proofs.YtmaopfagkffccaaGreat
/- A text cut at every byte of one value: mathematics. -/
namespace Go.Proofs.YtmaopfagkffccaaGreat
open Go.RowKit

/-- A text cut at every byte c: from byte i on, the piece under way began at a. -/
def cutF (s : ByteArray) (c : UInt8) : Nat → Nat → Nat → List ByteArray
  | 0, _, a => [s.extract a s.size]
  | f + 1, i, a => if h : i < s.size then
      (if s[i].toNat = c.toNat then s.extract a i :: cutF s c f (i + 1) (i + 1) else cutF s c f (i + 1) a)
    else [s.extract a s.size]
def cutB (s : ByteArray) (c : UInt8) : List ByteArray := cutF s c s.size 0 0
def CutAt (s : ByteArray) (c : UInt8) (ls : List ByteArray) (i a : Nat) : Prop := cutB s c = ls ++ cutF s c (s.size - i) i a
theorem cut_start (s : ByteArray) (c : UInt8) : CutAt s c [] 0 0 := by simp [CutAt, cutB]
theorem cut_here {s : ByteArray} {c : UInt8} {ls : List ByteArray} {i a : Nat} (h : CutAt s c ls i a) (hi : i < s.size) (e : s[i].toNat = c.toNat) : CutAt s c (ls ++ [s.extract a i]) (i + 1) (i + 1) := by
  rw [CutAt] at h ⊢
  rw [h, show s.size - i = s.size - (i + 1) + 1 by omega, cutF, dif_pos hi, if_pos e]
  simp
theorem cut_on {s : ByteArray} {c : UInt8} {ls : List ByteArray} {i a : Nat} (h : CutAt s c ls i a) (hi : i < s.size) (e : ¬ s[i].toNat = c.toNat) : CutAt s c ls (i + 1) a := by
  rw [CutAt] at h ⊢
  rw [h, show s.size - i = s.size - (i + 1) + 1 by omega, cutF, dif_pos hi, if_neg e]
theorem cut_end {s : ByteArray} {c : UInt8} {ls : List ByteArray} {i a : Nat} (h : CutAt s c ls i a) (hi : s.size ≤ i) : cutB s c = ls ++ [s.extract a s.size] := by
  rw [CutAt, Nat.sub_eq_zero_of_le hi] at h; exact h

end Go.Proofs.YtmaopfagkffccaaGreat
