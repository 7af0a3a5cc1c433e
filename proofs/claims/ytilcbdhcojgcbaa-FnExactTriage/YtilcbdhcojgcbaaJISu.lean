import Derived.Test.YtilcbdhcojgcbaaJICp
import Derived.Test.YtilcbdhcojgcbaaJVfE
import Derived.Test.YtilcbdhcojgcbaaJOrdL
import Derived.Deep.RegionHeld3
import Derived.Test.YtilcbdhcojgcbaaJShK
import Derived.Deep.RegionHeld
import Derived.Test.YtilcbdhcojgcbaaRows
import Derived.Test.YtilcbdhcojgcbaaJMath
import Derived.Deep.AppendSrc
import Derived.Deep.Upon
import Derived.Lib.AppendStr
import Derived.Test.YtilcbdhcojgcbaaJCutM
import Derived.Test.YtilcbdhcojgcbaaJVfK
import Derived.ChangeKeysEq
/- (impl.state).sum by its contract. -/
namespace Go.Proofs.Ytilcbdhcojgcbaa
open Go.RowKit
set_option linter.unusedVariables false

theorem ouA_size (l : List UInt8) (i : Nat) : (ouA l i).size = 32 := by simp [ouA]
theorem big4 (x : Nat) : bigL x 4 = [UInt8.ofNat (x / 2 ^ 24), UInt8.ofNat (x / 2 ^ 16), UInt8.ofNat (x / 2 ^ 8), UInt8.ofNat (x / 2 ^ 0)] := rfl
theorem ouA_four (s : Sv) {k : Nat} (h : k < 8) : spl (ouA (outL s) (4 * k)) (4 * k) (bytesV ⟨(bigL (((svL s)[k]?).getD 0).toNat 4).toArray⟩) = ouA (outL s) (4 * (k + 1)) := by
  have e : ∀ i, i < 4 → ((outL s)[4 * k + i]?).getD 0 = UInt8.ofNat ((((svL s)[k]?).getD 0).toNat / 2 ^ (24 - 8 * i)) := by
    intro i hi
    rw [outL_at s (by omega), show (4 * k + i) / 4 = k by omega, show (4 * k + i) % 4 = i by omega]
  rw [big4]
  show spl _ _ [.int .u8 ((UInt8.ofNat ((((svL s)[k]?).getD 0).toNat / 2 ^ 24)).toNat : Int), .int .u8 ((UInt8.ofNat ((((svL s)[k]?).getD 0).toNat / 2 ^ 16)).toNat : Int), .int .u8 ((UInt8.ofNat ((((svL s)[k]?).getD 0).toNat / 2 ^ 8)).toNat : Int), .int .u8 ((UInt8.ofNat ((((svL s)[k]?).getD 0).toNat / 2 ^ 0)).toNat : Int)] = _
  rw [← e 0 (by omega), ← e 1 (by omega), ← e 2 (by omega), ← e 3 (by omega)]
  simp only [spl, Nat.add_zero]
  rw [ouA_set (by omega), ouA_set (by omega), show 4 * k + 1 + 1 = 4 * k + 2 by omega, ouA_set (by omega), show 4 * k + 2 + 1 = 4 * k + 3 by omega, ouA_set (by omega), show 4 * (k + 1) = 4 * k + 3 + 1 by omega]

end Go.Proofs.Ytilcbdhcojgcbaa
/- impl.Sha256: its end. -/
namespace Go.Proofs.Ytilcbdhcojgcbaa
open Go.RowKit
set_option linter.unusedVariables false

end Go.Proofs.Ytilcbdhcojgcbaa
/- impl.Sha256 by its contract. -/
namespace Go.Proofs.Ytilcbdhcojgcbaa
open Go.RowKit
set_option linter.unusedVariables false

def slLenI : Value → Nat
  | .slice _ k _ => k
  | _ => 0
theorem rep64 : (Array.replicate 64 (Value.int .u8 0)).toList = List.replicate 64 (.int .u8 0) := by simp
theorem bys_one (l : List UInt8) : ∀ v ∈ Nm.bys l, v.oneCell' = true := by
  intro v hv
  simp only [Nm.bys, List.mem_map] at hv
  obtain ⟨c, _, rfl⟩ := hv
  rfl
theorem full_block (l : List UInt8) {n : Nat} (h : 64 * n + 64 ≤ l.length) : (splice (List.replicate 64 (Value.int .u8 0)) 0 (Nm.bys ((l.drop (64 * n)).take 64))).toArray = blA ((padL l).drop (64 * n)) := by
  apply bl_ext
  · simp [splice, Nm.bys]; omega
  · intro j hj
    rw [bW_drop, pad_low l (by omega)]
    have hx : l[64 * n + j]? = some (l[64 * n + j]'(by omega)) := List.getElem?_eq_getElem (by omega)
    have e : (splice (List.replicate 64 (Value.int .u8 0)) 0 (Nm.bys ((l.drop (64 * n)).take 64)))[j]? = (Nm.bys ((l.drop (64 * n)).take 64))[j]? := by
      simp only [splice, List.take_zero, List.nil_append]
      rw [List.getElem?_append_left (by simp [Nm.bys]; omega)]
    rw [e]
    simp only [Nm.bys, List.getElem?_map, List.getElem?_take, hj, if_true, List.getElem?_drop, hx, Option.map_some, bW, b8_nat, Option.getD_some]

theorem sp_at {l : List UInt8} {n : Nat} (h1 : 64 * n ≤ l.length) (h2 : l.length < 64 * n + 64) : (splice (Array.replicate 64 (Value.int .u8 0)).toList 0 (Nm.bys (l.drop (64 * n)))).toArray[l.length - 64 * n]? = some (.int .u8 0) := by
  rw [List.getElem?_toArray]
  simp only [splice, List.take_zero, List.nil_append]
  rw [List.getElem?_append_right (by simp [Nm.bys]), List.getElem?_drop, Array.getElem?_toList, Array.getElem?_replicate, if_pos (by simp [Nm.bys]; omega)]

end Go.Proofs.Ytilcbdhcojgcbaa
/- (impl.block).with by its contract. -/
namespace Go.Proofs.Ytilcbdhcojgcbaa
open Go.RowKit
set_option linter.unusedVariables false

theorem u8_xor (x y : UInt8) : bits .xor .u8 (x.toNat : Int) (y.toNat : Int) = ((x ^^^ y).toNat : Int) := by
  have hx : ∀ z : UInt8, BitVec.ofInt 8 (z.toNat : Int) = z.toBitVec := by
    intro z
    rw [BitVec.ofInt_natCast]
    apply BitVec.eq_of_toNat_eq
    rw [BitVec.toNat_ofNat]
    exact Nat.mod_eq_of_lt z.toNat_lt
  show IntKind.u8.wrap ((BitVec.ofInt 8 (x.toNat : Int) ^^^ BitVec.ofInt 8 (y.toNat : Int)).toNat : Int) = _
  rw [hx, hx]
  have e : ((x.toBitVec ^^^ y.toBitVec).toNat : Int) = ((x ^^^ y).toNat : Int) := rfl
  rw [e]
  have h := (x ^^^ y).toNat_lt
  generalize (x ^^^ y).toNat = n at h ⊢
  simp only [IntKind.wrap, IntKind.bits, IntKind.signed]
  simp
  omega
def xoA (l : List UInt8) (m : UInt8) (i : Nat) : List UInt8 := (l.take i).map (· ^^^ m) ++ l.drop i
theorem xoA_zero (l : List UInt8) (m : UInt8) : xoA l m 0 = l := by simp [xoA]
theorem xoA_all (l : List UInt8) (m : UInt8) : xoA l m l.length = l.map (· ^^^ m) := by simp [xoA]
theorem xoA_len (l : List UInt8) (m : UInt8) (i : Nat) : (xoA l m i).length = l.length := by simp [xoA]; omega
theorem xoA_at {l : List UInt8} {m : UInt8} {i : Nat} (h : i < l.length) : (byA (xoA l m i))[i]? = some (.int .u8 ((l[i]).toNat : Int)) := by
  have e : (xoA l m i)[i]? = some l[i] := by
    rw [xoA, List.getElem?_append_right (by simp; omega)]
    simp [List.getElem?_drop]
    rw [show i + (i - min i l.length) = i by omega]
    exact List.getElem?_eq_getElem h
  simp [byA, e]
theorem xoA_set {l : List UInt8} {m : UInt8} {i : Nat} (h : i < l.length) : (byA (xoA l m i)).setIfInBounds i (.int .u8 ((l[i] ^^^ m).toNat : Int)) = byA (xoA l m (i + 1)) := by
  have e : (xoA l m i).set i (l[i] ^^^ m) = xoA l m (i + 1) := by
    apply List.ext_getElem?
    intro j
    rw [List.getElem?_set]
    by_cases hj : i = j
    · subst hj
      rw [if_pos rfl, if_pos (by rw [xoA_len]; exact h), xoA, List.getElem?_append_left (by simp; omega)]
      simp [h]
    · rw [if_neg hj, xoA, xoA]
      by_cases h1 : j < i
      · rw [List.getElem?_append_left (by simp; omega), List.getElem?_append_left (by simp; omega)]
        simp [h1, show j < i + 1 by omega]
      · rw [List.getElem?_append_right (by simp; omega), List.getElem?_append_right (by simp; omega)]
        simp only [List.getElem?_drop, List.length_map, List.length_take]
        congr 1
        omega
  rw [← e]
  simp [byA, List.map_set]

end Go.Proofs.Ytilcbdhcojgcbaa
/- A region in whatever order, by an invariant over what has come up. -/
namespace Go.Proofs.Ytilcbdhcojgcbaa
open Go

section
variable {P : Program} {ops : Array Oper} {Q : Exit → Act → World → Prop} {md : Region.Mode}

theorem count_set {l : List Bool} {i : Nat} (h : i < l.length) (hf : l[i] = false) : (l.set i true).count false + 1 = l.count false := by
  rw [List.count_set h, hf]
  have : 0 < l.count false := List.count_pos_iff.2 (by rw [← hf]; exact List.getElem_mem h)
  simp
  omega

/-- Every edge leads back. -/
def edgesBack (ops : Array Oper) : Bool := (List.range ops.size).all fun i => match ops[i]? with
  | some o => o.after.all fun e => decide (e.on < i)
  | none => true

theorem edges_back (h : edgesBack ops = true) {i : Nat} {o : Oper} (ho : ops[i]? = some o) {e : _} (he : e ∈ o.after) : e.on < i := by
  have hi : i < ops.size := by
    rcases Nat.lt_or_ge i ops.size with h' | h'
    · exact h'
    · rw [Array.getElem?_eq_none h'] at ho; cases ho
  have h1 := List.all_eq_true.1 h i (List.mem_range.2 hi)
  rw [ho] at h1
  simp only at h1
  have h2 := Array.all_eq_true'.1 h1 e he
  simpa using h2

/-- Where nothing may come up all have come up. -/
theorem all_listed (hb : edgesBack ops = true) {listed : Array Bool} (hs : listed.size = ops.size) (hr : Region.ready md ops listed = []) : ∀ i, i < ops.size → listed.getD i true = true := by
  intro i
  induction i using Nat.strongRecOn with
  | ind i ih =>
    intro hi
    cases hl : listed.getD i true with
    | true => rfl
    | false =>
      exfalso
      obtain ⟨o, ho⟩ : ∃ o, ops[i]? = some o := ⟨_, Array.getElem?_eq_getElem hi⟩
      have : i ∈ Region.ready md ops listed := by
        refine mem_ready.2 ⟨hl, o, ho, fun e he _ => ?_⟩
        have hlt := edges_back hb ho he
        have h1 := ih e.on hlt (by omega)
        rw [Array.getD_eq_getD_getElem?] at h1 ⊢
        rw [Array.getElem?_eq_getElem (by omega)] at h1 ⊢
        simpa using h1
      rw [hr] at this
      cases this

theorem wpAny_inv (Inv : Array Bool → Act → World → Prop)
    (hstep : ∀ listed a w i o, listed.size = ops.size → ops[i]? = some o → listed.getD i true = false → (∀ e ∈ o.after, Region.binds md e = true → listed.getD e.on false = true) → Inv listed a w → wpOp P ops Q i (fun a' w' => Inv (listed.setIfInBounds i true) a' w') a w)
    (hend : ∀ listed a w, listed.size = ops.size → Region.ready md ops listed = [] → Inv listed a w → Q .normal a w) :
    ∀ (fuel : Nat) (listed : Array Bool) (a : Act) (w : World), listed.size = ops.size → listed.toList.count false ≤ fuel → Inv listed a w → wpAny P md ops Q fuel listed a w := by
  intro fuel
  induction fuel with
  | zero =>
    intro listed a w hs hc hI
    have hr : Region.ready md ops listed = [] := by
      apply List.eq_nil_iff_forall_not_mem.2
      intro j hj
      have h1 := (mem_ready.1 hj).1
      have h2 : listed.toList.count false = 0 := by omega
      have h3 := List.count_eq_zero.1 h2
      apply h3
      rw [Array.getD_eq_getD_getElem?] at h1
      rcases Nat.lt_or_ge j listed.size with h' | h'
      · rw [Array.getElem?_eq_getElem h'] at h1
        simp only [Option.getD_some] at h1
        rw [← h1]
        exact Array.getElem_mem_toList h'
      · rw [Array.getElem?_eq_none h'] at h1; cases h1
    exact ⟨hr, hend _ _ _ hs hr hI⟩
  | succ fuel ih =>
    intro listed a w hs hc hI
    refine ⟨fun hr => hend _ _ _ hs hr hI, fun i hi => ?_⟩
    obtain ⟨hu, o, ho, hall⟩ := mem_ready.1 hi
    have hil : i < listed.size := by
      rcases Nat.lt_or_ge i listed.size with h' | h'
      · exact h'
      · rw [Array.getD_eq_getD_getElem?, Array.getElem?_eq_none h'] at hu; cases hu
    have hf : listed.toList[i]'(by simpa using hil) = false := by
      rw [Array.getD_eq_getD_getElem?, Array.getElem?_eq_getElem hil] at hu
      simpa using hu
    refine wpOp_mono (fun a' w' h' => ih _ a' w' (by simpa using hs) ?_ h') (hstep listed a w i o hs ho hu hall hI)
    have := count_set (l := listed.toList) (i := i) (by simpa using hil) hf
    rw [Array.toList_setIfInBounds]
    omega

theorem wp_region_inv {id : Nat} {a : Act} {w : World} (Inv : Array Bool → Act → World → Prop) (hm : P.follows .mixedOrders = true)
    (hstart : Inv (Array.replicate ops.size false) a w.drew)
    (hstep : ∀ listed a w i o, listed.size = ops.size → ops[i]? = some o → listed.getD i true = false → (∀ e ∈ o.after, Region.binds .any e = true → listed.getD e.on false = true) → Inv listed a w → wpOp P ops Q i (fun a' w' => Inv (listed.setIfInBounds i true) a' w') a w)
    (hend : ∀ listed a w, listed.size = ops.size → Region.ready .any ops listed = [] → Inv listed a w → Q .normal a w) : (Code.region id ops true).wp P Q a w :=
  wp_region_any hm (wpAny_inv Inv hstep hend ops.size _ a _ (by simp) (by simp) hstart)
end
end Go.Proofs.Ytilcbdhcojgcbaa
/- A drawn region: two copies of a block that is mixed. -/
namespace Go.Proofs.Ytilcbdhcojgcbaa
open Go.RowKit
set_option linter.unusedVariables false

theorem wp_load_blk {P : Program} {o : Oper} {a : Act} {w : World} {K : Act → World → Prop} {Q : Exit → Act → World → Prop} (p : Operand) (t : TypeId) (ho : o.op = .load t p) (b : Nat) (cs : Array Value) (d : TypeDesc) (hk : Blk w b cs t)
    (hp : a.eval p = .pointer (some ⟨b, 0, none⟩)) (hu : P.underlying t = some d) (hd : (match d with | .struct _ | .array _ _ => true | _ => false) = true) (hi : (P.info? t).map (·.size) = some cs.size)
    (h : K (a.put o.dst (.agg cs)) w) : Oper.wp P o a w K Q := by
  unfold Oper.wp execOp
  simp only [ho, hp, Instr.loadAt, Instr.sureAddr, Sem.run_bind, Sem.run_pure, Result.andThen_ok, run_loadVar_row w b t t cs (0, 0) d hk hu hd hi]
  exact h

theorem set_at {listed : Array Bool} {i : Nat} (hi : i < listed.size) : (fun j => (listed.setIfInBounds i true).getD j false) = fun j => (j == i || listed.getD j false) := by
  funext j
  rw [Array.getD_eq_getD_getElem?, Array.getD_eq_getD_getElem?, Array.getElem?_setIfInBounds]
  by_cases h : i = j
  · subst h; simp [hi]
  · rw [if_neg h]
    have : (j == i) = false := by simp; omega
    simp [this]

section
variable {w0 w w' : World} {kb x y Z : Array Value} {L : Nat → Bool} {s7 s8 s21 s22 s23 s24 : Value}

end
end Go.Proofs.Ytilcbdhcojgcbaa
/- impl.Hmac by its contract. -/
namespace Go.Proofs.Ytilcbdhcojgcbaa
open Go.RowKit
set_option linter.unusedVariables false

theorem blk_by {w : World} {g n : Nat} {l : List UInt8} {T : TypeId} (h : Blk w g (byA l) T) (hn : l.length = n) (hm : n ≤ maxLen) : BySl w (.slice (some ⟨g, 0, none⟩) n n) l := by
  subst hn
  refine ⟨by rw [Nm.bys_length, Nat.mul_one], _, _, rfl, Nat.le_refl _, hm, fun _ => ⟨g, 0, rfl, fun i x hx => ?_⟩⟩
  rw [Nat.zero_add, blk_cell h]
  simpa [byA, Nm.bys] using hx

theorem splice_rep (n : Nat) (z : Value) (cs : List Value) : splice (List.replicate n z) 0 cs = cs ++ List.replicate (n - cs.length) z := by
  simp [splice, List.drop_replicate]
theorem splice_pad {l : List UInt8} (h : l.length ≤ 64) : (splice (Array.replicate 64 (Value.int .u8 0)).toList 0 (Nm.bys l)).toArray = byA (padK l) := by
  rw [Array.toList_replicate, splice_rep, byA, padK, List.map_append, List.map_replicate, Nm.bys_length]
  rfl

def waits6 (o : Oper) (d : Nat) : Bool := o.after.any fun e => Region.binds .any e && e.on == d
theorem dep6 {o : Oper} {d : Nat} {listed : Array Bool} (h : waits6 o d = true) (hall : ∀ e ∈ o.after, Region.binds .any e = true → listed.getD e.on false = true) : listed.getD d false = true := by
  simp only [waits6, Array.any_eq_true', Bool.and_eq_true, beq_iff_eq] at h
  obtain ⟨e, he, hb, rfl⟩ := h
  exact hall e he hb
theorem none6 {n x : Nat} : ¬ (Array.replicate n false).getD x false = true := by
  rw [Array.getD_eq_getD_getElem?, Array.getElem?_replicate]
  split <;> simp
theorem un6 {listed : Array Bool} {i : Nat} (hi : i < listed.size) (h : listed.getD i true = false) : listed.getD i false = false := by
  rw [Array.getD_eq_getD_getElem?, Array.getElem?_eq_getElem hi] at h ⊢
  exact h

theorem wp_copy_blk {P : Program} {o : Oper} {a : Act} {w : World} {K : Act → World → Prop} {Q : Exit → Act → World → Prop} (d s : Operand) (dT sT : TypeId)
    (ho : o.op = .call { callee := .builtin .copy, args := #[d, s], argTypes := #[dT, sT] }) (elem : TypeId) (hu : P.underlying dT = some (.slice elem)) (hsz : (P.info? elem).map (·.size) = some 1)
    (g off dLen dCap : Nat) (ad : Addr) (sLen sCap : Nat) (hd : a.eval d = .slice (some ⟨g, off, none⟩) dLen dCap) (hs : a.eval s = .slice (some ad) sLen sCap)
    (cur : Array Value) (t : TypeId) (hg : Blk w g cur t) (cs : List Value) (hn : cs.length = Nat.min sLen dLen)
    (hsrc : ∀ j v, cs[j]? = some v → w.cell? (ad.add j) = some v) (hfit : off + cs.length ≤ cur.size) (h1 : ∀ v ∈ cs, v.oneCell' = true)
    (h : ∀ w', Blk w' g (splice cur.toList off cs).toArray t → Only g w w' → K (a.put o.dst (goInt cs.length)) w') : Oper.wp P o a w K Q := by
  have hrun := run_copy_row (P := P) w dT sT o.type elem g off dLen dCap ad sLen sCap cur t cs hu hsz hg hn hsrc hfit h1
  unfold Oper.wp
  simp [execOp, ho, resolve, invoke, builtin, hd, hs, hrun, Result.andThen]
  exact h _ (blk_setRow hg) Only.setRow

end Go.Proofs.Ytilcbdhcojgcbaa
/- Rows of bytes that may be written up to their capacity; what an append leaves. -/
namespace Go.Proofs.Ytilcbdhcojgcbaa
open Go.RowKit

theorem Try.infoB : (Try.prog.info? 5).map (fun i => (i.zero, i.size, i.bytes)) = some (some (.int .u8 0), 1, 1) := by kernel_rfl

/-- The bytes 'l' lie where the slice 'v' leads, in a block from B on; the whole row may be written. -/
def FRow (w : World) (B : Nat) (v : Value) (l : List UInt8) : Prop :=
  ∃ g cap, v = .slice (some ⟨g, 0, none⟩) l.length cap ∧ l.length ≤ cap ∧ cap ≤ maxLen ∧ B ≤ g ∧ g < w.heap.size ∧
    (∀ j, j < cap → (w.cell? ⟨g, j, none⟩).isSome = true ∧ w.frozen? ⟨g, j, none⟩ = false) ∧
    (∀ (j : Nat) (c : UInt8), l[j]? = some c → w.cell? ⟨g, j, none⟩ = some (.int .u8 (c.toNat : Int)))

theorem bys_get {l : List UInt8} {j : Nat} {u : Value} (h : (Nm.bys l)[j]? = some u) : ∃ c, l[j]? = some c ∧ u = .int .u8 (c.toNat : Int) := by
  simp [Nm.bys] at h
  obtain ⟨c, h1, h2⟩ := h
  exact ⟨c, h1, h2.symm⟩

theorem sc_size (b : Nat) : ∀ (vs : List Value) (o : Nat) (w : World), (w.setCells b o vs).heap.size = w.heap.size := by
  intro vs
  induction vs with
  | nil => intro o w; rfl
  | cons v vs ih => intro o w; rw [World.setCells, ih]; simp
theorem sc_tape (b : Nat) : ∀ (vs : List Value) (o : Nat) (w : World), (w.setCells b o vs).tape = w.tape := by
  intro vs
  induction vs with
  | nil => intro o w; rfl
  | cons v vs ih => intro o w; rw [World.setCells, ih]; simp

theorem FRow.app {w : World} {B : Nat} {v : Value} {l : List UInt8} (h : FRow w B v l) (hB : B ≤ w.heap.size) (tx : TypeId) (x : Value) (r : List UInt8)
    (hs : _root_.Go.Src Try.prog 1 tx x r.length (Nm.bys r) w) (hlen : l.length + r.length ≤ 1000000000000) :
    ∃ v' w', (∀ ty, (Builtin.append_ #[22, tx] ty #[v, x]).run Try.prog w = .ok v' w') ∧ FRow w' B v' (l ++ r) ∧ Below B w w' := by
  obtain ⟨g, cap, rfl, h1, h2, h3, h4, h5, h6⟩ := h
  obtain ⟨i0, hi, hz0, hz1, hz2⟩ := info_parts Try.infoB
  have hbl : (Nm.bys r).length = r.length := Nm.bys_length r
  by_cases hroom : l.length + r.length ≤ cap
  · have hc : ∀ j, j < (Nm.bys r).length → (w.cell? ⟨g, 0 + l.length * i0.size + j, none⟩).isSome = true := by
      intro j hj
      rw [hz1, Nat.zero_add, Nat.mul_one]
      exact (h5 _ (by omega)).1
    have hf : ∀ j, j < (Nm.bys r).length → w.frozen? ⟨g, 0 + l.length * i0.size + j, none⟩ = false := by
      intro j hj
      rw [hz1, Nat.zero_add, Nat.mul_one]
      exact (h5 _ (by omega)).2
    have hr := fun ty => run_append_room_src (P := Try.prog) w 22 tx ty 5 i0 Try.underlying22 hi g 0 l.length cap x r.length (Nm.bys r) (by rw [hz1]; exact hs) hroom hc hf
    simp only [hz1, Nat.zero_add, Nat.mul_one] at hr
    rw [hz1, Nat.zero_add, Nat.mul_one] at hc
    refine ⟨_, _, hr, ⟨g, cap, by rw [List.length_append], by rw [List.length_append]; exact hroom, h2, h3, ?_, ?_, ?_⟩, ?_⟩
    · rw [sc_size]; exact h4
    · intro j hj
      refine ⟨?_, by rw [World.frozen?_setCells]; exact (h5 j hj).2⟩
      by_cases hin : l.length ≤ j ∧ j < l.length + r.length
      · have e := World.cell?_setCells_in g (Nm.bys r) l.length w hc (j - l.length) (by omega)
        rw [show l.length + (j - l.length) = j by omega] at e
        rw [e]; rfl
      · rw [World.cell?_setCells_out g _ _ _ _ (fun _ _ => by simp only [hbl]; omega)]
        exact (h5 j hj).1
    · intro j c hj
      by_cases hlt : j < l.length
      · rw [List.getElem?_append_left hlt] at hj
        rw [World.cell?_setCells_out g _ _ _ _ (fun _ _ => .inl hlt)]
        exact h6 j c hj
      · rw [List.getElem?_append_right (by omega)] at hj
        have hjr : j - l.length < r.length := (List.getElem?_eq_some_iff.1 hj).1
        have e := World.cell?_setCells_in g (Nm.bys r) l.length w hc (j - l.length) (by omega)
        rw [show l.length + (j - l.length) = j by omega] at e
        rw [e]
        have e2 : (Nm.bys r)[j - l.length]? = some (.int .u8 (c.toNat : Int)) := by simp [Nm.bys, hj]
        rw [List.getElem?_eq_getElem (by omega)] at e2
        exact e2
    · exact ⟨World.os_setCells _ _ _ _, sc_tape _ _ _ _, World.output_setCells _ _ _ _, Nat.le_of_eq (sc_size _ _ _ _).symm, fun k hk => World.heap_setCells_other w g _ _ (by omega) (by omega)⟩
  · have hold : (Builtin.firstCells i0.size l.length (.slice (some ⟨g, 0, none⟩) l.length cap)).run Try.prog w.drew = .ok (Nm.bys l).toArray w.drew := by
      rw [hz1]
      refine run_firstCells_some w.drew 1 l.length ⟨g, 0, none⟩ l.length cap (Nm.bys l) (by rw [Nm.bys_length, Nat.mul_one]) ?_
      intro j u hu
      obtain ⟨c, hc, rfl⟩ := bys_get hu
      have := h6 j c hc
      rw [Nm.addr_add, Nat.zero_add]
      exact this
    have hr := fun ty => run_append_grow_src (P := Try.prog) w 22 tx ty 5 i0 (.int .u8 0) Try.underlying22 hi hz0 (some ⟨g, 0, none⟩) l.length cap (Nm.bys l) hold x r.length (Nm.bys r) (by rw [hz1]; exact hs) (by omega) (by omega) (by rw [hz2]; exact growslice_fits (by omega) (by omega))
    have hge := grownCap_ge w (l.length + r.length) cap 5
    have hle := grownCap_le_maxLen w (l.length + r.length) cap 5 (by unfold maxLen; omega)
    generalize grownCap w (l.length + r.length) cap 5 = C at *
    have hall : ∀ j, j < C → ∃ u, ((Nm.bys l ++ Nm.bys r).toArray ++ Builtin.zeroCells (Value.int IntKind.u8 0).cells (C - (l.length + r.length)))[j]? = some u := by
      intro j hj
      have hz : ((Nm.bys l ++ Nm.bys r).toArray ++ Builtin.zeroCells (Value.int IntKind.u8 0).cells (C - (l.length + r.length))).size = C := by
        have hz1' : (Value.int IntKind.u8 0).cells.size = 1 := rfl
        simp only [Array.size_append, List.size_toArray, size_zeroCells, hz1', List.length_append, Nm.bys_length]
        omega
      exact ⟨_, Array.getElem?_eq_getElem (by omega)⟩
    have hcell : ∀ j, (w.drew.alloc (.cells ((Nm.bys l ++ Nm.bys r).toArray ++ Builtin.zeroCells (Value.int IntKind.u8 0).cells (C - (l.length + r.length))) 5)).cell? ⟨w.heap.size, j, none⟩ = ((Nm.bys l ++ Nm.bys r).toArray ++ Builtin.zeroCells (Value.int IntKind.u8 0).cells (C - (l.length + r.length)))[j]? := by
      intro j
      exact World.cell?_alloc_new w.drew _ _ j
    refine ⟨_, _, hr, ⟨w.heap.size, C, by rw [List.length_append], by rw [List.length_append]; exact hge, hle, hB, by simp, ?_, ?_⟩, ?_⟩
    · intro j hj
      obtain ⟨u, hu⟩ := hall j hj
      exact ⟨by rw [hcell, hu]; rfl, World.frozen?_alloc_new w.drew _ _ j⟩
    · intro j c hj
      rw [hcell]
      have e : (Nm.bys l ++ Nm.bys r)[j]? = some (.int .u8 (c.toNat : Int)) := by
        rw [← Nm.bys_append, Nm.bys, List.getElem?_map, hj]; rfl
      rw [Array.getElem?_append_left (by have := (List.getElem?_eq_some_iff.1 e).1; simpa using this)]
      simpa using e
    · exact ((Below.refl B w).drew).alloc hB _

theorem FRow.below {w w' : World} {B : Nat} {v : Value} {l : List UInt8} (h : FRow w B v l) (hb : Below w.heap.size w w') : FRow w' B v l := by
  obtain ⟨g, cap, rfl, h1, h2, h3, h4, h5, h6⟩ := h
  have hc : ∀ j, w'.cell? ⟨g, j, none⟩ = w.cell? ⟨g, j, none⟩ := fun j => hb.cell h4
  have hfz : ∀ j, w'.frozen? ⟨g, j, none⟩ = w.frozen? ⟨g, j, none⟩ := fun j => by
    simp only [World.frozen?, hb.block g h4]
  refine ⟨g, cap, rfl, h1, h2, h3, Nat.lt_of_lt_of_le h4 hb.size, ?_, ?_⟩
  · intro j hj; rw [hc, hfz]; exact h5 j hj
  · intro j c hj; rw [hc]; exact h6 j c hj

/-- string(b) of such a row. -/
theorem FRow.str {w : World} {B : Nat} {v : Value} {l : List UInt8} (h : FRow w B v l) : (convert 22 9 v).run Try.prog w = .ok (.string ⟨l.toArray⟩) w := by
  obtain ⟨g, cap, rfl, h1, h2, h3, h4, h5, h6⟩ := h
  refine run_convert_bytes_back w 22 9 5 ⟨g, 0, none⟩ cap l Try.underlying22 Try.underlying5 Try.underlying9 ?_
  intro j hj
  rw [Nm.addr_add, Nat.zero_add]
  exact h6 j _ (List.getElem?_eq_getElem hj)

/-- []byte(s). -/
theorem FRow.new (s : ByteArray) (w : World) (hs : s.size ≤ 1000000000000) : ∃ v W, (convert 9 22 (.string s)).run Try.prog w = .ok v W ∧ FRow W w.heap.size v s.data.toList ∧ Below w.heap.size w W := by
  have hge := grownCap_ge w s.size 0 5
  have hle := grownCap_le_maxLen w s.size 0 5 (by unfold maxLen; omega)
  have hr := run_bytes_of_string w 9 22 5 s Try.underlying9 Try.underlying22 Try.underlying5
  generalize grownCap w s.size 0 5 = C at *
  have hl : s.data.toList.length = s.size := by simp
  have hz : (bytesRow s C).size = C := by
    have : s.data.size = s.size := rfl
    simp [bytesRow]; omega
  have hcell : ∀ j, (w.drew.alloc (.cells (bytesRow s C) 5 ((bytesRow s C).size, (bytesRow s C).size + 1))).cell? ⟨w.heap.size, j, none⟩ = (bytesRow s C)[j]? := fun j =>
    cell_of_row _ w.heap.size j _ 5 _ (heap_alloc_new w.drew _)
  refine ⟨_, _, hr, ⟨w.heap.size, C, by rw [hl], by omega, hle, Nat.le_refl _, by simp, ?_, ?_⟩, ((Below.refl _ w).drew).alloc (Nat.le_refl _) _⟩
  · intro j hj
    refine ⟨by rw [hcell, Array.getElem?_eq_getElem (by omega)]; rfl, ?_⟩
    have e := World.frozen?_alloc_mark w.drew (bytesRow s C) 5 (bytesRow s C).size ((bytesRow s C).size + 1) j
    rw [show w.heap.size = w.drew.heap.size from rfl, e]
    simp; omega
  · intro j c hj
    have hj' : j < s.data.size := by
      have := (List.getElem?_eq_some_iff.1 hj).1
      simpa using this
    have hc : s.data[j] = c := by
      have := (List.getElem?_eq_some_iff.1 hj).2
      simpa using this
    rw [hcell, bytesRow_at s _ j hj', hc]

/-- The operation, for the walk. -/
theorem wpList_append_run {ops : Array Oper} {rest : List Oper} {o : Oper} {a : Act} {w : World} {Q : Exit → Act → World → Prop} (hgd : o.guard = none) (s x : Operand) (t u : TypeId)
    (ho : o.op = .call { callee := .builtin .append, args := #[s, x], argTypes := #[t, u] }) (v xv : Value) (hs : a.eval s = v) (hx : a.eval x = xv)
    (v' : Value) (w' : World) (hr : ∀ ty, (Builtin.append_ #[t, u] ty #[v, xv]).run Try.prog w = .ok v' w')
    (h : wpList Try.prog ops Q rest (a.put o.dst v') w') : wpList Try.prog ops Q (o :: rest) a w := by
  refine wpList_plain hgd fun K hK => ?_
  have hr := hr o.type
  unfold Oper.wp execOp
  simp only [ho, resolve, invoke, builtin, Sem.run_bind, Sem.run_pure, Result.andThen_ok, List.map_toArray, List.map_cons, List.map_nil, hs, hx, hr]
  exact hK _ _ h
end Go.Proofs.Ytilcbdhcojgcbaa
/- (impl.signature).over by its contract. -/
namespace Go.Proofs.Ytilcbdhcojgcbaa
open Go.RowKit
set_option linter.unusedVariables false

/-- append(v, s...): v a row of the call's own, s a text. -/
theorem own_str {w : World} {B n : Nat} {v : Value} {l : List UInt8} {s : ByteArray} {r : List UInt8} (hown : w.ownsRow B 5 1 v n (Nm.bys l)) (hs : s = ⟨r.toArray⟩) (hn : n ≤ 10000000) (hr : r.length ≤ 10000000) (hB : B ≤ w.heap.size) :
    ∃ v' w', (Builtin.append_ #[22, 9] 22 #[v, .string s]).run Try.prog w = .ok v' w' ∧ w'.ownsRow B 5 1 v' (n + r.length) (Nm.bys (l ++ r)) ∧ w.grownBy w' v.ownBlock ∧ (0 < r.length → v'.ownBlock ≠ none) := by
  obtain ⟨j0, hj, k0, k1, k2⟩ := info_parts Try.infoBy
  have hz : s.size = r.length := by rw [hs, ba_size]
  obtain ⟨v', w', h1, h2, h3, h4⟩ := Go.Lib.run_append_own_string (P := Try.prog) w B 22 9 22 5 j0 Try.underlying22 Try.underlying9 hj k0 k1 k2 v n (Nm.bys l) hown s (by unfold maxLen; omega) (by omega) hB
  rw [hz, Nm.bys_str, ← Nm.bys_append, hs] at h2
  have e : (ByteArray.mk r.toArray).data.toList = r := by simp
  rw [e] at h2
  refine ⟨v', w', h1, h2, h3, fun hp => ?_⟩
  rcases h2.2 with ⟨rfl, hz2⟩ | ⟨g, cap, cur, rfl, _⟩
  · omega
  · simp [Value.ownBlock]

theorem free_by {w : World} {B : Nat} {v : Value} {l : List UInt8} (h : FRow w B v l) : BySl w v l := by
  obtain ⟨g, cap, rfl, h1, h2, h3, h4, h5, h6⟩ := h
  refine ⟨by rw [Nm.bys_length, Nat.mul_one], _, _, rfl, h1, h2, fun _ => ⟨g, 0, rfl, fun i x hx => ?_⟩⟩
  obtain ⟨c, hc, rfl⟩ := bys_get hx
  rw [Nat.zero_add]
  exact h6 i c hc

/-- append(v, u...): u not empty. -/
theorem own_appP {w : World} {B n : Nat} {v u : Value} {l r : List UInt8} (hown : w.ownsRow B 5 1 v n (Nm.bys l)) (hs : BySl w u r) (hp : 0 < r.length) (hn : n ≤ 10000000) (hr : r.length ≤ 10000000) (hB : B ≤ w.heap.size) :
    ∃ v' w', (Builtin.append_ #[22, 22] 22 #[v, u]).run Try.prog w = .ok v' w' ∧ w'.ownsRow B 5 1 v' (n + r.length) (Nm.bys (l ++ r)) ∧ w.grownBy w' v.ownBlock := by
  obtain ⟨j0, hj, k0, k1, k2⟩ := info_parts Try.infoBy
  obtain ⟨hlen, a, cap, rfl, hcap, hmx, hc⟩ := hs
  obtain ⟨b, off, rfl, hcell⟩ := hc hp
  obtain ⟨v', w', h1, h2, h3, h4⟩ := run_append_own (P := Try.prog) w B 22 22 5 j0 (.int .u8 0) 1 1 Try.underlying22 hj k0 k1 k2 rfl (by decide) v n (Nm.bys l) hown ⟨b, off, none⟩ r.length cap (Nm.bys r) hlen (by
    intro j u hu
    rw [Nm.addr_add]
    exact hcell j u hu) (bys_ones r) (by unfold maxLen; omega) (by omega) hB
  exact ⟨v', w', h1, by rw [Nm.bys_append]; exact h2, h3⟩

/-- what is ahead of the body -/
def rqL (rq : List UInt8) : List UInt8 := if rq.length = 0 then [] else bigL rq.length 2 ++ rq

theorem wp_app_ran {P : Program} {o : Oper} {a : Act} {w : World} {K : Act → World → Prop} {Q : Exit → Act → World → Prop} (s x : Operand) (t t2 : TypeId)
    (ho : o.op = .call { callee := .builtin .append, args := #[s, x], argTypes := #[t, t2] }) (v u v' : Value) (w' : World) (hs : a.eval s = v) (hx : a.eval x = u)
    (hr : (Builtin.append_ #[t, t2] o.type #[v, u]).run P w = .ok v' w') (h : K (a.put o.dst v') w') : Oper.wp P o a w K Q := by
  unfold Oper.wp execOp
  simp only [ho, resolve, invoke, builtin, Sem.run_bind, Sem.run_pure, Result.andThen_ok, List.map_toArray, List.map_cons, List.map_nil, hs, hx, hr]
  exact h

end Go.Proofs.Ytilcbdhcojgcbaa
/- (impl.signature).isLate by its contract. -/
namespace Go.Proofs.Ytilcbdhcojgcbaa
open Go.RowKit
set_option linter.unusedVariables false

theorem wrap_ng (n : Int) (h : -9223372036854775808 ≤ n) (h2 : n < 9223372036854775808) : IntKind.i64.wrap n = n := by
  by_cases h0 : 0 ≤ n
  · exact Go.wrap_small n h0 h2
  · have e : n % 2 ^ 64 = n + 18446744073709551616 := by omega
    simp only [IntKind.wrap, IntKind.bits, IntKind.signed, e]
    rw [if_pos]
    · omega
    · simp
      omega

/-- further from a signature's time than its fudge -/
def lateB (t f n : Nat) : Bool := decide ((f : Int) < (n : Int) - (t : Int)) || decide ((f : Int) < (t : Int) - (n : Int))

end Go.Proofs.Ytilcbdhcojgcbaa
/- (impl.signature).check by its contract. -/
namespace Go.Proofs.Ytilcbdhcojgcbaa
open Go.RowKit
set_option linter.unusedVariables false

theorem part_by {P : Program} {e : TypeId} {i : TypeInfo} {l : List UInt8} {k : Nat} {c : UInt8} (hu : P.underlying e = some (.int .u8)) (hi : P.info? e = some i) (hs : i.size = 1) (h : l[k]? = some c) (W : World) : (part e (byA l) k).run P W = .ok (.int .u8 (c.toNat : Int)) W := by
  have hv : (byA l)[k]? = some (.int .u8 (c.toNat : Int)) := by simp [byA, h]
  simp [part, isAgg, run_underlying hu, sizeOf, typeInfo, hi, hs, hv]

theorem eq_items {P : Program} {e : TypeId} {i : TypeInfo} (d : Nat) {a b : List UInt8} (hu : P.underlying e = some (.int .u8)) (hi : P.info? e = some i) (hs : i.size = 1) : ∀ (is : List Nat), (∀ k ∈ is, k < a.length ∧ k < b.length) → ∀ W, (Op.eqItems (d + 1) e 1 (byA a) (byA b) is).run P W = .ok (is.all (fun k => a[k]? == b[k]?)) W := by
  intro is
  induction is with
  | nil => intro _ W; simp [Op.eqItems]
  | cons k is ih =>
    intro hk W
    obtain ⟨h1, h2⟩ := hk k (List.mem_cons_self)
    have ha := List.getElem?_eq_getElem h1
    have hb := List.getElem?_eq_getElem h2
    have pa := fun W => part_by hu hi hs ha W
    have pb := fun W => part_by hu hi hs hb W
    have ihr := ih (fun j hj => hk j (List.mem_cons_of_mem _ hj)) W
    have he : (Op.equalIn (d + 1) e (.int .u8 ((a[k]).toNat : Int)) (.int .u8 ((b[k]).toNat : Int))).run P W = .ok (((a[k]).toNat : Int) == ((b[k]).toNat : Int)) W := by
      simp [Op.equalIn, run_underlying hu]
    have hq : (((a[k]).toNat : Int) == ((b[k]).toNat : Int)) = (a[k]? == b[k]?) := by
      rw [ha, hb, Bool.eq_iff_iff]
      simp only [beq_iff_eq, Option.some.injEq, Int.natCast_inj]
      exact UInt8.toNat_inj
    rw [Op.eqItems, Nat.mul_one]
    simp only [Sem.run_bind, pa, pb, he, Result.andThen_ok, hq]
    rw [List.all_cons]
    cases (a[k]? == b[k]?) with
    | false => simp
    | true => simpa using ihr

theorem eq_arr {P : Program} {t e : TypeId} {i : TypeInfo} {a b : List UInt8} {n : Nat} (hut : P.underlying t = some (.array n e)) (hu : P.underlying e = some (.int .u8)) (hi : P.info? e = some i) (hs : i.size = 1) (hc : P.cellsOf e = 1) (ha : a.length = n) (hb : b.length = n) (W : World) :
    (Op.equal t (.agg (byA a)) (.agg (byA b))).run P W = .ok (decide (a = b)) W := by
  show (Op.equalIn (9998 + 1 + 1) t (.agg (byA a)) (.agg (byA b))).run P W = _
  rw [run_equalIn_array _ (9998 + 1) (byA a) (byA b) hut hi, hc, eq_items 9998 hu hi hs _ (fun k hk => by have := List.mem_range.1 hk; omega)]
  congr 1
  rw [Bool.eq_iff_iff, List.all_eq_true, decide_eq_true_eq]
  constructor
  · intro h
    apply List.ext_getElem?
    intro k
    by_cases hk : k < n
    · have := h k (List.mem_range.2 hk)
      simpa using this
    · rw [List.getElem?_eq_none (by omega), List.getElem?_eq_none (by omega)]
  · rintro rfl k _
    simp
end Go.Proofs.Ytilcbdhcojgcbaa
