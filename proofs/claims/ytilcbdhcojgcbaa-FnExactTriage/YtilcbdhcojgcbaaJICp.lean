import Derived.Test.YtilcbdhcojgcbaaJShK
import Derived.Laws.IdiomCopy
import Derived.Laws.CopyOwn
import Derived.Test.YtilcbdhcojgcbaaJMath
import Derived.Laws.OwnMore
/- Copies into a variable of one's own. -/
namespace Go.Proofs.Ytilcbdhcojgcbaa
open Go.RowKit
set_option linter.unusedVariables false

/-- Values laid into an array from a place on. -/
def spl (cs : Array Value) : Nat → List Value → Array Value
  | _, [] => cs
  | o, v :: r => spl (cs.setIfInBounds o v) (o + 1) r
theorem spl_size : ∀ (vs : List Value) (cs : Array Value) (o : Nat), (spl cs o vs).size = cs.size
  | [], _, _ => rfl
  | v :: r, cs, o => by rw [spl, spl_size r]; simp
theorem blk_setCells {b : Nat} {T : TypeId} : ∀ (vs : List Value) (o : Nat) (cs : Array Value) (w : World), Blk w b cs T → Blk (w.setCells b o vs) b (spl cs o vs) T
  | [], _, _, _, h => h
  | v :: r, o, cs, w, h => blk_setCells r (o + 1) _ _ (blk_set h o v)
theorem only_setCells {b : Nat} {w0 : World} : ∀ (vs : List Value) (o : Nat) (w : World), Only b w0 w → Only b w0 (w.setCells b o vs)
  | [], _, _, h => h
  | v :: r, o, w, h => only_setCells r (o + 1) _ h.set
def bytesV (S : ByteArray) : List Value := S.data.toList.map fun c => .int .u8 (c.toNat : Int)

theorem run_copy_str {P : Program} (w : World) (dT sT ty elem T : TypeId) (b o dLen dCap : Nat) (S : ByteArray) (cs : Array Value) (hk : Blk w b cs T)
    (hu : P.underlying dT = some (.slice elem)) (hs : (P.info? elem).map (·.size) = some 1) (h2 : S.size ≤ dLen) (hfit : o + S.size ≤ cs.size) :
    (Builtin.copy_ #[dT, sT] ty #[.slice (some ⟨b, o, none⟩) dLen dCap, .string S]).run P w = .ok (goInt S.size) (w.setCells b o (bytesV S)) := by
  have hlv : (bytesV S).length = S.size := by simp [bytesV]
  have hst := run_storeCells_cells (P := P) b o (bytesV S) 0 w
    (by intro j hj; rw [Nat.add_zero, blk_cell hk (o + j), Array.getElem?_eq_getElem (by omega)]; rfl)
    (by intro j hj; rw [Nat.add_zero]; exact blk_frozen hk _)
    (by intro v hv; simp only [bytesV, List.mem_map] at hv; obtain ⟨c, _, rfl⟩ := hv; rfl)
  have hmin : Nat.min S.size dLen = S.size := Nat.min_eq_left h2
  have hcl : ((S.extract 0 S.size).data.map fun b => (Value.int .u8 (b.toNat : Int))) = (bytesV S).toArray := by
    have e : S.extract 0 S.size = S := by
      apply ByteArray.ext
      simp
    rw [e]
    apply Array.toList_inj.1
    simp [bytesV]
  cases hq : P.info? elem with
  | none => simp [hq] at hs
  | some i =>
    have hi : i.size = 1 := by simpa [hq] using hs
    have hst2 : (storeCells ⟨b, o, none⟩ (bytesV S)).run P w = .ok () (w.setCells b o (bytesV S)) := by simpa using hst
    have hsz2 : ∀ W : World, (Builtin.firstCells 1 S.size (.string S)).run P W = .ok (bytesV S).toArray W := fun W => by rw [← hcl]; rfl
    have hlen : ∀ W : World, (Builtin.lenOf (.string S)).run P W = .ok S.size W := fun W => rfl
    simp [Builtin.copy_, run_underlying hu, hlen, hmin, sizeOf, typeInfo, hq, hi, hsz2, hst2]

theorem step_copy_str {P : Program} {ops : Array Oper} {o : Oper} {a : Act} {w : World} {K : Act → World → Prop} {Q : Exit → Act → World → Prop} {E : Prop} (hgd : o.guard = none) (d s : Operand) (dT sT : TypeId)
    (ho : o.op = .call { callee := .builtin .copy, args := #[d, s], argTypes := #[dT, sT] }) (elem : TypeId) (hu : P.underlying dT = some (.slice elem)) (hsz : (P.info? elem).map (·.size) = some 1)
    (b off dLen dCap : Nat) (hd : a.eval d = .slice (some ⟨b, off, none⟩) dLen dCap) (S : ByteArray) (hs : a.eval s = .string S) (cs : Array Value) (T : TypeId) (hk : Blk w b cs T) (h2 : S.size ≤ dLen) (hfit : off + S.size ≤ cs.size)
    (h : ∀ w', Blk w' b (spl cs off (bytesV S)) T → Only b w w' → K (a.put o.dst (goInt S.size)) w') :
    if Region.wanted o (yielded ops a.tmps) = true then Oper.wp P o a w K Q else E := by
  have hw : Region.wanted o (yielded ops a.tmps) = true := by simp [Region.wanted, hgd]
  rw [if_pos hw]
  have hrun := run_copy_str (P := P) w dT sT o.type elem T b off dLen dCap S cs hk hu hsz h2 hfit
  unfold Oper.wp
  simp [execOp, ho, resolve, invoke, builtin, hd, hs, hrun, Result.andThen]
  exact h _ (blk_setCells _ _ _ _ hk) (only_setCells _ _ _ (Only.refl _ _))

theorem wpList_copy_blk {P : Program} {w : World} {ops : Array Oper} {rest : List Oper} {o : Oper} {a : Act} {Q : Exit → Act → World → Prop} (hgd : o.guard = none) (d s : Operand) (dT sT : TypeId)
    (ho : o.op = .call { callee := .builtin .copy, args := #[d, s], argTypes := #[dT, sT] }) (elem : TypeId) (hu : P.underlying dT = some (.slice elem)) (hsz : (P.info? elem).map (·.size) = some 1)
    (g off dLen dCap : Nat) (sp : Option Addr) (sLen sCap : Nat) (hd : a.eval d = .slice (some ⟨g, off, none⟩) dLen dCap) (hs : a.eval s = .slice sp sLen sCap)
    (cur : Array Value) (t : TypeId) (hg : Blk w g cur t) (cs : List Value) (hn : cs.length = Nat.min sLen dLen)
    (hsrc : 0 < cs.length → ∃ ad, sp = some ad ∧ ∀ j v, cs[j]? = some v → w.cell? (ad.add j) = some v) (hfit : off + cs.length ≤ cur.size) (h1 : ∀ v ∈ cs, v.oneCell' = true)
    (h : ∀ w', Blk w' g (splice cur.toList off cs).toArray t → Only g w w' → wpList P ops Q rest (a.put o.dst (goInt cs.length)) w') : wpList P ops Q (o :: rest) a w := by
  by_cases h0 : cs.length = 0
  · obtain rfl : cs = [] := List.eq_nil_of_length_eq_zero h0
    refine wpList_copy_nothing hgd d s dT sT ho elem hu hsz _ sp dLen dCap sLen sCap hd hs (by simpa using hn.symm) ?_
    exact h w (by simpa [splice] using hg) (Only.refl _ _)
  · obtain ⟨ad, rfl, hsrc2⟩ := hsrc (by omega)
    refine wpList_copy_own hgd d s dT sT ho elem hu hsz g off dLen dCap ad sLen sCap hd hs cur t hg cs hn hsrc2 hfit h1 ?_
    exact h _ (blk_setRow hg) Only.setRow

/-- A whole variable of the package is read. -/
theorem wpList_load_glob {P : Program} {ops : Array Oper} {rest : List Oper} {o : Oper} {a : Act} {w : World} {Q : Exit → Act → World → Prop} (p : Operand) (t : TypeId) (hgd : o.guard = none) (ho : o.op = .load t p) (b : Nat) (cs : Array Value) (t0 : TypeId) (fr : Nat × Nat) (n : Nat) (e : TypeId) (hk : w.heap[b]? = some (.cells cs t0 fr))
    (hp : a.eval p = .pointer (some ⟨b, 0, none⟩)) (hu : P.underlying t = some (.array n e)) (hi : (P.info? t).map (·.size) = some cs.size)
    (h : wpList P ops Q rest (a.put o.dst (.agg cs)) w) : wpList P ops Q (o :: rest) a w :=
  wpList_plain hgd fun _ hK => by
    unfold Oper.wp execOp
    simp only [ho, hp, Instr.loadAt, Instr.sureAddr, Sem.run_bind, Sem.run_pure, Result.andThen_ok, run_loadVar_row w b t0 t cs fr (.array n e) hk hu rfl hi]
    exact hK _ _ h
end Go.Proofs.Ytilcbdhcojgcbaa
/- impl.bigBytes at any width by its contract. -/
namespace Go.Proofs.Ytilcbdhcojgcbaa
open Go.RowKit
set_option linter.unusedVariables false

def bigL (v n : Nat) : List UInt8 := (List.range n).map fun i => UInt8.ofNat (v / 2 ^ (8 * (n - 1 - i)))
def bigM (v n j : Nat) : List Value := (List.range n).map fun i => if i < j then .int .u8 ((UInt8.ofNat (v / 2 ^ (8 * (n - 1 - i)))).toNat : Int) else .int .u8 0
theorem bigM_zero (v n : Nat) : bigM v n 0 = List.replicate n (.int .u8 0) := by
  simp only [bigM, Nat.not_lt_zero, if_false]
  rw [List.map_const', List.length_range]
theorem bigM_all (v n : Nat) : bigM v n n = Nm.bys (bigL v n) := by
  simp only [bigM, bigL, Nm.bys, List.map_map]
  apply List.map_congr_left
  intro i hi
  simp [List.mem_range.1 hi]
theorem bigM_set {v n j : Nat} (h : j < n) : (bigM v n j).set j (.int .u8 ((UInt8.ofNat (v / 2 ^ (8 * (n - 1 - j)))).toNat : Int)) = bigM v n (j + 1) := by
  apply List.ext_getElem?
  intro i
  rw [List.getElem?_set]
  by_cases hi : j = i
  · subst hi
    simp [bigM, h]
  · rw [if_neg hi]
    by_cases hn : i < n
    · simp only [bigM, List.getElem?_map, List.getElem?_range hn, Option.map_some]
      by_cases h1 : i < j
      · rw [if_pos h1, if_pos (by omega)]
      · rw [if_neg h1, if_neg (by omega)]
    · simp [bigM, hn]

set_option maxRecDepth 100000 in
set_option maxHeartbeats 1600000 in
theorem bigBytesN_any (v n : Nat) (w : World) (hv : v ≤ 4611686018427387904) (hn1 : 1 ≤ n) (hn : n ≤ 8) :
    Calls Try.prog 71 #[.int .i64 (v : Int), .int .i64 (n : Int)] w fun e w' => e = .returned (.string ⟨(bigL v n).toArray⟩) ∧ Below w.heap.size w w' := by
  obtain ⟨i0, hi, hz0, hz1, hz2⟩ := info_parts Try.infoBy
  obtain ⟨wm, hmk, hownm, hgrm⟩ := run_make_full (P := Try.prog) w w.heap.size 22 5 i0 (.int .u8 0) 1 Try.underlying22 hi hz0 hz1 .i64 .i64 n (by rw [hz2]; omega) (by unfold maxLen; omega) (Nat.le_refl _)
  have hbelm : Below w.heap.size w wm := (Below.refl _ _).grown hgrm (Nat.le_refl _) (by simp)
  have hz4 : (madeCells (Value.int .u8 0).cells (n * 1)).toList = bigM v n 0 := by
    rw [bigM_zero]
    match n, hn1, hn with
    | 1, _, _ | 2, _, _ | 3, _, _ | 4, _, _ | 5, _, _ | 6, _, _ | 7, _, _ | 8, _, _ => first | rfl | (show _ = _; kernel_rfl)
  rw [hz4] at hownm
  clear hgrm hz4
  go_enter Try.func71, Try.ntmps71
  go_wp2
  go_loopw [11] (fun i wr => ∃ j : Nat, j ≤ n ∧ i = .int .i64 (j : Int) ∧ wr.ownsRow w.heap.size 5 1 (.slice (some ⟨w.heap.size, 0, none⟩) n n) n (bigM v n j) ∧ Below w.heap.size w wr) (fun i _ => (n - intOf i).toNat)
  case atStart => exact ⟨0, by omega, rfl, hownm, hbelm⟩
  case round =>
    obtain ⟨j, hj, rfl, hown, hbel⟩ := hrel
    clear hownm hbelm hmk
    by_cases hlt : j < n
    · have i1 : (0 : Int) ≤ (j : Int) := by omega
      have i2 : (j : Int) < (n : Int) := by omega
      have i3 : (n : Int) ≤ 8 := by omega
      obtain ⟨x, hx⟩ : ∃ x, (bigM v n j)[j]? = some x := by simp [bigM, hlt]
      have hc : wr.cell? ⟨w.heap.size, j, none⟩ = some x := (hown.cellAt j (by omega)).trans hx
      have hfz := hown.frozenAt j
      have hst := (hown.stored j (.int .u8 ((UInt8.ofNat (v / 2 ^ (8 * (n - 1 - j)))).toNat : Int))).1
      rw [bigM_set hlt] at hst
      have hB2 := hbel.setCell (p := ⟨w.heap.size, j, none⟩) (Nat.le_refl _) (.int .u8 ((UInt8.ofNat (v / 2 ^ (8 * (n - 1 - j)))).toNat : Int))
      clear hown hbel hx
      go_wp2
      rw [show ((v : Int) / 2 ^ (8 * (n - 1 - j)) % 256) = ((UInt8.ofNat (v / 2 ^ (8 * (n - 1 - j)))).toNat : Int) by
        rw [UInt8.toNat_ofNat', Int.natCast_emod, Int.natCast_ediv, Int.natCast_pow]
        rfl]
      go_roundw
      case rel => exact ⟨j + 1, by omega, by go_num, hst, hB2⟩
      case measure => simp [intOf]; omega
    · obtain rfl : j = n := by omega
      rw [bigM_all] at hown
      have HC := Nm.conv_own (P := Try.prog) (src := 22) (dst := 9) Try.underlying22 Try.underlying5 Try.underlying9 hown (by omega)
      obtain ⟨g, cap, hv', hcv⟩ := HC
      cases hv'
      go_wp2
      go_ret
      exact ⟨rfl, hbel⟩
end Go.Proofs.Ytilcbdhcojgcbaa
/- The number of some bytes: mathematics. -/
namespace Go.Proofs.Ytilcbdhcojgcbaa
open Go.RowKit

/-- The number of some bytes, the high one first. -/
def numL (l : List UInt8) : Nat := l.foldl (fun n c => n * 256 + c.toNat) 0

theorem numL_snoc (l : List UInt8) (c : UInt8) : numL (l ++ [c]) = numL l * 256 + c.toNat := by simp [numL]

theorem fold_lt : ∀ (l : List UInt8) (a : Nat), l.foldl (fun n c => n * 256 + c.toNat) a < (a + 1) * 256 ^ l.length := by
  intro l
  induction l with
  | nil => intro a; simp
  | cons c l ih =>
    intro a
    rw [List.foldl_cons, List.length_cons, Nat.pow_succ]
    refine Nat.lt_of_lt_of_le (ih _) ?_
    have hc := c.toNat_lt
    have h1 : a * 256 + c.toNat + 1 ≤ (a + 1) * 256 := by omega
    calc (a * 256 + c.toNat + 1) * 256 ^ l.length ≤ ((a + 1) * 256) * 256 ^ l.length := Nat.mul_le_mul_right _ h1
      _ = (a + 1) * (256 ^ l.length * 256) := by rw [Nat.mul_assoc, Nat.mul_comm 256]

theorem numL_lt (l : List UInt8) : numL l < 256 ^ l.length := by
  have := fold_lt l 0
  rw [Nat.zero_add, Nat.one_mul] at this
  exact this

theorem numL_small {l : List UInt8} (h : l.length ≤ 6) : numL l < 281474976710656 := by
  have h1 := numL_lt l
  have h2 : 256 ^ l.length ≤ 256 ^ 6 := Nat.pow_le_pow_right (by decide) h
  have h3 : (256 : Nat) ^ 6 = 281474976710656 := by decide
  omega

end Go.Proofs.Ytilcbdhcojgcbaa
/- spec.Sha256: the words as bytes. -/
namespace Go.Proofs.Ytilcbdhcojgcbaa
open Go.RowKit
set_option linter.unusedVariables false

def ouA (l : List UInt8) (i : Nat) : Array Value := ((List.range 32).map fun j => if j < i then .int .u8 (((l[j]?).getD 0).toNat : Int) else .int .u8 0).toArray
theorem ouA_zero (l : List UInt8) : ouA l 0 = Array.replicate 32 (.int .u8 0) := by
  simp only [ouA, Nat.not_lt_zero, if_false]
  rfl
theorem ouA_any {l : List UInt8} {i j : Nat} (hj : j < 32) : ∃ v, (ouA l i)[j]? = some v := by simp [ouA, hj]
theorem ouA_set {l : List UInt8} {i : Nat} (h : i < 32) : (ouA l i).setIfInBounds i (.int .u8 (((l[i]?).getD 0).toNat : Int)) = ouA l (i + 1) := by
  apply Array.ext_getElem?
  intro j
  rw [Array.getElem?_setIfInBounds]
  by_cases hj : i = j
  · subst hj
    simp [ouA, h]
  · rw [if_neg hj]
    by_cases hj32 : j < 32
    · simp only [ouA, List.getElem?_toArray, List.getElem?_map, List.getElem?_range hj32, Option.map_some]
      by_cases h1 : j < i
      · rw [if_pos h1, if_pos (by omega)]
      · rw [if_neg h1, if_neg (by omega)]
    · simp [ouA, hj32]
theorem outL_len (s : Sv) : (outL s).length = 32 := rfl
theorem ouA_all (s : Sv) : ouA (outL s) 32 = ((outL s).map fun c => Value.int .u8 (c.toNat : Int)).toArray := rfl
def byA (l : List UInt8) : Array Value := (l.map fun c => Value.int .u8 (c.toNat : Int)).toArray
theorem byA_size (l : List UInt8) : (byA l).size = l.length := by simp [byA]
theorem byA_one (l : List UInt8) : (byA l).all (·.oneCell') = true := Array.all_eq_true_iff_forall_mem.2 (fun v hv => by
  simp only [byA, List.mem_toArray, List.mem_map] at hv
  obtain ⟨c, _, rfl⟩ := hv
  rfl)
theorem ouA_byA (s : Sv) : ouA (outL s) 32 = byA (outL s) := ouA_all s
theorem all_rep8 (n : Nat) : (Array.replicate n (Value.int .u8 0)).all (·.oneCell') = true := Array.all_eq_true_iff_forall_mem.2 (fun v hv => by rw [(Array.mem_replicate.1 hv).2]; rfl)
theorem outL_at (s : Sv) {k : Nat} (h : k < 32) : ((outL s)[k]?).getD 0 = UInt8.ofNat ((((svL s)[k / 4]?).getD 0).toNat / 2 ^ (24 - 8 * (k % 4))) := by
  match k, h with
  | 0, _ | 1, _ | 2, _ | 3, _ | 4, _ | 5, _ | 6, _ | 7, _ | 8, _ | 9, _ | 10, _ | 11, _ | 12, _ | 13, _ | 14, _ | 15, _ | 16, _ | 17, _ | 18, _ | 19, _ | 20, _ | 21, _ | 22, _ | 23, _ | 24, _ | 25, _ | 26, _ | 27, _ | 28, _ | 29, _ | 30, _ | 31, _ => simp [outL, svL]
  | n + 32, h => exact absurd h (by omega)
theorem hvA_at8 (h : Sv) {j : Nat} (hj : j < 8) : (hvA h)[j]? = some (.int .u32 ((((svL h)[j]?).getD 0).toNat : Int)) := by
  match j, hj with
  | 0, _ | 1, _ | 2, _ | 3, _ | 4, _ | 5, _ | 6, _ | 7, _ => rfl

set_option maxRecDepth 1000000 in
set_option maxHeartbeats 16000000 in
theorem sha_bytes (p6 p23 : Nat) (hne : p6 ≠ p23) (h : Sv) (Q0 : Exit → Act → World → Prop) (w : World) (k6 : Blk w p6 (hvA h) 119) (k23 : Blk w p23 (ouA (outL h) 0) 71)
    (s0 s1 s2 s3 s4 s5 s7 s8 s9 s10 s11 s12 s13 s14 s15 s16 s17 s18 s19 s20 s21 s22 s25 s26 s27 s28 s29 s30 s31 s32 s33 s34 s35 s36 s37 s38 s39 s40 s41 s42 s43 s44 s45 s46 s47 s48 s49 s50 s51 s52 s53 s54 s55 s56 s57 s58 s59 s60 s61 s62 s63 s64 s65 s66 s67 s68 s69 s70 s71 s72 s73 s74 s75 s76 s77 s78 s79 s80 s81 s82 s83 s84 s85 s86 s87 s88 s89 s90 s91 s92 s93 s94 s95 s96 s97 s98 s99 s100 s101 s102 s103 s104 s105 s106 s107 s108 s109 s110 s111 s112 s113 s114 s115 s116 s117 s118 s119 s120 s121 s122 s123 s124 s125 s126 s127 s128 s129 s130 s131 s132 s133 s134 s135 s136 s137 s138 s139 s140 s141 s142 s143 s144 s145 s146 s147 s148 s149 s150 s151 s152 s153 s154 s155 s156 s157 s158 s159 s160 s161 s162 s163 s164 s165 s166 s167 s168 s169 s170 s171 s172 s173 s174 s175 s176 s177 s178 s179 s180 s181 s182 s183 s184 s185 s186 s187 s188 s189 s190 s191 s192 s193 s194 s195 s196 s197 s198 s199 s200 s201 s202 s203 s204 s205 s206 s207 s208 s209 s210 s211 s212 s213 s214 s215 s216 s217 s218 s219 s220 s221 s222 s223 s224 s225 s226 s227 s228 s229 s230 s231 s232 s233 s234 s235 s236 s237 s238 s239 s240 s241 s242 s243 s244 s245 s246 s247 s248 s249 s250 s251 s252 s253 s254 s255 s256 s257 s258 s259 s260 s261 s262 s263 s264 s265 s266 : Value)
    (hexit : ∀ (u24 u249 u250 u251 u252 u253 u254 u255 u256 u257 u258 u259 u260 u261 u262 u263 u264 u265 : Value) (w' : World), Blk w' p23 (ouA (outL h) 32) 71 ∧ Only p23 w w' → Q0 (.exit 14) ⟨(s0 :: s1 :: s2 :: s3 :: s4 :: s5 :: .pointer (some ⟨p6, 0, none⟩) :: s7 :: s8 :: s9 :: s10 :: s11 :: s12 :: s13 :: s14 :: s15 :: s16 :: s17 :: s18 :: s19 :: s20 :: s21 :: s22 :: .pointer (some ⟨p23, 0, none⟩) :: u24 :: s25 :: s26 :: s27 :: s28 :: s29 :: s30 :: s31 :: s32 :: s33 :: s34 :: s35 :: s36 :: s37 :: s38 :: s39 :: s40 :: s41 :: s42 :: s43 :: s44 :: s45 :: s46 :: s47 :: s48 :: s49 :: s50 :: s51 :: s52 :: s53 :: s54 :: s55 :: s56 :: s57 :: s58 :: s59 :: s60 :: s61 :: s62 :: s63 :: s64 :: s65 :: s66 :: s67 :: s68 :: s69 :: s70 :: s71 :: s72 :: s73 :: s74 :: s75 :: s76 :: s77 :: s78 :: s79 :: s80 :: s81 :: s82 :: s83 :: s84 :: s85 :: s86 :: s87 :: s88 :: s89 :: s90 :: s91 :: s92 :: s93 :: s94 :: s95 :: s96 :: s97 :: s98 :: s99 :: s100 :: s101 :: s102 :: s103 :: s104 :: s105 :: s106 :: s107 :: s108 :: s109 :: s110 :: s111 :: s112 :: s113 :: s114 :: s115 :: s116 :: s117 :: s118 :: s119 :: s120 :: s121 :: s122 :: s123 :: s124 :: s125 :: s126 :: s127 :: s128 :: s129 :: s130 :: s131 :: s132 :: s133 :: s134 :: s135 :: s136 :: s137 :: s138 :: s139 :: s140 :: s141 :: s142 :: s143 :: s144 :: s145 :: s146 :: s147 :: s148 :: s149 :: s150 :: s151 :: s152 :: s153 :: s154 :: s155 :: s156 :: s157 :: s158 :: s159 :: s160 :: s161 :: s162 :: s163 :: s164 :: s165 :: s166 :: s167 :: s168 :: s169 :: s170 :: s171 :: s172 :: s173 :: s174 :: s175 :: s176 :: s177 :: s178 :: s179 :: s180 :: s181 :: s182 :: s183 :: s184 :: s185 :: s186 :: s187 :: s188 :: s189 :: s190 :: s191 :: s192 :: s193 :: s194 :: s195 :: s196 :: s197 :: s198 :: s199 :: s200 :: s201 :: s202 :: s203 :: s204 :: s205 :: s206 :: s207 :: s208 :: s209 :: s210 :: s211 :: s212 :: s213 :: s214 :: s215 :: s216 :: s217 :: s218 :: s219 :: s220 :: s221 :: s222 :: s223 :: s224 :: s225 :: s226 :: s227 :: s228 :: s229 :: s230 :: s231 :: s232 :: s233 :: s234 :: s235 :: s236 :: s237 :: s238 :: s239 :: s240 :: s241 :: s242 :: s243 :: s244 :: s245 :: s246 :: s247 :: s248 :: u249 :: u250 :: u251 :: u252 :: u253 :: u254 :: u255 :: u256 :: u257 :: u258 :: u259 :: u260 :: u261 :: u262 :: u263 :: u264 :: u265 :: s266 :: []).toArray, []⟩ w') :
    Code.wp Try.prog (Code.loop shL8) Q0 ⟨(s0 :: s1 :: s2 :: s3 :: s4 :: s5 :: .pointer (some ⟨p6, 0, none⟩) :: s7 :: s8 :: s9 :: s10 :: s11 :: s12 :: s13 :: s14 :: s15 :: s16 :: s17 :: s18 :: s19 :: s20 :: s21 :: s22 :: .pointer (some ⟨p23, 0, none⟩) :: .int .i64 0 :: s25 :: s26 :: s27 :: s28 :: s29 :: s30 :: s31 :: s32 :: s33 :: s34 :: s35 :: s36 :: s37 :: s38 :: s39 :: s40 :: s41 :: s42 :: s43 :: s44 :: s45 :: s46 :: s47 :: s48 :: s49 :: s50 :: s51 :: s52 :: s53 :: s54 :: s55 :: s56 :: s57 :: s58 :: s59 :: s60 :: s61 :: s62 :: s63 :: s64 :: s65 :: s66 :: s67 :: s68 :: s69 :: s70 :: s71 :: s72 :: s73 :: s74 :: s75 :: s76 :: s77 :: s78 :: s79 :: s80 :: s81 :: s82 :: s83 :: s84 :: s85 :: s86 :: s87 :: s88 :: s89 :: s90 :: s91 :: s92 :: s93 :: s94 :: s95 :: s96 :: s97 :: s98 :: s99 :: s100 :: s101 :: s102 :: s103 :: s104 :: s105 :: s106 :: s107 :: s108 :: s109 :: s110 :: s111 :: s112 :: s113 :: s114 :: s115 :: s116 :: s117 :: s118 :: s119 :: s120 :: s121 :: s122 :: s123 :: s124 :: s125 :: s126 :: s127 :: s128 :: s129 :: s130 :: s131 :: s132 :: s133 :: s134 :: s135 :: s136 :: s137 :: s138 :: s139 :: s140 :: s141 :: s142 :: s143 :: s144 :: s145 :: s146 :: s147 :: s148 :: s149 :: s150 :: s151 :: s152 :: s153 :: s154 :: s155 :: s156 :: s157 :: s158 :: s159 :: s160 :: s161 :: s162 :: s163 :: s164 :: s165 :: s166 :: s167 :: s168 :: s169 :: s170 :: s171 :: s172 :: s173 :: s174 :: s175 :: s176 :: s177 :: s178 :: s179 :: s180 :: s181 :: s182 :: s183 :: s184 :: s185 :: s186 :: s187 :: s188 :: s189 :: s190 :: s191 :: s192 :: s193 :: s194 :: s195 :: s196 :: s197 :: s198 :: s199 :: s200 :: s201 :: s202 :: s203 :: s204 :: s205 :: s206 :: s207 :: s208 :: s209 :: s210 :: s211 :: s212 :: s213 :: s214 :: s215 :: s216 :: s217 :: s218 :: s219 :: s220 :: s221 :: s222 :: s223 :: s224 :: s225 :: s226 :: s227 :: s228 :: s229 :: s230 :: s231 :: s232 :: s233 :: s234 :: s235 :: s236 :: s237 :: s238 :: s239 :: s240 :: s241 :: s242 :: s243 :: s244 :: s245 :: s246 :: s247 :: s248 :: s249 :: s250 :: s251 :: s252 :: s253 :: s254 :: s255 :: s256 :: s257 :: s258 :: s259 :: s260 :: s261 :: s262 :: s263 :: s264 :: s265 :: s266 :: []).toArray, []⟩ w := by
  conv => arg 2; arg 1; whnf
  go_loopw [24] (fun i wr => ∃ k : Nat, k ≤ 32 ∧ i = .int .i64 k ∧ Blk wr p23 (ouA (outL h) k) 71 ∧ Only p23 w wr) (fun i _ => 32 - (intOf i).toNat)
  case atStart => exact ⟨0, by omega, rfl, k23, Only.refl _ _⟩
  case round =>
    obtain ⟨k, hk, rfl, kk, hO⟩ := hrel
    have kh := hO.blk k6 hne
    clear k6 k23
    by_cases hlt : k < 32
    · have c6 := (blk_cell kh (k / 4)).trans (hvA_at8 h (by omega))
      obtain ⟨v23, hv⟩ := ouA_any (l := outL h) (i := k) hlt
      have c23 := (blk_cell kk k).trans hv
      have f23 := blk_frozen kk k
      have HL := Nm.hide (outL_at h hlt)
      have kS := Nm.hide (show Blk (wr.setCell ⟨p23, k, none⟩ (.int .u8 ((((outL h)[k]?).getD 0).toNat : Int))) p23 (ouA (outL h) (k + 1)) 71 by
        have e := blk_set kk k (.int .u8 ((((outL h)[k]?).getD 0).toNat : Int))
        rw [ouA_set hlt] at e
        exact e)
      have hOS := Nm.hide (hO.set (i := k) (v := .int .u8 ((((outL h)[k]?).getD 0).toNat : Int)))
      have i1 : (0 : Int) ≤ (k : Int) := by omega
      have i2 : (k : Int) < 32 := by omega
      clear hexit hv
      generalize ((svL h)[k / 4]?).getD 0 = x at *
      go_wp2
      rw [show ((x.toNat : Int) / 2 ^ (24 - 8 * (k % 4)) % 256) = ((((outL h)[k]?).getD 0).toNat : Int) by
        rw [HL.out, UInt8.toNat_ofNat']
        rw [Int.natCast_emod, Int.natCast_ediv, Int.natCast_pow]
        rfl]
      go_roundw
      case rel => exact ⟨k + 1, by omega, by go_num, kS.out, hOS.out⟩
      case measure => simp [intOf]; omega
    · obtain rfl : k = 32 := by omega
      go_wp2
      exact ⟨kk, hO⟩
end Go.Proofs.Ytilcbdhcojgcbaa
/- Signatures: mathematics. -/
namespace Go.Proofs.Ytilcbdhcojgcbaa
open Go.RowKit
set_option linter.unusedVariables false

/-- the algorithm's name, as its bytes -/
abbrev algL : List UInt8 := [11, 104, 109, 97, 99, 45, 115, 104, 97, 50, 53, 54, 0]
/-- what is summed -/
def textL (rq body nf : List UInt8) (t f : Nat) : List UInt8 :=
  (if rq.length = 0 then [] else bigL rq.length 2 ++ rq) ++ body ++ nf ++ bigL 255 2 ++ bigL 0 4 ++ algL ++ bigL t 6 ++ bigL f 2 ++ [0, 0, 0, 0]
def sumL (sc rq body nf : List UInt8) (t f : Nat) : List UInt8 := hmacL sc (textL rq body nf t f)
/-- a signature's data -/
def datL (t f : Nat) (sum : List UInt8) (id : Nat) : List UInt8 := algL ++ bigL t 6 ++ bigL f 2 ++ bigL 32 2 ++ sum ++ bigL id 2 ++ [0, 0, 0, 0]
/-- a signature's record -/
def recL (nm dat : List UInt8) : List UInt8 := nm ++ bigL 250 2 ++ bigL 255 2 ++ bigL 0 4 ++ bigL dat.length 2 ++ dat
/-- a message's two numbers -/
def idN (m : List UInt8) : Nat := numL (m.take 2)
def ctN (m : List UInt8) : Nat := numL ((m.drop 10).take 2)
/-- a message that is signed -/
def signL (m nm nf sc rq : List UInt8) (t : Nat) : List UInt8 :=
  m.take 10 ++ bigL (ctN m + 1) 2 ++ m.drop 12 ++ recL nm (datL t 300 (sumL sc rq m nf t 300) (idN m))

theorem hmac_len (k b : List UInt8) : (hmacL k b).length = 32 := by rw [hmacL, shaL]; exact outL_len _
theorem big_len (v n : Nat) : (bigL v n).length = n := by simp [bigL]
theorem dat_len {t f id : Nat} {sum : List UInt8} (h : sum.length = 32) : (datL t f sum id).length = 61 := by simp [datL, big_len, h]
theorem rec_len {nm dat : List UInt8} (h : dat.length = 61) : (recL nm dat).length = nm.length + 71 := by simp [recL, big_len, h]
theorem big_two (a b : UInt8) : bigL (numL [a, b]) 2 = [a, b] := by
  have h : numL [a, b] = a.toNat * 256 + b.toNat := by simp [numL]
  have ha := a.toNat_lt
  have hb := b.toNat_lt
  rw [h]
  show [UInt8.ofNat ((a.toNat * 256 + b.toNat) / 2 ^ 8), UInt8.ofNat ((a.toNat * 256 + b.toNat) / 2 ^ 0)] = _
  have e1 : UInt8.ofNat ((a.toNat * 256 + b.toNat) / 2 ^ 8) = a := by
    apply UInt8.toNat_inj.1
    rw [UInt8.toNat_ofNat']
    omega
  have e2 : UInt8.ofNat ((a.toNat * 256 + b.toNat) / 2 ^ 0) = b := by
    apply UInt8.toNat_inj.1
    rw [UInt8.toNat_ofNat']
    omega
  rw [e1, e2]
theorem two_big {l : List UInt8} (h : l.length = 2) : bigL (numL l) 2 = l := by
  match l, h with
  | [a, b], _ => exact big_two a b
theorem num_two {l : List UInt8} (h : l.length = 2) : numL l < 65536 := by
  match l, h with
  | [a, b], _ =>
    have ha := a.toNat_lt
    have hb := b.toNat_lt
    simp [numL]
    omega
theorem ba_cat (a b : List UInt8) : (ByteArray.mk a.toArray) ++ (ByteArray.mk b.toArray) = ⟨(a ++ b).toArray⟩ := by
  apply ByteArray.ext
  simp
theorem ba_size (a : List UInt8) : (ByteArray.mk a.toArray).size = a.length := by show a.toArray.size = _; simp
theorem ba_mk (s : ByteArray) : (ByteArray.mk s.data.toList.toArray) = s := by
  apply ByteArray.ext
  simp
end Go.Proofs.Ytilcbdhcojgcbaa
/- A signature that is read: mathematics. -/
namespace Go.Proofs.Ytilcbdhcojgcbaa
open Go.RowKit
set_option linter.unusedVariables false

theorem bigL_snoc (a n : Nat) (c : UInt8) : bigL (a * 256 + c.toNat) (n + 1) = bigL a n ++ [c] := by
  have hc := c.toNat_lt
  rw [bigL, List.range_succ, List.map_append, bigL]
  congr 1
  · apply List.map_congr_left
    intro i hi
    have hi' := List.mem_range.1 hi
    congr 1
    have e : n + 1 - 1 - i = (n - 1 - i) + 1 := by omega
    rw [e, Nat.mul_add, Nat.pow_add, Nat.mul_comm (2 ^ (8 * (n - 1 - i))), ← Nat.div_div_eq_div_mul]
    congr 1
    omega
  · simp only [List.map_cons, List.map_nil]
    congr 1
    apply UInt8.toNat_inj.1
    rw [UInt8.toNat_ofNat', show n + 1 - 1 - n = 0 by omega]
    omega

theorem big_num (l : List UInt8) : bigL (numL l) l.length = l := by
  have h : ∀ r : List UInt8, bigL (numL r.reverse) r.reverse.length = r.reverse := by
    intro r
    induction r with
    | nil => rfl
    | cons c r ih => rw [List.reverse_cons, numL_snoc, List.length_append, List.length_singleton, bigL_snoc, ih]
  have := h l.reverse
  rwa [List.reverse_reverse] at this
theorem big_numN {l : List UInt8} {n : Nat} (h : l.length = n) : bigL (numL l) n = l := by rw [← h]; exact big_num l

/-- what stands in a signature's data, of 61 bytes -/
def sT (d : List UInt8) : Nat := numL ((d.drop 13).take 6)
def sF (d : List UInt8) : Nat := numL ((d.drop 19).take 2)
def sS (d : List UInt8) : List UInt8 := (d.drop 23).take 32
def sI (d : List UInt8) : Nat := numL ((d.drop 55).take 2)

theorem cut_next (d : List UInt8) (a n : Nat) : d.drop a = (d.drop a).take n ++ d.drop (a + n) := by
  rw [← List.drop_drop, List.take_append_drop]
theorem dat_parts (d : List UInt8) : d.drop 13 = (d.drop 13).take 6 ++ ((d.drop 19).take 2 ++ ((d.drop 21).take 2 ++ ((d.drop 23).take 32 ++ ((d.drop 55).take 2 ++ d.drop 57)))) := by
  rw [← cut_next d 55 2, ← cut_next d 23 32, ← cut_next d 21 2, ← cut_next d 19 2, ← cut_next d 13 6]

theorem dat_iff {d a : List UInt8} (h : d.length = 61) (ha : a.length = 13) : a ++ d.drop 13 = datL (sT d) (sF d) (sS d) (sI d) ↔ a = algL ∧ (d.drop 21).take 2 = [0, 32] ∧ d.drop 57 = [0, 0, 0, 0] := by
  have e : datL (sT d) (sF d) (sS d) (sI d) = algL ++ ((d.drop 13).take 6 ++ ((d.drop 19).take 2 ++ ([0, 32] ++ ((d.drop 23).take 32 ++ ((d.drop 55).take 2 ++ [0, 0, 0, 0]))))) := by
    rw [datL, sT, sF, sI, sS, big_numN (by simp; omega), big_numN (by simp; omega), big_numN (by simp; omega), show bigL 32 2 = [0, 32] by decide]
    simp only [List.append_assoc]
  have hp := dat_parts d
  have hx : ((d.drop 21).take 2).length = 2 := by simp; omega
  rw [e]
  generalize (d.drop 13).take 6 = p6 at hp ⊢
  generalize (d.drop 19).take 2 = p2 at hp ⊢
  generalize (d.drop 21).take 2 = x2 at hp hx ⊢
  generalize (d.drop 23).take 32 = s32 at hp ⊢
  generalize (d.drop 55).take 2 = i2 at hp ⊢
  generalize d.drop 57 = z4 at hp ⊢
  rw [hp]
  constructor
  · intro hh
    obtain ⟨h1, hh⟩ := List.append_inj hh (by rw [ha]; rfl)
    obtain ⟨_, hh⟩ := List.append_inj hh rfl
    obtain ⟨_, hh⟩ := List.append_inj hh rfl
    obtain ⟨h2, hh⟩ := List.append_inj hh (by rw [hx]; rfl)
    obtain ⟨_, hh⟩ := List.append_inj hh rfl
    obtain ⟨_, hh⟩ := List.append_inj hh rfl
    exact ⟨h1, h2, hh⟩
  · rintro ⟨rfl, h2, h3⟩
    rw [h2, h3]
end Go.Proofs.Ytilcbdhcojgcbaa
/- The forms of data: mathematics. -/
namespace Go.Proofs.Ytilcbdhcojgcbaa.Dt
open Go.RowKit

def alnumB (c : UInt8) : Bool := (decide (48 ≤ c.toNat) && decide (c.toNat ≤ 57)) || ((decide (97 ≤ c.toNat) && decide (c.toNat ≤ 122)) || (decide (65 ≤ c.toNat) && decide (c.toNat ≤ 90)))

/-- The short text at the beginning, with its length; empty: there is none. -/
def txtS (s : ByteArray) : ByteArray :=
  if h : 0 < s.size then (if s[0].toNat + 1 ≤ s.size then s.extract 0 (s[0].toNat + 1) else ByteArray.empty) else ByteArray.empty

/-- The name at the beginning, from 'at' on; empty: there is none. -/
def nameF : Nat → ByteArray → Nat → ByteArray
  | 0, _, _ => ByteArray.empty
  | f + 1, s, i =>
    if h : i < s.size ∧ i < 255 then
      if s[i].toNat = 0 then s.extract 0 (i + 1)
      else if 63 < s[i].toNat then ByteArray.empty
      else nameF f s (i + s[i].toNat + 1)
    else ByteArray.empty

def nameAtS (s : ByteArray) : ByteArray := nameF 256 s 0

theorem nameF_enough : ∀ (f g : Nat) (s : ByteArray) (i : Nat), 255 < f + i → 255 < g + i → nameF f s i = nameF g s i := by
  intro f
  induction f with
  | zero =>
    intro g s i hf hg
    cases g with
    | zero => rfl
    | succ g => rw [nameF, nameF, dif_neg (by omega)]
  | succ f ih =>
    intro g s i hf hg
    cases g with
    | zero => rw [nameF, nameF, dif_neg (by omega)]
    | succ g =>
      rw [nameF, nameF]
      by_cases h : i < s.size ∧ i < 255
      · rw [dif_pos h, dif_pos h, ih g s _ (by omega) (by omega)]
      · rw [dif_neg h, dif_neg h]

def formS (t : Int) : ByteArray :=
  if t = 1 then ⟨#[98, 98, 98, 98]⟩
  else if t = 2 ∨ t = 5 ∨ t = 12 ∨ t = 39 then ⟨#[110]⟩
  else if t = 6 then ⟨#[110, 110, 98, 98, 98, 98, 98, 98, 98, 98, 98, 98, 98, 98, 98, 98, 98, 98, 98, 98, 98, 98]⟩
  else if t = 13 then ⟨#[116, 116]⟩
  else if t = 15 then ⟨#[98, 98, 110]⟩
  else if t = 16 then ⟨#[115]⟩
  else if t = 28 then ⟨#[98, 98, 98, 98, 98, 98, 98, 98, 98, 98, 98, 98, 98, 98, 98, 98]⟩
  else if t = 33 then ⟨#[98, 98, 98, 98, 98, 98, 110]⟩
  else if t = 35 then ⟨#[98, 98, 98, 98, 116, 116, 116, 110]⟩
  else if t = 47 then ⟨#[110, 109]⟩
  else if t = 257 then ⟨#[98, 99]⟩
  else ⟨#[42]⟩
end Go.Proofs.Ytilcbdhcojgcbaa.Dt
/- Type maps, as plain mathematics. -/
namespace Go.Proofs.Ytilcbdhcojgcbaa
open Go.RowKit
set_option linter.unusedVariables false

/-- Whether it is a type map whose first window comes behind 'last'. -/
def mapF : Nat → Int → ByteArray → Bool
  | 0, _, _ => true
  | f + 1, last, s =>
    if s.size = 0 then true
    else if h : 2 ≤ s.size then
      if h2 : last < (s[0].toNat : Int) ∧ 1 ≤ s[1].toNat ∧ s[1].toNat ≤ 32 ∧ s[1].toNat + 2 ≤ s.size then
        if s[s[1].toNat + 1].toNat = 0 then false else mapF f (s[0].toNat : Int) (s.extract (s[1].toNat + 2) s.size)
      else false
    else false

theorem mapF_enough : ∀ (f g : Nat) (last : Int) (s : ByteArray), s.size < f → s.size < g → mapF f last s = mapF g last s := by
  intro f
  induction f with
  | zero => intro g last s hf; omega
  | succ f ih =>
    intro g last s hf hg
    cases g with
    | zero => omega
    | succ g =>
      rw [mapF, mapF]
      by_cases h0 : s.size = 0
      · rw [if_pos h0, if_pos h0]
      rw [if_neg h0, if_neg h0]
      by_cases h : 2 ≤ s.size
      · rw [dif_pos h, dif_pos h]
        by_cases h2 : last < (s[0].toNat : Int) ∧ 1 ≤ s[1].toNat ∧ s[1].toNat ≤ 32 ∧ s[1].toNat + 2 ≤ s.size
        · rw [dif_pos h2, dif_pos h2]
          by_cases h3 : s[s[1].toNat + 1].toNat = 0
          · rw [if_pos h3, if_pos h3]
          · rw [if_neg h3, if_neg h3]
            have he : (s.extract (s[1].toNat + 2) s.size).size = s.size - (s[1].toNat + 2) := by simp
            exact ih g _ _ (by omega) (by omega)
        · rw [dif_neg h2, dif_neg h2]
      · rw [dif_neg h, dif_neg h]

def mapS (s : ByteArray) : Bool := mapF (s.size + 1) (-1) s

theorem map_end {f : Nat} {last : Int} {s : ByteArray} (h : s.size = 0) : mapF (f + 1) last s = true := by rw [mapF, if_pos h]
theorem map_one {f : Nat} {last : Int} {s : ByteArray} (h : s.size = 1) : mapF (f + 1) last s = false := by rw [mapF, if_neg (by omega), dif_neg (by omega)]
theorem map_no {f : Nat} {last : Int} {s : ByteArray} (h : 2 ≤ s.size) (h2 : ¬ (last < (s[0].toNat : Int) ∧ 1 ≤ s[1].toNat ∧ s[1].toNat ≤ 32 ∧ s[1].toNat + 2 ≤ s.size)) : mapF (f + 1) last s = false := by
  rw [mapF, if_neg (by omega), dif_pos h, dif_neg h2]
theorem map_zero {f : Nat} {last : Int} {s : ByteArray} (h : 2 ≤ s.size) (h2 : last < (s[0].toNat : Int) ∧ 1 ≤ s[1].toNat ∧ s[1].toNat ≤ 32 ∧ s[1].toNat + 2 ≤ s.size) (h3 : (s[s[1].toNat + 1]'(by omega)).toNat = 0) : mapF (f + 1) last s = false := by
  rw [mapF, if_neg (by omega), dif_pos h, dif_pos h2, if_pos h3]
theorem map_step {last : Int} {s : ByteArray} (h : 2 ≤ s.size) (h2 : last < (s[0].toNat : Int) ∧ 1 ≤ s[1].toNat ∧ s[1].toNat ≤ 32 ∧ s[1].toNat + 2 ≤ s.size) (h3 : (s[s[1].toNat + 1]'(by omega)).toNat ≠ 0) :
    mapF (s.size + 1) last s = mapF ((s.extract (s[1].toNat + 2) s.size).size + 1) (s[0].toNat : Int) (s.extract (s[1].toNat + 2) s.size) := by
  rw [mapF, if_neg (by omega), dif_pos h, dif_pos h2, if_neg h3]
  have he : (s.extract (s[1].toNat + 2) s.size).size = s.size - (s[1].toNat + 2) := by simp
  exact mapF_enough _ _ _ _ (by omega) (by omega)

theorem not_empty {s : ByteArray} (h : 0 < s.size) : (s.toList == []) = false ∧ (s.toList != []) = true := by
  have : s.toList ≠ [] := by
    rw [ByteArray.toList_eq]
    intro e
    have h9 := congrArg List.length e
    rw [Array.length_toList] at h9
    have h8 : s.size = 0 := h9
    omega
  simp [this]

theorem ba_empty {s : ByteArray} (h : s.size = 0) : s = ⟨#[]⟩ := by
  apply ByteArray.ext
  exact Array.eq_empty_of_size_eq_zero h
theorem beq_empty {s : ByteArray} (h : s.size = 0) : (s.toList == []) = true ∧ (s.toList != []) = false := by
  have : s.toList = [] := List.length_eq_zero_iff.1 (by rw [Nm.tl_len]; exact h)
  simp [this]

end Go.Proofs.Ytilcbdhcojgcbaa
/- Folding, and the order of texts, as plain mathematics. -/
namespace Go.Proofs.Ytilcbdhcojgcbaa.Nm
open Go.RowKit

def low (c : UInt8) : UInt8 := if 65 ≤ c.toNat ∧ c.toNat ≤ 90 then UInt8.ofNat (c.toNat + 32) else c
def smallL (l : List UInt8) : List UInt8 := l.map low
def small (s : ByteArray) : ByteArray := ⟨(smallL s.data.toList).toArray⟩

theorem low_up {c : UInt8} (h : 65 ≤ c.toNat ∧ c.toNat ≤ 90) : ((low c).toNat : Int) = (c.toNat : Int) + 32 := by
  rw [low, if_pos h]; simp; omega
theorem low_id {c : UInt8} (h : ¬ (65 ≤ c.toNat ∧ c.toNat ≤ 90)) : low c = c := by rw [low, if_neg h]

theorem small_data (s : ByteArray) : (small s).data.toList = smallL s.data.toList := by simp [small]
theorem small_size (s : ByteArray) : (small s).size = s.size := by
  have : (small s).data.toList.length = s.data.toList.length := by rw [small_data]; simp [smallL]
  simpa using this

theorem ba_ext {a b : ByteArray} (h : a.data.toList = b.data.toList) : a = b := by
  apply ByteArray.ext
  exact Array.toList_inj.1 h

theorem smallL_step {l : List UInt8} {k : Nat} {c : UInt8} (h : l[k]? = some c) : smallL (l.take (k + 1)) = smallL (l.take k) ++ [low c] := by
  rw [take_step h]; simp [smallL]

theorem get_data {x : ByteArray} {j : Nat} (h : j < x.size) : x.data.toList[j]? = some x[j] := by
  rw [List.getElem?_eq_getElem (by simpa using h)]; rfl

/-! What 'split' gives back, put together again. -/

theorem cut_data (r : ByteArray) (h : 0 < r.size) (n : Nat) :
    r.data.toList = r[0] :: ((r.extract 1 (n + 1)).data.toList ++ (r.extract (n + 1) r.size).data.toList) := by
  have e0 : r.data.toList = r[0] :: r.data.toList.drop 1 := by
    have hl : 0 < r.data.toList.length := by simpa using h
    have := List.drop_eq_getElem_cons (i := 0) hl
    rw [List.drop_zero] at this
    exact this
  rw [e0]
  congr 1
  have e1 : (r.extract 1 (n + 1)).data.toList = (r.data.toList.drop 1).take n := by simp
  have e2 : (r.extract (n + 1) r.size).data.toList = (r.data.toList.drop 1).drop n := by
    simp only [ByteArray.data_extract, Array.toList_extract, List.drop_drop]
    rw [List.extract_eq_take_drop, List.take_of_length_le (by simp)]
    congr 1
    omega
  rw [e1, e2, List.take_append_drop]

theorem splitF_join : ∀ (f : Nat) (r : ByteArray) (ls : List ByteArray), splitF f r = some ls → joinL ls = r.data.toList ∧ ∀ x ∈ ls, 1 ≤ x.size ∧ x.size ≤ 63 := by
  intro f
  induction f with
  | zero => intro r ls h; simp [splitF] at h
  | succ f ih =>
    intro r ls h
    by_cases hp : 0 < r.size
    · by_cases h0 : r[0].toNat = 0
      · by_cases h1 : r.size = 1
        · rw [splitF_end f r hp h0 h1] at h
          simp at h
          subst h
          refine ⟨?_, by simp⟩
          have e := cut_data r hp 0
          have z : r[0] = 0 := UInt8.toNat_inj.1 (by simpa using h0)
          rw [e, z]
          have e1 : (r.extract 1 (0 + 1)).data.toList = [] := by simp
          have e2 : (r.extract (0 + 1) r.size).data.toList = [] := by simp [h1]
          rw [e1, e2]; rfl
        · rw [splitF_zero f r hp h0 h1] at h; simp at h
      · by_cases h1 : 63 < r[0].toNat ∨ r.size < r[0].toNat + 1
        · rw [splitF_bad f r hp h0 h1] at h; simp at h
        · rw [splitF_step f r hp h0 (by omega) (by omega)] at h
          cases e : splitF f (r.extract (r[0].toNat + 1) r.size) with
          | none => rw [e] at h; simp at h
          | some t =>
            rw [e] at h
            simp at h
            obtain ⟨i1, i2⟩ := ih _ _ e
            have hsz : (r.extract 1 (r[0].toNat + 1)).size = r[0].toNat := by simp; omega
            rw [← h]
            constructor
            · rw [cut_data r hp r[0].toNat, ← i1]
              simp only [joinL, preL, hsz]
              simp
            · intro x hx
              rcases List.mem_cons.1 hx with rfl | hx
              · rw [hsz]; omega
              · exact i2 x hx
    · rw [splitF_empty _ r (by omega)] at h; simp at h

theorem split_join {s : ByteArray} {ls : List ByteArray} (h : split s = some ls) : joinL ls = s.data.toList ∧ ∀ x ∈ ls, 1 ≤ x.size ∧ x.size ≤ 63 := by
  by_cases hl : s.size ≤ 255
  · rw [split_short s hl] at h
    exact splitF_join _ _ _ h
  · rw [split_long s (by omega)] at h; simp at h

theorem low_len {n : Nat} (h : n ≤ 63) : low (UInt8.ofNat n) = UInt8.ofNat n := by
  apply low_id
  simp; omega

theorem preL_small (ls : List ByteArray) (h : ∀ x ∈ ls, x.size ≤ 63) : preL (ls.map small) = smallL (preL ls) := by
  induction ls with
  | nil => rfl
  | cons x r ih =>
    have hx := h x (List.mem_cons_self)
    have := ih (fun y hy => h y (List.mem_cons_of_mem _ hy))
    simp only [List.map_cons, preL, small_size, small_data, this]
    simp [smallL, low_len hx]

theorem joinL_small {s : ByteArray} {ls : List ByteArray} (h : split s = some ls) : (⟨(joinL (ls.map small)).toArray⟩ : ByteArray) = small s := by
  obtain ⟨h1, h2⟩ := split_join h
  apply ba_ext
  rw [small_data, ← h1]
  simp only [joinL]
  rw [preL_small ls (fun x hx => (h2 x hx).2)]
  simp [smallL, low]

theorem wsum_small (ls : List ByteArray) : wsum (ls.map small) = wsum ls := by
  induction ls with
  | nil => rfl
  | cons x r ih => simp only [List.map_cons, wsum, small_size, ih]

def foldS (s : ByteArray) : ByteArray := if (split s).isSome then small s else ByteArray.empty
theorem foldS_none {s : ByteArray} (h : split s = none) : foldS s = ByteArray.empty := by simp [foldS, h]
theorem foldS_some {s : ByteArray} {ls : List ByteArray} (h : split s = some ls) : foldS s = small s := by simp [foldS, h]

end Go.Proofs.Ytilcbdhcojgcbaa.Nm
/- The pieces of a form of data, as plain mathematics. -/
namespace Go.Proofs.Ytilcbdhcojgcbaa.Dt
open Go.RowKit

/-- How many bytes of short texts stand behind one another at the beginning. -/
def txsF : Nat → ByteArray → Nat
  | 0, _ => 0
  | f + 1, d => if (txtS d).size = 0 then 0 else (txtS d).size + txsF f (d.extract (txtS d).size d.size)

theorem txt_le (d : ByteArray) : (txtS d).size ≤ d.size := by
  unfold txtS
  split
  · split
    · simp; omega
    · simp
  · simp

theorem txsF_enough : ∀ (f g : Nat) (d : ByteArray), d.size < f → d.size < g → txsF f d = txsF g d := by
  intro f
  induction f with
  | zero => intro g d hf; omega
  | succ f ih =>
    intro g d hf hg
    cases g with
    | zero => omega
    | succ g =>
      rw [txsF, txsF]
      by_cases h : (txtS d).size = 0
      · rw [if_pos h, if_pos h]
      · have := txt_le d
        rw [if_neg h, if_neg h, ih g _ (by simp; omega) (by simp; omega)]

def txsS (d : ByteArray) : Nat := txsF (d.size + 1) d

theorem txs_none {d : ByteArray} (h : (txtS d).size = 0) : txsS d = 0 := by rw [txsS, txsF, if_pos h]
theorem txs_step {d : ByteArray} (h : (txtS d).size ≠ 0) : txsS d = (txtS d).size + txsS (d.extract (txtS d).size d.size) := by
  have := txt_le d
  rw [txsS, txsF, if_neg h, txsF_enough _ ((d.extract (txtS d).size d.size).size + 1) _ (by simp; omega) (by simp)]
  rfl

theorem txsF_le : ∀ (f : Nat) (d : ByteArray), txsF f d ≤ d.size := by
  intro f
  induction f with
  | zero => intro d; simp [txsF]
  | succ f ih =>
    intro d
    rw [txsF]
    split
    · omega
    · have := ih (d.extract (txtS d).size d.size)
      have h2 := txt_le d
      simp at this
      omega
theorem txs_le (d : ByteArray) : txsS d ≤ d.size := txsF_le _ d

def tagB (d : ByteArray) : Bool := decide (2 ≤ (txtS d).size) && decide ((txtS d).size ≤ 16) && ((txtS d).data.toList.drop 1).all alnumB

/-- The pieces of a form: a name, so many bytes, a short text, short texts, short texts up to the end, a tag, a tag and the rest, a type map, the rest. -/
abbrev Pc : Type := Option (Option (Option (Option (Option (Option (Option (Option Nat)))))))
abbrev Pc.nm : Pc := none
abbrev Pc.tx : Pc := some none
abbrev Pc.txs : Pc := some (some none)
abbrev Pc.txe : Pc := some (some (some none))
abbrev Pc.tag : Pc := some (some (some (some none)))
abbrev Pc.tagr : Pc := some (some (some (some (some none))))
abbrev Pc.mp : Pc := some (some (some (some (some (some none)))))
abbrev Pc.rs : Pc := some (some (some (some (some (some (some none))))))
abbrev Pc.bs (n : Nat) : Pc := some (some (some (some (some (some (some (some n)))))))

theorem Pc.elim {P : Pc → Prop} (p : Pc) (nm : P Pc.nm) (bs : ∀ n, P (Pc.bs n)) (tx : P Pc.tx) (txs : P Pc.txs) (txe : P Pc.txe) (tag : P Pc.tag) (tagr : P Pc.tagr) (mp : P Pc.mp) (rs : P Pc.rs) : P p := by
  rcases p with _ | _ | _ | _ | _ | _ | _ | _ | n
  · exact nm
  · exact tx
  · exact txs
  · exact txe
  · exact tag
  · exact tagr
  · exact mp
  · exact rs
  · exact bs n

def Pc.isN : Pc → Bool
  | none => true
  | some _ => false

/-- How many bytes the piece has that stands at the beginning; none: it does not stand there. -/
def sz : Pc → ByteArray → Option Nat
  | none, d => if (nameAtS d).size = 0 then none else some (nameAtS d).size
  | some none, d => if (txtS d).size = 0 then none else some (txtS d).size
  | some (some none), d => if txsS d = 0 then none else some (txsS d)
  | some (some (some none)), d => if txsS d = 0 ∨ txsS d ≠ d.size then none else some d.size
  | some (some (some (some none))), d => if tagB d then some (txtS d).size else none
  | some (some (some (some (some none)))), d => if tagB d then some d.size else none
  | some (some (some (some (some (some none))))), d => if mapS d then some d.size else none
  | some (some (some (some (some (some (some none)))))), d => some d.size
  | some (some (some (some (some (some (some (some n))))))), d => if n ≤ d.size then some n else none

theorem nameF_le : ∀ (f : Nat) (s : ByteArray) (i : Nat), (nameF f s i).size ≤ s.size := by
  intro f
  induction f with
  | zero => intro s i; simp [nameF]
  | succ f ih =>
    intro s i
    rw [nameF]
    split
    · split
      · simp; omega
      · split
        · simp
        · exact ih _ _
    · simp
theorem name_le (s : ByteArray) : (nameAtS s).size ≤ s.size := nameF_le _ _ _

theorem sz_le {p : Pc} {d : ByteArray} {n : Nat} (h : sz p d = some n) : n ≤ d.size := by
  have h1 := name_le d
  have h2 := txt_le d
  have h3 := txs_le d
  cases p using Pc.elim <;> simp only [sz] at h
  all_goals first
    | (split at h
       · simp at h
       · simp at h; omega)
    | (split at h
       · simp at h; omega
       · simp at h)
    | (simp at h; omega)

/-- The parts of data, by a form; none: it has not the form. -/
def parts : List Pc → ByteArray → Option (List ByteArray)
  | [], d => if d.size = 0 then some [] else none
  | p :: r, d =>
    match sz p d with
    | none => none
    | some n => (parts r (d.extract n d.size)).map (fun l => d.extract 0 n :: l)

/-- Where the names stand in data whose first byte is the a-th. -/
def spans : List Pc → Nat → ByteArray → Option (List (Nat × Nat))
  | [], _, d => if d.size = 0 then some [] else none
  | p :: r, a, d =>
    match sz p d with
    | none => none
    | some n => (spans r (a + n) (d.extract n d.size)).map (fun l => if p.isN then (a, a + n) :: l else l)

def spansOf : List Pc → List ByteArray → Nat → List (Nat × Nat)
  | p :: r, x :: xs, a => if p.isN then (a, a + x.size) :: spansOf r xs (a + x.size) else spansOf r xs (a + x.size)
  | _, _, _ => []

theorem spans_of_parts : ∀ (fs : List Pc) (d : ByteArray) (a : Nat), spans fs a d = (parts fs d).map (fun ps => spansOf fs ps a) := by
  intro fs
  induction fs with
  | nil => intro d a; rw [spans, parts]; split <;> simp [spansOf]
  | cons p r ih =>
    intro d a
    rw [spans, parts]
    cases h : sz p d with
    | none => simp
    | some n =>
      have hn := sz_le h
      simp only [ih]
      cases parts r (d.extract n d.size) with
      | none => simp
      | some l =>
        have : (d.extract 0 n).size = n := by simp; omega
        simp [spansOf, this]

theorem spans_bs (m n : Nat) (r : List Pc) (a : Nat) (d : ByteArray) : spans (.bs m :: .bs n :: r) a d = spans (.bs (m + n) :: r) a d := by
  rw [spans, spans]
  simp only [sz]
  by_cases h : m ≤ d.size
  · rw [if_pos h]
    simp only [spans, sz]
    have e : (d.extract m d.size).size = d.size - m := by simp
    rw [e]
    by_cases h2 : m + n ≤ d.size
    · rw [if_pos (by omega), if_pos h2]
      have e2 : (d.extract m d.size).extract n (d.size - m) = d.extract (m + n) d.size := by
        rw [ByteArray.extract_extract]
        congr 1
        omega
      simp only [e2, Pc.isN, Nat.add_assoc]
      simp
    · rw [if_neg (by omega), if_neg h2]; simp
  · rw [if_neg h, if_neg (by omega)]

theorem spans_tag (a : Nat) (d : ByteArray) : spans [.tagr] a d = spans [.tag, .rs] a d := by
  have h2 := txt_le d
  simp only [spans, sz]
  by_cases h : tagB d
  · simp [h, Pc.isN]
  · simp [h]

theorem spans_txs (a : Nat) (d : ByteArray) : spans [.txs] a d = spans [.txe] a d := by
  have h3 := txs_le d
  simp only [spans, sz]
  by_cases h : txsS d = 0
  · simp [h]
  · by_cases h2 : txsS d = d.size
    · have h4 : d.size ≠ 0 := by omega
      simp [h2, h4, Pc.isN]
    · simp [h, h2]
      omega

/-- A form's letter as a piece. -/
def letP (c : UInt8) : Pc :=
  if c = 110 then .nm else if c = 98 then .bs 1 else if c = 116 then .tx else if c = 115 then .txs else if c = 99 then .tagr else if c = 109 then .mp else .rs

def specP (t : Int) : List Pc := (formS t).data.toList.map letP

def implP (t : Int) : List Pc :=
  if t = 1 then [.bs 4]
  else if t = 28 then [.bs 16]
  else if t = 2 ∨ t = 5 ∨ t = 12 ∨ t = 39 then [.nm]
  else if t = 15 then [.bs 2, .nm]
  else if t = 6 then [.nm, .nm, .bs 20]
  else if t = 33 then [.bs 6, .nm]
  else if t = 16 then [.txe]
  else if t = 13 then [.tx, .tx]
  else if t = 35 then [.bs 4, .tx, .tx, .tx, .nm]
  else if t = 257 then [.bs 1, .tag, .rs]
  else if t = 47 then [.nm, .mp]
  else [.rs]

theorem spans_cons {p : Pc} {r r' : List Pc} (h : ∀ a d, spans r a d = spans r' a d) (a : Nat) (d : ByteArray) : spans (p :: r) a d = spans (p :: r') a d := by
  rw [spans, spans]
  cases sz p d with
  | none => rfl
  | some n => simp only [h]

theorem forms_agree (t : Int) (a : Nat) (d : ByteArray) : spans (specP t) a d = spans (implP t) a d := by
  unfold specP implP formS
  by_cases h1 : t = 1
  · subst h1; simp [letP, spans_bs]
  by_cases h2 : t = 2 ∨ t = 5 ∨ t = 12 ∨ t = 39
  · have : t ≠ 28 := by omega
    simp [h1, h2, this, letP]
  by_cases h3 : t = 6
  · subst h3
    simp [letP]
    refine spans_cons (fun a d => ?_) a d
    refine spans_cons (fun a d => ?_) a d
    simp [spans_bs]
  by_cases h4 : t = 13
  · subst h4; simp [letP]
  by_cases h5 : t = 15
  · subst h5; simp [letP, spans_bs]
  by_cases h6 : t = 16
  · subst h6; simp [letP, spans_txs]
  by_cases h7 : t = 28
  · subst h7; simp [letP, spans_bs]
  by_cases h8 : t = 33
  · subst h8; simp [letP, spans_bs]
  by_cases h9 : t = 35
  · subst h9; simp [letP, spans_bs]
  by_cases h10 : t = 47
  · subst h10; simp [letP]
  by_cases h11 : t = 257
  · subst h11
    simp [letP]
    exact spans_cons (fun a d => spans_tag a d) a d
  simp [h1, h2, h3, h4, h5, h6, h7, h8, h9, h10, h11, letP]
end Go.Proofs.Ytilcbdhcojgcbaa.Dt
/- Names at the beginning of a text are names; data folded, by its parts and by its places. -/
namespace Go.Proofs.Ytilcbdhcojgcbaa.Dt
open Go.RowKit
set_option linter.unusedVariables false

theorem ext_get {s : ByteArray} {i e : Nat} (h : i < e) (he : e ≤ s.size) : (s.extract i e)[0]'(by simp; omega) = s[i] := by
  rw [ByteArray.getElem_extract]
  simp

theorem ext_ext {s : ByteArray} {i e n : Nat} (h : i + n ≤ e) (he : e ≤ s.size) : (s.extract i e).extract n (s.extract i e).size = s.extract (i + n) e := by
  rw [ByteArray.extract_extract]
  congr 1
  simp
  omega

theorem nameF_name : ∀ (f : Nat) (s : ByteArray) (i : Nat), (nameF f s i).size ≠ 0 →
    ∃ e, i < e ∧ e ≤ 255 ∧ e ≤ s.size ∧ nameF f s i = s.extract 0 e ∧ ∀ g, e - i < g → (Nm.splitF g (s.extract i e)).isSome = true := by
  intro f
  induction f with
  | zero => intro s i h; simp [nameF] at h
  | succ f ih =>
    intro s i h
    rw [nameF] at h ⊢
    by_cases h1 : i < s.size ∧ i < 255
    · rw [dif_pos h1] at h ⊢
      by_cases h2 : s[i].toNat = 0
      · rw [if_pos h2]
        refine ⟨i + 1, by omega, by omega, by omega, rfl, ?_⟩
        intro g hg
        obtain ⟨g, rfl⟩ : ∃ k, g = k + 1 := ⟨g - 1, by omega⟩
        rw [Nm.splitF_end g _ (by simp; omega) (by rw [ext_get (by omega) (by omega)]; exact h2) (by simp; omega)]
        rfl
      · rw [if_neg h2] at h ⊢
        by_cases h3 : 63 < s[i].toNat
        · rw [if_pos h3] at h; simp at h
        · rw [if_neg h3] at h ⊢
          obtain ⟨e, e1, e2, e3, e4, e5⟩ := ih s _ h
          refine ⟨e, by omega, e2, e3, e4, ?_⟩
          intro g hg
          obtain ⟨g, rfl⟩ : ∃ k, g = k + 1 := ⟨g - 1, by omega⟩
          have hp : 0 < (s.extract i e).size := by simp; omega
          have h0 : (s.extract i e)[0] = s[i] := ext_get (by omega) e3
          rw [Nm.splitF_step g _ hp (by rw [h0]; exact h2) (by rw [h0]; omega) (by rw [h0]; simp; omega), h0, ext_ext (by omega) e3]
          have := e5 g (by omega)
          rw [show i + (s[i].toNat + 1) = i + s[i].toNat + 1 by omega]
          simpa using this
    · rw [dif_neg h1] at h; simp at h

theorem nameAt_name {s : ByteArray} (h : (nameAtS s).size ≠ 0) : (Nm.split (nameAtS s)).isSome = true := by
  obtain ⟨e, e1, e2, e3, e4, e5⟩ := nameF_name 256 s 0 h
  have e6 : nameAtS s = s.extract 0 e := e4
  rw [e6, Nm.split_short _ (by simp; omega)]
  exact e5 256 (by omega)

theorem ext_all (s : ByteArray) : s.extract 0 s.size = s := by simp

theorem splitF_nameF : ∀ (g : Nat) (f : Nat) (s : ByteArray) (i : Nat), s.size ≤ 255 → 255 < f + i → i ≤ s.size → (Nm.splitF g (s.extract i s.size)).isSome = true → nameF f s i = s := by
  intro g
  induction g with
  | zero => intro f s i _ _ _ h; simp [Nm.splitF] at h
  | succ g ih =>
    intro f s i hs hf hi h
    by_cases hp : i < s.size
    · obtain ⟨f, rfl⟩ : ∃ k, f = k + 1 := ⟨f - 1, by omega⟩
      have hz : (s.extract i s.size).size = s.size - i := by simp
      have hq : 0 < (s.extract i s.size).size := by omega
      have h0 : (s.extract i s.size)[0] = s[i] := ext_get hp (Nat.le_refl _)
      rw [nameF, dif_pos ⟨hp, by omega⟩]
      by_cases h2 : s[i].toNat = 0
      · rw [if_pos h2]
        by_cases h3 : (s.extract i s.size).size = 1
        · rw [show i + 1 = s.size by omega]; exact ext_all s
        · rw [Nm.splitF_zero g _ hq (by rw [h0]; exact h2) h3] at h; simp at h
      · rw [if_neg h2]
        by_cases h3 : 63 < s[i].toNat ∨ s.size - i < s[i].toNat + 1
        · rw [Nm.splitF_bad g _ hq (by rw [h0]; exact h2) (by rw [h0, hz]; exact h3)] at h; simp at h
        · rw [if_neg (by omega)]
          rw [Nm.splitF_step g _ hq (by rw [h0]; exact h2) (by rw [h0]; omega) (by rw [h0, hz]; omega), h0, ext_ext (by omega) (Nat.le_refl _)] at h
          refine ih f s _ hs (by omega) (by omega) ?_
          rw [show i + (s[i].toNat + 1) = i + s[i].toNat + 1 by omega] at h
          simpa using h
    · rw [Nm.splitF_empty _ _ (by simp; omega)] at h; simp at h

theorem name_iff (s : ByteArray) : (Nm.split s).isSome = true ↔ (nameAtS s).size ≠ 0 ∧ (nameAtS s).size = s.size := by
  constructor
  · intro h
    by_cases hl : s.size ≤ 255
    · rw [Nm.split_short s hl] at h
      have e : nameAtS s = s := splitF_nameF 256 256 s 0 hl (by omega) (by omega) (by simpa using h)
      rw [e]
      refine ⟨?_, rfl⟩
      intro h0
      rw [Nm.splitF_empty _ _ h0] at h; simp at h
    · rw [Nm.split_long s (by omega)] at h; simp at h
  · rintro ⟨h0, h⟩
    obtain ⟨e, e1, e2, e3, e4, e5⟩ := nameF_name 256 s 0 h0
    have e6 : nameAtS s = s.extract 0 e := e4
    have e7 : e = s.size := by rw [e6] at h; simp at h; omega
    have e8 : nameAtS s = s := by rw [e6, e7]; exact ext_all s
    have := nameAt_name h0
    rwa [e8] at this

/-! Folding. -/

def catL (ps : List ByteArray) : List UInt8 := (ps.map (fun x => x.data.toList)).flatten

def foldL : List Pc → List ByteArray → List UInt8
  | p :: r, x :: xs => (if p.isN then Nm.smallL x.data.toList else x.data.toList) ++ foldL r xs
  | _, _ => []

theorem ext_cat (d : ByteArray) (n : Nat) (h : n ≤ d.size) : (d.extract 0 n).data.toList ++ (d.extract n d.size).data.toList = d.data.toList := by
  have e1 : (d.extract 0 n).data.toList = d.data.toList.take n := by simp
  have e2 : (d.extract n d.size).data.toList = d.data.toList.drop n := by
    simp only [ByteArray.data_extract, Array.toList_extract]
    rw [List.extract_eq_take_drop, List.take_of_length_le (by simp)]
  rw [e1, e2, List.take_append_drop]

theorem parts_cat : ∀ (fs : List Pc) (d : ByteArray) (ps : List ByteArray), parts fs d = some ps → fs.length = ps.length ∧ catL ps = d.data.toList ∧
    ∀ (i : Nat) (p : Pc) (x : ByteArray), fs[i]? = some p → ps[i]? = some x → p.isN = true → (Nm.split x).isSome = true := by
  intro fs
  induction fs with
  | nil =>
    intro d ps h
    rw [parts] at h
    split at h
    · rename_i h0
      simp at h
      subst h
      refine ⟨rfl, ?_, ?_⟩
      · have : d.data.toList.length = 0 := by simpa using h0
        rw [List.length_eq_zero_iff.1 this]; rfl
      · intro i p x h; simp at h
    · simp at h
  | cons p r ih =>
    intro d ps h
    rw [parts] at h
    cases hs : sz p d with
    | none => rw [hs] at h; simp at h
    | some n =>
      rw [hs] at h
      have hn := sz_le hs
      cases hr : parts r (d.extract n d.size) with
      | none => simp [hr] at h
      | some l =>
        simp [hr] at h
        obtain ⟨i1, i2, i3⟩ := ih _ _ hr
        subst h
        refine ⟨by simp [i1], ?_, ?_⟩
        · have : catL (d.extract 0 n :: l) = (d.extract 0 n).data.toList ++ catL l := by simp [catL]
          rw [this, i2, ext_cat d n hn]
        · intro i q x hq hx hN
          cases i with
          | zero =>
            simp at hq hx
            subst hq
            subst hx
            cases p using Pc.elim <;> simp [Pc.isN] at hN
            simp only [sz] at hs
            split at hs
            · simp at hs
            · rename_i h0
              simp at hs
              obtain ⟨e, e1, e2, e3, e4, e5⟩ := nameF_name 256 d 0 h0
              have e6 : nameAtS d = d.extract 0 e := e4
              have e7 : e = n := by rw [e6] at hs; simp at hs; omega
              rw [← e7, ← e6]
              exact nameAt_name h0
          | succ i =>
            simp at hq hx
            exact i3 i q x hq hx hN

def lowIn (s : Nat × Nat) (l : List UInt8) : List UInt8 := l.take s.1 ++ (Nm.smallL ((l.drop s.1).take (s.2 - s.1)) ++ l.drop s.2)
def lowAll (sp : List (Nat × Nat)) (l : List UInt8) : List UInt8 := sp.foldl (fun l s => lowIn s l) l

theorem lowAll_parts : ∀ (fs : List Pc) (ps : List ByteArray) (pre : List UInt8), fs.length = ps.length → lowAll (spansOf fs ps pre.length) (pre ++ catL ps) = pre ++ foldL fs ps := by
  intro fs
  induction fs with
  | nil =>
    intro ps pre h
    have : ps = [] := List.length_eq_zero_iff.1 (by simpa using h.symm)
    subst this
    simp [spansOf, lowAll, foldL, catL]
  | cons p r ih =>
    intro ps pre h
    cases ps with
    | nil => simp at h
    | cons x xs =>
      have hl : r.length = xs.length := by simpa using h
      have hx : x.data.toList.length = x.size := by simp
      have hc : catL (x :: xs) = x.data.toList ++ catL xs := by simp [catL]
      rw [spansOf, hc, foldL]
      cases hN : p.isN with
      | true =>
        simp only [if_true]
        have e1 : lowIn (pre.length, pre.length + x.size) (pre ++ (x.data.toList ++ catL xs)) = (pre ++ Nm.smallL x.data.toList) ++ catL xs := by
          have k1 : (pre ++ (x.data.toList ++ catL xs)).take pre.length = pre := List.take_left' rfl
          have k2 : (pre ++ (x.data.toList ++ catL xs)).drop pre.length = x.data.toList ++ catL xs := List.drop_left' rfl
          have k3 : (x.data.toList ++ catL xs).take x.size = x.data.toList := List.take_left' hx
          have k4 : (pre ++ (x.data.toList ++ catL xs)).drop (pre.length + x.size) = catL xs := by
            rw [← List.append_assoc]
            exact List.drop_left' (by rw [List.length_append, hx])
          simp only [lowIn]
          rw [k1, k2, Nat.add_sub_cancel_left, k3, k4, List.append_assoc]
        have e2 : lowAll ((pre.length, pre.length + x.size) :: spansOf r xs (pre.length + x.size)) (pre ++ (x.data.toList ++ catL xs)) = lowAll (spansOf r xs (pre.length + x.size)) ((pre ++ Nm.smallL x.data.toList) ++ catL xs) := by
          rw [← e1]; rfl
        have e3 : pre.length + x.size = (pre ++ Nm.smallL x.data.toList).length := by simp [Nm.smallL]
        rw [e2, e3, ih xs _ hl]
        simp
      | false =>
        simp only [if_false, Bool.false_eq_true]
        have e3 : pre.length + x.size = (pre ++ x.data.toList).length := by simp
        rw [e3, ← List.append_assoc, ih xs _ hl]
        simp

/-- Data folded; nothing where it is not of its form. -/
def foldDS (t : Int) (d : ByteArray) : ByteArray :=
  match spans (implP t) 0 d with
  | none => ByteArray.empty
  | some sp => ⟨(lowAll sp d.data.toList).toArray⟩

theorem foldDS_none {t : Int} {d : ByteArray} (h : parts (specP t) d = none) : foldDS t d = ByteArray.empty := by
  rw [foldDS, ← forms_agree, spans_of_parts, h]; rfl

theorem foldDS_some {t : Int} {d : ByteArray} {ps : List ByteArray} (h : parts (specP t) d = some ps) : foldDS t d = ⟨(foldL (specP t) ps).toArray⟩ := by
  obtain ⟨h1, h2, h3⟩ := parts_cat _ _ _ h
  rw [foldDS, ← forms_agree, spans_of_parts, h]
  have := lowAll_parts (specP t) ps [] h1
  simp only [List.length_nil, List.nil_append] at this
  rw [h2] at this
  simp only [Option.map_some, this]
end Go.Proofs.Ytilcbdhcojgcbaa.Dt
/- The parts of data, step by step: mathematics. -/
namespace Go.Proofs.Ytilcbdhcojgcbaa.Dt
open Go.RowKit

/-- Where the cutting stands: 'ps' are the parts that were cut off, 'd' is the rest, 'r' the letters that are left. -/
def PAt (fs : List Pc) (d0 : ByteArray) (ps : List ByteArray) (r : List Pc) (d : ByteArray) : Prop :=
  parts fs d0 = (parts r d).map (fun t => ps ++ t)

theorem pat_start (fs : List Pc) (d0 : ByteArray) : PAt fs d0 [] fs d0 := by simp [PAt]
theorem pat_end {fs : List Pc} {d0 d : ByteArray} {ps : List ByteArray} (h : PAt fs d0 ps [] d) (h0 : d.size = 0) : parts fs d0 = some ps := by
  rw [h, parts, if_pos h0]; simp
theorem pat_left {fs : List Pc} {d0 d : ByteArray} {ps : List ByteArray} (h : PAt fs d0 ps [] d) (h0 : d.size ≠ 0) : parts fs d0 = none := by
  rw [h, parts, if_neg h0]; rfl
theorem pat_none {fs r : List Pc} {p : Pc} {d0 d : ByteArray} {ps : List ByteArray} (h : PAt fs d0 ps (p :: r) d) (h0 : sz p d = none) : parts fs d0 = none := by
  rw [h, parts, h0]; rfl
theorem pat_step {fs r : List Pc} {p : Pc} {d0 d x : ByteArray} {ps : List ByteArray} {n : Nat} (h : PAt fs d0 ps (p :: r) d) (h0 : sz p d = some n) (hx : d.extract 0 n = x) : PAt fs d0 (ps ++ [x]) r (d.extract x.size d.size) := by
  have hn := sz_le h0
  have e : x.size = n := by rw [← hx]; simp; omega
  rw [PAt, h, parts, h0, Option.map_map, hx, e]
  congr 1; funext t; simp

theorem drop_let {f : ByteArray} {k : Nat} (hk : k < f.size) : (f.data.toList.map letP).drop k = letP f[k] :: (f.data.toList.map letP).drop (k + 1) := by
  have hl : k < (f.data.toList.map letP).length := by simpa using hk
  rw [List.drop_eq_getElem_cons hl]
  simp
  rfl

theorem name_ext (d : ByteArray) (h : (nameAtS d).size ≠ 0) : d.extract 0 (nameAtS d).size = nameAtS d := by
  obtain ⟨e, e1, e2, e3, e4, e5⟩ := nameF_name 256 d 0 h
  have e6 : nameAtS d = d.extract 0 e := e4
  have e7 : (nameAtS d).size = e := by rw [e6]; simp; omega
  rw [e7, e6]

theorem txt_ext (d : ByteArray) : d.extract 0 (txtS d).size = txtS d := by
  by_cases h : 0 < d.size
  · by_cases h1 : d[0].toNat + 1 ≤ d.size
    · have e : txtS d = d.extract 0 (d[0].toNat + 1) := by rw [txtS, dif_pos h, if_pos h1]
      have e7 : (txtS d).size = d[0].toNat + 1 := by rw [e]; simp; omega
      rw [e7, e]
    · have e : txtS d = ByteArray.empty := by rw [txtS, dif_pos h, if_neg h1]
      rw [e]; simp
  · have e : txtS d = ByteArray.empty := by rw [txtS, dif_neg h]
    rw [e]; simp

theorem ext_none (d : ByteArray) : d.extract d.size d.size = ByteArray.empty := by
  apply Nm.ba_ext
  simp

/-- Where the reading of short texts stands. -/
def TAt (d p : ByteArray) : Prop := p.size ≤ d.size ∧ d.extract 0 p.size = p ∧ txsS d = p.size + txsS (d.extract p.size d.size)

theorem tat_start (d : ByteArray) : TAt d ⟨#[]⟩ := by
  have e : (⟨#[]⟩ : ByteArray).size = 0 := rfl
  refine ⟨by omega, ?_, ?_⟩
  · rw [e]
    apply Nm.ba_ext
    simp
  · rw [e]; simp
theorem tat_end {d p : ByteArray} (h : TAt d p) (h0 : (txtS (d.extract p.size d.size)).size = 0) : txsS d = p.size := by
  rw [h.2.2, txs_none h0]; rfl
theorem tat_step {d p : ByteArray} (h : TAt d p) (h0 : (txtS (d.extract p.size d.size)).size ≠ 0) : TAt d (p ++ txtS (d.extract p.size d.size)) := by
  obtain ⟨h1, h2, h3⟩ := h
  have ht := txt_le (d.extract p.size d.size)
  have hte := txt_ext (d.extract p.size d.size)
  generalize hT : txtS (d.extract p.size d.size) = T at *
  have hz : (p ++ T).size = p.size + T.size := by simp
  have hd : (d.extract p.size d.size).size = d.size - p.size := by simp
  refine ⟨by omega, ?_, ?_⟩
  · apply Nm.ba_ext
    rw [hz]
    have e1 : (p ++ T).data.toList = p.data.toList ++ T.data.toList := by simp
    rw [e1, ← hte]
    conv => rhs; arg 1; rw [← h2]
    simp only [ByteArray.data_extract, Array.toList_extract, List.extract_eq_take_drop]
    simp
    rw [List.take_add]
    congr 1
    rw [List.take_take, Nat.min_eq_left (by omega)]
  · rw [hz, h3, txs_step (by rw [hT]; exact h0), hT]
    have e : (d.extract p.size d.size).extract T.size (d.extract p.size d.size).size = d.extract (p.size + T.size) d.size := ext_ext (by omega) (Nat.le_refl _)
    rw [e]; omega

/-- Where the reading of a tag stands. -/
theorem tag_short {d : ByteArray} (h : (txtS d).size < 2 ∨ 16 < (txtS d).size) : tagB d = false := by
  rw [tagB]
  rcases h with h | h
  · simp; omega
  · simp; omega
theorem tag_bad {d : ByteArray} {k : Nat} (hk : 1 ≤ k) (hl : k < (txtS d).size) (h : alnumB (txtS d)[k] = false) : tagB d = false := by
  rw [tagB, Bool.and_eq_false_iff]
  right
  rw [List.all_eq_false]
  refine ⟨(txtS d)[k], ?_, by simp [h]⟩
  have : ((txtS d).data.toList.drop 1)[k - 1]? = some (txtS d)[k] := by
    rw [List.getElem?_drop, show 1 + (k - 1) = k by omega]
    exact Nm.get_data hl
  exact List.mem_of_getElem? this
theorem tag_good {d : ByteArray} (h2 : 2 ≤ (txtS d).size) (h16 : (txtS d).size ≤ 16) (h : ∀ j, 1 ≤ j → (hj : j < (txtS d).size) → alnumB (txtS d)[j] = true) : tagB d = true := by
  rw [tagB]
  simp only [h2, h16, decide_true, Bool.true_and, List.all_eq_true]
  intro c hc
  obtain ⟨i, hi⟩ := List.getElem?_of_mem hc
  rw [List.getElem?_drop] at hi
  have hl : 1 + i < (txtS d).size := by
    have := (List.getElem?_eq_some_iff.1 hi).1
    simpa using this
  rw [Nm.get_data hl] at hi
  simp at hi
  rw [← hi]
  exact h _ (by omega) hl
end Go.Proofs.Ytilcbdhcojgcbaa.Dt
/- The order of texts and of names, as plain mathematics. -/
namespace Go.Proofs.Ytilcbdhcojgcbaa.Nm
open Go.RowKit

def cmpI (a b : Int) : Int := if a < b then -1 else if b < a then 1 else 0
def ordL (a b : List UInt8) : Int := if Op.bytesLess a b = true then -1 else if a = b then 0 else 1

theorem cmpI_lt {a b : Int} (h : a < b) : cmpI a b = -1 := if_pos h
theorem cmpI_gt {a b : Int} (h : b < a) : cmpI a b = 1 := by rw [cmpI, if_neg (by omega), if_pos h]
theorem cmpI_eq {a b : Int} (h : a = b) : cmpI a b = 0 := by rw [cmpI, if_neg (by omega), if_neg (by omega)]
theorem cmpI_ne {a b : Int} (h : a ≠ b) : cmpI a b ≠ 0 := by
  by_cases h1 : a < b
  · rw [cmpI_lt h1]; decide
  · rw [cmpI_gt (by omega)]; decide

theorem ordL_nil : ordL [] [] = 0 := rfl
theorem ordL_left (y : UInt8) (b : List UInt8) : ordL [] (y :: b) = -1 := rfl
theorem ordL_right (x : UInt8) (a : List UInt8) : ordL (x :: a) [] = 1 := rfl
theorem ordL_same (x : UInt8) (a b : List UInt8) : ordL (x :: a) (x :: b) = ordL a b := by
  simp [ordL, Op.bytesLess]
theorem ordL_ne {x y : UInt8} (a b : List UInt8) (h : x ≠ y) : ordL (x :: a) (y :: b) = cmpI x.toNat y.toNat := by
  have hn : x.toNat ≠ y.toNat := fun e => h (UInt8.toNat_inj.1 e)
  by_cases hl : x < y
  · have hl' : (x.toNat : Int) < (y.toNat : Int) := by have := UInt8.lt_iff_toNat_lt.1 hl; omega
    rw [cmpI_lt hl']
    simp [ordL, Op.bytesLess, hl]
  · have hl' : (y.toNat : Int) < (x.toNat : Int) := by
      have : ¬ x.toNat < y.toNat := fun e => hl (UInt8.lt_iff_toNat_lt.2 e)
      omega
    rw [cmpI_gt hl']
    simp [ordL, Op.bytesLess, hl, h]

theorem ord_at : ∀ (k : Nat) (a b : List UInt8) (x y : UInt8), a.take k = b.take k → a[k]? = some x → b[k]? = some y → x ≠ y → ordL a b = cmpI x.toNat y.toNat := by
  intro k
  induction k with
  | zero =>
    intro a b x y _ hx hy hne
    cases a with
    | nil => simp at hx
    | cons c a =>
      cases b with
      | nil => simp at hy
      | cons d b =>
        simp at hx hy
        subst hx hy
        exact ordL_ne a b hne
  | succ k ih =>
    intro a b x y ht hx hy hne
    cases a with
    | nil => simp at hx
    | cons c a =>
      cases b with
      | nil => simp at hy
      | cons d b =>
        simp at ht hx hy
        obtain ⟨rfl, ht⟩ := ht
        rw [ordL_same]
        exact ih a b x y ht hx hy hne

theorem ord_end : ∀ (k : Nat) (a b : List UInt8), a.take k = b.take k → k ≤ a.length → k ≤ b.length → (k = a.length ∨ k = b.length) → ordL a b = cmpI a.length b.length := by
  intro k
  induction k with
  | zero =>
    intro a b _ _ _ h
    cases a with
    | nil =>
      cases b with
      | nil => rfl
      | cons d b => rw [ordL_left, cmpI_lt (by simp)]
    | cons c a =>
      cases b with
      | nil => rw [ordL_right, cmpI_gt (by simp)]
      | cons d b => simp at h
  | succ k ih =>
    intro a b ht h1 h2 h
    cases a with
    | nil => simp at h1
    | cons c a =>
      cases b with
      | nil => simp at h2
      | cons d b =>
        simp at ht h1 h2 h
        obtain ⟨rfl, ht⟩ := ht
        rw [ordL_same, ih a b ht h1 h2 h]
        simp only [List.length_cons, cmpI]
        congr 1
        · simp
        · congr 1
          simp

theorem take_snoc_eq {a b : List UInt8} {k : Nat} {x y : UInt8} (h : a.take k = b.take k) (hx : a[k]? = some x) (hy : b[k]? = some y) (e : x = y) : a.take (k + 1) = b.take (k + 1) := by
  rw [take_step hx, take_step hy, h, e]

theorem small_get {x : ByteArray} {j : Nat} (h : j < x.size) : (smallL x.data.toList)[j]? = some (low x[j]) := by
  simp only [smallL, List.getElem?_map, get_data h, Option.map_some]

theorem smallL_length (x : ByteArray) : (smallL x.data.toList).length = x.size := by simp [smallL]

def ordS (x y : ByteArray) : Int := ordL (smallL x.data.toList) (smallL y.data.toList)

def cmpRev : List ByteArray → List ByteArray → Int
  | [], [] => 0
  | [], _ :: _ => -1
  | _ :: _, [] => 1
  | x :: a, y :: b => if ordS x y = 0 then cmpRev a b else ordS x y

def cmpLs (xs ys : List ByteArray) : Int := cmpRev xs.reverse ys.reverse

theorem cmp_stop {a b : List ByteArray} {k : Nat} {x y : ByteArray} (hx : a[k]? = some x) (hy : b[k]? = some y) (h : ordS x y ≠ 0) : cmpRev (a.drop k) (b.drop k) = ordS x y := by
  obtain ⟨h1, rfl⟩ := List.getElem?_eq_some_iff.1 hx
  obtain ⟨h2, rfl⟩ := List.getElem?_eq_some_iff.1 hy
  rw [List.drop_eq_getElem_cons h1, List.drop_eq_getElem_cons h2, cmpRev, if_neg h]

theorem cmp_go {a b : List ByteArray} {k : Nat} {x y : ByteArray} (hx : a[k]? = some x) (hy : b[k]? = some y) (h : ordS x y = 0) : cmpRev (a.drop k) (b.drop k) = cmpRev (a.drop (k + 1)) (b.drop (k + 1)) := by
  obtain ⟨h1, rfl⟩ := List.getElem?_eq_some_iff.1 hx
  obtain ⟨h2, rfl⟩ := List.getElem?_eq_some_iff.1 hy
  rw [List.drop_eq_getElem_cons h1, List.drop_eq_getElem_cons h2, cmpRev, if_pos h]

theorem cmp_end {a b : List ByteArray} {k : Nat} (h1 : k ≤ a.length) (h2 : k ≤ b.length) (h : k = a.length ∨ k = b.length) : cmpRev (a.drop k) (b.drop k) = cmpI a.length b.length := by
  rcases h with h | h
  · rw [List.drop_of_length_le (by omega)]
    by_cases e : k = b.length
    · rw [List.drop_of_length_le (by omega), cmpI_eq (by omega)]; rfl
    · rw [List.drop_eq_getElem_cons (by omega : k < b.length), cmpI_lt (by omega)]; rfl
  · rw [List.drop_of_length_le (l := b) (by omega)]
    by_cases e : k = a.length
    · rw [List.drop_of_length_le (by omega), cmpI_eq (by omega)]; rfl
    · rw [List.drop_eq_getElem_cons (by omega : k < a.length), cmpI_gt (by omega)]; rfl

theorem rev_get {ls : List ByteArray} {k : Nat} (h : k < ls.length) {x : ByteArray} (hx : ls[ls.length - (k + 1)]? = some x) : ls.reverse[k]? = some x := by
  rw [List.getElem?_reverse h, ← hx]
  congr 1
  omega

def cmpS (a b : ByteArray) : Int :=
  match split a, split b with
  | some xs, some ys => cmpLs xs ys
  | _, _ => 0

end Go.Proofs.Ytilcbdhcojgcbaa.Nm
/- When two names are the same, as plain mathematics. -/
namespace Go.Proofs.Ytilcbdhcojgcbaa
open Go.RowKit

theorem bless_self : ∀ l : List UInt8, Op.bytesLess l l = false := by
  intro l
  induction l with
  | nil => rfl
  | cons x l ih => simp [Op.bytesLess, ih]

theorem ordL_zero (a b : List UInt8) : Nm.ordL a b = 0 ↔ a = b := by
  constructor
  · intro h
    by_cases h1 : Op.bytesLess a b = true
    · rw [Nm.ordL, if_pos h1] at h; omega
    · rw [Nm.ordL, if_neg h1] at h
      by_cases h2 : a = b
      · exact h2
      · rw [if_neg h2] at h; omega
  · intro h
    subst h
    rw [Nm.ordL, if_neg (by simp [bless_self]), if_pos rfl]

def sameS (a b : ByteArray) : Bool := (Nm.split a).isSome && (Nm.split b).isSome && decide (Nm.ordS a b = 0)

theorem same_left {a b : ByteArray} (h : Nm.split a = none) : sameS a b = false := by simp [sameS, h]
theorem same_right {a b : ByteArray} (h : Nm.split b = none) : sameS a b = false := by simp [sameS, h]
theorem same_some {a b : ByteArray} {xs ys : List ByteArray} (ha : Nm.split a = some xs) (hb : Nm.split b = some ys) : sameS a b = decide (Nm.ordS a b = 0) := by simp [sameS, ha, hb]

theorem small_pos {a : ByteArray} {xs : List ByteArray} (h : Nm.split a = some xs) : (Nm.small a).toList.isEmpty = false := by
  apply Nm.tl_not_empty
  rw [Nm.small_size]
  have := Nm.split_size h
  omega

theorem small_eq (a b : ByteArray) : ((Nm.small a).toList == (Nm.small b).toList) = decide (Nm.ordS a b = 0) := by
  rw [Bool.eq_iff_iff]
  simp only [beq_iff_eq, decide_eq_true_eq, Nm.ordS, ordL_zero]
  rw [ByteArray.toList_eq, ByteArray.toList_eq, Nm.small_data, Nm.small_data]

end Go.Proofs.Ytilcbdhcojgcbaa
/- The algorithm's name at the beginning of a signature's data: mathematics. -/
namespace Go.Proofs.Ytilcbdhcojgcbaa
open Go.RowKit
set_option linter.unusedVariables false

theorem low_is {c d : UInt8} (h : Nm.low c = d) (hd : ¬ (97 ≤ d.toNat ∧ d.toNat ≤ 122)) : c = d := by
  rw [Nm.low] at h
  split at h
  · rename_i hc
    exfalso
    apply hd
    rw [← h, UInt8.toNat_ofNat']
    omega
  · exact h

theorem at_low {s : ByteArray} (h : (s.data.toList.take 13).map Nm.low = algL) (i : Nat) (hi : i < 13) (hs : i < s.size) : Nm.low s[i] = algL[i]'hi := by
  have h1 : ((s.data.toList.take 13).map Nm.low)[i]? = algL[i]? := by rw [h]
  rw [List.getElem?_map, List.getElem?_take_of_lt hi, List.getElem?_eq_getElem (show i < s.data.toList.length by simpa using hs), List.getElem?_eq_getElem hi] at h1
  simpa [ByteArray.getElem_eq_getElem_data] using h1

theorem name_alg {s : ByteArray} (hz : 13 ≤ s.size) (h : (s.data.toList.take 13).map Nm.low = algL) : Dt.nameAtS s = s.extract 0 13 := by
  have e0 : s[0] = 11 := low_is (at_low h 0 (by decide) (by omega)) (by decide)
  have e12 : s[12] = 0 := low_is (at_low h 12 (by decide) (by omega)) (by decide)
  rw [Dt.nameAtS, Dt.nameF, dif_pos ⟨by omega, by omega⟩, e0, if_neg (by decide), if_neg (by decide)]
  show Dt.nameF 255 s 12 = _
  rw [Dt.nameF, dif_pos ⟨by omega, by omega⟩, e12, if_pos (by decide)]

theorem alg_small : Nm.smallL algL = algL := by decide
theorem take_ext (s : ByteArray) (n : Nat) : (s.extract 0 n).data.toList = s.data.toList.take n := by simp [ByteArray.data_extract]

theorem same_alg (s : ByteArray) : sameS (Dt.nameAtS s) ⟨algL.toArray⟩ = true ↔ 13 ≤ s.size ∧ (s.data.toList.take 13).map Nm.low = algL := by
  have hsm : (Nm.small (Dt.nameAtS s)).toList = (Nm.small ⟨algL.toArray⟩).toList ↔ Nm.smallL (Dt.nameAtS s).data.toList = algL := by
    rw [ByteArray.toList_eq, ByteArray.toList_eq, Nm.small_data, Nm.small_data]
    show _ = Nm.smallL algL.toArray.toList ↔ _
    rw [show algL.toArray.toList = algL by simp, alg_small]
  constructor
  · intro h
    simp only [sameS, Bool.and_eq_true] at h
    obtain ⟨⟨h1, _⟩, h3⟩ := h
    rw [← small_eq, beq_iff_eq, hsm] at h3
    have hz : (Dt.nameAtS s).size = 13 := by
      have := congrArg List.length h3
      simpa [Nm.smallL] using this
    have he := Dt.name_ext s (by omega)
    have hle := Dt.name_le s
    rw [hz] at he
    rw [← he, take_ext] at h3
    exact ⟨by omega, h3⟩
  · rintro ⟨hz, h⟩
    have e := name_alg hz h
    have hsz : (Dt.nameAtS s).size = 13 := by rw [e, ByteArray.size_extract]; omega
    have h1 := Dt.nameAt_name (s := s) (by omega)
    simp only [sameS, Bool.and_eq_true]
    refine ⟨⟨h1, by decide⟩, ?_⟩
    rw [← small_eq, beq_iff_eq, hsm, e, take_ext]
    exact h
end Go.Proofs.Ytilcbdhcojgcbaa
/- A name within a message: mathematics. -/
namespace Go.Proofs.Ytilcbdhcojgcbaa

/-- What reading comes to: a code, or what was read and the place behind it. -/
abbrev Rs (α : Type) := Sum Int (α × Nat)
abbrev Rs.bad {α : Type} (code : Int) : Rs α := Sum.inl code
abbrev Rs.ok {α : Type} (x : α) (next : Nat) : Rs α := Sum.inr (x, next)
theorem Rs.elim {α : Type} {motive : Rs α → Prop} (bad : ∀ c, motive (Rs.bad c)) (ok : ∀ x n, motive (Rs.ok x n)) (r : Rs α) : motive r := by
  rcases r with c | ⟨x, n⟩
  · exact bad c
  · exact ok x n

/-- What reading a name comes to. -/
abbrev Dn := Rs (List UInt8)

/-- The byte at a place. -/
def byAt (l : List UInt8) (i : Nat) : Nat := (l.getD i 0).toNat

theorem byAt_lt (l : List UInt8) (i : Nat) : byAt l i < 256 := UInt8.toNat_lt _

theorem byAt_cell {l : List UInt8} {i : Nat} (h : i < l.length) : (Nm.bys l)[i]? = some (.int .u8 (byAt l i : Int)) := by
  simp [Nm.bys, byAt, h]

/-- The name that stands at a place, of which 'acc' has been read; 'nx' is the place behind its first pointer. -/
def dnF (l : List UInt8) (start pos : Nat) (acc : List UInt8) (nx : Option Nat) : Dn :=
  if h : pos < l.length then
    if byAt l pos = 0 then .ok (acc ++ [0]) (nx.getD (pos + 1))
    else if 192 ≤ byAt l pos then
      if pos + 1 < l.length then
        if h3 : (byAt l pos - 192) * 256 + byAt l (pos + 1) < start then
          dnF l ((byAt l pos - 192) * 256 + byAt l (pos + 1)) ((byAt l pos - 192) * 256 + byAt l (pos + 1)) acc (some (nx.getD (pos + 2)))
        else .bad 9
      else .bad 8
    else if 63 < byAt l pos then .bad 2
    else if pos + 1 + byAt l pos ≤ l.length then
      if acc.length + 1 + byAt l pos + 1 ≤ 255 then dnF l start (pos + 1 + byAt l pos) (acc ++ (l.drop pos).take (1 + byAt l pos)) nx
      else .bad 3
    else .bad 8
  else .bad 8

theorem dnF_end {l : List UInt8} {start pos : Nat} {acc : List UInt8} {nx : Option Nat} (h : l.length ≤ pos) : dnF l start pos acc nx = .bad 8 := by
  rw [dnF, dif_neg (by omega)]
theorem dnF_root {l : List UInt8} {start pos : Nat} {acc : List UInt8} {nx : Option Nat} (h : pos < l.length) (h0 : byAt l pos = 0) : dnF l start pos acc nx = .ok (acc ++ [0]) (nx.getD (pos + 1)) := by
  rw [dnF, dif_pos h, if_pos h0]
theorem dnF_cut {l : List UInt8} {start pos : Nat} {acc : List UInt8} {nx : Option Nat} (h : pos < l.length) (h0 : 192 ≤ byAt l pos) (h1 : l.length ≤ pos + 1) : dnF l start pos acc nx = .bad 8 := by
  rw [dnF, dif_pos h, if_neg (by omega), if_pos h0, if_neg (by omega)]
theorem dnF_ahead {l : List UInt8} {start pos : Nat} {acc : List UInt8} {nx : Option Nat} (h0 : 192 ≤ byAt l pos) (h1 : pos + 1 < l.length) (h2 : start ≤ (byAt l pos - 192) * 256 + byAt l (pos + 1)) : dnF l start pos acc nx = .bad 9 := by
  rw [dnF, dif_pos (by omega), if_neg (by omega), if_pos h0, if_pos h1, dif_neg (by omega)]
theorem dnF_ptr {l : List UInt8} {start pos : Nat} {acc : List UInt8} {nx : Option Nat} (h0 : 192 ≤ byAt l pos) (h1 : pos + 1 < l.length) (h2 : (byAt l pos - 192) * 256 + byAt l (pos + 1) < start) :
    dnF l start pos acc nx = dnF l ((byAt l pos - 192) * 256 + byAt l (pos + 1)) ((byAt l pos - 192) * 256 + byAt l (pos + 1)) acc (some (nx.getD (pos + 2))) := by
  rw [dnF, dif_pos (by omega), if_neg (by omega), if_pos h0, if_pos h1, dif_pos h2]
theorem dnF_label {l : List UInt8} {start pos : Nat} {acc : List UInt8} {nx : Option Nat} (h : pos < l.length) (h0 : 63 < byAt l pos) (h1 : byAt l pos < 192) : dnF l start pos acc nx = .bad 2 := by
  rw [dnF, dif_pos h, if_neg (by omega), if_neg (by omega), if_pos h0]
theorem dnF_short {l : List UInt8} {start pos : Nat} {acc : List UInt8} {nx : Option Nat} (h : pos < l.length) (h0 : 0 < byAt l pos) (h1 : byAt l pos ≤ 63) (h2 : l.length < pos + 1 + byAt l pos) : dnF l start pos acc nx = .bad 8 := by
  rw [dnF, dif_pos h, if_neg (by omega), if_neg (by omega), if_neg (by omega), if_neg (by omega)]
theorem dnF_long {l : List UInt8} {start pos : Nat} {acc : List UInt8} {nx : Option Nat} (h0 : 0 < byAt l pos) (h1 : byAt l pos ≤ 63) (h2 : pos + 1 + byAt l pos ≤ l.length) (h3 : 255 < acc.length + 1 + byAt l pos + 1) : dnF l start pos acc nx = .bad 3 := by
  rw [dnF, dif_pos (by omega), if_neg (by omega), if_neg (by omega), if_neg (by omega), if_pos h2, if_neg (by omega)]
theorem dnF_more {l : List UInt8} {start pos : Nat} {acc : List UInt8} {nx : Option Nat} (h0 : 0 < byAt l pos) (h1 : byAt l pos ≤ 63) (h2 : pos + 1 + byAt l pos ≤ l.length) (h3 : acc.length + 1 + byAt l pos + 1 ≤ 255) :
    dnF l start pos acc nx = dnF l start (pos + 1 + byAt l pos) (acc ++ (l.drop pos).take (1 + byAt l pos)) nx := by
  rw [dnF, dif_pos (by omega), if_neg (by omega), if_neg (by omega), if_neg (by omega), if_pos h2, if_pos h3]

/-- What DecodeName answers: the name, the place behind it, the code. -/
def dnS (l : List UInt8) (p : Int) : List UInt8 × Int × Int :=
  if p < 0 ∨ (l.length : Int) < p then ([], 0, 32)
  else match dnF l p.toNat p.toNat [] none with
    | .inl c => ([], 0, c)
    | .inr (s, n) => (s, n, 0)
end Go.Proofs.Ytilcbdhcojgcbaa
/- The types whose data may have pointers. -/
namespace Go.Proofs.Ytilcbdhcojgcbaa
/-- Data of the types whose names may have pointers. -/
abbrev pointed (t : Nat) : Prop := t = 2 ∨ t = 5 ∨ t = 6 ∨ t = 12 ∨ t = 15
end Go.Proofs.Ytilcbdhcojgcbaa
/- The bits of a head: mathematics. -/
namespace Go.Proofs.Ytilcbdhcojgcbaa
open Go.RowKit

theorem i64_and_nat (a b : Nat) (ha : a < 9223372036854775808) (hb : b < 9223372036854775808) : bits .and .i64 (a : Int) (b : Int) = ((a &&& b : Nat) : Int) := by
  have hx : a &&& b ≤ a := Nat.and_le_left
  show IntKind.i64.wrap ((BitVec.ofInt 64 (a : Int) &&& BitVec.ofInt 64 (b : Int)).toNat : Int) = _
  rw [BitVec.toNat_and, ofInt_u64 a (by omega), ofInt_u64 b (by omega)]
  exact wrap_pos _ (by omega)

theorem and_bit (f i : Nat) : (f &&& 2 ^ i ≠ 0) ↔ f.testBit i = true := by
  constructor
  · intro h
    refine Classical.byContradiction fun hn => h ?_
    apply Nat.eq_of_testBit_eq
    intro j
    rw [Nat.testBit_and, Nat.testBit_two_pow, Nat.zero_testBit]
    by_cases e : i = j
    · subst e; simp_all
    · simp [e]
  · intro h h0
    have := congrArg (fun n => n.testBit i) h0
    simp [Nat.testBit_and, h, Nat.testBit_two_pow_self] at this

theorem flag_and (f i : Nat) (hf : f < 65536) (hi : i < 16) (c : Int) (hc : c = ((2 ^ i : Nat) : Int)) : (bits .and .i64 (f : Int) c != 0) = f.testBit i := by
  have h2 : 2 ^ i < 9223372036854775808 := Nat.lt_of_le_of_lt (Nat.pow_le_pow_right (by decide) (show i ≤ 16 by omega)) (by decide)
  rw [hc, i64_and_nat f (2 ^ i) (by omega) h2]
  rw [Bool.eq_iff_iff, ← and_bit, bne_iff_ne]
  omega

theorem flag_shr (f i : Nat) (hf : f < 65536) : (bits .and .i64 ((f / 2 ^ i : Nat) : Int) 1 == 1) = f.testBit i := by
  have h1 : f / 2 ^ i ≤ f := Nat.div_le_self _ _
  have := i64_and_nat (f / 2 ^ i) 1 (by omega) (by decide)
  rw [show ((1 : Nat) : Int) = 1 from rfl] at this
  rw [this, Nat.and_one_is_mod, Nat.testBit_eq_decide_div_mod_eq, Bool.eq_iff_iff, decide_eq_true_iff, beq_iff_eq]
  omega

theorem and_15 (n : Nat) (h : n < 65536) : bits .and .i64 (n : Int) 15 = ((n % 16 : Nat) : Int) := by
  have := i64_and_nat n 15 (by omega) (by decide)
  rw [show ((15 : Nat) : Int) = 15 from rfl] at this
  rw [this, show (15 : Nat) = 2 ^ 4 - 1 from rfl, Nat.and_two_pow_sub_one_eq_mod]

/-- The number of two bytes at a place. -/
def n16 (l : List UInt8) (i : Nat) : Nat := numL ((l.drop i).take 2)

theorem n16_lt (l : List UInt8) (i : Nat) : n16 l i < 65536 := by
  have h := numL_lt ((l.drop i).take 2)
  have h2 : ((l.drop i).take 2).length ≤ 2 := by simp; omega
  have h3 : 256 ^ ((l.drop i).take 2).length ≤ 256 ^ 2 := Nat.pow_le_pow_right (by decide) h2
  unfold n16
  omega

/-- A head's fields, out of its two numbers. -/
def hdA (d f : Nat) : Array Value := #[.int .i64 d, .bool (f.testBit 15), .int .i64 ((f / 2048 % 16 : Nat) : Int), .bool (f.testBit 10), .bool (f.testBit 9), .bool (f.testBit 8), .bool (f.testBit 7), .bool (f.testBit 6), .bool (f.testBit 5), .bool (f.testBit 4), .int .i64 ((f % 16 : Nat) : Int)]

/-- The head of nothing. -/
def hd0 : Array Value := #[.int .i64 0, .bool false, .int .i64 0, .bool false, .bool false, .bool false, .bool false, .bool false, .bool false, .bool false, .int .i64 0]

/-- The four counts. -/
def ctA (l : List UInt8) : Array Value := #[.int .i64 (n16 l 4), .int .i64 (n16 l 6), .int .i64 (n16 l 8), .int .i64 (n16 l 10)]
def ct0 : Array Value := #[.int .i64 0, .int .i64 0, .int .i64 0, .int .i64 0]
end Go.Proofs.Ytilcbdhcojgcbaa
