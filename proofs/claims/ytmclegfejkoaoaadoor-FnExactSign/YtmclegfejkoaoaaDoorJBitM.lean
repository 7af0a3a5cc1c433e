import Derived.Test.YtmclegfejkoaoaaDoorRows
import Derived.WalkSpells
import Derived.WalkLawsBesides
import Derived.Test.YtmclegfejkoaoaaDoorJMath
import Derived.Maps.AppendAt
/- Words that are joined. -/
namespace Go.Proofs.YtmclegfejkoaoaaDoor
open Go.RowKit

theorem wrap_pos (n : Nat) (h : n < 9223372036854775808) : IntKind.i64.wrap (n : Int) = (n : Int) := by
  have e : (n : Int) % 2 ^ 64 = n := Int.emod_eq_of_lt (by omega) (by omega)
  simp only [IntKind.wrap, IntKind.bits, IntKind.signed, e]
  rw [if_neg]
  simp
  omega

theorem i64_or_nat (a b : Nat) (ha : a < 9223372036854775808) (hb : b < 9223372036854775808) : bits .or .i64 (a : Int) (b : Int) = ((a ||| b : Nat) : Int) := by
  have hx : a ||| b < 2 ^ 63 := Nat.or_lt_two_pow (by omega) (by omega)
  show IntKind.i64.wrap ((BitVec.ofInt 64 (a : Int) ||| BitVec.ofInt 64 (b : Int)).toNat : Int) = _
  rw [BitVec.toNat_or, ofInt_u64 a (by omega), ofInt_u64 b (by omega)]
  exact wrap_pos _ (by omega)

theorem or_join (i a b : Nat) (h : b < 2 ^ i) (ha : 2 ^ i * a + b < 9223372036854775808) : bits .or .i64 ((2 ^ i * a : Nat) : Int) (b : Int) = ((2 ^ i * a + b : Nat) : Int) := by
  rw [i64_or_nat _ _ (by omega) (by omega), ← Nat.two_pow_add_eq_or_of_lt h]
end Go.Proofs.YtmclegfejkoaoaaDoor
/- Words of 32 bits, and the sum Sha256: mathematics. -/
namespace Go.Proofs.YtmclegfejkoaoaaDoor
open Go.RowKit
set_option linter.unusedVariables false

abbrev Wd := BitVec 32
def wV (x : Wd) : Value := .int .u32 (x.toNat : Int)

theorem u32_wrap (n : Nat) (h : n < 4294967296) : IntKind.u32.wrap (n : Int) = (n : Int) := by
  have e : (n : Int) % 2 ^ 32 = n := Int.emod_eq_of_lt (by omega) (by omega)
  simp only [IntKind.wrap, IntKind.bits, IntKind.signed, e]
  simp
theorem w_ofInt (x : Wd) : BitVec.ofInt 32 (x.toNat : Int) = x := by
  rw [BitVec.ofInt_natCast, BitVec.ofNat_toNat, BitVec.setWidth_eq]
theorem w_or (x y : Wd) : bits .or .u32 (x.toNat : Int) (y.toNat : Int) = ((x ||| y).toNat : Int) := by
  show IntKind.u32.wrap ((BitVec.ofInt 32 (x.toNat : Int) ||| BitVec.ofInt 32 (y.toNat : Int)).toNat : Int) = _
  rw [w_ofInt, w_ofInt]
  exact u32_wrap _ (x ||| y).isLt
theorem w_and (x y : Wd) : bits .and .u32 (x.toNat : Int) (y.toNat : Int) = ((x &&& y).toNat : Int) := by
  show IntKind.u32.wrap ((BitVec.ofInt 32 (x.toNat : Int) &&& BitVec.ofInt 32 (y.toNat : Int)).toNat : Int) = _
  rw [w_ofInt, w_ofInt]
  exact u32_wrap _ (x &&& y).isLt
theorem w_xor (x y : Wd) : bits .xor .u32 (x.toNat : Int) (y.toNat : Int) = ((x ^^^ y).toNat : Int) := by
  show IntKind.u32.wrap ((BitVec.ofInt 32 (x.toNat : Int) ^^^ BitVec.ofInt 32 (y.toNat : Int)).toNat : Int) = _
  rw [w_ofInt, w_ofInt]
  exact u32_wrap _ (x ^^^ y).isLt
theorem w_add (x y : Wd) : ((x.toNat : Int) + (y.toNat : Int)) % 4294967296 = ((x + y).toNat : Int) := by
  rw [BitVec.toNat_add]
  omega
theorem w_shr (x : Wd) (n : Nat) : (x.toNat : Int) / 2 ^ n = ((x >>> n).toNat : Int) := by
  rw [BitVec.toNat_ushiftRight, Nat.shiftRight_eq_div_pow, Int.natCast_ediv, Int.natCast_pow]
  rfl
theorem w_shl (x : Wd) (n : Nat) : (x.toNat : Int) * 2 ^ n % 4294967296 = ((x <<< n).toNat : Int) := by
  rw [BitVec.toNat_shiftLeft, Nat.shiftLeft_eq, Int.natCast_emod, Int.natCast_mul, Int.natCast_pow]
  rfl

def turnW (x : Wd) (n : Nat) : Wd := (x >>> n) ||| (x <<< (32 - n))
def s0W (x : Wd) : Wd := turnW x 7 ^^^ turnW x 18 ^^^ (x >>> 3)
def s1W (y : Wd) : Wd := turnW y 17 ^^^ turnW y 19 ^^^ (y >>> 10)
def KL : List Nat := [1116352408, 1899447441, 3049323471, 3921009573, 961987163, 1508970993, 2453635748, 2870763221, 3624381080, 310598401, 607225278, 1426881987, 1925078388, 2162078206, 2614888103, 3248222580, 3835390401, 4022224774, 264347078, 604807628, 770255983, 1249150122, 1555081692, 1996064986, 2554220882, 2821834349, 2952996808, 3210313671, 3336571891, 3584528711, 113926993, 338241895, 666307205, 773529912, 1294757372, 1396182291, 1695183700, 1986661051, 2177026350, 2456956037, 2730485921, 2820302411, 3259730800, 3345764771, 3516065817, 3600352804, 4094571909, 275423344, 430227734, 506948616, 659060556, 883997877, 958139571, 1322822218, 1537002063, 1747873779, 1955562222, 2024104815, 2227730452, 2361852424, 2428436474, 2756734187, 3204031479, 3329325298]
def KW (i : Nat) : Wd := BitVec.ofNat 32 ((KL[i]?).getD 0)
/-- The words of a block: sixteen that are given, and those that are made of them. -/
def wF (m : Nat → Wd) (i : Nat) : Wd := if h : i < 16 then m i else wF m (i - 16) + s0W (wF m (i - 15)) + wF m (i - 7) + s1W (wF m (i - 2))
theorem wF_low {m : Nat → Wd} {i : Nat} (h : i < 16) : wF m i = m i := by rw [wF, dif_pos h]
theorem wF_high {m : Nat → Wd} {i : Nat} (h : ¬ i < 16) : wF m i = wF m (i - 16) + s0W (wF m (i - 15)) + wF m (i - 7) + s1W (wF m (i - 2)) := by rw [wF, dif_neg h]
/-- Eight words. -/
structure Sv where
  a : Wd
  b : Wd
  c : Wd
  d : Wd
  e : Wd
  f : Wd
  g : Wd
  h : Wd
def t1W (s : Sv) (k w : Wd) : Wd := s.h + (turnW s.e 6 ^^^ turnW s.e 11 ^^^ turnW s.e 25) + ((s.e &&& s.f) ^^^ (~~~s.e &&& s.g)) + k + w
def t2W (s : Sv) : Wd := (turnW s.a 2 ^^^ turnW s.a 13 ^^^ turnW s.a 22) + ((s.a &&& s.b) ^^^ (s.a &&& s.c) ^^^ (s.b &&& s.c))
def roundW (s : Sv) (k w : Wd) : Sv := ⟨t1W s k w + t2W s, s.a, s.b, s.c, s.d + t1W s k w, s.e, s.f, s.g⟩
def roundsW (m : Nat → Wd) (s : Sv) : Nat → Sv
  | 0 => s
  | i + 1 => roundW (roundsW m s i) (KW i) (wF m i)
def addSv (x y : Sv) : Sv := ⟨x.a + y.a, x.b + y.b, x.c + y.c, x.d + y.d, x.e + y.e, x.f + y.f, x.g + y.g, x.h + y.h⟩
def svL (s : Sv) : List Wd := [s.a, s.b, s.c, s.d, s.e, s.f, s.g, s.h]
def H0 : Sv := ⟨1779033703, 3144134277, 1013904242, 2773480762, 1359893119, 2600822924, 528734635, 1541459225⟩
/-- The word of four bytes at a place. -/
def bW (t : List UInt8) (k : Nat) : Wd := BitVec.ofNat 32 ((t[k]?).getD 0).toNat
theorem bW_nat (t : List UInt8) (k : Nat) : (bW t k).toNat = ((t[k]?).getD 0).toNat := by
  rw [bW, BitVec.toNat_ofNat]
  have := ((t[k]?).getD 0).toNat_lt
  omega
def wordAt (t : List UInt8) (k : Nat) : Wd := (bW t k <<< 24) ||| (bW t (k + 1) <<< 16) ||| (bW t (k + 2) <<< 8) ||| bW t (k + 3)
def hashW (t : List UInt8) : Nat → Sv
  | 0 => H0
  | n + 1 => addSv (hashW t n) (roundsW (fun i => wordAt t (64 * n + 4 * i)) (hashW t n) 64)
def padTo (l : List UInt8) : List UInt8 := l ++ [128] ++ List.replicate ((119 - l.length % 64) % 64) 0
def lenL (n : Nat) : List UInt8 := (List.range 8).map fun i => UInt8.ofNat (8 * n / 2 ^ (8 * (7 - i)))
def padL (l : List UInt8) : List UInt8 := padTo l ++ lenL l.length
def outL (s : Sv) : List UInt8 := (svL s).flatMap fun x => [UInt8.ofNat (x.toNat / 16777216), UInt8.ofNat (x.toNat / 65536), UInt8.ofNat (x.toNat / 256), UInt8.ofNat x.toNat]
/-- The sum. -/
def shaL (l : List UInt8) : List UInt8 := outL (hashW (padL l) ((padL l).length / 64))

set_option maxRecDepth 100000 in
set_option maxHeartbeats 800000 in
theorem l09Turn_any (x : Wd) (n : Nat) (h1 : 1 ≤ n) (h2 : n ≤ 31) (w : World) :
    Calls Tryd.prog 42 #[.int .u32 (x.toNat : Int), .int .u64 (n : Int)] w fun e w' => e = .returned (.int .u32 ((turnW x n).toNat : Int)) ∧ w' = w := by
  have hx := x.isLt
  have i1 : (0 : Int) ≤ (n : Int) := by omega
  have i2 : (n : Int) ≤ 31 := by omega
  go_enter Tryd.func42, Tryd.ntmps42
  go_wp2
  go_ret
  refine ⟨?_, rfl⟩
  rw [turnW, ← w_or, ← w_shr, ← w_shl]
  rfl

/-- The words of a block, as many as have been laid. -/
def wA (m : Nat → Wd) (i : Nat) : Array Value := ((List.range 64).map fun j => if j < i then wV (wF m j) else .int .u32 0).toArray
theorem wA_zero (m : Nat → Wd) : wA m 0 = Array.replicate 64 (.int .u32 0) := by
  simp only [wA, Nat.not_lt_zero, if_false]
  rfl
theorem wA_at {m : Nat → Wd} {i j : Nat} (h : j < i) (h64 : j < 64) : (wA m i)[j]? = some (.int .u32 ((wF m j).toNat : Int)) := by
  simp [wA, h64, h, wV]
theorem wA_any {m : Nat → Wd} {i j : Nat} (h64 : j < 64) : ∃ v, (wA m i)[j]? = some v := by simp [wA, h64]
theorem wA_set {m : Nat → Wd} {i : Nat} (h : i < 64) : (wA m i).setIfInBounds i (.int .u32 ((wF m i).toNat : Int)) = wA m (i + 1) := by
  apply Array.ext_getElem?
  intro j
  rw [Array.getElem?_setIfInBounds]
  by_cases hj : i = j
  · subst hj
    simp [wA, h, wV]
  · rw [if_neg hj]
    by_cases hj64 : j < 64
    · simp only [wA, List.getElem?_toArray, List.getElem?_map, List.getElem?_range hj64, Option.map_some]
      by_cases h1 : j < i
      · rw [if_pos h1, if_pos (by omega)]
      · rw [if_neg h1, if_neg (by omega)]
    · simp [wA, hj64]
def hvA (s : Sv) : Array Value := #[wV s.a, wV s.b, wV s.c, wV s.d, wV s.e, wV s.f, wV s.g, wV s.h]
end Go.Proofs.YtmclegfejkoaoaaDoor
/- Keyed sums: mathematics; rows of one's own beside each other; bytes as text. -/
namespace Go.Proofs.YtmclegfejkoaoaaDoor
open Go.RowKit
set_option linter.unusedVariables false

/-- a key of 64 bytes -/
def padK (l : List UInt8) : List UInt8 := l ++ List.replicate (64 - l.length) 0
def keyL (l : List UInt8) : List UInt8 := padK (if 64 < l.length then shaL l else l)
def hmacL (k b : List UInt8) : List UInt8 := shaL ((keyL k).map (· ^^^ 92) ++ shaL ((keyL k).map (· ^^^ 54) ++ b))

theorem padK_len {l : List UInt8} (h : l.length ≤ 64) : (padK l).length = 64 := by simp [padK]; omega
theorem padK_at {l : List UInt8} {i : Nat} (h : i < l.length) : (padK l)[i]? = l[i]? := by rw [padK, List.getElem?_append_left h]
theorem padK_zero {l : List UInt8} {i : Nat} (h : l.length ≤ i) (h2 : i < 64) : (padK l)[i]? = some 0 := by
  rw [padK, List.getElem?_append_right h, List.getElem?_replicate, if_pos (by omega)]
theorem mix_take {l : List UInt8} {i : Nat} {c m : UInt8} (h : l[i]? = some c) : Nm.bys ((l.take (i + 1)).map (· ^^^ m)) = Nm.bys ((l.take i).map (· ^^^ m)) ++ [.int .u8 ((c ^^^ m).toNat : Int)] := by
  rw [List.take_add_one, h, List.map_append, Nm.bys_append]
  rfl

theorem by_str {w : World} {v : Value} {l : List UInt8} {n : Nat} (h : CRow w v n 1 (Nm.bys l)) : (convert 22 9 v).run Tryd.prog w = .ok (.string ⟨l.toArray⟩) w := by
  obtain ⟨hl, a, cap, rfl, h1, h2, h3⟩ := h
  rw [Nm.bys_length, Nat.mul_one] at hl
  subst hl
  rcases Nat.eq_zero_or_pos l.length with h0 | hpos
  · have : l = [] := List.length_eq_zero_iff.1 h0
    subst this
    cases a with
    | none => exact (run_convert_bytes_string w 22 9 5 none 0 cap Tryd.underlying22 Tryd.underlying5 Tryd.underlying9).trans rfl
    | some x => exact run_convert_bytes_back w 22 9 5 x cap [] Tryd.underlying22 Tryd.underlying5 Tryd.underlying9 (by intro j hj; simp at hj)
  · obtain ⟨b, off, rfl, hc⟩ := h3 hpos
    refine run_convert_bytes_back w 22 9 5 ⟨b, off, none⟩ cap l Tryd.underlying22 Tryd.underlying5 Tryd.underlying9 ?_
    intro j hj
    rw [Nm.addr_add]
    exact hc j _ (by simp [Nm.bys, hj])

theorem byte_of (l : List UInt8) (k : Nat) (c : UInt8) (hk : l[k]? = some c) (W : World) : (Instr.index 9 (.string ⟨l.toArray⟩) (.int .i64 (k : Int))).run Tryd.prog W = .ok (.int .u8 (c.toNat : Int)) W := by
  obtain ⟨hlt, he⟩ := List.getElem?_eq_some_iff.1 hk
  have hs : k < (ByteArray.mk l.toArray).size := by show k < l.toArray.size; simpa using hlt
  rw [run_index_string W 9 ⟨l.toArray⟩ .i64 (k : Int) Tryd.underlying9]
  have e : (ByteArray.mk l.toArray)[k]'hs = c := by rw [← he]; simp [ByteArray.getElem_eq_getElem_data]
  simp [hs, e]

/-- Two rows lie in blocks of their own. -/
def Apr (u v : Value) : Prop := ∀ k, u.ownBlock = some k → v.ownBlock ≠ some k
theorem Apr.symm {u v : Value} (h : Apr u v) : Apr v u := fun k h1 h2 => h k h2 h1
theorem apr_kept {W W1 : World} {B e s m : Nat} {v u : Value} {xs : List Value} (h : W.ownsRow B e s v m xs) (hg : W.grownBy W1 u.ownBlock) (ha : Apr u v) : W1.ownsRow B e s v m xs := by
  refine h.kept hg ?_
  cases hu : u.ownBlock with
  | none =>
    cases hv : v.ownBlock with
    | none => exact .inl rfl
    | some k => right; simp
  | some k => right; exact ha k hu
theorem apr_after {W : World} {B e s m : Nat} {v v' u : Value} {ys : List Value} (hat : v'.ownBlock = v.ownBlock ∨ v'.ownBlock = some W.heap.size) (ha : Apr v u) (hu : W.ownsRow B e s u m ys) : Apr v' u := by
  intro k hk hk2
  rcases hat with h | h
  · exact ha k (by rw [← h]; exact hk) hk2
  · rw [h] at hk
    have := (hu.lt k hk2).2
    simp only [Option.some.injEq] at hk
    omega
end Go.Proofs.YtmclegfejkoaoaaDoor
/- What Sha256 hashes: the bytes and what is added to them: mathematics. -/
namespace Go.Proofs.YtmclegfejkoaoaaDoor
open Go.RowKit
set_option linter.unusedVariables false

def zN (n : Nat) : Nat := (119 - n % 64) % 64
theorem zN_end (n : Nat) : (n + 1 + zN n) % 64 = 56 := by unfold zN; omega
theorem zN_not {n z : Nat} (h : z < zN n) : (n + 1 + z) % 64 ≠ 56 := by unfold zN at h; omega
theorem zN_lt (n : Nat) : zN n < 64 := Nat.mod_lt _ (by decide)
theorem padTo_eq (l : List UInt8) : padTo l = l ++ [128] ++ List.replicate (zN l.length) 0 := rfl
theorem padTo_len (l : List UInt8) : (padTo l).length = l.length + 1 + zN l.length := by rw [padTo_eq]; simp; omega
theorem lenL_len (n : Nat) : (lenL n).length = 8 := rfl
theorem padL_len (l : List UInt8) : (padL l).length % 64 = 0 ∧ (padL l).length ≤ l.length + 72 := by
  have h := zN_end l.length
  have h2 : zN l.length < 64 := Nat.mod_lt _ (by decide)
  rw [padL, List.length_append, padTo_len, lenL_len]
  omega
theorem rep_snoc (z : Nat) : List.replicate (z + 1) (0 : UInt8) = List.replicate z 0 ++ [0] := by
  rw [List.replicate_succ']
theorem lenL_take {n j : Nat} (h : j < 8) : (lenL n).take (j + 1) = (lenL n).take j ++ [UInt8.ofNat (8 * n / 2 ^ (8 * (7 - j)))] := by
  rw [List.take_add_one]
  have : (lenL n)[j]? = some (UInt8.ofNat (8 * n / 2 ^ (8 * (7 - j)))) := by simp [lenL, h]
  rw [this]
  rfl
end Go.Proofs.YtmclegfejkoaoaaDoor
/- Variables that lie in blocks of their own. -/
namespace Go.Proofs.YtmclegfejkoaoaaDoor
open Go.RowKit
set_option linter.unusedVariables false

theorem hgr_step {w w1 w2 : World} {g : Nat} (h : w.grownBy w1 (some g)) (h2 : w1.grownBy w2 (some g)) : w.grownBy w2 (some g) :=
  ⟨h2.os.trans h.os, h2.tape.trans h.tape, h2.output.trans h.output, Nat.le_trans h.size h2.size, fun k hk hne => (h2.block k (Nat.lt_of_lt_of_le hk h.size) hne).trans (h.block k hk hne)⟩

theorem hgr_below {w w1 w2 : World} {g : Nat} (h : w.grownBy w1 (some g)) (h2 : Below w1.heap.size w1 w2) : w.grownBy w2 (some g) :=
  ⟨h2.os.trans h.os, h2.tape.trans h.tape, h2.output.trans h.output, Nat.le_trans h.size h2.size, fun k hk hne =>
    (h2.block k (Nat.lt_of_lt_of_le hk h.size)).trans (h.block k hk hne)⟩

theorem hgr_set {w w1 : World} {g b i : Nat} {v : Value} (h : w.grownBy w1 (some g)) (hb : w.heap.size ≤ b) : w.grownBy (w1.setCell ⟨b, i, none⟩ v) (some g) :=
  ⟨h.os, h.tape, h.output, by simpa using h.size, fun k hk hne => by rw [heap_setCell_other w1 ⟨b, i, none⟩ k _ (by simp; omega)]; exact h.block k hk hne⟩

/-- A variable's cells lie in block b. -/
def Blk (w : World) (b : Nat) (cs : Array Value) (T : TypeId) : Prop := w.heap[b]? = some (.cells cs T (0, 0))

theorem blk_lt {w : World} {b : Nat} {cs : Array Value} {T : TypeId} (h : Blk w b cs T) : b < w.heap.size := (Array.getElem?_eq_some_iff.1 h).1
theorem blk_grown {w w1 : World} {b : Nat} {cs : Array Value} {T : TypeId} {row : Option Nat} (h : Blk w b cs T) (hg : w.grownBy w1 row) (hr : row ≠ some b) : Blk w1 b cs T := by
  unfold Blk
  rw [hg.block b (blk_lt h) (fun e => hr e.symm)]; exact h
theorem blk_below {w w1 : World} {b : Nat} {cs : Array Value} {T : TypeId} (h : Blk w b cs T) (hb : Below w.heap.size w w1) : Blk w1 b cs T := by
  unfold Blk
  rw [hb.block b (blk_lt h)]; exact h
theorem blk_new (w : World) (cs : Array Value) (T : TypeId) : Blk (w.alloc (.cells cs T)) w.heap.size cs T := by
  unfold Blk; show (w.heap.push _)[w.heap.size]? = _; simp
theorem blk_alloc {w : World} {b : Nat} {cs : Array Value} {T : TypeId} (h : Blk w b cs T) (o : Obj) : Blk (w.alloc o) b cs T :=
  blk_below h ((Below.refl _ _).alloc (Nat.le_refl _) o)
theorem blk_cell {w : World} {b : Nat} {cs : Array Value} {T : TypeId} (h : Blk w b cs T) (i : Nat) : w.cell? ⟨b, i, none⟩ = cs[i]? := cell_of_row _ _ _ _ _ _ h
theorem blk_frozen {w : World} {b : Nat} {cs : Array Value} {T : TypeId} (h : Blk w b cs T) (i : Nat) : w.frozen? ⟨b, i, none⟩ = false := frozen_of_row w b i _ _ h
theorem blk_set {w : World} {b : Nat} {cs : Array Value} {T : TypeId} (h : Blk w b cs T) (i : Nat) (v : Value) : Blk (w.setCell ⟨b, i, none⟩ v) b (cs.setIfInBounds i v) T := heap_setCell_same w b i _ _ v h
theorem blk_far {w : World} {b c i : Nat} {cs : Array Value} {T : TypeId} {v : Value} (h : Blk w b cs T) (hne : b ≠ c) : Blk (w.setCell ⟨c, i, none⟩ v) b cs T := by
  unfold Blk
  rw [heap_setCell_other w ⟨c, i, none⟩ b _ (by simpa using hne)]; exact h

/-- Values are laid into the cells of a block from a place on. -/
def setAll (w : World) (b i : Nat) : List Value → World
  | [] => w
  | v :: vs => setAll (w.setCell ⟨b, i, none⟩ v) b (i + 1) vs

theorem setAll_same {b : Nat} {T : TypeId} : ∀ (vs old pre : List Value) (w : World), Blk w b (pre ++ old).toArray T → old.length = vs.length → Blk (setAll w b pre.length vs) b (pre ++ vs).toArray T := by
  intro vs
  induction vs with
  | nil =>
    intro old pre w h hl
    have : old = [] := List.length_eq_zero_iff.1 hl
    subst this
    exact h
  | cons v vs ih =>
    intro old pre w h hl
    cases old with
    | nil => simp at hl
    | cons x old =>
      have h2 := blk_set h pre.length v
      have e : (pre ++ x :: old).toArray.setIfInBounds pre.length v = ((pre ++ [v]) ++ old).toArray := by simp
      rw [e] at h2
      have h3 := ih old (pre ++ [v]) _ h2 (by simpa using hl)
      rw [List.length_append] at h3
      simpa [setAll] using h3

theorem setAll_new {b : Nat} {T : TypeId} {old : Array Value} (vs : List Value) {w : World} (h : Blk w b old T) (hl : old.size = vs.length) : Blk (setAll w b 0 vs) b vs.toArray T := by
  have := setAll_same vs old.toList [] w (by simpa using h) (by simpa using hl)
  simpa using this

theorem setAll_far {b c : Nat} {T : TypeId} {cs : Array Value} (hne : b ≠ c) : ∀ (vs : List Value) (i : Nat) (w : World), Blk w b cs T → Blk (setAll w c i vs) b cs T := by
  intro vs
  induction vs with
  | nil => intro i w h; exact h
  | cons v vs ih => intro i w h; exact ih (i + 1) _ (blk_far h hne)

theorem setAll_grown {w : World} {g b : Nat} (hb : w.heap.size ≤ b) : ∀ (vs : List Value) (i : Nat) (W : World), w.grownBy W (some g) → w.grownBy (setAll W b i vs) (some g) := by
  intro vs
  induction vs with
  | nil => intro i W h; exact h
  | cons v vs ih => intro i W h; exact ih (i + 1) _ (hgr_set h hb)

theorem blk_drew {w : World} {b : Nat} {cs : Array Value} {T : TypeId} (h : Blk w b cs T) : Blk w.drew b cs T := h
end Go.Proofs.YtmclegfejkoaoaaDoor
