import Derived.Test.YtinbaopcapnbgaaBitM
/- Words of 32 bits, and the sum Sha256: mathematics. -/
namespace Go.Proofs.Ytinbaopcapnbgaa
open Go.RowKit
set_option linter.unusedVariables false

abbrev Wd := BitVec 32
def wV (x : Wd) : Value := .int .u32 (x.toNat : Int)

theorem u32_wrap (n : Nat) (h : n < 4294967296) : IntKind.u32.wrap (n : Int) = (n : Int) := by
  have e : (n : Int) % 2 ^ 32 = n := Int.emod_eq_of_lt (by omega) (by omega)
  simp only [IntKind.wrap, IntKind.bits, IntKind.signed, e]
  simp
theorem w_ofInt (x : Wd) : BitVec.ofInt 32 (x.toNat : Int) = x := by
  rw [BitVec.ofInt_natCast, BitVec.ofNat_toNat, BitVec.setWidth_eq]
theorem w_or (x y : Wd) : bits .or .u32 (x.toNat : Int) (y.toNat : Int) = ((x ||| y).toNat : Int) := by
  show IntKind.u32.wrap ((BitVec.ofInt 32 (x.toNat : Int) ||| BitVec.ofInt 32 (y.toNat : Int)).toNat : Int) = _
  rw [w_ofInt, w_ofInt]
  exact u32_wrap _ (x ||| y).isLt
theorem w_and (x y : Wd) : bits .and .u32 (x.toNat : Int) (y.toNat : Int) = ((x &&& y).toNat : Int) := by
  show IntKind.u32.wrap ((BitVec.ofInt 32 (x.toNat : Int) &&& BitVec.ofInt 32 (y.toNat : Int)).toNat : Int) = _
  rw [w_ofInt, w_ofInt]
  exact u32_wrap _ (x &&& y).isLt
theorem w_xor (x y : Wd) : bits .xor .u32 (x.toNat : Int) (y.toNat : Int) = ((x ^^^ y).toNat : Int) := by
  show IntKind.u32.wrap ((BitVec.ofInt 32 (x.toNat : Int) ^^^ BitVec.ofInt 32 (y.toNat : Int)).toNat : Int) = _
  rw [w_ofInt, w_ofInt]
  exact u32_wrap _ (x ^^^ y).isLt
theorem w_add (x y : Wd) : ((x.toNat : Int) + (y.toNat : Int)) % 4294967296 = ((x + y).toNat : Int) := by
  rw [BitVec.toNat_add]
  omega
theorem w_shr (x : Wd) (n : Nat) : (x.toNat : Int) / 2 ^ n = ((x >>> n).toNat : Int) := by
  rw [BitVec.toNat_ushiftRight, Nat.shiftRight_eq_div_pow, Int.natCast_ediv, Int.natCast_pow]
  rfl
theorem w_shl (x : Wd) (n : Nat) : (x.toNat : Int) * 2 ^ n % 4294967296 = ((x <<< n).toNat : Int) := by
  rw [BitVec.toNat_shiftLeft, Nat.shiftLeft_eq, Int.natCast_emod, Int.natCast_mul, Int.natCast_pow]
  rfl

def turnW (x : Wd) (n : Nat) : Wd := (x >>> n) ||| (x <<< (32 - n))
def s0W (x : Wd) : Wd := turnW x 7 ^^^ turnW x 18 ^^^ (x >>> 3)
def s1W (y : Wd) : Wd := turnW y 17 ^^^ turnW y 19 ^^^ (y >>> 10)
def KL : List Nat := [1116352408, 1899447441, 3049323471, 3921009573, 961987163, 1508970993, 2453635748, 2870763221, 3624381080, 310598401, 607225278, 1426881987, 1925078388, 2162078206, 2614888103, 3248222580, 3835390401, 4022224774, 264347078, 604807628, 770255983, 1249150122, 1555081692, 1996064986, 2554220882, 2821834349, 2952996808, 3210313671, 3336571891, 3584528711, 113926993, 338241895, 666307205, 773529912, 1294757372, 1396182291, 1695183700, 1986661051, 2177026350, 2456956037, 2730485921, 2820302411, 3259730800, 3345764771, 3516065817, 3600352804, 4094571909, 275423344, 430227734, 506948616, 659060556, 883997877, 958139571, 1322822218, 1537002063, 1747873779, 1955562222, 2024104815, 2227730452, 2361852424, 2428436474, 2756734187, 3204031479, 3329325298]
def KW (i : Nat) : Wd := BitVec.ofNat 32 ((KL[i]?).getD 0)
/-- The words of a block: sixteen that are given, and those that are made of them. -/
def wF (m : Nat → Wd) (i : Nat) : Wd := if h : i < 16 then m i else wF m (i - 16) + s0W (wF m (i - 15)) + wF m (i - 7) + s1W (wF m (i - 2))
theorem wF_low {m : Nat → Wd} {i : Nat} (h : i < 16) : wF m i = m i := by rw [wF, dif_pos h]
theorem wF_high {m : Nat → Wd} {i : Nat} (h : ¬ i < 16) : wF m i = wF m (i - 16) + s0W (wF m (i - 15)) + wF m (i - 7) + s1W (wF m (i - 2)) := by rw [wF, dif_neg h]
/-- Eight words. -/
structure Sv where
  a : Wd
  b : Wd
  c : Wd
  d : Wd
  e : Wd
  f : Wd
  g : Wd
  h : Wd
def t1W (s : Sv) (k w : Wd) : Wd := s.h + (turnW s.e 6 ^^^ turnW s.e 11 ^^^ turnW s.e 25) + ((s.e &&& s.f) ^^^ (~~~s.e &&& s.g)) + k + w
def t2W (s : Sv) : Wd := (turnW s.a 2 ^^^ turnW s.a 13 ^^^ turnW s.a 22) + ((s.a &&& s.b) ^^^ (s.a &&& s.c) ^^^ (s.b &&& s.c))
def roundW (s : Sv) (k w : Wd) : Sv := ⟨t1W s k w + t2W s, s.a, s.b, s.c, s.d + t1W s k w, s.e, s.f, s.g⟩
def roundsW (m : Nat → Wd) (s : Sv) : Nat → Sv
  | 0 => s
  | i + 1 => roundW (roundsW m s i) (KW i) (wF m i)
def addSv (x y : Sv) : Sv := ⟨x.a + y.a, x.b + y.b, x.c + y.c, x.d + y.d, x.e + y.e, x.f + y.f, x.g + y.g, x.h + y.h⟩
def svL (s : Sv) : List Wd := [s.a, s.b, s.c, s.d, s.e, s.f, s.g, s.h]
def H0 : Sv := ⟨1779033703, 3144134277, 1013904242, 2773480762, 1359893119, 2600822924, 528734635, 1541459225⟩
/-- The word of four bytes at a place. -/
def bW (t : List UInt8) (k : Nat) : Wd := BitVec.ofNat 32 ((t[k]?).getD 0).toNat
theorem bW_nat (t : List UInt8) (k : Nat) : (bW t k).toNat = ((t[k]?).getD 0).toNat := by
  rw [bW, BitVec.toNat_ofNat]
  have := ((t[k]?).getD 0).toNat_lt
  omega
def wordAt (t : List UInt8) (k : Nat) : Wd := (bW t k <<< 24) ||| (bW t (k + 1) <<< 16) ||| (bW t (k + 2) <<< 8) ||| bW t (k + 3)
def hashW (t : List UInt8) : Nat → Sv
  | 0 => H0
  | n + 1 => addSv (hashW t n) (roundsW (fun i => wordAt t (64 * n + 4 * i)) (hashW t n) 64)
def padTo (l : List UInt8) : List UInt8 := l ++ [128] ++ List.replicate ((119 - l.length % 64) % 64) 0
def lenL (n : Nat) : List UInt8 := (List.range 8).map fun i => UInt8.ofNat (8 * n / 2 ^ (8 * (7 - i)))
def padL (l : List UInt8) : List UInt8 := padTo l ++ lenL l.length
def outL (s : Sv) : List UInt8 := (svL s).flatMap fun x => [UInt8.ofNat (x.toNat / 16777216), UInt8.ofNat (x.toNat / 65536), UInt8.ofNat (x.toNat / 256), UInt8.ofNat x.toNat]
/-- The sum. -/
def shaL (l : List UInt8) : List UInt8 := outL (hashW (padL l) ((padL l).length / 64))

/-- The words of a block, as many as have been laid. -/
def wA (m : Nat → Wd) (i : Nat) : Array Value := ((List.range 64).map fun j => if j < i then wV (wF m j) else .int .u32 0).toArray
theorem wA_zero (m : Nat → Wd) : wA m 0 = Array.replicate 64 (.int .u32 0) := by
  simp only [wA, Nat.not_lt_zero, if_false]
  rfl
theorem wA_at {m : Nat → Wd} {i j : Nat} (h : j < i) (h64 : j < 64) : (wA m i)[j]? = some (.int .u32 ((wF m j).toNat : Int)) := by
  simp [wA, h64, h, wV]
theorem wA_any {m : Nat → Wd} {i j : Nat} (h64 : j < 64) : ∃ v, (wA m i)[j]? = some v := by simp [wA, h64]
theorem wA_set {m : Nat → Wd} {i : Nat} (h : i < 64) : (wA m i).setIfInBounds i (.int .u32 ((wF m i).toNat : Int)) = wA m (i + 1) := by
  apply Array.ext_getElem?
  intro j
  rw [Array.getElem?_setIfInBounds]
  by_cases hj : i = j
  · subst hj
    simp [wA, h, wV]
  · rw [if_neg hj]
    by_cases hj64 : j < 64
    · simp only [wA, List.getElem?_toArray, List.getElem?_map, List.getElem?_range hj64, Option.map_some]
      by_cases h1 : j < i
      · rw [if_pos h1, if_pos (by omega)]
      · rw [if_neg h1, if_neg (by omega)]
    · simp [wA, hj64]
def hvA (s : Sv) : Array Value := #[wV s.a, wV s.b, wV s.c, wV s.d, wV s.e, wV s.f, wV s.g, wV s.h]
end Go.Proofs.Ytinbaopcapnbgaa
