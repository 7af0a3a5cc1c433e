import Derived.Test.YtinbaopcapnbgaaHmM
import Derived.Test.YtinbaopcapnbgaaIBg
import Derived.Test.YtinbaopcapnbgaaNumM
import Derived.Test.YtinbaopcapnbgaaShL8
/- Signatures: mathematics. -/
namespace Go.Proofs.Ytinbaopcapnbgaa
open Go.RowKit
set_option linter.unusedVariables false

/-- the algorithm's name, as its bytes -/
abbrev algL : List UInt8 := [11, 104, 109, 97, 99, 45, 115, 104, 97, 50, 53, 54, 0]
/-- what is summed -/
def textL (rq body nf : List UInt8) (t f : Nat) : List UInt8 :=
  (if rq.length = 0 then [] else bigL rq.length 2 ++ rq) ++ body ++ nf ++ bigL 255 2 ++ bigL 0 4 ++ algL ++ bigL t 6 ++ bigL f 2 ++ [0, 0, 0, 0]
def sumL (sc rq body nf : List UInt8) (t f : Nat) : List UInt8 := hmacL sc (textL rq body nf t f)
/-- a signature's data -/
def datL (t f : Nat) (sum : List UInt8) (id : Nat) : List UInt8 := algL ++ bigL t 6 ++ bigL f 2 ++ bigL 32 2 ++ sum ++ bigL id 2 ++ [0, 0, 0, 0]
/-- a signature's record -/
def recL (nm dat : List UInt8) : List UInt8 := nm ++ bigL 250 2 ++ bigL 255 2 ++ bigL 0 4 ++ bigL dat.length 2 ++ dat
/-- a message's two numbers -/
def idN (m : List UInt8) : Nat := numL (m.take 2)
def ctN (m : List UInt8) : Nat := numL ((m.drop 10).take 2)
/-- a message that is signed -/
def signL (m nm nf sc rq : List UInt8) (t : Nat) : List UInt8 :=
  m.take 10 ++ bigL (ctN m + 1) 2 ++ m.drop 12 ++ recL nm (datL t 300 (sumL sc rq m nf t 300) (idN m))

theorem hmac_len (k b : List UInt8) : (hmacL k b).length = 32 := by rw [hmacL, shaL]; exact outL_len _
theorem big_len (v n : Nat) : (bigL v n).length = n := by simp [bigL]
theorem dat_len {t f id : Nat} {sum : List UInt8} (h : sum.length = 32) : (datL t f sum id).length = 61 := by simp [datL, big_len, h]
theorem rec_len {nm dat : List UInt8} (h : dat.length = 61) : (recL nm dat).length = nm.length + 71 := by simp [recL, big_len, h]
theorem big_two (a b : UInt8) : bigL (numL [a, b]) 2 = [a, b] := by
  have h : numL [a, b] = a.toNat * 256 + b.toNat := by simp [numL]
  have ha := a.toNat_lt
  have hb := b.toNat_lt
  rw [h]
  show [UInt8.ofNat ((a.toNat * 256 + b.toNat) / 2 ^ 8), UInt8.ofNat ((a.toNat * 256 + b.toNat) / 2 ^ 0)] = _
  have e1 : UInt8.ofNat ((a.toNat * 256 + b.toNat) / 2 ^ 8) = a := by
    apply UInt8.toNat_inj.1
    rw [UInt8.toNat_ofNat']
    omega
  have e2 : UInt8.ofNat ((a.toNat * 256 + b.toNat) / 2 ^ 0) = b := by
    apply UInt8.toNat_inj.1
    rw [UInt8.toNat_ofNat']
    omega
  rw [e1, e2]
theorem two_big {l : List UInt8} (h : l.length = 2) : bigL (numL l) 2 = l := by
  match l, h with
  | [a, b], _ => exact big_two a b
theorem num_two {l : List UInt8} (h : l.length = 2) : numL l < 65536 := by
  match l, h with
  | [a, b], _ =>
    have ha := a.toNat_lt
    have hb := b.toNat_lt
    simp [numL]
    omega
theorem ba_cat (a b : List UInt8) : (ByteArray.mk a.toArray) ++ (ByteArray.mk b.toArray) = ⟨(a ++ b).toArray⟩ := by
  apply ByteArray.ext
  simp
theorem ba_size (a : List UInt8) : (ByteArray.mk a.toArray).size = a.length := by show a.toArray.size = _; simp
theorem ba_mk (s : ByteArray) : (ByteArray.mk s.data.toList.toArray) = s := by
  apply ByteArray.ext
  simp
end Go.Proofs.Ytinbaopcapnbgaa
