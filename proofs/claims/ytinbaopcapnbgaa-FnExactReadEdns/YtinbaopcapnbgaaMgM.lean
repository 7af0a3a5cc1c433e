import Derived.Test.YtinbaopcapnbgaaRrM
import Derived.Test.YtinbaopcapnbgaaQrM
/- Messages as they come in: mathematics. -/
namespace Go.Proofs.Ytinbaopcapnbgaa
open Go.RowKit
set_option linter.unusedVariables false

/-- A head. -/
structure Hr where
  id : Int
  qr : Bool
  op : Int
  aa : Bool
  tc : Bool
  rd : Bool
  ra : Bool
  z : Bool
  ad : Bool
  cd : Bool
  code : Int
def hrV (h : Hr) : List Value := [.int .i64 h.id, .bool h.qr, .int .i64 h.op, .bool h.aa, .bool h.tc, .bool h.rd, .bool h.ra, .bool h.z, .bool h.ad, .bool h.cd, .int .i64 h.code]
/-- A message. -/
structure Mg where
  hd : Hr
  qs : List Qr
  an : List Rr
  au : List Rr
  ex : List Rr
/-- A message's value, its lists' slices as they are. -/
def mgV (h : Hr) (q a u x : Value) : Array Value := #[.int .i64 h.id, .bool h.qr, .int .i64 h.op, .bool h.aa, .bool h.tc, .bool h.rd, .bool h.ra, .bool h.z, .bool h.ad, .bool h.cd, .int .i64 h.code, q, a, u, x]
/-- The lists are read where the slices lead. -/
structure MRow (w : World) (m : Mg) (q a u x : Value) : Prop where
  rq : CRow w q m.qs.length 3 (qvVs m.qs)
  ra : CRow w a m.an.length 5 (rvVs m.an)
  ru : CRow w u m.au.length 5 (rvVs m.au)
  rx : CRow w x m.ex.length 5 (rvVs m.ex)
theorem MRow.below {w W : World} {m : Mg} {q a u x : Value} (h : MRow w m q a u x) (hb : Below w.heap.size w W) : MRow W m q a u x := ⟨h.rq.below hb, h.ra.below hb, h.ru.below hb, h.rx.below hb⟩
/-- The lists in memory of one's own. -/
structure MOwn (w : World) (B : Nat) (m : Mg) (q a u x : Value) : Prop where
  rq : w.ownsRow B 99 3 q m.qs.length (qvVs m.qs)
  ra : w.ownsRow B 25 5 a m.an.length (rvVs m.an)
  ru : w.ownsRow B 25 5 u m.au.length (rvVs m.au)
  rx : w.ownsRow B 25 5 x m.ex.length (rvVs m.ex)
theorem MOwn.below {w W : World} {B : Nat} {m : Mg} {q a u x : Value} (h : MOwn w B m q a u x) (hb : Below w.heap.size w W) : MOwn W B m q a u x := ⟨own_below h.rq hb, own_below h.ra hb, own_below h.ru hb, own_below h.rx hb⟩
theorem MOwn.read {w : World} {B : Nat} {m : Mg} {q a u x : Value} (h : MOwn w B m q a u x) : MRow w m q a u x := ⟨CRow.of_owns h.rq, CRow.of_owns h.ra, CRow.of_owns h.ru, CRow.of_owns h.rx⟩
def msum (m : Mg) : Nat := m.qs.length + qsum m.qs + (m.an.length + rsum m.an) + (m.au.length + rsum m.au) + (m.ex.length + rsum m.ex)
def szM (m : Mg) (L : Int) : Int := if (msum m : Int) ≤ L then L - msum m else -1
def MFit (m : Mg) : Prop := (∀ r ∈ m.qs, r.nm.size ≤ maxLen) ∧ (∀ r ∈ m.an, r.own.size ≤ maxLen ∧ r.da.size ≤ maxLen) ∧ (∀ r ∈ m.au, r.own.size ≤ maxLen ∧ r.da.size ≤ maxLen) ∧ (∀ r ∈ m.ex, r.own.size ≤ maxLen ∧ r.da.size ≤ maxLen)
end Go.Proofs.Ytinbaopcapnbgaa
