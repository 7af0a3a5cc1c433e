import Derived.Test.YtdcbhohlglncnaaGreatZbZ
import Derived.Test.YtdcbhohlglncnaaGreatJTbBL
/- What BuildZone hands back, in one form. -/
namespace Go.Proofs.YtdcbhohlglncnaaGreat
open Go.RowKit
set_option linter.unusedVariables false
def bzO (list : List Rr) (apex : ByteArray) : ByteArray := if (bldE list apex).1 = 0 then apex else ByteArray.empty
def bzZ (list : List Rr) (apex : ByteArray) : List Sz := if (bldE list apex).1 = 0 then bldZ list else []
def bzI (list : List Rr) (apex : ByteArray) : Int := if (bldE list apex).1 = 0 then 0 else (bldE list apex).2
theorem bz_uni {list : List Rr} {apex : ByteArray} {w w' : World} {e : Ending} (h : BzPost list apex w e w') : ∃ a c ps, e = .returned (.tuple #[.agg #[.string (bzO list apex), .slice a ps.length c], .int .i64 (bldE list apex).1, .int .i64 (bzI list apex)]) ∧ ps.map (·.1) = bzZ list apex ∧ ZOwn w' w.heap.size (.slice a ps.length c) ps ∧ Below w.heap.size w w' := by
 obtain ⟨hb, h0, h1⟩ := h
 by_cases hc : (bldE list apex).1 = 0
 · obtain ⟨v, ps, rfl, hp, hz⟩ := h0 hc
   obtain ⟨a, c, rfl⟩ := own_sl hz.outer
   exact ⟨a, c, ps, by rw [bzO, bzI, if_pos hc, if_pos hc, hc], by rw [bzZ, if_pos hc]; exact hp, hz, hb⟩
 · exact ⟨none, 0, [], by rw [h1 hc, bzO, bzI, if_neg hc, if_neg hc]; rfl, by rw [bzZ, if_neg hc]; rfl, ZOwn.nil _ _, hb⟩
end Go.Proofs.YtdcbhohlglncnaaGreat
