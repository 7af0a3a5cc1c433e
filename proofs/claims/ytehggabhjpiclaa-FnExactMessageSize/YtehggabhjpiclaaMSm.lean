import Derived.Test.YtehggabhjpiclaaJPut
/- Messages that are not too great. -/
namespace Go.Proofs.Ytehggabhjpiclaa
open Go.RowKit

def MSmall (m : Mg) : Prop := (∀ r ∈ m.qs, r.nm.size ≤ 1048576) ∧ (∀ r ∈ m.an, r.own.size ≤ 1048576 ∧ r.da.size ≤ 1048576) ∧ (∀ r ∈ m.au, r.own.size ≤ 1048576 ∧ r.da.size ≤ 1048576) ∧ (∀ r ∈ m.ex, r.own.size ≤ 1048576 ∧ r.da.size ≤ 1048576) ∧ m.qs.length ≤ 1048576 ∧ m.an.length ≤ 1048576 ∧ m.au.length ≤ 1048576 ∧ m.ex.length ≤ 1048576
end Go.Proofs.Ytehggabhjpiclaa
