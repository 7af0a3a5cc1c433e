import Derived.Test.YtilcbdhcojgcbaaJVfX
/- The model's verdict: its state while a key is looked for; the key that is found. -/
namespace Go.Proofs.Ytilcbdhcojgcbaa
open Go.RowKit
set_option linter.unusedVariables false

theorem blk_apart {w : World} {b c : Nat} {cs ds : Array Value} {T U : TypeId} (h : Blk w b cs T) (h' : Blk w c ds U) (hT : T ≠ U) : b ≠ c := by
  rintro rfl
  have e : some (Obj.cells cs T (0, 0)) = some (Obj.cells ds U (0, 0)) := h.symm.trans h'
  injection e with e
  injection e with e1 e2
  exact hT e2

/-- How the world is while the model looks for a key. -/
structure ZSt (w wr : World) (gV gD gR : Nat) (V D R : Array Value) : Prop where
  k8 : Blk wr w.heap.size vdZ 44
  kV : Blk wr gV V 44
  kD : Blk wr gD D 9
  kR : Blk wr gR R 56
  be : Below w.heap.size w wr
theorem ZSt.below {w wr W : World} {gV gD gR : Nat} {V D R : Array Value} (h : ZSt w wr gV gD gR V D R) (hb : Below wr.heap.size wr W) : ZSt w W gV gD gR V D R :=
  ⟨blk_below h.k8 hb, blk_below h.kV hb, blk_below h.kD hb, blk_below h.kR hb, Nm.below_two h.be hb⟩
theorem ZSt.set {w wr : World} {gV gD gR : Nat} {V D R : Array Value} (h : ZSt w wr gV gD gR V D R) (hg8 : w.heap.size < gV) (i : Nat) (x : Value) : ZSt w (wr.setCell ⟨gV, i, none⟩ x) gV gD gR (V.setIfInBounds i x) D R :=
  ⟨blk_far h.k8 (by omega), blk_set h.kV i x, blk_far h.kD (blk_apart h.kD h.kV (by decide)), blk_far h.kR (blk_apart h.kR h.kV (by decide)), (Only.refl gV wr).set.below h.be (by omega) h.be.size⟩

/-- The first key from a place on that fits. -/
def keyFr (ks : List (ByteArray × ByteArray)) (O : ByteArray) (k : Nat) : Int := match (ks.drop k).findIdx? (fun x => sameS x.1 O) with
  | none => -1
  | some j => ((k + j : Nat) : Int)
theorem keyFr_end {ks : List (ByteArray × ByteArray)} {O : ByteArray} : keyFr ks O ks.length = -1 := by simp [keyFr]
theorem keyFr_hit {ks : List (ByteArray × ByteArray)} {O : ByteArray} {k : Nat} {x : ByteArray × ByteArray} (hx : ks[k]? = some x) (hs : sameS x.1 O = true) : keyFr ks O k = (k : Int) := by
  obtain ⟨hk, e⟩ := List.getElem?_eq_some_iff.1 hx
  rw [keyFr, List.drop_eq_getElem_cons hk, List.findIdx?_cons, e, hs]
  simp
theorem keyFr_miss {ks : List (ByteArray × ByteArray)} {O : ByteArray} {k : Nat} {x : ByteArray × ByteArray} (hx : ks[k]? = some x) (hs : sameS x.1 O = false) : keyFr ks O k = keyFr ks O (k + 1) := by
  obtain ⟨hk, e⟩ := List.getElem?_eq_some_iff.1 hx
  rw [keyFr, keyFr, List.drop_eq_getElem_cons hk, List.findIdx?_cons, e, hs]
  cases (ks.drop (k + 1)).findIdx? (fun x => sameS x.1 O) with
  | none => simp
  | some j => simp; omega
theorem keyFr_none {ks : List (ByteArray × ByteArray)} {O : ByteArray} (h : keyAt ks O = none) : keyFr ks O 0 = -1 := by
  rw [keyAt] at h
  rw [keyFr, List.drop_zero, h]
theorem keyFr_some {ks : List (ByteArray × ByteArray)} {O : ByteArray} {i : Nat} (h : keyAt ks O = some i) : keyFr ks O 0 = (i : Int) ∧ i < ks.length := by
  have h' := h
  rw [keyAt] at h
  refine ⟨by rw [keyFr, List.drop_zero, h]; simp, ?_⟩
  exact (List.findIdx?_eq_some_iff_getElem.1 h).1
theorem bdy_is {l : List UInt8} {r : Rm} {n N q : Nat} (h : n + 1 = N) : (((r.dat.drop 55).take 2 ++ (l.drop 2).take 8) ++ bigL n 2) ++ (l.drop 12).take (q - 12) = bodyL l r N q := by
  subst h
  rw [bodyL, List.drop_take, Nat.add_sub_cancel]
theorem bdy_len {l : List UInt8} {r : Rm} {N q : Nat} (hq : q ≤ l.length) (h12 : 12 ≤ q) : (bodyL l r N q).length ≤ q + 12 := by
  simp [bodyL, big_len]
  omega
theorem str_cmp {a b : ByteArray} : (a.toList != b.toList) = !(decide (a.data.toList = b.data.toList)) ∧ (a.toList == b.toList) = decide (a.data.toList = b.data.toList) := by
  rw [ByteArray.toList_eq, ByteArray.toList_eq]
  by_cases h : a.data.toList = b.data.toList
  · rw [h]
    simp
  · rw [decide_eq_false h]
    exact ⟨by simpa using h, by simpa using h⟩
end Go.Proofs.Ytilcbdhcojgcbaa
