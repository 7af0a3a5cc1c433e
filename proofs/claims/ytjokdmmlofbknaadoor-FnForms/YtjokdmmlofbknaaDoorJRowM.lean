import Derived.Test.YtjokdmmlofbknaaDoorJNameSz
import Derived.Test.YtjokdmmlofbknaaDoorJMath
import Derived.Test.YtjokdmmlofbknaaDoorJJoin
import Derived.Deep.LoopGhost
import Derived.Test.YtjokdmmlofbknaaDoorRows
import Derived.WalkSpells
import Derived.WalkLawsBesides
/- Rows of the call's own, side by side. -/
namespace Go.Proofs.YtjokdmmlofbknaaDoor
open Go.RowKit

theorem Tryd.infoU8r : (Tryd.prog.info? 5).map (fun i => (i.zero, i.size, i.bytes)) = some (some (.int .u8 0), 1, 1) := by kernel_rfl

theorem owns_apart {w w1 : World} {B e e' n n' : Nat} {v u : Value} {xs ys : List Value} (h : w.ownsRow B e 1 v n xs) (h' : w.ownsRow B e' 1 u n' ys) (hne : e ≠ e') (hg : w.grownBy w1 u.ownBlock) : w1.ownsRow B e 1 v n xs := by
  refine h.kept hg ?_
  rcases h.2 with ⟨rfl, _⟩ | ⟨g, cap, cur, rfl, _, hh, _⟩
  · exact .inl rfl
  · right
    rcases h'.2 with ⟨rfl, _⟩ | ⟨g', cap', cur', rfl, _, hh', _⟩
    · simp [Value.ownBlock]
    · simp only [Value.ownBlock, ne_eq, Option.some.injEq]
      intro e2
      subst e2
      rw [hh] at hh'
      simp at hh'
      exact hne hh'.2

theorem owns_shape {w : World} {B e n : Nat} {v : Value} {xs : List Value} (h : w.ownsRow B e 1 v n xs) : ∃ a cap, v = .slice a n cap := by
  rcases h.2 with ⟨rfl, rfl⟩ | ⟨g, cap, cur, rfl, _⟩
  · exact ⟨_, _, rfl⟩
  · exact ⟨_, _, rfl⟩

theorem grow1 (w : World) (o : Obj) : w.heap.size ≤ (w.alloc o).heap.size := ((Below.refl w.heap.size w).alloc (Nat.le_refl _) o).size

theorem made2 (w : World) (o : Obj) (e : Nat) : ((w.alloc o).alloc (.cells #[] e)).ownsRow w.heap.size e 1 (.slice (some ⟨w.heap.size + 1, 0, none⟩) 0 0) 0 [] := by
  have h : (w.alloc o).heap.size = w.heap.size + 1 := by simp
  rw [← h]
  exact World.ownsRow_made (w.alloc o) #[] 0 (grow1 w o) (by decide) rfl

theorem owns_bel {w w' : World} {B e n : Nat} {v : Value} {xs : List Value} (h : w.ownsRow B e 1 v n xs) (hb : Below w.heap.size w w') : w'.ownsRow B e 1 v n xs := by
  refine ⟨h.1, ?_⟩
  rcases h.2 with h0 | ⟨g, cap, cur, h1, h2, h3, h4⟩
  · exact .inl h0
  · exact .inr ⟨g, cap, cur, h1, h2, by rw [hb.block g (Array.getElem?_eq_some_iff.1 h3).1]; exact h3, h4⟩

theorem owns_base {w : World} {B B' e n : Nat} {v : Value} {xs : List Value} (h : w.ownsRow B e 1 v n xs) (hB : B' ≤ B) : w.ownsRow B' e 1 v n xs := by
  refine ⟨h.1, ?_⟩
  rcases h.2 with h0 | ⟨g, cap, cur, h1, h2, h3⟩
  · exact .inl h0
  · exact .inr ⟨g, cap, cur, h1, Nat.le_trans hB h2, h3⟩

theorem u8_ne {c : UInt8} {n : Nat} (hn : n < 256) (h : c ≠ UInt8.ofNat n) : ((c.toNat : Int) == (n : Int)) = false := by
  rw [beq_eq_false_iff_ne]
  intro e
  apply h
  apply UInt8.toNat_inj.1
  simp
  omega

theorem extract_drop (s : ByteArray) (k : Nat) : (s.extract k s.size).data.toList = s.data.toList.drop k := by
  simp only [ByteArray.data_extract, Array.toList_extract]
  rw [List.extract_eq_take_drop, List.take_of_length_le (by simp)]

end Go.Proofs.YtjokdmmlofbknaaDoor
/- spec.l01Name by its contract. -/
namespace Go.Proofs.YtjokdmmlofbknaaDoor
open Go.RowKit

end Go.Proofs.YtjokdmmlofbknaaDoor
/- Bytes of a string, laid in a new row. -/
namespace Go.Proofs.YtjokdmmlofbknaaDoor
open Go.RowKit

/-- The bytes 'l' lie at the head of block g, and may be written. -/
def BRow (w : World) (g : Nat) (l : List UInt8) : Prop := ∀ j c, l[j]? = some c → w.cell? ⟨g, j, none⟩ = some (.int .u8 c.toNat) ∧ w.frozen? ⟨g, j, none⟩ = false

theorem BRow.set {w : World} {g k : Nat} {l : List UInt8} {d : UInt8} (h : BRow w g l) (hk : k < l.length) : BRow (w.setCell ⟨g, k, none⟩ (.int .u8 d.toNat)) g (l.set k d) := by
  intro j c hj
  obtain ⟨x, hx⟩ : ∃ x, l[k]? = some x := ⟨_, List.getElem?_eq_getElem hk⟩
  by_cases e : k = j
  · subst e
    rw [List.getElem?_set_self hk] at hj
    simp at hj
    subst hj
    exact ⟨World.cell?_setCell_same _ _ _ (h k x hx).1, by rw [World.frozen?_setCell]; exact (h k x hx).2⟩
  · rw [List.getElem?_set_ne e] at hj
    refine ⟨?_, by rw [World.frozen?_setCell]; exact (h j c hj).2⟩
    rw [World.cell?_setCell_other w ⟨g, k, none⟩ ⟨g, j, none⟩ _ (by intro h; cases h; exact e rfl)]
    exact (h j c hj).1

theorem new_bytes (s : ByteArray) (w : World) : ∃ cap W, s.size ≤ cap ∧ (s.size ≤ maxLen → cap ≤ maxLen) ∧
    (convert 9 22 (.string s)).run Tryd.prog w = .ok (.slice (some ⟨w.heap.size, 0, none⟩) s.size cap) W ∧ BRow W w.heap.size s.data.toList ∧ Below w.heap.size w W := by
  refine ⟨_, _, grownCap_ge w s.size 0 5, grownCap_le_maxLen w s.size 0 5, run_bytes_of_string w 9 22 5 s Tryd.underlying9 Tryd.underlying22 Tryd.underlying5, ?_, ?_⟩
  · intro j c hj
    have hj' : j < s.data.size := by
      have := (List.getElem?_eq_some_iff.1 hj).1
      simpa using this
    have hc : s.data[j] = c := by
      have := (List.getElem?_eq_some_iff.1 hj).2
      simpa using this
    constructor
    · have e := cell_of_row (w.drew.alloc (.cells (bytesRow s (grownCap w s.size 0 5)) 5 ((bytesRow s (grownCap w s.size 0 5)).size, (bytesRow s (grownCap w s.size 0 5)).size + 1))) w.heap.size j _ 5 _ (heap_alloc_new w.drew _)
      rw [e, bytesRow_at s _ j hj', hc]
    · have e := World.frozen?_alloc_mark w.drew (bytesRow s (grownCap w s.size 0 5)) 5 (bytesRow s (grownCap w s.size 0 5)).size ((bytesRow s (grownCap w s.size 0 5)).size + 1) j
      rw [show w.heap.size = w.drew.heap.size from rfl, e]
      have : s.data.size ≤ (bytesRow s (grownCap w s.size 0 5)).size := by simp [bytesRow]
      simp; omega
  · exact ((Below.refl _ w).drew).alloc (Nat.le_refl _) _

end Go.Proofs.YtjokdmmlofbknaaDoor
/- spec.l01Spoil by its contract. -/
namespace Go.Proofs.YtjokdmmlofbknaaDoor
open Go.RowKit

theorem brow_grown {w w1 : World} {g gb : Nat} {l : List UInt8} (h : BRow w gb l) (hg : w.grownBy w1 (some g)) (hne : gb ≠ g) : BRow w1 gb l := by
  intro j c hj
  obtain ⟨h1, h2⟩ := h j c hj
  have hlt := World.block_lt_of_cell? w _ h1
  have hblk := hg.block gb hlt (fun e => hne (by simpa using e))
  exact ⟨(World.cell?_of_block (w := w) hblk).trans h1, (World.frozen?_of_block (w := w) hblk).trans h2⟩

theorem conv_brow {w : World} {gb cap k : Nat} {l : List UInt8} (h : BRow w gb l) (hk : k ≤ l.length) :
    (convert 22 9 (.slice (some ⟨gb, 0, none⟩) k cap)).run Tryd.prog w = .ok (.string ⟨(l.take k).toArray⟩) w := by
  have hl : (l.take k).length = k := by simp; omega
  have := run_convert_bytes_back (P := Tryd.prog) w 22 9 5 ⟨gb, 0, none⟩ cap (l.take k) Tryd.underlying22 Tryd.underlying5 Tryd.underlying9 (by
    intro j hj
    rw [Nm.addr_add, Nat.zero_add]
    refine (h j _ ?_).1
    rw [List.getElem_take]
    exact List.getElem?_eq_getElem (by omega))
  rw [hl] at this
  exact this

theorem src_setOther {w : World} {g gb i n cap : Nat} {a : Option Addr} {v : Value} (h : Src w g a n cap) (hne : gb ≠ g) (hcode : n = 0 ∨ ∀ b off, a = some ⟨b, off, none⟩ → b ≠ gb) : Src (w.setCell ⟨gb, i, none⟩ v) g a n cap := by
  obtain ⟨pos, st, h1, h2, h3, h4, h5⟩ := h
  refine ⟨pos, st, ?_, h2, h3, h4, ?_⟩
  · rw [heap_setCell_other w ⟨gb, i, none⟩ g v (fun e => hne e.symm)]; exact h1
  · rcases h5 with h5 | ⟨b, off, e, hb, hc⟩
    · exact .inl h5
    · rcases hcode with h6 | h6
      · exact .inl h6
      · refine .inr ⟨b, off, e, hb, fun j hj => ?_⟩
        obtain ⟨c, hc1, hc2⟩ := hc j hj
        refine ⟨c, ?_, hc2⟩
        rw [World.cell?_setCell_other w ⟨gb, i, none⟩ ⟨b, off + j, none⟩ v (by intro h; cases h; exact h6 _ off e rfl)]
        exact hc1

theorem grown_set {w w1 : World} {g gb i : Nat} {v : Value} (h : w.grownBy w1 (some g)) (hb : w.heap.size ≤ gb) : w.grownBy (w1.setCell ⟨gb, i, none⟩ v) (some g) :=
  grown_own h (row := some gb) ⟨rfl, rfl, rfl, by simp, fun k _ hk => heap_setCell_other w1 ⟨gb, i, none⟩ k v (fun e => hk (by simp [e]))⟩ (fun k hk => by simp at hk; omega)

theorem brow_len_set {l : List UInt8} {k : Nat} {d : UInt8} : (l.set k d).length = l.length := by simp

end Go.Proofs.YtjokdmmlofbknaaDoor
/- spec.l01Raw by its contract. -/
namespace Go.Proofs.YtjokdmmlofbknaaDoor
open Go.RowKit

end Go.Proofs.YtjokdmmlofbknaaDoor
