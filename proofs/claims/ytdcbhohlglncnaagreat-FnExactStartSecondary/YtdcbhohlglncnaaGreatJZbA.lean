import Derived.Test.YtdcbhohlglncnaaGreatJSCmp
import Derived.Test.YtdcbhohlglncnaaGreatJMsP
import Derived.Test.YtdcbhohlglncnaaGreatJSCheck
import Derived.Test.YtdcbhohlglncnaaGreatJMath
import Derived.Test.YtdcbhohlglncnaaGreatJSSmall
import Derived.RangeFuncNested
import Derived.RangeFuncBound
import Derived.RangeFuncCalls
import Derived.RangeFuncLeaves
import Derived.Shelf.Abstract
import Derived.Shelf.RegionOpen
import Derived.WalkKit
import Derived.OwnWalkIn
import Derived.TacticsInMore
import Derived.LoopNIn
import Derived.LoopIn
/- spec.l06One by its contract. -/
namespace Go.Proofs.YtdcbhohlglncnaaGreat
open Go.RowKit
set_option linter.unusedVariables false
/-- What is wrong with a record by itself. -/
def oneC (r : Rr) (apex : ByteArray) : Int :=
 if (Nm.split r.own).isSome = false then 1 else if r.cl ≠ 1 then 19 else if (decide (0 ≤ r.tt) && decide (r.tt ≤ 2147483647)) = false then 18
 else if metaB r.ty = true ∨ r.ty < 0 ∨ 65535 < r.ty then 6 else if cutCode r.ty r.da ≠ 0 then 7 else if isUnderS r.own apex = false then 22 else 0
set_option maxRecDepth 100000 in
set_option maxHeartbeats 1600000 in
theorem l06One_any (r : Rr) (apex : ByteArray) (w : World) (ho : r.own.size ≤ maxLen) (ha : apex.size ≤ maxLen) :
 Calls Tryz.prog 64 #[.agg #[.string r.own, .int .i64 r.ty, .int .i64 r.cl, .int .i64 r.tt, .string r.da], .string apex] w fun e w' => e = .returned (.int .i64 (oneC r apex)) ∧ Below w.heap.size w w' := by
 have hB0 := (Below.refl w.heap.size w).alloc (Nat.le_refl _) (.cells #[.string r.own, .int .i64 r.ty, .int .i64 r.cl, .int .i64 r.tt, .string r.da] 90)
 have hR0 := RB.new w r 90
 have h1 := fun W => specNameOK_any r.own W ho
 have h2 := fun W => l04In_any r.tt 2147483647 W
 have h3 := fun W => l05Meta_any r.ty W
 have h4 := fun W => specCheckData_any r.ty r.da W
 have h5 := fun W => specIsUnder_any r.own apex W ho ha
 have hkeep := fun (W : World) (hb : Below (w.alloc (.cells #[.string r.own, .int .i64 r.ty, .int .i64 r.cl, .int .i64 r.tt, .string r.da] 90)).heap.size (w.alloc (.cells #[.string r.own, .int .i64 r.ty, .int .i64 r.cl, .int .i64 r.tt, .string r.da] 90)) W) => (And.intro (hR0.below hb) (Nm.below_two hB0 hb))
 obtain ⟨Q, hQ⟩ : ∃ Q, Q = oneC r apex := ⟨_, rfl⟩
 rw [← hQ]
 unfold oneC at hQ
 generalize cutCode r.ty r.da = CC at *
 generalize isUnderS r.own apex = IU at *
 generalize (Nm.split r.own).isSome = SO at *
 generalize (decide (0 ≤ r.tt) && decide (r.tt ≤ 2147483647)) = TT at *
 have hmb : ∀ b, metaB r.ty = b → True := fun _ _ => trivial
 generalize metaB r.ty = MB at *
 clear hmb
 obtain ⟨o, ty, cl, tt, da⟩ := r
 simp only [RB] at *
 obtain ⟨c0, c1, c2, c3, c4⟩ := hR0
 cases SO with
 | false =>
   simp only [if_true] at hQ
   subst hQ
   clear h2 h3 h4 h5
   go_enter Tryz.func64, Tryz.ntmps64
   go_wp2_with fail
   refine (h1 _).mono ?_
   rintro e w1 ⟨rfl, b1⟩
   go_wp2
   go_ret
   exact ⟨rfl, Nm.below_two hB0 b1⟩
 | true =>
   simp only [Bool.true_eq_false, if_false] at hQ
   by_cases hcl : cl = 1
   · rw [if_neg (by simpa using hcl)] at hQ
     subst hcl
     have ncl : ((1 : Int) != 1) = false := rfl
     cases TT with
     | false =>
       simp only [if_true] at hQ
       subst hQ
       clear h3 h4 h5
       go_enter Tryz.func64, Tryz.ntmps64
       go_wp2_with fail
       refine (h1 _).mono ?_
       rintro e w1 ⟨rfl, b1⟩
       obtain ⟨⟨d0, d1, d2, d3, d4⟩, e1⟩ := hkeep w1 b1
       clear c0 c1 c2 c3 c4
       go_wp2_with fail
       refine (h2 _).mono ?_
       rintro e w2 ⟨rfl, rfl⟩
       go_wp2
       go_ret
       exact ⟨rfl, e1⟩
     | true =>
       simp only [Bool.true_eq_false, if_false] at hQ
       by_cases hm : MB = true ∨ ty < 0 ∨ 65535 < ty
       · rw [if_pos hm] at hQ
         subst hQ
         clear h4 h5
         cases MB with
         | true =>
           go_enter Tryz.func64, Tryz.ntmps64
           go_wp2_with fail
           refine (h1 _).mono ?_
           rintro e w1 ⟨rfl, b1⟩
           obtain ⟨⟨d0, d1, d2, d3, d4⟩, e1⟩ := hkeep w1 b1
           clear c0 c1 c2 c3 c4
           go_wp2_with fail
           refine (h2 _).mono ?_
           rintro e w2 ⟨rfl, rfl⟩
           go_wp2_with fail
           refine (h3 _).mono ?_
           rintro e w3 ⟨rfl, rfl⟩
           go_wp2
           go_ret
           exact ⟨rfl, e1⟩
         | false =>
           by_cases hneg : ty < 0
           · have n0 : decide (ty < 0) = true := decide_eq_true hneg
             go_enter Tryz.func64, Tryz.ntmps64
             go_wp2_with fail
             refine (h1 _).mono ?_
             rintro e w1 ⟨rfl, b1⟩
             obtain ⟨⟨d0, d1, d2, d3, d4⟩, e1⟩ := hkeep w1 b1
             clear c0 c1 c2 c3 c4
             go_wp2_with fail
             refine (h2 _).mono ?_
             rintro e w2 ⟨rfl, rfl⟩
             go_wp2_with fail
             refine (h3 _).mono ?_
             rintro e w3 ⟨rfl, rfl⟩
             go_wp2
             go_ret
             exact ⟨rfl, e1⟩
           · have hbig : 65535 < ty := by rcases hm with h | h | h; · cases h
                                          · omega
                                          · exact h
             have n0 : decide (ty < 0) = false := decide_eq_false hneg
             have n1 : decide (65535 < ty) = true := decide_eq_true hbig
             go_enter Tryz.func64, Tryz.ntmps64
             go_wp2_with fail
             refine (h1 _).mono ?_
             rintro e w1 ⟨rfl, b1⟩
             obtain ⟨⟨d0, d1, d2, d3, d4⟩, e1⟩ := hkeep w1 b1
             clear c0 c1 c2 c3 c4
             go_wp2_with fail
             refine (h2 _).mono ?_
             rintro e w2 ⟨rfl, rfl⟩
             go_wp2_with fail
             refine (h3 _).mono ?_
             rintro e w3 ⟨rfl, rfl⟩
             go_wp2
             go_ret
             exact ⟨rfl, e1⟩
       · rw [if_neg hm] at hQ
         obtain ⟨rfl, hneg, hbig⟩ : MB = false ∧ 0 ≤ ty ∧ ty ≤ 65535 := by
          refine ⟨?_, ?_, ?_⟩
          · cases MB with
            | true => exact absurd (Or.inl rfl) hm
            | false => rfl
          · exact Int.not_lt.1 (fun h => hm (.inr (.inl h)))
          · exact Int.not_lt.1 (fun h => hm (.inr (.inr h)))
         by_cases hc : CC = 0
         · rw [if_neg (by simpa using hc)] at hQ
           subst hc
           cases IU with
           | false =>
             simp only [if_true] at hQ
             subst hQ
             go_enter Tryz.func64, Tryz.ntmps64
             go_wp2_with fail
             refine (h1 _).mono ?_
             rintro e w1 ⟨rfl, b1⟩
             obtain ⟨⟨d0, d1, d2, d3, d4⟩, e1⟩ := hkeep w1 b1
             clear c0 c1 c2 c3 c4
             go_wp2_with fail
             refine (h2 _).mono ?_
             rintro e w2 ⟨rfl, rfl⟩
             go_wp2_with fail
             refine (h3 _).mono ?_
             rintro e w3 ⟨rfl, rfl⟩
             go_wp2_with fail
             refine (h4 _).mono ?_
             rintro e w4 ⟨rfl, b4⟩
             obtain ⟨⟨g0, g1, g2, g3, g4⟩, e4⟩ := hkeep w4 (Nm.below_two b1 b4)
             clear d0 d1 d2 d3 d4
             go_wp2_with fail
             refine (h5 _).mono ?_
             rintro e w5 ⟨rfl, b5⟩
             go_wp2
             go_ret
             exact ⟨rfl, Nm.below_two e4 b5⟩
           | true =>
             simp only [Bool.true_eq_false, if_false] at hQ
             subst hQ
             go_enter Tryz.func64, Tryz.ntmps64
             go_wp2_with fail
             refine (h1 _).mono ?_
             rintro e w1 ⟨rfl, b1⟩
             obtain ⟨⟨d0, d1, d2, d3, d4⟩, e1⟩ := hkeep w1 b1
             clear c0 c1 c2 c3 c4
             go_wp2_with fail
             refine (h2 _).mono ?_
             rintro e w2 ⟨rfl, rfl⟩
             go_wp2_with fail
             refine (h3 _).mono ?_
             rintro e w3 ⟨rfl, rfl⟩
             go_wp2_with fail
             refine (h4 _).mono ?_
             rintro e w4 ⟨rfl, b4⟩
             obtain ⟨⟨g0, g1, g2, g3, g4⟩, e4⟩ := hkeep w4 (Nm.below_two b1 b4)
             clear d0 d1 d2 d3 d4
             go_wp2_with fail
             refine (h5 _).mono ?_
             rintro e w5 ⟨rfl, b5⟩
             go_wp2
             go_ret
             exact ⟨rfl, Nm.below_two e4 b5⟩
         · rw [if_pos (by simpa using hc)] at hQ
           subst hQ
           have nc : (CC != 0) = true := by rw [bne_iff_ne]; exact hc
           go_enter Tryz.func64, Tryz.ntmps64
           go_wp2_with fail
           refine (h1 _).mono ?_
           rintro e w1 ⟨rfl, b1⟩
           obtain ⟨⟨d0, d1, d2, d3, d4⟩, e1⟩ := hkeep w1 b1
           clear c0 c1 c2 c3 c4
           go_wp2_with fail
           refine (h2 _).mono ?_
           rintro e w2 ⟨rfl, rfl⟩
           go_wp2_with fail
           refine (h3 _).mono ?_
           rintro e w3 ⟨rfl, rfl⟩
           go_wp2_with fail
           refine (h4 _).mono ?_
           rintro e w4 ⟨rfl, b4⟩
           go_wp2
           go_ret
           exact ⟨rfl, Nm.below_two e1 b4⟩
   · rw [if_pos (by simpa using hcl)] at hQ
     subst hQ
     have ncl : (cl != 1) = true := by rw [bne_iff_ne]; exact hcl
     clear h2 h3 h4 h5
     go_enter Tryz.func64, Tryz.ntmps64
     go_wp2_with fail
     refine (h1 _).mono ?_
     rintro e w1 ⟨rfl, b1⟩
     obtain ⟨⟨d0, d1, d2, d3, d4⟩, e1⟩ := hkeep w1 b1
     clear c0 c1 c2 c3 c4
     go_wp2
     go_ret
     exact ⟨rfl, e1⟩
def itemOf (r : Rr) : It := ⟨r, Nm.foldS r.own, foldR r.ty r.da, false⟩
/-- The first record that is ill by itself. -/
def badOne (apex : ByteArray) : List Rr → Nat → Option (Int × Nat)
 | [], _ => none
 | r :: rs, i => if oneC r apex = 0 then badOne apex rs (i + 1) else some (oneC r apex, i)
theorem badOne_at {apex : ByteArray} : ∀ (l : List Rr) (k i : Nat) (r : Rr), (∀ (j : Nat) (x : Rr), j < k → l[j]? = some x → oneC x apex = 0) → l[k]? = some r → oneC r apex ≠ 0 → badOne apex l i = some (oneC r apex, i + k) := by
 intro l
 induction l with
 | nil => intro k i r _ h; simp at h
 | cons x l ih =>
   intro k i r hno hr hp
   cases k with
   | zero =>
     simp at hr; subst hr
     rw [badOne, if_neg hp]; rfl
   | succ k =>
     simp at hr
     rw [badOne, if_pos (hno 0 x (by omega) rfl), ih k (i + 1) r (fun j y hj hy => hno (j + 1) y (by omega) (by simpa using hy)) hr hp]
     congr 2
     omega
theorem badOne_no {apex : ByteArray} : ∀ (l : List Rr) (i : Nat), (∀ (j : Nat) (x : Rr), j < l.length → l[j]? = some x → oneC x apex = 0) → badOne apex l i = none := by
 intro l
 induction l with
 | nil => intro i _; rfl
 | cons x l ih =>
   intro i hno
   rw [badOne, if_pos (hno 0 x (by simp) rfl)]
   exact ih (i + 1) (fun j y hj hy => hno (j + 1) y (by simp; omega) (by simpa using hy))
def addLast (acc : List Sz) (d : ByteArray) : List Sz := match acc.getLast? with
 | some s => acc.dropLast ++ [{ s with da := s.da ++ [d] }]
 | none => []
/-- Whether the k-th of sorted records begins a set. -/
def newSet (srt : List It) (k : Nat) (x : It) : Bool := match k with
 | 0 => true
 | k + 1 => match srt[k]? with
   | some y => decide (y.fo ≠ x.fo) || decide (y.r.ty ≠ x.r.ty)
   | none => true
/-- The sets of the first k of sorted records. -/
def grpK (l srt : List It) : Nat → List Sz
 | 0 => []
 | k + 1 => match srt[k]? with
   | some x => if newSet srt k x then grpK l srt k ++ [⟨ownI l x.fo, x.r.ty, x.r.tt, [x.r.da]⟩] else addLast (grpK l srt k) x.r.da
   | none => grpK l srt k
theorem grpK_new {l srt : List It} {k : Nat} {x : It} (h : srt[k]? = some x) (hn : newSet srt k x = true) : grpK l srt (k + 1) = grpK l srt k ++ [⟨ownI l x.fo, x.r.ty, x.r.tt, [x.r.da]⟩] := by
 rw [grpK, h]; simp [hn]
theorem grpK_old {l srt : List It} {k : Nat} {x : It} {qs : List Sz} {s : Sz} (h : srt[k]? = some x) (hn : newSet srt k x = false) (hg : grpK l srt k = qs ++ [s]) : grpK l srt (k + 1) = qs ++ [{ s with da := s.da ++ [x.r.da] }] := by
 rw [grpK, h]; simp [hn, hg, addLast]
theorem grpK_last {l srt : List It} : ∀ (k : Nat), 0 < k → k ≤ srt.length → ∃ qs s, grpK l srt k = qs ++ [s] := by
 intro k
 induction k with
 | zero => intro h; omega
 | succ k ih =>
   intro _ hk
   obtain ⟨x, hx⟩ : ∃ x, srt[k]? = some x := ⟨_, List.getElem?_eq_getElem (by omega)⟩
   cases hn : newSet srt k x with
   | true => exact ⟨_, _, grpK_new hx hn⟩
   | false =>
     have hk0 : 0 < k := by
      rcases Nat.eq_zero_or_pos k with h | h
      · subst h; simp [newSet] at hn
      · exact h
     obtain ⟨qs, s, e⟩ := ih hk0 (by omega)
     exact ⟨_, _, grpK_old hx hn e⟩
theorem grpK_len {l srt : List It} : ∀ (k : Nat), k ≤ srt.length → (grpK l srt k).length ≤ k ∧ ∀ s ∈ grpK l srt k, s.da.length ≤ k := by
 intro k
 induction k with
 | zero => intro _; exact ⟨Nat.le_refl _, by simp [grpK]⟩
 | succ k ih =>
   intro hk
   obtain ⟨h1, h2⟩ := ih (by omega)
   obtain ⟨x, hx⟩ : ∃ x, srt[k]? = some x := ⟨_, List.getElem?_eq_getElem (by omega)⟩
   cases hn : newSet srt k x with
   | true =>
     rw [grpK_new hx hn]
     refine ⟨by simp; omega, fun s hs => ?_⟩
     rcases List.mem_append.1 hs with h | h
     · have := h2 s h; omega
     · simp at h; subst h; simp
   | false =>
     have hk0 : 0 < k := by
      rcases Nat.eq_zero_or_pos k with h | h
      · subst h; simp [newSet] at hn
      · exact h
     obtain ⟨qs, s, e⟩ := grpK_last (l := l) (srt := srt) k hk0 (by omega)
     rw [grpK_old hx hn e]
     rw [e] at h1 h2
     refine ⟨by simp at h1 ⊢; omega, fun t ht => ?_⟩
     rcases List.mem_append.1 ht with h | h
     · have := h2 t (List.mem_append.2 (.inl h)); omega
     · simp at h
       subst h
       have := h2 s (by simp)
       simp; omega
def itsOf (list : List Rr) : List It := twI (list.map itemOf)
def restOf (list : List Rr) : List It := (itsOf list).filter fun x => !x.out
def srtOf (list : List Rr) : List It := sortI (restOf list)
/-- The sets of a zone of records. -/
def bldZ (list : List Rr) : List Sz := grpK (itsOf list) (srtOf list) (srtOf list).length
/-- The code, and the place of what is wrong. -/
def bldE (list : List Rr) (apex : ByteArray) : Int × Int :=
 if (Nm.split apex).isSome = false then (32, -1) else if 500 < list.length then (12, -1) else
 match badOne apex list 0 with
 | some (c, i) => (c, i)
 | none => if 0 ≤ badI (list.map itemOf) then (24, badI (list.map itemOf)) else if (rulesI (itsOf list) (Nm.foldS apex)).1 ≠ 0 then rulesI (itsOf list) (Nm.foldS apex) else (0, 0)
end Go.Proofs.YtdcbhohlglncnaaGreat
/- (*table).all: a range over a table's rows, by its contract. -/
namespace Go.Proofs.YtdcbhohlglncnaaGreat
open Go.RowKit Go.Shelf
set_option linter.unusedVariables false
attribute [local go_sem] Oper.semAt_some
set_option maxRecDepth 100000 in
set_option maxHeartbeats 2000000 in
theorem all1S_in {α : Type} (kf vf : α → ByteArray) (F : Fence) (n : Nat) (h7 : F.fn 186) (hro : F.round = none) (hn : 1 ≤ n) (l tb g n₀ b off cap : Nat) (cmpv : Value) (zs : List α) (hl : zs.length ≤ 1000000) (hcap : zs.length ≤ cap ∧ cap ≤ maxLen) (hb : b < n₀) (J Jx : List α → World → Prop)
 (hJ : ∀ s W W', J s W → W.grownBy W' none → J s W')
 (hY : ∀ pre x W, J pre W → pre.length < zs.length → YieldAt F (n - 1) Tryz.prog l #[(Value.string (kf x)), (Value.string (vf x))] W fun e W' =>
  (e = .returned (.bool true) ∧ J (pre ++ [x]) W' ∧ Below n₀ W W') ∨ (e = .returned (.bool false) ∧ Jx (pre ++ [x]) W'))
 (W : World) (kb : W.cell? ⟨tb, 0, none⟩ = some (.pointer (some ⟨g, 0, none⟩))) (kg : W.cell? ⟨g, 1, none⟩ = some (.slice (some ⟨b, off, none⟩) zs.length cap))
 (hc : ∀ (i : Nat) (x : α), zs[i]? = some x → W.cell? ⟨b, off + i * 2, none⟩ = some (Value.string (kf x)) ∧ W.cell? ⟨b, off + i * 2 + 1, none⟩ = some (Value.string (vf x))) (hn₀ : n₀ ≤ W.heap.size) (h0 : J [] W) :
 CallsIn F n Tryz.prog 186 #[.func (.yield l) #[] #[], .pointer (some ⟨tb, 0, none⟩)] W fun e W' => (∃ v, e = .returned v) ∧
  ((∃ ys, ys = zs ∧ J ys W') ∨ (∃ pre, pre <+: zs ∧ Jx pre W')) := by
 obtain ⟨hcap1, hcap2⟩ := hcap
 unfold maxLen at hcap2
 refine callsIn_of_wp Tryz.func186 rfl h7 ?_ hro
 simp only [Tryz.ntmps186, List.size_toArray, List.length_cons, List.length_nil, Nat.reduceAdd, Nat.reduceSub, Array.replicate_succ, Array.replicate_zero, List.push_toArray, List.append_toArray, List.nil_append, List.cons_append]
 gi_wp2
 gi_loopw [10] (fun i wr => ∃ k : Nat, k ≤ zs.length ∧ i = .int .i64 k ∧ J (zs.take k) wr ∧ Below n₀ W wr)
  (fun i _ => zs.length - (intOf i).toNat)
 case atStart => exact ⟨0, Nat.zero_le _, rfl, by simpa using h0, Below.refl _ _⟩
 case round =>
  obtain ⟨k, hk, rfl, hJs, hnx⟩ := hrel
  by_cases hlt : k < zs.length
  · obtain ⟨x, hx⟩ : ∃ x, zs[k]? = some x := ⟨_, List.getElem?_eq_getElem hlt⟩
    obtain ⟨c0, c1⟩ := hc k x hx
    have d0 : wr.cell? ⟨b, off + k * 2, none⟩ = some (Value.string (kf x)) := (hnx.cell (p := ⟨b, off + k * 2, none⟩) hb).trans c0
    have d1 : wr.cell? ⟨b, off + k * 2 + 1, none⟩ = some (Value.string (vf x)) := (hnx.cell (p := ⟨b, off + k * 2 + 1, none⟩) hb).trans c1
    have hal : ∀ o : Obj, wr.grownBy (wr.alloc o) none := fun o => ⟨rfl, rfl, rfl, by simp, fun q hq _ => heap_alloc_old wr _ hq⟩
    obtain ⟨fn, tmps, assign, body, hy, hR⟩ := hY _ x (wr.alloc (.cells #[(Value.string (kf x)), (Value.string (vf x))] 258)) (hJ _ _ _ hJs (hal _)) (by rw [List.length_take]; omega)
    have n1 : (0 : Int) ≤ (k : Int) := by omega
    have n2 : (k : Int) < (zs.length : Int) := by omega
    have hbw : Below n₀ W (wr.alloc (.cells #[(Value.string (kf x)), (Value.string (vf x))] 258)) := hnx.alloc (Nat.le_trans hn₀ hnx.size) _
    have HT : Hid (zs.take (k + 1) = zs.take k ++ [x]) := by
     obtain ⟨hk', e⟩ := List.getElem?_eq_some_iff.1 hx
     show _ = _
     rw [List.take_succ_eq_append_getElem hk', e]
    clear hc c0 c1 hx
    gi_wp2
    refine hR.mono ?_
    rintro e W3 (⟨rfl, hJ3, hk3⟩ | ⟨rfl, hJx3⟩)
    · gi_wp2
      go_roundw
      case rel => exact ⟨k + 1, by omega, by go_num, by rw [HT.out]; exact hJ3, hbw.trans hk3⟩
      case measure => simp [intOf]; omega
    · gi_wp2
      refine bodyPost_ret (results_none rfl _ _ _) rfl ?_
      exact ⟨⟨_, rfl⟩, .inr ⟨_, by rw [← HT.out]; exact List.take_prefix _ _, hJx3⟩⟩
  · obtain rfl : k = zs.length := by omega
    have n2 : (zs.length : Int) ≤ (zs.length : Int) := by omega
    rw [List.take_length] at hJs
    clear hc
    gi_wp2
    go_end0
    exact ⟨⟨_, rfl⟩, .inl ⟨_, rfl, hJs⟩⟩
end Go.Proofs.YtdcbhohlglncnaaGreat
/- (*table).all: the iterator as it is handed to a loop. -/
namespace Go.Proofs.YtdcbhohlglncnaaGreat
open Go.RowKit Go.Shelf
set_option linter.unusedVariables false
attribute [local go_sem] Oper.semAt_some
/-- The rows zs lie below n₀ in the slice sv. -/
def RwsS {α : Type} (kf vf : α → ByteArray) (n₀ : Nat) (W : World) (sv : Value) (zs : List α) : Prop :=
 (sv = .slice none 0 0 ∧ zs = []) ∨ ∃ b off cap, sv = .slice (some ⟨b, off, none⟩) zs.length cap ∧ b < n₀ ∧ (zs.length ≤ cap ∧ cap ≤ maxLen) ∧
  ∀ (i : Nat) (x : α), zs[i]? = some x → W.cell? ⟨b, off + i * 2, none⟩ = some (Value.string (kf x)) ∧ W.cell? ⟨b, off + i * 2 + 1, none⟩ = some (Value.string (vf x))
theorem RwsS.below {α : Type} {kf vf : α → ByteArray} {n₀ : Nat} {W W' : World} {sv : Value} {zs : List α} (h : RwsS kf vf n₀ W sv zs) (hB : Below n₀ W W') : RwsS kf vf n₀ W' sv zs := by
 rcases h with h | ⟨b, off, cap, e, hb, hcp, hc⟩
 · exact .inl h
 · exact .inr ⟨b, off, cap, e, hb, hcp, fun i x hx => ⟨(hB.cell (p := ⟨b, off + i * 2, none⟩) hb).trans (hc i x hx).1, (hB.cell (p := ⟨b, off + i * 2 + 1, none⟩) hb).trans (hc i x hx).2⟩⟩
/-- A row of one's own is such a row. -/
theorem rwsS_own {α : Type} (kf vf : α → ByteArray) {w : World} {B e : Nat} {v : Value} (zs : List α) (h : w.ownsRow B e 2 v zs.length (rowCs (zs.map fun x => ((Value.string (kf x)), (Value.string (vf x)))))) : RwsS kf vf w.heap.size w v zs := by
 have h' := h
 rcases h.2 with ⟨rfl, h0⟩ | ⟨q, cap, cur, rfl, hb, hh, hc1, hc2, hcs, ht⟩
 · exact .inl ⟨rfl, List.length_eq_zero_iff.1 h0⟩
 · refine .inr ⟨q, 0, cap, rfl, (Array.getElem?_eq_some_iff.1 hh).1, ⟨hc1, hc2⟩, fun i x hx => ?_⟩
   have hi := (List.getElem?_eq_some_iff.1 hx).1
   have hm : (zs.map fun x => ((Value.string (kf x)), (Value.string (vf x))))[i]? = some ((Value.string (kf x)), (Value.string (vf x))) := by simp [hx]
   have a0 := rowCs_at _ i 0 _ hm (by decide)
   have a1 := rowCs_at _ i 1 _ hm (by decide)
   have c0 := h'.cellAt (i * 2) (by omega)
   have c1 := h'.cellAt (i * 2 + 1) (by omega)
   exact ⟨by rw [Nat.zero_add, c0]; exact a0, by rw [Nat.zero_add, c1]; exact a1⟩
set_option maxRecDepth 100000 in
set_option maxHeartbeats 2000000 in
theorem all1nS_in {α : Type} (F : Fence) (n : Nat) (h7 : F.fn 186) (hro : F.round = none) (l tb g : Nat) (J : List α → World → Prop) (W : World)
 (kb : W.cell? ⟨tb, 0, none⟩ = some (.pointer (some ⟨g, 0, none⟩))) (kg : W.cell? ⟨g, 1, none⟩ = some (.slice none 0 0)) (h0 : J [] W) :
 CallsIn F n Tryz.prog 186 #[.func (.yield l) #[] #[], .pointer (some ⟨tb, 0, none⟩)] W fun e W' => (∃ v, e = .returned v) ∧ J [] W' := by
 refine callsIn_of_wp Tryz.func186 rfl h7 ?_ hro
 simp only [Tryz.ntmps186, List.size_toArray, List.length_cons, List.length_nil, Nat.reduceAdd, Nat.reduceSub, Array.replicate_succ, Array.replicate_zero, List.push_toArray, List.append_toArray, List.nil_append, List.cons_append]
 gi_wp2
 gi_loopw [10] (fun i wr => i = .int .i64 0 ∧ J [] wr) (fun _ _ => 0)
 case atStart => exact ⟨rfl, h0⟩
 case round =>
  obtain ⟨rfl, hJs⟩ := hrel
  gi_wp2
  go_end0
  exact ⟨⟨_, rfl⟩, hJs⟩
set_option maxRecDepth 100000 in
set_option maxHeartbeats 2000000 in
theorem allS_in (F : Fence) (n : Nat) (h6 : F.fn 156) (hro : F.round = none) (p : Option Addr) (w : World) :
 CallsIn F n Tryz.prog 156 #[.pointer p] w fun e w' => e = .returned (.func (.func 186) #[] #[.pointer (some ⟨w.heap.size, 0, none⟩)]) ∧ w' = w.alloc (.cells #[.pointer p] 192) := by
 refine callsIn_of_wp Tryz.func156 rfl h6 ?_ hro
 simp only [Tryz.ntmps156, List.size_toArray, List.length_cons, List.length_nil, Nat.reduceAdd, Nat.reduceSub, Array.replicate_succ, Array.replicate_zero, List.push_toArray, List.append_toArray, List.nil_append, List.cons_append]
 gi_wp2
 go_ret
 exact ⟨rfl, rfl⟩
theorem allStopsS {α : Type} (kf vf : α → ByteArray) (F : Fence) (n : Nat) (h7 : F.fn 186) (hro : F.round = none) (hn : 1 ≤ n) (tb g n₀ : Nat) (sv : Value) (zs : List α) (hl : zs.length ≤ 1000000) (w : World) (htb : tb < w.heap.size) (hg : g < n₀) (hn₀ : n₀ ≤ w.heap.size)
 (kb : w.cell? ⟨tb, 0, none⟩ = some (.pointer (some ⟨g, 0, none⟩))) (kg : w.cell? ⟨g, 1, none⟩ = some sv) (hR : RwsS kf vf n₀ w sv zs) :
 SeqStopsK F n Tryz.prog 186 #[.pointer (some ⟨tb, 0, none⟩)] (fun x : α => #[(Value.string (kf x)), (Value.string (vf x))]) (Below n₀) (fun ys => ys = zs) (fun pre => pre <+: zs) zs.length w := fun l J Jx W hW hJ _ hY h0 => by
 have kb' := (hW.cell (p := ⟨tb, 0, none⟩) htb).trans kb
 have kg' := (hW.cell (p := ⟨g, 1, none⟩) (Nat.lt_of_lt_of_le hg hn₀)).trans kg
 rcases hR.below (hW.mono hn₀) with ⟨rfl, rfl⟩ | ⟨b, off, cap, rfl, hb, hcp, hcs⟩
 · exact (all1nS_in F n h7 hro l tb g J W kb' kg' h0).mono fun e W' ⟨he, hj⟩ => ⟨he, .inl ⟨_, rfl, hj⟩⟩
 · exact all1S_in kf vf F n h7 hro hn l tb g n₀ b off cap (.pointer none) zs hl hcp hb J Jx (fun s W1 W2 hs hgr => hJ s W1 W2 none hs hgr (fun r e => by cases e)) hY W kb' kg' hcs (Nat.le_trans hn₀ hW.size) h0
end Go.Proofs.YtdcbhohlglncnaaGreat
