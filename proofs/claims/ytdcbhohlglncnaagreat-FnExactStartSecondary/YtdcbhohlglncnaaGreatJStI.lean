import Derived.Test.YtdcbhohlglncnaaGreatJMath
import Derived.Test.YtdcbhohlglncnaaGreatJBmB
import Derived.Test.YtdcbhohlglncnaaGreatJCzM
import Derived.Test.YtdcbhohlglncnaaGreatJBzH
import Derived.Test.YtdcbhohlglncnaaGreatJBzR
import Derived.Test.YtdcbhohlglncnaaGreatJClone
import Derived.Test.YtdcbhohlglncnaaGreatJMsP
import Derived.Test.YtdcbhohlglncnaaGreatJTrF
import Derived.Test.YtdcbhohlglncnaaGreatRows
import Derived.WalkSpells
import Derived.WalkLawsBesides
import Derived.Test.YtdcbhohlglncnaaGreatJZrS
import Derived.Test.YtdcbhohlglncnaaGreatJBzZ
import Derived.Test.YtdcbhohlglncnaaGreatJTrV
import Derived.Deep.RegionLaw
import Derived.RegionTactic
import Derived.BigRegion
import Derived.BigQuiet
import Derived.Deep.WholeRow
import Derived.Deep.CutRange
import Derived.Lib.SliceRun
import Derived.Test.YtdcbhohlglncnaaGreatJZrI
import Derived.Test.YtdcbhohlglncnaaGreatJCzO
import Derived.Test.YtdcbhohlglncnaaGreatJSCmp
import Derived.Test.YtdcbhohlglncnaaGreatCzC
import Derived.Test.YtdcbhohlglncnaaGreatJTbBL
import Derived.Deep.RegionHeld3
import Derived.Test.YtdcbhohlglncnaaGreatJZnE
/- Records of type 6. -/
namespace Go.Proofs.YtdcbhohlglncnaaGreat
open Go.RowKit
set_option linter.unusedVariables false
def is6 (r : Rr) : Bool := decide (r.ty = 6)
theorem TInv.nm {l : List It} {os : List GOw} (h : TInv l os) (hl : ∀ y ∈ l, GoodI y) {o : GOw} (ho : o ∈ os) : Nm.split o.nm = some o.lab := by
 obtain ⟨i, x, hF, h1, h2⟩ := h.own o ho
 rw [h1, h2]
 exact (hl x hF.mem).1
def Gl (ls : List ByteArray) : Prop := (∀ x ∈ ls, 1 ≤ x.size ∧ x.size ≤ 63) ∧ Nm.wsum ls ≤ 254
theorem Gl.drop {ls : List ByteArray} (h : Gl ls) (k : Nat) : Gl (ls.drop k) := ⟨drop_ok h.1 k, Nat.le_trans (Nm.wsum_drop_le ls k) h.2⟩
theorem Gl.tail {x : ByteArray} {ls : List ByteArray} (h : Gl (x :: ls)) : Gl ls := h.drop 1
def fndZ (ss : List Sz) (name : ByteArray) (t : Int) : Option Sz := ss.find? fun s => decide (s.ty = t) && sameS s.own name
def sz0 : Sz := ⟨⟨#[]⟩, 0, 0, []⟩
end Go.Proofs.YtdcbhohlglncnaaGreat
/- The number of some bytes: mathematics. -/
namespace Go.Proofs.YtdcbhohlglncnaaGreat
open Go.RowKit
/-- The number of some bytes, the high one first. -/
def numL (l : List UInt8) : Nat := l.foldl (fun n c => n * 256 + c.toNat) 0
theorem numL_snoc (l : List UInt8) (c : UInt8) : numL (l ++ [c]) = numL l * 256 + c.toNat := by simp [numL]
theorem fold_lt : ∀ (l : List UInt8) (a : Nat), l.foldl (fun n c => n * 256 + c.toNat) a < (a + 1) * 256 ^ l.length := by
 intro l
 induction l with
 | nil => intro a; simp
 | cons c l ih =>
   intro a
   rw [List.foldl_cons, List.length_cons, Nat.pow_succ]
   refine Nat.lt_of_lt_of_le (ih _) ?_
   have hc := c.toNat_lt
   have h1 : a * 256 + c.toNat + 1 ≤ (a + 1) * 256 := by omega
   calc (a * 256 + c.toNat + 1) * 256 ^ l.length ≤ ((a + 1) * 256) * 256 ^ l.length := Nat.mul_le_mul_right _ h1
    _ = (a + 1) * (256 ^ l.length * 256) := by rw [Nat.mul_assoc, Nat.mul_comm 256]
theorem numL_lt (l : List UInt8) : numL l < 256 ^ l.length := by
 have := fold_lt l 0
 rw [Nat.zero_add, Nat.one_mul] at this
 exact this
theorem numL_small {l : List UInt8} (h : l.length ≤ 6) : numL l < 281474976710656 := by
 have h1 := numL_lt l
 have h2 : 256 ^ l.length ≤ 256 ^ 6 := Nat.pow_le_pow_right (by decide) h
 have h3 : (256 : Nat) ^ 6 = 281474976710656 := by decide
 omega
end Go.Proofs.YtdcbhohlglncnaaGreat
/- A secondary that is begun: mathematics. -/
namespace Go.Proofs.YtdcbhohlglncnaaGreat
open Go.RowKit
set_option linter.unusedVariables false
/-- The data of a zone's SOA. -/
def soaZ (ss : List Sz) (o : ByteArray) : ByteArray := match fndZ ss o 6 with
 | some s => s.da.headD ⟨#[]⟩
 | none => ⟨#[]⟩
theorem one_cut {r : Rr} {apex : ByteArray} (h : oneC r apex = 0) : cutCode r.ty r.da = 0 := by
 rw [oneC] at h
 split at h
 · cases h
 · split at h
   · cases h
   · split at h
     · cases h
     · split at h
       · cases h
       · split at h
         · cases h
         · rename_i h2
           simpa using h2
theorem find_recs : ∀ (ss : List Sz), (∀ s ∈ ss, s.da ≠ []) → (ss.flatMap recsOf).find? is6 = (ss.find? fun s => decide (s.ty = 6)).map fun s => ⟨s.own, s.ty, 1, s.tt, s.da.headD ⟨#[]⟩⟩
 | [], _ => rfl
 | s :: ss, h => by
   have ih := find_recs ss (fun t ht => h t (List.mem_cons_of_mem _ ht))
   rw [List.flatMap_cons, List.find?_append, List.find?_cons]
   obtain ⟨d, ds, hd⟩ := List.exists_cons_of_ne_nil (h s (by simp))
   by_cases ht : s.ty = 6
   · simp [recsOf, hd, is6, ht]
   · have e : (recsOf s).find? is6 = none := by
      rw [List.find?_eq_none]
      intro r hr
      obtain ⟨x, -, rfl⟩ := List.mem_map.1 hr
      simp [is6, ht]
     rw [e, ih]
     simp [ht]
theorem grp_daS {l srt : List It} : ∀ (k : Nat), ∀ s ∈ grpK l srt k, s.da ≠ []
 | 0, s, hs => by cases hs
 | k + 1, s, hs => by
   have ih := grp_daS (l := l) (srt := srt) k
   rw [grpK] at hs
   cases hx : srt[k]? with
   | none => rw [hx] at hs; exact ih s hs
   | some x =>
     rw [hx] at hs
     simp only at hs
     split at hs
     · rcases List.mem_append.1 hs with h | h
       · exact ih s h
       · rw [List.mem_singleton.1 h]; simp
     · rw [addLast] at hs
       cases hl : (grpK l srt k).getLast? with
       | none => rw [hl] at hs; cases hs
       | some s0 =>
         rw [hl] at hs
         rcases List.mem_append.1 hs with h | h
         · exact ih s ((List.dropLast_sublist _).subset h)
         · rw [List.mem_singleton.1 h]; simp
/-- What a valid zone's rules say of its SOA. -/
theorem zOK_rules {ps : List Zp} {o : ByteArray} {al : List ByteArray} (hz : zOK ps o = true) (ha : Nm.split o = some al) : badOne o (zoneRecs ps) 0 = none ∧ firstI (ru1 (itsOf (zoneRecs ps)) (Nm.foldS o)) (itsOf (zoneRecs ps)) = none ∧ hasI (itsOf (zoneRecs ps)) (Nm.foldS o) 6 = true := by
 have h0 := (zOK_recs hz).1
 rw [bldE, if_neg (by rw [ha]; simp)] at h0
 split at h0
 · exact absurd h0 (by simp)
 · cases hb : badOne o (zoneRecs ps) 0 with
   | some c => rw [hb] at h0; exact absurd h0 (bad_some _ _ c.1 c.2 hb)
   | none =>
     rw [hb] at h0
     simp only at h0
     split at h0
     · exact absurd h0 (by simp)
     · split at h0
       · rename_i h1; exact absurd h0 h1
       · rename_i h1
         have h1 : (rulesI (itsOf (zoneRecs ps)) (Nm.foldS o)).1 = 0 := by simpa using h1
         rw [rulesI_eq] at h1
         refine ⟨rfl, ?_⟩
         split at h1
         · exact absurd h1 (by simp)
         · rename_i hf
           refine ⟨hf, ?_⟩
           split at h1
           · exact absurd h1 (by simp)
           · rename_i h2; simpa using h2
theorem firstI_none {p : Nat → It → Bool} {l : List It} (h : firstI p l = none) {i : Nat} {x : It} (hx : l[i]? = some x) : p i x = false := by
 rw [firstI, List.find?_eq_none] at h
 have hi := (List.getElem?_eq_some_iff.1 hx).1
 have := h i (List.mem_range.2 hi)
 rw [hx] at this
 simpa using this
/-- A zone's SOA lies at its apex. -/
theorem soa_own {ps : List Zp} {o : ByteArray} {al : List ByteArray} {os : List GOw} (hT : TInv ((zoneRecs ps).map itemOf) os) (hl : ∀ y ∈ (zoneRecs ps).map itemOf, GoodI y) (ha : Nm.split o = some al) (hz : zOK ps o = true) {q : GOw} {s : GSe} (hq : q ∈ os) (hs : s ∈ q.ss) (h6 : s.ty = 6) : Nm.cmpLs q.lab al = 0 := by
 obtain ⟨x, hF, -⟩ := hT.set q hq s hs
 have hr := (zOK_rules hz ha).2.1
 have hx := twI_get hF.1
 have hxm := hF.mem
 have hgx := hl x hxm
 have hnd : dupI (((zoneRecs ps).map itemOf).take s.fi) x = false := by
  rw [← Bool.not_eq_true, dup_iff (fun y hy => hl y (List.mem_of_mem_take hy)) hgx]
  rintro ⟨y, hy, hyd⟩
  obtain ⟨m, hm, hym⟩ := mem_take_get hy
  refine hF.2.2 m y hm hym ⟨?_, ?_⟩
  · have h1 : Nm.cmpLs (labI y) (labI x) = 0 := hyd.1.1
    have h2 : Nm.cmpLs (labI x) q.lab = 0 := hF.2.1.1
    show Nm.cmpLs (labI y) q.lab = 0
    rw [cmpLs_eq_left h1]; exact h2
  · have h1 : y.r.ty = x.r.ty := hyd.1.2
    rw [h1]; exact hF.2.1.2
 rw [hnd] at hx
 have h1 := firstI_none hr hx
 have h2 : (outI false x).out = false := by simp [outI, hgx.2.2.2]
 have h3 : (outI false x).r.ty = 6 := by simp only [outI]; rw [hF.2.1.2]; exact h6
 have h4 : (outI false x).fo = x.fo := rfl
 rw [ru1, h2, h3, h4] at h1
 have h5 : x.fo = Nm.foldS o := by
  simp at h1
  exact h1.1
 have h6 : Nm.cmpLs (labI x) al = 0 := (fold_lab hgx.1 ha).1 (by rw [← hgx.2.1]; exact h5)
 have h7 : Nm.cmpLs (labI x) q.lab = 0 := hF.2.1.1
 rw [cmpLs_eq_left (cmpLs_symm h7)]
 exact h6
/-- The first record of type 6 is the SOA. -/
theorem soa_first {ps : List Zp} {o : ByteArray} {al : List ByteArray} {os : List GOw} (hT : TInv ((zoneRecs ps).map itemOf) os) (hl : ∀ y ∈ (zoneRecs ps).map itemOf, GoodI y) (ha : Nm.split o = some al) (hz : zOK ps o = true) (hzs : ps.map (·.1) = zoneT os) : ∃ r, (zoneRecs ps).find? is6 = some r ∧ r.da = soaZ (ps.map (·.1)) o ∧ cutCode 6 r.da = 0 := by
 obtain ⟨hb, -, h6⟩ := zOK_rules hz ha
 obtain ⟨y, hy, -, hy6⟩ := (hasI_all hl _ _).1 h6
 obtain ⟨r0, hr0, rfl⟩ := List.mem_map.1 hy
 have hsm : ((zoneRecs ps).find? is6).isSome = true := by
  rw [List.find?_isSome]
  exact ⟨r0, hr0, decide_eq_true (show r0.ty = 6 from hy6)⟩
 obtain ⟨r, hr⟩ := Option.isSome_iff_exists.1 hsm
 refine ⟨r, hr, ?_, ?_⟩
 · have e1 : zoneRecs ps = (ps.map (·.1)).flatMap recsOf := by
    rw [zoneRecs, if_neg (fun hc => by rw [zOK_big hc] at hz; cases hz), recsAll, List.flatMap_map]
   rw [e1, find_recs _ (fun s hs => by rw [← (zOK_recs hz).2] at hs; exact grp_daS _ s hs)] at hr
   have e2 : fndZ (ps.map (·.1)) o 6 = (ps.map (·.1)).find? fun s => decide (s.ty = 6) := by
    rw [fndZ]
    refine find_congrL (fun s hs => ?_)
    by_cases h : s.ty = 6
    · rw [hzs] at hs
      obtain ⟨g, hg, rfl⟩ := List.mem_map.1 hs
      obtain ⟨g1, g2⟩ := grT_mem.1 hg
      have h9 : sameS g.1.nm o = decide (Nm.cmpLs g.1.lab al = 0) := same_cmp (hT.nm hl g1) ha
      show (decide (g.2.ty = 6) && sameS g.1.nm o) = decide (g.2.ty = 6)
      rw [h9, decide_eq_true (soa_own hT hl ha hz g1 g2 h), Bool.and_true]
    · simp [h]
   rw [soaZ, e2]
   obtain ⟨s, hs, e3⟩ := Option.map_eq_some_iff.1 hr
   rw [hs, ← e3]
 · have hrm := List.mem_of_find?_eq_some hr
   have hr6 : r.ty = 6 := by have := List.find?_some hr; simpa [is6] using this
   have := one_cut (bad_none _ _ hb r hrm)
   rwa [hr6] at this
/-- The model finds the SOA. -/
theorem soa_model {ps : List Zp} {o : ByteArray} {al : List ByteArray} (hz : zOK ps o = true) (ha : Nm.split o = some al) : ∃ s d ds, fndZ (ps.map (·.1)) o 6 = some s ∧ s.da = d :: ds ∧ soaZ (ps.map (·.1)) o = d ∧ cutCode 6 d = 0 ∧ s ∈ ps.map (·.1) := by
 obtain ⟨hb, -, h6⟩ := zOK_rules hz ha
 have hg : ∀ y ∈ (zoneRecs ps).map itemOf, GoodI y := by
  intro y hy
  obtain ⟨r, hr, rfl⟩ := List.mem_map.1 hy
  exact good_item (one_ok (bad_none _ _ hb r hr)).1
 have e1 : zoneRecs ps = (ps.map (·.1)).flatMap recsOf := by
  rw [zoneRecs, if_neg (fun hc => by rw [zOK_big hc] at hz; cases hz), recsAll, List.flatMap_map]
 obtain ⟨y, hy, hfo, hy6⟩ := (hasI_all hg _ _).1 h6
 have hgy := hg y hy
 obtain ⟨r, hr, rfl⟩ := List.mem_map.1 hy
 have hr' := hr
 rw [e1] at hr'
 obtain ⟨s0, hs0, hr0⟩ := List.mem_flatMap.1 hr'
 obtain ⟨d0, -, rfl⟩ := List.mem_map.1 hr0
 have hown : Nm.split s0.own = some _ := hgy.1
 have hsm : (fndZ (ps.map (·.1)) o 6).isSome = true := by
  rw [fndZ, List.find?_isSome]
  refine ⟨s0, hs0, ?_⟩
  have h1 : s0.ty = 6 := hy6
  rw [same_cmp hown ha]
  simp only [h1, decide_true, Bool.true_and, decide_eq_true_eq]
  exact (fold_lab hown ha).1 hfo
 obtain ⟨s, hs⟩ := Option.isSome_iff_exists.1 hsm
 have hsM := List.mem_of_find?_eq_some hs
 have hs6 : s.ty = 6 := by
  have := List.find?_some hs
  simp only [Bool.and_eq_true, decide_eq_true_eq] at this
  exact this.1
 obtain ⟨d, ds, hd⟩ := List.exists_cons_of_ne_nil (show s.da ≠ [] by have h9 := hsM; rw [← (zOK_recs hz).2] at h9; exact grp_daS _ s h9)
 refine ⟨s, d, ds, hs, hd, by rw [soaZ, hs]; simp [hd], ?_, hsM⟩
 have hrm : (⟨s.own, s.ty, 1, s.tt, d⟩ : Rr) ∈ zoneRecs ps := by
  rw [e1]
  exact List.mem_flatMap.2 ⟨s, hsM, List.mem_map.2 ⟨d, by rw [hd]; simp, rfl⟩⟩
 have := one_cut (bad_none _ _ hb _ hrm)
 simp only at this
 rwa [hs6] at this
/-- What StartSecondary answers: the sets, the moments, the code. -/
def expN (d : ByteArray) : Int := if (1 : Int) < ((numL (d.extract (d.size - 8) (d.size - 4)).data.toList : Nat) : Int) then ((numL (d.extract (d.size - 8) (d.size - 4)).data.toList : Nat) : Int) else 1
def stOK (ps : List Zp) (o : ByteArray) (now : Int) : Bool := zOK ps o && (decide (0 ≤ now) && decide (now ≤ 281474976710655))
/-- A set that is handed back, or none. -/
def FsP (r : Option Sz) (w : World) (e : Ending) (w' : World) : Prop := ∃ v, e = .returned (.tuple #[.agg #[.string (r.getD sz0).own, .int .i64 (r.getD sz0).ty, .int .i64 (r.getD sz0).tt, v], .bool r.isSome]) ∧ w'.ownsRow w.heap.size 9 1 v (r.getD sz0).da.length ((r.getD sz0).da.map Value.string) ∧ Below w.heap.size w w'
theorem fsP_none {w w' : World} (h : Below w.heap.size w w') : FsP none w (.returned (.tuple #[.agg #[.string ⟨#[]⟩, .int .i64 0, .int .i64 0, .slice none 0 0], .bool false])) w' :=
 ⟨_, rfl, World.ownsRow_nil _ _ _ _, h⟩
/-- A set stored into a block that is new. -/
theorem set_store {w w2 : World} {b B n : Nat} {x : ByteArray} {ty tt : Int} {v : Value} {xs : List Value} (k : Blk w2 b #[.string ⟨#[]⟩, .int .i64 0, .int .i64 0, .slice none 0 0] 87) (ho : w2.ownsRow B 9 1 v n xs) (hne : v.ownBlock ≠ some b) (hb : Below w.heap.size w w2) (hlb : w.heap.size ≤ b) :
 Blk ((((w2.setCell ⟨b, 0, none⟩ (.string x)).setCell ⟨b, 1, none⟩ (.int .i64 ty)).setCell ⟨b, 2, none⟩ (.int .i64 tt)).setCell ⟨b, 3, none⟩ v) b #[.string x, .int .i64 ty, .int .i64 tt, v] 87 ∧
 ((((w2.setCell ⟨b, 0, none⟩ (.string x)).setCell ⟨b, 1, none⟩ (.int .i64 ty)).setCell ⟨b, 2, none⟩ (.int .i64 tt)).setCell ⟨b, 3, none⟩ v).ownsRow B 9 1 v n xs ∧
 Below w.heap.size w ((((w2.setCell ⟨b, 0, none⟩ (.string x)).setCell ⟨b, 1, none⟩ (.int .i64 ty)).setCell ⟨b, 2, none⟩ (.int .i64 tt)).setCell ⟨b, 3, none⟩ v) := by
 have k4 := blk_set (blk_set (blk_set (blk_set k 0 (.string x)) 1 (.int .i64 ty)) 2 (.int .i64 tt)) 3 v
 simp only [List.setIfInBounds_toArray, List.set_cons_zero, List.set_cons_succ] at k4
 have ho4 := own_far (y := v) (i := 3) (g := b) (own_far (y := .int .i64 tt) (i := 2) (g := b) (own_far (y := .int .i64 ty) (i := 1) (g := b) (own_far (y := .string x) (i := 0) (g := b) ho hne) hne) hne) hne
 exact ⟨k4, ho4, (((hb.setCell (p := ⟨b, 0, none⟩) hlb (.string x)).setCell (p := ⟨b, 1, none⟩) hlb (.int .i64 ty)).setCell (p := ⟨b, 2, none⟩) hlb (.int .i64 tt)).setCell (p := ⟨b, 3, none⟩) hlb v⟩
/-- What is copied so far. -/
structure Csp (w0 w : World) (g : Nat) (x : ByteArray) (ty tt : Int) (v u : Value) (n : Nat) (xs : List ByteArray) : Prop where
 ob : Blk w (g + 1 + 1) #[.string x, .int .i64 ty, .int .i64 tt, u] 87
 mb : Blk w g #[.string x, .int .i64 ty, .int .i64 tt, v] 87
 zb : Blk w (g + 1) #[.string ⟨#[]⟩, .int .i64 0, .int .i64 0, .slice none 0 0] 87
 own : w.ownsRow g 9 1 u n (xs.map Value.string)
 be : Below g w0 w
theorem Csp.below {w0 w w' : World} {g : Nat} {x : ByteArray} {ty tt : Int} {v u : Value} {n : Nat} {xs : List ByteArray} (c : Csp w0 w g x ty tt v u n xs) (hb : Below w.heap.size w w') (hg : g ≤ w.heap.size) : Csp w0 w' g x ty tt v u n xs :=
 ⟨blk_below c.ob hb, blk_below c.mb hb, blk_below c.zb hb, own_below c.own hb, c.be.trans (hb.mono hg)⟩
theorem Csp.grow {w0 w w' : World} {g : Nat} {x : ByteArray} {ty tt : Int} {v u : Value} {n : Nat} {xs : List ByteArray} (c : Csp w0 w g x ty tt v u n xs) (hg : w.grownBy w' u.ownBlock) (hw : g ≤ w.heap.size) :
 Blk w' (g + 1 + 1) #[.string x, .int .i64 ty, .int .i64 tt, u] 87 ∧ Blk w' g #[.string x, .int .i64 ty, .int .i64 tt, v] 87 ∧ Blk w' (g + 1) #[.string ⟨#[]⟩, .int .i64 0, .int .i64 0, .slice none 0 0] 87 ∧ Below g w0 w' :=
 ⟨blk_grown c.ob hg (own_nb c.own c.ob (by decide)), blk_grown c.mb hg (own_nb c.own c.mb (by decide)), blk_grown c.zb hg (own_nb c.own c.zb (by decide)), c.be.grown hg hw (fun k hk => (c.own.lt k hk).1)⟩
set_option maxRecDepth 100000 in
set_option maxHeartbeats 1600000 in
theorem l06CopySet_any (s : Sz) (v : Value) (w : World) (h : Nm.SRow w v s.da) (hl : s.da.length ≤ 100000000) :
 Calls Tryz.prog 43 #[.agg #[.string s.own, .int .i64 s.ty, .int .i64 s.tt, v]] w fun e w' => ∃ u, e = .returned (.agg #[.string s.own, .int .i64 s.ty, .int .i64 s.tt, u]) ∧ w'.ownsRow w.heap.size 9 1 u s.da.length (s.da.map Value.string) ∧ Below w.heap.size w w' := by
 obtain ⟨j0, hj, k0, k1, k2⟩ := info_parts Tryz.infoStr
 obtain ⟨x, ty, tt, ds⟩ := s
 simp only at h hl ⊢
 obtain ⟨va, vc, rfl, -, -, -, -⟩ := id h
 have hB0 := (Below.refl w.heap.size w).alloc (Nat.le_refl _) (.cells #[.string x, .int .i64 ty, .int .i64 tt, .slice va ds.length vc] 87)
 have hB1 := hB0.alloc hB0.size (.cells #[.string ⟨#[]⟩, .int .i64 0, .int .i64 0, .slice none 0 0] 87)
 have hB2 := hB1.alloc hB1.size (.cells #[.string x, .int .i64 ty, .int .i64 tt, .slice none 0 0] 87)
 have kM0 := blk_alloc (blk_new w #[.string x, .int .i64 ty, .int .i64 tt, .slice va ds.length vc] 87) (.cells #[.string ⟨#[]⟩, .int .i64 0, .int .i64 0, .slice none 0 0] 87)
 have kM := blk_alloc kM0 (.cells #[.string x, .int .i64 ty, .int .i64 tt, .slice none 0 0] 87)
 have kZ := blk_alloc (blk_new (w.alloc (.cells #[.string x, .int .i64 ty, .int .i64 tt, .slice va ds.length vc] 87)) #[.string ⟨#[]⟩, .int .i64 0, .int .i64 0, .slice none 0 0] 87) (.cells #[.string x, .int .i64 ty, .int .i64 tt, .slice none 0 0] 87)
 have kO := blk_new ((w.alloc (.cells #[.string x, .int .i64 ty, .int .i64 tt, .slice va ds.length vc] 87)).alloc (.cells #[.string ⟨#[]⟩, .int .i64 0, .int .i64 0, .slice none 0 0] 87)) #[.string x, .int .i64 ty, .int .i64 tt, .slice none 0 0] 87
 rw [World.size_alloc] at kZ
 rw [World.size_alloc, World.size_alloc] at kO
 have S3 : Csp w _ w.heap.size x ty tt (.slice va ds.length vc) (.slice none 0 0) 0 [] := ⟨kO, kM, kZ, World.ownsRow_nil _ _ _ _, hB2⟩
 have hd := fun W (hW : Below w.heap.size w W) => h.below hW
 have rr := fun i => blk_cell kM0 i
 clear h kM kZ kO hB0 hB1 hB2
 go_enter Tryz.func43, Tryz.ntmps43
 go_wp2_with fail
 clear rr kM0
 generalize hgg : w.heap.size = g at *
 have HGG := Nm.hide hgg
 clear hgg
 go_loopw [4] (fun i wr => ∃ (k : Nat) (qx : Option Addr) (qy : Nat), k ≤ ds.length ∧ i = .int .i64 k ∧ g ≤ wr.heap.size ∧ Csp w wr g x ty tt (.slice va ds.length vc) (.slice qx k qy) k (ds.take k)) (fun i _ => ds.length - (intOf i).toNat)
 case atStart => exact ⟨0, none, 0, Nat.zero_le _, rfl, by have := HGG.out; simp; omega, S3⟩
 case round =>
  clear S3
  obtain ⟨k, qx, qy, hk, rfl, hgw, Sk⟩ := hrel
  have ccM := fun i => blk_cell Sk.mb i
  have ccO := fun i => blk_cell Sk.ob i
  by_cases hlt : k < ds.length
  · obtain ⟨y, hyk⟩ : ∃ y, ds[k]? = some y := ⟨_, List.getElem?_eq_getElem hlt⟩
    obtain ⟨a9, c9, e9, _, _, _, hc9⟩ := hd wr Sk.be
    simp only [Value.slice.injEq] at e9
    obtain ⟨rfl, _, rfl⟩ := e9
    obtain ⟨b, off, rfl, hcell⟩ := hc9 (by intro e; rw [e] at hlt; simp at hlt)
    have d0 := hcell k y hyk
    have n1 : (0 : Int) ≤ (k : Int) := by omega
    have n2 : (k : Int) < (ds.length : Int) := by omega
    have e5 : ds.take (k + 1) = ds.take k ++ [y] := by
     obtain ⟨hi, e⟩ := List.getElem?_eq_some_iff.1 hyk
     rw [List.take_succ_eq_append_getElem hi, e]
    have HE5 := Nm.hide e5
    have HYK := Nm.hide hyk
    clear e5 hc9 hcell hyk
    go_wp2
    refine wp_region_last (fun W => Blk W (g + 1 + 1) #[.string x, .int .i64 ty, .int .i64 tt, .slice qx k qy] 87 ∧ Blk W g #[.string x, .int .i64 ty, .int .i64 tt, .slice (some ⟨b, off, none⟩) ds.length vc] 87 ∧ W.cell? ⟨b, off + k, none⟩ = some (.string y)) 10 (by kernel_rfl) ⟨Sk.ob, Sk.mb, d0⟩ (fun hHeld => ?_)
    refine wpAnyL_take (i := 0) (v := ?_) rfl (by kernel_rfl) (by kernel_rfl) (by kernel_rfl) (by kernel_rfl) (fun _ _ _ h => h) (Or.inl ⟨by rfl, ?_⟩) (by assumption) ?_
    rotate_left 1
    · (rintro W ⟨s1, s2, s3⟩; have ss1 := (fun i => blk_cell s1 i); have ss2 := (fun i => blk_cell s2 i); go_simp; first | done | rfl)
    refine wpAnyL_take (i := 1) (v := ?_) rfl (by kernel_rfl) (by kernel_rfl) (by kernel_rfl) (by kernel_rfl) (fun _ _ _ h => h) (Or.inl ⟨by rfl, ?_⟩) (by assumption) ?_
    rotate_left 1
    · (rintro W ⟨s1, s2, s3⟩; have ss1 := (fun i => blk_cell s1 i); have ss2 := (fun i => blk_cell s2 i); go_simp; first | done | rfl)
    refine wpAnyL_take (i := 2) (v := ?_) rfl (by kernel_rfl) (by kernel_rfl) (by kernel_rfl) (by kernel_rfl) (fun _ _ _ h => h) (Or.inl ⟨by rfl, ?_⟩) (by assumption) ?_
    rotate_left 1
    · (rintro W ⟨s1, s2, s3⟩; have ss1 := (fun i => blk_cell s1 i); have ss2 := (fun i => blk_cell s2 i); go_simp; first | done | rfl)
    refine wpAnyL_take (i := 3) (v := ?_) rfl (by kernel_rfl) (by kernel_rfl) (by kernel_rfl) (by kernel_rfl) (fun _ _ _ h => h) (Or.inl ⟨by rfl, ?_⟩) (by assumption) ?_
    rotate_left 1
    · (rintro W ⟨s1, s2, s3⟩; have ss1 := (fun i => blk_cell s1 i); have ss2 := (fun i => blk_cell s2 i); go_simp; first | done | rfl)
    refine wpAnyL_take (i := 4) (v := ?_) rfl (by kernel_rfl) (by kernel_rfl) (by kernel_rfl) (by kernel_rfl) (fun _ _ _ h => h) (Or.inl ⟨by rfl, ?_⟩) (by assumption) ?_
    rotate_left 1
    · (rintro W ⟨s1, s2, s3⟩; have ss1 := (fun i => blk_cell s1 i); have ss2 := (fun i => blk_cell s2 i); go_simp; first | done | rfl)
    refine wpAnyL_take (i := 5) (v := ?_) rfl (by kernel_rfl) (by kernel_rfl) (by kernel_rfl) (by kernel_rfl) (fun _ _ _ h => h) (Or.inl ⟨by rfl, ?_⟩) (by assumption) ?_
    rotate_left 1
    · (rintro W ⟨s1, s2, s3⟩; have ss1 := (fun i => blk_cell s1 i); have ss2 := (fun i => blk_cell s2 i); go_simp; first | done | rfl)
    refine wpAnyL_take (i := 6) (v := ?_) rfl (by kernel_rfl) (by kernel_rfl) (by kernel_rfl) (by kernel_rfl) (fun _ _ _ h => h) (Or.inl ⟨by rfl, ?_⟩) (by assumption) ?_
    rotate_left 1
    · (rintro W ⟨s1, s2, s3⟩; have ss1 := (fun i => blk_cell s1 i); have ss2 := (fun i => blk_cell s2 i); go_simp; first | done | rfl)
    have hbA := ((Below.refl wr.heap.size wr).alloc (Nat.le_refl _) (.cells #[.string y] 9)).drew
    have SA := Sk.below hbA hgw
    have e0 : (wr.alloc (.cells #[.string y] 9)).drew.cell? ⟨b, off + k, none⟩ = some (.string y) := (hbA.cell (World.block_lt_of_cell? wr _ d0)).trans d0
    have hoA := SA.own
    refine wpAnyL_one (i := 7) (by kernel_rfl) rfl (fun K hK => ?_)
    go_simp
    refine hK.out _ _ ⟨SA.ob, SA.mb, e0⟩ (fun hH2 => ?_)
    clear hK K
    refine wpAnyL_one (i := 8) (by kernel_rfl) rfl (fun K hK => ?_)
    refine step_append_own rfl (.tmp 20) (.tmp 26) 80 rfl g 9 j0 (.string ByteArray.empty) 1 16 Tryz.underlying80 hj k0 k1 k2 rfl (by decide) (.slice qx k qy) k ((ds.take k).map Value.string) (by rfl) hoA ⟨wr.heap.size, 0, none⟩ 1 1 [.string y] (by rfl) rfl (cell_newV _ #[.string y] _) (by intro u hu; simp at hu; subst hu; rfl) (by unfold maxLen; omega) (by omega) (by simp; omega) ?_
    intro va' wa hown9 hgrow9 hnl9
    clear hnl9
    obtain ⟨xb, yb, hvb⟩ := own_sl hown9
    subst hvb
    obtain ⟨ob9, mb9, zb9, be9⟩ := SA.grow hgrow9 (by simp; omega)
    obtain ⟨a8, c8, e8, _, _, _, hc8⟩ := hd wa be9
    simp only [Value.slice.injEq] at e8
    obtain ⟨rfl, _, rfl⟩ := e8
    obtain ⟨b8, off8, e7, hcell8⟩ := hc8 (by intro e; rw [e] at hlt; simp at hlt)
    simp only [Option.some.injEq, Addr.mk.injEq, and_true] at e7
    obtain ⟨rfl, rfl⟩ := e7
    have f0 := hcell8 k y HYK.out
    refine hK.out _ _ ⟨ob9, mb9, f0⟩ (fun hH3 => ?_)
    clear hK K
    refine wpAnyL_take (i := 9) (v := ?_) rfl (by kernel_rfl) (by kernel_rfl) (by kernel_rfl) (by kernel_rfl) (fun _ _ _ h => h) (Or.inl ⟨by rfl, ?_⟩) (by assumption) ?_
    rotate_left 1
    · (rintro W ⟨s1, s2, s3⟩; have ss1 := (fun i => blk_cell s1 i); have ss2 := (fun i => blk_cell s2 i); go_simp; first | done | rfl)
    have g9 := fun i => blk_cell ob9 i
    have h9 := fun i => blk_frozen ob9 i
    refine wpAnyL_end (by kernel_rfl) rfl (by kernel_rfl) (fun K hK => ?_)
    go_simp
    refine hK.out _ _ ?_
    clear hK K
    have hrow9 : wa.ownsRow g 9 1 (.slice xb (k + 1) yb) (k + 1) ((ds.take (k + 1)).map Value.string) := by
     rw [HE5.out, List.map_append]
     exact hown9
    have S9 : Csp w (wa.setCell ⟨g + 1 + 1, 3, none⟩ (.slice xb (k + 1) yb)) g x ty tt (.slice (some ⟨b, off, none⟩) ds.length vc) (.slice xb (k + 1) yb) (k + 1) (ds.take (k + 1)) :=
     ⟨blk_set ob9 3 _, blk_far mb9 (by omega), blk_far zb9 (by omega), own_far hrow9 (own_nb hrow9 ob9 (by decide)), be9.setCell (Nat.le_add_right g 2) _⟩
    have HS9 := Nm.hide S9
    have HK9 : Hid (k + 1 ≤ ds.length) := hlt
    have HG9 : Hid (g ≤ (wa.setCell ⟨g + 1 + 1, 3, none⟩ (.slice xb (k + 1) yb)).heap.size) := by
     show _ ≤ _
     have h1 := hgrow9.size
     simp at h1 ⊢
     omega
    clear S9 hrow9 ob9 mb9 zb9 be9 SA Sk hown9 hgrow9 hoA e0 hbA f0 d0 g9 h9 hH3 hH2 hHeld ccM ccO hcell8 hc8
    go_wp2
    go_roundw
    case rel => exact ⟨k + 1, xb, yb, HK9.out, by go_num, HG9.out, HS9.out⟩
    case measure => simp [intOf]; omega
  · obtain rfl : k = ds.length := by omega
    rw [List.take_length] at Sk
    have i9 : (ds.length : Int) ≤ (ds.length : Int) := by omega
    have cz := fun i => blk_cell Sk.zb i
    have fz := fun i => blk_frozen Sk.zb i
    have k4 := blk_set (blk_set (blk_set (blk_set Sk.zb 0 (.string x)) 1 (.int .i64 ty)) 2 (.int .i64 tt)) 3 (.slice qx ds.length qy)
    simp only [List.setIfInBounds_toArray, List.set_cons_zero, List.set_cons_succ] at k4
    have hne := own_nb Sk.own Sk.zb (by decide)
    have ho4 := own_far (y := .slice qx ds.length qy) (i := 3) (g := g + 1) (own_far (y := .int .i64 tt) (i := 2) (g := g + 1) (own_far (y := .int .i64 ty) (i := 1) (g := g + 1) (own_far (y := .string x) (i := 0) (g := g + 1) Sk.own hne) hne) hne) hne
    have hlb : g ≤ g + 1 := Nat.le_succ g
    have bw4 := (((Sk.be.setCell (p := ⟨g + 1, 0, none⟩) hlb (.string x)).setCell (p := ⟨g + 1, 1, none⟩) hlb (.int .i64 ty)).setCell (p := ⟨g + 1, 2, none⟩) hlb (.int .i64 tt)).setCell (p := ⟨g + 1, 3, none⟩) hlb (.slice qx ds.length qy)
    have rk := fun i => blk_cell k4 i
    clear hd k4 hne Sk
    go_wp2_with fail
    refine bodyPost_ret (v := .agg #[.string x, .int .i64 ty, .int .i64 tt, .slice qx ds.length qy]) ?_ rfl ⟨_, rfl, by rw [HGG.out]; exact ho4, by rw [HGG.out]; exact bw4⟩
    simp [results, Tryz.f43, go_sem, rk]
theorem fnd_hit {ps : List Zp} {name : ByteArray} {t : Int} {j : Nat} {q : Zp} (hq : ps[j]? = some q) (hb : ∀ i p, i < j → ps[i]? = some p → (decide (p.1.ty = t) && sameS p.1.own name) = false) (h : (decide (q.1.ty = t) && sameS q.1.own name) = true) : fndZ (ps.map (·.1)) name t = some q.1 := by
 induction ps generalizing j with
 | nil => simp at hq
 | cons p ps ih =>
   rw [fndZ, List.map_cons, List.find?_cons]
   cases j with
   | zero =>
     simp only [List.getElem?_cons_zero, Option.some.injEq] at hq
     subst hq
     simp only [h]
   | succ j =>
     have h0 := hb 0 p (by omega) rfl
     simp only [h0]
     exact ih (by simpa using hq) (fun i p' hi hp' => hb (i + 1) p' (by omega) (by simpa using hp'))
theorem fnd_miss {ps : List Zp} {name : ByteArray} {t : Int} (hb : ∀ i p, i < ps.length → ps[i]? = some p → (decide (p.1.ty = t) && sameS p.1.own name) = false) : fndZ (ps.map (·.1)) name t = none := by
 rw [fndZ, List.find?_eq_none]
 intro z hz
 obtain ⟨p, hp, rfl⟩ := List.mem_map.1 hz
 obtain ⟨i, hi⟩ := List.getElem?_of_mem hp
 rw [hb i p (List.getElem?_eq_some_iff.1 hi).1 hi]
 simp
set_option maxRecDepth 100000 in
set_option maxHeartbeats 1600000 in
theorem l06Find_any (o name : ByteArray) (t : Int) (v : Value) (ps : List Zp) (w : World) (h : ZRow w v ps) (hl : ps.length ≤ 1048576) (hf : ∀ p ∈ ps, p.1.own.size ≤ 1048576 ∧ p.1.da.length ≤ 1048576) (hn : name.size ≤ maxLen) :
 Calls Tryz.prog 74 #[.agg #[.string o, v], .string name, .int .i64 t] w (FsP (fndZ (ps.map (·.1)) name t) w) := by
 obtain ⟨va, vc, rfl⟩ : ∃ va vc, v = .slice va ps.length vc := by obtain ⟨⟨_, a, c, e, _⟩, _⟩ := h; exact ⟨a, c, e⟩
 have b0 := (Below.refl w.heap.size w).alloc (Nat.le_refl _) (.cells #[.string o, .slice va ps.length vc] 28)
 have b1 := b0.alloc b0.size (.cells #[.string ⟨#[]⟩, .int .i64 0, .int .i64 0, .slice none 0 0] 87)
 have k0 := blk_alloc (blk_new w #[.string o, .slice va ps.length vc] 28) (.cells #[.string ⟨#[]⟩, .int .i64 0, .int .i64 0, .slice none 0 0] 87)
 have kS := blk_new (w.alloc (.cells #[.string o, .slice va ps.length vc] 28)) #[.string ⟨#[]⟩, .int .i64 0, .int .i64 0, .slice none 0 0] 87
 rw [World.size_alloc] at kS
 have HZ := Nm.hide (fun W (hW : Below w.heap.size w W) => h.below hW)
 have HF := Nm.hide hf
 have HG : Hid (∀ W, Below w.heap.size w W → w.heap.size ≤ W.heap.size) := fun W hW => hW.size
 clear h hf b0
 go_enter Tryz.func74, Tryz.ntmps74
 go_wp2_with fail
 generalize hgg : w.heap.size = g at *
 have HGG := Nm.hide hgg
 clear hgg
 go_loopw [8] (fun i wr => ∃ (j : Nat), j ≤ ps.length ∧ i = .int .i64 j ∧ Below g w wr ∧ Blk wr g #[.string o, .slice va ps.length vc] 28 ∧ Blk wr (g + 1) #[.string ⟨#[]⟩, .int .i64 0, .int .i64 0, .slice none 0 0] 87 ∧ ∀ i p, i < j → ps[i]? = some p → (decide (p.1.ty = t) && sameS p.1.own name) = false) (fun i _ => ps.length - (intOf i).toNat)
 case atStart => exact ⟨0, Nat.zero_le _, rfl, b1, k0, kS, fun i p hi => by omega⟩
 case round =>
  clear b1 k0 kS
  obtain ⟨j, hj, rfl, hb, kz, ks, hno⟩ := hrel
  have HNO := Nm.hide hno
  have hgw := HG.out _ hb
  have rz := fun i => blk_cell kz i
  clear hno
  by_cases hlt : j < ps.length
  · obtain ⟨q, hq⟩ : ∃ q, ps[j]? = some q := ⟨_, List.getElem?_eq_getElem hlt⟩
    have hzr := HZ.out _ hb
    obtain ⟨⟨_, a9, c9, e9, _, _, hc9⟩, hd9⟩ := hzr
    simp only [Value.slice.injEq] at e9
    obtain ⟨rfl, _, rfl⟩ := e9
    obtain ⟨b, off, rfl, hcell⟩ := hc9 (by omega)
    obtain ⟨d0, d1, d2, d3⟩ := zp_cells hcell hq
    have hfq := HF.out q (List.mem_of_getElem? hq)
    have hsr := hd9 q (List.mem_of_getElem? hq)
    have n1 : (0 : Int) ≤ (j : Int) := by omega
    have n2 : (j : Int) < (ps.length : Int) := by omega
    have hsm := specSameName_any q.1.own name wr (by unfold maxLen; omega) hn
    have HQ := Nm.hide hq
    have HSR := Nm.hide hsr
    clear hc9 hd9 hcell hq hsr
    obtain ⟨⟨x, ty, tt, ds⟩, u⟩ := q
    simp only at d0 d1 d2 d3 hsm hfq
    obtain ⟨ua, uc, hu⟩ : ∃ ua uc, u = .slice ua ds.length uc := by obtain ⟨a, c, e, _⟩ := HSR.out; exact ⟨a, c, e⟩
    subst hu
    by_cases hty : ty = t
    · subst hty
      have t1 : (ty == ty) = true := by simp
      cases hsb : sameS x name with
      | true =>
        rw [hsb] at hsm
        have HR : Hid (fndZ (ps.map (·.1)) name ty = some ⟨x, ty, tt, ds⟩) := fnd_hit HQ.out HNO.out (by simp [hsb])
        clear hsb
        go_wp2_with fail
        refine hsm.mono ?_
        rintro e w1 ⟨rfl, b1⟩
        have kz1 := blk_below kz b1
        have ks1 := blk_below ks b1
        have bw1 := hb.trans (b1.mono hgw)
        have rz1 := fun i => blk_cell kz1 i
        have up := fun {O : Nat} {z : Value} (hz : wr.cell? ⟨b, O, none⟩ = some z) => (b1.cell (World.block_lt_of_cell? wr _ hz)).trans hz
        have f0 := up d0
        have f1 := up d1
        have f2 := up d2
        have f3 := up d3
        have hcp := l06CopySet_any ⟨x, ty, tt, ds⟩ (.slice ua ds.length uc) w1 (HSR.out.below b1) (by have := hfq.2; simp only; omega)
        simp only at hcp
        clear rz d0 d1 d2 d3 hsm up kz
        go_wp2_with fail
        refine hcp.mono ?_
        rintro e w2 ⟨u2, rfl, ho2, b2⟩
        obtain ⟨xa, xc, rfl⟩ := own_sl ho2
        have ks2 := blk_below ks1 b2
        have cz := fun i => blk_cell ks2 i
        have fz := fun i => blk_frozen ks2 i
        have hg1 := HG.out _ bw1
        have bw2 := bw1.trans (b2.mono hg1)
        rw [← HGG.out] at bw2
        obtain ⟨k4, ho4, bw4⟩ := set_store (x := x) (ty := ty) (tt := tt) ks2 ho2 (fun e => by have h1 := (ho2.lt _ e).1; have h2 := blk_lt ks1; omega) bw2 (by rw [HGG.out]; exact Nat.le_succ _)
        have rk := fun i => blk_cell k4 i
        have HP0 : FsP (some ⟨x, ty, tt, ds⟩) w (.returned (.tuple #[.agg #[.string x, .int .i64 ty, .int .i64 tt, .slice xa ds.length xc], .bool true])) _ := ⟨_, rfl, own_base ho4 (by rw [HGG.out]; exact hg1), bw4⟩
        rw [← HR.out] at HP0
        have HP := Nm.hide HP0
        clear HP0
        clear ks ks1 ks2 kz1 rz1 hcp k4 ho4 bw4 ho2 f0 f1 f2 f3
        go_wp2_with fail
        refine bodyPost_ret (v := .tuple #[.agg #[.string x, .int .i64 ty, .int .i64 tt, .slice xa ds.length xc], .bool true]) ?_ rfl HP.out
        simp [results, Tryz.f74, go_sem, rk]
      | false =>
        rw [hsb] at hsm
        have HN : Hid (∀ i p, i < j + 1 → ps[i]? = some p → (decide (p.1.ty = ty) && sameS p.1.own name) = false) := fun i p hi hp => by
         rcases Nat.lt_or_ge i j with h1 | h1
         · exact HNO.out i p h1 hp
         · obtain rfl : i = j := by omega
           rw [HQ.out] at hp
           obtain rfl := Option.some.inj hp
           simp [hsb]
        clear hsb
        go_wp2_with (go_at_call 106; refine hsm.mono ?_; rintro e w1 ⟨rfl, b1⟩)
        go_roundw
        case rel => exact ⟨j + 1, hlt, by go_num, hb.trans (b1.mono hgw), blk_below kz b1, blk_below ks b1, HN.out⟩
        case measure => simp [intOf]; omega
    · have t1 : (ty == t) = false := by simp [hty]
      have HN : Hid (∀ i p, i < j + 1 → ps[i]? = some p → (decide (p.1.ty = t) && sameS p.1.own name) = false) := fun i p hi hp => by
       rcases Nat.lt_or_ge i j with h1 | h1
       · exact HNO.out i p h1 hp
       · obtain rfl : i = j := by omega
         rw [HQ.out] at hp
         obtain rfl := Option.some.inj hp
         simp [hty]
      clear hty hsm
      go_wp2
      go_roundw
      case rel => exact ⟨j + 1, hlt, by go_num, hb, kz, ks, HN.out⟩
      case measure => simp [intOf]; omega
  · obtain rfl : j = ps.length := by omega
    have i9 : (ps.length : Int) ≤ (ps.length : Int) := by omega
    have HR : Hid (fndZ (ps.map (·.1)) name t = none) := fnd_miss HNO.out
    have cz := fun i => blk_cell ks i
    have fz := fun i => blk_frozen ks i
    rw [← HGG.out] at hb
    obtain ⟨k4, -, bw4⟩ := set_store (x := ⟨#[]⟩) (ty := 0) (tt := 0) ks (World.ownsRow_nil wr 0 9 1) (by simp [Value.ownBlock]) hb (by rw [HGG.out]; exact Nat.le_succ _)
    have rk := fun i => blk_cell k4 i
    have HP0 := fsP_none bw4
    rw [← HR.out] at HP0
    have HP := Nm.hide HP0
    clear HP0
    clear ks k4 bw4
    go_wp2_with fail
    refine bodyPost_ret (v := .tuple #[.agg #[.string ⟨#[]⟩, .int .i64 0, .int .i64 0, .slice none 0 0], .bool false]) ?_ rfl HP.out
    simp [results, Tryz.f74, go_sem, rk]
theorem soa_size {d : ByteArray} (h : cutCode 6 d = 0) : 22 ≤ d.size ∧ d.size ≤ 65535 := by
 rw [cutCode, if_neg (by omega)] at h
 by_cases hl : 65535 < d.size
 · rw [if_pos hl] at h; omega
 · rw [if_neg hl] at h
   refine ⟨?_, by omega⟩
   cases hq : Dt.spans (Dt.implP 6) 0 d with
   | none => rw [hq] at h; simp at h
   | some sp =>
     have e : Dt.implP 6 = [.nm, .nm, .bs 20] := rfl
     rw [e] at hq
     simp only [Dt.spans, Dt.sz] at hq
     by_cases h1 : (Dt.nameAtS d).size = 0
     · simp [h1] at hq
     · simp only [h1, if_false] at hq
       by_cases h2 : (Dt.nameAtS (d.extract (Dt.nameAtS d).size d.size)).size = 0
       · simp [h2] at hq
       · simp only [h2, if_false] at hq
         have l1 := Dt.name_le d
         have l2 := Dt.name_le (d.extract (Dt.nameAtS d).size d.size)
         have z1 : (d.extract (Dt.nameAtS d).size d.size).size = d.size - (Dt.nameAtS d).size := by simp
         generalize (d.extract (Dt.nameAtS d).size d.size) = d1 at *
         have z2 : (d1.extract (Dt.nameAtS d1).size d1.size).size = d1.size - (Dt.nameAtS d1).size := by simp
         rw [z2] at hq
         by_cases h3 : 20 ≤ d1.size - (Dt.nameAtS d1).size
         · omega
         · rw [if_neg h3] at hq; simp at hq
end Go.Proofs.YtdcbhohlglncnaaGreat
/- spec.l02Num by its contract. -/
namespace Go.Proofs.YtdcbhohlglncnaaGreat
open Go.RowKit
set_option maxRecDepth 100000 in
set_option maxHeartbeats 400000 in
theorem l02Num_any (s : ByteArray) (w : World) (hs : s.size ≤ 6) :
 Calls Tryz.prog 45 #[.string s] w fun e w' => e = .returned (.int .i64 (numL s.data.toList)) ∧ w' = w := by
 go_enter Tryz.func45, Tryz.ntmps45
 go_wp2
 go_loop [3, 4] (fun u v => ∃ k : Nat, k ≤ s.size ∧ v = .int .i64 k ∧ u = .int .i64 (numL (s.data.toList.take k))) (fun _ v => s.size - (intOf v).toNat)
 case atStart => exact ⟨0, Nat.zero_le _, rfl, rfl⟩
 case round =>
  obtain ⟨k, hk, rfl, rfl⟩ := hrel
  by_cases hlt : k < s.size
  · have hd := Nm.get_data hlt
    have e1 : s.data.toList.take (k + 1) = s.data.toList.take k ++ [s[k]] := Nm.take_step hd
    have hb := numL_small (l := s.data.toList.take k) (by simp; omega)
    have e2 := numL_snoc (s.data.toList.take k) s[k]
    rw [← e1] at e2
    have hc : (s[k].toNat : Int) < 256 := by have := s[k].toNat_lt; omega
    have hlt' : (k : Int) < (s.size : Int) := by omega
    generalize numL (s.data.toList.take k) = m at *
    clear e1 hd
    go_wp2
    go_round
    case rel => exact ⟨k + 1, by omega, by go_num, by rw [e2]; go_num⟩
    case measure => simp [intOf]; omega
  · have hke : k = s.size := by omega
    subst hke
    have et : s.data.toList.take s.size = s.data.toList := List.take_of_length_le (by simp)
    rw [et]
    go_wp2
    go_ret
    exact ⟨rfl, rfl⟩
end Go.Proofs.YtdcbhohlglncnaaGreat
/- A record stored. -/
namespace Go.Proofs.YtdcbhohlglncnaaGreat
open Go.RowKit
set_option linter.unusedVariables false
theorem rr_store {w w2 : World} {b : Nat} {r : Rr} (k : Blk w2 b #[.string ⟨#[]⟩, .int .i64 0, .int .i64 0, .int .i64 0, .string ⟨#[]⟩] 90) (hb : Below w.heap.size w w2) (hlb : w.heap.size ≤ b) :
 Blk (((((w2.setCell ⟨b, 0, none⟩ (.string r.own)).setCell ⟨b, 1, none⟩ (.int .i64 r.ty)).setCell ⟨b, 2, none⟩ (.int .i64 r.cl)).setCell ⟨b, 3, none⟩ (.int .i64 r.tt)).setCell ⟨b, 4, none⟩ (.string r.da)) b #[.string r.own, .int .i64 r.ty, .int .i64 r.cl, .int .i64 r.tt, .string r.da] 90 ∧
 Below w.heap.size w (((((w2.setCell ⟨b, 0, none⟩ (.string r.own)).setCell ⟨b, 1, none⟩ (.int .i64 r.ty)).setCell ⟨b, 2, none⟩ (.int .i64 r.cl)).setCell ⟨b, 3, none⟩ (.int .i64 r.tt)).setCell ⟨b, 4, none⟩ (.string r.da)) := by
 have k4 := blk_set (blk_set (blk_set (blk_set (blk_set k 0 (.string r.own)) 1 (.int .i64 r.ty)) 2 (.int .i64 r.cl)) 3 (.int .i64 r.tt)) 4 (.string r.da)
 simp only [List.setIfInBounds_toArray, List.set_cons_zero, List.set_cons_succ] at k4
 exact ⟨k4, ((((hb.setCell (p := ⟨b, 0, none⟩) hlb _).setCell (p := ⟨b, 1, none⟩) hlb _).setCell (p := ⟨b, 2, none⟩) hlb _).setCell (p := ⟨b, 3, none⟩) hlb _).setCell (p := ⟨b, 4, none⟩) hlb _⟩
set_option maxRecDepth 100000 in
set_option maxHeartbeats 1600000 in
theorem l11Soa_any (o : ByteArray) (v : Value) (ps : List Zp) (s : Sz) (d : ByteArray) (ds : List ByteArray) (w : World) (h : ZRow w v ps) (hl : ps.length ≤ 1048576) (hf : ∀ p ∈ ps, p.1.own.size ≤ 1048576 ∧ p.1.da.length ≤ 1048576) (ho : o.size ≤ maxLen) (hs : fndZ (ps.map (·.1)) o 6 = some s) (hd : s.da = d :: ds) (hsl : s.da.length ≤ 1048576) :
 Calls Tryz.prog 44 #[.agg #[.string o, v]] w fun e w' => e = .returned (.agg #[.string s.own, .int .i64 s.ty, .int .i64 1, .int .i64 s.tt, .string d]) ∧ Below w.heap.size w w' := by
 obtain ⟨va, vc, rfl⟩ : ∃ va vc, v = .slice va ps.length vc := by obtain ⟨⟨_, a, c, e, _⟩, _⟩ := h; exact ⟨a, c, e⟩
 have b0 := (Below.refl w.heap.size w).alloc (Nat.le_refl _) (.cells #[.string o, .slice va ps.length vc] 28)
 have b1 := b0.alloc b0.size (.cells #[.string ⟨#[]⟩, .int .i64 0, .int .i64 0, .int .i64 0, .string ⟨#[]⟩] 90)
 have k0 := blk_alloc (blk_new w #[.string o, .slice va ps.length vc] 28) (.cells #[.string ⟨#[]⟩, .int .i64 0, .int .i64 0, .int .i64 0, .string ⟨#[]⟩] 90)
 have kR := blk_new (w.alloc (.cells #[.string o, .slice va ps.length vc] 28)) #[.string ⟨#[]⟩, .int .i64 0, .int .i64 0, .int .i64 0, .string ⟨#[]⟩] 90
 rw [World.size_alloc] at kR
 have hfd := l06Find_any o o 6 (.slice va ps.length vc) ps _ (h.below b1) hl hf ho
 rw [hs] at hfd
 have r0 := fun i => blk_cell k0 i
 have hre := fun u W (hu : Nm.SRow W u s.da) => l06SetRecords_any s u W hu hsl
 clear h hf hs
 obtain ⟨x, ty, tt, da⟩ := s
 simp only at hd hre hsl ⊢
 subst hd
 go_enter Tryz.func44, Tryz.ntmps44
 go_wp2_with fail
 refine hfd.mono ?_
 rintro e w1 ⟨u, rfl, hou, hb1⟩
 simp only [Option.getD_some, Option.isSome_some] at hou ⊢
 obtain ⟨ua, uc, eu⟩ := own_sl hou
 subst eu
 have bw1 := Nm.below_two b1 hb1
 have kR1 := blk_below kR hb1
 have b2 := (Below.refl w1.heap.size w1).alloc (Nat.le_refl _) (.cells #[.string x, .int .i64 ty, .int .i64 tt, .slice ua (d :: ds).length uc] 87)
 have kB := blk_new w1 #[.string x, .int .i64 ty, .int .i64 tt, .slice ua (d :: ds).length uc] 87
 have rB := fun i => blk_cell kB i
 have hse := hre _ _ ((Nm.SRow.of_owns hou).below b2)
 have bw2 := Nm.below_two bw1 b2
 have kR2 := blk_below kR1 b2
 clear hfd k0 r0 kR kR1 b0 b1 hb1 hre hou bw1
 go_wp2_with fail
 refine hse.mono ?_
 rintro e w3 ⟨t, rfl, hot, hb3⟩
 obtain ⟨ta, tc, et⟩ := own_sl hot
 subst et
 have bw3 := Nm.below_two bw2 hb3
 have kR3 := blk_below kR2 hb3
 have rz := fun i => blk_cell kR3 i
 have fz := fun i => blk_frozen kR3 i
 have hx0 : (recsOf ⟨x, ty, tt, d :: ds⟩)[0]? = some ⟨x, ty, 1, tt, d⟩ := rfl
 obtain ⟨_, a9, c9, e9, _, _, hc9⟩ := CRow.of_owns hot
 simp only [Value.slice.injEq] at e9
 obtain ⟨rfl, _, rfl⟩ := e9
 obtain ⟨gb, go, rfl, hcell⟩ := hc9 (by rw [recsOf_len]; simp)
 obtain ⟨d0, d1, d2, d3, d4⟩ := rv_cells hcell hx0
 simp only [Nat.zero_mul, Nat.add_zero] at d0 d1 d2 d3 d4
 obtain ⟨k5, bw5⟩ := rr_store (r := ⟨x, ty, 1, tt, d⟩) kR3 bw3 (Nat.le_succ _)
 simp only at k5 bw5
 have rk := fun i => blk_cell k5 i
 have HB := Nm.hide bw5
 have hn0 : (0 : Int) < (((recsOf ⟨x, ty, tt, d :: ds⟩).length : Nat) : Int) := by rw [recsOf_len]; (simp; try omega)
 generalize (recsOf ⟨x, ty, tt, d :: ds⟩).length = RL at *
 clear hse kR2 kR3 k5 bw5 bw3 bw2 hb3 hot hcell hc9 kB rB b2 hx0
 go_wp2_with fail
 refine bodyPost_ret (v := .agg #[.string x, .int .i64 ty, .int .i64 1, .int .i64 tt, .string d]) ?_ rfl ⟨rfl, HB.out⟩
 simp [results, Tryz.f44, go_sem, rk]
theorem rr_field4 (a : ByteArray) (b c e : Int) (d : ByteArray) (W : World) : (Instr.field 90 (.agg #[.string a, .int .i64 b, .int .i64 c, .int .i64 e, .string d]) 4).run Tryz.prog W = .ok (.string d) W := by kernel_rfl
set_option maxRecDepth 100000 in
set_option maxHeartbeats 800000 in
theorem l15Number_any (o : ByteArray) (v : Value) (ps : List Zp) (s : Sz) (d : ByteArray) (ds : List ByteArray) (w : World) (h : ZRow w v ps) (hl : ps.length ≤ 1048576) (hf : ∀ p ∈ ps, p.1.own.size ≤ 1048576 ∧ p.1.da.length ≤ 1048576) (ho : o.size ≤ maxLen) (hs : fndZ (ps.map (·.1)) o 6 = some s) (hd : s.da = d :: ds) (hsl : s.da.length ≤ 1048576) (hc : cutCode 6 d = 0) :
 Calls Tryz.prog 25 #[.agg #[.string o, v], .int .i64 2] w fun e w' => e = .returned (.int .i64 (expN d)) ∧ Below w.heap.size w w' := by
 obtain ⟨va, vc, rfl⟩ : ∃ va vc, v = .slice va ps.length vc := by obtain ⟨⟨_, a, c, e, _⟩, _⟩ := h; exact ⟨a, c, e⟩
 obtain ⟨z1, z2⟩ := soa_size hc
 have b0 := (Below.refl w.heap.size w).alloc (Nat.le_refl _) (.cells #[.string o, .slice va ps.length vc] 28)
 have hso := l11Soa_any o (.slice va ps.length vc) ps s d ds _ (h.below b0) hl hf ho hs hd hsl
 have k0 := blk_new w #[.string o, .slice va ps.length vc] 28
 have r0 := fun i => blk_cell k0 i
 have hfld := fun W => rr_field4 s.own s.ty 1 s.tt d W
 have hnum := fun W => l02Num_any (d.extract (d.size - 8) (d.size - 4)) W (by simp; omega)
 have e1 : expN d = if (1 : Int) < ((numL (d.extract (d.size - 8) (d.size - 4)).data.toList : Nat) : Int) then ((numL (d.extract (d.size - 8) (d.size - 4)).data.toList : Nat) : Int) else 1 := rfl
 rw [e1]
 have h1 : (16 : Int) ≤ (d.size : Int) := by omega
 have h3 : 16 ≤ d.size := by omega
 have e8 : d.size - 16 + 8 = d.size - 8 := by omega
 have e4 : d.size - 16 + 8 + 4 = d.size - 4 := by omega
 have h5 : (d.size : Int) - 16 + 8 = ((d.size - 8 : Nat) : Int) := by omega
 have h6 : ((d.size - 8 : Nat) : Int) + 4 = ((d.size - 4 : Nat) : Int) := by omega
 have h7 : d.size - 8 ≤ d.size - 4 := by omega
 have h8 : d.size - 4 ≤ d.size := by omega
 generalize numL (d.extract (d.size - 8) (d.size - 4)).data.toList = N at *
 clear h hf hs hd hsl hc e1 z1
 by_cases hN : (1 : Int) < (N : Int)
 · rw [if_pos hN]
   go_enter Tryz.func25, Tryz.ntmps25
   go_wp2_with (first | (go_at_call 44; refine hso.mono ?_; rintro e w1 ⟨rfl, hb1⟩) | (go_at_call 45; refine (hnum _).mono ?_; rintro e w2 ⟨rfl, hw⟩; obtain rfl : _ = w2 := hw.symm; clear hw))
   go_ret
   exact ⟨rfl, Nm.below_two b0 hb1⟩
 · rw [if_neg hN]
   rcases (show N = 0 ∨ N = 1 by omega) with rfl | rfl
   · go_enter Tryz.func25, Tryz.ntmps25
     go_wp2_with (first | (go_at_call 44; refine hso.mono ?_; rintro e w1 ⟨rfl, hb1⟩) | (go_at_call 45; refine (hnum _).mono ?_; rintro e w2 ⟨rfl, hw⟩; obtain rfl : _ = w2 := hw.symm; clear hw))
     go_ret
     exact ⟨rfl, Nm.below_two b0 hb1⟩
   · go_enter Tryz.func25, Tryz.ntmps25
     go_wp2_with (first | (go_at_call 44; refine hso.mono ?_; rintro e w1 ⟨rfl, hb1⟩) | (go_at_call 45; refine (hnum _).mono ?_; rintro e w2 ⟨rfl, hw⟩; obtain rfl : _ = w2 := hw.symm; clear hw))
     go_ret
     exact ⟨rfl, Nm.below_two b0 hb1⟩
end Go.Proofs.YtdcbhohlglncnaaGreat
/- spec.l10CopyZone by its contract. -/
namespace Go.Proofs.YtdcbhohlglncnaaGreat
open Go.RowKit Go.Shelf
set_option linter.unusedVariables false
set_option maxRecDepth 100000 in
set_option maxHeartbeats 3200000 in
theorem l10CopyZone_any (o : ByteArray) (v : Value) (ps : List Zp) (w : World) (h : ZRow w v ps) (hl : ps.length ≤ 1048576) (hf : ∀ p ∈ ps, p.1.da.length ≤ 1048576) :
 Calls Tryz.prog 24 #[.agg #[.string o, v]] w fun e w' => ∃ u qs, e = .returned (.agg #[.string o, u]) ∧ qs.map (·.1) = ps.map (·.1) ∧ ZOwn w' w.heap.size u qs ∧ Below w.heap.size w w' := by
 obtain ⟨va, vc, rfl⟩ : ∃ va vc, v = .slice va ps.length vc := by obtain ⟨⟨_, a, c, e, _⟩, _⟩ := h; exact ⟨a, c, e⟩
 obtain ⟨i0, hi, hz0, hz1, hz2⟩ := info_parts Tryz.infoSet
 have b0 := (Below.refl w.heap.size w).alloc (Nat.le_refl _) (.cells #[.string o, .slice va ps.length vc] 28)
 have b1 := b0.alloc b0.size (.cells #[.string ⟨#[]⟩, .slice none 0 0] 28)
 have b2 := b1.alloc b1.size (.cells #[.string o, .slice none 0 0] 28)
 have kM0 := blk_alloc (blk_new w #[.string o, .slice va ps.length vc] 28) (.cells #[.string ⟨#[]⟩, .slice none 0 0] 28)
 have kM := blk_alloc kM0 (.cells #[.string o, .slice none 0 0] 28)
 have kR := blk_alloc (blk_new (w.alloc (.cells #[.string o, .slice va ps.length vc] 28)) #[.string ⟨#[]⟩, .slice none 0 0] 28) (.cells #[.string o, .slice none 0 0] 28)
 have kO := blk_new ((w.alloc (.cells #[.string o, .slice va ps.length vc] 28)).alloc (.cells #[.string ⟨#[]⟩, .slice none 0 0] 28)) #[.string o, .slice none 0 0] 28
 rw [World.size_alloc] at kR
 rw [World.size_alloc, World.size_alloc] at kO
 have HZ := Nm.hide (fun W (hW : Below w.heap.size w W) => h.below hW)
 have HF := Nm.hide hf
 have rr := fun i => blk_cell kM0 i
 have S0 : Zst w.heap.size o (w.heap.size + 1 + 1) (w.heap.size + 1) _ [] := ⟨.slice none 0 0, [], kO, kR, rfl, ZOwn.nil _ _⟩
 clear h hf kO kR b0 b1
 go_enter Tryz.func24, Tryz.ntmps24
 go_wp2_with fail
 clear rr kM0
 generalize hgg : w.heap.size = g at *
 have HGG := Nm.hide hgg
 clear hgg
 go_loopw [4] (fun i wr => ∃ (k : Nat), k ≤ ps.length ∧ i = .int .i64 k ∧ g + 3 ≤ wr.heap.size ∧ Below g w wr ∧ Blk wr g #[.string o, .slice va ps.length vc] 28 ∧ Zst g o (g + 1 + 1) (g + 1) wr ((ps.take k).map (·.1))) (fun i _ => ps.length - (intOf i).toNat)
 case atStart => exact ⟨0, Nat.zero_le _, rfl, by have := HGG.out; simp; omega, b2, kM, S0⟩
 case round =>
  clear S0 kM b2
  obtain ⟨k, hk, rfl, hgw, hbe, kM, v9, qs, kO, kR, hqs, hZ⟩ := hrel
  obtain ⟨oa, oc, hv9⟩ := own_sl hZ.outer
  subst hv9
  have hql : qs.length = k := by have := congrArg List.length hqs; simp at this; omega
  have hqb : qs.length ≤ 1048576 := by omega
  clear hql
  have cM := fun i => blk_cell kM i
  have cO := fun i => blk_cell kO i
  by_cases hlt : k < ps.length
  · obtain ⟨q, hq⟩ : ∃ q, ps[k]? = some q := ⟨_, List.getElem?_eq_getElem hlt⟩
    obtain ⟨⟨_, a9, c9, e9, _, _, hc9⟩, hd9⟩ := HZ.out _ hbe
    simp only [Value.slice.injEq] at e9
    obtain ⟨rfl, _, rfl⟩ := e9
    obtain ⟨b, off, rfl, -⟩ := hc9 (by omega)
    have hsr := hd9 q (List.mem_of_getElem? hq)
    have hfq := HF.out q (List.mem_of_getElem? hq)
    have HCq : Hid (∀ W, Below g w W → W.cell? ⟨b, off + k * 4, none⟩ = some (.string q.1.own) ∧ W.cell? ⟨b, off + k * 4 + 1, none⟩ = some (.int .i64 q.1.ty) ∧ W.cell? ⟨b, off + k * 4 + 2, none⟩ = some (.int .i64 q.1.tt) ∧ W.cell? ⟨b, off + k * 4 + 3, none⟩ = some q.2) := by
     intro W hW
     obtain ⟨⟨_, a8, c8, e8, _, _, hc8⟩, -⟩ := HZ.out _ hW
     simp only [Value.slice.injEq] at e8
     obtain ⟨e8, _, _⟩ := e8
     subst e8
     obtain ⟨b', off', e7, hcell⟩ := hc8 (by omega)
     cases e7
     exact zp_cells hcell hq
    have n1 : (0 : Int) ≤ (k : Int) := by omega
    have n2 : (k : Int) < (ps.length : Int) := by omega
    have HTK : Hid ((ps.take (k + 1)).map (·.1) = qs.map (·.1) ++ [q.1]) := by show _ = _; rw [Nm.take_step hq, List.map_append, hqs]; rfl
    clear hc9 hd9 hq
    obtain ⟨⟨x, ty, tt, ds⟩, u⟩ := q
    simp only at hsr hfq HCq HTK
    obtain ⟨ua, uc, hu⟩ : ∃ ua uc, u = .slice ua ds.length uc := by obtain ⟨a, c, e, _⟩ := hsr; exact ⟨a, c, e⟩
    subst hu
    have hcp := l06CopySet_any ⟨x, ty, tt, ds⟩ (.slice ua ds.length uc) wr.drew (hsr.below (Below.refl _ _).drew) (by simp only; omega)
    simp only at hcp
    clear hsr
    go_wp2
    refine wp_region_last (fun W => Below g w W ∧ Blk W (g + 1 + 1) #[.string o, .slice oa qs.length oc] 28 ∧ Blk W g #[.string o, .slice (some ⟨b, off, none⟩) ps.length vc] 28) 11 (by kernel_rfl) ⟨hbe.drew, kO, kM⟩ (fun hHeld => ?_)
    refine wpAnyL_take (i := 0) (v := ?_) rfl (by kernel_rfl) (by kernel_rfl) (by kernel_rfl) (by kernel_rfl) (fun _ _ _ h => h) (Or.inl ⟨by rfl, ?_⟩) (by assumption) ?_
    rotate_left 1
    · (rintro W ⟨s1, s2, s3⟩; have ss2 := (fun i => blk_cell s2 i); have ss3 := (fun i => blk_cell s3 i); obtain ⟨t0, t1, t2, t3⟩ := HCq.out W s1; go_simp; first | done | rfl)
    refine wpAnyL_take (i := 1) (v := ?_) rfl (by kernel_rfl) (by kernel_rfl) (by kernel_rfl) (by kernel_rfl) (fun _ _ _ h => h) (Or.inl ⟨by rfl, ?_⟩) (by assumption) ?_
    rotate_left 1
    · (rintro W ⟨s1, s2, s3⟩; have ss2 := (fun i => blk_cell s2 i); have ss3 := (fun i => blk_cell s3 i); obtain ⟨t0, t1, t2, t3⟩ := HCq.out W s1; go_simp; first | done | rfl)
    refine wpAnyL_take (i := 2) (v := ?_) rfl (by kernel_rfl) (by kernel_rfl) (by kernel_rfl) (by kernel_rfl) (fun _ _ _ h => h) (Or.inl ⟨by rfl, ?_⟩) (by assumption) ?_
    rotate_left 1
    · (rintro W ⟨s1, s2, s3⟩; have ss2 := (fun i => blk_cell s2 i); have ss3 := (fun i => blk_cell s3 i); obtain ⟨t0, t1, t2, t3⟩ := HCq.out W s1; go_simp; first | done | rfl)
    refine wpAnyL_take (i := 3) (v := ?_) rfl (by kernel_rfl) (by kernel_rfl) (by kernel_rfl) (by kernel_rfl) (fun _ _ _ h => h) (Or.inl ⟨by rfl, ?_⟩) (by assumption) ?_
    rotate_left 1
    · (rintro W ⟨s1, s2, s3⟩; have ss2 := (fun i => blk_cell s2 i); have ss3 := (fun i => blk_cell s3 i); obtain ⟨t0, t1, t2, t3⟩ := HCq.out W s1; go_simp; first | done | rfl)
    refine wpAnyL_take (i := 4) (v := ?_) rfl (by kernel_rfl) (by kernel_rfl) (by kernel_rfl) (by kernel_rfl) (fun _ _ _ h => h) (Or.inl ⟨by rfl, ?_⟩) (by assumption) ?_
    rotate_left 1
    · (rintro W ⟨s1, s2, s3⟩; have ss2 := (fun i => blk_cell s2 i); have ss3 := (fun i => blk_cell s3 i); obtain ⟨t0, t1, t2, t3⟩ := HCq.out W s1; go_simp; first | done | rfl)
    refine wpAnyL_take (i := 5) (v := ?_) rfl (by kernel_rfl) (by kernel_rfl) (by kernel_rfl) (by kernel_rfl) (fun _ _ _ h => h) (Or.inl ⟨by rfl, ?_⟩) (by assumption) ?_
    rotate_left 1
    · (rintro W ⟨s1, s2, s3⟩; have ss2 := (fun i => blk_cell s2 i); have ss3 := (fun i => blk_cell s3 i); obtain ⟨t0, t1, t2, t3⟩ := HCq.out W s1; go_simp; first | done | rfl)
    refine wpAnyL_take (i := 6) (v := ?_) rfl (by kernel_rfl) (by kernel_rfl) (by kernel_rfl) (by kernel_rfl) (fun _ _ _ h => h) (Or.inl ⟨by rfl, ?_⟩) (by assumption) ?_
    rotate_left 1
    · (rintro W ⟨s1, s2, s3⟩; have ss2 := (fun i => blk_cell s2 i); have ss3 := (fun i => blk_cell s3 i); obtain ⟨t0, t1, t2, t3⟩ := HCq.out W s1; go_simp; first | done | rfl)
    refine wpAnyL_one (i := 7) (by kernel_rfl) rfl (fun K hK => ?_)
    go_simp
    refine hcp.mono ?_
    rintro e w1 ⟨u1, rfl, hu1, b1⟩
    obtain ⟨xa, xc, rfl⟩ := own_sl hu1
    have b1' : Below wr.heap.size wr w1 := Nm.below_two (Below.refl _ _).drew b1
    have hgr : g ≤ wr.heap.size := by omega
    have bw1 := hbe.trans (b1'.mono hgr)
    have kO1 := blk_below kO b1'
    have kM1 := blk_below kM b1'
    have kR1 := blk_below kR b1'
    have hZ1 := hZ.below b1'
    have hgw1 : g + 3 ≤ w1.heap.size := Nat.le_trans hgw b1'.size
    have hap : ∀ p ∈ qs, ∀ z, p.2.ownBlock = some z → (Value.slice xa ds.length xc).ownBlock ≠ some z := fun p hp z e e' => by
     obtain ⟨i, hi⟩ := List.getElem?_of_mem hp
     have h8 := ((hZ.inner i p hi).lt z e).2
     have h9 := (hu1.lt z e').1
     simp at h9
     omega
    have hub := own_base hu1 (B' := g) (by simp; omega)
    go_wp2_with fail
    refine hK.out _ _ ⟨bw1, kO1, kM1⟩ (fun hH => ?_)
    clear hK K
    have bA := (Below.refl w1.heap.size w1).alloc (Nat.le_refl _) (.cells #[.string x, .int .i64 ty, .int .i64 tt, .slice xa ds.length xc] 87)
    have hgr1 : g ≤ w1.heap.size := by omega
    refine wpAnyL_one (i := 8) (by kernel_rfl) rfl (fun K hK => ?_)
    go_simp
    refine hK.out _ _ ⟨bw1.trans (bA.mono hgr1), blk_below kO1 bA, blk_below kM1 bA⟩ (fun hH2 => ?_)
    clear hK K
    refine wpAnyL_one (i := 9) (by kernel_rfl) rfl (fun K hK => ?_)
    refine step_append_own rfl (.tmp 16) (.tmp 23) 26 rfl g 87 i0 (.agg #[.string ByteArray.empty, .int .i64 0, .int .i64 0, .slice none 0 0]) 4 56 Tryz.underlying26 hi hz0 hz1 hz2 rfl (by decide) (.slice oa qs.length oc) qs.length (zpVs qs) (by rfl) (own_below hZ1.outer bA) ⟨w1.heap.size, 0, none⟩ 1 1 [.string x, .int .i64 ty, .int .i64 tt, .slice xa ds.length xc] (by rfl) rfl (cell_newV _ #[.string x, .int .i64 ty, .int .i64 tt, .slice xa ds.length xc] _) (by intro u hu; simp at hu; rcases hu with rfl | rfl | rfl | rfl <;> rfl) (by unfold maxLen; omega) (by omega) (by simp; omega) ?_
    intro va' wa hown9 hgrow9 hnl9
    obtain ⟨xb, yb, hvb⟩ := own_sl hown9
    subst hvb
    obtain ⟨q1, q2, q3, q4, q5⟩ := zst_more (apex := o) (s := ⟨x, ty, tt, ds⟩) kO1 kR1 hZ1 (by omega) hgr1 (by omega) hub hap hown9 hgrow9
    have bwa : Below g w wa := (bw1.trans (bA.mono hgr1)).grown hgrow9 (by simp; omega) (fun z hz => (hZ1.outer.lt z hz).1)
    have kMa := blk_grown (blk_below kM1 bA) hgrow9 (own_nb (own_below hZ1.outer bA) (blk_below kM1 bA) (by decide))
    refine hK.out _ _ ⟨bwa, q1, kMa⟩ (fun hH3 => ?_)
    clear hK K
    refine wpAnyL_take (i := 10) (v := ?_) rfl (by kernel_rfl) (by kernel_rfl) (by kernel_rfl) (by kernel_rfl) (fun _ _ _ h => h) (Or.inl ⟨by rfl, ?_⟩) (by assumption) ?_
    rotate_left 1
    · (rintro W ⟨s1, s2, s3⟩; have ss2 := (fun i => blk_cell s2 i); have ss3 := (fun i => blk_cell s3 i); obtain ⟨t0, t1, t2, t3⟩ := HCq.out W s1; go_simp; first | done | rfl)
    have g9 := fun i => blk_cell q1 i
    have h9 := fun i => blk_frozen q1 i
    refine wpAnyL_end (by kernel_rfl) rfl (by kernel_rfl) (fun K hK => ?_)
    go_simp
    refine hK.out _ _ ?_
    clear hK K
    have q2' := q2
    rw [← HTK.out] at q2'
    have q6 := q5 g _ _ kM1 (by decide) (by omega)
    have q7 := bw1.trans q4
    have q8 : g + 3 ≤ (wa.setCell ⟨g + 1 + 1, 1, none⟩ (.slice xb (qs.length + 1) yb)).heap.size := by
     have h1 := hgrow9.size
     simp at h1 ⊢
     omega
    have HQ := Nm.hide (And.intro q8 (And.intro q7 (And.intro q6 q2')))
    clear q1 q2 q2' q3 q4 q5 q6 q7 q8 bwa kMa g9 h9 hH hH2 hH3 hHeld hZ1 hZ kO1 kM1 kR1 kO kR kM hown9 hgrow9 hnl9 hub hap hu1 b1 b1' bw1 cM cO hcp bA
    go_wp2
    go_roundw
    case rel => exact ⟨k + 1, hlt, by go_num, HQ.out.1, HQ.out.2.1, HQ.out.2.2.1, HQ.out.2.2.2⟩
    case measure => simp [intOf]; omega
  · obtain rfl : k = ps.length := by omega
    have i9 : (ps.length : Int) ≤ (ps.length : Int) := by omega
    rw [List.take_length] at hqs
    have rz := fun i => blk_cell kR i
    have fz := fun i => blk_frozen kR i
    have k4 := blk_set (blk_set kR 0 (.string o)) 1 (.slice oa qs.length oc)
    simp only [List.setIfInBounds_toArray, List.set_cons_zero, List.set_cons_succ] at k4
    have rk := fun i => blk_cell k4 i
    have hg4 := grown_setC wr (g + 1) 0 (.string o)
    have z5 := hZ.beside hg4 (fun x e => by cases e; exact own_nb hZ.outer kR (by decide)) (fun x e p hp => by
     cases e
     obtain ⟨i, hi⟩ := List.getElem?_of_mem hp
     exact own_nb (hZ.inner i p hi) kR (by decide))
    have kR' := blk_set kR 0 (.string o)
    have z6 := z5.beside (grown_setC _ (g + 1) 1 (.slice oa qs.length oc)) (fun x e => by cases e; exact own_nb z5.outer kR' (by decide)) (fun x e p hp => by
     cases e
     obtain ⟨i, hi⟩ := List.getElem?_of_mem hp
     exact own_nb (z5.inner i p hi) kR' (by decide))
    have b5 := (hbe.setCell (p := ⟨g + 1, 0, none⟩) (Nat.le_succ _) (.string o)).setCell (p := ⟨g + 1, 1, none⟩) (Nat.le_succ _) (.slice oa qs.length oc)
    have HP := Nm.hide (And.intro z6 b5)
    clear z5 z6 b5 hg4 kR kR' k4 hZ
    go_wp2_with fail
    refine bodyPost_ret (v := .agg #[.string o, .slice oa qs.length oc]) ?_ rfl (by rw [HGG.out]; exact ⟨_, rfl, qs, hqs, HP.out.1, HP.out.2⟩)
    simp [results, Tryz.f24, go_sem, rk]
end Go.Proofs.YtdcbhohlglncnaaGreat
/- impl.isSOA, slices.IndexFunc at it, moments: by their contracts. -/
namespace Go.Proofs.YtdcbhohlglncnaaGreat
open Go.RowKit
set_option linter.unusedVariables false
theorem isSOA_any (r : Rr) (w : World) :
 Calls Tryz.prog 125 #[.agg #[.string r.own, .int .i64 r.ty, .int .i64 r.cl, .int .i64 r.tt, .string r.da]] w fun e w' => e = .returned (.bool (is6 r)) ∧ Below w.heap.size w w' := by
 have hB := (Below.refl w.heap.size w).alloc (Nat.le_refl _) (.cells #[.string r.own, .int .i64 r.ty, .int .i64 r.cl, .int .i64 r.tt, .string r.da] 90)
 obtain ⟨o, ty, cl, tt, da⟩ := r
 simp only at *
 have e1 : (ty == 6) = decide (ty = 6) := by by_cases h : ty = 6 <;> simp [h]
 go_enter Tryz.func125, Tryz.ntmps125
 go_wp2
 go_ret
 exact ⟨rfl, hB⟩
/-- Where the first record of type 6 stands. -/
def soI (xs : List Rr) : Int := match xs.findIdx? (is6) with
 | some k => k
 | none => -1
set_option maxRecDepth 100000 in
set_option maxHeartbeats 1600000 in
theorem indexSOA_any (v : Value) (xs : List Rr) (w : World) (h : CRow w v xs.length 5 (rvVs xs)) :
 Calls Tryz.prog 124 #[v, .func (.func 125) #[] #[]] w fun e w' => e = .returned (.int .i64 (soI xs)) ∧ Below w.heap.size w w' := by
 obtain ⟨_, a, cap, rfl, hcap, hmx, hc⟩ := h
 unfold maxLen at hmx
 go_enter Tryz.func124, Tryz.ntmps124
 go_wp2
 go_loopw [8] (fun i wr => ∃ k : Nat, k ≤ xs.length ∧ i = .int .i64 k ∧ Hid (∀ j y, j < k → xs[j]? = some y → is6 y = false) ∧ Below w.heap.size w wr) (fun i _ => xs.length - (intOf i).toNat)
 case atStart => exact ⟨0, Nat.zero_le _, rfl, by show ∀ _, _; intro j y hj; omega, Below.refl _ _⟩
 case round =>
  obtain ⟨k, hk, rfl, HA, hbel⟩ := hrel
  by_cases hlt : k < xs.length
  · obtain ⟨x, hxk⟩ : ∃ x, xs[k]? = some x := ⟨_, List.getElem?_eq_getElem hlt⟩
    obtain ⟨b, off, rfl, hcell⟩ := hc (by omega)
    obtain ⟨c0, c1, c2, c3, c4⟩ := rv_cells hcell hxk
    have put : ∀ {O : Nat} {z : Value}, w.cell? ⟨b, O, none⟩ = some z → wr.cell? ⟨b, O, none⟩ = some z := fun h => (hbel.cell (World.block_lt_of_cell? w _ h)).trans h
    replace c0 := put c0
    replace c1 := put c1
    replace c2 := put c2
    replace c3 := put c3
    replace c4 := put c4
    have hone := isSOA_any x wr
    have i1 : (0 : Int) ≤ (k : Int) := by omega
    have i2 : (k : Int) < (xs.length : Int) := by omega
    have HXK := Nm.hide hxk
    cases hok : is6 x with
    | false =>
      have HA2 : Hid (∀ j y, j < k + 1 → xs[j]? = some y → is6 y = false) := by
       show ∀ _, _
       intro j y hj hy
       by_cases hjk : j = k
       · subst hjk
         rw [HXK.out] at hy
         obtain rfl := Option.some.inj hy
         exact hok
       · exact HA.out j y (by omega) hy
      rw [hok] at hone
      clear hok hxk hcell hc put
      obtain ⟨o, ty, cl, tt, da⟩ := x
      simp only at *
      go_wp2_with fail
      refine hone.mono ?_
      rintro e w1 ⟨rfl, hb1⟩
      have hbel1 := Nm.below_two hbel hb1
      go_wp2
      go_roundw
      case rel => exact ⟨k + 1, by omega, by go_num, HA2, hbel1⟩
      case measure => simp [intOf]; omega
    | true =>
      have HO : Hid (soI xs = (k : Int)) := by
       show _ = _
       have : xs.findIdx? (is6) = some k := by
        rw [List.findIdx?_eq_some_iff_getElem]
        obtain ⟨hk', e⟩ := List.getElem?_eq_some_iff.1 HXK.out
        refine ⟨hk', by rw [e]; exact hok, fun j hj => ?_⟩
        have := HA.out j xs[j] hj (List.getElem?_eq_getElem (by omega))
        simp only [this]
        decide
       rw [soI, this]
      rw [hok] at hone
      clear hok hxk hcell hc put
      obtain ⟨o, ty, cl, tt, da⟩ := x
      simp only at *
      go_wp2_with fail
      refine hone.mono ?_
      rintro e w1 ⟨rfl, hb1⟩
      have hbel1 := Nm.below_two hbel hb1
      go_wp2
      go_ret
      exact ⟨by rw [HO.out]; rfl, hbel1⟩
  · have hkl : k = xs.length := by omega
    have HO : Hid (soI xs = -1) := by
     show _ = _
     have : xs.findIdx? (is6) = none := by
      rw [List.findIdx?_eq_none_iff]
      intro x hx
      obtain ⟨j, hj, e⟩ := List.getElem_of_mem hx
      exact HA.out j x (by omega) (by rw [List.getElem?_eq_getElem hj, e])
     rw [soI, this]
    subst hkl
    have i2 : ¬ (xs.length : Int) < (xs.length : Int) := by omega
    clear hc
    go_wp2
    go_ret
    exact ⟨by rw [HO.out]; rfl, hbel⟩
theorem soI_find {xs : List Rr} {r : Rr} (h : xs.find? is6 = some r) : ∃ k : Nat, k < xs.length ∧ xs[k]? = some r ∧ soI xs = (k : Int) := by
 obtain ⟨hp, k, hk, e, hlt⟩ := List.find?_eq_some_iff_getElem.1 h
 have hf : xs.findIdx? is6 = some k := by
  rw [List.findIdx?_eq_some_iff_getElem]
  exact ⟨hk, by rw [e]; exact hp, fun j hj => by have := hlt j hj; simpa using this⟩
 exact ⟨k, hk, by rw [List.getElem?_eq_getElem hk, e], by rw [soI, hf]⟩
set_option maxHeartbeats 400000 in
theorem isBefore_any (a b : Int) (w : World) : Calls Tryz.prog 60 #[.int .i64 a, .int .i64 b] w fun e w' => e = .returned (.bool (decide (a < b))) ∧ w' = w := by
 by_cases h : a < b
 · rw [decide_eq_true h]
   go_enter Tryz.func60, Tryz.ntmps60
   go_wp2
   go_ret
   exact ⟨rfl, rfl⟩
 · rw [decide_eq_false h]
   have h' : b ≤ a := by omega
   go_enter Tryz.func60, Tryz.ntmps60
   go_wp2
   go_ret
   exact ⟨rfl, rfl⟩
set_option maxHeartbeats 400000 in
theorem isUpTo_any (a b : Int) (w : World) : Calls Tryz.prog 49 #[.int .i64 a, .int .i64 b] w fun e w' => e = .returned (.bool (decide (0 ≤ a) && decide (a ≤ b))) ∧ w' = w := by
 have h1 := isBefore_any a 0 w
 have h2 := isBefore_any b a w
 by_cases ha : a < 0
 · rw [decide_eq_true ha] at h1
   have e : (decide (0 ≤ a) && decide (a ≤ b)) = false := by simp; omega
   rw [e]
   clear e h2
   go_enter Tryz.func49, Tryz.ntmps49
   go_wp2_with fail
   refine h1.mono ?_
   rintro e w1 ⟨rfl, hw⟩
   obtain rfl : w1 = w := hw
   go_wp2
   go_ret
   exact ⟨rfl, rfl⟩
 · rw [decide_eq_false ha] at h1
   have e : (decide (0 ≤ a) && decide (a ≤ b)) = !decide (b < a) := by
    by_cases hb : b < a
    · (simp [hb]; try omega)
    · (simp [hb]; try omega)
   rw [e]
   clear e ha
   generalize decide (b < a) = BB at *
   go_enter Tryz.func49, Tryz.ntmps49
   go_wp2_with fail
   refine h1.mono ?_
   rintro e w1 ⟨rfl, hw⟩
   obtain rfl : w1 = w := hw
   go_wp2_with fail
   refine h2.mono ?_
   rintro e w2 ⟨rfl, hw⟩
   obtain rfl : w2 = w1 := hw
   go_wp2
   go_ret
   exact ⟨rfl, rfl⟩
set_option maxHeartbeats 400000 in
theorem behind_any (a b : Int) (w : World) (ha : 0 ≤ a ∧ a ≤ 562949953421311) (hb : 0 ≤ b ∧ b ≤ 562949953421311) : Calls Tryz.prog 51 #[.int .i64 a, .int .i64 b] w fun e w' => e = .returned (.int .i64 (a + b)) ∧ w' = w := by
 obtain ⟨a1, a2⟩ := ha
 obtain ⟨b1, b2⟩ := hb
 have hw : IntKind.i64.wrap (a + b) = a + b := Go.wrap_small _ (by omega) (by omega)
 go_enter Tryz.func51, Tryz.ntmps51
 go_wp2
 go_ret
 exact ⟨rfl, rfl⟩
theorem Tryz.infoRRc : (Tryz.prog.info? 90).map (fun i => (i.zero, i.size, i.bytes)) = some (some (.agg #[.string ByteArray.empty, .int .i64 0, .int .i64 0, .int .i64 0, .string ByteArray.empty]), 5, 56) := by kernel_rfl
/-- Block p alone has been written, others may have been made. -/
structure Only (p : Nat) (w w' : World) : Prop where
 os : w'.os = w.os
 tape : w'.tape = w.tape
 output : w'.output = w.output
 size : w.heap.size ≤ w'.heap.size
 block : ∀ k, k < w.heap.size → k ≠ p → w'.heap[k]? = w.heap[k]?
theorem Only.refl (p : Nat) (w : World) : Only p w w := ⟨rfl, rfl, rfl, Nat.le_refl _, fun _ _ _ => rfl⟩
theorem Only.drew {p : Nat} {w w' : World} (h : Only p w w') : Only p w w'.drew := ⟨h.os, h.tape, h.output, h.size, h.block⟩
theorem Only.then {p q : Nat} {w w1 w2 : World} (h : Only p w w1) (h2 : Only q w1 w2) (hq : q = p ∨ w.heap.size ≤ q) : Only p w w2 :=
 ⟨h2.os.trans h.os, h2.tape.trans h.tape, h2.output.trans h.output, Nat.le_trans h.size h2.size, fun k hk hp => (h2.block k (Nat.lt_of_lt_of_le hk h.size) (by rcases hq with rfl | hq <;> omega)).trans (h.block k hk hp)⟩
theorem Only.more {p : Nat} {w w1 w2 : World} (h : Only p w w1) (h2 : Below w1.heap.size w1 w2) : Only p w w2 :=
 ⟨h2.os.trans h.os, h2.tape.trans h.tape, h2.output.trans h.output, Nat.le_trans h.size h2.size, fun k hk hp => (h2.block k (Nat.lt_of_lt_of_le hk h.size)).trans (h.block k hk hp)⟩
theorem Only.alloc {p : Nat} {w w' : World} (h : Only p w w') (o : Obj) : Only p w (w'.alloc o) := h.more ((Below.refl _ _).alloc (Nat.le_refl _) o)
theorem Only.set {p i : Nat} {w w' : World} {v : Value} (h : Only p w w') : Only p w (w'.setCell ⟨p, i, none⟩ v) := by
 have h1 := (Below.refl 0 w').setCell (p := ⟨p, i, none⟩) (Nat.zero_le _) v
 refine ⟨h1.os.trans h.os, h1.tape.trans h.tape, h1.output.trans h.output, Nat.le_trans h.size h1.size, fun k hk hp => ?_⟩
 rw [Below.heap_setCell _ _ _ _ hp]
 exact h.block k hk hp
theorem Only.blk {p b : Nat} {w w' : World} {cs : Array Value} {T : TypeId} (h : Only p w w') (hb : Blk w b cs T) (hne : b ≠ p) : Blk w' b cs T := (h.block b (blk_lt hb) hne).trans hb
theorem Only.cell {p : Nat} {w w' : World} {b i : Nat} {v : Value} (h : Only p w w') (hne : b ≠ p) (hc : w.cell? ⟨b, i, none⟩ = some v) : w'.cell? ⟨b, i, none⟩ = some v :=
 (World.cell?_of_block (w := w) (h.block b (World.block_lt_of_cell? w _ hc) hne)).trans hc
theorem Only.below {p B : Nat} {w0 w w' : World} (h : Only p w w') (hb : Below B w0 w) (hp : B ≤ p) (hB : B ≤ w.heap.size) : Below B w0 w' :=
 ⟨h.os.trans hb.os, h.tape.trans hb.tape, h.output.trans hb.output, Nat.le_trans hb.size h.size, fun k hk => (h.block k (by omega) (by omega)).trans (hb.block k hk)⟩
theorem blk_cells {b : Nat} {T : TypeId} : ∀ (vs : List Value) (o : Nat) (w : World) (cs : Array Value), Blk w b cs T → o + vs.length ≤ cs.size → ∃ cs' : Array Value, Blk (w.setCells b o vs) b cs' T ∧ cs'.size = cs.size ∧ (∀ i, i < o ∨ o + vs.length ≤ i → cs'[i]? = cs[i]?) ∧ ∀ j, j < vs.length → cs'[o + j]? = vs[j]? := by
 intro vs
 induction vs with
 | nil => intro o w cs h hl; exact ⟨cs, h, rfl, fun _ _ => rfl, fun j hj => by simp at hj⟩
 | cons v vs ih =>
   intro o w cs h hl
   simp only [List.length_cons] at hl
   obtain ⟨cs', h1, h2, h3, h4⟩ := ih (o + 1) _ _ (blk_set h o v) (by simp; omega)
   refine ⟨cs', h1, by rw [h2]; simp, fun i hi => ?_, fun j hj => ?_⟩
   · simp only [List.length_cons] at hi
     rw [h3 i (by omega), Array.getElem?_setIfInBounds, if_neg (by omega)]
   · cases j with
     | zero =>
       rw [Nat.add_zero, h3 o (by omega), Array.getElem?_setIfInBounds, if_pos rfl, if_pos (by omega)]
       rfl
     | succ j =>
       have := h4 j (by simp at hj; omega)
       rw [show o + (j + 1) = o + 1 + j by omega, this]
       rfl
theorem only_cells {b : Nat} : ∀ (vs : List Value) (o : Nat) (w0 w : World), Only b w0 w → Only b w0 (w.setCells b o vs) := by
 intro vs
 induction vs with
 | nil => intro o w0 w h; exact h
 | cons v vs ih => intro o w0 w h; exact ih (o + 1) w0 _ h.set
/-- 'clear(s)' of a slice of records. -/
theorem run_clear_rr (w : World) (b o n c : Nat) (hn : 0 < n) (hc : ∀ j, j < n * 5 → (w.cell? ⟨b, o + j, none⟩).isSome = true) (hf : ∀ j, j < n * 5 → w.frozen? ⟨b, o + j, none⟩ = false) :
 ∃ vs : List Value, vs.length = n * 5 ∧ ∀ ty, (Builtin.clear_ #[75] ty #[.slice (some ⟨b, o, none⟩) n c]).run Tryz.prog w = .ok (.tuple #[]) (w.setCells b o vs) := by
 have hv : ∀ W, (zeroValue 90).run Tryz.prog W = .ok (.agg #[.string ByteArray.empty, .int .i64 0, .int .i64 0, .int .i64 0, .string ByteArray.empty]) W := by
  have := zero_of_info (P := Tryz.prog) (t := 90) (v := .agg #[.string ByteArray.empty, .int .i64 0, .int .i64 0, .int .i64 0, .string ByteArray.empty]) (n := 5) (by kernel_rfl)
  exact this.1
 refine ⟨(Builtin.zeroCells (Value.agg #[.string ByteArray.empty, .int .i64 0, .int .i64 0, .int .i64 0, .string ByteArray.empty]).cells n).toList, ?_, ?_⟩
 · simp [Builtin.zeroCells, Value.cells]
 · have hst := run_storeCells_cells (P := Tryz.prog) b o (Builtin.zeroCells (Value.agg #[.string ByteArray.empty, .int .i64 0, .int .i64 0, .int .i64 0, .string ByteArray.empty]).cells n).toList 0 w (by simpa [Builtin.zeroCells, Value.cells] using hc) (by simpa [Builtin.zeroCells, Value.cells] using hf) (by
    intro v hv'
    simp only [Builtin.zeroCells, Value.cells, Array.toList_map, List.mem_map] at hv'
    obtain ⟨i, _, rfl⟩ := hv'
    have e5 : (#[Value.string ByteArray.empty, .int .i64 0, .int .i64 0, .int .i64 0, .string ByteArray.empty] : Array Value).size = 5 := rfl
    rw [e5]
    rcases (by omega : i % 5 = 0 ∨ i % 5 = 1 ∨ i % 5 = 2 ∨ i % 5 = 3 ∨ i % 5 = 4) with e | e | e | e | e <;> rw [e] <;> rfl)
   simp only [Nat.add_zero] at hst
   obtain ⟨m, rfl⟩ : ∃ m, n = m + 1 := ⟨n - 1, by omega⟩
   intro ty
   simp [Builtin.clear_, run_underlying Tryz.underlying75, hv, hst]
theorem wpList_clear_ran {P : Program} {ops : Array Oper} {rest : List Oper} {o : Oper} {a : Act} {w w' : World} {Q : Exit → Act → World → Prop} (hgd : o.guard = none) (x : Operand) (t : TypeId) (ho : o.op = .call { callee := .builtin .clear, args := #[x], argTypes := #[t] }) (v : Value) (hx : a.eval x = v)
 (hr : (Builtin.clear_ #[t] o.type #[v]).run P w = .ok (.tuple #[]) w') (h : wpList P ops Q rest (a.put o.dst (.tuple #[])) w') : wpList P ops Q (o :: rest) a w :=
 wpList_plain hgd fun _ hK => by
  unfold Oper.wp
  simp [execOp, ho, resolve, invoke, builtin, hx, hr, Result.andThen]
  exact hK _ _ h
set_option maxRecDepth 100000 in
set_option maxHeartbeats 3200000 in
theorem deleteRR_in (B g cap : Nat) (xs : List Rr) (i j : Nat) (w : World) (hown : w.ownsRow B 90 5 (.slice (some ⟨g, 0, none⟩) xs.length cap) xs.length (rvVs xs)) (hij : i < j) (hj : j ≤ xs.length) (hn : xs.length ≤ 1048576) (hcj : ¬ cap = j) :
 Calls Tryz.prog 126 #[.slice (some ⟨g, 0, none⟩) xs.length cap, .int .i64 (i : Int), .int .i64 (j : Int)] w fun e w' => e = .returned (.slice (some ⟨g, 0, none⟩) (i + (xs.length - j)) cap) ∧ w'.ownsRow B 90 5 (.slice (some ⟨g, 0, none⟩) (i + (xs.length - j)) cap) (xs.take i ++ xs.drop j).length (rvVs (xs.take i ++ xs.drop j)) ∧ Only g w w' := by
 obtain ⟨i0, hi, hz0, hz1, hz2⟩ := info_parts Tryz.infoRRc
 rcases hown.2 with ⟨e0, _⟩ | ⟨g', cap', cur, e0, hBg, hh, hnc, hcm, hcs, htk⟩
 · cases e0
 simp only [Value.slice.injEq, Option.some.injEq, Addr.mk.injEq, true_and, and_true] at e0
 obtain ⟨rfl, rfl⟩ := e0
 have hblk : Blk w g cur 90 := hh
 have n1 : (0 : Int) ≤ (i : Int) := by omega
 have n2 : (0 : Int) ≤ (j : Int) := by omega
 have n3 : (i : Int) ≤ (j : Int) := by omega
 have n4 : (j : Int) ≤ (xs.length : Int) := by omega
 have n5 : (xs.length : Int) ≤ (cap : Int) := by omega
 have n6 : ((i : Int) == (j : Int)) = false := by simp; omega
 have n7 : ¬ xs.length = i := by omega
 have n8 : (0 : Int) ≤ (xs.length : Int) := by omega
 go_enter Tryz.func126, Tryz.ntmps126
 have hrv : ∀ t : Nat, t < xs.length * 5 → cur[t]? = (rvVs xs)[t]? := by
  intro t ht
  rw [← htk, List.getElem?_take_of_lt ht]
  simp
 have hnl : (rvVs (xs.drop j)).length = (xs.length - j) * 5 := by rw [rvVs_len, List.length_drop]
 have hsplit : ∀ t u : Nat, xs.length = xs.length → (rvVs (xs.drop j))[t]? = (rvVs xs)[j * 5 + t]? := by
  intro t u _
  have e2 : rvVs xs = rvVs (xs.take j) ++ rvVs (xs.drop j) := by rw [← rvVs_app, List.take_append_drop]
  have e3 : (rvVs (xs.take j)).length = j * 5 := by rw [rvVs_len, List.length_take, Nat.min_eq_left hj]
  rw [e2, List.getElem?_append_right (by omega), e3, Nat.add_sub_cancel_left]
 obtain ⟨NW, eNW⟩ : ∃ L, L = rvVs (xs.drop j) := ⟨_, rfl⟩
 have h1c : ∀ u ∈ NW, u.oneCell' = true := by
  intro u hu
  rw [eNW] at hu
  simp only [rvVs, List.mem_flatMap] at hu
  obtain ⟨r, _, hr⟩ := hu
  simp [rvV] at hr
  rcases hr with rfl | rfl | rfl | rfl | rfl <;> rfl
 rw [← eNW] at hnl hsplit
 obtain ⟨cs1, kb1, sz1, out1, in1⟩ := blk_cells NW (i * 5) w.drew cur (blk_below hblk (Below.refl _ _).drew) (by rw [hnl]; omega)
 have O1 : Only g w (w.drew.setCells g (i * 5) NW) := only_cells NW (i * 5) w w.drew (Only.refl g w).drew
 obtain ⟨vs, hvl, hclr⟩ := run_clear_rr (w.drew.setCells g (i * 5) NW) g ((i + (xs.length - j)) * 5) (j - i) (cap - (i + (xs.length - j))) (by omega) (fun t ht => by rw [blk_cell kb1]; rw [Array.getElem?_eq_getElem (by omega)]; rfl) (fun t _ => blk_frozen kb1 _)
 obtain ⟨cs2, kb2, sz2, out2, _⟩ := blk_cells vs ((i + (xs.length - j)) * 5) _ cs1 kb1 (by rw [hvl]; omega)
 have O2 := only_cells vs ((i + (xs.length - j)) * 5) _ _ O1
 have HO : Hid (((w.drew.setCells g (i * 5) NW).setCells g ((i + (xs.length - j)) * 5) vs).ownsRow B 90 5 (.slice (some ⟨g, 0, none⟩) (i + (xs.length - j)) cap) (xs.take i ++ xs.drop j).length (rvVs (xs.take i ++ xs.drop j))) := by
  have hlen : (xs.take i ++ xs.drop j).length = i + (xs.length - j) := by rw [List.length_append, List.length_take, List.length_drop, Nat.min_eq_left (by omega)]
  show World.ownsRow _ _ _ _ _ _ _
  rw [hlen]
  refine ⟨by rw [rvVs_len, hlen], .inr ⟨g, cap, cs2, rfl, hBg, kb2, by omega, hcm, by omega, ?_⟩⟩
  apply List.ext_getElem?
  intro t
  by_cases ht : t < (i + (xs.length - j)) * 5
  · rw [List.getElem?_take_of_lt ht]
    rw [show cs2.toList[t]? = cs2[t]? by simp, out2 t (.inl ht), rvVs_app]
    have e3 : (rvVs (xs.take i)).length = i * 5 := by rw [rvVs_len, List.length_take, Nat.min_eq_left (by omega)]
    by_cases ht2 : t < i * 5
    · rw [out1 t (.inl ht2), hrv t (by omega), List.getElem?_append_left (by omega)]
      have e2 : rvVs xs = rvVs (xs.take i) ++ rvVs (xs.drop i) := by rw [← rvVs_app, List.take_append_drop]
      rw [e2, List.getElem?_append_left (by omega)]
    · rw [List.getElem?_append_right (by omega), e3]
      have := in1 (t - i * 5) (by rw [hnl]; omega)
      rw [show i * 5 + (t - i * 5) = t by omega] at this
      rw [this, eNW]
  · rw [List.getElem?_eq_none (by simp; omega), List.getElem?_eq_none (by rw [rvVs_len, hlen]; omega)]
 have n9 : ¬ cap = i + (xs.length - j) := by omega
 have n10 : (i : Int) ≤ (cap : Int) := by omega
 have n11 : ¬ cap = 0 := by omega
 have n12 : (j : Int) ≤ (cap : Int) := by omega
 have hcW : ∀ t u, NW[t]? = some u → w.drew.cell? ((⟨g, j * 5, none⟩ : Addr).add t) = some u := by
  intro t u ht
  have htl := (List.getElem?_eq_some_iff.1 ht).1
  rw [Nm.addr_add]
  show w.cell? _ = _
  rw [blk_cell hblk, hrv _ (by omega), ← hsplit t 0 rfl]
  exact ht
 have hsp : ∀ t, t < NW.length → (w.drew.cell? ⟨g, 0 + i * 5 + t, none⟩).isSome = true ∧ w.drew.frozen? ⟨g, 0 + i * 5 + t, none⟩ = false := by
  intro t ht
  refine ⟨?_, blk_frozen (blk_below hblk (Below.refl _ _).drew) _⟩
  show (w.cell? _).isSome = true
  rw [blk_cell hblk, Array.getElem?_eq_getElem (by omega)]
  rfl
 have HX := Nm.hide (And.intro hcW (And.intro hsp (And.intro h1c hnl)))
 have HC := Nm.hide hclr
 have HO2 := Nm.hide O2
 clear hcW hsp h1c hnl hsplit hrv hclr O2 kb2 sz2 out2 kb1 sz1 out1 in1 O1 eNW hvl htk hcs hblk hh hown
 have HL : Hid (xs.length - (i + (xs.length - j)) = j - i) := by show _ = _; omega
 have m3 : i + (xs.length - j) ≤ xs.length := by omega
 go_wp2
 refine wp_region_S (S := fun _ => True) (Ls := []) (by kernel_rfl) trivial (fun hH => ?_)
 refine wpAnyS_take (i := 0) (v := ?_) rfl (by kernel_rfl) (by kernel_rfl) (by kernel_rfl) (by kernel_rfl) (fun _ _ _ h => h) (Or.inl ⟨by rfl, ?_⟩) trivial ?_
 rotate_left 1
 · (intro w hSw; go_simp; try (with_reducible rfl))
 refine wpAnyS_take (i := 1) (v := ?_) rfl (by kernel_rfl) (by kernel_rfl) (by kernel_rfl) (by kernel_rfl) (fun _ _ _ h => h) (Or.inl ⟨by rfl, ?_⟩) trivial ?_
 rotate_left 1
 · (intro w hSw; go_simp; try (with_reducible rfl))
 refine wpAnyS_take (i := 2) (v := ?_) rfl (by kernel_rfl) (by kernel_rfl) (by kernel_rfl) (by kernel_rfl) (fun _ _ _ h => h) (Or.inl ⟨by rfl, ?_⟩) trivial ?_
 rotate_left 1
 · (intro w hSw; go_simp; try (with_reducible rfl))
 refine wpAnyS_take (i := 3) (v := ?_) rfl (by kernel_rfl) (by kernel_rfl) (by kernel_rfl) (by kernel_rfl) (fun _ _ _ h => h) (Or.inl ⟨by rfl, ?_⟩) trivial ?_
 rotate_left 1
 · (intro w hSw; go_simp; try (with_reducible rfl))
 refine wpAnyS_take (i := 4) (v := ?_) rfl (by kernel_rfl) (by kernel_rfl) (by kernel_rfl) (by kernel_rfl) (fun _ _ _ h => h) (Or.inl ⟨by rfl, ?_⟩) trivial ?_
 rotate_left 1
 · (intro w hSw; go_simp; try (with_reducible rfl))
 refine wpAnyS_take (i := 5) (v := ?_) rfl (by kernel_rfl) (by kernel_rfl) (by kernel_rfl) (by kernel_rfl) (fun _ _ _ h => h) (Or.inl ⟨by rfl, ?_⟩) trivial ?_
 rotate_left 1
 · (intro w hSw; go_simp; try (with_reducible rfl))
 refine wpAnyS_one (i := 6) (by kernel_rfl) rfl (fun K hK' => ?_)
 refine step_append_room rfl (.tmp 22) (.tmp 25) 75 rfl 90 i0 5 Tryz.underlying75 hi hz1 g 0 i cap rfl ⟨g, j * 5, none⟩ (xs.length - j) (cap - j) NW (by rfl) HX.out.2.2.2 HX.out.1 HX.out.2.2.1 (by omega) HX.out.2.1 ?_
 refine hK'.out _ _ trivial (fun hH => ?_)
 clear hK' K
 refine wpAnyS_take (i := 7) (v := ?_) rfl (by kernel_rfl) (by kernel_rfl) (by kernel_rfl) (by kernel_rfl) (fun _ _ _ h => h) (Or.inl ⟨by rfl, ?_⟩) trivial ?_
 rotate_left 1
 · (intro w hSw; go_simp; try (with_reducible rfl))
 refine wpAnyS_done (by kernel_rfl) ?_
 clear hH
 clear HX
 rw [Nat.zero_add]
 generalize w.drew.setCells g (i * 5) NW = W1 at *
 have hclr := HC.out
 rw [← HL.out] at hclr
 go_simp
 generalize eL : i + (xs.length - j) = L at *
 have HEL := Nm.hide eL
 clear eL
 have q0 : (0 : Int) ≤ (L : Int) := by omega
 have q1 : (L : Int) ≤ (xs.length : Int) := by omega
 have HR := Nm.hide hclr
 clear HL HC n1 n2 n3 n4 n6 n7 n10 n11 n12 hij hj hclr
 go_upto_region 6 with fail
 go_wp2_with (refine wpList_clear_ran rfl (.tmp 31) 75 rfl _ rfl (HR.out _) ?_)
 go_ret
 rw [HEL.out]
 exact ⟨rfl, HO.out, HO2.out⟩
set_option maxRecDepth 100000 in
set_option maxHeartbeats 3200000 in
theorem deleteRR_end (B g N i : Nat) (xs : List Rr) (w : World) (hx : xs.length = N) (hown : w.ownsRow B 90 5 (.slice (some ⟨g, 0, none⟩) N N) N (rvVs xs)) (hiN : i < N) (hn : N ≤ 1048576) :
 Calls Tryz.prog 126 #[.slice (some ⟨g, 0, none⟩) N N, .int .i64 (i : Int), .int .i64 (N : Int)] w fun e w' => e = .returned (.slice (some ⟨g, 0, none⟩) i N) ∧ w'.ownsRow B 90 5 (.slice (some ⟨g, 0, none⟩) i N) (xs.take i).length (rvVs (xs.take i)) ∧ Only g w w' := by
 obtain ⟨i0, hi, hz0, hz1, hz2⟩ := info_parts Tryz.infoRRc
 rcases hown.2 with ⟨e0, _⟩ | ⟨g', cap', cur, e0, hBg, hh, hnc, hcm, hcs, htk⟩
 · cases e0
 simp only [Value.slice.injEq, Option.some.injEq, Addr.mk.injEq, true_and, and_true] at e0
 obtain ⟨rfl, rfl⟩ := e0
 have hblk : Blk w g cur 90 := hh
 have hrv : ∀ t : Nat, t < N * 5 → cur[t]? = (rvVs xs)[t]? := by
  intro t ht
  rw [← htk, List.getElem?_take_of_lt ht]
  simp
 obtain ⟨vs, hvl, hclr⟩ := run_clear_rr w.drew g (i * 5) (N - i) (N - i) (by omega) (fun t ht => by show (w.cell? _).isSome = true; rw [blk_cell hblk]; rw [Array.getElem?_eq_getElem (by omega)]; rfl) (fun t _ => blk_frozen (blk_below hblk (Below.refl _ _).drew) _)
 obtain ⟨cs2, kb2, sz2, out2, _⟩ := blk_cells vs (i * 5) w.drew cur (blk_below hblk (Below.refl _ _).drew) (by rw [hvl]; omega)
 have O2 := only_cells vs (i * 5) w w.drew (Only.refl g w).drew
 have HO : Hid ((w.drew.setCells g (i * 5) vs).ownsRow B 90 5 (.slice (some ⟨g, 0, none⟩) i N) (xs.take i).length (rvVs (xs.take i))) := by
  have hlen : (xs.take i).length = i := by rw [List.length_take]; omega
  show World.ownsRow _ _ _ _ _ _ _
  rw [hlen]
  refine ⟨by rw [rvVs_len, hlen], .inr ⟨g, N, cs2, rfl, hBg, kb2, by omega, hcm, by omega, ?_⟩⟩
  apply List.ext_getElem?
  intro t
  by_cases ht : t < i * 5
  · rw [List.getElem?_take_of_lt ht]
    rw [show cs2.toList[t]? = cs2[t]? by simp, out2 t (.inl ht), hrv t (by omega)]
    have e2 : rvVs xs = rvVs (xs.take i) ++ rvVs (xs.drop i) := by rw [← rvVs_app, List.take_append_drop]
    rw [e2, List.getElem?_append_left (by rw [rvVs_len, hlen]; omega)]
  · rw [List.getElem?_eq_none (by simp; omega), List.getElem?_eq_none (by rw [rvVs_len, hlen]; omega)]
 have HC := Nm.hide hclr
 have HO2 := Nm.hide O2
 have n1 : (0 : Int) ≤ (i : Int) := by omega
 have n3 : (i : Int) ≤ (N : Int) := by omega
 have n6 : ((i : Int) == (N : Int)) = false := by simp; omega
 have n7 : ¬ N = i := by omega
 have n8 : (0 : Int) ≤ (N : Int) := by omega
 have n9 : ¬ N = 0 := by omega
 have HX := Nm.hide hx
 clear hrv hclr O2 kb2 sz2 out2 hvl htk hcs hblk hh hown hnc hx
 go_enter Tryz.func126, Tryz.ntmps126
 go_wp2
 refine wp_region_S (S := fun _ => True) (Ls := []) (by kernel_rfl) trivial (fun hH => ?_)
 refine wpAnyS_take (i := 0) (v := ?_) rfl (by kernel_rfl) (by kernel_rfl) (by kernel_rfl) (by kernel_rfl) (fun _ _ _ h => h) (Or.inl ⟨by rfl, ?_⟩) trivial ?_
 rotate_left 1
 · (intro w hSw; go_simp; try (with_reducible rfl))
 refine wpAnyS_take (i := 1) (v := ?_) rfl (by kernel_rfl) (by kernel_rfl) (by kernel_rfl) (by kernel_rfl) (fun _ _ _ h => h) (Or.inl ⟨by rfl, ?_⟩) trivial ?_
 rotate_left 1
 · (intro w hSw; go_simp; try (with_reducible rfl))
 refine wpAnyS_take (i := 2) (v := ?_) rfl (by kernel_rfl) (by kernel_rfl) (by kernel_rfl) (by kernel_rfl) (fun _ _ _ h => h) (Or.inl ⟨by rfl, ?_⟩) trivial ?_
 rotate_left 1
 · (intro w hSw; go_simp; try (with_reducible rfl))
 refine wpAnyS_take (i := 3) (v := ?_) rfl (by kernel_rfl) (by kernel_rfl) (by kernel_rfl) (by kernel_rfl) (fun _ _ _ h => h) (Or.inl ⟨by rfl, ?_⟩) trivial ?_
 rotate_left 1
 · (intro w hSw; go_simp; try (with_reducible rfl))
 refine wpAnyS_take (i := 4) (v := ?_) rfl (by kernel_rfl) (by kernel_rfl) (by kernel_rfl) (by kernel_rfl) (fun _ _ _ h => h) (Or.inl ⟨by rfl, ?_⟩) trivial ?_
 rotate_left 1
 · (intro w hSw; go_simp; try (with_reducible rfl))
 refine wpAnyS_take (i := 5) (v := ?_) rfl (by kernel_rfl) (by kernel_rfl) (by kernel_rfl) (by kernel_rfl) (fun _ _ _ h => h) (Or.inl ⟨by rfl, ?_⟩) trivial ?_
 rotate_left 1
 · (intro w hSw; go_simp; try (with_reducible rfl))
 refine wpAnyS_one (i := 6) (by kernel_rfl) rfl (fun K hK' => ?_)
 refine step_append_room rfl (.tmp 22) (.tmp 25) 75 rfl 90 i0 5 Tryz.underlying75 hi hz1 g 0 i N rfl ⟨g, 0, none⟩ 0 0 [] (by rfl) rfl (fun t u ht => by simp at ht) (fun u hu => by simp at hu) (by omega) (fun t ht => by simp at ht) ?_
 refine hK'.out _ _ trivial (fun hH => ?_)
 clear hK' K
 refine wpAnyS_take (i := 7) (v := ?_) rfl (by kernel_rfl) (by kernel_rfl) (by kernel_rfl) (by kernel_rfl) (fun _ _ _ h => h) (Or.inl ⟨by rfl, ?_⟩) trivial ?_
 rotate_left 1
 · (intro w hSw; go_simp; try (with_reducible rfl))
 refine wpAnyS_done (by kernel_rfl) ?_
 clear hH
 have e1 : ∀ o, w.drew.setCells g o [] = w.drew := fun o => rfl
 rw [e1]
 go_simp
 clear e1
 go_upto_region 6 with fail
 go_wp2_with (refine wpList_clear_ran rfl (.tmp 31) 75 rfl _ rfl (HC.out _) ?_)
 go_ret
 exact ⟨rfl, HO.out, HO2.out⟩
theorem blk_only {w w' : World} {b p : Nat} {cs : Array Value} {T : TypeId} (k : Blk w b cs T) (h : Only p w w') (hne : b ≠ p) : Blk w' b cs T := (h.block b (blk_lt k) hne).trans k
theorem only_below {w w' : World} {p B : Nat} (h : Only p w w') (hp : B ≤ p) (hB : B ≤ w.heap.size) : Below B w w' :=
 ⟨h.os, h.tape, h.output, h.size, fun k hk => h.block k (by omega) (by omega)⟩
/-- slices.Delete, whatever room the row has. -/
theorem delRR_all (B g cap : Nat) (xs : List Rr) (i j : Nat) (w : World) (hown : w.ownsRow B 90 5 (.slice (some ⟨g, 0, none⟩) xs.length cap) xs.length (rvVs xs)) (hij : i < j) (hj : j ≤ xs.length) (hn : xs.length ≤ 1048576) :
 Calls Tryz.prog 126 #[.slice (some ⟨g, 0, none⟩) xs.length cap, .int .i64 (i : Int), .int .i64 (j : Int)] w fun e w' => e = .returned (.slice (some ⟨g, 0, none⟩) (i + (xs.length - j)) cap) ∧ w'.ownsRow B 90 5 (.slice (some ⟨g, 0, none⟩) (i + (xs.length - j)) cap) (xs.take i ++ xs.drop j).length (rvVs (xs.take i ++ xs.drop j)) ∧ Only g w w' := by
 by_cases hcj : cap = j
 · have hc : xs.length ≤ cap := by
    rcases hown.2 with ⟨e0, _⟩ | ⟨g', cap', cur, e0, _, _, hnc, _⟩
    · cases e0
    · simp only [Value.slice.injEq] at e0; omega
   have e1 : xs.length = j := by omega
   subst hcj
   rw [e1] at hown ⊢
   rw [List.drop_of_length_le (by omega), List.append_nil, Nat.sub_self, Nat.add_zero]
   exact deleteRR_end B g cap i xs w e1 hown hij (by omega)
 · exact deleteRR_in B g cap xs i j w hown hij hj hn hcj
set_option maxRecDepth 100000 in
set_option maxHeartbeats 1600000 in
theorem partSOA_any (o : ByteArray) (v : Value) (ps : List Zp) (r : Rr) (w : World) (h : ZRow w v ps) (hs : zsum ps ≤ 1048576) (hf : ∀ p ∈ ps, ∀ x ∈ p.1.da, x.size ≤ 1048576) (hr : (zoneRecs ps).find? is6 = some r) (hn : (zoneRecs ps).length ≤ 500) :
 Calls Tryz.prog 85 #[.agg #[.string o, v]] w fun e w' => ∃ (ua : Option Addr) (un uc : Nat), e = .returned (.tuple #[.agg #[.string r.own, .int .i64 r.ty, .int .i64 r.cl, .int .i64 r.tt, .string r.da], .slice ua un uc]) ∧ Below w.heap.size w w' := by
 obtain ⟨va, vc, rfl⟩ : ∃ va vc, v = .slice va ps.length vc := by obtain ⟨⟨_, a, c, e, _⟩, _⟩ := h; exact ⟨a, c, e⟩
 obtain ⟨k, hk, hrk, hsk⟩ := soI_find hr
 have b0 := (Below.refl w.heap.size w).alloc (Nat.le_refl _) (.cells #[.string o, .slice va ps.length vc] 28)
 have b1 := b0.alloc b0.size (.cells #[.string ⟨#[]⟩, .int .i64 0, .int .i64 0, .int .i64 0, .string ⟨#[]⟩] 90)
 have k0 := blk_alloc (blk_new w #[.string o, .slice va ps.length vc] 28) (.cells #[.string ⟨#[]⟩, .int .i64 0, .int .i64 0, .int .i64 0, .string ⟨#[]⟩] 90)
 have kR := blk_new (w.alloc (.cells #[.string o, .slice va ps.length vc] 28)) #[.string ⟨#[]⟩, .int .i64 0, .int .i64 0, .int .i64 0, .string ⟨#[]⟩] 90
 rw [World.size_alloc] at kR
 have hzr := implZoneRecords_any o (.slice va ps.length vc) ps _ (h.below b1) hs hf
 have r0 := fun i => blk_cell k0 i
 have hix := fun v W (hW : CRow W v (zoneRecs ps).length 5 (rvVs (zoneRecs ps))) => indexSOA_any v (zoneRecs ps) W hW
 rw [hsk] at hix
 obtain ⟨j, hj⟩ : ∃ j, j = k + 1 := ⟨_, rfl⟩
 have hdl := fun B g cap W hown => delRR_all B g cap (zoneRecs ps) k j W hown (by omega) (by omega) (by omega)
 have hkj : (k : Int) + 1 = (j : Int) := by omega
 have hjb : j ≤ 501 := by omega
 clear hj
 clear h hf hs hr hsk
 generalize zoneRecs ps = xs at *
 go_enter Tryz.func85, Tryz.ntmps85
 go_wp2_with fail
 refine hzr.mono ?_
 rintro e w1 ⟨u, rfl, hou, hb1⟩
 have bw1 := Nm.below_two b1 hb1
 have kR1 := blk_below kR hb1
 obtain ⟨ua, uc, eu⟩ := own_sl hou
 subst eu
 have hgx : w.heap.size + 2 ≤ w1.heap.size := by have := hb1.size; simp at this; exact this
 rw [show (((w.alloc (.cells #[.string o, .slice va ps.length vc] 28)).alloc (.cells #[.string ⟨#[]⟩, .int .i64 0, .int .i64 0, .int .i64 0, .string ⟨#[]⟩] 90)).heap.size) = w.heap.size + 2 by simp] at hou
 clear hzr k0 r0 b0 b1 kR hb1
 go_wp2_with fail
 refine (hix _ w1 (CRow.of_owns hou)).mono ?_
 rintro e w2 ⟨rfl, hb2⟩
 have hou2 := own_below hou hb2
 have kR2 := blk_below kR1 hb2
 have bw2 := Nm.below_two bw1 hb2
 obtain ⟨gl, rfl, hgl⟩ : ∃ gl, ua = some ⟨gl, 0, none⟩ ∧ w.heap.size + 2 ≤ gl := by
  rcases hou2.2 with ⟨h1, h2⟩ | ⟨g', cap', cur, h1, h2, _⟩
  · omega
  · simp only [Value.slice.injEq] at h1
    exact ⟨g', h1.1, h2⟩
 have hgl2 : gl < w2.heap.size := (hou2.lt gl rfl).2
 obtain ⟨_, a9, c9, e9, _, _, hc9⟩ := CRow.of_owns hou2
 simp only [Value.slice.injEq] at e9
 obtain ⟨rfl, _, rfl⟩ := e9
 obtain ⟨gb, go, e9, hcell⟩ := hc9 (by omega)
 simp only [Option.some.injEq, Addr.mk.injEq, and_true] at e9
 obtain ⟨rfl, rfl⟩ := e9
 obtain ⟨d0, d1, d2, d3, d4⟩ := rv_cells hcell hrk
 simp only [Nat.zero_add] at d0 d1 d2 d3 d4
 have n1 : (0 : Int) ≤ (k : Int) := by omega
 have n2 : (k : Int) < (xs.length : Int) := by omega
 have hwj : IntKind.i64.wrap (j : Int) = (j : Int) := Go.wrap_small _ (by omega) (by omega)
 have kP := blk_new w2 #[.string r.own, .int .i64 r.ty, .int .i64 r.cl, .int .i64 r.tt, .string r.da] 90
 have b3 := (Below.refl w2.heap.size w2).alloc (Nat.le_refl _) (.cells #[.string r.own, .int .i64 r.ty, .int .i64 r.cl, .int .i64 r.tt, .string r.da] 90)
 have hou3 := own_below hou2 b3
 have kR3 := blk_below kR2 b3
 have bw3 := Nm.below_two bw2 b3
 have hS : ∀ W, Blk W w2.heap.size #[.string r.own, .int .i64 r.ty, .int .i64 r.cl, .int .i64 r.tt, .string r.da] 90 → (W.cell? ⟨w2.heap.size, 0, none⟩ = some (.string r.own) ∧ W.cell? ⟨w2.heap.size, 1, none⟩ = some (.int .i64 r.ty) ∧ W.cell? ⟨w2.heap.size, 2, none⟩ = some (.int .i64 r.cl) ∧ W.cell? ⟨w2.heap.size, 3, none⟩ = some (.int .i64 r.tt) ∧ W.cell? ⟨w2.heap.size, 4, none⟩ = some (.string r.da)) := fun W hW => ⟨(blk_cell hW 0).trans rfl, (blk_cell hW 1).trans rfl, (blk_cell hW 2).trans rfl, (blk_cell hW 3).trans rfl, (blk_cell hW 4).trans rfl⟩
 have hS0 := hS _ (blk_drew kP)
 have hcall := hdl _ _ _ _ (own_below hou3 ((Below.refl _ _).drew))
 clear hdl hix hcell hc9 hou hou2 kR1 kR2 bw1 bw2 hb2 hrk
 go_wp2
 refine wp_region_last (fun X => (X.cell? ⟨w2.heap.size, 0, none⟩ = some (.string r.own) ∧ X.cell? ⟨w2.heap.size, 1, none⟩ = some (.int .i64 r.ty) ∧ X.cell? ⟨w2.heap.size, 2, none⟩ = some (.int .i64 r.cl) ∧ X.cell? ⟨w2.heap.size, 3, none⟩ = some (.int .i64 r.tt) ∧ X.cell? ⟨w2.heap.size, 4, none⟩ = some (.string r.da))) 1000 (by kernel_rfl) hS0 (fun hHeld => ?_)
 refine wpAnyL_take (i := 0) (v := ?_) rfl (by kernel_rfl) (by kernel_rfl) (by kernel_rfl) (by kernel_rfl) (fun _ _ _ h => h) (Or.inl ⟨by rfl, ?_⟩) (by assumption) ?_
 rotate_left 1
 · (intro W hSW; obtain ⟨s0, s1, s2, s3, s4⟩ := hSW; go_simp; try (with_reducible rfl))
 refine wpAnyL_take (i := 1) (v := ?_) rfl (by kernel_rfl) (by kernel_rfl) (by kernel_rfl) (by kernel_rfl) (fun _ _ _ h => h) (Or.inl ⟨by rfl, ?_⟩) (by assumption) ?_
 rotate_left 1
 · (intro W hSW; obtain ⟨s0, s1, s2, s3, s4⟩ := hSW; go_simp; try (with_reducible rfl))
 refine wpAnyL_take (i := 2) (v := ?_) rfl (by kernel_rfl) (by kernel_rfl) (by kernel_rfl) (by kernel_rfl) (fun _ _ _ h => h) (Or.inl ⟨by rfl, ?_⟩) (by assumption) ?_
 rotate_left 1
 · (intro W hSW; obtain ⟨s0, s1, s2, s3, s4⟩ := hSW; go_simp; try (with_reducible rfl))
 refine wpAnyL_take (i := 3) (v := ?_) rfl (by kernel_rfl) (by kernel_rfl) (by kernel_rfl) (by kernel_rfl) (fun _ _ _ h => h) (Or.inl ⟨by rfl, ?_⟩) (by assumption) ?_
 rotate_left 1
 · (intro W hSW; obtain ⟨s0, s1, s2, s3, s4⟩ := hSW; go_simp; try (with_reducible rfl))
 refine wpAnyL_take (i := 4) (v := ?_) rfl (by kernel_rfl) (by kernel_rfl) (by kernel_rfl) (by kernel_rfl) (fun _ _ _ h => h) (Or.inl ⟨by rfl, ?_⟩) (by assumption) ?_
 rotate_left 1
 · (intro W hSW; obtain ⟨s0, s1, s2, s3, s4⟩ := hSW; go_simp; try (with_reducible rfl))
 refine wpAnyL_one (i := 5) (by kernel_rfl) rfl (fun K hK => ?_)
 go_simp
 refine hcall.mono ?_
 rintro e w4 ⟨rfl, hown4, hO⟩
 have kP4 := blk_only (blk_drew kP) hO (by omega)
 have kR4 := blk_only (blk_drew kR3) hO (by omega)
 have bw4 : Below w.heap.size w w4 := (bw3.drew).trans (only_below hO (by omega) (by have := bw3.size; simpa using this))
 go_wp2_with fail
 refine hK.out _ _ (hS _ kP4) (fun hH => ?_)
 clear hK K
 have rk4 := fun i => blk_cell kR4 i
 have fk4 := fun i => blk_frozen kR4 i
 obtain ⟨k5, bw5⟩ := rr_store (r := r) kR4 bw4 (Nat.le_succ _)
 have kP5 := blk_far (i := 4) (v := .string r.da) (blk_far (i := 3) (v := .int .i64 r.tt) (blk_far (i := 2) (v := .int .i64 r.cl) (blk_far (i := 1) (v := .int .i64 r.ty) (blk_far (i := 0) (v := .string r.own) kP4 (c := w.heap.size + 1) (by omega)) (c := w.heap.size + 1) (by omega)) (c := w.heap.size + 1) (by omega)) (c := w.heap.size + 1) (by omega)) (c := w.heap.size + 1) (by omega)
 refine wpAnyL_one (i := 6) (by kernel_rfl) rfl (fun K hK => ?_)
 go_simp
 refine hK.out _ _ (hS _ kP5) (fun hH2 => ?_)
 clear hK K
 refine wpAnyL_one (i := 7) (by kernel_rfl) rfl (fun K hK => ?_)
 go_simp
 refine hK.out _ _ (hS _ kP5) (fun hH3 => ?_)
 clear hK K
 refine wpAnyL_done (by kernel_rfl) ?_
 have rk := fun i => blk_cell k5 i
 have HB := Nm.hide bw5
 clear hH hH2 hH3 hHeld hS hS0 kP kP4 kP5 kR3 kR4 k5 bw5 bw4 rk4 fk4 hcall hown4
 go_wp2_with fail
 refine bodyPost_ret (v := .tuple #[.agg #[.string r.own, .int .i64 r.ty, .int .i64 r.cl, .int .i64 r.tt, .string r.da], .slice (some ⟨gl, 0, none⟩) (k + (xs.length - j)) uc]) ?_ rfl ⟨_, _, _, rfl, HB.out⟩
 simp [results, Tryz.f85, go_sem, rk]
end Go.Proofs.YtdcbhohlglncnaaGreat
/- Words that are joined. -/
namespace Go.Proofs.YtdcbhohlglncnaaGreat
open Go.RowKit
theorem wrap_pos (n : Nat) (h : n < 9223372036854775808) : IntKind.i64.wrap (n : Int) = (n : Int) := by
 have e : (n : Int) % 2 ^ 64 = n := Int.emod_eq_of_lt (by omega) (by omega)
 simp only [IntKind.wrap, IntKind.bits, IntKind.signed, e]
 rw [if_neg]
 simp
 omega
theorem i64_or_nat (a b : Nat) (ha : a < 9223372036854775808) (hb : b < 9223372036854775808) : bits .or .i64 (a : Int) (b : Int) = ((a ||| b : Nat) : Int) := by
 have hx : a ||| b < 2 ^ 63 := Nat.or_lt_two_pow (by omega) (by omega)
 show IntKind.i64.wrap ((BitVec.ofInt 64 (a : Int) ||| BitVec.ofInt 64 (b : Int)).toNat : Int) = _
 rw [BitVec.toNat_or, ofInt_u64 a (by omega), ofInt_u64 b (by omega)]
 exact wrap_pos _ (by omega)
theorem or_join (i a b : Nat) (h : b < 2 ^ i) (ha : 2 ^ i * a + b < 9223372036854775808) : bits .or .i64 ((2 ^ i * a : Nat) : Int) (b : Int) = ((2 ^ i * a + b : Nat) : Int) := by
 rw [i64_or_nat _ _ (by omega) (by omega), ← Nat.two_pow_add_eq_or_of_lt h]
end Go.Proofs.YtdcbhohlglncnaaGreat
/- impl.readBig by its contract. -/
namespace Go.Proofs.YtdcbhohlglncnaaGreat
open Go.RowKit
theorem big_step (m : Nat) (c : UInt8) (h : m < 281474976710656) : bits .or .i64 ((m : Int) * 256) (c.toNat : Int) = ((m * 256 + c.toNat : Nat) : Int) := by
 have hc := c.toNat_lt
 have e : (m : Int) * 256 = ((2 ^ 8 * m : Nat) : Int) := by omega
 rw [e, or_join 8 m _ (by omega) (by omega)]
 congr 1
 omega
set_option maxRecDepth 100000 in
set_option maxHeartbeats 400000 in
theorem readBig_any (s : ByteArray) (w : World) (hs : s.size ≤ 6) :
 Calls Tryz.prog 84 #[.string s] w fun e w' => e = .returned (.int .i64 (numL s.data.toList)) ∧ w' = w := by
 go_enter Tryz.func84, Tryz.ntmps84
 go_wp2
 go_loop [3, 7] (fun u v => ∃ k : Nat, k ≤ s.size ∧ v = .int .i64 k ∧ u = .int .i64 (numL (s.data.toList.take k))) (fun _ v => s.size - (intOf v).toNat)
 case atStart => exact ⟨0, Nat.zero_le _, rfl, rfl⟩
 case round =>
  obtain ⟨k, hk, rfl, rfl⟩ := hrel
  by_cases hlt : k < s.size
  · have hd := Nm.get_data hlt
    have e1 : s.data.toList.take (k + 1) = s.data.toList.take k ++ [s[k]] := Nm.take_step hd
    have hb := numL_small (l := s.data.toList.take k) (by simp; omega)
    have e2 := numL_snoc (s.data.toList.take k) s[k]
    rw [← e1] at e2
    have hc : (s[k].toNat : Int) < 256 := by have := s[k].toNat_lt; omega
    have hlt' : (k : Int) < (s.size : Int) := by omega
    have HB := Nm.hide (big_step (numL (s.data.toList.take k)) s[k] hb)
    generalize numL (s.data.toList.take k) = m at *
    clear e1 hd
    go_wp2
    go_round
    case rel => exact ⟨k + 1, by omega, by go_num, by rw [e2, ← HB.out]⟩
    case measure => simp [intOf]; omega
  · have hke : k = s.size := by omega
    subst hke
    have et : s.data.toList.take s.size = s.data.toList := List.take_of_length_le (by simp)
    rw [et]
    go_wp2
    go_ret
    exact ⟨rfl, rfl⟩
end Go.Proofs.YtdcbhohlglncnaaGreat
/- What grows in one block. -/
namespace Go.Proofs.YtdcbhohlglncnaaGreat
open Go.RowKit
set_option linter.unusedVariables false
theorem gr_trans {w w1 w2 : World} {row : Option Nat} (h1 : w.grownBy w1 row) (h2 : w1.grownBy w2 row) : w.grownBy w2 row :=
 ⟨h2.os.trans h1.os, h2.tape.trans h1.tape, h2.output.trans h1.output, Nat.le_trans h1.size h2.size, fun k hk hn => (h2.block k (Nat.lt_of_lt_of_le hk h1.size) hn).trans (h1.block k hk hn)⟩
theorem gr_set (W : World) (b i : Nat) (v : Value) : W.grownBy (W.setCell ⟨b, i, none⟩ v) (some b) :=
 ⟨rfl, rfl, rfl, by simp, fun k _ hk => heap_setCell_other W ⟨b, i, none⟩ k _ (fun e => hk (by rw [e]))⟩
theorem gr_refl (w : World) (row : Option Nat) : w.grownBy w row := ⟨rfl, rfl, rfl, Nat.le_refl _, fun _ _ _ => rfl⟩
theorem exp_eq {d : ByteArray} (h : 22 ≤ d.size) : (d.extract (d.size - 20) d.size).extract 12 16 = d.extract (d.size - 8) (d.size - 4) := by
 apply ByteArray.ext
 simp only [ByteArray.data_extract, Array.extract_extract]
 have : d.data.size = d.size := rfl
 congr 1 <;> omega
theorem numL_bound : ∀ (l : List UInt8) (n : Nat), l.foldl (fun n c => n * 256 + c.toNat) n < (n + 1) * 256 ^ l.length
 | [], n => by simp
 | c :: l, n => by
   have h := numL_bound l (n * 256 + c.toNat)
   have hc := c.toNat_lt
   simp only [List.foldl_cons, List.length_cons]
   refine Nat.lt_of_lt_of_le h ?_
   rw [Nat.pow_succ, Nat.mul_comm (256 ^ l.length) 256, ← Nat.mul_assoc]
   exact Nat.mul_le_mul_right _ (by omega)
theorem expN_fit {d : ByteArray} (h : 22 ≤ d.size) : 1 ≤ expN d ∧ expN d ≤ 4294967295 := by
 have hl : (d.extract (d.size - 8) (d.size - 4)).data.toList.length = 4 := by
  have : (d.extract (d.size - 8) (d.size - 4)).size = 4 := by simp; omega
  rw [Array.length_toList]
  exact this
 have hb := numL_bound (d.extract (d.size - 8) (d.size - 4)).data.toList 0
 rw [hl] at hb
 rw [expN]
 have hb' : numL (d.extract (d.size - 8) (d.size - 4)).data.toList < 4294967296 := by simpa [numL] using hb
 split <;> omega
set_option maxRecDepth 100000 in
set_option maxHeartbeats 800000 in
theorem soaTime_any (r : Rr) (w : World) (h1 : 22 ≤ r.da.size) (h2 : r.da.size ≤ 65535) :
 Calls Tryz.prog 52 #[.agg #[.string r.own, .int .i64 r.ty, .int .i64 r.cl, .int .i64 r.tt, .string r.da], .int .i64 3] w fun e w' => e = .returned (.int .i64 (expN r.da)) ∧ Below w.heap.size w w' := by
 have b0 := (Below.refl w.heap.size w).alloc (Nat.le_refl _) (.cells #[.string r.own, .int .i64 r.ty, .int .i64 r.cl, .int .i64 r.tt, .string r.da] 90)
 obtain ⟨o, ty, cl, tt, d⟩ := r
 simp only at *
 have hz : ((d.extract (d.size - 20) d.size).extract 12 16).size ≤ 6 := by simp; omega
 have hrb := fun W => readBig_any ((d.extract (d.size - 20) d.size).extract 12 16) W hz
 have h3 : (20 : Int) ≤ (d.size : Int) := by omega
 have h4 : 20 ≤ d.size := by omega
 have h5 : (d.extract (d.size - 20) d.size).size = 20 := by simp; omega
 have e1 : expN d = if (1 : Int) < ((numL ((d.extract (d.size - 20) d.size).extract 12 16).data.toList : Nat) : Int) then ((numL ((d.extract (d.size - 20) d.size).extract 12 16).data.toList : Nat) : Int) else 1 := by rw [exp_eq h1]; rfl
 rw [e1]
 clear e1 hz h1
 generalize numL ((d.extract (d.size - 20) d.size).extract 12 16).data.toList = N at *
 by_cases hN : (1 : Int) < (N : Int)
 · rw [if_pos hN]
   go_enter Tryz.func52, Tryz.ntmps52
   go_wp2_with (go_at_call 84; refine (hrb _).mono ?_; rintro e w2 ⟨rfl, hw⟩; obtain rfl : _ = w2 := hw.symm; clear hw)
   go_ret
   exact ⟨rfl, b0⟩
 · rw [if_neg hN]
   go_enter Tryz.func52, Tryz.ntmps52
   go_wp2_with (go_at_call 84; refine (hrb _).mono ?_; rintro e w2 ⟨rfl, hw⟩; obtain rfl : _ = w2 := hw.symm; clear hw)
   go_ret
   exact ⟨rfl, b0⟩
/-- The follower at work. -/
def FoAt (W : World) (p : Nat) (o : ByteArray) (v : Value) (asked id next until_ now : Int) : Prop := Blk W p #[.string o, v, .int .i64 asked, .int .i64 id, .int .i64 next, .int .i64 until_, .int .i64 now] 60
set_option maxRecDepth 100000 in
set_option maxHeartbeats 1600000 in
theorem folSoa_any (p : Nat) (o : ByteArray) (v : Value) (ps : List Zp) (as_ id nx un now : Int) (r : Rr) (w : World) (hF : FoAt w p o v as_ id nx un now) (h : ZRow w v ps) (hs : zsum ps ≤ 1048576) (hf : ∀ p ∈ ps, ∀ x ∈ p.1.da, x.size ≤ 1048576) (hr : (zoneRecs ps).find? is6 = some r) (hn : (zoneRecs ps).length ≤ 500) :
 Calls Tryz.prog 53 #[.pointer (some ⟨p, 0, none⟩)] w fun e w' => e = .returned (.agg #[.string r.own, .int .i64 r.ty, .int .i64 r.cl, .int .i64 r.tt, .string r.da]) ∧ Below w.heap.size w w' := by
 obtain ⟨va, vc, rfl⟩ : ∃ va vc, v = .slice va ps.length vc := by obtain ⟨⟨_, a, c, e, _⟩, _⟩ := h; exact ⟨a, c, e⟩
 have b0 := (Below.refl w.heap.size w).alloc (Nat.le_refl _) (.cells #[.string ⟨#[]⟩, .int .i64 0, .int .i64 0, .int .i64 0, .string ⟨#[]⟩] 90)
 have k0 := blk_new w #[.string ⟨#[]⟩, .int .i64 0, .int .i64 0, .int .i64 0, .string ⟨#[]⟩] 90
 have hF0 := blk_below hF b0
 have hpt := partSOA_any o (.slice va ps.length vc) ps r _ (h.below b0) hs hf hr hn
 have r0 := fun i => blk_cell hF0 i
 clear h hs hf hr hn hF
 go_enter Tryz.func53, Tryz.ntmps53
 go_wp2_with fail
 refine hpt.mono ?_
 rintro e w1 ⟨ua, un, uc, rfl, hb1⟩
 have bw1 := Nm.below_two b0 hb1
 have k1 := blk_alloc (blk_below k0 hb1) (.cells #[.string r.own, .int .i64 r.ty, .int .i64 r.cl, .int .i64 r.tt, .string r.da] 90)
 have bw2 := bw1.alloc bw1.size (.cells #[.string r.own, .int .i64 r.ty, .int .i64 r.cl, .int .i64 r.tt, .string r.da] 90)
 have kP := blk_new w1 #[.string r.own, .int .i64 r.ty, .int .i64 r.cl, .int .i64 r.tt, .string r.da] 90
 have rp := fun i => blk_cell kP i
 have rz := fun i => blk_cell k1 i
 have fz := fun i => blk_frozen k1 i
 obtain ⟨k5, bw5⟩ := rr_store (r := r) k1 bw2 (Nat.le_refl _)
 have rk := fun i => blk_cell k5 i
 have HB := Nm.hide bw5
 clear k0 k1 k5 bw5 bw2 bw1 kP hb1 hpt hF0 r0 b0
 go_wp2_with fail
 refine bodyPost_ret (v := .agg #[.string r.own, .int .i64 r.ty, .int .i64 r.cl, .int .i64 r.tt, .string r.da]) ?_ rfl ⟨rfl, HB.out⟩
 simp [results, Tryz.f53, go_sem, rk]
set_option maxRecDepth 100000 in
set_option maxHeartbeats 1600000 in
theorem folIn_any (p : Nat) (o : ByteArray) (v : Value) (ps : List Zp) (as_ id nx un now : Int) (r : Rr) (w : World) (hF : FoAt w p o v as_ id nx un now) (h : ZRow w v ps) (hs : zsum ps ≤ 1048576) (hf : ∀ p ∈ ps, ∀ x ∈ p.1.da, x.size ≤ 1048576) (hr : (zoneRecs ps).find? is6 = some r) (hn : (zoneRecs ps).length ≤ 500) (hd : cutCode 6 r.da = 0) (hnow : 0 ≤ now ∧ now ≤ 281474976710655) :
 Calls Tryz.prog 28 #[.pointer (some ⟨p, 0, none⟩), .int .i64 3] w fun e w' => e = .returned (.int .i64 (now + expN r.da)) ∧ Below w.heap.size w w' := by
 obtain ⟨z1, z2⟩ := soa_size hd
 obtain ⟨x1, x2⟩ := expN_fit z1
 have hso := folSoa_any p o v ps as_ id nx un now r w.drew (blk_drew hF) (h.below (Below.refl _ _).drew) hs hf hr hn
 have hst := fun W => soaTime_any r W z1 z2
 have hbe := fun W => behind_any now (expN r.da) W ⟨hnow.1, by omega⟩ ⟨by omega, by omega⟩
 have hC : ∀ W, Below w.heap.size w W → W.cell? ⟨p, 6, none⟩ = some (.int .i64 now) := fun W hW => (blk_cell (blk_below hF hW) 6).trans rfl
 generalize expN r.da = EX at *
 have HC := Nm.hide hC
 have hS0 := hC _ (Below.refl _ _).drew
 clear hC h hs hf hr hn hF
 go_enter Tryz.func28, Tryz.ntmps28
 go_wp2
 refine wp_region_last (fun X => X.cell? ⟨p, 6, none⟩ = some (.int .i64 now)) 1000 (by kernel_rfl) hS0 (fun hHeld => ?_)
 refine wpAnyL_take (i := 0) (v := ?_) rfl (by kernel_rfl) (by kernel_rfl) (by kernel_rfl) (by kernel_rfl) (fun _ _ _ h => h) (Or.inl ⟨by rfl, ?_⟩) (by assumption) ?_
 rotate_left 1
 · (intro W hSW; go_simp; try (with_reducible rfl))
 refine wpAnyL_take (i := 1) (v := ?_) rfl (by kernel_rfl) (by kernel_rfl) (by kernel_rfl) (by kernel_rfl) (fun _ _ _ h => h) (Or.inl ⟨by rfl, ?_⟩) (by assumption) ?_
 rotate_left 1
 · (intro W hSW; go_simp; try (with_reducible rfl))
 refine wpAnyL_take (i := 2) (v := ?_) rfl (by kernel_rfl) (by kernel_rfl) (by kernel_rfl) (by kernel_rfl) (fun _ _ _ h => h) (Or.inl ⟨by rfl, ?_⟩) (by assumption) ?_
 rotate_left 1
 · (intro W hSW; go_simp; try (with_reducible rfl))
 refine wpAnyL_take (i := 3) (v := ?_) rfl (by kernel_rfl) (by kernel_rfl) (by kernel_rfl) (by kernel_rfl) (fun _ _ _ h => h) (Or.inl ⟨by rfl, ?_⟩) (by assumption) ?_
 rotate_left 1
 · (intro W hSW; go_simp; try (with_reducible rfl))
 refine wpAnyL_take (i := 4) (v := ?_) rfl (by kernel_rfl) (by kernel_rfl) (by kernel_rfl) (by kernel_rfl) (fun _ _ _ h => h) (Or.inl ⟨by rfl, ?_⟩) (by assumption) ?_
 rotate_left 1
 · (intro W hSW; go_simp; try (with_reducible rfl))
 refine wpAnyL_take (i := 6) (v := ?_) rfl (by kernel_rfl) (by kernel_rfl) (by kernel_rfl) (by kernel_rfl) (fun _ _ _ h => h) (Or.inl ⟨by rfl, ?_⟩) (by assumption) ?_
 rotate_left 1
 · (intro W hSW; go_simp; try (with_reducible rfl))
 refine wpAnyL_one (i := 5) (by kernel_rfl) rfl (fun K hK => ?_)
 go_simp
 refine hso.mono ?_
 rintro e w1 ⟨rfl, b1⟩
 have b1' : Below w.heap.size w w1 := Nm.below_two (Below.refl _ _).drew b1
 go_wp2_with fail
 refine hK.out _ _ (HC.out _ b1') (fun hH => ?_)
 clear hK K
 refine wpAnyL_one (i := 7) (by kernel_rfl) rfl (fun K hK => ?_)
 go_simp
 refine (hst _).mono ?_
 rintro e w2 ⟨rfl, b2⟩
 have b2' := Nm.below_two b1' b2
 go_wp2_with fail
 refine hK.out _ _ (HC.out _ b2') (fun hH2 => ?_)
 clear hK K
 refine wpAnyL_one (i := 8) (by kernel_rfl) rfl (fun K hK => ?_)
 go_simp
 refine (hbe _).mono ?_
 rintro e w3 ⟨rfl, hw3⟩
 obtain rfl : w3 = w2 := hw3
 go_wp2_with fail
 refine hK.out _ _ (HC.out _ b2') (fun hH3 => ?_)
 clear hK K
 refine wpAnyL_one (i := 9) (by kernel_rfl) rfl (fun K hK => ?_)
 go_simp
 refine hK.out _ _ (HC.out _ b2') (fun hH4 => ?_)
 clear hK K
 refine wpAnyL_done (by kernel_rfl) ?_
 clear hH hH2 hH3 hH4 hHeld hso
 go_wp2
 go_ret
 exact ⟨rfl, b2'⟩
/-- A secondary that is handed back. -/
def SecV (o : ByteArray) (v : Value) (as_ id nx un : Int) : Value := .agg #[.string o, v, .int .i64 as_, .int .i64 id, .int .i64 nx, .int .i64 un]
theorem sec_store {w w2 : World} {b : Nat} {x0 x1 x2 x3 x4 x5 : Value} (k : Blk w2 b #[.string ⟨#[]⟩, .slice none 0 0, .int .i64 0, .int .i64 0, .int .i64 0, .int .i64 0] 30) (hb : Below w.heap.size w w2) (hlb : w.heap.size ≤ b) :
 Blk ((((((w2.setCell ⟨b, 0, none⟩ x0).setCell ⟨b, 1, none⟩ x1).setCell ⟨b, 2, none⟩ x2).setCell ⟨b, 3, none⟩ x3).setCell ⟨b, 4, none⟩ x4).setCell ⟨b, 5, none⟩ x5) b #[x0, x1, x2, x3, x4, x5] 30 ∧
 Below w.heap.size w ((((((w2.setCell ⟨b, 0, none⟩ x0).setCell ⟨b, 1, none⟩ x1).setCell ⟨b, 2, none⟩ x2).setCell ⟨b, 3, none⟩ x3).setCell ⟨b, 4, none⟩ x4).setCell ⟨b, 5, none⟩ x5) ∧ w2.grownBy ((((((w2.setCell ⟨b, 0, none⟩ x0).setCell ⟨b, 1, none⟩ x1).setCell ⟨b, 2, none⟩ x2).setCell ⟨b, 3, none⟩ x3).setCell ⟨b, 4, none⟩ x4).setCell ⟨b, 5, none⟩ x5) (some b) := by
 have k4 := blk_set (blk_set (blk_set (blk_set (blk_set (blk_set k 0 x0) 1 x1) 2 x2) 3 x3) 4 x4) 5 x5
 simp only [List.setIfInBounds_toArray, List.set_cons_zero, List.set_cons_succ] at k4
 refine ⟨k4, (((((hb.setCell (p := ⟨b, 0, none⟩) hlb _).setCell (p := ⟨b, 1, none⟩) hlb _).setCell (p := ⟨b, 2, none⟩) hlb _).setCell (p := ⟨b, 3, none⟩) hlb _).setCell (p := ⟨b, 4, none⟩) hlb _).setCell (p := ⟨b, 5, none⟩) hlb _, ?_⟩
 exact gr_trans (gr_trans (gr_trans (gr_trans (gr_trans (gr_set _ b 0 x0) (gr_set _ b 1 x1)) (gr_set _ b 2 x2)) (gr_set _ b 3 x3)) (gr_set _ b 4 x4)) (gr_set _ b 5 x5)
/-- What follow leaves of a secondary that is new. -/
def FoP (ps : List Zp) (o : ByteArray) (now : Int) (w : World) (e : Ending) (w' : World) : Prop := Below w.heap.size w w' ∧
 ((stOK ps o now = false ∧ e = .returned (.tuple #[.pointer none, .bool false])) ∨
 (stOK ps o now = true ∧ ∃ p v qs r, e = .returned (.tuple #[.pointer (some ⟨p, 0, none⟩), .bool true]) ∧ w.heap.size ≤ p ∧ FoAt w' p o v 0 0 0 0 now ∧ qs.map (·.1) = ps.map (·.1) ∧ ZOwn w' (p + 1) v qs ∧ (zoneRecs qs).find? is6 = some r ∧ r.da = soaZ (ps.map (·.1)) o ∧ cutCode 6 r.da = 0 ∧ (zoneRecs qs).length ≤ 500))
theorem fo_zone {ps : List Zp} {o : ByteArray} {bb : Nat} {lv : Value} {th : Nat} {ys : List ByteArray} {aa : Option Addr} {ac : Nat} {labv rv : Value} {os : List GOw} {kv : Value} {ks : List Ld} {B : Nat} {W : World} (hP : P3 (zoneRecs ps) o bb lv th ys aa ac labv rv os kv ks B W) (hz : zOK ps o = true) (ha : o.size ≤ 1000000000) :
 (Calls Tryz.prog 50 #[.pointer (some ⟨bb, 3, none⟩), .string o] W fun e W' => ∃ v qs, e = .returned (.agg #[.string o, v]) ∧ qs.map (·.1) = ps.map (·.1) ∧ ZOwn W' W.heap.size v qs ∧ Below W.heap.size W W') ∧ ∃ r, (zoneRecs ps).find? is6 = some r ∧ r.da = soaZ (ps.map (·.1)) o ∧ cutCode 6 r.da = 0 := by
 have hzs : ps.map (·.1) = zoneT os := by rw [← (zOK_recs hz).2, zone_eq hP.st.inv hP.good.1 hP.mix]
 have hol := hP.st.inv.len.1
 have hl5 := hP.hl
 rw [List.length_map] at hol
 refine ⟨?_, soa_first hP.st.inv hP.good.1 hP.ap hz hzs⟩
 rw [hzs]
 exact zone_any bb 3 th rv os B o W hP.st.tr (hP.st.inv.trs (by rw [List.length_map]; omega)) (by omega) hP.st.lab ((blk_cell hP.kb 4).trans rfl) ha
theorem recs_same {ps qs : List Zp} (h : qs.map (·.1) = ps.map (·.1)) : zoneRecs qs = zoneRecs ps := by
 have hl : qs.length = ps.length := by have := congrArg List.length h; simpa using this
 have hd : ∀ l : List Zp, dsum l = ((l.map (·.1)).map fun s => s.da.length).sum := by
  intro l
  induction l with
  | nil => rfl
  | cons p l ih => simp [dsum, ih]
 have hr : ∀ l : List Zp, recsAll l = (l.map (·.1)).flatMap recsOf := fun l => by rw [recsAll, List.flatMap_map]
 rw [zoneRecs, zoneRecs, hl, hd, hd, h, hr, hr, h]
set_option maxRecDepth 100000 in
set_option maxHeartbeats 3200000 in
theorem follow_any (o : ByteArray) (v : Value) (ps : List Zp) (now : Int) (w : World) (h : ZRow w v ps) (hs : zsum ps ≤ 1048576) (hf : ∀ p ∈ ps, p.1.own.size ≤ 1048576 ∧ ∀ x ∈ p.1.da, x.size ≤ 1048576) (ha : o.size ≤ 1000000000) :
 Calls Tryz.prog 27 #[SecV o v 0 0 0 0, .int .i64 now] w (FoP ps o now w) := by
 obtain ⟨va, vc, rfl⟩ : ∃ va vc, v = .slice va ps.length vc := by obtain ⟨⟨_, a, c, e, _⟩, _⟩ := h; exact ⟨a, c, e⟩
 have b0 := (Below.refl w.heap.size w).alloc (Nat.le_refl _) (.cells #[.string o, .slice va ps.length vc, .int .i64 0, .int .i64 0, .int .i64 0, .int .i64 0] 30)
 have k0 := blk_new w #[.string o, .slice va ps.length vc, .int .i64 0, .int .i64 0, .int .i64 0, .int .i64 0] 30
 have hop := openZone_any o (.slice va ps.length vc) ps _ (h.below b0) hs hf ha
 have r0 := fun i => blk_cell k0 i
 have hw1 := fun W => within_any 0 2 W
 have hw2 := fun W => within_any 0 65535 W
 have hu1 := fun W => isUpTo_any 0 562949953421311 W
 have hu2 := fun W => isUpTo_any now 281474976710655 W
 simp only [show (decide ((0 : Int) ≤ 0) && decide ((0 : Int) ≤ 2)) = true by decide] at hw1
 simp only [show (decide ((0 : Int) ≤ 0) && decide ((0 : Int) ≤ 65535)) = true by decide] at hw2
 simp only [show (decide ((0 : Int) ≤ 0) && decide ((0 : Int) ≤ 562949953421311)) = true by decide] at hu1
 obtain ⟨NB, hNB⟩ : ∃ NB, NB = (decide (0 ≤ now) && decide (now ≤ 281474976710655)) := ⟨_, rfl⟩
 rw [← hNB] at hu2
 have HST : Hid (stOK ps o now = (zOK ps o && NB)) := by show _ = _; rw [stOK, hNB]
 clear h hf hs hNB
 unfold SecV
 go_enter Tryz.func27, Tryz.ntmps27
 go_wp2_with fail
 refine hop.mono ?_
 rintro e w1 ⟨hb1, ⟨hz, rfl⟩ | ⟨hz, bb, lv, th, ys, aa, ac, labv, rv, os, kv, ks, B, rfl, hP⟩⟩
 · have bw1 := Nm.below_two b0 hb1
   have k1 := blk_below k0 hb1
   have r1 := fun i => blk_cell k1 i
   have HF : Hid (stOK ps o now = false) := by show _ = _; rw [HST.out, hz]; rfl
   have bw2 := bw1.alloc bw1.size (.cells #[.string ⟨#[]⟩, .slice none 0 0, .int .i64 0, .int .i64 0, .int .i64 0, .int .i64 0, .int .i64 now] 60)
   have kF := blk_new w1 #[.string ⟨#[]⟩, .slice none 0 0, .int .i64 0, .int .i64 0, .int .i64 0, .int .i64 0, .int .i64 now] 60
   have rF := fun i => blk_cell kF i
   clear HST hz hop k0 r0 b0 hb1
   go_wp2_with fail
   go_at_call 48
   refine (hw1 _).mono ?_
   rintro e w2 ⟨rfl, hw⟩
   obtain rfl : _ = w2 := hw.symm
   clear hw
   go_wp2_with fail
   go_at_call 48
   refine (hw2 _).mono ?_
   rintro e w2 ⟨rfl, hw⟩
   obtain rfl : _ = w2 := hw.symm
   clear hw
   go_wp2
   go_ret2
   exact ⟨bw2, .inl ⟨HF.out, rfl⟩⟩
 · have bw1 := Nm.below_two b0 hb1
   have k1 := blk_below k0 hb1
   have r1 := fun i => blk_cell k1 i
   have b2 := (Below.refl w1.heap.size w1).alloc (Nat.le_refl _) (.cells #[.string ⟨#[]⟩, .slice none 0 0, .int .i64 0, .int .i64 0, .int .i64 0, .int .i64 0, .int .i64 now] 60)
   have bw2 := Nm.below_two bw1 b2
   have kF := blk_new w1 #[.string ⟨#[]⟩, .slice none 0 0, .int .i64 0, .int .i64 0, .int .i64 0, .int .i64 0, .int .i64 now] 60
   have rF := fun i => blk_cell kF i
   have k2 := blk_below k1 b2
   have r2 := fun i => blk_cell k2 i
   obtain ⟨hzo, r, hr1, hr2, hr3⟩ := fo_zone (hP.below b2) hz ha
   have hlt : w.heap.size < w1.heap.size := blk_lt k1
   have HHL := Nm.hide hP.hl
   rw [hz, Bool.true_and] at HST
   have HRR := Nm.hide (And.intro hr1 (And.intro hr2 hr3))
   clear hz hop k0 r0 b0 hb1 hP hr1 hr2 hr3
   cases NB with
   | false =>
     go_wp2_with fail
     go_at_call 48
     refine (hw1 _).mono ?_
     rintro e w2 ⟨rfl, hw⟩
     obtain rfl : _ = w2 := hw.symm
     clear hw
     go_wp2_with fail
     go_at_call 48
     refine (hw2 _).mono ?_
     rintro e w2 ⟨rfl, hw⟩
     obtain rfl : _ = w2 := hw.symm
     clear hw
     go_wp2_with fail
     go_at_call 49
     refine (hu1 _).mono ?_
     rintro e w2 ⟨rfl, hw⟩
     obtain rfl : _ = w2 := hw.symm
     clear hw
     go_wp2_with fail
     go_at_call 49
     refine (hu1 _).mono ?_
     rintro e w2 ⟨rfl, hw⟩
     obtain rfl : _ = w2 := hw.symm
     clear hw
     go_wp2_with fail
     go_at_call 49
     refine (hu2 _).mono ?_
     rintro e w2 ⟨rfl, hw⟩
     obtain rfl : _ = w2 := hw.symm
     clear hw
     go_wp2
     go_ret2
     exact ⟨bw2, .inl ⟨HST.out, rfl⟩⟩
   | true =>
     go_wp2_with fail
     go_at_call 48
     refine (hw1 _).mono ?_
     rintro e w2 ⟨rfl, hw⟩
     obtain rfl : _ = w2 := hw.symm
     clear hw
     go_wp2_with fail
     go_at_call 48
     refine (hw2 _).mono ?_
     rintro e w2 ⟨rfl, hw⟩
     obtain rfl : _ = w2 := hw.symm
     clear hw
     go_wp2_with fail
     go_at_call 49
     refine (hu1 _).mono ?_
     rintro e w2 ⟨rfl, hw⟩
     obtain rfl : _ = w2 := hw.symm
     clear hw
     go_wp2_with fail
     go_at_call 49
     refine (hu1 _).mono ?_
     rintro e w2 ⟨rfl, hw⟩
     obtain rfl : _ = w2 := hw.symm
     clear hw
     go_wp2_with fail
     go_at_call 49
     refine (hu2 _).mono ?_
     rintro e w2 ⟨rfl, hw⟩
     obtain rfl : _ = w2 := hw.symm
     clear hw
     go_wp2_with fail
     go_at_call 50
     refine hzo.mono ?_
     rintro e w3 ⟨v3, qs, rfl, hq, hZ, b3⟩
     obtain ⟨xa, xc, rfl⟩ := own_sl hZ.outer
     have kF3 := blk_below kF b3
     have rF3 := fun i => blk_cell kF3 i
     have fF3 := fun i => blk_frozen kF3 i
     have bw3 := Nm.below_two bw2 b3
     have kF4 := blk_set (blk_set kF3 0 (.string o)) 1 (.slice xa qs.length xc)
     simp only [List.setIfInBounds_toArray, List.set_cons_zero, List.set_cons_succ] at kF4
     have bw4 := (bw3.setCell (p := ⟨w1.heap.size, 0, none⟩) (Nat.le_of_lt hlt) (.string o)).setCell (p := ⟨w1.heap.size, 1, none⟩) (Nat.le_of_lt hlt) (.slice xa qs.length xc)
     rw [World.size_alloc] at hZ
     have hZ4 := (hZ.far (g := w1.heap.size) (i := 0) (y := .string o) (Nat.lt_succ_self _)).far (g := w1.heap.size) (i := 1) (y := .slice xa qs.length xc) (Nat.lt_succ_self _)
     have HP := Nm.hide (And.intro kF4 (And.intro bw4 hZ4))
     clear kF3 kF4 bw4 hZ4 hZ b3 hzo kF rF
     go_wp2
     go_ret2
     refine ⟨HP.out.2.1, .inr ⟨HST.out, w1.heap.size, _, qs, r, rfl, Nat.le_of_lt hlt, HP.out.1, hq, HP.out.2.2, ?_, HRR.out.2.1, HRR.out.2.2, by rw [recs_same hq]; exact HHL.out⟩⟩
     rw [recs_same hq]
     exact HRR.out.1
set_option maxRecDepth 100000 in
set_option maxHeartbeats 1600000 in
theorem folSec_any (p : Nat) (o : ByteArray) (va : Option Addr) (vn vc : Nat) (as_ id nx un now : Int) (w : World) (hF : FoAt w p o (.slice va vn vc) as_ id nx un now) :
 Calls Tryz.prog 29 #[.pointer (some ⟨p, 0, none⟩)] w fun e w' => e = .returned (SecV o (.slice va vn vc) as_ id nx un) ∧ Below w.heap.size w w' := by
 have b0 := (Below.refl w.heap.size w).alloc (Nat.le_refl _) (.cells #[.string ⟨#[]⟩, .slice none 0 0, .int .i64 0, .int .i64 0, .int .i64 0, .int .i64 0] 30)
 have k0 := blk_new w #[.string ⟨#[]⟩, .slice none 0 0, .int .i64 0, .int .i64 0, .int .i64 0, .int .i64 0] 30
 have hF0 := blk_drew (blk_below hF b0)
 have hpg : p ≠ w.heap.size := by have := blk_lt hF; omega
 have hS : ∀ W, Blk W p #[.string o, .slice va vn vc, .int .i64 as_, .int .i64 id, .int .i64 nx, .int .i64 un, .int .i64 now] 60 → (W.cell? ⟨p, 0, none⟩ = some (.string o) ∧ W.cell? ⟨p, 1, none⟩ = some (.slice va vn vc) ∧ W.cell? ⟨p, 2, none⟩ = some (.int .i64 as_) ∧ W.cell? ⟨p, 3, none⟩ = some (.int .i64 id) ∧ W.cell? ⟨p, 4, none⟩ = some (.int .i64 nx) ∧ W.cell? ⟨p, 5, none⟩ = some (.int .i64 un)) := fun W hW => ⟨(blk_cell hW 0).trans rfl, (blk_cell hW 1).trans rfl, (blk_cell hW 2).trans rfl, (blk_cell hW 3).trans rfl, (blk_cell hW 4).trans rfl, (blk_cell hW 5).trans rfl⟩
 have hS0 := hS _ hF0
 have k5 := blk_drew (blk_new w #[.string o, .slice va vn vc, .int .i64 as_, .int .i64 id, .int .i64 nx, .int .i64 un] 30)
 have bw5 := ((Below.refl w.heap.size w).alloc (Nat.le_refl _) (.cells #[.string o, .slice va vn vc, .int .i64 as_, .int .i64 id, .int .i64 nx, .int .i64 un] 30)).drew
 have hS5 := hS _ (blk_below hF bw5)
 have rk := fun i => blk_cell k5 i
 have HB := Nm.hide bw5
 clear hF hF0 k0 k5 bw5 b0 hS
 go_enter Tryz.func29, Tryz.ntmps29
 go_wp2
 refine wp_region_last (fun X => (X.cell? ⟨p, 0, none⟩ = some (.string o) ∧ X.cell? ⟨p, 1, none⟩ = some (.slice va vn vc) ∧ X.cell? ⟨p, 2, none⟩ = some (.int .i64 as_) ∧ X.cell? ⟨p, 3, none⟩ = some (.int .i64 id) ∧ X.cell? ⟨p, 4, none⟩ = some (.int .i64 nx) ∧ X.cell? ⟨p, 5, none⟩ = some (.int .i64 un))) 1000 (by kernel_rfl) hS0 (fun hHeld => ?_)
 refine wpAnyL_take (i := 0) (v := ?_) rfl (by kernel_rfl) (by kernel_rfl) (by kernel_rfl) (by kernel_rfl) (fun _ _ _ h => h) (Or.inl ⟨by rfl, ?_⟩) (by assumption) ?_
 rotate_left 1
 · (intro W hSW; obtain ⟨s0, s1, s2, s3, s4, s5⟩ := hSW; go_simp; try (with_reducible rfl))
 refine wpAnyL_take (i := 1) (v := ?_) rfl (by kernel_rfl) (by kernel_rfl) (by kernel_rfl) (by kernel_rfl) (fun _ _ _ h => h) (Or.inl ⟨by rfl, ?_⟩) (by assumption) ?_
 rotate_left 1
 · (intro W hSW; obtain ⟨s0, s1, s2, s3, s4, s5⟩ := hSW; go_simp; try (with_reducible rfl))
 refine wpAnyL_take (i := 2) (v := ?_) rfl (by kernel_rfl) (by kernel_rfl) (by kernel_rfl) (by kernel_rfl) (fun _ _ _ h => h) (Or.inl ⟨by rfl, ?_⟩) (by assumption) ?_
 rotate_left 1
 · (intro W hSW; obtain ⟨s0, s1, s2, s3, s4, s5⟩ := hSW; go_simp; try (with_reducible rfl))
 refine wpAnyL_take (i := 3) (v := ?_) rfl (by kernel_rfl) (by kernel_rfl) (by kernel_rfl) (by kernel_rfl) (fun _ _ _ h => h) (Or.inl ⟨by rfl, ?_⟩) (by assumption) ?_
 rotate_left 1
 · (intro W hSW; obtain ⟨s0, s1, s2, s3, s4, s5⟩ := hSW; go_simp; try (with_reducible rfl))
 refine wpAnyL_take (i := 4) (v := ?_) rfl (by kernel_rfl) (by kernel_rfl) (by kernel_rfl) (by kernel_rfl) (fun _ _ _ h => h) (Or.inl ⟨by rfl, ?_⟩) (by assumption) ?_
 rotate_left 1
 · (intro W hSW; obtain ⟨s0, s1, s2, s3, s4, s5⟩ := hSW; go_simp; try (with_reducible rfl))
 refine wpAnyL_take (i := 5) (v := ?_) rfl (by kernel_rfl) (by kernel_rfl) (by kernel_rfl) (by kernel_rfl) (fun _ _ _ h => h) (Or.inl ⟨by rfl, ?_⟩) (by assumption) ?_
 rotate_left 1
 · (intro W hSW; obtain ⟨s0, s1, s2, s3, s4, s5⟩ := hSW; go_simp; try (with_reducible rfl))
 refine wpAnyL_take (i := 6) (v := ?_) rfl (by kernel_rfl) (by kernel_rfl) (by kernel_rfl) (by kernel_rfl) (fun _ _ _ h => h) (Or.inl ⟨by rfl, ?_⟩) (by assumption) ?_
 rotate_left 1
 · (intro W hSW; obtain ⟨s0, s1, s2, s3, s4, s5⟩ := hSW; go_simp; try (with_reducible rfl))
 refine wpAnyL_take (i := 7) (v := ?_) rfl (by kernel_rfl) (by kernel_rfl) (by kernel_rfl) (by kernel_rfl) (fun _ _ _ h => h) (Or.inl ⟨by rfl, ?_⟩) (by assumption) ?_
 rotate_left 1
 · (intro W hSW; obtain ⟨s0, s1, s2, s3, s4, s5⟩ := hSW; go_simp; try (with_reducible rfl))
 refine wpAnyL_take (i := 8) (v := ?_) rfl (by kernel_rfl) (by kernel_rfl) (by kernel_rfl) (by kernel_rfl) (fun _ _ _ h => h) (Or.inl ⟨by rfl, ?_⟩) (by assumption) ?_
 rotate_left 1
 · (intro W hSW; obtain ⟨s0, s1, s2, s3, s4, s5⟩ := hSW; go_simp; try (with_reducible rfl))
 refine wpAnyL_take (i := 9) (v := ?_) rfl (by kernel_rfl) (by kernel_rfl) (by kernel_rfl) (by kernel_rfl) (fun _ _ _ h => h) (Or.inl ⟨by rfl, ?_⟩) (by assumption) ?_
 rotate_left 1
 · (intro W hSW; obtain ⟨s0, s1, s2, s3, s4, s5⟩ := hSW; go_simp; try (with_reducible rfl))
 refine wpAnyL_take (i := 10) (v := ?_) rfl (by kernel_rfl) (by kernel_rfl) (by kernel_rfl) (by kernel_rfl) (fun _ _ _ h => h) (Or.inl ⟨by rfl, ?_⟩) (by assumption) ?_
 rotate_left 1
 · (intro W hSW; obtain ⟨s0, s1, s2, s3, s4, s5⟩ := hSW; go_simp; try (with_reducible rfl))
 refine wpAnyL_take (i := 11) (v := ?_) rfl (by kernel_rfl) (by kernel_rfl) (by kernel_rfl) (by kernel_rfl) (fun _ _ _ h => h) (Or.inl ⟨by rfl, ?_⟩) (by assumption) ?_
 rotate_left 1
 · (intro W hSW; obtain ⟨s0, s1, s2, s3, s4, s5⟩ := hSW; go_simp; try (with_reducible rfl))
 refine wpAnyL_take (i := 12) (v := ?_) rfl (by kernel_rfl) (by kernel_rfl) (by kernel_rfl) (by kernel_rfl) (fun _ _ _ h => h) (Or.inl ⟨by rfl, ?_⟩) (by assumption) ?_
 rotate_left 1
 · (intro W hSW; obtain ⟨s0, s1, s2, s3, s4, s5⟩ := hSW; go_simp; try (with_reducible rfl))
 refine wpAnyL_take (i := 13) (v := ?_) rfl (by kernel_rfl) (by kernel_rfl) (by kernel_rfl) (by kernel_rfl) (fun _ _ _ h => h) (Or.inl ⟨by rfl, ?_⟩) (by assumption) ?_
 rotate_left 1
 · (intro W hSW; obtain ⟨s0, s1, s2, s3, s4, s5⟩ := hSW; go_simp; try (with_reducible rfl))
 refine wpAnyL_take (i := 14) (v := ?_) rfl (by kernel_rfl) (by kernel_rfl) (by kernel_rfl) (by kernel_rfl) (fun _ _ _ h => h) (Or.inl ⟨by rfl, ?_⟩) (by assumption) ?_
 rotate_left 1
 · (intro W hSW; obtain ⟨s0, s1, s2, s3, s4, s5⟩ := hSW; go_simp; try (with_reducible rfl))
 refine wpAnyL_take (i := 15) (v := ?_) rfl (by kernel_rfl) (by kernel_rfl) (by kernel_rfl) (by kernel_rfl) (fun _ _ _ h => h) (Or.inl ⟨by rfl, ?_⟩) (by assumption) ?_
 rotate_left 1
 · (intro W hSW; obtain ⟨s0, s1, s2, s3, s4, s5⟩ := hSW; go_simp; try (with_reducible rfl))
 refine wpAnyL_take (i := 16) (v := ?_) rfl (by kernel_rfl) (by kernel_rfl) (by kernel_rfl) (by kernel_rfl) (fun _ _ _ h => h) (Or.inl ⟨by rfl, ?_⟩) (by assumption) ?_
 rotate_left 1
 · (intro W hSW; obtain ⟨s0, s1, s2, s3, s4, s5⟩ := hSW; go_simp; try (with_reducible rfl))
 refine wpAnyL_take (i := 17) (v := ?_) rfl (by kernel_rfl) (by kernel_rfl) (by kernel_rfl) (by kernel_rfl) (fun _ _ _ h => h) (Or.inl ⟨by rfl, ?_⟩) (by assumption) ?_
 rotate_left 1
 · (intro W hSW; obtain ⟨s0, s1, s2, s3, s4, s5⟩ := hSW; go_simp; try (with_reducible rfl))
 refine wpAnyL_take (i := 18) (v := ?_) rfl (by kernel_rfl) (by kernel_rfl) (by kernel_rfl) (by kernel_rfl) (fun _ _ _ h => h) (Or.inl ⟨by rfl, ?_⟩) (by assumption) ?_
 rotate_left 1
 · (intro W hSW; obtain ⟨s0, s1, s2, s3, s4, s5⟩ := hSW; go_simp; try (with_reducible rfl))
 refine wpAnyL_take (i := 19) (v := ?_) rfl (by kernel_rfl) (by kernel_rfl) (by kernel_rfl) (by kernel_rfl) (fun _ _ _ h => h) (Or.inl ⟨by rfl, ?_⟩) (by assumption) ?_
 rotate_left 1
 · (intro W hSW; obtain ⟨s0, s1, s2, s3, s4, s5⟩ := hSW; go_simp; try (with_reducible rfl))
 refine wpAnyL_take (i := 20) (v := ?_) rfl (by kernel_rfl) (by kernel_rfl) (by kernel_rfl) (by kernel_rfl) (fun _ _ _ h => h) (Or.inl ⟨by rfl, ?_⟩) (by assumption) ?_
 rotate_left 1
 · (intro W hSW; obtain ⟨s0, s1, s2, s3, s4, s5⟩ := hSW; go_simp; try (with_reducible rfl))
 refine wpAnyL_one (i := 21) (by kernel_rfl) rfl (fun K hK => ?_)
 go_simp
 refine hK.out _ _ hS5 (fun hH => ?_)
 clear hK K
 refine wpAnyL_done (by kernel_rfl) ?_
 clear hH hHeld hS0 hS5
 go_wp2_with fail
 refine bodyPost_ret (v := SecV o (.slice va vn vc) as_ id nx un) ?_ rfl ⟨rfl, HB.out⟩
 simp [results, Tryz.f29, go_sem, rk, SecV]
theorem cz_ssum {ls : List ByteArray} {x : ByteArray} (h : x ∈ ls) : x.size ≤ ssum ls := by
 induction ls with
 | nil => simp at h
 | cons y ls ih =>
   rcases List.mem_cons.1 h with rfl | h
   · simp only [ssum]; omega
   · have := ih h; simp only [ssum]; omega
theorem cz_fits {ps : List Zp} (h : zsum ps ≤ 1048576) : ∀ p ∈ ps, p.1.own.size ≤ 1048576 ∧ p.1.da.length ≤ 1048576 ∧ ∀ x ∈ p.1.da, x.size ≤ 1048576 := by
 intro p hp
 have h1 := zsum_mem ps p hp
 unfold zs1 at h1
 exact ⟨by omega, by omega, fun x hx => by have := cz_ssum hx; omega⟩
theorem cz_mem {ps qs : List Zp} (h : qs.map (·.1) = ps.map (·.1)) {P : Sz → Prop} (hp : ∀ p ∈ ps, P p.1) : ∀ q ∈ qs, P q.1 := by
 intro q hq
 have : q.1 ∈ qs.map (·.1) := List.mem_map.2 ⟨q, hq, rfl⟩
 rw [h] at this
 obtain ⟨p, hp1, hp2⟩ := List.mem_map.1 this
 rw [← hp2]
 exact hp p hp1
theorem zOK_same {ps qs : List Zp} (h : qs.map (·.1) = ps.map (·.1)) (o : ByteArray) : zOK qs o = zOK ps o := by
 rw [zOK, zOK, zoneRecs_same h, h]
theorem zs_eq {ps qs : List Zp} (h : qs.map (·.1) = ps.map (·.1)) : zsum qs = zsum ps := by
 have e : ∀ xs : List Zp, zsum xs = ((xs.map (·.1)).map zs1).sum := by
  intro xs
  induction xs with
  | nil => rfl
  | cons y xs ih => simp only [zsum, List.map_cons, List.sum_cons, ih]
 rw [e, e, h]
/-- What StartSecondary answers: apex, sets, moments, code. -/
structure Sn where
 o : ByteArray
 ss : List Sz
 nx : Int
 un : Int
 co : Int
def snR (ps : List Zp) (o : ByteArray) (now : Int) : Sn := if stOK ps o now = true then ⟨o, ps.map (·.1), now, now + expN (soaZ (ps.map (·.1)) o), 0⟩ else ⟨⟨#[]⟩, [], 0, 0, 32⟩
def SnP (r : Sn) (w : World) (e : Ending) (w' : World) : Prop := ∃ v qs, e = .returned (.tuple #[SecV r.o v 0 0 r.nx r.un, .int .i64 r.co]) ∧ qs.map (·.1) = r.ss ∧ ZOwn w' w.heap.size v qs ∧ Below w.heap.size w w'
set_option maxRecDepth 100000 in
set_option maxHeartbeats 3200000 in
theorem implStartSecondary_any (o : ByteArray) (v : Value) (ps : List Zp) (now : Int) (w : World) (h : ZRow w v ps) (hs : zsum ps ≤ 1048576) (hf : ∀ p ∈ ps, p.1.own.size ≤ 1048576 ∧ ∀ x ∈ p.1.da, x.size ≤ 1048576) (ha : o.size ≤ 1000000000) :
 Calls Tryz.prog 8 #[.agg #[.string o, v], .int .i64 now] w (SnP (snR ps o now) w) := by
 obtain ⟨va, vc, rfl⟩ : ∃ va vc, v = .slice va ps.length vc := by obtain ⟨⟨_, a, c, e, _⟩, _⟩ := h; exact ⟨a, c, e⟩
 have b0 := (Below.refl w.heap.size w).alloc (Nat.le_refl _) (.cells #[.string o, .slice va ps.length vc] 28)
 have b1 := b0.alloc b0.size (.cells #[.string ⟨#[]⟩, .slice none 0 0, .int .i64 0, .int .i64 0, .int .i64 0, .int .i64 0] 30)
 have k0 := blk_alloc (blk_new w #[.string o, .slice va ps.length vc] 28) (.cells #[.string ⟨#[]⟩, .slice none 0 0, .int .i64 0, .int .i64 0, .int .i64 0, .int .i64 0] 30)
 have kS := blk_new (w.alloc (.cells #[.string o, .slice va ps.length vc] 28)) #[.string ⟨#[]⟩, .slice none 0 0, .int .i64 0, .int .i64 0, .int .i64 0, .int .i64 0] 30
 rw [World.size_alloc] at kS
 have hfo := follow_any o (.slice va ps.length vc) ps now _ (h.below b1) hs hf ha
 unfold SecV at hfo
 have r0 := fun i => blk_cell k0 i
 obtain ⟨R, hR⟩ : ∃ R, R = snR ps o now := ⟨_, rfl⟩
 have HR := Nm.hide hR
 rw [← hR]
 have HH := Nm.hide (And.intro h (And.intro hs hf))
 clear h hf hs hR
 go_enter Tryz.func8, Tryz.ntmps8
 go_wp2_with fail
 refine hfo.mono ?_
 rintro e w1 ⟨hb1, ⟨hz, rfl⟩ | ⟨hz, p, v3, qs, r, rfl, hp, hF, hq, hZ, hr1, hr2, hr3, hr4⟩⟩
 · have bw1 := Nm.below_two b1 hb1
   have kS1 := blk_below kS hb1
   have rz := fun i => blk_cell kS1 i
   have fz := fun i => blk_frozen kS1 i
   have hR0 : R = ⟨⟨#[]⟩, [], 0, 0, 32⟩ := by rw [HR.out, snR, hz]; rfl
   subst hR0
   obtain ⟨k4, bw4, -⟩ := sec_store (x0 := .string ⟨#[]⟩) (x1 := .slice none 0 0) (x2 := .int .i64 0) (x3 := .int .i64 0) (x4 := .int .i64 0) (x5 := .int .i64 0) kS1 bw1 (Nat.le_succ _)
   have rk := fun i => blk_cell k4 i
   have HB := Nm.hide bw4
   clear HR hz hfo k0 kS kS1 b0 b1 hb1 r0 k4 bw4 bw1
   go_wp2_with fail
   refine bodyPost_ret (v := .tuple #[SecV ⟨#[]⟩ (.slice none 0 0) 0 0 0 0, .int .i64 32]) ?_ rfl ⟨_, [], rfl, rfl, ZOwn.nil _ _, HB.out⟩
   simp [results, Tryz.f8, go_sem, rk, SecV]
 · have bw1 := Nm.below_two b1 hb1
   have kS1 := blk_below kS hb1
   have hR0 : R = ⟨o, ps.map (·.1), now, now + expN (soaZ (ps.map (·.1)) o), 0⟩ := by rw [HR.out, snR, if_pos hz]
   rw [← hr2] at hR0
   subst hR0
   rw [World.size_alloc, World.size_alloc] at hp
   have hnow : 0 ≤ now ∧ now ≤ 281474976710655 := by
    rw [stOK] at hz
    simp only [Bool.and_eq_true, decide_eq_true_eq] at hz
    exact hz.2
   obtain ⟨xa, xc, hv3⟩ := own_sl hZ.outer
   subst hv3
   have hfi := folIn_any p o _ qs 0 0 0 0 now r w1.drew (blk_drew hF) (hZ.zrow.below (Below.refl _ _).drew) (by rw [zs_eq hq]; exact HH.out.2.1) (cz_mem hq (P := fun s => ∀ x ∈ s.da, x.size ≤ 1048576) (fun q hq' => (HH.out.2.2 q hq').2)) hr1 hr4 hr3 hnow
   obtain ⟨x1, x2⟩ := expN_fit (soa_size hr3).1
   have HC : Hid (∀ W, Below w1.heap.size w1 W → W.cell? ⟨p, 6, none⟩ = some (.int .i64 now)) := fun W hW => (blk_cell (blk_below hF hW) 6).trans rfl
   have hS0 := HC.out _ (Below.refl _ _).drew
   generalize expN r.da = EX at *
   clear HR hz hfo k0 kS b0 b1 hb1 r0 hr1 hr2 hr3 hr4
   go_wp2
   refine wp_region_last (fun X => X.cell? ⟨p, 6, none⟩ = some (.int .i64 now)) 1000 (by kernel_rfl) hS0 (fun hHeld => ?_)
   refine wpAnyL_take (i := 0) (v := ?_) rfl (by kernel_rfl) (by kernel_rfl) (by kernel_rfl) (by kernel_rfl) (fun _ _ _ h => h) (Or.inl ⟨by rfl, ?_⟩) (by assumption) ?_
   rotate_left 1
   · (intro W hSW; go_simp; try (with_reducible rfl))
   refine wpAnyL_take (i := 1) (v := ?_) rfl (by kernel_rfl) (by kernel_rfl) (by kernel_rfl) (by kernel_rfl) (fun _ _ _ h => h) (Or.inl ⟨by rfl, ?_⟩) (by assumption) ?_
   rotate_left 1
   · (intro W hSW; go_simp; try (with_reducible rfl))
   refine wpAnyL_take (i := 2) (v := ?_) rfl (by kernel_rfl) (by kernel_rfl) (by kernel_rfl) (by kernel_rfl) (fun _ _ _ h => h) (Or.inl ⟨by rfl, ?_⟩) (by assumption) ?_
   rotate_left 1
   · (intro W hSW; go_simp; try (with_reducible rfl))
   refine wpAnyL_take (i := 3) (v := ?_) rfl (by kernel_rfl) (by kernel_rfl) (by kernel_rfl) (by kernel_rfl) (fun _ _ _ h => h) (Or.inl ⟨by rfl, ?_⟩) (by assumption) ?_
   rotate_left 1
   · (intro W hSW; go_simp; try (with_reducible rfl))
   refine wpAnyL_take (i := 4) (v := ?_) rfl (by kernel_rfl) (by kernel_rfl) (by kernel_rfl) (by kernel_rfl) (fun _ _ _ h => h) (Or.inl ⟨by rfl, ?_⟩) (by assumption) ?_
   rotate_left 1
   · (intro W hSW; go_simp; try (with_reducible rfl))
   refine wpAnyL_take (i := 5) (v := ?_) rfl (by kernel_rfl) (by kernel_rfl) (by kernel_rfl) (by kernel_rfl) (fun _ _ _ h => h) (Or.inl ⟨by rfl, ?_⟩) (by assumption) ?_
   rotate_left 1
   · (intro W hSW; go_simp; try (with_reducible rfl))
   refine wpAnyL_take (i := 6) (v := ?_) rfl (by kernel_rfl) (by kernel_rfl) (by kernel_rfl) (by kernel_rfl) (fun _ _ _ h => h) (Or.inl ⟨by rfl, ?_⟩) (by assumption) ?_
   rotate_left 1
   · (intro W hSW; go_simp; try (with_reducible rfl))
   refine wpAnyL_one (i := 7) (by kernel_rfl) rfl (fun K hK => ?_)
   go_simp
   refine hfi.mono ?_
   rintro e w2 ⟨rfl, b2⟩
   have b2' : Below w1.heap.size w1 w2 := Nm.below_two (Below.refl _ _).drew b2
   have hF2 := blk_below hF b2'
   have rF2 := fun i => blk_cell hF2 i
   have fF2 := fun i => blk_frozen hF2 i
   have hF3 := blk_set hF2 4 (.int .i64 now)
   have rF3 := fun i => blk_cell hF3 i
   have fF3 := fun i => blk_frozen hF3 i
   have hF4 := blk_set hF3 5 (.int .i64 (now + EX))
   simp only [List.setIfInBounds_toArray, List.set_cons_zero, List.set_cons_succ] at hF3 hF4 rF3
   go_wp2_with fail
   refine hK.out _ _ (HC.out _ b2') (fun hH => ?_)
   clear hK K
   refine wpAnyL_take (i := 8) (v := ?_) rfl (by kernel_rfl) (by kernel_rfl) (by kernel_rfl) (by kernel_rfl) (fun _ _ _ h => h) (Or.inl ⟨by rfl, ?_⟩) (by assumption) ?_
   rotate_left 1
   · (intro W hSW; go_simp; try (with_reducible rfl))
   refine wpAnyL_take (i := 9) (v := ?_) rfl (by kernel_rfl) (by kernel_rfl) (by kernel_rfl) (by kernel_rfl) (fun _ _ _ h => h) (Or.inl ⟨by rfl, ?_⟩) (by assumption) ?_
   rotate_left 1
   · (intro W hSW; go_simp; try (with_reducible rfl))
   refine wpAnyL_one (i := 10) (by kernel_rfl) rfl (fun K hK => ?_)
   go_simp
   refine hK.out _ _ ((blk_cell hF3 6).trans rfl) (fun hH2 => ?_)
   clear hK K
   refine wpAnyL_take (i := 11) (v := ?_) rfl (by kernel_rfl) (by kernel_rfl) (by kernel_rfl) (by kernel_rfl) (fun _ _ _ h => h) (Or.inl ⟨by rfl, ?_⟩) (by assumption) ?_
   rotate_left 1
   · (intro W hSW; go_simp; try (with_reducible rfl))
   refine wpAnyL_take (i := 12) (v := ?_) rfl (by kernel_rfl) (by kernel_rfl) (by kernel_rfl) (by kernel_rfl) (fun _ _ _ h => h) (Or.inl ⟨by rfl, ?_⟩) (by assumption) ?_
   rotate_left 1
   · (intro W hSW; go_simp; try (with_reducible rfl))
   refine wpAnyL_one (i := 13) (by kernel_rfl) rfl (fun K hK => ?_)
   go_simp
   refine hK.out _ _ ((blk_cell hF4 6).trans rfl) (fun hH3 => ?_)
   clear hK K
   refine wpAnyL_done (by kernel_rfl) ?_
   clear hH hH2 hH3 hHeld hS0 rF2 fF2 rF3 fF3 hfi
   have hsec := folSec_any p o xa qs.length xc 0 0 now (now + EX) now _ hF4
   unfold SecV at hsec
   have hZ2 := ((hZ.below b2').far (g := p) (i := 4) (y := .int .i64 now) (Nat.lt_succ_self _)).far (g := p) (i := 5) (y := .int .i64 (now + EX)) (Nat.lt_succ_self _)
   have bw2 := (((Nm.below_two bw1 b2').setCell (p := ⟨p, 4, none⟩) (by show w.heap.size ≤ p; omega) (.int .i64 now)).setCell (p := ⟨p, 5, none⟩) (by show w.heap.size ≤ p; omega) (.int .i64 (now + EX)))
   have kS2 := blk_far (i := 5) (v := .int .i64 (now + EX)) (blk_far (i := 4) (v := .int .i64 now) (blk_below kS1 b2') (c := p) (by omega)) (c := p) (by omega)
   clear hF hF2 hF3 hF4 HC hZ kS1 b2 b2'
   go_wp2_with fail
   refine hsec.mono ?_
   rintro e w4 ⟨rfl, b4⟩
   have kS4 := blk_below kS2 b4
   have rz := fun i => blk_cell kS4 i
   have fz := fun i => blk_frozen kS4 i
   obtain ⟨k5, bw5, hg5⟩ := sec_store (x0 := .string o) (x1 := .slice xa qs.length xc) (x2 := .int .i64 0) (x3 := .int .i64 0) (x4 := .int .i64 now) (x5 := .int .i64 (now + EX)) kS4 (Nm.below_two bw2 b4) (Nat.le_succ _)
   have hZ5 := (((hZ2.below b4).beside hg5 (fun g e => by cases e; exact fun e' => by have := ((hZ2.below b4).outer.lt _ e').1; omega) (fun g e q hq' => by
    cases e
    obtain ⟨i, hi⟩ := List.getElem?_of_mem hq'
    exact fun e' => by have := (((hZ2.below b4).inner i q hi).lt _ e').1; omega)).base (B' := w.heap.size) (by omega))
   have rk := fun i => blk_cell k5 i
   have HB := Nm.hide (And.intro bw5 hZ5)
   clear kS4 kS2 k5 bw5 hZ5 hZ2 hg5 bw2 b4 hsec
   go_wp2_with fail
   refine bodyPost_ret (v := .tuple #[SecV o (.slice xa qs.length xc) 0 0 now (now + EX), .int .i64 0]) ?_ rfl ⟨_, qs, rfl, hq, HB.out.2, HB.out.1⟩
   simp [results, Tryz.f8, go_sem, rk, SecV]
theorem stOK_ap {ps : List Zp} {o : ByteArray} (hz : zOK ps o = true) : ∃ al, Nm.split o = some al := by
 have h0 := (zOK_recs hz).1
 cases hq : Nm.split o with
 | some al => exact ⟨al, rfl⟩
 | none => rw [bldE, if_pos (by rw [hq]; rfl)] at h0; exact absurd h0 (by decide)
set_option maxRecDepth 100000 in
set_option maxHeartbeats 3200000 in
theorem specStartSecondary_any (o : ByteArray) (v : Value) (ps : List Zp) (now : Int) (w : World) (h : ZRow w v ps) (hs : zsum ps ≤ 1048576) (hl : ps.length ≤ 1048576) (hf : ∀ p ∈ ps, p.1.own.size ≤ 1048576 ∧ p.1.da.length ≤ 1048576 ∧ ∀ x ∈ p.1.da, x.size ≤ 1048576) (ha : o.size ≤ maxLen) :
 Calls Tryz.prog 6 #[.agg #[.string o, v], .int .i64 now] w (SnP (snR ps o now) w) := by
 obtain ⟨va, vc, rfl⟩ : ∃ va vc, v = .slice va ps.length vc := by obtain ⟨⟨_, a, c, e, _⟩, _⟩ := h; exact ⟨a, c, e⟩
 have b0 := (Below.refl w.heap.size w).alloc (Nat.le_refl _) (.cells #[.string o, .slice va ps.length vc] 28)
 have b1 := b0.alloc b0.size (.cells #[.string ⟨#[]⟩, .slice none 0 0, .int .i64 0, .int .i64 0, .int .i64 0, .int .i64 0] 30)
 have k0 := blk_alloc (blk_new w #[.string o, .slice va ps.length vc] 28) (.cells #[.string ⟨#[]⟩, .slice none 0 0, .int .i64 0, .int .i64 0, .int .i64 0, .int .i64 0] 30)
 have kS := blk_new (w.alloc (.cells #[.string o, .slice va ps.length vc] 28)) #[.string ⟨#[]⟩, .slice none 0 0, .int .i64 0, .int .i64 0, .int .i64 0, .int .i64 0] 30
 rw [World.size_alloc] at kS
 have hck := specCheckZone_any o (.slice va ps.length vc) ps _ (h.below b1) hs hl (fun p hp => ⟨(hf p hp).1, (hf p hp).2.2⟩) ha
 have hin := fun W => l04In_any now 281474976710655 W
 have r0 := fun i => blk_cell k0 i
 have HH := Nm.hide (And.intro h (And.intro hl hf))
 obtain ⟨NB, hNB⟩ : ∃ NB, NB = (decide (0 ≤ now) && decide (now ≤ 281474976710655)) := ⟨_, rfl⟩
 rw [← hNB] at hin
 have HST : Hid (stOK ps o now = (zOK ps o && NB)) := by show _ = _; rw [stOK, hNB]
 have HNB := Nm.hide hNB
 obtain ⟨R, hR⟩ : ∃ R, R = snR ps o now := ⟨_, rfl⟩
 have HR := Nm.hide hR
 rw [← hR]
 clear h hf hs hR hNB b0
 by_cases hst : stOK ps o now = true
 · have hz : zOK ps o = true := by rw [HST.out, Bool.and_eq_true] at hst; exact hst.1
   have hnb : NB = true := by rw [HST.out, Bool.and_eq_true] at hst; exact hst.2
   have hnow : 0 ≤ now ∧ now ≤ 281474976710655 := by rw [HNB.out] at hnb; simpa using hnb
   subst hnb
   rw [hz] at hck
   simp only [if_true] at hck
   obtain ⟨al, hal⟩ := stOK_ap hz
   obtain ⟨s, d, ds, m1, m2, m3, m4, m5⟩ := soa_model hz hal
   have hR1 : R = ⟨o, ps.map (·.1), now, now + expN d, 0⟩ := by rw [HR.out, snR, if_pos hst, m3]
   subst hR1
   obtain ⟨x1, x2⟩ := expN_fit (soa_size m4).1
   obtain ⟨sp, hsp, esp⟩ := List.mem_map.1 m5
   have hcz := fun W (hW : Below w.heap.size w W) => l10CopyZone_any o (.slice va ps.length vc) ps W (HH.out.1.below hW) HH.out.2.1 (fun p hp => (HH.out.2.2 p hp).2.1)
   have hnu := fun W (hW : Below w.heap.size w W) => l15Number_any o (.slice va ps.length vc) ps s d ds W (HH.out.1.below hW) HH.out.2.1 (fun p hp => ⟨(HH.out.2.2 p hp).1, (HH.out.2.2 p hp).2.1⟩) ha m1 m2 (by rw [← esp]; exact (HH.out.2.2 sp hsp).2.1) m4
   have HCN := Nm.hide (And.intro hcz hnu)
   generalize expN d = EX at *
   have hwr : IntKind.i64.wrap (now + EX) = now + EX := Go.wrap_small _ (by omega) (by omega)
   obtain ⟨hn0, hn1⟩ := hnow
   clear hcz hnu m1 m2 m3 m4 m5 hal hz hst HR esp hsp
   go_enter Tryz.func6, Tryz.ntmps6
   go_wp2_with fail
   refine hck.mono ?_
   rintro e w1 ⟨rfl, hb1⟩
   have bw1 := Nm.below_two b1 hb1
   have kS1 := blk_below kS hb1
   have k1 := blk_below k0 hb1
   clear hck kS k0 r0 b1 hb1
   go_wp2_with (go_at_call 23; refine (hin _).mono ?_; rintro e w2 ⟨rfl, hw⟩; obtain rfl : _ = w2 := hw.symm; clear hw)
   refine wp_region_last (fun W => Below w.heap.size w W ∧ Blk W w.heap.size #[.string o, .slice va ps.length vc] 28) 1000 (by kernel_rfl) ⟨bw1.drew, blk_drew k1⟩ (fun hHeld => ?_)
   refine wpAnyL_take (i := 0) (v := ?_) rfl (by kernel_rfl) (by kernel_rfl) (by kernel_rfl) (by kernel_rfl) (fun _ _ _ h => h) (Or.inl ⟨by rfl, ?_⟩) (by assumption) ?_
   rotate_left 1
   · (rintro W ⟨s1, s2⟩; have ss2 := (fun i => blk_cell s2 i); go_simp; first | done | rfl)
   refine wpAnyL_take (i := 2) (v := ?_) rfl (by kernel_rfl) (by kernel_rfl) (by kernel_rfl) (by kernel_rfl) (fun _ _ _ h => h) (Or.inl ⟨by rfl, ?_⟩) (by assumption) ?_
   rotate_left 1
   · (rintro W ⟨s1, s2⟩; have ss2 := (fun i => blk_cell s2 i); go_simp; first | done | rfl)
   refine wpAnyL_take (i := 3) (v := ?_) rfl (by kernel_rfl) (by kernel_rfl) (by kernel_rfl) (by kernel_rfl) (fun _ _ _ h => h) (Or.inl ⟨by rfl, ?_⟩) (by assumption) ?_
   rotate_left 1
   · (rintro W ⟨s1, s2⟩; have ss2 := (fun i => blk_cell s2 i); go_simp; first | done | rfl)
   refine wpAnyL_take (i := 4) (v := ?_) rfl (by kernel_rfl) (by kernel_rfl) (by kernel_rfl) (by kernel_rfl) (fun _ _ _ h => h) (Or.inl ⟨by rfl, ?_⟩) (by assumption) ?_
   rotate_left 1
   · (rintro W ⟨s1, s2⟩; have ss2 := (fun i => blk_cell s2 i); go_simp; first | done | rfl)
   refine wpAnyL_one (i := 1) (by kernel_rfl) rfl (fun K hK => ?_)
   go_simp
   refine (HCN.out.1 _ bw1.drew).mono ?_
   rintro e w2 ⟨u2, qs, rfl, hq, hZ, b2⟩
   obtain ⟨xa, xc, eu⟩ := own_sl hZ.outer
   subst eu
   have bw2 := Nm.below_two bw1.drew b2
   have k2 := blk_below (blk_drew k1) b2
   have kS2 := blk_below (blk_drew kS1) b2
   go_wp2_with fail
   refine hK.out _ _ ⟨bw2, k2⟩ (fun hH => ?_)
   clear hK K
   refine wpAnyL_one (i := 5) (by kernel_rfl) rfl (fun K hK => ?_)
   go_simp
   refine (HCN.out.2 _ bw2).mono ?_
   rintro e w3 ⟨rfl, b3⟩
   have bw3 := Nm.below_two bw2 b3
   have k3 := blk_below k2 b3
   have kS3 := blk_below kS2 b3
   have hZ3 := hZ.below b3
   go_wp2_with fail
   refine hK.out _ _ ⟨bw3, k3⟩ (fun hH2 => ?_)
   clear hK K
   refine wpAnyL_take (i := 6) (v := ?_) rfl (by kernel_rfl) (by kernel_rfl) (by kernel_rfl) (by kernel_rfl) (fun _ _ _ h => h) (Or.inl ⟨by rfl, ?_⟩) (by assumption) ?_
   rotate_left 1
   · (rintro W ⟨s1, s2⟩; have ss2 := (fun i => blk_cell s2 i); go_simp; first | done | rfl)
   refine wpAnyL_take (i := 7) (v := ?_) rfl (by kernel_rfl) (by kernel_rfl) (by kernel_rfl) (by kernel_rfl) (fun _ _ _ h => h) (Or.inl ⟨by rfl, ?_⟩) (by assumption) ?_
   rotate_left 1
   · (rintro W ⟨s1, s2⟩; have ss2 := (fun i => blk_cell s2 i); go_simp; first | done | rfl)
   have rz := fun i => blk_cell kS3 i
   have fz := fun i => blk_frozen kS3 i
   obtain ⟨k5, bw5, hg5⟩ := sec_store (x0 := .string o) (x1 := .slice xa qs.length xc) (x2 := .int .i64 0) (x3 := .int .i64 0) (x4 := .int .i64 now) (x5 := .int .i64 (now + EX)) kS3 bw3 (Nat.le_succ _)
   have kz5 := blk_grown k3 hg5 (fun e => by simp at e)
   have hlw : w.heap.size + 1 < w1.drew.heap.size := blk_lt kS1
   have hZ5 := ((hZ3.beside hg5 (fun z e => by cases e; exact fun e' => by have := (hZ3.outer.lt _ e').1; omega) (fun z e q hq' => by
    cases e
    obtain ⟨i, hi⟩ := List.getElem?_of_mem hq'
    exact fun e' => by have := ((hZ3.inner i q hi).lt _ e').1; omega)).base (B' := w.heap.size) (by omega))
   refine wpAnyL_one (i := 8) (by kernel_rfl) rfl (fun K hK => ?_)
   go_simp
   refine hK.out _ _ ⟨bw5, kz5⟩ (fun hH3 => ?_)
   clear hK K
   refine wpAnyL_one (i := 9) (by kernel_rfl) rfl (fun K hK => ?_)
   go_simp
   refine hK.out _ _ ⟨bw5, kz5⟩ (fun hH4 => ?_)
   clear hK K
   refine wpAnyL_done (by kernel_rfl) ?_
   have rk := fun i => blk_cell k5 i
   have HB := Nm.hide (And.intro bw5 hZ5)
   clear hH hH2 hH3 hH4 hHeld kS1 kS2 kS3 k1 k2 k3 kz5 k5 bw5 hZ5 hZ3 hZ hg5 bw1 bw2 bw3 b2 b3 rz fz
   go_wp2_with fail
   refine bodyPost_ret (v := .tuple #[SecV o (.slice xa qs.length xc) 0 0 now (now + EX), .int .i64 0]) ?_ rfl ⟨_, qs, rfl, hq, HB.out.2, HB.out.1⟩
   simp [results, Tryz.f6, go_sem, rk, SecV]
 · have hsf : stOK ps o now = false := by simpa using hst
   have hR0 : R = ⟨⟨#[]⟩, [], 0, 0, 32⟩ := by rw [HR.out, snR, hsf]; rfl
   subst hR0
   rw [HST.out] at hsf
   clear HR hst HST HNB HH
   go_enter Tryz.func6, Tryz.ntmps6
   go_wp2_with fail
   refine hck.mono ?_
   rintro e w1 ⟨rfl, hb1⟩
   have bw1 := Nm.below_two b1 hb1
   have kS1 := blk_below kS hb1
   have rz := fun i => blk_cell kS1 i
   have fz := fun i => blk_frozen kS1 i
   obtain ⟨k4, bw4, -⟩ := sec_store (x0 := .string ⟨#[]⟩) (x1 := .slice none 0 0) (x2 := .int .i64 0) (x3 := .int .i64 0) (x4 := .int .i64 0) (x5 := .int .i64 0) kS1 bw1 (Nat.le_succ _)
   have rk := fun i => blk_cell k4 i
   have HB := Nm.hide bw4
   clear hck kS kS1 k0 r0 b1 hb1 k4 bw4 bw1
   cases hz : zOK ps o with
   | false =>
     simp only [Bool.false_eq_true, if_false]
     clear hz hsf
     go_wp2_with fail
     refine bodyPost_ret (v := .tuple #[SecV ⟨#[]⟩ (.slice none 0 0) 0 0 0 0, .int .i64 32]) ?_ rfl ⟨_, [], rfl, rfl, ZOwn.nil _ _, HB.out⟩
     simp [results, Tryz.f6, go_sem, rk, SecV]
   | true =>
     have hnb : NB = false := by rw [hz, Bool.true_and] at hsf; exact hsf
     subst hnb
     simp only [if_true]
     clear hz hsf
     go_wp2_with fail
     refine (hin _).mono ?_
     rintro e w2 ⟨rfl, hw⟩
     obtain rfl : w1 = w2 := hw.symm
     clear hw
     go_wp2_with fail
     refine bodyPost_ret (v := .tuple #[SecV ⟨#[]⟩ (.slice none 0 0) 0 0 0 0, .int .i64 32]) ?_ rfl ⟨_, [], rfl, rfl, ZOwn.nil _ _, HB.out⟩
     simp [results, Tryz.f6, go_sem, rk, SecV]
end Go.Proofs.YtdcbhohlglncnaaGreat
/- Marks of strings: what is held. -/
namespace Go.Proofs.YtdcbhohlglncnaaGreat
open Go.RowKit
/-- The marks from number k on, n of them. -/
def mks (k n : Nat) : List ByteArray := (List.range n).map (fun i => mkS (k + i))
theorem mks_get {k n i : Nat} (h : i < n) : (mks k n)[i]? = some (mkS (k + i)) := by simp [mks, h]
theorem mks_len (k n : Nat) : (mks k n).length = n := by simp [mks]
theorem mks_set {k n i : Nat} {xs : List Value} (hl : xs.length = n) (h : i < n) :
 (((mks k n).take i).map Value.string ++ xs.drop i).set i (.string (mkS (k + i))) = ((mks k n).take (i + 1)).map Value.string ++ xs.drop (i + 1) := by
 have h1 : (((mks k n).take i).map Value.string).length = i := by simp [mks_len]; omega
 rw [Nm.take_step (mks_get h), List.set_append_right _ _ (by omega), h1, List.drop_eq_getElem_cons (by omega : i < xs.length), Nat.sub_self, List.set_cons_zero, List.map_append, List.append_assoc]
 rfl
set_option maxRecDepth 100000 in
set_option maxHeartbeats 800000 in
theorem heldStringS_any (v : Value) (n k : Nat) (w : World) (h : Nm.SRow w v (mks k n)) (hn : n ≤ 1000000) (hk : k ≤ 1000000) :
 Calls Tryz.prog 87 #[v, .int .i64 (k : Int)] w fun e w' => e = .returned (.int .i64 ((k + n : Nat) : Int)) ∧ Below w.heap.size w w' := by
 obtain ⟨a, cap, rfl, hcap, hmx, hnl, hc⟩ := h
 rw [mks_len] at *
 go_enter Tryz.func87, Tryz.ntmps87
 go_wp2
 go_loopw [1, 5] (fun t i wr => ∃ j : Nat, j ≤ n ∧ i = .int .i64 (j : Int) ∧ t = .int .i64 ((k + j : Nat) : Int) ∧ Below w.heap.size w wr)
  (fun _ i _ => n - (intOf i).toNat)
 case atStart => exact ⟨0, Nat.zero_le _, rfl, rfl, Below.refl _ _⟩
 case round =>
  obtain ⟨j, hj, rfl, rfl, hbel⟩ := hrel
  by_cases hlt : j < n
  · obtain ⟨b, off, rfl, hcell⟩ := hc (by intro h; have := mks_len k n; rw [h] at this; simp at this; omega)
    have hx2 := hcell j _ (mks_get hlt)
    have hcx : wr.cell? ⟨b, off + j, none⟩ = some (.string (mkS (k + j))) := (hbel.cell (World.block_lt_of_cell? w _ hx2)).trans hx2
    have hmt : ∀ W : World, (W.cell? ⟨b, off + j, none⟩ = some (.string (mkS (k + j))) ∧ Below w.heap.size w W) → Calls Tryz.prog 55 #[.int .i64 ((k : Int) + (j : Int))] W fun e w' => e = .returned (.string (mkS (k + j))) ∧ (w'.cell? ⟨b, off + j, none⟩ = some (.string (mkS (k + j))) ∧ Below w.heap.size w w') := by
     intro W hS
     have hm := markText_any (k + j) W (by omega)
     rw [show (((k + j : Nat)) : Int) = (k : Int) + (j : Int) by omega] at hm
     refine hm.mono ?_
     rintro e w' ⟨rfl, hbs⟩
     exact ⟨rfl, (hbs.cell (World.block_lt_of_cell? W _ hS.1)).trans hS.1, hS.2.trans (hbs.mono hS.2.size)⟩
    have hS0 : wr.drew.cell? ⟨b, off + j, none⟩ = some (.string (mkS (k + j))) ∧ Below w.heap.size w wr.drew := ⟨hcx, hbel.drew⟩
    have i1 : (0 : Int) ≤ (j : Int) := by omega
    have i2 : (j : Int) < (n : Int) := by omega
    have hbq : ((mkS (k + j)).toList == (mkS (k + j)).toList) = true := by simp
    generalize mkS (k + j) = x at *
    clear hc hcell hx2
    go_wp2
    go_region_held3 (fun w' => w'.cell? ⟨b, off + j, none⟩ = some (.string x) ∧ Below w.heap.size w w') (first | assumption | exact hS0) ((first | (go_at_call 55; refine (hmt _ (by first | assumption | exact hS0)).mono ?_; rintro e w' ⟨rfl, hS1⟩)))
    go_wp2
    go_roundw
    case rel => exact ⟨j + 1, by omega, by go_num, by go_num, hS1.2⟩
    case measure => simp [intOf]; omega
  · have hje : j = n := by omega
    subst hje
    clear hc
    go_wp2
    go_ret
    exact ⟨rfl, hbel⟩
end Go.Proofs.YtdcbhohlglncnaaGreat
/- laws.markStringS of a row of one's own. -/
namespace Go.Proofs.YtdcbhohlglncnaaGreat
open Go.RowKit
set_option linter.unusedVariables false
theorem gr_below {w w1 w2 : World} {row : Option Nat} (h : w.grownBy w1 row) (h2 : Below w1.heap.size w1 w2) : w.grownBy w2 row :=
 ⟨h2.os.trans h.os, h2.tape.trans h.tape, h2.output.trans h.output, Nat.le_trans h.size h2.size, fun k hk hne => (h2.block k (Nat.lt_of_lt_of_le hk h.size)).trans (h.block k hk hne)⟩
set_option maxRecDepth 100000 in
set_option maxHeartbeats 800000 in
theorem markStringS_own (v : Value) (n B k : Nat) (xs : List Value) (w : World) (hown : w.ownsRow B 9 1 v n xs) (hn : n ≤ 1000000) (hk : k ≤ 1000000) :
 Calls Tryz.prog 56 #[v, .int .i64 (k : Int)] w fun e w' => e = .returned (.int .i64 ((k + n : Nat) : Int)) ∧ w'.ownsRow B 9 1 v n ((mks k n).map Value.string) ∧ w.grownBy w' v.ownBlock := by
 have hxl : xs.length = n := by have := hown.1; omega
 rcases Nat.eq_zero_or_pos n with h0 | hpos
 · subst h0
   obtain ⟨a, cap, rfl⟩ : ∃ a cap, v = .slice a 0 cap := by
    rcases hown.2 with ⟨rfl, _⟩ | ⟨g, cap, cur, rfl, _⟩
    · exact ⟨_, _, rfl⟩
    · exact ⟨_, _, rfl⟩
   have hx0 : xs = [] := List.length_eq_zero_iff.1 hxl
   subst hx0
   go_enter Tryz.func56, Tryz.ntmps56
   go_wp2
   go_loop [1, 5] (fun t i => t = .int .i64 (k : Int) ∧ i = .int .i64 0) (fun _ _ => 0)
   case atStart => exact ⟨rfl, rfl⟩
   case round =>
    obtain ⟨rfl, rfl⟩ := hrel
    go_wp2
    go_ret
    exact ⟨rfl, by simpa [mks] using hown, gr_refl _ _⟩
 · obtain ⟨g, cap, rfl, hBg⟩ : ∃ g cap, v = .slice (some ⟨g, 0, none⟩) n cap ∧ B ≤ g := by
    rcases hown.2 with ⟨rfl, h0⟩ | ⟨g, cap, cur, rfl, hb, _⟩
    · omega
    · exact ⟨g, cap, rfl, hb⟩
   have eb : (Value.slice (some ⟨g, 0, none⟩) n cap).ownBlock = some g := rfl
   rw [eb]
   clear eb
   go_enter Tryz.func56, Tryz.ntmps56
   go_wp2
   go_loopw [1, 5] (fun t i wr => ∃ j : Nat, j ≤ n ∧ i = .int .i64 (j : Int) ∧ t = .int .i64 ((k + j : Nat) : Int) ∧ wr.ownsRow B 9 1 (.slice (some ⟨g, 0, none⟩) n cap) n (((mks k n).take j).map Value.string ++ xs.drop j) ∧ w.grownBy wr (some g))
    (fun _ i _ => n - (intOf i).toNat)
   case atStart => exact ⟨0, Nat.zero_le _, rfl, rfl, by simpa using hown, gr_refl _ _⟩
   case round =>
    obtain ⟨j, hj, rfl, rfl, hownj, hbel⟩ := hrel
    clear hown
    by_cases hlt : j < n
    · have HSET := Nm.hide (mks_set (k := k) hxl hlt)
      obtain ⟨y, hy⟩ : ∃ y, wr.cell? ⟨g, j, none⟩ = some y := by
       rw [hownj.cellAt j (by omega)]
       exact ⟨_, List.getElem?_eq_getElem (by simp [mks_len]; omega)⟩
      go_wp2_with (go_at_call 55; refine (markText_any (k + j) _ (by omega)).mono ?_; rintro e w3 ⟨rfl, hbel3⟩; have hown3 := hownj.kept (w' := w3) (row := none) ⟨hbel3.os, hbel3.tape, hbel3.output, hbel3.size, fun k hk _ => hbel3.block k hk⟩ (.inr (by simp [Value.ownBlock])); have hst := hown3.stored j (.string (mkS (k + j))); rw [HSET.out] at hst; have hfz := hown3.frozenAt j; have hc3 : w3.cell? ⟨g, j, none⟩ = some y := (hbel3.cell (World.block_lt_of_cell? wr _ hy)).trans hy; have HR := Nm.hide hst; have HB := Nm.hide (gr_trans (gr_below hbel hbel3) (gr_set w3 g j (.string (mkS (k + j))))); clear hst hown3 hownj)
      go_roundw
      case rel => exact ⟨j + 1, by omega, by go_num, by go_num, HR.out.1, HB.out⟩
      case measure => simp [intOf]; omega
    · have hje : j = n := by omega
      subst hje
      have HR : Hid (wr.ownsRow B 9 1 (.slice (some ⟨g, 0, none⟩) j cap) j ((mks k j).map Value.string)) := by
       show wr.ownsRow _ _ _ _ _ _
       rw [List.take_of_length_le (by rw [mks_len]; omega), List.drop_of_length_le (by omega), List.append_nil] at hownj
       exact hownj
      clear hownj
      go_wp2
      go_ret
      exact ⟨rfl, HR.out, hbel⟩
/-- A set marked from k on. -/
def mkZp (k : Nat) (p : Zp) : Zp := (⟨mkS k, ((k + 1 : Nat) : Int), ((k + 2 : Nat) : Int), mks (k + 3) p.1.da.length⟩, p.2)
def mkZ : Nat → List Zp → List Zp
 | _, [] => []
 | k, p :: ps => mkZp k p :: mkZ (k + (p.1.da.length + 3)) ps
theorem mkZ_len : ∀ (ps : List Zp) (k : Nat), (mkZ k ps).length = ps.length := by
 intro ps
 induction ps with
 | nil => intro k; rfl
 | cons p ps ih => intro k; simp [mkZ, ih]
theorem mkZ_get : ∀ (ps : List Zp) (k j : Nat) (p : Zp), ps[j]? = some p → (mkZ k ps)[j]? = some (mkZp (k + zl (ps.take j)) p) := by
 intro ps
 induction ps with
 | nil => intro k j p h; simp at h
 | cons q ps ih =>
   intro k j p h
   cases j with
   | zero =>
     simp at h
     subst h
     simp [mkZ, zl]
   | succ j =>
     simp at h
     rw [mkZ, List.getElem?_cons_succ, ih _ j p h, List.take_succ_cons, zl, Nat.add_assoc]
theorem mixZ_at {k j : Nat} {ps : List Zp} {p : Zp} (h : ps[j]? = some p) : ((mkZ k ps).take j ++ ps.drop j)[j]? = some p := by
 have hj := (List.getElem?_eq_some_iff.1 h).1
 rw [List.getElem?_append_right (by rw [List.length_take, mkZ_len]; omega), List.length_take, mkZ_len, Nat.min_eq_left (by omega), Nat.sub_self, List.getElem?_drop, Nat.add_zero, h]
theorem mixZ_set {k j : Nat} {ps : List Zp} {p : Zp} (h : ps[j]? = some p) : ((mkZ k ps).take j ++ ps.drop j).set j (mkZp (k + zl (ps.take j)) p) = (mkZ k ps).take (j + 1) ++ ps.drop (j + 1) := by
 have hj := List.getElem?_eq_some_iff.1 h
 have hg := mkZ_get ps k j p h
 have hl : ((mkZ k ps).take j).length = j := by rw [List.length_take, mkZ_len]; have := hj.1; omega
 rw [List.set_append_right _ _ (by omega), hl, Nat.sub_self, List.drop_eq_getElem_cons hj.1, List.set_cons_zero]
 have hg2 := List.getElem?_eq_some_iff.1 hg
 rw [List.take_succ_eq_append_getElem hg2.1, hg2.2, List.append_assoc]
 rfl
/-- A cell of a set is written. -/
theorem ZOwn.cell {w : World} {B g cap n j i : Nat} {ps : List Zp} {p q : Zp} {y : Value} (h : ZOwn w B (.slice (some ⟨g, 0, none⟩) n cap) ps) (hn : n = ps.length) (hp : ps[j]? = some p) (hi : i < 3) (hq2 : q.2 = p.2) (hqd : q.1.da = p.1.da) (hz : (zpV p).set i y = zpV q) : ZOwn (w.setCell ⟨g, j * 4 + i, none⟩ y) B (.slice (some ⟨g, 0, none⟩) n cap) (ps.set j q) := by
 have hj := (List.getElem?_eq_some_iff.1 hp).1
 have e1 : (zpVs ps).set (j * 4 + i) y = zpVs (ps.set j q) := by
  obtain ⟨e2, e3⟩ : ps = ps.take j ++ [p] ++ ps.drop (j + 1) ∧ ps.set j q = ps.take j ++ [q] ++ ps.drop (j + 1) := by
   have hj' := List.getElem?_eq_some_iff.1 hp
   constructor
   · conv => lhs; rw [← List.take_append_drop j ps, List.drop_eq_getElem_cons hj'.1, hj'.2]
     simp
   · rw [List.set_eq_take_append_cons_drop, if_pos hj]
     simp
  have hl : (zpVs (ps.take j)).length = j * 4 := by rw [zpVs_len, List.length_take]; omega
  rw [e3]
  conv => lhs; rw [e2]
  have hp4 : (zpV p).length = 4 := rfl
  rw [zpVs_app, zpVs_app, zpVs_app, zpVs_app, List.append_assoc, List.append_assoc, List.set_append_right _ _ (by omega), hl, show j * 4 + i - j * 4 = i by omega]
  congr 1
  have s1 : zpVs [p] = zpV p := by simp [zpVs]
  have s2 : zpVs [q] = zpV q := by simp [zpVs]
  rw [s1, s2, List.set_append_left _ _ (by omega), hz]
 have ho := h.outer
 rw [← hn] at ho
 have hst := ho.stored (j * 4 + i) y
 rw [e1] at hst
 have far : ∀ {v : Value} {n : Nat} {xs : List Value}, w.ownsRow B 9 1 v n xs → (w.setCell ⟨g, j * 4 + i, none⟩ y).ownsRow B 9 1 v n xs := fun hx => own_far hx (own_kindsZ hx ho (by decide) g rfl)
 refine ⟨by rw [List.length_set, ← hn]; exact hst.1, fun m r hr => ?_, fun a b r s hr hs hne => ?_⟩
 · rw [List.getElem?_set] at hr
   by_cases hm : j = m
   · subst hm
     rw [if_pos rfl, if_pos hj] at hr
     obtain rfl := Option.some.inj hr
     have := h.inner j p hp
     rw [hq2, hqd]
     exact far this
   · rw [if_neg hm] at hr
     exact far (h.inner m r hr)
 · have key : ∀ (m : Nat) (r : Zp), (ps.set j q)[m]? = some r → ∃ r', ps[m]? = some r' ∧ r'.2 = r.2 := by
    intro m r hr
    rw [List.getElem?_set] at hr
    by_cases hm : j = m
    · subst hm
      rw [if_pos rfl, if_pos hj] at hr
      obtain rfl := Option.some.inj hr
      exact ⟨p, hp, hq2.symm⟩
    · rw [if_neg hm] at hr
      exact ⟨r, hr, rfl⟩
   obtain ⟨r', h1, h2⟩ := key a r hr
   obtain ⟨s', h3, h4⟩ := key b s hs
   rw [← h2, ← h4]
   exact h.apart a b r' s' h1 h3 hne
/-- The data of a set are written. -/
theorem ZOwn.data {w w1 : World} {B j : Nat} {v : Value} {ps : List Zp} {p : Zp} {da : List ByteArray} (h : ZOwn w B v ps) (hp : ps[j]? = some p) (hl : da.length = p.1.da.length) (ho : w1.ownsRow B 9 1 p.2 p.1.da.length (da.map Value.string)) (hg : w.grownBy w1 p.2.ownBlock) : ZOwn w1 B v (ps.set j ({ p.1 with da := da }, p.2)) := by
 have hj := (List.getElem?_eq_some_iff.1 hp).1
 have hin := h.inner j p hp
 have e1 : zpVs (ps.set j ({ p.1 with da := da }, p.2)) = zpVs ps := by
  have : ∀ (l : List Zp) (i : Nat) (r : Zp), l[i]? = some r → ∀ q, zpV q = zpV r → zpVs (l.set i q) = zpVs l := by
   intro l
   induction l with
   | nil => intro i r h; simp at h
   | cons x l ih =>
     intro i r h q hq
     cases i with
     | zero =>
       simp at h
       subst h
       rw [List.set_cons_zero, zpVs_cons, zpVs_cons, hq]
     | succ i =>
       simp at h
       rw [List.set_cons_succ, zpVs_cons, zpVs_cons, ih i r h q hq]
  exact this ps j p hp _ rfl
 have key : ∀ (m : Nat) (r : Zp), (ps.set j ({ p.1 with da := da }, p.2))[m]? = some r → (m = j ∧ r = ({ p.1 with da := da }, p.2)) ∨ (m ≠ j ∧ ps[m]? = some r) := by
  intro m r hr
  rw [List.getElem?_set] at hr
  by_cases hm : j = m
  · subst hm
    rw [if_pos rfl, if_pos hj] at hr
    exact .inl ⟨rfl, (Option.some.inj hr).symm⟩
  · rw [if_neg hm] at hr
    exact .inr ⟨fun e => hm e.symm, hr⟩
 refine ⟨by rw [e1, List.length_set]; exact own_besideZ h.outer hg (own_kindsZ h.outer hin (by decide)), fun m r hr => ?_, fun a b r s hr hs hne g e => ?_⟩
 · rcases key m r hr with ⟨_, rfl⟩ | ⟨hm, hr⟩
   · simp only [hl]; exact ho
   · exact own_besideZ (h.inner m r hr) hg (fun g e => fun e' => h.apart m j r p hr hp hm g e' e)
 · rcases key a r hr with ⟨ha, rfl⟩ | ⟨ha, hr⟩ <;> rcases key b s hs with ⟨hb, rfl⟩ | ⟨hb, hs⟩
   · omega
   · exact h.apart a b p s (by rw [ha]; exact hp) hs hne g e
   · exact h.apart a b r p hr (by rw [hb]; exact hp) hne g e
   · exact h.apart a b r s hr hs hne g e
theorem grown_none {w w' : World} (h : Below w.heap.size w w') : w.grownBy w' none := ⟨h.os, h.tape, h.output, h.size, fun k hk _ => h.block k hk⟩
/-- The blocks of a zone's sets. -/
def zfp (v : Value) (ps : List Zp) : List Nat := v.ownBlock.toList ++ ps.flatMap fun p => p.2.ownBlock.toList
theorem gr_outs {fp : List Nat} {w W W' : World} {row : Option Nat} (h : Outs fp w W) (hg : W.grownBy W' row) (hr : ∀ g, row = some g → g ∈ fp) : Outs fp w W' :=
 ⟨hg.os.trans h.os, hg.tape.trans h.tape, hg.output.trans h.output, Nat.le_trans h.size hg.size, fun k hk hn => (hg.block k (Nat.lt_of_lt_of_le hk h.size) (fun e => hn (hr k e.symm))).trans (h.block k hk hn)⟩
set_option maxRecDepth 100000 in
set_option maxHeartbeats 1600000 in
theorem markSetS_own (v : Value) (qs : List Zp) (B k : Nat) (w : World) (h : ZOwn w B v qs) (hn : zl qs ≤ 400000) (hk : k ≤ 100000) :
 Calls Tryz.prog 31 #[v, .int .i64 (k : Int)] w fun e w' => e = .returned (.int .i64 ((k + zl qs : Nat) : Int)) ∧ ZOwn w' B v (mkZ k qs) ∧ Outs (zfp v qs) w w' := by
 have hql := zl_len qs
 have hmt := fun (j : Nat) (hj : j ≤ 1000000000) W => markText_any j W hj
 obtain ⟨a, cap, rfl⟩ := own_sl h.outer
 have hgex : 0 < qs.length → ∃ g, a = some ⟨g, 0, none⟩ := fun hp => by
  rcases h.outer.2 with ⟨e, h0⟩ | ⟨g, c, cur, e, _⟩
  · omega
  · cases e; exact ⟨g, rfl⟩
 have H0 := Nm.hide h
 clear h
 go_enter Tryz.func31, Tryz.ntmps31
 go_wp2
 go_loopw [1, 5] (fun t i wr => ∃ j : Nat, j ≤ qs.length ∧ i = .int .i64 (j : Int) ∧ t = .int .i64 ((k : Int) + (zl (qs.take j) : Int)) ∧ ZOwn wr B (.slice a qs.length cap) ((mkZ k qs).take j ++ qs.drop j) ∧ Outs (zfp (.slice a qs.length cap) qs) w wr) (fun _ i _ => qs.length - (intOf i).toNat)
 case atStart => exact ⟨0, Nat.zero_le _, rfl, by simp [zl], by simpa using H0.out, Outs.below (Below.refl _ _)⟩
 case round =>
  obtain ⟨j, hj, rfl, rfl, hz, hou⟩ := hrel
  by_cases hlt : j < qs.length
  · obtain ⟨q, hq⟩ : ∃ q, qs[j]? = some q := ⟨_, List.getElem?_eq_getElem hlt⟩
    obtain ⟨g, rfl⟩ := hgex (by omega)
    have hmx := mixZ_at (k := k) hq
    have hst := zl_step qs j q hq
    have hle := zl_take_le qs (j + 1)
    have hone := hmt (k + zl (qs.take j)) (by omega) wr
    rw [show ((k + zl (qs.take j) : Nat) : Int) = (k : Int) + (zl (qs.take j) : Int) by omega] at hone
    have hin := hz.inner j q hmx
    obtain ⟨qa, qc, eq⟩ := own_sl hin
    have hlen9 : ((mkZ k qs).take j ++ qs.drop j).length = qs.length := by rw [List.length_append, List.length_take, mkZ_len, List.length_drop]; omega
    have hms : ∀ W, ZOwn W B (.slice (some ⟨g, 0, none⟩) qs.length cap) (((mkZ k qs).take j ++ qs.drop j).set j (⟨mkS (k + zl (qs.take j)), ((k + zl (qs.take j) + 1 : Nat) : Int), ((k + zl (qs.take j) + 2 : Nat) : Int), q.1.da⟩, q.2)) → Calls Tryz.prog 56 #[.slice qa q.1.da.length qc, .int .i64 ((k : Int) + (zl (qs.take j) : Int) + 1 + 1 + 1)] W fun e w' => e = .returned (.int .i64 ((k : Int) + (zl (qs.take (j + 1)) : Int))) ∧ ZOwn w' B (.slice (some ⟨g, 0, none⟩) qs.length cap) ((mkZ k qs).take (j + 1) ++ qs.drop (j + 1)) ∧ W.grownBy w' q.2.ownBlock := by
     intro W hW
     have hget : (((mkZ k qs).take j ++ qs.drop j).set j (⟨mkS (k + zl (qs.take j)), ((k + zl (qs.take j) + 1 : Nat) : Int), ((k + zl (qs.take j) + 2 : Nat) : Int), q.1.da⟩, q.2))[j]? = some (⟨mkS (k + zl (qs.take j)), ((k + zl (qs.take j) + 1 : Nat) : Int), ((k + zl (qs.take j) + 2 : Nat) : Int), q.1.da⟩, q.2) := by
      rw [List.getElem?_set]
      simp only [if_true]
      rw [if_pos (by omega)]
     have hi2 := hW.inner j _ hget
     simp only at hi2
     have hm9 := markStringS_own q.2 q.1.da.length B (k + zl (qs.take j) + 3) _ W hi2 (by omega) (by omega)
     rw [eq] at hm9
     rw [show ((k + zl (qs.take j) + 3 : Nat) : Int) = (k : Int) + (zl (qs.take j) : Int) + 1 + 1 + 1 by omega] at hm9
     refine hm9.mono ?_
     rintro e w' ⟨rfl, ho, hg⟩
     refine ⟨by rw [show (k + zl (qs.take j) + 3 + q.1.da.length : Nat) = k + zl (qs.take (j + 1)) by omega]; congr 2, ?_, by rw [eq]; exact hg⟩
     have hd := hW.data (da := mks (k + zl (qs.take j) + 3) q.1.da.length) hget (by rw [mks_len]) (by rw [eq]; exact ho) (by rw [eq]; exact hg)
     rw [List.set_set] at hd
     rw [← mixZ_set hq]
     exact hd
    have hc0 : ∀ W, wr.grownBy W none → W.cell? ⟨g, j * 4, none⟩ = some (.string q.1.own) ∧ W.cell? ⟨g, j * 4 + 1, none⟩ = some (.int .i64 q.1.ty) ∧ W.cell? ⟨g, j * 4 + 2, none⟩ = some (.int .i64 q.1.tt) ∧ W.cell? ⟨g, j * 4 + 3, none⟩ = some (.slice qa q.1.da.length qc) := by
     have ho := hz.outer
     rw [hlen9] at ho
     have c0 := (ho.cellAt (j * 4) (by omega)).trans (zpVs_at _ j 0 q hmx (by decide))
     have c1 := (ho.cellAt (j * 4 + 1) (by omega)).trans (zpVs_at _ j 1 q hmx (by decide))
     have c2 := (ho.cellAt (j * 4 + 2) (by omega)).trans (zpVs_at _ j 2 q hmx (by decide))
     have c3 := (ho.cellAt (j * 4 + 3) (by omega)).trans (zpVs_at _ j 3 q hmx (by decide))
     rw [← eq]
     intro W hW
     have hk := fun (i : Nat) => World.cell?_of_block (w := wr) (w' := W) (a := ⟨g, i, none⟩) (hW.block g (World.block_lt_of_cell? wr _ c0) (by simp))
     exact ⟨(hk _).trans c0, (hk _).trans c1, (hk _).trans c2, (hk _).trans c3⟩
    have hfz : ∀ W i, wr.grownBy W none → W.frozen? ⟨g, i, none⟩ = false := by
     intro W i hW
     have ho := own_besideZ hz.outer hW (fun g e => by cases e)
     rw [hlen9] at ho
     exact ho.frozenAt i
    have hgq : g ∈ zfp (.slice (some ⟨g, 0, none⟩) qs.length cap) qs := by simp [zfp, Value.ownBlock]
    have hqq : ∀ g', q.2.ownBlock = some g' → g' ∈ zfp (.slice (some ⟨g, 0, none⟩) qs.length cap) qs := fun g' e => by
     simp only [zfp, List.mem_append, List.mem_flatMap]
     exact .inr ⟨q, List.mem_of_getElem? hq, by rw [e]; simp⟩
    have hstores : ∀ W, Below wr.heap.size wr W → ZOwn (((W.setCell ⟨g, j * 4, none⟩ (.string (mkS (k + zl (qs.take j))))).setCell ⟨g, j * 4 + 1, none⟩ (.int .i64 ((k : Int) + (zl (qs.take j) : Int) + 1))).setCell ⟨g, j * 4 + 2, none⟩ (.int .i64 ((k : Int) + (zl (qs.take j) : Int) + 1 + 1))) B (.slice (some ⟨g, 0, none⟩) qs.length cap) (((mkZ k qs).take j ++ qs.drop j).set j (⟨mkS (k + zl (qs.take j)), ((k + zl (qs.take j) + 1 : Nat) : Int), ((k + zl (qs.take j) + 2 : Nat) : Int), q.1.da⟩, q.2)) := by
     intro W hW
     have z1 := hz.below hW
     have zA := ZOwn.cell (i := 0) (y := .string (mkS (k + zl (qs.take j)))) (q := (⟨mkS (k + zl (qs.take j)), q.1.ty, q.1.tt, q.1.da⟩, q.2)) z1 hlen9.symm hmx (by decide) rfl rfl rfl
     have gA : (((mkZ k qs).take j ++ qs.drop j).set j (⟨mkS (k + zl (qs.take j)), q.1.ty, q.1.tt, q.1.da⟩, q.2))[j]? = some (⟨mkS (k + zl (qs.take j)), q.1.ty, q.1.tt, q.1.da⟩, q.2) := by
      rw [List.getElem?_set]
      simp only [if_true]
      rw [if_pos (by omega)]
     have zB := ZOwn.cell (i := 1) (y := .int .i64 ((k : Int) + (zl (qs.take j) : Int) + 1)) (q := (⟨mkS (k + zl (qs.take j)), (k : Int) + (zl (qs.take j) : Int) + 1, q.1.tt, q.1.da⟩, q.2)) zA (by rw [List.length_set, hlen9]) gA (by decide) rfl rfl rfl
     rw [List.set_set] at zB
     have gB : (((mkZ k qs).take j ++ qs.drop j).set j (⟨mkS (k + zl (qs.take j)), (k : Int) + (zl (qs.take j) : Int) + 1, q.1.tt, q.1.da⟩, q.2))[j]? = some (⟨mkS (k + zl (qs.take j)), (k : Int) + (zl (qs.take j) : Int) + 1, q.1.tt, q.1.da⟩, q.2) := by
      rw [List.getElem?_set]
      simp only [if_true]
      rw [if_pos (by omega)]
     have zC := ZOwn.cell (i := 2) (y := .int .i64 ((k : Int) + (zl (qs.take j) : Int) + 1 + 1)) (q := (⟨mkS (k + zl (qs.take j)), (k : Int) + (zl (qs.take j) : Int) + 1, (k : Int) + (zl (qs.take j) : Int) + 1 + 1, q.1.da⟩, q.2)) zB (by rw [List.length_set, hlen9]) gB (by decide) rfl rfl rfl
     rw [List.set_set] at zC
     rw [show ((k + zl (qs.take j) + 1 : Nat) : Int) = (k : Int) + (zl (qs.take j) : Int) + 1 by omega, show ((k + zl (qs.take j) + 2 : Nat) : Int) = (k : Int) + (zl (qs.take j) : Int) + 1 + 1 by omega]
     exact zC
    have HH := Nm.hide (And.intro hstores (And.intro hms (And.intro hc0 (And.intro hfz (And.intro hgq (And.intro hqq hou))))))
    have i1 : (0 : Int) ≤ (j : Int) := by omega
    have i2 : (j : Int) < (qs.length : Int) := by omega
    have hzb : zl (qs.take j) ≤ 400000 := by omega
    clear hstores hms hc0 hfz hgq hqq hou hz hmx hin eq hlen9 hmt hq hst
    generalize hz0 : zl (qs.take j) = z0 at *
    have HZ0 := Nm.hide hz0
    clear hz0
    generalize hz1 : zl (qs.take (j + 1)) = z1 at *
    have HZ1 := Nm.hide hz1
    clear hz1
    go_wp2_with (first
     | (go_at_call 55
        refine hone.mono ?_
        rintro e w1 ⟨rfl, hb1⟩
        have hgn := grown_none hb1
        obtain ⟨c0, c1, c2, c3⟩ := HH.out.2.2.1 w1 hgn
        have f1 := fun i => HH.out.2.2.2.1 w1 i hgn)
     | (go_at_call 56
        refine (HH.out.2.1 _ (HH.out.1 w1 hb1)).mono ?_
        rintro e w5 ⟨rfl, hz5, hg5⟩))
    go_roundw
    case rel =>
     refine ⟨j + 1, by omega, by go_num, by rw [HZ1.out], hz5, ?_⟩
     have o1 := HH.out.2.2.2.2.2.2.trans (Outs.below (fp := zfp (.slice (some ⟨g, 0, none⟩) qs.length cap) qs) hb1) (fun k hk => .inl hk)
     have gm : ∀ g', some g = some g' → g' ∈ zfp (.slice (some ⟨g, 0, none⟩) qs.length cap) qs := fun g' e => by cases e; exact HH.out.2.2.2.2.1
     exact gr_outs (gr_outs (gr_outs (gr_outs o1 (gr_set _ g _ _) gm) (gr_set _ g _ _) gm) (gr_set _ g _ _) gm) hg5 HH.out.2.2.2.2.2.1
    case measure => simp [intOf]; omega
  · have hjn : j = qs.length := by omega
    subst hjn
    rw [List.drop_length, List.append_nil, List.take_of_length_le (by rw [mkZ_len]; exact Nat.le_refl _)] at hz
    clear hmt
    have i2 : (qs.length : Int) ≤ (qs.length : Int) := by omega
    rw [List.take_length]
    go_wp2
    go_ret
    exact ⟨by rw [show ((k + zl qs : Nat) : Int) = (k : Int) + (zl qs : Int) by omega]; rfl, hz, hou⟩
set_option maxRecDepth 100000 in
set_option maxHeartbeats 1600000 in
theorem heldSetS_any (v : Value) (qs : List Zp) (k : Nat) (w : World) (h : ZRow w v (mkZ k qs)) (hn : zl qs ≤ 400000) (hk : k ≤ 100000) :
 Calls Tryz.prog 57 #[v, .int .i64 (k : Int)] w fun e w' => e = .returned (.int .i64 ((k + zl qs : Nat) : Int)) ∧ Below w.heap.size w w' := by
 obtain ⟨⟨_, a, cap, e0, hcap, hmx, hc⟩, hd⟩ := h
 rw [mkZ_len] at *
 subst e0
 have hql := zl_len qs
 go_enter Tryz.func57, Tryz.ntmps57
 go_wp2
 go_loopw [1, 5] (fun t i wr => ∃ j : Nat, j ≤ qs.length ∧ i = .int .i64 (j : Int) ∧ t = .int .i64 ((k : Int) + (zl (qs.take j) : Int)) ∧ Below w.heap.size w wr) (fun _ i _ => qs.length - (intOf i).toNat)
 case atStart => exact ⟨0, Nat.zero_le _, rfl, by simp [zl], Below.refl _ _⟩
 case round =>
  obtain ⟨j, hj, rfl, rfl, hbel⟩ := hrel
  by_cases hlt : j < qs.length
  · obtain ⟨q, hq⟩ : ∃ q, qs[j]? = some q := ⟨_, List.getElem?_eq_getElem hlt⟩
    obtain ⟨b, off, rfl, hcell⟩ := hc (by omega)
    have hmq := mkZ_get qs k j q hq
    obtain ⟨c0, c1, c2, c3⟩ := zp_cells hcell hmq
    have hsr := hd _ (List.mem_of_getElem? hmq)
    simp only [mkZp] at c0 c1 c2 c3 hsr
    have hst := zl_step qs j q hq
    have hle := zl_take_le qs (j + 1)
    have hzb : zl (qs.take j) ≤ 400000 := by omega
    have hsr9 := hsr
    obtain ⟨qa, qc, eq, _⟩ := hsr9
    rw [mks_len] at eq
    rw [eq] at c3 hsr
    have hhs := fun W (hW : Below w.heap.size w W) => heldStringS_any (.slice qa q.1.da.length qc) q.1.da.length (k + zl (qs.take j) + 3) W (hsr.below hW) (by omega) (by omega)
    rw [show ((k + zl (qs.take j) + 3 : Nat) : Int) = (k : Int) + (zl (qs.take j) : Int) + 1 + 1 + 1 by omega, show ((k + zl (qs.take j) + 3 + q.1.da.length : Nat) : Int) = (k : Int) + (zl (qs.take (j + 1)) : Int) by omega] at hhs
    rw [show ((k + zl (qs.take j) + 1 : Nat) : Int) = (k : Int) + (zl (qs.take j) : Int) + 1 by omega] at c1
    rw [show ((k + zl (qs.take j) + 2 : Nat) : Int) = (k : Int) + (zl (qs.take j) : Int) + 1 + 1 by omega] at c2
    have hS : ∀ W, Below w.heap.size w W → W.cell? ⟨b, off + j * 4, none⟩ = some (.string (mkS (k + zl (qs.take j)))) ∧ Below w.heap.size w W := fun W hW => ⟨(hW.cell (World.block_lt_of_cell? w _ c0)).trans c0, hW⟩
    have hS12 : ∀ W, Below w.heap.size w W → W.cell? ⟨b, off + j * 4 + 1, none⟩ = some (.int .i64 ((k : Int) + (zl (qs.take j) : Int) + 1)) ∧ W.cell? ⟨b, off + j * 4 + 2, none⟩ = some (.int .i64 ((k : Int) + (zl (qs.take j) : Int) + 1 + 1)) ∧ W.cell? ⟨b, off + j * 4 + 3, none⟩ = some (.slice qa q.1.da.length qc) := fun W hW => ⟨(hW.cell (World.block_lt_of_cell? w _ c1)).trans c1, (hW.cell (World.block_lt_of_cell? w _ c2)).trans c2, (hW.cell (World.block_lt_of_cell? w _ c3)).trans c3⟩
    have hS0 := hS wr.drew hbel.drew
    have hmt := fun W (hW : Below w.heap.size w W) => (markText_any (k + zl (qs.take j)) W (by omega)).mono (R' := fun e w' => e = .returned (.string (mkS (k + zl (qs.take j)))) ∧ Below w.heap.size w w') (by rintro e w' ⟨he, hb⟩; exact ⟨he, hW.trans (hb.mono hW.size)⟩)
    rw [show (((k + zl (qs.take j) : Nat)) : Int) = (k : Int) + (zl (qs.take j) : Int) by omega] at hmt
    have hfin : 0 ≤ (k : Int) + (zl (qs.take (j + 1)) : Int) := by omega
    have hbig : zl (qs.take (j + 1)) ≤ 400000 := by omega
    generalize hz0 : zl (qs.take j) = z0 at *
    clear hz0 hst
    generalize hz1 : zl (qs.take (j + 1)) = z1 at *
    have HZ1 := Nm.hide hz1
    clear hz1
    obtain ⟨e3, e4⟩ : ((mkS (k + z0)).toList != (mkS (k + z0)).toList) = false ∧ ((mkS (k + z0)).toList == (mkS (k + z0)).toList) = true := by simp
    have hne : ((k : Int) + (z0 : Int) + 1 != (k : Int) + (z0 : Int) + 1) = false := by simp
    have hne2 : ((k : Int) + (z0 : Int) + 1 + 1 != (k : Int) + (z0 : Int) + 1 + 1) = false := by simp
    have i1 : (0 : Int) ≤ (j : Int) := by omega
    have i2 : (j : Int) < (qs.length : Int) := by omega
    generalize mkS (k + z0) = ms at *
    clear hc hcell c0 c1 c2 c3 hd hsr hmq eq hq
    go_wp2
    go_region_held3 (fun W => W.cell? ⟨b, off + j * 4, none⟩ = some (.string ms) ∧ Below w.heap.size w W) (first | with_reducible assumption | with_reducible exact hS0) ((first | (go_at_call 55; with_reducible refine (hmt _ hS0.2).mono ?_; rintro e w1 ⟨rfl, hb1⟩; have hS1 := hS _ hb1)))
    obtain ⟨g1, g2, g3⟩ := hS12 _ hS1.2
    have hh1 := hhs _ hS1.2
    clear hhs hS12 hmt hS
    go_wp2_with (go_at_call 87; refine hh1.mono ?_; rintro e w2 ⟨rfl, hb2⟩)
    go_roundw
    case rel => exact ⟨j + 1, by omega, by go_num, by rw [HZ1.out], Nm.below_two hS1.2 hb2⟩
    case measure => simp [intOf]; omega
  · have hjn : j = qs.length := by omega
    subst hjn
    clear hc hd
    rw [List.take_length]
    go_wp2
    go_ret
    exact ⟨by rw [show ((k + zl qs : Nat) : Int) = (k : Int) + (zl qs : Int) by omega]; rfl, hbel⟩
set_option maxRecDepth 100000 in
set_option maxHeartbeats 800000 in
theorem markZone_own (o : ByteArray) (v : Value) (qs : List Zp) (B k : Nat) (w : World) (h : ZOwn w B v qs) (hn : zl qs ≤ 400000) (hk : k ≤ 100000) :
 Calls Tryz.prog 11 #[.agg #[.string o, v], .int .i64 (k : Int)] w fun e w' => e = .returned (.int .i64 ((k + zl qs : Nat) : Int)) ∧ ZOwn w' B v (mkZ k qs) ∧ Outs (zfp v qs) w w' := by
 have hB := (Below.refl w.heap.size w).alloc (Nat.le_refl _) (.cells #[.string o, v] 28)
 have hone := markSetS_own v qs B k _ (h.below hB) hn hk
 obtain ⟨a, cap, rfl⟩ := own_sl h.outer
 clear h
 go_enter Tryz.func11, Tryz.ntmps11
 go_wp2_with (go_at_call 31; refine hone.mono ?_; rintro e w1 ⟨rfl, hz, hm⟩)
 go_ret
 exact ⟨rfl, hz, (Outs.below (fp := zfp (.slice a qs.length cap) qs) hB).trans hm (fun k hk => .inl hk)⟩
set_option maxRecDepth 100000 in
set_option maxHeartbeats 800000 in
theorem heldZone_any (o : ByteArray) (v : Value) (qs : List Zp) (k : Nat) (w : World) (h : ZRow w v (mkZ k qs)) (hn : zl qs ≤ 400000) (hk : k ≤ 100000) :
 Calls Tryz.prog 32 #[.agg #[.string o, v], .int .i64 (k : Int)] w fun e w' => e = .returned (.int .i64 ((k + zl qs : Nat) : Int)) ∧ Below w.heap.size w w' := by
 have hB := (Below.refl w.heap.size w).alloc (Nat.le_refl _) (.cells #[.string o, v] 28)
 have hone := heldSetS_any v qs k _ (h.below hB) hn hk
 obtain ⟨⟨_, a, cap, rfl, _⟩, _⟩ := h
 rw [mkZ_len] at *
 have hnn : (0 : Int) ≤ ((k + zl qs : Nat) : Int) := by omega
 generalize ((k + zl qs : Nat) : Int) = R at *
 go_enter Tryz.func32, Tryz.ntmps32
 go_wp2_with (go_at_call 57; refine hone.mono ?_; rintro e w1 ⟨rfl, hb⟩)
 go_ret
 exact ⟨rfl, Nm.below_two hB hb⟩
set_option maxRecDepth 100000 in
set_option maxHeartbeats 1600000 in
theorem eqSecondary_any (o : ByteArray) (v u : Value) (as_ id nx un : Int) (qs rs : List Zp) (w : World) (h : ZRow w v qs) (h' : ZRow w u rs) (he : qs.map (·.1) = rs.map (·.1)) (hd : ∀ q ∈ qs, q.1.da.length ≤ 1000000000) :
 Calls Tryz.prog 9 #[SecV o v as_ id nx un, SecV o u as_ id nx un] w fun e w' => e = .returned (.bool true) ∧ Below w.heap.size w w' := by
 obtain ⟨va, vc, rfl⟩ : ∃ a c, v = .slice a qs.length c := by obtain ⟨⟨_, a, c, e, _⟩, _⟩ := h; exact ⟨a, c, e⟩
 obtain ⟨ua, uc, rfl⟩ : ∃ a c, u = .slice a rs.length c := by obtain ⟨⟨_, a, c, e, _⟩, _⟩ := h'; exact ⟨a, c, e⟩
 have b1 := (Below.refl w.heap.size w).alloc (Nat.le_refl _) (.cells #[.string o, .slice va qs.length vc, .int .i64 as_, .int .i64 id, .int .i64 nx, .int .i64 un] 30)
 have b2 := b1.alloc b1.size (.cells #[.string o, .slice ua rs.length uc, .int .i64 as_, .int .i64 id, .int .i64 nx, .int .i64 un] 30)
 have k1 := blk_alloc (blk_new w #[.string o, .slice va qs.length vc, .int .i64 as_, .int .i64 id, .int .i64 nx, .int .i64 un] 30) (.cells #[.string o, .slice ua rs.length uc, .int .i64 as_, .int .i64 id, .int .i64 nx, .int .i64 un] 30)
 have k2 := blk_new (w.alloc (.cells #[.string o, .slice va qs.length vc, .int .i64 as_, .int .i64 id, .int .i64 nx, .int .i64 un] 30)) #[.string o, .slice ua rs.length uc, .int .i64 as_, .int .i64 id, .int .i64 nx, .int .i64 un] 30
 rw [World.size_alloc] at k2
 have hez := eqZone_any o _ _ qs rs _ (h.below b2) (h'.below b2) he hd
 have e1 : (as_ != as_) = false := by simp
 have e2 : (id != id) = false := by simp
 have e3 : (nx != nx) = false := by simp
 have e4 : (un != un) = false := by simp
 have r1 := fun i => blk_cell k1 i
 have r2 := fun i => blk_cell k2 i
 clear h h' he hd b1
 unfold SecV
 go_enter Tryz.func9, Tryz.ntmps9
 go_wp2_with fail
 refine hez.mono ?_
 rintro e w1 ⟨rfl, hb1⟩
 have bw1 := Nm.below_two b2 hb1
 have k1' := blk_below k1 hb1
 have k2' := blk_below k2 hb1
 clear r1 r2 k1 k2 hez hb1 b2
 have r1 := fun i => blk_cell k1' i
 have r2 := fun i => blk_cell k2' i
 go_wp2
 go_ret
 exact ⟨rfl, bw1⟩
set_option maxRecDepth 100000 in
set_option maxHeartbeats 1600000 in
theorem markSecondary_own (o : ByteArray) (v : Value) (as_ id nx un : Int) (qs : List Zp) (B k : Nat) (w : World) (h : ZOwn w B v qs) (hn : zl qs ≤ 400000) (hk : k ≤ 100000) :
 Calls Tryz.prog 12 #[SecV o v as_ id nx un, .int .i64 (k : Int)] w fun e w' => e = .returned (.int .i64 ((k + zl qs : Nat) : Int)) ∧ ZOwn w' B v (mkZ k qs) ∧ Outs (zfp v qs) w w' := by
 obtain ⟨a, cap, rfl⟩ := own_sl h.outer
 have hB := (Below.refl w.heap.size w).alloc (Nat.le_refl _) (.cells #[.string o, .slice a qs.length cap, .int .i64 as_, .int .i64 id, .int .i64 nx, .int .i64 un] 30)
 have hone := markZone_own o _ qs B k _ (h.below hB) hn hk
 clear h
 unfold SecV
 go_enter Tryz.func12, Tryz.ntmps12
 go_wp2_with (go_at_call 11; refine hone.mono ?_; rintro e w1 ⟨rfl, hz, hm⟩)
 go_ret
 exact ⟨rfl, hz, (Outs.below (fp := zfp (.slice a qs.length cap) qs) hB).trans hm (fun k hk => .inl hk)⟩
set_option maxRecDepth 100000 in
set_option maxHeartbeats 1600000 in
theorem heldSecondary_any (o : ByteArray) (v : Value) (as_ id nx un : Int) (qs : List Zp) (k : Nat) (w : World) (h : ZRow w v (mkZ k qs)) (hn : zl qs ≤ 400000) (hk : k ≤ 100000) :
 Calls Tryz.prog 13 #[SecV o v as_ id nx un, .int .i64 (k : Int)] w fun e w' => e = .returned (.int .i64 ((k + zl qs : Nat) : Int)) ∧ Below w.heap.size w w' := by
 obtain ⟨a, cap, hv⟩ : ∃ a c, v = .slice a qs.length c := by obtain ⟨⟨_, a, c, e, _⟩, _⟩ := h; rw [mkZ_len] at e; exact ⟨a, c, e⟩
 subst hv
 have hB := (Below.refl w.heap.size w).alloc (Nat.le_refl _) (.cells #[.string o, .slice a qs.length cap, .int .i64 as_, .int .i64 id, .int .i64 nx, .int .i64 un] 30)
 have hone := heldZone_any o _ qs k _ (h.below hB) hn hk
 have hnn : (0 : Int) ≤ ((k + zl qs : Nat) : Int) := by omega
 generalize ((k + zl qs : Nat) : Int) = R at *
 clear h
 unfold SecV
 go_enter Tryz.func13, Tryz.ntmps13
 go_wp2_with (go_at_call 32; refine hone.mono ?_; rintro e w1 ⟨rfl, hb⟩)
 go_ret
 exact ⟨rfl, Nm.below_two hB hb⟩
end Go.Proofs.YtdcbhohlglncnaaGreat
