import Derived.Test.YtnpegoclghfmpaaGreatJCzM
import Derived.Test.YtnpegoclghfmpaaGreatJZrS
import Derived.Test.YtnpegoclghfmpaaGreatJBmB
import Derived.Test.YtnpegoclghfmpaaGreatJBzH
import Derived.Test.YtnpegoclghfmpaaGreatJSCmp
import Derived.Test.YtnpegoclghfmpaaGreatZbT
import Derived.Test.YtnpegoclghfmpaaGreatJBzR
import Derived.Test.YtnpegoclghfmpaaGreatJMath
import Derived.Deep.RegionHeld3
import Derived.Maps.AppendAt
import Derived.Test.YtnpegoclghfmpaaGreatJSSmall
import Derived.Test.YtnpegoclghfmpaaGreatCzC
import Derived.Test.YtnpegoclghfmpaaGreatJClone
import Derived.Test.YtnpegoclghfmpaaGreatRows
import Derived.WalkSpells
import Derived.WalkLawsBesides
import Derived.Test.YtnpegoclghfmpaaGreatJBzZ
import Derived.Test.YtnpegoclghfmpaaGreatJTbGI
import Derived.Test.YtnpegoclghfmpaaGreatJMsP
import Derived.RangeFuncBox
import Derived.LoopIn
import Derived.Stop.RegionWithIn
import Derived.Sort.CutIn
import Derived.Test.YtnpegoclghfmpaaGreatJCzO
/- Zones that fit, zones that are the same. -/
namespace Go.Proofs.YtnpegoclghfmpaaGreat
open Go.RowKit
set_option linter.unusedVariables false

theorem cz_ssum {ls : List ByteArray} {x : ByteArray} (h : x ∈ ls) : x.size ≤ ssum ls := by
  induction ls with
  | nil => simp at h
  | cons y ls ih =>
    rcases List.mem_cons.1 h with rfl | h
    · simp only [ssum]; omega
    · have := ih h; simp only [ssum]; omega
theorem cz_fits {ps : List Zp} (h : zsum ps ≤ 1048576) : ∀ p ∈ ps, p.1.own.size ≤ 1048576 ∧ p.1.da.length ≤ 1048576 ∧ ∀ x ∈ p.1.da, x.size ≤ 1048576 := by
  intro p hp
  have h1 := zsum_mem ps p hp
  unfold zs1 at h1
  exact ⟨by omega, by omega, fun x hx => by have := cz_ssum hx; omega⟩
theorem cz_mem {ps qs : List Zp} (h : qs.map (·.1) = ps.map (·.1)) {P : Sz → Prop} (hp : ∀ p ∈ ps, P p.1) : ∀ q ∈ qs, P q.1 := by
  intro q hq
  have : q.1 ∈ qs.map (·.1) := List.mem_map.2 ⟨q, hq, rfl⟩
  rw [h] at this
  obtain ⟨p, hp1, hp2⟩ := List.mem_map.1 this
  rw [← hp2]
  exact hp p hp1
theorem zOK_same {ps qs : List Zp} (h : qs.map (·.1) = ps.map (·.1)) (o : ByteArray) : zOK qs o = zOK ps o := by
  rw [zOK, zOK, zoneRecs_same h, h]
theorem TInv.nm {l : List It} {os : List GOw} (h : TInv l os) (hl : ∀ y ∈ l, GoodI y) {o : GOw} (ho : o ∈ os) : Nm.split o.nm = some o.lab := by
  obtain ⟨i, x, hF, h1, h2⟩ := h.own o ho
  rw [h1, h2]
  exact (hl x hF.mem).1
theorem under_self {a b : List ByteArray} (h : Nm.cmpLs a b = 0) : underB a b = true := by
  rw [underB_same h (b := b) (b' := b) ((cmpLs_zero _ _).2 rfl), underB]
  simp [(cmpLs_zero b b).2 rfl]
def joB (ls : List ByteArray) : ByteArray := ⟨(Nm.joinL ls).toArray⟩
theorem split_jo {s : ByteArray} {ls : List ByteArray} (h : Nm.split s = some ls) : joB ls = s := by
  rw [joB, (Nm.split_join h).1]
def Gl (ls : List ByteArray) : Prop := (∀ x ∈ ls, 1 ≤ x.size ∧ x.size ≤ 63) ∧ Nm.wsum ls ≤ 254
theorem gl_split {s : ByteArray} {ls : List ByteArray} (h : Nm.split s = some ls) : Gl ls := ⟨(Nm.split_join h).2, by have := Nm.split_size h; omega⟩
theorem Gl.drop {ls : List ByteArray} (h : Gl ls) (k : Nat) : Gl (ls.drop k) := ⟨drop_ok h.1 k, Nat.le_trans (Nm.wsum_drop_le ls k) h.2⟩
theorem Gl.jo {ls : List ByteArray} (h : Gl ls) : Nm.split (joB ls) = some ls := split_of_join h.1 h.2
theorem Gl.tail {x : ByteArray} {ls : List ByteArray} (h : Gl (x :: ls)) : Gl ls := h.drop 1
theorem jo_size {ls : List ByteArray} (h : Gl ls) : (joB ls).size ≤ 255 := by
  have h1 := h.2
  have h2 := Nm.joinL_length ls
  simp [joB, ByteArray.size]
  omega
theorem jo_inj {a b : List ByteArray} (ha : Gl a) (hb : Gl b) (h : joB a = joB b) : a = b := by
  have h1 := ha.jo
  rw [h, hb.jo] at h1
  exact (Option.some.inj h1).symm
theorem under_iff {a b : List ByteArray} : underB a b = true ↔ b.length ≤ a.length ∧ Nm.cmpLs (a.drop (a.length - b.length)) b = 0 := by
  rw [underB]; simp
theorem under_drop {a b : List ByteArray} (h : underB a b = true) {k : Nat} (hk : k + b.length ≤ a.length) : underB (a.drop k) b = true := by
  obtain ⟨h1, h2⟩ := under_iff.1 h
  refine under_iff.2 ⟨by simp; omega, ?_⟩
  rw [List.drop_drop, List.length_drop, show k + (a.length - k - b.length) = a.length - b.length by omega]
  exact h2

/-- The apex is there. -/
theorem apex_in {ps : List Zp} {o : ByteArray} {al : List ByteArray} (hz : zOK ps o = true) (ha : Nm.split o = some al) : ∃ p ∈ ps, ∃ xs, Nm.split p.1.own = some xs ∧ Nm.cmpLs xs al = 0 := by
  have h0 := (zOK_recs hz).1
  rw [bldE, if_neg (by rw [ha]; simp)] at h0
  split at h0
  · exact absurd h0 (by simp)
  · cases hb : badOne o (zoneRecs ps) 0 with
    | some c => rw [hb] at h0; exact absurd h0 (bad_some _ _ c.1 c.2 hb)
    | none =>
      rw [hb] at h0
      simp only at h0
      split at h0
      · exact absurd h0 (by simp)
      · split at h0
        · rename_i h1; exact absurd h0 h1
        · rename_i h1
          have h1 : (rulesI (itsOf (zoneRecs ps)) (Nm.foldS o)).1 = 0 := by simpa using h1
          have hg : ∀ y ∈ (zoneRecs ps).map itemOf, GoodI y := by
            intro y hy
            obtain ⟨r, hr, rfl⟩ := List.mem_map.1 hy
            exact good_item (one_ok (bad_none _ _ hb r hr)).1
          have h6 : hasI (itsOf (zoneRecs ps)) (Nm.foldS o) 6 = true := by
            rw [rulesI] at h1
            split at h1
            · exact absurd h1 (by simp)
            · split at h1
              · exact absurd h1 (by simp)
              · rename_i h2; simpa using h2
          obtain ⟨y, hy, e1, -⟩ := (hasI_all hg _ _).1 h6
          have hgy := hg y hy
          obtain ⟨r, hr, rfl⟩ := List.mem_map.1 hy
          rw [zoneRecs] at hr
          split at hr
          · cases hr
          · obtain ⟨p, hp, hr⟩ := List.mem_flatMap.1 hr
            obtain ⟨d, -, rfl⟩ := List.mem_map.1 hr
            have hs : Nm.split p.1.own = some _ := hgy.1
            exact ⟨p, hp, _, hs, (fold_lab hs ha).1 e1⟩
/-- What is known of a tree of a zone. -/
structure TZ (os : List GOw) (o : ByteArray) (al : List ByteArray) : Prop where
  nm : ∀ q ∈ os, Nm.split q.nm = some q.lab
  und : ∀ q ∈ os, underB q.lab al = true
  one : ∀ q ∈ os, ∀ r ∈ os, Nm.cmpLs q.lab r.lab = 0 → q = r
  srt : OwS os ∧ ∀ q ∈ os, SeS q.ss
  full : ∀ q ∈ os, ∃ s, s ∈ q.ss
  ap : Nm.split o = some al
  top : ∃ q ∈ os, Nm.cmpLs q.lab al = 0
theorem tz_of {ps : List Zp} {o : ByteArray} {al : List ByteArray} {l : List It} {os : List GOw} (hT : TInv l os) (hl : ∀ y ∈ l, GoodI y) (hu : ∀ y ∈ l, isUnderS y.r.own o = true) (ha : Nm.split o = some al) (hz : zOK ps o = true) (hzs : ps.map (·.1) = zoneT os) : TZ os o al := by
  have hnm := fun q (hq : q ∈ os) => hT.nm hl hq
  refine ⟨hnm, fun q hq => ?_, fun q hq r hr e => hT.one hq hr e, ⟨hT.sorted.1, fun q hq => (hT.sorted.2 q hq).1⟩, fun q hq => ?_, ha, ?_⟩
  · obtain ⟨i, x, hF, h1, h2⟩ := hT.own q hq
    have := hu x hF.mem
    rw [← h1, isUnder_some (hnm q hq) ha] at this
    exact this
  · obtain ⟨i, x, hF, h1, h2⟩ := hT.own q hq
    obtain ⟨q2, hq2, h3, s, hs, -⟩ := hT.cov x hF.mem
    have h4 : Nm.cmpLs (labI x) q.lab = 0 := hF.2.1
    have h5 : Nm.cmpLs (labI x) q2.lab = 0 := h3
    have e := hT.one hq hq2 (by rw [cmpLs_eq_left (cmpLs_symm h4)]; exact h5)
    rw [e]
    exact ⟨s, hs⟩
  · obtain ⟨p, hp, xs, h1, h2⟩ := apex_in hz ha
    have hm : p.1 ∈ zoneT os := by rw [← hzs]; exact List.mem_map_of_mem hp
    obtain ⟨g, hg, e⟩ := List.mem_map.1 hm
    have hg1 := (grT_mem.1 hg).1
    refine ⟨g.1, hg1, ?_⟩
    have h3 := hnm g.1 hg1
    rw [← e] at h1
    have h4 : Nm.split g.1.nm = some xs := h1
    rw [h3] at h4
    rw [Option.some.inj h4]
    exact h2
/-- One more name, unless what is last is under it. -/
def nmStep (last : List ByteArray) (out : List (List ByteArray)) (y : List ByteArray) : List (List ByteArray) := if (decide (0 < out.length) && underB last y) = true then out else out ++ [y]
def nmIn (last lab : List ByteArray) : Nat → List (List ByteArray) → List (List ByteArray)
  | 0, out => out
  | n + 1, out => nmIn last lab n (nmStep last out (lab.drop n))
def nmOne (al : List ByteArray) (s : List (List ByteArray) × List ByteArray) (lab : List ByteArray) : List (List ByteArray) × List ByteArray := (nmIn s.2 lab (lab.length - al.length + 1) s.1, lab)
def nmT (al : List ByteArray) (os : List GOw) : List (List ByteArray) × List ByteArray := (os.map (·.lab)).foldl (nmOne al) ([], [])
theorem nmT_snoc (al : List ByteArray) (os : List GOw) (q : GOw) : nmT al (os ++ [q]) = nmOne al (nmT al os) q.lab := by
  simp [nmT, List.foldl_append]
/-- A name of the tree: of the first owner under it. -/
def NmF (os : List GOw) (al x : List ByteArray) : Prop := ∃ i q, First (fun r : GOw => underB r.lab x = true) os i q ∧ al.length ≤ x.length ∧ x = q.lab.drop (q.lab.length - x.length)

/-- The names of one owner that are new: those that none ahead is under. -/
def nmNew (p : List ByteArray → Bool) (lab : List ByteArray) : Nat → List (List ByteArray)
  | 0 => []
  | n + 1 => (if p (lab.drop n) = true then [] else [lab.drop n]) ++ nmNew p lab n
theorem nmNew_congr {p p' : List ByteArray → Bool} {lab : List ByteArray} : ∀ (n : Nat), (∀ k, k < n → p (lab.drop k) = p' (lab.drop k)) → nmNew p lab n = nmNew p' lab n
  | 0, _ => rfl
  | n + 1, h => by rw [nmNew, nmNew, h n (by omega), nmNew_congr n (fun k hk => h k (by omega))]
theorem nmNew_mem {p : List ByteArray → Bool} {lab x : List ByteArray} : ∀ {n : Nat}, x ∈ nmNew p lab n ↔ ∃ k, k < n ∧ x = lab.drop k ∧ p x = false
  | 0 => by simp [nmNew]
  | n + 1 => by
    rw [nmNew, List.mem_append, nmNew_mem (n := n)]
    constructor
    · rintro (h | ⟨k, hk, e, hp⟩)
      · split at h
        · cases h
        · rename_i hp
          have e := List.mem_singleton.1 h
          exact ⟨n, by omega, e, by rw [e]; simpa using hp⟩
      · exact ⟨k, by omega, e, hp⟩
    · rintro ⟨k, hk, e, hp⟩
      rcases Nat.lt_or_ge k n with h | h
      · exact .inr ⟨k, h, e, hp⟩
      · obtain rfl : k = n := by omega
        left
        rw [← e, if_neg (by rw [hp]; decide)]
        exact List.mem_singleton.2 rfl
theorem nmIn_more {last lab : List ByteArray} : ∀ (n : Nat) (out : List (List ByteArray)), 0 < out.length → nmIn last lab n out = out ++ nmNew (underB last) lab n
  | 0, out, _ => by simp [nmIn, nmNew]
  | n + 1, out, h => by
    rw [nmIn, nmNew, nmStep]
    simp only [h, decide_true, Bool.true_and]
    split
    · rw [nmIn_more n out h]; rfl
    · rw [nmIn_more n _ (by simp)]; simp
theorem suf_under (lab : List ByteArray) {j k : Nat} (h : j ≤ k) (hk : k ≤ lab.length) : underB (lab.drop j) (lab.drop k) = true := by
  refine under_iff.2 ⟨by simp; omega, ?_⟩
  rw [List.drop_drop, List.length_drop, List.length_drop, show j + (lab.length - j - (lab.length - k)) = k by omega]
  exact cmpLs_self _
theorem suf_lt (lab : List ByteArray) {j k : Nat} (h : j < k) (hk : k ≤ lab.length) : Nm.cmpLs (lab.drop k) (lab.drop j) < 0 := by
  have h1 := under_le (suf_under lab (Nat.le_of_lt h) hk)
  rcases Int.lt_or_eq_of_le h1 with h2 | h2
  · exact h2
  · have := len_same h2
    simp at this
    omega
theorem nmNew_pw {p : List ByteArray → Bool} {lab : List ByteArray} : ∀ (n : Nat), n ≤ lab.length + 1 → (nmNew p lab n).Pairwise fun a b => Nm.cmpLs a b < 0
  | 0, _ => List.Pairwise.nil
  | n + 1, h => by
    rw [nmNew]
    refine List.pairwise_append.2 ⟨?_, nmNew_pw n (by omega), fun a ha b hb => ?_⟩
    · split
      · exact List.Pairwise.nil
      · exact List.pairwise_singleton _ _
    · obtain ⟨k, hk, rfl, -⟩ := nmNew_mem.1 hb
      split at ha
      · cases ha
      · rw [List.mem_singleton.1 ha]
        exact suf_lt lab hk (by omega)
/-- What lies between a name and one that is under it is under it, too. -/
theorem under_betw {t o n : List ByteArray} (h : underB n t = true) (h1 : Nm.cmpLs t o ≤ 0) (h2 : Nm.cmpLs o n < 0) : underB o t = true := by
  rcases Int.lt_or_eq_of_le h1 with h3 | h3
  · exact under_mid h h3 h2
  · exact under_self (cmpLs_symm h3)

structure NmI (al : List ByteArray) (pre : List GOw) : Prop where
  pw : (nmT al pre).1.Pairwise fun a b => Nm.cmpLs a b < 0
  mem : ∀ x, x ∈ (nmT al pre).1 ↔ NmF pre al x
  last : ∀ q, pre.getLast? = some q → (nmT al pre).2 = q.lab
  ne : pre ≠ [] → 0 < (nmT al pre).1.length
theorem nm_inv (al : List ByteArray) (os : List GOw) : OwS os → (∀ q ∈ os, underB q.lab al = true) → NmI al os := by
  refine snoc_ind (P := fun os => OwS os → (∀ q ∈ os, underB q.lab al = true) → NmI al os) ?_ (fun pre q ih hS hU => ?_) os
  · intro _ _
    refine ⟨List.Pairwise.nil, fun x => ⟨fun h => (by cases h), ?_⟩, by simp, by simp⟩
    rintro ⟨i, q, hF, -⟩
    simp [First] at hF
  · obtain ⟨hS1, -, hS2⟩ := List.pairwise_append.1 hS
    have hI := ih hS1 (fun r hr => hU r (List.mem_append_left _ hr))
    have hq := hU q (by simp)
    have hal := (under_iff.1 hq).1
    have hlt : ∀ r ∈ pre, Nm.cmpLs r.lab q.lab < 0 := fun r hr => hS2 r hr q (by simp)
    have hE : nmIn (nmT al pre).2 q.lab (q.lab.length - al.length + 1) (nmT al pre).1 = (nmT al pre).1 ++ nmNew (fun y => pre.any fun r => underB r.lab y) q.lab (q.lab.length - al.length + 1) := by
      rcases List.eq_nil_or_concat pre with rfl | ⟨pre', r0, rfl⟩
      · show nmIn [] q.lab (q.lab.length - al.length + 1) [] = [] ++ _
        rw [nmIn, nmNew]
        simp only [nmStep, List.length_nil, Nat.lt_irrefl, decide_false, Bool.false_and, Bool.false_eq_true, if_false, List.any_nil, List.nil_append]
        rw [nmIn_more _ _ (by simp)]
        congr 1
        refine nmNew_congr _ (fun k hk => ?_)
        rw [underB]
        simp
        omega
      · have hne : pre' ++ [r0] ≠ [] := by simp
        rw [List.concat_eq_append] at *
        rw [nmIn_more _ _ (hI.ne hne), hI.last r0 (by simp)]
        congr 1
        refine nmNew_congr _ (fun k hk => ?_)
        apply Bool.eq_iff_iff.2
        rw [List.any_eq_true]
        constructor
        · exact fun h => ⟨r0, by simp, h⟩
        · rintro ⟨r, hr, h⟩
          have hqk : underB q.lab (q.lab.drop k) = true := by
            have := suf_under q.lab (Nat.zero_le k) (by omega)
            rwa [List.drop_zero] at this
          rcases List.mem_append.1 hr with hr' | hr'
          · have h1 := (List.pairwise_append.1 hS1).2.2 r hr' r0 (by simp)
            refine under_betw hqk ?_ (hlt r0 (by simp))
            have h2 := under_le h
            exact cmpLs_trans h2 (by omega)
          · rw [List.mem_singleton.1 hr'] at h; exact h
    have hT : nmT al (pre ++ [q]) = ((nmT al pre).1 ++ nmNew (fun y => pre.any fun r => underB r.lab y) q.lab (q.lab.length - al.length + 1), q.lab) := by
      rw [nmT_snoc, nmOne, hE]
    have hmemE : ∀ x, x ∈ nmNew (fun y => pre.any fun r => underB r.lab y) q.lab (q.lab.length - al.length + 1) ↔ ∃ k, k ≤ q.lab.length - al.length ∧ x = q.lab.drop k ∧ ∀ r ∈ pre, underB r.lab x = false := by
      intro x
      rw [nmNew_mem]
      constructor
      · rintro ⟨k, h1, h2, h3⟩
        refine ⟨k, by omega, h2, fun r hr => ?_⟩
        rw [List.any_eq_false] at h3
        simpa using h3 r hr
      · rintro ⟨k, h1, h2, h3⟩
        refine ⟨k, by omega, h2, ?_⟩
        rw [List.any_eq_false]
        intro r hr
        rw [h3 r hr]; decide
    have hfst : ∀ x i r, First (fun r : GOw => underB r.lab x = true) (pre ++ [q]) i r ↔ First (fun r : GOw => underB r.lab x = true) pre i r ∨ (i = pre.length ∧ r = q ∧ underB q.lab x = true ∧ ∀ r ∈ pre, underB r.lab x = false) := by
      intro x i r
      constructor
      · rintro ⟨h1, h2, h3⟩
        rcases Nat.lt_or_ge i pre.length with h | h
        · left
          rw [List.getElem?_append_left h] at h1
          exact ⟨h1, h2, fun j y hj hy => h3 j y hj (by rw [List.getElem?_append_left (by omega)]; exact hy)⟩
        · right
          rw [List.getElem?_append_right h] at h1
          have hi : i - pre.length = 0 := by
            have := (List.getElem?_eq_some_iff.1 h1).1
            simp at this
            omega
          rw [hi] at h1
          simp at h1
          subst h1
          refine ⟨by omega, rfl, h2, fun r hr => ?_⟩
          obtain ⟨j, hj⟩ := List.getElem?_of_mem hr
          have hjl := (List.getElem?_eq_some_iff.1 hj).1
          have := h3 j r (by omega) (by rw [List.getElem?_append_left hjl]; exact hj)
          simpa using this
      · rintro (h | ⟨rfl, rfl, h2, h3⟩)
        · exact h.snoc q
        · exact First.new (fun y hy => by rw [h3 y hy]; decide) h2
    refine ⟨?_, fun x => ?_, fun r hr => ?_, fun _ => ?_⟩
    · rw [hT]
      refine List.pairwise_append.2 ⟨hI.pw, nmNew_pw _ (by omega), fun x hx y hy => ?_⟩
      obtain ⟨i, r, hF, hxl, ex⟩ := (hI.mem x).1 hx
      obtain ⟨k, hk, ey, hno⟩ := (hmemE y).1 hy
      have hrm := hF.mem
      rcases Int.lt_or_le (Nm.cmpLs x y) 0 with h | h
      · exact h
      · exfalso
        have h1 : Nm.cmpLs y x ≤ 0 := by have := cmpLs_anti x y; omega
        have h2 := under_le hF.2.1
        have hqy : underB q.lab y = true := by
          have := suf_under q.lab (Nat.zero_le k) (by omega)
          rw [List.drop_zero, ← ey] at this
          exact this
        have h3 := hno r hrm
        rw [under_betw hqy (cmpLs_trans h1 h2) (hlt r hrm)] at h3
        cases h3
    · rw [hT]
      show x ∈ (nmT al pre).1 ++ _ ↔ _
      rw [List.mem_append, hI.mem, hmemE]
      constructor
      · rintro (⟨i, r, hF, h1, h2⟩ | ⟨k, hk, ex, hno⟩)
        · exact ⟨i, r, (hfst x i r).2 (.inl hF), h1, h2⟩
        · have hxl : x.length = q.lab.length - k := by rw [ex, List.length_drop]
          refine ⟨pre.length, q, (hfst x _ q).2 (.inr ⟨rfl, rfl, ?_, hno⟩), by omega, by rw [hxl, show q.lab.length - (q.lab.length - k) = k by omega]; exact ex⟩
          have := suf_under q.lab (Nat.zero_le k) (by omega)
          rw [List.drop_zero, ← ex] at this
          exact this
      · rintro ⟨i, r, hF, h1, h2⟩
        rcases (hfst x i r).1 hF with hF | ⟨-, rfl, h3, h4⟩
        · exact .inl ⟨i, r, hF, h1, h2⟩
        · exact .inr ⟨_, by omega, h2, h4⟩
    · rw [hT]
      simp at hr
      rw [hr]
    · rw [hT]
      simp only [List.length_append]
      rcases List.eq_nil_or_concat pre with rfl | ⟨pre', r0, rfl⟩
      · have : q.lab.drop (q.lab.length - al.length) ∈ nmNew (fun y => ([] : List GOw).any fun r => underB r.lab y) q.lab (q.lab.length - al.length + 1) := (hmemE _).2 ⟨_, Nat.le_refl _, rfl, by simp⟩
        have := List.length_pos_of_mem this
        omega
      · have := hI.ne (by simp)
        omega
/-- A name and whether it is an owner's. -/
abbrev Ne : Type := List ByteArray × Bool
def ancE (al lab : List ByteArray) : List Ne := (List.range (lab.length - al.length + 1)).map fun k => (lab.drop k, decide (k = 0))
def allE (al : List ByteArray) (ls : List (List ByteArray)) : List Ne := ls.flatMap (ancE al)
def leN (a b : Ne) : Bool := decide (Nm.cmpLs a.1 b.1 ≤ 0)
def srtN : Nat → List Ne → List Ne
  | 0, l => l
  | n + 1, l => if l.length < 2 then l else List.merge (srtN n (l.take (l.length / 2))) (srtN n (l.drop (l.length / 2))) leN
def ddStep (s : List (List ByteArray) × Option (List ByteArray)) (e : Ne) : List (List ByteArray) × Option (List ByteArray) := match s.2 with
  | none => (s.1 ++ [e.1], some e.1)
  | some p => if Nm.cmpLs p e.1 ≠ 0 then (s.1 ++ [e.1], some e.1) else if e.2 = true then (s.1.dropLast ++ [e.1], some e.1) else (s.1, some e.1)
def ddN (l : List Ne) : List (List ByteArray) × Option (List ByteArray) := l.foldl ddStep ([], none)
theorem ddN_snoc (l : List Ne) (e : Ne) : ddN (l ++ [e]) = ddStep (ddN l) e := by simp [ddN, List.foldl_append]

theorem srtN_small {n : Nat} {l : List Ne} (h : l.length < 2) : srtN n l = l := by
  cases n with
  | zero => rfl
  | succ n => rw [srtN, if_pos h]
theorem srtN_big {n : Nat} {l : List Ne} (h : ¬ l.length < 2) : srtN (n + 1) l = List.merge (srtN n (l.take (l.length / 2))) (srtN n (l.drop (l.length / 2))) leN := by rw [srtN, if_neg h]
theorem srtN_perm : ∀ (n : Nat) (l : List Ne), (srtN n l).Perm l := by
  intro n
  induction n with
  | zero => intro l; exact .refl _
  | succ n ih =>
    intro l
    by_cases h : l.length < 2
    · rw [srtN_small h]
    · rw [srtN_big h]
      have h1 : (List.merge (srtN n (l.take (l.length / 2))) (srtN n (l.drop (l.length / 2))) leN).Perm (srtN n (l.take (l.length / 2)) ++ srtN n (l.drop (l.length / 2))) := List.merge_perm_append _
      refine h1.trans ?_
      refine ((ih _).append (ih _)).trans ?_
      rw [List.take_append_drop]
theorem srtN_len (n : Nat) (l : List Ne) : (srtN n l).length = l.length := (srtN_perm n l).length_eq
theorem srtN_mem {n : Nat} {l : List Ne} {x : Ne} : x ∈ srtN n l ↔ x ∈ l := (srtN_perm n l).mem_iff
theorem leN_iff {a b : Ne} : leN a b = true ↔ Nm.cmpLs a.1 b.1 ≤ 0 := by rw [leN]; simp
theorem mergeN_pw : ∀ (A B : List Ne), A.Pairwise (fun a b => leN a b = true) → B.Pairwise (fun a b => leN a b = true) → (List.merge A B leN).Pairwise (fun a b => leN a b = true) := by
  intro A
  induction A with
  | nil => intro B _ hB; rw [List.nil_merge]; exact hB
  | cons a A ihA =>
    intro B
    induction B with
    | nil => intro hA _; rw [List.merge_right]; exact hA
    | cons b B ihB =>
      intro hA hB
      obtain ⟨ha, hA'⟩ := List.pairwise_cons.1 hA
      obtain ⟨hb, hB'⟩ := List.pairwise_cons.1 hB
      rw [List.cons_merge_cons]
      by_cases h : leN a b = true
      · rw [if_pos h]
        refine List.pairwise_cons.2 ⟨fun z hz => ?_, ihA _ hA' hB⟩
        rcases List.mem_append.1 ((List.merge_perm_append _).mem_iff.1 hz) with hz | hz
        · exact ha z hz
        · rcases List.mem_cons.1 hz with rfl | hz
          · exact h
          · exact leN_iff.2 (cmpLs_trans (leN_iff.1 h) (leN_iff.1 (hb z hz)))
      · rw [if_neg h]
        have hba : Nm.cmpLs b.1 a.1 ≤ 0 := by
          rw [leN_iff] at h
          have := cmpLs_anti a.1 b.1
          omega
        refine List.pairwise_cons.2 ⟨fun z hz => ?_, ihB hA hB'⟩
        rcases List.mem_append.1 ((List.merge_perm_append _).mem_iff.1 hz) with hz | hz
        · rcases List.mem_cons.1 hz with rfl | hz
          · exact leN_iff.2 hba
          · exact leN_iff.2 (cmpLs_trans hba (leN_iff.1 (ha z hz)))
        · exact hb z hz
theorem srtN_pw : ∀ (n : Nat) (l : List Ne), l.length ≤ n + 1 → (srtN n l).Pairwise (fun a b => leN a b = true) := by
  intro n
  induction n with
  | zero => intro l h; rw [srtN]; exact few_pw (by omega)
  | succ n ih =>
    intro l h
    by_cases hs : l.length < 2
    · rw [srtN_small hs]; exact few_pw hs
    · rw [srtN_big hs]
      exact mergeN_pw _ _ (ih _ (by simp; omega)) (ih _ (by simp; omega))
/-- Of one name. -/
def smN (y : List ByteArray) (e : Ne) : Bool := decide (Nm.cmpLs e.1 y = 0)
theorem mergeN_filter (y : List ByteArray) : ∀ (A B : List Ne), A.Pairwise (fun a b => leN a b = true) → (List.merge A B leN).filter (smN y) = A.filter (smN y) ++ B.filter (smN y) := by
  intro A
  induction A with
  | nil => intro B _; rw [List.nil_merge]; rfl
  | cons a A ihA =>
    intro B
    induction B with
    | nil => intro hA; rw [List.merge_right]; simp
    | cons b B ihB =>
      intro hA
      obtain ⟨ha, hA'⟩ := List.pairwise_cons.1 hA
      rw [List.cons_merge_cons]
      by_cases h : leN a b = true
      · rw [if_pos h, List.filter_cons, List.filter_cons, ihA _ hA']
        split <;> rfl
      · rw [if_neg h, List.filter_cons, ihB hA, List.filter_cons (xs := B)]
        split
        · rename_i hb
          have hb0 : Nm.cmpLs b.1 y = 0 := by simpa [smN] using hb
          have e : (a :: A).filter (smN y) = [] := by
            rw [List.filter_eq_nil_iff]
            intro z hz hzy
            have hz0 : Nm.cmpLs z.1 y = 0 := by simpa [smN] using hzy
            have hzb : Nm.cmpLs z.1 b.1 = 0 := by rw [cmpLs_eq_left hz0]; exact cmpLs_symm hb0
            apply h
            rw [leN_iff]
            rcases List.mem_cons.1 hz with rfl | hz
            · omega
            · exact cmpLs_trans (leN_iff.1 (ha z hz)) (by omega)
          rw [e]; rfl
        · rfl
theorem srtN_filter (y : List ByteArray) : ∀ (n : Nat) (l : List Ne), l.length ≤ n + 1 → (srtN n l).filter (smN y) = l.filter (smN y) := by
  intro n
  induction n with
  | zero => intro l _; rfl
  | succ n ih =>
    intro l h
    by_cases hs : l.length < 2
    · rw [srtN_small hs]
    · rw [srtN_big hs, mergeN_filter y _ _ (srtN_pw n _ (by simp; omega)), ih _ (by simp; omega), ih _ (by simp; omega), ← List.filter_append, List.take_append_drop]

/-- The letters that stay. -/
def ltr (g : List Ne) : List ByteArray := match (g.filter (·.2)).getLast? with
  | some e => e.1
  | none => match g.head? with
    | some e => e.1
    | none => []
theorem ltr_flag {g : List Ne} {e : Ne} (h : e.2 = true) : ltr (g ++ [e]) = e.1 := by
  rw [ltr, List.filter_append]
  simp [h]
theorem ltr_un {g : List Ne} {e : Ne} (h : e.2 = false) (hg : g ≠ []) : ltr (g ++ [e]) = ltr g := by
  rw [ltr, ltr, List.filter_append]
  have e1 : [e].filter (·.2) = [] := by simp [h]
  rw [e1, List.append_nil]
  cases g with
  | nil => exact absurd rfl hg
  | cons x g => rfl
theorem ltr_one (e : Ne) : ltr [e] = e.1 := by
  cases h : e.2 with
  | true => exact ltr_flag (g := []) h
  | false => rw [ltr]; simp [h]
theorem ltr_mem {g : List Ne} (hg : g ≠ []) : (∃ e ∈ g, e.2 = true ∧ ltr g = e.1) ∨ (∃ e, g.head? = some e ∧ ltr g = e.1) := by
  rw [ltr]
  cases hq : (g.filter (·.2)).getLast? with
  | some e =>
    have hm := List.mem_filter.1 (List.mem_of_getLast? hq)
    exact .inl ⟨e, hm.1, hm.2, rfl⟩
  | none =>
    cases g with
    | nil => exact absurd rfl hg
    | cons x g => exact .inr ⟨x, rfl, rfl⟩
theorem cmpLs_le_lt {a b c : List ByteArray} (h1 : Nm.cmpLs a b ≤ 0) (h2 : Nm.cmpLs b c < 0) : Nm.cmpLs a c < 0 := by
  rcases Int.lt_or_le (Nm.cmpLs a c) 0 with h | h
  · exact h
  · have h3 : Nm.cmpLs c a ≤ 0 := by have := cmpLs_anti a c; omega
    have h4 := cmpLs_trans h3 h1
    have := cmpLs_anti b c
    omega
structure DdI (S : List Ne) : Prop where
  pw : (ddN S).1.Pairwise fun a b => Nm.cmpLs a b < 0
  prev : (ddN S).2 = S.getLast?.map (·.1)
  lst : ∀ e, S.getLast? = some e → ∃ L x, (ddN S).1 = L ++ [x] ∧ Nm.cmpLs x e.1 = 0
  mem : ∀ x, x ∈ (ddN S).1 ↔ (∃ e ∈ S, Nm.cmpLs e.1 x = 0) ∧ x = ltr (S.filter (smN x))
theorem smN_iff {x : List ByteArray} {e : Ne} : smN x e = true ↔ Nm.cmpLs e.1 x = 0 := by rw [smN]; simp
theorem filter_off {x : List ByteArray} {S : List Ne} {e : Ne} (h : ¬ Nm.cmpLs e.1 x = 0) : (S ++ [e]).filter (smN x) = S.filter (smN x) := by
  rw [List.filter_append]
  have : [e].filter (smN x) = [] := by rw [List.filter_eq_nil_iff]; intro z hz hq; rw [List.mem_singleton.1 hz] at hq; exact h (smN_iff.1 hq)
  rw [this, List.append_nil]
theorem filter_on {x : List ByteArray} {S : List Ne} {e : Ne} (h : Nm.cmpLs e.1 x = 0) : (S ++ [e]).filter (smN x) = S.filter (smN x) ++ [e] := by
  rw [List.filter_append]
  have : [e].filter (smN x) = [e] := by rw [List.filter_eq_self]; intro z hz; rw [List.mem_singleton.1 hz]; exact smN_iff.2 h
  rw [this]
theorem ex_off {x : List ByteArray} {S : List Ne} {e : Ne} (h : ¬ Nm.cmpLs e.1 x = 0) : (∃ z ∈ S ++ [e], Nm.cmpLs z.1 x = 0) ↔ ∃ z ∈ S, Nm.cmpLs z.1 x = 0 := by
  constructor
  · rintro ⟨z, hz, h0⟩
    rcases List.mem_append.1 hz with hz | hz
    · exact ⟨z, hz, h0⟩
    · rw [List.mem_singleton.1 hz] at h0; exact absurd h0 h
  · rintro ⟨z, hz, h0⟩
    exact ⟨z, List.mem_append_left _ hz, h0⟩
theorem dd_inv (S : List Ne) : S.Pairwise (fun a b => leN a b = true) → DdI S := by
  refine snoc_ind (P := fun S => S.Pairwise (fun a b => leN a b = true) → DdI S) ?_ (fun S e ih hS => ?_) S
  · intro _
    exact ⟨List.Pairwise.nil, rfl, by simp, by simp [ddN]⟩
  · obtain ⟨hS1, -, hS2⟩ := List.pairwise_append.1 hS
    have hI := ih hS1
    have hle : ∀ z ∈ S, Nm.cmpLs z.1 e.1 ≤ 0 := fun z hz => leN_iff.1 (hS2 z hz e (by simp))
    have hself := cmpLs_self e.1
    have hnew : (∀ z ∈ S, Nm.cmpLs z.1 e.1 < 0) → ddN (S ++ [e]) = ((ddN S).1 ++ [e.1], some e.1) → DdI (S ++ [e]) := by
      intro hlt hT
      have hno : ∀ x, Nm.cmpLs e.1 x = 0 → ¬ ∃ z ∈ S, Nm.cmpLs z.1 x = 0 := by
        rintro x hx ⟨z, hz, h0⟩
        have := hlt z hz
        rw [cmpLs_eq_left h0, cmpLs_eq_right hx, cmpLs_self] at this
        omega
      refine ⟨?_, by rw [hT]; simp, fun e' he' => ?_, fun x => ?_⟩
      · rw [hT]
        refine List.pairwise_append.2 ⟨hI.pw, List.pairwise_singleton _ _, fun x hx y hy => ?_⟩
        rw [List.mem_singleton.1 hy]
        obtain ⟨⟨z, hz, h0⟩, -⟩ := (hI.mem x).1 hx
        rw [← cmpLs_eq_left h0]
        exact hlt z hz
      · rw [hT]
        simp at he'
        exact ⟨(ddN S).1, e.1, rfl, by rw [← he']; exact hself⟩
      · rw [hT]
        show x ∈ (ddN S).1 ++ [e.1] ↔ _
        rw [List.mem_append, hI.mem]
        by_cases hx : Nm.cmpLs e.1 x = 0
        · have hnx := hno x hx
          have hf : S.filter (smN x) = [] := by
            rw [List.filter_eq_nil_iff]
            exact fun z hz hq => hnx ⟨z, hz, smN_iff.1 hq⟩
          rw [filter_on hx, hf, List.nil_append, ltr_one]
          constructor
          · rintro (⟨h, -⟩ | h)
            · exact absurd h hnx
            · exact ⟨⟨e, by simp, hx⟩, List.mem_singleton.1 h⟩
          · rintro ⟨-, h⟩
            exact .inr (List.mem_singleton.2 h)
        · rw [filter_off hx, ex_off hx]
          constructor
          · rintro (h | h)
            · exact h
            · rw [List.mem_singleton.1 h] at hx; exact absurd hself hx
          · exact fun h => .inl h
    cases hl : S.getLast? with
    | none =>
      have hS0 : S = [] := by simpa using hl
      refine hnew (by rw [hS0]; simp) ?_
      rw [ddN_snoc, ddStep, hI.prev, hl]; rfl
    | some p =>
      have hpm := List.mem_of_getLast? hl
      have hlast : ∀ z ∈ S, Nm.cmpLs z.1 p.1 ≤ 0 := by
        intro z hz
        obtain ⟨S', rfl⟩ := List.getLast?_eq_some_iff.1 hl
        rcases List.mem_append.1 hz with hz | hz
        · exact leN_iff.1 ((List.pairwise_append.1 hS1).2.2 z hz p (by simp))
        · rw [List.mem_singleton.1 hz, cmpLs_self]; omega
      by_cases hpe : Nm.cmpLs p.1 e.1 = 0
      · obtain ⟨L, x0, hL, hx0⟩ := hI.lst p hl
        have hx0e : Nm.cmpLs x0 e.1 = 0 := by rw [cmpLs_eq_left hx0]; exact hpe
        have hpw := hI.pw
        rw [hL] at hpw
        obtain ⟨hp1, -, hp2⟩ := List.pairwise_append.1 hpw
        cases hf : e.2 with
        | true =>
          have hT : ddN (S ++ [e]) = (L ++ [e.1], some e.1) := by
            rw [ddN_snoc, ddStep, hI.prev, hl]
            simp only [Option.map_some]
            rw [if_neg (by simpa using hpe), if_pos hf, hL]
            simp
          refine ⟨?_, by rw [hT]; simp, fun e' he' => ?_, fun x => ?_⟩
          · rw [hT]
            refine List.pairwise_append.2 ⟨hp1, List.pairwise_singleton _ _, fun a ha y hy => ?_⟩
            rw [List.mem_singleton.1 hy, ← cmpLs_eq_right hx0e]
            exact hp2 a ha x0 (by simp)
          · rw [hT]
            simp at he'
            exact ⟨L, e.1, rfl, by rw [← he']; exact hself⟩
          · rw [hT]
            show x ∈ L ++ [e.1] ↔ _
            by_cases hx : Nm.cmpLs e.1 x = 0
            · rw [filter_on hx, ltr_flag hf]
              constructor
              · intro h
                rcases List.mem_append.1 h with h | h
                · have := hp2 x h x0 (by simp)
                  rw [cmpLs_eq_right hx0e, cmpLs_eq_right hx, cmpLs_self] at this
                  omega
                · exact ⟨⟨e, by simp, hx⟩, List.mem_singleton.1 h⟩
              · rintro ⟨-, h⟩
                exact List.mem_append_right _ (List.mem_singleton.2 h)
            · rw [filter_off hx, ex_off hx, ← hI.mem, hL, List.mem_append, List.mem_append]
              constructor
              · rintro (h | h)
                · exact .inl h
                · rw [List.mem_singleton.1 h] at hx; exact absurd hself hx
              · rintro (h | h)
                · exact .inl h
                · rw [List.mem_singleton.1 h] at hx; exact absurd (cmpLs_symm hx0e) hx
        | false =>
          have hT : ddN (S ++ [e]) = ((ddN S).1, some e.1) := by
            rw [ddN_snoc, ddStep, hI.prev, hl]
            simp only [Option.map_some]
            rw [if_neg (by simpa using hpe), if_neg (by rw [hf]; decide)]
          refine ⟨by rw [hT]; exact hI.pw, by rw [hT]; simp, fun e' he' => ?_, fun x => ?_⟩
          · rw [hT]
            simp at he'
            exact ⟨L, x0, hL, by rw [← he']; exact hx0e⟩
          · rw [hT]
            show x ∈ (ddN S).1 ↔ _
            rw [hI.mem]
            by_cases hx : Nm.cmpLs e.1 x = 0
            · have hpx : Nm.cmpLs p.1 x = 0 := by rw [cmpLs_eq_left hpe]; exact hx
              have hne : S.filter (smN x) ≠ [] := fun h => by
                have := List.filter_eq_nil_iff.1 h p hpm
                exact this (smN_iff.2 hpx)
              rw [filter_on hx, ltr_un hf hne]
              constructor
              · rintro ⟨-, h⟩; exact ⟨⟨e, by simp, hx⟩, h⟩
              · rintro ⟨-, h⟩; exact ⟨⟨p, hpm, hpx⟩, h⟩
            · rw [filter_off hx, ex_off hx]
      · have hpl : Nm.cmpLs p.1 e.1 < 0 := by have := hle p hpm; omega
        refine hnew (fun z hz => cmpLs_le_lt (hlast z hz) hpl) ?_
        rw [ddN_snoc, ddStep, hI.prev, hl]
        simp only [Option.map_some]
        rw [if_pos hpe]
theorem rng_one {p : Nat → Bool} {k0 : Nat} : ∀ (N : Nat), (∀ k, k < N → p k = decide (k = k0)) → (List.range N).filter p = if k0 < N then [k0] else []
  | 0, _ => rfl
  | N + 1, h => by
    rw [List.range_succ, List.filter_append, rng_one N (fun k hk => h k (by omega)), List.filter_cons, h N (by omega)]
    by_cases h1 : k0 < N
    · have h2 : ¬ N = k0 := by omega
      have h3 : k0 < N + 1 := by omega
      simp [h1, h2, h3]
    · by_cases h2 : N = k0
      · subst h2; simp
      · have h3 : ¬ k0 < N + 1 := by omega
        simp [h1, h2, h3]
def entX (x lab : List ByteArray) : Ne := (lab.drop (lab.length - x.length), decide (lab.length = x.length))
theorem ancE_filter {al lab x : List ByteArray} (hal : al.length ≤ lab.length) (hx : al.length ≤ x.length) : (ancE al lab).filter (smN x) = if underB lab x = true then [entX x lab] else [] := by
  rw [ancE, List.filter_map]
  by_cases hu : underB lab x = true
  · obtain ⟨u1, u2⟩ := under_iff.1 hu
    rw [if_pos hu, rng_one (k0 := lab.length - x.length) _ (fun k hk => ?_), if_pos (by omega)]
    · simp only [List.map_cons, List.map_nil, entX]
      congr 2
      apply decide_eq_decide.2
      omega
    · show smN x (lab.drop k, decide (k = 0)) = _
      by_cases h : k = lab.length - x.length
      · rw [decide_eq_true h]
        exact smN_iff.2 (by rw [h]; exact u2)
      · rw [decide_eq_false h]
        rw [← Bool.not_eq_true, smN_iff]
        intro e
        have := len_same e
        simp at this
        omega
  · rw [if_neg hu]
    have e : (List.range (lab.length - al.length + 1)).filter (smN x ∘ fun k => (lab.drop k, decide (k = 0))) = [] := by
      rw [List.filter_eq_nil_iff]
      intro k hk hq
      have h0 : Nm.cmpLs (lab.drop k) x = 0 := smN_iff.1 hq
      have hk' := List.mem_range.1 hk
      have hl := len_same h0
      rw [List.length_drop] at hl
      apply hu
      refine under_iff.2 ⟨by omega, ?_⟩
      rw [← hl, show lab.length - (lab.length - k) = k by omega]
      exact h0
    rw [e]; rfl
theorem allE_filter {al x : List ByteArray} (hx : al.length ≤ x.length) : ∀ (ls : List (List ByteArray)), (∀ l ∈ ls, al.length ≤ l.length) → (allE al ls).filter (smN x) = (ls.filter (underB · x)).map (entX x)
  | [], _ => rfl
  | l :: ls, h => by
    rw [allE, List.flatMap_cons, List.filter_append, ancE_filter (h l (by simp)) hx, List.filter_cons]
    have ih := allE_filter hx ls (fun z hz => h z (List.mem_cons_of_mem _ hz))
    rw [allE] at ih
    rw [ih]
    split <;> rfl
theorem find_gr (p : List ByteArray → Bool) : ∀ (os : List GOw), (∀ q ∈ os, ∃ s, s ∈ q.ss) → ((grT os).map (·.1.lab)).find? p = (os.find? fun q => p q.lab).map (·.lab)
  | [], _ => rfl
  | q :: os, h => by
    have ih := find_gr p os (fun r hr => h r (List.mem_cons_of_mem _ hr))
    obtain ⟨s, hs⟩ := h q (by simp)
    rw [grT, List.flatMap_cons, List.map_append, List.find?_append, List.find?_cons]
    rw [grT] at ih
    rw [ih]
    cases hp : p q.lab with
    | true =>
      cases hq : q.ss with
      | nil => rw [hq] at hs; cases hs
      | cons s0 ss => simp [hp]
    | false =>
      have e : ((q.ss.map fun s => (q, s)).map (·.1.lab)).find? p = none := by
        rw [List.find?_eq_none]
        intro z hz
        rw [List.map_map] at hz
        obtain ⟨s', -, rfl⟩ := List.mem_map.1 hz
        simp [hp]
      rw [e]
      rfl
theorem ltr_first {os : List GOw} {o : ByteArray} {al x : List ByteArray} (h : TZ os o al) (hx : al.length ≤ x.length) {i : Nat} {q0 : GOw} (hF : First (fun r : GOw => underB r.lab x = true) os i q0) : ltr ((allE al ((grT os).map (·.1.lab))).filter (smN x)) = q0.lab.drop (q0.lab.length - x.length) := by
  have hls : ∀ l ∈ (grT os).map (·.1.lab), ∃ q ∈ os, l = q.lab := by
    intro l hl
    obtain ⟨g, hg, rfl⟩ := List.mem_map.1 hl
    exact ⟨g.1, (grT_mem.1 hg).1, rfl⟩
  rw [allE_filter hx _ (fun l hl => by obtain ⟨q, hq, rfl⟩ := hls l hl; exact (under_iff.1 (h.und q hq)).1)]
  have hfd : ((grT os).map (·.1.lab)).find? (underB · x) = some q0.lab := by
    rw [find_gr _ os h.full, hF.find (fun q => underB q.lab x) (fun y hy => Iff.rfl)]
    rfl
  have hne : (((grT os).map (·.1.lab)).filter (underB · x)).map (entX x) ≠ [] := by
    intro e
    have e2 := List.map_eq_nil_iff.1 e
    have e3 := List.filter_eq_nil_iff.1 e2 _ (List.mem_of_find?_eq_some hfd)
    exact e3 (List.find?_some (p := (underB · x)) hfd)
  rcases ltr_mem hne with ⟨e, he, hfl, hl⟩ | ⟨e, he, hl⟩
  · rw [hl]
    obtain ⟨lab, hlab, rfl⟩ := List.mem_map.1 he
    obtain ⟨hm, hu⟩ := List.mem_filter.1 hlab
    obtain ⟨q, hq, rfl⟩ := hls lab hm
    have hlen : q.lab.length = x.length := by simpa [entX] using hfl
    obtain ⟨u1, u2⟩ := under_iff.1 hu
    rw [hlen, Nat.sub_self, List.drop_zero] at u2
    have h1 := under_le hF.2.1
    have h2 : Nm.cmpLs q.lab q0.lab ≤ 0 := by rw [cmpLs_eq_left u2]; exact h1
    have h3 : Nm.cmpLs q0.lab q.lab ≤ 0 := by
      obtain ⟨j, hj⟩ := List.getElem?_of_mem hq
      have hi := List.getElem?_eq_some_iff.1 hF.1
      have hj' := List.getElem?_eq_some_iff.1 hj
      rcases Nat.lt_trichotomy i j with h | h' | h'
      · have := List.pairwise_iff_getElem.1 (TZ.srt (by assumption)).1 i j hi.1 hj'.1 h
        rw [hi.2, hj'.2] at this
        omega
      · subst h'
        rw [hF.1] at hj
        rw [Option.some.inj hj, cmpLs_self]; omega
      · exact absurd hu (hF.2.2 j q h' hj)
    have h4 : q0 = q := h.one q0 hF.mem q hq (by have := cmpLs_anti q.lab q0.lab; omega)
    rw [h4]; rfl
  · rw [hl]
    rw [List.head?_map, List.head?_filter, hfd] at he
    rw [← Option.some.inj he]; rfl
/-- The model's names are the tree's. -/
theorem names_eq {os : List GOw} {o : ByteArray} {al : List ByteArray} (h : TZ os o al) (n : Nat) (hn : (allE al ((grT os).map (·.1.lab))).length ≤ n + 1) : (ddN (srtN n (allE al ((grT os).map (·.1.lab))))).1 = (nmT al os).1 := by
  have hD := dd_inv _ (srtN_pw n _ hn)
  have hN := nm_inv al os h.srt.1 h.und
  refine sorted_eq (R := fun a b => Nm.cmpLs a b < 0) (fun a => by rw [cmpLs_self]; omega) (fun a b c h1 h2 => cmpLs_lt_trans h1 h2) _ _ hD.pw hN.pw (fun x => ?_)
  rw [hD.mem, hN.mem, srtN_filter x n _ hn]
  constructor
  · rintro ⟨⟨e, he, h0⟩, hx⟩
    have he' := srtN_mem.1 he
    obtain ⟨l, hl, hel⟩ := List.mem_flatMap.1 he'
    obtain ⟨g, hg, rfl⟩ := List.mem_map.1 hl
    obtain ⟨k, hk, rfl⟩ := List.mem_map.1 hel
    have hk' := List.mem_range.1 hk
    have hq := (grT_mem.1 hg).1
    have hal := (under_iff.1 (h.und g.1 hq)).1
    have hlen := len_same h0
    simp only [List.length_drop] at hlen
    have hu : underB g.1.lab x = true := under_iff.2 ⟨by omega, by rw [← hlen, show g.1.lab.length - (g.1.lab.length - k) = k by omega]; exact h0⟩
    obtain ⟨i, q0, hF⟩ := First.ex (P := fun r : GOw => underB r.lab x = true) ⟨g.1, hq, hu⟩
    have hxa : al.length ≤ x.length := by omega
    exact ⟨i, q0, hF, hxa, by rw [← ltr_first h hxa hF]; exact hx⟩
  · rintro ⟨i, q, hF, hxa, ex⟩
    refine ⟨?_, by rw [ltr_first h hxa hF]; exact ex⟩
    have hq := hF.mem
    obtain ⟨s, hs⟩ := h.full q hq
    have hul := (under_iff.1 hF.2.1).1
    refine ⟨(q.lab.drop (q.lab.length - x.length), decide (q.lab.length - x.length = 0)), srtN_mem.2 (List.mem_flatMap.2 ⟨q.lab, List.mem_map.2 ⟨(q, s), grT_mem.2 ⟨hq, hs⟩, rfl⟩, List.mem_map.2 ⟨_, List.mem_range.2 (by omega), rfl⟩⟩), ?_⟩
    show Nm.cmpLs (q.lab.drop (q.lab.length - x.length)) x = 0
    rw [← ex]; exact cmpLs_self _
theorem grp_da {l srt : List It} : ∀ (k : Nat), ∀ s ∈ grpK l srt k, s.da ≠ []
  | 0, s, hs => by cases hs
  | k + 1, s, hs => by
    have ih := grp_da (l := l) (srt := srt) k
    rw [grpK] at hs
    cases hx : srt[k]? with
    | none => rw [hx] at hs; exact ih s hs
    | some x =>
      rw [hx] at hs
      simp only at hs
      split at hs
      · rcases List.mem_append.1 hs with h | h
        · exact ih s h
        · rw [List.mem_singleton.1 h]; simp
      · rw [addLast] at hs
        cases hl : (grpK l srt k).getLast? with
        | none => rw [hl] at hs; cases hs
        | some s0 =>
          rw [hl] at hs
          rcases List.mem_append.1 hs with h | h
          · exact ih s ((List.dropLast_sublist _).subset h)
          · rw [List.mem_singleton.1 h]; simp
theorem zOK_bad {ps : List Zp} {o : ByteArray} (hz : zOK ps o = true) : badOne o (zoneRecs ps) 0 = none ∧ ∃ al, Nm.split o = some al := by
  have h0 := (zOK_recs hz).1
  cases ha : Nm.split o with
  | none => rw [bldE, if_pos (by rw [ha]; rfl)] at h0; exact absurd h0 (by decide)
  | some al =>
    refine ⟨?_, al, rfl⟩
    rw [bldE, if_neg (by rw [ha]; simp)] at h0
    split at h0
    · exact absurd h0 (by simp)
    · cases hb : badOne o (zoneRecs ps) 0 with
      | some c => rw [hb] at h0; exact absurd h0 (bad_some _ _ c.1 c.2 hb)
      | none => rfl
theorem zOK_own {ps : List Zp} {o : ByteArray} {al : List ByteArray} (hz : zOK ps o = true) (ha : Nm.split o = some al) : ∀ p ∈ ps, ∃ lab, Nm.split p.1.own = some lab ∧ underB lab al = true := by
  intro p hp
  have hm : p.1 ∈ bldZ (zoneRecs ps) := by rw [(zOK_recs hz).2]; exact List.mem_map_of_mem hp
  have hd := grp_da _ _ hm
  obtain ⟨d, ds, hd⟩ := List.exists_cons_of_ne_nil hd
  have hr : (⟨p.1.own, p.1.ty, 1, p.1.tt, d⟩ : Rr) ∈ zoneRecs ps := by
    rw [zoneRecs, if_neg (fun hc => by rw [zOK_big hc] at hz; cases hz)]
    exact List.mem_flatMap.2 ⟨p, hp, List.mem_map.2 ⟨d, by rw [hd]; simp, rfl⟩⟩
  have h1 := one_ok (bad_none _ _ (zOK_bad hz).1 _ hr)
  simp only at h1
  cases hs : Nm.split p.1.own with
  | none => rw [hs] at h1; cases h1.1
  | some lab =>
    refine ⟨lab, rfl, ?_⟩
    rw [← isUnder_some hs ha]
    exact h1.2
def labO (x : ByteArray) : List ByteArray := (Nm.split x).getD []
def zAll (ps : List Zp) (o : ByteArray) : List Ne := allE (labO o) (ps.map fun p => labO p.1.own)
def zNm (ps : List Zp) (o : ByteArray) : List (List ByteArray) := (ddN (srtN (zAll ps o).length (zAll ps o))).1
/-- What ZoneNames answers. -/
def znR (ps : List Zp) (o : ByteArray) : List (List ByteArray) × Int := if zOK ps o = true then (zNm ps o, 0) else ([], 32)
def ZnP (r : List (List ByteArray) × Int) (w : World) (e : Ending) (w' : World) : Prop := ∃ u, e = .returned (.tuple #[u, .int .i64 r.2]) ∧ w'.ownsRow w.heap.size 9 1 u r.1.length (r.1.map fun x => Value.string (joB x)) ∧ Below w.heap.size w w'
theorem znP_none {w w' : World} (h : Below w.heap.size w w') : ZnP ([], 32) w (.returned (.tuple #[.slice none 0 0, .int .i64 32])) w' :=
  ⟨_, rfl, World.ownsRow_nil _ _ _ _, h⟩
theorem znR_same {ps qs : List Zp} {o : ByteArray} (h : qs.map (·.1) = ps.map (·.1)) (hz : zOK qs o = zOK ps o) : znR qs o = znR ps o := by
  have e : ∀ l : List Zp, (l.map fun p => labO p.1.own) = (l.map (·.1)).map fun s => labO s.own := fun l => by rw [List.map_map]; rfl
  have e2 : zAll qs o = zAll ps o := by rw [zAll, zAll, e, e, h]
  rw [znR, znR, hz, zNm, zNm, e2]
/-- The tree's names. -/
theorem znm_tree {ps : List Zp} {o : ByteArray} {al : List ByteArray} {os : List GOw} (h : TZ os o al) (hzs : ps.map (·.1) = zoneT os) : zNm ps o = (nmT al os).1 := by
  have e : (ps.map fun p => labO p.1.own) = (grT os).map (·.1.lab) := by
    have e1 : (ps.map fun p => labO p.1.own) = (ps.map (·.1)).map fun s => labO s.own := by rw [List.map_map]; rfl
    rw [e1, hzs, zoneT, List.map_map]
    refine List.map_congr_left (fun g hg => ?_)
    show (Nm.split g.1.nm).getD [] = g.1.lab
    rw [h.nm g.1 (grT_mem.1 hg).1]; rfl
  have ea : zAll ps o = allE al ((grT os).map (·.1.lab)) := by rw [zAll, e, labO, h.ap]; rfl
  rw [zNm, ea, names_eq h _ (Nat.le_succ _)]
theorem ancE_len (al lab : List ByteArray) : (ancE al lab).length = lab.length - al.length + 1 := by simp [ancE]
theorem ancE_get {al lab : List ByteArray} {k : Nat} (h : k < lab.length - al.length + 1) : (ancE al lab)[k]? = some (lab.drop k, decide (k = 0)) := by
  simp [ancE, h]
theorem allE_take (al : List ByteArray) {ls : List (List ByteArray)} {j : Nat} {l : List ByteArray} (h : ls[j]? = some l) : allE al (ls.take (j + 1)) = allE al (ls.take j) ++ ancE al l := by
  rw [Nm.take_step h, allE, allE, List.flatMap_append]; simp
theorem allE_len (al : List ByteArray) : ∀ (ls : List (List ByteArray)), (∀ l ∈ ls, l.length ≤ 254) → (allE al ls).length ≤ 255 * ls.length
  | [], _ => by simp [allE]
  | l :: ls, h => by
    have ih := allE_len al ls (fun z hz => h z (List.mem_cons_of_mem _ hz))
    rw [allE] at ih ⊢
    rw [List.flatMap_cons, List.length_append, ancE_len, List.length_cons]
    have := h l (by simp)
    omega
theorem ddN_prev (l : List Ne) (e : Ne) : (ddN (l ++ [e])).2 = some e.1 := by
  rw [ddN_snoc, ddStep]
  split
  · rfl
  · split
    · rfl
    · split <;> rfl
theorem ddN_pos (l : List Ne) : l ≠ [] → 0 < (ddN l).1.length := by
  refine snoc_ind (P := fun l => l ≠ [] → 0 < (ddN l).1.length) (fun h => absurd rfl h) (fun l e ih _ => ?_) l
  rw [ddN_snoc, ddStep]
  split
  · simp
  · rename_i p hp
    split
    · simp
    · split
      · simp
      · exact ih (fun h0 => by rw [h0] at hp; cases hp)
theorem ddN_len (l : List Ne) : (ddN l).1.length ≤ l.length := by
  refine snoc_ind (P := fun l => (ddN l).1.length ≤ l.length) (Nat.le_refl _) (fun l e ih => ?_) l
  rw [ddN_snoc, ddStep, List.length_append]
  split
  · simp; omega
  · split
    · simp; omega
    · split
      · simp; omega
      · simp; omega
theorem dd_0 {S : List Ne} {e : Ne} (he : S[0]? = some e) : (ddN (S.take 1)).1 = [e.1] := by
  rw [show S.take 1 = S.take 0 ++ [e] from Nm.take_step he, ddN_snoc]; rfl
theorem dd_n {S : List Ne} {i : Nat} {p e : Ne} (hp : S[i]? = some p) (he : S[i + 1]? = some e) : ddN (S.take (i + 1 + 1)) = if Nm.cmpLs p.1 e.1 ≠ 0 then ((ddN (S.take (i + 1))).1 ++ [e.1], some e.1) else if e.2 = true then ((ddN (S.take (i + 1))).1.dropLast ++ [e.1], some e.1) else ((ddN (S.take (i + 1))).1, some e.1) := by
  rw [Nm.take_step he, ddN_snoc, ddStep]
  have h2 : (ddN (S.take (i + 1))).2 = some p.1 := by rw [Nm.take_step hp, ddN_prev]
  rw [h2]
theorem set_last {α : Type} (f : List ByteArray → α) (D : List (List ByteArray)) (x : List ByteArray) (h : 0 < D.length) : (D.map f).set (D.length - 1) (f x) = (D.dropLast ++ [x]).map f := by
  rcases List.eq_nil_or_concat D with rfl | ⟨L, z, rfl⟩
  · simp at h
  · simp [List.concat_eq_append]
theorem allE_gl {al : List ByteArray} {ls : List (List ByteArray)} (h : ∀ l ∈ ls, Gl l) : ∀ e ∈ allE al ls, Gl e.1 := by
  intro e he
  obtain ⟨l, hl, he⟩ := List.mem_flatMap.1 he
  obtain ⟨k, -, rfl⟩ := List.mem_map.1 he
  exact (h l hl).drop k
theorem Tryz.infoNamed : (Tryz.prog.info? 75).map (fun i => (i.zero, i.size, i.bytes)) = some (some (.agg #[.string ByteArray.empty, .bool false]), 2, 24) := by kernel_rfl
def neC (e : Ne) : List Value := [.string (joB e.1), .bool e.2]
def neCs (l : List Ne) : List Value := l.flatMap neC
theorem cmp_jo {a b : List ByteArray} (ha : Gl a) (hb : Gl b) : Nm.cmpS (joB a) (joB b) = Nm.cmpLs a b := by rw [Nm.cmpS, ha.jo, hb.jo]
theorem neCs_snoc (l : List Ne) (x : Ne) : neCs (l ++ [x]) = neCs l ++ neC x := by simp [neCs]
theorem neCs_len (l : List Ne) : (neCs l).length = l.length * 2 := by
  induction l with
  | nil => rfl
  | cons x l ih =>
    have e : neCs (x :: l) = neC x ++ neCs l := by simp [neCs]
    rw [e, List.length_append, ih]
    simp [neC]
    omega
theorem neCs_at : ∀ (xs : List Ne) (k j : Nat) (x : Ne), xs[k]? = some x → j < 2 → (neCs xs)[k * 2 + j]? = (neC x)[j]? := by
  intro xs
  induction xs with
  | nil => intro k j x h; simp at h
  | cons y xs ih =>
    intro k j x h hj
    have e : neCs (y :: xs) = neC y ++ neCs xs := by simp [neCs]
    have hl : (neC y).length = 2 := rfl
    cases k with
    | zero =>
      simp at h; subst h
      rw [e, Nat.zero_mul, Nat.zero_add, List.getElem?_append_left (by omega)]
    | succ k =>
      simp at h
      rw [e, List.getElem?_append_right (by omega), hl, show (k + 1) * 2 + j - 2 = k * 2 + j by omega]
      exact ih k j x h hj
theorem ne_cells {w : World} {xs : List Ne} {b off k : Nat} {x : Ne} (hc : ∀ (i : Nat) (y : Value), (neCs xs)[i]? = some y → w.cell? ⟨b, off + i, none⟩ = some y) (h : xs[k]? = some x) :
    w.cell? ⟨b, off + k * 2, none⟩ = some (.string (joB x.1)) ∧ w.cell? ⟨b, off + k * 2 + 1, none⟩ = some (.bool x.2) :=
  ⟨hc (k * 2) _ ((neCs_at xs k 0 x h (by decide)).trans rfl), hc (k * 2 + 1) _ ((neCs_at xs k 1 x h (by decide)).trans rfl)⟩
theorem neCs_take (l : List Ne) (h : Nat) : neCs (l.take h) = (neCs l).take (h * 2) := by
  induction l generalizing h with
  | nil => simp [neCs]
  | cons x l ih =>
    have e : ∀ z zs, neCs (z :: zs) = neC z ++ neCs zs := by intro z zs; simp [neCs]
    have hl : (neC x).length = 2 := rfl
    cases h with
    | zero => simp [neCs]
    | succ h =>
      rw [List.take_succ_cons, e, e, ih, List.take_append, hl, List.take_of_length_le (l := neC x) (i := (h + 1) * 2) (by omega), show (h + 1) * 2 - 2 = h * 2 by omega]
theorem neCs_drop (l : List Ne) (h : Nat) : neCs (l.drop h) = (neCs l).drop (h * 2) := by
  induction l generalizing h with
  | nil => simp [neCs]
  | cons x l ih =>
    have e : ∀ z zs, neCs (z :: zs) = neC z ++ neCs zs := by intro z zs; simp [neCs]
    have hl : (neC x).length = 2 := rfl
    cases h with
    | zero => simp
    | succ h =>
      rw [List.drop_succ_cons, e, ih, List.drop_append, hl, List.drop_of_length_le (l := neC x) (i := (h + 1) * 2) (by omega), show (h + 1) * 2 - 2 = h * 2 by omega, List.nil_append]
theorem nr_take {w : World} {b off n cap h : Nat} {l : List Ne} (hr : CRow w (.slice (some ⟨b, off, none⟩) n cap) l.length 2 (neCs l)) (hh : h ≤ l.length) : CRow w (.slice (some ⟨b, off, none⟩) h cap) (l.take h).length 2 (neCs (l.take h)) := by
  obtain ⟨h0, a, c, e, h1, h2, h3⟩ := hr
  simp only [Value.slice.injEq] at e
  obtain ⟨rfl, rfl, rfl⟩ := e
  have hl : (l.take h).length = h := by rw [List.length_take]; omega
  rw [hl]
  refine ⟨by rw [neCs_len, hl], _, _, rfl, by omega, h2, fun hp => ⟨b, off, rfl, fun i x hx => ?_⟩⟩
  rw [neCs_take] at hx
  obtain ⟨b', off', e, hc⟩ := h3 (by omega)
  cases e
  refine hc i x ?_
  rw [List.getElem?_take] at hx
  split at hx
  · exact hx
  · cases hx
theorem nr_drop {w : World} {b off n cap h : Nat} {l : List Ne} (hr : CRow w (.slice (some ⟨b, off, none⟩) n cap) l.length 2 (neCs l)) (hh : h < l.length) : CRow w (.slice (some ⟨b, off + h * 2, none⟩) (l.length - h) (cap - h)) (l.drop h).length 2 (neCs (l.drop h)) := by
  obtain ⟨h0, a, c, e, h1, h2, h3⟩ := hr
  simp only [Value.slice.injEq] at e
  obtain ⟨rfl, rfl, rfl⟩ := e
  have hl : (l.drop h).length = l.length - h := List.length_drop
  rw [hl]
  refine ⟨by rw [neCs_len, hl], _, _, rfl, by omega, by omega, fun hp => ⟨b, off + h * 2, rfl, fun i x hx => ?_⟩⟩
  rw [neCs_drop, List.getElem?_drop] at hx
  obtain ⟨b', off', e, hc⟩ := h3 (by omega)
  cases e
  have := hc (h * 2 + i) x hx
  rw [Nat.add_assoc]
  exact this
theorem nmerge_left {a b : List Ne} {i : Nat} {x : Ne} (hx : a[i]? = some x) : List.merge (a.drop i) (b.drop b.length) leN = x :: List.merge (a.drop (i + 1)) (b.drop b.length) leN := by
  obtain ⟨hi, e⟩ := List.getElem?_eq_some_iff.1 hx
  rw [List.drop_length, List.merge_right, List.merge_right, List.drop_eq_getElem_cons hi, e]
theorem nmerge_one {a b : List Ne} {i k : Nat} {x y : Ne} (hx : a[i]? = some x) (hy : b[k]? = some y) (h : leN x y = true) : List.merge (a.drop i) (b.drop k) leN = x :: List.merge (a.drop (i + 1)) (b.drop k) leN := by
  obtain ⟨hi, e⟩ := List.getElem?_eq_some_iff.1 hx
  obtain ⟨hk, e2⟩ := List.getElem?_eq_some_iff.1 hy
  rw [List.drop_eq_getElem_cons hi, e, List.drop_eq_getElem_cons hk, e2, List.cons_merge_cons, if_pos h]
theorem nmerge_two {a b : List Ne} {i k : Nat} {x y : Ne} (hx : a[i]? = some x) (hy : b[k]? = some y) (h : leN x y = false) : List.merge (a.drop i) (b.drop k) leN = y :: List.merge (a.drop i) (b.drop (k + 1)) leN := by
  obtain ⟨hi, e⟩ := List.getElem?_eq_some_iff.1 hx
  obtain ⟨hk, e2⟩ := List.getElem?_eq_some_iff.1 hy
  rw [List.drop_eq_getElem_cons hi, e, List.drop_eq_getElem_cons hk, e2, List.cons_merge_cons, if_neg (by simp [h])]
theorem nmerge_right {a b : List Ne} {k : Nat} {y : Ne} (hy : b[k]? = some y) : List.merge (a.drop a.length) (b.drop k) leN = y :: List.merge (a.drop a.length) (b.drop (k + 1)) leN := by
  obtain ⟨hk, e⟩ := List.getElem?_eq_some_iff.1 hy
  rw [List.drop_length, List.nil_merge, List.nil_merge, List.drop_eq_getElem_cons hk, e]

set_option maxRecDepth 100000 in
set_option maxHeartbeats 3200000 in
theorem l06SortNames_any : ∀ (n : Nat) (v : Value) (l : List Ne) (w : World), CRow w v l.length 2 (neCs l) → l.length ≤ n → l.length ≤ 1000000 → (∀ x ∈ l, Gl x.1) →
    Calls Tryz.prog 42 #[v] w fun e w' => ∃ u, e = .returned u ∧ CRow w' u l.length 2 (neCs (srtN n l)) ∧ Below w.heap.size w w' := by
  obtain ⟨i0, hi, hz0, hz1, hz2⟩ := info_parts Tryz.infoNamed
  intro n
  induction n with
  | zero =>
    intro v l w h hn hl hfo
    have hr := h
    obtain ⟨_, a, cap, rfl, hcap, hmx, hc⟩ := h
    have hz : l.length = 0 := by omega
    have i1 : (l.length : Int) < 2 := by omega
    clear hc
    go_enter Tryz.func42, Tryz.ntmps42
    go_wp2
    go_ret
    exact ⟨_, rfl, hr, Below.refl _ _⟩
  | succ n ih =>
    intro v l w h hn hl hfo
    by_cases hs : l.length < 2
    · have hr := h
      rw [srtN_small hs]
      obtain ⟨_, a, cap, rfl, hcap, hmx, hc⟩ := h
      have i1 : (l.length : Int) < 2 := by omega
      clear hc ih
      go_enter Tryz.func42, Tryz.ntmps42
      go_wp2
      go_ret
      exact ⟨_, rfl, hr, Below.refl _ _⟩
    · have hr := h
      obtain ⟨_, a, cap, rfl, hcap, hmx, hc⟩ := h
      obtain ⟨b, off, rfl, _⟩ := hc (by omega)
      clear hc
      have i1 : ¬ (l.length : Int) < 2 := by omega
      obtain ⟨hf, hhf⟩ : ∃ hf, hf = l.length / 2 := ⟨_, rfl⟩
      have hh1 : 0 < hf := by omega
      have hh2 : hf < l.length := by omega
      have hq : (l.length : Int) / 2 = (hf : Int) := by omega
      have hra := nr_take hr (Nat.le_of_lt hh2)
      have hrb := nr_drop hr hh2
      have hla : (l.take hf).length = hf := by rw [List.length_take]; omega
      have hlb : (l.drop hf).length = l.length - hf := List.length_drop
      have ha := ih _ (l.take hf) w hra (by omega) (by omega) (fun x hx => hfo x (List.mem_of_mem_take hx))
      have hb := fun W hW => ih _ (l.drop hf) W (hrb.below hW) (by omega) (by omega) (fun x hx => hfo x (List.mem_of_mem_drop hx))
      have HSF : Hid (srtN (n + 1) l = List.merge (srtN n (l.take hf)) (srtN n (l.drop hf)) leN) := by show _ = _; rw [hhf]; exact srtN_big hs
      rw [hla] at ha
      rw [hlb] at hb
      unfold maxLen at hmx
      have hc2 : ¬ cap = hf := by omega
      clear ih hr hra hrb hhf hs
      go_enter Tryz.func42, Tryz.ntmps42
      go_wp2_with fail
      refine ha.mono ?_
      rintro e w1 ⟨u1, rfl, hA, b1⟩
      obtain ⟨u1a, u1c, hu1⟩ : ∃ a c, u1 = .slice a hf c := by obtain ⟨_, a, c, e, _⟩ := hA; exact ⟨a, c, e⟩
      subst hu1
      go_wp2_with fail
      refine (hb w1 b1).mono ?_
      rintro e w2 ⟨u2, rfl, hB, b2⟩
      obtain ⟨u2a, u2c, hu2⟩ : ∃ a c, u2 = .slice a (l.length - hf) c := by obtain ⟨_, a, c, e, _⟩ := hB; exact ⟨a, c, e⟩
      subst hu2
      have hA2 := hA.below b2
      have B2 := Nm.below_two b1 b2
      have hAl : (srtN n (l.take hf)).length = hf := by rw [srtN_len, hla]
      have hBl : (srtN n (l.drop hf)).length = l.length - hf := by rw [srtN_len, hlb]
      have hAf : ∀ x ∈ srtN n (l.take hf), Gl x.1 := fun x hx => hfo x (List.mem_of_mem_take (srtN_mem.1 hx))
      have hBf : ∀ x ∈ srtN n (l.drop hf), Gl x.1 := fun x hx => hfo x (List.mem_of_mem_drop (srtN_mem.1 hx))
      clear ha hb hA b1 b2 hla hlb
      generalize srtN n (l.take hf) = LA at *
      generalize srtN n (l.drop hf) = LB at *
      obtain ⟨M, hM⟩ : ∃ M, List.merge LA LB leN = M := ⟨_, rfl⟩
      have HM := Nm.hide hM
      have HSF2 : Hid (srtN (n + 1) l = M) := HSF.out.trans hM
      obtain ⟨lb, hlb⟩ : ∃ lb, l.length - hf = lb := ⟨_, rfl⟩
      rw [hlb] at hBl hB
      have hlb2 : (l.length : Nat) = hf + lb := by omega
      have o0 := World.ownsRow_lit (base := w2.heap.size) (e := 75) (size := 2) w2 #[] 0 (Nat.le_refl _) (by decide) rfl
      have HH := Nm.hide (And.intro hA2 (And.intro hB (And.intro hAf hBf)))
      have HL := Nm.hide (And.intro hAl hBl)
      have HLN := Nm.hide hlb2
      clear hA2 hB hAf hBf hM HSF hq hAl hBl hc2
      go_wp2
      clear hlb hlb2
      go_loopw [5, 6, 7] (fun vo vi vk wr => ∃ (i k : Nat) (O : List Ne), i ≤ hf ∧ k ≤ lb ∧ vi = .int .i64 i ∧ vk = .int .i64 k ∧ Hid (O ++ List.merge (LA.drop i) (LB.drop k) leN = M ∧ O.length = i + k) ∧ wr.ownsRow w2.heap.size 75 2 vo (i + k) (neCs O) ∧ Below w2.heap.size w2 wr) (fun _ vi vk _ => (hf - (intOf vi).toNat) + (lb - (intOf vk).toNat))
      case atStart => exact ⟨0, 0, [], by omega, by omega, rfl, rfl, ⟨HM.out, rfl⟩, o0, (Below.refl _ _).alloc (Nat.le_refl _) _⟩
      case round =>
        clear o0
        obtain ⟨i, k, O, hi1, hk1, rfl, rfl, HO, oO, hbel⟩ := hrel
        have hln := HLN.out
        obtain ⟨oa, oc, hov⟩ := own_sl oO
        subst hov
        have n1 : (0 : Int) ≤ (i : Int) := by omega
        have n2 : (0 : Int) ≤ (k : Int) := by omega
        by_cases hil : i < hf
        · obtain ⟨x, hx⟩ : ∃ x, LA[i]? = some x := ⟨_, List.getElem?_eq_getElem (by have := HL.out.1; omega)⟩
          have hCellA : ∀ W, Below w2.heap.size w2 W → ∃ ab ao, u1a = some ⟨ab, ao, none⟩ ∧ ∀ (j : Nat) (z : Value), (neCs LA)[j]? = some z → W.cell? ⟨ab, ao + j, none⟩ = some z := by
            intro W hW
            obtain ⟨_, a', c', e', _, _, hc⟩ := HH.out.1.below hW
            simp only [Value.slice.injEq] at e'
            obtain ⟨rfl, _, rfl⟩ := e'
            exact hc (by omega)
          have i1 : (i : Int) < (hf : Int) := by omega
          by_cases hkl : k < lb
          · obtain ⟨y, hy⟩ : ∃ y, LB[k]? = some y := ⟨_, List.getElem?_eq_getElem (by have := HL.out.2; omega)⟩
            have hCellB : ∀ W, Below w2.heap.size w2 W → ∃ bb bo, u2a = some ⟨bb, bo, none⟩ ∧ ∀ (j : Nat) (z : Value), (neCs LB)[j]? = some z → W.cell? ⟨bb, bo + j, none⟩ = some z := by
              intro W hW
              obtain ⟨_, a', c', e', _, _, hc⟩ := HH.out.2.1.below hW
              simp only [Value.slice.injEq] at e'
              obtain ⟨rfl, _, rfl⟩ := e'
              exact hc (by omega)
            have k1 : (k : Int) < (lb : Int) := by omega
            have k2 : ((k : Int) == (lb : Int)) = false := by simp; omega
            obtain ⟨ab, ao, rfl, hcA⟩ := hCellA wr hbel
            obtain ⟨bb, bo, rfl, hcB⟩ := hCellB wr hbel
            have hS : ∀ W, Below wr.heap.size wr W → (W.cell? ⟨ab, ao + i * 2, none⟩ = some (.string (joB x.1)) ∧ W.cell? ⟨ab, ao + i * 2 + 1, none⟩ = some (.bool x.2)) ∧ (W.cell? ⟨bb, bo + k * 2, none⟩ = some (.string (joB y.1)) ∧ W.cell? ⟨bb, bo + k * 2 + 1, none⟩ = some (.bool y.2)) ∧ Below wr.heap.size wr W := by
              intro W hW
              obtain ⟨ab', ao', e1, hcA'⟩ := hCellA W (Nm.below_two hbel hW)
              obtain ⟨bb', bo', e2, hcB'⟩ := hCellB W (Nm.below_two hbel hW)
              cases e1
              cases e2
              obtain ⟨c0, c1⟩ := ne_cells hcA' hx
              obtain ⟨d0, d1⟩ := ne_cells hcB' hy
              exact ⟨⟨c0, c1⟩, ⟨d0, d1⟩, hW⟩
            have hS0 := hS _ (Below.refl _ _).drew
            have hbf := fun W => specCompareNames_any (joB x.1) (joB y.1) W (by have := jo_size (HH.out.2.2.1 x (List.mem_of_getElem? hx)); unfold maxLen; omega) (by have := jo_size (HH.out.2.2.2 y (List.mem_of_getElem? hy)); unfold maxLen; omega)
            rw [cmp_jo (HH.out.2.2.1 x (List.mem_of_getElem? hx)) (HH.out.2.2.2 y (List.mem_of_getElem? hy))] at hbf
            have hiy := fun W (hW : Below wr.heap.size wr W) => (hbf W).mono (R' := fun e w' => e = .returned (.int .i64 (Nm.cmpLs x.1 y.1)) ∧ Below wr.heap.size wr w') (by rintro e w' ⟨he, hb⟩; exact ⟨he, hW.trans (hb.mono hW.size)⟩)
            have hOB : ∀ W, Below wr.heap.size wr W → W.ownsRow w2.heap.size 75 2 (.slice oa (i + k) oc) (i + k) (neCs O) := fun W hW => own_below oO hW
            have hwk : IntKind.i64.wrap (k : Int) = (k : Int) := Go.wrap_small _ (by omega) (by omega)
            have hwi : IntKind.i64.wrap (i : Int) = (i : Int) := Go.wrap_small _ (by omega) (by omega)
            clear hbf hcA hcB
            cases hP : leN x y with
            | true =>
              have hcle := leN_iff.1 hP
              have HO2 : Hid ((O ++ [x]) ++ List.merge (LA.drop (i + 1)) (LB.drop k) leN = M ∧ (O ++ [x]).length = i + 1 + k) := by
                refine ⟨?_, by have := HO.out.2; simp; omega⟩
                rw [← HO.out.1, nmerge_one hx hy hP, List.append_assoc]; rfl
              clear hx hy hCellA hCellB hP HO
              generalize Nm.cmpLs x.1 y.1 = CMP at *
              go_wp2
              go_region_held3 (fun W => (W.cell? ⟨ab, ao + i * 2, none⟩ = some (.string (joB x.1)) ∧ W.cell? ⟨ab, ao + i * 2 + 1, none⟩ = some (.bool x.2)) ∧ (W.cell? ⟨bb, bo + k * 2, none⟩ = some (.string (joB y.1)) ∧ W.cell? ⟨bb, bo + k * 2 + 1, none⟩ = some (.bool y.2)) ∧ Below wr.heap.size wr W) (first | with_reducible assumption | with_reducible exact hS0) ((first | (go_at_call 43; refine (hiy _ hS0.2.2).mono ?_; rintro e w3 ⟨rfl, hb3⟩; have hS1 := hS _ hb3)))
              have hbE := Nm.below_two hbel hS1.2.2
              have oO' : w3.ownsRow w2.heap.size 75 2 (.slice oa (i + k) oc) (i + k) (neCs O) := hOB _ hS1.2.2
              obtain ⟨⟨c0, c1⟩, ⟨d0, d1⟩, _⟩ := hS1
              clear hS hS0 hiy
              go_wp2_with (at_builtin; refine wpList_append_own _ rfl (.tmp 59) (.tmp 64) 70 rfl w2.heap.size 75 i0 _ 2 24 Tryz.underlying70 hi hz0 hz1 hz2 rfl (by decide) _ _ _ rfl (own_below oO' ((Below.refl _ _).alloc (Nat.le_refl _) _)) ⟨w3.heap.size, 0, none⟩ 1 1 (neC x) rfl rfl (cell_newV _ _ _) (by intro u hu; simp [neC] at hu; rcases hu with rfl | rfl <;> rfl) (by unfold maxLen; omega) (by omega) (by have := hbE.size; simp; omega) ?_; intro va wa ho9 hg9 hnl9)
              rw [show neCs O ++ neC x = neCs (O ++ [x]) from (neCs_snoc O x).symm] at ho9
              go_wp2
              go_roundw
              case rel => exact ⟨i + 1, k, O ++ [x], by omega, by omega, by go_num, rfl, HO2, by rw [show i + 1 + k = i + k + 1 by omega]; exact ho9, (hbE.alloc hbE.size _).grown hg9 (by have := hbE.size; simp; omega) (fun g hg => (oO'.lt g hg).1)⟩
              case measure => simp [intOf]; omega
            | false =>
              have hcle : ¬ Nm.cmpLs x.1 y.1 ≤ 0 := fun h => by rw [leN_iff.2 h] at hP; cases hP
              have HO2 : Hid ((O ++ [y]) ++ List.merge (LA.drop i) (LB.drop (k + 1)) leN = M ∧ (O ++ [y]).length = i + (k + 1)) := by
                refine ⟨?_, by have := HO.out.2; simp; omega⟩
                rw [← HO.out.1, nmerge_two hx hy hP, List.append_assoc]; rfl
              clear hx hy hCellA hCellB hP HO
              generalize Nm.cmpLs x.1 y.1 = CMP at *
              go_wp2
              go_region_held3 (fun W => (W.cell? ⟨ab, ao + i * 2, none⟩ = some (.string (joB x.1)) ∧ W.cell? ⟨ab, ao + i * 2 + 1, none⟩ = some (.bool x.2)) ∧ (W.cell? ⟨bb, bo + k * 2, none⟩ = some (.string (joB y.1)) ∧ W.cell? ⟨bb, bo + k * 2 + 1, none⟩ = some (.bool y.2)) ∧ Below wr.heap.size wr W) (first | with_reducible assumption | with_reducible exact hS0) ((first | (go_at_call 43; refine (hiy _ hS0.2.2).mono ?_; rintro e w3 ⟨rfl, hb3⟩; have hS1 := hS _ hb3)))
              have hbE := Nm.below_two hbel hS1.2.2
              have oO' : w3.ownsRow w2.heap.size 75 2 (.slice oa (i + k) oc) (i + k) (neCs O) := hOB _ hS1.2.2
              obtain ⟨⟨c0, c1⟩, ⟨d0, d1⟩, _⟩ := hS1
              clear hS hS0 hiy
              go_wp2_with (at_builtin; refine wpList_append_own _ rfl (.tmp 68) (.tmp 73) 70 rfl w2.heap.size 75 i0 _ 2 24 Tryz.underlying70 hi hz0 hz1 hz2 rfl (by decide) _ _ _ rfl (own_below oO' ((Below.refl _ _).alloc (Nat.le_refl _) _)) ⟨w3.heap.size, 0, none⟩ 1 1 (neC y) rfl rfl (cell_newV _ _ _) (by intro u hu; simp [neC] at hu; rcases hu with rfl | rfl <;> rfl) (by unfold maxLen; omega) (by omega) (by have := hbE.size; simp; omega) ?_; intro va wa ho9 hg9 hnl9)
              rw [show neCs O ++ neC y = neCs (O ++ [y]) from (neCs_snoc O y).symm] at ho9
              go_wp2
              go_roundw
              case rel => exact ⟨i, k + 1, O ++ [y], by omega, by omega, rfl, by go_num, HO2, by rw [show i + (k + 1) = i + k + 1 by omega]; exact ho9, (hbE.alloc hbE.size _).grown hg9 (by have := hbE.size; simp; omega) (fun g hg => (oO'.lt g hg).1)⟩
              case measure => simp [intOf]; omega
          · obtain rfl : k = lb := by omega
            have k1 : ((k : Int) == (k : Int)) = true := by simp
            have HO2 : Hid ((O ++ [x]) ++ List.merge (LA.drop (i + 1)) (LB.drop k) leN = M ∧ (O ++ [x]).length = i + 1 + k) := by
              refine ⟨?_, by have := HO.out.2; simp; omega⟩
              have hk := HL.out.2
              rw [← HO.out.1, ← hk, nmerge_left hx, List.append_assoc]; rfl
            obtain ⟨ab, ao, rfl, hcA⟩ := hCellA wr hbel
            obtain ⟨c0, c1⟩ := ne_cells hcA hx
            clear hx hcA hCellA HO
            go_wp2
            go_quiet (fail)
            generalize hwE : World.drewN wr _ = wE
            have hbE : Below w2.heap.size w2 wE := by rw [← hwE]; exact Go.below_drewN hbel _
            have oO' : wE.ownsRow w2.heap.size 75 2 (.slice oa (i + k) oc) (i + k) (neCs O) := by rw [← hwE]; exact own_dN oO _
            have hcE : ∀ p, wE.cell? p = wr.cell? p := by intro p; rw [← hwE]; simp
            have c0E := (hcE _).trans c0
            have c1E := (hcE _).trans c1
            clear hwE
            go_wp2_with (at_builtin; refine wpList_append_own _ rfl (.tmp 59) (.tmp 64) 70 rfl w2.heap.size 75 i0 _ 2 24 Tryz.underlying70 hi hz0 hz1 hz2 rfl (by decide) _ _ _ rfl (own_below oO' ((Below.refl _ _).alloc (Nat.le_refl _) _)) ⟨wE.heap.size, 0, none⟩ 1 1 (neC x) rfl rfl (cell_newV _ _ _) (by intro u hu; simp [neC] at hu; rcases hu with rfl | rfl <;> rfl) (by unfold maxLen; omega) (by omega) (by have := hbE.size; simp; omega) ?_; intro va wa ho9 hg9 hnl9)
            rw [show neCs O ++ neC x = neCs (O ++ [x]) from (neCs_snoc O x).symm] at ho9
            go_wp2
            go_roundw
            case rel => exact ⟨i + 1, k, O ++ [x], by omega, by omega, by go_num, rfl, HO2, by rw [show i + 1 + k = i + k + 1 by omega]; exact ho9, (hbE.alloc hbE.size _).grown hg9 (by have := hbE.size; simp; omega) (fun g hg => (oO'.lt g hg).1)⟩
            case measure => simp [intOf]; omega
        · obtain rfl : i = hf := by omega
          have i1 : (i : Int) ≤ (i : Int) := by omega
          by_cases hkl : k < lb
          · obtain ⟨y, hy⟩ : ∃ y, LB[k]? = some y := ⟨_, List.getElem?_eq_getElem (by have := HL.out.2; omega)⟩
            have hCellB : ∀ W, Below w2.heap.size w2 W → ∃ bb bo, u2a = some ⟨bb, bo, none⟩ ∧ ∀ (j : Nat) (z : Value), (neCs LB)[j]? = some z → W.cell? ⟨bb, bo + j, none⟩ = some z := by
              intro W hW
              obtain ⟨_, a', c', e', _, _, hc⟩ := HH.out.2.1.below hW
              simp only [Value.slice.injEq] at e'
              obtain ⟨rfl, _, rfl⟩ := e'
              exact hc (by omega)
            have k1 : (k : Int) < (lb : Int) := by omega
            have k2 : ((k : Int) == (lb : Int)) = false := by simp; omega
            have i2 : decide ((i : Int) < (i : Int)) = false := by simp
            have HO2 : Hid ((O ++ [y]) ++ List.merge (LA.drop i) (LB.drop (k + 1)) leN = M ∧ (O ++ [y]).length = i + (k + 1)) := by
              refine ⟨?_, by have := HO.out.2; simp; omega⟩
              have hk := HL.out.1
              rw [← HO.out.1, ← hk, nmerge_right hy, List.append_assoc]; rfl
            obtain ⟨bb, bo, rfl, hcB⟩ := hCellB wr hbel
            obtain ⟨c0, c1⟩ := ne_cells hcB hy
            clear hy hcB hCellB HO
            go_wp2
            go_quiet (fail)
            generalize hwE : World.drewN wr _ = wE
            have hbE : Below w2.heap.size w2 wE := by rw [← hwE]; exact Go.below_drewN hbel _
            have oO' : wE.ownsRow w2.heap.size 75 2 (.slice oa (i + k) oc) (i + k) (neCs O) := by rw [← hwE]; exact own_dN oO _
            have hcE : ∀ p, wE.cell? p = wr.cell? p := by intro p; rw [← hwE]; simp
            have c0E := (hcE _).trans c0
            have c1E := (hcE _).trans c1
            clear hwE
            go_wp2_with (at_builtin; refine wpList_append_own _ rfl (.tmp 68) (.tmp 73) 70 rfl w2.heap.size 75 i0 _ 2 24 Tryz.underlying70 hi hz0 hz1 hz2 rfl (by decide) _ _ _ rfl (own_below oO' ((Below.refl _ _).alloc (Nat.le_refl _) _)) ⟨wE.heap.size, 0, none⟩ 1 1 (neC y) rfl rfl (cell_newV _ _ _) (by intro u hu; simp [neC] at hu; rcases hu with rfl | rfl <;> rfl) (by unfold maxLen; omega) (by omega) (by have := hbE.size; simp; omega) ?_; intro va wa ho9 hg9 hnl9)
            rw [show neCs O ++ neC y = neCs (O ++ [y]) from (neCs_snoc O y).symm] at ho9
            go_wp2
            go_roundw
            case rel => exact ⟨i, k + 1, O ++ [y], by omega, by omega, rfl, by go_num, HO2, by rw [show i + (k + 1) = i + k + 1 by omega]; exact ho9, (hbE.alloc hbE.size _).grown hg9 (by have := hbE.size; simp; omega) (fun g hg => (oO'.lt g hg).1)⟩
            case measure => simp [intOf]; omega
          · obtain rfl : k = lb := by omega
            have k1 : (k : Int) ≤ (k : Int) := by omega
            have HE : Hid (O = M) := by
              show _ = _
              have h1 := HL.out.1
              have h2 := HL.out.2
              have := HO.out.1
              rw [List.drop_of_length_le (by omega), List.drop_of_length_le (by omega)] at this
              simpa using this
            go_wp2
            go_ret
            refine ⟨_, rfl, ?_, Nm.below_two B2 hbel⟩
            rw [HSF2.out, ← HE.out, hln]
            exact CRow.of_owns oO
end Go.Proofs.YtnpegoclghfmpaaGreat
/- A name without its first labels: mathematics. -/
namespace Go.Proofs.YtnpegoclghfmpaaGreat
open Go.RowKit

def ancS (s : ByteArray) (n : Int) : ByteArray × Int :=
  match Nm.split s with
  | none => (ByteArray.empty, 32)
  | some ls => if 0 ≤ n ∧ n ≤ ls.length then (⟨(Nm.joinL (ls.drop n.toNat)).toArray⟩, 0) else (ByteArray.empty, 32)
end Go.Proofs.YtnpegoclghfmpaaGreat
/- spec.Ancestor by its contract. -/
namespace Go.Proofs.YtnpegoclghfmpaaGreat
open Go.RowKit

set_option maxRecDepth 100000 in
set_option maxHeartbeats 800000 in
theorem specAncestor_any (s : ByteArray) (n : Int) (w : World) (hs : s.size ≤ maxLen) :
    Calls Tryz.prog 41 #[.string s, .int .i64 n] w fun e w' => e = .returned (.tuple #[.string (ancS s n).1, .int .i64 (ancS s n).2]) ∧ Below w.heap.size w w' := by
  have hsp := l01Split_any s w hs
  cases hq : Nm.split s with
  | none =>
    have HA : Hid (ancS s n = (ByteArray.empty, 32)) := by show _ = _; simp [ancS, hq]
    rw [hq] at hsp
    clear hq
    go_enter Tryz.func41, Tryz.ntmps41
    go_wp2_with fail
    refine hsp.mono ?_
    rintro e w1 ⟨v, rfl, hown, hbel⟩
    go_wp2
    go_ret2
    rw [HA.out]
    exact ⟨rfl, hbel⟩
  | some ls =>
    have hz := Nm.split_size hq
    rw [hq] at hsp
    by_cases hr : 0 ≤ n ∧ n ≤ ls.length
    · have HA : Hid (ancS s n = (⟨(Nm.joinL (ls.drop n.toNat)).toArray⟩, 0)) := by show _ = _; simp [ancS, hq, hr]
      clear hq
      obtain ⟨h0, h1⟩ := hr
      obtain ⟨k, rfl⟩ := Int.eq_ofNat_of_zero_le h0
      go_enter Tryz.func41, Tryz.ntmps41
      go_wp2_with fail
      refine hsp.mono ?_
      rintro e w1 ⟨v, rfl, hown, hbel⟩
      have hrow := Nm.SRow.of_owns hown
      obtain ⟨a, cap, rfl, hcap, hmx, hnl, hc⟩ := hrow
      simp only [Option.getD_some] at hown
      have hd1 := fun e : cap = k => (Nm.SRow.of_owns hown).drop_all e
      have hd2 := (Nm.SRow.of_owns hown).drop (k := k) (by omega)
      have hwd := Nm.wsum_drop_le ls k
      have hkd : decide ((k : Int) < 0) = false := by simp
      clear hown hc
      by_cases hck : cap = k
      · have hd := hd1 hck
        clear hd1 hd2
        subst hck
        go_wp2_with fail
        refine (l01Join_any _ (ls.drop cap) _ hd (by omega)).mono ?_
        rintro e w2 ⟨rfl, hbel2⟩
        go_wp2
        go_ret2
        rw [HA.out]
        exact ⟨rfl, Nm.below_two hbel hbel2⟩
      · clear hd1
        go_wp2_with fail
        refine (l01Join_any _ (ls.drop k) _ hd2 (by omega)).mono ?_
        rintro e w2 ⟨rfl, hbel2⟩
        go_wp2
        go_ret2
        rw [HA.out]
        exact ⟨rfl, Nm.below_two hbel hbel2⟩
    · have HA : Hid (ancS s n = (ByteArray.empty, 32)) := by show _ = _; simp only [ancS, hq]; rw [if_neg hr]
      clear hq
      go_enter Tryz.func41, Tryz.ntmps41
      go_wp2_with fail
      refine hsp.mono ?_
      rintro e w1 ⟨v, rfl, hown, hbel⟩
      obtain ⟨a, cap, rfl, hcap, hmx, hnl, hc⟩ := Nm.SRow.of_owns hown
      simp only [Option.getD_some] at hown hcap hc
      by_cases h0 : n < 0
      · have hd : decide (n < 0) = true := by simp [h0]
        go_wp2
        go_ret2
        rw [HA.out]
        exact ⟨rfl, hbel⟩
      · have hd : decide (n < 0) = false := by simp; omega
        have hgt : (ls.length : Int) < n := by omega
        go_wp2
        go_ret2
        rw [HA.out]
        exact ⟨rfl, hbel⟩
end Go.Proofs.YtnpegoclghfmpaaGreat
/- spec.ZoneNames by its contract. -/
namespace Go.Proofs.YtnpegoclghfmpaaGreat
open Go.RowKit
set_option linter.unusedVariables false

set_option maxRecDepth 100000 in
set_option maxHeartbeats 400000 in
theorem l01Labels_any (s : ByteArray) (w : World) (hs : s.size ≤ maxLen) :
    Calls Tryz.prog 40 #[.string s] w fun e w' => ∃ a c, e = .returned (.slice a (labO s).length c) ∧ Below w.heap.size w w' := by
  go_enter Tryz.func40, Tryz.ntmps40
  go_wp2_with (go_at_call 74; refine (l01Split_any s _ hs).mono ?_; rintro e w1 ⟨v, rfl, hown, hbel⟩)
  obtain ⟨a, c, rfl⟩ := own_sl hown
  go_ret
  exact ⟨_, _, rfl, hbel⟩
theorem anc_joZ {name : ByteArray} {lab : List ByteArray} (h : Nm.split name = some lab) {k : Nat} (hk : k ≤ lab.length) : ancS name k = (joB (lab.drop k), 0) := by
  rw [ancS, h]
  show (if _ then _ else _) = _
  rw [if_pos (by constructor <;> omega)]
  simp [joB]
theorem nam_bel {W wr w1 : World} {v : Value} {B e s n : Nat} {l : List Value} (hB : B ≤ wr.heap.size)
    (hown : wr.ownsRow B e s v n l) (hbel : Below B W wr) (o : Obj) (hgrow : (wr.alloc o).grownBy w1 v.ownBlock) : Below B W w1 := by
  refine (hbel.alloc hB o).grown hgrow (by simp; omega) ?_
  intro k hk
  exact (hown.lt k hk).1

set_option maxRecDepth 100000 in
set_option maxHeartbeats 3200000 in
theorem specZoneNames_any (o : ByteArray) (v : Value) (ps : List Zp) (w : World) (h : ZRow w v ps) (hs : zsum ps ≤ 1048576) (hl : ps.length ≤ 1048576) (hf : ∀ p ∈ ps, p.1.own.size ≤ 1048576 ∧ ∀ x ∈ p.1.da, x.size ≤ 1048576) (ha : o.size ≤ maxLen) :
    Calls Tryz.prog 18 #[.agg #[.string o, v]] w (ZnP (znR ps o) w) := by
  obtain ⟨va, vc, rfl⟩ : ∃ va vc, v = .slice va ps.length vc := by obtain ⟨⟨_, a, c, e, _⟩, _⟩ := h; exact ⟨a, c, e⟩
  have b0 := (Below.refl w.heap.size w).alloc (Nat.le_refl _) (.cells #[.string o, .slice va ps.length vc] 29)
  have k0 := blk_new w #[.string o, .slice va ps.length vc] 29
  have hck := specCheckZone_any o (.slice va ps.length vc) ps _ (h.below b0) hs hl hf ha
  have r0 := fun i => blk_cell k0 i
  obtain ⟨R, hR⟩ : ∃ R, R = znR ps o := ⟨_, rfl⟩
  have HR := Nm.hide hR
  rw [← hR]
  clear hR
  cases hz : zOK ps o with
  | false =>
    rw [hz] at hck
    simp only [Bool.false_eq_true, if_false] at hck
    have hR0 : R = ([], 32) := by rw [HR.out, znR, hz]; rfl
    subst hR0
    clear hz HR h hf hs
    go_enter Tryz.func18, Tryz.ntmps18
    go_wp2_with fail
    refine hck.mono ?_
    rintro e w1 ⟨rfl, hb1⟩
    go_wp2
    go_ret2
    exact znP_none (Nm.below_two b0 hb1)
  | true =>
    rw [hz] at hck
    simp only [if_true] at hck
    obtain ⟨al, hal⟩ := (zOK_bad hz).2
    have hp5 : ps.length ≤ 500 := by
      rcases Nat.lt_or_ge 500 ps.length with h1 | h1
      · rw [zOK_big (.inl h1)] at hz; cases hz
      · exact h1
    have HOW := Nm.hide (zOK_own hz hal)
    have hR1 : R = (zNm ps o, 0) := by rw [HR.out, znR, hz]; rfl
    subst hR1
    obtain ⟨i0, hi, hz0, hz1, hz2⟩ := info_parts Tryz.infoNamed
    obtain ⟨i1, hi', hy0, hy1, hy2⟩ := info_parts Tryz.infoStr
    have HZ := Nm.hide (fun W (hW : Below w.heap.size w W) => h.below hW)
    have HF := Nm.hide hf
    have HLa : Hid (∀ W, Calls Tryz.prog 40 #[.string o] W fun e w' => ∃ a c, e = .returned (.slice a al.length c) ∧ Below W.heap.size W w') := fun W => by
      have := l01Labels_any o W ha
      rw [labO, hal] at this
      exact this
    have hall : al.length ≤ 254 := Nat.le_trans (Nm.length_le_wsum al) (gl_split hal).2
    have HLx : Hid (∀ (x : ByteArray) (lab : List ByteArray), Nm.split x = some lab → ∀ W, Calls Tryz.prog 40 #[.string x] W fun e w' => ∃ a c, e = .returned (.slice a lab.length c) ∧ Below W.heap.size W w') := fun x lab hx W => by
      have := l01Labels_any x W (by have := (Nm.split_size hx).2; unfold maxLen; omega)
      rw [labO, hx] at this
      exact this
    have HAn : Hid (∀ (x : ByteArray) (lab : List ByteArray), Nm.split x = some lab → ∀ (k : Nat), k ≤ lab.length → ∀ W, Calls Tryz.prog 41 #[.string x, .int .i64 k] W fun e w' => e = .returned (.tuple #[.string (joB (lab.drop k)), .int .i64 0]) ∧ Below W.heap.size W w') := fun x lab hx k hk W => by
      have := specAncestor_any x k W (by have := (Nm.split_size hx).2; unfold maxLen; omega)
      rwa [anc_joZ hx hk] at this
    obtain ⟨ls, hls⟩ : ∃ ls, ls = ps.map fun p => labO p.1.own := ⟨_, rfl⟩
    have HLS := Nm.hide hls
    have HZA : Hid (zAll ps o = allE al ls) := by show _ = _; rw [zAll, labO, hal, hls]; rfl
    have HG : Hid (∀ W, Below w.heap.size w W → w.heap.size ≤ W.heap.size) := fun W hW => hW.size
    clear hz HR h hf hs hls hal
    go_enter Tryz.func18, Tryz.ntmps18
    go_wp2_with fail
    refine hck.mono ?_
    rintro e w1 ⟨rfl, hb1⟩
    have bw1 := Nm.below_two b0 hb1
    have k1 := blk_below k0 hb1
    have o0 := World.ownsRow_lit (base := w.heap.size) (e := 75) (size := 2) w1 #[] 0 bw1.size (by decide) rfl
    have bw2 := bw1.alloc bw1.size (.cells #[] 75)
    have k2 := blk_alloc k1 (.cells #[] 75)
    clear hck k0 r0 b0 hb1 bw1 k1
    go_wp2
    generalize hgg : w.heap.size = g at *
    have HGG := Nm.hide hgg
    clear hgg
    go_loopw [4, 5] (fun v i wr => ∃ (j m : Nat) (A : List Ne), j ≤ ps.length ∧ i = .int .i64 j ∧ m ≤ 255 * j ∧ Hid (A.length = m) ∧ Hid (A = allE al (ls.take j)) ∧ wr.ownsRow g 75 2 v m (neCs A) ∧ Below g w wr ∧ Blk wr g #[.string o, .slice va ps.length vc] 29) (fun _ i _ => ps.length - (intOf i).toNat)
    case atStart => exact ⟨0, 0, [], Nat.zero_le _, rfl, Nat.le_refl _, rfl, rfl, o0, bw2, k2⟩
    case round =>
      clear bw2 k2 o0
      obtain ⟨j, m, A, hj, rfl, hm, HL, HT, hown, hb, kz⟩ := hrel
      have rz := fun i => blk_cell kz i
      have hgw := HG.out _ hb
      obtain ⟨oa, oc, rfl⟩ := own_sl hown
      by_cases hlt : j < ps.length
      · obtain ⟨q, hq⟩ : ∃ q, ps[j]? = some q := ⟨_, List.getElem?_eq_getElem hlt⟩
        obtain ⟨⟨_, a9, c9, e9, _, _, hc9⟩, hd9⟩ := HZ.out _ hb
        simp only [Value.slice.injEq] at e9
        obtain ⟨rfl, _, rfl⟩ := e9
        obtain ⟨b, off, rfl, hcell⟩ := hc9 (by omega)
        obtain ⟨d0, d1, d2, d3⟩ := zp_cells hcell hq
        obtain ⟨lab, hlab, hun⟩ := HOW.out q (List.mem_of_getElem? hq)
        have hll : lab.length ≤ 254 := Nat.le_trans (Nm.length_le_wsum lab) (gl_split hlab).2
        have hla := (under_iff.1 hun).1
        have HLq := Nm.hide (HLx.out q.1.own lab hlab)
        have HAq := Nm.hide (HAn.out q.1.own lab hlab)
        have HNX : Hid (allE al (ls.take (j + 1)) = A ++ ancE al lab) := by
          show _ = _
          rw [allE_take al (l := lab) (by rw [HLS.out, List.getElem?_map, hq]; show some (labO q.1.own) = _; rw [labO, hlab]; rfl), HT.out]
        have n1 : (0 : Int) ≤ (j : Int) := by omega
        have n2 : (j : Int) < (ps.length : Int) := by omega
        clear hc9 hd9 hcell hq d1 d2 d3 hun hlab
        obtain ⟨⟨x, ty, tt, ds⟩, u⟩ := q
        simp only at d0 HLq HAq
        go_wp2
        go_loopw [4, 7] (fun v kv wr => ∃ (k m' : Nat) (A' : List Ne), k ≤ lab.length - al.length + 1 ∧ kv = .int .i64 k ∧ m' ≤ 255 * j + k ∧ Hid (A'.length = m') ∧ Hid (A' = A ++ (ancE al lab).take k) ∧ wr.ownsRow g 75 2 v m' (neCs A') ∧ Below g w wr ∧ Blk wr g #[.string o, .slice (some ⟨b, off, none⟩) ps.length vc] 29) (fun _ i _ => lab.length + 1 - (intOf i).toNat)
        case atStart => exact ⟨0, m, A, Nat.zero_le _, rfl, by omega, HL, by show _ = _; simp, hown, hb, kz⟩
        case round =>
          clear hown hb kz rz d0 hgw
          obtain ⟨k, m', A', hk, rfl, hm', HL', HT', hown', hb', kz'⟩ := hrel
          obtain ⟨pa, pc, rfl⟩ := own_sl hown'
          have hgw' := HG.out _ hb'
          have hS : ∀ W, Below wr.heap.size wr W → W.cell? ⟨g, 0, none⟩ = some (.string o) ∧ Below wr.heap.size wr W := fun W hW => ⟨(blk_cell (blk_below kz' hW) 0).trans rfl, hW⟩
          have hS0 := hS _ (Below.refl _ _).drew
          have hL1 := fun W (hW : Below wr.heap.size wr W) => (HLq.out W).mono (R' := fun e w' => ∃ a c, e = .returned (.slice a lab.length c) ∧ Below wr.heap.size wr w') (by rintro e w' ⟨a, c, he, hb⟩; exact ⟨a, c, he, hW.trans (hb.mono hW.size)⟩)
          have hL2 := fun W (hW : Below wr.heap.size wr W) => (HLa.out W).mono (R' := fun e w' => ∃ a c, e = .returned (.slice a al.length c) ∧ Below wr.heap.size wr w') (by rintro e w' ⟨a, c, he, hb⟩; exact ⟨a, c, he, hW.trans (hb.mono hW.size)⟩)
          have hwr : IntKind.i64.wrap ((lab.length : Int) - (al.length : Int)) = (lab.length : Int) - (al.length : Int) := Go.wrap_small _ (by omega) (by omega)
          by_cases hkl : k ≤ lab.length - al.length
          · have i1 : (k : Int) ≤ (lab.length : Int) - (al.length : Int) := by omega
            have HTK : Hid (A ++ (ancE al lab).take (k + 1) = A' ++ [(lab.drop k, decide (k = 0))]) := by
              show _ = _
              rw [Nm.take_step (ancE_get (by omega)), HT'.out, List.append_assoc]
            have HL2' : Hid ((A' ++ [(lab.drop k, decide (k = 0))]).length = m' + 1) := by show _ = _; rw [List.length_append, HL'.out]; rfl
            have HCC : Hid (neCs A' ++ [.string (joB (lab.drop k)), .bool (decide (k = 0))] = neCs (A' ++ [(lab.drop k, decide (k = 0))])) := by show _ = _; rw [neCs_snoc]; rfl
            have hkz : ((k : Int) == 0) = decide (k = 0) := by
              by_cases h0 : k = 0
              · subst h0; rfl
              · rw [decide_eq_false h0]; simp; omega
            have HAk := Nm.hide (HAq.out k (by omega))
            clear HT' HL'
            go_wp2
            refine wp_region_last (fun X => X.cell? ⟨g, 0, none⟩ = some (.string o)) 1000 (by kernel_rfl) hS0.1 (fun hHeld => ?_)
            refine wpAnyL_take (i := 0) (v := ?_) rfl (by kernel_rfl) (by kernel_rfl) (by kernel_rfl) (by kernel_rfl) (fun _ _ _ h => h) (Or.inl ⟨by rfl, ?_⟩) (by assumption) ?_
            rotate_left 1
            · (intro W hSW; go_simp; try (with_reducible rfl))
            refine wpAnyL_take (i := 1) (v := ?_) rfl (by kernel_rfl) (by kernel_rfl) (by kernel_rfl) (by kernel_rfl) (fun _ _ _ h => h) (Or.inl ⟨by rfl, ?_⟩) (by assumption) ?_
            rotate_left 1
            · (intro W hSW; go_simp; try (with_reducible rfl))
            refine wpAnyL_take (i := 4) (v := ?_) rfl (by kernel_rfl) (by kernel_rfl) (by kernel_rfl) (by kernel_rfl) (fun _ _ _ h => h) (Or.inl ⟨by rfl, ?_⟩) (by assumption) ?_
            rotate_left 1
            · (intro W hSW; go_simp; try (with_reducible rfl))
            refine wpAnyL_take (i := 5) (v := ?_) rfl (by kernel_rfl) (by kernel_rfl) (by kernel_rfl) (by kernel_rfl) (fun _ _ _ h => h) (Or.inl ⟨by rfl, ?_⟩) (by assumption) ?_
            rotate_left 1
            · (intro W hSW; go_simp; try (with_reducible rfl))
            refine wpAnyL_one (i := 2) (by kernel_rfl) rfl (fun K hK => ?_)
            go_simp
            refine (hL1 _ hS0.2).mono ?_
            rintro e w3 ⟨xa, xc, rfl, hb3⟩
            go_wp2_with fail
            refine hK.out _ _ (hS w3 hb3).1 (fun hH => ?_)
            clear hK K
            refine wpAnyL_take (i := 3) (v := ?_) rfl (by kernel_rfl) (by kernel_rfl) (by kernel_rfl) (by kernel_rfl) (fun _ _ _ h => h) (Or.inl ⟨by rfl, ?_⟩) (by assumption) ?_
            rotate_left 1
            · (intro W hSW; go_simp; try (with_reducible rfl))
            refine wpAnyL_one (i := 6) (by kernel_rfl) rfl (fun K hK => ?_)
            go_simp
            refine (hL2 _ hb3).mono ?_
            rintro e w4 ⟨ya, yc, rfl, hb4⟩
            go_wp2_with fail
            refine hK.out _ _ (hS w4 hb4).1 (fun hH2 => ?_)
            clear hK K
            refine wpAnyL_take (i := 7) (v := ?_) rfl (by kernel_rfl) (by kernel_rfl) (by kernel_rfl) (by kernel_rfl) (fun _ _ _ h => h) (Or.inl ⟨by rfl, ?_⟩) (by assumption) ?_
            rotate_left 1
            · (intro W hSW; go_simp; try (with_reducible rfl))
            refine wpAnyL_take (i := 8) (v := (.int .i64 ((lab.length : Int) - (al.length : Int)))) rfl (by kernel_rfl) (by kernel_rfl) (by kernel_rfl) (by kernel_rfl) (fun _ _ _ h => h) (Or.inl ⟨by rfl, ?_⟩) (by assumption) ?_
            · (intro W hSW; go_simp; try (first | with_reducible rfl | simp only [hwr] | simp [hwr]))
            refine wpAnyL_take (i := 9) (v := (.bool true)) rfl (by kernel_rfl) (by kernel_rfl) (by kernel_rfl) (by kernel_rfl) (fun _ _ _ h => h) (Or.inl ⟨by rfl, ?_⟩) (by assumption) ?_
            · (intro W hSW; go_simp; try (first | with_reducible rfl | simp only [i1] | simp [i1]))
            refine wpAnyL_done (by kernel_rfl) ?_
            clear hH hH2 hHeld
            have bw4 := hb'.trans (hb4.mono hgw')
            have hown4 := own_below hown' hb4
            have kz4 := blk_below kz' hb4
            clear hS hS0 hL1 hL2 hown' hb' kz' hb3 hb4
            go_wp2_with fail
            refine (HAk.out _).mono ?_
            rintro e w5 ⟨rfl, b5⟩
            have hgw4 := HG.out _ bw4
            have bw5 := bw4.trans (b5.mono hgw4)
            have hown5 := own_below hown4 b5
            have kz5 := blk_below kz4 b5
            have hgw5 := HG.out _ bw5
            clear bw4 hown4 kz4 b5 hgw4 HAk
            generalize joB (lab.drop k) = JB at *
            generalize decide (k = 0) = KB at *
            go_wp2_with (at_builtin; refine wpList_append_own _ rfl (.tmp 47) (.tmp 52) 70 rfl g 75 i0 _ 2 24 Tryz.underlying70 hi hz0 hz1 hz2 rfl (by decide) _ _ _ rfl (own_below hown5 ((Below.refl _ _).alloc (Nat.le_refl _) _)) ⟨w5.heap.size, 0, none⟩ 1 1 [.string JB, .bool KB] rfl rfl (cell_newV _ _ _) (by intro u hu; simp at hu; rcases hu with rfl | rfl <;> rfl) (by unfold maxLen; omega) (by omega) (by simp; omega) ?_; intro v6 w6 hown6 hgrow hnl6)
            rw [HCC.out] at hown6
            have hb6 := nam_bel hgw5 hown5 bw5 _ hgrow
            have kz6 := blk_grown (blk_alloc kz5 _) hgrow (own_nb hown5 kz5 (by decide))
            clear hgrow hown5 kz5 bw5 hnl6
            go_wp2
            go_roundw
            case rel => exact ⟨k + 1, m' + 1, _, by omega, by go_num, by omega, HL2', HTK.out.symm, hown6, hb6, kz6⟩
            case measure => simp [intOf]; omega
          · obtain rfl : k = lab.length - al.length + 1 := by omega
            have i1 : decide (((lab.length - al.length + 1 : Nat) : Int) ≤ (lab.length : Int) - (al.length : Int)) = false := by simp; omega
            have HTE : Hid (A' = allE al (ls.take (j + 1))) := by
              show _ = _
              rw [HNX.out, HT'.out, List.take_of_length_le (by rw [ancE_len]; omega)]
            clear HT' hk hkl
            have hK : lab.length - al.length + 1 ≤ 255 := by omega
            generalize lab.length - al.length + 1 = K at *
            go_wp2
            refine wp_region_last (fun X => X.cell? ⟨g, 0, none⟩ = some (.string o)) 1000 (by kernel_rfl) hS0.1 (fun hHeld => ?_)
            refine wpAnyL_take (i := 0) (v := ?_) rfl (by kernel_rfl) (by kernel_rfl) (by kernel_rfl) (by kernel_rfl) (fun _ _ _ h => h) (Or.inl ⟨by rfl, ?_⟩) (by assumption) ?_
            rotate_left 1
            · (intro W hSW; go_simp; try (with_reducible rfl))
            refine wpAnyL_take (i := 1) (v := ?_) rfl (by kernel_rfl) (by kernel_rfl) (by kernel_rfl) (by kernel_rfl) (fun _ _ _ h => h) (Or.inl ⟨by rfl, ?_⟩) (by assumption) ?_
            rotate_left 1
            · (intro W hSW; go_simp; try (with_reducible rfl))
            refine wpAnyL_take (i := 4) (v := ?_) rfl (by kernel_rfl) (by kernel_rfl) (by kernel_rfl) (by kernel_rfl) (fun _ _ _ h => h) (Or.inl ⟨by rfl, ?_⟩) (by assumption) ?_
            rotate_left 1
            · (intro W hSW; go_simp; try (with_reducible rfl))
            refine wpAnyL_take (i := 5) (v := ?_) rfl (by kernel_rfl) (by kernel_rfl) (by kernel_rfl) (by kernel_rfl) (fun _ _ _ h => h) (Or.inl ⟨by rfl, ?_⟩) (by assumption) ?_
            rotate_left 1
            · (intro W hSW; go_simp; try (with_reducible rfl))
            refine wpAnyL_one (i := 2) (by kernel_rfl) rfl (fun K hK => ?_)
            go_simp
            refine (hL1 _ hS0.2).mono ?_
            rintro e w3 ⟨xa, xc, rfl, hb3⟩
            go_wp2_with fail
            refine hK.out _ _ (hS w3 hb3).1 (fun hH => ?_)
            clear hK K
            refine wpAnyL_take (i := 3) (v := ?_) rfl (by kernel_rfl) (by kernel_rfl) (by kernel_rfl) (by kernel_rfl) (fun _ _ _ h => h) (Or.inl ⟨by rfl, ?_⟩) (by assumption) ?_
            rotate_left 1
            · (intro W hSW; go_simp; try (with_reducible rfl))
            refine wpAnyL_one (i := 6) (by kernel_rfl) rfl (fun K hK => ?_)
            go_simp
            refine (hL2 _ hb3).mono ?_
            rintro e w4 ⟨ya, yc, rfl, hb4⟩
            go_wp2_with fail
            refine hK.out _ _ (hS w4 hb4).1 (fun hH2 => ?_)
            clear hK K
            refine wpAnyL_take (i := 7) (v := ?_) rfl (by kernel_rfl) (by kernel_rfl) (by kernel_rfl) (by kernel_rfl) (fun _ _ _ h => h) (Or.inl ⟨by rfl, ?_⟩) (by assumption) ?_
            rotate_left 1
            · (intro W hSW; go_simp; try (with_reducible rfl))
            refine wpAnyL_take (i := 8) (v := (.int .i64 ((lab.length : Int) - (al.length : Int)))) rfl (by kernel_rfl) (by kernel_rfl) (by kernel_rfl) (by kernel_rfl) (fun _ _ _ h => h) (Or.inl ⟨by rfl, ?_⟩) (by assumption) ?_
            · (intro W hSW; go_simp; try (first | with_reducible rfl | simp only [hwr] | simp [hwr]))
            refine wpAnyL_take (i := 9) (v := (.bool false)) rfl (by kernel_rfl) (by kernel_rfl) (by kernel_rfl) (by kernel_rfl) (fun _ _ _ h => h) (Or.inl ⟨by rfl, ?_⟩) (by assumption) ?_
            · (intro W hSW; go_simp; try (first | with_reducible rfl | simp only [i1] | simp [i1]))
            refine wpAnyL_done (by kernel_rfl) ?_
            clear hH hH2 hHeld
            have bw4 := hb'.trans (hb4.mono hgw')
            have hown4 := own_below hown' hb4
            have kz4 := blk_below kz' hb4
            clear hS hS0 hL1 hL2 hown' hb' kz' hb3 hb4
            go_wp2
            go_roundw
            case rel => exact ⟨j + 1, m', A', hlt, by go_num, by omega, HL', HTE, hown4, bw4, kz4⟩
            case measure => simp [intOf]; omega
      · obtain rfl : j = ps.length := by omega
        have i9 : (ps.length : Int) ≤ (ps.length : Int) := by omega
        have hAz : A = zAll ps o := by rw [HZA.out, HT.out, List.take_of_length_le (by rw [HLS.out, List.length_map]; exact Nat.le_refl _)]
        have hAg : ∀ e ∈ A, Gl e.1 := by
          rw [hAz, HZA.out]
          refine allE_gl (fun l hl => ?_)
          rw [HLS.out] at hl
          obtain ⟨p, hp, rfl⟩ := List.mem_map.1 hl
          obtain ⟨lab, hlab, -⟩ := HOW.out p hp
          rw [labO, hlab]
          exact gl_split hlab
        have hml : A.length ≤ 127500 := by have := HL.out; omega
        have hrow := CRow.of_owns hown
        rw [← HL.out] at hrow
        have hsort := l06SortNames_any A.length _ A wr hrow (Nat.le_refl _) (by omega) hAg
        have HRS : Hid (zNm ps o = (ddN (srtN A.length A)).1) := by show _ = _; rw [zNm, ← hAz]
        have HGL : Hid (∀ e ∈ srtN A.length A, Gl e.1) := fun e he => hAg e (srtN_mem.1 he)
        have HSL : Hid ((srtN A.length A).length = A.length) := srtN_len _ _
        have hmm := HL.out
        clear hAz hAg hrow hown HT HL HZA HLS HOW HAn HLx HLa HF HZ hi hz0 hz1 hz2
        generalize srtN A.length A = S at *
        rw [← hmm]
        generalize A.length = M at *
        clear hmm
        go_wp2_with fail
        refine hsort.mono ?_
        rintro e w2 ⟨u2, rfl, hSr, b2⟩
        obtain ⟨u2a, u2c, hu2⟩ : ∃ a c, u2 = .slice a M c := by obtain ⟨_, a, c, e, _⟩ := hSr; exact ⟨a, c, e⟩
        subst hu2
        have bw2 := hb.trans (b2.mono hgw)
        have o1 := World.ownsRow_lit (base := w2.heap.size) (e := 9) (size := 1) w2 #[] 0 (Nat.le_refl _) (by decide) rfl
        have HSR := Nm.hide hSr
        have HBW := Nm.hide bw2
        clear hsort hb b2 bw2 hSr hgw hlt hj hm HG kz rz i9
        go_wp2
        go_loopw [10, 11] (fun v i wr => ∃ (j d : Nat) (D : List (List ByteArray)), j ≤ M ∧ i = .int .i64 j ∧ d ≤ j ∧ Hid (D.length = d) ∧ Hid (D = (ddN (S.take j)).1) ∧ wr.ownsRow w2.heap.size 9 1 v d (D.map fun x => Value.string (joB x)) ∧ Below w2.heap.size w2 wr) (fun _ i _ => M - (intOf i).toNat)
        case atStart => exact ⟨0, 0, [], Nat.zero_le _, rfl, Nat.le_refl _, rfl, rfl, o1, (Below.refl _ _).alloc (Nat.le_refl _) _⟩
        case round =>
          clear o1
          obtain ⟨j, d, D, hj, rfl, hd, HDL, HD, hown, hbel⟩ := hrel
          obtain ⟨da, dc, rfl⟩ := own_sl hown
          have n1 : (0 : Int) ≤ (j : Int) := by omega
          by_cases hlt : j < M
          · obtain ⟨e, he⟩ : ∃ e, S[j]? = some e := ⟨_, List.getElem?_eq_getElem (by have := HSL.out; omega)⟩
            have hCell : ∀ W, Below w2.heap.size w2 W → ∃ sb so, u2a = some ⟨sb, so, none⟩ ∧ ∀ (i : Nat) (z : Value), (neCs S)[i]? = some z → W.cell? ⟨sb, so + i, none⟩ = some z := by
              intro W hW
              obtain ⟨_, a', c', e', _, _, hc⟩ := HSR.out.below hW
              simp only [Value.slice.injEq] at e'
              obtain ⟨rfl, _, rfl⟩ := e'
              exact hc (by omega)
            obtain ⟨sb, so, rfl, hcS⟩ := hCell wr hbel
            have n2 : (j : Int) < (M : Int) := by omega
            rcases Nat.eq_zero_or_pos j with hj0 | hjp
            · subst hj0
              obtain ⟨c0, c1⟩ := ne_cells hcS he
              have hd0 : d = 0 := by omega
              subst hd0
              have hD0 : D = [] := List.length_eq_zero_iff.1 HDL.out
              subst hD0
              have HN : Hid ([e.1] = (ddN (S.take 1)).1) := (dd_0 he).symm
              clear hcS hCell he HD HDL
              have c0' : wr.cell? ⟨sb, so, none⟩ = some (.string (joB e.1)) := by simpa using c0
              go_wp2
              go_quiet (fail)
              generalize hwE : World.drewN wr _ = wE
              have hbE : Below w2.heap.size w2 wE := by rw [← hwE]; exact Go.below_drewN hbel _
              have oE : wE.ownsRow w2.heap.size 9 1 (.slice da 0 dc) 0 [] := by rw [← hwE]; exact own_dN hown _
              have hcE : ∀ p, wE.cell? p = wr.cell? p := by intro p; rw [← hwE]; simp
              have c0E := (hcE _).trans c0
              have c0E' := (hcE _).trans c0'
              clear hwE hcE
              go_wp2_with (at_builtin; refine wpList_append_own _ rfl (.tmp 80) (.tmp 86) 33 rfl w2.heap.size 9 i1 (.string ByteArray.empty) 1 16 Tryz.underlying33 hi' hy0 hy1 hy2 rfl (by decide) _ _ _ rfl (oE.alloc _) ⟨wE.heap.size, 0, none⟩ 1 1 [.string (joB e.1)] rfl rfl (cell_new1 _ _ _) (Nm.one_cell _ rfl) (by unfold maxLen; omega) (by omega) (by have := hbE.size; simp; omega) ?_; intro v6 w6 hown6 hgrow hnl6)
              have hb6 := nam_bel hbE.size oE hbE _ hgrow
              clear hgrow hnl6
              go_wp2
              go_roundw
              case rel => exact ⟨1, 1, [e.1], hlt, by go_num, Nat.le_refl _, rfl, HN.out, hown6, hb6⟩
              case measure => simp [intOf]; omega
            · obtain ⟨i, hij⟩ : ∃ i, j = i + 1 := ⟨j - 1, by omega⟩
              obtain ⟨p, hp⟩ : ∃ p, S[i]? = some p := ⟨_, List.getElem?_eq_getElem (by have := HSL.out; omega)⟩
              have hS : ∀ W, Below wr.heap.size wr W → (W.cell? ⟨sb, so + i * 2, none⟩ = some (.string (joB p.1)) ∧ W.cell? ⟨sb, so + j * 2, none⟩ = some (.string (joB e.1)) ∧ W.cell? ⟨sb, so + j * 2 + 1, none⟩ = some (.bool e.2)) ∧ Below wr.heap.size wr W := by
                intro W hW
                obtain ⟨sb', so', e1, hc'⟩ := hCell W (Nm.below_two hbel hW)
                cases e1
                obtain ⟨x0, -⟩ := ne_cells hc' hp
                obtain ⟨y0, y1⟩ := ne_cells hc' he
                exact ⟨⟨x0, y0, y1⟩, hW⟩
              have hS0 := hS _ (Below.refl _ _).drew
              have hgp := HGL.out p (List.mem_of_getElem? hp)
              have hge := HGL.out e (List.mem_of_getElem? he)
              have hbf := fun W => specCompareNames_any (joB p.1) (joB e.1) W (by have := jo_size hgp; unfold maxLen; omega) (by have := jo_size hge; unfold maxLen; omega)
              rw [cmp_jo hgp hge] at hbf
              have hiy := fun W (hW : Below wr.heap.size wr W) => (hbf W).mono (R' := fun e' w' => e' = .returned (.int .i64 (Nm.cmpLs p.1 e.1)) ∧ Below wr.heap.size wr w') (by rintro e' w' ⟨he', hb⟩; exact ⟨he', hW.trans (hb.mono hW.size)⟩)
              have hDN := dd_n hp (by rw [← hij]; exact he)
              have hDP := ddN_pos (S.take (i + 1)) (by rw [Nm.take_step hp]; simp)
              rw [← hij] at hDN hDP
              rw [← HD.out, HDL.out] at hDP
              rw [← HD.out] at hDN
              clear hbf hgp hge hcS hCell hp he HD
              have n3 : (0 : Int) ≤ (i : Int) := by omega
              have n4 : (i : Int) < (M : Int) := by omega
              have n5 : (j : Int) - 1 = (i : Int) := by omega
              have hwk : IntKind.i64.wrap (i : Int) = (i : Int) := Go.wrap_small _ (by omega) (by omega)
              have n6 : ((j : Int) == 0) = false := by simp; omega
              have hwj : IntKind.i64.wrap (j : Int) = (j : Int) := Go.wrap_small _ (by omega) (by omega)
              have HIJ := Nm.hide hij
              clear hij
              by_cases hc : Nm.cmpLs p.1 e.1 = 0
              · have t1 : (Nm.cmpLs p.1 e.1 != 0) = false := by simp [hc]
                generalize Nm.cmpLs p.1 e.1 = CMP at *
                cases hfl : e.2 with
                | true =>
                  have HN : Hid (D.dropLast ++ [e.1] = (ddN (S.take (j + 1))).1) := by show _ = _; rw [hDN, if_neg (by simpa using hc), if_pos hfl]
                  have HLD : Hid ((D.dropLast ++ [e.1]).length = d) := by show _ = _; rw [List.length_append, List.length_dropLast, HDL.out]; simp; omega
                  obtain ⟨d1, hd1⟩ : ∃ d1, d = d1 + 1 := ⟨d - 1, by omega⟩
                  have HST : Hid ((D.map fun x => Value.string (joB x)).set d1 (.string (joB e.1)) = (D.dropLast ++ [e.1]).map fun x => Value.string (joB x)) := by
                    show _ = _
                    rw [← set_last (fun x => Value.string (joB x)) D e.1 (by rw [HDL.out]; exact hDP), HDL.out, hd1]
                    rfl
                  obtain ⟨ob, rfl, hBo⟩ : ∃ ob, da = some ⟨ob, 0, none⟩ ∧ w2.heap.size ≤ ob := by
                    rcases hown.2 with ⟨h1, h2⟩ | ⟨g', cap', cur, h1, h2, _⟩
                    · omega
                    · simp only [Value.slice.injEq] at h1
                      exact ⟨g', h1.1, h2⟩
                  have m1 : (d : Int) - 1 = (d1 : Int) := by omega
                  have m2 : (0 : Int) ≤ (d1 : Int) := by omega
                  have m3 : (d1 : Int) < (d : Int) := by omega
                  have hwd : IntKind.i64.wrap (d1 : Int) = (d1 : Int) := Go.wrap_small _ (by omega) (by omega)
                  have hdl1 : d1 < (D.map fun x => Value.string (joB x)).length := by rw [List.length_map, HDL.out]; omega
                  have HD1 := Nm.hide hd1
                  rw [hfl] at hS hS0
                  clear hDN hc hd1
                  go_wp2
                  go_region_held3 (fun W => (W.cell? ⟨sb, so + i * 2, none⟩ = some (.string (joB p.1)) ∧ W.cell? ⟨sb, so + j * 2, none⟩ = some (.string (joB e.1)) ∧ W.cell? ⟨sb, so + j * 2 + 1, none⟩ = some (.bool true)) ∧ Below wr.heap.size wr W) (first | with_reducible assumption | with_reducible exact hS0) ((first | (go_at_call 43; refine (hiy _ hS0.2).mono ?_; rintro e9 w3 ⟨rfl, hb3⟩; have hS1 := hS _ hb3)))
                  have hbE := Nm.below_two hbel hS1.2
                  have oE := own_below hown hS1.2
                  obtain ⟨⟨x0, y0, y1⟩, -⟩ := hS1
                  clear hS hS0 hiy hown hbel hb3
                  obtain ⟨y9, hy9⟩ : ∃ y, w3.cell? ⟨ob, d1, none⟩ = some y := by
                    rw [oE.cellAt d1 (by have := HD1.out; omega)]
                    exact ⟨_, List.getElem?_eq_getElem hdl1⟩
                  have hst := oE.stored d1 (.string (joB e.1))
                  rw [HST.out] at hst
                  have hfz := oE.frozenAt d1
                  have HRo := Nm.hide hst.1
                  have HBo := Nm.hide (hbE.setCell (p := ⟨ob, d1, none⟩) hBo (.string (joB e.1)))
                  clear hst oE hbE HST hdl1 x0
                  go_wp2
                  go_roundw
                  case rel => exact ⟨j + 1, d, _, hlt, by go_num, by omega, HLD, HN.out, HRo.out, HBo.out⟩
                  case measure => simp [intOf]; omega
                | false =>
                  have HN : Hid (D = (ddN (S.take (j + 1))).1) := by show _ = _; rw [hDN, if_neg (by simpa using hc), if_neg (by rw [hfl]; decide)]
                  rw [hfl] at hS hS0
                  clear hDN hc
                  go_wp2
                  go_region_held3 (fun W => (W.cell? ⟨sb, so + i * 2, none⟩ = some (.string (joB p.1)) ∧ W.cell? ⟨sb, so + j * 2, none⟩ = some (.string (joB e.1)) ∧ W.cell? ⟨sb, so + j * 2 + 1, none⟩ = some (.bool false)) ∧ Below wr.heap.size wr W) (first | with_reducible assumption | with_reducible exact hS0) ((first | (go_at_call 43; refine (hiy _ hS0.2).mono ?_; rintro e9 w3 ⟨rfl, hb3⟩; have hS1 := hS _ hb3)))
                  have hbE := Nm.below_two hbel hS1.2
                  have oE := own_below hown hS1.2
                  obtain ⟨⟨x0, y0, y1⟩, -⟩ := hS1
                  clear hS hS0 hiy hown hbel hb3
                  go_wp2
                  go_roundw
                  case rel => exact ⟨j + 1, d, D, hlt, by go_num, by omega, HDL, HN.out, oE, hbE⟩
                  case measure => simp [intOf]; omega
              · have t1 : (Nm.cmpLs p.1 e.1 != 0) = true := by simp [hc]
                have HN : Hid (D ++ [e.1] = (ddN (S.take (j + 1))).1) := by show _ = _; rw [hDN, if_pos hc]
                have HL2 : Hid ((D ++ [e.1]).length = d + 1) := by show _ = _; rw [List.length_append, HDL.out]; rfl
                have HCC : Hid ((D.map fun x => Value.string (joB x)) ++ [.string (joB e.1)] = (D ++ [e.1]).map fun x => Value.string (joB x)) := by show _ = _; simp
                clear hDN hc
                generalize Nm.cmpLs p.1 e.1 = CMP at *
                go_wp2
                go_region_held3 (fun W => (W.cell? ⟨sb, so + i * 2, none⟩ = some (.string (joB p.1)) ∧ W.cell? ⟨sb, so + j * 2, none⟩ = some (.string (joB e.1)) ∧ W.cell? ⟨sb, so + j * 2 + 1, none⟩ = some (.bool e.2)) ∧ Below wr.heap.size wr W) (first | with_reducible assumption | with_reducible exact hS0) ((first | (go_at_call 43; refine (hiy _ hS0.2).mono ?_; rintro e9 w3 ⟨rfl, hb3⟩; have hS1 := hS _ hb3)))
                have hbE := Nm.below_two hbel hS1.2
                have oE := own_below hown hS1.2
                obtain ⟨⟨x0, y0, y1⟩, -⟩ := hS1
                clear hS hS0 hiy hown hbel hb3
                go_wp2_with (at_builtin; refine wpList_append_own _ rfl (.tmp 80) (.tmp 86) 33 rfl w2.heap.size 9 i1 (.string ByteArray.empty) 1 16 Tryz.underlying33 hi' hy0 hy1 hy2 rfl (by decide) _ _ _ rfl (oE.alloc _) ⟨w3.heap.size, 0, none⟩ 1 1 [.string (joB e.1)] rfl rfl (cell_new1 _ _ _) (Nm.one_cell _ rfl) (by unfold maxLen; omega) (by omega) (by have := hbE.size; simp; omega) ?_; intro v6 w6 hown6 hgrow hnl6)
                rw [HCC.out] at hown6
                have hb6 := nam_bel hbE.size oE hbE _ hgrow
                clear hgrow hnl6
                go_wp2
                go_roundw
                case rel => exact ⟨j + 1, d + 1, _, hlt, by go_num, by omega, HL2, HN.out, hown6, hb6⟩
                case measure => simp [intOf]; omega
          · obtain rfl : j = M := by omega
            have i8 : (j : Int) ≤ (j : Int) := by omega
            have HE : Hid (D = zNm ps o) := by show _ = _; rw [HRS.out, HD.out, List.take_of_length_le (by have := HSL.out; omega)]
            go_wp2
            go_ret2
            refine ⟨_, rfl, ?_, ?_⟩
            · show wr.ownsRow w.heap.size _ 1 _ (zNm ps o).length ((zNm ps o).map _)
              rw [← HE.out, HDL.out]
              exact own_base hown HBW.out.size
            · have h1 := HBW.out.size
              rw [HGG.out] at h1 ⊢
              exact HBW.out.trans (hbel.mono h1)
end Go.Proofs.YtnpegoclghfmpaaGreat
/- (labelList).wireSize and (labelList).wire by their contracts. -/
namespace Go.Proofs.YtnpegoclghfmpaaGreat
open Go.RowKit

theorem Tryz.infoU8 : (Tryz.prog.info? 5).map (fun i => (i.zero, i.size, i.bytes)) = some (some (.int .u8 0), 1, 1) := by kernel_rfl

set_option maxRecDepth 100000 in
set_option maxHeartbeats 400000 in
theorem wireSize_any (v : Value) (ls : List ByteArray) (w : World) (h : Nm.SRow w v ls) (hlen : Nm.wsum ls ≤ 1000000000) :
    Calls Tryz.prog 118 #[v] w fun e w' => e = .returned (.int .i64 ((1 + Nm.wsum ls : Nat) : Int)) ∧ w' = w := by
  obtain ⟨a, cap, rfl, hcap, hmx, hnl, hc⟩ := h
  have hll := Nm.length_le_wsum ls
  by_cases hne : ls = []
  · subst hne
    go_enter Tryz.func118, Tryz.ntmps118
    go_wp2
    go_loop [3, 8] (fun t i => t = .int .i64 1 ∧ i = .int .i64 0) (fun _ _ => 0)
    case atStart => exact ⟨rfl, rfl⟩
    case round =>
      obtain ⟨rfl, rfl⟩ := hrel
      go_wp2
      go_ret
      exact ⟨rfl, rfl⟩
  · obtain ⟨b, off, rfl, hcell⟩ := hc hne
    clear hc hnl hne
    go_enter Tryz.func118, Tryz.ntmps118
    go_wp2
    go_loop [3, 8] (fun t i => ∃ k : Nat, k ≤ ls.length ∧ i = .int .i64 k ∧ t = .int .i64 ((1 + Nm.wsum (ls.take k) : Nat) : Int)) (fun _ i => ls.length - (intOf i).toNat)
    case atStart => exact ⟨0, Nat.zero_le _, rfl, rfl⟩
    case round =>
      obtain ⟨k, hk, rfl, rfl⟩ := hrel
      have hw := Nm.wsum_take_le ls k
      by_cases hlt : k < ls.length
      · obtain ⟨x, hx⟩ : ∃ x, ls[k]? = some x := ⟨_, List.getElem?_eq_getElem hlt⟩
        have hcx := hcell k x hx
        have HS : Hid (Nm.wsum (ls.take (k + 1)) = Nm.wsum (ls.take k) + (1 + x.size)) := Nm.wsum_step hx
        have hw1 : Nm.wsum (ls.take k) + (1 + x.size) ≤ Nm.wsum ls := by rw [← HS.out]; exact Nm.wsum_take_le ls (k + 1)
        clear hx hcell
        go_wp2
        go_round
        case rel => exact ⟨k + 1, by omega, by go_num, by rw [HS.out]; go_num⟩
        case measure => simp [intOf]; omega
      · go_wp2
        go_ret
        have : k = ls.length := by omega
        subst this
        rw [List.take_length]
        exact ⟨rfl, rfl⟩

def wireS (ls : List ByteArray) : ByteArray := if 255 < 1 + Nm.wsum ls then ByteArray.empty else ⟨(Nm.joinL ls).toArray⟩
def wireC (ls : List ByteArray) : Int := if 255 < 1 + Nm.wsum ls then 3 else 0

theorem wireS_short {ls : List ByteArray} (h : Nm.wsum ls ≤ 254) : wireS ls = ⟨(Nm.joinL ls).toArray⟩ := if_neg (by omega)
theorem wireC_short {ls : List ByteArray} (h : Nm.wsum ls ≤ 254) : wireC ls = 0 := if_neg (by omega)

theorem byte_len (x : ByteArray) (h : x.size ≤ 255) : [Value.int .u8 (x.size : Int)] = Nm.bys [UInt8.ofNat x.size] := by
  simp [Nm.bys]; omega

set_option maxRecDepth 100000 in
set_option maxHeartbeats 800000 in
theorem wire_any (v : Value) (ls : List ByteArray) (w : World) (h : Nm.SRow w v ls) (hlen : Nm.wsum ls ≤ 1000000000) :
    Calls Tryz.prog 80 #[v] w fun e w' => e = .returned (.tuple #[.string (wireS ls), .int .i64 (wireC ls)]) ∧ Below w.heap.size w w' := by
  have hws := wireSize_any v ls w h hlen
  obtain ⟨j0, hj, k0, k1, k2⟩ := info_parts Tryz.infoU8
  obtain ⟨a, cap, rfl, hcap, hmx, hnl, hc⟩ := h
  have hll := Nm.length_le_wsum ls
  by_cases hlong : 255 < 1 + Nm.wsum ls
  · have HS : Hid (wireS ls = ByteArray.empty) := if_pos hlong
    have HC : Hid (wireC ls = 3) := if_pos hlong
    have hl' : (255 : Int) < ((1 + Nm.wsum ls : Nat) : Int) := by omega
    clear hc
    go_enter Tryz.func80, Tryz.ntmps80
    go_wp2_with fail
    refine hws.mono ?_
    rintro e w1 ⟨rfl, rfl⟩
    go_wp2
    go_ret2
    rw [HS.out, HC.out]
    exact ⟨rfl, Below.refl _ _⟩
  · have HS : Hid (wireS ls = ⟨(Nm.joinL ls).toArray⟩) := if_neg hlong
    have HC : Hid (wireC ls = 0) := if_neg hlong
    have hl' : ((1 + Nm.wsum ls : Nat) : Int) ≤ 255 := by omega
    go_enter Tryz.func80, Tryz.ntmps80
    go_wp2_with fail
    refine hws.mono ?_
    rintro e w1 ⟨rfl, rfl⟩
    go_wp2_with (at_make; refine wpList_make_own _ rfl _ _ 128 rfl w1.heap.size 5 j0 (.int .u8 0) 1 Tryz.underlying128 hj k0 k1 .i64 .i64 _ (1 + Nm.wsum ls) rfl rfl rfl (by rw [k2]; omega) (by unfold maxLen; omega) (Nat.le_refl _) ?_; intro w2 hown0 hgrow0)
    go_loopw [5, 16] (fun v i wr => ∃ k : Nat, k ≤ ls.length ∧ i = .int .i64 k ∧ wr.ownsRow w1.heap.size 5 1 v (Nm.wsum (ls.take k)) (Nm.bys (Nm.preL (ls.take k))) ∧ Below w1.heap.size w1 wr)
      (fun _ i _ => ls.length - (intOf i).toNat)
    case atStart => exact ⟨0, Nat.zero_le _, rfl, hown0, (Below.refl _ w1).grown hgrow0 (Nat.le_refl _) (fun k hk => by cases hk)⟩
    case round =>
      obtain ⟨k, hk, rfl, hown, hbel⟩ := hrel
      have hw := Nm.wsum_take_le ls k
      have hsz := hbel.size
      by_cases hlt : k < ls.length
      · obtain ⟨x, hx⟩ : ∃ x, ls[k]? = some x := ⟨_, List.getElem?_eq_getElem hlt⟩
        obtain ⟨b, off, rfl, hcell⟩ := hc (by intro h; rw [h] at hlt; simp at hlt)
        have hcx : wr.cell? ⟨b, off + k, none⟩ = some (.string x) := (hbel.cell (World.block_lt_of_cell? w1 _ (hcell k x hx))).trans (hcell k x hx)
        have HW : Hid (Nm.wsum (ls.take (k + 1)) = Nm.wsum (ls.take k) + (1 + x.size)) := Nm.wsum_step hx
        have HP : Hid (Nm.preL (ls.take (k + 1)) = Nm.preL (ls.take k) ++ (UInt8.ofNat x.size :: x.data.toList)) := Nm.preL_step hx
        have hw1 : Nm.wsum (ls.take k) + (1 + x.size) ≤ Nm.wsum ls := by rw [← HW.out]; exact Nm.wsum_take_le ls (k + 1)
        clear hx hcell hc hnl hws hown0 hgrow0
        go_wp2_with (first | (at_builtin; refine wpList_append_own _ rfl (.tmp 20) (.tmp 24) 128 rfl w1.heap.size 5 j0 (.int .u8 0) 1 1 Tryz.underlying128 hj k0 k1 k2 rfl (by decide) _ _ _ rfl (hown.alloc _) ⟨wr.heap.size, 0, none⟩ 1 1 [.int .u8 (x.size : Int)] rfl rfl (cell_one_new _ _ _) (Nm.one_cell _ rfl) (by unfold maxLen; omega) (by omega) (by simp; omega) ?_; intro va wa hown1 hgrow1 hnl1; clear hnl1; rw [byte_len x (by omega)] at hown1; have R1 := Nm.bys_step (x := [UInt8.ofNat x.size]) (by simp; omega) (hown.alloc _) (hbel.alloc hsz _) hown1 hgrow1; clear hown1 hgrow1) | (at_builtin; refine Go.Lib.wpList_append_own_string _ rfl (.tmp 26) (.tmp 27) 128 9 rfl w1.heap.size 5 j0 Tryz.underlying128 Tryz.underlying9 hj k0 k1 k2 _ _ _ rfl R1.1 x rfl (by unfold maxLen; omega) (by omega) R1.2.size ?_; intro vb wb hown2 hgrow2 hnl2; clear hnl2; have R2 := Nm.bys_step_str R1.2.size R1.1 R1.2 hown2 hgrow2; clear hown2 hgrow2))
        go_roundw
        case rel => exact ⟨k + 1, by omega, by go_num, by rw [HW.out, HP.out]; simpa [Nat.add_assoc] using R2.1, R2.2⟩
        case measure => simp [intOf]; omega
      · have hkl : k = ls.length := by omega
        subst hkl
        rw [List.take_length] at hown
        clear hc hnl hws hown0 hgrow0 hw hlt
        have hone : (ByteArray.mk #[0]).size = 1 := rfl
        go_wp2_with (at_builtin; refine Go.Lib.wpList_append_own_string _ rfl (.tmp 30) _ 128 9 rfl w1.heap.size 5 j0 Tryz.underlying128 Tryz.underlying9 hj k0 k1 k2 _ _ _ rfl hown ⟨#[0]⟩ rfl (by unfold maxLen; omega) (by omega) hsz ?_; intro vb wb hown2 hgrow2 hnl2; clear hnl2; have R2 := Nm.bys_step_str hsz hown hbel hown2 hgrow2; clear hown2 hgrow2; obtain ⟨g, cp, rfl, hcv⟩ := Nm.conv_own (P := Tryz.prog) Tryz.underlying128 Tryz.underlying5 Tryz.underlying9 R2.1 (by omega); rw [hone] at hcv)
        go_ret2
        rw [HS.out, HC.out]
        exact ⟨rfl, R2.2⟩
end Go.Proofs.YtnpegoclghfmpaaGreat
/- (*tree).names by its contract. -/
namespace Go.Proofs.YtnpegoclghfmpaaGreat
open Go.RowKit Go.Shelf
set_option linter.unusedVariables false
attribute [local go_sem] Oper.semAt_some

def joV (x : List ByteArray) : Value := .string (joB x)
def lastV (pre : List GOw) : Value := match pre.getLast? with
  | some q => q.lv
  | none => .slice none 0 0
theorem lastV_snoc (pre : List GOw) (q : GOw) : lastV (pre ++ [q]) = q.lv := by simp [lastV]
theorem last_row {w : World} {al : List ByteArray} {fp : List Nat} {os : List GOw} (hLab : LabAt w fp os) (pre : List GOw) (hp : ∀ q ∈ pre, q ∈ os) : Nm.SRow w (lastV pre) (nmT al pre).2 := by
  rcases List.eq_nil_or_concat pre with rfl | ⟨L, q, rfl⟩
  · exact ⟨none, 0, rfl, Nat.le_refl _, by decide, fun _ => rfl, fun h => absurd rfl h⟩
  · rw [List.concat_eq_append, lastV_snoc, nmT_snoc]
    exact (hLab q (hp q (by simp))).row
theorem nmStep_len (last y : List ByteArray) (out : List (List ByteArray)) : (nmStep last out y).length ≤ out.length + 1 := by
  rw [nmStep]
  split <;> simp
theorem nmIn_len (last lab : List ByteArray) : ∀ (n : Nat) (out : List (List ByteArray)), (nmIn last lab n out).length ≤ out.length + n
  | 0, out => Nat.le_refl _
  | n + 1, out => by
    rw [nmIn]
    have h1 := nmIn_len last lab n (nmStep last out (lab.drop n))
    have h2 := nmStep_len last (lab.drop n) out
    omega
theorem nmT_len (al : List ByteArray) (os : List GOw) : (∀ q ∈ os, q.lab.length ≤ 254) → (nmT al os).1.length ≤ 255 * os.length := by
  refine snoc_ind (P := fun os => (∀ q ∈ os, q.lab.length ≤ 254) → (nmT al os).1.length ≤ 255 * os.length) (fun _ => Nat.le_refl _) (fun l q ih h => ?_) os
  have h1 := ih (fun r hr => h r (by simp [hr]))
  have h2 := h q (by simp)
  rw [nmT_snoc, nmOne, List.length_append]
  have h3 := nmIn_len (nmT al l).2 q.lab (q.lab.length - al.length + 1) (nmT al l).1
  simp only [List.length_singleton]
  omega

theorem nt_keep {W w1 : World} {tmp : Obj} {B e s n c b : Nat} {v y : Value} {xs : List Value} {cs : Array Value} {T : TypeId} (k : Blk W c cs T) (h : W.ownsRow B e s v n xs) (hg : (W.alloc tmp).grownBy w1 v.ownBlock) (hT : e ≠ T) (hb : c ≠ b) : Blk (w1.setCell ⟨b, 0, none⟩ y) c cs T :=
  blk_far (blk_grown (blk_alloc k tmp) hg (fun e' => own_nb h k hT e')) hb

set_option maxRecDepth 100000 in
set_option maxHeartbeats 4000000 in
theorem names_in (F : Fence) (n : Nat) (h1 : F.fn 44) (h2 : F.fn 79) (h3 : F.fn 78) (h4 : F.fn 116) (h5 : F.fn 80) (hro : F.round = none) (hn : 9 ≤ n)
    (bb oo th : Nat) (rv : Value) (os : List GOw) (B : Nat) (aa : Option Addr) (ac : Nat) (al : List ByteArray) (w : World) (h : TrAt w B th rv os) (hl : os.length ≤ 400000) (hLab : LabAt w (fpT th rv os) os) (hgl : ∀ q ∈ os, Gl q.lab ∧ al.length ≤ q.lab.length) (hc : w.cell? ⟨bb, oo + 1, none⟩ = some (ptr th)) (hca : w.cell? ⟨bb, oo, none⟩ = some (.slice aa al.length ac))
    (hund : ∀ (u v : Value) (xs ys : List ByteArray) (m : Nat) (W : World), Nm.SRow W u xs → Nm.SRow W v ys → (∀ x ∈ xs, x.size ≤ 1000000000) → xs.length ≤ 1000000000 → ys.length ≤ 1000000000 → CallsIn F m Tryz.prog 79 #[u, v] W fun e w' => e = .returned (.bool (underB xs ys)) ∧ Below W.heap.size W w')
    (hwire : ∀ (v : Value) (ys : List ByteArray) (m : Nat) (W : World), Nm.SRow W v ys → Gl ys → CallsIn F m Tryz.prog 80 #[v] W fun e w' => e = .returned (.tuple #[.string (joB ys), .int .i64 0]) ∧ Below W.heap.size W w') :
    CallsIn F n Tryz.prog 44 #[.pointer (some ⟨bb, oo, none⟩)] w fun e W' => ∃ v, e = .returned v ∧ W'.ownsRow w.heap.size 9 1 v (nmT al os).1.length ((nmT al os).1.map joV) ∧ Below w.heap.size w W' := by
  obtain ⟨i0, hi, hz0, hz1, hz2⟩ := info_parts infoStrV
  refine callsIn_of_wp_marks Tryz.func44 rfl h1 ?_ hro
  simp only [Tryz.ntmps44, List.size_toArray, List.length_cons, List.length_nil, Nat.reduceAdd, Nat.reduceSub, Array.replicate_succ, Array.replicate_zero, List.push_toArray, List.append_toArray, List.nil_append, List.cons_append]
  have hth : th < w.heap.size := blk_lt h.head
  have n1 : 1 ≤ n := by omega
  have hbb : bb < w.heap.size := World.block_lt_of_cell? w _ hc
  unfold ptr at hc
  have b0 := (Below.refl w.heap.size w).alloc (Nat.le_refl _) (.cells #[.pointer (some ⟨bb, oo, none⟩)] 61)
  have b1 := b0.alloc b0.size (.cells #[.slice none 0 0] 33)
  have b2 := b1.alloc b1.size (.cells #[.slice none 0 0] 65)
  have k0 := blk_alloc (blk_alloc (blk_new w #[.pointer (some ⟨bb, oo, none⟩)] 61) (.cells #[.slice none 0 0] 33)) (.cells #[.slice none 0 0] 65)
  have k1 := blk_alloc (blk_new (w.alloc (.cells #[.pointer (some ⟨bb, oo, none⟩)] 61)) #[.slice none 0 0] 33) (.cells #[.slice none 0 0] 65)
  have k2 := blk_new ((w.alloc (.cells #[.pointer (some ⟨bb, oo, none⟩)] 61)).alloc (.cells #[.slice none 0 0] 33)) #[.slice none 0 0] 65
  rw [World.size_alloc] at k1
  rw [World.size_alloc, World.size_alloc] at k2
  have c2 := (b2.cell (p := ⟨bb, oo + 1, none⟩) hbb).trans hc
  have r0 := (blk_cell k0 0).trans rfl
  have HX := Nm.hide (And.intro h (And.intro hLab (And.intro hgl (And.intro hund hwire))))
  clear h hLab hgl hund hwire
  gi_wp2_with fail
  refine (allL_in F (n - 1) h3 hro _ _).mono ?_
  rintro e w3 ⟨rfl, rfl⟩
  gi_wp2
  have kO3 := blk_alloc k1 (.cells #[.pointer (some ⟨th, 0, none⟩)] 104)
  have kL3 := blk_alloc k2 (.cells #[.pointer (some ⟨th, 0, none⟩)] 104)
  have kP3 := blk_alloc k0 (.cells #[.pointer (some ⟨th, 0, none⟩)] 104)
  have kT3 := blk_new (((w.alloc (.cells #[.pointer (some ⟨bb, oo, none⟩)] 61)).alloc (.cells #[.slice none 0 0] 33)).alloc (.cells #[.slice none 0 0] 65)) #[.pointer (some ⟨th, 0, none⟩)] 104
  rw [World.size_alloc, World.size_alloc, World.size_alloc] at kT3
  have b3 := b2.alloc b2.size (.cells #[.pointer (some ⟨th, 0, none⟩)] 104)
  obtain ⟨W0, hW0⟩ : ∃ W0, (((w.alloc (.cells #[.pointer (some ⟨bb, oo, none⟩)] 61)).alloc (.cells #[.slice none 0 0] 33)).alloc (.cells #[.slice none 0 0] 65)).alloc (.cells #[.pointer (some ⟨th, 0, none⟩)] 104) = W0 := ⟨_, rfl⟩
  have hsz : W0.heap.size = w.heap.size + 4 := by rw [← hW0]; simp
  rw [hW0] at kO3 kL3 kP3 kT3 b3 ⊢
  clear hW0 k0 k1 k2 b0 b1 b2 c2 r0
  have hza : os.attach.length = os.length := List.length_attach
  have hR0 : RwsL (fun x : {o : GOw // o ∈ os} => slA x.1.lv) (fun x => slN x.1.lv) (fun x => slC x.1.lv) (fun x => ⟨x.1.blk, 0, none⟩) w.heap.size w rv os.attach := by
    refine rwsL_own _ _ _ _ (B := B) (e := 157) _ ?_
    have hr := HX.out.1.rows
    have e1 : (os.attach.map fun x : {o : GOw // o ∈ os} => ((Value.slice (slA x.1.lv) (slN x.1.lv) (slC x.1.lv)), (Value.pointer (some (⟨x.1.blk, 0, none⟩ : Addr))))) = owRs os := by
      rw [owRs]
      conv => rhs; rw [← List.attach_map_subtype_val os]
      rw [List.map_map]
      refine List.map_congr_left (fun x _ => ?_)
      simp only [Function.comp, ptr]
      rw [← sl_eq (HX.out.2.1 x.1 x.2).row]
    rw [e1]
    rw [show (owRs os).length = os.attach.length by simp [owRs]] at hr
    exact hr
  have kh3 : W0.cell? ⟨th, 1, none⟩ = some rv := (b3.cell (p := ⟨th, 1, none⟩) hth).trans ((blk_cell HX.out.1.head 1).trans rfl)
  refine wpIn_rangeFunc_ownG hro n1 (gf := 116) (lb := #[.pointer (some ⟨w.heap.size + 3, 0, none⟩)]) rfl h4 (enters_of Tryz.func116 (by kernel_rfl) rfl)
    (allStopsL (fun x : {o : GOw // o ∈ os} => slA x.1.lv) (fun x => slN x.1.lv) (fun x => slC x.1.lv) (fun x => ⟨x.1.blk, 0, none⟩) F (n - 1) h4 hro (by omega) (w.heap.size + 3) th w.heap.size rv os.attach (by omega) W0 (by omega) hth (by omega) ((blk_cell kT3 0).trans rfl) kh3 (hR0.below b3)) belowK_t (belowK_b (by omega)) (Below.refl _ _) (fun _ => rfl)
    (fun pre W => (∃ v, Boxed W (w.heap.size + 1) 33 v ∧ W.ownsRow w.heap.size 9 1 v (nmT al (pre.map (·.1))).1.length ((nmT al (pre.map (·.1))).1.map joV) ∧ True) ∧ ((Blk W (w.heap.size + 2) #[lastV (pre.map (·.1))] 65 ∧ Blk W w.heap.size #[.pointer (some ⟨bb, oo, none⟩)] 61) ∧ Below w.heap.size w W))
    (fun _ _ _ => False)
    (OwnFrom.and (Own.from (holdsRow_own w.heap.size (w.heap.size + 1) 33 9 1 (fun pre : List {o : GOw // o ∈ os} => (nmT al (pre.map (·.1))).1.length) (fun pre => (nmT al (pre.map (·.1))).1.map joV) (fun pre v => True)) _) (OwnFrom.and (OwnFrom.and (fun _ X Y row hs hg hr => blk_grown hs hg (fun e => blk_nonc hs (hr _ e).2 rfl)) (fun _ X Y row hs hg hr => blk_grown hs hg (fun e => blk_nonc hs (hr _ e).2 rfl))) (ownFrom_below (Nat.le_refl _) (by omega))))
    (fun _ _ _ _ _ hs _ _ => hs)
    ⟨⟨_, kO3, World.ownsRow_nil _ _ _ _, trivial⟩, ⟨kL3, kP3⟩, b3⟩
    (fun x => { tmps := #[.pointer (some ⟨bb, oo, none⟩), .pointer (some ⟨w.heap.size, 0, none⟩), .slice none 0 0, .pointer (some ⟨w.heap.size + 1, 0, none⟩), .pointer (some ⟨w.heap.size + 2, 0, none⟩), .slice (slA x.1.lv) (slN x.1.lv) (slC x.1.lv), undef, undef, undef, .pointer (some ⟨bb, oo, none⟩), .pointer (some ⟨bb, oo, none⟩), .pointer (some ⟨bb, oo + 1, none⟩), .pointer (some ⟨th, 0, none⟩), .func (.func 116) #[] #[.pointer (some ⟨w.heap.size + 3, 0, none⟩)], .slice (slA x.1.lv) (slN x.1.lv) (slC x.1.lv), .pointer (some ⟨x.1.blk, 0, none⟩), undef, undef, undef, undef, undef, undef, undef, undef, undef, undef, undef, undef, undef, undef, undef, undef, undef, undef, undef, undef, undef, undef, undef, undef, undef, undef, undef, undef, undef, undef, undef, undef, undef, undef, undef], defers := [] }) ?assign ?body ?done ?stop
  case assign =>
    intro l x W K hK
    gi_wp2
    exact hK
  case body =>
    rintro l pre x W ⟨⟨v, hv, hrow, -⟩, ⟨kL, kP⟩, hB⟩ hlt
    have n2 : 1 ≤ n - 1 - 1 := by omega
    have hrL := (HX.out.2.1 x.1 x.2).row
    obtain ⟨hgl, hal⟩ := HX.out.2.2.1 x.1 x.2
    have hll : x.1.lab.length ≤ 254 := Nat.le_trans (Nm.length_le_wsum _) hgl.2
    have hLR := last_row (al := al) HX.out.2.1 (pre.map (·.1)) (fun q hq => by obtain ⟨y, _, rfl⟩ := List.mem_map.1 hq; exact y.2)
    have hLG : Gl (nmT al (pre.map (·.1))).2 := by
      rcases List.eq_nil_or_concat (pre.map (·.1)) with e | ⟨L, q, e⟩
      · rw [e]; exact ⟨by simp [nmT], by simp [nmT, Nm.wsum]⟩
      · have hq : q ∈ pre.map (·.1) := by rw [e]; simp
        obtain ⟨y, _, rfl⟩ := List.mem_map.1 hq
        rw [e, List.concat_eq_append, nmT_snoc]
        exact (HX.out.2.2.1 y.1 y.2).1
    have hN0 : (nmT al (pre.map (·.1))).1.length ≤ 102000000 := by
      have h1 := nmT_len al (pre.map (·.1)) (fun q hq => by
        obtain ⟨y, _, rfl⟩ := List.mem_map.1 hq
        exact Nat.le_trans (Nm.length_le_wsum _) (HX.out.2.2.1 y.1 y.2).1.2)
      rw [List.length_map] at h1
      omega
    have e5 : nmT al ((pre ++ [x]).map (·.1)) = nmOne al (nmT al (pre.map (·.1))) x.1.lab := by rw [List.map_append, List.map_cons, List.map_nil, nmT_snoc]
    have e6 : lastV ((pre ++ [x]).map (·.1)) = x.1.lv := by rw [List.map_append, List.map_cons, List.map_nil, lastV_snoc]
    rw [nmOne] at e5
    have ca := (hB.cell (p := ⟨bb, oo, none⟩) hbb).trans hca
    have cP := (blk_cell kP 0).trans rfl
    have HLR := Nm.hide (And.intro hLR hLG)
    have HRL := Nm.hide hrL
    obtain ⟨LV, hLV⟩ : ∃ LV, LV = lastV (pre.map (·.1)) := ⟨_, rfl⟩
    obtain ⟨sa, sn, sc, hLVs⟩ : ∃ a n c, LV = .slice a n c := by rw [hLV]; obtain ⟨a, c, e, _⟩ := hLR; exact ⟨a, _, c, e⟩
    rw [← hLV] at kL HLR
    rw [hLVs] at kL HLR
    clear hLR hLG hLV hLVs LV
    generalize nmT al (pre.map (·.1)) = ST at *
    obtain ⟨out0, last⟩ := ST
    simp only at hrow HLR hN0 e5
    obtain ⟨lab, hlab⟩ : ∃ lab, lab = x.1.lab := ⟨_, rfl⟩
    rw [← hlab] at hgl hal hll hrL HRL e5
    clear hlab
    obtain ⟨la, lc, hlv, hcap, hmx, hnil, hcl⟩ := hrL
    rw [show slA x.1.lv = la by rw [hlv]; rfl, show slN x.1.lv = lab.length by rw [hlv]; rfl, show slC x.1.lv = lc by rw [hlv]; rfl]
    rw [hlv] at HRL e6
    unfold maxLen at hmx
    clear hcl
    obtain ⟨N0, hN⟩ : ∃ N0, N0 = lab.length - al.length + 1 := ⟨_, rfl⟩
    rw [← hN] at e5
    have hN1 : (lab.length : Int) - (al.length : Int) = (N0 : Int) - 1 := by omega
    have hN2 : N0 ≤ 255 := by omega
    have hN3 : N0 ≤ lab.length + 1 := by omega
    obtain ⟨R, hR⟩ : ∃ R, R = nmIn last lab N0 out0 := ⟨_, rfl⟩
    rw [← hR] at e5
    have HE := Nm.hide (And.intro e5 e6)
    have HR := Nm.hide hR
    have HN1 := Nm.hide hN1
    have hsW := hB.size
    obtain ⟨va, vc, rfl⟩ := own_sl hrow
    clear hR hN hN1 e5 e6 hlv
    gi_wp2
    gi_loopw [6] (fun i wr => ∃ (k : Nat) (out : List (List ByteArray)) (v : Value), k ≤ N0 ∧ i = .int .i64 ((k : Int) - 1) ∧ Hid (nmIn last lab k out = R) ∧ out.length + k ≤ 102000255 ∧ Boxed wr (w.heap.size + 1) 33 v ∧ wr.ownsRow w.heap.size 9 1 v out.length (out.map joV) ∧ Blk wr (w.heap.size + 2) #[.slice sa sn sc] 65 ∧ Blk wr w.heap.size #[.pointer (some ⟨bb, oo, none⟩)] 61 ∧ KeepsOthers W wr ∧ Below w.heap.size W wr) (fun i _ => (intOf i + 1).toNat)
    case atStart => exact ⟨N0, out0, _, Nat.le_refl _, by first | rw [HN1.out] | (rw [HN1.out]; go_num), HR.out.symm, by omega, hv, hrow, kL, kP, KeepsOthers.refl _, Below.refl _ _⟩
    case round =>
      clear hv hrow kL kP ca cP
      obtain ⟨k, out, v, hk, rfl, HK, hol, hv, hrow, kL, kP, hKO, hBW⟩ := hrel
      obtain ⟨va, vc, rfl⟩ := own_sl hrow
      have hBw := hB.trans hBW
      have hsr0 := HRL.out.below hBw
      have hlr0 := HLR.out.1.below hBw
      have hcO := hv.cell
      have hcL := (blk_cell kL 0).trans rfl
      have hfL := blk_frozen kL 0
      cases k with
      | zero =>
        have i0 : ((0 : Nat) : Int) - 1 < 0 := by omega
        have HF : Hid (out = R) := HK.out
        clear HK hsr0 hlr0 hcO
        gi_wp2
        have k9 := blk_set kL 0 (.slice la lab.length lc)
        simp only [List.setIfInBounds_toArray, List.set_cons_zero] at k9
        have b9 := hBW.setCell (p := ⟨w.heap.size + 2, 0, none⟩) (Nat.le_add_right _ _) (.slice la lab.length lc)
        refine ⟨(hKO.trans (KeepsOthers.setCell _ _ _)).from _, b9, ⟨_, blk_far hv (by omega), ?_, trivial⟩, ⟨?_, blk_far kP (by omega)⟩, hB.trans b9⟩
        · rw [HE.out.1]
          show World.ownsRow _ _ _ _ _ R.length (R.map joV)
          rw [← HF.out]
          exact own_far hrow (own_nb hrow kL (by decide))
        · rw [HE.out.2]
          exact k9
      | succ m =>
        have e2 : ((m + 1 : Nat) : Int) - 1 = (m : Int) := by omega
        rw [e2]
        have j0 : (0 : Int) ≤ (m : Int) := by omega
        have hml : m ≤ lab.length := by omega
        have j1 : (m : Int) ≤ (lab.length : Int) := by omega
        have hgy := hgl.drop m
        have HSK : Hid ((decide (0 < out.length) && underB last (lab.drop m)) = true → nmIn last lab m out = R) := fun hq => by have := HK.out; rw [nmIn, nmStep, if_pos hq] at this; exact this
        have HAP : Hid ((decide (0 < out.length) && underB last (lab.drop m)) = false → nmIn last lab m (out ++ [lab.drop m]) = R) := fun hq => by have := HK.out; rw [nmIn, nmStep, if_neg (by rw [hq]; decide)] at this; exact this
        clear HK e2
        have hsw : w.heap.size ≤ wr.heap.size := hBw.size
        obtain ⟨sva, hsv⟩ : ∃ sva, sva = (if lc = m then la else la.map (fun x => x.add m)) := ⟨_, rfl⟩
        have hsr : Nm.SRow wr (.slice sva (lab.length - m) (lc - m)) (lab.drop m) := by
          rw [hsv]
          by_cases hcm : lc = m
          · rw [if_pos hcm, hcm, Nat.sub_self]
            exact hsr0.drop_all hcm
          · rw [if_neg hcm]
            exact hsr0.drop hml
        have HSR := Nm.hide hsr
        clear hsr hsr0
        have HSV := Nm.hide hsv
        clear hsv
        gi_wp2
        gi_cut [37] from 51 (fun v wx => v = .bool (decide (0 < out.length) && underB last (lab.drop m)) ∧ Below wr.heap.size wr wx)
        case first =>
          by_cases hol0 : out.length = 0
          · have hout : out = [] := List.length_eq_zero_iff.1 hol0
            subst hout
            simp only [List.length_nil, List.map_nil] at hrow hv hcO ⊢
            gi_region_with (fail)
            all_goals
              gi_wp2_with fail
              gi_meet
              case rel => exact ⟨by simp, (Below.refl _ _).drew⟩
          · have p1 : (0 : Int) < (out.length : Int) := by omega
            have p2 : decide (0 < out.length) = true := by simp; omega
            have hcall := fun a c W (hW : Below wr.heap.size wr W) (hy : Nm.SRow wr (.slice a (lab.length - m) c) (lab.drop m)) => CallsIn.inRound l (HX.out.2.2.2.1 (.slice sa sn sc) (.slice a (lab.length - m) c) last (lab.drop m) (n - 1 - 1 - 1) W (hlr0.below hW) (hy.below hW) (fun x hx => by have := (HLR.out.2.1 x hx).2; omega) (by have h1 := HLR.out.2.2; have h2 := Nm.length_le_wsum last; omega) (by rw [List.length_drop]; omega))
            generalize underB last (lab.drop m) = UB at *
            by_cases hcm : lc = m
            · have hsv := HSV.out
              rw [if_pos hcm] at hsv
              obtain rfl : m = lab.length := by omega
              subst hcm
              subst hsv
              have hcall2 := hcall _ _ _ ((Below.refl _ _).drew) HSR.out
              rw [Nat.sub_self] at hcall2
              clear hcall HSR hcap hml j1 hgy HSK HAP HX HLR HRL HE HR
              gi_region_with (gi_at_call 79; refine hcall2.mono ?_; rintro e w4 ⟨rfl, b4⟩)
              all_goals
                gi_wp2_with fail
                gi_meet
                case rel => exact ⟨by rw [p2]; rfl, Nm.below_two (Below.refl _ _).drew b4⟩
            · have hsv := HSV.out
              rw [if_neg hcm] at hsv
              obtain ⟨ad, had⟩ : ∃ ad, la = some ad := by
                cases la with
                | none => have := hnil rfl; omega
                | some ad => exact ⟨ad, rfl⟩
              subst had
              simp only [Option.map_some] at hsv
              subst hsv
              have hlt2 : m < lc := by omega
              have hcall2 := hcall _ _ _ ((Below.refl _ _).drew) HSR.out
              gi_region_with (gi_at_call 79; refine hcall2.mono ?_; rintro e w4 ⟨rfl, b4⟩)
              all_goals
                gi_wp2_with fail
                gi_meet
                case rel => exact ⟨by rw [p2]; rfl, Nm.below_two (Below.refl _ _).drew b4⟩
        case rest =>
          obtain ⟨rfl, bC⟩ := hcut
          have hvC : Boxed wc (w.heap.size + 1) 33 (.slice va out.length vc) := blk_below hv bC
          have hrowC := own_below hrow bC
          have kLC := blk_below kL bC
          have kPC := blk_below kP bC
          have hKOC := hKO.trans (keeps_below bC)
          have hBWC := hBW.trans (bC.mono hsw)
          have hswC : w.heap.size ≤ wc.heap.size := Nat.le_trans hsw bC.size
          have hsrC := HSR.out.below bC
          have HSRC := Nm.hide hsrC
          clear hv hrow kL kP hKO hBW hcO hcL hfL hlr0 HSR hsrC
          cases hq : (decide (0 < out.length) && underB last (lab.drop m)) with
          | true =>
            have HK2 := Nm.hide (HSK.out hq)
            clear hq HSK HAP
            gi_wp2
            go_roundw
            case rel => exact ⟨m, out, _, by omega, by go_num, HK2, by omega, hvC, hrowC, kLC, kPC, hKOC, hBWC⟩
            case measure => simp [intOf]
          | false =>
            have HK2 := Nm.hide (HAP.out hq)
            clear hq HSK HAP
            obtain ⟨Y, hY⟩ : ∃ Y, Y = lab.drop m := ⟨_, rfl⟩
            rw [← hY] at HK2 HSRC hgy
            clear hY
            by_cases hcm : lc = m
            · have hsv := HSV.out
              rw [if_pos hcm] at hsv
              obtain rfl : m = lab.length := by omega
              subst hcm
              subst hsv
              rw [Nat.sub_self] at HSRC
              have hwi := CallsIn.inRound l (HX.out.2.2.2.2 _ Y (n - 1 - 1 - 1) wc HSRC.out hgy)
              gi_wp2_with fail
              refine hwi.mono ?_
              rintro e w5 ⟨rfl, b5⟩
              have hv5 : Boxed w5 (w.heap.size + 1) 33 (.slice va out.length vc) := blk_below hvC b5
              have hrow5 := own_below hrowC b5
              have kL5 := blk_below kLC b5
              have kP5 := blk_below kPC b5
              have hKO5 := hKOC.trans (keeps_below b5)
              have hBW5 := hBWC.trans (b5.mono hswC)
              have hsw5 : w.heap.size ≤ w5.heap.size := Nat.le_trans hswC b5.size
              have hc5 := hv5.cell
              clear hvC hrowC kLC kPC hKOC hBWC hwi b5
              gi_wp2_with (gi_at_builtin; refine wpListIn_append_own _ rfl _ _ 33 rfl w.heap.size 9 i0 (.string ByteArray.empty) 1 16 Tryz.underlying33 hi hz0 hz1 hz2 rfl (by decide) _ _ _ rfl (hrow5.alloc _) ⟨w5.heap.size, 0, none⟩ 1 1 [.string (joB Y)] rfl rfl (cell_one_new _ _ _) (by simp [Value.oneCell']) (by unfold maxLen; omega) (by omega) (by simp; omega) ?_; intro v' w6 hown' hgrow _; obtain ⟨g', cap', rfl⟩ := ownsRow_succ hown'; obtain ⟨hv1, hv2, hr2, hk2, hb2⟩ := hv5.appended (by decide) hrow5 hsw5 (Nat.le_succ _) hown' hgrow; have hc1 := hv1.cell; have hf1 := hv1.frozen; have kL6 := nt_keep kL5 hrow5 hgrow (b := w.heap.size + 1) (y := .slice (some ⟨g', 0, none⟩) (out.length + 1) cap') (by decide) (by omega); have kP6 := nt_keep kP5 hrow5 hgrow (b := w.heap.size + 1) (y := .slice (some ⟨g', 0, none⟩) (out.length + 1) cap') (by decide) (by omega))
              go_roundw
              case rel => exact ⟨(lab.length), out ++ [Y], _, by omega, by go_num, HK2, by simp; omega, hv2, by simpa [joV] using hr2, kL6, kP6, hKO5.trans hk2, hBW5.trans hb2⟩
              case measure => simp [intOf]
            · have hsv := HSV.out
              rw [if_neg hcm] at hsv
              obtain ⟨ad, had⟩ : ∃ ad, la = some ad := by
                cases la with
                | none => have := hnil rfl; omega
                | some ad => exact ⟨ad, rfl⟩
              subst had
              simp only [Option.map_some] at hsv
              subst hsv
              have hlt2 : m < lc := by omega
              have hwi := CallsIn.inRound l (HX.out.2.2.2.2 _ Y (n - 1 - 1 - 1) wc HSRC.out hgy)
              gi_wp2_with fail
              refine hwi.mono ?_
              rintro e w5 ⟨rfl, b5⟩
              have hv5 : Boxed w5 (w.heap.size + 1) 33 (.slice va out.length vc) := blk_below hvC b5
              have hrow5 := own_below hrowC b5
              have kL5 := blk_below kLC b5
              have kP5 := blk_below kPC b5
              have hKO5 := hKOC.trans (keeps_below b5)
              have hBW5 := hBWC.trans (b5.mono hswC)
              have hsw5 : w.heap.size ≤ w5.heap.size := Nat.le_trans hswC b5.size
              have hc5 := hv5.cell
              clear hvC hrowC kLC kPC hKOC hBWC hwi b5
              gi_wp2_with (gi_at_builtin; refine wpListIn_append_own _ rfl _ _ 33 rfl w.heap.size 9 i0 (.string ByteArray.empty) 1 16 Tryz.underlying33 hi hz0 hz1 hz2 rfl (by decide) _ _ _ rfl (hrow5.alloc _) ⟨w5.heap.size, 0, none⟩ 1 1 [.string (joB Y)] rfl rfl (cell_one_new _ _ _) (by simp [Value.oneCell']) (by unfold maxLen; omega) (by omega) (by simp; omega) ?_; intro v' w6 hown' hgrow _; obtain ⟨g', cap', rfl⟩ := ownsRow_succ hown'; obtain ⟨hv1, hv2, hr2, hk2, hb2⟩ := hv5.appended (by decide) hrow5 hsw5 (Nat.le_succ _) hown' hgrow; have hc1 := hv1.cell; have hf1 := hv1.frozen; have kL6 := nt_keep kL5 hrow5 hgrow (b := w.heap.size + 1) (y := .slice (some ⟨g', 0, none⟩) (out.length + 1) cap') (by decide) (by omega); have kP6 := nt_keep kP5 hrow5 hgrow (b := w.heap.size + 1) (y := .slice (some ⟨g', 0, none⟩) (out.length + 1) cap') (by decide) (by omega))
              go_roundw
              case rel => exact ⟨m, out ++ [Y], _, by omega, by go_num, HK2, by simp; omega, hv2, by simpa [joV] using hr2, kL6, kP6, hKO5.trans hk2, hBW5.trans hb2⟩
              case measure => simp [intOf]
  case done =>
    rintro D ys W hD rfl ⟨⟨v, hv, hrow, -⟩, -, hB⟩ hK
    rw [List.attach_map_subtype_val] at hrow
    have hc := hv.cell
    gi_wp2
    refine ⟨by simp, .inl ⟨_, _, rfl, run_takeDeferred hK, ?_⟩⟩
    exact ⟨_, results_tmp rfl _ _ _, v, rfl, ownsRow_putObj hrow _ hK rfl, hB.trans (belowK_b (w := w) (Nat.le_refl _) W D _ _ (by omega) hK rfl rfl)⟩
  case stop =>
    rintro D c pre W _ _ h _
    exact h.elim

theorem names_any (bb oo th : Nat) (rv : Value) (os : List GOw) (B : Nat) (aa : Option Addr) (ac : Nat) (al : List ByteArray) (w : World) (h : TrAt w B th rv os) (hl : os.length ≤ 400000) (hLab : LabAt w (fpT th rv os) os) (hgl : ∀ q ∈ os, Gl q.lab ∧ al.length ≤ q.lab.length) (hc : w.cell? ⟨bb, oo + 1, none⟩ = some (ptr th)) (hca : w.cell? ⟨bb, oo, none⟩ = some (.slice aa al.length ac)) :
    Calls Tryz.prog 44 #[.pointer (some ⟨bb, oo, none⟩)] w fun e W' => ∃ v, e = .returned v ∧ W'.ownsRow w.heap.size 9 1 v (nmT al os).1.length ((nmT al os).1.map joV) ∧ Below w.heap.size w W' :=
  (callsIn_wide (n := 9)).1 (names_in Fence.wide 9 trivial trivial trivial trivial trivial rfl (by omega) bb oo th rv os B aa ac al w h hl hLab hgl hc hca
    (fun u v xs ys m W h1 h2 h3 h4 h5 => callsIn_wide.2 ((under_any u v xs ys W h1 h2 h3 h4 h5).mono (by rintro e w' ⟨he, m, rfl⟩; exact ⟨he, Go.below_drewN (Below.refl _ _) _⟩)))
    (fun v ys m W h1 h2 => callsIn_wide.2 (by have := wire_any v ys W h1 (by have := h2.2; omega); rwa [wireS_short h2.2, wireC_short h2.2] at this)))
end Go.Proofs.YtnpegoclghfmpaaGreat
/- impl.ZoneNames by its contract. -/
namespace Go.Proofs.YtnpegoclghfmpaaGreat
open Go.RowKit
set_option linter.unusedVariables false

theorem nz_names {ps : List Zp} {o : ByteArray} {bb : Nat} {lv : Value} {th : Nat} {ys : List ByteArray} {aa : Option Addr} {ac : Nat} {labv rv : Value} {os : List GOw} {kv : Value} {ks : List Ld} {B : Nat} {W : World} (hP : P3 (zoneRecs ps) o bb lv th ys aa ac labv rv os kv ks B W) (hz : zOK ps o = true) :
    Calls Tryz.prog 44 #[.pointer (some ⟨bb, 3, none⟩)] W fun e W' => ∃ v, e = .returned v ∧ W'.ownsRow W.heap.size 9 1 v (zNm ps o).length ((zNm ps o).map fun x => Value.string (joB x)) ∧ Below W.heap.size W W' := by
  have hzs : ps.map (·.1) = zoneT os := by rw [← (zOK_recs hz).2, zone_eq hP.st.inv hP.good.1 hP.mix]
  have hT := tz_of hP.st.inv hP.good.1 hP.good.2 hP.ap hz hzs
  have hol := hP.st.inv.len.1
  have hl5 := hP.hl
  rw [List.length_map] at hol
  rw [znm_tree hT hzs]
  exact names_any bb 3 th rv os B aa ac ys W hP.st.tr (by omega) hP.st.lab (fun q hq => ⟨gl_split (hT.nm q hq), (under_iff.1 (hT.und q hq)).1⟩) ((blk_cell hP.kb 4).trans rfl) ((blk_cell hP.kb 3).trans rfl)

set_option maxRecDepth 100000 in
set_option maxHeartbeats 1600000 in
theorem implZoneNames_any (o : ByteArray) (v : Value) (ps : List Zp) (w : World) (h : ZRow w v ps) (hs : zsum ps ≤ 1048576) (hf : ∀ p ∈ ps, p.1.own.size ≤ 1048576 ∧ ∀ x ∈ p.1.da, x.size ≤ 1048576) (ha : o.size ≤ 1000000000) :
    Calls Tryz.prog 19 #[.agg #[.string o, v]] w (ZnP (znR ps o) w) := by
  obtain ⟨va, vc, rfl⟩ : ∃ va vc, v = .slice va ps.length vc := by obtain ⟨⟨_, a, c, e, _⟩, _⟩ := h; exact ⟨a, c, e⟩
  have b0 := (Below.refl w.heap.size w).alloc (Nat.le_refl _) (.cells #[.string o, .slice va ps.length vc] 29)
  have k0 := blk_new w #[.string o, .slice va ps.length vc] 29
  have hop := openZone_any o (.slice va ps.length vc) ps _ (h.below b0) hs hf ha
  have r0 := fun i => blk_cell k0 i
  obtain ⟨R, hR⟩ : ∃ R, R = znR ps o := ⟨_, rfl⟩
  have HR := Nm.hide hR
  rw [← hR]
  clear h hf hs hR
  go_enter Tryz.func19, Tryz.ntmps19
  go_wp2_with fail
  refine hop.mono ?_
  rintro e w1 ⟨hb1, ⟨hz, rfl⟩ | ⟨hz, bb, lv, th, ys, aa, ac, labv, rv, os, kv, ks, B, rfl, hP⟩⟩
  · have hR0 : R = ([], 32) := by rw [HR.out, znR, hz]; rfl
    have bw1 := Nm.below_two b0 hb1
    clear HR hz hop k0 b0 hb1 r0
    subst hR0
    go_wp2
    go_ret2
    exact znP_none bw1
  · have bw1 := Nm.below_two b0 hb1
    have hR1 : R = (zNm ps o, 0) := by rw [HR.out, znR, if_pos hz]
    have hnm := nz_names hP hz
    clear HR hz hop k0 b0 hb1 r0 hP
    subst hR1
    generalize zNm ps o = N at *
    go_wp2_with fail
    refine hnm.mono ?_
    rintro e w2 ⟨u, rfl, hou, b2⟩
    have HP : Hid (ZnP (N, 0) w (.returned (.tuple #[u, .int .i64 0])) w2) := ⟨_, rfl, own_base hou bw1.size, Nm.below_two bw1 b2⟩
    obtain ⟨ua, uc, eu⟩ := own_sl hou
    subst eu
    clear hou b2 bw1 hnm
    go_wp2
    go_ret2
    exact HP.out
end Go.Proofs.YtnpegoclghfmpaaGreat
/- Marks of strings: what is held. -/
namespace Go.Proofs.YtnpegoclghfmpaaGreat
open Go.RowKit

/-- The marks from number k on, n of them. -/
def mks (k n : Nat) : List ByteArray := (List.range n).map (fun i => mkS (k + i))

theorem mks_get {k n i : Nat} (h : i < n) : (mks k n)[i]? = some (mkS (k + i)) := by simp [mks, h]
theorem mks_len (k n : Nat) : (mks k n).length = n := by simp [mks]

theorem mks_set {k n i : Nat} {xs : List Value} (hl : xs.length = n) (h : i < n) :
    (((mks k n).take i).map Value.string ++ xs.drop i).set i (.string (mkS (k + i))) = ((mks k n).take (i + 1)).map Value.string ++ xs.drop (i + 1) := by
  have h1 : (((mks k n).take i).map Value.string).length = i := by simp [mks_len]; omega
  rw [Nm.take_step (mks_get h), List.set_append_right _ _ (by omega), h1, List.drop_eq_getElem_cons (by omega : i < xs.length), Nat.sub_self, List.set_cons_zero, List.map_append, List.append_assoc]
  rfl

set_option maxRecDepth 100000 in
set_option maxHeartbeats 800000 in
theorem heldStringS_any (v : Value) (n k : Nat) (w : World) (h : Nm.SRow w v (mks k n)) (hn : n ≤ 1000000) (hk : k ≤ 1000000) :
    Calls Tryz.prog 22 #[v, .int .i64 (k : Int)] w fun e w' => e = .returned (.int .i64 ((k + n : Nat) : Int)) ∧ Below w.heap.size w w' := by
  obtain ⟨a, cap, rfl, hcap, hmx, hnl, hc⟩ := h
  rw [mks_len] at *
  go_enter Tryz.func22, Tryz.ntmps22
  go_wp2
  go_loopw [1, 5] (fun t i wr => ∃ j : Nat, j ≤ n ∧ i = .int .i64 (j : Int) ∧ t = .int .i64 ((k + j : Nat) : Int) ∧ Below w.heap.size w wr)
    (fun _ i _ => n - (intOf i).toNat)
  case atStart => exact ⟨0, Nat.zero_le _, rfl, rfl, Below.refl _ _⟩
  case round =>
    obtain ⟨j, hj, rfl, rfl, hbel⟩ := hrel
    by_cases hlt : j < n
    · obtain ⟨b, off, rfl, hcell⟩ := hc (by intro h; have := mks_len k n; rw [h] at this; simp at this; omega)
      have hx2 := hcell j _ (mks_get hlt)
      have hcx : wr.cell? ⟨b, off + j, none⟩ = some (.string (mkS (k + j))) := (hbel.cell (World.block_lt_of_cell? w _ hx2)).trans hx2
      have hmt : ∀ W : World, (W.cell? ⟨b, off + j, none⟩ = some (.string (mkS (k + j))) ∧ Below w.heap.size w W) → Calls Tryz.prog 45 #[.int .i64 ((k : Int) + (j : Int))] W fun e w' => e = .returned (.string (mkS (k + j))) ∧ (w'.cell? ⟨b, off + j, none⟩ = some (.string (mkS (k + j))) ∧ Below w.heap.size w w') := by
        intro W hS
        have hm := markText_any (k + j) W (by omega)
        rw [show (((k + j : Nat)) : Int) = (k : Int) + (j : Int) by omega] at hm
        refine hm.mono ?_
        rintro e w' ⟨rfl, hbs⟩
        exact ⟨rfl, (hbs.cell (World.block_lt_of_cell? W _ hS.1)).trans hS.1, hS.2.trans (hbs.mono hS.2.size)⟩
      have hS0 : wr.drew.cell? ⟨b, off + j, none⟩ = some (.string (mkS (k + j))) ∧ Below w.heap.size w wr.drew := ⟨hcx, hbel.drew⟩
      have i1 : (0 : Int) ≤ (j : Int) := by omega
      have i2 : (j : Int) < (n : Int) := by omega
      have hbq : ((mkS (k + j)).toList == (mkS (k + j)).toList) = true := by simp
      generalize mkS (k + j) = x at *
      clear hc hcell hx2
      go_wp2
      go_region_held3 (fun w' => w'.cell? ⟨b, off + j, none⟩ = some (.string x) ∧ Below w.heap.size w w') (first | assumption | exact hS0) ((first | (go_at_call 45; refine (hmt _ (by first | assumption | exact hS0)).mono ?_; rintro e w' ⟨rfl, hS1⟩)))
      go_wp2
      go_roundw
      case rel => exact ⟨j + 1, by omega, by go_num, by go_num, hS1.2⟩
      case measure => simp [intOf]; omega
    · have hje : j = n := by omega
      subst hje
      clear hc
      go_wp2
      go_ret
      exact ⟨rfl, hbel⟩
end Go.Proofs.YtnpegoclghfmpaaGreat
/- What grows in one block. -/
namespace Go.Proofs.YtnpegoclghfmpaaGreat
open Go.RowKit
set_option linter.unusedVariables false

theorem gr_trans {w w1 w2 : World} {row : Option Nat} (h1 : w.grownBy w1 row) (h2 : w1.grownBy w2 row) : w.grownBy w2 row :=
  ⟨h2.os.trans h1.os, h2.tape.trans h1.tape, h2.output.trans h1.output, Nat.le_trans h1.size h2.size, fun k hk hn => (h2.block k (Nat.lt_of_lt_of_le hk h1.size) hn).trans (h1.block k hk hn)⟩
theorem gr_set (W : World) (b i : Nat) (v : Value) : W.grownBy (W.setCell ⟨b, i, none⟩ v) (some b) :=
  ⟨rfl, rfl, rfl, by simp, fun k _ hk => heap_setCell_other W ⟨b, i, none⟩ k _ (fun e => hk (by rw [e]))⟩
theorem gr_refl (w : World) (row : Option Nat) : w.grownBy w row := ⟨rfl, rfl, rfl, Nat.le_refl _, fun _ _ _ => rfl⟩
theorem gr_below {w w1 w2 : World} {row : Option Nat} (h : w.grownBy w1 row) (h2 : Below w1.heap.size w1 w2) : w.grownBy w2 row :=
  ⟨h2.os.trans h.os, h2.tape.trans h.tape, h2.output.trans h.output, Nat.le_trans h.size h2.size, fun k hk hne => (h2.block k (Nat.lt_of_lt_of_le hk h.size)).trans (h.block k hk hne)⟩

set_option maxRecDepth 100000 in
set_option maxHeartbeats 800000 in
theorem markStringS_own (v : Value) (n B k : Nat) (xs : List Value) (w : World) (hown : w.ownsRow B 9 1 v n xs) (hn : n ≤ 1000000) (hk : k ≤ 1000000) :
    Calls Tryz.prog 21 #[v, .int .i64 (k : Int)] w fun e w' => e = .returned (.int .i64 ((k + n : Nat) : Int)) ∧ w'.ownsRow B 9 1 v n ((mks k n).map Value.string) ∧ w.grownBy w' v.ownBlock := by
  have hxl : xs.length = n := by have := hown.1; omega
  rcases Nat.eq_zero_or_pos n with h0 | hpos
  · subst h0
    obtain ⟨a, cap, rfl⟩ : ∃ a cap, v = .slice a 0 cap := by
      rcases hown.2 with ⟨rfl, _⟩ | ⟨g, cap, cur, rfl, _⟩
      · exact ⟨_, _, rfl⟩
      · exact ⟨_, _, rfl⟩
    have hx0 : xs = [] := List.length_eq_zero_iff.1 hxl
    subst hx0
    go_enter Tryz.func21, Tryz.ntmps21
    go_wp2
    go_loop [1, 5] (fun t i => t = .int .i64 (k : Int) ∧ i = .int .i64 0) (fun _ _ => 0)
    case atStart => exact ⟨rfl, rfl⟩
    case round =>
      obtain ⟨rfl, rfl⟩ := hrel
      go_wp2
      go_ret
      exact ⟨rfl, by simpa [mks] using hown, gr_refl _ _⟩
  · obtain ⟨g, cap, rfl, hBg⟩ : ∃ g cap, v = .slice (some ⟨g, 0, none⟩) n cap ∧ B ≤ g := by
      rcases hown.2 with ⟨rfl, h0⟩ | ⟨g, cap, cur, rfl, hb, _⟩
      · omega
      · exact ⟨g, cap, rfl, hb⟩
    have eb : (Value.slice (some ⟨g, 0, none⟩) n cap).ownBlock = some g := rfl
    rw [eb]
    clear eb
    go_enter Tryz.func21, Tryz.ntmps21
    go_wp2
    go_loopw [1, 5] (fun t i wr => ∃ j : Nat, j ≤ n ∧ i = .int .i64 (j : Int) ∧ t = .int .i64 ((k + j : Nat) : Int) ∧ wr.ownsRow B 9 1 (.slice (some ⟨g, 0, none⟩) n cap) n (((mks k n).take j).map Value.string ++ xs.drop j) ∧ w.grownBy wr (some g))
      (fun _ i _ => n - (intOf i).toNat)
    case atStart => exact ⟨0, Nat.zero_le _, rfl, rfl, by simpa using hown, gr_refl _ _⟩
    case round =>
      obtain ⟨j, hj, rfl, rfl, hownj, hbel⟩ := hrel
      clear hown
      by_cases hlt : j < n
      · have HSET := Nm.hide (mks_set (k := k) hxl hlt)
        obtain ⟨y, hy⟩ : ∃ y, wr.cell? ⟨g, j, none⟩ = some y := by
          rw [hownj.cellAt j (by omega)]
          exact ⟨_, List.getElem?_eq_getElem (by simp [mks_len]; omega)⟩
        go_wp2_with (go_at_call 45; refine (markText_any (k + j) _ (by omega)).mono ?_; rintro e w3 ⟨rfl, hbel3⟩; have hown3 := hownj.kept (w' := w3) (row := none) ⟨hbel3.os, hbel3.tape, hbel3.output, hbel3.size, fun k hk _ => hbel3.block k hk⟩ (.inr (by simp [Value.ownBlock])); have hst := hown3.stored j (.string (mkS (k + j))); rw [HSET.out] at hst; have hfz := hown3.frozenAt j; have hc3 : w3.cell? ⟨g, j, none⟩ = some y := (hbel3.cell (World.block_lt_of_cell? wr _ hy)).trans hy; have HR := Nm.hide hst; have HB := Nm.hide (gr_trans (gr_below hbel hbel3) (gr_set w3 g j (.string (mkS (k + j))))); clear hst hown3 hownj)
        go_roundw
        case rel => exact ⟨j + 1, by omega, by go_num, by go_num, HR.out.1, HB.out⟩
        case measure => simp [intOf]; omega
      · have hje : j = n := by omega
        subst hje
        have HR : Hid (wr.ownsRow B 9 1 (.slice (some ⟨g, 0, none⟩) j cap) j ((mks k j).map Value.string)) := by
          show wr.ownsRow _ _ _ _ _ _
          rw [List.take_of_length_le (by rw [mks_len]; omega), List.drop_of_length_le (by omega), List.append_nil] at hownj
          exact hownj
        clear hownj
        go_wp2
        go_ret
        exact ⟨rfl, HR.out, hbel⟩
end Go.Proofs.YtnpegoclghfmpaaGreat
