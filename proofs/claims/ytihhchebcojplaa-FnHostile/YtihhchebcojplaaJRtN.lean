import Derived.Test.YtihhchebcojplaaJDnM
import Derived.Test.YtihhchebcojplaaJDataM
import Derived.Test.YtihhchebcojplaaJDcM
import Derived.Test.YtihhchebcojplaaJWtG
/- A name that was written is read again: mathematics. -/
namespace Go.Proofs.Ytihhchebcojplaa
open Go.RowKit
set_option linter.unusedVariables false

/-- Reading from 'pos' on, in a run that began at 'st', gives the name 't' and ends at 'nxt'. -/
def Dec (L : List UInt8) (st pos : Nat) (t : ByteArray) (nxt : Nat) : Prop := ∀ (acc : List UInt8) (nx : Option Nat), acc.length + t.size ≤ 255 → dnF L st pos acc nx = .ok (acc ++ t.data.toList) (nx.getD nxt)
/-- The places are such that names are read there. -/
def PlD (L : List UInt8) (pls : List (ByteArray × Nat)) : Prop := ∀ p ∈ pls, ∃ nxt, Dec L p.2 p.2 p.1 nxt
theorem PlD.nil (L : List UInt8) : PlD L [] := fun p hp => by cases hp

theorem by_pre {L R : List UInt8} (h : R <+: L) {i : Nat} (hi : i < R.length) : L[i]? = R[i]? := by
  obtain ⟨t, rfl⟩ := h
  rw [List.getElem?_append_left hi]
theorem byAt_get {L : List UInt8} {i : Nat} {b : UInt8} (h : L[i]? = some b) : byAt L i = b.toNat := by
  simp [byAt, List.getD_eq_getElem?_getD, h]
/-- L has these bytes from a place on. -/
def Has (L : List UInt8) (p : Nat) (xs : List UInt8) : Prop := ∀ i b, xs[i]? = some b → L[p + i]? = some b
theorem Has.left {L xs ys : List UInt8} {p : Nat} (h : Has L p (xs ++ ys)) : Has L p xs := fun i b hb => h i b (by rw [List.getElem?_append_left (List.getElem?_eq_some_iff.1 hb).1]; exact hb)
theorem Has.right {L xs ys : List UInt8} {p : Nat} (h : Has L p (xs ++ ys)) : Has L (p + xs.length) ys := fun i b hb => by
  have := h (xs.length + i) b (by rw [List.getElem?_append_right (by omega), Nat.add_sub_cancel_left]; exact hb)
  rwa [← Nat.add_assoc] at this
theorem Has.append {L xs ys : List UInt8} {p : Nat} (h1 : Has L p xs) (h2 : Has L (p + xs.length) ys) : Has L p (xs ++ ys) := fun i b hb => by
  by_cases hi : i < xs.length
  · rw [List.getElem?_append_left hi] at hb
    exact h1 i b hb
  · rw [List.getElem?_append_right (by omega)] at hb
    have := h2 _ b hb
    rwa [show p + xs.length + (i - xs.length) = p + i by omega] at this
theorem Has.lt {L xs : List UInt8} {p : Nat} (h : Has L p xs) (hx : 0 < xs.length) : p + xs.length ≤ L.length := by
  have := h (xs.length - 1) _ (List.getElem?_eq_getElem (by omega))
  have := (List.getElem?_eq_some_iff.1 this).1
  omega
theorem Has.cut {L xs : List UInt8} {p : Nat} (h : Has L p xs) : (L.drop p).take xs.length = xs := by
  apply List.ext_getElem?
  intro i
  by_cases hi : i < xs.length
  · have hx := List.getElem?_eq_getElem hi
    rw [List.getElem?_take_of_lt hi, List.getElem?_drop, h i _ hx, hx]
  · rw [List.getElem?_eq_none (by simp; omega), List.getElem?_eq_none (by omega)]
theorem Has.of_pre {L R : List UInt8} (h : R <+: L) {p : Nat} {xs ys zs : List UInt8} (hR : R = ys ++ xs ++ zs) (hp : ys.length = p) : Has L p xs := fun i b hb => by
  have hi := (List.getElem?_eq_some_iff.1 hb).1
  rw [by_pre h (by rw [hR]; simp; omega), hR, List.append_assoc, List.getElem?_append_right (by omega), hp, Nat.add_sub_cancel_left, List.getElem?_append_left hi]
  exact hb

/-- The bytes that a name adds. -/
theorem nmW_adds : ∀ (ls : List ByteArray) (bs : List UInt8) (pls : List (ByteArray × Nat)), ∃ xs, (nmW ls bs pls).1 = bs ++ xs := by
  intro ls
  induction ls with
  | nil => intro bs pls; exact ⟨[0], rfl⟩
  | cons l ls ih =>
    intro bs pls
    rw [nmW]
    split
    · exact ⟨_, rfl⟩
    · obtain ⟨xs, hx⟩ := ih (bs ++ (UInt8.ofNat l.size :: l.data.toList)) (if bs.length ≤ 16383 then pls ++ [(nmB (l :: ls), bs.length)] else pls)
      exact ⟨(UInt8.ofNat l.size :: l.data.toList) ++ xs, by rw [hx]; simp⟩

theorem seenS_is {pls : List (ByteArray × Nat)} {t : ByteArray} (h : 0 ≤ seenS pls t) : ∃ p ∈ pls, p.1 = t ∧ (p.2 : Int) = seenS pls t := by
  induction pls with
  | nil => simp [seenS] at h
  | cons p r ih =>
    rw [seenS] at h ⊢
    by_cases e : p.1 = t
    · exact ⟨p, List.mem_cons_self .., e, by rw [if_pos e]⟩
    · rw [if_neg e] at h ⊢
      obtain ⟨q, h1, h2, h3⟩ := ih h
      exact ⟨q, List.mem_cons_of_mem _ h1, h2, h3⟩

theorem put2_bytes (k : Nat) (hk : k ≤ 16383) : put2 (49152 + k) = [UInt8.ofNat (192 + k / 256), UInt8.ofNat (k % 256)] := by
  unfold put2
  congr 1
  · congr 1; omega
  · congr 2; omega

/-- The places while a name is written that began at 'a': older ones, or rests that are longer than what is left. -/
def Mid (L : List UInt8) (a n : Nat) (pls : List (ByteArray × Nat)) : Prop := ∀ p ∈ pls, (p.2 < a ∧ ∃ nxt, Dec L p.2 p.2 p.1 nxt) ∨ n < p.1.size

theorem nmW_dec (L : List UInt8) (a : Nat) : ∀ (ls : List ByteArray) (bs : List UInt8) (pls : List (ByteArray × Nat)), (∀ x ∈ ls, 1 ≤ x.size ∧ x.size ≤ 63) → a ≤ bs.length → PlOK pls bs.length → Mid L a (nmB ls).size pls →
    Has L a ((nmW ls bs pls).1.drop a) → ∀ st, a ≤ st → Dec L st bs.length (nmB ls) (nmW ls bs pls).1.length := by
  intro ls
  induction ls with
  | nil =>
    intro bs pls hx ha hok hmid hag st hst acc nx hacc
    have h0 : L[bs.length]? = some 0 := by
      have := hag (bs.length - a) 0 (by simp [nmW, List.getElem?_drop, show a + (bs.length - a) = bs.length by omega])
      rwa [show a + (bs.length - a) = bs.length by omega] at this
    have hlt := (List.getElem?_eq_some_iff.1 h0).1
    rw [dnF_root hlt (by rw [byAt_get h0]; rfl), nmB_data]
    simp [nmW]
    rfl
  | cons l ls ih =>
    intro bs pls hx ha hok hmid hag st hst acc nx hacc
    obtain ⟨x1, x2⟩ := hx l (List.mem_cons_self ..)
    have hsz := nmB_size (l :: ls)
    have hsz2 := nmB_size ls
    have hws : Nm.wsum (l :: ls) = 1 + l.size + Nm.wsum ls := by simp [Nm.wsum]
    rw [nmW] at hag ⊢
    by_cases hsn : 0 ≤ seenS pls (nmB (l :: ls))
    · rw [if_pos hsn] at hag ⊢
      obtain ⟨p, hp, hp1, hp2⟩ := seenS_is hsn
      obtain ⟨_, s2⟩ := seenS_lt hok (nmB (l :: ls))
      have hk : (seenS pls (nmB (l :: ls))).toNat = p.2 := by omega
      rw [hk] at hag ⊢
      have hk2 : p.2 ≤ 16383 := by omega
      rw [put2_bytes p.2 hk2] at hag ⊢
      rcases hmid p hp with ⟨hlt, nxt, hdec⟩ | hbig
      · have g0 : L[bs.length]? = some (UInt8.ofNat (192 + p.2 / 256)) := by
          have := hag (bs.length - a) _ (by rw [List.getElem?_drop, show a + (bs.length - a) = bs.length by omega, List.getElem?_append_right (Nat.le_refl _), Nat.sub_self]; rfl)
          rwa [show a + (bs.length - a) = bs.length by omega] at this
        have g1 : L[bs.length + 1]? = some (UInt8.ofNat (p.2 % 256)) := by
          have := hag (bs.length + 1 - a) _ (by rw [List.getElem?_drop, show a + (bs.length + 1 - a) = bs.length + 1 by omega, List.getElem?_append_right (by omega), show bs.length + 1 - bs.length = 1 by omega]; rfl)
          rwa [show a + (bs.length + 1 - a) = bs.length + 1 by omega] at this
        have e0 : byAt L bs.length = 192 + p.2 / 256 := by rw [byAt_get g0]; simp; omega
        have e1 : byAt L (bs.length + 1) = p.2 % 256 := by rw [byAt_get g1]; simp
        have hl1 := (List.getElem?_eq_some_iff.1 g1).1
        have e2 : (byAt L bs.length - 192) * 256 + byAt L (bs.length + 1) = p.2 := by rw [e0, e1]; omega
        rw [dnF_ptr (by omega) hl1 (by omega), e2, hdec acc _ (by rw [hp1]; exact hacc), hp1]
        simp
      · rw [hp1] at hbig
        omega
    · rw [if_neg hsn] at hag ⊢
      generalize hpl : (if bs.length ≤ 16383 then pls ++ [(nmB (l :: ls), bs.length)] else pls) = pls' at hag ⊢
      obtain ⟨xs, hxs⟩ := nmW_adds ls (bs ++ (UInt8.ofNat l.size :: l.data.toList)) pls'
      have hlab : Has L bs.length (UInt8.ofNat l.size :: l.data.toList) := by
        intro i b hb
        have hi := (List.getElem?_eq_some_iff.1 hb).1
        have := hag (bs.length - a + i) b (by
          rw [hxs, List.getElem?_drop, show a + (bs.length - a + i) = bs.length + i by omega, List.append_assoc, List.getElem?_append_right (by omega), Nat.add_sub_cancel_left, List.getElem?_append_left hi]
          exact hb)
        rwa [show a + (bs.length - a + i) = bs.length + i by omega] at this
      have g0 : byAt L bs.length = l.size := by
        have := hlab 0 _ rfl
        rw [Nat.add_zero] at this
        rw [byAt_get this]; simp; omega
      have hll : (UInt8.ofNat l.size :: l.data.toList).length = 1 + l.size := by simp; omega
      have hle := hlab.lt (by rw [hll]; omega)
      rw [hll] at hle
      have hok' : PlOK pls' (bs ++ (UInt8.ofNat l.size :: l.data.toList)).length := by
        rw [← hpl]
        split
        · rename_i hs
          exact (hok.put (p := (nmB (l :: ls), bs.length)) hs).mono (by simp)
        · exact hok.mono (by simp)
      have hmid' : Mid L a (nmB ls).size pls' := by
        intro p hp
        rw [← hpl] at hp
        have hold : p ∈ pls → (p.2 < a ∧ ∃ nxt, Dec L p.2 p.2 p.1 nxt) ∨ (nmB ls).size < p.1.size := fun hp => by
          rcases hmid p hp with h | h
          · exact .inl h
          · right; omega
        split at hp
        · rcases List.mem_append.1 hp with hp | hp
          · exact hold hp
          · simp at hp
            subst hp
            right
            show (nmB ls).size < (nmB (l :: ls)).size
            omega
        · exact hold hp
      rw [dnF_more (by omega) (by omega) (by omega) (by omega), g0, ← hll, hlab.cut, show bs.length + 1 + l.size = (bs ++ (UInt8.ofNat l.size :: l.data.toList)).length by rw [List.length_append, hll]; omega]
      rw [ih (bs ++ (UInt8.ofNat l.size :: l.data.toList)) pls' (fun x hx' => hx x (List.mem_cons_of_mem _ hx')) (by simp; omega) hok' hmid' hag st hst (acc ++ (UInt8.ofNat l.size :: l.data.toList)) nx (by rw [List.length_append, hll]; omega)]
      rw [nmB_data, nmB_data_cons]
      simp
end Go.Proofs.Ytihhchebcojplaa
/- Questions and records that were written are read again: mathematics. -/
namespace Go.Proofs.Ytihhchebcojplaa
open Go.RowKit
set_option linter.unusedVariables false

/-- A name from a state on: it is read, and the places are as they should be. -/
theorem nmX_dec {L : List UInt8} {x : ByteArray} {s : Wst} (hx : (Nm.split x).isSome = true) (hok : PlOK s.2 s.1.length) (hpl : PlD L s.2) (hlt : ∀ p ∈ s.2, p.2 < s.1.length) (hag : Has L s.1.length ((nmX x s).1.drop s.1.length)) :
    dnF L s.1.length s.1.length [] none = .ok x.data.toList (nmX x s).1.length ∧ PlD L (nmX x s).2 ∧ ∀ p ∈ (nmX x s).2, p.2 < (nmX x s).1.length := by
  obtain ⟨ls, hs⟩ := Option.isSome_iff_exists.1 hx
  rw [nmX_of hs] at hag ⊢
  have hxs := (Nm.split_join hs).2
  have hsz := Nm.split_size hs
  have hxe := nmB_split hs
  have hmid : Mid L s.1.length (nmB ls).size s.2 := fun p hp => .inl ⟨hlt p hp, hpl p hp⟩
  refine ⟨?_, ?_⟩
  · have := nmW_dec L s.1.length ls s.1 s.2 hxs (Nat.le_refl _) hok hmid hag s.1.length (Nat.le_refl _) [] none (by rw [hxe]; simp; omega)
    rw [this, hxe]
    rfl
  · -- the places that the name adds
    suffices H : ∀ (ls : List ByteArray) (bs : List UInt8) (pls : List (ByteArray × Nat)), (∀ x ∈ ls, 1 ≤ x.size ∧ x.size ≤ 63) → s.1.length ≤ bs.length → PlOK pls bs.length → Mid L s.1.length (nmB ls).size pls → Has L s.1.length ((nmW ls bs pls).1.drop s.1.length) → PlD L pls → (∀ p ∈ pls, p.2 < bs.length) → PlD L (nmW ls bs pls).2 ∧ ∀ p ∈ (nmW ls bs pls).2, p.2 < (nmW ls bs pls).1.length from
      H ls s.1 s.2 hxs (Nat.le_refl _) hok hmid hag hpl hlt
    intro ls
    induction ls with
    | nil =>
      intro bs pls h1 h2 h3 h4 h5 h6 h7
      refine ⟨h6, fun p hp => ?_⟩
      have := h7 p hp
      simp [nmW]
      omega
    | cons l ls ih =>
      intro bs pls h1 h2 h3 h4 h5 h6 h7
      have hD := nmW_dec L s.1.length (l :: ls) bs pls h1 h2 h3 h4 h5 bs.length h2
      rw [nmW] at h5 hD ⊢
      by_cases hsn : 0 ≤ seenS pls (nmB (l :: ls))
      · rw [if_pos hsn] at h5 ⊢
        refine ⟨h6, fun p hp => ?_⟩
        have := h7 p hp
        simp
        omega
      · rw [if_neg hsn] at h5 hD ⊢
        have hsz := nmB_size (l :: ls)
        have hsz2 := nmB_size ls
        have hws : Nm.wsum (l :: ls) = 1 + l.size + Nm.wsum ls := by simp [Nm.wsum]
        have hlen : bs.length < (bs ++ (UInt8.ofNat l.size :: l.data.toList)).length := by simp
        generalize hpl' : (if bs.length ≤ 16383 then pls ++ [(nmB (l :: ls), bs.length)] else pls) = pls' at h5 hD ⊢
        have hmem : ∀ p ∈ pls', p ∈ pls ∨ p = (nmB (l :: ls), bs.length) := by
          intro p hp
          rw [← hpl'] at hp
          split at hp
          · rcases List.mem_append.1 hp with hp | hp
            · exact .inl hp
            · right; simpa using hp
          · exact .inl hp
        refine ih _ pls' (fun x hx => h1 x (List.mem_cons_of_mem _ hx)) (by omega) ?_ ?_ h5 ?_ ?_
        · rw [← hpl']
          split
          · rename_i hs'
            exact (h3.put (p := (nmB (l :: ls), bs.length)) hs').mono (by simp)
          · exact h3.mono (by simp)
        · intro p hp
          rcases hmem p hp with hp | rfl
          · rcases h4 p hp with h | h
            · exact .inl h
            · right; omega
          · right
            show (nmB ls).size < (nmB (l :: ls)).size
            omega
        · intro p hp
          rcases hmem p hp with hp | rfl
          · exact h6 p hp
          · exact ⟨_, hD⟩
        · intro p hp
          rcases hmem p hp with hp | rfl
          · have := h7 p hp; omega
          · exact hlen

theorem n16_has {L : List UInt8} {p n : Nat} (h : Has L p (put2 n)) (hn : n < 65536) : n16 L p = n := by
  have hl : (put2 n).length = 2 := rfl
  have hc := h.cut
  rw [hl] at hc
  rw [n16, hc]
  simp [put2, numL]
  omega
theorem n32_has {L : List UInt8} {p : Nat} {n : Int} (h : Has L p (put4 n)) (h0 : 0 ≤ n) (h1 : n ≤ 4294967295) : (n32 L p : Int) = n := by
  have hl : (put4 n).length = 4 := rfl
  have hc := h.cut
  rw [hl] at hc
  rw [n32, cutL, hc]
  have a := byteI_val (n / 16777216)
  have b := byteI_val (n / 65536)
  have c := byteI_val (n / 256)
  have d := byteI_val n
  simp only [put4, numL, List.foldl_cons, List.foldl_nil]
  omega

def qmOf (q : Qr) : Qm := ⟨q.nm.data.toList, q.ty.toNat, q.cl.toNat⟩
def rmOf (r : Rr) : Rm := ⟨r.own.data.toList, r.ty.toNat, r.cl.toNat, r.tt.toNat, r.da.data.toList⟩
/-- What a state says: its places are as they should be. -/
structure StD (L : List UInt8) (s : Wst) : Prop where
  ok : PlOK s.2 s.1.length
  pl : PlD L s.2
  lt : ∀ p ∈ s.2, p.2 < s.1.length

theorem quS_dec {L : List UInt8} {q : Qr} {s : Wst} (h : quOK q = true) (hs : StD L s) (hpre : (qqW q s).1 <+: L) : quS L s.1.length = .ok (qmOf q) (qqW q s).1.length ∧ StD L (qqW q s) := by
  obtain ⟨h1, ⟨t, ht, htl⟩, ⟨c, hc, hcl⟩⟩ := qu_parts h
  obtain ⟨ls, hls⟩ := Option.isSome_iff_exists.1 h1
  obtain ⟨xs, hxs⟩ := nmW_adds ls s.1 s.2
  rw [← nmX_of hls s] at hxs
  have hag : Has L s.1.length ((nmX q.nm s).1.drop s.1.length) := by
    rw [hxs, List.drop_left' rfl]
    exact Has.of_pre hpre (ys := s.1) (zs := put2 q.ty.toNat ++ put2 q.cl.toNat) (by rw [qqW, hxs]) rfl
  obtain ⟨d1, d2, d3⟩ := nmX_dec h1 hs.ok hs.pl hs.lt hag
  have g1 : Has L (nmX q.nm s).1.length (put2 t) := Has.of_pre hpre (ys := (nmX q.nm s).1) (zs := put2 c) (by rw [qqW, ht, hc]; simp) rfl
  have g2 : Has L ((nmX q.nm s).1.length + 2) (put2 c) := Has.of_pre hpre (ys := (nmX q.nm s).1 ++ put2 t) (zs := []) (by rw [qqW, ht, hc]; simp) (by simp [put2])
  have hle := g2.lt (by simp [put2])
  have hl2 : (put2 c).length = 2 := rfl
  have hqz : (qqW q s).1.length = (nmX q.nm s).1.length + 4 := by simp [qqW, put2]
  refine ⟨?_, ?_⟩
  · rw [quS, d1]
    simp only
    rw [if_pos (by omega), n16_has g1 htl, n16_has g2 hcl, hqz, qmOf, ht, hc]
    rfl
  · refine ⟨qqW_ok q s hs.ok, d2, fun p hp => ?_⟩
    have := d3 p hp
    rw [hqz]
    omega
end Go.Proofs.Ytihhchebcojplaa
