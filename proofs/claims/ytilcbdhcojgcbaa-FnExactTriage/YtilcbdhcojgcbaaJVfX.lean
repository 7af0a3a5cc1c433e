import Derived.Test.YtilcbdhcojgcbaaJVfU
import Derived.Test.YtilcbdhcojgcbaaJSHm
import Derived.Test.YtilcbdhcojgcbaaJVfB
import Derived.Test.YtilcbdhcojgcbaaJSCheck
import Derived.Test.YtilcbdhcojgcbaaJSDe
/- spec.Verify by its contract: a last record that says no signature. -/
namespace Go.Proofs.Ytilcbdhcojgcbaa
open Go.RowKit
set_option linter.unusedVariables false

set_option maxRecDepth 100000 in
set_option maxHeartbeats 3200000 in
theorem specVerify_data (v vk : Value) (l : List UInt8) (ks : List (ByteArray × ByteArray)) (now : Int) (rq : ByteArray) (w : World) (h : BySl w v l) (hl : l.length ≤ 1048576) (hk : CRow w vk ks.length 2 (kyVs ks)) (hkx : ∀ x ∈ ks, x.1.size ≤ maxLen)
    (hC0 : (msO l).c = 0) (hlen : (msO l).m.an.length ≤ 400 ∧ (msO l).m.au.length ≤ 400 ∧ (msO l).m.ex.length ≤ 400) (h8 : ks.length ≤ 8) (hn : (decide (0 ≤ now) && decide (now ≤ 281474976710655)) = true) (hr : rq.size ≤ 32) (hst : strayB (msO l).m = false) (hgk : ks.all (fun p => keyB p.1 p.2) = true)
    (r : Rm) (n : Nat) (hx0 : (msO l).m.ex.length = n + 1) (hxr : (msO l).m.ex[n]? = some r) (hty : r.ty = 250) (hdl : r.dat.length ≤ 65535) (hdb : datB r = false) :
    Calls Try.prog 11 #[v, vk, .int .i64 now, .string rq] w (SPost vd0 w) := by
  have hn4 : n + 1 ≤ 400 := by have := hlen.2.2; omega
  have k0 := blk_alloc (blk_new w vdZ 44) (.cells vdF 44)
  have kf := blk_new (w.alloc (.cells vdZ 44)) vdF 44
  rw [World.size_alloc] at kf
  have hB0 := (Below.refl w.heap.size w).alloc (Nat.le_refl _) (.cells vdZ 44)
  have hB0 := hB0.alloc hB0.size (.cells vdF 44)
  have hde := l04Read_one v l _ (h.below hB0) (by omega)
  have hin := fun W => l04In_any now 281474976710655 W
  obtain ⟨av, cv, rfl⟩ : ∃ a c, v = .slice a l.length c := by obtain ⟨_, a, c, e, _⟩ := h; exact ⟨a, c, e⟩
  obtain ⟨ak, ck, rfl⟩ : ∃ a c, vk = .slice a ks.length c := by obtain ⟨_, a, c, e, _⟩ := hk; exact ⟨a, c, e⟩
  simp only [vdZ, vdF] at hde k0 kf hB0
  go_enter Try.func11, Try.ntmps11
  go_wp2_with fail
  refine hde.mono ?_
  rintro e w1 ⟨b1, q, x, y, z, nl, rfl, L1⟩
  obtain ⟨x1, y1, rfl⟩ := row_val L1.rq
  obtain ⟨x2, y2, rfl⟩ := row_val L1.ra
  obtain ⟨x3, y3, rfl⟩ := row_val L1.ru
  obtain ⟨x4, y4, rfl⟩ := row_val L1.rx
  have k1 := blk_below k0 b1
  have kf1 := blk_below kf b1
  have hB1 := Nm.below_two hB0 b1
  have hs1 : w.heap.size + 1 < w1.heap.size := blk_lt kf1
  clear hde k0 hB0 b1 kf
  obtain ⟨MS, eMS⟩ : ∃ M, M = msA (msO l).d (msO l).f (.slice x1 (msO l).m.qs.length y1) (.slice x2 (msO l).m.an.length y2) (.slice x3 (msO l).m.au.length y3) (.slice x4 (msO l).m.ex.length y4) := ⟨_, rfl⟩
  have hMz : MS.size = 15 := by rw [eMS]; rfl
  have hM1 : MS.all (·.oneCell') = true := by rw [eMS]; exact msA_one _ _ _ _ _ _ _ _ _ _ _ _ _ _
  have hMi : (Try.prog.info? 35).map (·.size) = some MS.size := by rw [hMz]; kernel_rfl
  have HMz := Nm.hide hMz
  have HMi := Nm.hide hMi
  have kA := blk_alloc k1 (.cells ms0 35)
  have kfA := blk_alloc kf1 (.cells ms0 35)
  have hBA := hB1.alloc hB1.size (.cells ms0 35)
  have hsA : w.heap.size ≤ (w1.alloc (.cells ms0 35)).heap.size := hBA.size
  simp only [ms0] at kA hBA hsA kfA
  rw [← eMS]
  clear hMz
  have hsv := fun W (hW : Below w1.heap.size w1 W) => l09Stray_any (msO l).d (msO l).f (msO l).m _ _ _ _ W (L1.rd.below hW) hlen
  rw [← eMS, hst] at hsv
  rw [hC0]
  rw [hn] at hin
  have h8' : ¬ (8 : Int) < (ks.length : Int) := by omega
  have h3' : ¬ (32 : Int) < (rq.size : Int) := by omega
  have HL1 := Nm.hide L1
  have HMS := Nm.hide eMS
  clear eMS L1 hlen hC0 hst hn hr
  go_wp2_with (first
    | (refine wpList_store_blk (.tmp 10) (.tmp 26) 35 rfl rfl rfl w1.heap.size _ _ (blk_new _ _ _) rfl rfl hMi (by rw [HMz.out]; rfl) hM1 ?_; intro w2 k2 o2; have k02 := o2.blk kA (by omega); have kf2 := o2.blk kfA (by omega); have hB2 := o2.below hBA (by omega) hsA; have b2 := o2.below ((Below.refl w1.heap.size w1).alloc (Nat.le_refl _) _) (Nat.le_refl _) (by rw [World.size_alloc]; omega); clear o2 kA kfA hBA hsA hMi hM1)
    | (go_at_call 18; refine (hin _).mono ?_; rintro e wf ⟨rfl, hw⟩; obtain rfl := hw.symm; clear hw)
    | (go_at_call 19; refine (hsv _ b2).mono ?_; rintro e w3 ⟨rfl, b3⟩; have hS3 : VKt w w3 w1.heap.size MS (msO l).m (.slice x1 (msO l).m.qs.length y1) (.slice x2 (msO l).m.an.length y2) (.slice x3 (msO l).m.au.length y3) (.slice x4 (msO l).m.ex.length y4) := ⟨blk_below k02 b3, blk_below kf2 b3, blk_below k2 b3, HL1.out.rd.below (Nm.below_two b2 b3), Nm.below_two hB2 b3⟩; clear k02 kf2 hB2 b2 b3 k2 hsv)
    | (refine wpList_load_want (.tmp 10) 35 (by first | rfl | (simp [Region.wanted, yielded]; omega)) rfl w1.heap.size _ _ k2 rfl Try.underlying35 rfl HMi.out ?_))
  go_loopw [13] (fun i wr => ∃ k : Nat, k ≤ ks.length ∧ i = .int .i64 k ∧ VKt w wr w1.heap.size MS (msO l).m (.slice x1 (msO l).m.qs.length y1) (.slice x2 (msO l).m.an.length y2) (.slice x3 (msO l).m.au.length y3) (.slice x4 (msO l).m.ex.length y4)) (fun i _ => ks.length - (intOf i).toNat)
  case atStart => exact ⟨0, Nat.zero_le _, rfl, hS3⟩
  case round =>
    clear hS3
    obtain ⟨k, hkl, rfl, hS⟩ := hrel
    by_cases hlt : k < ks.length
    · obtain ⟨x, hxk⟩ : ∃ x, ks[k]? = some x := ⟨_, List.getElem?_eq_getElem hlt⟩
      obtain ⟨_, a', c', e', hcap, hmx, hcc⟩ := hk
      cases e'
      obtain ⟨b, off, rfl, hcell⟩ := hcc (by omega)
      have put : ∀ {O : Nat} {z : Value}, w.cell? ⟨b, O, none⟩ = some z → wr.cell? ⟨b, O, none⟩ = some z := fun h => (hS.be.cell (World.block_lt_of_cell? w _ h)).trans h
      have c0 : wr.cell? ⟨b, off + k * 2, none⟩ = some (.string x.1) := put (hcell _ _ (kyVs_at ks k 0 x hxk (by decide)))
      have c1 : wr.cell? ⟨b, off + k * 2 + 1, none⟩ = some (.string x.2) := put (hcell _ _ (kyVs_at ks k 1 x hxk (by decide)))
      have hmem := List.mem_of_getElem? hxk
      have i1 : (0 : Int) ≤ (k : Int) := by omega
      have i2 : (k : Int) < (ks.length : Int) := by omega
      have hone := fun W => l09KeyOK_any x.1 x.2 W (hkx x hmem)
      have hok : keyB x.1 x.2 = true := by
        rw [List.all_eq_true] at hgk
        exact hgk x hmem
      rw [hok] at hone
      clear hok hmem hxk hcell hcc put hgk
      obtain ⟨y1', y2'⟩ := x
      simp only at *
      go_wp2_with fail
      refine (hone _).mono ?_
      rintro e w4 ⟨rfl, b4⟩
      have hS4 := hS.below b4
      clear hS b4 c0 c1
      go_wp2
      go_roundw
      case rel => exact ⟨k + 1, by omega, by go_num, hS4⟩
      case measure => simp [intOf]; omega
    · have hkl2 : k = ks.length := by omega
      subst hkl2
      have i2 : ¬ (ks.length : Int) < (ks.length : Int) := by omega
      have hAl := (Below.refl wr.heap.size wr).alloc (Nat.le_refl _) (.cells #[.int .i64 0, .bool false, .int .i64 (-1), .string ⟨#[]⟩, .slice none 0 0] 44)
      have hS1 := hS.below hAl
      have kV := blk_new wr #[.int .i64 0, .bool false, .int .i64 (-1), .string ⟨#[]⟩, .slice none 0 0] 44
      have cM := (blk_cell hS1.kM 14).trans (by rw [HMS.out]; rfl : MS[14]? = some (.slice x4 (msO l).m.ex.length y4))
      rw [hx0] at cM
      obtain ⟨_, a', c', e', hcap, hmx, hcc⟩ := hS1.rd.rx
      cases e'
      obtain ⟨b, off, rfl, hcell⟩ := hcc (by omega)
      have t1 := hcell _ _ (rrCs_at _ n 1 r hxr (by decide))
      have t0 : (wr.alloc (.cells #[.int .i64 0, .bool false, .int .i64 (-1), .string ⟨#[]⟩, .slice none 0 0] 44)).cell? ⟨b, off + n * 5, none⟩ = some (.string ⟨r.owner.toArray⟩) := hcell _ _ (rrCs_at _ n 0 r hxr (by decide))
      have t2 : (wr.alloc (.cells #[.int .i64 0, .bool false, .int .i64 (-1), .string ⟨#[]⟩, .slice none 0 0] 44)).cell? ⟨b, off + n * 5 + 2, none⟩ = some (.int .i64 (r.cl : Int)) := hcell _ _ (rrCs_at _ n 2 r hxr (by decide))
      have t3 : (wr.alloc (.cells #[.int .i64 0, .bool false, .int .i64 (-1), .string ⟨#[]⟩, .slice none 0 0] 44)).cell? ⟨b, off + n * 5 + 3, none⟩ = some (.int .i64 (r.ttl : Int)) := hcell _ _ (rrCs_at _ n 3 r hxr (by decide))
      have t4 : (wr.alloc (.cells #[.int .i64 0, .bool false, .int .i64 (-1), .string ⟨#[]⟩, .slice none 0 0] 44)).cell? ⟨b, off + n * 5 + 4, none⟩ = some (.string ⟨r.dat.toArray⟩) := hcell _ _ (rrCs_at _ n 4 r hxr (by decide))
      have t1 : (wr.alloc (.cells #[.int .i64 0, .bool false, .int .i64 (-1), .string ⟨#[]⟩, .slice none 0 0] 44)).cell? ⟨b, off + n * 5 + 1, none⟩ = some (.int .i64 (r.ty : Int)) := t1
      have hwI : IntKind.i64.wrap (((n + 1 : Nat) : Int) - 1) = (n : Int) := by rw [Go.wrap_small _ (by omega) (by omega)]; omega
      have j1 : (0 : Int) ≤ (n : Int) := by omega
      have j2 : (n : Int) < ((n + 1 : Nat) : Int) := by omega
      have j3 : (((n + 1 : Nat) : Int) == 0) = false := by simp; omega
      have j4 : (r.ty : Int) = 250 := by omega
      generalize eN : n + 1 = N at *
      have HN := Nm.hide eN
      have HTY := Nm.hide hty
      clear eN hty hx0 hxr hcell hcc
      have hda := fun W => l09Data_any r W hdl
      rw [j4] at t1 hda
      generalize (⟨r.owner.toArray⟩ : ByteArray) = OW at *
      generalize (⟨r.dat.toArray⟩ : ByteArray) = DA at *
      have hAl2 := (Below.refl _ (wr.alloc (.cells #[.int .i64 0, .bool false, .int .i64 (-1), .string ⟨#[]⟩, .slice none 0 0] 44))).alloc (Nat.le_refl _) (.cells #[.string OW, .int .i64 250, .int .i64 (r.cl : Int), .int .i64 (r.ttl : Int), .string DA] 56)
      have hS2 := hS1.below hAl2
      have HS2 := Nm.hide hS2
      clear h hk hS hS1 hAl kV hkx hgk j4 hAl2 hS2
      go_wp2_with fail
      refine (hda _).mono ?_
      rintro e w5 ⟨hdv, b5⟩
      have hS5 := HS2.out.below b5
      clear b5 t0 t1 t2 t3 t4 cM hda
      rcases hdv with ⟨_, rfl⟩ | ⟨hd2, _⟩
      · go_wp2_with (first
          | (refine wpList_load_blk (.tmp 9) 44 rfl rfl (w.heap.size + 1) _ _ hS5.kf rfl Try.underlying44 rfl (by kernel_rfl) ?_)
          | (refine wpList_store_blk (.tmp 8) (.tmp 101) 44 rfl rfl rfl w.heap.size _ _ hS5.k8 rfl rfl (by kernel_rfl) rfl (by kernel_rfl) ?_; intro w6 k6 o6))
        exact vq_back k6 (o6.below hS5.be (Nat.le_refl _) hS5.be.size) rfl rfl rfl (CRow.of_owns (World.ownsRow_nil _ w.heap.size 5 _))
      · rw [hdb] at hd2
        cases hd2
end Go.Proofs.Ytilcbdhcojgcbaa
/- spec.Sign by its contract. -/
namespace Go.Proofs.Ytilcbdhcojgcbaa
open Go.RowKit
set_option linter.unusedVariables false

/-- what is asked of Sign's arguments -/
def sgOK (m : List UInt8) (kn sc rq : ByteArray) (now : Int) : Bool := decide (12 ≤ m.length) && keyB kn sc && (decide (0 ≤ now) && decide (now ≤ 281474976710655)) && decide (rq.size ≤ 32)
def sgOut (m : List UInt8) (kn sc rq : ByteArray) (now : Int) : List UInt8 := signL m kn.data.toList (Nm.foldS kn).data.toList sc.data.toList rq.data.toList now.toNat
def sgCode (m : List UInt8) (kn sc rq : ByteArray) (now : Int) : Int :=
  if sgOK m kn sc rq now = true then (if ctN m = 65535 then 12 else if 65535 < m.length + kn.size + 71 then 11 else 0) else 32
def sgRes (m : List UInt8) (kn sc rq : ByteArray) (now : Int) : List UInt8 := if sgCode m kn sc rq now = 0 then sgOut m kn sc rq now else []

theorem ext_eq (m : List UInt8) (MM : ByteArray) (h : MM = ⟨m.toArray⟩) (a b : Nat) : MM.extract a b = ⟨((m.drop a).take (b - a)).toArray⟩ := by
  subst h
  apply ByteArray.ext
  apply Array.ext'
  simp [ByteArray.data_extract]
theorem nil_by (w : World) : BySl w (.slice none 0 0) [] := ⟨rfl, none, 0, rfl, Nat.le_refl _, by decide, fun h => by simp at h⟩
theorem key_name {kn sc : ByteArray} (h : keyB kn sc = true) : kn.size ≤ 255 ∧ (Nm.foldS kn).size ≤ 255 ∧ 1 ≤ sc.size ∧ sc.size ≤ 64 := by
  simp only [keyB, Bool.and_eq_true, decide_eq_true_eq] at h
  obtain ⟨h1, h2, h3⟩ := h
  cases hq : Nm.split kn with
  | none => rw [hq] at h1; cases h1
  | some ls =>
    have hz := (Nm.split_size hq).2
    refine ⟨hz, ?_, h2, h3⟩
    rw [Nm.foldS_some hq, Nm.small_size]
    exact hz

theorem sign_len {m nm nf sc rq : List UInt8} {t : Nat} (h : 12 ≤ m.length) : (signL m nm nf sc rq t).length = m.length + nm.length + 71 := by
  rw [signL, List.length_append, rec_len (dat_len (show (sumL sc rq m nf t 300).length = 32 from hmac_len _ _))]
  simp [big_len]
  omega

end Go.Proofs.Ytilcbdhcojgcbaa
/- impl.Verify by its contract: a message that is signed. -/
namespace Go.Proofs.Ytilcbdhcojgcbaa
open Go.RowKit
set_option linter.unusedVariables false

/-- How the world is while a key is looked for. -/
structure VSt (w wr : World) (gS gV : Nat) (S V : Array Value) (u : Value) (body : List UInt8) : Prop where
  k8 : Blk wr w.heap.size vdZ 44
  kS : Blk wr gS S 73
  kV : Blk wr gV V 44
  own : wr.ownsRow w.heap.size 5 1 u body.length (Nm.bys body)
  be : Below w.heap.size w wr
theorem VSt.below {w wr W : World} {gS gV : Nat} {S V : Array Value} {u : Value} {body : List UInt8} (h : VSt w wr gS gV S V u body) (hb : Below wr.heap.size wr W) : VSt w W gS gV S V u body :=
  ⟨blk_below h.k8 hb, blk_below h.kS hb, blk_below h.kV hb, own_below h.own hb, Nm.below_two h.be hb⟩

theorem VSt.set {w wr : World} {gS gV : Nat} {S V : Array Value} {u : Value} {body : List UInt8} (h : VSt w wr gS gV S V u body) (hgS : gS ≠ gV) (hg8 : w.heap.size < gV) (i : Nat) (x : Value) : VSt w (wr.setCell ⟨gV, i, none⟩ x) gS gV S (V.setIfInBounds i x) u body :=
  ⟨blk_far h.k8 (by omega), blk_far h.kS hgS, blk_set h.kV i x, own_far h.own (own_notblk h.own h.kV (by decide)), (Only.refl gV wr).set.below h.be (by omega) h.be.size⟩
theorem keyAt_no {ks : List (ByteArray × ByteArray)} {O : ByteArray} (h : ∀ j x, j < ks.length → ks[j]? = some x → sameS x.1 O = false) : keyAt ks O = none := by
  rw [keyAt, List.findIdx?_eq_none_iff]
  intro x hx
  obtain ⟨j, hj, e⟩ := List.getElem_of_mem hx
  exact h j x hj (by rw [List.getElem?_eq_getElem hj, e])
theorem keyAt_at {ks : List (ByteArray × ByteArray)} {O : ByteArray} {k : Nat} {x : ByteArray × ByteArray} (h : ∀ j x, j < k → ks[j]? = some x → sameS x.1 O = false) (hx : ks[k]? = some x) (hs : sameS x.1 O = true) : keyAt ks O = some k := by
  rw [keyAt, List.findIdx?_eq_some_iff_getElem]
  obtain ⟨hk, e⟩ := List.getElem?_eq_some_iff.1 hx
  refine ⟨hk, by rw [e]; exact hs, fun j hj => ?_⟩
  have := h j _ hj (List.getElem?_eq_getElem (by omega))
  simp [this]

theorem numL_six {l : List UInt8} (h : l.length ≤ 6) : numL l ≤ 281474976710655 := by
  have h1 := numL_lt l
  have h2 : 256 ^ l.length ≤ 256 ^ 6 := Nat.pow_le_pow_right (by decide) h
  omega

end Go.Proofs.Ytilcbdhcojgcbaa
/- impl.Verify by its contract. -/
namespace Go.Proofs.Ytilcbdhcojgcbaa
open Go.RowKit
set_option linter.unusedVariables false

theorem manyS_any {α : Type} (f : Nat → Rs α) : ∀ (n p : Nat) (a : List α) {ys : List α} {q : Nat}, manyS f n p a = .ok ys q → ∃ zs, ys = a ++ zs ∧ ∀ b, manyS f n p b = .ok (b ++ zs) q := by
  intro n
  induction n with
  | zero =>
    intro p a ys q h
    rw [manyS] at h
    cases h
    exact ⟨[], by simp, fun b => by rw [manyS]; simp⟩
  | succ n ih =>
    intro p a ys q h
    rw [manyS] at h
    cases hf : f p using Rs.elim with
    | bad c => rw [hf] at h; cases h
    | ok y r =>
      rw [hf] at h
      obtain ⟨zs, e1, e2⟩ := ih _ _ h
      refine ⟨y :: zs, by rw [e1]; simp, fun b => ?_⟩
      rw [manyS, hf]
      simp only
      rw [e2]
      simp
theorem manyS_cat {α : Type} (f : Nat → Rs α) : ∀ (n k p : Nat) (acc : List α) {ys zs : List α} {q e : Nat}, manyS f n p acc = .ok ys q → manyS f k q [] = .ok zs e → manyS f (n + k) p acc = .ok (ys ++ zs) e := by
  intro n
  induction n with
  | zero =>
    intro k p acc ys zs q e h h2
    rw [manyS] at h
    cases h
    obtain ⟨zs', e1, e2⟩ := manyS_any f _ _ _ h2
    rw [Nat.zero_add, e2, e1]
    simp
  | succ n ih =>
    intro k p acc ys zs q e h h2
    rw [manyS] at h
    rw [Nat.succ_add, manyS]
    cases hf : f p using Rs.elim with
    | bad c => rw [hf] at h; cases h
    | ok y r =>
      rw [hf] at h
      exact ih _ _ _ h h2
theorem manyS_front {α : Type} (f : Nat → Rs α) : ∀ (n p : Nat) (acc : List α) {ys : List α} {q : Nat}, manyS f (n + 1) p acc = .ok ys q → ∃ xs q', manyS f n p acc = .ok xs q' := by
  intro n
  induction n with
  | zero => intro p acc ys q h; exact ⟨acc, p, by rw [manyS]⟩
  | succ n ih =>
    intro p acc ys q h
    rw [manyS] at h
    cases hf : f p using Rs.elim with
    | bad c => rw [hf] at h; cases h
    | ok y r =>
      rw [hf] at h
      obtain ⟨xs, q', e⟩ := ih _ _ h
      refine ⟨xs, q', ?_⟩
      rw [manyS, hf]
      exact e
theorem manyS_all {α : Type} {f : Nat → Rs α} {P : α → Prop} (hf : ∀ p x e, f p = .ok x e → P x) : ∀ (n p : Nat) (acc : List α) {xs : List α} {e : Nat}, (∀ x ∈ acc, P x) → manyS f n p acc = .ok xs e → ∀ x ∈ xs, P x := by
  intro n
  induction n with
  | zero => intro p acc xs e ha h; rw [manyS] at h; cases h; exact ha
  | succ n ih =>
    intro p acc xs e ha h
    rw [manyS] at h
    cases hq : f p using Rs.elim with
    | bad c => rw [hq] at h; cases h
    | ok y r =>
      rw [hq] at h
      refine ih _ _ ?_ h
      intro x hx
      rcases List.mem_append.1 hx with h1 | h1
      · exact ha x h1
      · rw [List.mem_singleton] at h1
        subst h1
        exact hf _ _ _ hq
theorem rrS_owner {l : List UInt8} {p q : Nat} {r : Rm} (h : rrS l p = .ok r q) : r.owner.length ≤ 255 := by
  rw [rrS] at h
  cases hd : dnF l p p [] none using Rs.elim with
  | bad c => rw [hd] at h; cases h
  | ok s nx =>
    have hz := dnF_size2 l p p [] none (by simp) s nx hd
    rw [hd] at h
    simp only at h
    split at h
    · split at h
      · split at h
        · cases h
        · cases h; exact hz
      · cases h
    · cases h
/-- Where the last record begins, and how long its owner is at most. -/
theorem last_rec {l : List UInt8} {m : Mm} {p : Nat} (h : msgS l = .ok m p) : (∀ r ∈ m.ex, r.owner.length ≤ 255) ∧ (0 < m.ex.length → ∃ (qs : List Qm) (P1 : Nat) (xs : List Rm), manyS (quS l) (n16 l 4) 12 [] = .ok qs P1 ∧ manyS (rrS l) (n16 l 6 + n16 l 8 + n16 l 10 - 1) P1 [] = .ok xs (lastP l)) := by
  have hls := msgS_lens h
  rw [msgS] at h
  split at h
  · cases h
  split at h
  · cases h
  split at h
  · cases h
  rw [listsS] at h
  cases h1 : manyS (quS l) (n16 l 4) 12 [] using Rs.elim with
  | bad c => rw [h1] at h; cases h
  | ok qs p1 =>
    rw [h1] at h
    simp only at h
    cases h2 : manyS (rrS l) (n16 l 6) p1 [] using Rs.elim with
    | bad c => rw [h2] at h; cases h
    | ok an p2 =>
      rw [h2] at h
      simp only at h
      cases h3 : manyS (rrS l) (n16 l 8) p2 [] using Rs.elim with
      | bad c => rw [h3] at h; cases h
      | ok au p3 =>
        rw [h3] at h
        simp only at h
        cases h4 : manyS (rrS l) (n16 l 10) p3 [] using Rs.elim with
        | bad c => rw [h4] at h; cases h
        | ok ex p4 =>
          rw [h4] at h
          simp only at h
          split at h
          · cases h
          · cases h
            refine ⟨manyS_all (fun p x e hx => rrS_owner hx) _ _ _ (by simp) h4, fun hpos => ?_⟩
            have hall := manyS_cat _ _ _ _ _ (manyS_cat _ _ _ _ _ h2 h3) h4
            have hn : 0 < n16 l 10 := by have := hls.2.2.1; omega
            obtain ⟨t, ht⟩ : ∃ t, n16 l 6 + n16 l 8 + n16 l 10 = t + 1 := ⟨n16 l 6 + n16 l 8 + n16 l 10 - 1, by omega⟩
            rw [ht] at hall
            obtain ⟨xs, q, hx⟩ := manyS_front _ _ _ _ hall
            have ht2 : n16 l 6 + n16 l 8 + n16 l 10 - 1 = t := by omega
            refine ⟨qs, p1, xs, rfl, ?_⟩
            have : lastP l = q := by rw [lastP, h1]; simp only; rw [ht2, hx]
            rw [this, ht2]
            exact hx

theorem dat_61 {r : Rm} (h : datB r = true) : r.dat.length = 61 := by
  simp only [datB, Bool.and_eq_true, decide_eq_true_eq] at h
  exact h.2.2.1

end Go.Proofs.Ytilcbdhcojgcbaa
/- The model's reading of a message with a last record: where that begins; what the model's sum is. -/
namespace Go.Proofs.Ytilcbdhcojgcbaa
open Go.RowKit
set_option linter.unusedVariables false

theorem l04Read_last (v : Value) (l : List UInt8) (w : World) (h : BySl w v l) (hl : l.length ≤ 100000000) (hC0 : (msO l).c = 0) (hx : 0 < (msO l).m.ex.length) : Calls Try.prog 15 #[v] w fun e w' => Below w.heap.size w w' ∧
    ∃ q x y z, e = .returned (.tuple #[.agg (msA (msO l).d (msO l).f q x y z), .int .i64 (lastP l : Int), .int .i64 (msO l).c]) ∧ Lists w' w.heap.size (msO l).m q x y z := by
  refine (l04Read_any v l w h hl).mono ?_
  rintro e w' ⟨hb, ⟨m, p, q, x, y, z, n, hm, rfl, hL, hla⟩ | ⟨c, n, hm, rfl⟩⟩
  · have hO : msO l = ⟨n16 l 0, n16 l 2, m, 0⟩ := by rw [msO, hm]
    rw [hO] at hx ⊢
    obtain ⟨rfl, _⟩ := last_is hm hla hx
    exact ⟨hb, q, x, y, z, rfl, hL⟩
  · exfalso
    rw [msO, hm] at hC0
    exact code_bad hm hC0

/-- The model's sum is the program's. -/
theorem sum_is {sc rq body nf d : List UInt8} (hd : d.length = 61) : hmacL sc (rqL rq ++ body ++ nf ++ [0, 255, 0, 0, 0, 0] ++ algL ++ (d.drop 13).take 6 ++ (d.drop 19).take 2 ++ [0, 0, 0, 0]) = sumL sc rq body nf (sT d) (sF d) := by
  rw [sumL, textL, sT, sF, big_numN (by simp; omega), big_numN (by simp; omega)]
  congr 1
  have e1 : bigL 255 2 = [0, 255] := by decide
  have e2 : bigL 0 4 = [0, 0, 0, 0] := by decide
  rw [e1, e2, rqL]
  simp [List.append_assoc]
end Go.Proofs.Ytilcbdhcojgcbaa
