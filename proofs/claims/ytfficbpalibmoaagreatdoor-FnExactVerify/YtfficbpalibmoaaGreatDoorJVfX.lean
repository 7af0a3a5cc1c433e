import Derived.Test.YtfficbpalibmoaaGreatDoorJVfT
import Derived.Test.YtfficbpalibmoaaGreatDoorJSPt
import Derived.Test.YtfficbpalibmoaaGreatDoorJSCheck
import Derived.Test.YtfficbpalibmoaaGreatDoorJCmp
/- spec.Verify by its contract: a last record that says no signature. -/
namespace Go.Proofs.YtfficbpalibmoaaGreatDoor
open Go.RowKit
set_option linter.unusedVariables false

set_option maxRecDepth 100000 in
set_option maxHeartbeats 3200000 in
theorem specVerify_data (v vk : Value) (l : List UInt8) (ks : List (ByteArray × ByteArray)) (now : Int) (rq : ByteArray) (w : World) (h : BySl w v l) (hl : l.length ≤ 1048576) (hk : CRow w vk ks.length 2 (kyVs ks)) (hkx : ∀ x ∈ ks, x.1.size ≤ maxLen)
    (hC0 : (msO l).c = 0) (hlen : (msO l).m.an.length ≤ 400 ∧ (msO l).m.au.length ≤ 400 ∧ (msO l).m.ex.length ≤ 400) (h8 : ks.length ≤ 8) (hn : (decide (0 ≤ now) && decide (now ≤ 281474976710655)) = true) (hr : rq.size ≤ 32) (hst : strayB (msO l).m = false) (hgk : ks.all (fun p => keyB p.1 p.2) = true)
    (r : Rm) (n : Nat) (hx0 : (msO l).m.ex.length = n + 1) (hxr : (msO l).m.ex[n]? = some r) (hty : r.ty = 250) (hdl : r.dat.length ≤ 65535) (hdb : datB r = false) :
    Calls Tryz.prog 5 #[v, vk, .int .i64 now, .string rq] w (SPost vd0 w) := by
  have hn4 : n + 1 ≤ 400 := by have := hlen.2.2; omega
  have k0 := blk_alloc (blk_new w vdZ 26) (.cells vdF 26)
  have kf := blk_new (w.alloc (.cells vdZ 26)) vdF 26
  rw [World.size_alloc] at kf
  have hB0 := (Below.refl w.heap.size w).alloc (Nat.le_refl _) (.cells vdZ 26)
  have hB0 := hB0.alloc hB0.size (.cells vdF 26)
  have hde := l04Read_one v l _ (h.below hB0) (by omega)
  have hin := fun W => l04In_any now 281474976710655 W
  obtain ⟨av, cv, rfl⟩ : ∃ a c, v = .slice a l.length c := by obtain ⟨_, a, c, e, _⟩ := h; exact ⟨a, c, e⟩
  obtain ⟨ak, ck, rfl⟩ : ∃ a c, vk = .slice a ks.length c := by obtain ⟨_, a, c, e, _⟩ := hk; exact ⟨a, c, e⟩
  simp only [vdZ, vdF] at hde k0 kf hB0
  go_enter Tryz.func5, Tryz.ntmps5
  go_wp2_with fail
  refine hde.mono ?_
  rintro e w1 ⟨b1, q, x, y, z, nl, rfl, L1⟩
  obtain ⟨x1, y1, rfl⟩ := row_val L1.rq
  obtain ⟨x2, y2, rfl⟩ := row_val L1.ra
  obtain ⟨x3, y3, rfl⟩ := row_val L1.ru
  obtain ⟨x4, y4, rfl⟩ := row_val L1.rx
  have k1 := blk_below k0 b1
  have kf1 := blk_below kf b1
  have hB1 := Nm.below_two hB0 b1
  have hs1 : w.heap.size + 1 < w1.heap.size := blk_lt kf1
  clear hde k0 hB0 b1 kf
  obtain ⟨MS, eMS⟩ : ∃ M, M = msA (msO l).d (msO l).f (.slice x1 (msO l).m.qs.length y1) (.slice x2 (msO l).m.an.length y2) (.slice x3 (msO l).m.au.length y3) (.slice x4 (msO l).m.ex.length y4) := ⟨_, rfl⟩
  have hMz : MS.size = 15 := by rw [eMS]; rfl
  have hM1 : MS.all (·.oneCell') = true := by rw [eMS]; exact msA_one _ _ _ _ _ _ _ _ _ _ _ _ _ _
  have hMi : (Tryz.prog.info? 46).map (·.size) = some MS.size := by rw [hMz]; kernel_rfl
  have HMz := Nm.hide hMz
  have HMi := Nm.hide hMi
  have kA := blk_alloc k1 (.cells ms0 46)
  have kfA := blk_alloc kf1 (.cells ms0 46)
  have hBA := hB1.alloc hB1.size (.cells ms0 46)
  have hsA : w.heap.size ≤ (w1.alloc (.cells ms0 46)).heap.size := hBA.size
  simp only [ms0] at kA hBA hsA kfA
  rw [← eMS]
  clear hMz
  have hsv := fun W (hW : Below w1.heap.size w1 W) => l09Stray_any (msO l).d (msO l).f (msO l).m _ _ _ _ W (L1.rd.below hW) hlen
  rw [← eMS, hst] at hsv
  rw [hC0]
  rw [hn] at hin
  have h8' : ¬ (8 : Int) < (ks.length : Int) := by omega
  have h3' : ¬ (32 : Int) < (rq.size : Int) := by omega
  have HL1 := Nm.hide L1
  have HMS := Nm.hide eMS
  clear eMS L1 hlen hC0 hst hn hr
  go_wp2_with (first
    | (refine wpList_store_blk (.tmp 10) (.tmp 26) 46 rfl rfl rfl w1.heap.size _ _ (blk_new _ _ _) rfl rfl hMi (by rw [HMz.out]; rfl) hM1 ?_; intro w2 k2 o2; have k02 := o2.blk kA (by omega); have kf2 := o2.blk kfA (by omega); have hB2 := o2.below hBA (by omega) hsA; have b2 := o2.below ((Below.refl w1.heap.size w1).alloc (Nat.le_refl _) _) (Nat.le_refl _) (by rw [World.size_alloc]; omega); clear o2 kA kfA hBA hsA hMi hM1)
    | (go_at_call 18; refine (hin _).mono ?_; rintro e wf ⟨rfl, hw⟩; obtain rfl := hw.symm; clear hw)
    | (go_at_call 19; refine (hsv _ b2).mono ?_; rintro e w3 ⟨rfl, b3⟩; have hS3 : VKt w w3 w1.heap.size MS (msO l).m (.slice x1 (msO l).m.qs.length y1) (.slice x2 (msO l).m.an.length y2) (.slice x3 (msO l).m.au.length y3) (.slice x4 (msO l).m.ex.length y4) := ⟨blk_below k02 b3, blk_below kf2 b3, blk_below k2 b3, HL1.out.rd.below (Nm.below_two b2 b3), Nm.below_two hB2 b3⟩; clear k02 kf2 hB2 b2 b3 k2 hsv)
    | (refine wpList_load_want (.tmp 10) 46 (by first | rfl | (simp [Region.wanted, yielded]; omega)) rfl w1.heap.size _ _ k2 rfl Tryz.underlying46 rfl HMi.out ?_))
  go_loopw [13] (fun i wr => ∃ k : Nat, k ≤ ks.length ∧ i = .int .i64 k ∧ VKt w wr w1.heap.size MS (msO l).m (.slice x1 (msO l).m.qs.length y1) (.slice x2 (msO l).m.an.length y2) (.slice x3 (msO l).m.au.length y3) (.slice x4 (msO l).m.ex.length y4)) (fun i _ => ks.length - (intOf i).toNat)
  case atStart => exact ⟨0, Nat.zero_le _, rfl, hS3⟩
  case round =>
    clear hS3
    obtain ⟨k, hkl, rfl, hS⟩ := hrel
    by_cases hlt : k < ks.length
    · obtain ⟨x, hxk⟩ : ∃ x, ks[k]? = some x := ⟨_, List.getElem?_eq_getElem hlt⟩
      obtain ⟨_, a', c', e', hcap, hmx, hcc⟩ := hk
      cases e'
      obtain ⟨b, off, rfl, hcell⟩ := hcc (by omega)
      have put : ∀ {O : Nat} {z : Value}, w.cell? ⟨b, O, none⟩ = some z → wr.cell? ⟨b, O, none⟩ = some z := fun h => (hS.be.cell (World.block_lt_of_cell? w _ h)).trans h
      have c0 : wr.cell? ⟨b, off + k * 2, none⟩ = some (.string x.1) := put (hcell _ _ (kyVs_at ks k 0 x hxk (by decide)))
      have c1 : wr.cell? ⟨b, off + k * 2 + 1, none⟩ = some (.string x.2) := put (hcell _ _ (kyVs_at ks k 1 x hxk (by decide)))
      have hmem := List.mem_of_getElem? hxk
      have i1 : (0 : Int) ≤ (k : Int) := by omega
      have i2 : (k : Int) < (ks.length : Int) := by omega
      have hone := fun W => l09KeyOK_any x.1 x.2 W (hkx x hmem)
      have hok : keyB x.1 x.2 = true := by
        rw [List.all_eq_true] at hgk
        exact hgk x hmem
      rw [hok] at hone
      clear hok hmem hxk hcell hcc put hgk
      obtain ⟨y1', y2'⟩ := x
      simp only at *
      go_wp2_with fail
      refine (hone _).mono ?_
      rintro e w4 ⟨rfl, b4⟩
      have hS4 := hS.below b4
      clear hS b4 c0 c1
      go_wp2
      go_roundw
      case rel => exact ⟨k + 1, by omega, by go_num, hS4⟩
      case measure => simp [intOf]; omega
    · have hkl2 : k = ks.length := by omega
      subst hkl2
      have i2 : ¬ (ks.length : Int) < (ks.length : Int) := by omega
      have hAl := (Below.refl wr.heap.size wr).alloc (Nat.le_refl _) (.cells #[.int .i64 0, .bool false, .int .i64 (-1), .string ⟨#[]⟩, .slice none 0 0] 26)
      have hS1 := hS.below hAl
      have kV := blk_new wr #[.int .i64 0, .bool false, .int .i64 (-1), .string ⟨#[]⟩, .slice none 0 0] 26
      have cM := (blk_cell hS1.kM 14).trans (by rw [HMS.out]; rfl : MS[14]? = some (.slice x4 (msO l).m.ex.length y4))
      rw [hx0] at cM
      obtain ⟨_, a', c', e', hcap, hmx, hcc⟩ := hS1.rd.rx
      cases e'
      obtain ⟨b, off, rfl, hcell⟩ := hcc (by omega)
      have t1 := hcell _ _ (rrCs_at _ n 1 r hxr (by decide))
      have t0 : (wr.alloc (.cells #[.int .i64 0, .bool false, .int .i64 (-1), .string ⟨#[]⟩, .slice none 0 0] 26)).cell? ⟨b, off + n * 5, none⟩ = some (.string ⟨r.owner.toArray⟩) := hcell _ _ (rrCs_at _ n 0 r hxr (by decide))
      have t2 : (wr.alloc (.cells #[.int .i64 0, .bool false, .int .i64 (-1), .string ⟨#[]⟩, .slice none 0 0] 26)).cell? ⟨b, off + n * 5 + 2, none⟩ = some (.int .i64 (r.cl : Int)) := hcell _ _ (rrCs_at _ n 2 r hxr (by decide))
      have t3 : (wr.alloc (.cells #[.int .i64 0, .bool false, .int .i64 (-1), .string ⟨#[]⟩, .slice none 0 0] 26)).cell? ⟨b, off + n * 5 + 3, none⟩ = some (.int .i64 (r.ttl : Int)) := hcell _ _ (rrCs_at _ n 3 r hxr (by decide))
      have t4 : (wr.alloc (.cells #[.int .i64 0, .bool false, .int .i64 (-1), .string ⟨#[]⟩, .slice none 0 0] 26)).cell? ⟨b, off + n * 5 + 4, none⟩ = some (.string ⟨r.dat.toArray⟩) := hcell _ _ (rrCs_at _ n 4 r hxr (by decide))
      have t1 : (wr.alloc (.cells #[.int .i64 0, .bool false, .int .i64 (-1), .string ⟨#[]⟩, .slice none 0 0] 26)).cell? ⟨b, off + n * 5 + 1, none⟩ = some (.int .i64 (r.ty : Int)) := t1
      have hwI : IntKind.i64.wrap (((n + 1 : Nat) : Int) - 1) = (n : Int) := by rw [Go.wrap_small _ (by omega) (by omega)]; omega
      have j1 : (0 : Int) ≤ (n : Int) := by omega
      have j2 : (n : Int) < ((n + 1 : Nat) : Int) := by omega
      have j3 : (((n + 1 : Nat) : Int) == 0) = false := by simp; omega
      have j4 : (r.ty : Int) = 250 := by omega
      generalize eN : n + 1 = N at *
      have HN := Nm.hide eN
      have HTY := Nm.hide hty
      clear eN hty hx0 hxr hcell hcc
      have hda := fun W => l09Data_any r W hdl
      rw [j4] at t1 hda
      generalize (⟨r.owner.toArray⟩ : ByteArray) = OW at *
      generalize (⟨r.dat.toArray⟩ : ByteArray) = DA at *
      have hAl2 := (Below.refl _ (wr.alloc (.cells #[.int .i64 0, .bool false, .int .i64 (-1), .string ⟨#[]⟩, .slice none 0 0] 26))).alloc (Nat.le_refl _) (.cells #[.string OW, .int .i64 250, .int .i64 (r.cl : Int), .int .i64 (r.ttl : Int), .string DA] 54)
      have hS2 := hS1.below hAl2
      have HS2 := Nm.hide hS2
      clear h hk hS hS1 hAl kV hkx hgk j4 hAl2 hS2
      go_wp2_with fail
      refine (hda _).mono ?_
      rintro e w5 ⟨hdv, b5⟩
      have hS5 := HS2.out.below b5
      clear b5 t0 t1 t2 t3 t4 cM hda
      rcases hdv with ⟨_, rfl⟩ | ⟨hd2, _⟩
      · go_wp2_with (first
          | (refine wpList_load_blk (.tmp 9) 26 rfl rfl (w.heap.size + 1) _ _ hS5.kf rfl Tryz.underlying26 rfl (by kernel_rfl) ?_)
          | (refine wpList_store_blk (.tmp 8) (.tmp 101) 26 rfl rfl rfl w.heap.size _ _ hS5.k8 rfl rfl (by kernel_rfl) rfl (by kernel_rfl) ?_; intro w6 k6 o6))
        exact vq_back k6 (o6.below hS5.be (Nat.le_refl _) hS5.be.size) rfl rfl rfl (CRow.of_owns (World.ownsRow_nil _ w.heap.size 5 _))
      · rw [hdb] at hd2
        cases hd2
end Go.Proofs.YtfficbpalibmoaaGreatDoor
/- spec.Sign by its contract. -/
namespace Go.Proofs.YtfficbpalibmoaaGreatDoor
open Go.RowKit
set_option linter.unusedVariables false

/-- what is asked of Sign's arguments -/
def sgOK (m : List UInt8) (kn sc rq : ByteArray) (now : Int) : Bool := decide (12 ≤ m.length) && keyB kn sc && (decide (0 ≤ now) && decide (now ≤ 281474976710655)) && decide (rq.size ≤ 32)
def sgOut (m : List UInt8) (kn sc rq : ByteArray) (now : Int) : List UInt8 := signL m kn.data.toList (Nm.foldS kn).data.toList sc.data.toList rq.data.toList now.toNat
def sgCode (m : List UInt8) (kn sc rq : ByteArray) (now : Int) : Int :=
  if sgOK m kn sc rq now = true then (if ctN m = 65535 then 12 else if 65535 < m.length + kn.size + 71 then 11 else 0) else 32
def sgRes (m : List UInt8) (kn sc rq : ByteArray) (now : Int) : List UInt8 := if sgCode m kn sc rq now = 0 then sgOut m kn sc rq now else []

theorem ext_eq (m : List UInt8) (MM : ByteArray) (h : MM = ⟨m.toArray⟩) (a b : Nat) : MM.extract a b = ⟨((m.drop a).take (b - a)).toArray⟩ := by
  subst h
  apply ByteArray.ext
  apply Array.ext'
  simp [ByteArray.data_extract]
theorem nil_by (w : World) : BySl w (.slice none 0 0) [] := ⟨rfl, none, 0, rfl, Nat.le_refl _, by decide, fun h => by simp at h⟩
theorem key_name {kn sc : ByteArray} (h : keyB kn sc = true) : kn.size ≤ 255 ∧ (Nm.foldS kn).size ≤ 255 ∧ 1 ≤ sc.size ∧ sc.size ≤ 64 := by
  simp only [keyB, Bool.and_eq_true, decide_eq_true_eq] at h
  obtain ⟨h1, h2, h3⟩ := h
  cases hq : Nm.split kn with
  | none => rw [hq] at h1; cases h1
  | some ls =>
    have hz := (Nm.split_size hq).2
    refine ⟨hz, ?_, h2, h3⟩
    rw [Nm.foldS_some hq, Nm.small_size]
    exact hz

theorem sign_len {m nm nf sc rq : List UInt8} {t : Nat} (h : 12 ≤ m.length) : (signL m nm nf sc rq t).length = m.length + nm.length + 71 := by
  rw [signL, List.length_append, rec_len (dat_len (show (sumL sc rq m nf t 300).length = 32 from hmac_len _ _))]
  simp [big_len]
  omega

end Go.Proofs.YtfficbpalibmoaaGreatDoor
/- impl.Verify by its contract: a message that is signed. -/
namespace Go.Proofs.YtfficbpalibmoaaGreatDoor
open Go.RowKit
set_option linter.unusedVariables false

/-- How the world is while a key is looked for. -/
structure VSt (w wr : World) (gS gV : Nat) (S V : Array Value) (u : Value) (body : List UInt8) : Prop where
  k8 : Blk wr w.heap.size vdZ 26
  kS : Blk wr gS S 68
  kV : Blk wr gV V 26
  own : wr.ownsRow w.heap.size 5 1 u body.length (Nm.bys body)
  be : Below w.heap.size w wr
theorem VSt.below {w wr W : World} {gS gV : Nat} {S V : Array Value} {u : Value} {body : List UInt8} (h : VSt w wr gS gV S V u body) (hb : Below wr.heap.size wr W) : VSt w W gS gV S V u body :=
  ⟨blk_below h.k8 hb, blk_below h.kS hb, blk_below h.kV hb, own_below h.own hb, Nm.below_two h.be hb⟩

theorem VSt.set {w wr : World} {gS gV : Nat} {S V : Array Value} {u : Value} {body : List UInt8} (h : VSt w wr gS gV S V u body) (hgS : gS ≠ gV) (hg8 : w.heap.size < gV) (i : Nat) (x : Value) : VSt w (wr.setCell ⟨gV, i, none⟩ x) gS gV S (V.setIfInBounds i x) u body :=
  ⟨blk_far h.k8 (by omega), blk_far h.kS hgS, blk_set h.kV i x, own_far h.own (own_notblk h.own h.kV (by decide)), (Only.refl gV wr).set.below h.be (by omega) h.be.size⟩
theorem keyAt_no {ks : List (ByteArray × ByteArray)} {O : ByteArray} (h : ∀ j x, j < ks.length → ks[j]? = some x → sameS x.1 O = false) : keyAt ks O = none := by
  rw [keyAt, List.findIdx?_eq_none_iff]
  intro x hx
  obtain ⟨j, hj, e⟩ := List.getElem_of_mem hx
  exact h j x hj (by rw [List.getElem?_eq_getElem hj, e])
theorem keyAt_at {ks : List (ByteArray × ByteArray)} {O : ByteArray} {k : Nat} {x : ByteArray × ByteArray} (h : ∀ j x, j < k → ks[j]? = some x → sameS x.1 O = false) (hx : ks[k]? = some x) (hs : sameS x.1 O = true) : keyAt ks O = some k := by
  rw [keyAt, List.findIdx?_eq_some_iff_getElem]
  obtain ⟨hk, e⟩ := List.getElem?_eq_some_iff.1 hx
  refine ⟨hk, by rw [e]; exact hs, fun j hj => ?_⟩
  have := h j _ hj (List.getElem?_eq_getElem (by omega))
  simp [this]

theorem numL_six {l : List UInt8} (h : l.length ≤ 6) : numL l ≤ 281474976710655 := by
  have h1 := numL_lt l
  have h2 : 256 ^ l.length ≤ 256 ^ 6 := Nat.pow_le_pow_right (by decide) h
  omega

set_option maxRecDepth 100000 in
set_option maxHeartbeats 3200000 in
theorem implVerify_signed (v vk : Value) (l : List UInt8) (ks : List (ByteArray × ByteArray)) (now : Int) (rq : ByteArray) (w : World) (h : BySl w v l) (hl : l.length ≤ 1048576) (hk : CRow w vk ks.length 2 (kyVs ks)) (hkx : ∀ x ∈ ks, x.1.size ≤ maxLen)
    (hC0 : (msO l).c = 0) (hpre : vPre ks now rq = true) (hlen : (msO l).m.an.length ≤ 400 ∧ (msO l).m.au.length ≤ 400 ∧ (msO l).m.ex.length ≤ 400) (r : Rm) (hfV : fsV (msO l).m = (sgR r, true, 0))
    (hdl : r.dat.length = 61) (hol : r.owner.length ≤ 1048576) (hl12 : 12 ≤ l.length) (hl2 : l.length ≤ 65535) (qs : List Qm) (P1 : Nat) (xs : List Rm) (q : Nat)
    (hq : manyS (quS l) (n16 l 4) 12 [] = .ok qs P1) (hr : manyS (rrS l) (n16 l 6 + n16 l 8 + n16 l 10 - 1) P1 [] = .ok xs q) (hc : 1 ≤ n16 l 10) (hcs : n16 l 4 + n16 l 6 + n16 l 8 + n16 l 10 ≤ 400)
    (hF : ∃ t fr, w.heap[0]? = some (.cells (hvA H0) t fr)) (hK : KAt w 1) :
    Calls Tryz.prog 8 #[v, vk, .int .i64 now, .string rq] w (VPost (vdS ks r (bodyL l r (n16 l 10) q) now rq) w) := by
  have hsl : (sS r.dat).length = 32 := by simp [sS]; omega
  have hT : sT r.dat ≤ 281474976710655 := numL_six (by simp; omega)
  have hFu : sF r.dat ≤ 65535 := by have := num_two (l := (r.dat.drop 19).take 2) (by simp; omega); unfold sF; omega
  have hI : sI r.dat ≤ 65535 := by have := num_two (l := (r.dat.drop 55).take 2) (by simp; omega); unfold sI; omega
  have hinS := sgI_info (sgR r) (sgA_size hsl)
  have honS : (sgR r).all (·.oneCell') = true := sgA_one _ _ _ _ _
  have HSX : Hid ((sgR r).size = 36) := sgA_size hsl
  have HinS := Nm.hide hinS
  obtain ⟨SG, eSG⟩ : ∃ S, S = sgR r := ⟨_, rfl⟩
  obtain ⟨O, eO⟩ : ∃ O : ByteArray, O = ⟨r.owner.toArray⟩ := ⟨_, rfl⟩
  have hO : O.size ≤ maxLen := by rw [eO, ba_size]; unfold maxLen; omega
  have hsR : sgR r = sgA O (sT r.dat) (sF r.dat) (sS r.dat) (sI r.dat) := by rw [eO]; rfl
  have hun0 := fun W (av : Option Addr) (cv : Nat) (hW : BySl W (.slice av l.length cv) l) => unsigned_any O (sT r.dat) (sF r.dat) (sI r.dat) (sS r.dat) av l cv W hI hsl hW hl12 hl2 qs P1 xs q hq hr hc hcs
  rw [unsL_body hdl rfl, ← hsR, ← eSG] at hun0
  obtain ⟨BO, eBO⟩ : ∃ B, B = bodyL l r (n16 l 10) q := ⟨_, rfl⟩
  rw [← eBO] at hun0 ⊢
  have HBL : Hid (12 ≤ q → q ≤ l.length → BO.length = q) := by
    show _ → _
    intro h1 h2
    rw [eBO, ← unsL_body hdl rfl]
    exact unsL_len h1 h2
  rw [← eSG] at hfV hinS honS HSX HinS hsR
  obtain ⟨SS, eSS⟩ : ∃ S : ByteArray, S = ⟨(sS r.dat).toArray⟩ := ⟨_, rfl⟩
  have hstr : ∀ W g, Blk W g SG 68 → (convert 22 9 (.slice (some ⟨g, 3, none⟩) 32 32)).run Tryz.prog W = .ok (.string SS) W := fun W g hW => by
    rw [hsR] at hW
    rw [eSS]
    exact sum_str hW hsl
  have hc0 : SG[0]? = some (.string O) := by rw [hsR]; exact sgA_0
  have HX := Nm.hide (And.intro hsl (And.intro hT (And.intro hFu (And.intro hsR (And.intro eSS eO)))))
  clear hsl hT hFu hI hq hr hc hcs hsR eSS eO eSG hdl hol eBO
  have k0 := blk_new w vdZ 26
  have hB0 := (Below.refl w.heap.size w).alloc (Nat.le_refl _) (.cells vdZ 26)
  have hde := implDecode_wideO v l _ (h.below hB0) (by omega)
  have hvk := fun W (hW : Below w.heap.size w W) => validKeys_any vk ks W (hk.below hW) hkx
  have hin := fun W => within_any now 281474976710655 W
  obtain ⟨av, cv, rfl⟩ : ∃ a c, v = .slice a l.length c := by obtain ⟨_, a, c, e, _⟩ := h; exact ⟨a, c, e⟩
  obtain ⟨ak, ck, rfl⟩ : ∃ a c, vk = .slice a ks.length c := by obtain ⟨_, a, c, e, _⟩ := hk; exact ⟨a, c, e⟩
  unfold DecPost at hde
  simp only [vdZ] at hde k0 hB0
  go_enter Tryz.func8, Tryz.ntmps8
  go_wp2_with fail
  refine hde.mono ?_
  rintro e w1 ⟨b1, q, x, y, z, rfl, L1⟩
  obtain ⟨x1, y1, rfl⟩ := row_val L1.rq
  obtain ⟨x2, y2, rfl⟩ := row_val L1.ra
  obtain ⟨x3, y3, rfl⟩ := row_val L1.ru
  obtain ⟨x4, y4, rfl⟩ := row_val L1.rx
  have k1 := blk_below k0 b1
  have hB1 := Nm.below_two hB0 b1
  have hs1 : w.heap.size < w1.heap.size := by have := b1.size; rw [World.size_alloc] at this; omega
  clear hde k0 hB0 b1
  obtain ⟨MS, eMS⟩ : ∃ M, M = msA (msO l).d (msO l).f (.slice x1 (msO l).m.qs.length y1) (.slice x2 (msO l).m.an.length y2) (.slice x3 (msO l).m.au.length y3) (.slice x4 (msO l).m.ex.length y4) := ⟨_, rfl⟩
  have hMz : MS.size = 15 := by rw [eMS]; rfl
  have hM1 : MS.all (·.oneCell') = true := by rw [eMS]; exact msA_one _ _ _ _ _ _ _ _ _ _ _ _ _ _
  have hMi : (Tryz.prog.info? 46).map (·.size) = some MS.size := by rw [hMz]; kernel_rfl
  have HMz := Nm.hide hMz
  have kA := blk_alloc k1 (.cells ms0 46)
  have hBA := hB1.alloc hB1.size (.cells ms0 46)
  have hsA : w.heap.size ≤ (w1.alloc (.cells ms0 46)).heap.size := hBA.size
  simp only [ms0] at kA hBA hsA
  rw [← eMS]
  clear hMz
  simp only [vPre, Bool.and_eq_true, decide_eq_true_eq] at hpre
  have hA : (ks.all (fun p => keyB p.1 p.2) && decide (ks.length ≤ 8)) = true := by rw [hpre.2.2.2.2, decide_eq_true hpre.1]; rfl
  have hN : (decide (0 ≤ now) && decide (now ≤ 281474976710655)) = true := by rw [decide_eq_true hpre.2.1, decide_eq_true hpre.2.2.1]; rfl
  rw [hA] at hvk
  rw [hN] at hin
  have hrq : ¬ (32 : Int) < (rq.size : Int) := by have := hpre.2.2.2.1; omega
  have hfs := fun W (hW : Below w1.heap.size w1 W) => findSig_any (msO l).d (msO l).f (msO l).m _ _ _ _ W (L1.rd.below hW) hlen
  rw [← eMS, hfV] at hfs
  rw [hC0]
  have hz36 : ∀ W, (zeroValue 68).run Tryz.prog W = .ok (.agg sg0) W := by
    have := zero_of_info (P := Tryz.prog) (t := 68) (v := .agg sg0) (n := 36) (by kernel_rfl)
    exact this.1
  have HS0 := Nm.hide sg0_size
  generalize sg0 = S0 at *
  have HPRE := Nm.hide hpre
  have HL1 := Nm.hide L1
  clear hpre hA hN hfV hlen hC0 L1 eMS
  go_wp2_with (first
    | (refine wpList_store_blk (.tmp 9) (.tmp 20) 46 rfl rfl rfl w1.heap.size _ _ (blk_new _ _ _) rfl rfl hMi (by rw [HMz.out]; rfl) hM1 ?_; intro w2 k2 o2; have k02 := o2.blk kA (by omega); have hB2 := o2.below hBA (by omega) hsA; have hvk2 := hvk _ hB2; have b2 := o2.below ((Below.refl w1.heap.size w1).alloc (Nat.le_refl _) _) (Nat.le_refl _) (by rw [World.size_alloc]; omega); clear o2 hvk kA hBA hsA hM1)
    | (go_at_call 28; refine hvk2.mono ?_; rintro e w3 ⟨rfl, b3⟩; have hB3 := Nm.below_two hB2 b3; have k03 := blk_below k02 b3; have k3 := blk_below k2 b3; have hfs3 := hfs _ (Nm.below_two b2 b3); clear hB2 k02 b3 hvk2 k2 hfs b2)
    | (go_at_call 29; refine (hin _).mono ?_; rintro e wf ⟨rfl, hw⟩; obtain rfl := hw.symm; clear hw hin)
    | (refine wpList_load_blk (.tmp 9) 46 rfl rfl w1.heap.size _ _ k3 rfl Tryz.underlying46 rfl hMi ?_))
  refine hfs3.mono ?_
  rintro e w4 ⟨rfl, b4⟩
  have hB4 := Nm.below_two hB3 b4
  have k04 := blk_below k03 b4
  have k5A := blk_alloc k04 (.cells S0 68)
  have hB5A := hB4.alloc hB4.size (.cells S0 68)
  have hs4 : w.heap.size < w4.heap.size := blk_lt k04
  have hs5A : w.heap.size ≤ (w4.alloc (.cells S0 68)).heap.size := hB5A.size
  clear hfs3 b4 hB3 k03 k3 hMi k04
  have hun := fun W (hW : Below w.heap.size w W) => hun0 W av cv (h.below hW)
  clear hun0 HL1 h
  go_wp2_with (first
    | (refine wpList_store_blk (.tmp 11) (.tmp 43) 68 rfl rfl rfl w4.heap.size _ _ (blk_new _ _ _) rfl rfl hinS (HS0.out.trans HSX.out.symm) honS ?_; intro w5 k5 o5; have k05 := o5.blk k5A (by omega); have hB5 := o5.below hB5A (by omega) hs5A; clear o5 k5A hB5A hs5A hinS honS)
    | (refine wpList_load_blk (.tmp 11) 68 rfl rfl w4.heap.size _ _ k5 rfl Tryz.underlying68 rfl HinS.out ?_))
  refine (hun _ hB5).mono ?_
  rintro e w6 ⟨u, rfl, own6, hq12, hql, b6⟩
  have hB6 := Nm.below_two hB5 b6
  have k6 := blk_below k5 b6
  have k06 := blk_below k05 b6
  have own6' := own_base own6 hB5.size
  have hst := hstr _ _ k6
  obtain ⟨xb, yb, rfl⟩ := own_sl own6'
  have hA7 : Below w6.heap.size w6 (w6.alloc (.cells #[.int .i64 29, .bool true, .int .i64 (-1), .string SS, .slice xb BO.length yb] 26)) := (Below.refl _ _).alloc (Nat.le_refl _) _
  have hV7 : VSt w _ w4.heap.size w6.heap.size SG #[.int .i64 29, .bool true, .int .i64 (-1), .string SS, .slice xb BO.length yb] (.slice xb BO.length yb) BO := ⟨blk_below k06 hA7, blk_below k6 hA7, blk_new _ _ _, own_below own6' hA7, Nm.below_two hB6 hA7⟩
  have hs6 : w.heap.size < w6.heap.size := blk_lt k06
  have hg46 : w4.heap.size < w6.heap.size := blk_lt k6
  have HBO : Hid (0 < BO.length ∧ BO.length ≤ 1000000) := by
    show _ ∧ _
    rw [HBL.out hq12 hql]
    omega
  clear b6 hun own6 k5 k05 hB5 hstr k6 k06 own6' hA7 hB6
  go_wp2_with fail
  go_loopw [65] (fun i wr => ∃ k : Nat, k ≤ ks.length ∧ i = .int .i64 k ∧ Hid (∀ j x, j < k → ks[j]? = some x → sameS x.1 O = false) ∧ VSt w wr w4.heap.size w6.heap.size SG #[.int .i64 29, .bool true, .int .i64 (-1), .string SS, .slice xb BO.length yb] (.slice xb BO.length yb) BO) (fun i _ => ks.length - (intOf i).toNat)
  case atStart => exact ⟨0, Nat.zero_le _, rfl, by show ∀ _, _; intro j x hj; omega, hV7⟩
  case round =>
    clear hV7 hst
    obtain ⟨k, hkl, rfl, HA, hV⟩ := hrel
    by_cases hlt : k < ks.length
    · obtain ⟨x, hxk⟩ : ∃ x, ks[k]? = some x := ⟨_, List.getElem?_eq_getElem hlt⟩
      obtain ⟨_, a', c', e', hcap, hmx, hcc⟩ := hk
      cases e'
      obtain ⟨b, off, rfl, hcell⟩ := hcc (by omega)
      have put : ∀ {O : Nat} {z : Value}, w.cell? ⟨b, O, none⟩ = some z → wr.cell? ⟨b, O, none⟩ = some z := fun h => (hV.be.cell (World.block_lt_of_cell? w _ h)).trans h
      have c0 : wr.cell? ⟨b, off + k * 2, none⟩ = some (.string x.1) := put (hcell _ _ (kyVs_at ks k 0 x hxk (by decide)))
      have c1 : wr.cell? ⟨b, off + k * 2 + 1, none⟩ = some (.string x.2) := put (hcell _ _ (kyVs_at ks k 1 x hxk (by decide)))
      have hmem := List.mem_of_getElem? hxk
      have HLT := Nm.hide hlt
      have hk8 := HPRE.out.1
      have i1 : (0 : Int) ≤ (k : Int) := by omega
      have i2 : (k : Int) < (ks.length : Int) := by omega
      have hB0 := (Below.refl wr.heap.size wr).alloc (Nat.le_refl _) (.cells #[.string x.1, .string x.2] 52)
      have hV1 := hV.below hB0
      have kK1 := blk_new wr #[.string x.1, .string x.2] 52
      have o0 := (blk_cell hV1.kS 0).trans hc0
      have hsm := fun W => implSameName_any x.1 O W (hkx x hmem) hO
      have hkey : keyB x.1 x.2 = true := by
        have := HPRE.out.2.2.2.2
        rw [List.all_eq_true] at this
        exact this x hmem
      obtain ⟨hkz, hfz, hs1', hs64⟩ := key_name hkey
      obtain ⟨T, hT⟩ : ∃ T : Nat, now = (T : Int) := ⟨now.toNat, by have := HPRE.out.2.1; omega⟩
      subst hT
      have hTb : T ≤ 281474976710655 := by have := HPRE.out.2.2.1; omega
      have hrq32 := HPRE.out.2.2.2.1
      have hBO : 0 < BO.length ∧ BO.length ≤ 1000000 := HBO.out
      have hck := fun W (hW : VSt w W w4.heap.size w6.heap.size SG #[.int .i64 29, .bool true, .int .i64 (-1), .string SS, .slice xb BO.length yb] (.slice xb BO.length yb) BO) => check_any O x.1 x.2 rq (sT r.dat) (sF r.dat) (sI r.dat) T (sS r.dat) BO (.slice xb BO.length yb) W HX.out.1 HX.out.2.1 HX.out.2.2.1 hTb (CRow.of_owns hW.own) hBO.1 hBO.2 (by unfold maxLen; omega) (by omega) (by omega) (by omega) (by
        obtain ⟨t0, fr, h0⟩ := hF
        exact ⟨t0, fr, (hW.be.block _ (Array.getElem?_eq_some_iff.1 h0).1).trans h0⟩) (hK.below hW.be)
      obtain ⟨CD, eCD⟩ : ∃ C, C = codeV x BO r.dat (T : Int) rq := ⟨_, rfl⟩
      rw [← HX.out.2.2.2.1] at hck
      have hcd2 : (if sumL x.2.data.toList rq.data.toList BO (Nm.foldS x.1).data.toList (sT r.dat) (sF r.dat) = sS r.dat then (if lateB (sT r.dat) (sF r.dat) T then (31 : Int) else 0) else 30) = CD := by rw [eCD, codeV]; rfl
      rw [hcd2] at hck
      cases hok : sameS x.1 O with
      | false =>
        have HA2 : Hid (∀ j x, j < k + 1 → ks[j]? = some x → sameS x.1 O = false) := by
          show ∀ _, _
          intro j y hj hy
          rcases Nat.lt_or_ge j k with h1 | h1
          · exact HA.out j y h1 hy
          · obtain rfl : j = k := by omega
            rw [hxk] at hy
            cases hy
            exact hok
        rw [hok] at hsm
        clear hok hmem hxk hcell hcc hck eCD hcd2 hkey hkz hfz hs1' hs64 hTb hrq32 hBO put
        obtain ⟨y1', y2'⟩ := x
        simp only at *
        go_wp2_with fail
        refine (hsm _).mono ?_
        rintro e w8 ⟨rfl, b8⟩
        have hV8 := hV1.below b8
        clear hV1 hV o0 c0 c1 kK1 hsm b8
        go_wp2
        go_roundw
        case rel => exact ⟨k + 1, by have := HLT.out; omega, by go_num, HA2, hV8⟩
        case measure => have := HLT.out; simp [intOf]; omega
      | true =>
        have HVD : Hid (vdS ks r BO (T : Int) rq = ⟨CD, true, (k : Int), sS r.dat, BO⟩) := by
          show _ = _
          rw [vdS, ← HX.out.2.2.2.2.2, keyAt_at HA.out hxk hok]
          simp only
          rw [List.getD_eq_getElem?_getD, hxk, eCD]
          rfl
        rw [hok] at hsm
        clear hok hmem hxk hcell hcc eCD hcd2 hkey hkz hfz hs1' hs64 hTb hrq32 hBO put
        obtain ⟨y1', y2'⟩ := x
        simp only at *
        go_wp2_with fail
        refine (hsm _).mono ?_
        rintro e w8 ⟨rfl, b8⟩
        have hV8 := hV1.below b8
        have kK8 := blk_below kK1 b8
        have hck8 := hck _ hV8
        clear hV1 hV o0 c0 c1 kK1 hsm b8 hck
        go_wp2_with (first
          | (refine wpList_load_blk (.tmp 11) 68 rfl rfl w4.heap.size _ _ hV8.kS rfl Tryz.underlying68 rfl HinS.out ?_)
          | (refine wpList_load_blk (.tmp 16) 52 rfl rfl wr.heap.size _ _ kK8 rfl Tryz.underlying52 rfl (by kernel_rfl) ?_))
        refine hck8.mono ?_
        rintro e w9 ⟨rfl, b9⟩
        have hV9 := hV8.below b9
        have rV := fun i => blk_cell hV9.kV i
        have fV := fun i => blk_frozen hV9.kV i
        have hV11 := (hV9.set (by omega) hs6 0 (.int .i64 CD)).set (by omega) hs6 2 (.int .i64 (k : Int))
        simp only [List.setIfInBounds_toArray, List.set_cons_zero, List.set_cons_succ] at hV11
        clear hV8 kK8 hck8 b9 hV9
        go_wp2_with ((first | (refine wpList_load_blk (.tmp 14) 26 rfl rfl w6.heap.size _ _ (hV11).kV rfl Tryz.underlying26 rfl (by kernel_rfl) ?_) | (refine wpList_store_blk (.tmp 8) (.tmp 85) 26 rfl rfl rfl w.heap.size _ _ (hV11).k8 rfl rfl (by kernel_rfl) rfl (by kernel_rfl) ?_; intro wz kz oz)))
        rw [HVD.out]
        exact vd_back kz (oz.below hV11.be (Nat.le_refl _) hV11.be.size) rfl rfl (by rw [HX.out.2.2.2.2.1]; rfl) (own_only hV11.own oz (own_notblk hV11.own hV11.k8 (by decide)))
    · have hkl2 : k = ks.length := by omega
      subst hkl2
      have HVD : Hid (vdS ks r BO now rq = ⟨29, true, -1, sS r.dat, BO⟩) := by
        show _ = _
        rw [vdS, ← HX.out.2.2.2.2.2, keyAt_no HA.out]
      have i2 : ¬ (ks.length : Int) < (ks.length : Int) := by omega
      clear hk
      go_wp2_with ((first | (refine wpList_load_blk (.tmp 14) 26 rfl rfl w6.heap.size _ _ (hV).kV rfl Tryz.underlying26 rfl (by kernel_rfl) ?_) | (refine wpList_store_blk (.tmp 8) (.tmp 85) 26 rfl rfl rfl w.heap.size _ _ (hV).k8 rfl rfl (by kernel_rfl) rfl (by kernel_rfl) ?_; intro wz kz oz)))
      rw [HVD.out]
      exact vd_back kz (oz.below hV.be (Nat.le_refl _) hV.be.size) rfl rfl (by rw [HX.out.2.2.2.2.1]; rfl) (own_only hV.own oz (own_notblk hV.own hV.k8 (by decide)))
end Go.Proofs.YtfficbpalibmoaaGreatDoor
/- impl.Verify by its contract. -/
namespace Go.Proofs.YtfficbpalibmoaaGreatDoor
open Go.RowKit
set_option linter.unusedVariables false

theorem manyS_any {α : Type} (f : Nat → Rs α) : ∀ (n p : Nat) (a : List α) {ys : List α} {q : Nat}, manyS f n p a = .ok ys q → ∃ zs, ys = a ++ zs ∧ ∀ b, manyS f n p b = .ok (b ++ zs) q := by
  intro n
  induction n with
  | zero =>
    intro p a ys q h
    rw [manyS] at h
    cases h
    exact ⟨[], by simp, fun b => by rw [manyS]; simp⟩
  | succ n ih =>
    intro p a ys q h
    rw [manyS] at h
    cases hf : f p using Rs.elim with
    | bad c => rw [hf] at h; cases h
    | ok y r =>
      rw [hf] at h
      obtain ⟨zs, e1, e2⟩ := ih _ _ h
      refine ⟨y :: zs, by rw [e1]; simp, fun b => ?_⟩
      rw [manyS, hf]
      simp only
      rw [e2]
      simp
theorem manyS_cat {α : Type} (f : Nat → Rs α) : ∀ (n k p : Nat) (acc : List α) {ys zs : List α} {q e : Nat}, manyS f n p acc = .ok ys q → manyS f k q [] = .ok zs e → manyS f (n + k) p acc = .ok (ys ++ zs) e := by
  intro n
  induction n with
  | zero =>
    intro k p acc ys zs q e h h2
    rw [manyS] at h
    cases h
    obtain ⟨zs', e1, e2⟩ := manyS_any f _ _ _ h2
    rw [Nat.zero_add, e2, e1]
    simp
  | succ n ih =>
    intro k p acc ys zs q e h h2
    rw [manyS] at h
    rw [Nat.succ_add, manyS]
    cases hf : f p using Rs.elim with
    | bad c => rw [hf] at h; cases h
    | ok y r =>
      rw [hf] at h
      exact ih _ _ _ h h2
theorem manyS_front {α : Type} (f : Nat → Rs α) : ∀ (n p : Nat) (acc : List α) {ys : List α} {q : Nat}, manyS f (n + 1) p acc = .ok ys q → ∃ xs q', manyS f n p acc = .ok xs q' := by
  intro n
  induction n with
  | zero => intro p acc ys q h; exact ⟨acc, p, by rw [manyS]⟩
  | succ n ih =>
    intro p acc ys q h
    rw [manyS] at h
    cases hf : f p using Rs.elim with
    | bad c => rw [hf] at h; cases h
    | ok y r =>
      rw [hf] at h
      obtain ⟨xs, q', e⟩ := ih _ _ h
      refine ⟨xs, q', ?_⟩
      rw [manyS, hf]
      exact e
theorem manyS_all {α : Type} {f : Nat → Rs α} {P : α → Prop} (hf : ∀ p x e, f p = .ok x e → P x) : ∀ (n p : Nat) (acc : List α) {xs : List α} {e : Nat}, (∀ x ∈ acc, P x) → manyS f n p acc = .ok xs e → ∀ x ∈ xs, P x := by
  intro n
  induction n with
  | zero => intro p acc xs e ha h; rw [manyS] at h; cases h; exact ha
  | succ n ih =>
    intro p acc xs e ha h
    rw [manyS] at h
    cases hq : f p using Rs.elim with
    | bad c => rw [hq] at h; cases h
    | ok y r =>
      rw [hq] at h
      refine ih _ _ ?_ h
      intro x hx
      rcases List.mem_append.1 hx with h1 | h1
      · exact ha x h1
      · rw [List.mem_singleton] at h1
        subst h1
        exact hf _ _ _ hq
theorem rrS_owner {l : List UInt8} {p q : Nat} {r : Rm} (h : rrS l p = .ok r q) : r.owner.length ≤ 255 := by
  rw [rrS] at h
  cases hd : dnF l p p [] none using Rs.elim with
  | bad c => rw [hd] at h; cases h
  | ok s nx =>
    have hz := dnF_size2 l p p [] none (by simp) s nx hd
    rw [hd] at h
    simp only at h
    split at h
    · split at h
      · split at h
        · cases h
        · cases h; exact hz
      · cases h
    · cases h
/-- Where the last record begins, and how long its owner is at most. -/
theorem last_rec {l : List UInt8} {m : Mm} {p : Nat} (h : msgS l = .ok m p) : (∀ r ∈ m.ex, r.owner.length ≤ 255) ∧ (0 < m.ex.length → ∃ (qs : List Qm) (P1 : Nat) (xs : List Rm), manyS (quS l) (n16 l 4) 12 [] = .ok qs P1 ∧ manyS (rrS l) (n16 l 6 + n16 l 8 + n16 l 10 - 1) P1 [] = .ok xs (lastP l)) := by
  have hls := msgS_lens h
  rw [msgS] at h
  split at h
  · cases h
  split at h
  · cases h
  split at h
  · cases h
  rw [listsS] at h
  cases h1 : manyS (quS l) (n16 l 4) 12 [] using Rs.elim with
  | bad c => rw [h1] at h; cases h
  | ok qs p1 =>
    rw [h1] at h
    simp only at h
    cases h2 : manyS (rrS l) (n16 l 6) p1 [] using Rs.elim with
    | bad c => rw [h2] at h; cases h
    | ok an p2 =>
      rw [h2] at h
      simp only at h
      cases h3 : manyS (rrS l) (n16 l 8) p2 [] using Rs.elim with
      | bad c => rw [h3] at h; cases h
      | ok au p3 =>
        rw [h3] at h
        simp only at h
        cases h4 : manyS (rrS l) (n16 l 10) p3 [] using Rs.elim with
        | bad c => rw [h4] at h; cases h
        | ok ex p4 =>
          rw [h4] at h
          simp only at h
          split at h
          · cases h
          · cases h
            refine ⟨manyS_all (fun p x e hx => rrS_owner hx) _ _ _ (by simp) h4, fun hpos => ?_⟩
            have hall := manyS_cat _ _ _ _ _ (manyS_cat _ _ _ _ _ h2 h3) h4
            have hn : 0 < n16 l 10 := by have := hls.2.2.1; omega
            obtain ⟨t, ht⟩ : ∃ t, n16 l 6 + n16 l 8 + n16 l 10 = t + 1 := ⟨n16 l 6 + n16 l 8 + n16 l 10 - 1, by omega⟩
            rw [ht] at hall
            obtain ⟨xs, q, hx⟩ := manyS_front _ _ _ _ hall
            have ht2 : n16 l 6 + n16 l 8 + n16 l 10 - 1 = t := by omega
            refine ⟨qs, p1, xs, rfl, ?_⟩
            have : lastP l = q := by rw [lastP, h1]; simp only; rw [ht2, hx]
            rw [this, ht2]
            exact hx

theorem dat_61 {r : Rm} (h : datB r = true) : r.dat.length = 61 := by
  simp only [datB, Bool.and_eq_true, decide_eq_true_eq] at h
  exact h.2.2.1

theorem implVerify_any (v vk : Value) (l : List UInt8) (ks : List (ByteArray × ByteArray)) (now : Int) (rq : ByteArray) (w : World) (h : BySl w v l) (hl : l.length ≤ 1048576) (hk : CRow w vk ks.length 2 (kyVs ks)) (hkx : ∀ x ∈ ks, x.1.size ≤ maxLen)
    (hF : ∃ t fr, w.heap[0]? = some (.cells (hvA H0) t fr)) (hK : KAt w 1) :
    Calls Tryz.prog 8 #[v, vk, .int .i64 now, .string rq] w (VPost (verL l ks now rq) w) := by
  cases hm : msgS l using Rs.elim with
  | bad c =>
    have e : verL l ks now rq = vd0 := by rw [verL, hm]
    rw [e]
    exact implVerify_bad v vk l ks now rq w h hl hk hkx (.inl (by rw [msO, hm]; exact code_bad hm))
  | ok m p =>
    cases hpre : vPre ks now rq with
    | false =>
      have e : verL l ks now rq = vd0 := by rw [verL, hm]; simp [hpre]
      rw [e]
      exact implVerify_bad v vk l ks now rq w h hl hk hkx (.inr hpre)
    | true =>
      have e : verL l ks now rq = verM l m ks now rq := by rw [verL, hm]; simp [hpre]
      have hO : msO l = ⟨n16 l 0, n16 l 2, m, 0⟩ := by rw [msO, hm]
      obtain ⟨e1, e2, e3, e4, e5, e6⟩ := msgS_lens hm
      have hC0 : (msO l).c = 0 := by rw [hO]
      have hmm : (msO l).m = m := by rw [hO]
      have hlen : (msO l).m.an.length ≤ 400 ∧ (msO l).m.au.length ≤ 400 ∧ (msO l).m.ex.length ≤ 400 := by rw [hmm]; exact ⟨by omega, by omega, by omega⟩
      rw [e, verM]
      cases hst : strayB m with
      | true =>
        simp only [if_true]
        exact implVerify_form v vk l ks now rq w h hl hk hkx hC0 hpre hlen (by rw [hmm]; exact fsV_stray hst)
      | false =>
        have hfc := fsV_clean hst
        simp only [Bool.false_eq_true, if_false]
        cases hx : m.ex.getLast? with
        | none =>
          rw [hx] at hfc
          exact implVerify_plain v vk l ks now rq w h hl hk hkx (by omega) hC0 hpre hlen (by rw [hmm]; exact hfc)
        | some r =>
          rw [hx] at hfc
          simp only at hfc ⊢
          cases ht : vTs r with
          | false =>
            rw [ht] at hfc
            simp only [Bool.false_eq_true, if_false] at hfc ⊢
            exact implVerify_plain v vk l ks now rq w h hl hk hkx (by omega) hC0 hpre hlen (by rw [hmm]; exact hfc)
          | true =>
            rw [ht] at hfc
            simp only [if_true] at hfc ⊢
            cases hd : datB r with
            | false =>
              rw [hd] at hfc
              simp only [Bool.false_eq_true, if_false] at hfc ⊢
              exact implVerify_form v vk l ks now rq w h hl hk hkx hC0 hpre hlen (by rw [hmm]; exact hfc)
            | true =>
              rw [hd] at hfc
              simp only [if_true] at hfc ⊢
              obtain ⟨hown, hlast⟩ := last_rec hm
              have hmem : r ∈ m.ex := List.mem_of_getLast? hx
              have hpos : 0 < m.ex.length := List.length_pos_of_mem hmem
              obtain ⟨qs, P1, xs, hq, hr⟩ := hlast hpos
              rw [e3]
              exact implVerify_signed v vk l ks now rq w h hl hk hkx hC0 hpre hlen r (by rw [hmm]; exact hfc) (dat_61 hd) (by have := hown r hmem; omega) e4 e5 qs P1 xs (lastP l) hq hr (by omega) e6 hF hK
end Go.Proofs.YtfficbpalibmoaaGreatDoor
