import Derived.Test.YtfficbpalibmoaaGreatDoorJSgO
import Derived.Test.YtfficbpalibmoaaGreatDoorJJoin
import Derived.Test.YtfficbpalibmoaaGreatDoorJICc
import Derived.Test.YtfficbpalibmoaaGreatDoorJDcM
/- (impl.signature).unsigned by its contract. -/
namespace Go.Proofs.YtfficbpalibmoaaGreatDoor
open Go.RowKit
set_option linter.unusedVariables false

theorem wpList_copy_str {P : Program} {ops : Array Oper} {rest : List Oper} {o : Oper} {a : Act} {w : World} {Q : Exit → Act → World → Prop} (hgd : o.guard = none) (d s : Operand) (dT sT : TypeId)
    (ho : o.op = .call { callee := .builtin .copy, args := #[d, s], argTypes := #[dT, sT] }) (elem : TypeId) (hu : P.underlying dT = some (.slice elem)) (hsz : (P.info? elem).map (·.size) = some 1)
    (b off dLen dCap : Nat) (hd : a.eval d = .slice (some ⟨b, off, none⟩) dLen dCap) (S : ByteArray) (hs : a.eval s = .string S) (cs : Array Value) (T : TypeId) (hk : Blk w b cs T) (h2 : S.size ≤ dLen) (hfit : off + S.size ≤ cs.size)
    (h : ∀ w', Blk w' b (spl cs off (bytesV S)) T → Only b w w' → wpList P ops Q rest (a.put o.dst (goInt S.size)) w') : wpList P ops Q (o :: rest) a w :=
  wpList_plain hgd fun _ hK => by
    have hrun := run_copy_str (P := P) w dT sT o.type elem T b off dLen dCap S cs hk hu hsz h2 hfit
    unfold Oper.wp
    simp [execOp, ho, resolve, invoke, builtin, hd, hs, hrun, Result.andThen]
    exact hK _ _ (h _ (blk_setCells _ _ _ _ hk) (only_setCells _ _ _ (Only.refl _ _)))

/-- The bytes ahead of a signature. -/
def unsL (l : List UInt8) (id q : Nat) : List UInt8 := bigL id 2 ++ (l.drop 2).take 8 ++ bigL (n16 l 10 - 1) 2 ++ (l.take q).drop 12
theorem unsL_len {l : List UInt8} {id q : Nat} (h12 : 12 ≤ q) (hq : q ≤ l.length) : (unsL l id q).length = q := by
  simp [unsL, big_len]
  omega
theorem unsL_body {l : List UInt8} {r : Rm} {q n : Nat} (hd : r.dat.length = 61) (hn : n = n16 l 10) : unsL l (sI r.dat) q = bodyL l r n q := by
  rw [unsL, bodyL, sI, big_numN (by simp; omega), hn]
theorem bytesV_mk (l : List UInt8) : bytesV ⟨l.toArray⟩ = Nm.bys l := by simp [bytesV, Nm.bys]

set_option maxRecDepth 100000 in
set_option maxHeartbeats 3200000 in
theorem unsigned_any (nm : ByteArray) (t f id : Nat) (sum : List UInt8) (a : Option Addr) (l : List UInt8) (cap : Nat) (w : World) (hi : id ≤ 65535) (hs : sum.length = 32) (h : BySl w (.slice a l.length cap) l) (hl : 12 ≤ l.length) (hl2 : l.length ≤ 65535) (qs : List Qm) (P1 : Nat) (xs : List Rm) (q : Nat)
    (hq : manyS (quS l) (n16 l 4) 12 [] = .ok qs P1) (hr : manyS (rrS l) (n16 l 6 + n16 l 8 + n16 l 10 - 1) P1 [] = .ok xs q) (hc : 1 ≤ n16 l 10) (hcs : n16 l 4 + n16 l 6 + n16 l 8 + n16 l 10 ≤ 400) :
    Calls Tryz.prog 32 #[.agg (sgA nm t f sum id), .slice a l.length cap] w fun e w' => ∃ v, e = .returned v ∧ w'.ownsRow w.heap.size 5 1 v (unsL l id q).length (Nm.bys (unsL l id q)) ∧ 12 ≤ q ∧ q ≤ l.length ∧ Below w.heap.size w w' := by
  have h12 := last_ge hq hr
  have k0 := blk_new w (sgA nm t f sum id) 68
  have hB0 := (Below.refl w.heap.size w).alloc (Nat.le_refl _) (.cells (sgA nm t f sum id) 68)
  have hlr := lastRecord_any a l cap _ (h.below hB0) hl hl2 qs P1 xs q hq hr hc hcs
  have h' := h
  obtain ⟨_, a', c', e', hcap, hmx, hcc⟩ := h'
  cases e'
  obtain ⟨b, off, rfl, hcell⟩ := hcc (by omega)
  clear hcc
  go_enter Tryz.func32, Tryz.ntmps32
  go_wp2_with fail
  refine hlr.mono ?_
  rintro e w1 ⟨rfl, hql, b1⟩
  have hB1 := Nm.below_two hB0 b1
  have hs1 := hB1.size
  have k1 := blk_below k0 b1
  have i1 : (0 : Int) ≤ (q : Int) := by omega
  have i2 : (q : Int) ≤ (cap : Int) := by omega
  have hlt : (l.take q).length = q := by simp; omega
  have hpre : BySl w1 (.slice (some ⟨b, off, none⟩) (l.take q).length cap) (l.take q) := by
    refine ⟨by rw [Nm.bys_length, Nat.mul_one], _, _, rfl, by omega, hmx, fun _ => ⟨b, off, rfl, fun i x hx => ?_⟩⟩
    have hx' : (Nm.bys l)[i]? = some x := by
      simp only [Nm.bys, List.getElem?_map, List.getElem?_take] at hx ⊢
      split at hx
      · exact hx
      · simp at hx
    have := hcell i x hx'
    exact (hB1.cell (World.block_lt_of_cell? w _ this)).trans this
  have hcl := clone_by (some ⟨b, off, none⟩) (l.take q) cap w1 hpre (by omega) (by omega)
  rw [hlt] at hcl
  have c35 := (blk_cell k1 35).trans (sgA_35 hs)
  clear hlr hq hr hpre hcell h k0 b1
  go_wp2_with fail
  refine hcl.mono ?_
  rintro e w2 ⟨g, c, rfl, o2, b2⟩
  have hqc : q ≤ c := by
    obtain ⟨_, a3, c3, e3, h3, _⟩ := CRow.of_owns o2
    cases e3
    exact h3
  have hgw : w1.heap.size ≤ g := (o2.lt g rfl).1
  have hgw0 : w.heap.size ≤ g := Nat.le_trans hB1.size hgw
  have c35b := (blk_cell (blk_below k1 b2) 35).trans (sgA_35 hs)
  have hB2 := Nm.below_two hB1 b2
  obtain ⟨B1, eB1⟩ : ∃ B : ByteArray, B = ⟨(bigL id 2).toArray⟩ := ⟨_, rfl⟩
  have hp1 := fun W => bigBytesN_any id 2 W (by omega) (by decide) (by decide)
  rw [← eB1] at hp1
  have hB1z : B1.size = 2 := by rw [eB1, ba_size, big_len]
  have hbv1 : bytesV B1 = Nm.bys (bigL id 2) := by rw [eB1, bytesV_mk]
  have e1 : Nm.bys (l.take q) = [] ++ Nm.bys ((l.take q).take 2) ++ Nm.bys ((l.take q).drop 2) := by rw [List.nil_append, ← Nm.bys_append, List.take_append_drop]
  rw [e1] at o2
  have hv1 : (bytesV B1).length = (Nm.bys ((l.take q).take 2)).length := by rw [hbv1, Nm.bys_length, Nm.bys_length, big_len]; simp; omega
  obtain ⟨M, eM⟩ : ∃ M, M = bigL id 2 ++ (l.take q).drop 2 := ⟨_, rfl⟩
  have hMl : M.length = q := by rw [eM]; simp [big_len]; omega
  have e2 : [] ++ bytesV B1 ++ Nm.bys ((l.take q).drop 2) = Nm.bys M := by rw [List.nil_append, hbv1, ← Nm.bys_append, eM]
  have e3 : (M.drop 10).take 2 = (l.drop 10).take 2 := by
    rw [eM, List.drop_append, List.drop_of_length_le (by rw [big_len]; decide), big_len, List.nil_append, List.drop_drop, List.drop_take, List.take_take]
    congr 1
    omega
  have hn16 := n16_lt l 10
  obtain ⟨K1, eK1⟩ : ∃ K : Nat, K = n16 l 10 - 1 := ⟨_, rfl⟩
  have hwK : IntKind.i64.wrap ((n16 l 10 : Int) - 1) = (K1 : Int) := by rw [Go.wrap_small _ (by omega) (by omega)]; omega
  have hp2 : ∀ W, Calls Tryz.prog 54 #[.int .i64 (K1 : Int), .int .i64 2] W fun e w' => e = .returned (.string ⟨(bigL K1 2).toArray⟩) ∧ Below W.heap.size W w' := fun W => bigBytesN_any K1 2 W (by omega) (by decide) (by decide)
  obtain ⟨B2, eB2⟩ : ∃ B : ByteArray, B = ⟨(bigL K1 2).toArray⟩ := ⟨_, rfl⟩
  rw [← eB2] at hp2
  have HZ2 : Hid (B2.size = 2) := by show _ = _; rw [eB2, ba_size, big_len]
  have hbv2 : bytesV B2 = Nm.bys (bigL K1 2) := by rw [eB2, bytesV_mk]
  have HBV2 : Hid ((bytesV B2).length = 2) := by show _ = _; rw [hbv2, Nm.bys_length, big_len]
  have HV2 : Hid ((bytesV B2).length = (Nm.bys ((M.drop 10).take 2)).length) := by show _ = _; rw [hbv2, Nm.bys_length, Nm.bys_length, big_len]; simp; omega
  have HV0 : Hid ((Nm.bys (M.take 10)).length = 10) := by show _ = _; rw [Nm.bys_length]; simp; omega
  have HSPL : Hid (Nm.bys M = Nm.bys (M.take 10) ++ Nm.bys ((M.drop 10).take 2) ++ Nm.bys (M.drop 12)) := by
    show _ = _
    rw [← Nm.bys_append, ← Nm.bys_append, List.append_assoc, show (M.drop 10).take 2 ++ M.drop 12 = M.drop 10 by rw [show M.drop 12 = (M.drop 10).drop 2 by rw [List.drop_drop]]; exact List.take_append_drop _ _, List.take_append_drop]
  have HFIN : Hid (Nm.bys (M.take 10) ++ bytesV B2 ++ Nm.bys (M.drop 12) = Nm.bys (unsL l id q)) := by
    show _ = _
    rw [hbv2, ← Nm.bys_append, ← Nm.bys_append, unsL, eK1]
    congr 1
    have m1 : M.take 10 = bigL id 2 ++ (l.drop 2).take 8 := by
      rw [eM, List.take_append, List.take_of_length_le (by rw [big_len]; decide), big_len, List.drop_take, List.take_take]
      congr 2
      omega
    have m2 : M.drop 12 = (l.take q).drop 12 := by
      rw [eM, List.drop_append, List.drop_of_length_le (by rw [big_len]; decide), big_len, List.nil_append, List.drop_drop]
    rw [m1, m2]
  have HUL : Hid ((unsL l id q).length = q) := unsL_len h12 hql
  obtain ⟨X2, eX2⟩ : ∃ X : ByteArray, X = ⟨((M.drop 10).take 2).toArray⟩ := ⟨_, rfl⟩
  have hnb : ∀ W : World, Calls Tryz.prog 55 #[.string X2] W fun e w' => e = .returned (.int .i64 ((n16 l 10 : Nat) : Int)) ∧ w' = W := fun W => by
    have := readBig_any X2 W (by rw [eX2, ba_size]; simp; omega)
    rw [eX2] at this ⊢
    simpa [n16, e3] using this
  have HX2 := Nm.hide eX2
  have hp2c := Nm.hide hp2
  have hnbc := Nm.hide hnb
  clear hp2 hnb eX2 hbv2 eB2 eK1 e3 hn16
  have HP1 := Nm.hide hp1
  have HZ1 := Nm.hide hB1z
  have HV1 := Nm.hide hv1
  have HE2 := Nm.hide e2
  have HML := Nm.hide hMl
  clear hcl e1 hbv1 eB1 hB1z hv1 e2 hMl hlt c35 k1 hB0 hB1
  go_wp2_with fail
  refine (hp1 _).mono ?_
  rintro e w3 ⟨rfl, b3⟩
  have hB3 := Nm.below_two hB2 b3
  obtain ⟨cur, kc, hfit, hown⟩ := own_part (own_base (own_below o2 b3) (show w.heap.size ≤ w1.heap.size by omega)) (v := bytesV B1) HV1.out
  have HBV : Hid ((bytesV B1).length = 2) := by rw [Hid]; simp [bytesV]; exact HZ1.out
  clear b2 b3 o2 hB2 hp1
  go_wp2_with (refine wpList_copy_str rfl (.tmp 11) (.tmp 14) 22 9 rfl 5 Tryz.underlying22 (by kernel_rfl) g 0 q c rfl B1 rfl cur _ kc (by have := HZ1.out; omega) (by have := HZ1.out; have := HBV.out; have := hfit; simp at this; omega) ?_; intro w4 k4 o4; have hB4 := o4.below hB3 hgw0 hB3.size; have hM4 := hown w4 k4; clear o4 k4 kc hown hB3 hfit)
  rw [HE2.out] at hM4
  have hML := HML.out
  have hcr : ∀ W, Below w4.heap.size w4 W → (convert 22 9 (.slice (some ⟨g, 10, none⟩) 2 (c - 10))).run Tryz.prog W = .ok (.string X2) W := fun W hW => by
    have h1 := CRow.of_owns (own_below hM4 hW)
    have h2 : BySl W (.slice (some ⟨g, 0, none⟩) M.length c) M := by unfold BySl; rw [hML]; exact h1
    obtain ⟨b', off', e, hc⟩ := cut_by h2 (lo := 10) (n := 2) (by omega) (by omega)
    cases e
    rw [HX2.out]
    rw [Nat.zero_add] at hc
    exact row_strB hc
  rw [HSPL.out] at hM4
  have hcl : ∀ W, Below w4.heap.size w4 W → W.ownsRow w.heap.size 5 1 (.slice (some ⟨g, 0, none⟩) q c) q (Nm.bys (M.take 10) ++ Nm.bys ((M.drop 10).take 2) ++ Nm.bys (M.drop 12)) := fun W hW => own_below hM4 hW
  have j1 : (10 : Int) ≤ (q : Int) := by omega
  have j2 : (q : Int) ≤ (c : Int) := by omega
  have j3 : (12 : Int) ≤ (c : Int) := by omega
  have j4 : ¬ c = 10 := by omega
  have hcd := hcr w4.drew (Below.refl _ w4).drew
  have hp2 := hp2c.out
  have hnb := hnbc.out
  clear hcr hM4 hML i1 i2 hp2c hnbc
  go_simp
  refine wp_region_last (S := fun _ => True) (L := 1000) (by kernel_rfl) trivial (fun hH => ?_)
  refine wpAnyL_take (i := 0) (v := ?_) rfl (by kernel_rfl) (by kernel_rfl) (by kernel_rfl) (by kernel_rfl) (fun _ _ _ h => h) (Or.inl ⟨by rfl, ?_⟩) (by assumption) ?_
  rotate_left 1
  · (intro w hSw; go_simp; try (with_reducible rfl))
  refine wpAnyL_take (i := 1) (v := ?_) rfl (by kernel_rfl) (by kernel_rfl) (by kernel_rfl) (by kernel_rfl) (fun _ _ _ h => h) (Or.inl ⟨by rfl, ?_⟩) (by assumption) ?_
  rotate_left 1
  · (intro w hSw; go_simp; try (with_reducible rfl))
  refine wpAnyL_take (i := 2) (v := ?_) rfl (by kernel_rfl) (by kernel_rfl) (by kernel_rfl) (by kernel_rfl) (fun _ _ _ h => h) (Or.inl ⟨by rfl, ?_⟩) (by assumption) ?_
  rotate_left 1
  · (intro w hSw; go_simp; try (with_reducible rfl))
  refine wpAnyL_take (i := 3) (v := ?_) rfl (by kernel_rfl) (by kernel_rfl) (by kernel_rfl) (by kernel_rfl) (fun _ _ _ h => h) (Or.inl ⟨by rfl, ?_⟩) (by assumption) ?_
  rotate_left 1
  · (intro w hSw; go_simp; try (with_reducible rfl))
  refine wpAnyL_one (i := 4) (by kernel_rfl) rfl (fun K hK' => ?_)
  go_simp
  refine hK'.out _ _ trivial (fun hH => ?_)
  clear hK' K hcd
  refine wpAnyL_one (i := 5) (by kernel_rfl) rfl (fun K hK' => ?_)
  go_simp
  refine (hnb _).mono ?_
  rintro e wf ⟨rfl, hw⟩
  obtain rfl := hw.symm
  clear hw hnb
  go_wp2_with fail
  refine hK'.out _ _ trivial (fun hH => ?_)
  clear hK' K
  refine wpAnyL_take (i := 6) (v := ?_) rfl (by kernel_rfl) (by kernel_rfl) (by kernel_rfl) (by kernel_rfl) (fun _ _ _ h => h) (Or.inl ⟨by rfl, ?_⟩) (by assumption) ?_
  rotate_left 1
  · (intro w hSw; go_simp; try (with_reducible rfl))
  refine wpAnyL_one (i := 7) (by kernel_rfl) rfl (fun K hK' => ?_)
  go_simp
  refine (hp2 _).mono ?_
  rintro e w10 ⟨rfl, b10⟩
  have hbd : Below w4.heap.size w4 w10 := (Below.refl _ w4).drew.trans b10
  have hB10 := Nm.below_two hB4 hbd
  obtain ⟨cur, kc, hfit, hown⟩ := own_part (hcl _ hbd) (v := bytesV B2) HV2.out
  clear hcl hbd b10 hB4
  go_wp2_with fail
  refine hK'.out _ _ trivial (fun hH => ?_)
  clear hK' K
  refine wpAnyL_one (i := 8) (by kernel_rfl) rfl (fun K hK' => ?_)
  refine step_copy_str rfl (.tmp 17) (.tmp 23) 22 9 rfl 5 Tryz.underlying22 (by kernel_rfl) g 10 (q - 10) (c - 10) (by go_simp) B2 (by go_simp) _ _ kc (by have := HZ2.out; omega) (by have := HZ2.out; have := HV0.out; have := HBV2.out; omega) ?_
  intro w11 k11 o11
  refine hK'.out _ _ trivial (fun hH => ?_)
  clear hK' K
  refine wpAnyL_done (by kernel_rfl) ?_
  have hB11 := o11.below hB10 hgw0 hB10.size
  have hfin := hown _ (by rw [HV0.out]; exact k11)
  rw [HFIN.out] at hfin
  clear hown k11 o11 kc hp2
  go_wp2
  go_ret
  exact ⟨_, rfl, by rw [HUL.out]; exact hfin, h12, hql, hB11⟩
end Go.Proofs.YtfficbpalibmoaaGreatDoor
/- Where nothing is read there is a code: mathematics. -/
namespace Go.Proofs.YtfficbpalibmoaaGreatDoor
open Go.RowKit
set_option linter.unusedVariables false

theorem dnF_nz (l : List UInt8) : ∀ (st pos : Nat) (acc : List UInt8) (nx : Option Nat) (c : Int), dnF l st pos acc nx = .bad c → c ≠ 0 := by
  intro st pos acc nx
  induction st, pos, acc, nx using dnF.induct (l := l) with
  | case1 st pos acc nx h h0 =>
    intro c hd
    rw [dnF_root h h0] at hd
    cases hd
  | case2 st pos acc nx h h0 h1 h2 h3 ih =>
    intro c hd
    rw [dnF_ptr h1 h2 h3] at hd
    exact ih c hd
  | case3 st pos acc nx h h0 h1 h2 h3 =>
    intro c hd
    rw [dnF_ahead h1 h2 (by omega)] at hd
    cases hd
    decide
  | case4 st pos acc nx h h0 h1 h2 =>
    intro c hd
    rw [dnF_cut h h1 (by omega)] at hd
    cases hd
    decide
  | case5 st pos acc nx h h0 h1 h2 =>
    intro c hd
    rw [dnF_label h (by omega) (by omega)] at hd
    cases hd
    decide
  | case6 st pos acc nx h h0 h1 h2 h3 h4 ih =>
    intro c hd
    rw [dnF_more (by omega) (by omega) h3 h4] at hd
    exact ih c hd
  | case7 st pos acc nx h h0 h1 h2 h3 h4 =>
    intro c hd
    rw [dnF_long (by omega) (by omega) h3 (by omega)] at hd
    cases hd
    decide
  | case8 st pos acc nx h h0 h1 h2 h3 =>
    intro c hd
    rw [dnF_short h (by omega) (by omega) (by omega)] at hd
    cases hd
    decide
  | case9 st pos acc nx h =>
    intro c hd
    rw [dnF_end (by omega)] at hd
    cases hd
    decide

theorem dtP_nz (l : List UInt8) (fin : Nat) : ∀ (ps : List (Option Nat)) (p : Nat) (acc : List UInt8) (c : Int), dtP l fin ps p acc = .bad c → c ≠ 0 := by
  intro ps
  induction ps with
  | nil =>
    intro p acc c h
    rw [dtP] at h
    split at h
    · cases h
    · cases h; decide
  | cons q ps ih =>
    intro p acc c h
    cases q with
    | none =>
      rw [dtP] at h
      split at h
      · rename_i c' hd
        cases h
        exact dnF_nz l _ _ _ _ _ hd
      · split at h
        · exact ih _ _ _ h
        · cases h; decide
    | some n =>
      rw [dtP] at h
      split at h
      · exact ih _ _ _ h
      · cases h; decide

theorem dataS_nz {l : List UInt8} {t p fin : Nat} {c : Int} (h : dataS l t p fin = .bad c) : c ≠ 0 := by
  rw [dataS] at h
  split at h
  · cases h
  · split at h
    · exact dtP_nz _ _ _ _ _ _ h
    · split at h
      · cases h
      · cases h; decide

theorem quS_nz {l : List UInt8} {p : Nat} {c : Int} (h : quS l p = .bad c) : c ≠ 0 := by
  rw [quS] at h
  split at h
  · rename_i c' hd
    cases h
    exact dnF_nz l _ _ _ _ _ hd
  · split at h
    · cases h
    · cases h; decide

theorem rrS_nz {l : List UInt8} {p : Nat} {c : Int} (h : rrS l p = .bad c) : c ≠ 0 := by
  rw [rrS] at h
  split at h
  · rename_i c' hd
    cases h
    exact dnF_nz l _ _ _ _ _ hd
  · split at h
    · split at h
      · split at h
        · rename_i c' hd
          cases h
          exact dataS_nz hd
        · cases h
      · cases h; decide
    · cases h; decide

theorem manyS_nz {α : Type} {f : Nat → Rs α} (hf : ∀ p c, f p = .bad c → c ≠ 0) : ∀ (n p : Nat) (acc : List α) (c : Int), manyS f n p acc = .bad c → c ≠ 0 := by
  intro n
  induction n with
  | zero => intro p acc c h; rw [manyS] at h; cases h
  | succ n ih =>
    intro p acc c h
    rw [manyS] at h
    split at h
    · rename_i c' hd
      cases h
      exact hf _ _ hd
    · exact ih _ _ _ h

/-- A code that is not 0 where nothing was read. -/
theorem code_bad {l : List UInt8} {c : Int} (h : msgS l = .bad c) : c ≠ 0 := by
  rw [msgS] at h
  split at h
  · cases h; decide
  split at h
  · cases h; decide
  split at h
  · cases h; decide
  rw [listsS] at h
  split at h
  · rename_i c' hd
    cases h
    exact manyS_nz (fun p c h => quS_nz h) _ _ _ _ hd
  split at h
  · rename_i c' hd
    cases h
    exact manyS_nz (fun p c h => rrS_nz h) _ _ _ _ hd
  split at h
  · rename_i c' hd
    cases h
    exact manyS_nz (fun p c h => rrS_nz h) _ _ _ _ hd
  split at h
  · rename_i c' hd
    cases h
    exact manyS_nz (fun p c h => rrS_nz h) _ _ _ _ hd
  split at h
  · cases h; decide
  · cases h
end Go.Proofs.YtfficbpalibmoaaGreatDoor
