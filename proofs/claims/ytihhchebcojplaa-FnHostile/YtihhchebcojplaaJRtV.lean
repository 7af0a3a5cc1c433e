import Derived.Test.YtihhchebcojplaaJRtD
import Derived.Test.YtihhchebcojplaaJUnderM
import Derived.Test.YtihhchebcojplaaJDataM
import Derived.Test.YtihhchebcojplaaJIwG
import Derived.Test.YtihhchebcojplaaJICheck
import Derived.Deep.Onto
/- What is read as a message is a valid message: mathematics. -/
namespace Go.Proofs.Ytihhchebcojplaa
open Go.RowKit
set_option linter.unusedVariables false

theorem cut_take {l : List UInt8} {pos b : Nat} (h : pos + 1 + b ≤ l.length) (hb : byAt l pos = b) (hb2 : b ≤ 63) : (l.drop pos).take (1 + b) = UInt8.ofNat b :: ((l.drop (pos + 1)).take b) := by
  have hlt : pos < l.length := by omega
  have e : l.drop pos = l[pos] :: l.drop (pos + 1) := List.drop_eq_getElem_cons hlt
  have e2 : l[pos] = UInt8.ofNat b := by
    rw [← hb]
    simp [byAt, hlt]
  rw [e, Nat.add_comm 1 b, List.take_succ_cons, e2]

/-- What is read as a name is one. -/
theorem dnF_is (l : List UInt8) : ∀ (st pos : Nat) (acc : List UInt8) (nx : Option Nat) (ls0 : List ByteArray) (s : List UInt8) (n : Nat), acc = Nm.preL ls0 → (∀ x ∈ ls0, 1 ≤ x.size ∧ x.size ≤ 63) → acc.length + 1 ≤ 255 → dnF l st pos acc nx = .ok s n → ∃ ls, s = Nm.joinL ls ∧ (∀ x ∈ ls, 1 ≤ x.size ∧ x.size ≤ 63) ∧ s.length ≤ 255 := by
  intro st pos acc nx
  induction st, pos, acc, nx using dnF.induct (l := l) with
  | case1 st pos acc nx h h0 =>
    intro ls0 s n ha hx hl hd
    rw [dnF_root h h0] at hd
    simp only [Sum.inr.injEq, Prod.mk.injEq] at hd
    obtain ⟨rfl, _⟩ := hd
    exact ⟨ls0, by rw [ha, Nm.joinL], hx, by simpa using hl⟩
  | case2 st pos acc nx h h0 h1 h2 h3 ih =>
    intro ls0 s n ha hx hl hd
    rw [dnF_ptr h1 h2 h3] at hd
    exact ih ls0 s n ha hx hl hd
  | case3 st pos acc nx h h0 h1 h2 h3 =>
    intro ls0 s n ha hx hl hd
    rw [dnF_ahead h1 h2 (by omega)] at hd
    cases hd
  | case4 st pos acc nx h h0 h1 h2 =>
    intro ls0 s n ha hx hl hd
    rw [dnF_cut h h1 (by omega)] at hd
    cases hd
  | case5 st pos acc nx h h0 h1 h2 =>
    intro ls0 s n ha hx hl hd
    rw [dnF_label h (by omega) (by omega)] at hd
    cases hd
  | case6 st pos acc nx h h0 h1 h2 h3 h4 ih =>
    intro ls0 s n ha hx hl hd
    rw [dnF_more (by omega) (by omega) h3 h4] at hd
    have hc := cut_take h3 rfl (by omega)
    have hz : (⟨((l.drop (pos + 1)).take (byAt l pos)).toArray⟩ : ByteArray).size = byAt l pos := by
      show ((l.drop (pos + 1)).take (byAt l pos)).toArray.size = _
      simp
      omega
    refine ih (ls0 ++ [⟨((l.drop (pos + 1)).take (byAt l pos)).toArray⟩]) s n ?_ ?_ ?_ hd
    · rw [Nm.preL_append, ← ha, hc]
      congr 1
      show _ = UInt8.ofNat (ByteArray.size _) :: (_ ++ [])
      rw [hz]
      simp
    · intro x hx'
      rcases List.mem_append.1 hx' with hx' | hx'
      · exact hx x hx'
      · simp at hx'
        subst hx'
        rw [hz]
        omega
    · rw [hc]
      simp
      omega
  | case7 st pos acc nx h h0 h1 h2 h3 h4 =>
    intro ls0 s n ha hx hl hd
    rw [dnF_long (by omega) (by omega) h3 (by omega)] at hd
    cases hd
  | case8 st pos acc nx h h0 h1 h2 h3 =>
    intro ls0 s n ha hx hl hd
    rw [dnF_short h (by omega) (by omega) (by omega)] at hd
    cases hd
  | case9 st pos acc nx h =>
    intro ls0 s n ha hx hl hd
    rw [dnF_end (by omega)] at hd
    cases hd

theorem dnF_split {l : List UInt8} {p n : Nat} {s : List UInt8} (h : dnF l p p [] none = .ok s n) : (Nm.split ⟨s.toArray⟩).isSome = true ∧ s.length ≤ 255 := by
  obtain ⟨ls, rfl, hx, hl⟩ := dnF_is l p p [] none [] s n rfl (by simp) (by simp) h
  refine ⟨?_, hl⟩
  rw [split_of_join hx (by rw [Nm.joinL_length] at hl; omega)]
  rfl

def pcMax : List (Option Nat) → Nat
  | [] => 0
  | none :: ps => 255 + pcMax ps
  | some n :: ps => n + pcMax ps
/-- Data that was read by its pieces has its form. -/
theorem dtP_form {l : List UInt8} {fin : Nat} (hfin : fin ≤ l.length) : ∀ (ps : List (Option Nat)) (p : Nat) (acc d : List UInt8) (e : Nat), dtP l fin ps p acc = .ok d e → ∃ ds, d = acc ++ ds ∧ (Dt.parts (ps.map toPc) (bA ds)).isSome = true ∧ ds.length ≤ pcMax ps := by
  intro ps
  induction ps with
  | nil =>
    intro p acc d e h
    rw [dtP] at h
    split at h
    · simp only [Sum.inr.injEq, Prod.mk.injEq] at h
      obtain ⟨rfl, _⟩ := h
      exact ⟨[], by simp, by rw [List.map_nil, Dt.parts, if_pos (by rw [bA_size]; rfl)]; rfl, by simp⟩
    · cases h
  | cons q ps ih =>
    intro p acc d e h
    cases q with
    | none =>
      rw [dtP] at h
      cases hd : dnF l p p [] none with
      | inl c => rw [hd] at h; cases h
      | inr v =>
        obtain ⟨s, nx⟩ := v
        rw [hd] at h
        simp only at h
        split at h
        · obtain ⟨ds, hds, hp, hl⟩ := ih _ _ _ _ h
          obtain ⟨g1, g2⟩ := dnF_split hd
          refine ⟨s ++ ds, by rw [hds]; simp, ?_, ?_⟩
          · have hn : Dt.nameAtS (bA s ++ bA ds) = bA s := nameAt_app g1
            have hz : (bA s).size ≠ 0 := by
              obtain ⟨k1, k2⟩ := (Dt.name_iff (bA s)).1 g1
              omega
            rw [List.map_cons, Dt.parts, bA_app]
            have hsz : Dt.sz (toPc none) (bA s ++ bA ds) = some (bA s).size := by
              show Dt.sz .nm _ = _
              rw [Dt.sz, hn, if_neg hz]
            rw [hsz]
            simp only
            have hr : (bA s ++ bA ds).extract (bA s).size (bA s ++ bA ds).size = bA ds := by
              apply Nm.ba_ext
              rw [ex_list, ByteArray.data_append, Array.toList_append, List.drop_left' (by simp), ByteArray.size_append, Nat.add_sub_cancel_left, List.take_of_length_le (by simp)]
            rw [hr, Option.isSome_map]
            exact hp
          · simp only [List.length_append, pcMax]
            omega
        · cases h
    | some n =>
      rw [dtP] at h
      split at h
      · rename_i hle
        obtain ⟨ds, hds, hp, hl⟩ := ih _ _ _ _ h
        refine ⟨cutL l p n ++ ds, by rw [hds]; simp, ?_, ?_⟩
        · have hcl : (cutL l p n).length = n := cutL_length (by omega)
          rw [List.map_cons, Dt.parts, bA_app]
          have hsz : Dt.sz (toPc (some n)) (bA (cutL l p n) ++ bA ds) = some n := by
            show Dt.sz (.bs n) _ = _
            rw [Dt.sz, if_pos (by rw [ByteArray.size_append, bA_size, hcl]; omega)]
          rw [hsz]
          simp only
          have hr : (bA (cutL l p n) ++ bA ds).extract n (bA (cutL l p n) ++ bA ds).size = bA ds := by
            apply Nm.ba_ext
            rw [ex_list, ByteArray.data_append, Array.toList_append, List.drop_left' (by rw [bA_data, hcl]), ByteArray.size_append, bA_size, hcl, Nat.add_sub_cancel_left, List.take_of_length_le (by simp)]
          rw [hr, Option.isSome_map]
          exact hp
        · have hcl : (cutL l p n).length = n := cutL_length (by omega)
          simp only [List.length_append, pcMax, hcl]
          omega
      · cases h

theorem pieces_max {t : Nat} (h : pointed t) : pcMax (piecesOf t) ≤ 600 := by
  rcases h with rfl | rfl | rfl | rfl | rfl <;> decide

theorem parts_code {t : Nat} {d : ByteArray} (ht : t < 65536) (hd : d.size ≤ 65535) (h : (Dt.parts (Dt.implP t) d).isSome = true) : cutCode t d = 0 := by
  obtain ⟨xs, hx⟩ := Option.isSome_iff_exists.1 h
  exact (code_some (by omega) (by omega) (by rw [Dt.spans_of_parts, hx]; rfl)).1

/-- Data that was read may stand in a message. -/
theorem dataS_ok {l : List UInt8} {t p fin e : Nat} {d : List UInt8} (hfin : fin ≤ l.length) (ht : t < 65536) (h : dataS l t p fin = .ok d e) : (bA d).size = 0 ∨ cutCode t (bA d) = 0 := by
  rw [dataS] at h
  split at h
  · simp only [Sum.inr.injEq, Prod.mk.injEq] at h
    obtain ⟨rfl, _⟩ := h
    exact .inl rfl
  · split at h
    · rename_i hp
      obtain ⟨ds, hds, h1, h2⟩ := dtP_form hfin _ _ _ _ _ h
      rw [List.nil_append] at hds
      subst hds
      have := pieces_max hp
      right
      exact parts_code ht (by rw [bA_size]; omega) (by rw [implP_pieces hp]; exact h1)
    · split at h
      · rename_i hc
        simp only [Sum.inr.injEq, Prod.mk.injEq] at h
        obtain ⟨rfl, _⟩ := h
        exact .inr hc
      · cases h

def qrOf (q : Qm) : Qr := ⟨bA q.name, q.ty, q.cl⟩
def rrOf (r : Rm) : Rr := ⟨bA r.owner, r.ty, r.cl, r.ttl, bA r.dat⟩
theorem inB_of {n : Nat} {m : Int} (h : (n : Int) ≤ m) : inB (n : Int) m = true := by simp [inB, h]
theorem quS_okV {l : List UInt8} {p e : Nat} {q : Qm} (h : quS l p = .ok q e) : quOK (qrOf q) = true := by
  rw [quS] at h
  cases hd : dnF l p p [] none with
  | inl c => rw [hd] at h; cases h
  | inr v =>
    obtain ⟨s, nx⟩ := v
    rw [hd] at h
    simp only at h
    split at h
    · simp only [Sum.inr.injEq, Prod.mk.injEq] at h
      obtain ⟨rfl, _⟩ := h
      have a := n16_lt l nx
      have b := n16_lt l (nx + 2)
      have g := (dnF_split hd).1
      simp only [quOK, qrOf, bA, Bool.and_eq_true]
      exact ⟨⟨g, inB_of (by omega)⟩, inB_of (by omega)⟩
    · cases h
theorem rrS_okV {l : List UInt8} {p e : Nat} {r : Rm} (h : rrS l p = .ok r e) : rcOK (rrOf r) = true := by
  rw [rrS] at h
  cases hd : dnF l p p [] none with
  | inl c => rw [hd] at h; cases h
  | inr v =>
    obtain ⟨s, nx⟩ := v
    rw [hd] at h
    simp only at h
    split at h
    · split at h
      · rename_i h1 h2
        cases hq : dataS l (n16 l nx) (nx + 10) (nx + 10 + n16 l (nx + 8)) with
        | inl c => rw [hq] at h; cases h
        | inr v2 =>
          obtain ⟨d, z⟩ := v2
          rw [hq] at h
          simp only [Sum.inr.injEq, Prod.mk.injEq] at h
          obtain ⟨rfl, _⟩ := h
          have a := n16_lt l nx
          have b := n16_lt l (nx + 2)
          have c := n32_lt l (nx + 4)
          have g := (dnF_split hd).1
          have k := dataS_ok h2 a hq
          have k' : decide ((bA d).size = 0) = true ∨ cutCode (n16 l nx : Nat) (bA d) = 0 := k.elim (fun h => .inl (decide_eq_true h)) .inr
          simp only [rcOK, rrOf, Bool.and_eq_true, Bool.or_eq_true, beq_iff_eq]
          exact ⟨⟨⟨⟨g, inB_of (by omega)⟩, inB_of (by omega)⟩, inB_of (by omega)⟩, k'⟩
      · cases h
    · cases h
theorem manyS_ok {α : Type} {f : Nat → Rs α} {P : α → Prop} (hf : ∀ p x e, f p = .ok x e → P x) : ∀ (n p : Nat) (acc xs : List α) (e : Nat), (∀ x ∈ acc, P x) → manyS f n p acc = .ok xs e → (∀ x ∈ xs, P x) ∧ xs.length = acc.length + n := by
  intro n
  induction n with
  | zero =>
    intro p acc xs e ha h
    rw [manyS] at h
    simp only [Sum.inr.injEq, Prod.mk.injEq] at h
    obtain ⟨rfl, _⟩ := h
    exact ⟨ha, by simp⟩
  | succ n ih =>
    intro p acc xs e ha h
    rw [manyS] at h
    cases hd : f p with
    | inl c => rw [hd] at h; cases h
    | inr v =>
      obtain ⟨x, q⟩ := v
      rw [hd] at h
      obtain ⟨h1, h2⟩ := ih q (acc ++ [x]) xs e (by
        intro y hy
        rcases List.mem_append.1 hy with hy | hy
        · exact ha y hy
        · simp at hy; subst hy; exact hf _ _ _ hd) h
      exact ⟨h1, by rw [h2]; simp; omega⟩

/-- The head that two numbers say. -/
def hrOf (d f : Nat) : Hr := ⟨d, f.testBit 15, ((f / 2048 % 16 : Nat) : Int), f.testBit 10, f.testBit 9, f.testBit 8, f.testBit 7, f.testBit 6, f.testBit 5, f.testBit 4, ((f % 16 : Nat) : Int)⟩
theorem hrOf_V (d f : Nat) : (hrV (hrOf d f)).toArray = hdA d f := rfl
def mgOf (l : List UInt8) (M : Mm) : Mg := ⟨hrOf (n16 l 0) (n16 l 2), M.qs.map qrOf, M.an.map rrOf, M.au.map rrOf, M.ex.map rrOf⟩
/-- What is read as a message is a valid one. -/
theorem msgS_ok {l : List UInt8} {M : Mm} {e : Nat} (h : msgS l = .ok M e) : mgOK (mgOf l M) = true := by
  rw [msgS] at h
  split at h
  · cases h
  · split at h
    · cases h
    · split at h
      · cases h
      · rename_i hb hs hc
        rw [listsS] at h
        cases h1 : manyS (quS l) (n16 l 4) 12 [] with
        | inl c => rw [h1] at h; cases h
        | inr v1 =>
          obtain ⟨qs, p1⟩ := v1
          rw [h1] at h
          simp only at h
          cases h2 : manyS (rrS l) (n16 l 6) p1 [] with
          | inl c => rw [h2] at h; cases h
          | inr v2 =>
            obtain ⟨an, p2⟩ := v2
            rw [h2] at h
            simp only at h
            cases h3 : manyS (rrS l) (n16 l 8) p2 [] with
            | inl c => rw [h3] at h; cases h
            | inr v3 =>
              obtain ⟨au, p3⟩ := v3
              rw [h3] at h
              simp only at h
              cases h4 : manyS (rrS l) (n16 l 10) p3 [] with
              | inl c => rw [h4] at h; cases h
              | inr v4 =>
                obtain ⟨ex, p4⟩ := v4
                rw [h4] at h
                simp only at h
                split at h
                · cases h
                · simp only [Sum.inr.injEq, Prod.mk.injEq] at h
                  obtain ⟨rfl, _⟩ := h
                  obtain ⟨a1, b1⟩ := manyS_ok (P := fun q => quOK (qrOf q) = true) (fun p x e h => quS_okV h) _ _ _ _ _ (by simp) h1
                  obtain ⟨a2, b2⟩ := manyS_ok (P := fun r => rcOK (rrOf r) = true) (fun p x e h => rrS_okV h) _ _ _ _ _ (by simp) h2
                  obtain ⟨a3, b3⟩ := manyS_ok (P := fun r => rcOK (rrOf r) = true) (fun p x e h => rrS_okV h) _ _ _ _ _ (by simp) h3
                  obtain ⟨a4, b4⟩ := manyS_ok (P := fun r => rcOK (rrOf r) = true) (fun p x e h => rrS_okV h) _ _ _ _ _ (by simp) h4
                  simp only [List.length_nil, Nat.zero_add] at b1 b2 b3 b4
                  have i1 := n16_lt l 0
                  have i2 := n16_lt l 2
                  have hq : (qs.map qrOf).all quOK = true := by
                    rw [List.all_map, List.all_eq_true]
                    exact a1
                  have hr : ∀ xs : List Rm, (∀ x ∈ xs, rcOK (rrOf x) = true) → (xs.map rrOf).all rcOK = true := by
                    intro xs hx
                    rw [List.all_map, List.all_eq_true]
                    exact hx
                  have hh : hdOK (hrOf (n16 l 0) (n16 l 2)) = true := by
                    simp only [hdOK, hrOf, Bool.and_eq_true]
                    exact ⟨⟨inB_of (by omega), inB_of (by omega)⟩, inB_of (by omega)⟩
                  simp only [mgOK, mgOf, Bool.and_eq_true, decide_eq_true_eq, List.length_map]
                  exact ⟨⟨⟨⟨⟨by omega, hh⟩, hq⟩, hr _ a2⟩, hr _ a3⟩, hr _ a4⟩

/-- What was read, written and read again is as it was. -/
theorem msgS_again {l : List UInt8} {M : Mm} {e : Nat} (h : msgS l = .ok M e) (hl : (msgW (mgOf l M)).1.length ≤ 65535) :
    msgS (msgW (mgOf l M)).1 = .ok M (msgW (mgOf l M)).1.length ∧ hdA (n16 (msgW (mgOf l M)).1 0) (n16 (msgW (mgOf l M)).1 2) = hdA (n16 l 0) (n16 l 2) := by
  have hok := msgS_ok h
  obtain ⟨d1, d2, d3⟩ := msgS_dec hok hl
  have hq : ∀ q : Qm, qmOf (qrOf q) = q := fun q => by simp [qmOf, qrOf, bA]
  have hr : ∀ r : Rm, rmOf (rrOf r) = r := fun r => by simp [rmOf, rrOf, bA]
  have hM : mmOf (mgOf l M) = M := by
    obtain ⟨qs, an, au, ex⟩ := M
    simp only [mmOf, mgOf, List.map_map]
    congr 1
    · simp [Function.comp_def, hq]
    · simp [Function.comp_def, hr]
    · simp [Function.comp_def, hr]
    · simp [Function.comp_def, hr]
  refine ⟨by rw [d1, hM], ?_⟩
  simp only [mgOK, Bool.and_eq_true] at hok
  rw [d2, d3, hd_bits hok.1.1.1.1.2]
  exact hrOf_V _ _
end Go.Proofs.Ytihhchebcojplaa
/- How long a message is at most: mathematics. -/
namespace Go.Proofs.Ytihhchebcojplaa
open Go.RowKit
set_option linter.unusedVariables false

theorem rrWs_all (m : Mg) (h : mgOK m = true) : (msgW m).1.length ≤ 30000000 := by
  simp only [mgOK, Bool.and_eq_true, decide_eq_true_eq] at h
  obtain ⟨⟨⟨⟨⟨hsm, hhd⟩, hqs⟩, han⟩, hau⟩, hex⟩ := h
  have h0 := hdW_len m
  have h1 := qqWs_len m.qs (hdW m, []) hqs
  have h2 := rrWs_len m.an (qqWs m.qs (hdW m, [])) han
  have h3 := rrWs_len m.au (rrWs m.an (qqWs m.qs (hdW m, []))) hau
  have h4 := rrWs_len m.ex (rrWs m.au (rrWs m.an (qqWs m.qs (hdW m, [])))) hex
  rw [msgW]
  simp only [h0] at h1
  omega
end Go.Proofs.Ytihhchebcojplaa
/- Encode, the program's, by its contract. -/
namespace Go.Proofs.Ytihhchebcojplaa
open Go.RowKit
set_option linter.unusedVariables false

def enB (m : Mg) : List UInt8 := if mgOK m then (if (msgW m).1.length ≤ 65535 then (msgW m).1 else []) else []
def enC (m : Mg) : Nat := if mgOK m then (if (msgW m).1.length ≤ 65535 then 0 else 11) else 32
theorem enB_len (m : Mg) : (enB m).length ≤ 65535 := by
  unfold enB
  split
  · split
    · assumption
    · simp
  · simp

set_option maxRecDepth 100000 in
set_option maxHeartbeats 1600000 in
theorem implEncode_any (m : Mg) (q a u x : Value) (w : World) (h : MRow w m q a u x) (hm : MSmall m) :
    Calls Try.prog 8 #[.agg (mgV m.hd q a u x)] w fun e w' => ∃ v, e = .returned (.tuple #[v, .int .i64 (enC m : Int)]) ∧ w'.ownsRow w.heap.size 5 1 v (enB m).length (Nm.bys (enB m)) ∧ Below w.heap.size w w' := by
  have kb := blk_new w (mgV m.hd q a u x) 29
  have hB0 := (Below.refl w.heap.size w).alloc (Nat.le_refl _) (.cells (mgV m.hd q a u x) 29)
  have hva := validMessage_any m q a u x _ (h.below hB0) hm
  have hmb := fun W (hb : Below w.heap.size w W) (ho : mgOK m = true) => messageBytes_any m q a u x W ⟨h.rq.below hb, h.ra.below hb, h.ru.below hb, h.rx.below hb⟩ hm ho
  have hlen := rrWs_all m
  obtain ⟨N, hN⟩ : ∃ N, enB m = N := ⟨_, rfl⟩
  obtain ⟨C, hC⟩ : ∃ C, enC m = C := ⟨_, rfl⟩
  rw [hN, hC]
  rw [enB] at hN
  rw [enC] at hC
  obtain ⟨_, qa, qc, rfl, _⟩ := h.rq
  obtain ⟨_, aa, ac, rfl, _⟩ := h.ra
  obtain ⟨_, ua, uc, rfl, _⟩ := h.ru
  obtain ⟨_, xa, xc, rfl, _⟩ := h.rx
  clear h hm
  generalize mgOK m = OK at *
  generalize msgW m = RES at *
  obtain ⟨⟨i0, b1, i2, b3, b4, b5, b6, b7, b8, b9, i10⟩, qs, an, au, ex⟩ := m
  simp only [mgV] at *
  cases OK with
  | false =>
    simp only [Bool.false_eq_true, if_false] at hN hC
    subst hN hC
    clear hmb hlen
    go_enter Try.func8, Try.ntmps8
    go_wp2_with (go_at_call 19; refine hva.mono ?_; rintro e w1 ⟨rfl, hb1⟩)
    go_ret2
    exact ⟨_, rfl, World.ownsRow_nil _ _ _ _, Nm.below_two hB0 hb1⟩
  | true =>
    simp only [if_true] at hN hC
    have hl2 : RES.1.length ≤ 30000000 := hlen rfl
    by_cases hbig : RES.1.length ≤ 65535
    · rw [if_pos hbig] at hN hC
      subst hN hC
      have hb' : (RES.1.length : Int) ≤ 65535 := by omega
      go_enter Try.func8, Try.ntmps8
      go_wp2_with first
        | (go_at_call 19; refine hva.mono ?_; rintro e w1 ⟨rfl, hb1⟩; have k1 := blk_below kb hb1; have rr := fun i => blk_cell k1 i)
        | (go_at_call 20; refine (hmb _ (Nm.below_two hB0 hb1) trivial).mono ?_; rintro e w2 ⟨v2, rfl, hown2, hb2⟩; obtain ⟨x2, y2, hv2⟩ := own_sl hown2; subst hv2)
      go_ret2
      have hb01 := Nm.below_two hB0 hb1
      exact ⟨_, rfl, hown2.mono hb01.size, Nm.below_two hb01 hb2⟩
    · rw [if_neg hbig] at hN hC
      subst hN hC
      have hb' : (65535 : Int) < (RES.1.length : Int) := by omega
      go_enter Try.func8, Try.ntmps8
      go_wp2_with first
        | (go_at_call 19; refine hva.mono ?_; rintro e w1 ⟨rfl, hb1⟩; have k1 := blk_below kb hb1; have rr := fun i => blk_cell k1 i)
        | (go_at_call 20; refine (hmb _ (Nm.below_two hB0 hb1) trivial).mono ?_; rintro e w2 ⟨v2, rfl, hown2, hb2⟩; obtain ⟨x2, y2, hv2⟩ := own_sl hown2; subst hv2)
      go_ret2
      exact ⟨_, rfl, World.ownsRow_nil _ _ _ _, Nm.below_two (Nm.below_two hB0 hb1) hb2⟩
end Go.Proofs.Ytihhchebcojplaa
