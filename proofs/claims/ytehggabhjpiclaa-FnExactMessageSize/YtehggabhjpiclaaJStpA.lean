import Derived.Test.YtehggabhjpiclaaRows
import Derived.Laws.AppendOwn
import Derived.Deep.RegionHeld3
import Derived.Deep.RegionLaw
import Derived.Test.YtehggabhjpiclaaJBitM
import Derived.RegionTactic
import Derived.BigRegion
/- A step of a drawn region: append onto a row of one's own. -/
namespace Go.Proofs.Ytehggabhjpiclaa
open Go
set_option linter.unusedVariables false

theorem step_append_own {P : Program} {ops : Array Oper} {o : Oper} {a : Act} {w : World} {K : Act → World → Prop} {Q : Exit → Act → World → Prop} {E : Prop} (hgd : o.guard = none) (s x : Operand) (t : TypeId)
    (ho : o.op = .call { callee := .builtin .append, args := #[s, x], argTypes := #[t, t] })
    (base : Nat) (e : TypeId) (i : TypeInfo) (z : Value) (size bytes : Nat) (ht : P.underlying t = some (.slice e)) (hi : P.info? e = some i) (hz : i.zero = some z)
    (hsize : i.size = size) (hby : i.bytes = bytes) (hzs : z.cells.size = size) (hsz : 0 < size)
    (v : Value) (n : Nat) (xs : List Value) (hs : a.eval s = v) (hown : w.ownsRow base e size v n xs)
    (ad : Addr) (m c : Nat) (news : List Value) (hx : a.eval x = .slice (some ad) m c) (hl : news.length = m * size) (hnews : ∀ j u, news[j]? = some u → w.cell? (ad.add j) = some u) (h1 : ∀ u ∈ news, u.oneCell' = true)
    (h63 : n + m ≤ maxLen) (hbytes : (n + m) * bytes ≤ 140737488355328) (hbase : base ≤ w.heap.size)
    (h : ∀ v' w', w'.ownsRow base e size v' (n + m) (xs ++ news) → w.grownBy w' v.ownBlock → (v' = .slice none 0 0 ↔ v = .slice none 0 0 ∧ m = 0) → K (a.put o.dst v') w') :
    if Region.wanted o (yielded ops a.tmps) = true then Oper.wp P o a w K Q else E := by
  have hw : Region.wanted o (yielded ops a.tmps) = true := by simp [Region.wanted, hgd]
  rw [if_pos hw]
  exact wp_append_own w s x t ho base e i z size bytes ht hi hz hsize hby hzs hsz v n xs hs hown ad m c news hx hl hnews h1 h63 hbytes hbase h

end Go.Proofs.Ytehggabhjpiclaa
/- Folding, and the order of texts, as plain mathematics. -/
namespace Go.Proofs.Ytehggabhjpiclaa.Nm
open Go.RowKit

def low (c : UInt8) : UInt8 := if 65 ≤ c.toNat ∧ c.toNat ≤ 90 then UInt8.ofNat (c.toNat + 32) else c
def smallL (l : List UInt8) : List UInt8 := l.map low
def small (s : ByteArray) : ByteArray := ⟨(smallL s.data.toList).toArray⟩

theorem low_up {c : UInt8} (h : 65 ≤ c.toNat ∧ c.toNat ≤ 90) : ((low c).toNat : Int) = (c.toNat : Int) + 32 := by
  rw [low, if_pos h]; simp; omega
theorem low_id {c : UInt8} (h : ¬ (65 ≤ c.toNat ∧ c.toNat ≤ 90)) : low c = c := by rw [low, if_neg h]

theorem small_data (s : ByteArray) : (small s).data.toList = smallL s.data.toList := by simp [small]
theorem small_size (s : ByteArray) : (small s).size = s.size := by
  have : (small s).data.toList.length = s.data.toList.length := by rw [small_data]; simp [smallL]
  simpa using this

theorem ba_ext {a b : ByteArray} (h : a.data.toList = b.data.toList) : a = b := by
  apply ByteArray.ext
  exact Array.toList_inj.1 h

theorem smallL_step {l : List UInt8} {k : Nat} {c : UInt8} (h : l[k]? = some c) : smallL (l.take (k + 1)) = smallL (l.take k) ++ [low c] := by
  rw [take_step h]; simp [smallL]

theorem get_data {x : ByteArray} {j : Nat} (h : j < x.size) : x.data.toList[j]? = some x[j] := by
  rw [List.getElem?_eq_getElem (by simpa using h)]; rfl

/-! What 'split' gives back, put together again. -/

theorem cut_data (r : ByteArray) (h : 0 < r.size) (n : Nat) :
    r.data.toList = r[0] :: ((r.extract 1 (n + 1)).data.toList ++ (r.extract (n + 1) r.size).data.toList) := by
  have e0 : r.data.toList = r[0] :: r.data.toList.drop 1 := by
    have hl : 0 < r.data.toList.length := by simpa using h
    have := List.drop_eq_getElem_cons (i := 0) hl
    rw [List.drop_zero] at this
    exact this
  rw [e0]
  congr 1
  have e1 : (r.extract 1 (n + 1)).data.toList = (r.data.toList.drop 1).take n := by simp
  have e2 : (r.extract (n + 1) r.size).data.toList = (r.data.toList.drop 1).drop n := by
    simp only [ByteArray.data_extract, Array.toList_extract, List.drop_drop]
    rw [List.extract_eq_take_drop, List.take_of_length_le (by simp)]
    congr 1
    omega
  rw [e1, e2, List.take_append_drop]

theorem splitF_join : ∀ (f : Nat) (r : ByteArray) (ls : List ByteArray), splitF f r = some ls → joinL ls = r.data.toList ∧ ∀ x ∈ ls, 1 ≤ x.size ∧ x.size ≤ 63 := by
  intro f
  induction f with
  | zero => intro r ls h; simp [splitF] at h
  | succ f ih =>
    intro r ls h
    by_cases hp : 0 < r.size
    · by_cases h0 : r[0].toNat = 0
      · by_cases h1 : r.size = 1
        · rw [splitF_end f r hp h0 h1] at h
          simp at h
          subst h
          refine ⟨?_, by simp⟩
          have e := cut_data r hp 0
          have z : r[0] = 0 := UInt8.toNat_inj.1 (by simpa using h0)
          rw [e, z]
          have e1 : (r.extract 1 (0 + 1)).data.toList = [] := by simp
          have e2 : (r.extract (0 + 1) r.size).data.toList = [] := by simp [h1]
          rw [e1, e2]; rfl
        · rw [splitF_zero f r hp h0 h1] at h; simp at h
      · by_cases h1 : 63 < r[0].toNat ∨ r.size < r[0].toNat + 1
        · rw [splitF_bad f r hp h0 h1] at h; simp at h
        · rw [splitF_step f r hp h0 (by omega) (by omega)] at h
          cases e : splitF f (r.extract (r[0].toNat + 1) r.size) with
          | none => rw [e] at h; simp at h
          | some t =>
            rw [e] at h
            simp at h
            obtain ⟨i1, i2⟩ := ih _ _ e
            have hsz : (r.extract 1 (r[0].toNat + 1)).size = r[0].toNat := by simp; omega
            rw [← h]
            constructor
            · rw [cut_data r hp r[0].toNat, ← i1]
              simp only [joinL, preL, hsz]
              simp
            · intro x hx
              rcases List.mem_cons.1 hx with rfl | hx
              · rw [hsz]; omega
              · exact i2 x hx
    · rw [splitF_empty _ r (by omega)] at h; simp at h

theorem split_join {s : ByteArray} {ls : List ByteArray} (h : split s = some ls) : joinL ls = s.data.toList ∧ ∀ x ∈ ls, 1 ≤ x.size ∧ x.size ≤ 63 := by
  by_cases hl : s.size ≤ 255
  · rw [split_short s hl] at h
    exact splitF_join _ _ _ h
  · rw [split_long s (by omega)] at h; simp at h

theorem low_len {n : Nat} (h : n ≤ 63) : low (UInt8.ofNat n) = UInt8.ofNat n := by
  apply low_id
  simp; omega

theorem preL_small (ls : List ByteArray) (h : ∀ x ∈ ls, x.size ≤ 63) : preL (ls.map small) = smallL (preL ls) := by
  induction ls with
  | nil => rfl
  | cons x r ih =>
    have hx := h x (List.mem_cons_self)
    have := ih (fun y hy => h y (List.mem_cons_of_mem _ hy))
    simp only [List.map_cons, preL, small_size, small_data, this]
    simp [smallL, low_len hx]

theorem joinL_small {s : ByteArray} {ls : List ByteArray} (h : split s = some ls) : (⟨(joinL (ls.map small)).toArray⟩ : ByteArray) = small s := by
  obtain ⟨h1, h2⟩ := split_join h
  apply ba_ext
  rw [small_data, ← h1]
  simp only [joinL]
  rw [preL_small ls (fun x hx => (h2 x hx).2)]
  simp [smallL, low]

theorem wsum_small (ls : List ByteArray) : wsum (ls.map small) = wsum ls := by
  induction ls with
  | nil => rfl
  | cons x r ih => simp only [List.map_cons, wsum, small_size, ih]

def foldS (s : ByteArray) : ByteArray := if (split s).isSome then small s else ByteArray.empty
theorem foldS_none {s : ByteArray} (h : split s = none) : foldS s = ByteArray.empty := by simp [foldS, h]
theorem foldS_some {s : ByteArray} {ls : List ByteArray} (h : split s = some ls) : foldS s = small s := by simp [foldS, h]

end Go.Proofs.Ytehggabhjpiclaa.Nm
/- The model's writer; spec.l04Text by its contract. -/
namespace Go.Proofs.Ytehggabhjpiclaa
open Go.RowKit
set_option linter.unusedVariables false

def plV (p : ByteArray × Nat) : List Value := [.string p.1, .int .i64 (p.2 : Int)]
def plVs (l : List (ByteArray × Nat)) : List Value := l.flatMap plV
theorem plVs_app (a b : List (ByteArray × Nat)) : plVs (a ++ b) = plVs a ++ plVs b := by simp [plVs]

/-- The model's writer lies in block g. -/
structure SW (w : World) (g B : Nat) (bs : List UInt8) (pls : List (ByteArray × Nat)) (vb vp : Value) : Prop where
  blk : Blk w g #[vb, vp] 62
  rb : w.ownsRow B 5 1 vb bs.length (Nm.bys bs)
  rp : w.ownsRow B 102 2 vp pls.length (plVs pls)
  bg : B ≤ g
theorem SW.below {w W : World} {g B : Nat} {bs : List UInt8} {pls : List (ByteArray × Nat)} {vb vp : Value} (h : SW w g B bs pls vb vp) (hb : Below w.heap.size w W) : SW W g B bs pls vb vp := ⟨blk_below h.blk hb, own_below h.rb hb, own_below h.rp hb, h.bg⟩

theorem own_blk {W : World} {B e s m b : Nat} {v : Value} {xs : List Value} {cs : Array Value} {T : TypeId} (h : W.ownsRow B e s v m xs) (hb : Blk W b cs T) (hne : e ≠ T) : v.ownBlock ≠ some b := by
  rcases h.2 with ⟨rfl, _⟩ | ⟨g', cap', cur, rfl, _, hh, _⟩
  · simp [Value.ownBlock]
  · simp only [Value.ownBlock, ne_eq, Option.some.injEq]
    intro e2
    subst e2
    unfold Blk at hb
    rw [hh] at hb
    simp at hb
    exact hne hb.2
theorem own_beside {W W1 : World} {B e s m : Nat} {v u : Value} {xs : List Value} (h : W.ownsRow B e s v m xs) (hg : W.grownBy W1 u.ownBlock) (ha : ∀ g, u.ownBlock = some g → v.ownBlock ≠ some g) : W1.ownsRow B e s v m xs := by
  refine h.kept hg ?_
  cases hu : u.ownBlock with
  | none =>
    cases hv : v.ownBlock with
    | none => exact .inl rfl
    | some k => right; simp
  | some k => right; exact ha k hu
theorem own_kinds {W : World} {B e s m B' e' s' m' : Nat} {v u : Value} {xs ys : List Value} (h : W.ownsRow B e s v m xs) (h' : W.ownsRow B' e' s' u m' ys) (hne : e ≠ e') : ∀ g, u.ownBlock = some g → v.ownBlock ≠ some g := by
  intro g hg
  rcases h'.2 with ⟨rfl, _⟩ | ⟨g', cap', cur', rfl, r⟩
  · cases hg
  · simp only [Value.ownBlock, Option.some.injEq] at hg
    subst hg
    exact own_ne h ⟨h'.1, .inr ⟨g', cap', cur', rfl, r⟩⟩ hne

/-- Below B, and of other types than the writer's own nothing is changed. -/
structure Bk (B : Nat) (w w' : World) : Prop where
  be : Below B w w'
  kp : ∀ k cs T, Blk w k cs T → T ≠ 5 → T ≠ 102 → T ≠ 62 → Blk w' k cs T
theorem Bk.refl (B : Nat) (w : World) : Bk B w w := ⟨Below.refl _ _, fun _ _ _ h _ _ _ => h⟩
theorem Bk.trans {B : Nat} {a b c : World} (h : Bk B a b) (k : Bk B b c) : Bk B a c := ⟨h.be.trans k.be, fun i cs T hb h1 h2 h3 => k.kp i cs T (h.kp i cs T hb h1 h2 h3) h1 h2 h3⟩
theorem Bk.of {B : Nat} {w w' : World} (h : Below w.heap.size w w') (hB : B ≤ w.heap.size) : Bk B w w' := ⟨h.mono hB, fun i cs T hb _ _ _ => blk_below hb h⟩
theorem Bk.app {B e s n : Nat} {w W W1 : World} {v : Value} {xs : List Value} (h : Bk B w W) (ho : W.ownsRow B e s v n xs) (hg : W.grownBy W1 v.ownBlock) (hB : B ≤ W.heap.size) (he : e = 5 ∨ e = 102) : Bk B w W1 := by
  refine ⟨h.be.grown hg hB (fun q hq => (ho.lt q hq).1), fun i cs T hb h1 h2 h3 => ?_⟩
  have hb' := h.kp i cs T hb h1 h2 h3
  refine blk_grown hb' hg (fun e => own_blk ho hb' ?_ e)
  rcases he with rfl | rfl
  · exact Ne.symm h1
  · exact Ne.symm h2
theorem Bk.set {B g : Nat} {w W : World} {cs : Array Value} (h : Bk B w W) (hb : Blk W g cs 62) (hg : B ≤ g) (i : Nat) (v : Value) : Bk B w (W.setCell ⟨g, i, none⟩ v) := by
  refine ⟨h.be.setCell hg _, fun k c T hk h1 h2 h3 => ?_⟩
  have hk' := h.kp k c T hk h1 h2 h3
  refine blk_far hk' (fun e => ?_)
  subst e
  unfold Blk at hk' hb
  rw [hb] at hk'
  simp at hk'
  exact h3 hk'.2.symm

theorem Try.infoU8w : (Try.prog.info? 5).map (fun i => (i.zero, i.size, i.bytes)) = some (some (.int .u8 0), 1, 1) := by kernel_rfl

theorem byte_in (s : ByteArray) (k : Nat) (hk : k < s.size) (W : World) : (Instr.index 9 (.string s) (.int .i64 (k : Int))).run Try.prog W = .ok (.int .u8 (s[k].toNat : Int)) W := by
  rw [run_index_string W 9 s .i64 (k : Int) Try.underlying9]
  simp [hk]
theorem cell_newW (w : World) (cs : Array Value) (e : Nat) : ∀ (j : Nat) (u : Value), cs.toList[j]? = some u → (w.alloc (.cells cs e)).cell? ((⟨w.heap.size, 0, none⟩ : Addr).add j) = some u := by
  intro j u h
  rw [Nm.addr_add, Nat.zero_add]
  have : (w.alloc (.cells cs e)).heap[w.heap.size]? = some (.cells cs e (0, 0)) := by show (w.heap.push _)[w.heap.size]? = _; simp
  rw [cell_of_row _ _ _ _ _ _ this]
  simpa using h

set_option maxRecDepth 100000 in
set_option maxHeartbeats 3200000 in
theorem l04Text_any (s : ByteArray) (g B : Nat) (bs : List UInt8) (pls : List (ByteArray × Nat)) (vb vp : Value) (w : World) (h : SW w g B bs pls vb vp) (hB : B ≤ w.heap.size) (hl : bs.length + s.size ≤ 100000000) :
    Calls Try.prog 26 #[.pointer (some ⟨g, 0, none⟩), .string s] w fun e w' => e = .returned (.tuple #[]) ∧ ∃ vb', SW w' g B (bs ++ s.data.toList) pls vb' vp ∧ Bk B w w' := by
  obtain ⟨i0, hi, hz0, hz1, hz2⟩ := info_parts Try.infoU8w
  have hsz : s.data.toList.length = s.size := by simp
  have hbyte := fun k hk W => byte_in s k hk W
  go_enter Try.func26, Try.ntmps26
  go_wp2
  go_loopw [4] (fun i wr => ∃ (k : Nat) (vb' : Value), k ≤ s.size ∧ i = .int .i64 k ∧ SW wr g B (bs ++ s.data.toList.take k) pls vb' vp ∧ B ≤ wr.heap.size ∧ Bk B w wr) (fun i _ => s.size - (intOf i).toNat)
  case atStart => exact ⟨0, vb, Nat.zero_le _, rfl, by simpa using h, hB, Bk.refl _ _⟩
  case round =>
    obtain ⟨k, vb', hk, rfl, hS, hBw, hbel⟩ := hrel
    clear h hB
    by_cases hlt : k < s.size
    · have hlt' : (k : Int) < (s.size : Int) := by omega
      have hby := hbyte k hlt
      obtain ⟨xa, ya, hv⟩ := own_sl hS.rb
      have hN : (bs ++ s.data.toList.take k).length = bs.length + k := by simp; omega
      rw [hN] at hv
      subst hv
      have hb' := hS.rb
      rw [hN] at hb'
      have HT : Hid (Nm.bys (bs ++ s.data.toList.take k) ++ [.int .u8 (s[k].toNat : Int)] = Nm.bys (bs ++ s.data.toList.take (k + 1))) := by
        show _ = _
        rw [List.take_add_one, Nm.get_data hlt, ← List.append_assoc]
        simp [Nm.bys]
      have HL : Hid (bs.length + k + 1 = (bs ++ s.data.toList.take (k + 1)).length) := by show _ = _; simp; omega
      have c0 : wr.cell? ⟨g, 0, none⟩ = some (.slice xa (bs.length + k) ya) := (blk_cell hS.blk 0).trans rfl
      generalize (s[k].toNat : Int) = cc at *
      clear hbyte
      go_wp2_with fail
      refine wp_region_last (fun W => W.cell? ⟨g, 0, none⟩ = some (.slice xa (bs.length + k) ya)) 12 (by kernel_rfl) c0 (fun hHeld => ?_)
      refine wpAnyL_take (i := 0) (v := ?_) rfl (by kernel_rfl) (by kernel_rfl) (by kernel_rfl) (by kernel_rfl) (fun _ _ _ h => h) (Or.inl ⟨by rfl, ?_⟩) (by assumption) ?_
      rotate_left 1
      · (intro w hSw; go_simp; try (with_reducible rfl))
      refine wpAnyL_take (i := 1) (v := ?_) rfl (by kernel_rfl) (by kernel_rfl) (by kernel_rfl) (by kernel_rfl) (fun _ _ _ h => h) (Or.inl ⟨by rfl, ?_⟩) (by assumption) ?_
      rotate_left 1
      · (intro w hSw; go_simp; try (with_reducible rfl))
      refine wpAnyL_take (i := 2) (v := ?_) rfl (by kernel_rfl) (by kernel_rfl) (by kernel_rfl) (by kernel_rfl) (fun _ _ _ h => h) (Or.inl ⟨by rfl, ?_⟩) (by assumption) ?_
      rotate_left 1
      · (intro w hSw; go_simp; try (with_reducible rfl))
      refine wpAnyL_take (i := 3) (v := ?_) rfl (by kernel_rfl) (by kernel_rfl) (by kernel_rfl) (by kernel_rfl) (fun _ _ _ h => h) (Or.inl ⟨by rfl, ?_⟩) (by assumption) ?_
      rotate_left 1
      · (intro w hSw; go_simp; try (with_reducible rfl))
      refine wpAnyL_take (i := 4) (v := ?_) rfl (by kernel_rfl) (by kernel_rfl) (by kernel_rfl) (by kernel_rfl) (fun _ _ _ h => h) (Or.inl ⟨by rfl, ?_⟩) (by assumption) ?_
      rotate_left 1
      · (intro w hSw; go_simp; try (with_reducible rfl))
      refine wpAnyL_take (i := 5) (v := ?_) rfl (by kernel_rfl) (by kernel_rfl) (by kernel_rfl) (by kernel_rfl) (fun _ _ _ h => h) (Or.inl ⟨by rfl, ?_⟩) (by assumption) ?_
      rotate_left 1
      · (intro w hSw; go_simp; try (with_reducible rfl))
      refine wpAnyL_take (i := 6) (v := ?_) rfl (by kernel_rfl) (by kernel_rfl) (by kernel_rfl) (by kernel_rfl) (fun _ _ _ h => h) (Or.inl ⟨by rfl, ?_⟩) (by assumption) ?_
      rotate_left 1
      · (intro w hSw; go_simp; try (with_reducible rfl))
      refine wpAnyL_take (i := 7) (v := ?_) rfl (by kernel_rfl) (by kernel_rfl) (by kernel_rfl) (by kernel_rfl) (fun _ _ _ h => h) (Or.inl ⟨by rfl, ?_⟩) (by assumption) ?_
      rotate_left 1
      · (intro w hSw; go_simp; try (with_reducible rfl))
      have hSd : SW wr.drew g B (bs ++ s.data.toList.take k) pls (.slice xa (bs.length + k) ya) vp := hS.below (Below.refl _ _).drew
      have hSa := hSd.below ((Below.refl _ _).alloc (Nat.le_refl _) (.cells #[.int .u8 cc] 5))
      refine wpAnyL_one (i := 8) (by kernel_rfl) rfl (fun K hK => ?_)
      go_simp
      refine hK.out _ _ ((blk_cell hSa.blk 0).trans rfl) (fun hH2 => ?_)
      clear hK K
      refine wpAnyL_one (i := 9) (by kernel_rfl) rfl (fun K hK => ?_)
      have hba := hSa.rb
      rw [hN] at hba
      refine step_append_own rfl (.tmp 15) (.tmp 19) 42 rfl B 5 i0 _ 1 1 Try.underlying42 hi hz0 hz1 hz2 rfl (by decide) (.slice xa (bs.length + k) ya) (bs.length + k) (Nm.bys (bs ++ s.data.toList.take k)) (by rfl) hba ⟨wr.drew.heap.size, 0, none⟩ 1 1 [.int .u8 cc] (by rfl) rfl (cell_newW _ _ _) (by intro u hu; simp at hu; subst hu; rfl) (by unfold maxLen; omega) (by omega) (by simp; omega) ?_
      intro va wa hown9 hgrow9 hnl9
      clear hnl9
      rw [HT.out] at hown9
      obtain ⟨xb, yb, hvb⟩ := own_sl hown9
      have hblk9 : Blk wa g #[.slice xa (bs.length + k) ya, vp] 62 := blk_grown hSa.blk hgrow9 (fun e => own_blk hba hSa.blk (by decide) e)
      have hrp9 := own_beside hSa.rp hgrow9 (own_kinds hSa.rp hba (by decide))
      have b9 : Bk B w wa := (hbel.trans (Bk.of ((Below.refl wr.heap.size wr).drew.alloc (Nat.le_refl _) _) hBw)).app hba hgrow9 (by simp; omega) (.inl rfl)
      have c9 : wa.cell? ⟨g, 0, none⟩ = some (.slice xa (bs.length + k) ya) := (blk_cell hblk9 0).trans rfl
      have f9 := blk_frozen hblk9 0
      rw [hvb]
      refine hK.out _ _ c9 (fun hH3 => ?_)
      clear hK K
      refine wpAnyL_one (i := 10) (by kernel_rfl) rfl (fun K hK => ?_)
      go_simp
      refine hK.out _ _ c9 (fun hH4 => ?_)
      clear hK K
      refine wpAnyL_take (i := 11) (v := ?_) rfl (by kernel_rfl) (by kernel_rfl) (by kernel_rfl) (by kernel_rfl) (fun _ _ _ h => h) (Or.inl ⟨by rfl, ?_⟩) (by assumption) ?_
      rotate_left 1
      · (intro w hSw; go_simp; try (with_reducible rfl))
      refine wpAnyL_end (by kernel_rfl) rfl (by kernel_rfl) (fun K hK => ?_)
      go_simp
      refine hK.out _ _ ?_
      clear hK K
      rw [hvb] at hown9
      have hS10 : SW (wa.setCell ⟨g, 0, none⟩ (.slice xb (bs.length + k + 1) yb)) g B (bs ++ s.data.toList.take (k + 1)) pls (.slice xb (bs.length + k + 1) yb) vp := ⟨blk_set hblk9 0 _, by rw [← HL.out]; exact own_far hown9 (own_blk hown9 hblk9 (by decide)), own_far hrp9 (own_blk hrp9 hblk9 (by decide)), hS.bg⟩
      have b10 : Bk B w (wa.setCell ⟨g, 0, none⟩ (.slice xb (bs.length + k + 1) yb)) := b9.set hblk9 hS.bg _ _
      have hB10 : B ≤ (wa.setCell ⟨g, 0, none⟩ (.slice xb (bs.length + k + 1) yb)).heap.size := by have := blk_lt hblk9; have := hS.bg; simp; omega
      generalize wa.setCell ⟨g, 0, none⟩ (.slice xb (bs.length + k + 1) yb) = W10 at *
      clear hown9 hgrow9 hblk9 hrp9 b9 c9 f9 hba hSa hSd hS c0
      go_wp2
      go_roundw
      case rel => exact ⟨k + 1, _, by omega, by go_num, hS10, hB10, b10⟩
      case measure => simp [intOf]; omega
    · have hkl : k = s.size := by omega
      subst hkl
      have hlt' : (s.size : Int) ≤ (s.size : Int) := by omega
      rw [List.take_of_length_le (by omega)] at hS
      clear hbyte
      go_wp2
      refine bodyPost_end (v := .tuple #[]) ?_ rfl ⟨rfl, vb', hS, hbel⟩
      simp [results, Try.results26, go_sem]
end Go.Proofs.Ytehggabhjpiclaa
/- spec.l04Seen by its contract. -/
namespace Go.Proofs.Ytehggabhjpiclaa
open Go.RowKit
set_option linter.unusedVariables false

/-- The first place of a rest of a name; -1: there is none. -/
def seenS : List (ByteArray × Nat) → ByteArray → Int
  | [], _ => -1
  | p :: r, t => if p.1 = t then (p.2 : Int) else seenS r t

theorem plVs_at : ∀ (xs : List (ByteArray × Nat)) (k j : Nat) (x : ByteArray × Nat), xs[k]? = some x → j < 2 → (plVs xs)[k * 2 + j]? = (plV x)[j]? := by
  intro xs
  induction xs with
  | nil => intro k j x h; simp at h
  | cons y xs ih =>
    intro k j x h hj
    have e : plVs (y :: xs) = plV y ++ plVs xs := by simp [plVs]
    have hl : (plV y).length = 2 := rfl
    cases k with
    | zero =>
      simp at h; subst h
      rw [e, Nat.zero_mul, Nat.zero_add, List.getElem?_append_left (by omega)]
    | succ k =>
      simp at h
      rw [e, List.getElem?_append_right (by omega), hl, show (k + 1) * 2 + j - 2 = k * 2 + j by omega]
      exact ih k j x h hj

theorem seen_step {xs : List (ByteArray × Nat)} {k : Nat} {x : ByteArray × Nat} (h : xs[k]? = some x) (t : ByteArray) : seenS (xs.drop k) t = if x.1 = t then (x.2 : Int) else seenS (xs.drop (k + 1)) t := by
  obtain ⟨hk, hx⟩ := List.getElem?_eq_some_iff.1 h
  rw [List.drop_eq_getElem_cons hk, hx, seenS]
theorem str_yes {a b : ByteArray} (h : a = b) : (a.toList == b.toList) = true := by simp [h]
theorem str_no {a b : ByteArray} (h : a ≠ b) : (a.toList == b.toList) = false := by
  rw [beq_eq_false_iff_ne]
  intro e
  apply h
  have : a.data.toList = b.data.toList := by rw [← ByteArray.toList_eq, ← ByteArray.toList_eq]; exact e
  exact ByteArray.ext (Array.toList_inj.1 this)

set_option maxRecDepth 100000 in
set_option maxHeartbeats 3200000 in
theorem l04Seen_any (t : ByteArray) (g B : Nat) (bs : List UInt8) (pls : List (ByteArray × Nat)) (vb vp : Value) (w : World) (h : SW w g B bs pls vb vp) (hl : pls.length ≤ 100000000) :
    Calls Try.prog 59 #[.pointer (some ⟨g, 0, none⟩), .string t] w fun e w' => e = .returned (.int .i64 (seenS pls t)) ∧ w' = w := by
  obtain ⟨_, pa, pc, hv, hcap, hmx, hc⟩ := CRow.of_owns h.rp
  subst hv
  unfold maxLen at hmx
  have c1 : w.cell? ⟨g, 1, none⟩ = some (.slice pa pls.length pc) := (blk_cell h.blk 1).trans rfl
  obtain ⟨RES, HR0⟩ : ∃ R, Hid (R = seenS (pls.drop 0) t) := ⟨_, rfl⟩
  have hgoal : seenS pls t = RES := by rw [HR0.out]; rfl
  rw [hgoal]
  clear h hgoal
  go_enter Try.func59, Try.ntmps59
  go_wp2
  go_loop [5] (fun i => ∃ k : Nat, k ≤ pls.length ∧ i = .int .i64 k ∧ Hid (RES = seenS (pls.drop k) t)) (fun i => pls.length - (intOf i).toNat)
  case atStart => exact ⟨0, Nat.zero_le _, rfl, HR0⟩
  case round =>
    obtain ⟨k, hk, rfl, HA⟩ := hrel
    clear HR0
    by_cases hlt : k < pls.length
    · obtain ⟨x, hx⟩ : ∃ x, pls[k]? = some x := ⟨_, List.getElem?_eq_getElem hlt⟩
      obtain ⟨b, off, rfl, hcell⟩ := hc (by omega)
      have d0 := hcell (k * 2) _ ((plVs_at pls k 0 x hx (by decide)).trans rfl)
      have d1 := hcell (k * 2 + 1) _ ((plVs_at pls k 1 x hx (by decide)).trans rfl)
      rw [← Nat.add_assoc] at d1
      have HS := seen_step hx t
      have i1 : (0 : Int) ≤ (k : Int) := by omega
      have i2 : (k : Int) < (pls.length : Int) := by omega
      clear hcell hc hx
      obtain ⟨tl, at'⟩ := x
      simp only at d0 d1 HS
      by_cases he : tl = t
      · have e1 := str_yes he
        obtain rfl : RES = (at' : Int) := by rw [HA.out, HS, if_pos he]
        clear HA HS he
        go_wp2
        go_ret
        exact ⟨rfl, rfl⟩
      · have e1 := str_no he
        have HA2 : Hid (RES = seenS (pls.drop (k + 1)) t) := by show _ = _; rw [HA.out, HS, if_neg he]
        clear HA HS he
        go_wp2
        go_round
        case rel => exact ⟨k + 1, by omega, by go_num, HA2⟩
        case measure => simp [intOf]; omega
    · have hkl : k = pls.length := by omega
      subst hkl
      obtain rfl : RES = -1 := by rw [HA.out, List.drop_length]; rfl
      have i2 : (pls.length : Int) ≤ (pls.length : Int) := by omega
      clear hc HA
      go_wp2
      go_ret
      exact ⟨rfl, rfl⟩
end Go.Proofs.Ytehggabhjpiclaa
