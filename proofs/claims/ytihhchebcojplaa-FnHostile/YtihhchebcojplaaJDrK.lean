import Derived.Test.YtihhchebcojplaaJDrD
import Derived.Test.YtihhchebcojplaaJDataM
import Derived.Test.YtihhchebcojplaaJMath
/- What is held of a message while it is drawn. -/
namespace Go.Proofs.Ytihhchebcojplaa
open Go.RowKit
set_option linter.unusedVariables false

theorem Try.infoQuD : (Try.prog.info? 53).map (fun i => (i.zero, i.size, i.bytes)) = some (some (.agg #[.string ByteArray.empty, .int .i64 0, .int .i64 0]), 3, 32) := by kernel_rfl
theorem cell_newQ (w : World) (cs : Array Value) (e : Nat) : ∀ (j : Nat) (u : Value), cs.toList[j]? = some u → (w.alloc (.cells cs e)).cell? ((⟨w.heap.size, 0, none⟩ : Addr).add j) = some u := by
  intro j u h
  rw [Nm.addr_add, Nat.zero_add]
  have : (w.alloc (.cells cs e)).heap[w.heap.size]? = some (.cells cs e (0, 0)) := by show (w.heap.push _)[w.heap.size]? = _; simp
  rw [cell_of_row _ _ _ _ _ _ this]
  simpa using h
theorem own_blk' {W : World} {B e s m b : Nat} {v : Value} {xs : List Value} {cs : Array Value} {T : TypeId} (h : W.ownsRow B e s v m xs) (hb : Blk W b cs T) (hne : e ≠ T) : v.ownBlock ≠ some b := by
  rcases h.2 with ⟨rfl, _⟩ | ⟨g', cap', cur, rfl, _, hh, _⟩
  · simp [Value.ownBlock]
  · simp only [Value.ownBlock, ne_eq, Option.some.injEq]
    intro e2
    subst e2
    unfold Blk at hb
    rw [hh] at hb
    simp at hb
    exact hne hb.2
theorem rowS {w : World} {B e s m g n cap : Nat} {a : Option Addr} {v : Value} {xs : List Value} (h : w.ownsRow B e s v m xs) (hs : Src w g a n cap) (hne : e ≠ 38) : v.ownBlock = none ∨ v.ownBlock ≠ some g := by
  obtain ⟨pos, st, h1, _⟩ := hs
  rcases h.2 with ⟨rfl, _⟩ | ⟨g', cap', cur, rfl, _, hh, _⟩
  · exact .inl rfl
  · right
    simp only [Value.ownBlock, ne_eq, Option.some.injEq]
    intro e2
    subst e2
    rw [hh] at h1
    simp at h1
    exact hne h1.2

/-- A list of drawn records in memory of one's own, apart from what was made behind it. -/
structure LR (w W : World) (v : Value) (xs : List Rr) : Prop where
  own : W.ownsRow w.heap.size 66 5 v xs.length (rvVs xs)
  ok : ∀ r ∈ xs, rcW r
theorem LR.nil (w W : World) : LR w W (.slice none 0 0) [] := ⟨World.ownsRow_nil _ _ _ _, by simp⟩
theorem LR.grown {w W W1 : World} {g n cap : Nat} {a : Option Addr} {v : Value} {xs : List Rr} (h : LR w W v xs) (hs : Src W g a n cap) (hg : W.grownBy W1 (some g)) : LR w W1 v xs := ⟨h.own.kept hg (rowS h.own hs (by decide)), h.ok⟩
theorem LR.below {w W W1 : World} {v : Value} {xs : List Rr} (h : LR w W v xs) (hb : Below W.heap.size W W1) : LR w W1 v xs := ⟨own_below h.own hb, h.ok⟩
theorem LR.far {w W : World} {b i : Nat} {v y : Value} {xs : List Rr} {cs : Array Value} {T : TypeId} (h : LR w W v xs) (hb : Blk W b cs T) (hT : 66 ≠ T) : LR w (W.setCell ⟨b, i, none⟩ y) v xs := ⟨own_far h.own (own_blk' h.own hb hT), h.ok⟩
/-- What is held of a message while it is drawn. -/
structure DM (w W : World) (g : Nat) (a : Option Addr) (n cap b1 : Nat) (hd : List Value) (vq va vu vx : Value) (qs : List Qr) (an au ex : List Rr) : Prop where
  kB : Blk W b1 (hd ++ [vq, va, vu, vx]).toArray 29
  kk : Blk W w.heap.size #[.int .i64 0, .bool false, .int .i64 0, .bool false, .bool false, .bool false, .bool false, .bool false, .bool false, .bool false, .int .i64 0, .slice none 0 0, .slice none 0 0, .slice none 0 0, .slice none 0 0] 29
  q : W.ownsRow w.heap.size 53 3 vq qs.length (qvVs qs)
  an : LR w W va an
  au : LR w W vu au
  ex : LR w W vx ex
  s : Src W g a n cap
  gr : w.grownBy W (some g)
theorem DM.below {w W W1 : World} {g n cap b1 : Nat} {a : Option Addr} {hd : List Value} {vq va vu vx : Value} {qs : List Qr} {an au ex : List Rr} (h : DM w W g a n cap b1 hd vq va vu vx qs an au ex) (hb : Below W.heap.size W W1) : DM w W1 g a n cap b1 hd vq va vu vx qs an au ex :=
  ⟨blk_below h.kB hb, blk_below h.kk hb, own_below h.q hb, h.an.below hb, h.au.below hb, h.ex.below hb, src_below h.s hb, grown_below h.gr hb⟩
theorem DM.grown {w W W1 : World} {g n cap b1 : Nat} {a : Option Addr} {hd : List Value} {vq va vu vx : Value} {qs : List Qr} {an au ex : List Rr} (h : DM w W g a n cap b1 hd vq va vu vx qs an au ex) (hg : W.grownBy W1 (some g)) (hs : Src W1 g a n cap) (h1 : g < w.heap.size) (h2 : g < b1) : DM w W1 g a n cap b1 hd vq va vu vx qs an au ex :=
  ⟨blk_grown h.kB hg (by intro e; simp at e; omega), blk_grown h.kk hg (by intro e; simp at e; omega), h.q.kept hg (rowS h.q h.s (by decide)), h.an.grown h.s hg, h.au.grown h.s hg, h.ex.grown h.s hg, hs, grown_step h.gr hg⟩

/-- The lists lie below C. -/
def LowC (C : Nat) (v : Value) : Prop := ∀ q, v.ownBlock = some q → q < C
theorem kept_row {W W1 : World} {B e s m C : Nat} {v : Value} {xs : List Value} {row : Option Nat} (h : W.ownsRow B e s v m xs) (hC : LowC C v) (hg : W.grownBy W1 row) (hr : ∀ q, row = some q → C ≤ q) : W1.ownsRow B e s v m xs := by
  refine h.kept hg ?_
  cases hv : v.ownBlock with
  | none => exact .inl rfl
  | some k =>
    right
    intro e
    have h1 := hC k hv
    have h2 := hr k e.symm
    omega
theorem DM.row {w W W1 : World} {g n cap b1 C : Nat} {a : Option Addr} {hd : List Value} {vq va vu vx : Value} {qs : List Qr} {an au ex : List Rr} {row : Option Nat} (h : DM w W g a n cap b1 hd vq va vu vx qs an au ex) (hg : W.grownBy W1 row) (hr : ∀ q, row = some q → C ≤ q) (c1 : b1 < C) (c2 : w.heap.size < C) (lq : LowC C vq) (la : LowC C va) (lu : LowC C vu) (lx : LowC C vx) (hlt : g < w.heap.size) (hcode : CodeAt w g a n) : DM w W1 g a n cap b1 hd vq va vu vx qs an au ex := by
  have hn : ∀ b, b < C → row ≠ some b := fun b hb e => by have := hr b e; omega
  exact ⟨blk_grown h.kB hg (hn _ c1), blk_grown h.kk hg (hn _ c2), kept_row h.q lq hg hr, ⟨kept_row h.an.own la hg hr, h.an.ok⟩, ⟨kept_row h.au.own lu hg hr, h.au.ok⟩, ⟨kept_row h.ex.own lx hg hr, h.ex.ok⟩, src_grown (w0 := w) h.s hg (fun k hk => by have := hr k hk; omega) hlt hcode, grown_own h.gr hg (fun k hk => by have := hr k hk; omega)⟩
theorem DM.low {w W : World} {g n cap b1 : Nat} {a : Option Addr} {hd : List Value} {vq va vu vx : Value} {qs : List Qr} {an au ex : List Rr} (h : DM w W g a n cap b1 hd vq va vu vx qs an au ex) : b1 < W.heap.size ∧ w.heap.size < W.heap.size ∧ LowC W.heap.size vq ∧ LowC W.heap.size va ∧ LowC W.heap.size vu ∧ LowC W.heap.size vx :=
  ⟨blk_lt h.kB, blk_lt h.kk, fun q hq => (h.q.lt q hq).2, fun q hq => (h.an.own.lt q hq).2, fun q hq => (h.au.own.lt q hq).2, fun q hq => (h.ex.own.lt q hq).2⟩
theorem Try.infoRr : (Try.prog.info? 66).map (fun i => (i.zero, i.size, i.bytes)) = some (some (.agg #[.string ByteArray.empty, .int .i64 0, .int .i64 0, .int .i64 0, .string ByteArray.empty]), 5, 56) := by kernel_rfl
end Go.Proofs.Ytihhchebcojplaa
/- spec.l04DrawMessage by its contract. -/
namespace Go.Proofs.Ytihhchebcojplaa
open Go.RowKit
set_option linter.unusedVariables false

theorem grown_setAll {b : Nat} : ∀ (vs : List Value) (i : Nat) (W : World), W.grownBy (setAll W b i vs) (some b) := by
  intro vs
  induction vs with
  | nil => intro i W; exact World.grownBy.refl _ _
  | cons v vs ih => intro i W; exact grown_step (grown_set W b i v) (ih (i + 1) _)

set_option maxRecDepth 100000 in
set_option maxHeartbeats 3200000 in
theorem l04DrawMessage_any (g : Nat) (a : Option Addr) (n cap : Nat) (w : World) (h : Src w g a n cap) :
    Calls Try.prog 11 #[.pointer (some ⟨g, 0, none⟩)] w fun e w' => ∃ (m : Mg) (q va u x : Value), e = .returned (.agg (mgV m.hd q va u x)) ∧ MOwn w' w.heap.size m q va u x ∧ hdOK m.hd = true ∧ m.qs.all quOK = true ∧ (∀ r ∈ m.an, rcW r) ∧ (∀ r ∈ m.au, rcW r) ∧ (∀ r ∈ m.ex, rcW r) ∧ m.qs.length + m.an.length + m.au.length + m.ex.length ≤ 400 ∧ Src w' g a n cap ∧ w.grownBy w' (some g) := by
  obtain ⟨hcode, hglt⟩ := src_code h
  have hs := src_below h ((Below.refl _ _).alloc (Nat.le_refl _) (.cells #[.int .i64 0, .bool false, .int .i64 0, .bool false, .bool false, .bool false, .bool false, .bool false, .bool false, .bool false, .int .i64 0, .slice none 0 0, .slice none 0 0, .slice none 0 0, .slice none 0 0] 29))
  have gg : w.grownBy (w.alloc (.cells #[.int .i64 0, .bool false, .int .i64 0, .bool false, .bool false, .bool false, .bool false, .bool false, .bool false, .bool false, .int .i64 0, .slice none 0 0, .slice none 0 0, .slice none 0 0, .slice none 0 0] 29)) (some g) := grown_alloc (World.grownBy.refl _ _) _
  have kk := blk_new w #[.int .i64 0, .bool false, .int .i64 0, .bool false, .bool false, .bool false, .bool false, .bool false, .bool false, .bool false, .int .i64 0, .slice none 0 0, .slice none 0 0, .slice none 0 0, .slice none 0 0] 29
  have hne : (some g : Option Nat) ≠ some w.heap.size := by intro e; simp at e; omega
  obtain ⟨i0, hi, hz0, hz1, hz2⟩ := info_parts Try.infoQuD
  obtain ⟨j0, hj, hy0, hy1, hy2⟩ := info_parts Try.infoRr
  have hf1 : True := trivial
  have f1 : True := trivial
  have f2 : True := trivial
  have f3 : True := trivial
  have f4 : True := trivial
  have f5 : True := trivial
  have f6 : True := trivial
  have f7 : True := trivial
  have f8 : True := trivial
  clear h
  go_enter Try.func11, Try.ntmps11
  go_wp2_with first
    | (
      go_at_call 25
      refine (l04Bool_any g a n cap _ hs).mono ?_
      clear hs f1
      rintro e wn ⟨q1, rfl, hs, hg⟩
      have kk := blk_grown kk hg hne
      have gg := grown_step gg hg)
    | (
      go_at_call 25
      refine (l04Bool_any g a n cap _ hs).mono ?_
      clear hs f2
      rintro e wn ⟨q2, rfl, hs, hg⟩
      have kk := blk_grown kk hg hne
      have gg := grown_step gg hg)
    | (
      go_at_call 25
      refine (l04Bool_any g a n cap _ hs).mono ?_
      clear hs f3
      rintro e wn ⟨q3, rfl, hs, hg⟩
      have kk := blk_grown kk hg hne
      have gg := grown_step gg hg)
    | (
      go_at_call 25
      refine (l04Bool_any g a n cap _ hs).mono ?_
      clear hs f4
      rintro e wn ⟨q4, rfl, hs, hg⟩
      have kk := blk_grown kk hg hne
      have gg := grown_step gg hg)
    | (
      go_at_call 25
      refine (l04Bool_any g a n cap _ hs).mono ?_
      clear hs f5
      rintro e wn ⟨q5, rfl, hs, hg⟩
      have kk := blk_grown kk hg hne
      have gg := grown_step gg hg)
    | (
      go_at_call 25
      refine (l04Bool_any g a n cap _ hs).mono ?_
      clear hs f6
      rintro e wn ⟨q6, rfl, hs, hg⟩
      have kk := blk_grown kk hg hne
      have gg := grown_step gg hg)
    | (
      go_at_call 25
      refine (l04Bool_any g a n cap _ hs).mono ?_
      clear hs f7
      rintro e wn ⟨q7, rfl, hs, hg⟩
      have kk := blk_grown kk hg hne
      have gg := grown_step gg hg)
    | (
      go_at_call 25
      refine (l04Bool_any g a n cap _ hs).mono ?_
      clear hs f8
      rintro e wn ⟨q8, rfl, hs, hg⟩
      have kk := blk_grown kk hg hne
      have gg := grown_step gg hg)
    | (
      go_at_call 12
      with_reducible refine (l01Next_any g a n cap 65536 _ hs (by decide)).mono ?_
      clear hs
      rintro e wn ⟨id, rfl, hid0, hid1, hs, hg⟩
      have hid2 := hid1 (by decide)
      have kk := blk_grown kk hg hne
      have gg := grown_step gg hg)
    | (
      go_at_call 12
      with_reducible refine (l01Next_any g a n cap 16 _ hs (by decide)).mono ?_
      clear hs hf1
      rintro e wn ⟨op, rfl, hop0, hop1, hs, hg⟩
      have hop2 := hop1 (by decide)
      have kk := blk_grown kk hg hne
      have gg := grown_step gg hg)
    | (
      go_at_call 12
      with_reducible refine (l01Next_any g a n cap 16 _ hs (by decide)).mono ?_
      clear hs
      rintro e wc ⟨co, rfl, hco0, hco1, hs, hg⟩
      have hco2 := hco1 (by decide)
      have kk := blk_grown kk hg hne
      have gg := grown_step gg hg)
  have kB := blk_new wc #[.int .i64 id, .bool q1, .int .i64 op, .bool q2, .bool q3, .bool q4, .bool q5, .bool q6, .bool q7, .bool q8, .int .i64 co, .slice none 0 0, .slice none 0 0, .slice none 0 0, .slice none 0 0] 29
  have bAl := (Below.refl wc.heap.size wc).alloc (Nat.le_refl _) (.cells #[.int .i64 id, .bool q1, .int .i64 op, .bool q2, .bool q3, .bool q4, .bool q5, .bool q6, .bool q7, .bool q8, .int .i64 co, .slice none 0 0, .slice none 0 0, .slice none 0 0, .slice none 0 0] 29)
  have hsB := src_below hs bAl
  have ggB := grown_alloc gg (.cells #[.int .i64 id, .bool q1, .int .i64 op, .bool q2, .bool q3, .bool q4, .bool q5, .bool q6, .bool q7, .bool q8, .int .i64 co, .slice none 0 0, .slice none 0 0, .slice none 0 0, .slice none 0 0] 29)
  have kkB := blk_below kk bAl
  have hb1 : w.heap.size < wc.heap.size := blk_lt kk
  have hne1 : (some g : Option Nat) ≠ some wc.heap.size := by intro e; simp at e; omega
  have hhd : hdOK ⟨id, q1, op, q2, q3, q4, q5, q6, q7, q8, co⟩ = true := by
    simp only [hdOK, inB, Bool.and_eq_true, decide_eq_true_eq]
    omega
  refine (l01Next_any g a n cap 3 _ hsB (by decide)).mono ?_
  rintro e w2 ⟨nq, rfl, hnq0, hnq1, hs2, hg2⟩
  have hnq2 := hnq1 (by decide)
  obtain ⟨nq, rfl⟩ := Int.eq_ofNat_of_zero_le hnq0
  have kB2 := blk_grown kB hg2 hne1
  have kk2 := blk_grown kkB hg2 hne
  have gg2 := grown_step ggB hg2
  clear hnq1 kB bAl hsB ggB kkB hg2 hs gg kk hid1 hop1 hco1
  generalize wc.heap.size = b1 at *
  go_wp2_with fail
  go_loopw [5] (fun i wr => ∃ (k : Nat) (qs : List Qr) (vq : Value), k ≤ nq ∧ i = .int .i64 k ∧ qs.length = k ∧ qs.all quOK = true ∧ Blk wr b1 #[.int .i64 id, .bool q1, .int .i64 op, .bool q2, .bool q3, .bool q4, .bool q5, .bool q6, .bool q7, .bool q8, .int .i64 co, vq, .slice none 0 0, .slice none 0 0, .slice none 0 0] 29 ∧ wr.ownsRow w.heap.size 53 3 vq qs.length (qvVs qs) ∧ Blk wr w.heap.size #[.int .i64 0, .bool false, .int .i64 0, .bool false, .bool false, .bool false, .bool false, .bool false, .bool false, .bool false, .int .i64 0, .slice none 0 0, .slice none 0 0, .slice none 0 0, .slice none 0 0] 29 ∧ Src wr g a n cap ∧ w.grownBy wr (some g)) (fun i _ => nq - (intOf i).toNat)
  case atStart => exact ⟨0, [], _, Nat.zero_le _, rfl, rfl, rfl, kB2, World.ownsRow_nil _ _ _ _, kk2, hs2, gg2⟩
  case round =>
    obtain ⟨k, qs, vq, hk, rfl, hqk, hqs, kB, hown, kk, hs, gg⟩ := hrel
    clear kB2 kk2 hs2 gg2
    have HQK := Nm.hide hqk
    clear hqk
    by_cases hlt : k < nq
    · have hlt' : (k : Int) < (nq : Int) := by omega
      obtain ⟨xa, ya, hv⟩ := own_sl hown
      subst hv
      have c11 : wr.cell? ⟨b1, 11, none⟩ = some (.slice xa qs.length ya) := (blk_cell kB 11).trans rfl
      go_wp2_with fail
      refine wp_region_last (fun W => W.cell? ⟨b1, 11, none⟩ = some (.slice xa qs.length ya)) 10 (by kernel_rfl) c11 (fun hHeld => ?_)
      refine wpAnyL_take (i := 0) (v := ?_) rfl (by kernel_rfl) (by kernel_rfl) (by kernel_rfl) (by kernel_rfl) (fun _ _ _ h => h) (Or.inl ⟨by rfl, ?_⟩) (by assumption) ?_
      rotate_left 1
      · (intro w hSw; go_simp; try (with_reducible rfl))
      refine wpAnyL_take (i := 1) (v := ?_) rfl (by kernel_rfl) (by kernel_rfl) (by kernel_rfl) (by kernel_rfl) (fun _ _ _ h => h) (Or.inl ⟨by rfl, ?_⟩) (by assumption) ?_
      rotate_left 1
      · (intro w hSw; go_simp; try (with_reducible rfl))
      refine wpAnyL_take (i := 2) (v := ?_) rfl (by kernel_rfl) (by kernel_rfl) (by kernel_rfl) (by kernel_rfl) (fun _ _ _ h => h) (Or.inl ⟨by rfl, ?_⟩) (by assumption) ?_
      rotate_left 1
      · (intro w hSw; go_simp; try (with_reducible rfl))
      refine wpAnyL_take (i := 4) (v := ?_) rfl (by kernel_rfl) (by kernel_rfl) (by kernel_rfl) (by kernel_rfl) (fun _ _ _ h => h) (Or.inl ⟨by rfl, ?_⟩) (by assumption) ?_
      rotate_left 1
      · (intro w hSw; go_simp; try (with_reducible rfl))
      have hbd := (Below.refl wr.heap.size wr).drew
      have hs := src_below hs hbd
      have kB := blk_below kB hbd
      have kk := blk_below kk hbd
      have hown := own_below hown hbd
      have gg := grown_below gg hbd
      refine wpAnyL_one (i := 3) (by kernel_rfl) rfl (fun K hK => ?_)
      go_simp
      refine (l01NameV_any g a n cap _ hs).mono ?_
      rintro e w3 ⟨o, rfl, ho, hs3, hg3⟩
      go_wp2_with fail
      have kB3 := blk_grown kB hg3 hne1
      have kk3 := blk_grown kk hg3 hne
      have hown3 := hown.kept hg3 (rowS hown hs (by decide))
      have gg3 := grown_step gg hg3
      refine hK.out _ _ ((blk_cell kB3 11).trans rfl) (fun hH2 => ?_)
      clear hK K
      refine wpAnyL_one (i := 5) (by kernel_rfl) rfl (fun K hK => ?_)
      go_simp
      refine (l02Type_any g a n cap _ hs3).mono ?_
      rintro e w4 ⟨t, rfl, ht, hs4, hg4⟩
      go_wp2_with fail
      have kB4 := blk_grown kB3 hg4 hne1
      have kk4 := blk_grown kk3 hg4 hne
      have hown4 := hown3.kept hg4 (rowS hown3 hs3 (by decide))
      have gg4 := grown_step gg3 hg4
      refine hK.out _ _ ((blk_cell kB4 11).trans rfl) (fun hH3 => ?_)
      clear hK K
      refine wpAnyL_take (i := 6) (v := .agg #[.string o, .int .i64 (t : Int), .int .i64 1]) rfl (by kernel_rfl) (by kernel_rfl) (by kernel_rfl) (by kernel_rfl) (fun _ _ _ h => h) (Or.inl ⟨by rfl, ?_⟩) (by assumption) ?_
      · intro w hSw
        go_simp
      refine wpAnyL_one (i := 7) (by kernel_rfl) rfl (fun K hK => ?_)
      go_simp
      have bAq := (Below.refl w4.heap.size w4).alloc (Nat.le_refl _) (.cells #[.string o, .int .i64 (t : Int), .int .i64 1] 53)
      have kB5 := blk_below kB4 bAq
      have kk5 := blk_below kk4 bAq
      have hown5 := own_below hown4 bAq
      have hs5 := src_below hs4 bAq
      have gg5 := grown_below gg4 bAq
      refine hK.out _ _ ((blk_cell kB5 11).trans rfl) (fun hH4 => ?_)
      clear hK K
      refine wpAnyL_one (i := 8) (by kernel_rfl) rfl (fun K hK => ?_)
      refine step_append_own rfl (.tmp 42) (.tmp 48) 26 rfl w.heap.size 53 i0 _ 3 32 Try.underlying26 hi hz0 hz1 hz2 rfl (by decide) (.slice xa qs.length ya) qs.length (qvVs qs) (by go_simp) hown5 ⟨w4.heap.size, 0, none⟩ 1 1 [.string o, .int .i64 (t : Int), .int .i64 1] (by go_simp) rfl (cell_newQ _ _ _) (by intro u hu; simp at hu; rcases hu with rfl | rfl | rfl <;> rfl) (by have := HQK.out; unfold maxLen; omega) (by have := HQK.out; omega) (by have := gg5.size; omega) ?_
      intro va wa hown9 hgrow9 hnl9
      clear hnl9
      obtain ⟨xb, yb, hvb⟩ := own_sl hown9
      have kB9 := blk_grown kB5 hgrow9 (fun e => own_blk' hown5 kB5 (by decide) e)
      have kk9 := blk_grown kk5 hgrow9 (fun e => own_blk' hown5 kk5 (by decide) e)
      have hs9 := src_grown (w0 := w) hs5 hgrow9 (fun k hk => (hown5.lt k hk).1) hglt hcode
      have gg9 := grown_own gg5 hgrow9 (fun k hk => (hown5.lt k hk).1)
      have c9 : wa.cell? ⟨b1, 11, none⟩ = some (.slice xa qs.length ya) := (blk_cell kB9 11).trans rfl
      have f9 := blk_frozen kB9 11
      rw [hvb] at hown9 ⊢
      refine hK.out _ _ c9 (fun hH5 => ?_)
      clear hK K
      refine wpAnyL_take (i := 9) (v := ?_) rfl (by kernel_rfl) (by kernel_rfl) (by kernel_rfl) (by kernel_rfl) (fun _ _ _ h => h) (Or.inl ⟨by rfl, ?_⟩) (by assumption) ?_
      rotate_left 1
      · (intro w hSw; go_simp; try (with_reducible rfl))
      refine wpAnyL_end (by kernel_rfl) rfl (by kernel_rfl) (fun K hK => ?_)
      go_simp
      refine hK.out _ _ ?_
      clear hK K
      have kB10 := blk_set kB9 11 (.slice xb (qs.length + 1) yb)
      have kk10 : Blk (wa.setCell ⟨b1, 11, none⟩ (.slice xb (qs.length + 1) yb)) w.heap.size _ _ := blk_far kk9 (by omega)
      have hs10 := src_grown (w0 := w) hs9 (grown_set wa b1 11 (.slice xb (qs.length + 1) yb)) (fun k hk => by cases hk; omega) hglt hcode
      have gg10 := grown_own gg9 (grown_set wa b1 11 (.slice xb (qs.length + 1) yb)) (fun k hk => by cases hk; omega)
      have hown10 : (wa.setCell ⟨b1, 11, none⟩ (.slice xb (qs.length + 1) yb)).ownsRow w.heap.size 53 3 (.slice xb (qs.length + 1) yb) (qs ++ [(⟨o, (t : Int), 1⟩ : Qr)]).length (qvVs (qs ++ [(⟨o, (t : Int), 1⟩ : Qr)])) := by
        rw [qvVs_app, List.length_append]
        exact own_far hown9 (own_blk' hown9 kB9 (by decide))
      have hq1 : (qs ++ [(⟨o, (t : Int), 1⟩ : Qr)]).all quOK = true := by
        have htr := drTs_ok ht
        rw [List.all_append, hqs]
        simp only [List.all_cons, List.all_nil, quOK, ho, inB, Bool.and_true, Bool.true_and, Bool.and_eq_true, decide_eq_true_eq]
        omega
      generalize wa.setCell ⟨b1, 11, none⟩ (.slice xb (qs.length + 1) yb) = W10 at *
      clear hown9 hgrow9 kB9 kk9 hs9 gg9 c9 f9 hown5 kB5 kk5 hs5 gg5 hown4 kB4 kk4 hs4 gg4 hown3 kB3 kk3 hs3 gg3 hown kB kk hs gg c11
      go_wp2
      go_roundw
      case rel => exact ⟨k + 1, qs ++ [⟨o, (t : Int), 1⟩], _, by omega, by go_num, by have := HQK.out; simp; omega, hq1, kB10, hown10, kk10, hs10, gg10⟩
      case measure => simp [intOf]; omega
    · obtain rfl : k = nq := by omega
      have hql : qs.length ≤ 3 := by have := HQK.out; omega
      have hgb : g < b1 := by omega
      have hM0 : DM w wr g a n cap b1 [.int .i64 id, .bool q1, .int .i64 op, .bool q2, .bool q3, .bool q4, .bool q5, .bool q6, .bool q7, .bool q8, .int .i64 co] vq (.slice none 0 0) (.slice none 0 0) (.slice none 0 0) qs [] [] [] := ⟨kB, kk, hown, LR.nil _ _, LR.nil _ _, LR.nil _ _, hs, gg⟩
      clear kB kk hown hs gg HQK hlt hi hz0 hz1 hz2
      have hle : (k : Int) ≤ (k : Int) := by omega
      go_wp2_with fail
      obtain ⟨wz, hwz⟩ : ∃ wz, wz = wr := ⟨wr, rfl⟩
      subst hwz
      go_loopw [6] (fun i wr => ∃ (j : Nat) (an au ex : List Rr) (va vu vx : Value), j ≤ 3 ∧ i = .int .i64 j ∧ DM w wr g a n cap b1 [.int .i64 id, .bool q1, .int .i64 op, .bool q2, .bool q3, .bool q4, .bool q5, .bool q6, .bool q7, .bool q8, .int .i64 co] vq va vu vx qs an au ex ∧ an.length ≤ 300 ∧ au.length ≤ 3 ∧ ex.length ≤ 3) (fun i _ => 3 - (intOf i).toNat)
      case atStart => exact ⟨0, [], [], [], _, _, _, by omega, rfl, hM0, by simp, by simp, by simp⟩
      case round =>
        obtain ⟨j, an, au, ex, va, vu, vx, hj3, rfl, hM, la1, lu1, lx1⟩ := hrel
        clear hM0
        obtain rfl | rfl | rfl | rfl : j = 0 ∨ j = 1 ∨ j = 2 ∨ j = 3 := by omega
        · simp only [Int.cast_ofNat_Int]
          go_wp2_with fail
          refine (l01Next_any g a n cap 4 _ hM.s (by decide)).mono ?_
          rintro e w8 ⟨N4, rfl, hN0, hN1, hs8, hg8⟩
          have hN2 := hN1 (by decide)
          obtain ⟨N4, rfl⟩ := Int.eq_ofNat_of_zero_le hN0
          have hM8 := hM.grown hg8 hs8 hglt hgb
          go_wp2_with fail
          refine (l01Next_any g a n cap 30 _ hs8 (by decide)).mono ?_
          rintro e wn ⟨r30, rfl, h300, h301, hsn, hgn⟩
          have hM := hM8.grown hgn hsn hglt hgb
          clear hM8 hs8 hg8 h301 hN1
          by_cases hz : r30 = 0
          · subst hz
            obtain ⟨N, hN⟩ : ∃ N : Nat, N = 300 := ⟨_, rfl⟩
            have hNI : (300 : Int) = (N : Int) := by omega
            go_wp2_with fail
            rw [hNI]
            have hNle : N ≤ 300 := by omega
            clear hN hNI
            obtain ⟨c1, c2, lq, la, lu, lx⟩ := hM.low
            have bL := (Below.refl wn.heap.size wn).alloc (Nat.le_refl _) (.cells #[] 66)
            have hML := hM.below bL
            have hrowL : (wn.alloc (.cells #[] 66)).ownsRow wn.heap.size 66 5 (.slice (some ⟨wn.heap.size, 0, none⟩) 0 0) 0 [] := World.ownsRow_made wn #[] 0 (Nat.le_refl _) (by decide) rfl
            refine (l04RR_any g a n cap _ hML.s).mono ?_
            rintro e w3 ⟨r0, rfl, hr0', hs3, hg3⟩
            have hM3 := hML.grown hg3 hs3 hglt hgb
            have hrow3 := hrowL.kept hg3 (rowS hrowL hML.s (by decide))
            have hsz3 : wn.heap.size < w3.heap.size := by have := hg3.size; simp at this; omega
            have bB := (Below.refl w3.heap.size w3).alloc (Nat.le_refl _) (.cells #[.string r0.own, .int .i64 r0.ty, .int .i64 r0.cl, .int .i64 r0.tt, .string r0.da] 66)
            have kBx := blk_new w3 #[.string r0.own, .int .i64 r0.ty, .int .i64 r0.cl, .int .i64 r0.tt, .string r0.da] 66
            have hMB := hM3.below bB
            have hrowB := own_below hrow3 bB
            have hszB : w3.heap.size < (w3.alloc (.cells #[.string r0.own, .int .i64 r0.ty, .int .i64 r0.cl, .int .i64 r0.tt, .string r0.da] 66)).heap.size := by simp
            clear hM3 hrow3 hML hrowL bL hg3 hs3 hM bB hsn hgn
            generalize wn.heap.size = C at *
            go_wp2_with fail
            generalize w3.alloc (.cells #[.string r0.own, .int .i64 r0.ty, .int .i64 r0.cl, .int .i64 r0.tt, .string r0.da] 66) = W0 at *
            generalize w3.heap.size = b2 at *
            go_loopw [9, 7] (fun i v wr => ∃ (k2 : Nat) (xs : List Rr) (r : Rr), k2 ≤ N ∧ i = .int .i64 k2 ∧ xs.length = k2 ∧ wr.ownsRow C 66 5 v xs.length (rvVs xs) ∧ (∀ x ∈ xs, rcW x) ∧ rcW r ∧ Blk wr b2 #[.string r.own, .int .i64 r.ty, .int .i64 r.cl, .int .i64 r.tt, .string r.da] 66 ∧ v.ownBlock ≠ some b2 ∧ b2 < wr.heap.size ∧ DM w wr g a n cap b1 [.int .i64 id, .bool q1, .int .i64 op, .bool q2, .bool q3, .bool q4, .bool q5, .bool q6, .bool q7, .bool q8, .int .i64 co] vq va vu vx qs an au ex) (fun i _ _ => N - (intOf i).toNat)
            case atStart => exact ⟨0, [], r0, Nat.zero_le _, rfl, rfl, hrowB, by simp, hr0', kBx, by simp only [Value.ownBlock, ne_eq, Option.some.injEq]; omega, hszB, hMB⟩
            case round =>
              obtain ⟨k2, xs, r, hk2, rfl, hxl, hrw, hxs, hr, kX, hvb, hb2, hM⟩ := hrel
              have HXL := Nm.hide hxl
              clear hxl hMB hrowB kBx hszB
              have hCw : C ≤ wr.heap.size := by omega
              by_cases hl2 : k2 < N
              · have hl2' : (k2 : Int) < (N : Int) := by omega
                by_cases h8 : k2 < 8
                · have h8' : (k2 : Int) < 8 := by omega
                  have fx := fun i => blk_frozen kX i
                  have rx := fun i => blk_cell kX i
                  go_wp2_with fail
                  refine (l04RR_any g a n cap _ hM.s).mono ?_
                  rintro e w5 ⟨r5, rfl, hr5, hs5, hg5⟩
                  have hM5 := hM.grown hg5 hs5 hglt hgb
                  have kX5 := blk_grown kX hg5 (by intro e; simp at e; omega)
                  have hrw5 := hrw.kept hg5 (rowS hrw hM.s (by decide))
                  have kE := setAll_new [.string r5.own, .int .i64 r5.ty, .int .i64 r5.cl, .int .i64 r5.tt, .string r5.da] kX5 rfl
                  have eE : setAll w5 b2 0 [.string r5.own, .int .i64 r5.ty, .int .i64 r5.cl, .int .i64 r5.tt, .string r5.da] = (((((w5).setCell ⟨b2, 0, none⟩ (.string r5.own)).setCell ⟨b2, 1, none⟩ (.int .i64 r5.ty)).setCell ⟨b2, 2, none⟩ (.int .i64 r5.cl)).setCell ⟨b2, 3, none⟩ (.int .i64 r5.tt)).setCell ⟨b2, 4, none⟩ (.string r5.da) := rfl
                  have gE : w5.grownBy (setAll w5 b2 0 [.string r5.own, .int .i64 r5.ty, .int .i64 r5.cl, .int .i64 r5.tt, .string r5.da]) (some b2) := by
                    rw [eE]
                    exact grown_step (grown_step (grown_step (grown_step (grown_set _ _ _ _) (grown_set _ _ _ _)) (grown_set _ _ _ _)) (grown_set _ _ _ _)) (grown_set _ _ _ _)
                  have hM6 := hM5.row gE (fun q hq => by cases hq; omega) c1 c2 lq la lu lx hglt hcode
                  have hrw6 := hrw5.kept gE (.inr hvb)
                  have f5 := fun i => blk_frozen kX5 i
                  have r5' := fun i => blk_cell kX5 i
                  have rE := fun i => blk_cell kE i
                  have hsz6 : b2 < (setAll w5 b2 0 [.string r5.own, .int .i64 r5.ty, .int .i64 r5.cl, .int .i64 r5.tt, .string r5.da]).heap.size := blk_lt kE
                  have hCw : C ≤ (setAll w5 b2 0 [.string r5.own, .int .i64 r5.ty, .int .i64 r5.cl, .int .i64 r5.tt, .string r5.da]).heap.size := by omega
                  clear hM5 hrw5 gE hg5 hs5 hM kX hrw fx rx
                  rw [eE] at kE hM6 hrw6 rE hsz6 hCw
                  have hszN : ((((((w5).setCell ⟨b2, 0, none⟩ (.string r5.own)).setCell ⟨b2, 1, none⟩ (.int .i64 r5.ty)).setCell ⟨b2, 2, none⟩ (.int .i64 r5.cl)).setCell ⟨b2, 3, none⟩ (.int .i64 r5.tt)).setCell ⟨b2, 4, none⟩ (.string r5.da)).heap.size = w5.heap.size := by simp
                  have hcn := cell_newQ ((((((w5).setCell ⟨b2, 0, none⟩ (.string r5.own)).setCell ⟨b2, 1, none⟩ (.int .i64 r5.ty)).setCell ⟨b2, 2, none⟩ (.int .i64 r5.cl)).setCell ⟨b2, 3, none⟩ (.int .i64 r5.tt)).setCell ⟨b2, 4, none⟩ (.string r5.da)) #[.string r5.own, .int .i64 r5.ty, .int .i64 r5.cl, .int .i64 r5.tt, .string r5.da] 66
                  rw [hszN] at hcn
                  go_wp2_with (at_builtin; refine wpList_append_own_at _ rfl (.tmp 76) (.tmp 78) 27 rfl C 66 j0 _ 5 56 Try.underlying27 hj hy0 hy1 hy2 rfl (by decide) _ _ _ (by go_simp) (hrw6.alloc _) ⟨w5.heap.size, 0, none⟩ 1 1 [.string r5.own, .int .i64 r5.ty, .int .i64 r5.cl, .int .i64 r5.tt, .string r5.da] (by go_simp) rfl hcn (by intro u hu; simp at hu; rcases hu with rfl | rfl | rfl | rfl | rfl <;> rfl) (by have := HXL.out; unfold maxLen; omega) (by have := HXL.out; omega) (by simp; omega) ?_; intro vb wb hown9 hgrow9 hnl9 hat9; clear hnl9)
                  have bS := (Below.refl ((((((w5).setCell ⟨b2, 0, none⟩ (.string r5.own)).setCell ⟨b2, 1, none⟩ (.int .i64 r5.ty)).setCell ⟨b2, 2, none⟩ (.int .i64 r5.cl)).setCell ⟨b2, 3, none⟩ (.int .i64 r5.tt)).setCell ⟨b2, 4, none⟩ (.string r5.da)).heap.size ((((((w5).setCell ⟨b2, 0, none⟩ (.string r5.own)).setCell ⟨b2, 1, none⟩ (.int .i64 r5.ty)).setCell ⟨b2, 2, none⟩ (.int .i64 r5.cl)).setCell ⟨b2, 3, none⟩ (.int .i64 r5.tt)).setCell ⟨b2, 4, none⟩ (.string r5.da))).alloc (Nat.le_refl _) (.cells #[.string r5.own, .int .i64 r5.ty, .int .i64 r5.cl, .int .i64 r5.tt, .string r5.da] 66)
                  have kX8 := blk_below kE bS
                  have hrw8 := own_below hrw6 bS
                  have hM8 := hM6.below bS
                  have kX9 := blk_grown kX8 hgrow9 hvb
                  have hM9 := hM8.row hgrow9 (fun q hq => (hrw8.lt q hq).1) c1 c2 lq la lu lx hglt hcode
                  have hsz9 : b2 < wb.heap.size := blk_lt kX9
                  have hvb9 : vb.ownBlock ≠ some b2 := by
                    rcases hat9 with e | e
                    · rw [e]; exact hvb
                    · rw [e]; simp; omega
                  have hxs9 : ∀ x ∈ xs ++ [r5], rcW x := by
                    intro x hx
                    rcases List.mem_append.1 hx with hx | hx
                    · exact hxs x hx
                    · simp at hx; subst hx; assumption
                  have hrw9 : wb.ownsRow C 66 5 vb (xs ++ [r5]).length (rvVs (xs ++ [r5])) := by
                    rw [rvVs_app, List.length_append]
                    exact hown9
                  clear hown9 hgrow9 hat9 kX8 hrw8 hM8 bS
                  go_wp2
                  go_roundw
                  case rel => exact ⟨k2 + 1, xs ++ [r5], r5, by omega, by go_num, by have := HXL.out; simp; omega, hrw9, hxs9, by assumption, kX9, hvb9, hsz9, hM9⟩
                  case measure => simp [intOf]; omega
                · have h8' : (8 : Int) ≤ (k2 : Int) := by omega
                  first
                  | (exfalso; omega)
                  | (
                    have rx := fun i => blk_cell kX i
                    go_wp2_with (at_builtin; refine wpList_append_own_at _ rfl (.tmp 76) (.tmp 78) 27 rfl C 66 j0 _ 5 56 Try.underlying27 hj hy0 hy1 hy2 rfl (by decide) _ _ _ rfl (hrw.alloc _) ⟨(wr).heap.size, 0, none⟩ 1 1 [.string r.own, .int .i64 r.ty, .int .i64 r.cl, .int .i64 r.tt, .string r.da] rfl rfl (cell_newQ _ _ _) (by intro u hu; simp at hu; rcases hu with rfl | rfl | rfl | rfl | rfl <;> rfl) (by have := HXL.out; unfold maxLen; omega) (by have := HXL.out; omega) (by simp; omega) ?_; intro vb wb hown9 hgrow9 hnl9 hat9; clear hnl9)
                    have bS := (Below.refl (wr).heap.size (wr)).alloc (Nat.le_refl _) (.cells #[.string r.own, .int .i64 r.ty, .int .i64 r.cl, .int .i64 r.tt, .string r.da] 66)
                    have kX8 := blk_below kX bS
                    have hrw8 := own_below hrw bS
                    have hM8 := hM.below bS
                    have kX9 := blk_grown kX8 hgrow9 hvb
                    have hM9 := hM8.row hgrow9 (fun q hq => (hrw8.lt q hq).1) c1 c2 lq la lu lx hglt hcode
                    have hsz9 : b2 < wb.heap.size := blk_lt kX9
                    have hvb9 : vb.ownBlock ≠ some b2 := by
                      rcases hat9 with e | e
                      · rw [e]; exact hvb
                      · rw [e]; simp; omega
                    have hxs9 : ∀ x ∈ xs ++ [r], rcW x := by
                      intro x hx
                      rcases List.mem_append.1 hx with hx | hx
                      · exact hxs x hx
                      · simp at hx; subst hx; assumption
                    have hrw9 : wb.ownsRow C 66 5 vb (xs ++ [r]).length (rvVs (xs ++ [r])) := by
                      rw [rvVs_app, List.length_append]
                      exact hown9
                    clear hown9 hgrow9 hat9 kX8 hrw8 hM8 bS
                    go_wp2
                    go_roundw
                    case rel => exact ⟨k2 + 1, xs ++ [r], r, by omega, by go_num, by have := HXL.out; simp; omega, hrw9, hxs9, by assumption, kX9, hvb9, hsz9, hM9⟩
                    case measure => simp [intOf]; omega)
              · obtain rfl : k2 = N := by omega
                have hl2' : (k2 : Int) ≤ (k2 : Int) := by omega
                obtain ⟨xv, yv, hv2⟩ := own_sl hrw
                have hxn := HXL.out
                rw [hxn] at hv2
                subst hv2
                have hrwB := hrw.mono (Nat.le_of_lt c2)
                have rB := fun i => blk_cell hM.kB i
                have fB := fun i => blk_frozen hM.kB i
                have HE : Hid (∀ (i : Nat) (y : Value), Src (wr.setCell ⟨b1, i, none⟩ y) g a n cap ∧ w.grownBy (wr.setCell ⟨b1, i, none⟩ y) (some g)) := fun i y => ⟨src_grown (w0 := w) hM.s (grown_set wr b1 i y) (fun k hk => by cases hk; omega) hglt hcode, grown_own hM.gr (grown_set wr b1 i y) (fun k hk => by cases hk; omega)⟩
                have hnz : w.heap.size ≠ b1 := by omega
                go_wp2
                have hME : DM w (wr.setCell ⟨b1, 12, none⟩ (.slice xv k2 yv)) g a n cap b1 [.int .i64 id, .bool q1, .int .i64 op, .bool q2, .bool q3, .bool q4, .bool q5, .bool q6, .bool q7, .bool q8, .int .i64 co] vq (.slice xv k2 yv) vu vx qs xs au ex := ⟨blk_set hM.kB 12 _, blk_far hM.kk hnz, own_far hM.q (own_blk' hM.q hM.kB (by decide)), ⟨own_far hrwB (own_blk' hrwB hM.kB (by decide)), hxs⟩, hM.au.far hM.kB (by decide), hM.ex.far hM.kB (by decide), (HE.out _ _).1, (HE.out _ _).2⟩
                go_roundw
                case rel => exact ⟨1, xs, au, ex, _, vu, vx, by omega, by go_num, hME, by omega, lu1, lx1⟩
                case measure => simp [intOf]
          · have hz' : (r30 == 0) = false := by rw [beq_eq_false_iff_ne]; exact hz
            generalize N4 = N at *
            go_wp2_with fail
            obtain ⟨c1, c2, lq, la, lu, lx⟩ := hM.low
            have bL := (Below.refl wn.heap.size wn).alloc (Nat.le_refl _) (.cells #[] 66)
            have hML := hM.below bL
            have hrowL : (wn.alloc (.cells #[] 66)).ownsRow wn.heap.size 66 5 (.slice (some ⟨wn.heap.size, 0, none⟩) 0 0) 0 [] := World.ownsRow_made wn #[] 0 (Nat.le_refl _) (by decide) rfl
            refine (l04RR_any g a n cap _ hML.s).mono ?_
            rintro e w3 ⟨r0, rfl, hr0', hs3, hg3⟩
            have hM3 := hML.grown hg3 hs3 hglt hgb
            have hrow3 := hrowL.kept hg3 (rowS hrowL hML.s (by decide))
            have hsz3 : wn.heap.size < w3.heap.size := by have := hg3.size; simp at this; omega
            have bB := (Below.refl w3.heap.size w3).alloc (Nat.le_refl _) (.cells #[.string r0.own, .int .i64 r0.ty, .int .i64 r0.cl, .int .i64 r0.tt, .string r0.da] 66)
            have kBx := blk_new w3 #[.string r0.own, .int .i64 r0.ty, .int .i64 r0.cl, .int .i64 r0.tt, .string r0.da] 66
            have hMB := hM3.below bB
            have hrowB := own_below hrow3 bB
            have hszB : w3.heap.size < (w3.alloc (.cells #[.string r0.own, .int .i64 r0.ty, .int .i64 r0.cl, .int .i64 r0.tt, .string r0.da] 66)).heap.size := by simp
            clear hM3 hrow3 hML hrowL bL hg3 hs3 hM bB hsn hgn
            generalize wn.heap.size = C at *
            go_wp2_with fail
            generalize w3.alloc (.cells #[.string r0.own, .int .i64 r0.ty, .int .i64 r0.cl, .int .i64 r0.tt, .string r0.da] 66) = W0 at *
            generalize w3.heap.size = b2 at *
            go_loopw [9, 7] (fun i v wr => ∃ (k2 : Nat) (xs : List Rr) (r : Rr), k2 ≤ N ∧ i = .int .i64 k2 ∧ xs.length = k2 ∧ wr.ownsRow C 66 5 v xs.length (rvVs xs) ∧ (∀ x ∈ xs, rcW x) ∧ rcW r ∧ Blk wr b2 #[.string r.own, .int .i64 r.ty, .int .i64 r.cl, .int .i64 r.tt, .string r.da] 66 ∧ v.ownBlock ≠ some b2 ∧ b2 < wr.heap.size ∧ DM w wr g a n cap b1 [.int .i64 id, .bool q1, .int .i64 op, .bool q2, .bool q3, .bool q4, .bool q5, .bool q6, .bool q7, .bool q8, .int .i64 co] vq va vu vx qs an au ex) (fun i _ _ => N - (intOf i).toNat)
            case atStart => exact ⟨0, [], r0, Nat.zero_le _, rfl, rfl, hrowB, by simp, hr0', kBx, by simp only [Value.ownBlock, ne_eq, Option.some.injEq]; omega, hszB, hMB⟩
            case round =>
              obtain ⟨k2, xs, r, hk2, rfl, hxl, hrw, hxs, hr, kX, hvb, hb2, hM⟩ := hrel
              have HXL := Nm.hide hxl
              clear hxl hMB hrowB kBx hszB
              have hCw : C ≤ wr.heap.size := by omega
              by_cases hl2 : k2 < N
              · have hl2' : (k2 : Int) < (N : Int) := by omega
                by_cases h8 : k2 < 8
                · have h8' : (k2 : Int) < 8 := by omega
                  have fx := fun i => blk_frozen kX i
                  have rx := fun i => blk_cell kX i
                  go_wp2_with fail
                  refine (l04RR_any g a n cap _ hM.s).mono ?_
                  rintro e w5 ⟨r5, rfl, hr5, hs5, hg5⟩
                  have hM5 := hM.grown hg5 hs5 hglt hgb
                  have kX5 := blk_grown kX hg5 (by intro e; simp at e; omega)
                  have hrw5 := hrw.kept hg5 (rowS hrw hM.s (by decide))
                  have kE := setAll_new [.string r5.own, .int .i64 r5.ty, .int .i64 r5.cl, .int .i64 r5.tt, .string r5.da] kX5 rfl
                  have eE : setAll w5 b2 0 [.string r5.own, .int .i64 r5.ty, .int .i64 r5.cl, .int .i64 r5.tt, .string r5.da] = (((((w5).setCell ⟨b2, 0, none⟩ (.string r5.own)).setCell ⟨b2, 1, none⟩ (.int .i64 r5.ty)).setCell ⟨b2, 2, none⟩ (.int .i64 r5.cl)).setCell ⟨b2, 3, none⟩ (.int .i64 r5.tt)).setCell ⟨b2, 4, none⟩ (.string r5.da) := rfl
                  have gE : w5.grownBy (setAll w5 b2 0 [.string r5.own, .int .i64 r5.ty, .int .i64 r5.cl, .int .i64 r5.tt, .string r5.da]) (some b2) := by
                    rw [eE]
                    exact grown_step (grown_step (grown_step (grown_step (grown_set _ _ _ _) (grown_set _ _ _ _)) (grown_set _ _ _ _)) (grown_set _ _ _ _)) (grown_set _ _ _ _)
                  have hM6 := hM5.row gE (fun q hq => by cases hq; omega) c1 c2 lq la lu lx hglt hcode
                  have hrw6 := hrw5.kept gE (.inr hvb)
                  have f5 := fun i => blk_frozen kX5 i
                  have r5' := fun i => blk_cell kX5 i
                  have rE := fun i => blk_cell kE i
                  have hsz6 : b2 < (setAll w5 b2 0 [.string r5.own, .int .i64 r5.ty, .int .i64 r5.cl, .int .i64 r5.tt, .string r5.da]).heap.size := blk_lt kE
                  have hCw : C ≤ (setAll w5 b2 0 [.string r5.own, .int .i64 r5.ty, .int .i64 r5.cl, .int .i64 r5.tt, .string r5.da]).heap.size := by omega
                  clear hM5 hrw5 gE hg5 hs5 hM kX hrw fx rx
                  rw [eE] at kE hM6 hrw6 rE hsz6 hCw
                  have hszN : ((((((w5).setCell ⟨b2, 0, none⟩ (.string r5.own)).setCell ⟨b2, 1, none⟩ (.int .i64 r5.ty)).setCell ⟨b2, 2, none⟩ (.int .i64 r5.cl)).setCell ⟨b2, 3, none⟩ (.int .i64 r5.tt)).setCell ⟨b2, 4, none⟩ (.string r5.da)).heap.size = w5.heap.size := by simp
                  have hcn := cell_newQ ((((((w5).setCell ⟨b2, 0, none⟩ (.string r5.own)).setCell ⟨b2, 1, none⟩ (.int .i64 r5.ty)).setCell ⟨b2, 2, none⟩ (.int .i64 r5.cl)).setCell ⟨b2, 3, none⟩ (.int .i64 r5.tt)).setCell ⟨b2, 4, none⟩ (.string r5.da)) #[.string r5.own, .int .i64 r5.ty, .int .i64 r5.cl, .int .i64 r5.tt, .string r5.da] 66
                  rw [hszN] at hcn
                  go_wp2_with (at_builtin; refine wpList_append_own_at _ rfl (.tmp 76) (.tmp 78) 27 rfl C 66 j0 _ 5 56 Try.underlying27 hj hy0 hy1 hy2 rfl (by decide) _ _ _ (by go_simp) (hrw6.alloc _) ⟨w5.heap.size, 0, none⟩ 1 1 [.string r5.own, .int .i64 r5.ty, .int .i64 r5.cl, .int .i64 r5.tt, .string r5.da] (by go_simp) rfl hcn (by intro u hu; simp at hu; rcases hu with rfl | rfl | rfl | rfl | rfl <;> rfl) (by have := HXL.out; unfold maxLen; omega) (by have := HXL.out; omega) (by simp; omega) ?_; intro vb wb hown9 hgrow9 hnl9 hat9; clear hnl9)
                  have bS := (Below.refl ((((((w5).setCell ⟨b2, 0, none⟩ (.string r5.own)).setCell ⟨b2, 1, none⟩ (.int .i64 r5.ty)).setCell ⟨b2, 2, none⟩ (.int .i64 r5.cl)).setCell ⟨b2, 3, none⟩ (.int .i64 r5.tt)).setCell ⟨b2, 4, none⟩ (.string r5.da)).heap.size ((((((w5).setCell ⟨b2, 0, none⟩ (.string r5.own)).setCell ⟨b2, 1, none⟩ (.int .i64 r5.ty)).setCell ⟨b2, 2, none⟩ (.int .i64 r5.cl)).setCell ⟨b2, 3, none⟩ (.int .i64 r5.tt)).setCell ⟨b2, 4, none⟩ (.string r5.da))).alloc (Nat.le_refl _) (.cells #[.string r5.own, .int .i64 r5.ty, .int .i64 r5.cl, .int .i64 r5.tt, .string r5.da] 66)
                  have kX8 := blk_below kE bS
                  have hrw8 := own_below hrw6 bS
                  have hM8 := hM6.below bS
                  have kX9 := blk_grown kX8 hgrow9 hvb
                  have hM9 := hM8.row hgrow9 (fun q hq => (hrw8.lt q hq).1) c1 c2 lq la lu lx hglt hcode
                  have hsz9 : b2 < wb.heap.size := blk_lt kX9
                  have hvb9 : vb.ownBlock ≠ some b2 := by
                    rcases hat9 with e | e
                    · rw [e]; exact hvb
                    · rw [e]; simp; omega
                  have hxs9 : ∀ x ∈ xs ++ [r5], rcW x := by
                    intro x hx
                    rcases List.mem_append.1 hx with hx | hx
                    · exact hxs x hx
                    · simp at hx; subst hx; assumption
                  have hrw9 : wb.ownsRow C 66 5 vb (xs ++ [r5]).length (rvVs (xs ++ [r5])) := by
                    rw [rvVs_app, List.length_append]
                    exact hown9
                  clear hown9 hgrow9 hat9 kX8 hrw8 hM8 bS
                  go_wp2
                  go_roundw
                  case rel => exact ⟨k2 + 1, xs ++ [r5], r5, by omega, by go_num, by have := HXL.out; simp; omega, hrw9, hxs9, by assumption, kX9, hvb9, hsz9, hM9⟩
                  case measure => simp [intOf]; omega
                · have h8' : (8 : Int) ≤ (k2 : Int) := by omega
                  first
                  | (exfalso; omega)
                  | (
                    have rx := fun i => blk_cell kX i
                    go_wp2_with (at_builtin; refine wpList_append_own_at _ rfl (.tmp 76) (.tmp 78) 27 rfl C 66 j0 _ 5 56 Try.underlying27 hj hy0 hy1 hy2 rfl (by decide) _ _ _ rfl (hrw.alloc _) ⟨(wr).heap.size, 0, none⟩ 1 1 [.string r.own, .int .i64 r.ty, .int .i64 r.cl, .int .i64 r.tt, .string r.da] rfl rfl (cell_newQ _ _ _) (by intro u hu; simp at hu; rcases hu with rfl | rfl | rfl | rfl | rfl <;> rfl) (by have := HXL.out; unfold maxLen; omega) (by have := HXL.out; omega) (by simp; omega) ?_; intro vb wb hown9 hgrow9 hnl9 hat9; clear hnl9)
                    have bS := (Below.refl (wr).heap.size (wr)).alloc (Nat.le_refl _) (.cells #[.string r.own, .int .i64 r.ty, .int .i64 r.cl, .int .i64 r.tt, .string r.da] 66)
                    have kX8 := blk_below kX bS
                    have hrw8 := own_below hrw bS
                    have hM8 := hM.below bS
                    have kX9 := blk_grown kX8 hgrow9 hvb
                    have hM9 := hM8.row hgrow9 (fun q hq => (hrw8.lt q hq).1) c1 c2 lq la lu lx hglt hcode
                    have hsz9 : b2 < wb.heap.size := blk_lt kX9
                    have hvb9 : vb.ownBlock ≠ some b2 := by
                      rcases hat9 with e | e
                      · rw [e]; exact hvb
                      · rw [e]; simp; omega
                    have hxs9 : ∀ x ∈ xs ++ [r], rcW x := by
                      intro x hx
                      rcases List.mem_append.1 hx with hx | hx
                      · exact hxs x hx
                      · simp at hx; subst hx; assumption
                    have hrw9 : wb.ownsRow C 66 5 vb (xs ++ [r]).length (rvVs (xs ++ [r])) := by
                      rw [rvVs_app, List.length_append]
                      exact hown9
                    clear hown9 hgrow9 hat9 kX8 hrw8 hM8 bS
                    go_wp2
                    go_roundw
                    case rel => exact ⟨k2 + 1, xs ++ [r], r, by omega, by go_num, by have := HXL.out; simp; omega, hrw9, hxs9, by assumption, kX9, hvb9, hsz9, hM9⟩
                    case measure => simp [intOf]; omega)
              · obtain rfl : k2 = N := by omega
                have hl2' : (k2 : Int) ≤ (k2 : Int) := by omega
                obtain ⟨xv, yv, hv2⟩ := own_sl hrw
                have hxn := HXL.out
                rw [hxn] at hv2
                subst hv2
                have hrwB := hrw.mono (Nat.le_of_lt c2)
                have rB := fun i => blk_cell hM.kB i
                have fB := fun i => blk_frozen hM.kB i
                have HE : Hid (∀ (i : Nat) (y : Value), Src (wr.setCell ⟨b1, i, none⟩ y) g a n cap ∧ w.grownBy (wr.setCell ⟨b1, i, none⟩ y) (some g)) := fun i y => ⟨src_grown (w0 := w) hM.s (grown_set wr b1 i y) (fun k hk => by cases hk; omega) hglt hcode, grown_own hM.gr (grown_set wr b1 i y) (fun k hk => by cases hk; omega)⟩
                have hnz : w.heap.size ≠ b1 := by omega
                go_wp2
                have hME : DM w (wr.setCell ⟨b1, 12, none⟩ (.slice xv k2 yv)) g a n cap b1 [.int .i64 id, .bool q1, .int .i64 op, .bool q2, .bool q3, .bool q4, .bool q5, .bool q6, .bool q7, .bool q8, .int .i64 co] vq (.slice xv k2 yv) vu vx qs xs au ex := ⟨blk_set hM.kB 12 _, blk_far hM.kk hnz, own_far hM.q (own_blk' hM.q hM.kB (by decide)), ⟨own_far hrwB (own_blk' hrwB hM.kB (by decide)), hxs⟩, hM.au.far hM.kB (by decide), hM.ex.far hM.kB (by decide), (HE.out _ _).1, (HE.out _ _).2⟩
                go_roundw
                case rel => exact ⟨1, xs, au, ex, _, vu, vx, by omega, by go_num, hME, by omega, lu1, lx1⟩
                case measure => simp [intOf]
        · simp only [Int.cast_ofNat_Int]
          go_wp2_with (
            go_at_call 12
            refine (l01Next_any g a n cap 4 _ hM.s (by decide)).mono ?_
            rintro e wn ⟨N, rfl, hN0, hN1, hsn, hgn⟩
            have hN2 := hN1 (by decide)
            obtain ⟨N, rfl⟩ := Int.eq_ofNat_of_zero_le hN0)
          have hM := hM.grown hgn hsn hglt hgb
          obtain ⟨c1, c2, lq, la, lu, lx⟩ := hM.low
          have bL := (Below.refl wn.heap.size wn).alloc (Nat.le_refl _) (.cells #[] 66)
          have hML := hM.below bL
          have hrowL : (wn.alloc (.cells #[] 66)).ownsRow wn.heap.size 66 5 (.slice (some ⟨wn.heap.size, 0, none⟩) 0 0) 0 [] := World.ownsRow_made wn #[] 0 (Nat.le_refl _) (by decide) rfl
          refine (l04RR_any g a n cap _ hML.s).mono ?_
          rintro e w3 ⟨r0, rfl, hr0', hs3, hg3⟩
          have hM3 := hML.grown hg3 hs3 hglt hgb
          have hrow3 := hrowL.kept hg3 (rowS hrowL hML.s (by decide))
          have hsz3 : wn.heap.size < w3.heap.size := by have := hg3.size; simp at this; omega
          have bB := (Below.refl w3.heap.size w3).alloc (Nat.le_refl _) (.cells #[.string r0.own, .int .i64 r0.ty, .int .i64 r0.cl, .int .i64 r0.tt, .string r0.da] 66)
          have kBx := blk_new w3 #[.string r0.own, .int .i64 r0.ty, .int .i64 r0.cl, .int .i64 r0.tt, .string r0.da] 66
          have hMB := hM3.below bB
          have hrowB := own_below hrow3 bB
          have hszB : w3.heap.size < (w3.alloc (.cells #[.string r0.own, .int .i64 r0.ty, .int .i64 r0.cl, .int .i64 r0.tt, .string r0.da] 66)).heap.size := by simp
          clear hM3 hrow3 hML hrowL bL hg3 hs3 hM bB hsn hgn
          generalize wn.heap.size = C at *
          go_wp2_with fail
          generalize w3.alloc (.cells #[.string r0.own, .int .i64 r0.ty, .int .i64 r0.cl, .int .i64 r0.tt, .string r0.da] 66) = W0 at *
          generalize w3.heap.size = b2 at *
          go_loopw [9, 7] (fun i v wr => ∃ (k2 : Nat) (xs : List Rr) (r : Rr), k2 ≤ N ∧ i = .int .i64 k2 ∧ xs.length = k2 ∧ wr.ownsRow C 66 5 v xs.length (rvVs xs) ∧ (∀ x ∈ xs, rcW x) ∧ rcW r ∧ Blk wr b2 #[.string r.own, .int .i64 r.ty, .int .i64 r.cl, .int .i64 r.tt, .string r.da] 66 ∧ v.ownBlock ≠ some b2 ∧ b2 < wr.heap.size ∧ DM w wr g a n cap b1 [.int .i64 id, .bool q1, .int .i64 op, .bool q2, .bool q3, .bool q4, .bool q5, .bool q6, .bool q7, .bool q8, .int .i64 co] vq va vu vx qs an au ex) (fun i _ _ => N - (intOf i).toNat)
          case atStart => exact ⟨0, [], r0, Nat.zero_le _, rfl, rfl, hrowB, by simp, hr0', kBx, by simp only [Value.ownBlock, ne_eq, Option.some.injEq]; omega, hszB, hMB⟩
          case round =>
            obtain ⟨k2, xs, r, hk2, rfl, hxl, hrw, hxs, hr, kX, hvb, hb2, hM⟩ := hrel
            have HXL := Nm.hide hxl
            clear hxl hMB hrowB kBx hszB
            have hCw : C ≤ wr.heap.size := by omega
            by_cases hl2 : k2 < N
            · have hl2' : (k2 : Int) < (N : Int) := by omega
              by_cases h8 : k2 < 8
              · have h8' : (k2 : Int) < 8 := by omega
                have fx := fun i => blk_frozen kX i
                have rx := fun i => blk_cell kX i
                go_wp2_with fail
                refine (l04RR_any g a n cap _ hM.s).mono ?_
                rintro e w5 ⟨r5, rfl, hr5, hs5, hg5⟩
                have hM5 := hM.grown hg5 hs5 hglt hgb
                have kX5 := blk_grown kX hg5 (by intro e; simp at e; omega)
                have hrw5 := hrw.kept hg5 (rowS hrw hM.s (by decide))
                have kE := setAll_new [.string r5.own, .int .i64 r5.ty, .int .i64 r5.cl, .int .i64 r5.tt, .string r5.da] kX5 rfl
                have eE : setAll w5 b2 0 [.string r5.own, .int .i64 r5.ty, .int .i64 r5.cl, .int .i64 r5.tt, .string r5.da] = (((((w5).setCell ⟨b2, 0, none⟩ (.string r5.own)).setCell ⟨b2, 1, none⟩ (.int .i64 r5.ty)).setCell ⟨b2, 2, none⟩ (.int .i64 r5.cl)).setCell ⟨b2, 3, none⟩ (.int .i64 r5.tt)).setCell ⟨b2, 4, none⟩ (.string r5.da) := rfl
                have gE : w5.grownBy (setAll w5 b2 0 [.string r5.own, .int .i64 r5.ty, .int .i64 r5.cl, .int .i64 r5.tt, .string r5.da]) (some b2) := by
                  rw [eE]
                  exact grown_step (grown_step (grown_step (grown_step (grown_set _ _ _ _) (grown_set _ _ _ _)) (grown_set _ _ _ _)) (grown_set _ _ _ _)) (grown_set _ _ _ _)
                have hM6 := hM5.row gE (fun q hq => by cases hq; omega) c1 c2 lq la lu lx hglt hcode
                have hrw6 := hrw5.kept gE (.inr hvb)
                have f5 := fun i => blk_frozen kX5 i
                have r5' := fun i => blk_cell kX5 i
                have rE := fun i => blk_cell kE i
                have hsz6 : b2 < (setAll w5 b2 0 [.string r5.own, .int .i64 r5.ty, .int .i64 r5.cl, .int .i64 r5.tt, .string r5.da]).heap.size := blk_lt kE
                have hCw : C ≤ (setAll w5 b2 0 [.string r5.own, .int .i64 r5.ty, .int .i64 r5.cl, .int .i64 r5.tt, .string r5.da]).heap.size := by omega
                clear hM5 hrw5 gE hg5 hs5 hM kX hrw fx rx
                rw [eE] at kE hM6 hrw6 rE hsz6 hCw
                have hszN : ((((((w5).setCell ⟨b2, 0, none⟩ (.string r5.own)).setCell ⟨b2, 1, none⟩ (.int .i64 r5.ty)).setCell ⟨b2, 2, none⟩ (.int .i64 r5.cl)).setCell ⟨b2, 3, none⟩ (.int .i64 r5.tt)).setCell ⟨b2, 4, none⟩ (.string r5.da)).heap.size = w5.heap.size := by simp
                have hcn := cell_newQ ((((((w5).setCell ⟨b2, 0, none⟩ (.string r5.own)).setCell ⟨b2, 1, none⟩ (.int .i64 r5.ty)).setCell ⟨b2, 2, none⟩ (.int .i64 r5.cl)).setCell ⟨b2, 3, none⟩ (.int .i64 r5.tt)).setCell ⟨b2, 4, none⟩ (.string r5.da)) #[.string r5.own, .int .i64 r5.ty, .int .i64 r5.cl, .int .i64 r5.tt, .string r5.da] 66
                rw [hszN] at hcn
                go_wp2_with (at_builtin; refine wpList_append_own_at _ rfl (.tmp 76) (.tmp 78) 27 rfl C 66 j0 _ 5 56 Try.underlying27 hj hy0 hy1 hy2 rfl (by decide) _ _ _ (by go_simp) (hrw6.alloc _) ⟨w5.heap.size, 0, none⟩ 1 1 [.string r5.own, .int .i64 r5.ty, .int .i64 r5.cl, .int .i64 r5.tt, .string r5.da] (by go_simp) rfl hcn (by intro u hu; simp at hu; rcases hu with rfl | rfl | rfl | rfl | rfl <;> rfl) (by have := HXL.out; unfold maxLen; omega) (by have := HXL.out; omega) (by simp; omega) ?_; intro vb wb hown9 hgrow9 hnl9 hat9; clear hnl9)
                have bS := (Below.refl ((((((w5).setCell ⟨b2, 0, none⟩ (.string r5.own)).setCell ⟨b2, 1, none⟩ (.int .i64 r5.ty)).setCell ⟨b2, 2, none⟩ (.int .i64 r5.cl)).setCell ⟨b2, 3, none⟩ (.int .i64 r5.tt)).setCell ⟨b2, 4, none⟩ (.string r5.da)).heap.size ((((((w5).setCell ⟨b2, 0, none⟩ (.string r5.own)).setCell ⟨b2, 1, none⟩ (.int .i64 r5.ty)).setCell ⟨b2, 2, none⟩ (.int .i64 r5.cl)).setCell ⟨b2, 3, none⟩ (.int .i64 r5.tt)).setCell ⟨b2, 4, none⟩ (.string r5.da))).alloc (Nat.le_refl _) (.cells #[.string r5.own, .int .i64 r5.ty, .int .i64 r5.cl, .int .i64 r5.tt, .string r5.da] 66)
                have kX8 := blk_below kE bS
                have hrw8 := own_below hrw6 bS
                have hM8 := hM6.below bS
                have kX9 := blk_grown kX8 hgrow9 hvb
                have hM9 := hM8.row hgrow9 (fun q hq => (hrw8.lt q hq).1) c1 c2 lq la lu lx hglt hcode
                have hsz9 : b2 < wb.heap.size := blk_lt kX9
                have hvb9 : vb.ownBlock ≠ some b2 := by
                  rcases hat9 with e | e
                  · rw [e]; exact hvb
                  · rw [e]; simp; omega
                have hxs9 : ∀ x ∈ xs ++ [r5], rcW x := by
                  intro x hx
                  rcases List.mem_append.1 hx with hx | hx
                  · exact hxs x hx
                  · simp at hx; subst hx; assumption
                have hrw9 : wb.ownsRow C 66 5 vb (xs ++ [r5]).length (rvVs (xs ++ [r5])) := by
                  rw [rvVs_app, List.length_append]
                  exact hown9
                clear hown9 hgrow9 hat9 kX8 hrw8 hM8 bS
                go_wp2
                go_roundw
                case rel => exact ⟨k2 + 1, xs ++ [r5], r5, by omega, by go_num, by have := HXL.out; simp; omega, hrw9, hxs9, by assumption, kX9, hvb9, hsz9, hM9⟩
                case measure => simp [intOf]; omega
              · have h8' : (8 : Int) ≤ (k2 : Int) := by omega
                first
                | (exfalso; omega)
                | (
                  have rx := fun i => blk_cell kX i
                  go_wp2_with (at_builtin; refine wpList_append_own_at _ rfl (.tmp 76) (.tmp 78) 27 rfl C 66 j0 _ 5 56 Try.underlying27 hj hy0 hy1 hy2 rfl (by decide) _ _ _ rfl (hrw.alloc _) ⟨(wr).heap.size, 0, none⟩ 1 1 [.string r.own, .int .i64 r.ty, .int .i64 r.cl, .int .i64 r.tt, .string r.da] rfl rfl (cell_newQ _ _ _) (by intro u hu; simp at hu; rcases hu with rfl | rfl | rfl | rfl | rfl <;> rfl) (by have := HXL.out; unfold maxLen; omega) (by have := HXL.out; omega) (by simp; omega) ?_; intro vb wb hown9 hgrow9 hnl9 hat9; clear hnl9)
                  have bS := (Below.refl (wr).heap.size (wr)).alloc (Nat.le_refl _) (.cells #[.string r.own, .int .i64 r.ty, .int .i64 r.cl, .int .i64 r.tt, .string r.da] 66)
                  have kX8 := blk_below kX bS
                  have hrw8 := own_below hrw bS
                  have hM8 := hM.below bS
                  have kX9 := blk_grown kX8 hgrow9 hvb
                  have hM9 := hM8.row hgrow9 (fun q hq => (hrw8.lt q hq).1) c1 c2 lq la lu lx hglt hcode
                  have hsz9 : b2 < wb.heap.size := blk_lt kX9
                  have hvb9 : vb.ownBlock ≠ some b2 := by
                    rcases hat9 with e | e
                    · rw [e]; exact hvb
                    · rw [e]; simp; omega
                  have hxs9 : ∀ x ∈ xs ++ [r], rcW x := by
                    intro x hx
                    rcases List.mem_append.1 hx with hx | hx
                    · exact hxs x hx
                    · simp at hx; subst hx; assumption
                  have hrw9 : wb.ownsRow C 66 5 vb (xs ++ [r]).length (rvVs (xs ++ [r])) := by
                    rw [rvVs_app, List.length_append]
                    exact hown9
                  clear hown9 hgrow9 hat9 kX8 hrw8 hM8 bS
                  go_wp2
                  go_roundw
                  case rel => exact ⟨k2 + 1, xs ++ [r], r, by omega, by go_num, by have := HXL.out; simp; omega, hrw9, hxs9, by assumption, kX9, hvb9, hsz9, hM9⟩
                  case measure => simp [intOf]; omega)
            · obtain rfl : k2 = N := by omega
              have hl2' : (k2 : Int) ≤ (k2 : Int) := by omega
              obtain ⟨xv, yv, hv2⟩ := own_sl hrw
              have hxn := HXL.out
              rw [hxn] at hv2
              subst hv2
              have hrwB := hrw.mono (Nat.le_of_lt c2)
              have rB := fun i => blk_cell hM.kB i
              have fB := fun i => blk_frozen hM.kB i
              have HE : Hid (∀ (i : Nat) (y : Value), Src (wr.setCell ⟨b1, i, none⟩ y) g a n cap ∧ w.grownBy (wr.setCell ⟨b1, i, none⟩ y) (some g)) := fun i y => ⟨src_grown (w0 := w) hM.s (grown_set wr b1 i y) (fun k hk => by cases hk; omega) hglt hcode, grown_own hM.gr (grown_set wr b1 i y) (fun k hk => by cases hk; omega)⟩
              have hnz : w.heap.size ≠ b1 := by omega
              go_wp2
              have hME : DM w (wr.setCell ⟨b1, 13, none⟩ (.slice xv k2 yv)) g a n cap b1 [.int .i64 id, .bool q1, .int .i64 op, .bool q2, .bool q3, .bool q4, .bool q5, .bool q6, .bool q7, .bool q8, .int .i64 co] vq va (.slice xv k2 yv) vx qs an xs ex := ⟨blk_set hM.kB 13 _, blk_far hM.kk hnz, own_far hM.q (own_blk' hM.q hM.kB (by decide)), hM.an.far hM.kB (by decide), ⟨own_far hrwB (own_blk' hrwB hM.kB (by decide)), hxs⟩, hM.ex.far hM.kB (by decide), (HE.out _ _).1, (HE.out _ _).2⟩
              go_roundw
              case rel => exact ⟨2, an, xs, ex, va, _, vx, by omega, by go_num, hME, la1, by omega, lx1⟩
              case measure => simp [intOf]
        · simp only [Int.cast_ofNat_Int]
          go_wp2_with (
            go_at_call 12
            refine (l01Next_any g a n cap 4 _ hM.s (by decide)).mono ?_
            rintro e wn ⟨N, rfl, hN0, hN1, hsn, hgn⟩
            have hN2 := hN1 (by decide)
            obtain ⟨N, rfl⟩ := Int.eq_ofNat_of_zero_le hN0)
          have hM := hM.grown hgn hsn hglt hgb
          obtain ⟨c1, c2, lq, la, lu, lx⟩ := hM.low
          have bL := (Below.refl wn.heap.size wn).alloc (Nat.le_refl _) (.cells #[] 66)
          have hML := hM.below bL
          have hrowL : (wn.alloc (.cells #[] 66)).ownsRow wn.heap.size 66 5 (.slice (some ⟨wn.heap.size, 0, none⟩) 0 0) 0 [] := World.ownsRow_made wn #[] 0 (Nat.le_refl _) (by decide) rfl
          refine (l04RR_any g a n cap _ hML.s).mono ?_
          rintro e w3 ⟨r0, rfl, hr0', hs3, hg3⟩
          have hM3 := hML.grown hg3 hs3 hglt hgb
          have hrow3 := hrowL.kept hg3 (rowS hrowL hML.s (by decide))
          have hsz3 : wn.heap.size < w3.heap.size := by have := hg3.size; simp at this; omega
          have bB := (Below.refl w3.heap.size w3).alloc (Nat.le_refl _) (.cells #[.string r0.own, .int .i64 r0.ty, .int .i64 r0.cl, .int .i64 r0.tt, .string r0.da] 66)
          have kBx := blk_new w3 #[.string r0.own, .int .i64 r0.ty, .int .i64 r0.cl, .int .i64 r0.tt, .string r0.da] 66
          have hMB := hM3.below bB
          have hrowB := own_below hrow3 bB
          have hszB : w3.heap.size < (w3.alloc (.cells #[.string r0.own, .int .i64 r0.ty, .int .i64 r0.cl, .int .i64 r0.tt, .string r0.da] 66)).heap.size := by simp
          clear hM3 hrow3 hML hrowL bL hg3 hs3 hM bB hsn hgn
          generalize wn.heap.size = C at *
          go_wp2_with fail
          generalize w3.alloc (.cells #[.string r0.own, .int .i64 r0.ty, .int .i64 r0.cl, .int .i64 r0.tt, .string r0.da] 66) = W0 at *
          generalize w3.heap.size = b2 at *
          go_loopw [9, 7] (fun i v wr => ∃ (k2 : Nat) (xs : List Rr) (r : Rr), k2 ≤ N ∧ i = .int .i64 k2 ∧ xs.length = k2 ∧ wr.ownsRow C 66 5 v xs.length (rvVs xs) ∧ (∀ x ∈ xs, rcW x) ∧ rcW r ∧ Blk wr b2 #[.string r.own, .int .i64 r.ty, .int .i64 r.cl, .int .i64 r.tt, .string r.da] 66 ∧ v.ownBlock ≠ some b2 ∧ b2 < wr.heap.size ∧ DM w wr g a n cap b1 [.int .i64 id, .bool q1, .int .i64 op, .bool q2, .bool q3, .bool q4, .bool q5, .bool q6, .bool q7, .bool q8, .int .i64 co] vq va vu vx qs an au ex) (fun i _ _ => N - (intOf i).toNat)
          case atStart => exact ⟨0, [], r0, Nat.zero_le _, rfl, rfl, hrowB, by simp, hr0', kBx, by simp only [Value.ownBlock, ne_eq, Option.some.injEq]; omega, hszB, hMB⟩
          case round =>
            obtain ⟨k2, xs, r, hk2, rfl, hxl, hrw, hxs, hr, kX, hvb, hb2, hM⟩ := hrel
            have HXL := Nm.hide hxl
            clear hxl hMB hrowB kBx hszB
            have hCw : C ≤ wr.heap.size := by omega
            by_cases hl2 : k2 < N
            · have hl2' : (k2 : Int) < (N : Int) := by omega
              by_cases h8 : k2 < 8
              · have h8' : (k2 : Int) < 8 := by omega
                have fx := fun i => blk_frozen kX i
                have rx := fun i => blk_cell kX i
                go_wp2_with fail
                refine (l04RR_any g a n cap _ hM.s).mono ?_
                rintro e w5 ⟨r5, rfl, hr5, hs5, hg5⟩
                have hM5 := hM.grown hg5 hs5 hglt hgb
                have kX5 := blk_grown kX hg5 (by intro e; simp at e; omega)
                have hrw5 := hrw.kept hg5 (rowS hrw hM.s (by decide))
                have kE := setAll_new [.string r5.own, .int .i64 r5.ty, .int .i64 r5.cl, .int .i64 r5.tt, .string r5.da] kX5 rfl
                have eE : setAll w5 b2 0 [.string r5.own, .int .i64 r5.ty, .int .i64 r5.cl, .int .i64 r5.tt, .string r5.da] = (((((w5).setCell ⟨b2, 0, none⟩ (.string r5.own)).setCell ⟨b2, 1, none⟩ (.int .i64 r5.ty)).setCell ⟨b2, 2, none⟩ (.int .i64 r5.cl)).setCell ⟨b2, 3, none⟩ (.int .i64 r5.tt)).setCell ⟨b2, 4, none⟩ (.string r5.da) := rfl
                have gE : w5.grownBy (setAll w5 b2 0 [.string r5.own, .int .i64 r5.ty, .int .i64 r5.cl, .int .i64 r5.tt, .string r5.da]) (some b2) := by
                  rw [eE]
                  exact grown_step (grown_step (grown_step (grown_step (grown_set _ _ _ _) (grown_set _ _ _ _)) (grown_set _ _ _ _)) (grown_set _ _ _ _)) (grown_set _ _ _ _)
                have hM6 := hM5.row gE (fun q hq => by cases hq; omega) c1 c2 lq la lu lx hglt hcode
                have hrw6 := hrw5.kept gE (.inr hvb)
                have f5 := fun i => blk_frozen kX5 i
                have r5' := fun i => blk_cell kX5 i
                have rE := fun i => blk_cell kE i
                have hsz6 : b2 < (setAll w5 b2 0 [.string r5.own, .int .i64 r5.ty, .int .i64 r5.cl, .int .i64 r5.tt, .string r5.da]).heap.size := blk_lt kE
                have hCw : C ≤ (setAll w5 b2 0 [.string r5.own, .int .i64 r5.ty, .int .i64 r5.cl, .int .i64 r5.tt, .string r5.da]).heap.size := by omega
                clear hM5 hrw5 gE hg5 hs5 hM kX hrw fx rx
                rw [eE] at kE hM6 hrw6 rE hsz6 hCw
                have hszN : ((((((w5).setCell ⟨b2, 0, none⟩ (.string r5.own)).setCell ⟨b2, 1, none⟩ (.int .i64 r5.ty)).setCell ⟨b2, 2, none⟩ (.int .i64 r5.cl)).setCell ⟨b2, 3, none⟩ (.int .i64 r5.tt)).setCell ⟨b2, 4, none⟩ (.string r5.da)).heap.size = w5.heap.size := by simp
                have hcn := cell_newQ ((((((w5).setCell ⟨b2, 0, none⟩ (.string r5.own)).setCell ⟨b2, 1, none⟩ (.int .i64 r5.ty)).setCell ⟨b2, 2, none⟩ (.int .i64 r5.cl)).setCell ⟨b2, 3, none⟩ (.int .i64 r5.tt)).setCell ⟨b2, 4, none⟩ (.string r5.da)) #[.string r5.own, .int .i64 r5.ty, .int .i64 r5.cl, .int .i64 r5.tt, .string r5.da] 66
                rw [hszN] at hcn
                go_wp2_with (at_builtin; refine wpList_append_own_at _ rfl (.tmp 76) (.tmp 78) 27 rfl C 66 j0 _ 5 56 Try.underlying27 hj hy0 hy1 hy2 rfl (by decide) _ _ _ (by go_simp) (hrw6.alloc _) ⟨w5.heap.size, 0, none⟩ 1 1 [.string r5.own, .int .i64 r5.ty, .int .i64 r5.cl, .int .i64 r5.tt, .string r5.da] (by go_simp) rfl hcn (by intro u hu; simp at hu; rcases hu with rfl | rfl | rfl | rfl | rfl <;> rfl) (by have := HXL.out; unfold maxLen; omega) (by have := HXL.out; omega) (by simp; omega) ?_; intro vb wb hown9 hgrow9 hnl9 hat9; clear hnl9)
                have bS := (Below.refl ((((((w5).setCell ⟨b2, 0, none⟩ (.string r5.own)).setCell ⟨b2, 1, none⟩ (.int .i64 r5.ty)).setCell ⟨b2, 2, none⟩ (.int .i64 r5.cl)).setCell ⟨b2, 3, none⟩ (.int .i64 r5.tt)).setCell ⟨b2, 4, none⟩ (.string r5.da)).heap.size ((((((w5).setCell ⟨b2, 0, none⟩ (.string r5.own)).setCell ⟨b2, 1, none⟩ (.int .i64 r5.ty)).setCell ⟨b2, 2, none⟩ (.int .i64 r5.cl)).setCell ⟨b2, 3, none⟩ (.int .i64 r5.tt)).setCell ⟨b2, 4, none⟩ (.string r5.da))).alloc (Nat.le_refl _) (.cells #[.string r5.own, .int .i64 r5.ty, .int .i64 r5.cl, .int .i64 r5.tt, .string r5.da] 66)
                have kX8 := blk_below kE bS
                have hrw8 := own_below hrw6 bS
                have hM8 := hM6.below bS
                have kX9 := blk_grown kX8 hgrow9 hvb
                have hM9 := hM8.row hgrow9 (fun q hq => (hrw8.lt q hq).1) c1 c2 lq la lu lx hglt hcode
                have hsz9 : b2 < wb.heap.size := blk_lt kX9
                have hvb9 : vb.ownBlock ≠ some b2 := by
                  rcases hat9 with e | e
                  · rw [e]; exact hvb
                  · rw [e]; simp; omega
                have hxs9 : ∀ x ∈ xs ++ [r5], rcW x := by
                  intro x hx
                  rcases List.mem_append.1 hx with hx | hx
                  · exact hxs x hx
                  · simp at hx; subst hx; assumption
                have hrw9 : wb.ownsRow C 66 5 vb (xs ++ [r5]).length (rvVs (xs ++ [r5])) := by
                  rw [rvVs_app, List.length_append]
                  exact hown9
                clear hown9 hgrow9 hat9 kX8 hrw8 hM8 bS
                go_wp2
                go_roundw
                case rel => exact ⟨k2 + 1, xs ++ [r5], r5, by omega, by go_num, by have := HXL.out; simp; omega, hrw9, hxs9, by assumption, kX9, hvb9, hsz9, hM9⟩
                case measure => simp [intOf]; omega
              · have h8' : (8 : Int) ≤ (k2 : Int) := by omega
                first
                | (exfalso; omega)
                | (
                  have rx := fun i => blk_cell kX i
                  go_wp2_with (at_builtin; refine wpList_append_own_at _ rfl (.tmp 76) (.tmp 78) 27 rfl C 66 j0 _ 5 56 Try.underlying27 hj hy0 hy1 hy2 rfl (by decide) _ _ _ rfl (hrw.alloc _) ⟨(wr).heap.size, 0, none⟩ 1 1 [.string r.own, .int .i64 r.ty, .int .i64 r.cl, .int .i64 r.tt, .string r.da] rfl rfl (cell_newQ _ _ _) (by intro u hu; simp at hu; rcases hu with rfl | rfl | rfl | rfl | rfl <;> rfl) (by have := HXL.out; unfold maxLen; omega) (by have := HXL.out; omega) (by simp; omega) ?_; intro vb wb hown9 hgrow9 hnl9 hat9; clear hnl9)
                  have bS := (Below.refl (wr).heap.size (wr)).alloc (Nat.le_refl _) (.cells #[.string r.own, .int .i64 r.ty, .int .i64 r.cl, .int .i64 r.tt, .string r.da] 66)
                  have kX8 := blk_below kX bS
                  have hrw8 := own_below hrw bS
                  have hM8 := hM.below bS
                  have kX9 := blk_grown kX8 hgrow9 hvb
                  have hM9 := hM8.row hgrow9 (fun q hq => (hrw8.lt q hq).1) c1 c2 lq la lu lx hglt hcode
                  have hsz9 : b2 < wb.heap.size := blk_lt kX9
                  have hvb9 : vb.ownBlock ≠ some b2 := by
                    rcases hat9 with e | e
                    · rw [e]; exact hvb
                    · rw [e]; simp; omega
                  have hxs9 : ∀ x ∈ xs ++ [r], rcW x := by
                    intro x hx
                    rcases List.mem_append.1 hx with hx | hx
                    · exact hxs x hx
                    · simp at hx; subst hx; assumption
                  have hrw9 : wb.ownsRow C 66 5 vb (xs ++ [r]).length (rvVs (xs ++ [r])) := by
                    rw [rvVs_app, List.length_append]
                    exact hown9
                  clear hown9 hgrow9 hat9 kX8 hrw8 hM8 bS
                  go_wp2
                  go_roundw
                  case rel => exact ⟨k2 + 1, xs ++ [r], r, by omega, by go_num, by have := HXL.out; simp; omega, hrw9, hxs9, by assumption, kX9, hvb9, hsz9, hM9⟩
                  case measure => simp [intOf]; omega)
            · obtain rfl : k2 = N := by omega
              have hl2' : (k2 : Int) ≤ (k2 : Int) := by omega
              obtain ⟨xv, yv, hv2⟩ := own_sl hrw
              have hxn := HXL.out
              rw [hxn] at hv2
              subst hv2
              have hrwB := hrw.mono (Nat.le_of_lt c2)
              have rB := fun i => blk_cell hM.kB i
              have fB := fun i => blk_frozen hM.kB i
              have HE : Hid (∀ (i : Nat) (y : Value), Src (wr.setCell ⟨b1, i, none⟩ y) g a n cap ∧ w.grownBy (wr.setCell ⟨b1, i, none⟩ y) (some g)) := fun i y => ⟨src_grown (w0 := w) hM.s (grown_set wr b1 i y) (fun k hk => by cases hk; omega) hglt hcode, grown_own hM.gr (grown_set wr b1 i y) (fun k hk => by cases hk; omega)⟩
              have hnz : w.heap.size ≠ b1 := by omega
              go_wp2
              have hME : DM w (wr.setCell ⟨b1, 14, none⟩ (.slice xv k2 yv)) g a n cap b1 [.int .i64 id, .bool q1, .int .i64 op, .bool q2, .bool q3, .bool q4, .bool q5, .bool q6, .bool q7, .bool q8, .int .i64 co] vq va vu (.slice xv k2 yv) qs an au xs := ⟨blk_set hM.kB 14 _, blk_far hM.kk hnz, own_far hM.q (own_blk' hM.q hM.kB (by decide)), hM.an.far hM.kB (by decide), hM.au.far hM.kB (by decide), ⟨own_far hrwB (own_blk' hrwB hM.kB (by decide)), hxs⟩, (HE.out _ _).1, (HE.out _ _).2⟩
              go_roundw
              case rel => exact ⟨3, an, au, xs, va, vu, _, by omega, by go_num, hME, la1, lu1, by omega⟩
              case measure => simp [intOf]
        · simp only [Int.cast_ofNat_Int]
          have rB := fun i => blk_cell hM.kB i
          have rz := fun i => blk_cell hM.kk i
          have fz := fun i => blk_frozen hM.kk i
          obtain ⟨y1, y2, ev⟩ := own_sl hM.q
          obtain ⟨y3, y4, ea⟩ := own_sl hM.an.own
          obtain ⟨y5, y6, eu⟩ := own_sl hM.au.own
          obtain ⟨y7, y8, ex'⟩ := own_sl hM.ex.own
          have kE := setAll_new [.int .i64 id, .bool q1, .int .i64 op, .bool q2, .bool q3, .bool q4, .bool q5, .bool q6, .bool q7, .bool q8, .int .i64 co, vq, va, vu, vx] hM.kk rfl
          have eE : setAll wr w.heap.size 0 [.int .i64 id, .bool q1, .int .i64 op, .bool q2, .bool q3, .bool q4, .bool q5, .bool q6, .bool q7, .bool q8, .int .i64 co, vq, va, vu, vx] = (((((((((((((((wr).setCell ⟨w.heap.size, 0, none⟩ (.int .i64 id)).setCell ⟨w.heap.size, 1, none⟩ (.bool q1)).setCell ⟨w.heap.size, 2, none⟩ (.int .i64 op)).setCell ⟨w.heap.size, 3, none⟩ (.bool q2)).setCell ⟨w.heap.size, 4, none⟩ (.bool q3)).setCell ⟨w.heap.size, 5, none⟩ (.bool q4)).setCell ⟨w.heap.size, 6, none⟩ (.bool q5)).setCell ⟨w.heap.size, 7, none⟩ (.bool q6)).setCell ⟨w.heap.size, 8, none⟩ (.bool q7)).setCell ⟨w.heap.size, 9, none⟩ (.bool q8)).setCell ⟨w.heap.size, 10, none⟩ (.int .i64 co)).setCell ⟨w.heap.size, 11, none⟩ (vq)).setCell ⟨w.heap.size, 12, none⟩ (va)).setCell ⟨w.heap.size, 13, none⟩ (vu)).setCell ⟨w.heap.size, 14, none⟩ (vx) := rfl
          have gE := grown_setAll (b := w.heap.size) [.int .i64 id, .bool q1, .int .i64 op, .bool q2, .bool q3, .bool q4, .bool q5, .bool q6, .bool q7, .bool q8, .int .i64 co, vq, va, vu, vx] 0 wr
          have sE := src_grown (w0 := w) hM.s gE (fun k hk => by cases hk; exact Nat.le_refl _) hglt hcode
          have ggE := grown_own hM.gr gE (fun k hk => by cases hk; exact Nat.le_refl _)
          have oE : MOwn (setAll wr w.heap.size 0 [.int .i64 id, .bool q1, .int .i64 op, .bool q2, .bool q3, .bool q4, .bool q5, .bool q6, .bool q7, .bool q8, .int .i64 co, vq, va, vu, vx]) w.heap.size ⟨⟨id, q1, op, q2, q3, q4, q5, q6, q7, q8, co⟩, qs, an, au, ex⟩ vq va vu vx := ⟨hM.q.kept gE (.inr (own_blk' hM.q hM.kk (by decide))), hM.an.own.kept gE (.inr (own_blk' hM.an.own hM.kk (by decide))), hM.au.own.kept gE (.inr (own_blk' hM.au.own hM.kk (by decide))), hM.ex.own.kept gE (.inr (own_blk' hM.ex.own hM.kk (by decide)))⟩
          have rE := fun i => blk_cell kE i
          have hoks := And.intro hM.an.ok (And.intro hM.au.ok hM.ex.ok)
          clear gE hM
          subst ev ea eu ex'
          go_wp2
          rw [← eE]
          refine bodyPost_ret (v := .agg (mgV ⟨id, q1, op, q2, q3, q4, q5, q6, q7, q8, co⟩ _ _ _ _)) ?_ rfl ⟨⟨⟨id, q1, op, q2, q3, q4, q5, q6, q7, q8, co⟩, qs, an, au, ex⟩, _, _, _, _, rfl, oE, hhd, hqs, hoks.1, hoks.2.1, hoks.2.2, by show qs.length + an.length + au.length + ex.length ≤ 400; omega, sE, ggE⟩
          simp [results, Try.results11, go_sem, Result.andThen, rE, mgV]
end Go.Proofs.Ytihhchebcojplaa
