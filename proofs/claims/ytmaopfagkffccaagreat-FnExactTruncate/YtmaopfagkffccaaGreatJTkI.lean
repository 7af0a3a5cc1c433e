import Derived.Test.YtmaopfagkffccaaGreatShI
import Derived.Test.YtmaopfagkffccaaGreatCrM
import Derived.Test.YtmaopfagkffccaaGreatIwF
import Derived.Test.YtmaopfagkffccaaGreatJICheck
import Derived.Test.YtmaopfagkffccaaGreatJCrI
import Derived.Test.YtmaopfagkffccaaGreatJMvM
/- impl.Truncate by its contract. -/
namespace Go.Proofs.YtmaopfagkffccaaGreat
open Go.RowKit
set_option linter.unusedVariables false

def z0M : Mg := ⟨⟨0, false, 0, false, false, false, false, false, false, false, 0⟩, [], [], [], []⟩
def trR (b : Int) (m : Mg) : Mg × Int := if mgOK m = true then (trM b m, 0) else (z0M, 32)
/-- What Truncate leaves. -/
def TkPost (R : Mg × Int) (w : World) (e : Ending) (w' : World) : Prop :=
  ∃ q a u x, e = .returned (.tuple #[.agg (mgV R.1.hd q a u x), .int .i64 R.2]) ∧ MOwn w' w.heap.size R.1 q a u x ∧ Apa a u x ∧ Below w.heap.size w w'

theorem tk_back {w W : World} {a : Act} {g : Nat} {R : Mg × Int} {c : Array Value} {q v u x : Value} (hk : Blk W g c 33) (hc : c = mgV R.1.hd q v u x) (hB : Below w.heap.size w W) (h2 : a.tmps[4]?.getD undef = .pointer (some ⟨g, 0, none⟩)) (h3 : a.tmps[5]?.getD undef = .int .i64 R.2) (hd : a.defers = []) (ho : MOwn W w.heap.size R.1 q v u x) (hp : Apa v u x) :
    bodyPost Tryz.prog Tryz.f7 (TkPost R w) .ret a W := by
  subst hc
  have hl := run_loadVar_row W g 33 33 (mgV R.1.hd q v u x) (0, 0) _ hk Tryz.underlying33 rfl (by kernel_rfl)
  refine bodyPost_ret (v := .tuple #[.agg (mgV R.1.hd q v u x), .int .i64 R.2]) ?_ hd ⟨_, _, _, _, rfl, ho, hp, hB⟩
  simp [results, Tryz.results7, h2, h3, asAddr, hl]

theorem mown_nil (w : World) (B : Nat) : MOwn w B z0M (.slice none 0 0) (.slice none 0 0) (.slice none 0 0) (.slice none 0 0) := ⟨World.ownsRow_nil _ _ _ _, World.ownsRow_nil _ _ _ _, World.ownsRow_nil _ _ _ _, World.ownsRow_nil _ _ _ _⟩
theorem apa_nil : Apa (.slice none 0 0) (.slice none 0 0) (.slice none 0 0) := ⟨by simp [Value.ownBlock], by simp [Value.ownBlock], by simp [Value.ownBlock]⟩

def mzC : Option Value → Nat
  | some (.slice _ n _) => n
  | _ => 0
/-- How many records a message has that lies in block g. -/
def mzG (g : Nat) (w : World) : Nat := mzC (w.cell? ⟨g, 12, none⟩) + mzC (w.cell? ⟨g, 13, none⟩) + mzC (w.cell? ⟨g, 14, none⟩)
theorem mzG_is {w : World} {g B : Nat} {m : Mg} {q a u x : Value} (h : MBlk w g B m q a u x) : mzG g w = cntM m := by
  obtain ⟨_, _, e1⟩ := own_sl h.own.ra
  obtain ⟨_, _, e2⟩ := own_sl h.own.ru
  obtain ⟨_, _, e3⟩ := own_sl h.own.rx
  unfold mzG cntM
  rw [(blk_cell h.blk 12).trans rfl, (blk_cell h.blk 13).trans rfl, (blk_cell h.blk 14).trans rfl, e1, e2, e3]
  rfl

set_option maxRecDepth 100000 in
set_option maxHeartbeats 3200000 in
theorem implTruncate_any (m : Mg) (q a u x : Value) (N : Int) (w : World) (h : MRow w m q a u x) (hs : MSmall m) :
    Calls Tryz.prog 7 #[.agg (mgV m.hd q a u x), .int .i64 N] w (TkPost (trR N m) w) := by
  have hB0 := (Below.refl w.heap.size w).alloc (Nat.le_refl _) (.cells (mgV m.hd q a u x) 33)
  have hB1 := hB0.alloc hB0.size (.cells #[.int .i64 0, .bool false, .int .i64 0, .bool false, .bool false, .bool false, .bool false, .bool false, .bool false, .bool false, .int .i64 0, .slice none 0 0, .slice none 0 0, .slice none 0 0, .slice none 0 0] 33)
  have kM := blk_alloc (blk_new w (mgV m.hd q a u x) 33) (.cells #[.int .i64 0, .bool false, .int .i64 0, .bool false, .bool false, .bool false, .bool false, .bool false, .bool false, .bool false, .int .i64 0, .slice none 0 0, .slice none 0 0, .slice none 0 0, .slice none 0 0] 33)
  have kZ := blk_new (w.alloc (.cells (mgV m.hd q a u x) 33)) #[.int .i64 0, .bool false, .int .i64 0, .bool false, .bool false, .bool false, .bool false, .bool false, .bool false, .bool false, .int .i64 0, .slice none 0 0, .slice none 0 0, .slice none 0 0, .slice none 0 0] 33
  rw [World.size_alloc] at kZ
  have hva := validMessage_any m q a u x _ (h.below hB1) hs
  have hcl := fun W (hW : Below w.heap.size w W) => cloneM_any m q a u x W (h.below hW) hs
  cases hok : mgOK m with
  | false =>
    rw [hok] at hva
    have HR : Hid (trR N m = (z0M, 32)) := by show _ = _; rw [trR, if_neg (by rw [hok]; decide)]
    clear hcl h hs hok
    obtain ⟨⟨i0, b1, i2, b3, b4, b5, b6, b7, b8, b9, i10⟩, qs, an, au, ex⟩ := m
    simp only [mgV] at *
    go_enter Tryz.func7, Tryz.ntmps7
    go_wp2_with (first
      | (refine wpList_load_blk (.tmp 2) 33 rfl rfl w.heap.size _ _ kM rfl Tryz.underlying33 rfl (by kernel_rfl) ?_)
      | (go_at_call 19; refine hva.mono ?_; rintro e w1 ⟨rfl, c1⟩; have kZ1 := blk_below kZ c1; have hb1 := Nm.below_two hB1 c1)
      | (refine wpList_store_blk (.tmp 4) (.tmp 10) 33 rfl rfl rfl (w.heap.size + 1) _ _ kZ1 rfl rfl (by kernel_rfl) rfl (by kernel_rfl) ?_; intro wz kz oz))
    rw [HR.out]
    exact tk_back kz rfl (oz.below hb1 (Nat.le_succ _) hb1.size) rfl rfl rfl (mown_nil _ _) apa_nil
  | true =>
    rw [hok] at hva
    have HR : Hid (trR N m = (trM N m, 0)) := by show _ = _; rw [trR, if_pos hok]
    rw [HR.out]
    have HT0 := Nm.hide (TrAt.start (b := N) hok hs)
    have hfin := fun (W : World) (g B : Nat) (mm : Mg) (q a u x : Value) (hk : MBlk W g B mm q a u x) (hT : TrAt N m mm) => hk.own
    have hlen := fun (mm : Mg) (hT : TrAt N m mm) => hT.2.1
    clear h hok HR
    have HM : Hid (∀ mm, TrAt N m mm → ((msgW mm).1.length : Int) ≤ N → trM N m = mm) := fun mm h1 h2 => h1.fit h2
    have HM2 : Hid (∀ mm, TrAt N m mm → shM mm = none → trM N m = mm) := fun mm h1 h2 => h1.last h2
    have HM3 : Hid (∀ mm m', TrAt N m mm → ¬ ((msgW mm).1.length : Int) ≤ N → shM mm = some m' → TrAt N m m') := fun mm m' h1 h2 h3 => h1.step h2 h3
    obtain ⟨TA, hTA⟩ : ∃ T : Mg → Prop, T = TrAt N m := ⟨_, rfl⟩
    have HTA : Hid (∀ mm, TA mm → mgOK mm = true ∧ MSmall mm) := fun mm h1 => by rw [hTA] at h1; exact ⟨h1.1, h1.2.1⟩
    rw [← hTA] at HM HM2 HM3 HT0
    clear hfin hlen hTA
    generalize trM N m = TM at *
    obtain ⟨mm0, hmm0⟩ : ∃ mm0, mm0 = m := ⟨_, rfl⟩
    have HMM := Nm.hide hmm0
    clear hmm0 hs
    obtain ⟨⟨i0, b1, i2, b3, b4, b5, b6, b7, b8, b9, i10⟩, qs, an, au, ex⟩ := m
    simp only [mgV] at hva hcl kM kZ hB0 hB1 ⊢
    go_enter Tryz.func7, Tryz.ntmps7
    go_wp2_with (first
      | (refine wpList_load_blk (.tmp 2) 33 rfl rfl w.heap.size _ _ kM rfl Tryz.underlying33 rfl (by kernel_rfl) ?_)
      | (go_at_call 19; refine hva.mono ?_; rintro e w1 ⟨rfl, c1⟩; have kM1 := blk_below kM c1; have kZ1 := blk_below kZ c1; have hb1 := Nm.below_two hB1 c1)
      | (refine wpList_load_blk (.tmp 2) 33 rfl rfl w.heap.size _ _ kM1 rfl Tryz.underlying33 rfl (by kernel_rfl) ?_)
      | (go_at_call 20; refine (hcl w1 hb1).mono ?_; rintro e w2 ⟨q2, a2, u2, x2, rfl, ho2, p1, p2, p3, c2⟩; obtain ⟨q21, q22, rfl⟩ := own_sl ho2.rq; obtain ⟨a21, a22, rfl⟩ := own_sl ho2.ra; obtain ⟨u21, u22, rfl⟩ := own_sl ho2.ru; obtain ⟨x21, x22, rfl⟩ := own_sl ho2.rx; have kn := blk_new w2 #[.int .i64 0, .bool false, .int .i64 0, .bool false, .bool false, .bool false, .bool false, .bool false, .bool false, .bool false, .int .i64 0, .slice none 0 0, .slice none 0 0, .slice none 0 0, .slice none 0 0] 33)
      | (refine wpList_store_blk (.tmp 6) (.tmp 12) 33 rfl rfl rfl w2.heap.size _ _ kn rfl rfl (by kernel_rfl) rfl (by kernel_rfl) ?_; intro w3 k3 o3))
    have hk3 : ∃ q2 a2 u2 x2, MBlk w3 w2.heap.size w1.heap.size mm0 q2 a2 u2 x2 := by
      have bA := (Below.refl w2.heap.size w2).alloc (Nat.le_refl _) (.cells #[.int .i64 0, .bool false, .int .i64 0, .bool false, .bool false, .bool false, .bool false, .bool false, .bool false, .bool false, .int .i64 0, .slice none 0 0, .slice none 0 0, .slice none 0 0, .slice none 0 0] 33)
      have hoA := ho2.below bA
      rw [HMM.out]
      exact ⟨_, _, _, _, k3, ⟨own_onlyT hoA.rq o3 kn, own_onlyT hoA.ra o3 kn, own_onlyT hoA.ru o3 kn, own_onlyT hoA.rx o3 kn⟩, ⟨p1, p2, p3⟩, c2.size⟩
    have hB3 : Below w1.heap.size w1 w3 := by
      have bA : Below w1.heap.size w1 (w2.alloc _) := c2.alloc c2.size (.cells #[.int .i64 0, .bool false, .int .i64 0, .bool false, .bool false, .bool false, .bool false, .bool false, .bool false, .bool false, .int .i64 0, .slice none 0 0, .slice none 0 0, .slice none 0 0, .slice none 0 0] 33)
      exact o3.below bA c2.size bA.size
    have HT1 : Hid (TA mm0) := by rw [HMM.out]; exact HT0
    have hw1 := hb1.size
    have hz1 := blk_lt kZ1
    clear kM kM1 kZ hB0 hB1 hva hcl k3 o3 kn ho2 p1 p2 p3 c1 HT0 HMM
    obtain ⟨q3, a3, u3, x3, hk3⟩ := hk3
    generalize w2.heap.size = g at *
    go_loopw [] (fun wr => ∃ mm a' u' x', Hid (TA mm) ∧ MBlk wr g w1.heap.size mm q3 a' u' x' ∧ Below w1.heap.size w1 wr) (fun wr => mzG g wr)
    case atStart => exact ⟨mm0, a3, u3, x3, HT1, hk3, hB3⟩
    case round =>
      clear hk3 hB3 HT1
      obtain ⟨mm, a4, u4, x4, HTA4, hk, hbel⟩ := hrel
      obtain ⟨hmo, hms⟩ := HTA.out mm HTA4.out
      have hsz := hbel.size
      have kZ4 := fun W (hb : Below w1.heap.size w1 W) => blk_below kZ1 hb
      have hft := fits_any mm q3 a4 u4 x4 wr hk.own.read hms hmo N
      have hsh := fun W (hb : Below wr.heap.size wr W) => shorten_any g w1.heap.size mm q3 a4 u4 x4 W (hk.below hb) hms (Nat.le_trans hsz hb.size)
      obtain ⟨q41, q42, hq4⟩ := own_sl hk.own.rq
      obtain ⟨a41, a42, ha4⟩ := own_sl hk.own.ra
      obtain ⟨u41, u42, hu4⟩ := own_sl hk.own.ru
      obtain ⟨x41, x42, hx4⟩ := own_sl hk.own.rx
      have hone : (mgV mm.hd q3 a4 u4 x4).all (·.oneCell') = true := by rw [hq4, ha4, hu4, hx4]; kernel_rfl
      have HSH := Nm.hide (And.intro hq4 (And.intro ha4 (And.intro hu4 hx4)))
      have hmz := mzG_is hk
      have HMZ := Nm.hide hmz
      clear hq4 ha4 hu4 hx4 hmz
      by_cases hf : ((msgW mm).1.length : Int) ≤ N
      · have HE : Hid (TM = mm) := HM.out mm HTA4.out hf
        rw [decide_eq_true hf] at hft
        clear hsh hf HM HM2 HM3
        go_wp2_with (first
          | (refine wpList_load_blk (.tmp 6) 33 rfl rfl g _ _ hk.blk rfl Tryz.underlying33 rfl (by kernel_rfl) ?_)
          | (go_at_call 21; refine hft.mono ?_; rintro e w4 ⟨rfl, c4⟩; have hk4 := hk.below c4; have hb4 := Nm.below_two hbel c4; have kZ5 := kZ4 w4 hb4)
          | (refine wpList_load_blk (.tmp 6) 33 rfl rfl g _ _ hk4.blk rfl Tryz.underlying33 rfl (by kernel_rfl) ?_)
          | (refine wpList_store_blk (.tmp 4) (.tmp 20) 33 rfl rfl rfl (w.heap.size + 1) _ _ kZ5 rfl rfl (by kernel_rfl) rfl hone ?_; intro wz kz oz))
        have hb5 := Nm.below_two hb1 hb4
        rw [HE.out]
        exact tk_back (R := (mm, 0)) kz rfl (oz.below hb5 (Nat.le_succ _) hb5.size) rfl rfl rfl ⟨own_base (own_onlyT hk4.own.rq oz kZ5) hw1, own_base (own_onlyT hk4.own.ra oz kZ5) hw1, own_base (own_onlyT hk4.own.ru oz kZ5) hw1, own_base (own_onlyT hk4.own.rx oz kZ5) hw1⟩ hk4.apa
      · rw [decide_eq_false hf] at hft
        cases hS : shM mm with
        | none =>
          have HE : Hid (TM = mm) := HM2.out mm HTA4.out hS
          have hsh1 := fun W hb => (hsh W hb).mono (R' := fun e w' => e = .returned (.bool false) ∧ MBlk w' g w1.heap.size mm q3 a4 u4 x4 ∧ Below w1.heap.size W w') (by
            rintro e w' (⟨_, rfl, h2, h3⟩ | ⟨m', _, _, _, h1, _⟩)
            · exact ⟨rfl, h2, h3⟩
            · rw [hS] at h1; cases h1)
          clear hsh hf HM HM2 HM3 hS
          go_wp2_with (first
            | (refine wpList_load_blk (.tmp 6) 33 rfl rfl g _ _ hk.blk rfl Tryz.underlying33 rfl (by kernel_rfl) ?_)
            | (go_at_call 21; refine hft.mono ?_; rintro e w4 ⟨rfl, c4⟩)
            | (go_at_call 22; refine (hsh1 w4 c4).mono ?_; rintro e w5 ⟨rfl, hk5, c5⟩; have hb4 : Below w1.heap.size w1 w5 := (Nm.below_two hbel c4).trans c5; have kZ5 := kZ4 w5 hb4)
            | (refine wpList_load_blk (.tmp 6) 33 rfl rfl g _ _ hk5.blk rfl Tryz.underlying33 rfl (by kernel_rfl) ?_)
            | (refine wpList_store_blk (.tmp 4) (.tmp 20) 33 rfl rfl rfl (w.heap.size + 1) _ _ kZ5 rfl rfl (by kernel_rfl) rfl hone ?_; intro wz kz oz))
          have hb5 := Nm.below_two hb1 hb4
          rw [HE.out]
          exact tk_back (R := (mm, 0)) kz rfl (oz.below hb5 (Nat.le_succ _) hb5.size) rfl rfl rfl ⟨own_base (own_onlyT hk5.own.rq oz kZ5) hw1, own_base (own_onlyT hk5.own.ra oz kZ5) hw1, own_base (own_onlyT hk5.own.ru oz kZ5) hw1, own_base (own_onlyT hk5.own.rx oz kZ5) hw1⟩ hk5.apa
        | some m' =>
          have HE : Hid (TA m') := HM3.out mm m' HTA4.out (Int.not_le.1 hf) hS
          have HLT := Nm.hide (shM_lt hS)
          have hsh1 := fun W hb => (hsh W hb).mono (R' := fun e w' => ∃ a' u' x', e = .returned (.bool true) ∧ MBlk w' g w1.heap.size m' q3 a' u' x' ∧ Below w1.heap.size W w') (by
            rintro e w' (⟨h1, _⟩ | ⟨m2, a', u', x', h1, rfl, h2, h3⟩)
            · rw [hS] at h1; cases h1
            · rw [hS] at h1; cases h1; exact ⟨a', u', x', rfl, h2, h3⟩)
          clear hsh hf HM HM2 HM3 hS
          go_wp2_with (first
            | (refine wpList_load_blk (.tmp 6) 33 rfl rfl g _ _ hk.blk rfl Tryz.underlying33 rfl (by kernel_rfl) ?_)
            | (go_at_call 21; refine hft.mono ?_; rintro e w4 ⟨rfl, c4⟩)
            | (go_at_call 22; refine (hsh1 w4 c4).mono ?_; rintro e w5 ⟨a5, u5, x5, rfl, hk5, c5⟩; have hb4 : Below w1.heap.size w1 w5 := (Nm.below_two hbel c4).trans c5))
          go_roundw
          case rel => exact ⟨m', a5, u5, x5, HE, hk5, hb4⟩
          case measure => rw [mzG_is hk5, HMZ.out]; exact HLT.out
end Go.Proofs.YtmaopfagkffccaaGreat
/- spec.l06Join of a row of one's own and one that is read, by its contract. -/
namespace Go.Proofs.YtmaopfagkffccaaGreat
open Go.RowKit
set_option linter.unusedVariables false

theorem cell_newJ (w : World) (cs : Array Value) (e : Nat) : ∀ (j : Nat) (u : Value), cs.toList[j]? = some u → (w.alloc (.cells cs e)).cell? ((⟨w.heap.size, 0, none⟩ : Addr).add j) = some u := by
  intro j u h
  rw [Nm.addr_add, Nat.zero_add]
  have : (w.alloc (.cells cs e)).heap[w.heap.size]? = some (.cells cs e (0, 0)) := by show (w.heap.push _)[w.heap.size]? = _; simp
  rw [cell_of_row _ _ _ _ _ _ this]
  simpa using h

set_option maxRecDepth 100000 in
set_option maxHeartbeats 1600000 in
theorem l06JoinC_any (a b : Value) (xs ys : List Rr) (B : Nat) (w : World) (h : w.ownsRow B 72 5 a xs.length (rvVs xs)) (hb : ∀ W, Below B w W → CRow W b ys.length 5 (rvVs ys)) (hB : B ≤ w.heap.size) (hn : xs.length + ys.length ≤ 1048576) :
    Calls Tryz.prog 37 #[a, b] w fun e w' => ∃ u, e = .returned u ∧ w'.ownsRow B 72 5 u (xs ++ ys).length (rvVs (xs ++ ys)) ∧ Below B w w' := by
  obtain ⟨i0, hi, hz0, hz1, hz2⟩ := info_parts Tryz.infoRRc
  obtain ⟨_, ba, bc, rfl, _⟩ := hb w (Below.refl _ _)
  go_enter Tryz.func37, Tryz.ntmps37
  go_wp2_with fail
  go_loopw [0, 5] (fun u i wr => ∃ k : Nat, k ≤ ys.length ∧ i = .int .i64 k ∧ wr.ownsRow B 72 5 u (xs ++ ys.take k).length (rvVs (xs ++ ys.take k)) ∧ Below B w wr) (fun _ i _ => ys.length - (intOf i).toNat)
  case atStart => exact ⟨0, Nat.zero_le _, rfl, by simpa using h, Below.refl _ _⟩
  case round =>
    clear h
    obtain ⟨k, hk, rfl, hown, hbel⟩ := hrel
    by_cases hlt : k < ys.length
    · obtain ⟨x, hxk⟩ : ∃ x, ys[k]? = some x := ⟨_, List.getElem?_eq_getElem hlt⟩
      obtain ⟨_, a', c', e', hcap, hmx, hcc⟩ := hb wr hbel
      cases e'
      obtain ⟨g, off, rfl, hcell⟩ := hcc (by omega)
      obtain ⟨c0, c1, c2, c3, c4⟩ := rv_cells hcell hxk
      have i1 : (0 : Int) ≤ (k : Int) := by omega
      have i2 : (k : Int) < (ys.length : Int) := by omega
      have HT : Hid (xs ++ ys.take (k + 1) = (xs ++ ys.take k) ++ [x]) := by
        show _ = _
        rw [List.take_add_one, hxk, List.append_assoc]
        rfl
      have hpl : (xs ++ ys.take k).length ≤ 1048576 := by rw [List.length_append, List.length_take]; omega
      generalize xs ++ ys.take k = PL at *
      obtain ⟨ya, yc, rfl⟩ := own_sl hown
      have hrow : ∀ q, Value.ownBlock (.slice ya PL.length yc) = some q → B ≤ q := fun q hq => (hown.lt q hq).1
      have hsz := hbel.size
      clear hcell hcc hxk hb
      obtain ⟨o, ty, cl, tt, da⟩ := x
      simp only at c0 c1 c2 c3 c4 HT
      go_wp2_with (at_builtin; refine wpList_append_own _ rfl (.tmp 12) (.tmp 17) 31 rfl B 72 i0 _ 5 56 Tryz.underlying31 hi hz0 hz1 hz2 rfl (by decide) _ _ _ rfl (hown.alloc _) ⟨wr.heap.size, 0, none⟩ 1 1 [.string o, .int .i64 ty, .int .i64 cl, .int .i64 tt, .string da] rfl rfl (cell_newJ _ _ _) (by intro u hu; simp at hu; rcases hu with rfl | rfl | rfl | rfl | rfl <;> rfl) (by unfold maxLen; omega) (by omega) (by simp; omega) ?_; intro va wa hown9 hgrow9 hnl9; clear hnl9)
      have hb9 := (hbel.alloc (by omega) _).grown hgrow9 (by simp; omega) hrow
      have hown10 : wa.ownsRow B 72 5 va (xs ++ ys.take (k + 1)).length (rvVs (xs ++ ys.take (k + 1))) := by
        rw [HT.out, rvVs_app, List.length_append]
        exact hown9
      obtain ⟨za, zc, rfl⟩ := own_sl hown10
      clear hown9 hgrow9 hown hbel
      go_wp2_with fail
      go_roundw
      case rel => exact ⟨k + 1, by omega, by go_num, hown10, hb9⟩
      case measure => simp [intOf]; omega
    · have hkl : k = ys.length := by omega
      subst hkl
      rw [List.take_length, List.length_append] at hown
      have i2 : ¬ (ys.length : Int) < (ys.length : Int) := by omega
      clear hb
      go_wp2
      go_ret
      exact ⟨_, rfl, hown, hbel⟩
end Go.Proofs.YtmaopfagkffccaaGreat
