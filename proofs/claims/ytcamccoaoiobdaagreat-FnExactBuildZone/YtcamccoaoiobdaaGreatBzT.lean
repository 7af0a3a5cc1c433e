import Derived.Test.YtcamccoaoiobdaaGreatBzZ
import Derived.Test.YtcamccoaoiobdaaGreatJMsP
/- (*tree).belowTails: the owners below one that has a DNAME. -/
namespace Go.Proofs.YtcamccoaoiobdaaGreat
open Go.RowKit Go.Shelf
set_option linter.unusedVariables false
attribute [local go_sem] Oper.semAt_some

theorem infoOwP : (Tryz.prog.info? 87).map (fun i => (i.zero, i.size, i.bytes)) = some (some (.pointer none), 1, 8) := by kernel_rfl
def tailV : Option GOw → Value
  | none => .slice none 0 0
  | some q => .slice (slA q.lv) (slN q.lv) (slC q.lv)
theorem belK_some {pre : List GOw} (h : OwS pre) {q : GOw} (e : (belK pre).1 = some q) : q ∈ pre := ((bel_inv pre h).tail q e).1
theorem belK_mem : ∀ (pre : List GOw) (q : GOw), (belK pre).1 = some q → q ∈ pre := by
  refine snoc_ind ?_ ?_
  · intro q h; simp [belK] at h
  · intro l o ih q h
    rw [belK_snoc, belStep] at h
    cases ht : (belK l).1 with
    | none =>
      rw [ht] at h
      simp only at h
      split at h
      · simp at h; simp [h]
      · simp at h
    | some t =>
      rw [ht] at h
      have := ih t ht
      simp only at h
      split at h
      · simp at h; rw [← h]; simp [this]
      · split at h
        · simp at h; simp [h]
        · simp at h; rw [← h]; simp [this]

theorem belK_len : ∀ (pre : List GOw), (belK pre).2.length ≤ pre.length := by
  refine snoc_ind ?_ ?_
  · simp [belK]
  · intro l o ih
    rw [belK_snoc, belStep, List.length_append, List.length_singleton]
    cases (belK l).1 with
    | none =>
      simp only
      split
      · simp; omega
      · simp; omega
    | some t =>
      simp only
      split
      · simp; omega
      · split
        · simp; omega
        · simp; omega

set_option maxRecDepth 100000 in
set_option maxHeartbeats 4000000 in
theorem belowTails_in (F : Fence) (n : Nat) (h1 : F.fn 77) (h2 : F.fn 93) (h3 : F.fn 52) (h4 : F.fn 81) (h5 : F.fn 76) (hro : F.round = none) (hn : 6 ≤ n)
    (bb oo th : Nat) (rv : Value) (os : List GOw) (B : Nat) (w : World) (h : TrAt w B th rv os) (hl : os.length ≤ 400000) (hLab : LabAt w (fpT th rv os) os) (hc : w.cell? ⟨bb, oo + 1, none⟩ = some (ptr th))
    (hun : ∀ (o q : GOw) (m : Nat) (W : World), o ∈ os → q ∈ os → Below w.heap.size w W → CallsIn F m Tryz.prog 93 #[.slice (slA o.lv) (slN o.lv) (slC o.lv), .slice (slA q.lv) (slN q.lv) (slC q.lv)] W fun e w' => e = .returned (.bool (underB o.lab q.lab)) ∧ Below W.heap.size W w')
    (hhas : ∀ (o : GOw) (m : Nat) (W : World), o ∈ os → Below w.heap.size w W → CallsIn F m Tryz.prog 76 #[.pointer (some ⟨o.blk, 0, none⟩), .int .i64 39] W fun e w' => e = .returned (.bool (has39 o)) ∧ Below W.heap.size W w') :
    CallsIn F n Tryz.prog 77 #[.pointer (some ⟨bb, oo, none⟩)] w fun e W' => ∃ v, e = .returned v ∧ W'.ownsRow w.heap.size 87 1 v (belK os).2.length ((belK os).2.map fun o => ptr o.blk) ∧ Below w.heap.size w W' := by
  have n1 : 1 ≤ n := by omega
  obtain ⟨i0, hi, hz0, hz1, hz2⟩ := info_parts infoOwP
  have hth : th < w.heap.size := blk_lt h.head
  have hbb : bb < w.heap.size := World.block_lt_of_cell? w _ hc
  unfold ptr at hc
  have HX := Nm.hide (And.intro h (And.intro hLab (And.intro hun hhas)))
  clear h hLab hun hhas
  have c3 : (((w.alloc (.cells #[.slice none 0 0] 119)).alloc (.cells #[.slice none 0 0] 57)).alloc (.cells #[.bool false] 4)).cell? ⟨bb, oo + 1, none⟩ = some (.pointer (some ⟨th, 0, none⟩)) := ((((Below.refl w.heap.size w).alloc (Nat.le_refl _) _).alloc (by simp) _).alloc (by simp; omega) _).cell (p := ⟨bb, oo + 1, none⟩) hbb |>.trans hc
  refine callsIn_of_wp_marks Tryz.func77 rfl h1 ?_ hro
  simp only [Tryz.ntmps77, List.size_toArray, List.length_cons, List.length_nil, Nat.reduceAdd, Nat.reduceSub, Array.replicate_succ, Array.replicate_zero, List.push_toArray, List.append_toArray, List.nil_append, List.cons_append]
  gi_wp2_with (gi_at_call 52; refine (allL_in F (n - 1) h3 hro _ _).mono ?_; rintro e w' ⟨rfl, rfl⟩)
  have bO := ((Boxed.new w 119 (.slice none 0 0)).alloc (.cells #[.slice none 0 0] 57)).alloc (.cells #[.bool false] 4)
  have bT := (Boxed.new (w.alloc (.cells #[.slice none 0 0] 119)) 57 (.slice none 0 0)).alloc (.cells #[.bool false] 4)
  have bF := Boxed.new ((w.alloc (.cells #[.slice none 0 0] 119)).alloc (.cells #[.slice none 0 0] 57)) 4 (.bool false)
  have bI := Boxed.new (((w.alloc (.cells #[.slice none 0 0] 119)).alloc (.cells #[.slice none 0 0] 57)).alloc (.cells #[.bool false] 4)) 58 (.pointer (some ⟨th, 0, none⟩))
  have bO := bO.alloc (.cells #[.pointer (some ⟨th, 0, none⟩)] 58)
  have bT := bT.alloc (.cells #[.pointer (some ⟨th, 0, none⟩)] 58)
  have bF := bF.alloc (.cells #[.pointer (some ⟨th, 0, none⟩)] 58)
  simp only [World.size_alloc] at bT bF bI
  have b3 : Below w.heap.size w ((((w.alloc (.cells #[.slice none 0 0] 119)).alloc (.cells #[.slice none 0 0] 57)).alloc (.cells #[.bool false] 4)).alloc (.cells #[.pointer (some ⟨th, 0, none⟩)] 58)) := ((((Below.refl w.heap.size w).alloc (Nat.le_refl _) _).alloc (by simp) _).alloc (by simp; omega) _).alloc (by simp; omega) _
  have hsz : ((((w.alloc (.cells #[.slice none 0 0] 119)).alloc (.cells #[.slice none 0 0] 57)).alloc (.cells #[.bool false] 4)).alloc (.cells #[.pointer (some ⟨th, 0, none⟩)] 58)).heap.size = w.heap.size + 4 := by simp
  obtain ⟨W0, hW0⟩ : ∃ W0, (((w.alloc (.cells #[.slice none 0 0] 119)).alloc (.cells #[.slice none 0 0] 57)).alloc (.cells #[.bool false] 4)).alloc (.cells #[.pointer (some ⟨th, 0, none⟩)] 58) = W0 := ⟨_, rfl⟩
  rw [hW0] at bO bT bF bI b3 hsz ⊢
  clear hW0 c3
  have hza : os.attach.length = os.length := List.length_attach
  have hR0 : RwsL (fun x : {o : GOw // o ∈ os} => slA x.1.lv) (fun x => slN x.1.lv) (fun x => slC x.1.lv) (fun x => ⟨x.1.blk, 0, none⟩) w.heap.size w rv os.attach := by
    refine rwsL_own _ _ _ _ (B := B) (e := 127) _ ?_
    have hr := HX.out.1.rows
    have e1 : (os.attach.map fun x : {o : GOw // o ∈ os} => ((Value.slice (slA x.1.lv) (slN x.1.lv) (slC x.1.lv)), (Value.pointer (some (⟨x.1.blk, 0, none⟩ : Addr))))) = owRs os := by
      rw [owRs]
      conv => rhs; rw [← List.attach_map_subtype_val os]
      rw [List.map_map]
      refine List.map_congr_left (fun x _ => ?_)
      simp only [Function.comp, ptr]
      rw [← sl_eq (HX.out.2.1 x.1 x.2).row]
    rw [e1]
    rw [show (owRs os).length = os.attach.length by simp [owRs]] at hr
    exact hr
  have kh3 : W0.cell? ⟨th, 1, none⟩ = some rv := (b3.cell (p := ⟨th, 1, none⟩) hth).trans ((blk_cell HX.out.1.head 1).trans rfl)
  refine wpIn_rangeFunc_ownG hro n1 (gf := 81) (lb := #[.pointer (some ⟨w.heap.size + 1 + 1 + 1, 0, none⟩)]) rfl h4 (enters_of Tryz.func81 (by kernel_rfl) rfl)
    (allStopsL (fun x : {o : GOw // o ∈ os} => slA x.1.lv) (fun x => slN x.1.lv) (fun x => slC x.1.lv) (fun x => ⟨x.1.blk, 0, none⟩) F (n - 1) h4 hro (by omega) (w.heap.size + 1 + 1 + 1) th w.heap.size rv os.attach (by omega) W0 (by omega) hth (by omega) bI.cell kh3 (hR0.below b3)) belowK_t (belowK_b (by omega)) (Below.refl _ _) (fun _ => rfl)
    (fun pre W => ((∃ v, Boxed W w.heap.size 119 v ∧ W.ownsRow w.heap.size 87 1 v (belK (pre.map (·.1))).2.length ((belK (pre.map (·.1))).2.map fun o => ptr o.blk) ∧ True) ∧ (Boxed W (w.heap.size + 1) 57 (tailV (belK (pre.map (·.1))).1) ∧ Boxed W (w.heap.size + 1 + 1) 4 (.bool (belK (pre.map (·.1))).1.isSome))) ∧ Below w.heap.size w W)
    (fun _ _ _ => False)
    (OwnFrom.and (OwnFrom.and (Own.from (holdsRow_own w.heap.size w.heap.size 119 87 1 (fun pre : List {o : GOw // o ∈ os} => (belK (pre.map (·.1))).2.length) (fun pre => (belK (pre.map (·.1))).2.map fun o => ptr o.blk) (fun pre v => True)) _) (OwnFrom.and (Own.from (boxed_own _ _ (fun pre : List {o : GOw // o ∈ os} => tailV (belK (pre.map (·.1))).1)) _) (Own.from (boxed_own _ _ (fun pre : List {o : GOw // o ∈ os} => Value.bool (belK (pre.map (·.1))).1.isSome)) _))) (ownFrom_below (Nat.le_refl _) (by omega)))
    (fun _ _ _ _ _ hs _ _ => hs)
    ⟨⟨⟨_, bO, World.ownsRow_nil _ _ _ _, trivial⟩, bT, bF⟩, b3⟩
    (fun x => { tmps := #[.pointer (some ⟨bb, oo, none⟩), undef, .slice none 0 0, .pointer (some ⟨w.heap.size, 0, none⟩), .pointer (some ⟨w.heap.size + 1, 0, none⟩), .pointer (some ⟨w.heap.size + 1 + 1, 0, none⟩), .slice (slA x.1.lv) (slN x.1.lv) (slC x.1.lv), .pointer (some ⟨x.1.blk, 0, none⟩), .pointer (some ⟨bb, oo, none⟩), .pointer (some ⟨bb, oo, none⟩), .pointer (some ⟨bb, oo + 1, none⟩), .pointer (some ⟨th, 0, none⟩), .func (.func 81) #[] #[.pointer (some ⟨w.heap.size + 1 + 1 + 1, 0, none⟩)], .slice (slA x.1.lv) (slN x.1.lv) (slC x.1.lv), .pointer (some ⟨x.1.blk, 0, none⟩), undef, undef, undef, undef, undef, undef, undef, undef, undef, undef, undef, undef, undef, undef, undef, undef], defers := [] }) ?assign ?body ?done ?stop
  case assign =>
    intro l x W K hK
    gi_wp2
    exact hK
  case body =>
    rintro l pre x W ⟨⟨⟨v, hv, hrow, -⟩, hT, hF⟩, hB⟩ hlt
    have eS : belK ((pre ++ [x]).map (·.1)) = belStep (belK (pre.map (·.1))) x.1 := by rw [List.map_append, List.map_cons, List.map_nil, belK_snoc]
    have hln := belK_len (pre.map (·.1))
    rw [List.length_map] at hln
    have hmem : ∀ q, (belK (pre.map (·.1))).1 = some q → q ∈ os := fun q hq => by
      obtain ⟨y, _, rfl⟩ := List.mem_map.1 (belK_mem _ q hq)
      exact y.2
    have n2 : 1 ≤ n - 1 - 1 := by omega
    have hm : os.attach.length ≤ maxLen := by unfold maxLen; omega
    have HE := Nm.hide eS
    clear eS
    generalize belK (pre.map (·.1)) = ST at hrow hT hF hln hmem HE
    obtain ⟨t, out⟩ := ST
    simp only at hrow hT hF hln hmem
    have HLN := Nm.hide (And.intro hln hlt)
    clear hln
    have cF := hF.cell
    cases t with
    | none =>
      simp only [tailV, Option.isSome_none] at hT hF cF
      clear hmem
      cases h39 : has39 x.1 with
      | true =>
        have hh := HX.out.2.2.2 x.1 (n - 1 - 1 - 1) W x.2 hB
        rw [h39] at hh
        have e9 : belK ((pre ++ [x]).map (·.1)) = (some x.1, out) := by rw [HE.out]; simp [belStep, h39]
        have HE9 := Nm.hide e9
        clear h39 e9 HE
        gi_wp2_with (
          gi_at_call 76
          refine (CallsIn.inRound l hh).mono ?_
          rintro e w2 ⟨rfl, b2⟩
          have hT2 : Boxed w2 _ _ _ := blk_below hT b2
          have hF2 : Boxed w2 _ _ _ := blk_below hF b2
          have hv2 : Boxed w2 _ _ _ := blk_below hv b2
          have hrow2 := own_below hrow b2
          have cT2 := hT2.cell
          have fT2 := hT2.frozen
          have cF2 := hF2.cell
          have fF2 := hF2.frozen)
        have k2 := (keeps_below b2).trans ((KeepsOthers.setCell w2 ⟨w.heap.size + 1, 0, none⟩ (.slice (slA x.1.lv) (slN x.1.lv) (slC x.1.lv))).trans (KeepsOthers.setCell _ ⟨w.heap.size + 1 + 1, 0, none⟩ (.bool true)))
        have bb2 := ((b2.mono hB.size).setCell (p := ⟨w.heap.size + 1, 0, none⟩) (by simp) (.slice (slA x.1.lv) (slN x.1.lv) (slC x.1.lv))).setCell (p := ⟨w.heap.size + 1 + 1, 0, none⟩) (by simp; omega) (.bool true)
        refine ⟨k2.from _, bb2, ?_, hB.trans bb2⟩
        rw [HE9.out]
        have o2 := own_far (i := 0) (y := .slice (slA x.1.lv) (slN x.1.lv) (slC x.1.lv)) hrow2 (own_nb hrow2 hT2 (by decide))
        have hF3 := hF2.other (show w.heap.size + 1 + 1 ≠ w.heap.size + 1 by omega) (.slice (slA x.1.lv) (slN x.1.lv) (slC x.1.lv))
        have hv3 := hv2.other (show w.heap.size ≠ w.heap.size + 1 by omega) (.slice (slA x.1.lv) (slN x.1.lv) (slC x.1.lv))
        have hT3 := hT2.set (.slice (slA x.1.lv) (slN x.1.lv) (slC x.1.lv))
        exact ⟨⟨_, hv3.other (by omega) _, own_far o2 (own_nb o2 hF3 (by decide)), trivial⟩, hT3.other (by omega) _, hF3.set _⟩
      | false =>
        have hh := HX.out.2.2.2 x.1 (n - 1 - 1 - 1) W x.2 hB
        rw [h39] at hh
        have e9 : belK ((pre ++ [x]).map (·.1)) = (none, out) := by rw [HE.out]; simp [belStep, h39]
        have HE9 := Nm.hide e9
        clear h39 e9 HE
        gi_wp2_with (
          gi_at_call 76
          refine (CallsIn.inRound l hh).mono ?_
          rintro e w2 ⟨rfl, b2⟩
          have hT2 : Boxed w2 _ _ _ := blk_below hT b2
          have hF2 : Boxed w2 _ _ _ := blk_below hF b2
          have hv2 : Boxed w2 _ _ _ := blk_below hv b2
          have hrow2 := own_below hrow b2)
        refine ⟨(keeps_below b2).from _, b2.mono hB.size, ?_, hB.trans (b2.mono hB.size)⟩
        rw [HE9.out]
        exact ⟨⟨_, hv2, hrow2, trivial⟩, hT2, hF2⟩
    | some q =>
      simp only [tailV, Option.isSome_some] at hT hF cF
      have hq := hmem q rfl
      clear hmem
      have cT := hT.cell
      cases hu : underB x.1.lab q.lab with
      | true =>
        have hh := HX.out.2.2.1 x.1 q (n - 1 - 1 - 1) W x.2 hq hB
        rw [hu] at hh
        have e9 : belK ((pre ++ [x]).map (·.1)) = (some q, out ++ [x.1]) := by rw [HE.out]; simp [belStep, hu]
        have HE9 := Nm.hide e9
        clear hu e9 HE
        gi_wp2_with (first
          | (gi_at_call 93
             refine (CallsIn.inRound l hh).mono ?_
             rintro e w2 ⟨rfl, b2⟩
             have hT2 : Boxed w2 _ _ _ := blk_below hT b2
             have hF2 : Boxed w2 _ _ _ := blk_below hF b2
             have hv2 : Boxed w2 _ _ _ := blk_below hv b2
             have hrow2 := own_below hrow b2
             have hs2 := b2.size
             have cv2 := hv2.cell)
          | (gi_at_builtin
             refine wpListIn_append_own _ rfl _ _ 119 rfl w.heap.size 87 i0 (.pointer none) 1 8 Tryz.underlying119 hi hz0 hz1 hz2 rfl (by decide) _ _ _ rfl (hrow2.alloc _) ⟨w2.heap.size, 0, none⟩ 1 1 [.pointer (some ⟨x.1.blk, 0, none⟩)] rfl rfl (cell_one_new _ _ _) (by simp [Value.oneCell']) (by unfold maxLen; have := HLN.out; omega) (by have := HLN.out; omega) (by have := hB.size; simp; omega) ?_
             intro v' w3 hown' hgrow _
             obtain ⟨g', cap', rfl⟩ := ownsRow_succ hown'
             have hap := hv2.appended (by decide) hrow2 (by have := hB.size; omega) (Nat.le_refl _) hown' hgrow
             obtain ⟨q1, q2, q3, q4, q5⟩ := hap
             have cv3 := q1.cell
             have fv3 := q1.frozen))
        have hra : (w2.alloc (.cells #[.pointer (some ⟨x.1.blk, 0, none⟩)] 87)).ownsRow w.heap.size 87 1 v out.length (out.map fun o => ptr o.blk) := hrow2.alloc _
        have hT2a : Blk (w2.alloc (.cells #[.pointer (some ⟨x.1.blk, 0, none⟩)] 87)) (w.heap.size + 1) #[.slice (slA q.lv) (slN q.lv) (slC q.lv)] 57 := blk_alloc hT2 _
        have hF2a : Blk (w2.alloc (.cells #[.pointer (some ⟨x.1.blk, 0, none⟩)] 87)) (w.heap.size + 1 + 1) #[.bool true] 4 := blk_alloc hF2 _
        have hT3 : Boxed w3 (w.heap.size + 1) 57 (.slice (slA q.lv) (slN q.lv) (slC q.lv)) := blk_grown hT2a hgrow (own_nb hra hT2a (by decide))
        have hF3 : Boxed w3 (w.heap.size + 1 + 1) 4 (.bool true) := blk_grown hF2a hgrow (own_nb hra hF2a (by decide))
        have kk := (keeps_below b2).trans q4
        have bk := (b2.mono hB.size).trans q5
        refine ⟨kk.from _, bk, ?_, hB.trans bk⟩
        rw [HE9.out]
        exact ⟨⟨_, q2, by simpa [ptr] using q3, trivial⟩, hT3.other (by omega) _, hF3.other (by omega) _⟩
      | false =>
        have hh := HX.out.2.2.1 x.1 q (n - 1 - 1 - 1) W x.2 hq hB
        rw [hu] at hh
        have hg := fun W' (hW : Below w.heap.size w W') => HX.out.2.2.2 x.1 (n - 1 - 1 - 1) W' x.2 hW
        cases h39 : has39 x.1 with
        | true =>
          rw [h39] at hg
          have e9 : belK ((pre ++ [x]).map (·.1)) = (some x.1, out) := by rw [HE.out]; simp [belStep, hu, h39]
          have HE9 := Nm.hide e9
          clear hu h39 e9 HE
          gi_wp2_with (first
            | (gi_at_call 93
               refine (CallsIn.inRound l hh).mono ?_
               rintro e w1 ⟨rfl, b1⟩)
            | (gi_at_call 76
               refine (CallsIn.inRound l (hg _ (hB.trans (b1.mono hB.size)))).mono ?_
               rintro e w2 ⟨rfl, b12⟩
               have b2 := Nm.below_two b1 b12
               have hT2 : Boxed w2 _ _ _ := blk_below hT b2
               have hF2 : Boxed w2 _ _ _ := blk_below hF b2
               have hv2 : Boxed w2 _ _ _ := blk_below hv b2
               have hrow2 := own_below hrow b2
               have cT2 := hT2.cell
               have fT2 := hT2.frozen
               have cF2 := hF2.cell
               have fF2 := hF2.frozen))
          have k2 := (keeps_below b2).trans ((KeepsOthers.setCell w2 ⟨w.heap.size + 1, 0, none⟩ (.slice (slA x.1.lv) (slN x.1.lv) (slC x.1.lv))).trans (KeepsOthers.setCell _ ⟨w.heap.size + 1 + 1, 0, none⟩ (.bool true)))
          have bb2 := ((b2.mono hB.size).setCell (p := ⟨w.heap.size + 1, 0, none⟩) (by simp) (.slice (slA x.1.lv) (slN x.1.lv) (slC x.1.lv))).setCell (p := ⟨w.heap.size + 1 + 1, 0, none⟩) (by simp; omega) (.bool true)
          refine ⟨k2.from _, bb2, ?_, hB.trans bb2⟩
          rw [HE9.out]
          have o2 := own_far (i := 0) (y := .slice (slA x.1.lv) (slN x.1.lv) (slC x.1.lv)) hrow2 (own_nb hrow2 hT2 (by decide))
          have hF3 := hF2.other (show w.heap.size + 1 + 1 ≠ w.heap.size + 1 by omega) (.slice (slA x.1.lv) (slN x.1.lv) (slC x.1.lv))
          have hv3 := hv2.other (show w.heap.size ≠ w.heap.size + 1 by omega) (.slice (slA x.1.lv) (slN x.1.lv) (slC x.1.lv))
          have hT3 := hT2.set (.slice (slA x.1.lv) (slN x.1.lv) (slC x.1.lv))
          exact ⟨⟨_, hv3.other (by omega) _, own_far o2 (own_nb o2 hF3 (by decide)), trivial⟩, hT3.other (by omega) _, hF3.set _⟩
        | false =>
          rw [h39] at hg
          have e9 : belK ((pre ++ [x]).map (·.1)) = (some q, out) := by rw [HE.out]; simp [belStep, hu, h39]
          have HE9 := Nm.hide e9
          clear hu h39 e9 HE
          gi_wp2_with (first
            | (gi_at_call 93
               refine (CallsIn.inRound l hh).mono ?_
               rintro e w1 ⟨rfl, b1⟩)
            | (gi_at_call 76
               refine (CallsIn.inRound l (hg _ (hB.trans (b1.mono hB.size)))).mono ?_
               rintro e w2 ⟨rfl, b12⟩
               have b2 := Nm.below_two b1 b12
               have hT2 : Boxed w2 _ _ _ := blk_below hT b2
               have hF2 : Boxed w2 _ _ _ := blk_below hF b2
               have hv2 : Boxed w2 _ _ _ := blk_below hv b2
               have hrow2 := own_below hrow b2))
          refine ⟨(keeps_below b2).from _, b2.mono hB.size, ?_, hB.trans (b2.mono hB.size)⟩
          rw [HE9.out]
          exact ⟨⟨_, hv2, hrow2, trivial⟩, hT2, hF2⟩
  case done =>
    rintro D ys W hD rfl ⟨⟨⟨v, hv, hrow, -⟩, hT, hF⟩, hB⟩ hK
    rw [List.attach_map_subtype_val] at hrow
    have hc := hv.cell
    gi_wp2
    refine ⟨by simp, .inl ⟨_, _, rfl, run_takeDeferred hK, ?_⟩⟩
    exact ⟨_, results_tmp rfl _ _ _, v, rfl, ownsRow_putObj hrow _ hK rfl, hB.trans (belowK_b (w := w) (Nat.le_refl _) W D _ _ (by omega) hK rfl rfl)⟩
  case stop =>
    rintro D c pre W _ _ h _
    exact h.elim

theorem belowTails_any (bb oo th : Nat) (rv : Value) (os : List GOw) (B : Nat) (w : World) (h : TrAt w B th rv os) (hd : TrS os) (hl : os.length ≤ 400000) (hLab : LabAt w (fpT th rv os) os) (hc : w.cell? ⟨bb, oo + 1, none⟩ = some (ptr th)) :
    Calls Tryz.prog 77 #[.pointer (some ⟨bb, oo, none⟩)] w fun e W' => ∃ v, e = .returned v ∧ W'.ownsRow w.heap.size 87 1 v (belK os).2.length ((belK os).2.map fun o => ptr o.blk) ∧ Below w.heap.size w W' :=
  (callsIn_wide (n := 6)).1 (belowTails_in Fence.wide 6 trivial trivial trivial trivial trivial rfl (by omega) bb oo th rv os B w h hl hLab hc
    (fun o q m W ho hq hW => callsIn_wide.2 (by
      have lo := hLab o ho
      have lq := hLab q hq
      have hu := under_any o.lv q.lv o.lab q.lab W (lo.row.below hW) (lq.row.below hW) lo.fit.1 lo.fit.2 lq.fit.2
      rw [sl_eq lo.row, sl_eq lq.row] at hu
      refine hu.mono ?_
      rintro e w' ⟨rfl, m', rfl⟩
      exact ⟨rfl, Go.below_drewN (Below.refl _ _) _⟩))
    (fun o m W ho hW => callsIn_wide.2 (ownerHas_any o B 39 W ((h.owners o ho).below hW) (by have := (hd.2 o ho).2.1; omega) (hd.2 o ho).1)))
end Go.Proofs.YtcamccoaoiobdaaGreat
