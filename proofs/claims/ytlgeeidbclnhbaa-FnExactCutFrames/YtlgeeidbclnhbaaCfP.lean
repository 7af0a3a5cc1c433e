/- spec.CutFrames by its contract. -/
import Derived.Test.YtlgeeidbclnhbaaCfL
import Derived.Test.YtlgeeidbclnhbaaCfS
import Derived.Test.YtlgeeidbclnhbaaData4
namespace Go.Proofs.Ytlgeeidbclnhbaa
open Go.RowKit
set_option linter.unusedVariables false

/-- A row of bytes in a block of its own, whatever its mark. -/
def KRow (w : World) (u : Value) (l : List UInt8) : Prop :=
  ∃ g cap cur mk, u = .slice (some ⟨g, 0, none⟩) l.length cap ∧ l.length ≤ cap ∧ cap ≤ maxLen ∧ w.heap[g]? = some (.cells cur 5 mk) ∧ ∀ (j : Nat) (c : UInt8), l[j]? = some c → cur[j]? = some (.int .u8 (c.toNat : Int))

theorem KRow.read {w : World} {u : Value} {l : List UInt8} (h : KRow w u l) : BySl w u l := by
  obtain ⟨g, cap, cur, mk, rfl, h1, h2, h3, h4⟩ := h
  refine ⟨by rw [Nm.bys_length, Nat.mul_one], _, cap, rfl, h1, h2, fun _ => ⟨g, 0, rfl, fun i x hx => ?_⟩⟩
  have hi : i < l.length := by
    have := (List.getElem?_eq_some_iff.1 hx).1
    rwa [Nm.bys_length] at this
  rw [Nm.bys, List.getElem?_map, List.getElem?_eq_getElem hi] at hx
  simp only [Option.map_some, Option.some.injEq] at hx
  rw [Nat.zero_add, cell_of_row w g i cur _ mk h3, h4 i _ (List.getElem?_eq_getElem hi), hx]

theorem KRow.below {w w' : World} {u : Value} {l : List UInt8} (h : KRow w u l) (hb : Below w.heap.size w w') : KRow w' u l := by
  obtain ⟨g, cap, cur, mk, rfl, h1, h2, h3, h4⟩ := h
  have hg : g < w.heap.size := (Array.getElem?_eq_some_iff.1 h3).1
  exact ⟨g, cap, cur, mk, rfl, h1, h2, (hb.block g hg).trans h3, h4⟩

theorem KRow.kept {w w' : World} {B n : Nat} {u v : Value} {l : List UInt8} {xs : List Value} (h : KRow w u l) (ho : w.ownsRow B 22 1 v n xs) (hg : w.grownBy w' v.ownBlock) : KRow w' u l := by
  obtain ⟨g, cap, cur, mk, rfl, h1, h2, h3, h4⟩ := h
  have hgl : g < w.heap.size := (Array.getElem?_eq_some_iff.1 h3).1
  refine ⟨g, cap, cur, mk, rfl, h1, h2, (hg.block g hgl ?_).trans h3, h4⟩
  intro e
  rcases ho.2 with ⟨rfl, _⟩ | ⟨g2, cap2, cur2, rfl, _, hh, _⟩
  · cases e
  · simp only [Value.ownBlock, Option.some.injEq] at e
    subst e
    rw [hh] at h3
    simp at h3

theorem conv_k (s : ByteArray) (w : World) (hs : s.size ≤ 1000000000) : ∃ u W, (convert 9 22 (.string s)).run Try.prog w = .ok u W ∧ KRow W u s.data.toList ∧ Below w.heap.size w W := by
  have hge := grownCap_ge w s.size 0 5
  have hle := grownCap_le_maxLen w s.size 0 5 (by unfold maxLen; omega)
  have hr := run_bytes_of_string w 9 22 5 s Try.underlying9 Try.underlying22 Try.underlying5
  generalize grownCap w s.size 0 5 = C at *
  have hl : s.data.toList.length = s.size := by simp
  refine ⟨_, _, hr, ⟨w.heap.size, C, _, _, by rw [hl], by omega, hle, heap_alloc_new w.drew _, ?_⟩, ((Below.refl _ w).drew).alloc (Nat.le_refl _) _⟩
  intro j c hj
  have hj' : j < s.data.size := by
    have := (List.getElem?_eq_some_iff.1 hj).1
    simpa using this
  have hc : s.data[j] = c := by
    have := (List.getElem?_eq_some_iff.1 hj).2
    simpa using this
  rw [bytesRow_at s _ j hj', hc]

theorem ext_ll (S : ByteArray) (a b : Nat) : (S.extract a b).data.toList = (S.data.toList.drop a).take (b - a) := by
  simp [ByteArray.data_extract, List.extract]

def mzV : Value → Nat
  | .string s => s.size
  | .slice _ n _ => n
  | _ => 0

/-- What the model's CutFrames leaves. -/
def CfSpec (R : List (List UInt8) × List UInt8 × Bool) (w : World) (e : Ending) (w' : World) : Prop :=
  ∃ v us u, e = .returned (.tuple #[v, u, .bool R.2.2]) ∧ BsR w' v us R.1 ∧ BySl w' u R.2.1 ∧ Below w.heap.size w w'

theorem nil_by (w : World) : BySl w (.slice none 0 0) [] := CRow.of_owns (B := 0) (e := 5) (World.ownsRow_nil _ _ _ _)

set_option maxRecDepth 100000 in
set_option maxHeartbeats 3200000 in
theorem specCutFrames_any (v1 v2 : Value) (l1 l2 : List UInt8) (w : World) (h1 : BySl w v1 l1) (h2 : BySl w v2 l2) (hl1 : l1.length ≤ 1048576) (hl2 : l2.length ≤ 1048576) :
    Calls Try.prog 4 #[v1, v2] w (CfSpec (cfR l1 l2) w) := by
  obtain ⟨a1, c1, rfl⟩ : ∃ a c, v1 = .slice a l1.length c := by obtain ⟨_, a, c, e, _⟩ := h1; exact ⟨a, c, e⟩
  obtain ⟨a2, c2, rfl⟩ : ∃ a c, v2 = .slice a l2.length c := by obtain ⟨_, a, c, e, _⟩ := h2; exact ⟨a, c, e⟩
  have hnilR : BsR w (.slice none 0 0) [] [] := ⟨CRow.of_owns (B := 0) (e := 22) (World.ownsRow_nil _ _ _ _), rfl, by simp⟩
  by_cases hA : 65537 < l1.length
  · have hA' : (65537 : Int) < (l1.length : Int) := by omega
    have HR : Hid (cfR l1 l2 = ([], [], false)) := if_pos (.inl hA)
    go_enter Try.func4, Try.ntmps4
    go_wp2
    go_ret3
    rw [HR.out]
    exact ⟨_, _, _, rfl, hnilR, nil_by w, Below.refl _ _⟩
  · have hA' : (l1.length : Int) ≤ 65537 := by omega
    by_cases hC : 400000 < l2.length
    · have hC' : (400000 : Int) < (l2.length : Int) := by omega
      have HR : Hid (cfR l1 l2 = ([], [], false)) := if_pos (.inr hC)
      go_enter Try.func4, Try.ntmps4
      go_wp2
      go_ret3
      rw [HR.out]
      exact ⟨_, _, _, rfl, hnilR, nil_by w, Below.refl _ _⟩
    · have hC' : (l2.length : Int) ≤ 400000 := by omega
      have HR : Hid (cfR l1 l2 = cutF (l1 ++ l2).length (l1 ++ l2)) := if_neg (by omega)
      have cv1 := cf_str h1
      have cv2 := cf_str h2
      have hLl : (l1 ++ l2).length ≤ 465537 := by rw [List.length_append]; omega
      have hS0 : ((⟨l1.toArray⟩ : ByteArray) ++ ⟨l2.toArray⟩).data.toList = l1 ++ l2 := by simp
      rw [HR.out]
      clear HR
      generalize l1 ++ l2 = L at *
      have hB0 := (Below.refl w.heap.size w).alloc (Nat.le_refl _) (.cells #[] 22)
      have hown0 := World.ownsRow_made (base := w.heap.size) (size := 1) (e := 22) w #[] 0 (by simp) (by decide) rfl
      obtain ⟨i0, hi, hz0, hz1, hz2⟩ := info_parts Try.infoBs
      have hnum := fun (s : ByteArray) (hs : s.size ≤ 6) W => l02Num_any s W hs
      go_enter Try.func4, Try.ntmps4
      go_wp2
      go_loopw [7, 8] (fun s v wr => ∃ (S : ByteArray) (fs : List (List UInt8)) (us : List Value), s = .string S ∧ Hid (FrAt L fs S.data.toList) ∧ wr.ownsRow w.heap.size 22 1 v us.length us ∧ Hid (us.length = fs.length) ∧ Hid (∀ (i : Nat) (u : Value) (f : List UInt8), us[i]? = some u → fs[i]? = some f → KRow wr u f) ∧ Below w.heap.size w wr) (fun s _ _ => mzV s)
      case atStart => exact ⟨_, [], [], rfl, by show FrAt _ _ _; rw [hS0]; exact FrAt.start L, hown0, rfl, by intro i u f h; simp at h, hB0⟩
      case round =>
        obtain ⟨S, fs, us, rfl, HF, ho, HL, HK, hbel⟩ := hrel
        clear hown0 hB0 hS0 h1 h2 cv1 cv2
        have hSl : S.data.toList.length = S.size := by simp
        have hfl : fs.length + S.size ≤ 465537 := by
          have h3 := HF.out.2.2.1
          have h4 := HF.out.2.2.2
          omega
        obtain ⟨va, vc, rfl⟩ := own_sl ho
        have hfin : ∀ W, Below wr.heap.size wr W → BsR W (.slice va us.length vc) us fs := fun W hb => ⟨(CRow.of_owns ho).below hb, HL.out, fun i u f e1 e2 => ((HK.out i u f e1 e2).below hb).read⟩
        by_cases hs2 : S.size < 2
        · have i1 : (S.size : Int) < 2 := by omega
          obtain ⟨u, W, hcv, hku, hbW⟩ := conv_k S wr (by omega)
          have HE : Hid (cutF L.length L = (fs, S.data.toList, false)) := HF.out.stop (.inl (by omega))
          have HZ := Nm.hide (hfin W hbW)
          have hb2 := Nm.below_two hbel hbW
          clear hfin HF HK hSl
          go_wp2
          go_ret3
          rw [HE.out]
          exact ⟨_, us, _, rfl, HZ.out, hku.read, hb2⟩
        · have i1 : (2 : Int) ≤ (S.size : Int) := by omega
          have hk2 : 2 ≤ S.size := by omega
          have hn0 := fun W => hnum (S.extract 0 2) (by simp; omega) W
          have e1 : numL (S.extract 0 2).data.toList = hdN S.data.toList := by rw [ext_ll]; rfl
          have hd := hdN_lt S.data.toList
          rw [e1] at hn0
          clear e1
          obtain ⟨n, hn⟩ : ∃ n, n = hdN S.data.toList := ⟨_, rfl⟩
          have HN := Nm.hide hn
          rw [← hn] at hn0 hd
          clear hn hnum
          by_cases hz : n = 0
          · have HE : Hid (cutF L.length L = (fs, [], true)) := HF.out.fin (by omega) (by rw [← HN.out]; exact hz)
            have HZ := Nm.hide (hfin wr (Below.refl _ _))
            subst hz
            clear hfin HF HK hSl
            go_wp2_with (go_at_call 13; refine (hn0 _).mono ?_; rintro e w1 ⟨rfl, rfl⟩)
            go_ret3
            rw [HE.out]
            exact ⟨_, us, _, rfl, HZ.out, nil_by _, hbel⟩
          · have iz : ((n : Int) == 0) = false := by simpa using hz
            by_cases hsh : S.size < n + 2
            · have i2 : (S.size : Int) < (n : Int) + 2 := by omega
              obtain ⟨u, W, hcv, hku, hbW⟩ := conv_k S wr (by omega)
              have HE : Hid (cutF L.length L = (fs, S.data.toList, false)) := HF.out.stop (.inr (by rw [← HN.out]; omega))
              have HZ := Nm.hide (hfin W hbW)
              have hb2 := Nm.below_two hbel hbW
              clear hfin HF HK hSl
              go_wp2_with (go_at_call 13; refine (hn0 _).mono ?_; rintro e w1 ⟨rfl, rfl⟩)
              go_ret3
              rw [HE.out]
              exact ⟨_, us, _, rfl, HZ.out, hku.read, hb2⟩
            · have i2 : (n : Int) + 2 ≤ (S.size : Int) := by omega
              have hk3 : n + 2 ≤ S.size := by omega
              obtain ⟨u, W, hcv, hku, hbW⟩ := conv_k (S.extract 2 (n + 2)) wr (by simp; omega)
              rw [ext_ll, show n + 2 - 2 = n by omega] at hku
              have HST : Hid (FrAt L (fs ++ [(S.data.toList.drop 2).take n]) (S.extract (n + 2) S.size).data.toList) := by
                have := HF.out.step (by omega) (by rw [← HN.out]; exact hz) (by rw [← HN.out]; omega)
                rw [← HN.out] at this
                show FrAt _ _ _
                rw [ext_ll, List.take_of_length_le (l := S.data.toList.drop (n + 2)) (by simp)]
                exact this
              have hul : (S.extract 2 (n + 2)).size = n := by simp; omega
              have hrl : (S.extract (n + 2) S.size).size + (n + 2) = S.size := by simp; omega
              have hku0 := hku
              obtain ⟨g, uc, cur, mk, hu, _⟩ := hku0
              have ho1 := own_below ho hbW
              have HK1 : Hid (∀ (i : Nat) (u : Value) (f : List UInt8), us[i]? = some u → fs[i]? = some f → KRow W u f) := fun i u f e1 e2 => (HK.out i u f e1 e2).below hbW
              have hB1 := Nm.below_two hbel hbW
              have hsz := hbW.size
              generalize (S.data.toList.drop 2).take n = F at *
              subst hu
              have hul9 : us.length ≤ 465537 := by have := HL.out; omega
              have HF9 : Hid (∀ v' w', w'.ownsRow w.heap.size 22 1 v' (us.length + 1) (us ++ [Value.slice (some ⟨g, 0, none⟩) F.length uc]) → (W.alloc (.cells #[Value.slice (some ⟨g, 0, none⟩) F.length uc] 22)).grownBy w' (Value.slice va us.length vc).ownBlock →
                  w'.ownsRow w.heap.size 22 1 v' (us ++ [Value.slice (some ⟨g, 0, none⟩) F.length uc]).length (us ++ [Value.slice (some ⟨g, 0, none⟩) F.length uc]) ∧ Hid ((us ++ [Value.slice (some ⟨g, 0, none⟩) F.length uc]).length = (fs ++ [F]).length) ∧ Hid (∀ (i : Nat) (u : Value) (f : List UInt8), (us ++ [Value.slice (some ⟨g, 0, none⟩) F.length uc])[i]? = some u → (fs ++ [F])[i]? = some f → KRow w' u f) ∧ Below w.heap.size w w') := by
                intro v' w' ho9 hg9
                have hbA := (Below.refl W.heap.size W).alloc (Nat.le_refl _) (.cells #[Value.slice (some ⟨g, 0, none⟩) F.length uc] 22)
                have hoA := own_below ho1 hbA
                refine ⟨by rw [List.length_append]; exact ho9, by show _ = _; rw [List.length_append, List.length_append, HL.out]; rfl, ?_, ?_⟩
                · intro i x f hx hf
                  by_cases hi : i < us.length
                  · rw [List.getElem?_append_left hi] at hx
                    rw [List.getElem?_append_left (by rw [← HL.out]; exact hi)] at hf
                    exact ((HK1.out i x f hx hf).below hbA).kept hoA hg9
                  · have hi2 : i = us.length := by
                      have := (List.getElem?_eq_some_iff.1 hx).1
                      simp at this
                      omega
                    subst hi2
                    rw [List.getElem?_append_right (Nat.le_refl _), Nat.sub_self] at hx
                    rw [HL.out, List.getElem?_append_right (Nat.le_refl _), Nat.sub_self] at hf
                    simp at hx hf
                    subst hx
                    subst hf
                    exact (hku.below hbA).kept hoA hg9
                · have hb3 : Below w.heap.size w (W.alloc (.cells #[Value.slice (some ⟨g, 0, none⟩) F.length uc] 22)) := hB1.alloc hB1.size _
                  exact hb3.grown hg9 hb3.size (fun k hk => (ho1.lt k hk).1)
              have hoA : (W.alloc (.cells #[Value.slice (some ⟨g, 0, none⟩) F.length uc] 22)).ownsRow w.heap.size 22 1 (.slice va us.length vc) us.length us := own_below ho1 ((Below.refl W.heap.size W).alloc (Nat.le_refl _) _)
              have hwW := hB1.size
              have HM : Hid (mzV (.string (S.extract (n + 2) S.size)) < mzV (.string S)) := by show (S.extract (n + 2) S.size).size < S.size; omega
              clear hfin HF HK hSl HN hbel hbW ho hku HK1 hB1 ho1 hul hrl HL
              go_wp2_with (first | (go_at_call 13; refine (hn0 _).mono ?_; rintro e w1 ⟨rfl, rfl⟩) | (at_builtin; refine wpList_append_own _ rfl (.tmp 38) (.tmp 44) 23 rfl w.heap.size 22 i0 _ 1 24 Try.underlying23 hi hz0 hz1 hz2 rfl (by decide) _ _ _ rfl hoA ⟨W.heap.size, 0, none⟩ 1 1 [Value.slice (some ⟨g, 0, none⟩) F.length uc] rfl rfl (cell_new1 _ _ _) (by intro u hu; simp at hu; subst hu; rfl) (by unfold maxLen; omega) (by omega) (by simp; omega) ?_; intro va9 wa9 hown9 hgrow9 hnl9; clear hnl9))
              obtain ⟨r1, r2, r3, r4⟩ := HF9.out _ _ hown9 hgrow9
              obtain ⟨ra, rc, rfl⟩ := own_sl r1
              go_roundw
              case rel => exact ⟨_, _, _, rfl, HST, r1, r2, r3, r4⟩
              case measure => exact HM.out
end Go.Proofs.Ytlgeeidbclnhbaa
