import Derived.Test.YtihhchebcojplaaJDnM
import Derived.Test.YtihhchebcojplaaJDcM
import Derived.Test.YtihhchebcojplaaJDrE
import Derived.Test.YtihhchebcojplaaJParts
import Derived.Test.YtihhchebcojplaaJBig1
import Derived.Test.YtihhchebcojplaaJNumM
import Derived.Test.YtihhchebcojplaaJMath
/- spec.l04Pointed and spec.l04Data by their contracts. -/
namespace Go.Proofs.Ytihhchebcojplaa
open Go.RowKit
set_option linter.unusedVariables false


theorem dtP_many (l : List UInt8) (fin : Nat) (ps : List (Option Nat)) : ∀ (n p : Nat) (acc : List UInt8), p ≤ fin → dtP l fin (List.replicate n (some 1) ++ ps) p acc = dtP l fin (some n :: ps) p acc := by
  intro n
  induction n with
  | zero => intro p acc h; simp [dtP, cutL, h]
  | succ n ih =>
    intro p acc h
    rw [List.replicate_succ, List.cons_append, dtP]
    by_cases h1 : p + 1 ≤ fin
    · rw [if_pos h1, ih (p + 1) _ h1, dtP, dtP]
      have e : p + 1 + n = p + (n + 1) := by omega
      rw [e, List.append_assoc, ← cutL_add, Nat.add_comm 1 n]
    · rw [if_neg h1, dtP, if_neg (by omega)]

/-- The model's pieces: a sign each. -/
def pcC (c : UInt8) : Option Nat := if c = 98 then some 1 else none

theorem spec_pieces {t : Nat} (h : pointed t) (l : List UInt8) (p fin : Nat) (hp : p ≤ fin) : dtP l fin ((Dt.formS t).data.toList.map pcC) p [] = dtP l fin (piecesOf t) p [] := by
  rcases h with rfl | rfl | rfl | rfl | rfl
  · rfl
  · rfl
  · show dtP l fin (none :: none :: (List.replicate 20 (some 1) ++ [])) p [] = dtP l fin [none, none, some 20] p []
    rw [dtP, dtP]
    split
    · rfl
    · split
      · rw [dtP, dtP]
        split
        · rfl
        · split
          · rename_i h2
            exact dtP_many l fin [] 20 _ _ h2
          · rfl
      · rfl
  · rfl
  · exact dtP_many l fin [none] 2 p [] hp

theorem form_signs {t : Nat} (h : pointed t) : ∀ i (hi : i < (Dt.formS t).size), (Dt.formS t)[i] = 98 ∨ (Dt.formS t)[i] = 110 := by
  rcases h with rfl | rfl | rfl | rfl | rfl <;> decide

/-- What l04Data answers. -/
def dtV : Rs (List UInt8) → Value
  | .inl c => .tuple #[.string ⟨#[]⟩, .int .i64 c]
  | .inr (d, _) => .tuple #[.string ⟨d.toArray⟩, .int .i64 0]

theorem mk_of {s : ByteArray} {l : List UInt8} (h : s.data.toList = l) : s = ⟨l.toArray⟩ := by
  subst h; simp

theorem dnS_at {l : List UInt8} {p : Nat} (h : p ≤ l.length) : dnS l (p : Int) = match dnF l p p [] none with | .inl c => ([], 0, c) | .inr (s, n) => (s, (n : Int), 0) := by
  rw [dnS, if_neg (by omega)]
  rfl

theorem dnF_code (l : List UInt8) (start pos : Nat) (acc : List UInt8) (nx : Option Nat) : ∀ c, dnF l start pos acc nx = .bad c → c ≠ 0 := by
  fun_induction dnF l start pos acc nx with
  | case1 => intro c e; cases e
  | case2 start pos acc nx h h0 h1 h2 h3 ih => exact ih
  | case6 start pos acc nx h h0 h1 h2 h3 h4 ih => exact ih
  | _ => intro c e; cases e; decide

theorem dnF_size2 (l : List UInt8) (start pos : Nat) (acc : List UInt8) (nx : Option Nat) : acc.length ≤ 254 → ∀ s q, dnF l start pos acc nx = .ok s q → s.length ≤ 255 := by
  fun_induction dnF l start pos acc nx with
  | case1 start pos acc nx h h0 => intro ha s q e; simp at e; obtain ⟨rfl, _⟩ := e; simp; omega
  | case2 start pos acc nx h h0 h1 h2 h3 ih => intro ha s q e; exact ih ha s q e
  | case6 start pos acc nx h h0 h1 h2 h3 h4 ih =>
    intro ha s q e
    refine ih ?_ s q e
    simp
    omega
  | _ => intro ha s q e; cases e

set_option maxRecDepth 100000 in
set_option maxHeartbeats 3200000 in
theorem l04Data_any (v : Value) (l : List UInt8) (t p fin : Nat) (w : World) (h : BySl w v l) (hl : l.length ≤ 1048576) (hp : p ≤ fin) (hfin : fin ≤ l.length) (hs : fin - p ≤ 65535) :
    Calls Try.prog 54 #[v, .int .i64 t, .int .i64 p, .int .i64 fin] w fun e w' => e = .returned (dtV (dataS l t p fin)) ∧ Below w.heap.size w w' := by
  have hby := h
  obtain ⟨hbl, a, cap, rfl, hcap, hmx, hc⟩ := h
  clear hc
  have hmp := fun W => l04Pointed_any t W
  by_cases h0 : p = fin
  · have HD : Hid (dtV (dataS l t p fin) = .tuple #[.string ⟨#[]⟩, .int .i64 0]) := by rw [Hid, dataS, if_pos h0]; rfl
    have h0' : ((p : Int) == (fin : Int)) = true := by rw [beq_iff_eq]; omega
    subst h0
    go_enter Try.func54, Try.ntmps54
    go_wp2
    go_ret2
    rw [HD.out]
    exact ⟨rfl, Below.refl _ _⟩
  · have h0' : ((p : Int) == (fin : Int)) = false := by rw [beq_eq_false_iff_ne]; omega
    by_cases hpt : pointed t
    · have hpd : decide (pointed t) = true := decide_eq_true hpt
      simp only [hpd] at hmp
      have HD : Hid (dataS l t p fin = dtP l fin ((Dt.formS t).data.toList.map pcC) p []) := by
        rw [Hid, dataS, if_neg h0, if_pos hpt, spec_pieces hpt l p fin hp]
      have hfm := fun W => l02Form_any (t : Int) W
      have hsg := form_signs hpt
      have hfl : (Dt.formS t).size ≤ 22 := by rcases hpt with rfl | rfl | rfl | rfl | rfl <;> decide
      rw [HD.out]
      clear HD hpd
      generalize Dt.formS t = fs at *
      generalize hR : dtP l fin (fs.data.toList.map pcC) p [] = R
      have hsd := fun (q : Nat) W (h : BySl W (.slice a l.length cap) l) => specDecodeName_any (.slice a l.length cap) l (q : Int) W h hl
      go_enter Try.func54, Try.ntmps54
      go_wp2_with (first | (go_at_call 46; refine (hmp _).mono ?_; rintro e w1 ⟨rfl, hw⟩; obtain rfl := hw.symm; clear hw) | (go_at_call 47; refine (hfm _).mono ?_; rintro e w2 ⟨rfl, hw⟩; obtain rfl := hw.symm; clear hw))
      go_loopw [2, 11, 13] (fun vp vo vi wr => ∃ (k pos : Nat) (s : ByteArray), k ≤ fs.size ∧ vi = .int .i64 k ∧ vp = .int .i64 pos ∧ pos ≤ fin ∧ vo = .string s ∧ s.size ≤ 256 * k ∧ Below w.heap.size w wr ∧ dtP l fin ((fs.data.toList.map pcC).drop k) pos s.data.toList = R)
        (fun _ _ vi _ => fs.size - (intOf vi).toNat)
      case atStart => exact ⟨0, p, _, Nat.zero_le _, rfl, rfl, hp, rfl, Nat.le_refl _, Below.refl _ _, hR⟩
      case round =>
        obtain ⟨k, pos, s, hk, rfl, rfl, hpos, rfl, hss, hbel, hres⟩ := hrel
        clear hR hmp hfm
        by_cases hlt : k < fs.size
        · have hlt' : (k : Int) < (fs.size : Int) := by omega
          have hdr : (fs.data.toList.map pcC).drop k = pcC fs[k] :: (fs.data.toList.map pcC).drop (k + 1) := by
            have h1 : k < (fs.data.toList.map pcC).length := by simp; exact hlt
            rw [List.drop_eq_getElem_cons h1]
            simp
            rfl
          rw [hdr] at hres
          rcases hsg k hlt with hb | hb
          · have hb' : ((fs[k].toNat : Int) == 98) = true := by rw [hb]; rfl
            rw [hb] at hres
            have e1 : pcC 98 = some 1 := rfl
            rw [e1, dtP] at hres
            by_cases hfit : pos + 1 ≤ fin
            · rw [if_pos hfit] at hres
              have hfit' : (pos : Int) < (fin : Int) := by omega
              obtain ⟨b, off, rfl, hcv⟩ := by_str hby (show pos + 1 ≤ l.length by omega) (by decide)
              have hcv1 := hcv wr hbel
              have hcp : ¬ cap = pos := by omega
              have hfc : (pos : Int) + 1 ≤ (cap : Int) := by omega
              have hsz : (ByteArray.mk ((l.drop pos).take 1).toArray).size = 1 := by show ((l.drop pos).take 1).toArray.size = 1; simp; omega
              have HRES : Hid (dtP l fin ((fs.data.toList.map pcC).drop (k + 1)) (pos + 1) (s ++ ⟨((l.drop pos).take 1).toArray⟩).data.toList = R) := by
                rw [Hid, ← hres]
                congr 1 <;> simp [cutL]
              generalize (⟨((l.drop pos).take 1).toArray⟩ : ByteArray) = x at *
              clear hres hcv hdr hsg hsd
              go_wp2
              go_roundw
              case rel => exact ⟨k + 1, pos + 1, s ++ x, by omega, by go_num, by go_num, hfit, rfl, by rw [ByteArray.size_append]; omega, hbel, HRES.out⟩
              case measure => simp [intOf]; omega
            · rw [if_neg hfit] at hres
              subst hres
              have hfit' : (fin : Int) ≤ (pos : Int) := by omega
              clear hdr hsg hsd
              go_wp2
              go_ret2
              exact ⟨rfl, hbel⟩
          · have hb' : ((fs[k].toNat : Int) == 98) = false := by rw [hb]; rfl
            rw [hb] at hres
            have e1 : pcC 110 = none := rfl
            rw [e1, dtP] at hres
            have hcall := hsd pos wr (hby.below hbel)
            rw [dnS_at (show pos ≤ l.length by omega)] at hcall
            cases hd : dnF l pos pos [] none using Rs.elim with
            | bad c =>
              rw [hd] at hres hcall
              simp only at hres hcall
              subst hres
              have hcn : (c != 0) = true := by rw [bne_iff_ne]; exact dnF_code l pos pos [] none c hd
              clear hdr hsg hsd
              go_wp2_with (go_at_call 30; refine hcall.mono ?_; rintro e w5 ⟨rfl, hb5⟩)
              go_ret2
              exact ⟨rfl, Nm.below_two hbel hb5⟩
            | ok nm nx =>
              rw [hd] at hres hcall
              simp only at hres hcall
              have hnl := dnF_size2 l pos pos [] none (by decide) nm nx hd
              by_cases hfit : nx ≤ fin
              · rw [if_pos hfit] at hres
                have hfit' : (nx : Int) ≤ (fin : Int) := by omega
                have hsz : (ByteArray.mk nm.toArray).size = nm.length := by show nm.toArray.size = _; simp
                have HRES : Hid (dtP l fin ((fs.data.toList.map pcC).drop (k + 1)) nx (s ++ ⟨nm.toArray⟩).data.toList = R) := by
                  rw [Hid, ← hres]
                  congr 1 <;> simp
                clear hres hdr hsg hsd
                go_wp2_with (go_at_call 30; refine hcall.mono ?_; rintro e w5 ⟨rfl, hb5⟩)
                go_roundw
                case rel => exact ⟨k + 1, nx, s ++ ⟨nm.toArray⟩, by omega, by go_num, by go_num, hfit, rfl, by rw [ByteArray.size_append]; omega, Nm.below_two hbel hb5, HRES.out⟩
                case measure => simp [intOf]; omega
              · rw [if_neg hfit] at hres
                subst hres
                have hfit' : (fin : Int) < (nx : Int) := by omega
                clear hdr hsg hsd
                go_wp2_with (go_at_call 30; refine hcall.mono ?_; rintro e w5 ⟨rfl, hb5⟩)
                go_ret2
                exact ⟨rfl, Nm.below_two hbel hb5⟩
        · have hge : (fs.size : Int) ≤ (k : Int) := by omega
          have hnil : (fs.data.toList.map pcC).drop k = [] := List.drop_eq_nil_of_le (by simp; show fs.size ≤ k; omega)
          rw [hnil, dtP] at hres
          by_cases he : pos = fin
          · rw [if_pos he] at hres
            have he' : ((pos : Int) != (fin : Int)) = false := by simp [he]
            subst hres
            go_wp2
            go_ret2
            exact ⟨rfl, hbel⟩
          · rw [if_neg he] at hres
            have he' : ((pos : Int) != (fin : Int)) = true := by rw [bne_iff_ne]; omega
            subst hres
            go_wp2
            go_ret2
            exact ⟨rfl, hbel⟩
    · have hpd : decide (pointed t) = false := decide_eq_false hpt
      simp only [hpd] at hmp
      have HD : Hid (dtV (dataS l t p fin) = if cutCode t ⟨(cutL l p (fin - p)).toArray⟩ = 0 then .tuple #[.string ⟨(cutL l p (fin - p)).toArray⟩, .int .i64 0] else .tuple #[.string ⟨#[]⟩, .int .i64 7]) := by
        rw [Hid, dataS, if_neg h0, if_neg hpt]
        split <;> rfl
      obtain ⟨b, off, rfl, hcv⟩ := by_str hby (show p + (fin - p) ≤ l.length by omega) (by omega)
      have hck := fun W => specCheckData_any (t : Int) ⟨(cutL l p (fin - p)).toArray⟩ W
      change ∀ W, _ → (convert _ _ _).run _ _ = .ok (.string ⟨(cutL l p (fin - p)).toArray⟩) W at hcv
      rw [HD.out]
      generalize cutCode t ⟨(cutL l p (fin - p)).toArray⟩ = cc at *
      generalize (⟨(cutL l p (fin - p)).toArray⟩ : ByteArray) = ds at *
      have hcv1 := hcv w (Below.refl _ _)
      have hcp : ¬ cap = p := by omega
      have hfc : (fin : Int) ≤ (cap : Int) := by omega
      have hpf : (p : Int) ≤ (fin : Int) := by omega
      clear HD hpd hcv
      by_cases hcc : cc = 0
      · subst hcc
        rw [if_pos rfl]
        go_enter Try.func54, Try.ntmps54
        go_wp2_with (first | (go_at_call 46; refine (hmp _).mono ?_; rintro e w1 ⟨rfl, hw⟩; obtain rfl := hw.symm; clear hw) | (go_at_call 75; refine (hck _).mono ?_; rintro e w2 ⟨rfl, hb2⟩))
        go_ret2
        exact ⟨rfl, hb2⟩
      · rw [if_neg hcc]
        have hne : (cc != 0) = true := by rw [bne_iff_ne]; exact hcc
        go_enter Try.func54, Try.ntmps54
        go_wp2_with (first | (go_at_call 46; refine (hmp _).mono ?_; rintro e w1 ⟨rfl, hw⟩; obtain rfl := hw.symm; clear hw) | (go_at_call 75; refine (hck _).mono ?_; rintro e w2 ⟨rfl, hb2⟩))
        go_ret2
        exact ⟨rfl, hb2⟩
end Go.Proofs.Ytihhchebcojplaa
/- (*reader).head by its contract. -/
namespace Go.Proofs.Ytihhchebcojplaa
open Go.RowKit
set_option linter.unusedVariables false

theorem rd_blk {w : World} {g p : Nat} {v : Value} (h : Rd w g v p) : Blk w g #[v, .int .i64 p] 50 := h

/-- The counts of which k are read. -/
def ctK (l : List UInt8) (k : Nat) : Array Value := #[.int .i64 (if 0 < k then n16 l 4 else 0), .int .i64 (if 1 < k then n16 l 6 else 0), .int .i64 (if 2 < k then n16 l 8 else 0), .int .i64 (if 3 < k then n16 l 10 else 0)]

theorem rd_drew {w : World} {g p : Nat} {v : Value} (h : Rd w g v p) : Rd w.drew g v p := h

/-- What is so once a head and its counts are laid into two variables. -/
structure Laid2 (w W : World) (g : Nat) (V : Value) (p d f : Nat) (cs : Array Value) (T U : TypeId) : Prop where
  rd : Rd W g V p
  grown : w.grownBy W (some g)
  one : Blk W w.heap.size (hdA d f) T
  two : Blk W (w.heap.size + 1) cs U

theorem laid2 {w W : World} {g p d f : Nat} {V : Value} {T U : TypeId} (h : Rd W g V p) (hg : w.grownBy W (some g)) (hlt : g < w.heap.size) (h1 : Blk W w.heap.size hd0 T) (h2 : Blk W (w.heap.size + 1) ct0 U) (m0 m1 m2 m3 : Int) :
    Laid2 w (setAll (setAll W w.heap.size 0 (hdA d f).toList) (w.heap.size + 1) 0 [.int .i64 m0, .int .i64 m1, .int .i64 m2, .int .i64 m3]) g V p d f #[.int .i64 m0, .int .i64 m1, .int .i64 m2, .int .i64 m3] T U := by
  have n1 : g ≠ w.heap.size := by omega
  have n2 : g ≠ w.heap.size + 1 := by omega
  refine ⟨setAll_far n2 _ _ _ (setAll_far n1 _ _ _ (rd_blk h)), setAll_grown (by omega) _ _ _ (setAll_grown (Nat.le_refl _) _ _ _ hg), setAll_far (by omega) _ _ _ ?_, setAll_new _ (setAll_far (by omega) _ _ _ h2) rfl⟩
  have := setAll_new (hdA d f).toList h1 rfl
  simpa using this

theorem Laid2.drew {w W : World} {g p d f : Nat} {V : Value} {T U : TypeId} {cs : Array Value} (h : Laid2 w W g V p d f cs T U) : Laid2 w W.drew g V p d f cs T U := ⟨rd_drew h.rd, grown_drew h.grown, blk_drew h.one, blk_drew h.two⟩

/-- A head and its counts are handed back out of their variables. -/
theorem head_back {w W : World} {g p d f : Nat} {V : Value} {cs : Array Value} {R : Ending → World → Prop} {a : Act} (h : Laid2 w W g V p d f cs 25 59)
    (hc : ∃ m0 m1 m2 m3 : Value, cs = #[m0, m1, m2, m3])
    (h2 : a.tmps[2]? = some (.pointer (some ⟨w.heap.size, 0, none⟩))) (h3 : a.tmps[3]? = some (.pointer (some ⟨w.heap.size + 1, 0, none⟩))) (hd : a.defers = [])
    (hR : R (.returned (.tuple #[.agg (hdA d f), .agg cs])) W) : bodyPost Try.prog Try.f34 R .ret a W := by
  obtain ⟨m0, m1, m2, m3, rfl⟩ := hc
  refine bodyPost_ret ?_ hd hR
  have r := fun i => blk_cell h.one i
  have q := fun i => blk_cell h.two i
  simp only [hdA] at r
  simp [results, Try.results34, go_sem, Result.andThen, r, q, h2, h3, hdA]

theorem ctK_at (l : List UInt8) {k : Nat} (h : k < 4) : (ctK l k)[k]? = some (.int .i64 0) := by
  rcases k with _ | _ | _ | _ | k
  · rfl
  · rfl
  · rfl
  · rfl
  · omega

theorem ctK_step (l : List UInt8) {k : Nat} (h : k < 4) : (ctK l k).setIfInBounds k (.int .i64 (n16 l (4 + 2 * k))) = ctK l (k + 1) := by
  rcases k with _ | _ | _ | _ | k
  · rfl
  · rfl
  · rfl
  · rfl
  · omega

set_option maxRecDepth 100000 in
set_option maxHeartbeats 3200000 in
theorem head_any (g : Nat) (a : Option Addr) (l : List UInt8) (cap : Nat) (w : World) (h : Rd w g (.slice a l.length cap) 0) (hfar : ∀ w', w.grownBy w' (some g) → BySl w' (.slice a l.length cap) l) (hnn : l.length ≤ 1048576) :
    Calls Try.prog 34 #[.pointer (some ⟨g, 0, none⟩)] w fun e w' =>
      (12 ≤ l.length ∧ e = .returned (.tuple #[.agg (hdA (n16 l 0) (n16 l 2)), .agg (ctA l)]) ∧ Rd w' g (.slice a l.length cap) 12 ∧ w.grownBy w' (some g)) ∨
      (l.length < 12 ∧ e = .panicked (fault 8) ∧ w.grownBy w' (some g)) := by
  have hnum := fun (p : Nat) W (hr : Rd W g (.slice a l.length cap) p) (hg : w.grownBy W (some g)) (hp : p ≤ l.length) => number_any g a l cap p 2 W hr (hfar W hg) (fun W2 hW2 => hfar W2 (hgr_step hg hW2)) hp hnn (by decide)
  have hglt := blk_lt (rd_blk h)
  by_cases hlong : 12 ≤ l.length
  · have hok := fun (p : Nat) W hr hg (hp : p + 2 ≤ l.length) => (hnum p W hr hg (by omega)).mono (R' := fun e w' => e = .returned (.int .i64 (n16 l p)) ∧ Rd w' g (.slice a l.length cap) (p + 2) ∧ W.grownBy w' (some g)) (by
      rintro e w' (⟨_, h1, h2, h3⟩ | ⟨h1, _⟩)
      · exact ⟨h1, h2, h3⟩
      · omega)
    have hA := blk_alloc (blk_new w hd0 25) (.cells ct0 59)
    have hB := blk_new (w.alloc (.cells hd0 25)) ct0 59
    have hbe : Below w.heap.size w ((w.alloc (.cells hd0 25)).alloc (.cells ct0 59)) := ((Below.refl _ _).alloc (Nat.le_refl _) _).alloc (by simp) _
    have hrd := (show Rd _ g _ 0 from blk_below (rd_blk h) hbe)
    have hgr := hgr_below (World.grownBy.refl w (some g)) hbe
    have e1 : (w.alloc (.cells hd0 25)).heap.size = w.heap.size + 1 := by simp
    rw [e1] at hB
    simp only [hd0, ct0] at hA hB hbe hrd hgr
    go_enter Try.func34, Try.ntmps34
    go_wp2_with fail
    refine (hok 0 _ hrd hgr (by omega)).mono ?_
    rintro e w1 ⟨rfl, hr1, hg1⟩
    have hA1 := blk_grown hA hg1 (by simp; omega)
    have hB1 := blk_grown hB hg1 (by simp; omega)
    have hgr1 := hgr_step hgr hg1
    have hs1 := hgr1.size
    clear hA hB hbe hrd hgr hg1 e1
    go_wp2_with fail
    refine (hok 2 _ hr1 hgr1 (by omega)).mono ?_
    rintro e w2 ⟨rfl, hr2, hg2⟩
    have hA2 := blk_alloc (blk_grown hA1 hg2 (by simp; omega)) (.cells ct0 59)
    have hB2 := blk_alloc (blk_grown hB1 hg2 (by simp; omega)) (.cells ct0 59)
    have hC2 := blk_new w2 ct0 59
    have hgr2 := hgr_below (hgr_step hgr1 hg2) ((Below.refl _ _).alloc (Nat.le_refl _) (.cells ct0 59))
    have hr2' := (show Rd _ g _ 4 from blk_alloc (rd_blk hr2) (.cells ct0 59))
    have hlt2 : w.heap.size + 2 ≤ w2.heap.size := by have := blk_lt (blk_grown hB1 hg2 (by simp; omega)); omega
    simp only [ct0] at hA2 hB2 hC2 hgr2 hr2'
    generalize hd : n16 l 0 = d at *
    generalize hf : n16 l 2 = f at *
    clear hA1 hB1 hr1 hgr1 hs1 hr2 hg2
    go_wp2
    go_loopw [12] (fun vi wr => ∃ k : Nat, k ≤ 4 ∧ vi = .int .i64 k ∧ Rd wr g (.slice a l.length cap) (4 + 2 * k) ∧ w.grownBy wr (some g) ∧ Blk wr w.heap.size hd0 25 ∧ Blk wr (w.heap.size + 1) ct0 59 ∧ Blk wr w2.heap.size (ctK l k) 59)
      (fun vi _ => 4 - (intOf vi).toNat)
    case atStart => exact ⟨0, by decide, rfl, hr2', hgr2, hA2, hB2, hC2⟩
    case round =>
      obtain ⟨k, hk, rfl, hrk, hgk, hAk, hBk, hCk⟩ := hrel
      clear hA2 hB2 hC2 hgr2 hr2'
      by_cases hlt : k < 4
      · have hlt' : (k : Int) < 4 := by omega
        have hz := blk_cell hCk k
        rw [ctK_at l hlt] at hz
        have hfz := blk_frozen hCk k
        have hk1 := hok (4 + 2 * k) wr hrk hgk (by omega)
        have HS : Hid (∀ W, wr.grownBy W (some g) → Rd W g (.slice a l.length cap) (4 + 2 * k + 2) → W.cell? ⟨w2.heap.size, k, none⟩ = some (.int .i64 0) ∧ W.frozen? ⟨w2.heap.size, k, none⟩ = false ∧
            (Rd (W.setCell ⟨w2.heap.size, k, none⟩ (.int .i64 (n16 l (4 + 2 * k)))) g (.slice a l.length cap) (4 + 2 * (k + 1)) ∧ w.grownBy (W.setCell ⟨w2.heap.size, k, none⟩ (.int .i64 (n16 l (4 + 2 * k)))) (some g) ∧ Blk (W.setCell ⟨w2.heap.size, k, none⟩ (.int .i64 (n16 l (4 + 2 * k)))) w.heap.size hd0 25 ∧ Blk (W.setCell ⟨w2.heap.size, k, none⟩ (.int .i64 (n16 l (4 + 2 * k)))) (w.heap.size + 1) ct0 59 ∧ Blk (W.setCell ⟨w2.heap.size, k, none⟩ (.int .i64 (n16 l (4 + 2 * k)))) w2.heap.size (ctK l (k + 1)) 59)) := by
          intro W hW hr
          have hC := blk_grown hCk hW (by simp; omega)
          refine ⟨(blk_cell hC k).trans (ctK_at l hlt), blk_frozen hC k, blk_far (rd_blk hr) (by omega), hgr_set (hgr_step hgk hW) (by omega), blk_far (blk_grown hAk hW (by simp; omega)) (by omega), blk_far (blk_grown hBk hW (by simp; omega)) (by omega), ?_⟩
          rw [← ctK_step l hlt]
          exact blk_set hC k _
        clear hz hfz hAk hBk hCk hgk hrk
        generalize n16 l (4 + 2 * k) = m at *
        go_wp2_with (go_at_call 55; refine hk1.mono ?_; rintro e w3 ⟨rfl, hr3, hg3⟩; obtain ⟨q1, q2, q3⟩ := HS.out w3 hg3 hr3; have HQ := Nm.hide q3; clear q3)
        go_roundw
        case rel => exact ⟨k + 1, by omega, by go_num, HQ.out⟩
        case measure => simp [intOf]; omega
      · have hk4 : k = 4 := by omega
        subst hk4
        have e4 : ctK l 4 = ctA l := by simp [ctK, ctA]
        rw [e4] at hCk
        simp only [ctA, ct0, hd0] at hAk hBk hCk
        have q0 := blk_cell hCk 0
        have q1 := blk_cell hCk 1
        have q2 := blk_cell hCk 2
        have q3 := blk_cell hCk 3
        have p0 := fun i => blk_frozen hAk i
        have p1 := fun i => blk_frozen hBk i
        have r0 := fun i => blk_cell hAk i
        have r1 := fun i => blk_cell hBk i
        have hfl := n16_lt l 2
        rw [hf] at hfl
        have b15 := flag_and f 15 hfl (by decide) 32768 rfl
        have b10 := flag_and f 10 hfl (by decide) 1024 rfl
        have b9 := flag_and f 9 hfl (by decide) 512 rfl
        have b8 := flag_and f 8 hfl (by decide) 256 rfl
        have b7 := flag_and f 7 hfl (by decide) 128 rfl
        have b6 := flag_and f 6 hfl (by decide) 64 rfl
        have b5 := flag_and f 5 hfl (by decide) 32 rfl
        have b4 := flag_and f 4 hfl (by decide) 16 rfl
        have b3 := and_15 f hfl
        have b2 : bits .and .i64 ((f : Int) / 2048) 15 = ((f / 2048 % 16 : Nat) : Int) := and_15 (f / 2048) (by omega)
        have HL := Nm.hide (laid2 (p := 12) (d := d) (f := f) hrk hgk hglt hAk hBk (n16 l 4) (n16 l 6) (n16 l 8) (n16 l 10)).drew
        simp only [hdA, setAll, Int.natCast_emod, Int.natCast_ediv, Nat.reduceAdd, Nat.zero_add] at HL
        clear hAk hBk hCk
        go_wp2
        go_region
        go_wp2
        refine head_back HL.out ⟨_, _, _, _, rfl⟩ rfl rfl rfl ?_
        refine .inl ⟨hlong, ?_, HL.out.rd, HL.out.grown⟩
        rw [hd, hf]; rfl
  · have hshort : l.length < 12 := by omega
    have hA := blk_alloc (blk_new w hd0 25) (.cells ct0 59)
    have hbe : Below w.heap.size w ((w.alloc (.cells hd0 25)).alloc (.cells ct0 59)) := ((Below.refl _ _).alloc (Nat.le_refl _) _).alloc (by simp) _
    have hrd := (show Rd _ g _ 0 from blk_below (rd_blk h) hbe)
    have hgr := hgr_below (World.grownBy.refl w (some g)) hbe
    simp only [hd0, ct0] at hA hbe hrd hgr
    go_enter Try.func34, Try.ntmps34
    go_wp2_with fail
    refine (hnum 0 _ hrd hgr (by omega)).mono ?_
    rintro e w1 (⟨hl1, rfl, hr1, hg1⟩ | ⟨_, rfl, hg1⟩)
    rotate_left 1
    · refine bp_panic rfl ?_
      exact .inr ⟨hshort, rfl, hgr_step hgr hg1⟩
    have hgr1 := hgr_step hgr hg1
    have hs1 := hgr1.size
    clear hA hbe hrd hgr hg1
    go_wp2_with fail
    refine (hnum 2 _ hr1 hgr1 (by omega)).mono ?_
    rintro e w2 (⟨hl2, rfl, hr2, hg2⟩ | ⟨_, rfl, hg2⟩)
    rotate_left 1
    · refine bp_panic rfl ?_
      exact .inr ⟨hshort, rfl, hgr_step hgr1 hg2⟩
    have hC2 := blk_new w2 ct0 59
    have hgr2 := hgr_below (hgr_step hgr1 hg2) ((Below.refl _ _).alloc (Nat.le_refl _) (.cells ct0 59))
    have hr2' := (show Rd _ g _ 4 from blk_alloc (rd_blk hr2) (.cells ct0 59))
    have hlt2 : w.heap.size ≤ w2.heap.size := (hgr_step hgr1 hg2).size
    simp only [ct0] at hC2 hgr2 hr2'
    clear hr1 hgr1 hs1 hr2 hg2
    go_wp2
    go_loopw [12] (fun vi wr => ∃ k : Nat, k ≤ 4 ∧ 4 + 2 * k ≤ l.length ∧ vi = .int .i64 k ∧ Rd wr g (.slice a l.length cap) (4 + 2 * k) ∧ w.grownBy wr (some g) ∧ Blk wr w2.heap.size (ctK l k) 59)
      (fun vi _ => 4 - (intOf vi).toNat)
    case atStart => exact ⟨0, by decide, by omega, rfl, hr2', hgr2, hC2⟩
    case round =>
      obtain ⟨k, hk, hkl, rfl, hrk, hgk, hCk⟩ := hrel
      clear hC2 hgr2 hr2'
      have hlt : k < 4 := by omega
      have hlt' : (k : Int) < 4 := by omega
      have hk1 := hnum (4 + 2 * k) wr hrk hgk hkl
      have HS : Hid (∀ W, wr.grownBy W (some g) → Rd W g (.slice a l.length cap) (4 + 2 * k + 2) → W.cell? ⟨w2.heap.size, k, none⟩ = some (.int .i64 0) ∧ W.frozen? ⟨w2.heap.size, k, none⟩ = false ∧
          (Rd (W.setCell ⟨w2.heap.size, k, none⟩ (.int .i64 (n16 l (4 + 2 * k)))) g (.slice a l.length cap) (4 + 2 * (k + 1)) ∧ w.grownBy (W.setCell ⟨w2.heap.size, k, none⟩ (.int .i64 (n16 l (4 + 2 * k)))) (some g) ∧ Blk (W.setCell ⟨w2.heap.size, k, none⟩ (.int .i64 (n16 l (4 + 2 * k)))) w2.heap.size (ctK l (k + 1)) 59)) := by
        intro W hW hr
        have hC := blk_grown hCk hW (by simp; omega)
        refine ⟨(blk_cell hC k).trans (ctK_at l hlt), blk_frozen hC k, blk_far (rd_blk hr) (by omega), hgr_set (hgr_step hgk hW) (by omega), ?_⟩
        rw [← ctK_step l hlt]
        exact blk_set hC k _
      have HG : Hid (∀ W, wr.grownBy W (some g) → w.grownBy W (some g)) := by exact fun W hW => hgr_step hgk hW
      clear hCk hgk hrk
      change Calls _ _ _ _ (fun e w' => (_ ∧ e = .returned (.int .i64 (n16 l (4 + 2 * k))) ∧ _ ∧ _) ∨ _) at hk1
      generalize n16 l (4 + 2 * k) = m at *
      go_wp2_with fail
      refine hk1.mono ?_
      rintro e w3 (⟨hl3, rfl, hr3, hg3⟩ | ⟨_, rfl, hg3⟩)
      rotate_left 1
      · go_wp2
        refine bp_panic rfl ?_
        exact .inr ⟨hshort, rfl, HG.out _ hg3⟩
      obtain ⟨q1, q2, q3⟩ := HS.out w3 hg3 hr3
      have HQ := Nm.hide q3
      clear q3
      go_wp2
      go_roundw
      case rel => exact ⟨k + 1, by omega, by omega, by go_num, HQ.out⟩
      case measure => simp [intOf]; omega
end Go.Proofs.Ytihhchebcojplaa
