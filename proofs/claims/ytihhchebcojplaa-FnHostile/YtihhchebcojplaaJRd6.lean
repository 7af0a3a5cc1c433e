import Derived.Test.YtihhchebcojplaaJRd3
import Derived.Test.YtihhchebcojplaaJDcM
import Derived.Test.YtihhchebcojplaaJICheck
import Derived.Deep.RegionHeld3
/- (*reader).wholeNames by its contract. -/
namespace Go.Proofs.Ytihhchebcojplaa
open Go.RowKit
set_option linter.unusedVariables false

/-- The program's pieces of a type whose names may have pointers. -/
def pcOf : Option Nat → Dt.Pc
  | none => Dt.Pc.nm
  | some n => Dt.Pc.bs n

theorem pieces_impl {t : Nat} (h : pointed t) : Dt.implP t = (piecesOf t).map pcOf := by
  rcases h with rfl | rfl | rfl | rfl | rfl <;> rfl

/-- How far data has been read: the row 'vo' holds 'acc', the reader lies in g. -/
structure WSt (w wr : World) (g : Nat) (V : Value) (n : Nat) (vo : Value) (acc : List UInt8) (pos : Nat) : Prop where
  own : wr.ownsRow w.heap.size 5 1 vo acc.length (Nm.bys acc)
  rd : Rd wr g V pos
  le : pos ≤ n
  grown : w.grownBy wr (some g)

section
variable {w wr w1 : World} {g n pos pos1 : Nat} {V vo vo1 : Value} {acc acc1 : List UInt8}

theorem WSt.read (h : WSt w wr g V n vo acc pos) (hg : wr.grownBy w1 (some g)) (hr : Rd w1 g V pos1) (hle : pos1 ≤ n) : WSt w w1 g V n vo acc pos1 :=
  ⟨h.own.kept hg (row_rd h.own h.rd (by decide)), hr, hle, gr_step h.grown hg⟩

theorem WSt.app (h : WSt w wr g V n vo acc pos) (hg : wr.grownBy w1 vo.ownBlock) (ho : w1.ownsRow w.heap.size 5 1 vo1 acc1.length (Nm.bys acc1)) : WSt w w1 g V n vo1 acc1 pos :=
  ⟨ho, rd_grown h.rd hg (row_rd' h.own h.rd (by decide)), h.le, gr_own h.grown hg (fun k hk => (h.own.lt k hk).1)⟩

theorem WSt.below (h : WSt w wr g V n vo acc pos) (hb : Below wr.heap.size wr w1) : WSt w w1 g V n vo acc pos :=
  ⟨own_below h.own hb, rd_below h.rd hb, h.le, gr_below h.grown hb⟩
end

/-- A name that was read has at most 255 bytes. -/
theorem dnF_size (l : List UInt8) (start pos : Nat) (acc : List UInt8) (nx : Option Nat) : acc.length ≤ 254 → ∀ s q, dnF l start pos acc nx = .ok s q → s.length ≤ 255 := by
  fun_induction dnF l start pos acc nx with
  | case1 start pos acc nx h h0 => intro ha s q e; simp at e; obtain ⟨rfl, _⟩ := e; simp; omega
  | case2 start pos acc nx h h0 h1 h2 h3 ih => intro ha s q e; exact ih ha s q e
  | case6 start pos acc nx h h0 h1 h2 h3 h4 ih =>
    intro ha s q e
    refine ih ?_ s q e
    simp
    omega
  | _ => intro ha s q e; cases e

end Go.Proofs.Ytihhchebcojplaa
/- (*reader).wholeNames by its contract: its walk. -/
namespace Go.Proofs.Ytihhchebcojplaa
open Go.RowKit
set_option linter.unusedVariables false

theorem pieces_len {t : Nat} (h : pointed t) : (piecesOf t).length ≤ 3 := by
  rcases h with rfl | rfl | rfl | rfl | rfl <;> decide

theorem pieces_small {t : Nat} (h : pointed t) : ∀ n, some n ∈ piecesOf t → 0 < n ∧ n ≤ 20 := by
  rcases h with rfl | rfl | rfl | rfl | rfl <;> simp [piecesOf]

theorem sz_bs_yes {q : Nat} {d : ByteArray} (h : q ≤ d.size) : Dt.sz (.bs q) d = some q := by simp [Dt.sz, h]
theorem sz_bs_no {q : Nat} {d : ByteArray} (h : d.size < q) : Dt.sz (.bs q) d = none := by simp [Dt.sz]; omega

theorem mk_sz (l : List UInt8) : (ByteArray.mk l.toArray).size = l.length := by
  show l.toArray.size = _
  simp

set_option maxRecDepth 100000 in
set_option maxHeartbeats 4000000 in
theorem wholeNames_any (g : Nat) (a : Option Addr) (l : List UInt8) (cap p t fin : Nat) (w : World) (h : Rd w g (.slice a l.length cap) p) (hfar : ∀ w', w.grownBy w' (some g) → BySl w' (.slice a l.length cap) l) (hp : p ≤ fin) (hfin : fin ≤ l.length) (hnn : l.length ≤ 1048576) (ht : pointed t) :
    Calls Try.prog 79 #[.pointer (some ⟨g, 0, none⟩), .int .i64 t, .int .i64 fin] w fun e w' =>
      (∃ d, dtP l fin (piecesOf t) p [] = .ok d fin ∧ e = .returned (.string ⟨d.toArray⟩) ∧ Rd w' g (.slice a l.length cap) fin ∧ w.grownBy w' (some g)) ∨
      (∃ c, dtP l fin (piecesOf t) p [] = .bad c ∧ e = .panicked (fault c) ∧ w.grownBy w' (some g)) := by
  obtain ⟨j0, hj, k0, k1, k2⟩ := info_parts Try.infoRd
  have hcap : l.length ≤ cap := by
    obtain ⟨_, a', cap', e, h1, _⟩ := hfar w (World.grownBy.refl _ _)
    simp only [Value.slice.injEq] at e
    obtain ⟨rfl, _, rfl⟩ := e
    exact h1
  have hform := formOf_any t w
  have hcell := fun k q h => form_cell (t := t) (w := w) (k := k) (p := q) h
  have hok := implP_ok t
  have hb2 : Below w.heap.size w (formV t w) := (Below.refl _ _).alloc (Nat.le_refl _) _
  have hw2 : (formV t w).heap.size = w.heap.size + 1 := by simp [formV]
  have hlen3 := pieces_len ht
  have hsm := pieces_small ht
  rw [pieces_impl ht] at hform hcell hok
  have hg2 : w.grownBy (formV t w) (some g) := gr_below (World.grownBy.refl _ _) hb2
  have hglt := rd_lt h
  have hfar2 : ∀ w', (formV t w).grownBy w' (some g) → BySl w' (.slice a l.length cap) l := fun w' hg => hfar w' (gr_step hg2 hg)
  have hback : ∀ w', (formV t w).grownBy w' (some g) → w.grownBy w' (some g) := fun w' hg => gr_step hg2 hg
  have h2 := rd_below h hb2
  generalize formV t w = w2 at *
  generalize piecesOf t = fs at *
  generalize hR : dtP l fin fs p [] = R
  have hml : (fs.map pcOf).length = fs.length := by simp
  rw [hml] at hform
  have HW2 := Nm.hide hw2
  have HBK := Nm.hide hback
  clear ht hg2 hw2 hb2 h hfar hback
  go_enter Try.func79, Try.ntmps79
  go_wp2_with (go_at_call 85; refine hform.mono ?_; rintro e w1 ⟨rfl, hw⟩; obtain rfl : w2 = w1 := hw.symm; clear hw)
  go_loopw [7, 15] (fun vo vk wr => ∃ (k pos : Nat) (acc : List UInt8) (q : Value), q = vo ∧ vk = .int .i64 k ∧ k ≤ fs.length ∧ pos ≤ fin ∧ acc.length ≤ 256 * k ∧ WSt w2 wr g (.slice a l.length cap) l.length vo acc pos ∧ dtP l fin (fs.drop k) pos acc = R)
    (fun _ vk _ => fs.length - (intOf vk).toNat)
  case atStart => exact ⟨0, p, [], _, rfl, rfl, Nat.zero_le _, hp, Nat.le_refl _, ⟨⟨rfl, .inl ⟨rfl, rfl⟩⟩, h2, by omega, World.grownBy.refl _ _⟩, hR⟩
  case round =>
    obtain ⟨k, pos, acc, vo, rfl, rfl, hk, hpos, hacc, hst, hres⟩ := hrel
    clear hR h2 hform
    by_cases hlt : k < fs.length
    · have hlt' : (k : Int) < (fs.length : Int) := by omega
      obtain ⟨pc, hpc⟩ : ∃ pc, fs[k]? = some pc := ⟨_, List.getElem?_eq_getElem hlt⟩
      have hdr : fs.drop k = pc :: fs.drop (k + 1) := by
        obtain ⟨h1, h2⟩ := List.getElem?_eq_some_iff.1 hpc
        rw [List.drop_eq_getElem_cons h1, h2]
      rw [hdr] at hres
      have hpm : (fs.map pcOf)[k]? = some (pcOf pc) := by simp [hpc]
      have hcp : wr.cell? ⟨w.heap.size, k, none⟩ = some (pcV (pcOf pc)) := hst.grown.cell (hcell k _ hpm) (by simp; omega)
      have hokp := hok _ (List.mem_of_getElem? hpm)
      have hname := fun W => isName_any (pcOf pc) W hokp
      have hmem := List.mem_of_getElem? hpc
      clear hcell hok hdr hpc hpm hokp
      cases pc with
      | none =>
        simp only [pcOf, pcV, Dt.Pc.isN] at hcp hname
        have hnm := name_any g a l cap pos wr hst.rd (hfar2 _ hst.grown) (fun W hW => hfar2 W (gr_step hst.grown hW)) hst.le hnn
        rw [dtP] at hres
        cases hd : dnF l pos pos [] none using Rs.elim with
        | bad c =>
          rw [hd] at hres
          simp only at hres
          subst hres
          have hnm' := hnm.mono (R' := fun e w' => e = .panicked (fault c) ∧ wr.grownBy w' (some g)) (by
            rintro e w2 (⟨_, _, hx, _⟩ | ⟨c2, hx, he, hg2⟩)
            · rw [hd] at hx; cases hx
            · rw [hd] at hx; cases hx; exact ⟨he, hg2⟩)
          have HG : Hid (∀ W, wr.grownBy W (some g) → w.grownBy W (some g)) := by exact fun W hW => HBK.out W (gr_step hst.grown hW)
          clear hnm hst hfar2 hsm hmem
          go_wp2_with (first | (go_at_call 86; refine (hname _).mono ?_; rintro e w5 ⟨rfl, hw⟩; obtain rfl := hw.symm; clear hw) | (go_at_call 56; refine hnm'.mono ?_; rintro e w6 ⟨rfl, hg6⟩))
          refine bp_panic rfl ?_
          exact .inr ⟨_, rfl, rfl, HG.out _ hg6⟩
        | ok s nx =>
          rw [hd] at hres
          simp only at hres
          have hsz := dnF_size l pos pos [] none (by simp) s nx hd
          have hnm' := hnm.mono (R' := fun e w' => e = .returned (.string ⟨s.toArray⟩) ∧ Rd w' g (.slice a l.length cap) nx ∧ nx ≤ l.length ∧ wr.grownBy w' (some g)) (by
            rintro e w2 (⟨_, _, hx, he, hr, hn, hg2⟩ | ⟨c2, hx, he, hg2⟩)
            · rw [hd] at hx; cases hx; exact ⟨he, hr, hn, hg2⟩
            · rw [hd] at hx; cases hx)
          have hbs : (ByteArray.mk s.toArray).size = s.length := mk_sz s
          have HST : Hid (∀ W, wr.grownBy W (some g) → Rd W g (.slice a l.length cap) nx → nx ≤ l.length → WSt w2 W g (.slice a l.length cap) l.length vo acc nx) := by exact fun W hW hr hn => hst.read hW hr hn
          by_cases hfit : nx ≤ fin
          · rw [if_pos hfit] at hres
            have HRES := Nm.hide hres
            have hfit' : (nx : Int) ≤ (fin : Int) := by omega
            clear hnm hst hfar2 hsm hmem hres
            go_wp2_with (first | (go_at_call 86; refine (hname _).mono ?_; rintro e w5 ⟨rfl, hw⟩; obtain rfl := hw.symm; clear hw) | (go_at_call 56; refine hnm'.mono ?_; rintro e w6 ⟨rfl, hr6, hn6, hg6⟩; have hst6 := HST.out w6 hg6 hr6 hn6) | (at_builtin; refine Go.Lib.wpList_append_own_string _ rfl (.tmp 21) (.tmp 23) 22 9 rfl w2.heap.size 5 j0 Try.underlying22 Try.underlying9 hj k0 k1 k2 _ _ _ rfl hst6.own ⟨s.toArray⟩ rfl (by unfold maxLen; omega) (by omega) hst6.grown.size ?_; intro vb wb hown2 hgrow2 hnl2; clear hnl2; have hown3 : wb.ownsRow w2.heap.size 5 1 vb (acc ++ s).length (Nm.bys (acc ++ s)) := (by rw [Nm.bys_append, List.length_append, ← hbs]; exact hown2); have hst7 := hst6.app hgrow2 hown3; have c1 : wb.cell? ⟨g, 1, none⟩ = some (.int .i64 nx) := (by rw [cell_of_row _ _ _ _ _ _ hst7.rd]; rfl); have HST7 := Nm.hide hst7; clear hst6 hst7 hown2 hown3 hgrow2))
            go_roundw
            case rel => exact ⟨k + 1, nx, acc ++ s, _, rfl, by go_num, by omega, hfit, by simp; omega, HST7.out, HRES.out⟩
            case measure => simp [intOf]; omega
          · rw [if_neg hfit] at hres
            subst hres
            have hfit' : (fin : Int) < (nx : Int) := by omega
            clear hnm hst hfar2 hsm hmem
            go_wp2_with (first | (go_at_call 86; refine (hname _).mono ?_; rintro e w5 ⟨rfl, hw⟩; obtain rfl := hw.symm; clear hw) | (go_at_call 56; refine hnm'.mono ?_; rintro e w6 ⟨rfl, hr6, hn6, hg6⟩; have hst6 := HST.out w6 hg6 hr6 hn6) | (at_builtin; refine Go.Lib.wpList_append_own_string _ rfl (.tmp 21) (.tmp 23) 22 9 rfl w2.heap.size 5 j0 Try.underlying22 Try.underlying9 hj k0 k1 k2 _ _ _ rfl hst6.own ⟨s.toArray⟩ rfl (by unfold maxLen; omega) (by omega) hst6.grown.size ?_; intro vb wb hown2 hgrow2 hnl2; clear hnl2; have hown3 : wb.ownsRow w2.heap.size 5 1 vb (acc ++ s).length (Nm.bys (acc ++ s)) := (by rw [Nm.bys_append, List.length_append, ← hbs]; exact hown2); have hst7 := hst6.app hgrow2 hown3; have c1 : wb.cell? ⟨g, 1, none⟩ = some (.int .i64 nx) := (by rw [cell_of_row _ _ _ _ _ _ hst7.rd]; rfl); have HST7 := Nm.hide hst7; clear hst6 hst7 hown2 hown3 hgrow2) | (go_at_call 33; refine (fail_any 7 _).mono ?_; rintro e w9 ⟨rfl, hw⟩; obtain rfl := hw.symm; clear hw))
            refine bp_panic rfl ?_
            exact .inr ⟨_, rfl, rfl, HBK.out _ HST7.out.grown⟩
      | some n =>
        simp only [pcOf, pcV, Dt.Pc.isN] at hcp hname
        obtain ⟨hn0, hn20⟩ := hsm n hmem
        rw [dtP] at hres
        have c0 : wr.cell? ⟨g, 0, none⟩ = some (.slice a l.length cap) := by rw [cell_of_row _ _ _ _ _ _ hst.rd]; rfl
        have c1 : wr.cell? ⟨g, 1, none⟩ = some (.int .i64 pos) := by rw [cell_of_row _ _ _ _ _ _ hst.rd]; rfl
        have hn1 := nil_someBytes n
        have hn2 := meth_someBytes n
        have hrow := cut_row (hfar2 _ hst.grown) (show pos + (fin - pos) ≤ l.length by omega)
        have hds := mk_sz ((l.drop pos).take (fin - pos))
        have hdl : ((l.drop pos).take (fin - pos)).length = fin - pos := by simp; omega
        rw [hdl] at hds
        have hcall := fun W => takeBytes_any n ⟨((l.drop pos).take (fin - pos)).toArray⟩ W
        have hpos' : (pos : Int) ≤ (fin : Int) := by omega
        have hfin' : (fin : Int) ≤ (l.length : Int) := by omega
        have hfc : (fin : Int) ≤ (cap : Int) := by omega
        by_cases hfit : pos + n ≤ fin
        · rw [if_pos hfit] at hres
          have HRES := Nm.hide hres
          have hyes : Dt.sz (.bs n) ⟨((l.drop pos).take (fin - pos)).toArray⟩ = some n := sz_bs_yes (by omega)
          have hcall := fun W => (hcall W).mono (fun e w' h => Took.yes h hyes)
          have hcp2 : ¬ cap = pos := by omega
          have hcv : ∀ W, BySl W (.slice a l.length cap) l → (convert 22 9 (.slice (a.map (fun x => x.add pos)) (fin - pos) (cap - pos))).run Try.prog W = .ok (.string ⟨((l.drop pos).take (fin - pos)).toArray⟩) W := by
            intro W hW
            have := cut_str (cut_row hW (show pos + (fin - pos) ≤ l.length by omega))
            rw [cutV, if_neg hcp2] at this
            exact this
          have HCV := Nm.hide hcv
          have HBS := Nm.hide (hfar2 _ hst.grown)
          have htk := fun W (hr : Rd W g (.slice a l.length cap) pos) => (take_any g a l.length cap pos n W hr hst.le hcap hnn (by omega)).mono (R' := fun e w' => e = .returned (cutV a cap pos n) ∧ Rd w' g (.slice a l.length cap) (pos + n) ∧ W.grownBy w' (some g)) (by
            rintro e w' (⟨_, h1, h2, h3⟩ | ⟨h1, _⟩)
            · exact ⟨h1, h2, h3⟩
            · omega)
          obtain ⟨b, off, cp, hcvv, hcl⟩ := cut_some (hfar2 _ hst.grown) (show pos + n ≤ l.length by omega) hn0
          have HBY : Hid (∀ W, w2.grownBy W (some g) → ∀ j u, (Nm.bys ((l.drop pos).take n))[j]? = some u → W.cell? ((⟨b, off, none⟩ : Addr).add j) = some u) := by exact fun W hW => hcl W (hfar2 W hW)
          simp only [hcvv] at htk
          have hbl : (Nm.bys ((l.drop pos).take n)).length = n * 1 := by rw [Nm.bys_length]; simp; omega
          have hlb : (acc ++ (l.drop pos).take n).length = acc.length + n := by simp; omega
          generalize (⟨((l.drop pos).take (fin - pos)).toArray⟩ : ByteArray) = ds at *
          have HST := Nm.hide hst
          have hS : ∀ W, Below wr.heap.size wr W → (Below wr.heap.size wr W ∧ W.cell? ⟨g, 0, none⟩ = some (.slice a l.length cap) ∧ W.cell? ⟨g, 1, none⟩ = some (.int .i64 pos) ∧ (convert 22 9 (.slice (a.map (fun x => x.add pos)) (fin - pos) (cap - pos))).run Try.prog W = .ok (.string ds) W) := fun W hW => ⟨hW, (by rw [cell_of_row _ _ _ _ _ _ (rd_below HST.out.rd hW)]; rfl), (by rw [cell_of_row _ _ _ _ _ _ (rd_below HST.out.rd hW)]; rfl), HCV.out W ((HBS.out).below hW)⟩
          have hS0 := hS wr.drew (Below.refl _ _).drew
          have hcall2 : ∀ W, (Below wr.heap.size wr W ∧ W.cell? ⟨g, 0, none⟩ = some (.slice a l.length cap) ∧ W.cell? ⟨g, 1, none⟩ = some (.int .i64 pos) ∧ (convert 22 9 (.slice (a.map (fun x => x.add pos)) (fin - pos) (cap - pos))).run Try.prog W = .ok (.string ds) W) → Calls Try.prog 106 #[.int .i64 (n : Int), .string ds] W fun e W2 => e = .returned (.tuple #[.int .i64 (n : Int), .bool true]) ∧ (Below wr.heap.size wr W2 ∧ W2.cell? ⟨g, 0, none⟩ = some (.slice a l.length cap) ∧ W2.cell? ⟨g, 1, none⟩ = some (.int .i64 pos) ∧ (convert 22 9 (.slice (a.map (fun x => x.add pos)) (fin - pos) (cap - pos))).run Try.prog W2 = .ok (.string ds) W2) := fun W hW => (hcall W).mono (by rintro e w' ⟨rfl, hb⟩; exact ⟨rfl, hS w' (Nm.below_two hW.1 hb)⟩)
          clear hcall c0 c1 HCV HBS hS
          clear hyes hrow hcv hst hfar2 hsm hmem hres hdl hcvv hcl
          go_wp2_with (go_at_call 86; refine (hname _).mono ?_; rintro e w5 ⟨rfl, hw⟩; obtain rfl := hw.symm; clear hw)
          go_region_held3 (fun W => Below wr.heap.size wr W ∧ W.cell? ⟨g, 0, none⟩ = some (.slice a l.length cap) ∧ W.cell? ⟨g, 1, none⟩ = some (.int .i64 pos) ∧ (convert 22 9 (.slice (a.map (fun x => x.add pos)) (fin - pos) (cap - pos))).run Try.prog W = .ok (.string ds) W) (first | assumption | exact hS0) ((first | (go_at_call 106; refine (hcall2 _ (by first | assumption | exact hS0)).mono ?_; rintro e w5 ⟨rfl, hS1⟩)))
          have hst5 := HST.out.below hS1.1
          clear hS1 hS0 hcall2
          go_wp2_with (first | (go_at_call 77; refine (htk _ hst5.rd).mono ?_; rintro e w6 ⟨rfl, hr6, hg6⟩; have hst6 := hst5.read hg6 hr6 (by omega); have hby6 := HBY.out w6 hst6.grown) | (at_builtin; refine wpList_append_own _ rfl (.tmp 54) (.tmp 57) 22 rfl w2.heap.size 5 j0 (.int .u8 0) 1 1 Try.underlying22 hj k0 k1 k2 rfl (by decide) _ _ _ rfl hst6.own ⟨b, off, none⟩ n cp (Nm.bys ((l.drop pos).take n)) rfl hbl hby6 (bys_all _) (by unfold maxLen; omega) (by omega) hst6.grown.size ?_; intro vc wc hown7 hgrow7 hnl7; clear hnl7; rw [← Nm.bys_append] at hown7; have HST7 := Nm.hide (hst6.app (acc1 := acc ++ (l.drop pos).take n) hgrow7 (by rw [hlb]; exact hown7)); clear hgrow7 hown7 hst6 hby6))
          go_roundw
          case rel => exact ⟨k + 1, pos + n, _, _, rfl, by go_num, by omega, hfit, by rw [hlb]; omega, HST7.out, HRES.out⟩
          case measure => simp [intOf]; omega
        · rw [if_neg hfit] at hres
          subst hres
          have hno : Dt.sz (.bs n) ⟨((l.drop pos).take (fin - pos)).toArray⟩ = none := sz_bs_no (by omega)
          have hcall := fun W => (hcall W).mono (fun e w' h => Took.no h hno)
          have HST := Nm.hide hst
          by_cases hcp2 : cap = pos
          · have hcv : ∀ W, BySl W (.slice a l.length cap) l → (convert 22 9 (.slice a (fin - cap) 0)).run Try.prog W = .ok (.string ⟨((l.drop cap).take (fin - cap)).toArray⟩) W := by
              intro W hW
              have := cut_str (cut_row hW (show pos + (fin - pos) ≤ l.length by omega))
              rw [cutV, if_pos hcp2, ← hcp2] at this
              exact this
            subst hcp2
            have HCV := Nm.hide hcv
            have HBS := Nm.hide (hfar2 _ hst.grown)
            generalize (⟨((l.drop cap).take (fin - cap)).toArray⟩ : ByteArray) = ds at *
            have hS : ∀ W, Below wr.heap.size wr W → (Below wr.heap.size wr W ∧ W.cell? ⟨g, 0, none⟩ = some (.slice a l.length cap) ∧ W.cell? ⟨g, 1, none⟩ = some (.int .i64 cap) ∧ (convert 22 9 (.slice a (fin - cap) 0)).run Try.prog W = .ok (.string ds) W) := fun W hW => ⟨hW, (by rw [cell_of_row _ _ _ _ _ _ (rd_below HST.out.rd hW)]; rfl), (by rw [cell_of_row _ _ _ _ _ _ (rd_below HST.out.rd hW)]; rfl), HCV.out W ((HBS.out).below hW)⟩
            have hS0 := hS wr.drew (Below.refl _ _).drew
            have hcall2 : ∀ W, (Below wr.heap.size wr W ∧ W.cell? ⟨g, 0, none⟩ = some (.slice a l.length cap) ∧ W.cell? ⟨g, 1, none⟩ = some (.int .i64 cap) ∧ (convert 22 9 (.slice a (fin - cap) 0)).run Try.prog W = .ok (.string ds) W) → Calls Try.prog 106 #[.int .i64 (n : Int), .string ds] W fun e W2 => (∃ m : Nat, e = .returned (.tuple #[.int .i64 (m : Int), .bool false])) ∧ (Below wr.heap.size wr W2 ∧ W2.cell? ⟨g, 0, none⟩ = some (.slice a l.length cap) ∧ W2.cell? ⟨g, 1, none⟩ = some (.int .i64 cap) ∧ (convert 22 9 (.slice a (fin - cap) 0)).run Try.prog W2 = .ok (.string ds) W2) := fun W hW => (hcall W).mono (by rintro e w' ⟨m, rfl, hb⟩; exact ⟨⟨m, rfl⟩, hS w' (Nm.below_two hW.1 hb)⟩)
            clear hcall c0 c1 HCV HBS hS
            clear hno hrow hcv hst hfar2 hsm hmem hdl
            go_wp2_with (go_at_call 86; refine (hname _).mono ?_; rintro e w5 ⟨rfl, hw⟩; obtain rfl := hw.symm; clear hw)
            go_region_held3 (fun W => Below wr.heap.size wr W ∧ W.cell? ⟨g, 0, none⟩ = some (.slice a l.length cap) ∧ W.cell? ⟨g, 1, none⟩ = some (.int .i64 cap) ∧ (convert 22 9 (.slice a (fin - cap) 0)).run Try.prog W = .ok (.string ds) W) (first | assumption | exact hS0) ((first | (go_at_call 106; refine (hcall2 _ (by first | assumption | exact hS0)).mono ?_; rintro e w5 ⟨⟨m, rfl⟩, hS1⟩)))
            have HST5 := Nm.hide (HST.out.below hS1.1)
            clear hS1 hS0 hcall2
            go_wp2_with (go_at_call 33; refine (fail_any 7 _).mono ?_; rintro e w9 ⟨rfl, hw⟩; obtain rfl := hw.symm; clear hw)
            refine bp_panic rfl ?_
            exact .inr ⟨_, rfl, rfl, HBK.out _ HST5.out.grown⟩
          · have hcv : ∀ W, BySl W (.slice a l.length cap) l → (convert 22 9 (.slice (a.map (fun x => x.add pos)) (fin - pos) (cap - pos))).run Try.prog W = .ok (.string ⟨((l.drop pos).take (fin - pos)).toArray⟩) W := by
              intro W hW
              have := cut_str (cut_row hW (show pos + (fin - pos) ≤ l.length by omega))
              rw [cutV, if_neg hcp2] at this
              exact this
            have HCV := Nm.hide hcv
            have HBS := Nm.hide (hfar2 _ hst.grown)
            generalize (⟨((l.drop pos).take (fin - pos)).toArray⟩ : ByteArray) = ds at *
            have hS : ∀ W, Below wr.heap.size wr W → (Below wr.heap.size wr W ∧ W.cell? ⟨g, 0, none⟩ = some (.slice a l.length cap) ∧ W.cell? ⟨g, 1, none⟩ = some (.int .i64 pos) ∧ (convert 22 9 (.slice (a.map (fun x => x.add pos)) (fin - pos) (cap - pos))).run Try.prog W = .ok (.string ds) W) := fun W hW => ⟨hW, (by rw [cell_of_row _ _ _ _ _ _ (rd_below HST.out.rd hW)]; rfl), (by rw [cell_of_row _ _ _ _ _ _ (rd_below HST.out.rd hW)]; rfl), HCV.out W ((HBS.out).below hW)⟩
            have hS0 := hS wr.drew (Below.refl _ _).drew
            have hcall2 : ∀ W, (Below wr.heap.size wr W ∧ W.cell? ⟨g, 0, none⟩ = some (.slice a l.length cap) ∧ W.cell? ⟨g, 1, none⟩ = some (.int .i64 pos) ∧ (convert 22 9 (.slice (a.map (fun x => x.add pos)) (fin - pos) (cap - pos))).run Try.prog W = .ok (.string ds) W) → Calls Try.prog 106 #[.int .i64 (n : Int), .string ds] W fun e W2 => (∃ m : Nat, e = .returned (.tuple #[.int .i64 (m : Int), .bool false])) ∧ (Below wr.heap.size wr W2 ∧ W2.cell? ⟨g, 0, none⟩ = some (.slice a l.length cap) ∧ W2.cell? ⟨g, 1, none⟩ = some (.int .i64 pos) ∧ (convert 22 9 (.slice (a.map (fun x => x.add pos)) (fin - pos) (cap - pos))).run Try.prog W2 = .ok (.string ds) W2) := fun W hW => (hcall W).mono (by rintro e w' ⟨m, rfl, hb⟩; exact ⟨⟨m, rfl⟩, hS w' (Nm.below_two hW.1 hb)⟩)
            clear hcall c0 c1 HCV HBS hS
            clear hno hrow hcv hst hfar2 hsm hmem hdl
            go_wp2_with (go_at_call 86; refine (hname _).mono ?_; rintro e w5 ⟨rfl, hw⟩; obtain rfl := hw.symm; clear hw)
            go_region_held3 (fun W => Below wr.heap.size wr W ∧ W.cell? ⟨g, 0, none⟩ = some (.slice a l.length cap) ∧ W.cell? ⟨g, 1, none⟩ = some (.int .i64 pos) ∧ (convert 22 9 (.slice (a.map (fun x => x.add pos)) (fin - pos) (cap - pos))).run Try.prog W = .ok (.string ds) W) (first | assumption | exact hS0) ((first | (go_at_call 106; refine (hcall2 _ (by first | assumption | exact hS0)).mono ?_; rintro e w5 ⟨⟨m, rfl⟩, hS1⟩)))
            have HST5 := Nm.hide (HST.out.below hS1.1)
            clear hS1 hS0 hcall2
            go_wp2_with (go_at_call 33; refine (fail_any 7 _).mono ?_; rintro e w9 ⟨rfl, hw⟩; obtain rfl := hw.symm; clear hw)
            refine bp_panic rfl ?_
            exact .inr ⟨_, rfl, rfl, HBK.out _ HST5.out.grown⟩
    · have hge : (fs.length : Int) ≤ (k : Int) := by omega
      have hnil : fs.drop k = [] := List.drop_eq_nil_of_le (by omega)
      rw [hnil, dtP] at hres
      have c1 : wr.cell? ⟨g, 1, none⟩ = some (.int .i64 pos) := by rw [cell_of_row _ _ _ _ _ _ hst.rd]; rfl
      have HST := Nm.hide hst
      have hcv := cut_str (CRow.of_owns hst.own)
      clear hcell hok hnil hst hsm
      by_cases he : pos = fin
      · subst he
        rw [if_pos rfl] at hres
        subst hres
        go_wp2
        go_ret
        exact .inl ⟨_, rfl, rfl, HST.out.rd, HBK.out _ HST.out.grown⟩
      · rw [if_neg he] at hres
        subst hres
        have hlt2 : (pos : Int) < (fin : Int) := by omega
        go_wp2_with (go_at_call 33; refine (fail_any 7 _).mono ?_; rintro e w9 ⟨rfl, hw⟩; obtain rfl := hw.symm; clear hw)
        refine bp_panic rfl ?_
        exact .inr ⟨_, rfl, rfl, HBK.out _ HST.out.grown⟩
end Go.Proofs.Ytihhchebcojplaa
