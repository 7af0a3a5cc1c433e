import Derived.Test.YtfficbpalibmoaaGreatDoorCut
import Derived.Test.YtfficbpalibmoaaGreatDoorJRd3
import Derived.Test.YtfficbpalibmoaaGreatDoorJDcM
import Derived.Deep.RegionHeld3
import Derived.Test.YtfficbpalibmoaaGreatDoorJPiece
import Derived.Test.YtfficbpalibmoaaGreatDoorRows
import Derived.RegionTactic
import Derived.BigRegion
import Derived.Test.YtfficbpalibmoaaGreatDoorJHd1
/- impl.CheckData by its contract. -/
namespace Go.Proofs.YtfficbpalibmoaaGreatDoor
open Go.RowKit

set_option maxRecDepth 100000 in
set_option maxHeartbeats 400000 in
theorem implCheckData_any (t : Int) (d : ByteArray) (w : World) (hd : d.size ≤ 2000000) :
    Calls Tryz.prog 96 #[.int .i64 t, .string d] w fun e w' => e = .returned (.int .i64 (cutCode t d)) ∧ Below w.heap.size w w' := by
  have hcall := cutData_any t d w hd
  go_enter Tryz.func96, Tryz.ntmps96
  go_wp2_with (go_at_call 105; refine hcall.mono ?_; rintro e w2 ⟨v, rfl, _, _, hbel⟩)
  go_ret
  exact ⟨rfl, hbel⟩
end Go.Proofs.YtfficbpalibmoaaGreatDoor
/- (*reader).wholeNames by its contract. -/
namespace Go.Proofs.YtfficbpalibmoaaGreatDoor
open Go.RowKit
set_option linter.unusedVariables false

/-- The program's pieces of a type whose names may have pointers. -/
def pcOf : Option Nat → Dt.Pc
  | none => Dt.Pc.nm
  | some n => Dt.Pc.bs n

theorem pieces_impl {t : Nat} (h : pointed t) : Dt.implP t = (piecesOf t).map pcOf := by
  rcases h with rfl | rfl | rfl | rfl | rfl <;> rfl

/-- How far data has been read: the row 'vo' holds 'acc', the reader lies in g. -/
structure WSt (w wr : World) (g : Nat) (V : Value) (n : Nat) (vo : Value) (acc : List UInt8) (pos : Nat) : Prop where
  own : wr.ownsRow w.heap.size 5 1 vo acc.length (Nm.bys acc)
  rd : Rd wr g V pos
  le : pos ≤ n
  grown : w.grownBy wr (some g)

section
variable {w wr w1 : World} {g n pos pos1 : Nat} {V vo vo1 : Value} {acc acc1 : List UInt8}

theorem WSt.read (h : WSt w wr g V n vo acc pos) (hg : wr.grownBy w1 (some g)) (hr : Rd w1 g V pos1) (hle : pos1 ≤ n) : WSt w w1 g V n vo acc pos1 :=
  ⟨h.own.kept hg (row_rd h.own h.rd (by decide)), hr, hle, gr_step h.grown hg⟩

theorem WSt.app (h : WSt w wr g V n vo acc pos) (hg : wr.grownBy w1 vo.ownBlock) (ho : w1.ownsRow w.heap.size 5 1 vo1 acc1.length (Nm.bys acc1)) : WSt w w1 g V n vo1 acc1 pos :=
  ⟨ho, rd_grown h.rd hg (row_rd' h.own h.rd (by decide)), h.le, gr_own h.grown hg (fun k hk => (h.own.lt k hk).1)⟩

theorem WSt.below (h : WSt w wr g V n vo acc pos) (hb : Below wr.heap.size wr w1) : WSt w w1 g V n vo acc pos :=
  ⟨own_below h.own hb, rd_below h.rd hb, h.le, gr_below h.grown hb⟩
end

/-- A name that was read has at most 255 bytes. -/
theorem dnF_size (l : List UInt8) (start pos : Nat) (acc : List UInt8) (nx : Option Nat) : acc.length ≤ 254 → ∀ s q, dnF l start pos acc nx = .ok s q → s.length ≤ 255 := by
  fun_induction dnF l start pos acc nx with
  | case1 start pos acc nx h h0 => intro ha s q e; simp at e; obtain ⟨rfl, _⟩ := e; simp; omega
  | case2 start pos acc nx h h0 h1 h2 h3 ih => intro ha s q e; exact ih ha s q e
  | case6 start pos acc nx h h0 h1 h2 h3 h4 ih =>
    intro ha s q e
    refine ih ?_ s q e
    simp
    omega
  | _ => intro ha s q e; cases e

end Go.Proofs.YtfficbpalibmoaaGreatDoor
/- (*reader).wholeNames by its contract: its walk. -/
namespace Go.Proofs.YtfficbpalibmoaaGreatDoor
open Go.RowKit
set_option linter.unusedVariables false

theorem pieces_len {t : Nat} (h : pointed t) : (piecesOf t).length ≤ 3 := by
  rcases h with rfl | rfl | rfl | rfl | rfl <;> decide

theorem pieces_small {t : Nat} (h : pointed t) : ∀ n, some n ∈ piecesOf t → 0 < n ∧ n ≤ 20 := by
  rcases h with rfl | rfl | rfl | rfl | rfl <;> simp [piecesOf]

theorem sz_bs_yes {q : Nat} {d : ByteArray} (h : q ≤ d.size) : Dt.sz (.bs q) d = some q := by simp [Dt.sz, h]
theorem sz_bs_no {q : Nat} {d : ByteArray} (h : d.size < q) : Dt.sz (.bs q) d = none := by simp [Dt.sz]; omega

theorem mk_sz (l : List UInt8) : (ByteArray.mk l.toArray).size = l.length := by
  show l.toArray.size = _
  simp

set_option maxRecDepth 100000 in
set_option maxHeartbeats 4000000 in
theorem wholeNames_any (g : Nat) (a : Option Addr) (l : List UInt8) (cap p t fin : Nat) (w : World) (h : Rd w g (.slice a l.length cap) p) (hfar : ∀ w', w.grownBy w' (some g) → BySl w' (.slice a l.length cap) l) (hp : p ≤ fin) (hfin : fin ≤ l.length) (hnn : l.length ≤ 1048576) (ht : pointed t) :
    Calls Tryz.prog 95 #[.pointer (some ⟨g, 0, none⟩), .int .i64 t, .int .i64 fin] w fun e w' =>
      (∃ d, dtP l fin (piecesOf t) p [] = .ok d fin ∧ e = .returned (.string ⟨d.toArray⟩) ∧ Rd w' g (.slice a l.length cap) fin ∧ w.grownBy w' (some g)) ∨
      (∃ c, dtP l fin (piecesOf t) p [] = .bad c ∧ e = .panicked (fault c) ∧ w.grownBy w' (some g)) := by
  obtain ⟨j0, hj, k0, k1, k2⟩ := info_parts Tryz.infoRd
  have hcap : l.length ≤ cap := by
    obtain ⟨_, a', cap', e, h1, _⟩ := hfar w (World.grownBy.refl _ _)
    simp only [Value.slice.injEq] at e
    obtain ⟨rfl, _, rfl⟩ := e
    exact h1
  have hform := formOf_any t w
  have hcell := fun k q h => form_cell (t := t) (w := w) (k := k) (p := q) h
  have hok := implP_ok t
  have hb2 : Below w.heap.size w (formV t w) := (Below.refl _ _).alloc (Nat.le_refl _) _
  have hw2 : (formV t w).heap.size = w.heap.size + 1 := by simp [formV]
  have hlen3 := pieces_len ht
  have hsm := pieces_small ht
  rw [pieces_impl ht] at hform hcell hok
  have hg2 : w.grownBy (formV t w) (some g) := gr_below (World.grownBy.refl _ _) hb2
  have hglt := rd_lt h
  have hfar2 : ∀ w', (formV t w).grownBy w' (some g) → BySl w' (.slice a l.length cap) l := fun w' hg => hfar w' (gr_step hg2 hg)
  have hback : ∀ w', (formV t w).grownBy w' (some g) → w.grownBy w' (some g) := fun w' hg => gr_step hg2 hg
  have h2 := rd_below h hb2
  generalize formV t w = w2 at *
  generalize piecesOf t = fs at *
  generalize hR : dtP l fin fs p [] = R
  have hml : (fs.map pcOf).length = fs.length := by simp
  rw [hml] at hform
  have HW2 := Nm.hide hw2
  have HBK := Nm.hide hback
  clear ht hg2 hw2 hb2 h hfar hback
  go_enter Tryz.func95, Tryz.ntmps95
  go_wp2_with (go_at_call 103; refine hform.mono ?_; rintro e w1 ⟨rfl, hw⟩; obtain rfl : w2 = w1 := hw.symm; clear hw)
  go_loopw [7, 15] (fun vo vk wr => ∃ (k pos : Nat) (acc : List UInt8) (q : Value), q = vo ∧ vk = .int .i64 k ∧ k ≤ fs.length ∧ pos ≤ fin ∧ acc.length ≤ 256 * k ∧ WSt w2 wr g (.slice a l.length cap) l.length vo acc pos ∧ dtP l fin (fs.drop k) pos acc = R)
    (fun _ vk _ => fs.length - (intOf vk).toNat)
  case atStart => exact ⟨0, p, [], _, rfl, rfl, Nat.zero_le _, hp, Nat.le_refl _, ⟨⟨rfl, .inl ⟨rfl, rfl⟩⟩, h2, by omega, World.grownBy.refl _ _⟩, hR⟩
  case round =>
    obtain ⟨k, pos, acc, vo, rfl, rfl, hk, hpos, hacc, hst, hres⟩ := hrel
    clear hR h2 hform
    by_cases hlt : k < fs.length
    · have hlt' : (k : Int) < (fs.length : Int) := by omega
      obtain ⟨pc, hpc⟩ : ∃ pc, fs[k]? = some pc := ⟨_, List.getElem?_eq_getElem hlt⟩
      have hdr : fs.drop k = pc :: fs.drop (k + 1) := by
        obtain ⟨h1, h2⟩ := List.getElem?_eq_some_iff.1 hpc
        rw [List.drop_eq_getElem_cons h1, h2]
      rw [hdr] at hres
      have hpm : (fs.map pcOf)[k]? = some (pcOf pc) := by simp [hpc]
      have hcp : wr.cell? ⟨w.heap.size, k, none⟩ = some (pcV (pcOf pc)) := hst.grown.cell (hcell k _ hpm) (by simp; omega)
      have hokp := hok _ (List.mem_of_getElem? hpm)
      have hname := fun W => isName_any (pcOf pc) W hokp
      have hmem := List.mem_of_getElem? hpc
      clear hcell hok hdr hpc hpm hokp
      cases pc with
      | none =>
        simp only [pcOf, pcV, Dt.Pc.isN] at hcp hname
        have hnm := name_any g a l cap pos wr hst.rd (hfar2 _ hst.grown) (fun W hW => hfar2 W (gr_step hst.grown hW)) hst.le hnn
        rw [dtP] at hres
        cases hd : dnF l pos pos [] none using Rs.elim with
        | bad c =>
          rw [hd] at hres
          simp only at hres
          subst hres
          have hnm' := hnm.mono (R' := fun e w' => e = .panicked (fault c) ∧ wr.grownBy w' (some g)) (by
            rintro e w2 (⟨_, _, hx, _⟩ | ⟨c2, hx, he, hg2⟩)
            · rw [hd] at hx; cases hx
            · rw [hd] at hx; cases hx; exact ⟨he, hg2⟩)
          have HG : Hid (∀ W, wr.grownBy W (some g) → w.grownBy W (some g)) := by exact fun W hW => HBK.out W (gr_step hst.grown hW)
          clear hnm hst hfar2 hsm hmem
          go_wp2_with (first | (go_at_call 104; refine (hname _).mono ?_; rintro e w5 ⟨rfl, hw⟩; obtain rfl := hw.symm; clear hw) | (go_at_call 84; refine hnm'.mono ?_; rintro e w6 ⟨rfl, hg6⟩))
          refine bp_panic rfl ?_
          exact .inr ⟨_, rfl, rfl, HG.out _ hg6⟩
        | ok s nx =>
          rw [hd] at hres
          simp only at hres
          have hsz := dnF_size l pos pos [] none (by simp) s nx hd
          have hnm' := hnm.mono (R' := fun e w' => e = .returned (.string ⟨s.toArray⟩) ∧ Rd w' g (.slice a l.length cap) nx ∧ nx ≤ l.length ∧ wr.grownBy w' (some g)) (by
            rintro e w2 (⟨_, _, hx, he, hr, hn, hg2⟩ | ⟨c2, hx, he, hg2⟩)
            · rw [hd] at hx; cases hx; exact ⟨he, hr, hn, hg2⟩
            · rw [hd] at hx; cases hx)
          have hbs : (ByteArray.mk s.toArray).size = s.length := mk_sz s
          have HST : Hid (∀ W, wr.grownBy W (some g) → Rd W g (.slice a l.length cap) nx → nx ≤ l.length → WSt w2 W g (.slice a l.length cap) l.length vo acc nx) := by exact fun W hW hr hn => hst.read hW hr hn
          by_cases hfit : nx ≤ fin
          · rw [if_pos hfit] at hres
            have HRES := Nm.hide hres
            have hfit' : (nx : Int) ≤ (fin : Int) := by omega
            clear hnm hst hfar2 hsm hmem hres
            go_wp2_with (first | (go_at_call 104; refine (hname _).mono ?_; rintro e w5 ⟨rfl, hw⟩; obtain rfl := hw.symm; clear hw) | (go_at_call 84; refine hnm'.mono ?_; rintro e w6 ⟨rfl, hr6, hn6, hg6⟩; have hst6 := HST.out w6 hg6 hr6 hn6) | (at_builtin; refine Go.Lib.wpList_append_own_string _ rfl (.tmp 21) (.tmp 23) 22 9 rfl w2.heap.size 5 j0 Tryz.underlying22 Tryz.underlying9 hj k0 k1 k2 _ _ _ rfl hst6.own ⟨s.toArray⟩ rfl (by unfold maxLen; omega) (by omega) hst6.grown.size ?_; intro vb wb hown2 hgrow2 hnl2; clear hnl2; have hown3 : wb.ownsRow w2.heap.size 5 1 vb (acc ++ s).length (Nm.bys (acc ++ s)) := (by rw [Nm.bys_append, List.length_append, ← hbs]; exact hown2); have hst7 := hst6.app hgrow2 hown3; have c1 : wb.cell? ⟨g, 1, none⟩ = some (.int .i64 nx) := (by rw [cell_of_row _ _ _ _ _ _ hst7.rd]; rfl); have HST7 := Nm.hide hst7; clear hst6 hst7 hown2 hown3 hgrow2))
            go_roundw
            case rel => exact ⟨k + 1, nx, acc ++ s, _, rfl, by go_num, by omega, hfit, by simp; omega, HST7.out, HRES.out⟩
            case measure => simp [intOf]; omega
          · rw [if_neg hfit] at hres
            subst hres
            have hfit' : (fin : Int) < (nx : Int) := by omega
            clear hnm hst hfar2 hsm hmem
            go_wp2_with (first | (go_at_call 104; refine (hname _).mono ?_; rintro e w5 ⟨rfl, hw⟩; obtain rfl := hw.symm; clear hw) | (go_at_call 84; refine hnm'.mono ?_; rintro e w6 ⟨rfl, hr6, hn6, hg6⟩; have hst6 := HST.out w6 hg6 hr6 hn6) | (at_builtin; refine Go.Lib.wpList_append_own_string _ rfl (.tmp 21) (.tmp 23) 22 9 rfl w2.heap.size 5 j0 Tryz.underlying22 Tryz.underlying9 hj k0 k1 k2 _ _ _ rfl hst6.own ⟨s.toArray⟩ rfl (by unfold maxLen; omega) (by omega) hst6.grown.size ?_; intro vb wb hown2 hgrow2 hnl2; clear hnl2; have hown3 : wb.ownsRow w2.heap.size 5 1 vb (acc ++ s).length (Nm.bys (acc ++ s)) := (by rw [Nm.bys_append, List.length_append, ← hbs]; exact hown2); have hst7 := hst6.app hgrow2 hown3; have c1 : wb.cell? ⟨g, 1, none⟩ = some (.int .i64 nx) := (by rw [cell_of_row _ _ _ _ _ _ hst7.rd]; rfl); have HST7 := Nm.hide hst7; clear hst6 hst7 hown2 hown3 hgrow2) | (go_at_call 66; refine (fail_any 7 _).mono ?_; rintro e w9 ⟨rfl, hw⟩; obtain rfl := hw.symm; clear hw))
            refine bp_panic rfl ?_
            exact .inr ⟨_, rfl, rfl, HBK.out _ HST7.out.grown⟩
      | some n =>
        simp only [pcOf, pcV, Dt.Pc.isN] at hcp hname
        obtain ⟨hn0, hn20⟩ := hsm n hmem
        rw [dtP] at hres
        have c0 : wr.cell? ⟨g, 0, none⟩ = some (.slice a l.length cap) := by rw [cell_of_row _ _ _ _ _ _ hst.rd]; rfl
        have c1 : wr.cell? ⟨g, 1, none⟩ = some (.int .i64 pos) := by rw [cell_of_row _ _ _ _ _ _ hst.rd]; rfl
        have hn1 := nil_someBytes n
        have hn2 := meth_someBytes n
        have hrow := cut_row (hfar2 _ hst.grown) (show pos + (fin - pos) ≤ l.length by omega)
        have hds := mk_sz ((l.drop pos).take (fin - pos))
        have hdl : ((l.drop pos).take (fin - pos)).length = fin - pos := by simp; omega
        rw [hdl] at hds
        have hcall := fun W => takeBytes_any n ⟨((l.drop pos).take (fin - pos)).toArray⟩ W
        have hpos' : (pos : Int) ≤ (fin : Int) := by omega
        have hfin' : (fin : Int) ≤ (l.length : Int) := by omega
        have hfc : (fin : Int) ≤ (cap : Int) := by omega
        by_cases hfit : pos + n ≤ fin
        · rw [if_pos hfit] at hres
          have HRES := Nm.hide hres
          have hyes : Dt.sz (.bs n) ⟨((l.drop pos).take (fin - pos)).toArray⟩ = some n := sz_bs_yes (by omega)
          have hcall := fun W => (hcall W).mono (fun e w' h => Took.yes h hyes)
          have hcp2 : ¬ cap = pos := by omega
          have hcv : ∀ W, BySl W (.slice a l.length cap) l → (convert 22 9 (.slice (a.map (fun x => x.add pos)) (fin - pos) (cap - pos))).run Tryz.prog W = .ok (.string ⟨((l.drop pos).take (fin - pos)).toArray⟩) W := by
            intro W hW
            have := cut_str (cut_row hW (show pos + (fin - pos) ≤ l.length by omega))
            rw [cutV, if_neg hcp2] at this
            exact this
          have HCV := Nm.hide hcv
          have HBS := Nm.hide (hfar2 _ hst.grown)
          have htk := fun W (hr : Rd W g (.slice a l.length cap) pos) => (take_any g a l.length cap pos n W hr hst.le hcap hnn (by omega)).mono (R' := fun e w' => e = .returned (cutV a cap pos n) ∧ Rd w' g (.slice a l.length cap) (pos + n) ∧ W.grownBy w' (some g)) (by
            rintro e w' (⟨_, h1, h2, h3⟩ | ⟨h1, _⟩)
            · exact ⟨h1, h2, h3⟩
            · omega)
          obtain ⟨b, off, cp, hcvv, hcl⟩ := cut_some (hfar2 _ hst.grown) (show pos + n ≤ l.length by omega) hn0
          have HBY : Hid (∀ W, w2.grownBy W (some g) → ∀ j u, (Nm.bys ((l.drop pos).take n))[j]? = some u → W.cell? ((⟨b, off, none⟩ : Addr).add j) = some u) := by exact fun W hW => hcl W (hfar2 W hW)
          simp only [hcvv] at htk
          have hbl : (Nm.bys ((l.drop pos).take n)).length = n * 1 := by rw [Nm.bys_length]; simp; omega
          have hlb : (acc ++ (l.drop pos).take n).length = acc.length + n := by simp; omega
          generalize (⟨((l.drop pos).take (fin - pos)).toArray⟩ : ByteArray) = ds at *
          have HST := Nm.hide hst
          have hS : ∀ W, Below wr.heap.size wr W → (Below wr.heap.size wr W ∧ W.cell? ⟨g, 0, none⟩ = some (.slice a l.length cap) ∧ W.cell? ⟨g, 1, none⟩ = some (.int .i64 pos) ∧ (convert 22 9 (.slice (a.map (fun x => x.add pos)) (fin - pos) (cap - pos))).run Tryz.prog W = .ok (.string ds) W) := fun W hW => ⟨hW, (by rw [cell_of_row _ _ _ _ _ _ (rd_below HST.out.rd hW)]; rfl), (by rw [cell_of_row _ _ _ _ _ _ (rd_below HST.out.rd hW)]; rfl), HCV.out W ((HBS.out).below hW)⟩
          have hS0 := hS wr.drew (Below.refl _ _).drew
          have hcall2 : ∀ W, (Below wr.heap.size wr W ∧ W.cell? ⟨g, 0, none⟩ = some (.slice a l.length cap) ∧ W.cell? ⟨g, 1, none⟩ = some (.int .i64 pos) ∧ (convert 22 9 (.slice (a.map (fun x => x.add pos)) (fin - pos) (cap - pos))).run Tryz.prog W = .ok (.string ds) W) → Calls Tryz.prog 127 #[.int .i64 (n : Int), .string ds] W fun e W2 => e = .returned (.tuple #[.int .i64 (n : Int), .bool true]) ∧ (Below wr.heap.size wr W2 ∧ W2.cell? ⟨g, 0, none⟩ = some (.slice a l.length cap) ∧ W2.cell? ⟨g, 1, none⟩ = some (.int .i64 pos) ∧ (convert 22 9 (.slice (a.map (fun x => x.add pos)) (fin - pos) (cap - pos))).run Tryz.prog W2 = .ok (.string ds) W2) := fun W hW => (hcall W).mono (by rintro e w' ⟨rfl, hb⟩; exact ⟨rfl, hS w' (Nm.below_two hW.1 hb)⟩)
          clear hcall c0 c1 HCV HBS hS
          clear hyes hrow hcv hst hfar2 hsm hmem hres hdl hcvv hcl
          go_wp2_with (go_at_call 104; refine (hname _).mono ?_; rintro e w5 ⟨rfl, hw⟩; obtain rfl := hw.symm; clear hw)
          go_region_held3 (fun W => Below wr.heap.size wr W ∧ W.cell? ⟨g, 0, none⟩ = some (.slice a l.length cap) ∧ W.cell? ⟨g, 1, none⟩ = some (.int .i64 pos) ∧ (convert 22 9 (.slice (a.map (fun x => x.add pos)) (fin - pos) (cap - pos))).run Tryz.prog W = .ok (.string ds) W) (first | assumption | exact hS0) ((first | (go_at_call 127; refine (hcall2 _ (by first | assumption | exact hS0)).mono ?_; rintro e w5 ⟨rfl, hS1⟩)))
          have hst5 := HST.out.below hS1.1
          clear hS1 hS0 hcall2
          go_wp2_with (first | (go_at_call 93; refine (htk _ hst5.rd).mono ?_; rintro e w6 ⟨rfl, hr6, hg6⟩; have hst6 := hst5.read hg6 hr6 (by omega); have hby6 := HBY.out w6 hst6.grown) | (at_builtin; refine wpList_append_own _ rfl (.tmp 54) (.tmp 57) 22 rfl w2.heap.size 5 j0 (.int .u8 0) 1 1 Tryz.underlying22 hj k0 k1 k2 rfl (by decide) _ _ _ rfl hst6.own ⟨b, off, none⟩ n cp (Nm.bys ((l.drop pos).take n)) rfl hbl hby6 (bys_all _) (by unfold maxLen; omega) (by omega) hst6.grown.size ?_; intro vc wc hown7 hgrow7 hnl7; clear hnl7; rw [← Nm.bys_append] at hown7; have HST7 := Nm.hide (hst6.app (acc1 := acc ++ (l.drop pos).take n) hgrow7 (by rw [hlb]; exact hown7)); clear hgrow7 hown7 hst6 hby6))
          go_roundw
          case rel => exact ⟨k + 1, pos + n, _, _, rfl, by go_num, by omega, hfit, by rw [hlb]; omega, HST7.out, HRES.out⟩
          case measure => simp [intOf]; omega
        · rw [if_neg hfit] at hres
          subst hres
          have hno : Dt.sz (.bs n) ⟨((l.drop pos).take (fin - pos)).toArray⟩ = none := sz_bs_no (by omega)
          have hcall := fun W => (hcall W).mono (fun e w' h => Took.no h hno)
          have HST := Nm.hide hst
          by_cases hcp2 : cap = pos
          · have hcv : ∀ W, BySl W (.slice a l.length cap) l → (convert 22 9 (.slice a (fin - cap) 0)).run Tryz.prog W = .ok (.string ⟨((l.drop cap).take (fin - cap)).toArray⟩) W := by
              intro W hW
              have := cut_str (cut_row hW (show pos + (fin - pos) ≤ l.length by omega))
              rw [cutV, if_pos hcp2, ← hcp2] at this
              exact this
            subst hcp2
            have HCV := Nm.hide hcv
            have HBS := Nm.hide (hfar2 _ hst.grown)
            generalize (⟨((l.drop cap).take (fin - cap)).toArray⟩ : ByteArray) = ds at *
            have hS : ∀ W, Below wr.heap.size wr W → (Below wr.heap.size wr W ∧ W.cell? ⟨g, 0, none⟩ = some (.slice a l.length cap) ∧ W.cell? ⟨g, 1, none⟩ = some (.int .i64 cap) ∧ (convert 22 9 (.slice a (fin - cap) 0)).run Tryz.prog W = .ok (.string ds) W) := fun W hW => ⟨hW, (by rw [cell_of_row _ _ _ _ _ _ (rd_below HST.out.rd hW)]; rfl), (by rw [cell_of_row _ _ _ _ _ _ (rd_below HST.out.rd hW)]; rfl), HCV.out W ((HBS.out).below hW)⟩
            have hS0 := hS wr.drew (Below.refl _ _).drew
            have hcall2 : ∀ W, (Below wr.heap.size wr W ∧ W.cell? ⟨g, 0, none⟩ = some (.slice a l.length cap) ∧ W.cell? ⟨g, 1, none⟩ = some (.int .i64 cap) ∧ (convert 22 9 (.slice a (fin - cap) 0)).run Tryz.prog W = .ok (.string ds) W) → Calls Tryz.prog 127 #[.int .i64 (n : Int), .string ds] W fun e W2 => (∃ m : Nat, e = .returned (.tuple #[.int .i64 (m : Int), .bool false])) ∧ (Below wr.heap.size wr W2 ∧ W2.cell? ⟨g, 0, none⟩ = some (.slice a l.length cap) ∧ W2.cell? ⟨g, 1, none⟩ = some (.int .i64 cap) ∧ (convert 22 9 (.slice a (fin - cap) 0)).run Tryz.prog W2 = .ok (.string ds) W2) := fun W hW => (hcall W).mono (by rintro e w' ⟨m, rfl, hb⟩; exact ⟨⟨m, rfl⟩, hS w' (Nm.below_two hW.1 hb)⟩)
            clear hcall c0 c1 HCV HBS hS
            clear hno hrow hcv hst hfar2 hsm hmem hdl
            go_wp2_with (go_at_call 104; refine (hname _).mono ?_; rintro e w5 ⟨rfl, hw⟩; obtain rfl := hw.symm; clear hw)
            go_region_held3 (fun W => Below wr.heap.size wr W ∧ W.cell? ⟨g, 0, none⟩ = some (.slice a l.length cap) ∧ W.cell? ⟨g, 1, none⟩ = some (.int .i64 cap) ∧ (convert 22 9 (.slice a (fin - cap) 0)).run Tryz.prog W = .ok (.string ds) W) (first | assumption | exact hS0) ((first | (go_at_call 127; refine (hcall2 _ (by first | assumption | exact hS0)).mono ?_; rintro e w5 ⟨⟨m, rfl⟩, hS1⟩)))
            have HST5 := Nm.hide (HST.out.below hS1.1)
            clear hS1 hS0 hcall2
            go_wp2_with (go_at_call 66; refine (fail_any 7 _).mono ?_; rintro e w9 ⟨rfl, hw⟩; obtain rfl := hw.symm; clear hw)
            refine bp_panic rfl ?_
            exact .inr ⟨_, rfl, rfl, HBK.out _ HST5.out.grown⟩
          · have hcv : ∀ W, BySl W (.slice a l.length cap) l → (convert 22 9 (.slice (a.map (fun x => x.add pos)) (fin - pos) (cap - pos))).run Tryz.prog W = .ok (.string ⟨((l.drop pos).take (fin - pos)).toArray⟩) W := by
              intro W hW
              have := cut_str (cut_row hW (show pos + (fin - pos) ≤ l.length by omega))
              rw [cutV, if_neg hcp2] at this
              exact this
            have HCV := Nm.hide hcv
            have HBS := Nm.hide (hfar2 _ hst.grown)
            generalize (⟨((l.drop pos).take (fin - pos)).toArray⟩ : ByteArray) = ds at *
            have hS : ∀ W, Below wr.heap.size wr W → (Below wr.heap.size wr W ∧ W.cell? ⟨g, 0, none⟩ = some (.slice a l.length cap) ∧ W.cell? ⟨g, 1, none⟩ = some (.int .i64 pos) ∧ (convert 22 9 (.slice (a.map (fun x => x.add pos)) (fin - pos) (cap - pos))).run Tryz.prog W = .ok (.string ds) W) := fun W hW => ⟨hW, (by rw [cell_of_row _ _ _ _ _ _ (rd_below HST.out.rd hW)]; rfl), (by rw [cell_of_row _ _ _ _ _ _ (rd_below HST.out.rd hW)]; rfl), HCV.out W ((HBS.out).below hW)⟩
            have hS0 := hS wr.drew (Below.refl _ _).drew
            have hcall2 : ∀ W, (Below wr.heap.size wr W ∧ W.cell? ⟨g, 0, none⟩ = some (.slice a l.length cap) ∧ W.cell? ⟨g, 1, none⟩ = some (.int .i64 pos) ∧ (convert 22 9 (.slice (a.map (fun x => x.add pos)) (fin - pos) (cap - pos))).run Tryz.prog W = .ok (.string ds) W) → Calls Tryz.prog 127 #[.int .i64 (n : Int), .string ds] W fun e W2 => (∃ m : Nat, e = .returned (.tuple #[.int .i64 (m : Int), .bool false])) ∧ (Below wr.heap.size wr W2 ∧ W2.cell? ⟨g, 0, none⟩ = some (.slice a l.length cap) ∧ W2.cell? ⟨g, 1, none⟩ = some (.int .i64 pos) ∧ (convert 22 9 (.slice (a.map (fun x => x.add pos)) (fin - pos) (cap - pos))).run Tryz.prog W2 = .ok (.string ds) W2) := fun W hW => (hcall W).mono (by rintro e w' ⟨m, rfl, hb⟩; exact ⟨⟨m, rfl⟩, hS w' (Nm.below_two hW.1 hb)⟩)
            clear hcall c0 c1 HCV HBS hS
            clear hno hrow hcv hst hfar2 hsm hmem hdl
            go_wp2_with (go_at_call 104; refine (hname _).mono ?_; rintro e w5 ⟨rfl, hw⟩; obtain rfl := hw.symm; clear hw)
            go_region_held3 (fun W => Below wr.heap.size wr W ∧ W.cell? ⟨g, 0, none⟩ = some (.slice a l.length cap) ∧ W.cell? ⟨g, 1, none⟩ = some (.int .i64 pos) ∧ (convert 22 9 (.slice (a.map (fun x => x.add pos)) (fin - pos) (cap - pos))).run Tryz.prog W = .ok (.string ds) W) (first | assumption | exact hS0) ((first | (go_at_call 127; refine (hcall2 _ (by first | assumption | exact hS0)).mono ?_; rintro e w5 ⟨⟨m, rfl⟩, hS1⟩)))
            have HST5 := Nm.hide (HST.out.below hS1.1)
            clear hS1 hS0 hcall2
            go_wp2_with (go_at_call 66; refine (fail_any 7 _).mono ?_; rintro e w9 ⟨rfl, hw⟩; obtain rfl := hw.symm; clear hw)
            refine bp_panic rfl ?_
            exact .inr ⟨_, rfl, rfl, HBK.out _ HST5.out.grown⟩
    · have hge : (fs.length : Int) ≤ (k : Int) := by omega
      have hnil : fs.drop k = [] := List.drop_eq_nil_of_le (by omega)
      rw [hnil, dtP] at hres
      have c1 : wr.cell? ⟨g, 1, none⟩ = some (.int .i64 pos) := by rw [cell_of_row _ _ _ _ _ _ hst.rd]; rfl
      have HST := Nm.hide hst
      have hcv := cut_str (CRow.of_owns hst.own)
      clear hcell hok hnil hst hsm
      by_cases he : pos = fin
      · subst he
        rw [if_pos rfl] at hres
        subst hres
        go_wp2
        go_ret
        exact .inl ⟨_, rfl, rfl, HST.out.rd, HBK.out _ HST.out.grown⟩
      · rw [if_neg he] at hres
        subst hres
        have hlt2 : (pos : Int) < (fin : Int) := by omega
        go_wp2_with (go_at_call 66; refine (fail_any 7 _).mono ?_; rintro e w9 ⟨rfl, hw⟩; obtain rfl := hw.symm; clear hw)
        refine bp_panic rfl ?_
        exact .inr ⟨_, rfl, rfl, HBK.out _ HST.out.grown⟩
end Go.Proofs.YtfficbpalibmoaaGreatDoor
/- impl.mayPoint by its contract. -/
namespace Go.Proofs.YtfficbpalibmoaaGreatDoor
open Go.RowKit
set_option linter.unusedVariables false

set_option maxRecDepth 100000 in
set_option maxHeartbeats 800000 in
theorem mayPoint_any (t : Nat) (w : World) :
    Calls Tryz.prog 94 #[.int .i64 t] w fun e w' => e = .returned (.bool (decide (pointed t))) ∧ w' = w := by
  by_cases h : pointed t
  · have HD : Hid (decide (pointed t) = true) := by exact decide_eq_true h
    rcases h with rfl | rfl | rfl | rfl | rfl
    all_goals
      go_enter Tryz.func94, Tryz.ntmps94
      go_wp2
      go_ret
      exact ⟨rfl, rfl⟩
  · have HD : Hid (decide (pointed t) = false) := by exact decide_eq_false h
    unfold pointed at h
    have b2 : ((t : Int) == 2) = false := by rw [beq_eq_false_iff_ne]; omega
    have b5 : ((t : Int) == 5) = false := by rw [beq_eq_false_iff_ne]; omega
    have b6 : ((t : Int) == 6) = false := by rw [beq_eq_false_iff_ne]; omega
    have b12 : ((t : Int) == 12) = false := by rw [beq_eq_false_iff_ne]; omega
    have b15 : ((t : Int) == 15) = false := by rw [beq_eq_false_iff_ne]; omega
    clear h
    go_enter Tryz.func94, Tryz.ntmps94
    go_wp2
    go_ret
    rw [HD.out]
    exact ⟨rfl, rfl⟩
end Go.Proofs.YtfficbpalibmoaaGreatDoor
/- (*reader).data by its contract. -/
namespace Go.Proofs.YtfficbpalibmoaaGreatDoor
open Go.RowKit
set_option linter.unusedVariables false

/-- A record's data with the number of its bytes ahead of it. -/
def dtaS (l : List UInt8) (t p : Nat) : Rs (List UInt8) :=
  if p + 2 ≤ l.length then if p + 2 + n16 l p ≤ l.length then dataS l t (p + 2) (p + 2 + n16 l p) else .bad 8 else .bad 8

theorem str_cut (l : List UInt8) (p n : Nat) (h : p + n ≤ l.length) : (ByteArray.mk (cutL l p n).toArray).size = n := by
  rw [mk_sz, cutL_length h]

set_option maxRecDepth 100000 in
set_option maxHeartbeats 600000 in
theorem data_any (g : Nat) (a : Option Addr) (l : List UInt8) (cap p t : Nat) (w : World) (h : Rd w g (.slice a l.length cap) p) (hfar : ∀ w', w.grownBy w' (some g) → BySl w' (.slice a l.length cap) l) (hp : p ≤ l.length) (hnn : l.length ≤ 1048576) :
    Calls Tryz.prog 85 #[.pointer (some ⟨g, 0, none⟩), .int .i64 t] w fun e w' =>
      (∃ d q, dtaS l t p = .ok d q ∧ e = .returned (.string ⟨d.toArray⟩) ∧ Rd w' g (.slice a l.length cap) q ∧ q ≤ l.length ∧ w.grownBy w' (some g)) ∨
      (∃ c, dtaS l t p = .bad c ∧ e = .panicked (fault c) ∧ w.grownBy w' (some g)) := by
  have hcap : l.length ≤ cap := by
    obtain ⟨_, a', cap', e, h1, _⟩ := hfar w (World.grownBy.refl _ _)
    simp only [Value.slice.injEq] at e
    obtain ⟨rfl, _, rfl⟩ := e
    exact h1
  have hnum := number_any g a l cap p 2 w h (hfar w (World.grownBy.refl _ _)) (fun W hW => hfar W hW) hp hnn (by decide)
  by_cases h2 : p + 2 ≤ l.length
  · have h2' : ¬ l.length < p + 2 := by omega
    simp only [h2, h2', true_and, false_and, or_false] at hnum
    have hn := n16_lt l p
    have htk := fun W (hr : Rd W g (.slice a l.length cap) (p + 2)) => take_any g a l.length cap (p + 2) (n16 l p) W hr h2 hcap hnn (by omega)
    have hnum := hnum.mono (R' := fun e w' => e = .returned (.int .i64 ((n16 l p : Nat) : Int)) ∧ Rd w' g (.slice a l.length cap) (p + 2) ∧ w.grownBy w' (some g)) (fun e w' h => h)
    by_cases h3 : p + 2 + n16 l p ≤ l.length
    · have h3' : ¬ l.length < p + 2 + n16 l p := by omega
      simp only [h3, h3', true_and, false_and, or_false] at htk
      have hcv : ∀ W, w.grownBy W (some g) → (convert 22 9 (cutV a cap (p + 2) (n16 l p))).run Tryz.prog W = .ok (.string ⟨(cutL l (p + 2) (n16 l p)).toArray⟩) W := fun W hW => cut_str (cut_row (hfar W hW) h3)
      have hcs := str_cut l (p + 2) (n16 l p) h3
      have hD : dtaS l t p = dataS l t (p + 2) (p + 2 + n16 l p) := by rw [dtaS, if_pos h2, if_pos h3]
      rw [hD]
      clear hD
      have hmp := fun W => mayPoint_any t W
      generalize hqv : cutV a cap (p + 2) (n16 l p) = qv at *
      by_cases h0 : n16 l p = 0
      · have HD : Hid (dataS l t (p + 2) (p + 2 + n16 l p) = .ok [] (p + 2 + n16 l p)) := by
          rw [Hid, dataS, if_pos (by omega)]
        have e2 := Nm.tl_empty (hcs.trans h0)
        generalize (⟨(cutL l (p + 2) (n16 l p)).toArray⟩ : ByteArray) = ds at *
        generalize n16 l p = n at *
        subst h0
        have hc0 : ((0 : Nat) : Int) = 0 := rfl
        simp only [hc0] at hnum htk
        clear hc0 hcs
        go_enter Tryz.func85, Tryz.ntmps85
        go_wp2_with (first | (go_at_call 83; refine hnum.mono ?_; rintro e w1 ⟨rfl, hr1, hg1⟩) | (go_at_call 93; refine (htk _ hr1).mono ?_; rintro e w3 ⟨rfl, hr3, hg3⟩; have hcv3 := hcv w3 (gr_step hg1 hg3)))
        go_ret
        rw [HD.out]
        exact .inl ⟨_, _, rfl, rfl, hr3, h3, gr_step hg1 hg3⟩
      · have e2 := Nm.tl_not_empty (show 0 < (ByteArray.mk (cutL l (p + 2) (n16 l p)).toArray).size by omega)
        by_cases hpt : pointed t
        · have hpd : decide (pointed t) = true := decide_eq_true hpt
          simp only [hpd] at hmp
          have HD : Hid (dataS l t (p + 2) (p + 2 + n16 l p) = dtP l (p + 2 + n16 l p) (piecesOf t) (p + 2) []) := by
            rw [Hid, dataS, if_neg (by omega), if_pos hpt]
          have hwn := fun W (hr : Rd W g (.slice a l.length cap) (p + 2)) (hW : w.grownBy W (some g)) => wholeNames_any g a l cap (p + 2) t (p + 2 + n16 l p) W hr (fun W2 hW2 => hfar W2 (gr_step hW hW2)) (by omega) h3 hnn hpt
          generalize (⟨(cutL l (p + 2) (n16 l p)).toArray⟩ : ByteArray) = ds at *
          generalize n16 l p = n at *
          rw [HD.out]
          clear hpd HD
          go_enter Tryz.func85, Tryz.ntmps85
          go_wp2_with (first | (go_at_call 83; refine hnum.mono ?_; rintro e w1 ⟨rfl, hr1, hg1⟩) | (go_at_call 93; refine (htk _ hr1).mono ?_; rintro e w3 ⟨rfl, hr3, hg3⟩; have hcv3 := hcv w3 (gr_step hg1 hg3); have hg13 := gr_step hg1 hg3; have c1 : w3.cell? ⟨g, 1, none⟩ = some (.int .i64 ((p + 2 + n : Nat) : Int)) := (by rw [cell_of_row _ _ _ _ _ _ hr3]; rfl); have f1 := frozen_of_row w3 g 1 _ _ hr3) | (go_at_call 94; refine (hmp _).mono ?_; rintro e w4 ⟨rfl, hw⟩; obtain rfl := hw.symm; clear hw))
          have hS : Rd (w3.setCell ⟨g, 1, none⟩ (.int .i64 ((p : Int) + 2))) g (.slice a l.length cap) (p + 2) ∧ w3.grownBy (w3.setCell ⟨g, 1, none⟩ (.int .i64 ((p : Int) + 2))) (some g) := rd_set (q := p + 2) hr3
          have hwn' : Calls Tryz.prog 95 #[.pointer (some ⟨g, 0, none⟩), .int .i64 t, .int .i64 ((p : Int) + 2 + (n : Int))] _ _ := hwn _ hS.1 (gr_step hg13 hS.2)
          refine hwn'.mono ?_
          rintro e w5 (⟨d, hd, rfl, hr5, hg5⟩ | ⟨c, hd, rfl, hg5⟩)
          · go_wp2
            go_ret
            exact .inl ⟨d, _, hd, rfl, hr5, h3, gr_step (gr_step hg13 hS.2) hg5⟩
          · refine bp_panic rfl ?_
            exact .inr ⟨c, hd, rfl, gr_step (gr_step hg13 hS.2) hg5⟩
        · have hpd : decide (pointed t) = false := decide_eq_false hpt
          simp only [hpd] at hmp
          have hfs : p + 2 + n16 l p - (p + 2) = n16 l p := by omega
          have HD : Hid (dataS l t (p + 2) (p + 2 + n16 l p) = if cutCode t ⟨(cutL l (p + 2) (n16 l p)).toArray⟩ = 0 then .ok (cutL l (p + 2) (n16 l p)) (p + 2 + n16 l p) else .bad 7) := by
            rw [Hid, dataS, if_neg (by omega), if_neg hpt, hfs]
          have hck := fun W => implCheckData_any t ⟨(cutL l (p + 2) (n16 l p)).toArray⟩ W (by omega)
          generalize cutCode t ⟨(cutL l (p + 2) (n16 l p)).toArray⟩ = cc at *
          have hds : ∀ ds : ByteArray, ds = ⟨(cutL l (p + 2) (n16 l p)).toArray⟩ → Value.string ds = .string ⟨(cutL l (p + 2) (n16 l p)).toArray⟩ := fun ds e => by rw [e]
          generalize hdse : (⟨(cutL l (p + 2) (n16 l p)).toArray⟩ : ByteArray) = ds at *
          generalize hcl : cutL l (p + 2) (n16 l p) = cl at *
          generalize n16 l p = n at *
          rw [HD.out]
          clear hpd HD hds hcs hfs
          by_cases hcc : cc = 0
          · subst hcc
            rw [if_pos rfl]
            go_enter Tryz.func85, Tryz.ntmps85
            go_wp2_with (first | (go_at_call 83; refine hnum.mono ?_; rintro e w1 ⟨rfl, hr1, hg1⟩) | (go_at_call 93; refine (htk _ hr1).mono ?_; rintro e w3 ⟨rfl, hr3, hg3⟩; have hcv3 := hcv w3 (gr_step hg1 hg3); have hg13 := gr_step hg1 hg3) | (go_at_call 94; refine (hmp _).mono ?_; rintro e w4 ⟨rfl, hw⟩; obtain rfl := hw.symm; clear hw) | (go_at_call 96; refine (hck _).mono ?_; rintro e w5 ⟨rfl, hb5⟩))
            go_ret
            exact .inl ⟨cl, _, rfl, by subst hdse; rfl, rd_below hr3 hb5, h3, gr_below hg13 hb5⟩
          · rw [if_neg hcc]
            have hne : (cc != 0) = true := by rw [bne_iff_ne]; exact hcc
            go_enter Tryz.func85, Tryz.ntmps85
            go_wp2_with (first | (go_at_call 83; refine hnum.mono ?_; rintro e w1 ⟨rfl, hr1, hg1⟩) | (go_at_call 93; refine (htk _ hr1).mono ?_; rintro e w3 ⟨rfl, hr3, hg3⟩; have hcv3 := hcv w3 (gr_step hg1 hg3); have hg13 := gr_step hg1 hg3) | (go_at_call 94; refine (hmp _).mono ?_; rintro e w4 ⟨rfl, hw⟩; obtain rfl := hw.symm; clear hw) | (go_at_call 96; refine (hck _).mono ?_; rintro e w5 ⟨rfl, hb5⟩) | (go_at_call 66; refine (fail_any 7 _).mono ?_; rintro e w9 ⟨rfl, hw⟩; obtain rfl := hw.symm; clear hw))
            refine bp_panic rfl ?_
            exact .inr ⟨_, rfl, rfl, gr_below hg13 hb5⟩
    · have h3' : l.length < p + 2 + n16 l p := by omega
      simp only [h3, h3', true_and, false_and, false_or] at htk
      have hD : dtaS l t p = .bad 8 := by rw [dtaS, if_pos h2, if_neg h3]
      rw [hD]
      generalize n16 l p = n at *
      clear hD
      go_enter Tryz.func85, Tryz.ntmps85
      go_wp2_with (first | (go_at_call 83; refine hnum.mono ?_; rintro e w1 ⟨rfl, hr1, hg1⟩) | (go_at_call 93; refine (htk _ hr1).mono ?_; rintro e w3 ⟨rfl, hg3⟩))
      refine bp_panic rfl ?_
      exact .inr ⟨_, rfl, rfl, gr_step hg1 hg3⟩
  · have h2' : l.length < p + 2 := by omega
    simp only [h2, h2', true_and, false_and, false_or] at hnum
    have hD : dtaS l t p = .bad 8 := by rw [dtaS, if_neg h2]
    rw [hD]
    clear hD
    go_enter Tryz.func85, Tryz.ntmps85
    go_wp2_with (go_at_call 83; refine hnum.mono ?_; rintro e w1 ⟨rfl, hg1⟩)
    refine bp_panic rfl ?_
    exact .inr ⟨_, rfl, rfl, hg1⟩
end Go.Proofs.YtfficbpalibmoaaGreatDoor
/- (*reader).questions and (*reader).records by their contracts. -/
namespace Go.Proofs.YtfficbpalibmoaaGreatDoor
open Go.RowKit
set_option linter.unusedVariables false

def bstr (s : List UInt8) : Value := .string ⟨s.toArray⟩

/-- A question's cells, a record's cells. -/
def quC (x : Qm) : List Value := [.string ⟨x.name.toArray⟩, .int .i64 (x.ty : Int), .int .i64 (x.cl : Int)]
def rrC (x : Rm) : List Value := [.string ⟨x.owner.toArray⟩, .int .i64 (x.ty : Int), .int .i64 (x.cl : Int), .int .i64 (x.ttl : Int), .string ⟨x.dat.toArray⟩]
def quCs (xs : List Qm) : List Value := xs.flatMap quC
def rrCs (xs : List Rm) : List Value := xs.flatMap rrC

theorem quCs_snoc (xs : List Qm) (x : Qm) : quCs (xs ++ [x]) = quCs xs ++ quC x := by simp [quCs]
theorem rrCs_snoc (xs : List Rm) (x : Rm) : rrCs (xs ++ [x]) = rrCs xs ++ rrC x := by simp [rrCs]

theorem cell_newL (w : World) (vs : List Value) (e : Nat) : ∀ (j : Nat) (u : Value), vs[j]? = some u → (w.alloc (.cells vs.toArray e)).cell? ((⟨w.heap.size, 0, none⟩ : Addr).add j) = some u := by
  intro j u hj
  rw [Nm.addr_add, Nat.zero_add, World.cell?_alloc_new]
  simpa using hj

theorem Tryz.infoQu : (Tryz.prog.info? 80).map (fun i => (i.zero, i.size, i.bytes)) = some (some (.agg #[.string ByteArray.empty, .int .i64 0, .int .i64 0]), 3, 32) := by kernel_rfl
theorem Tryz.infoRR : (Tryz.prog.info? 54).map (fun i => (i.zero, i.size, i.bytes)) = some (some (.agg #[.string ByteArray.empty, .int .i64 0, .int .i64 0, .int .i64 0, .string ByteArray.empty]), 5, 56) := by kernel_rfl

/-- A row of the call's own (of any width) is not a reader's block. -/
theorem rowS_rd {w : World} {B e m g p s : Nat} {v V : Value} {xs : List Value} (h : w.ownsRow B e s v m xs) (hs : Rd w g V p) (hne : e ≠ 92) : v.ownBlock = none ∨ v.ownBlock ≠ some g := by
  rcases h.2 with ⟨rfl, _⟩ | ⟨g', cap', cur, rfl, _, hh, _⟩
  · exact .inl rfl
  · right
    simp only [Value.ownBlock, ne_eq, Option.some.injEq]
    intro e2
    subst e2
    unfold Rd at hs
    rw [hh] at hs
    simp at hs
    exact hne hs.2

theorem rowS_rd' {w : World} {B e m g p s : Nat} {v V : Value} {xs : List Value} (h : w.ownsRow B e s v m xs) (hs : Rd w g V p) (hne : e ≠ 92) : v.ownBlock ≠ some g := by
  rcases rowS_rd h hs hne with h | h
  · rw [h]; simp
  · exact h

/-- How far entries have been read. -/
structure ESt (w wr : World) (g : Nat) (V : Value) (n e s : Nat) (vo : Value) (m : Nat) (cs : List Value) (pos : Nat) : Prop where
  own : wr.ownsRow w.heap.size e s vo m cs
  rd : Rd wr g V pos
  le : pos ≤ n
  grown : w.grownBy wr (some g)
  ne : e ≠ 92

section
variable {w wr w1 : World} {g n pos pos1 e s m m1 : Nat} {V vo vo1 : Value} {cs cs1 : List Value}

theorem ESt.read (h : ESt w wr g V n e s vo m cs pos) (hg : wr.grownBy w1 (some g)) (hr : Rd w1 g V pos1) (hle : pos1 ≤ n) : ESt w w1 g V n e s vo m cs pos1 :=
  ⟨h.own.kept hg (rowS_rd h.own h.rd h.ne), hr, hle, gr_step h.grown hg, h.ne⟩

theorem ESt.app (h : ESt w wr g V n e s vo m cs pos) (hg : wr.grownBy w1 vo.ownBlock) (ho : w1.ownsRow w.heap.size e s vo1 m1 cs1) : ESt w w1 g V n e s vo1 m1 cs1 pos :=
  ⟨ho, rd_grown h.rd hg (rowS_rd' h.own h.rd h.ne), h.le, gr_own h.grown hg (fun k hk => (h.own.lt k hk).1), h.ne⟩

theorem ESt.below (h : ESt w wr g V n e s vo m cs pos) (hb : Below wr.heap.size wr w1) : ESt w w1 g V n e s vo m cs pos :=
  ⟨own_below h.own hb, rd_below h.rd hb, h.le, gr_below h.grown hb, h.ne⟩

theorem ESt.alloc (h : ESt w wr g V n e s vo m cs pos) (o : Obj) : ESt w (wr.alloc o) g V n e s vo m cs pos := h.below ((Below.refl _ _).alloc (Nat.le_refl _) o)
end

theorem quS_bad {l : List UInt8} {p : Nat} {c : Int} (h : dnF l p p [] none = .bad c) : quS l p = .bad c := by rw [quS, h]
theorem quS_ok {l : List UInt8} {p nx : Nat} {s : List UInt8} (h : dnF l p p [] none = .ok s nx) (h4 : nx + 4 ≤ l.length) : quS l p = .ok ⟨s, n16 l nx, n16 l (nx + 2)⟩ (nx + 4) := by rw [quS, h]; simp only; rw [if_pos h4]
theorem quS_short {l : List UInt8} {p nx : Nat} {s : List UInt8} (h : dnF l p p [] none = .ok s nx) (h4 : l.length < nx + 4) : quS l p = .bad 8 := by rw [quS, h]; simp only; rw [if_neg (by omega)]

set_option maxRecDepth 100000 in
set_option maxHeartbeats 3200000 in
theorem questions_any (g : Nat) (a : Option Addr) (l : List UInt8) (cap p count : Nat) (w : World) (h : Rd w g (.slice a l.length cap) p) (hfar : ∀ w', w.grownBy w' (some g) → BySl w' (.slice a l.length cap) l) (hp : p ≤ l.length) (hnn : l.length ≤ 1048576) (hcnt : count ≤ 65535) :
    Calls Tryz.prog 68 #[.pointer (some ⟨g, 0, none⟩), .int .i64 count] w fun e w' =>
      (∃ xs q v, manyS (quS l) count p [] = .ok xs q ∧ e = .returned v ∧ ESt w w' g (.slice a l.length cap) l.length 80 3 v xs.length (quCs xs) q) ∨
      (∃ c, manyS (quS l) count p [] = .bad c ∧ e = .panicked (fault c) ∧ w.grownBy w' (some g)) := by
  obtain ⟨i0, hi, hz0, hz1, hz2⟩ := info_parts Tryz.infoQu
  generalize hR : manyS (quS l) count p [] = R
  go_enter Tryz.func68, Tryz.ntmps68
  go_wp2
  go_loopw [5, 7] (fun vo vk wr => ∃ (k pos : Nat) (xs : List Qm) (q : Value), q = vo ∧ vk = .int .i64 k ∧ k ≤ count ∧ xs.length = k ∧ ESt w wr g (.slice a l.length cap) l.length 80 3 vo k (quCs xs) pos ∧ manyS (quS l) (count - k) pos xs = R)
    (fun _ vk _ => count - (intOf vk).toNat)
  case atStart => exact ⟨0, p, [], _, rfl, rfl, Nat.zero_le _, rfl, ⟨⟨rfl, .inl ⟨rfl, rfl⟩⟩, h, hp, World.grownBy.refl _ _, by decide⟩, hR⟩
  case round =>
    obtain ⟨k, pos, xs, vo, rfl, rfl, hk, hxl, hst, hres⟩ := hrel
    clear hR h
    by_cases hlt : k < count
    · have hlt' : (k : Int) < (count : Int) := by omega
      have hck : count - k = (count - (k + 1)) + 1 := by omega
      rw [hck, manyS] at hres
      have hnm := name_any g a l cap pos wr hst.rd (hfar _ hst.grown) (fun W hW => hfar W (gr_step hst.grown hW)) hst.le hnn
      have hnum := fun (q : Nat) W (hs : ESt w W g (.slice a l.length cap) l.length 80 3 vo k (quCs xs) q) => number_any g a l cap q 2 W hs.rd (hfar _ hs.grown) (fun W2 hW2 => hfar W2 (gr_step hs.grown hW2)) hs.le hnn (by decide)
      have HRD : Hid (∀ W W2 q q2, ESt w W g (.slice a l.length cap) l.length 80 3 vo k (quCs xs) q → W.grownBy W2 (some g) → Rd W2 g (.slice a l.length cap) q2 → q2 ≤ l.length → ESt w W2 g (.slice a l.length cap) l.length 80 3 vo k (quCs xs) q2) := by exact fun W W2 q q2 hs hW hr hle => hs.read hW hr hle
      cases hd : dnF l pos pos [] none using Rs.elim with
      | bad c =>
        rw [quS_bad hd] at hres
        simp only at hres
        subst hres
        have hnm' := hnm.mono (R' := fun e w' => e = .panicked (fault c) ∧ wr.grownBy w' (some g)) (by
          rintro e w2 (⟨_, _, hx, _⟩ | ⟨c2, hx, he, hg2⟩)
          · rw [hd] at hx; cases hx
          · rw [hd] at hx; cases hx; exact ⟨he, hg2⟩)
        have HG : Hid (∀ W, wr.grownBy W (some g) → w.grownBy W (some g)) := by exact fun W hW => gr_step hst.grown hW
        clear hnm hst hfar hnum HRD
        go_wp2_with (go_at_call 84; refine hnm'.mono ?_; rintro e w6 ⟨rfl, hg6⟩)
        refine bp_panic rfl ?_
        exact .inr ⟨_, rfl, rfl, HG.out _ hg6⟩
      | ok s nx =>
        have hnm' := hnm.mono (R' := fun e w' => e = .returned (.string ⟨s.toArray⟩) ∧ Rd w' g (.slice a l.length cap) nx ∧ nx ≤ l.length ∧ wr.grownBy w' (some g)) (by
          rintro e w2 (⟨_, _, hx, he, hr, hn, hg2⟩ | ⟨c2, hx, he, hg2⟩)
          · rw [hd] at hx; cases hx; exact ⟨he, hr, hn, hg2⟩
          · rw [hd] at hx; cases hx)
        by_cases h4 : nx + 4 ≤ l.length
        · rw [quS_ok hd h4] at hres
          simp only at hres
          have hn1 := fun W hs => (hnum nx W hs).mono (R' := fun e w' => e = .returned (.int .i64 (n16 l nx)) ∧ Rd w' g (.slice a l.length cap) (nx + 2) ∧ W.grownBy w' (some g)) (by
            rintro e w' (⟨_, h1, h2, h3⟩ | ⟨h1, _⟩)
            · exact ⟨h1, h2, h3⟩
            · omega)
          have hn2 := fun W hs => (hnum (nx + 2) W hs).mono (R' := fun e w' => e = .returned (.int .i64 (n16 l (nx + 2))) ∧ Rd w' g (.slice a l.length cap) (nx + 4) ∧ W.grownBy w' (some g)) (by
            rintro e w' (⟨_, h1, h2, h3⟩ | ⟨h1, _⟩)
            · exact ⟨h1, h2, h3⟩
            · omega)
          have HRES := Nm.hide hres
          have HST := Nm.hide hst
          clear hnm hst hfar hnum hres
          generalize n16 l nx = ty at *
          generalize n16 l (nx + 2) = cl at *
          go_wp2_with (first | (go_at_call 84; refine hnm'.mono ?_; rintro e w6 ⟨rfl, hr6, hn6, hg6⟩; have hst6 := HRD.out _ _ _ _ HST.out hg6 hr6 hn6) | (go_at_call 83; refine (hn1 _ hst6).mono ?_; rintro e w7 ⟨rfl, hr7, hg7⟩; have hst7 := HRD.out _ _ _ _ hst6 hg7 hr7 (by omega); clear hn1) | (go_at_call 83; refine (hn2 _ hst7).mono ?_; rintro e w8 ⟨rfl, hr8, hg8⟩; have hst8 := HRD.out _ _ _ _ hst7 hg8 hr8 (by omega); clear hn2) | (at_builtin; refine wpList_append_own _ rfl (.tmp 9) (.tmp 17) 43 rfl w.heap.size 80 i0 (.agg #[.string ByteArray.empty, .int .i64 0, .int .i64 0]) 3 32 Tryz.underlying43 hi hz0 hz1 hz2 rfl (by decide) _ _ _ rfl (hst8.alloc _).own ⟨w8.heap.size, 0, none⟩ 1 1 (quC ⟨s, ty, cl⟩) rfl rfl (cell_newL _ _ _) (by intro u hu; simp [quC] at hu; rcases hu with rfl | rfl | rfl <;> rfl) (by unfold maxLen; omega) (by omega) (by have := hst8.grown.size; simp; omega) ?_; intro va wa hown9 hgrow9 hnl9; clear hnl9; rw [← quCs_snoc] at hown9; have HST9 := Nm.hide ((hst8.alloc _).app hgrow9 hown9); clear hgrow9 hown9 hst6 hst7 hst8))
          go_roundw
          case rel => exact ⟨k + 1, nx + 4, xs ++ [⟨s, ty, cl⟩], _, rfl, by go_num, by omega, by simp; omega, HST9.out, HRES.out⟩
          case measure => simp [intOf]; omega
        · rw [quS_short hd (by omega)] at hres
          simp only at hres
          subst hres
          have HST := Nm.hide hst
          clear hnm hst hfar
          go_wp2_with (go_at_call 84; refine hnm'.mono ?_; rintro e w6 ⟨rfl, hr6, hn6, hg6⟩; have hst6 := HRD.out _ _ _ _ HST.out hg6 hr6 hn6)
          refine (hnum nx _ hst6).mono ?_
          rintro e w7 (⟨hl7, rfl, hr7, hg7⟩ | ⟨_, rfl, hg7⟩)
          rotate_left 1
          · go_wp2
            refine bp_panic rfl ?_
            exact .inr ⟨_, rfl, rfl, gr_step hst6.grown hg7⟩
          have hst7 := HRD.out _ _ _ _ hst6 hg7 hr7 (by omega)
          go_wp2_with fail
          refine (hnum (nx + 2) _ hst7).mono ?_
          rintro e w8 (⟨hl8, _⟩ | ⟨_, rfl, hg8⟩)
          · omega
          go_wp2
          refine bp_panic rfl ?_
          exact .inr ⟨_, rfl, rfl, gr_step hst7.grown hg8⟩
    · have hge : (count : Int) ≤ (k : Int) := by omega
      have hck : count - k = 0 := by omega
      rw [hck, manyS] at hres
      subst hres
      have hkk := hxl
      go_wp2
      go_ret
      exact .inl ⟨_, _, _, rfl, rfl, by rw [hxl]; exact hst⟩
end Go.Proofs.YtfficbpalibmoaaGreatDoor
/- Where the cells of a list of questions or records stand. -/
namespace Go.Proofs.YtfficbpalibmoaaGreatDoor
open Go.RowKit
set_option linter.unusedVariables false

theorem str_ne (s : ByteArray) : (s.toList != s.toList) = false ∧ (s.toList == s.toList) = true := by simp

theorem quCs_at : ∀ (xs : List Qm) (k j : Nat) (x : Qm), xs[k]? = some x → j < 3 → (quCs xs)[k * 3 + j]? = (quC x)[j]? := by
  intro xs
  induction xs with
  | nil => intro k j x h; simp at h
  | cons y xs ih =>
    intro k j x h hj
    have e : quCs (y :: xs) = quC y ++ quCs xs := by simp [quCs]
    have hl : (quC y).length = 3 := rfl
    cases k with
    | zero =>
      simp at h; subst h
      rw [e, Nat.zero_mul, Nat.zero_add, List.getElem?_append_left (by omega)]
    | succ k =>
      simp at h
      rw [e, List.getElem?_append_right (by omega), hl, show (k + 1) * 3 + j - 3 = k * 3 + j by omega]
      exact ih k j x h hj

theorem rrCs_at : ∀ (xs : List Rm) (k j : Nat) (x : Rm), xs[k]? = some x → j < 5 → (rrCs xs)[k * 5 + j]? = (rrC x)[j]? := by
  intro xs
  induction xs with
  | nil => intro k j x h; simp at h
  | cons y xs ih =>
    intro k j x h hj
    have e : rrCs (y :: xs) = rrC y ++ rrCs xs := by simp [rrCs]
    have hl : (rrC y).length = 5 := rfl
    cases k with
    | zero =>
      simp at h; subst h
      rw [e, Nat.zero_mul, Nat.zero_add, List.getElem?_append_left (by omega)]
    | succ k =>
      simp at h
      rw [e, List.getElem?_append_right (by omega), hl, show (k + 1) * 5 + j - 5 = k * 5 + j by omega]
      exact ih k j x h hj
end Go.Proofs.YtfficbpalibmoaaGreatDoor
/- A message's fields and lists. -/
namespace Go.Proofs.YtfficbpalibmoaaGreatDoor
open Go.RowKit
set_option linter.unusedVariables false

/-- A message of nothing; a message's fields. -/
def ms0 : Array Value := #[.int .i64 0, .bool false, .int .i64 0, .bool false, .bool false, .bool false, .bool false, .bool false, .bool false, .bool false, .int .i64 0, .slice none 0 0, .slice none 0 0, .slice none 0 0, .slice none 0 0]
def msA (d f : Nat) (q a u x : Value) : Array Value := #[.int .i64 d, .bool (f.testBit 15), .int .i64 ((f / 2048 % 16 : Nat) : Int), .bool (f.testBit 10), .bool (f.testBit 9), .bool (f.testBit 8), .bool (f.testBit 7), .bool (f.testBit 6), .bool (f.testBit 5), .bool (f.testBit 4), .int .i64 ((f % 16 : Nat) : Int), q, a, u, x]

/-- Two rows lie in blocks of their own. -/
def Apart (u v : Value) : Prop := ∀ k, u.ownBlock = some k → v.ownBlock ≠ some k

/-- A message's lists lie where its slices lead, in rows of the call's own. -/
structure Lists (w : World) (B : Nat) (m : Mm) (q a u x : Value) : Prop where
  rq : w.ownsRow B 80 3 q m.qs.length (quCs m.qs)
  ra : w.ownsRow B 54 5 a m.an.length (rrCs m.an)
  ru : w.ownsRow B 54 5 u m.au.length (rrCs m.au)
  rx : w.ownsRow B 54 5 x m.ex.length (rrCs m.ex)
  au : Apart a u
  ax : Apart a x
  ux : Apart u x

theorem apart_of {w : World} {B e s m : Nat} {v u : Value} {xs : List Value} (h : w.ownsRow B e s v m xs) (hu : ∀ k, u.ownBlock = some k → w.heap.size ≤ k) : Apart v u := by
  intro k hk hk2
  have h1 := (h.lt k hk).2
  have h2 := hu k hk2
  omega

theorem row_val {w : World} {B e s m : Nat} {v : Value} {xs : List Value} (h : w.ownsRow B e s v m xs) : ∃ a cap, v = .slice a m cap := by
  rcases h.2 with ⟨rfl, rfl⟩ | ⟨g', cap', cur, rfl, _⟩
  · exact ⟨_, _, rfl⟩
  · exact ⟨_, _, rfl⟩

theorem lists_below {B : Nat} {m : Mm} {q x y z : Value} {W W1 : World} (h : Lists W B m q x y z) (hb : Below W.heap.size W W1) : Lists W1 B m q x y z :=
  ⟨own_below h.rq hb, own_below h.ra hb, own_below h.ru hb, own_below h.rx hb, h.au, h.ax, h.ux⟩

end Go.Proofs.YtfficbpalibmoaaGreatDoor
