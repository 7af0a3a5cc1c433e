import Derived.Test.YtihhchebcojplaaJBig1
import Derived.Laws.AppendOwn
/- (*reader).name by its contract. -/
namespace Go.Proofs.Ytihhchebcojplaa
open Go.RowKit
set_option linter.unusedVariables false

theorem Try.infoRd : (Try.prog.info? 5).map (fun i => (i.zero, i.size, i.bytes)) = some (some (.int .u8 0), 1, 1) := by kernel_rfl

theorem gr_step {w w1 w2 : World} {g : Nat} (h : w.grownBy w1 (some g)) (h2 : w1.grownBy w2 (some g)) : w.grownBy w2 (some g) :=
  ⟨h2.os.trans h.os, h2.tape.trans h.tape, h2.output.trans h.output, Nat.le_trans h.size h2.size, fun k hk hne => (h2.block k (Nat.lt_of_lt_of_le hk h.size) hne).trans (h.block k hk hne)⟩

theorem gr_own {w w1 w2 : World} {g : Nat} {row : Option Nat} (h : w.grownBy w1 (some g)) (h2 : w1.grownBy w2 row) (hr : ∀ k, row = some k → w.heap.size ≤ k) : w.grownBy w2 (some g) :=
  ⟨h2.os.trans h.os, h2.tape.trans h.tape, h2.output.trans h.output, Nat.le_trans h.size h2.size, fun k hk hne =>
    (h2.block k (Nat.lt_of_lt_of_le hk h.size) (fun e => by have := hr k e.symm; omega)).trans (h.block k hk hne)⟩

theorem gr_below {w w1 w2 : World} {g : Nat} (h : w.grownBy w1 (some g)) (h2 : Below w1.heap.size w1 w2) : w.grownBy w2 (some g) :=
  ⟨h2.os.trans h.os, h2.tape.trans h.tape, h2.output.trans h.output, Nat.le_trans h.size h2.size, fun k hk hne =>
    (h2.block k (Nat.lt_of_lt_of_le hk h.size)).trans (h.block k hk hne)⟩

theorem rd_lt {w : World} {g p : Nat} {v : Value} (h : Rd w g v p) : g < w.heap.size := (Array.getElem?_eq_some_iff.1 h).1

theorem rd_below {w w1 : World} {g p : Nat} {v : Value} (h : Rd w g v p) (hb : Below w.heap.size w w1) : Rd w1 g v p := by
  unfold Rd
  rw [hb.block g (rd_lt h)]; exact h

theorem rd_grown {w w1 : World} {g p : Nat} {v : Value} {row : Option Nat} (h : Rd w g v p) (hg : w.grownBy w1 row) (hr : row ≠ some g) : Rd w1 g v p := by
  unfold Rd
  rw [hg.block g (rd_lt h) (fun e => hr e.symm)]; exact h

/-- A row of the call's own is not a reader's block: its elements are of another type. -/
theorem row_rd {w : World} {B e m g p : Nat} {v V : Value} {xs : List Value} (h : w.ownsRow B e 1 v m xs) (hs : Rd w g V p) (hne : e ≠ 50) : v.ownBlock = none ∨ v.ownBlock ≠ some g := by
  rcases h.2 with ⟨rfl, _⟩ | ⟨g', cap', cur, rfl, _, hh, _⟩
  · exact .inl rfl
  · right
    simp only [Value.ownBlock, ne_eq, Option.some.injEq]
    intro e2
    subst e2
    unfold Rd at hs
    rw [hh] at hs
    simp at hs
    exact hne hs.2

theorem row_rd' {w : World} {B e m g p : Nat} {v V : Value} {xs : List Value} (h : w.ownsRow B e 1 v m xs) (hs : Rd w g V p) (hne : e ≠ 50) : v.ownBlock ≠ some g := by
  rcases row_rd h hs hne with h | h
  · rw [h]; simp
  · exact h

/-- How far a name has been read: the row 'vo' holds 'acc', the reader that walks lies in gw, the first one (in g) behind the first pointer. -/
structure NSt (w wr : World) (g gw : Nat) (V : Value) (n : Nat) (vo : Value) (acc : List UInt8) (nx : Option Nat) (pos : Nat) : Prop where
  own : wr.ownsRow w.heap.size 5 1 vo acc.length (Nm.bys acc)
  rd : Rd wr gw V pos
  le : pos ≤ n
  ptr : (nx = none ∧ gw = g) ∨ ∃ x, nx = some x ∧ x ≤ n ∧ Rd wr g V x ∧ w.heap.size ≤ gw
  grown : w.grownBy wr (some g)
  lt : g < w.heap.size

section
variable {w wr w1 : World} {g gw n pos pos1 : Nat} {V vo vo1 : Value} {acc acc1 : List UInt8} {nx : Option Nat}

theorem NSt.far (h : NSt w wr g gw V n vo acc nx pos) (hg : wr.grownBy w1 (some gw)) : w.grownBy w1 (some g) := by
  rcases h.ptr with ⟨_, rfl⟩ | ⟨x, _, _, _, hge⟩
  · exact gr_step h.grown hg
  · exact gr_own h.grown hg (fun k hk => by simp at hk; omega)

theorem NSt.read (h : NSt w wr g gw V n vo acc nx pos) (hg : wr.grownBy w1 (some gw)) (hr : Rd w1 gw V pos1) (hle : pos1 ≤ n) : NSt w w1 g gw V n vo acc nx pos1 := by
  refine ⟨h.own.kept hg (row_rd h.own h.rd (by decide)), hr, hle, ?_, h.far hg, h.lt⟩
  rcases h.ptr with hp | ⟨x, hx, hxn, hrx, hge⟩
  · exact .inl hp
  · refine .inr ⟨x, hx, hxn, rd_grown hrx hg ?_, hge⟩
    have := h.lt
    simp; omega

theorem NSt.app (h : NSt w wr g gw V n vo acc nx pos) (hg : wr.grownBy w1 vo.ownBlock) (ho : w1.ownsRow w.heap.size 5 1 vo1 acc1.length (Nm.bys acc1)) : NSt w w1 g gw V n vo1 acc1 nx pos := by
  refine ⟨ho, rd_grown h.rd hg (row_rd' h.own h.rd (by decide)), h.le, ?_, gr_own h.grown hg (fun k hk => (h.own.lt k hk).1), h.lt⟩
  rcases h.ptr with hp | ⟨x, hx, hxn, hrx, hge⟩
  · exact .inl hp
  · exact .inr ⟨x, hx, hxn, rd_grown hrx hg (row_rd' h.own hrx (by decide)), hge⟩

theorem NSt.alloc (h : NSt w wr g gw V n vo acc nx pos) (o : Obj) : NSt w (wr.alloc o) g gw V n vo acc nx pos := by
  have hb : Below wr.heap.size wr (wr.alloc o) := (Below.refl _ _).alloc (Nat.le_refl _) o
  refine ⟨h.own.alloc _, rd_below h.rd hb, h.le, ?_, gr_below h.grown hb, h.lt⟩
  rcases h.ptr with hp | ⟨x, hx, hxn, hrx, hge⟩
  · exact .inl hp
  · exact .inr ⟨x, hx, hxn, rd_below hrx hb, hge⟩

theorem NSt.lead (h : NSt w wr g gw V n vo acc nx pos) {tq : Nat} (hto : tq ≤ n) :
    NSt w (wr.alloc (.cells #[V, .int .i64 (tq : Int)] 50)) g wr.heap.size V n vo acc (some (nx.getD pos)) tq := by
  have hb : Below wr.heap.size wr (wr.alloc (.cells #[V, .int .i64 (tq : Int)] 50)) := (Below.refl _ _).alloc (Nat.le_refl _) _
  refine ⟨h.own.alloc _, ?_, hto, ?_, gr_below h.grown hb, h.lt⟩
  · unfold Rd; show (wr.heap.push _)[wr.heap.size]? = _; simp
  · rcases h.ptr with ⟨rfl, rfl⟩ | ⟨x, rfl, hxn, hrx, hge⟩
    · exact .inr ⟨pos, rfl, h.le, rd_below h.rd hb, h.grown.size⟩
    · exact .inr ⟨x, rfl, hxn, rd_below hrx hb, h.grown.size⟩

theorem NSt.done (h : NSt w wr g gw V n vo acc nx pos) : Rd wr g V (nx.getD pos) ∧ nx.getD pos ≤ n := by
  rcases h.ptr with ⟨rfl, rfl⟩ | ⟨x, rfl, hxn, hrx, hge⟩
  · exact ⟨h.rd, h.le⟩
  · exact ⟨hrx, hxn⟩
end

/-- A slice's length. -/
def slLen : Value → Nat
  | .slice _ n _ => n
  | _ => 0

theorem own_len {w : World} {B e n : Nat} {v : Value} {xs : List Value} (h : w.ownsRow B e 1 v n xs) : slLen v = n := by
  rcases h.2 with ⟨rfl, rfl⟩ | ⟨g', cap', cur, rfl, _⟩ <;> rfl

theorem num_one {l : List UInt8} {p : Nat} (h : p < l.length) : numL ((l.drop p).take 1) = byAt l p := by
  rw [List.drop_eq_getElem_cons h, List.take_succ_cons, List.take_zero, numL, byAt, List.getD_eq_getElem?_getD, List.getElem?_eq_getElem h]
  simp

theorem take_more {l : List UInt8} {p k : Nat} (h : p < l.length) : (l.drop p).take (1 + k) = UInt8.ofNat (byAt l p) :: (l.drop (p + 1)).take k := by
  rw [List.drop_eq_getElem_cons h, Nat.add_comm, List.take_succ_cons, byAt, List.getD_eq_getElem?_getD, List.getElem?_eq_getElem h]
  simp

end Go.Proofs.Ytihhchebcojplaa
/- (*reader).name by its contract: its walk. -/
namespace Go.Proofs.Ytihhchebcojplaa
open Go.RowKit
set_option linter.unusedVariables false

theorem ptr_or (n m : Nat) (hn2 : n < 256) (hm : m < 256) : bits .or .i64 ((n : Int) * 256) (m : Int) = ((n : Int) * 256 + (m : Int)) := by
  have h := big_step n (UInt8.ofNat m) (by omega)
  have e : (UInt8.ofNat m).toNat = m := by simp; omega
  rw [e] at h
  rw [h]
  omega

theorem cut_some {w : World} {a : Option Addr} {l : List UInt8} {cap p n : Nat} (h : BySl w (.slice a l.length cap) l) (hp : p + n ≤ l.length) (hn : 0 < n) :
    ∃ b off cap', cutV a cap p n = .slice (some ⟨b, off, none⟩) n cap' ∧ ∀ W, BySl W (.slice a l.length cap) l → ∀ j u, (Nm.bys ((l.drop p).take n))[j]? = some u → W.cell? ((⟨b, off, none⟩ : Addr).add j) = some u := by
  obtain ⟨_, a', cap', e, h1, h2, h3⟩ := h
  simp only [Value.slice.injEq] at e
  obtain ⟨rfl, _, rfl⟩ := e
  obtain ⟨b, off, rfl, hc⟩ := h3 (by omega)
  have hcp : ¬ cap = p := by omega
  refine ⟨b, off + p, cap - p, by simp [cutV, hcp, Nm.addr_add], fun W hW j u hu => ?_⟩
  obtain ⟨_, a2, cap2, e2, _, _, h32⟩ := hW
  simp only [Value.slice.injEq] at e2
  obtain ⟨e3, _, rfl⟩ := e2
  obtain ⟨b2, off2, e4, hc2⟩ := h32 (by omega)
  rw [e4] at e3
  simp only [Option.some.injEq, Addr.mk.injEq, and_true] at e3
  obtain ⟨rfl, rfl⟩ := e3
  rw [by_drop, List.getElem?_take] at hu
  split at hu
  · rw [List.getElem?_drop] at hu
    rw [Nm.addr_add, Nat.add_assoc]
    exact hc2 _ _ hu
  · cases hu

theorem bys_all (l : List UInt8) : ∀ u ∈ Nm.bys l, u.oneCell' = true := by
  intro u hu
  simp only [Nm.bys, List.mem_map] at hu
  obtain ⟨c, _, rfl⟩ := hu
  rfl

theorem one_by (n : Nat) (h : n < 256) : [Value.int .u8 (n : Int)] = Nm.bys [UInt8.ofNat n] := by
  simp [Nm.bys]; omega

theorem own_some {w : World} {B e n : Nat} {v : Value} {xs : List Value} (h : w.ownsRow B e 1 v n xs) (hp : 0 < n) : ∃ g cap, v = .slice (some ⟨g, 0, none⟩) n cap := by
  rcases h.2 with ⟨rfl, h0⟩ | ⟨g, cap, cur, rfl, _⟩
  · omega
  · exact ⟨g, cap, rfl⟩

theorem two_apps {l : List UInt8} {p n : Nat} (acc : List UInt8) (h : p < l.length) (hn : byAt l p = n) : acc ++ [UInt8.ofNat n] ++ (l.drop (p + 1)).take n = acc ++ (l.drop p).take (1 + n) := by
  rw [take_more h, hn]; simp

set_option maxRecDepth 100000 in
set_option maxHeartbeats 3200000 in
theorem name_any (g : Nat) (a : Option Addr) (l : List UInt8) (cap p : Nat) (w : World) (h : Rd w g (.slice a l.length cap) p) (hl : BySl w (.slice a l.length cap) l) (hfar : ∀ w', w.grownBy w' (some g) → BySl w' (.slice a l.length cap) l) (hp : p ≤ l.length) (hnn : l.length ≤ 1048576) :
    Calls Try.prog 56 #[.pointer (some ⟨g, 0, none⟩)] w fun e w' =>
      (∃ s nx, dnF l p p [] none = .ok s nx ∧ e = .returned (.string ⟨s.toArray⟩) ∧ Rd w' g (.slice a l.length cap) nx ∧ nx ≤ l.length ∧ w.grownBy w' (some g)) ∨
      (∃ c, dnF l p p [] none = .bad c ∧ e = .panicked (fault c) ∧ w.grownBy w' (some g)) := by
  obtain ⟨j0, hj, k0, k1, k2⟩ := info_parts Try.infoRd
  have hcap : l.length ≤ cap := by
    obtain ⟨_, a', cap', e, h1, _⟩ := hl
    simp only [Value.slice.injEq] at e
    obtain ⟨rfl, _, rfl⟩ := e
    exact h1
  have c1 : w.cell? ⟨g, 1, none⟩ = some (.int .i64 p) := by rw [cell_of_row _ _ _ _ _ _ h]; rfl
  generalize hR : dnF l p p [] none = R
  go_enter Try.func56, Try.ntmps56
  go_wp2
  go_region
  go_wp2
  go_loopw [3, 4, 5] (fun vo vw vb wr => ∃ (start pos : Nat) (acc : List UInt8) (nx : Option Nat) (gw : Nat) (q : Value), q = vo ∧ vb = .int .i64 start ∧ start ≤ l.length ∧ vw = .pointer (some ⟨gw, 0, none⟩) ∧ acc.length ≤ 254 ∧ NSt w wr g gw (.slice a l.length cap) l.length vo acc nx pos ∧ dnF l start pos acc nx = R)
    (fun vo _ vb _ => (intOf vb).toNat * 300 + (255 - slLen vo))
  case atStart =>
    refine ⟨p, p, [], none, g, _, rfl, rfl, hp, rfl, by decide, ⟨?_, rd_below h (Below.refl _ _).drew, hp, .inl ⟨rfl, rfl⟩, grown_drew (World.grownBy.refl _ _), rd_lt h⟩, hR⟩
    exact ⟨rfl, .inl ⟨rfl, rfl⟩⟩
  case round =>
    obtain ⟨start, pos, acc, nx, gw, vo, rfl, rfl, hst, rfl, hacc, hns, hres⟩ := hrel
    have hV : ∀ W, wr.grownBy W (some gw) → BySl W (.slice a l.length cap) l := fun W hW => hfar W (hns.far hW)
    have hnum := number_any gw a l cap pos 1 wr hns.rd (hfar _ hns.grown) hV hns.le hnn (by decide)
    clear c1 h hl hR hV
    by_cases hend : l.length ≤ pos
    · rw [dnF_end hend] at hres
      subst hres
      have hn1 : ¬ pos + 1 ≤ l.length := by omega
      have hn2 : l.length < pos + 1 := by omega
      simp only [hn1, hn2, false_and, true_and, false_or] at hnum
      have HF : Hid (∀ W, wr.grownBy W (some gw) → w.grownBy W (some g)) := by exact fun W hW => hns.far hW
      clear hns hfar
      go_wp2_with (go_at_call 55; refine hnum.mono ?_; rintro e w1 ⟨rfl, hg1⟩)
      refine bp_panic rfl ?_
      exact .inr ⟨_, rfl, rfl, HF.out _ hg1⟩
    · have hlt : pos < l.length := by omega
      have hn1 : pos + 1 ≤ l.length := by omega
      have hn2 : ¬ l.length < pos + 1 := by omega
      simp only [hn1, hn2, false_and, true_and, or_false, num_one hlt] at hnum
      have hb := byAt_lt l pos
      have hb' : (byAt l pos : Int) < 256 := by omega
      by_cases h0 : byAt l pos = 0
      · rw [dnF_root hlt h0] at hres
        subst hres
        rw [h0] at hnum
        have HNS : Hid (∀ W, wr.grownBy W (some gw) → Rd W gw (.slice a l.length cap) (pos + 1) → NSt w W g gw (.slice a l.length cap) l.length vo acc nx (pos + 1)) := by exact fun W hW hr => hns.read hW hr hn1
        have hsz : (ByteArray.mk #[0]).size = 1 := rfl
        clear hns hfar hb hb' h0
        go_wp2_with (first | (go_at_call 55; refine hnum.mono ?_; rintro e w1 ⟨rfl, hr1, hg1⟩; have hns1 := HNS.out w1 hg1 hr1) | (at_builtin; refine Go.Lib.wpList_append_own_string _ rfl (.tmp 36) _ 22 9 rfl w.heap.size 5 j0 Try.underlying22 Try.underlying9 hj k0 k1 k2 _ _ _ rfl hns1.own ⟨#[0]⟩ rfl (by unfold maxLen; omega) (by omega) hns1.grown.size ?_; intro vb wb hown2 hgrow2 hnl2; clear hnl2; have hown3 : wb.ownsRow w.heap.size 5 1 vb (acc ++ [0]).length (Nm.bys (acc ++ [0])) := (by rw [Nm.bys_append, List.length_append]; exact hown2); have HN2 := Nm.hide (hns1.app hgrow2 hown3); clear hgrow2 hown2; obtain ⟨gg, cp, rfl, hcv⟩ := Nm.conv_own (P := Try.prog) Try.underlying22 Try.underlying5 Try.underlying9 hown3 (by simp); clear hown3; have hla : (acc ++ [0]).length = acc.length + 1 := (by simp); rw [hla] at hcv HN2))
        go_ret
        exact .inl ⟨_, _, rfl, rfl, HN2.out.done.1, HN2.out.done.2, HN2.out.grown⟩
      · by_cases h63 : byAt l pos ≤ 63
        · have hpos : 0 < byAt l pos := by omega
          have HNS : Hid (∀ W, wr.grownBy W (some gw) → Rd W gw (.slice a l.length cap) (pos + 1) → NSt w W g gw (.slice a l.length cap) l.length vo acc nx (pos + 1)) := by exact fun W hW hr => hns.read hW hr hn1
          have htk := fun W (hr : Rd W gw (.slice a l.length cap) (pos + 1)) => take_any gw a l.length cap (pos + 1) (byAt l pos) W hr hn1 hcap hnn (by omega)
          by_cases hsh : l.length < pos + 1 + byAt l pos
          · rw [dnF_short hlt hpos h63 hsh] at hres
            subst hres
            have hsh2 : ¬ pos + 1 + byAt l pos ≤ l.length := by omega
            simp only [hsh, hsh2, false_and, true_and, false_or] at htk
            generalize byAt l pos = n at *
            clear hns hfar hend hlt hn2 hsh2
            go_wp2_with (first | (go_at_call 55; refine hnum.mono ?_; rintro e w1 ⟨rfl, hr1, hg1⟩; have hns1 := HNS.out w1 hg1 hr1) | (at_builtin; refine wpList_append_own _ rfl (.tmp 42) (.tmp 45) 22 rfl w.heap.size 5 j0 (.int .u8 0) 1 1 Try.underlying22 hj k0 k1 k2 rfl (by decide) _ _ _ rfl (hns1.alloc _).own ⟨w1.heap.size, 0, none⟩ 1 1 [.int .u8 (n : Int)] rfl rfl (cell_one_new _ _ _) (Nm.one_cell _ rfl) (by unfold maxLen; omega) (by omega) (by have := hns1.grown.size; simp; omega) ?_; intro va wa hown2 hgrow2 hnl2; clear hnl2; rw [one_by n hb, ← Nm.bys_append] at hown2; have hns2 := (hns1.alloc _).app (acc1 := acc ++ [UInt8.ofNat n]) hgrow2 (by rw [List.length_append]; exact hown2); clear hgrow2 hown2) | (go_at_call 77; refine (htk _ hns2.rd).mono ?_; rintro e w3 ⟨rfl, hg3⟩; have HG := Nm.hide (hns2.far hg3)))
            refine bp_panic rfl ?_
            exact .inr ⟨_, rfl, rfl, HG.out⟩
          · have hok : pos + 1 + byAt l pos ≤ l.length := by omega
            simp only [hok, hsh, false_and, true_and, or_false] at htk
            obtain ⟨b, off, cp, hcv, hcl⟩ := cut_some (hfar _ hns.grown) hok hpos
            have HBY : Hid (∀ W, w.grownBy W (some g) → ∀ j u, (Nm.bys ((l.drop (pos + 1)).take (byAt l pos)))[j]? = some u → W.cell? ((⟨b, off, none⟩ : Addr).add j) = some u) := by exact fun W hW => hcl W (hfar W hW)
            simp only [hcv] at htk
            have hbl : (Nm.bys ((l.drop (pos + 1)).take (byAt l pos))).length = byAt l pos * 1 := by rw [Nm.bys_length]; simp; omega
            have htl : ((l.drop (pos + 1)).take (byAt l pos)).length = byAt l pos := by simp; omega
            by_cases hlong : 255 < acc.length + 1 + byAt l pos + 1
            · rw [dnF_long hpos h63 hok hlong] at hres
              subst hres
              generalize byAt l pos = n at *
              have hla : (acc ++ [UInt8.ofNat n]).length = acc.length + 1 := by simp
              have hlb : (acc ++ [UInt8.ofNat n] ++ (l.drop (pos + 1)).take n).length = acc.length + 1 + n := by rw [List.length_append, hla, htl]
              clear hns hfar hend hlt hn2 hcv hcl hsh
              have hlong' : (255 : Int) < ((acc.length + 1 + n : Nat) : Int) + 1 := by omega
              go_wp2_with (first | (go_at_call 33; refine (fail_any 3 _).mono ?_; rintro e w9 ⟨rfl, rfl⟩) | (first | (go_at_call 55; refine hnum.mono ?_; rintro e w1 ⟨rfl, hr1, hg1⟩; have hns1 := HNS.out w1 hg1 hr1) | (at_builtin; refine wpList_append_own _ rfl (.tmp 42) (.tmp 45) 22 rfl w.heap.size 5 j0 (.int .u8 0) 1 1 Try.underlying22 hj k0 k1 k2 rfl (by decide) _ _ _ rfl (hns1.alloc _).own ⟨w1.heap.size, 0, none⟩ 1 1 [.int .u8 (n : Int)] rfl rfl (cell_one_new _ _ _) (Nm.one_cell _ rfl) (by unfold maxLen; omega) (by omega) (by have := hns1.grown.size; simp; omega) ?_; intro va wa hown2 hgrow2 hnl2; clear hnl2; rw [one_by n hb, ← Nm.bys_append] at hown2; have hns2 := (hns1.alloc _).app (acc1 := acc ++ [UInt8.ofNat n]) hgrow2 (by rw [List.length_append]; exact hown2); clear hgrow2 hown2) | (go_at_call 77; refine (htk _ hns2.rd).mono ?_; rintro e w3 ⟨rfl, hr3, hg3⟩; have hns3 := hns2.read hg3 hr3 hok; have hby3 := HBY.out w3 hns3.grown) | (at_builtin; refine wpList_append_own _ rfl (.tmp 47) (.tmp 50) 22 rfl w.heap.size 5 j0 (.int .u8 0) 1 1 Try.underlying22 hj k0 k1 k2 rfl (by decide) _ _ _ rfl hns3.own ⟨b, off, none⟩ n cp (Nm.bys ((l.drop (pos + 1)).take n)) rfl hbl hby3 (bys_all _) (by rw [hla]; unfold maxLen; omega) (by rw [hla]; omega) hns3.grown.size ?_; intro vc wc hown4 hgrow4 hnl4; clear hnl4; rw [← Nm.bys_append] at hown4; have hns4 := hns3.app (acc1 := acc ++ [UInt8.ofNat n] ++ (l.drop (pos + 1)).take n) hgrow4 (by rw [hlb]; rw [hla] at hown4; exact hown4); clear hgrow4 hown4; have hown5 := hns4.own; rw [hlb] at hown5; obtain ⟨g5, cp5, rfl⟩ := own_some hown5 (by omega); have HN4 := Nm.hide hns4; clear hns4 hown5 hby3)))
              refine bp_panic rfl ?_
              exact .inr ⟨_, rfl, rfl, HN4.out.grown⟩
            · have hshort : acc.length + 1 + byAt l pos + 1 ≤ 255 := by omega
              rw [dnF_more hpos h63 hok hshort] at hres
              have HT := Nm.hide (two_apps (n := byAt l pos) acc hlt rfl)
              have HRES := Nm.hide hres
              clear hres
              generalize byAt l pos = n at *
              have hla : (acc ++ [UInt8.ofNat n]).length = acc.length + 1 := by simp
              have hlb : (acc ++ [UInt8.ofNat n] ++ (l.drop (pos + 1)).take n).length = acc.length + 1 + n := by rw [List.length_append, hla, htl]
              clear hfar hend hlt hn2 hcv hcl hsh hlong
              have hown0 := own_len hns.own
              clear hns
              have hshort' : ((acc.length + 1 + n : Nat) : Int) + 1 ≤ 255 := by omega
              go_wp2_with (first | (go_at_call 55; refine hnum.mono ?_; rintro e w1 ⟨rfl, hr1, hg1⟩; have hns1 := HNS.out w1 hg1 hr1) | (at_builtin; refine wpList_append_own _ rfl (.tmp 42) (.tmp 45) 22 rfl w.heap.size 5 j0 (.int .u8 0) 1 1 Try.underlying22 hj k0 k1 k2 rfl (by decide) _ _ _ rfl (hns1.alloc _).own ⟨w1.heap.size, 0, none⟩ 1 1 [.int .u8 (n : Int)] rfl rfl (cell_one_new _ _ _) (Nm.one_cell _ rfl) (by unfold maxLen; omega) (by omega) (by have := hns1.grown.size; simp; omega) ?_; intro va wa hown2 hgrow2 hnl2; clear hnl2; rw [one_by n hb, ← Nm.bys_append] at hown2; have hns2 := (hns1.alloc _).app (acc1 := acc ++ [UInt8.ofNat n]) hgrow2 (by rw [List.length_append]; exact hown2); clear hgrow2 hown2) | (go_at_call 77; refine (htk _ hns2.rd).mono ?_; rintro e w3 ⟨rfl, hr3, hg3⟩; have hns3 := hns2.read hg3 hr3 hok; have hby3 := HBY.out w3 hns3.grown) | (at_builtin; refine wpList_append_own _ rfl (.tmp 47) (.tmp 50) 22 rfl w.heap.size 5 j0 (.int .u8 0) 1 1 Try.underlying22 hj k0 k1 k2 rfl (by decide) _ _ _ rfl hns3.own ⟨b, off, none⟩ n cp (Nm.bys ((l.drop (pos + 1)).take n)) rfl hbl hby3 (bys_all _) (by rw [hla]; unfold maxLen; omega) (by rw [hla]; omega) hns3.grown.size ?_; intro vc wc hown4 hgrow4 hnl4; clear hnl4; rw [← Nm.bys_append] at hown4; have hns4 := hns3.app (acc1 := acc ++ [UInt8.ofNat n] ++ (l.drop (pos + 1)).take n) hgrow4 (by rw [hlb]; rw [hla] at hown4; exact hown4); clear hgrow4 hown4; have hown5 := hns4.own; rw [hlb] at hown5; obtain ⟨g5, cp5, rfl⟩ := own_some hown5 (by omega); have HN4 := Nm.hide hns4; clear hns4 hown5 hby3))
              go_roundw
              case rel =>
                refine ⟨start, pos + 1 + n, acc ++ (l.drop pos).take (1 + n), nx, gw, _, rfl, rfl, hst, rfl, ?_, ?_, HRES.out⟩
                · rw [← HT.out, hlb]; omega
                · rw [← HT.out]; exact HN4.out
              case measure =>
                rw [hown0]
                simp only [intOf, slLen]
                omega
        · have hptr : (63 : Int) < (byAt l pos : Int) := by omega
          by_cases h192 : byAt l pos < 192
          · rw [dnF_label hlt (by omega) h192] at hres
            subst hres
            have HF : Hid (∀ W, wr.grownBy W (some gw) → w.grownBy W (some g)) := by exact fun W hW => hns.far hW
            have h192' : (byAt l pos : Int) < 192 := by omega
            generalize byAt l pos = n at *
            clear hns hfar
            go_wp2_with (first | (go_at_call 55; refine hnum.mono ?_; rintro e w1 ⟨rfl, hr1, hg1⟩) | (go_at_call 33; refine (fail_any 2 _).mono ?_; rintro e w9 ⟨rfl, rfl⟩))
            refine bp_panic rfl ?_
            exact .inr ⟨_, rfl, rfl, HF.out _ hg1⟩
          · have h192' : (192 : Int) ≤ (byAt l pos : Int) := by omega
            have HNS : Hid (∀ W, wr.grownBy W (some gw) → Rd W gw (.slice a l.length cap) (pos + 1) → NSt w W g gw (.slice a l.length cap) l.length vo acc nx (pos + 1)) := by exact fun W hW hr => hns.read hW hr hn1
            have hnum2 := fun W (hs : NSt w W g gw (.slice a l.length cap) l.length vo acc nx (pos + 1)) => number_any gw a l cap (pos + 1) 1 W hs.rd (hfar _ hs.grown) (fun W2 hW2 => hfar W2 (hs.far hW2)) hn1 hnn (by decide)
            by_cases hcut : l.length ≤ pos + 1
            · rw [dnF_cut hlt (by omega) hcut] at hres
              subst hres
              have hm1 : ¬ pos + 1 + 1 ≤ l.length := by omega
              have hm2 : l.length < pos + 1 + 1 := by omega
              simp only [hm1, hm2, false_and, true_and, false_or] at hnum2
              generalize byAt l pos = n at *
              clear hns hfar hend hlt hn2 hm1
              go_wp2_with (first | (go_at_call 55; refine hnum.mono ?_; rintro e w1 ⟨rfl, hr1, hg1⟩; have hns1 := HNS.out w1 hg1 hr1; clear hnum) | (go_at_call 55; refine (hnum2 _ hns1).mono ?_; rintro e w2 ⟨rfl, hg2⟩; have HG := Nm.hide (hns1.far hg2)))
              refine bp_panic rfl ?_
              exact .inr ⟨_, rfl, rfl, HG.out⟩
            · have hlt2 : pos + 1 < l.length := by omega
              have hm1 : pos + 1 + 1 ≤ l.length := by omega
              have hm2 : ¬ l.length < pos + 1 + 1 := by omega
              simp only [hm1, hm2, false_and, true_and, or_false, num_one hlt2] at hnum2
              have hb2 := byAt_lt l (pos + 1)
              have hb2' : (byAt l (pos + 1) : Int) < 256 := by omega
              have hor := ptr_or (byAt l pos) (byAt l (pos + 1)) hb hb2
              have HNS2 : Hid (∀ W W2, NSt w W g gw (.slice a l.length cap) l.length vo acc nx (pos + 1) → W.grownBy W2 (some gw) → Rd W2 gw (.slice a l.length cap) (pos + 1 + 1) → NSt w W2 g gw (.slice a l.length cap) l.length vo acc nx (pos + 1 + 1)) := by exact fun W W2 hs hW hr => hs.read hW hr hm1
              by_cases hahead : start ≤ (byAt l pos - 192) * 256 + byAt l (pos + 1)
              · rw [dnF_ahead (by omega) hlt2 hahead] at hres
                subst hres
                have hah' : (start : Int) ≤ (byAt l pos : Int) * 256 + (byAt l (pos + 1) : Int) - 49152 := by omega
                generalize byAt l pos = n at *
                generalize byAt l (pos + 1) = m at *
                clear hns hfar hend hlt hn2 hm2 hcut
                go_wp2_with (first | (go_at_call 55; refine hnum.mono ?_; rintro e w1 ⟨rfl, hr1, hg1⟩; have hns1 := HNS.out w1 hg1 hr1; clear hnum) | (go_at_call 55; refine (hnum2 _ hns1).mono ?_; rintro e w2 ⟨rfl, hr2, hg2⟩; have HG := Nm.hide (hns1.far hg2)) | (go_at_call 33; refine (fail_any 9 _).mono ?_; rintro e w9 ⟨rfl, rfl⟩))
                refine bp_panic rfl ?_
                exact .inr ⟨_, rfl, rfl, HG.out⟩
              · have hback : (byAt l pos - 192) * 256 + byAt l (pos + 1) < start := by omega
                rw [dnF_ptr (by omega) hlt2 hback] at hres
                have HRES := Nm.hide hres
                have hown0 := own_len hns.own
                clear hres
                have e2 : (byAt l pos : Int) * 256 + (byAt l (pos + 1) : Int) - 49152 = (((byAt l pos - 192) * 256 + byAt l (pos + 1) : Nat) : Int) := by omega
                have hah' : (((byAt l pos - 192) * 256 + byAt l (pos + 1) : Nat) : Int) < (start : Int) := by omega
                generalize hto : (byAt l pos - 192) * 256 + byAt l (pos + 1) = tq at *
                generalize byAt l pos = n at *
                generalize byAt l (pos + 1) = m at *
                clear hns hfar hend hlt hn2 hm2 hcut hahead
                go_wp2_with (first | (go_at_call 55; refine hnum.mono ?_; rintro e w1 ⟨rfl, hr1, hg1⟩; have hns1 := HNS.out w1 hg1 hr1; clear hnum) | (go_at_call 55; refine (hnum2 _ hns1).mono ?_; rintro e w2 ⟨rfl, hr2, hg2⟩; have hns2 := HNS2.out _ _ hns1 hg2 hr2; have c0 : w2.cell? ⟨g, 0, none⟩ = some (.slice a l.length cap) := (by rw [cell_of_row _ _ _ _ _ _ hns2.done.1]; rfl); have HN3 := Nm.hide (hns2.lead (tq := tq) (by omega)); clear hns1 hns2))
                go_roundw
                case rel => exact ⟨tq, tq, acc, some (nx.getD (pos + 2)), _, _, rfl, rfl, by omega, rfl, hacc, HN3.out, HRES.out⟩
                case measure =>
                  rw [hown0]
                  simp only [intOf]
                  omega
end Go.Proofs.Ytihhchebcojplaa
