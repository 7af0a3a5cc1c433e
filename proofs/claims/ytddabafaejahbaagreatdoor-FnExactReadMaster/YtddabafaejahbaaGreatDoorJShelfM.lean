import Derived.Shelf.Strings.Builder1
import Derived.Shelf.Strings.Builder2
import Derived.Shelf.Strings.OnBuilder
import Derived.Shelf.Small.Strs
import Derived.Shelf.Utf8.RuneCount
import Derived.Shelf.Strconv.Itoa0
import Derived.Shelf.Strconv.Itoa1
import Derived.Shelf.LaysM
import Derived.Shelf.Strconv.Itoa2
import Derived.Shelf.Strconv.Itoa3
import Derived.Shelf.Strings.Search1
import Derived.Shelf.Strings.Search2
import Derived.Shelf.Strings.Search3
import Derived.Shelf.Strings.Cut
import Derived.Shelf.Strings.Count
import Derived.Shelf.Strings.Shaped
import Derived.Shelf.Strings.Split
import Derived.Shelf.Strings.SplitShaped
import Derived.Shelf.Unicode.Decode
import Derived.Shelf.Strings.RuneCount
import Derived.Shelf.Strings.Explode
import Derived.Shelf.Bits.Mul64
import Derived.Shelf.Unicode.DecodeSlow
import Derived.Shelf.Unicode.DecodeAny
import Derived.Ground.Names2Prog
import Derived.Shelf.Slices.SearchI
import Derived.Test.YtddabafaejahbaaGreatDoorProg
import Derived.Test.YtddabafaejahbaaGreatDoorJRdS
import Derived.Test.YtddabafaejahbaaGreatDoorJMath
import Derived.Test.YtddabafaejahbaaGreatDoorJTxt8
import Derived.Lib.AppendZerosOnto
import Derived.Laws.AppendOwnNone
import Derived.Test.YtddabafaejahbaaGreatDoorJV6T
import Derived.RegionTactic
import Derived.Test.YtddabafaejahbaaGreatDoorJRv3
import Derived.Test.YtddabafaejahbaaGreatDoorRows
import Derived.WalkSpells
import Derived.WalkLawsBesides
import Derived.BigRegion
import Derived.BigQuiet
import Derived.Deep.QuietTactic
/- Contracts of the library at this dump. -/
namespace Go.Proofs
open Go.Shelf
def Tryz.laysM145_ren : Go.Shelf.Ren := ⟨fun | 145 => 118 | 220 => 171 | 219 => 207 | 217 => 228 | 225 => 229 | 224 => 230 | 267 => 231 | 266 => 239 | 314 => 240 | n => n, fun | 9 => 9 | 4 => 4 | 59 => 160 | 3 => 3 | 5 => 5 | 46 => 93 | 146 => 266 | 51 => 265 | n => n, fun | 1 => 3 | n => n⟩
theorem Tryz.laysM145 : Go.Proofs.LaysM.n145 Tryz.prog Tryz.laysM145_ren := {
 mixed := by kernel_rfl
 f145 := Tryz.func118.trans (congrArg some (by kernel_rfl))
 f217 := Tryz.func228.trans (congrArg some (by kernel_rfl))
 f219 := Tryz.func207.trans (congrArg some (by kernel_rfl))
 f220 := Tryz.func171.trans (congrArg some (by kernel_rfl))
 f224 := Tryz.func230.trans (congrArg some (by kernel_rfl))
 f225 := Tryz.func229.trans (congrArg some (by kernel_rfl))
 f266 := Tryz.func239.trans (congrArg some (by kernel_rfl))
 f267 := Tryz.func231.trans (congrArg some (by kernel_rfl))
 f314 := Tryz.func240.trans (congrArg some (by kernel_rfl))
 t3 := Tryz.underlying3
 a3 := Tryz.isAgg3
 z3 := Tryz.sizeOf3
 v3 := Tryz.zeroValue3
 t4 := Tryz.underlying4
 a4 := Tryz.isAgg4
 z4 := Tryz.sizeOf4
 v4 := Tryz.zeroValue4
 t5 := Tryz.underlying5
 a5 := Tryz.isAgg5
 z5 := Tryz.sizeOf5
 v5 := Tryz.zeroValue5
 t9 := Tryz.underlying9
 a9 := Tryz.isAgg9
 z9 := Tryz.sizeOf9
 v9 := Tryz.zeroValue9
 t46 := Tryz.underlying93
 a46 := Tryz.isAgg93
 z46 := Tryz.sizeOf93
 v46 := Tryz.zeroValue93
 t51 := Tryz.underlying265
 a51 := Tryz.isAgg265
 z51 := Tryz.sizeOf265
 v51 := Tryz.zeroValue265
 t59 := Tryz.underlying160
 a59 := Tryz.isAgg160
 z59 := Tryz.sizeOf160
 v59 := Tryz.zeroValue160
 t146 := Tryz.underlying266
 a146 := Tryz.isAgg266
 z146 := Tryz.sizeOf266
 v146 := Tryz.zeroValue266
 g1 := by kernel_rfl
 i3 := by kernel_rfl
 i4 := by kernel_rfl
 i5 := by kernel_rfl
 i9 := by kernel_rfl
 i46 := by kernel_rfl
 i51 := by kernel_rfl
 i59 := by kernel_rfl
 i146 := by kernel_rfl
 m1 := by kernel_rfl
 s1_3 := fun w h => Go.Proofs.cell_of_shapedOpen_int (zero := #[.int .i64 0]) (t := 3) h (of_decide_eq_true (by kernel_rfl)) (by kernel_rfl) rfl (by kernel_rfl) (by kernel_rfl) Tryz.underlying3 }
open Go.RowKit Go.Lib in
theorem Tryz.strings_Cut_shaped (s sep : ByteArray) (w : World) (h : w.ShapedOpen Tryz.prog) (hs : s.size < 4294967281) :
 Calls Tryz.prog 118 #[.string s, .string sep] w fun e w' => e = .returned (.tuple #[.string ⟨(Lib.cut s.data.toList sep.data.toList).1.toArray⟩, .string ⟨(Lib.cut s.data.toList sep.data.toList).2.1.toArray⟩, .bool (Lib.cut s.data.toList sep.data.toList).2.2]) ∧ ∃ n, w' = w.drewN n := Any.strings_Cut_shaped Tryz.laysM145 s sep w h hs
def Tryz.laysM146_ren : Go.Shelf.Ren := ⟨fun | 146 => 172 | 221 => 168 | 268 => 203 | 138 => 204 | 143 => 205 | 195 => 224 | 197 => 225 | 218 => 226 | 219 => 207 | 260 => 238 | 217 => 228 | 225 => 229 | 224 => 230 | 267 => 231 | 266 => 239 | 314 => 240 | n => n, fun | 9 => 9 | 31 => 82 | 3 => 3 | 4 => 4 | 0 => 0 | 105 => 280 | 21 => 21 | 5 => 5 | 46 => 93 | 119 => 292 | 139 => 295 | 138 => 294 | 146 => 266 | 51 => 265 | n => n, fun | 1 => 3 | 3 => 6 | 4 => 7 | n => n⟩
theorem Tryz.laysM146 : Go.Proofs.LaysM.n146 Tryz.prog Tryz.laysM146_ren := {
 mixed := by kernel_rfl
 f138 := Tryz.func204.trans (congrArg some (by kernel_rfl))
 f143 := Tryz.func205.trans (congrArg some (by kernel_rfl))
 f146 := Tryz.func172.trans (congrArg some (by kernel_rfl))
 f195 := Tryz.func224.trans (congrArg some (by kernel_rfl))
 f197 := Tryz.func225.trans (congrArg some (by kernel_rfl))
 f217 := Tryz.func228.trans (congrArg some (by kernel_rfl))
 f218 := Tryz.func226.trans (congrArg some (by kernel_rfl))
 f219 := Tryz.func207.trans (congrArg some (by kernel_rfl))
 f221 := Tryz.func168.trans (congrArg some (by kernel_rfl))
 f224 := Tryz.func230.trans (congrArg some (by kernel_rfl))
 f225 := Tryz.func229.trans (congrArg some (by kernel_rfl))
 f260 := Tryz.func238.trans (congrArg some (by kernel_rfl))
 f266 := Tryz.func239.trans (congrArg some (by kernel_rfl))
 f267 := Tryz.func231.trans (congrArg some (by kernel_rfl))
 f268 := Tryz.func203.trans (congrArg some (by kernel_rfl))
 f314 := Tryz.func240.trans (congrArg some (by kernel_rfl))
 t0 := Tryz.underlying0
 a0 := Tryz.isAgg0
 z0 := Tryz.sizeOf0
 v0 := Tryz.zeroValue0
 t3 := Tryz.underlying3
 a3 := Tryz.isAgg3
 z3 := Tryz.sizeOf3
 v3 := Tryz.zeroValue3
 t4 := Tryz.underlying4
 a4 := Tryz.isAgg4
 z4 := Tryz.sizeOf4
 v4 := Tryz.zeroValue4
 t5 := Tryz.underlying5
 a5 := Tryz.isAgg5
 z5 := Tryz.sizeOf5
 v5 := Tryz.zeroValue5
 t9 := Tryz.underlying9
 a9 := Tryz.isAgg9
 z9 := Tryz.sizeOf9
 v9 := Tryz.zeroValue9
 t21 := Tryz.underlying21
 a21 := Tryz.isAgg21
 z21 := Tryz.sizeOf21
 v21 := Tryz.zeroValue21
 t31 := Tryz.underlying82
 a31 := Tryz.isAgg82
 z31 := Tryz.sizeOf82
 v31 := Tryz.zeroValue82
 t46 := Tryz.underlying93
 a46 := Tryz.isAgg93
 z46 := Tryz.sizeOf93
 v46 := Tryz.zeroValue93
 t51 := Tryz.underlying265
 a51 := Tryz.isAgg265
 z51 := Tryz.sizeOf265
 v51 := Tryz.zeroValue265
 t105 := Tryz.underlying280
 a105 := Tryz.isAgg280
 z105 := Tryz.sizeOf280
 v105 := Tryz.zeroValue280
 t119 := Tryz.underlying292
 a119 := Tryz.isAgg292
 z119 := Tryz.sizeOf292
 t138 := Tryz.underlying294
 a138 := Tryz.isAgg294
 z138 := Tryz.sizeOf294
 v138 := Tryz.zeroValue294
 t139 := Tryz.underlying295
 a139 := Tryz.isAgg295
 z139 := Tryz.sizeOf295
 v139 := Tryz.zeroValue295
 t146 := Tryz.underlying266
 a146 := Tryz.isAgg266
 z146 := Tryz.sizeOf266
 v146 := Tryz.zeroValue266
 g1 := by kernel_rfl
 g3 := by kernel_rfl
 g4 := by kernel_rfl
 i0 := by kernel_rfl
 i3 := by kernel_rfl
 i4 := by kernel_rfl
 i5 := by kernel_rfl
 i9 := by kernel_rfl
 i21 := by kernel_rfl
 i31 := by kernel_rfl
 i46 := by kernel_rfl
 i51 := by kernel_rfl
 i105 := by kernel_rfl
 i138 := by kernel_rfl
 i139 := by kernel_rfl
 i146 := by kernel_rfl
 m1 := by kernel_rfl
 s1_3 := fun w h => Go.Proofs.cell_of_shapedOpen_int (zero := #[.int .i64 0]) (t := 3) h (of_decide_eq_true (by kernel_rfl)) (by kernel_rfl) rfl (by kernel_rfl) (by kernel_rfl) Tryz.underlying3
 m3 := by kernel_rfl
 m4 := by kernel_rfl }
open Go.RowKit Go.Lib in
theorem Tryz.strings_Split_shaped (s sep : ByteArray) (w : World) (h : w.ShapedOpen Tryz.prog) (hs : s.size < 4294967281) (h1 : 1 ≤ sep.size) :
 Calls Tryz.prog 172 #[.string s, .string sep] w fun e w' =>
  e = .returned (.slice (some ⟨w.heap.size, 0, none⟩) (Lib.countB s sep + 1) (Lib.countB s sep + 1)) ∧ w' = w.alloc (.cells ((Lib.splitB sep 0 (Lib.countB s sep) s).map Value.string).toArray 9) := Any.strings_Split_shaped Tryz.laysM146 s sep w h hs h1
end Go.Proofs
/- impl.readGroups by its contract. -/
namespace Go.Proofs.YtddabafaejahbaaGreatDoor
open Go.RowKit
/-- What strings.Split at a colon gives. -/
def PartsC (s : ByteArray) (w w' : World) (v : Value) : Prop :=
 v = .slice (some ⟨w.heap.size, 0, none⟩) (cutB s 58).length (cutB s 58).length ∧ ∀ (k : Nat) (x : ByteArray), (cutB s 58)[k]? = some x → w'.cell? ⟨w.heap.size, k, none⟩ = some (.string x)
theorem splitC_any (s : ByteArray) (w : World) (hsh : w.ShapedOpen Tryz.prog) (hs : s.size ≤ 2000000) :
 Calls Tryz.prog 172 #[.string s, .string ⟨#[58]⟩] w fun e w' => ∃ v, e = .returned v ∧ PartsC s w w' v ∧ Below w.heap.size w w' := by
 refine (Tryz.strings_Split_shaped s ⟨#[58]⟩ w hsh (by omega) (by decide)).mono ?_; rintro e w' ⟨rfl, rfl⟩; have hc := count_cut s 58; have e : Lib.splitB ⟨#[58]⟩ 0 (Lib.countB s ⟨#[58]⟩) s = cutB s 58 := splitB_cut (by omega); rw [e, hc]; refine ⟨_, rfl, ⟨rfl, ?_⟩, (Below.refl _ _).alloc (Nat.le_refl _) _⟩; intro k x hx; have hcell : ∀ (o : Array Value) (t : TypeId), (w.alloc (.cells o t)).cell? ⟨w.heap.size, k, none⟩ = o[k]? := fun o t => cell_of_row _ _ k o t (0, 0) (heap_alloc_new w _)
 rw [hcell, List.getElem?_toArray, List.getElem?_map, hx]; rfl
theorem cutP_small (c : UInt8) : ∀ (l x : List UInt8), x ∈ cutP c l → x.length ≤ l.length := by
 intro l
 induction l with
 | nil => intro x h; simp [cutP] at h; subst h; simp
 | cons y r ih =>
   intro x h; rw [cutP] at h
   split at h
   · rw [List.mem_cons] at h
     rcases h with rfl | h
     · simp
     · have := ih x h; simp; omega
   · split at h
     · simp at h; subst h; simp
     · rename_i a t e; rw [List.mem_cons] at h
       rcases h with rfl | h
       · have := ih a (by rw [e]; simp); simp; omega
       · have := ih x (by rw [e]; simp [h]); simp; omega
theorem cell_two (w : World) (x y : Value) (e : Nat) : ∀ (j : Nat) (u : Value), [x, y][j]? = some u → (w.alloc (.cells #[x, y] e)).cell? ((⟨w.heap.size, 0, none⟩ : Addr).add j) = some u := by
 intro j u hj
 match j, hj with
 | 0, hj => simp at hj; subst hj; simp [Addr.add]
 | 1, hj => simp at hj; subst hj; simp [Addr.add]
theorem two_one (x y : Value) (h : x.oneCell' = true) (h' : y.oneCell' = true) : ∀ u : Value, u ∈ [x, y] → u.oneCell' = true := by
 intro u hu; simp at hu; rcases hu with rfl | rfl <;> assumption
theorem bys_put2 {n : Nat} (h : n < 65536) : Nm.bys (put2 n) = [.int .u8 ((n : Int) / 256), .int .u8 ((n : Int) % 256)] := by
 have h1 : (UInt8.ofNat (n / 256)).toNat = n / 256 := by simp; omega
 have h2 : (UInt8.ofNat (n % 256)).toNat = n % 256 := by simp
 simp only [Nm.bys, put2, List.map_cons, List.map_nil, h1, h2]; rfl
theorem two_step {W wr w1 : World} {v v' x y : Value} {B n : Nat} {l z : List UInt8} (hB : B ≤ wr.heap.size) (hz : Nm.bys z = [x, y])
 (hown : wr.ownsRow B 5 1 v n (Nm.bys l)) (hbel : Below B W wr) (o : Obj)
 (hown' : w1.ownsRow B 5 1 v' (n + 2) (Nm.bys l ++ [x, y])) (hgrow : (wr.alloc o).grownBy w1 v.ownBlock) :
 ∃ X, Hid (X = l ++ z) ∧ w1.ownsRow B 5 1 v' (n + 2) (Nm.bys X) ∧ Below B W w1 ∧ B ≤ w1.heap.size := by
 have hb : Below B W w1 := by
  refine (hbel.alloc hB o).grown hgrow (by simp; omega) ?_; intro k hk; exact (hown.lt k hk).1
 refine ⟨l ++ z, rfl, by rw [Nm.bys_append, hz]; exact hown', hb, ?_⟩; have := hgrow.size; simp at this; omega
theorem part_g {p : ByteArray} {q : ByteArray} {c : Int} (h : readV4S p = (q, c)) (hc : c ≠ 0) (b : Bool) : gPart p b = (grpO p).map put2 := by
 rw [gPart, if_neg]; rw [h]; exact fun h' => hc h'.2
theorem part_4 {p : ByteArray} {q : ByteArray} (h : readV4S p = (q, 0)) : gPart p true = some q.data.toList := by
 rw [gPart, h, if_pos ⟨rfl, rfl⟩]
theorem part_n {p : ByteArray} : gPart p false = (grpO p).map put2 := by rw [gPart, if_neg (fun h => by cases h.1)]
set_option maxRecDepth 100000 in
set_option maxHeartbeats 4000000 in
theorem readGroups_any (s : ByteArray) (last : Bool) (w : World) (hsh : w.ShapedOpen Tryz.prog) (hs : s.size ≤ 200) :
 Calls Tryz.prog 119 #[.string s, .bool last] w fun e w' => ∃ v, e = .returned (.tuple #[v, .bool (groupsS s last).isSome]) ∧ w'.ownsRow w.heap.size 5 1 v ((groupsS s last).getD []).length (Nm.bys ((groupsS s last).getD [])) ∧ Below w.heap.size w w' := by
 obtain ⟨G, HG⟩ : ∃ G, Hid (G = groupsS s last) := ⟨_, rfl⟩; rw [← HG.out]
 by_cases h0 : s.size = 0
 · obtain ⟨h0', _⟩ := beq_empty h0; have HN : Hid (G = some []) := by show _ = _; rw [HG.out, groupsS, if_pos h0]
   clear HG h0; go_enter Tryz.func119, Tryz.ntmps119; go_wp2; go_ret2; rw [HN.out]; exact ⟨_, rfl, World.ownsRow_nil _ _ _ _, Below.refl _ _⟩
 obtain ⟨h0', _⟩ := not_empty (s := s) (by omega); have hcut := splitC_any s w hsh (by omega); have hle := cutB_le s 58; have HGR : Hid (G = gFrom last (cutB s 58)) := by show _ = _; rw [HG.out, groupsS, if_neg h0]
 have hpz : ∀ x, x ∈ cutB s 58 → x.size ≤ 2000000 := by
  intro x hx; have hm : x.data.toList ∈ (cutB s 58).map (·.data.toList) := List.mem_map.2 ⟨x, hx, rfl⟩; rw [cutB_data] at hm; have := cutP_small 58 s.data.toList _ hm; simp at this; omega
 unfold PartsC at hcut; obtain ⟨i0, hi, hz0, hz1, hz2⟩ := info_parts Tryz.infoU8x; have hll : (cutB s 58).length ≤ 201 := by omega
 clear HG hle h0; generalize cutB s 58 = ls at *; have hst := Nm.hide (g_start last ls); have HSH : Hid (w.ShapedOpen Tryz.prog) := hsh; have HPZ := Nm.hide hpz; have hll' : (ls.length : Int) ≤ 201 := by omega
 clear hsh hpz hs; go_enter Tryz.func119, Tryz.ntmps119; go_wp2_with (go_at_call 172; refine hcut.mono ?_; rintro e w1 ⟨v, rfl, ⟨rfl, hcell⟩, hb1⟩; refine Hid.out ?_)
 have hb1s := hb1.size; clear hcut; refine Nm.hide ?_; go_wp2
 go_loopw [6, 20] (fun v i wr => ∃ (k n : Nat) (l : List UInt8), k ≤ ls.length ∧ n ≤ 4 * k ∧ i = .int .i64 k ∧ Hid (GAt last ls k l) ∧ wr.ownsRow w1.heap.size 5 1 v n (Nm.bys l) ∧ Below w1.heap.size w1 wr)
  (fun _ i _ => ls.length - (intOf i).toNat)
 case atStart => exact ⟨0, 0, [], by omega, by omega, rfl, hst, World.ownsRow_nil _ _ _ _, Below.refl _ _⟩
 case round =>
  obtain ⟨k, n, l, hk, hn4, rfl, HV, hown, hbel⟩ := hrel; clear hst; have hsz := hbel.size
  by_cases hlt : k < ls.length
  · have hlt' : (k : Int) < (ls.length : Int) := by omega
    obtain ⟨p, hp⟩ : ∃ p, ls[k]? = some p := ⟨_, List.getElem?_eq_getElem hlt⟩; have hcp : wr.cell? ⟨w.heap.size, k, none⟩ = some (.string p) := (hbel.cell (World.block_lt_of_cell? w1 _ (hcell k p hp))).trans (hcell k p hp); have hgrp := fun W => readGroup_any p W
    by_cases hlast : last = true ∧ k + 1 = ls.length
    · obtain ⟨rfl, hkl⟩ := hlast; have ht : ((k : Int) == (ls.length : Int) - 1) = true := by rw [beq_iff_eq]; omega
      have h4 := implReadV4_any p wr (shaped_below HSH.out (Nm.below_two hb1 hbel)) (HPZ.out p (List.mem_of_getElem? hp)); obtain ⟨q, c, hqc⟩ : ∃ q c, readV4S p = (q, c) := ⟨_, _, rfl⟩; rw [hqc] at h4; simp only [strV] at h4
      by_cases hc : c = 0
      · subst hc
        have hq4 : q.size = 4 := by
         have := v4_four (p := p) (by rw [hqc]); rw [hqc] at this; simpa using this
        have HN : Hid (G = some (l ++ q.data.toList)) := by
         show _ = _
         rw [HGR.out]; exact g_end (g_next HV.out hp (by rw [decide_eq_true hkl]; exact part_4 hqc)) (by omega)
        clear hgrp hqc hp HV HGR; go_wp2_with (first | (go_at_call 64; refine h4.mono ?_; rintro e w2 ⟨rfl, hb2⟩; have hown2 := own_below hown hb2; have hbel2 := hbel.trans (hb2.mono hsz); have hsz2 := hbel2.size) | (at_builtin; refine Go.Lib.wpList_append_own_string _ rfl (.tmp 40) (.tmp 41) 87 9 rfl w1.heap.size 5 i0 Tryz.underlying87 Tryz.underlying9 hi hz0 hz1 hz2 _ _ _ rfl hown2 q rfl (by unfold maxLen; omega) (by omega) hsz2 ?_; intro vb wb hown3 hgrow3 hnl3; clear hnl3; have R3 := Nm.bys_step_str hsz2 hown2 hbel2 hown3 hgrow3; clear hown3 hgrow3))
        go_ret2; rw [HN.out]; refine ⟨_, rfl, ?_, Nm.below_two hb1 R3.2⟩; have hl : n = l.length := by have := hown.1; rw [Nm.bys_length] at this; omega
        have e : ((some (l ++ q.data.toList)).getD []).length = n + q.size := by simp [hl]
        rw [e]; exact own_base R3.1 hb1s
      · have hc' : (c == 0) = false := by rw [beq_eq_false_iff_ne]; exact hc
        have hg := part_g hqc hc (true && decide (k + 1 = ls.length))
        cases hO : grpO p with
        | none =>
          rw [hO] at hg hgrp; have HN : Hid (G = none) := by show _ = _; rw [HGR.out]; exact g_bad HV.out hp hg
          simp only [grp2V, grp2W] at hgrp; clear hqc hp HV HGR hO hg hc hown; go_wp2_with (first | (go_at_call 64; refine h4.mono ?_; rintro e w2 ⟨rfl, hb2⟩) | (go_at_call 173; refine (hgrp _).mono ?_; rintro e w3 ⟨rfl, hw⟩; subst hw))
          go_ret2; rw [HN.out]
          exact ⟨_, rfl, World.ownsRow_nil _ _ _ _, Nm.below_two hb1 (by first | exact hbel | exact hbel.trans (hb2.mono hsz))⟩
        | some m =>
          rw [hO] at hg hgrp; have HN := Nm.hide (g_next HV.out hp hg); have HZ := Nm.hide (bys_put2 (grpO_lt hO)); simp only [grp2V, grp2W] at hgrp; generalize ((m : Int) / 256) = A at *; generalize ((m : Int) % 256) = B at *; clear hqc hp HV HGR hO hg hc; go_wp2_with (first | (go_at_call 64; refine h4.mono ?_; rintro e w2 ⟨rfl, hb2⟩; have hown2 := own_below hown hb2; have hbel2 := hbel.trans (hb2.mono hsz); have hsz2 := hbel2.size) | (go_at_call 173; refine (hgrp _).mono ?_; rintro e w3 ⟨rfl, hw⟩; subst hw) | (at_builtin; refine wpList_append_own _ rfl (.tmp 50) (.tmp 51) 87 rfl w1.heap.size 5 i0 (.int .u8 0) 1 1 Tryz.underlying87 hi hz0 hz1 hz2 rfl (by decide) _ _ _ rfl (hown2.alloc _) ⟨w2.heap.size, 0, none⟩ 2 2 [.int .u8 A, .int .u8 B] rfl rfl (cell_two _ _ _ _) (two_one _ _ rfl rfl) (by unfold maxLen; omega) (by omega) (by simp; omega) ?_))
          intro v' w4 hown' hgrow _; obtain ⟨X, HX, o4, b4, z4⟩ := two_step (by first | exact hsz | exact hsz2) HZ.out (by first | exact hown2 | exact hown) (by first | exact hbel2 | exact hbel) _ hown' hgrow; clear hown' hgrow hown hbel; go_wp2; go_roundw
          case rel => exact ⟨k + 1, n + 2, X, by omega, by omega, by go_num, by show GAt _ _ _ _; rw [HX.out]; exact HN.out, o4, b4⟩
          case measure => simp [intOf]; omega
    · have hg : gPart p (last && decide (k + 1 = ls.length)) = (grpO p).map put2 := by
       have e : (last && decide (k + 1 = ls.length)) = false := by
        rw [Bool.eq_false_iff]; intro h; rw [Bool.and_eq_true, decide_eq_true_eq] at h; exact hlast h
       rw [e]; exact part_n
      have ht : last = true → ((k : Int) == (ls.length : Int) - 1) = false := by
       intro hl; rw [beq_eq_false_iff_ne]; intro e; exact hlast ⟨hl, by omega⟩
      cases hO : grpO p with
      | none =>
        rw [hO] at hg hgrp; have HN : Hid (G = none) := by show _ = _; rw [HGR.out]; exact g_bad HV.out hp hg
        simp only [grp2V, grp2W] at hgrp; clear hp HV HGR hO hg hlast hown
        cases last with
        | true =>
          have ht' := ht rfl; clear ht; go_wp2_with (go_at_call 173; refine (hgrp _).mono ?_; rintro e w3 ⟨rfl, hw⟩; subst hw)
          go_ret2; rw [HN.out]
          exact ⟨_, rfl, World.ownsRow_nil _ _ _ _, Nm.below_two hb1 (by first | exact hbel | exact hbel.trans (hb2.mono hsz))⟩
        | false =>
          clear ht; go_wp2_with (go_at_call 173; refine (hgrp _).mono ?_; rintro e w3 ⟨rfl, hw⟩; subst hw)
          go_ret2; rw [HN.out]
          exact ⟨_, rfl, World.ownsRow_nil _ _ _ _, Nm.below_two hb1 (by first | exact hbel | exact hbel.trans (hb2.mono hsz))⟩
      | some m =>
        rw [hO] at hg hgrp; have HN := Nm.hide (g_next HV.out hp hg); have HZ := Nm.hide (bys_put2 (grpO_lt hO)); simp only [grp2V, grp2W] at hgrp; generalize ((m : Int) / 256) = A at *; generalize ((m : Int) % 256) = B at *; clear hp HV HGR hO hg hlast
        cases last with
        | true =>
          have ht' := ht rfl; clear ht; go_wp2_with (first | (go_at_call 173; refine (hgrp _).mono ?_; rintro e w3 ⟨rfl, hw⟩; subst hw) | (at_builtin; refine wpList_append_own _ rfl (.tmp 50) (.tmp 51) 87 rfl w1.heap.size 5 i0 (.int .u8 0) 1 1 Tryz.underlying87 hi hz0 hz1 hz2 rfl (by decide) _ _ _ rfl (hown.alloc _) ⟨wr.heap.size, 0, none⟩ 2 2 [.int .u8 A, .int .u8 B] rfl rfl (cell_two _ _ _ _) (two_one _ _ rfl rfl) (by unfold maxLen; omega) (by omega) (by simp; omega) ?_))
          intro v' w4 hown' hgrow _; obtain ⟨X, HX, o4, b4, z4⟩ := two_step (by first | exact hsz | exact hsz2) HZ.out (by first | exact hown2 | exact hown) (by first | exact hbel2 | exact hbel) _ hown' hgrow; clear hown' hgrow hown hbel; go_wp2; go_roundw
          case rel => exact ⟨k + 1, n + 2, X, by omega, by omega, by go_num, by show GAt _ _ _ _; rw [HX.out]; exact HN.out, o4, b4⟩
          case measure => simp [intOf]; omega
        | false =>
          clear ht; go_wp2_with (first | (go_at_call 173; refine (hgrp _).mono ?_; rintro e w3 ⟨rfl, hw⟩; subst hw) | (at_builtin; refine wpList_append_own _ rfl (.tmp 50) (.tmp 51) 87 rfl w1.heap.size 5 i0 (.int .u8 0) 1 1 Tryz.underlying87 hi hz0 hz1 hz2 rfl (by decide) _ _ _ rfl (hown.alloc _) ⟨wr.heap.size, 0, none⟩ 2 2 [.int .u8 A, .int .u8 B] rfl rfl (cell_two _ _ _ _) (two_one _ _ rfl rfl) (by unfold maxLen; omega) (by omega) (by simp; omega) ?_))
          intro v' w4 hown' hgrow _; obtain ⟨X, HX, o4, b4, z4⟩ := two_step (by first | exact hsz | exact hsz2) HZ.out (by first | exact hown2 | exact hown) (by first | exact hbel2 | exact hbel) _ hown' hgrow; clear hown' hgrow hown hbel; go_wp2; go_roundw
          case rel => exact ⟨k + 1, n + 2, X, by omega, by omega, by go_num, by show GAt _ _ _ _; rw [HX.out]; exact HN.out, o4, b4⟩
          case measure => simp [intOf]; omega
  · have hlt' : (ls.length : Int) ≤ (k : Int) := by omega
    have HN : Hid (G = some l) := by show _ = _; rw [HGR.out]; exact g_end HV.out (by omega)
    have hl : n = l.length := by have := hown.1; rw [Nm.bys_length] at this; omega
    clear HV HGR; go_wp2; go_ret2; rw [HN.out]; subst hl; exact ⟨_, rfl, own_base hown hb1s, Nm.below_two hb1 hbel⟩
end Go.Proofs.YtddabafaejahbaaGreatDoor
/- append(b, make([]byte, k)...) and append(b, c...) of rows of the call's own. -/
namespace Go.Proofs.YtddabafaejahbaaGreatDoor
open Go.RowKit
theorem Tryz.infoZ : (Tryz.prog.info? 5).map (fun i => (i.zero, i.size, i.bytes)) = some (some (.int .u8 0), 1, 1) := by kernel_rfl
theorem zero_bys (k : Nat) : (Builtin.zeroCells (Value.int IntKind.u8 0).cells k).toList = Nm.bys (List.replicate k 0) := by
 apply List.ext_getElem
 · rw [Array.length_toList, size_zeroCells, Nm.bys_length, List.length_replicate]; exact Nat.mul_one k
 · intro i h1 h2; have e : (Value.int IntKind.u8 0).cells = #[.int .u8 0] := rfl; simp [Builtin.zeroCells, e, Nm.bys, Nat.mod_one]
theorem bys_one (l : List UInt8) : ∀ u ∈ Nm.bys l, u.oneCell' = true := by
 intro u hu; simp [Nm.bys] at hu
 obtain ⟨c, _, rfl⟩ := hu; rfl
theorem own_zeros {w : World} {B n : Nat} {v : Value} {l : List UInt8} (hown : w.ownsRow B 5 1 v n (Nm.bys l)) (k : Nat) (hk : k ≤ 1000) (hn : n ≤ 1000) (hB : B ≤ w.heap.size) :
 ∃ v' w', (Builtin.append_ #[87, 3] 87 #[v, .int .i64 (k : Int)]).run Tryz.prog w = .ok v' w' ∧ w'.ownsRow B 5 1 v' (n + k) (Nm.bys (l ++ List.replicate k 0)) ∧ w.grownBy w' v.ownBlock := by
 obtain ⟨i0, hi, hz0, hz1, hz2⟩ := info_parts Tryz.infoZ
 have hlen : (Nm.bys (l ++ List.replicate k 0)).length = n + k := by
  have := hown.1; rw [Nm.bys_length] at this ⊢
  simp; omega
 have hll : l.length = n := by have := hown.1; rw [Nm.bys_length] at this; omega
 have grown : ∀ (old : Nat), ∀ (row : Option Nat),
  (w.drew.alloc (.cells ((Nm.bys l).toArray ++ Builtin.zeroCells (Value.int IntKind.u8 0).cells k ++ Builtin.zeroCells (Value.int IntKind.u8 0).cells (grownCap w (n + k) old 5 - (n + k))) 5)).ownsRow B 5 1
   (.slice (some ⟨w.heap.size, 0, none⟩) (n + k) (grownCap w (n + k) old 5)) (n + k) (Nm.bys (l ++ List.replicate k 0)) ∧
  w.grownBy (w.drew.alloc (.cells ((Nm.bys l).toArray ++ Builtin.zeroCells (Value.int IntKind.u8 0).cells k ++ Builtin.zeroCells (Value.int IntKind.u8 0).cells (grownCap w (n + k) old 5 - (n + k))) 5)) row := by
  intro old row; have hge := grownCap_ge w (n + k) old 5; have hcm : grownCap w (n + k) old 5 ≤ maxLen := grownCap_le_maxLen w (n + k) old 5 (by unfold maxLen; omega); have hzs : (Value.int IntKind.u8 0).cells.size = 1 := rfl; refine ⟨⟨by rw [hlen, Nat.mul_one], .inr ⟨w.heap.size, _, _, rfl, hB, heap_alloc_new w.drew _, hge, hcm, ?_, ?_⟩⟩, ⟨rfl, rfl, rfl, by simp, fun k hk _ => heap_alloc_old w.drew _ (by simpa using hk)⟩⟩
  · simp only [Array.size_append, List.size_toArray, size_zeroCells, hzs, Nm.bys_length]; omega
  · simp only [Array.toList_append, zero_bys]; rw [← Nm.bys_append, Nat.mul_one, ← hlen]; exact List.take_left
 rcases hown.2 with ⟨rfl, rfl⟩ | ⟨g, cap, cur, rfl, hbg, hg, hnc, hcm, hcs, htake⟩
 · have hx : l = [] := List.eq_nil_of_length_eq_zero hll; subst hx
   by_cases hk0 : k = 0
   · subst hk0; refine ⟨.slice none 0 0, w, ?_, World.ownsRow_nil w B _ 1, ⟨rfl, rfl, rfl, Nat.le_refl _, fun _ _ _ => rfl⟩⟩; have hw0 : IntKind.i64.wrap 0 = 0 := rfl; simp [Builtin.append_, run_underlying Tryz.underlying87, run_underlying Tryz.underlying3, sizeOf, typeInfo, hi, asInt, asIntOf, hw0]
   · have hr := Lib.run_append_nil_zeros (P := Tryz.prog) w 87 3 87 5 i0 (.int .u8 0) .i64 .i64 Tryz.underlying87 Tryz.underlying3 hi hz0 k (by omega) (by omega) (by omega) (by rw [hz2]; omega); have hgr := grown 0 (Value.ownBlock (.slice none 0 0)); rw [show (Nm.bys []).toArray = #[] from rfl] at hgr; simp only [Nat.zero_add, Array.empty_append] at hgr ⊢; exact ⟨_, _, hr, hgr.1, hgr.2⟩
 · by_cases hroom : n + k ≤ cap
   · have hst := run_storeCells_at Tryz.prog g n 5 (Nm.bys (List.replicate k 0)) 0 cur w hg (by rw [hcs, Nm.bys_length, List.length_replicate]; omega) (bys_one _); simp only [Nat.add_zero] at hst; refine ⟨.slice (some ⟨g, 0, none⟩) (n + k) cap, w.setRow g (cur.toList.take n ++ Nm.bys (List.replicate k 0) ++ cur.toList.drop (n + (Nm.bys (List.replicate k 0)).length)).toArray, ?_, ⟨by rw [hlen, Nat.mul_one], .inr ⟨g, cap, _, rfl, hbg, setRow_heap w g cur _ _ _ hg, hroom, hcm, ?_, ?_⟩⟩, ⟨rfl, rfl, rfl, by simp, fun k _ hk => setRow_other w g k _ (fun e => hk (by simp [Value.ownBlock, e]))⟩⟩
     · have hw : IntKind.i64.wrap (k : Int) = k := by rw [IntKind.wrap_i64]; omega
       have hneg : ¬ ((k : Int) < 0) := by omega
       have h48i : ¬ (281474976710656 < (k : Int)) := by omega
       by_cases hk0 : k = 0
       · subst hk0; have hst' : (storeCells ⟨g, n, none⟩ []).run Tryz.prog w = _ := hst; have hw0 : IntKind.i64.wrap 0 = 0 := rfl; simp [Builtin.append_, run_underlying Tryz.underlying87, run_underlying Tryz.underlying3, sizeOf, typeInfo, hi, asInt, asIntOf, hw0, hz1, hz2, hnc, Addr.add_lit, hst', Nm.bys]
       · simp [Builtin.append_, run_underlying Tryz.underlying87, run_underlying Tryz.underlying3, sizeOf, typeInfo, zeroValue, hi, hz0, hz1, hz2, asInt, asIntOf, hw, hneg, hk0, h48i, hroom, Addr.add_lit, zero_bys, hst]
     · simp only [List.size_toArray, List.length_append, List.length_take, List.length_drop, Array.length_toList, Nm.bys_length, List.length_replicate, hcs]; omega
     · rw [Nat.mul_one] at htake; rw [htake, ← Nm.bys_append, Nat.mul_one, ← hlen]; exact List.take_left
   · have holds : ∀ j u, (Nm.bys l)[j]? = some u → w.cell? ((⟨g, 0, none⟩ : Addr).add j) = some u := hown.cells (g := g) rfl
     have hold : (Builtin.firstCells i0.size n (.slice (some ⟨g, 0, none⟩) n cap)).run Tryz.prog w.drew = .ok (Nm.bys l).toArray w.drew := by
      rw [hz1]; exact run_firstCells_some w.drew 1 n ⟨g, 0, none⟩ n cap (Nm.bys l) (by rw [Nm.bys_length, Nat.mul_one, hll]) holds
     have hr := Lib.run_append_grow_zeros (P := Tryz.prog) w 87 3 87 5 i0 (.int .u8 0) .i64 .i64 Tryz.underlying87 Tryz.underlying3 hi hz0 (some ⟨g, 0, none⟩) n cap (Nm.bys l) hold k (by omega) (by omega) (by omega) (by omega) (by rw [hz2]; omega) (by rw [hz2]; exact growslice_fits (by omega) (by omega)); have hgr := grown cap (Value.ownBlock (.slice (some ⟨g, 0, none⟩) n cap)); exact ⟨_, _, hr, hgr.1, hgr.2⟩
/-- append(b, c...), both of the call's own. -/
theorem own_both {w : World} {B B' n m : Nat} {v u : Value} {l r : List UInt8} (hown : w.ownsRow B 5 1 v n (Nm.bys l)) (hsrc : w.ownsRow B' 5 1 u m (Nm.bys r)) (hn : n ≤ 1000) (hm : m ≤ 1000) (hB : B ≤ w.heap.size) :
 ∃ v' w', (Builtin.append_ #[87, 87] 87 #[v, u]).run Tryz.prog w = .ok v' w' ∧ w'.ownsRow B 5 1 v' (n + m) (Nm.bys (l ++ r)) ∧ w.grownBy w' v.ownBlock := by
 obtain ⟨i0, hi, hz0, hz1, hz2⟩ := info_parts Tryz.infoZ
 rcases hsrc.2 with ⟨rfl, rfl⟩ | ⟨g, cap, cur, rfl, hbg, hg, hnc, hcm, hcs, htake⟩
 · have hr : r = [] := by have := hsrc.1; rw [Nm.bys_length] at this; exact List.eq_nil_of_length_eq_zero (by omega)
   subst hr; exact ⟨v, w, run_append_owned_none (P := Tryz.prog) (w := w) B 87 87 5 i0 1 Tryz.underlying87 hi v n (Nm.bys l) hown, by simpa using hown, ⟨rfl, rfl, rfl, Nat.le_refl _, fun _ _ _ => rfl⟩⟩
 · obtain ⟨v', w', h1, h2, h3, _⟩ := run_append_own (P := Tryz.prog) w B 87 87 5 i0 (.int .u8 0) 1 1 Tryz.underlying87 hi hz0 hz1 hz2 rfl (by decide) v n (Nm.bys l) hown ⟨g, 0, none⟩ m cap (Nm.bys r) (by rw [Nat.mul_one]; have := hsrc.1; omega) (hsrc.cells (g := g) rfl) (bys_one r) (by unfold maxLen; omega) (by omega) hB; exact ⟨v', w', h1, by rw [Nm.bys_append]; exact h2, h3⟩
end Go.Proofs.YtddabafaejahbaaGreatDoor
/- impl.ReadV6 by its contract. -/
namespace Go.Proofs.YtddabafaejahbaaGreatDoor
open Go.RowKit
theorem cut_hit {s : ByteArray} (h : 0 ≤ Lib.index s.data.toList [58, 58]) :
 (⟨(Lib.cut s.data.toList [58, 58]).1.toArray⟩ : ByteArray) = s.extract 0 (Lib.index s.data.toList [58, 58]).toNat ∧ (⟨(Lib.cut s.data.toList [58, 58]).2.1.toArray⟩ : ByteArray) = s.extract ((Lib.index s.data.toList [58, 58]).toNat + 2) s.size ∧ (Lib.cut s.data.toList [58, 58]).2.2 = true := by
 rw [Lib.cut, if_pos h]; refine ⟨Nm.ba_ext ?_, Nm.ba_ext ?_, rfl⟩
 · simp [List.extract_eq_take_drop]
 · simp [List.extract_eq_take_drop]
   rw [List.take_of_length_le (by simp)]
theorem cut_miss {s : ByteArray} (h : ¬ 0 ≤ Lib.index s.data.toList [58, 58]) :
 (⟨(Lib.cut s.data.toList [58, 58]).1.toArray⟩ : ByteArray) = s ∧ (⟨(Lib.cut s.data.toList [58, 58]).2.1.toArray⟩ : ByteArray) = ⟨#[]⟩ ∧ (Lib.cut s.data.toList [58, 58]).2.2 = false := by
 rw [Lib.cut, if_neg h]; exact ⟨rfl, rfl, rfl⟩
theorem own_slice {w : World} {B e n : Nat} {v : Value} {xs : List Value} (h : w.ownsRow B e 1 v n xs) : ∃ o cap, v = .slice o n cap := by
 rcases h.2 with ⟨rfl, rfl⟩ | ⟨g, cap, cur, rfl, _⟩
 · exact ⟨none, 0, rfl⟩
 · exact ⟨_, _, rfl⟩
theorem own_two_apart {w2 w3 : World} {B e n m : Nat} {v u : Value} {xs ys : List Value} (hf : w2.ownsRow B e 1 v n xs) (hb : w3.ownsRow w2.heap.size e 1 u m ys) : u.ownBlock = none ∨ u.ownBlock ≠ v.ownBlock := by
 cases hu : u.ownBlock with
 | none => exact .inl rfl
 | some k =>
   right; intro h; have h1 := (hf.lt k h.symm).2; have h2 := (hb.lt k hu).1; omega
theorem v6_tail {w w1 w2 w3 : World} {v u : Value} {n m : Nat} {a b : List UInt8} (hb1 : Below w.heap.size w w1) (hb2 : Below w1.heap.size w1 w2) (hb3 : Below w2.heap.size w2 w3)
 (hf : w2.ownsRow w1.heap.size 5 1 v n (Nm.bys a)) (hk : w3.ownsRow w2.heap.size 5 1 u m (Nm.bys b)) (k : Nat) (hsum : n + k + m = 16) (x : Int) (hx : x = k) :
 ∃ v4 w4 g cp w5, (Builtin.append_ #[87, 3] 87 #[v, .int .i64 x]).run Tryz.prog w3 = .ok v4 w4 ∧ (Builtin.append_ #[87, 87] 87 #[v4, u]).run Tryz.prog w4 = .ok (.slice (some ⟨g, 0, none⟩) 16 cp) w5 ∧
   (convert 87 9 (.slice (some ⟨g, 0, none⟩) 16 cp)).run Tryz.prog w5 = .ok (.string ⟨(a ++ List.replicate k 0 ++ b).toArray⟩) w5 ∧ Below w.heap.size w w5 := by
 subst hx; have s1 := hb1.size; have s2 := hb2.size; have s3 := hb3.size; have f3 := own_base (own_below hf hb3) s1; have ap := own_two_apart hf hk; obtain ⟨v4, w4, r1, o4, g4⟩ := own_zeros f3 k (by omega) (by omega) (by omega); have k4 := hk.kept g4 ap; have s4 := g4.size; have B3 : Below w.heap.size w w3 := Nm.below_two hb1 (Nm.below_two hb2 hb3); have B4 : Below w.heap.size w w4 := B3.grown g4 (by omega) (fun j hj => (f3.lt j hj).1); obtain ⟨v5, w5, r2, o5, g5⟩ := own_both o4 k4 (by omega) (by omega) (by omega); have B5 : Below w.heap.size w w5 := B4.grown g5 (by omega) (fun j hj => (o4.lt j hj).1); rw [hsum] at o5; obtain ⟨g, cp, rfl, hcv⟩ := Nm.conv_own (P := Tryz.prog) (src := 87) (dst := 9) Tryz.underlying87 Tryz.underlying5 Tryz.underlying9 o5 (by omega); exact ⟨v4, w4, g, cp, w5, r1, r2, hcv, B5⟩
set_option maxRecDepth 100000 in
set_option maxHeartbeats 4000000 in
theorem implReadV6_any (s : ByteArray) (w : World) (hsh : w.ShapedOpen Tryz.prog) :
 Calls Tryz.prog 66 #[.string s] w fun e w' => e = .returned (strV (readV6S s)) ∧ Below w.heap.size w w' := by
 obtain ⟨R, HR⟩ : ∃ R, Hid (R = strV (readV6S s)) := ⟨_, rfl⟩; rw [← HR.out]
 by_cases h100 : 100 < s.size
 · have HN : Hid (R = .tuple #[.string ⟨#[]⟩, .int .i64 7]) := by show _ = _; rw [HR.out, v6_long h100]; rfl
   have h100' : (100 : Int) < (s.size : Int) := by omega
   clear HR hsh; go_enter Tryz.func66, Tryz.ntmps66; go_wp2; go_ret2; rw [HN.out]; exact ⟨rfl, Below.refl _ _⟩
 have h100' : (s.size : Int) ≤ 100 := by omega
 have hs100 : s.size ≤ 100 := by omega
 have hcut0 := Tryz.strings_Cut_shaped s ⟨#[58, 58]⟩ w hsh (by omega); rw [show (⟨#[58, 58]⟩ : ByteArray).data.toList = [58, 58] from rfl] at hcut0
 by_cases hx : 0 ≤ Lib.index s.data.toList [58, 58]
 · obtain ⟨e1, e2, e3⟩ := cut_hit hx; rw [e1, e2, e3] at hcut0; have HG : Hid (R = strV (v6Gap s (Lib.index s.data.toList [58, 58]).toNat)) := by show _ = _; rw [HR.out, readV6S, if_neg h100, if_pos hx]
   generalize (Lib.index s.data.toList [58, 58]).toNat = i at *
   have hcut : Calls Tryz.prog 118 #[.string s, .string ⟨#[58, 58]⟩] w fun e w' => e = .returned (.tuple #[.string (s.extract 0 i), .string (s.extract (i + 2) s.size), .bool true]) ∧ Below w.heap.size w w' := by
    refine hcut0.mono ?_; rintro e w' ⟨rfl, n, rfl⟩; exact ⟨rfl, Go.below_drewN (Below.refl _ _) n⟩
   have zA : (s.extract 0 i).size ≤ 100 := by simp; omega
   have zB : (s.extract (i + 2) s.size).size ≤ 100 := by simp; omega
   have hgA := fun W (hW : Below w.heap.size w W) => readGroups_any (s.extract 0 i) false W (shaped_below hsh hW) (by omega)
   have hgB := fun W (hW : Below w.heap.size w W) => readGroups_any (s.extract (i + 2) s.size) true W (shaped_below hsh hW) (by omega)
   clear hcut0 e1 e2 e3 hx HR h100 hsh
   have lB : ((groupsS (s.extract (i + 2) s.size) true).getD []).length ≤ 1000 := by
    cases hB : groupsS (s.extract (i + 2) s.size) true with
    | none => simp
    | some b => have := (groups_even hB).2; simp; omega
   have lA : ((groupsS (s.extract 0 i) false).getD []).length ≤ 1000 := by
    cases hA : groupsS (s.extract 0 i) false with
    | none => simp
    | some a => have := (groups_even hA).2; simp; omega
   cases hA : groupsS (s.extract 0 i) false with
   | none =>
     have HN : Hid (R = .tuple #[.string ⟨#[]⟩, .int .i64 7]) := by show _ = _; rw [HG.out, gap_bad1 hA]; rfl
     rw [hA] at hgA; simp only [Option.getD_none, Option.isSome_none, List.length_nil] at hgA; generalize (groupsS (s.extract (i + 2) s.size) true).getD [] = b at *; generalize (groupsS (s.extract (i + 2) s.size) true).isSome = BB at *; have lB' : (b.length : Int) ≤ 1000 := by omega
     generalize b.length = m at *; generalize s.extract 0 i = sa at *; generalize s.extract (i + 2) s.size = sb at *; clear HG hA lA zA zB; go_enter Tryz.func66, Tryz.ntmps66; go_wp2_with (first | (go_at_call 118; refine hcut.mono ?_; rintro e w1 ⟨rfl, hb1⟩) | (go_at_call 119; refine (hgB w2 (Nm.below_two hb1 hb2)).mono ?_; rintro e w3 ⟨vb, rfl, hback, hb3⟩; obtain ⟨ob, cb, rfl⟩ := own_slice hback) | (go_at_call 119; refine (hgA w1 hb1).mono ?_; rintro e w2 ⟨va, rfl, hfront, hb2⟩; obtain ⟨oa, ca, rfl⟩ := own_slice hfront))
     go_ret2; rw [HN.out]
     exact ⟨rfl, Nm.below_two hb1 (Nm.below_two hb2 hb3)⟩
   | some a =>
     rw [hA] at hgA lA
     cases hB : groupsS (s.extract (i + 2) s.size) true with
     | none =>
       have HN : Hid (R = .tuple #[.string ⟨#[]⟩, .int .i64 7]) := by show _ = _; rw [HG.out, gap_bad2 hB]; rfl
       rw [hB] at hgB; simp only [Option.getD_none, Option.isSome_none, Option.getD_some, Option.isSome_some, List.length_nil] at hgA hgB lA; have lA' : (a.length : Int) ≤ 1000 := by omega
       generalize a.length = n at *; generalize s.extract 0 i = sa at *; generalize s.extract (i + 2) s.size = sb at *; clear HG hA hB lB zA zB; go_enter Tryz.func66, Tryz.ntmps66; go_wp2_with (first | (go_at_call 118; refine hcut.mono ?_; rintro e w1 ⟨rfl, hb1⟩) | (go_at_call 119; refine (hgB w2 (Nm.below_two hb1 hb2)).mono ?_; rintro e w3 ⟨vb, rfl, hback, hb3⟩; obtain ⟨ob, cb, rfl⟩ := own_slice hback) | (go_at_call 119; refine (hgA w1 hb1).mono ?_; rintro e w2 ⟨va, rfl, hfront, hb2⟩; obtain ⟨oa, ca, rfl⟩ := own_slice hfront))
       go_ret2; rw [HN.out]
       exact ⟨rfl, Nm.below_two hb1 (Nm.below_two hb2 hb3)⟩
     | some b =>
       rw [hB] at hgB lB; have pA := (groups_even hA).1; have pB := (groups_even hB).1; simp only [Option.getD_some, Option.isSome_some] at hgA hgB lA lB
       by_cases hbig : 14 < a.length + b.length
       · have HN : Hid (R = .tuple #[.string ⟨#[]⟩, .int .i64 7]) := by show _ = _; rw [HG.out, gap_big hA hB hbig]; rfl
         have lA' : (a.length : Int) ≤ 1000 := by omega
         have lB' : (b.length : Int) ≤ 1000 := by omega
         have hl : (16 : Int) - (a.length : Int) - (b.length : Int) ≤ 0 := by omega
         generalize a.length = n at *; generalize b.length = m at *; generalize s.extract 0 i = sa at *; generalize s.extract (i + 2) s.size = sb at *; clear HG hA hB zA zB pA pB; go_enter Tryz.func66, Tryz.ntmps66; go_wp2_with (first | (go_at_call 118; refine hcut.mono ?_; rintro e w1 ⟨rfl, hb1⟩) | (go_at_call 119; refine (hgB w2 (Nm.below_two hb1 hb2)).mono ?_; rintro e w3 ⟨vb, rfl, hback, hb3⟩; obtain ⟨ob, cb, rfl⟩ := own_slice hback) | (go_at_call 119; refine (hgA w1 hb1).mono ?_; rintro e w2 ⟨va, rfl, hfront, hb2⟩; obtain ⟨oa, ca, rfl⟩ := own_slice hfront))
         go_ret2; rw [HN.out]; exact ⟨rfl, Nm.below_two hb1 (Nm.below_two hb2 hb3)⟩
       · obtain ⟨S, HS⟩ : ∃ S : ByteArray, Hid (S = ByteArray.mk (a ++ List.replicate (16 - a.length - b.length) (0 : UInt8) ++ b : List UInt8).toArray) := ⟨ByteArray.mk (a ++ List.replicate (16 - a.length - b.length) (0 : UInt8) ++ b : List UInt8).toArray, rfl⟩; have HN : Hid (R = .tuple #[.string S, .int .i64 0]) := by show _ = _; rw [HG.out, gap_good hA hB hbig, HS.out]; rfl
         obtain ⟨K, HKK⟩ : ∃ K, K = 16 - a.length - b.length := ⟨_, rfl⟩; rw [← HKK] at HS; have HK : Hid (a.length + K + b.length = 16) := by show _ = _; omega
         have HX : Hid ((16 : Int) - (a.length : Int) - (b.length : Int) = (K : Int)) := by show _ = _; omega
         have lA' : (a.length : Int) ≤ 14 := by omega
         have lB' : (b.length : Int) ≤ 14 := by omega
         have hl : (0 : Int) < (16 : Int) - (a.length : Int) - (b.length : Int) := by omega
         generalize a.length = n at *; generalize b.length = m at *; generalize s.extract 0 i = sa at *; generalize s.extract (i + 2) s.size = sb at *; clear HG hA hB zA zB pA pB HKK; go_enter Tryz.func66, Tryz.ntmps66; go_wp2_with (first | (go_at_call 118; refine hcut.mono ?_; rintro e w1 ⟨rfl, hb1⟩) | (go_at_call 119; refine (hgB w2 (Nm.below_two hb1 hb2)).mono ?_; rintro e w3 ⟨vb, rfl, hback, hb3⟩; obtain ⟨ob, cb, rfl⟩ := own_slice hback; obtain ⟨v4, w4, g, cp, w5, r1, r2, hcv, B5⟩ := v6_tail hb1 hb2 hb3 hfront hback K HK.out (16 - (n : Int) - (m : Int)) HX.out; rw [← HS.out] at hcv) | (go_at_call 119; refine (hgA w1 hb1).mono ?_; rintro e w2 ⟨va, rfl, hfront, hb2⟩; obtain ⟨oa, ca, rfl⟩ := own_slice hfront) | (at_builtin; refine Lib.wpList_append_run _ rfl (.tmp 61) (.tmp 62) 87 3 rfl _ _ rfl rfl _ _ r1 ?_) | (at_builtin; refine Lib.wpList_append_run _ rfl (.tmp 64) (.tmp 65) 87 87 rfl _ _ rfl rfl _ _ r2 ?_))
         go_ret2; rw [HN.out]; exact ⟨rfl, B5⟩
 · obtain ⟨e1, e2, e3⟩ := cut_miss hx; rw [e1, e2, e3] at hcut0; have HG : Hid (R = strV (v6Whole s)) := by show _ = _; rw [HR.out, readV6S, if_neg h100, if_neg hx]
   have hcut : Calls Tryz.prog 118 #[.string s, .string ⟨#[58, 58]⟩] w fun e w' => e = .returned (.tuple #[.string s, .string ⟨#[]⟩, .bool false]) ∧ Below w.heap.size w w' := by
    refine hcut0.mono ?_; rintro e w' ⟨rfl, n, rfl⟩; exact ⟨rfl, Go.below_drewN (Below.refl _ _) n⟩
   have hgA := fun W (hW : Below w.heap.size w W) => readGroups_any s true W (shaped_below hsh hW) (by omega)
   have hgB := fun W (hW : Below w.heap.size w W) => readGroups_any ⟨#[]⟩ true W (shaped_below hsh hW) (by decide)
   rw [show groupsS ⟨#[]⟩ true = some [] from rfl] at hgB; clear hcut0 e1 e2 e3 hx HR h100 hsh
   cases hA : groupsS s true with
   | none =>
     have HN : Hid (R = .tuple #[.string ⟨#[]⟩, .int .i64 7]) := by show _ = _; rw [HG.out, whole_bad hA]; rfl
     rw [hA] at hgA; simp only [Option.getD_none, Option.isSome_none, Option.getD_some, Option.isSome_some, List.length_nil] at hgA hgB; clear HG hA; go_enter Tryz.func66, Tryz.ntmps66; go_wp2_with (first | (go_at_call 118; refine hcut.mono ?_; rintro e w1 ⟨rfl, hb1⟩) | (go_at_call 119; refine (hgB w2 (Nm.below_two hb1 hb2)).mono ?_; rintro e w3 ⟨vb, rfl, hback, hb3⟩; obtain ⟨ob, cb, rfl⟩ := own_slice hback) | (go_at_call 119; refine (hgA w1 hb1).mono ?_; rintro e w2 ⟨va, rfl, hfront, hb2⟩; obtain ⟨oa, ca, rfl⟩ := own_slice hfront))
     go_ret2; rw [HN.out]
     exact ⟨rfl, Nm.below_two hb1 (Nm.below_two hb2 hb3)⟩
   | some a =>
     rw [hA] at hgA; have lA : a.length ≤ 1000 := by have := (groups_even hA).2; omega
     simp only [Option.isSome_some, Option.getD_some, List.length_nil] at hgA hgB; have lA' : (a.length : Int) ≤ 1000 := by omega
     by_cases h16 : a.length = 16
     · obtain ⟨S, HS⟩ : ∃ S : ByteArray, Hid (S = ByteArray.mk (a ++ List.replicate 0 (0 : UInt8) ++ [] : List UInt8).toArray) := ⟨ByteArray.mk (a ++ List.replicate 0 (0 : UInt8) ++ [] : List UInt8).toArray, rfl⟩; have HN : Hid (R = .tuple #[.string S, .int .i64 0]) := by show _ = _; rw [HG.out, whole_good hA h16, HS.out]; simp [strV]
       obtain ⟨K, HKK⟩ : ∃ K, K = 0 := ⟨_, rfl⟩; rw [← HKK] at HS; obtain ⟨m, HM⟩ : ∃ m, m = 0 := ⟨_, rfl⟩; rw [← HM] at hgB; have HK : Hid (a.length + K + m = 16) := by show _ = _; omega
       have HX : Hid ((16 : Int) - (a.length : Int) - (m : Int) = (K : Int)) := by show _ = _; omega
       have hl : ((16 : Int) - (a.length : Int) - (m : Int) != 0) = false := by
        rw [bne_eq_false_iff_eq]; omega
       have hl2 : ((16 : Int) - (a.length : Int) - (m : Int) == 0) = true := by
        rw [beq_iff_eq]; omega
       have lB' : (m : Int) ≤ 1000 := by omega
       generalize a.length = n at *; clear HG hA HKK HM h16; go_enter Tryz.func66, Tryz.ntmps66; go_wp2_with (first | (go_at_call 118; refine hcut.mono ?_; rintro e w1 ⟨rfl, hb1⟩) | (go_at_call 119; refine (hgB w2 (Nm.below_two hb1 hb2)).mono ?_; rintro e w3 ⟨vb, rfl, hback, hb3⟩; obtain ⟨ob, cb, rfl⟩ := own_slice hback; obtain ⟨v4, w4, g, cp, w5, r1, r2, hcv, B5⟩ := v6_tail hb1 hb2 hb3 hfront hback K HK.out (16 - (n : Int) - (m : Int)) HX.out; rw [← HS.out] at hcv) | (go_at_call 119; refine (hgA w1 hb1).mono ?_; rintro e w2 ⟨va, rfl, hfront, hb2⟩; obtain ⟨oa, ca, rfl⟩ := own_slice hfront) | (at_builtin; refine Lib.wpList_append_run _ rfl (.tmp 61) (.tmp 62) 87 3 rfl _ _ rfl rfl _ _ r1 ?_) | (at_builtin; refine Lib.wpList_append_run _ rfl (.tmp 64) (.tmp 65) 87 87 rfl _ _ rfl rfl _ _ r2 ?_))
       go_ret2; rw [HN.out]; exact ⟨rfl, B5⟩
     · have HN : Hid (R = .tuple #[.string ⟨#[]⟩, .int .i64 7]) := by show _ = _; rw [HG.out, whole_len hA h16]; rfl
       obtain ⟨m, HM⟩ : ∃ m, m = 0 := ⟨_, rfl⟩; rw [← HM] at hgB
       have hl : ((16 : Int) - (a.length : Int) - (m : Int) != 0) = true := by
        rw [bne_iff_ne]; omega
       have hl2 : ((16 : Int) - (a.length : Int) - (m : Int) == 0) = false := by
        rw [beq_eq_false_iff_ne]; omega
       have lB' : (m : Int) ≤ 1000 := by omega
       generalize a.length = n at *; clear HG hA HM h16; go_enter Tryz.func66, Tryz.ntmps66; go_wp2_with (first | (go_at_call 118; refine hcut.mono ?_; rintro e w1 ⟨rfl, hb1⟩) | (go_at_call 119; refine (hgB w2 (Nm.below_two hb1 hb2)).mono ?_; rintro e w3 ⟨vb, rfl, hback, hb3⟩; obtain ⟨ob, cb, rfl⟩ := own_slice hback) | (go_at_call 119; refine (hgA w1 hb1).mono ?_; rintro e w2 ⟨va, rfl, hfront, hb2⟩; obtain ⟨oa, ca, rfl⟩ := own_slice hfront))
       go_ret2; rw [HN.out]; exact ⟨rfl, Nm.below_two hb1 (Nm.below_two hb2 hb3)⟩
end Go.Proofs.YtddabafaejahbaaGreatDoor
/- Records as they come in: mathematics. -/
namespace Go.Proofs.YtddabafaejahbaaGreatDoor
open Go.RowKit
set_option linter.unusedVariables false
/-- A record: its owner, type, class, time and data. -/
structure Rr where
 own : ByteArray
 ty : Int
 cl : Int
 tt : Int
 da : ByteArray
def rvV (r : Rr) : List Value := [.string r.own, .int .i64 r.ty, .int .i64 r.cl, .int .i64 r.tt, .string r.da]
def rvVs (xs : List Rr) : List Value := xs.flatMap rvV
theorem rvVs_cons (x : Rr) (xs : List Rr) : rvVs (x :: xs) = rvV x ++ rvVs xs := by simp [rvVs]
theorem rvVs_at : ∀ (xs : List Rr) (k j : Nat) (x : Rr), xs[k]? = some x → j < 5 → (rvVs xs)[k * 5 + j]? = (rvV x)[j]? := by
 intro xs
 induction xs with
 | nil => intro k j x h; simp at h
 | cons y xs ih =>
   intro k j x h hj; have hl : (rvV y).length = 5 := rfl
   cases k with
   | zero =>
     simp at h; subst h
     rw [rvVs_cons, Nat.zero_mul, Nat.zero_add, List.getElem?_append_left (by omega)]
   | succ k =>
     simp at h; rw [rvVs_cons, List.getElem?_append_right (by omega), hl, show (k + 1) * 5 + j - 5 = k * 5 + j by omega]; exact ih k j x h hj
theorem rv_cells {w : World} {xs : List Rr} {b off k : Nat} {x : Rr} (hc : ∀ (i : Nat) (y : Value), (rvVs xs)[i]? = some y → w.cell? ⟨b, off + i, none⟩ = some y) (h : xs[k]? = some x) :
 w.cell? ⟨b, off + k * 5, none⟩ = some (.string x.own) ∧ w.cell? ⟨b, off + k * 5 + 1, none⟩ = some (.int .i64 x.ty) ∧ w.cell? ⟨b, off + k * 5 + 2, none⟩ = some (.int .i64 x.cl) ∧ w.cell? ⟨b, off + k * 5 + 3, none⟩ = some (.int .i64 x.tt) ∧ w.cell? ⟨b, off + k * 5 + 4, none⟩ = some (.string x.da) :=
 ⟨hc (k * 5) _ ((rvVs_at xs k 0 x h (by decide)).trans rfl), hc (k * 5 + 1) _ ((rvVs_at xs k 1 x h (by decide)).trans rfl), hc (k * 5 + 2) _ ((rvVs_at xs k 2 x h (by decide)).trans rfl), hc (k * 5 + 3) _ ((rvVs_at xs k 3 x h (by decide)).trans rfl), hc (k * 5 + 4) _ ((rvVs_at xs k 4 x h (by decide)).trans rfl)⟩
end Go.Proofs.YtddabafaejahbaaGreatDoor
/- Numbers within bounds, by the contracts of the two tests. -/
namespace Go.Proofs.YtddabafaejahbaaGreatDoor
open Go.RowKit
set_option linter.unusedVariables false
/-- The meta types. -/
def metaB (t : Int) : Bool := t == 0 || t == 41 || (decide (249 ≤ t) && decide (t ≤ 255))
set_option maxRecDepth 100000 in
set_option maxHeartbeats 400000 in
theorem isMeta_any (t : Int) (w : World) : Calls Tryz.prog 217 #[.int .i64 t] w fun e w' => e = .returned (.bool (metaB t)) ∧ w' = w := by
 by_cases h0 : t = 0
 · subst h0; go_enter Tryz.func217, Tryz.ntmps217; go_wp2; go_ret; exact ⟨rfl, rfl⟩
 · have e0 : (t == 0) = false := by rw [beq_eq_false_iff_ne]; exact h0
   by_cases h1 : t = 41
   · subst h1; go_enter Tryz.func217, Tryz.ntmps217; go_wp2; go_ret; exact ⟨rfl, rfl⟩
   · have e1 : (t == 41) = false := by rw [beq_eq_false_iff_ne]; exact h1
     by_cases h2 : 249 ≤ t
     · by_cases h3 : t ≤ 255
       · have HM : Hid (metaB t = true) := by show _ = _; simp [metaB, h2, h3]
         go_enter Tryz.func217, Tryz.ntmps217; go_wp2; go_ret; rw [HM.out]; exact ⟨rfl, rfl⟩
       · have h3' : 255 < t := by omega
         have HM : Hid (metaB t = false) := by show _ = _; simp [metaB, h0, h1]; omega
         go_enter Tryz.func217, Tryz.ntmps217; go_wp2; go_ret; rw [HM.out]; exact ⟨rfl, rfl⟩
     · have h2' : t < 249 := by omega
       have HM : Hid (metaB t = false) := by show _ = _; simp [metaB, h0, h1]; omega
       go_enter Tryz.func217, Tryz.ntmps217; go_wp2; go_ret; rw [HM.out]; exact ⟨rfl, rfl⟩
set_option maxRecDepth 100000 in
set_option maxHeartbeats 400000 in
theorem l05Meta_any (t : Int) (w : World) : Calls Tryz.prog 139 #[.int .i64 t] w fun e w' => e = .returned (.bool (metaB t)) ∧ w' = w := by
 by_cases h0 : t = 0
 · subst h0; go_enter Tryz.func139, Tryz.ntmps139; go_wp2; go_ret; exact ⟨rfl, rfl⟩
 · have e0 : (t == 0) = false := by rw [beq_eq_false_iff_ne]; exact h0
   by_cases h1 : t = 41
   · subst h1; go_enter Tryz.func139, Tryz.ntmps139; go_wp2; go_ret; exact ⟨rfl, rfl⟩
   · have e1 : (t == 41) = false := by rw [beq_eq_false_iff_ne]; exact h1
     by_cases h2 : 249 ≤ t
     · by_cases h3 : t ≤ 255
       · have HM : Hid (metaB t = true) := by show _ = _; simp [metaB, h2, h3]
         go_enter Tryz.func139, Tryz.ntmps139; go_wp2; go_ret; rw [HM.out]; exact ⟨rfl, rfl⟩
       · have h3' : 255 < t := by omega
         have HM : Hid (metaB t = false) := by show _ = _; simp [metaB, h0, h1]; omega
         go_enter Tryz.func139, Tryz.ntmps139; go_wp2; go_ret; rw [HM.out]; exact ⟨rfl, rfl⟩
     · have h2' : t < 249 := by omega
       have HM : Hid (metaB t = false) := by show _ = _; simp [metaB, h0, h1]; omega
       go_enter Tryz.func139, Tryz.ntmps139; go_wp2; go_ret; rw [HM.out]; exact ⟨rfl, rfl⟩
/-- A line: its number, whether it begins with a blank, its words. -/
structure Ln where
 num : Nat
 bl : Bool
 ws : List Wrd
def isBl (c : UInt8) : Bool := c == 32 || c == 9 || c == 13
def isSp (c : UInt8) : Bool := isBl c || c == 10 || c == 59 || c == 40 || c == 41 || c == 34
/-- Where a comment ends. -/
def comE (s : ByteArray) (p : Nat) : Nat :=
 if h : p < s.size then if s[p] = 10 then p else comE s (p + 1) else p
/-- Where a word ends, and what is wrong with it. -/
def barF (s : ByteArray) (p : Nat) : Nat × Nat :=
 if h : p < s.size then
  if isSp s[p] then (0, p)
  else if s[p] = 92 then
   if h2 : p + 1 < s.size then if s[p + 1] = 10 then (4, p) else barF s (p + 2)
   else (4, p)
  else barF s (p + 1)
 else (0, p)
def qutF (s : ByteArray) (p : Nat) : Nat × Nat :=
 if h : p < s.size then
  if s[p] = 34 then (0, p)
  else if s[p] = 10 then (13, p)
  else if s[p] = 92 then
   if h2 : p + 1 < s.size then if s[p + 1] = 10 then (4, p) else qutF s (p + 2)
   else (4, p)
  else qutF s (p + 1)
 else (13, p)
theorem comE_ge (s : ByteArray) (p : Nat) : p ≤ comE s p := by
 induction p using comE.induct s with
 | case1 p h h2 => rw [comE, dif_pos h, if_pos h2]; exact Nat.le_refl _
 | case2 p h h2 ih => rw [comE, dif_pos h, if_neg h2]; omega
 | case3 p h => rw [comE, dif_neg h]; exact Nat.le_refl _
theorem comE_gt {s : ByteArray} {p : Nat} (h : p < s.size) (hc : s[p] ≠ 10) : p < comE s p := by
 rw [comE, dif_pos h, if_neg hc]; have := comE_ge s (p + 1); omega
theorem comE_le (s : ByteArray) (p : Nat) (hp : p ≤ s.size) : comE s p ≤ s.size := by
 induction p using comE.induct s with
 | case1 p h h2 => rw [comE, dif_pos h, if_pos h2]; omega
 | case2 p h h2 ih => rw [comE, dif_pos h, if_neg h2]; exact ih (by omega)
 | case3 p h => rw [comE, dif_neg h]; omega
theorem barF_ge (s : ByteArray) (p : Nat) : p ≤ (barF s p).2 := by
 induction p using barF.induct s with
 | case1 p h h1 => rw [barF, dif_pos h, if_pos h1]; exact Nat.le_refl _
 | case2 p h h1 h2 h3 h4 => rw [barF, dif_pos h, if_neg h1, if_pos h2, dif_pos h3, if_pos h4]; exact Nat.le_refl _
 | case3 p h h1 h2 h3 h4 ih => rw [barF, dif_pos h, if_neg h1, if_pos h2, dif_pos h3, if_neg h4]; omega
 | case4 p h h1 h2 h3 => rw [barF, dif_pos h, if_neg h1, if_pos h2, dif_neg h3]; exact Nat.le_refl _
 | case5 p h h1 h2 ih => rw [barF, dif_pos h, if_neg h1, if_neg h2]; omega
 | case6 p h => rw [barF, dif_neg h]; exact Nat.le_refl _
theorem barF_le (s : ByteArray) (p : Nat) (hp : p ≤ s.size) : (barF s p).2 ≤ s.size := by
 induction p using barF.induct s with
 | case1 p h h1 => rw [barF, dif_pos h, if_pos h1]; exact hp
 | case2 p h h1 h2 h3 h4 => rw [barF, dif_pos h, if_neg h1, if_pos h2, dif_pos h3, if_pos h4]; exact hp
 | case3 p h h1 h2 h3 h4 ih => rw [barF, dif_pos h, if_neg h1, if_pos h2, dif_pos h3, if_neg h4]; exact ih (by omega)
 | case4 p h h1 h2 h3 => rw [barF, dif_pos h, if_neg h1, if_pos h2, dif_neg h3]; exact hp
 | case5 p h h1 h2 ih => rw [barF, dif_pos h, if_neg h1, if_neg h2]; exact ih (by omega)
 | case6 p h => rw [barF, dif_neg h]; exact hp
theorem barF_gt {s : ByteArray} {p : Nat} (h : p < s.size) (hc : isSp s[p] = false) (h0 : (barF s p).1 = 0) : p < (barF s p).2 := by
 rw [barF, dif_pos h, if_neg (by simp [hc])] at h0 ⊢
 by_cases h2 : s[p] = 92
 · rw [if_pos h2] at h0 ⊢
   by_cases h3 : p + 1 < s.size
   · rw [dif_pos h3] at h0 ⊢
     by_cases h4 : s[p + 1] = 10
     · rw [if_pos h4] at h0; simp at h0
     · rw [if_neg h4]; have := barF_ge s (p + 2); omega
   · rw [dif_neg h3] at h0; simp at h0
 · rw [if_neg h2]; have := barF_ge s (p + 1); omega
theorem qutF_ge (s : ByteArray) (p : Nat) : p ≤ (qutF s p).2 := by
 induction p using qutF.induct s with
 | case1 p h h1 => rw [qutF, dif_pos h, if_pos h1]; exact Nat.le_refl _
 | case2 p h h1 h5 => rw [qutF, dif_pos h, if_neg h1, if_pos h5]; exact Nat.le_refl _
 | case3 p h h1 h5 h2 h3 h4 => rw [qutF, dif_pos h, if_neg h1, if_neg h5, if_pos h2, dif_pos h3, if_pos h4]; exact Nat.le_refl _
 | case4 p h h1 h5 h2 h3 h4 ih => rw [qutF, dif_pos h, if_neg h1, if_neg h5, if_pos h2, dif_pos h3, if_neg h4]; omega
 | case5 p h h1 h5 h2 h3 => rw [qutF, dif_pos h, if_neg h1, if_neg h5, if_pos h2, dif_neg h3]; exact Nat.le_refl _
 | case6 p h h1 h5 h2 ih => rw [qutF, dif_pos h, if_neg h1, if_neg h5, if_neg h2]; omega
 | case7 p h => rw [qutF, dif_neg h]; exact Nat.le_refl _
theorem qutF_lt (s : ByteArray) (p : Nat) (h0 : (qutF s p).1 = 0) : ∃ h : (qutF s p).2 < s.size, s[(qutF s p).2] = 34 := by
 induction p using qutF.induct s with
 | case1 p h h1 =>
   have e : qutF s p = (0, p) := by rw [qutF, dif_pos h, if_pos h1]
   simp only [e]
   exact ⟨h, h1⟩
 | case2 p h h1 h5 => rw [qutF, dif_pos h, if_neg h1, if_pos h5] at h0; simp at h0
 | case3 p h h1 h5 h2 h3 h4 => rw [qutF, dif_pos h, if_neg h1, if_neg h5, if_pos h2, dif_pos h3, if_pos h4] at h0; simp at h0
 | case4 p h h1 h5 h2 h3 h4 ih =>
   have e : qutF s p = qutF s (p + 2) := by rw [qutF, dif_pos h, if_neg h1, if_neg h5, if_pos h2, dif_pos h3, if_neg h4]
   simp only [e] at h0 ⊢
   exact ih h0
 | case5 p h h1 h5 h2 h3 => rw [qutF, dif_pos h, if_neg h1, if_neg h5, if_pos h2, dif_neg h3] at h0; simp at h0
 | case6 p h h1 h5 h2 ih =>
   have e : qutF s p = qutF s (p + 1) := by rw [qutF, dif_pos h, if_neg h1, if_neg h5, if_neg h2]
   simp only [e] at h0 ⊢
   exact ih h0
 | case7 p h => rw [qutF, dif_neg h] at h0; simp at h0
/-- What becomes of a line: what is wrong, or where the next one begins and its number, and the words. -/
abbrev LR := Sum (Nat × Nat) (Nat × Nat × List Wrd)
/-- The end of a line. -/
def finL (num p n : Nat) (ws : List Wrd) : LR := if 300 < ws.length then .inl (15, num) else .inr (p, n, ws)
/-- A line from a place within it on. -/
def lnF (s : ByteArray) (num p n o : Nat) (ws : List Wrd) : LR :=
 if h : p < s.size then
  if hn : s[p] = 10 then
   if o = 0 then finL num (p + 1) (n + 1) ws else lnF s num (p + 1) (n + 1) o ws
  else if isBl s[p] then lnF s num (p + 1) n o ws
  else if s[p] = 59 then
   have : s.size - comE s p < s.size - p := by have := comE_gt h hn; omega
   lnF s num (comE s p) n o ws
  else if s[p] = 40 then
   if o = 0 then lnF s num (p + 1) n n ws else .inl (14, n)
  else if s[p] = 41 then
   if o = 0 then .inl (14, n) else lnF s num (p + 1) n 0 ws
  else if s[p] = 34 then
   if (qutF s (p + 1)).1 = 0 then
    have : s.size - ((qutF s (p + 1)).2 + 1) < s.size - p := by have := qutF_ge s (p + 1); omega
    lnF s num ((qutF s (p + 1)).2 + 1) n o (ws ++ [(s.extract (p + 1) (qutF s (p + 1)).2, true)])
   else .inl ((qutF s (p + 1)).1, n)
  else
   if h0 : isSp s[p] = false ∧ (barF s p).1 = 0 then
    have : s.size - (barF s p).2 < s.size - p := by have := barF_gt h h0.1 h0.2; omega
    lnF s num (barF s p).2 n o (ws ++ [(s.extract p (barF s p).2, false)])
   else .inl ((barF s p).1, n)
 else if o = 0 then finL num p n ws else .inl (14, o)
theorem gr_trans {w w1 w2 : World} {row : Option Nat} (h1 : w.grownBy w1 row) (h2 : w1.grownBy w2 row) : w.grownBy w2 row :=
 ⟨h2.os.trans h1.os, h2.tape.trans h1.tape, h2.output.trans h1.output, Nat.le_trans h1.size h2.size, fun k hk hn => (h2.block k (Nat.lt_of_lt_of_le hk h1.size) hn).trans (h1.block k hk hn)⟩
theorem gr_set (W : World) (b i : Nat) (v : Value) : W.grownBy (W.setCell ⟨b, i, none⟩ v) (some b) :=
 ⟨rfl, rfl, rfl, by simp, fun k _ hk => heap_setCell_other W ⟨b, i, none⟩ k _ (fun e => hk (by rw [e]))⟩
theorem gr_refl (w : World) (row : Option Nat) : w.grownBy w row := ⟨rfl, rfl, rfl, Nat.le_refl _, fun _ _ _ => rfl⟩
/-- A lexer lies at the front of block g: its text, its place, the line's number, where a parenthesis is open; RT: what lies behind it, and the block's type. -/
def Lx (RT : Array Value × Nat) (w : World) (g : Nat) (s : ByteArray) (p n o : Nat) : Prop := w.heap[g]? = some (.cells (#[.string s, .int .i64 p, .int .i64 n, .int .i64 o] ++ RT.1) RT.2 (0, 0))
variable {RT : Array Value × Nat}
theorem arr_at {R A : Array Value} {i : Nat} (h : i < A.size) : (A ++ R)[i]? = A[i]? := by rw [Array.getElem?_append_left h]
theorem arr_set {R A : Array Value} {i : Nat} {v : Value} (h : i < A.size) : (A ++ R).setIfInBounds i v = A.setIfInBounds i v ++ R := by
 apply Array.ext_getElem?; intro k
 by_cases e : i = k
 · subst e; rw [Array.getElem?_setIfInBounds, if_pos rfl, if_pos (by simp; omega), Array.getElem?_append_left (by simpa using h), Array.getElem?_setIfInBounds, if_pos rfl, if_pos h]
 · rw [Array.getElem?_setIfInBounds, if_neg e]
   by_cases hk : k < A.size
   · rw [Array.getElem?_append_left hk, Array.getElem?_append_left (by simpa using hk), Array.getElem?_setIfInBounds, if_neg e]
   · rw [Array.getElem?_append_right (by omega), Array.getElem?_append_right (by simp; omega)]; simp
theorem Lx.cells {w : World} {g p n o : Nat} {s : ByteArray} (h : Lx RT w g s p n o) : w.cell? ⟨g, 0, none⟩ = some (.string s) ∧ w.cell? ⟨g, 1, none⟩ = some (.int .i64 p) ∧ w.cell? ⟨g, 2, none⟩ = some (.int .i64 n) ∧ w.cell? ⟨g, 3, none⟩ = some (.int .i64 o) ∧ (∀ i, w.frozen? ⟨g, i, none⟩ = false) := by
 refine ⟨?_, ?_, ?_, ?_, fun i => frozen_of_row w g i _ _ h⟩ <;> · rw [cell_of_row _ _ _ _ _ _ h, arr_at (by simp)]; rfl
theorem Lx.at {w : World} {g p n o q : Nat} {s : ByteArray} (h : Lx RT w g s p n o) : Lx RT (w.setCell ⟨g, 1, none⟩ (.int .i64 q)) g s q n o := by
 unfold Lx; rw [heap_setCell_same w g 1 _ _ _ h, arr_set (by simp)]; rfl
theorem Lx.num {w : World} {g p n o q : Nat} {s : ByteArray} (h : Lx RT w g s p n o) : Lx RT (w.setCell ⟨g, 2, none⟩ (.int .i64 q)) g s p q o := by
 unfold Lx; rw [heap_setCell_same w g 2 _ _ _ h, arr_set (by simp)]; rfl
theorem Lx.opn {w : World} {g p n o q : Nat} {s : ByteArray} (h : Lx RT w g s p n o) : Lx RT (w.setCell ⟨g, 3, none⟩ (.int .i64 q)) g s p n q := by
 unfold Lx; rw [heap_setCell_same w g 3 _ _ _ h, arr_set (by simp)]; rfl
/-- What is wrong, as an error. -/
abbrev codE (c : Nat) : Value := .iface 128 (.int .i64 c)
abbrev linE (q c : Nat) : Value := .iface 133 (.agg #[.int .i64 q, codE c])
set_option maxRecDepth 100000 in
set_option maxHeartbeats 400000 in
theorem ended_any (g p n o : Nat) (s : ByteArray) (w : World) (h : Lx RT w g s p n o) :
 Calls Tryz.prog 140 #[.pointer (some ⟨g, 0, none⟩)] w fun e w' => e = .returned (.bool (decide (p = s.size))) ∧ w' = w.drew := by
 obtain ⟨c0, c1, c2, c3, hf⟩ := h.cells; have hd : (((p : Int) == (s.size : Int))) = decide (p = s.size) := by rw [Bool.eq_iff_iff]; simp; omega
 go_enter Tryz.func140, Tryz.ntmps140; go_wp2; go_region
 go_wp2; go_ret; exact ⟨by first | rfl | (rw [← hd]; rfl), rfl⟩
set_option maxRecDepth 100000 in
set_option maxHeartbeats 400000 in
theorem fault_any (g p n o c : Nat) (s : ByteArray) (w : World) (h : Lx RT w g s p n o) :
 Calls Tryz.prog 212 #[.pointer (some ⟨g, 0, none⟩), .int .i64 c] w fun e w' => e = .returned (linE n c) ∧ w' = w := by
 obtain ⟨c0, c1, c2, c3, hf⟩ := h.cells; go_enter Tryz.func212, Tryz.ntmps212; go_wp2; go_ret; exact ⟨rfl, rfl⟩
end Go.Proofs.YtddabafaejahbaaGreatDoor
