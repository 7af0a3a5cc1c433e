import Derived.Test.YtmaopfagkffccaaGreatJTkI
import Derived.Test.YtmaopfagkffccaaGreatSTk
import Derived.Test.YtmaopfagkffccaaGreatSCp
import Derived.Test.YtmaopfagkffccaaGreatMvV
import Derived.Test.YtmaopfagkffccaaGreatJMath
import Derived.Test.YtmaopfagkffccaaGreatRows
import Derived.WalkSpells
import Derived.WalkLawsBesides
import Derived.RegionTactic
import Derived.ChangeAlike
import Derived.BigRegion
/- spec.Truncate by its contract. -/
namespace Go.Proofs.YtmaopfagkffccaaGreat
open Go.RowKit
set_option linter.unusedVariables false

/-- What the model's Truncate leaves. -/
def SkPost (R : Mg × Int) (w : World) (e : Ending) (w' : World) : Prop :=
  ∃ q a u x, e = .returned (.tuple #[.agg (mgV R.1.hd q a u x), .int .i64 R.2]) ∧ MOwn w' 0 R.1 q a u x ∧ Below w.heap.size w w'

theorem sk_back {w W : World} {a : Act} {g : Nat} {R : Mg × Int} {c : Array Value} {q v u x : Value} (hk : Blk W g c 33) (hc : c = mgV R.1.hd q v u x) (hB : Below w.heap.size w W) (h2 : a.tmps[4]?.getD undef = .pointer (some ⟨g, 0, none⟩)) (h3 : a.tmps[5]?.getD undef = .int .i64 R.2) (hd : a.defers = []) (ho : MOwn W 0 R.1 q v u x) :
    bodyPost Tryz.prog Tryz.f5 (SkPost R w) .ret a W := by
  subst hc
  have hl := run_loadVar_row W g 33 33 (mgV R.1.hd q v u x) (0, 0) _ hk Tryz.underlying33 rfl (by kernel_rfl)
  refine bodyPost_ret (v := .tuple #[.agg (mgV R.1.hd q v u x), .int .i64 R.2]) ?_ hd ⟨_, _, _, _, rfl, ho, hB⟩
  simp [results, Tryz.results5, h2, h3, asAddr, hl]

set_option maxRecDepth 100000 in
set_option maxHeartbeats 3200000 in
theorem specTruncate_any (m : Mg) (q a u x : Value) (N : Int) (w : World) (h : MRow w m q a u x) (hs : MSmall m) :
    Calls Tryz.prog 5 #[.agg (mgV m.hd q a u x), .int .i64 N] w (SkPost (trR N m) w) := by
  have hB0 := (Below.refl w.heap.size w).alloc (Nat.le_refl _) (.cells (mgV m.hd q a u x) 33)
  have hB1 := hB0.alloc hB0.size (.cells #[.int .i64 0, .bool false, .int .i64 0, .bool false, .bool false, .bool false, .bool false, .bool false, .bool false, .bool false, .int .i64 0, .slice none 0 0, .slice none 0 0, .slice none 0 0, .slice none 0 0] 33)
  have kM := blk_alloc (blk_new w (mgV m.hd q a u x) 33) (.cells #[.int .i64 0, .bool false, .int .i64 0, .bool false, .bool false, .bool false, .bool false, .bool false, .bool false, .bool false, .int .i64 0, .slice none 0 0, .slice none 0 0, .slice none 0 0, .slice none 0 0] 33)
  have kZ := blk_new (w.alloc (.cells (mgV m.hd q a u x) 33)) #[.int .i64 0, .bool false, .int .i64 0, .bool false, .bool false, .bool false, .bool false, .bool false, .bool false, .bool false, .int .i64 0, .slice none 0 0, .slice none 0 0, .slice none 0 0, .slice none 0 0] 33
  rw [World.size_alloc] at kZ
  have hva := l04Valid_any m q a u x _ (h.below hB1) hs
  have hcp := fun W (hW : Below w.heap.size w W) => l13CopyMessage_any m q a u x W (h.below hW) hs
  cases hok : mgOK m with
  | false =>
    rw [hok] at hva
    have HR : Hid (trR N m = (z0M, 32)) := by show _ = _; rw [trR, if_neg (by rw [hok]; decide)]
    clear hcp h hs hok
    obtain ⟨⟨i0, b1, i2, b3, b4, b5, b6, b7, b8, b9, i10⟩, qs, an, au, ex⟩ := m
    simp only [mgV] at *
    go_enter Tryz.func5, Tryz.ntmps5
    go_wp2_with (first
      | (refine wpList_load_blk (.tmp 2) 33 rfl rfl w.heap.size _ _ kM rfl Tryz.underlying33 rfl (by kernel_rfl) ?_)
      | (go_at_call 13; refine hva.mono ?_; rintro e w1 ⟨rfl, c1⟩; have kZ1 := blk_below kZ c1; have hb1 := Nm.below_two hB1 c1)
      | (refine wpList_store_blk (.tmp 4) (.tmp 9) 33 rfl rfl rfl (w.heap.size + 1) _ _ kZ1 rfl rfl (by kernel_rfl) rfl (by kernel_rfl) ?_; intro wz kz oz))
    rw [HR.out]
    exact sk_back kz rfl (oz.below hb1 (Nat.le_succ _) hb1.size) rfl rfl rfl (mown_nil _ _)
  | true =>
    rw [hok] at hva
    have HR : Hid (trR N m = (trM N m, 0)) := by show _ = _; rw [trR, if_pos hok]
    rw [HR.out]
    have htk := fun (q' a' u' x' : Value) W (B : Nat) (ho : MOwn W B m q' a' u' x') => l13Truncate_any m q' a' u' x' N W B ho hok hs
    clear h hok HR hs
    generalize trM N m = TM at *
    obtain ⟨⟨i0, b1, i2, b3, b4, b5, b6, b7, b8, b9, i10⟩, qs, an, au, ex⟩ := m
    simp only [mgV] at hva hcp htk kM kZ hB0 hB1 ⊢
    go_enter Tryz.func5, Tryz.ntmps5
    go_wp2_with (first
      | (refine wpList_load_blk (.tmp 2) 33 rfl rfl w.heap.size _ _ kM rfl Tryz.underlying33 rfl (by kernel_rfl) ?_)
      | (go_at_call 13; refine hva.mono ?_; rintro e w1 ⟨rfl, c1⟩; have kM1 := blk_below kM c1; have kZ1 := blk_below kZ c1; have hb1 := Nm.below_two hB1 c1)
      | (refine wpList_load_blk (.tmp 2) 33 rfl rfl w.heap.size _ _ kM1 rfl Tryz.underlying33 rfl (by kernel_rfl) ?_)
      | (go_at_call 15; refine (hcp w1 hb1).mono ?_; rintro e w2 ⟨q2, a2, u2, x2, rfl, ho2, c2⟩; have kZ2 := blk_below kZ1 c2; have hb2 := Nm.below_two hb1 c2)
      | (go_at_call 14; refine (htk _ _ _ _ w2 _ ho2).mono ?_; rintro e w3 ⟨q3, a3, u3, x3, rfl, ho3, c3⟩; obtain ⟨q31, q32, rfl⟩ := own_sl ho3.rq; obtain ⟨a31, a32, rfl⟩ := own_sl ho3.ra; obtain ⟨u31, u32, rfl⟩ := own_sl ho3.ru; obtain ⟨x31, x32, rfl⟩ := own_sl ho3.rx; have kZ3 := blk_below kZ2 c3; have hb3 := Nm.below_two hb2 c3)
      | (refine wpList_store_blk (.tmp 4) (.tmp 13) 33 rfl rfl rfl (w.heap.size + 1) _ _ kZ3 rfl rfl (by kernel_rfl) rfl (by kernel_rfl) ?_; intro wz kz oz))
    exact sk_back (R := (TM, 0)) kz rfl (oz.below hb3 (Nat.le_succ _) hb3.size) rfl rfl rfl ⟨own_onlyT ho3.rq oz kZ3, own_onlyT ho3.ra oz kZ3, own_onlyT ho3.ru oz kZ3, own_onlyT ho3.rx oz kZ3⟩
end Go.Proofs.YtmaopfagkffccaaGreat
/- string([]byte{c}), and small things. -/
namespace Go.Proofs.YtmaopfagkffccaaGreat
open Go.RowKit

theorem conv_one (n : Int) (W : World) :
    (convert 66 9 (.slice (some ⟨W.heap.size, 0, none⟩) 1 1)).run Tryz.prog (W.alloc (.cells #[.int .u8 n] 5)) = .ok (.string ⟨#[UInt8.ofNat n.toNat]⟩) (W.alloc (.cells #[.int .u8 n] 5)) := by
  rw [run_convert_bytes_string _ 66 9 5 _ _ _ Tryz.underlying66 Tryz.underlying5 Tryz.underlying9]
  have hl := run_loadCells_list (P := Tryz.prog) (W.alloc (.cells #[.int .u8 n] 5)) ⟨W.heap.size, 0, none⟩ ([n].map (Value.int .u8)) (fun j v hj => cell_one_new W (.int .u8 n) 5 j v hj)
  rw [run_bytesToString _ _ 1 1 [n] hl]
  rfl

theorem conv_one_drew (n : Int) (W : World) :
    (convert 66 9 (.slice (some ⟨W.heap.size, 0, none⟩) 1 1)).run Tryz.prog (W.alloc (.cells #[.int .u8 n] 5)).drew = .ok (.string ⟨#[UInt8.ofNat n.toNat]⟩) (W.alloc (.cells #[.int .u8 n] 5)).drew :=
  conv_one n W.drew

theorem ret_str {a b : ByteArray} (h : a = b) : Ending.returned (.string a) = .returned (.string b) := by rw [h]

theorem byte_mod (n : Nat) : UInt8.ofNat (n % 256) = UInt8.ofNat n := by
  apply UInt8.toNat_inj.1
  simp

theorem ba_ext {a b : ByteArray} (h : a.data.toList = b.data.toList) : a = b := by
  apply ByteArray.ext
  exact Array.toList_inj.1 h

theorem size_list (s : ByteArray) : s.data.toList.length = s.size := by simp

end Go.Proofs.YtmaopfagkffccaaGreat
