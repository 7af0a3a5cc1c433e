import Derived.Test.YtechmpdfbpehiaaGreatDoorJIShowT
import Derived.Lib.Join
import Derived.Test.YtechmpdfbpehiaaGreatDoorJTxt1
import Derived.Deep.RegionHeld3
import Derived.Test.YtechmpdfbpehiaaGreatDoorRows
import Derived.Laws.AppendOwn
import Derived.Deep.RegionLaw
/- What ShowV4 answers: mathematics. -/
namespace Go.Proofs.YtechmpdfbpehiaaGreatDoor
open Go.RowKit

def v4Text (s : ByteArray) : List UInt8 := Lib.join (s.data.toList.map fun c => decL c.toNat) [46]
def showV4S (s : ByteArray) : ByteArray × Int := if s.size = 4 then (⟨(v4Text s).toArray⟩, 0) else (⟨#[]⟩, 7)
theorem v4Text_four {s : ByteArray} (h : s.size = 4) : (⟨(v4Text s).toArray⟩ : ByteArray) = decS s[0].toNat ++ ⟨#[46]⟩ ++ decS s[1].toNat ++ ⟨#[46]⟩ ++ decS s[2].toNat ++ ⟨#[46]⟩ ++ decS s[3].toNat := by
  have e : s.data.toList = [s[0], s[1], s[2], s[3]] := by
    refine List.ext_getElem (by simpa using h) ?_
    intro i h1 h2
    have hi : i < 4 := by simpa using h2
    rcases i with _ | _ | _ | _ | i
    · rfl
    · rfl
    · rfl
    · rfl
    · omega
  apply Nm.ba_ext
  rw [v4Text, e]
  simp [Lib.join, decS]
theorem dec_small {n : Nat} (h : n < 256) : (decS n).size ≤ 20 := by
  have := decL_len20 (n := n) (by omega)
  show (decL n).toArray.size ≤ 20
  simpa using this

theorem tail_len : ∀ (r : List ByteArray), (∀ x ∈ r, x.size ≤ 20) → (Lib.joinTail [46] (r.map (·.data.toList))).length ≤ 21 * r.length := by
  intro r
  induction r with
  | nil => intro _; simp [Lib.joinTail]
  | cons x r ih =>
    intro h
    have hx := h x (List.mem_cons_self)
    have ihr := ih (fun y hy => h y (List.mem_cons_of_mem _ hy))
    have hz : x.data.toList.length = x.size := by simp
    simp only [Lib.joinTail, List.map_cons, List.flatten_cons, List.length_append, List.length_cons, List.length_nil] at ihr ⊢
    omega
theorem join_len (ls : List ByteArray) (h : ∀ x ∈ ls, x.size ≤ 20) : (Lib.join (ls.map (·.data.toList)) [46]).length ≤ 21 * ls.length := by
  cases ls with
  | nil => simp [Lib.join_nil]
  | cons x r =>
    have hx := h x (List.mem_cons_self)
    have ihr := tail_len r (fun y hy => h y (List.mem_cons_of_mem _ hy))
    have hz : x.data.toList.length = x.size := by simp
    rw [List.map_cons, Lib.join_cons, List.length_append, List.length_cons]
    omega

def v4Parts (l : List UInt8) : List ByteArray := l.map fun c => decS c.toNat
theorem v4Parts_step {l : List UInt8} {k : Nat} {c : UInt8} (h : l[k]? = some c) : v4Parts (l.take (k + 1)) = v4Parts (l.take k) ++ [decS c.toNat] := by
  rw [Nm.take_step h]; simp [v4Parts]
theorem v4_joined (s : ByteArray) : (⟨(Lib.join ((v4Parts s.data.toList).map (·.data.toList)) [46]).toArray⟩ : ByteArray) = ⟨(v4Text s).toArray⟩ := by
  rw [v4Text, v4Parts, List.map_map]
  congr 2
end Go.Proofs.YtechmpdfbpehiaaGreatDoor
/- spec.ShowV4 by its contract. -/
namespace Go.Proofs.YtechmpdfbpehiaaGreatDoor
open Go.RowKit

theorem add_op {a b c : ByteArray} (h : c = a ++ b) (hl : a.size + b.size ≤ 1000) : ∀ w, (Go.Op.stringOp .add a b).run Tryz.prog w = .ok (.string c) w := by
  intro w
  rw [h]
  exact run_string_add_sum w _ _ (by omega)

theorem byte_at (s : ByteArray) (k : Nat) (hk : k < s.size) (W : World) : (Instr.index 9 (.string s) (.int .i64 (k : Int))).run Tryz.prog W = .ok (.int .u8 (s[k].toNat : Int)) W := by
  rw [run_index_string W 9 s .i64 (k : Int) Tryz.underlying9]
  simp [hk]
theorem byte_wide (c : UInt8) (W : World) : (convert 5 2 (.int .u8 (c.toNat : Int))).run Tryz.prog W = .ok (.int .i64 (c.toNat : Int)) W := by
  have hw : IntKind.i64.wrap (c.toNat : Int) = (c.toNat : Int) := Go.wrap_small _ (by omega) (by have := c.toNat_lt; omega)
  simp only [convert, run_underlying Tryz.underlying5, run_underlying Tryz.underlying2, Sem.run_bind, Result.andThen, Conv.intToInt]
  first | (rw [hw]; rfl) | (simp [hw])

theorem dec_held {w : World} (c : UInt8) : ∀ W : World, Below w.heap.size w W → Calls Tryz.prog 16 #[.int .i64 (c.toNat : Int)] W fun e w' => e = .returned (.string (decS c.toNat)) ∧ Below w.heap.size w w' := by
  intro W hW
  refine (l03Dec_any c.toNat W (by have := c.toNat_lt; omega)).mono ?_
  rintro e w' ⟨rfl, hb⟩
  exact ⟨rfl, Nm.below_two hW hb⟩

/-- What the walk of ShowV4's one line wants: every step's answer by its own name. -/
theorem v4_named {s : ByteArray} (h4 : s.size = 4) (w : World) : ∃ (b0 b1 b2 b3 n0 n1 n2 n3 : Int) (D0 D1 D2 D3 X1 X2 X3 X4 X5 X6 : ByteArray),
    (∀ W, (Instr.index 9 (.string s) (.int .i64 0)).run Tryz.prog W = .ok (.int .u8 b0) W) ∧ (∀ W, (Instr.index 9 (.string s) (.int .i64 1)).run Tryz.prog W = .ok (.int .u8 b1) W) ∧
    (∀ W, (Instr.index 9 (.string s) (.int .i64 2)).run Tryz.prog W = .ok (.int .u8 b2) W) ∧ (∀ W, (Instr.index 9 (.string s) (.int .i64 3)).run Tryz.prog W = .ok (.int .u8 b3) W) ∧
    (∀ W, (convert 5 2 (.int .u8 b0)).run Tryz.prog W = .ok (.int .i64 n0) W) ∧ (∀ W, (convert 5 2 (.int .u8 b1)).run Tryz.prog W = .ok (.int .i64 n1) W) ∧
    (∀ W, (convert 5 2 (.int .u8 b2)).run Tryz.prog W = .ok (.int .i64 n2) W) ∧ (∀ W, (convert 5 2 (.int .u8 b3)).run Tryz.prog W = .ok (.int .i64 n3) W) ∧
    (∀ W : World, Below w.heap.size w W → Calls Tryz.prog 16 #[.int .i64 n0] W fun e w' => e = .returned (.string D0) ∧ Below w.heap.size w w') ∧ (∀ W : World, Below w.heap.size w W → Calls Tryz.prog 16 #[.int .i64 n1] W fun e w' => e = .returned (.string D1) ∧ Below w.heap.size w w') ∧
    (∀ W : World, Below w.heap.size w W → Calls Tryz.prog 16 #[.int .i64 n2] W fun e w' => e = .returned (.string D2) ∧ Below w.heap.size w w') ∧ (∀ W : World, Below w.heap.size w W → Calls Tryz.prog 16 #[.int .i64 n3] W fun e w' => e = .returned (.string D3) ∧ Below w.heap.size w w') ∧
    (∀ W, (Go.Op.stringOp .add D0 ⟨#[46]⟩).run Tryz.prog W = .ok (.string X1) W) ∧ (∀ W, (Go.Op.stringOp .add X1 D1).run Tryz.prog W = .ok (.string X2) W) ∧ (∀ W, (Go.Op.stringOp .add X2 ⟨#[46]⟩).run Tryz.prog W = .ok (.string X3) W) ∧
    (∀ W, (Go.Op.stringOp .add X3 D2).run Tryz.prog W = .ok (.string X4) W) ∧ (∀ W, (Go.Op.stringOp .add X4 ⟨#[46]⟩).run Tryz.prog W = .ok (.string X5) W) ∧ (∀ W, (Go.Op.stringOp .add X5 D3).run Tryz.prog W = .ok (.string X6) W) ∧ Hid (X6 = ⟨(v4Text s).toArray⟩) := by
  have z0 := dec_small s[0].toNat_lt
  have z1 := dec_small s[1].toNat_lt
  have z2 := dec_small s[2].toNat_lt
  have z3 := dec_small s[3].toNat_lt
  have hz : (⟨#[46]⟩ : ByteArray).size = 1 := rfl
  refine ⟨s[0].toNat, s[1].toNat, s[2].toNat, s[3].toNat, s[0].toNat, s[1].toNat, s[2].toNat, s[3].toNat, decS s[0].toNat, decS s[1].toNat, decS s[2].toNat, decS s[3].toNat, _, _, _, _, _, _,
    byte_at s 0 (by omega), byte_at s 1 (by omega), byte_at s 2 (by omega), byte_at s 3 (by omega), byte_wide _, byte_wide _, byte_wide _, byte_wide _, dec_held _, dec_held _, dec_held _, dec_held _,
    add_op rfl (by rw [hz]; omega), add_op rfl (by rw [ByteArray.size_append, hz]; omega), add_op rfl (by rw [ByteArray.size_append, ByteArray.size_append, hz]; omega), add_op rfl (by rw [ByteArray.size_append, ByteArray.size_append, ByteArray.size_append, hz]; omega),
    add_op rfl (by rw [ByteArray.size_append, ByteArray.size_append, ByteArray.size_append, ByteArray.size_append, hz]; omega), add_op rfl (by rw [ByteArray.size_append, ByteArray.size_append, ByteArray.size_append, ByteArray.size_append, ByteArray.size_append, hz]; omega), ?_⟩
  exact (v4Text_four h4).symm

set_option maxRecDepth 100000 in
set_option maxHeartbeats 8000000 in
theorem specShowV4_any (s : ByteArray) (w : World) :
    Calls Tryz.prog 29 #[.string s] w fun e w' => e = .returned (.tuple #[.string (showV4S s).1, .int .i64 (showV4S s).2]) ∧ Below w.heap.size w w' := by
  by_cases h4 : s.size = 4
  · have HR : Hid (showV4S s = (⟨(v4Text s).toArray⟩, 0)) := by show _ = _; rw [showV4S, if_pos h4]
    obtain ⟨b0, b1, b2, b3, n0, n1, n2, n3, D0, D1, D2, D3, X1, X2, X3, X4, X5, X6, i0, i1, i2, i3, c0, c1, c2, c3, k0, k1, k2, k3, a1, a2, a3, a4, a5, a6, HX⟩ := v4_named h4 w
    have hn4 : ((s.size : Int) != 4) = false := by simp; omega
    clear h4
    have hS0 : Below w.heap.size w w.drew := (Below.refl _ _).drew
    go_enter Tryz.func29, Tryz.ntmps29
    go_wp2_with fail
    clear hn4
    refine wp_region_held_drew (S := fun w' => Below w.heap.size w w') (by kernel_rfl) hS0 (fun hHeld => ?_)
    refine wpAnyH_take (i := 0) (v := ?_) rfl (by kernel_rfl) (by kernel_rfl) (by kernel_rfl) (fun _ _ _ h => h) (Or.inl ⟨by rfl, ?_⟩) (by assumption) ?_
    rotate_left 1
    · (intro w hSw; go_simp; try (with_reducible rfl))
    refine wpAnyH_take (i := 1) (v := ?_) rfl (by kernel_rfl) (by kernel_rfl) (by kernel_rfl) (fun _ _ _ h => h) (Or.inl ⟨by rfl, ?_⟩) (by assumption) ?_
    rotate_left 1
    · (intro w hSw; go_simp; try (with_reducible rfl))
    refine wpAnyH_take (i := 2) (v := ?_) rfl (by kernel_rfl) (by kernel_rfl) (by kernel_rfl) (fun _ _ _ h => h) (Or.inl ⟨by rfl, ?_⟩) (by assumption) ?_
    rotate_left 1
    · (intro w hSw; go_simp; try (with_reducible rfl))
    refine wpAnyH_take (i := 5) (v := ?_) rfl (by kernel_rfl) (by kernel_rfl) (by kernel_rfl) (fun _ _ _ h => h) (Or.inl ⟨by rfl, ?_⟩) (by assumption) ?_
    rotate_left 1
    · (intro w hSw; go_simp; try (with_reducible rfl))
    refine wpAnyH_take (i := 6) (v := ?_) rfl (by kernel_rfl) (by kernel_rfl) (by kernel_rfl) (fun _ _ _ h => h) (Or.inl ⟨by rfl, ?_⟩) (by assumption) ?_
    rotate_left 1
    · (intro w hSw; go_simp; try (with_reducible rfl))
    refine wpAnyH_take (i := 7) (v := ?_) rfl (by kernel_rfl) (by kernel_rfl) (by kernel_rfl) (fun _ _ _ h => h) (Or.inl ⟨by rfl, ?_⟩) (by assumption) ?_
    rotate_left 1
    · (intro w hSw; go_simp; try (with_reducible rfl))
    refine wpAnyH_take (i := 11) (v := ?_) rfl (by kernel_rfl) (by kernel_rfl) (by kernel_rfl) (fun _ _ _ h => h) (Or.inl ⟨by rfl, ?_⟩) (by assumption) ?_
    rotate_left 1
    · (intro w hSw; go_simp; try (with_reducible rfl))
    refine wpAnyH_take (i := 12) (v := ?_) rfl (by kernel_rfl) (by kernel_rfl) (by kernel_rfl) (fun _ _ _ h => h) (Or.inl ⟨by rfl, ?_⟩) (by assumption) ?_
    rotate_left 1
    · (intro w hSw; go_simp; try (with_reducible rfl))
    refine wpAnyH_take (i := 13) (v := ?_) rfl (by kernel_rfl) (by kernel_rfl) (by kernel_rfl) (fun _ _ _ h => h) (Or.inl ⟨by rfl, ?_⟩) (by assumption) ?_
    rotate_left 1
    · (intro w hSw; go_simp; try (with_reducible rfl))
    refine wpAnyH_take (i := 17) (v := ?_) rfl (by kernel_rfl) (by kernel_rfl) (by kernel_rfl) (fun _ _ _ h => h) (Or.inl ⟨by rfl, ?_⟩) (by assumption) ?_
    rotate_left 1
    · (intro w hSw; go_simp; try (with_reducible rfl))
    refine wpAnyH_take (i := 18) (v := ?_) rfl (by kernel_rfl) (by kernel_rfl) (by kernel_rfl) (fun _ _ _ h => h) (Or.inl ⟨by rfl, ?_⟩) (by assumption) ?_
    rotate_left 1
    · (intro w hSw; go_simp; try (with_reducible rfl))
    refine wpAnyH_take (i := 19) (v := ?_) rfl (by kernel_rfl) (by kernel_rfl) (by kernel_rfl) (fun _ _ _ h => h) (Or.inl ⟨by rfl, ?_⟩) (by assumption) ?_
    rotate_left 1
    · (intro w hSw; go_simp; try (with_reducible rfl))
    refine wpAnyH_ready (rs := [3]) (by kernel_rfl) (by simp) ?_
    refine AllReadyH.cons rfl (fun K hK => ?_) AllReadyH.nil
    go_simp
    refine (k0 _ (by assumption)).mono ?_
    rintro e v0 ⟨rfl, hS1⟩
    go_wp2_with fail
    refine hK.out _ _ hS1 (fun _ => ?_)
    clear hK K
    refine wpAnyH_take (i := 4) (v := ?_) rfl (by kernel_rfl) (by kernel_rfl) (by kernel_rfl) (fun _ _ _ h => h) (Or.inl ⟨by rfl, ?_⟩) (by assumption) ?_
    rotate_left 1
    · (intro w hSw; go_simp; try (with_reducible rfl))
    refine wpAnyH_ready (rs := [8]) (by kernel_rfl) (by simp) ?_
    refine AllReadyH.cons rfl (fun K hK => ?_) AllReadyH.nil
    go_simp
    refine (k1 _ (by assumption)).mono ?_
    rintro e v1 ⟨rfl, hS2⟩
    go_wp2_with fail
    refine hK.out _ _ hS2 (fun _ => ?_)
    clear hK K
    refine wpAnyH_take (i := 9) (v := ?_) rfl (by kernel_rfl) (by kernel_rfl) (by kernel_rfl) (fun _ _ _ h => h) (Or.inl ⟨by rfl, ?_⟩) (by assumption) ?_
    rotate_left 1
    · (intro w hSw; go_simp; try (with_reducible rfl))
    refine wpAnyH_take (i := 10) (v := ?_) rfl (by kernel_rfl) (by kernel_rfl) (by kernel_rfl) (fun _ _ _ h => h) (Or.inl ⟨by rfl, ?_⟩) (by assumption) ?_
    rotate_left 1
    · (intro w hSw; go_simp; try (with_reducible rfl))
    refine wpAnyH_ready (rs := [14]) (by kernel_rfl) (by simp) ?_
    refine AllReadyH.cons rfl (fun K hK => ?_) AllReadyH.nil
    go_simp
    refine (k2 _ (by assumption)).mono ?_
    rintro e v2 ⟨rfl, hS3⟩
    go_wp2_with fail
    refine hK.out _ _ hS3 (fun _ => ?_)
    clear hK K
    refine wpAnyH_take (i := 15) (v := ?_) rfl (by kernel_rfl) (by kernel_rfl) (by kernel_rfl) (fun _ _ _ h => h) (Or.inl ⟨by rfl, ?_⟩) (by assumption) ?_
    rotate_left 1
    · (intro w hSw; go_simp; try (with_reducible rfl))
    refine wpAnyH_take (i := 16) (v := ?_) rfl (by kernel_rfl) (by kernel_rfl) (by kernel_rfl) (fun _ _ _ h => h) (Or.inl ⟨by rfl, ?_⟩) (by assumption) ?_
    rotate_left 1
    · (intro w hSw; go_simp; try (with_reducible rfl))
    refine wpAnyH_ready (rs := [20]) (by kernel_rfl) (by simp) ?_
    refine AllReadyH.cons rfl (fun K hK => ?_) AllReadyH.nil
    go_simp
    refine (k3 _ (by assumption)).mono ?_
    rintro e v3 ⟨rfl, hS4⟩
    go_wp2_with fail
    refine hK.out _ _ hS4 (fun _ => ?_)
    clear hK K
    refine wpAnyH_take (i := 21) (v := ?_) rfl (by kernel_rfl) (by kernel_rfl) (by kernel_rfl) (fun _ _ _ h => h) (Or.inl ⟨by rfl, ?_⟩) (by assumption) ?_
    rotate_left 1
    · (intro w hSw; go_simp; try (with_reducible rfl))
    refine wpAnyH_take (i := 22) (v := ?_) rfl (by kernel_rfl) (by kernel_rfl) (by kernel_rfl) (fun _ _ _ h => h) (Or.inl ⟨by rfl, ?_⟩) (by assumption) ?_
    rotate_left 1
    · (intro w hSw; go_simp; try (with_reducible rfl))
    refine wpAnyH_take (i := 23) (v := ?_) rfl (by kernel_rfl) (by kernel_rfl) (by kernel_rfl) (fun _ _ _ h => h) (Or.inl ⟨by rfl, ?_⟩) (by assumption) ?_
    rotate_left 1
    · (intro w hSw; go_simp; try (with_reducible rfl))
    refine wpAnyH_done (by kernel_rfl) ?_ _
    go_wp2
    go_ret2
    rw [HR.out, ← HX.out]
    exact ⟨rfl, hS4⟩
  · have HR : Hid (showV4S s = (⟨#[]⟩, 7)) := by show _ = _; rw [showV4S, if_neg h4]
    have hn4 : ((s.size : Int) != 4) = true := by simp; omega
    go_enter Tryz.func29, Tryz.ntmps29
    go_wp2
    go_ret2
    rw [HR.out]
    exact ⟨rfl, Below.refl _ _⟩
end Go.Proofs.YtechmpdfbpehiaaGreatDoor
/- A step of a drawn region: append onto a row of one's own. -/
namespace Go.Proofs.YtechmpdfbpehiaaGreatDoor
open Go
set_option linter.unusedVariables false

theorem step_append_own {P : Program} {ops : Array Oper} {o : Oper} {a : Act} {w : World} {K : Act → World → Prop} {Q : Exit → Act → World → Prop} {E : Prop} (hgd : o.guard = none) (s x : Operand) (t : TypeId)
    (ho : o.op = .call { callee := .builtin .append, args := #[s, x], argTypes := #[t, t] })
    (base : Nat) (e : TypeId) (i : TypeInfo) (z : Value) (size bytes : Nat) (ht : P.underlying t = some (.slice e)) (hi : P.info? e = some i) (hz : i.zero = some z)
    (hsize : i.size = size) (hby : i.bytes = bytes) (hzs : z.cells.size = size) (hsz : 0 < size)
    (v : Value) (n : Nat) (xs : List Value) (hs : a.eval s = v) (hown : w.ownsRow base e size v n xs)
    (ad : Addr) (m c : Nat) (news : List Value) (hx : a.eval x = .slice (some ad) m c) (hl : news.length = m * size) (hnews : ∀ j u, news[j]? = some u → w.cell? (ad.add j) = some u) (h1 : ∀ u ∈ news, u.oneCell' = true)
    (h63 : n + m ≤ maxLen) (hbytes : (n + m) * bytes ≤ 140737488355328) (hbase : base ≤ w.heap.size)
    (h : ∀ v' w', w'.ownsRow base e size v' (n + m) (xs ++ news) → w.grownBy w' v.ownBlock → (v' = .slice none 0 0 ↔ v = .slice none 0 0 ∧ m = 0) → K (a.put o.dst v') w') :
    if Region.wanted o (yielded ops a.tmps) = true then Oper.wp P o a w K Q else E := by
  have hw : Region.wanted o (yielded ops a.tmps) = true := by simp [Region.wanted, hgd]
  rw [if_pos hw]
  exact wp_append_own w s x t ho base e i z size bytes ht hi hz hsize hby hzs hsz v n xs hs hown ad m c news hx hl hnews h1 h63 hbytes hbase h

end Go.Proofs.YtechmpdfbpehiaaGreatDoor
