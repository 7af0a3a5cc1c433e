import Derived.Test.YtechmpdfbpehiaaGreatDoorIWr2
import Derived.Test.YtechmpdfbpehiaaGreatDoorIWr3
/- The writers of words, all kinds in one; justWords' writer by its contract. -/
namespace Go.Proofs.YtechmpdfbpehiaaGreatDoor
open Go.RowKit

def b0 (d : ByteArray) : Nat := (d.data.toList.headD 0).toNat
theorem b0_eq {d : ByteArray} (h : 0 < d.size) : b0 d = d[0].toNat := by
  have e := Nm.get_data h
  unfold b0
  cases hd : d.data.toList with
  | nil => rw [hd] at e; simp at e
  | cons x r => rw [hd] at e; simp at e; simp [e]

/-- The kinds of words: 0 a name, 1 a text, 2 a tag, 3 the rest, 4 and 5 addresses, k + 6 a number of k bytes. -/
def wrT (S4 S6 : ByteArray → ByteArray × Int) : Nat → ByteArray → ByteArray
  | 0, d => (Nm.showS (d.extract 0 ((Dt.sz .nm d).getD 0))).1
  | 1, d => showTextS (d.extract 1 (1 + b0 d))
  | 2, d => d.extract 1 (1 + b0 d)
  | 3, d => showTextS d
  | 4, d => (S4 (d.extract 0 4)).1
  | 5, d => (S6 (d.extract 0 16)).1
  | k + 6, d => decS (numL (d.extract 0 k).data.toList)
def wrN : Nat → ByteArray → Nat
  | 0, d => (Dt.sz .nm d).getD 0
  | 1, d => 1 + b0 d
  | 2, d => 1 + b0 d
  | 3, d => d.size
  | 4, _ => 4
  | 5, _ => 16
  | k + 6, _ => k
def wrOK : Nat → ByteArray → Prop
  | 0, d => (Dt.sz .nm d).isSome = true
  | 1, d => 0 < d.size ∧ 1 + b0 d ≤ d.size
  | 2, d => 0 < d.size ∧ 1 + b0 d ≤ d.size
  | 3, _ => True
  | 4, d => 4 ≤ d.size
  | 5, d => 16 ≤ d.size
  | k + 6, d => k ≤ 6 ∧ k ≤ d.size
/-- The value is the writer of that kind. -/
def WVal (w : World) : Nat → Value → Prop
  | 0, v => v = .func (.func 91) #[] #[]
  | 1, v => v = .func (.func 95) #[] #[]
  | 2, v => v = .func (.func 117) #[] #[]
  | 3, v => v = .func (.func 119) #[] #[]
  | 4, v => ∃ gs gk, v = .func (.func 107) #[] #[.pointer (some ⟨gs, 0, none⟩), .pointer (some ⟨gk, 0, none⟩)] ∧ w.cell? ⟨gs, 0, none⟩ = some (.func (.func 75) #[] #[]) ∧ w.cell? ⟨gk, 0, none⟩ = some (.int .i64 4)
  | 5, v => ∃ gs gk, v = .func (.func 107) #[] #[.pointer (some ⟨gs, 0, none⟩), .pointer (some ⟨gk, 0, none⟩)] ∧ w.cell? ⟨gs, 0, none⟩ = some (.func (.func 77) #[] #[]) ∧ w.cell? ⟨gk, 0, none⟩ = some (.int .i64 16)
  | k + 6, v => ∃ g, v = .func (.func 99) #[] #[.pointer (some ⟨g, 0, none⟩)] ∧ w.cell? ⟨g, 0, none⟩ = some (.int .i64 (k : Int))
/-- What the writers lean on. -/
def Shows (S4 S6 : ByteArray → ByteArray × Int) (w : World) : Prop := PowTab w ∧
  (∀ (s : ByteArray) (W : World), Below w.heap.size w W → Calls Tryz.prog 75 #[.string s] W fun e w' => e = .returned (.tuple #[.string (S4 s).1, .int .i64 (S4 s).2]) ∧ Below W.heap.size W w') ∧
  (∀ (s : ByteArray) (W : World), Below w.heap.size w W → Calls Tryz.prog 77 #[.string s] W fun e w' => e = .returned (.tuple #[.string (S6 s).1, .int .i64 (S6 s).2]) ∧ Below W.heap.size W w')

theorem wrN_le {K : Nat} {d : ByteArray} (h : wrOK K d) : wrN K d ≤ d.size := by
  match K, h with
  | 0, h =>
    obtain ⟨k, hk⟩ := Option.isSome_iff_exists.1 h
    have := Dt.sz_le hk
    simp only [wrN, hk, Option.getD_some]; exact this
  | 1, h => exact h.2
  | 2, h => exact h.2
  | 3, _ => exact Nat.le_refl _
  | 4, h => exact h
  | 5, h => exact h
  | k + 6, h => exact h.2

/-- The function that a writer calls. -/
def wrF (F : Nat) : Prop := F = 91 ∨ F = 95 ∨ F = 117 ∨ F = 119 ∨ F = 107 ∨ F = 99

theorem write_calls (S4 S6 : ByteArray → ByteArray × Int) {K : Nat} {d : ByteArray} {w : World} {v : Value} (hv : WVal w K v) (hok : wrOK K d) (hd : d.size ≤ 1000000) (hs : Shows S4 S6 w) :
    ∃ F cap, v = .func (.func F) #[] cap ∧ wrF F ∧ ∀ W, Below w.heap.size w W → Calls Tryz.prog F (#[.string d] ++ cap) W fun e w' => e = .returned (wrV (wrT S4 S6 K d) (wrN K d)) ∧ Below W.heap.size W w' := by
  have cellOf : ∀ {W : World} (hW : Below w.heap.size w W) {g : Nat} {u : Value}, w.cell? ⟨g, 0, none⟩ = some u → W.cell? ⟨g, 0, none⟩ = some u := fun {W} hW {g} {u} h => (hW.cell (World.block_lt_of_cell? w _ h)).trans h
  match K, hv, hok with
  | 0, hv, hok =>
    obtain ⟨k, hk⟩ := Option.isSome_iff_exists.1 hok
    refine ⟨_, _, hv, .inl rfl, fun W hW => ?_⟩
    simp only [wrT, wrN, hk, Option.getD_some]
    exact nameWrite_any d k W hk hd
  | 1, hv, hok =>
    refine ⟨_, _, hv, .inr (.inl rfl), fun W hW => ?_⟩
    obtain ⟨h0, h1⟩ := hok
    exact textWrite_any d (1 + b0 d) W h0 (by rw [b0_eq h0]) h1 hd
  | 2, hv, hok =>
    refine ⟨_, _, hv, .inr (.inr (.inl rfl)), fun W hW => ?_⟩
    obtain ⟨h0, h1⟩ := hok
    refine (tagWrite_any d (1 + b0 d) W h0 (by rw [b0_eq h0]) h1).mono ?_
    rintro e w' ⟨rfl, rfl⟩
    exact ⟨rfl, Below.refl _ _⟩
  | 3, hv, _ =>
    refine ⟨_, _, hv, .inr (.inr (.inr (.inl rfl))), fun W hW => ?_⟩
    exact restWrite_any d W hd
  | 4, hv, hok =>
    obtain ⟨gs, gk, hv, c1, c2⟩ := hv
    refine ⟨_, _, hv, .inr (.inr (.inr (.inr (.inl rfl)))), fun W hW => ?_⟩
    exact addrWriteV4_any d 4 gs gk W _ _ (cellOf hW c1) (cellOf hW c2) hok (fun W' hW' => (hs.2.1 _ W' (hW.trans (hW'.mono hW.size))).mono (fun e w' h => ⟨h.1, Nm.below_two hW' h.2⟩))
  | 5, hv, hok =>
    obtain ⟨gs, gk, hv, c1, c2⟩ := hv
    refine ⟨_, _, hv, .inr (.inr (.inr (.inr (.inl rfl)))), fun W hW => ?_⟩
    exact addrWriteV6_any d 16 gs gk W _ _ (cellOf hW c1) (cellOf hW c2) hok (fun W' hW' => (hs.2.2 _ W' (hW.trans (hW'.mono hW.size))).mono (fun e w' h => ⟨h.1, Nm.below_two hW' h.2⟩))
  | k + 6, hv, hok =>
    obtain ⟨g, hv, c1⟩ := hv
    refine ⟨_, _, hv, .inr (.inr (.inr (.inr (.inr rfl)))), fun W hW => ?_⟩
    exact numWrite_any d k g W (hs.1.below hW) (cellOf hW c1) hok.1 hok.2

def writeAll (S4 S6 : ByteArray → ByteArray × Int) : List Nat → ByteArray → List ByteArray
  | [], _ => []
  | K :: t, r => wrT S4 S6 K r :: writeAll S4 S6 t (r.extract (wrN K r) r.size)
def okAll : List Nat → ByteArray → Prop
  | [], _ => True
  | K :: t, r => wrOK K r ∧ okAll t (r.extract (wrN K r) r.size)
end Go.Proofs.YtechmpdfbpehiaaGreatDoor
