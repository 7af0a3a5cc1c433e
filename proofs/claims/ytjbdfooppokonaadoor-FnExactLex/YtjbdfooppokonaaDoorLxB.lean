/- The program's lexer: bytes. -/
import Derived.Test.YtjbdfooppokonaaDoorLxA
namespace Go.Proofs.YtjbdfooppokonaaDoor
open Go.RowKit
set_option linter.unusedVariables false

theorem u8_eq (c d : UInt8) : ((c.toNat : Int) == (d.toNat : Int)) = (c == d) := by
  rw [Bool.eq_iff_iff]
  simp only [beq_iff_eq]
  constructor
  · intro h
    exact UInt8.toNat_inj.1 (by omega)
  · rintro rfl
    rfl
theorem u8_yes {c : UInt8} {k : Nat} (h : c.toNat = k) : ((c.toNat : Int) == (k : Int)) = true := by simp [h]
theorem u8_not {c : UInt8} {k : Nat} (h : c.toNat ≠ k) : ((c.toNat : Int) == (k : Int)) = false := by simp; omega

set_option maxRecDepth 100000 in
set_option maxHeartbeats 400000 in
theorem isBlank_any (c : UInt8) (w : World) :
    Calls Tryd.prog 28 #[.int .u8 (c.toNat : Int)] w fun e w' => e = .returned (.bool (isBl c)) ∧ w' = w := by
  have e1 : ((c.toNat : Int) == 32) = (c == 32) := u8_eq c 32
  have e2 : ((c.toNat : Int) == 9) = (c == 9) := u8_eq c 9
  have e3 : ((c.toNat : Int) == 13) = (c == 13) := u8_eq c 13
  have hb : isBl c = (c == 32 || c == 9 || c == 13) := rfl
  rw [hb]
  clear hb
  cases h1 : (c == 32) <;> cases h2 : (c == 9) <;> cases h3 : (c == 13) <;> rw [h1] at e1 <;> rw [h2] at e2 <;> rw [h3] at e3 <;> clear h1 h2 h3 <;>
  · go_enter Tryd.func28, Tryd.ntmps28
    go_wp2
    go_ret
    exact ⟨rfl, rfl⟩

set_option maxRecDepth 100000 in
set_option maxHeartbeats 800000 in
theorem endsWord_any (c : UInt8) (w : World) :
    Calls Tryd.prog 40 #[.int .u8 (c.toNat : Int)] w fun e w' => e = .returned (.bool (isSp c)) ∧ w' = w := by
  have e1 : ((c.toNat : Int) == 10) = (c == 10) := u8_eq c 10
  have e2 : ((c.toNat : Int) == 59) = (c == 59) := u8_eq c 59
  have e3 : ((c.toNat : Int) == 40) = (c == 40) := u8_eq c 40
  have e4 : ((c.toNat : Int) == 41) = (c == 41) := u8_eq c 41
  have e5 : ((c.toNat : Int) == 34) = (c == 34) := u8_eq c 34
  have hib := fun W => isBlank_any c W
  have hb : isSp c = (isBl c || c == 10 || c == 59 || c == 40 || c == 41 || c == 34) := rfl
  rw [hb]
  clear hb
  generalize isBl c = b at *
  generalize (c == 10) = b1 at *
  generalize (c == 59) = b2 at *
  generalize (c == 40) = b3 at *
  generalize (c == 41) = b4 at *
  generalize (c == 34) = b5 at *
  cases b
  · cases b1
    · cases b2
      · cases b3
        · cases b4
          · cases b5 <;>
            · go_enter Tryd.func40, Tryd.ntmps40
              go_wp2_with (go_at_call 28; refine (hib _).mono ?_; rintro e w' ⟨rfl, rfl⟩)
              go_ret
              exact ⟨rfl, rfl⟩
          · go_enter Tryd.func40, Tryd.ntmps40
            go_wp2_with (go_at_call 28; refine (hib _).mono ?_; rintro e w' ⟨rfl, rfl⟩)
            go_ret
            exact ⟨rfl, rfl⟩
        · go_enter Tryd.func40, Tryd.ntmps40
          go_wp2_with (go_at_call 28; refine (hib _).mono ?_; rintro e w' ⟨rfl, rfl⟩)
          go_ret
          exact ⟨rfl, rfl⟩
      · go_enter Tryd.func40, Tryd.ntmps40
        go_wp2_with (go_at_call 28; refine (hib _).mono ?_; rintro e w' ⟨rfl, rfl⟩)
        go_ret
        exact ⟨rfl, rfl⟩
    · go_enter Tryd.func40, Tryd.ntmps40
      go_wp2_with (go_at_call 28; refine (hib _).mono ?_; rintro e w' ⟨rfl, rfl⟩)
      go_ret
      exact ⟨rfl, rfl⟩
  · go_enter Tryd.func40, Tryd.ntmps40
    go_wp2_with (go_at_call 28; refine (hib _).mono ?_; rintro e w' ⟨rfl, rfl⟩)
    go_ret
    exact ⟨rfl, rfl⟩

theorem gr_drew (w : World) (g : Nat) : w.grownBy w.drew (some g) := ⟨rfl, rfl, rfl, Nat.le_refl _, fun k _ _ => rfl⟩
theorem gr_drewN (w : World) (g k : Nat) : w.grownBy (w.drewN k) (some g) := ⟨rfl, rfl, rfl, Nat.le_refl _, fun k _ _ => rfl⟩
theorem u8_lit {c : UInt8} {k : Nat} (h : (UInt8.ofNat k) ≠ c) (hk : k < 256) : ((c.toNat : Int) == (k : Int)) = false := by
  rw [← Bool.not_eq_true, beq_iff_eq]
  intro e
  apply h
  apply UInt8.toNat_inj.1
  rw [UInt8.toNat_ofNat']
  omega

set_option maxRecDepth 100000 in
set_option maxHeartbeats 800000 in
theorem paren_open (g p n : Nat) (s : ByteArray) (w : World) (h : Lx w g s p n 0) (hp : p < s.size) (hs : s.size ≤ 1000000) (hc : s[p] = 40) :
    Calls Tryd.prog 31 #[.pointer (some ⟨g, 0, none⟩)] w fun e w' => e = .returned .nilIface ∧ Lx w' g s (p + 1) n n ∧ w.grownBy w' (some g) := by
  obtain ⟨c0, c1, c2, c3, hf⟩ := h.cells
  have hdr : Lx w.drew g s p n 0 := h
  have d4 : (s[p].toNat : Int) = 40 := by rw [hc]; rfl
  have HL := Nm.hide (((hdr.opn (q := 0)).opn (q := n)).at (q := p + 1))
  have HG := Nm.hide (gr_trans (gr_trans (gr_trans (gr_drew w g) (gr_set w.drew g 3 (.int .i64 ((0 : Nat) : Int)))) (gr_set _ g 3 (.int .i64 (n : Int)))) (gr_set _ g 1 (.int .i64 ((p + 1 : Nat) : Int))))
  go_enter Tryd.func31, Tryd.ntmps31
  go_wp2
  go_region
  go_wp2
  go_ret
  exact ⟨rfl, HL.out, HG.out⟩

set_option maxRecDepth 100000 in
set_option maxHeartbeats 800000 in
theorem paren_close (g p n o : Nat) (s : ByteArray) (w : World) (h : Lx w g s p n o) (hp : p < s.size) (hs : s.size ≤ 1000000) (hc : s[p] = 41) (ho : o ≠ 0) :
    Calls Tryd.prog 31 #[.pointer (some ⟨g, 0, none⟩)] w fun e w' => e = .returned .nilIface ∧ Lx w' g s (p + 1) n 0 ∧ w.grownBy w' (some g) := by
  obtain ⟨c0, c1, c2, c3, hf⟩ := h.cells
  have hdr : Lx w.drew g s p n o := h
  have d4 : (s[p].toNat : Int) = 41 := by rw [hc]; rfl
  have d5 : ((o : Int) == 0) = false := by simp; omega
  have HL := Nm.hide ((hdr.opn (q := 0)).at (q := p + 1))
  have HG := Nm.hide (gr_trans (gr_trans (gr_drew w g) (gr_set w.drew g 3 (.int .i64 ((0 : Nat) : Int)))) (gr_set _ g 1 (.int .i64 ((p + 1 : Nat) : Int))))
  go_enter Tryd.func31, Tryd.ntmps31
  go_wp2
  go_region
  go_wp2
  go_ret
  exact ⟨rfl, HL.out, HG.out⟩

set_option maxRecDepth 100000 in
set_option maxHeartbeats 800000 in
theorem paren_bad (g p n o : Nat) (s : ByteArray) (w : World) (h : Lx w g s p n o) (hp : p < s.size) (hs : s.size ≤ 1000000) (hc : (s[p] = 40 ∧ o ≠ 0) ∨ (s[p] = 41 ∧ o = 0)) :
    Calls Tryd.prog 31 #[.pointer (some ⟨g, 0, none⟩)] w fun e w' => e = .returned (linE n 14) ∧ w.grownBy w' (some g) := by
  obtain ⟨c0, c1, c2, c3, hf⟩ := h.cells
  have hfa := fault_any g p n o 14 s w.drew h
  rcases hc with ⟨hc, ho⟩ | ⟨hc, rfl⟩
  · have d4 : (s[p].toNat : Int) = 40 := by rw [hc]; rfl
    have d5 : ((o : Int) == 0) = false := by simp; omega
    go_enter Tryd.func31, Tryd.ntmps31
    go_wp2
    go_region
    go_wp2_with (go_at_call 38; refine hfa.mono ?_; rintro e w' ⟨rfl, rfl⟩)
    go_ret
    exact ⟨rfl, gr_drew w g⟩
  · have d4 : (s[p].toNat : Int) = 41 := by rw [hc]; rfl
    go_enter Tryd.func31, Tryd.ntmps31
    go_wp2
    go_region
    go_wp2_with (go_at_call 38; refine hfa.mono ?_; rintro e w' ⟨rfl, rfl⟩)
    go_ret
    exact ⟨rfl, gr_drew w g⟩

set_option maxRecDepth 100000 in
set_option maxHeartbeats 800000 in
theorem letter_one (g p n o : Nat) (s : ByteArray) (w : World) (h : Lx w g s p n o) (hp : p < s.size) (hs : s.size ≤ 1000000) (hc : s[p] ≠ 92) :
    Calls Tryd.prog 41 #[.pointer (some ⟨g, 0, none⟩)] w fun e w' => e = .returned .nilIface ∧ Lx w' g s (p + 1) n o ∧ w.grownBy w' (some g) := by
  obtain ⟨c0, c1, c2, c3, hf⟩ := h.cells
  have hdr : Lx w.drew g s p n o := h
  have d4 : ((s[p].toNat : Int) == 92) = false := u8_lit (k := 92) (fun e => hc e.symm) (by decide)
  have HL := Nm.hide (hdr.at (q := p + 1))
  have HG := Nm.hide (gr_trans (gr_drew w g) (gr_set w.drew g 1 (.int .i64 ((p + 1 : Nat) : Int))))
  go_enter Tryd.func41, Tryd.ntmps41
  go_wp2
  go_region
  go_wp2
  go_ret
  exact ⟨rfl, HL.out, HG.out⟩

set_option maxRecDepth 100000 in
set_option maxHeartbeats 800000 in
theorem letter_two (g p n o : Nat) (s : ByteArray) (w : World) (h : Lx w g s p n o) (hp : p + 1 < s.size) (hs : s.size ≤ 1000000) (hc : s[p] = 92) (hc2 : s[p + 1] ≠ 10) :
    Calls Tryd.prog 41 #[.pointer (some ⟨g, 0, none⟩)] w fun e w' => e = .returned .nilIface ∧ Lx w' g s (p + 2) n o ∧ w.grownBy w' (some g) := by
  obtain ⟨c0, c1, c2, c3, hf⟩ := h.cells
  have hdr : Lx w.drew.drew g s p n o := h
  have hp0 : p < s.size := by omega
  have d4 : (s[p].toNat : Int) = 92 := by rw [hc]; rfl
  have d5 : ((s[p + 1].toNat : Int) == 10) = false := u8_lit (k := 10) (fun e => hc2 e.symm) (by decide)
  have d6 : ((p : Int) + 1 == (s.size : Int)) = false := by simp; omega
  have i1 : 0 ≤ (p : Int) + 1 := by omega
  have i2 : (p : Int) + 1 < (s.size : Int) := by omega
  have HL := Nm.hide (hdr.at (q := p + 2))
  go_enter Tryd.func41, Tryd.ntmps41
  go_wp2
  go_region
  go_wp2
  go_quiet (fail)
  go_wp2
  go_ret
  exact ⟨rfl, HL.out, gr_trans (gr_drewN w g _) (gr_set _ g 1 (.int .i64 ((p + 2 : Nat) : Int)))⟩

set_option maxRecDepth 100000 in
set_option maxHeartbeats 800000 in
theorem letter_bad (g p n o : Nat) (s : ByteArray) (w : World) (h : Lx w g s p n o) (hp : p < s.size) (hs : s.size ≤ 1000000) (hc : s[p] = 92) (hc2 : ∀ h : p + 1 < s.size, s[p + 1] = 10) :
    Calls Tryd.prog 41 #[.pointer (some ⟨g, 0, none⟩)] w fun e w' => e = .returned (linE n 4) ∧ (∃ q, Lx w' g s q n o) ∧ w.grownBy w' (some g) := by
  obtain ⟨c0, c1, c2, c3, hf⟩ := h.cells
  have d4 : (s[p].toNat : Int) = 92 := by rw [hc]; rfl
  have hfa := fun k => fault_any g p n o 4 s (w.drewN k) h
  by_cases hp1 : p + 1 < s.size
  · have d5 : (s[p + 1].toNat : Int) = 10 := by rw [hc2 hp1]; rfl
    have d6 : ((p : Int) + 1 == (s.size : Int)) = false := by simp; omega
    have i1 : 0 ≤ (p : Int) + 1 := by omega
    have i2 : (p : Int) + 1 < (s.size : Int) := by omega
    clear hc2
    go_enter Tryd.func41, Tryd.ntmps41
    go_wp2
    go_region
    go_wp2
    go_quiet (fail)
    go_wp2_with (go_at_call 38; refine (hfa _).mono ?_; rintro e w' ⟨rfl, rfl⟩)
    go_ret
    exact ⟨rfl, ⟨p, h⟩, gr_drewN w g _⟩
  · have d6 : ((p : Int) + 1 == (s.size : Int)) = true := by simp; omega
    clear hc2
    go_enter Tryd.func41, Tryd.ntmps41
    go_wp2
    go_region
    go_wp2
    go_quiet (fail)
    go_wp2_with (go_at_call 38; refine (hfa _).mono ?_; rintro e w' ⟨rfl, rfl⟩)
    go_ret
    exact ⟨rfl, ⟨p, h⟩, gr_drewN w g _⟩
end Go.Proofs.YtjbdfooppokonaaDoor
