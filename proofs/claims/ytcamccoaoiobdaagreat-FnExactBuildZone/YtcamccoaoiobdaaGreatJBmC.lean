import Derived.Test.YtcamccoaoiobdaaGreatBmB
import Derived.Test.YtcamccoaoiobdaaGreatJTbGI
import Derived.Test.YtcamccoaoiobdaaGreatTrL
import Derived.RegionTactic
/- What is under what, in the order of names; owners below one with a tail: mathematics. -/
namespace Go.Proofs.YtcamccoaoiobdaaGreat
open Go.RowKit
set_option linter.unusedVariables false

/-- Labels from the root on begin so. -/
def preR : List ByteArray → List ByteArray → Bool
  | [], _ => true
  | _ :: _, [] => false
  | x :: a, y :: b => decide (Nm.ordS x y = 0) && preR a b
theorem preR_iff : ∀ (a c : List ByteArray), preR a c = (decide (a.length ≤ c.length) && decide (Nm.cmpRev (c.take a.length) a = 0))
  | [], c => by simp [preR, Nm.cmpRev]
  | x :: a, [] => by simp [preR]
  | x :: a, y :: c => by
    have e : Nm.ordS y x = 0 ↔ Nm.ordS x y = 0 := by rw [ordS_anti x y]; omega
    rw [preR, preR_iff a c]
    simp only [List.length_cons, List.take_succ_cons, Nm.cmpRev]
    by_cases h : Nm.ordS x y = 0
    · simp [h, e.2 h]
    · have h' : ¬ Nm.ordS y x = 0 := fun z => h (e.1 z)
      simp [h, h']
theorem under_pre (xs ys : List ByteArray) : underB xs ys = preR ys.reverse xs.reverse := by
  rw [preR_iff, underB, List.length_reverse, List.length_reverse, Nm.cmpLs]
  by_cases h : ys.length ≤ xs.length
  · have e : (xs.drop (xs.length - ys.length)).reverse = xs.reverse.take ys.length := by
      rw [List.take_reverse]
    rw [e]
  · rw [decide_eq_false h, Bool.false_and, Bool.false_and]
theorem preR_mid : ∀ (a b c : List ByteArray), preR a c = true → Nm.cmpRev a b ≤ 0 → Nm.cmpRev b c ≤ 0 → preR a b = true
  | [], b, c, _, _, _ => by simp [preR]
  | x :: a, b, [], h, _, _ => by simp [preR] at h
  | x :: a, [], z :: c, h, h1, _ => by simp [Nm.cmpRev] at h1
  | x :: a, y :: b, z :: c, h, h1, h2 => by
    simp only [preR, Bool.and_eq_true, decide_eq_true_eq] at h ⊢
    obtain ⟨h3, h4⟩ := h
    rw [Nm.cmpRev] at h1 h2
    have e1 := (ordS_swap h3 y).2
    have e2 := ordS_anti x y
    by_cases hxy : Nm.ordS x y = 0
    · rw [if_pos hxy] at h1
      rw [if_pos (by omega)] at h2
      exact ⟨hxy, preR_mid a b c h4 h1 h2⟩
    · rw [if_neg hxy] at h1
      rw [if_neg (by omega)] at h2
      omega
theorem preR_trans : ∀ (a b c : List ByteArray), preR a b = true → preR b c = true → preR a c = true
  | [], b, c, _, _ => by simp [preR]
  | x :: a, [], c, h, _ => by simp [preR] at h
  | x :: a, y :: b, [], _, h => by simp [preR] at h
  | x :: a, y :: b, z :: c, h1, h2 => by
    simp only [preR, Bool.and_eq_true, decide_eq_true_eq] at h1 h2 ⊢
    exact ⟨by rw [(ordS_swap h1.1 z).1]; exact h2.1, preR_trans a b c h1.2 h2.2⟩
theorem preR_le : ∀ (a c : List ByteArray), preR a c = true → Nm.cmpRev a c ≤ 0
  | [], [], _ => by simp [Nm.cmpRev]
  | [], y :: c, _ => by simp [Nm.cmpRev]
  | x :: a, [], h => by simp [preR] at h
  | x :: a, y :: c, h => by
    simp only [preR, Bool.and_eq_true, decide_eq_true_eq] at h
    rw [Nm.cmpRev, if_pos h.1]
    exact preR_le a c h.2
theorem under_mid {n t o : List ByteArray} (h : underB n t = true) (h1 : Nm.cmpLs t o < 0) (h2 : Nm.cmpLs o n < 0) : underB o t = true := by
  rw [under_pre] at h ⊢
  exact preR_mid _ _ _ h (by rw [Nm.cmpLs] at h1; omega) (by rw [Nm.cmpLs] at h2; omega)
theorem under_trans {a b c : List ByteArray} (h1 : underB a b = true) (h2 : underB b c = true) : underB a c = true := by
  rw [under_pre] at h1 h2 ⊢
  exact preR_trans _ _ _ h2 h1
theorem under_le {a b : List ByteArray} (h : underB a b = true) : Nm.cmpLs b a ≤ 0 := by
  rw [under_pre] at h
  exact preR_le _ _ h
theorem under_len {a b : List ByteArray} (h : underB a b = true) : b.length < a.length ↔ Nm.cmpLs a b ≠ 0 := by
  simp only [underB, Bool.and_eq_true, decide_eq_true_eq] at h
  constructor
  · intro h1 h2
    have := len_same h2
    omega
  · intro h1
    rcases Nat.lt_or_eq_of_le h.1 with h2 | h2
    · exact h2
    · exfalso
      apply h1
      have := h.2
      rw [h2, Nat.sub_self, List.drop_zero] at this
      exact this

def has39 (o : GOw) : Bool := isIn (sCmp 39) o.ss
/-- One owner more: the last one with a tail, and those below one. -/
def belStep (acc : Option GOw × List GOw) (o : GOw) : Option GOw × List GOw := match acc.1 with
  | some q => if underB o.lab q.lab then (some q, acc.2 ++ [o]) else if has39 o then (some o, acc.2) else (some q, acc.2)
  | none => if has39 o then (some o, acc.2) else (none, acc.2)
def belK (os : List GOw) : Option GOw × List GOw := os.foldl belStep (none, [])
theorem belK_snoc (os : List GOw) (o : GOw) : belK (os ++ [o]) = belStep (belK os) o := by simp [belK, List.foldl_append]
structure BelInv (pre : List GOw) : Prop where
  tail : ∀ q, (belK pre).1 = some q → q ∈ pre ∧ has39 q = true
  out : ∀ o ∈ pre, (o ∈ (belK pre).2 ↔ ∃ q ∈ pre, has39 q = true ∧ Nm.cmpLs o.lab q.lab ≠ 0 ∧ underB o.lab q.lab = true)
  sub : ∀ o ∈ (belK pre).2, o ∈ pre
  cov : ∀ q ∈ pre, has39 q = true → ∃ t, (belK pre).1 = some t ∧ ∀ n, (∀ p ∈ pre, Nm.cmpLs p.lab n < 0) → underB n q.lab = true → underB n t.lab = true
theorem snoc_ind {α : Type} {P : List α → Prop} (h0 : P []) (h1 : ∀ l a, P l → P (l ++ [a])) (l : List α) : P l := by
  have h : ∀ m : List α, P m.reverse := by
    intro m
    induction m with
    | nil => exact h0
    | cons a m ih => rw [List.reverse_cons]; exact h1 _ _ ih
  have h2 := h l.reverse
  rwa [List.reverse_reverse] at h2
theorem bel_inv : ∀ (pre : List GOw), OwS pre → BelInv pre := by
  refine snoc_ind (P := fun pre => OwS pre → BelInv pre) ?_ ?_
  · intro _; exact ⟨by simp [belK], by simp, by simp [belK], by simp⟩
  · intro pre o ih hs
    obtain ⟨hs1, _, hs2⟩ := List.pairwise_append.1 hs
    have hlt : ∀ p ∈ pre, Nm.cmpLs p.lab o.lab < 0 := fun p hp => hs2 p hp o (by simp)
    have I := ih hs1
    have hne : ∀ p ∈ pre, p ≠ o := fun p hp e => by
      have := hlt p hp
      rw [e, cmpLs_self] at this
      omega
    have up : ∀ p ∈ pre, underB p.lab o.lab = false := fun p hp => by
      cases h : underB p.lab o.lab with
      | false => rfl
      | true => have h1 := under_le h; have h2 := hlt p hp; have h3 := cmpLs_anti p.lab o.lab; omega
    have strict : ∀ q ∈ pre, Nm.cmpLs o.lab q.lab ≠ 0 := fun q hq => by have h1 := hlt q hq; have h2 := cmpLs_anti q.lab o.lab; omega
    have key : (∃ q ∈ pre, has39 q = true ∧ underB o.lab q.lab = true) ↔ ∃ t, (belK pre).1 = some t ∧ underB o.lab t.lab = true := by
      constructor
      · rintro ⟨q, hq, h1, h2⟩
        obtain ⟨t, ht, h3⟩ := I.cov q hq h1
        exact ⟨t, ht, h3 o.lab hlt h2⟩
      · rintro ⟨t, ht, h2⟩
        exact ⟨t, (I.tail t ht).1, (I.tail t ht).2, h2⟩
    have outs : ∀ (p : GOw) (t' : Option GOw) (out' : List GOw), p ∈ pre → (p ∈ out' ↔ p ∈ (belK pre).2) → (p ∈ out' ↔ ∃ q ∈ pre ++ [o], has39 q = true ∧ Nm.cmpLs p.lab q.lab ≠ 0 ∧ underB p.lab q.lab = true) := by
      intro p t' out' hp he
      rw [he, I.out p hp]
      constructor
      · rintro ⟨q, hq, h⟩; exact ⟨q, by simp [hq], h⟩
      · rintro ⟨q, hq, h1, h2, h3⟩
        rcases List.mem_append.1 hq with hq | hq
        · exact ⟨q, hq, h1, h2, h3⟩
        · obtain rfl := List.mem_singleton.1 hq
          rw [up p hp] at h3; cases h3
    by_cases hk : ∃ q ∈ pre, has39 q = true ∧ underB o.lab q.lab = true
    · obtain ⟨t, ht, hu⟩ := key.1 hk
      have e : belK (pre ++ [o]) = (some t, (belK pre).2 ++ [o]) := by
        rw [belK_snoc, belStep, ht]; simp [hu]
      refine ⟨fun q hq => ?_, fun p hp => ?_, fun p hp => ?_, fun q hq h1 => ?_⟩
      · rw [e] at hq
        obtain rfl := Option.some.inj hq
        exact ⟨by simp [(I.tail t ht).1], (I.tail t ht).2⟩
      · rw [e]
        rcases List.mem_append.1 hp with hp | hp
        · exact outs p none _ hp (by simp [hne p hp])
        · obtain rfl := List.mem_singleton.1 hp
          refine ⟨fun _ => ?_, fun _ => by simp⟩
          obtain ⟨q, hq, h1, h2⟩ := hk
          exact ⟨q, by simp [hq], h1, strict q hq, h2⟩
      · rw [e] at hp
        rcases List.mem_append.1 hp with hp | hp
        · simp [I.sub p hp]
        · simp at hp; simp [hp]
      · rw [e]
        refine ⟨t, rfl, fun n hn h2 => ?_⟩
        rcases List.mem_append.1 hq with hq | hq
        · obtain ⟨t2, ht2, h3⟩ := I.cov q hq h1
          rw [ht] at ht2
          obtain rfl := Option.some.inj ht2
          exact h3 n (fun p hp => hn p (by simp [hp])) h2
        · obtain rfl := List.mem_singleton.1 hq
          exact under_trans h2 hu
    · have hno : ¬ ∃ t, (belK pre).1 = some t ∧ underB o.lab t.lab = true := fun h => hk (key.2 h)
      have e2 : (belK (pre ++ [o])).2 = (belK pre).2 ∧ (belK (pre ++ [o])).1 = if has39 o then some o else (belK pre).1 := by
        rw [belK_snoc, belStep]
        cases ht : (belK pre).1 with
        | none => cases h : has39 o <;> simp
        | some t =>
          have hu : underB o.lab t.lab = false := by
            cases h : underB o.lab t.lab with
            | false => rfl
            | true => exact absurd ⟨t, ht, h⟩ hno
          cases h : has39 o <;> simp [hu]
      refine ⟨fun q hq => ?_, fun p hp => ?_, fun p hp => ?_, fun q hq h1 => ?_⟩
      · rw [e2.2] at hq
        by_cases h : has39 o = true
        · rw [if_pos h] at hq
          obtain rfl := Option.some.inj hq
          exact ⟨by simp, h⟩
        · rw [if_neg h] at hq
          exact ⟨by simp [(I.tail q hq).1], (I.tail q hq).2⟩
      · rw [e2.1]
        rcases List.mem_append.1 hp with hp | hp
        · exact outs p none _ hp Iff.rfl
        · obtain rfl := List.mem_singleton.1 hp
          constructor
          · intro h1
            exact absurd rfl (hne _ (I.sub _ h1))
          · rintro ⟨q, hq, h1, h2, h3⟩
            rcases List.mem_append.1 hq with hq | hq
            · exact absurd ⟨q, hq, h1, h3⟩ hk
            · obtain rfl := List.mem_singleton.1 hq
              exact absurd (cmpLs_self _) h2
      · rw [e2.1] at hp
        simp [I.sub p hp]
      · rw [e2.2]
        by_cases h : has39 o = true
        · rw [if_pos h]
          refine ⟨o, rfl, fun n hn h2 => ?_⟩
          rcases List.mem_append.1 hq with hq | hq
          · exfalso
            refine hk ⟨q, hq, h1, under_mid h2 (hlt q hq) (hn o (by simp))⟩
          · obtain rfl := List.mem_singleton.1 hq
            exact h2
        · rw [if_neg h]
          rcases List.mem_append.1 hq with hq | hq
          · obtain ⟨t, ht, h3⟩ := I.cov q hq h1
            exact ⟨t, ht, fun n hn => h3 n (fun p hp => hn p (by simp [hp]))⟩
          · obtain rfl := List.mem_singleton.1 hq
            exact absurd h1 h
end Go.Proofs.YtcamccoaoiobdaaGreat
/- The rules of a zone one by one; spec.l06Starred by its contract. -/
namespace Go.Proofs.YtcamccoaoiobdaaGreat
open Go.RowKit
set_option linter.unusedVariables false

def ru1 (l : List It) (fo : ByteArray) (i : Nat) (x : It) : Bool := !x.out && decide (x.r.ty = 6) && (decide (x.fo ≠ fo) || hasI (l.take i) fo 6)
def ru2 (x : It) : Bool := !x.out && starB x.fo && (decide (x.r.ty = 2) || decide (x.r.ty = 39))
def ru3 (l : List It) (i : Nat) (x : It) : Bool := !x.out && (decide (x.r.ty = 5) || decide (x.r.ty = 39)) && hasI (l.take i) x.fo x.r.ty
def ru4 (l : List It) (x : It) : Bool := !x.out && decide (x.r.ty ≠ 5) && decide (x.r.ty ≠ 47) && hasI l x.fo 5
def be5 (x y : It) : Bool := !y.out && decide (y.r.ty = 39) && decide (y.fo ≠ x.fo) && isUnderS x.fo y.fo
def ru5 (l : List It) (x : It) : Bool := !x.out && l.any fun y => be5 x y
theorem rulesI_eq (l : List It) (fo : ByteArray) : rulesI l fo =
  match firstI (ru1 l fo) l with
  | some i => (20, i)
  | none => if !hasI l fo 6 then (20, -1) else if !hasI l fo 2 then (21, -1) else
    match firstI (fun _ x => ru2 x) l with
    | some i => (26, i)
    | none => match firstI (ru3 l) l with
      | some i => (23, i)
      | none => match firstI (fun _ x => ru4 l x) l with
        | some i => (23, i)
        | none => match firstI (fun _ x => ru5 l x) l with
          | some i => (25, i)
          | none => (0, 0) := rfl
theorem first_next {p : Nat → It → Bool} {l : List It} {k : Nat} {x : It} (hno : ∀ (i : Nat) (y : It), i < k → l[i]? = some y → p i y = false) (hk : l[k]? = some x) (hp : p k x = false) : ∀ (i : Nat) (y : It), i < k + 1 → l[i]? = some y → p i y = false := by
  intro i y hi hy
  by_cases h : i = k
  · subst h
    rw [hk] at hy
    obtain rfl := Option.some.inj hy
    exact hp
  · exact hno i y (by omega) hy
theorem any_next {p : It → Bool} {l : List It} {k : Nat} {y : It} (h : (l.take k).any p = false) (hk : l[k]? = some y) (hp : p y = false) : (l.take (k + 1)).any p = false := by
  obtain ⟨hi, e⟩ := List.getElem?_eq_some_iff.1 hk
  rw [List.take_succ_eq_append_getElem hi, e, List.any_append, h]
  simp [hp]

set_option maxRecDepth 100000 in
set_option maxHeartbeats 1600000 in
theorem l06Starred_any (s : ByteArray) (w : World) (hs : s.size ≤ maxLen) : Calls Tryz.prog 40 #[.string s] w fun e w' => e = .returned (.bool (starB s)) ∧ w' = w := by
  unfold maxLen at hs
  obtain ⟨Q, hQ⟩ : ∃ Q, Q = starB s := ⟨_, rfl⟩
  rw [← hQ]
  unfold starB at hQ
  by_cases h1 : 1 < s.size
  · have i1 : (1 : Int) < (s.size : Int) := by omega
    rw [decide_eq_true h1, Bool.true_and, ← ba_eq] at hQ
    have HQ := Nm.hide hQ
    clear hQ
    go_enter Tryz.func40, Tryz.ntmps40
    go_wp2
    go_ret
    exact ⟨by rw [HQ.out, show (⟨#[1, 42]⟩ : ByteArray).toList = [1, 42] from by rw [ByteArray.toList_eq]]; rfl, rfl⟩
  · have i1 : (s.size : Int) ≤ 1 := by omega
    rw [decide_eq_false h1, Bool.false_and] at hQ
    subst hQ
    go_enter Tryz.func40, Tryz.ntmps40
    go_wp2
    go_ret
    exact ⟨rfl, rfl⟩
end Go.Proofs.YtcamccoaoiobdaaGreat
/- Records laid: a row of them; the first that breaks a rule. -/
namespace Go.Proofs.YtcamccoaoiobdaaGreat
open Go.RowKit
set_option linter.unusedVariables false

structure Ld where
  at_ : Nat
  ty : Int
  ob : Nat
  sb : Nat
def ldC (x : Ld) : List Value := [.int .i64 (x.at_ : Int), .int .i64 x.ty, .pointer (some ⟨x.ob, 0, none⟩), .pointer (some ⟨x.sb, 0, none⟩)]
def ldVs (l : List Ld) : List Value := l.flatMap ldC
theorem ld_at : ∀ (l : List Ld) (k j : Nat) (x : Ld), l[k]? = some x → j < 4 → (ldVs l)[k * 4 + j]? = (ldC x)[j]? := by
  intro l
  induction l with
  | nil => intro k j x h; simp at h
  | cons y l ih =>
    intro k j x h hj
    have e : ldVs (y :: l) = ldC y ++ ldVs l := by simp [ldVs]
    have hy : (ldC y).length = 4 := rfl
    rw [e]
    cases k with
    | zero =>
      simp at h
      subst h
      rw [List.getElem?_append_left (by omega)]
      simp
    | succ k =>
      simp at h
      rw [List.getElem?_append_right (by omega), hy, show (k + 1) * 4 + j - 4 = k * 4 + j by omega]
      exact ih k j x h hj
/-- The code and the place of the first that breaks. -/
def fstR (f : Ld → Bool) (code : Int) (l : List Ld) : Value := match l.find? f with
  | some x => .tuple #[.int .i64 code, .int .i64 (x.at_ : Int)]
  | none => .tuple #[.int .i64 0, .int .i64 0]
theorem fst_no {f : Ld → Bool} {code : Int} {l : List Ld} (h : ∀ j x, j < l.length → l[j]? = some x → f x = false) : fstR f code l = .tuple #[.int .i64 0, .int .i64 0] := by
  have : l.find? f = none := by
    rw [List.find?_eq_none]
    intro x hx
    obtain ⟨j, hj⟩ := List.mem_iff_getElem?.1 hx
    rw [h j x (List.getElem?_eq_some_iff.1 hj).1 hj]
    simp
  rw [fstR, this]
theorem fst_at {f : Ld → Bool} {code : Int} : ∀ {l : List Ld} {k : Nat} {x : Ld}, (∀ j y, j < k → l[j]? = some y → f y = false) → l[k]? = some x → f x = true → fstR f code l = .tuple #[.int .i64 code, .int .i64 (x.at_ : Int)] := by
  intro l
  induction l with
  | nil => intro k x _ h; simp at h
  | cons y l ih =>
    intro k x hno hx hf
    cases k with
    | zero =>
      simp at hx
      subst hx
      rw [fstR, List.find?_cons_of_pos hf]
    | succ k =>
      have hy : f y = false := hno 0 y (by omega) rfl
      have := ih (k := k) (x := x) (fun j z hj hz => hno (j + 1) z (by omega) (by simpa using hz)) (by simpa using hx) hf
      rw [fstR] at this ⊢
      rw [List.find?_cons_of_neg (by simp [hy])]
      exact this
end Go.Proofs.YtcamccoaoiobdaaGreat
