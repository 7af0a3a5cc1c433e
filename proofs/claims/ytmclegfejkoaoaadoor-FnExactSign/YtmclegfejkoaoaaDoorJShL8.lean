import Derived.Test.YtmclegfejkoaoaaDoorJOwnT
import Derived.Test.YtmclegfejkoaoaaDoorJBitM
import Derived.Test.YtmclegfejkoaoaaDoorJIBg
import Derived.Deep.RegionHeld
import Derived.Test.YtmclegfejkoaoaaDoorRows
/- spec.Sha256: the words as bytes. -/
namespace Go.Proofs.YtmclegfejkoaoaaDoor
open Go.RowKit
set_option linter.unusedVariables false

def ouA (l : List UInt8) (i : Nat) : Array Value := ((List.range 32).map fun j => if j < i then .int .u8 (((l[j]?).getD 0).toNat : Int) else .int .u8 0).toArray
theorem ouA_zero (l : List UInt8) : ouA l 0 = Array.replicate 32 (.int .u8 0) := by
  simp only [ouA, Nat.not_lt_zero, if_false]
  rfl
theorem ouA_any {l : List UInt8} {i j : Nat} (hj : j < 32) : ∃ v, (ouA l i)[j]? = some v := by simp [ouA, hj]
theorem ouA_set {l : List UInt8} {i : Nat} (h : i < 32) : (ouA l i).setIfInBounds i (.int .u8 (((l[i]?).getD 0).toNat : Int)) = ouA l (i + 1) := by
  apply Array.ext_getElem?
  intro j
  rw [Array.getElem?_setIfInBounds]
  by_cases hj : i = j
  · subst hj
    simp [ouA, h]
  · rw [if_neg hj]
    by_cases hj32 : j < 32
    · simp only [ouA, List.getElem?_toArray, List.getElem?_map, List.getElem?_range hj32, Option.map_some]
      by_cases h1 : j < i
      · rw [if_pos h1, if_pos (by omega)]
      · rw [if_neg h1, if_neg (by omega)]
    · simp [ouA, hj32]
theorem outL_len (s : Sv) : (outL s).length = 32 := rfl
theorem ouA_all (s : Sv) : ouA (outL s) 32 = ((outL s).map fun c => Value.int .u8 (c.toNat : Int)).toArray := rfl
def byA (l : List UInt8) : Array Value := (l.map fun c => Value.int .u8 (c.toNat : Int)).toArray
theorem byA_size (l : List UInt8) : (byA l).size = l.length := by simp [byA]
theorem byA_one (l : List UInt8) : (byA l).all (·.oneCell') = true := Array.all_eq_true_iff_forall_mem.2 (fun v hv => by
  simp only [byA, List.mem_toArray, List.mem_map] at hv
  obtain ⟨c, _, rfl⟩ := hv
  rfl)
theorem ouA_byA (s : Sv) : ouA (outL s) 32 = byA (outL s) := ouA_all s
theorem all_rep8 (n : Nat) : (Array.replicate n (Value.int .u8 0)).all (·.oneCell') = true := Array.all_eq_true_iff_forall_mem.2 (fun v hv => by rw [(Array.mem_replicate.1 hv).2]; rfl)
theorem outL_at (s : Sv) {k : Nat} (h : k < 32) : ((outL s)[k]?).getD 0 = UInt8.ofNat ((((svL s)[k / 4]?).getD 0).toNat / 2 ^ (24 - 8 * (k % 4))) := by
  match k, h with
  | 0, _ | 1, _ | 2, _ | 3, _ | 4, _ | 5, _ | 6, _ | 7, _ | 8, _ | 9, _ | 10, _ | 11, _ | 12, _ | 13, _ | 14, _ | 15, _ | 16, _ | 17, _ | 18, _ | 19, _ | 20, _ | 21, _ | 22, _ | 23, _ | 24, _ | 25, _ | 26, _ | 27, _ | 28, _ | 29, _ | 30, _ | 31, _ => simp [outL, svL]
  | n + 32, h => exact absurd h (by omega)
theorem hvA_at8 (h : Sv) {j : Nat} (hj : j < 8) : (hvA h)[j]? = some (.int .u32 ((((svL h)[j]?).getD 0).toNat : Int)) := by
  match j, hj with
  | 0, _ | 1, _ | 2, _ | 3, _ | 4, _ | 5, _ | 6, _ | 7, _ => rfl

set_option maxRecDepth 1000000 in
set_option maxHeartbeats 16000000 in
theorem sha_bytes (p6 p23 : Nat) (hne : p6 ≠ p23) (h : Sv) (Q0 : Exit → Act → World → Prop) (w : World) (k6 : Blk w p6 (hvA h) 67) (k23 : Blk w p23 (ouA (outL h) 0) 41)
    (s0 s1 s2 s3 s4 s5 s7 s8 s9 s10 s11 s12 s13 s14 s15 s16 s17 s18 s19 s20 s21 s22 s25 s26 s27 s28 s29 s30 s31 s32 s33 s34 s35 s36 s37 s38 s39 s40 s41 s42 s43 s44 s45 s46 s47 s48 s49 s50 s51 s52 s53 s54 s55 s56 s57 s58 s59 s60 s61 s62 s63 s64 s65 s66 s67 s68 s69 s70 s71 s72 s73 s74 s75 s76 s77 s78 s79 s80 s81 s82 s83 s84 s85 s86 s87 s88 s89 s90 s91 s92 s93 s94 s95 s96 s97 s98 s99 s100 s101 s102 s103 s104 s105 s106 s107 s108 s109 s110 s111 s112 s113 s114 s115 s116 s117 s118 s119 s120 s121 s122 s123 s124 s125 s126 s127 s128 s129 s130 s131 s132 s133 s134 s135 s136 s137 s138 s139 s140 s141 s142 s143 s144 s145 s146 s147 s148 s149 s150 s151 s152 s153 s154 s155 s156 s157 s158 s159 s160 s161 s162 s163 s164 s165 s166 s167 s168 s169 s170 s171 s172 s173 s174 s175 s176 s177 s178 s179 s180 s181 s182 s183 s184 s185 s186 s187 s188 s189 s190 s191 s192 s193 s194 s195 s196 s197 s198 s199 s200 s201 s202 s203 s204 s205 s206 s207 s208 s209 s210 s211 s212 s213 s214 s215 s216 s217 s218 s219 s220 s221 s222 s223 s224 s225 s226 s227 s228 s229 s230 s231 s232 s233 s234 s235 s236 s237 s238 s239 s240 s241 s242 s243 s244 s245 s246 s247 s248 s249 s250 s251 s252 s253 s254 s255 s256 s257 s258 s259 s260 s261 s262 s263 s264 s265 s266 : Value)
    (hexit : ∀ (u24 u249 u250 u251 u252 u253 u254 u255 u256 u257 u258 u259 u260 u261 u262 u263 u264 u265 : Value) (w' : World), Blk w' p23 (ouA (outL h) 32) 41 ∧ Only p23 w w' → Q0 (.exit 14) ⟨(s0 :: s1 :: s2 :: s3 :: s4 :: s5 :: .pointer (some ⟨p6, 0, none⟩) :: s7 :: s8 :: s9 :: s10 :: s11 :: s12 :: s13 :: s14 :: s15 :: s16 :: s17 :: s18 :: s19 :: s20 :: s21 :: s22 :: .pointer (some ⟨p23, 0, none⟩) :: u24 :: s25 :: s26 :: s27 :: s28 :: s29 :: s30 :: s31 :: s32 :: s33 :: s34 :: s35 :: s36 :: s37 :: s38 :: s39 :: s40 :: s41 :: s42 :: s43 :: s44 :: s45 :: s46 :: s47 :: s48 :: s49 :: s50 :: s51 :: s52 :: s53 :: s54 :: s55 :: s56 :: s57 :: s58 :: s59 :: s60 :: s61 :: s62 :: s63 :: s64 :: s65 :: s66 :: s67 :: s68 :: s69 :: s70 :: s71 :: s72 :: s73 :: s74 :: s75 :: s76 :: s77 :: s78 :: s79 :: s80 :: s81 :: s82 :: s83 :: s84 :: s85 :: s86 :: s87 :: s88 :: s89 :: s90 :: s91 :: s92 :: s93 :: s94 :: s95 :: s96 :: s97 :: s98 :: s99 :: s100 :: s101 :: s102 :: s103 :: s104 :: s105 :: s106 :: s107 :: s108 :: s109 :: s110 :: s111 :: s112 :: s113 :: s114 :: s115 :: s116 :: s117 :: s118 :: s119 :: s120 :: s121 :: s122 :: s123 :: s124 :: s125 :: s126 :: s127 :: s128 :: s129 :: s130 :: s131 :: s132 :: s133 :: s134 :: s135 :: s136 :: s137 :: s138 :: s139 :: s140 :: s141 :: s142 :: s143 :: s144 :: s145 :: s146 :: s147 :: s148 :: s149 :: s150 :: s151 :: s152 :: s153 :: s154 :: s155 :: s156 :: s157 :: s158 :: s159 :: s160 :: s161 :: s162 :: s163 :: s164 :: s165 :: s166 :: s167 :: s168 :: s169 :: s170 :: s171 :: s172 :: s173 :: s174 :: s175 :: s176 :: s177 :: s178 :: s179 :: s180 :: s181 :: s182 :: s183 :: s184 :: s185 :: s186 :: s187 :: s188 :: s189 :: s190 :: s191 :: s192 :: s193 :: s194 :: s195 :: s196 :: s197 :: s198 :: s199 :: s200 :: s201 :: s202 :: s203 :: s204 :: s205 :: s206 :: s207 :: s208 :: s209 :: s210 :: s211 :: s212 :: s213 :: s214 :: s215 :: s216 :: s217 :: s218 :: s219 :: s220 :: s221 :: s222 :: s223 :: s224 :: s225 :: s226 :: s227 :: s228 :: s229 :: s230 :: s231 :: s232 :: s233 :: s234 :: s235 :: s236 :: s237 :: s238 :: s239 :: s240 :: s241 :: s242 :: s243 :: s244 :: s245 :: s246 :: s247 :: s248 :: u249 :: u250 :: u251 :: u252 :: u253 :: u254 :: u255 :: u256 :: u257 :: u258 :: u259 :: u260 :: u261 :: u262 :: u263 :: u264 :: u265 :: s266 :: []).toArray, []⟩ w') :
    Code.wp Tryd.prog (Code.loop shL8) Q0 ⟨(s0 :: s1 :: s2 :: s3 :: s4 :: s5 :: .pointer (some ⟨p6, 0, none⟩) :: s7 :: s8 :: s9 :: s10 :: s11 :: s12 :: s13 :: s14 :: s15 :: s16 :: s17 :: s18 :: s19 :: s20 :: s21 :: s22 :: .pointer (some ⟨p23, 0, none⟩) :: .int .i64 0 :: s25 :: s26 :: s27 :: s28 :: s29 :: s30 :: s31 :: s32 :: s33 :: s34 :: s35 :: s36 :: s37 :: s38 :: s39 :: s40 :: s41 :: s42 :: s43 :: s44 :: s45 :: s46 :: s47 :: s48 :: s49 :: s50 :: s51 :: s52 :: s53 :: s54 :: s55 :: s56 :: s57 :: s58 :: s59 :: s60 :: s61 :: s62 :: s63 :: s64 :: s65 :: s66 :: s67 :: s68 :: s69 :: s70 :: s71 :: s72 :: s73 :: s74 :: s75 :: s76 :: s77 :: s78 :: s79 :: s80 :: s81 :: s82 :: s83 :: s84 :: s85 :: s86 :: s87 :: s88 :: s89 :: s90 :: s91 :: s92 :: s93 :: s94 :: s95 :: s96 :: s97 :: s98 :: s99 :: s100 :: s101 :: s102 :: s103 :: s104 :: s105 :: s106 :: s107 :: s108 :: s109 :: s110 :: s111 :: s112 :: s113 :: s114 :: s115 :: s116 :: s117 :: s118 :: s119 :: s120 :: s121 :: s122 :: s123 :: s124 :: s125 :: s126 :: s127 :: s128 :: s129 :: s130 :: s131 :: s132 :: s133 :: s134 :: s135 :: s136 :: s137 :: s138 :: s139 :: s140 :: s141 :: s142 :: s143 :: s144 :: s145 :: s146 :: s147 :: s148 :: s149 :: s150 :: s151 :: s152 :: s153 :: s154 :: s155 :: s156 :: s157 :: s158 :: s159 :: s160 :: s161 :: s162 :: s163 :: s164 :: s165 :: s166 :: s167 :: s168 :: s169 :: s170 :: s171 :: s172 :: s173 :: s174 :: s175 :: s176 :: s177 :: s178 :: s179 :: s180 :: s181 :: s182 :: s183 :: s184 :: s185 :: s186 :: s187 :: s188 :: s189 :: s190 :: s191 :: s192 :: s193 :: s194 :: s195 :: s196 :: s197 :: s198 :: s199 :: s200 :: s201 :: s202 :: s203 :: s204 :: s205 :: s206 :: s207 :: s208 :: s209 :: s210 :: s211 :: s212 :: s213 :: s214 :: s215 :: s216 :: s217 :: s218 :: s219 :: s220 :: s221 :: s222 :: s223 :: s224 :: s225 :: s226 :: s227 :: s228 :: s229 :: s230 :: s231 :: s232 :: s233 :: s234 :: s235 :: s236 :: s237 :: s238 :: s239 :: s240 :: s241 :: s242 :: s243 :: s244 :: s245 :: s246 :: s247 :: s248 :: s249 :: s250 :: s251 :: s252 :: s253 :: s254 :: s255 :: s256 :: s257 :: s258 :: s259 :: s260 :: s261 :: s262 :: s263 :: s264 :: s265 :: s266 :: []).toArray, []⟩ w := by
  conv => arg 2; arg 1; whnf
  go_loopw [24] (fun i wr => ∃ k : Nat, k ≤ 32 ∧ i = .int .i64 k ∧ Blk wr p23 (ouA (outL h) k) 41 ∧ Only p23 w wr) (fun i _ => 32 - (intOf i).toNat)
  case atStart => exact ⟨0, by omega, rfl, k23, Only.refl _ _⟩
  case round =>
    obtain ⟨k, hk, rfl, kk, hO⟩ := hrel
    have kh := hO.blk k6 hne
    clear k6 k23
    by_cases hlt : k < 32
    · have c6 := (blk_cell kh (k / 4)).trans (hvA_at8 h (by omega))
      obtain ⟨v23, hv⟩ := ouA_any (l := outL h) (i := k) hlt
      have c23 := (blk_cell kk k).trans hv
      have f23 := blk_frozen kk k
      have HL := Nm.hide (outL_at h hlt)
      have kS := Nm.hide (show Blk (wr.setCell ⟨p23, k, none⟩ (.int .u8 ((((outL h)[k]?).getD 0).toNat : Int))) p23 (ouA (outL h) (k + 1)) 41 by
        have e := blk_set kk k (.int .u8 ((((outL h)[k]?).getD 0).toNat : Int))
        rw [ouA_set hlt] at e
        exact e)
      have hOS := Nm.hide (hO.set (i := k) (v := .int .u8 ((((outL h)[k]?).getD 0).toNat : Int)))
      have i1 : (0 : Int) ≤ (k : Int) := by omega
      have i2 : (k : Int) < 32 := by omega
      clear hexit hv
      generalize ((svL h)[k / 4]?).getD 0 = x at *
      go_wp2
      rw [show ((x.toNat : Int) / 2 ^ (24 - 8 * (k % 4)) % 256) = ((((outL h)[k]?).getD 0).toNat : Int) by
        rw [HL.out, UInt8.toNat_ofNat']
        rw [Int.natCast_emod, Int.natCast_ediv, Int.natCast_pow]
        rfl]
      go_roundw
      case rel => exact ⟨k + 1, by omega, by go_num, kS.out, hOS.out⟩
      case measure => simp [intOf]; omega
    · obtain rfl : k = 32 := by omega
      go_wp2
      exact ⟨kk, hO⟩
end Go.Proofs.YtmclegfejkoaoaaDoor
/- Signatures: mathematics. -/
namespace Go.Proofs.YtmclegfejkoaoaaDoor
open Go.RowKit
set_option linter.unusedVariables false

/-- the algorithm's name, as its bytes -/
abbrev algL : List UInt8 := [11, 104, 109, 97, 99, 45, 115, 104, 97, 50, 53, 54, 0]
/-- what is summed -/
def textL (rq body nf : List UInt8) (t f : Nat) : List UInt8 :=
  (if rq.length = 0 then [] else bigL rq.length 2 ++ rq) ++ body ++ nf ++ bigL 255 2 ++ bigL 0 4 ++ algL ++ bigL t 6 ++ bigL f 2 ++ [0, 0, 0, 0]
def sumL (sc rq body nf : List UInt8) (t f : Nat) : List UInt8 := hmacL sc (textL rq body nf t f)
/-- a signature's data -/
def datL (t f : Nat) (sum : List UInt8) (id : Nat) : List UInt8 := algL ++ bigL t 6 ++ bigL f 2 ++ bigL 32 2 ++ sum ++ bigL id 2 ++ [0, 0, 0, 0]
/-- a signature's record -/
def recL (nm dat : List UInt8) : List UInt8 := nm ++ bigL 250 2 ++ bigL 255 2 ++ bigL 0 4 ++ bigL dat.length 2 ++ dat
/-- a message's two numbers -/
def idN (m : List UInt8) : Nat := numL (m.take 2)
def ctN (m : List UInt8) : Nat := numL ((m.drop 10).take 2)
/-- a message that is signed -/
def signL (m nm nf sc rq : List UInt8) (t : Nat) : List UInt8 :=
  m.take 10 ++ bigL (ctN m + 1) 2 ++ m.drop 12 ++ recL nm (datL t 300 (sumL sc rq m nf t 300) (idN m))

theorem hmac_len (k b : List UInt8) : (hmacL k b).length = 32 := by rw [hmacL, shaL]; exact outL_len _
theorem big_len (v n : Nat) : (bigL v n).length = n := by simp [bigL]
theorem dat_len {t f id : Nat} {sum : List UInt8} (h : sum.length = 32) : (datL t f sum id).length = 61 := by simp [datL, big_len, h]
theorem rec_len {nm dat : List UInt8} (h : dat.length = 61) : (recL nm dat).length = nm.length + 71 := by simp [recL, big_len, h]
theorem big_two (a b : UInt8) : bigL (numL [a, b]) 2 = [a, b] := by
  have h : numL [a, b] = a.toNat * 256 + b.toNat := by simp [numL]
  have ha := a.toNat_lt
  have hb := b.toNat_lt
  rw [h]
  show [UInt8.ofNat ((a.toNat * 256 + b.toNat) / 2 ^ 8), UInt8.ofNat ((a.toNat * 256 + b.toNat) / 2 ^ 0)] = _
  have e1 : UInt8.ofNat ((a.toNat * 256 + b.toNat) / 2 ^ 8) = a := by
    apply UInt8.toNat_inj.1
    rw [UInt8.toNat_ofNat']
    omega
  have e2 : UInt8.ofNat ((a.toNat * 256 + b.toNat) / 2 ^ 0) = b := by
    apply UInt8.toNat_inj.1
    rw [UInt8.toNat_ofNat']
    omega
  rw [e1, e2]
theorem two_big {l : List UInt8} (h : l.length = 2) : bigL (numL l) 2 = l := by
  match l, h with
  | [a, b], _ => exact big_two a b
theorem num_two {l : List UInt8} (h : l.length = 2) : numL l < 65536 := by
  match l, h with
  | [a, b], _ =>
    have ha := a.toNat_lt
    have hb := b.toNat_lt
    simp [numL]
    omega
theorem ba_cat (a b : List UInt8) : (ByteArray.mk a.toArray) ++ (ByteArray.mk b.toArray) = ⟨(a ++ b).toArray⟩ := by
  apply ByteArray.ext
  simp
theorem ba_size (a : List UInt8) : (ByteArray.mk a.toArray).size = a.length := by show a.toArray.size = _; simp
theorem ba_mk (s : ByteArray) : (ByteArray.mk s.data.toList.toArray) = s := by
  apply ByteArray.ext
  simp
end Go.Proofs.YtmclegfejkoaoaaDoor
/- A region whose last operation, a store, may break what is held: everything else waits for nothing of it. -/
namespace Go.Proofs.YtmclegfejkoaoaaDoor
open Go

section
variable {P : Program} {ops : Array Oper} {Q : Exit → Act → World → Prop} {md : Region.Mode} {S : World → Prop} {L : Nat}

/-- Whatever order is picked from here on, and S holds behind every operation but number L. -/
def wpAnyL (P : Program) (md : Region.Mode) (ops : Array Oper) (Q : Exit → Act → World → Prop) (S : World → Prop) (L : Nat) : Nat → Array Bool → Act → World → Prop
  | 0, listed, a, w => Region.ready md ops listed = [] ∧ Q .normal a w
  | fuel + 1, listed, a, w =>
    (Region.ready md ops listed = [] → Q .normal a w) ∧
    ∀ i ∈ Region.ready md ops listed, wpOp P ops Q i (fun a' w' => (i = L ∨ S w') ∧ wpAnyL P md ops Q S L fuel (listed.setIfInBounds i true) a' w') a w

theorem wpAny_of_last : ∀ (fuel : Nat) (listed : Array Bool) (a : Act) (w : World), wpAnyL P md ops Q S L fuel listed a w → wpAny P md ops Q fuel listed a w
  | 0, _, _, _, h => h
  | fuel + 1, _, _, _, h => ⟨h.1, fun i hi => wpOp_mono (fun a' w' h' => wpAny_of_last fuel _ a' w' h'.2) (h.2 i hi)⟩

/-- Number L waits for number i. -/
def waitsFor (md : Region.Mode) (ops : Array Oper) (L i : Nat) : Bool := match ops[L]? with
  | some o => o.after.any (fun e => Region.binds md e && e.on == i)
  | none => true

/-- Of two that may come up neither waits for the other. -/
theorem ready_free {listed : Array Bool} {i j : Nat} {oj : Oper} (hi : i ∈ Region.ready md ops listed) (hj : j ∈ Region.ready md ops listed) (ho : ops[j]? = some oj) : ∀ e ∈ oj.after, Region.binds md e = true → e.on ≠ i := by
  rintro e he hb rfl
  obtain ⟨_, o, ho2, hall⟩ := mem_ready.1 hj
  obtain rfl : oj = o := Option.some.inj (ho.symm.trans ho2)
  have h1 := hall e he hb
  have h0 := (mem_ready.1 hi).1
  rw [Array.getD_eq_getD_getElem?] at h0 h1
  cases hx : listed[e.on]? with
  | none => rw [hx] at h1; cases h1
  | some b => rw [hx] at h0 h1; simp only [Option.getD_some] at h0 h1; rw [h0] at h1; cases h1

/-- So number L does not come up ahead of what it waits for. -/
theorem last_waits {listed : Array Bool} {i j : Nat} (hL : waitsFor md ops L i = true) (hi : i ∈ Region.ready md ops listed) (hj : j ∈ Region.ready md ops listed) : j ≠ L := by
  rintro rfl
  obtain ⟨_, o, ho, _⟩ := mem_ready.1 hj
  rw [waitsFor, ho] at hL
  simp only [Array.any_eq_true', Bool.and_eq_true, beq_iff_eq] at hL
  obtain ⟨e, he, hb, h⟩ := hL
  exact ready_free hi hj ho e he hb h

/-- What nobody touches that may come ahead of it. -/
def Untouched (md : Region.Mode) (ops : Array Oper) (oi : Oper) (i : Nat) (listed : Array Bool) : Prop := ∀ j oj, ops[j]? = some oj → j ≠ i → listed.getD j true = false → (∀ e ∈ oj.after, Region.binds md e = true → e.on ≠ i) → oi.apart ops oj = true

theorem Untouched.more {oi : Oper} {i j : Nat} {listed : Array Bool} (h : Untouched md ops oi i listed) (hj : listed.getD j true = false) : Untouched md ops oi i (listed.setIfInBounds j true) := by
  intro k ok hk hki hun
  refine h k ok hk hki ?_
  rcases Nat.decEq j k with hne | rfl
  · rw [getD_set_ne true hne] at hun; exact hun
  · exact hj

theorem wpAnyL_first {i : Nat} {oi : Oper} {v : Value} (hi : ops[i]? = some oi) (hsel : ∀ (j : Nat) (o : Oper) cs b, ops[j]? = some o → o.op ≠ .select cs b)
    (hQ : ∀ c a w, Q (.panic c) (a.put oi.dst v) w → Q (.panic c) a w) (hL : waitsFor md ops L i = true) (fuel : Nat) :
    ∀ (listed : Array Bool) (a : Act) (w : World), Untouched md ops oi i listed → i ∈ Region.ready md ops listed → YieldsIf P ops S oi v a → S w →
      wpAnyL P md ops Q S L fuel (listed.setIfInBounds i true) (a.put oi.dst v) w → wpAnyL P md ops Q S L (fuel + 1) listed a w := by
  induction fuel with
  | zero =>
    intro listed a w _ hr hy hS H
    refine ⟨fun h => absurd (h ▸ hr) (by simp), fun j hj => ?_⟩
    rcases Nat.decEq j i with hne | rfl
    · exact absurd (H.1 ▸ ready_mono hj hne) (by simp)
    · exact hy.wpOp hi hS ⟨.inr hS, H⟩
  | succ fuel ih =>
    intro listed a w hun hr hy hS H
    refine ⟨fun h => absurd (h ▸ hr) (by simp), fun j hj => ?_⟩
    rcases Nat.decEq j i with hne | rfl
    · obtain ⟨hju, oj, hoj, _⟩ := mem_ready.1 hj
      have hstep := wpOp_putIf hoj (hun j oj hoj hne hju (ready_free hr hj hoj)) (fun cs b => hsel i oi cs b hi) (fun cs b => hsel j oj cs b hoj) hQ hy (H.2 j (ready_mono hj hne))
      refine wpOp_mono (fun a' w' ⟨hy', hS', hW⟩ => ?_) hstep
      have hSw := hS'.resolve_left (last_waits hL hr hj)
      exact ⟨.inr hSw, ih _ a' w' (hun.more hju) (ready_mono hr (Ne.symm hne)) hy' hSw (by rw [Array.setIfInBounds_comm _ _ hne]; exact hW)⟩
    · exact hy.wpOp hi hS ⟨.inr hS, H⟩

/-- Take number i first. -/
theorem wpAnyL_take {i : Nat} {oi : Oper} {v : Value} {fuel : Nat} {listed : Array Bool} {a : Act} {w : World} (hi : ops[i]? = some oi)
    (hs : Region.noSelect ops = true) (hf : Region.free md ops listed i = true) (hr : (Region.ready md ops listed).contains i = true) (hL : waitsFor md ops L i = true)
    (hQ : ∀ c a w, Q (.panic c) (a.put oi.dst v) w → Q (.panic c) a w) (hy : YieldsIf P ops S oi v a) (hS : S w)
    (h : wpAnyL P md ops Q S L fuel (listed.setIfInBounds i true) (a.put oi.dst v) w) : wpAnyL P md ops Q S L (fuel + 1) listed a w :=
  wpAnyL_first hi (Region.noSelect_spec hs) hQ hL fuel listed a w (Region.free_spec hi hf) (by simpa using hr) hy hS h

/-- Just one may come up, and it is not number L. -/
theorem wpAnyL_one {i : Nat} {o : Oper} {fuel : Nat} {listed : Array Bool} {a : Act} {w : World} (hr : Region.ready md ops listed = [i]) (ho : ops[i]? = some o)
    (h : ∀ K' : Act → World → Prop, Shut (∀ a w, S w → (S w → wpAnyL P md ops Q S L fuel (listed.setIfInBounds i true) a w) → K' a w) → if Region.wanted o (yielded ops a.tmps) = true then Oper.wp P o a w K' Q else K' (a.put o.dst undef) w) :
    wpAnyL P md ops Q S L (fuel + 1) listed a w := by
  refine ⟨fun h0 => (by rw [hr] at h0; cases h0), fun j hj => ?_⟩
  rw [hr] at hj
  obtain rfl : j = i := by simpa using hj
  exact wpOp_step ho (fun K' hK => h K' (fun a w hS hW => hK a w ⟨.inr hS, hW hS⟩))

/-- Number L comes up, the last of all. -/
theorem wpAnyL_end {o : Oper} {fuel : Nat} {listed : Array Bool} {a : Act} {w : World} (hr : Region.ready md ops listed = [L]) (ho : ops[L]? = some o) (he : Region.ready md ops (listed.setIfInBounds L true) = [])
    (h : ∀ K' : Act → World → Prop, Shut (∀ a w, Q .normal a w → K' a w) → if Region.wanted o (yielded ops a.tmps) = true then Oper.wp P o a w K' Q else K' (a.put o.dst undef) w) :
    wpAnyL P md ops Q S L (fuel + 1) listed a w := by
  refine ⟨fun h0 => (by rw [hr] at h0; cases h0), fun j hj => ?_⟩
  rw [hr] at hj
  obtain rfl : j = L := by simpa using hj
  refine wpOp_step ho (fun K' hK => h K' (fun a w hq => hK a w ⟨.inl rfl, ?_⟩))
  cases fuel with
  | zero => exact ⟨he, hq⟩
  | succ n => exact ⟨fun _ => hq, by rw [he]; intro i hi; cases hi⟩

theorem wp_region_last {id : Nat} {a : Act} {w : World} (S : World → Prop) (L : Nat) (hm : P.follows .mixedOrders = true) (hS : S w.drew)
    (h : S w.drew → wpAnyL P .any ops Q S L ops.size (Array.replicate ops.size false) a w.drew) : (Code.region id ops true).wp P Q a w :=
  wp_region_any hm (wpAny_of_last _ _ _ _ (h hS))
end
end Go.Proofs.YtmclegfejkoaoaaDoor
