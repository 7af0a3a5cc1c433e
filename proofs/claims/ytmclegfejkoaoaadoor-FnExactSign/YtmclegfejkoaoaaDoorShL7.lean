import Derived.Test.YtmclegfejkoaoaaDoorJOwnT
/- spec.Sha256: the words of a round are added. -/
namespace Go.Proofs.YtmclegfejkoaoaaDoor
open Go.RowKit
set_option linter.unusedVariables false

def adA (h v : Sv) (i : Nat) : Array Value := ((List.range 8).map fun j => if j < i then wV (((svL h)[j]?).getD 0 + ((svL v)[j]?).getD 0) else wV (((svL h)[j]?).getD 0)).toArray
theorem adA_zero (h v : Sv) : adA h v 0 = hvA h := rfl
theorem adA_all (h v : Sv) : adA h v 8 = hvA (addSv h v) := rfl
theorem hvA_at (h : Sv) {j : Nat} (hj : j < 8) : (hvA h)[j]? = some (.int .u32 ((((svL h)[j]?).getD 0).toNat : Int)) := by
  match j, hj with
  | 0, _ | 1, _ | 2, _ | 3, _ | 4, _ | 5, _ | 6, _ | 7, _ => rfl
theorem adA_at {h v : Sv} {i j : Nat} (hij : ¬ j < i) (hj : j < 8) : (adA h v i)[j]? = some (.int .u32 ((((svL h)[j]?).getD 0).toNat : Int)) := by
  simp [adA, hj, hij, wV]
theorem adA_set {h v : Sv} {i : Nat} (hi : i < 8) : (adA h v i).setIfInBounds i (.int .u32 ((((svL h)[i]?).getD 0 + ((svL v)[i]?).getD 0).toNat : Int)) = adA h v (i + 1) := by
  apply Array.ext_getElem?
  intro j
  rw [Array.getElem?_setIfInBounds]
  by_cases hj : i = j
  · subst hj
    simp [adA, hi, wV]
  · rw [if_neg hj]
    by_cases hj8 : j < 8
    · simp only [adA, List.getElem?_toArray, List.getElem?_map, List.getElem?_range hj8, Option.map_some]
      by_cases h1 : j < i
      · rw [if_pos h1, if_pos (by omega)]
      · rw [if_neg h1, if_neg (by omega)]
    · simp [adA, hj8]

set_option maxRecDepth 1000000 in
set_option maxHeartbeats 16000000 in
theorem sha_add (p6 p15 : Nat) (hne : p15 ≠ p6) (h v : Sv) (Q0 : Exit → Act → World → Prop) (w : World) (k6 : Blk w p6 (hvA h) 67) (k15 : Blk w p15 (hvA v) 67)
    (s0 s1 s2 s3 s4 s5 s7 s8 s9 s10 s11 s12 s13 s14 s16 s17 s18 s19 s20 s21 s23 s24 s25 s26 s27 s28 s29 s30 s31 s32 s33 s34 s35 s36 s37 s38 s39 s40 s41 s42 s43 s44 s45 s46 s47 s48 s49 s50 s51 s52 s53 s54 s55 s56 s57 s58 s59 s60 s61 s62 s63 s64 s65 s66 s67 s68 s69 s70 s71 s72 s73 s74 s75 s76 s77 s78 s79 s80 s81 s82 s83 s84 s85 s86 s87 s88 s89 s90 s91 s92 s93 s94 s95 s96 s97 s98 s99 s100 s101 s102 s103 s104 s105 s106 s107 s108 s109 s110 s111 s112 s113 s114 s115 s116 s117 s118 s119 s120 s121 s122 s123 s124 s125 s126 s127 s128 s129 s130 s131 s132 s133 s134 s135 s136 s137 s138 s139 s140 s141 s142 s143 s144 s145 s146 s147 s148 s149 s150 s151 s152 s153 s154 s155 s156 s157 s158 s159 s160 s161 s162 s163 s164 s165 s166 s167 s168 s169 s170 s171 s172 s173 s174 s175 s176 s177 s178 s179 s180 s181 s182 s183 s184 s185 s186 s187 s188 s189 s190 s191 s192 s193 s194 s195 s196 s197 s198 s199 s200 s201 s202 s203 s204 s205 s206 s207 s208 s209 s210 s211 s212 s213 s214 s215 s216 s217 s218 s219 s220 s221 s222 s223 s224 s225 s226 s227 s228 s229 s230 s231 s232 s233 s234 s235 s236 s237 s238 s239 s240 s241 s242 s243 s244 s245 s246 s247 s248 s249 s250 s251 s252 s253 s254 s255 s256 s257 s258 s259 s260 s261 s262 s263 s264 s265 s266 : Value)
    (hexit : ∀ (u22 u235 u236 u237 u238 u239 u240 u241 u242 u243 u244 u245 u246 u247 : Value) (w' : World), Blk w' p6 (hvA (addSv h v)) 67 ∧ Only p6 w w' → Q0 (.exit 12) ⟨(s0 :: s1 :: s2 :: s3 :: s4 :: s5 :: .pointer (some ⟨p6, 0, none⟩) :: s7 :: s8 :: s9 :: s10 :: s11 :: s12 :: s13 :: s14 :: .pointer (some ⟨p15, 0, none⟩) :: s16 :: s17 :: s18 :: s19 :: s20 :: s21 :: u22 :: s23 :: s24 :: s25 :: s26 :: s27 :: s28 :: s29 :: s30 :: s31 :: s32 :: s33 :: s34 :: s35 :: s36 :: s37 :: s38 :: s39 :: s40 :: s41 :: s42 :: s43 :: s44 :: s45 :: s46 :: s47 :: s48 :: s49 :: s50 :: s51 :: s52 :: s53 :: s54 :: s55 :: s56 :: s57 :: s58 :: s59 :: s60 :: s61 :: s62 :: s63 :: s64 :: s65 :: s66 :: s67 :: s68 :: s69 :: s70 :: s71 :: s72 :: s73 :: s74 :: s75 :: s76 :: s77 :: s78 :: s79 :: s80 :: s81 :: s82 :: s83 :: s84 :: s85 :: s86 :: s87 :: s88 :: s89 :: s90 :: s91 :: s92 :: s93 :: s94 :: s95 :: s96 :: s97 :: s98 :: s99 :: s100 :: s101 :: s102 :: s103 :: s104 :: s105 :: s106 :: s107 :: s108 :: s109 :: s110 :: s111 :: s112 :: s113 :: s114 :: s115 :: s116 :: s117 :: s118 :: s119 :: s120 :: s121 :: s122 :: s123 :: s124 :: s125 :: s126 :: s127 :: s128 :: s129 :: s130 :: s131 :: s132 :: s133 :: s134 :: s135 :: s136 :: s137 :: s138 :: s139 :: s140 :: s141 :: s142 :: s143 :: s144 :: s145 :: s146 :: s147 :: s148 :: s149 :: s150 :: s151 :: s152 :: s153 :: s154 :: s155 :: s156 :: s157 :: s158 :: s159 :: s160 :: s161 :: s162 :: s163 :: s164 :: s165 :: s166 :: s167 :: s168 :: s169 :: s170 :: s171 :: s172 :: s173 :: s174 :: s175 :: s176 :: s177 :: s178 :: s179 :: s180 :: s181 :: s182 :: s183 :: s184 :: s185 :: s186 :: s187 :: s188 :: s189 :: s190 :: s191 :: s192 :: s193 :: s194 :: s195 :: s196 :: s197 :: s198 :: s199 :: s200 :: s201 :: s202 :: s203 :: s204 :: s205 :: s206 :: s207 :: s208 :: s209 :: s210 :: s211 :: s212 :: s213 :: s214 :: s215 :: s216 :: s217 :: s218 :: s219 :: s220 :: s221 :: s222 :: s223 :: s224 :: s225 :: s226 :: s227 :: s228 :: s229 :: s230 :: s231 :: s232 :: s233 :: s234 :: u235 :: u236 :: u237 :: u238 :: u239 :: u240 :: u241 :: u242 :: u243 :: u244 :: u245 :: u246 :: u247 :: s248 :: s249 :: s250 :: s251 :: s252 :: s253 :: s254 :: s255 :: s256 :: s257 :: s258 :: s259 :: s260 :: s261 :: s262 :: s263 :: s264 :: s265 :: s266 :: []).toArray, []⟩ w') :
    Code.wp Tryd.prog (Code.loop shL7) Q0 ⟨(s0 :: s1 :: s2 :: s3 :: s4 :: s5 :: .pointer (some ⟨p6, 0, none⟩) :: s7 :: s8 :: s9 :: s10 :: s11 :: s12 :: s13 :: s14 :: .pointer (some ⟨p15, 0, none⟩) :: s16 :: s17 :: s18 :: s19 :: s20 :: s21 :: .int .i64 0 :: s23 :: s24 :: s25 :: s26 :: s27 :: s28 :: s29 :: s30 :: s31 :: s32 :: s33 :: s34 :: s35 :: s36 :: s37 :: s38 :: s39 :: s40 :: s41 :: s42 :: s43 :: s44 :: s45 :: s46 :: s47 :: s48 :: s49 :: s50 :: s51 :: s52 :: s53 :: s54 :: s55 :: s56 :: s57 :: s58 :: s59 :: s60 :: s61 :: s62 :: s63 :: s64 :: s65 :: s66 :: s67 :: s68 :: s69 :: s70 :: s71 :: s72 :: s73 :: s74 :: s75 :: s76 :: s77 :: s78 :: s79 :: s80 :: s81 :: s82 :: s83 :: s84 :: s85 :: s86 :: s87 :: s88 :: s89 :: s90 :: s91 :: s92 :: s93 :: s94 :: s95 :: s96 :: s97 :: s98 :: s99 :: s100 :: s101 :: s102 :: s103 :: s104 :: s105 :: s106 :: s107 :: s108 :: s109 :: s110 :: s111 :: s112 :: s113 :: s114 :: s115 :: s116 :: s117 :: s118 :: s119 :: s120 :: s121 :: s122 :: s123 :: s124 :: s125 :: s126 :: s127 :: s128 :: s129 :: s130 :: s131 :: s132 :: s133 :: s134 :: s135 :: s136 :: s137 :: s138 :: s139 :: s140 :: s141 :: s142 :: s143 :: s144 :: s145 :: s146 :: s147 :: s148 :: s149 :: s150 :: s151 :: s152 :: s153 :: s154 :: s155 :: s156 :: s157 :: s158 :: s159 :: s160 :: s161 :: s162 :: s163 :: s164 :: s165 :: s166 :: s167 :: s168 :: s169 :: s170 :: s171 :: s172 :: s173 :: s174 :: s175 :: s176 :: s177 :: s178 :: s179 :: s180 :: s181 :: s182 :: s183 :: s184 :: s185 :: s186 :: s187 :: s188 :: s189 :: s190 :: s191 :: s192 :: s193 :: s194 :: s195 :: s196 :: s197 :: s198 :: s199 :: s200 :: s201 :: s202 :: s203 :: s204 :: s205 :: s206 :: s207 :: s208 :: s209 :: s210 :: s211 :: s212 :: s213 :: s214 :: s215 :: s216 :: s217 :: s218 :: s219 :: s220 :: s221 :: s222 :: s223 :: s224 :: s225 :: s226 :: s227 :: s228 :: s229 :: s230 :: s231 :: s232 :: s233 :: s234 :: s235 :: s236 :: s237 :: s238 :: s239 :: s240 :: s241 :: s242 :: s243 :: s244 :: s245 :: s246 :: s247 :: s248 :: s249 :: s250 :: s251 :: s252 :: s253 :: s254 :: s255 :: s256 :: s257 :: s258 :: s259 :: s260 :: s261 :: s262 :: s263 :: s264 :: s265 :: s266 :: []).toArray, []⟩ w := by
  conv => arg 2; arg 1; whnf
  go_loopw [22] (fun i wr => ∃ k : Nat, k ≤ 8 ∧ i = .int .i64 k ∧ Blk wr p6 (adA h v k) 67 ∧ Only p6 w wr) (fun i _ => 8 - (intOf i).toNat)
  case atStart => exact ⟨0, by omega, rfl, k6, Only.refl _ _⟩
  case round =>
    obtain ⟨k, hk, rfl, kk, hO⟩ := hrel
    have kv := hO.blk k15 hne
    clear k6 k15
    by_cases hlt : k < 8
    · have c6 := (blk_cell kk k).trans (adA_at (Nat.lt_irrefl k) hlt)
      have c15 := (blk_cell kv k).trans (hvA_at v hlt)
      have f6 := blk_frozen kk k
      have i1 : (0 : Int) ≤ (k : Int) := by omega
      have i2 : (k : Int) < 8 := by omega
      have kS := blk_set kk k (.int .u32 ((((svL h)[k]?).getD 0 + ((svL v)[k]?).getD 0).toNat : Int))
      rw [adA_set hlt] at kS
      have hOS := hO.set (i := k) (v := .int .u32 ((((svL h)[k]?).getD 0 + ((svL v)[k]?).getD 0).toNat : Int))
      generalize ((svL h)[k]?).getD 0 = x at *
      generalize ((svL v)[k]?).getD 0 = y at *
      clear hexit
      go_wp2
      go_region
      all_goals go_wp2
      rw [w_add x y]
      go_roundw
      case rel => exact ⟨k + 1, by omega, by go_num, blk_drew kS, hOS.drew⟩
      case measure => simp [intOf]; omega
    · obtain rfl : k = 8 := by omega
      rw [adA_all] at kk
      go_wp2
      exact ⟨kk, hO⟩
end Go.Proofs.YtmclegfejkoaoaaDoor
