import Derived.Test.YtmclegfejkoaoaaDoorShL5
import Derived.Test.YtmclegfejkoaoaaDoorShL6
import Derived.Test.YtmclegfejkoaoaaDoorShL7
/- spec.Sha256: the blocks. -/
namespace Go.Proofs.YtmclegfejkoaoaaDoor
open Go.RowKit
set_option linter.unusedVariables false

set_option maxRecDepth 1000000 in
set_option maxHeartbeats 16000000 in
theorem sha_blocks (tb xc L nb p6 : Nat) (t : List UInt8) (hLn : Hid (L = 64 * nb)) (hne : tb ≠ p6) (hL : L ≤ 4000000) (Q0 : Exit → Act → World → Prop) (w : World) (hc : ∀ j, j < L → w.cell? ⟨tb, j, none⟩ = some (.int .u8 ((bW t j).toNat : Int))) (k6 : Blk w p6 (hvA H0) 67)
    (s0 s1 s2 s4 s5 s8 s9 s10 s11 s12 s13 s14 s15 s16 s17 s18 s19 s20 s21 s22 s23 s24 s25 s26 s27 s28 s29 s30 s31 s32 s33 s34 s35 s36 s37 s38 s39 s40 s41 s42 s43 s44 s45 s46 s47 s48 s49 s50 s51 s52 s53 s54 s55 s56 s57 s58 s59 s60 s61 s62 s63 s64 s65 s66 s67 s68 s69 s70 s71 s72 s73 s74 s75 s76 s77 s78 s79 s80 s81 s82 s83 s84 s85 s86 s87 s88 s89 s90 s91 s92 s93 s94 s95 s96 s97 s98 s99 s100 s101 s102 s103 s104 s105 s106 s107 s108 s109 s110 s111 s112 s113 s114 s115 s116 s117 s118 s119 s120 s121 s122 s123 s124 s125 s126 s127 s128 s129 s130 s131 s132 s133 s134 s135 s136 s137 s138 s139 s140 s141 s142 s143 s144 s145 s146 s147 s148 s149 s150 s151 s152 s153 s154 s155 s156 s157 s158 s159 s160 s161 s162 s163 s164 s165 s166 s167 s168 s169 s170 s171 s172 s173 s174 s175 s176 s177 s178 s179 s180 s181 s182 s183 s184 s185 s186 s187 s188 s189 s190 s191 s192 s193 s194 s195 s196 s197 s198 s199 s200 s201 s202 s203 s204 s205 s206 s207 s208 s209 s210 s211 s212 s213 s214 s215 s216 s217 s218 s219 s220 s221 s222 s223 s224 s225 s226 s227 s228 s229 s230 s231 s232 s233 s234 s235 s236 s237 s238 s239 s240 s241 s242 s243 s244 s245 s246 s247 s248 s249 s250 s251 s252 s253 s254 s255 s256 s257 s258 s259 s260 s261 s262 s263 s264 s265 s266 : Value)
    (hexit : ∀ (u7 u8 u9 u10 u11 u12 u13 u14 u15 u16 u17 u18 u19 u20 u21 u22 u65 u66 u67 u68 u69 u70 u71 u72 u73 u74 u75 u76 u77 u78 u79 u80 u81 u82 u83 u84 u85 u86 u87 u88 u89 u90 u91 u92 u93 u94 u95 u96 u97 u98 u99 u100 u101 u102 u103 u104 u105 u106 u107 u108 u109 u110 u111 u112 u113 u114 u115 u116 u117 u118 u119 u120 u121 u122 u123 u124 u125 u126 u127 u128 u129 u130 u131 u132 u133 u134 u135 u136 u137 u138 u139 u140 u141 u142 u143 u144 u145 u146 u147 u148 u149 u150 u151 u152 u153 u154 u155 u156 u157 u158 u159 u160 u161 u162 u163 u164 u165 u166 u167 u168 u169 u170 u171 u172 u173 u174 u175 u176 u177 u178 u179 u180 u181 u182 u183 u184 u185 u186 u187 u188 u189 u190 u191 u192 u193 u194 u195 u196 u197 u198 u199 u200 u201 u202 u203 u204 u205 u206 u207 u208 u209 u210 u211 u212 u213 u214 u215 u216 u217 u218 u219 u220 u221 u222 u223 u224 u225 u226 u227 u228 u229 u230 u231 u232 u233 u234 u235 u236 u237 u238 u239 u240 u241 u242 u243 u244 u245 u246 u247 : Value) (w' : World), Blk w' p6 (hvA (hashW t nb)) 67 ∧ Only p6 w w' → Q0 (.exit 6) ⟨(s0 :: s1 :: s2 :: .slice (some ⟨tb, 0, none⟩) L xc :: s4 :: s5 :: .pointer (some ⟨p6, 0, none⟩) :: u7 :: u8 :: u9 :: u10 :: u11 :: u12 :: u13 :: u14 :: u15 :: u16 :: u17 :: u18 :: u19 :: u20 :: u21 :: u22 :: s23 :: s24 :: s25 :: s26 :: s27 :: s28 :: s29 :: s30 :: s31 :: s32 :: s33 :: s34 :: s35 :: s36 :: s37 :: s38 :: s39 :: s40 :: s41 :: s42 :: s43 :: s44 :: s45 :: s46 :: s47 :: s48 :: s49 :: s50 :: s51 :: s52 :: s53 :: s54 :: s55 :: s56 :: s57 :: s58 :: s59 :: s60 :: s61 :: s62 :: s63 :: s64 :: u65 :: u66 :: u67 :: u68 :: u69 :: u70 :: u71 :: u72 :: u73 :: u74 :: u75 :: u76 :: u77 :: u78 :: u79 :: u80 :: u81 :: u82 :: u83 :: u84 :: u85 :: u86 :: u87 :: u88 :: u89 :: u90 :: u91 :: u92 :: u93 :: u94 :: u95 :: u96 :: u97 :: u98 :: u99 :: u100 :: u101 :: u102 :: u103 :: u104 :: u105 :: u106 :: u107 :: u108 :: u109 :: u110 :: u111 :: u112 :: u113 :: u114 :: u115 :: u116 :: u117 :: u118 :: u119 :: u120 :: u121 :: u122 :: u123 :: u124 :: u125 :: u126 :: u127 :: u128 :: u129 :: u130 :: u131 :: u132 :: u133 :: u134 :: u135 :: u136 :: u137 :: u138 :: u139 :: u140 :: u141 :: u142 :: u143 :: u144 :: u145 :: u146 :: u147 :: u148 :: u149 :: u150 :: u151 :: u152 :: u153 :: u154 :: u155 :: u156 :: u157 :: u158 :: u159 :: u160 :: u161 :: u162 :: u163 :: u164 :: u165 :: u166 :: u167 :: u168 :: u169 :: u170 :: u171 :: u172 :: u173 :: u174 :: u175 :: u176 :: u177 :: u178 :: u179 :: u180 :: u181 :: u182 :: u183 :: u184 :: u185 :: u186 :: u187 :: u188 :: u189 :: u190 :: u191 :: u192 :: u193 :: u194 :: u195 :: u196 :: u197 :: u198 :: u199 :: u200 :: u201 :: u202 :: u203 :: u204 :: u205 :: u206 :: u207 :: u208 :: u209 :: u210 :: u211 :: u212 :: u213 :: u214 :: u215 :: u216 :: u217 :: u218 :: u219 :: u220 :: u221 :: u222 :: u223 :: u224 :: u225 :: u226 :: u227 :: u228 :: u229 :: u230 :: u231 :: u232 :: u233 :: u234 :: u235 :: u236 :: u237 :: u238 :: u239 :: u240 :: u241 :: u242 :: u243 :: u244 :: u245 :: u246 :: u247 :: s248 :: s249 :: s250 :: s251 :: s252 :: s253 :: s254 :: s255 :: s256 :: s257 :: s258 :: s259 :: s260 :: s261 :: s262 :: s263 :: s264 :: s265 :: s266 :: []).toArray, []⟩ w') :
    Code.wp Tryd.prog (Code.loop shL4) Q0 ⟨(s0 :: s1 :: s2 :: .slice (some ⟨tb, 0, none⟩) L xc :: s4 :: s5 :: .pointer (some ⟨p6, 0, none⟩) :: .int .i64 0 :: s8 :: s9 :: s10 :: s11 :: s12 :: s13 :: s14 :: s15 :: s16 :: s17 :: s18 :: s19 :: s20 :: s21 :: s22 :: s23 :: s24 :: s25 :: s26 :: s27 :: s28 :: s29 :: s30 :: s31 :: s32 :: s33 :: s34 :: s35 :: s36 :: s37 :: s38 :: s39 :: s40 :: s41 :: s42 :: s43 :: s44 :: s45 :: s46 :: s47 :: s48 :: s49 :: s50 :: s51 :: s52 :: s53 :: s54 :: s55 :: s56 :: s57 :: s58 :: s59 :: s60 :: s61 :: s62 :: s63 :: s64 :: s65 :: s66 :: s67 :: s68 :: s69 :: s70 :: s71 :: s72 :: s73 :: s74 :: s75 :: s76 :: s77 :: s78 :: s79 :: s80 :: s81 :: s82 :: s83 :: s84 :: s85 :: s86 :: s87 :: s88 :: s89 :: s90 :: s91 :: s92 :: s93 :: s94 :: s95 :: s96 :: s97 :: s98 :: s99 :: s100 :: s101 :: s102 :: s103 :: s104 :: s105 :: s106 :: s107 :: s108 :: s109 :: s110 :: s111 :: s112 :: s113 :: s114 :: s115 :: s116 :: s117 :: s118 :: s119 :: s120 :: s121 :: s122 :: s123 :: s124 :: s125 :: s126 :: s127 :: s128 :: s129 :: s130 :: s131 :: s132 :: s133 :: s134 :: s135 :: s136 :: s137 :: s138 :: s139 :: s140 :: s141 :: s142 :: s143 :: s144 :: s145 :: s146 :: s147 :: s148 :: s149 :: s150 :: s151 :: s152 :: s153 :: s154 :: s155 :: s156 :: s157 :: s158 :: s159 :: s160 :: s161 :: s162 :: s163 :: s164 :: s165 :: s166 :: s167 :: s168 :: s169 :: s170 :: s171 :: s172 :: s173 :: s174 :: s175 :: s176 :: s177 :: s178 :: s179 :: s180 :: s181 :: s182 :: s183 :: s184 :: s185 :: s186 :: s187 :: s188 :: s189 :: s190 :: s191 :: s192 :: s193 :: s194 :: s195 :: s196 :: s197 :: s198 :: s199 :: s200 :: s201 :: s202 :: s203 :: s204 :: s205 :: s206 :: s207 :: s208 :: s209 :: s210 :: s211 :: s212 :: s213 :: s214 :: s215 :: s216 :: s217 :: s218 :: s219 :: s220 :: s221 :: s222 :: s223 :: s224 :: s225 :: s226 :: s227 :: s228 :: s229 :: s230 :: s231 :: s232 :: s233 :: s234 :: s235 :: s236 :: s237 :: s238 :: s239 :: s240 :: s241 :: s242 :: s243 :: s244 :: s245 :: s246 :: s247 :: s248 :: s249 :: s250 :: s251 :: s252 :: s253 :: s254 :: s255 :: s256 :: s257 :: s258 :: s259 :: s260 :: s261 :: s262 :: s263 :: s264 :: s265 :: s266 :: []).toArray, []⟩ w := by
  have hz64 : ∀ W, (zeroValue 68).run Tryd.prog W = .ok (.agg (Array.replicate 64 (.int .u32 0))) W := by
    have := zero_of_info (P := Tryd.prog) (t := 68) (v := .agg (Array.replicate 64 (.int .u32 0))) (n := 64) (by kernel_rfl)
    exact this.1
  have hinf : (Tryd.prog.info? 68).map (·.size) = some (Array.replicate 64 (Value.int .u32 0)).size := by
    rw [Array.size_replicate]
    kernel_rfl
  conv => arg 2; arg 1; whnf
  go_loopw [7] (fun i wr => ∃ n A : Nat, Hid (A = 64 * n) ∧ n ≤ nb ∧ i = .int .i64 A ∧ Blk wr p6 (hvA (hashW t n)) 67 ∧ Only p6 w wr) (fun i _ => L - (intOf i).toNat)
  case atStart => exact ⟨0, 0, rfl, by omega, rfl, k6, Only.refl _ _⟩
  case round =>
    obtain ⟨n, A, HA, hn, rfl, kk, hO⟩ := hrel
    clear k6
    by_cases hlt : A < L
    · clear hexit
      have i1 : (0 : Int) ≤ (A : Int) := by omega
      have i2 : (A : Int) < (L : Int) := by omega
      have hA64 : A + 64 ≤ L := by have := HA.out; have := hLn.out; omega
      have HR := Nm.hide (show hashW t (n + 1) = addSv (hashW t n) (roundsW (fun i => wordAt t (A + 4 * i)) (hashW t n) 64) by rw [HA.out]; rfl)
      have hn1 : n + 1 ≤ nb := by have := HA.out; have := hLn.out; omega
      generalize hashW t n = h at *
      have hcr := fun j hj => hO.cell hne (hc j hj)
      have htb : tb < wr.heap.size := World.block_lt_of_cell? wr _ (hcr 0 (by omega))
      have hp6 := blk_lt kk
      clear hc
      go_wp2_with (refine wpList_store_blk (.tmp 8) (.tmp 71) 68 rfl rfl rfl wr.heap.size _ _ (blk_new _ _ _) rfl rfl hinf (by simp) (all_rep 64) ?_; intro w2 k2 o2)
      rw [← wA_zero (fun i => wordAt t (A + 4 * i))] at k2
      have hO2 := (hO.alloc _).then o2 (.inr hO.size)
      have kk2 := o2.blk (blk_alloc kk _) (Nat.ne_of_lt hp6)
      have hc2 := fun j hj => o2.cell (Nat.ne_of_lt htb) (((Below.refl _ wr).alloc (Nat.le_refl _) _).cell htb |>.trans (hcr j hj))
      have hs2 := o2.size
      have hws := hO.size
      rw [World.size_alloc] at hs2
      clear o2 kk hcr hO
      generalize hp8 : wr.heap.size = p8 at *
      clear hp8
      refine sha_words tb xc L A p8 t (Nat.ne_of_lt htb) hA64 hL _ _ hc2 k2 _ _ _ _ _ _ _ _ _ _ _ _ _ _ _ _ _ _ _ _ _ _ _ _ _ _ _ _ _ _ _ _ _ _ _ _ _ _ _ _ _ _ _ _ _ _ _ _ _ _ _ _ _ _ _ _ _ _ _ _ _ _ _ _ _ _ _ _ _ _ _ _ _ _ _ _ _ _ _ _ _ _ _ _ _ _ _ _ _ _ _ _ _ _ _ _ _ _ _ _ _ _ _ _ _ _ _ _ _ _ _ _ _ _ _ _ _ _ _ _ _ _ _ _ _ _ _ _ _ _ _ _ _ _ _ _ _ _ _ _ _ _ _ _ _ _ _ _ _ _ _ _ _ _ _ _ _ _ _ _ _ _ _ _ _ _ _ _ _ _ _ _ _ _ _ _ _ _ _ _ _ _ _ _ _ _ _ _ _ _ _ _ _ _ _ _ _ _ _ _ _ _ _ _ _ _ _ _ _ _ _ _ _ _ _ _ _ _ _ _ _ _ _ _ _ _ _ _ _ _ _ _ _ _ _ _ _ _ _ _ _ _ _ _ _ _ _ _ _ _ _ _ _ _ _ _ _ _ _ _ _ _ _ ?_
      intro u9 u10 u11 u12 u13 u14 u72 u73 u74 u75 u76 u77 u78 u79 u80 u81 u82 u83 u84 u85 u86 u87 u88 u89 u90 u91 u92 u93 u94 u95 u96 u97 u98 u99 u100 u101 u102 u103 u104 u105 u106 u107 u108 u109 u110 u111 u112 u113 u114 u115 u116 u117 u118 u119 u120 u121 u122 u123 u124 u125 u126 u127 u128 u129 u130 u131 u132 u133 u134 u135 u136 u137 u138 u139 u140 u141 u142 u143 u144 u145 u146 u147 u148 u149 u150 u151 w3
      rintro ⟨k3, o3⟩
      have kk3 := o3.blk kk2 (Nat.ne_of_lt hp6)
      have hO3 := hO2.then o3 (.inr hws)
      have hl3 := o3.size
      clear o3 kk2 hc2 hO2 k2 hs2
      obtain ⟨c0, c1, c2, c3, c4, c5, c6, c7⟩ := hvA_cells kk3
      obtain ⟨m, hm⟩ : ∃ m : Nat → Wd, (fun i => wordAt t (A + 4 * i)) = m := ⟨_, rfl⟩
      rw [hm] at HR k3
      have hp8' := blk_lt k3
      clear hm
      go_wp2
      have k5 : Blk (w3.alloc (.cells (hvA h) 67)) w3.heap.size (hvA h) 67 := blk_new _ _ _
      have k8 := blk_alloc k3 (.cells (hvA h) 67)
      have k6 := blk_alloc kk3 (.cells (hvA h) 67)
      have hO4 := hO3.alloc (.cells (hvA h) 67)
      have hz := World.size_alloc w3 (.cells (hvA h) 67)
      clear c0 c1 c2 c3 c4 c5 c6 c7 hO3 kk3 k3
      have hp6' : p6 < w3.heap.size := by omega
      generalize hq : w3.heap.size = p15 at *
      refine sha_rounds p8 p15 (Nat.ne_of_lt hp8') m h _ _ k8 k5 _ _ _ _ _ _ _ _ _ _ _ _ _ _ _ _ _ _ _ _ _ _ _ _ _ _ _ _ _ _ _ _ _ _ _ _ _ _ _ _ _ _ _ _ _ _ _ _ _ _ _ _ _ _ _ _ _ _ _ _ _ _ _ _ _ _ _ _ _ _ _ _ _ _ _ _ _ _ _ _ _ _ _ _ _ _ _ _ _ _ _ _ _ _ _ _ _ _ _ _ _ _ _ _ _ _ _ _ _ _ _ _ _ _ _ _ _ _ _ _ _ _ _ _ _ _ _ _ _ _ _ _ _ _ _ _ _ _ _ _ _ _ _ _ _ _ _ _ _ _ _ _ _ _ _ _ _ _ _ _ _ _ _ _ _ _ _ _ _ _ _ _ _ _ _ _ _ _ _ _ _ _ _ _ _ _ _ _ _ _ _ _ _ _ _ _ _ _ _ _ _ _ _ _ _ _ _ _ _ _ _ _ _ _ _ _ _ _ _ _ _ _ _ _ _ _ _ _ _ _ _ _ _ _ _ _ _ _ _ _ _ _ _ _ _ _ _ _ _ _ _ _ _ _ _ _ _ _ _ _ _ _ _ _ ?_
      intro u16 u17 u18 u19 u20 u21 u153 u154 u155 u156 u157 u158 u159 u160 u161 u162 u163 u164 u165 u166 u167 u168 u169 u170 u171 u172 u173 u174 u175 u176 u177 u178 u179 u180 u181 u182 u183 u184 u185 u186 u187 u188 u189 u190 u191 u192 u193 u194 u195 u196 u197 u198 u199 u200 u201 u202 u203 u204 u205 u206 u207 u208 u209 u210 u211 u212 u213 u214 u215 u216 u217 u218 u219 u220 u221 u222 u223 u224 u225 u226 u227 u228 u229 u230 u231 u232 u233 u234 w4
      rintro ⟨k9, o9⟩
      have kk4 := o9.blk k6 (Nat.ne_of_lt hp6')
      have hO5 := hO4.then o9 (.inr (by omega))
      clear k8 k5 k6 hO4 o9
      go_wp2
      refine sha_add p6 p15 (Nat.ne_of_gt hp6') h (roundsW m h 64) _ _ kk4 k9 _ _ _ _ _ _ _ _ _ _ _ _ _ _ _ _ _ _ _ _ _ _ _ _ _ _ _ _ _ _ _ _ _ _ _ _ _ _ _ _ _ _ _ _ _ _ _ _ _ _ _ _ _ _ _ _ _ _ _ _ _ _ _ _ _ _ _ _ _ _ _ _ _ _ _ _ _ _ _ _ _ _ _ _ _ _ _ _ _ _ _ _ _ _ _ _ _ _ _ _ _ _ _ _ _ _ _ _ _ _ _ _ _ _ _ _ _ _ _ _ _ _ _ _ _ _ _ _ _ _ _ _ _ _ _ _ _ _ _ _ _ _ _ _ _ _ _ _ _ _ _ _ _ _ _ _ _ _ _ _ _ _ _ _ _ _ _ _ _ _ _ _ _ _ _ _ _ _ _ _ _ _ _ _ _ _ _ _ _ _ _ _ _ _ _ _ _ _ _ _ _ _ _ _ _ _ _ _ _ _ _ _ _ _ _ _ _ _ _ _ _ _ _ _ _ _ _ _ _ _ _ _ _ _ _ _ _ _ _ _ _ _ _ _ _ _ _ _ _ _ _ _ _ _ _ _ _ _ _ _ _ _ _ _ ?_
      intro u22 u235 u236 u237 u238 u239 u240 u241 u242 u243 u244 u245 u246 u247 w5
      rintro ⟨k10, o10⟩
      rw [← HR.out] at k10
      have hO6 := hO5.then o10 (.inl rfl)
      clear kk4 k9 hO5 o10
      go_wp2
      go_roundw
      case rel => exact ⟨n + 1, A + 64, by have := HA.out; show A + 64 = 64 * (n + 1); omega, hn1, by go_num, k10, hO6⟩
      case measure => simp [intOf]; omega
    · have hn2 : n = nb := by have := HA.out; have := hLn.out; omega
      subst hn2
      have i2 : ¬ (A : Int) < (L : Int) := by omega
      have HX := Nm.hide (And.intro kk hO)
      go_wp2
end Go.Proofs.YtmclegfejkoaoaaDoor
