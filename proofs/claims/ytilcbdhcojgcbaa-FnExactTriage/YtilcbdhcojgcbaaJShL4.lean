import Derived.Test.YtilcbdhcojgcbaaShL5
import Derived.Test.YtilcbdhcojgcbaaShL6
import Derived.Test.YtilcbdhcojgcbaaJVfE
import Derived.Test.YtilcbdhcojgcbaaShT
import Derived.Test.YtilcbdhcojgcbaaJICp
import Derived.Laws.OwnMore
import Derived.Deep.AppendLies
/- spec.Sha256: the blocks. -/
namespace Go.Proofs.Ytilcbdhcojgcbaa
open Go.RowKit
set_option linter.unusedVariables false

set_option maxRecDepth 1000000 in
set_option maxHeartbeats 16000000 in
theorem sha_blocks (tb xc L nb p6 : Nat) (t : List UInt8) (hLn : Hid (L = 64 * nb)) (hne : tb ≠ p6) (hL : L ≤ 4000000) (Q0 : Exit → Act → World → Prop) (w : World) (hc : ∀ j, j < L → w.cell? ⟨tb, j, none⟩ = some (.int .u8 ((bW t j).toNat : Int))) (k6 : Blk w p6 (hvA H0) 119)
    (s0 s1 s2 s4 s5 s8 s9 s10 s11 s12 s13 s14 s15 s16 s17 s18 s19 s20 s21 s22 s23 s24 s25 s26 s27 s28 s29 s30 s31 s32 s33 s34 s35 s36 s37 s38 s39 s40 s41 s42 s43 s44 s45 s46 s47 s48 s49 s50 s51 s52 s53 s54 s55 s56 s57 s58 s59 s60 s61 s62 s63 s64 s65 s66 s67 s68 s69 s70 s71 s72 s73 s74 s75 s76 s77 s78 s79 s80 s81 s82 s83 s84 s85 s86 s87 s88 s89 s90 s91 s92 s93 s94 s95 s96 s97 s98 s99 s100 s101 s102 s103 s104 s105 s106 s107 s108 s109 s110 s111 s112 s113 s114 s115 s116 s117 s118 s119 s120 s121 s122 s123 s124 s125 s126 s127 s128 s129 s130 s131 s132 s133 s134 s135 s136 s137 s138 s139 s140 s141 s142 s143 s144 s145 s146 s147 s148 s149 s150 s151 s152 s153 s154 s155 s156 s157 s158 s159 s160 s161 s162 s163 s164 s165 s166 s167 s168 s169 s170 s171 s172 s173 s174 s175 s176 s177 s178 s179 s180 s181 s182 s183 s184 s185 s186 s187 s188 s189 s190 s191 s192 s193 s194 s195 s196 s197 s198 s199 s200 s201 s202 s203 s204 s205 s206 s207 s208 s209 s210 s211 s212 s213 s214 s215 s216 s217 s218 s219 s220 s221 s222 s223 s224 s225 s226 s227 s228 s229 s230 s231 s232 s233 s234 s235 s236 s237 s238 s239 s240 s241 s242 s243 s244 s245 s246 s247 s248 s249 s250 s251 s252 s253 s254 s255 s256 s257 s258 s259 s260 s261 s262 s263 s264 s265 s266 : Value)
    (hexit : ∀ (u7 u8 u9 u10 u11 u12 u13 u14 u15 u16 u17 u18 u19 u20 u21 u22 u65 u66 u67 u68 u69 u70 u71 u72 u73 u74 u75 u76 u77 u78 u79 u80 u81 u82 u83 u84 u85 u86 u87 u88 u89 u90 u91 u92 u93 u94 u95 u96 u97 u98 u99 u100 u101 u102 u103 u104 u105 u106 u107 u108 u109 u110 u111 u112 u113 u114 u115 u116 u117 u118 u119 u120 u121 u122 u123 u124 u125 u126 u127 u128 u129 u130 u131 u132 u133 u134 u135 u136 u137 u138 u139 u140 u141 u142 u143 u144 u145 u146 u147 u148 u149 u150 u151 u152 u153 u154 u155 u156 u157 u158 u159 u160 u161 u162 u163 u164 u165 u166 u167 u168 u169 u170 u171 u172 u173 u174 u175 u176 u177 u178 u179 u180 u181 u182 u183 u184 u185 u186 u187 u188 u189 u190 u191 u192 u193 u194 u195 u196 u197 u198 u199 u200 u201 u202 u203 u204 u205 u206 u207 u208 u209 u210 u211 u212 u213 u214 u215 u216 u217 u218 u219 u220 u221 u222 u223 u224 u225 u226 u227 u228 u229 u230 u231 u232 u233 u234 u235 u236 u237 u238 u239 u240 u241 u242 u243 u244 u245 u246 u247 : Value) (w' : World), Blk w' p6 (hvA (hashW t nb)) 119 ∧ Only p6 w w' → Q0 (.exit 6) ⟨(s0 :: s1 :: s2 :: .slice (some ⟨tb, 0, none⟩) L xc :: s4 :: s5 :: .pointer (some ⟨p6, 0, none⟩) :: u7 :: u8 :: u9 :: u10 :: u11 :: u12 :: u13 :: u14 :: u15 :: u16 :: u17 :: u18 :: u19 :: u20 :: u21 :: u22 :: s23 :: s24 :: s25 :: s26 :: s27 :: s28 :: s29 :: s30 :: s31 :: s32 :: s33 :: s34 :: s35 :: s36 :: s37 :: s38 :: s39 :: s40 :: s41 :: s42 :: s43 :: s44 :: s45 :: s46 :: s47 :: s48 :: s49 :: s50 :: s51 :: s52 :: s53 :: s54 :: s55 :: s56 :: s57 :: s58 :: s59 :: s60 :: s61 :: s62 :: s63 :: s64 :: u65 :: u66 :: u67 :: u68 :: u69 :: u70 :: u71 :: u72 :: u73 :: u74 :: u75 :: u76 :: u77 :: u78 :: u79 :: u80 :: u81 :: u82 :: u83 :: u84 :: u85 :: u86 :: u87 :: u88 :: u89 :: u90 :: u91 :: u92 :: u93 :: u94 :: u95 :: u96 :: u97 :: u98 :: u99 :: u100 :: u101 :: u102 :: u103 :: u104 :: u105 :: u106 :: u107 :: u108 :: u109 :: u110 :: u111 :: u112 :: u113 :: u114 :: u115 :: u116 :: u117 :: u118 :: u119 :: u120 :: u121 :: u122 :: u123 :: u124 :: u125 :: u126 :: u127 :: u128 :: u129 :: u130 :: u131 :: u132 :: u133 :: u134 :: u135 :: u136 :: u137 :: u138 :: u139 :: u140 :: u141 :: u142 :: u143 :: u144 :: u145 :: u146 :: u147 :: u148 :: u149 :: u150 :: u151 :: u152 :: u153 :: u154 :: u155 :: u156 :: u157 :: u158 :: u159 :: u160 :: u161 :: u162 :: u163 :: u164 :: u165 :: u166 :: u167 :: u168 :: u169 :: u170 :: u171 :: u172 :: u173 :: u174 :: u175 :: u176 :: u177 :: u178 :: u179 :: u180 :: u181 :: u182 :: u183 :: u184 :: u185 :: u186 :: u187 :: u188 :: u189 :: u190 :: u191 :: u192 :: u193 :: u194 :: u195 :: u196 :: u197 :: u198 :: u199 :: u200 :: u201 :: u202 :: u203 :: u204 :: u205 :: u206 :: u207 :: u208 :: u209 :: u210 :: u211 :: u212 :: u213 :: u214 :: u215 :: u216 :: u217 :: u218 :: u219 :: u220 :: u221 :: u222 :: u223 :: u224 :: u225 :: u226 :: u227 :: u228 :: u229 :: u230 :: u231 :: u232 :: u233 :: u234 :: u235 :: u236 :: u237 :: u238 :: u239 :: u240 :: u241 :: u242 :: u243 :: u244 :: u245 :: u246 :: u247 :: s248 :: s249 :: s250 :: s251 :: s252 :: s253 :: s254 :: s255 :: s256 :: s257 :: s258 :: s259 :: s260 :: s261 :: s262 :: s263 :: s264 :: s265 :: s266 :: []).toArray, []⟩ w') :
    Code.wp Try.prog (Code.loop shL4) Q0 ⟨(s0 :: s1 :: s2 :: .slice (some ⟨tb, 0, none⟩) L xc :: s4 :: s5 :: .pointer (some ⟨p6, 0, none⟩) :: .int .i64 0 :: s8 :: s9 :: s10 :: s11 :: s12 :: s13 :: s14 :: s15 :: s16 :: s17 :: s18 :: s19 :: s20 :: s21 :: s22 :: s23 :: s24 :: s25 :: s26 :: s27 :: s28 :: s29 :: s30 :: s31 :: s32 :: s33 :: s34 :: s35 :: s36 :: s37 :: s38 :: s39 :: s40 :: s41 :: s42 :: s43 :: s44 :: s45 :: s46 :: s47 :: s48 :: s49 :: s50 :: s51 :: s52 :: s53 :: s54 :: s55 :: s56 :: s57 :: s58 :: s59 :: s60 :: s61 :: s62 :: s63 :: s64 :: s65 :: s66 :: s67 :: s68 :: s69 :: s70 :: s71 :: s72 :: s73 :: s74 :: s75 :: s76 :: s77 :: s78 :: s79 :: s80 :: s81 :: s82 :: s83 :: s84 :: s85 :: s86 :: s87 :: s88 :: s89 :: s90 :: s91 :: s92 :: s93 :: s94 :: s95 :: s96 :: s97 :: s98 :: s99 :: s100 :: s101 :: s102 :: s103 :: s104 :: s105 :: s106 :: s107 :: s108 :: s109 :: s110 :: s111 :: s112 :: s113 :: s114 :: s115 :: s116 :: s117 :: s118 :: s119 :: s120 :: s121 :: s122 :: s123 :: s124 :: s125 :: s126 :: s127 :: s128 :: s129 :: s130 :: s131 :: s132 :: s133 :: s134 :: s135 :: s136 :: s137 :: s138 :: s139 :: s140 :: s141 :: s142 :: s143 :: s144 :: s145 :: s146 :: s147 :: s148 :: s149 :: s150 :: s151 :: s152 :: s153 :: s154 :: s155 :: s156 :: s157 :: s158 :: s159 :: s160 :: s161 :: s162 :: s163 :: s164 :: s165 :: s166 :: s167 :: s168 :: s169 :: s170 :: s171 :: s172 :: s173 :: s174 :: s175 :: s176 :: s177 :: s178 :: s179 :: s180 :: s181 :: s182 :: s183 :: s184 :: s185 :: s186 :: s187 :: s188 :: s189 :: s190 :: s191 :: s192 :: s193 :: s194 :: s195 :: s196 :: s197 :: s198 :: s199 :: s200 :: s201 :: s202 :: s203 :: s204 :: s205 :: s206 :: s207 :: s208 :: s209 :: s210 :: s211 :: s212 :: s213 :: s214 :: s215 :: s216 :: s217 :: s218 :: s219 :: s220 :: s221 :: s222 :: s223 :: s224 :: s225 :: s226 :: s227 :: s228 :: s229 :: s230 :: s231 :: s232 :: s233 :: s234 :: s235 :: s236 :: s237 :: s238 :: s239 :: s240 :: s241 :: s242 :: s243 :: s244 :: s245 :: s246 :: s247 :: s248 :: s249 :: s250 :: s251 :: s252 :: s253 :: s254 :: s255 :: s256 :: s257 :: s258 :: s259 :: s260 :: s261 :: s262 :: s263 :: s264 :: s265 :: s266 :: []).toArray, []⟩ w := by
  have hz64 : ∀ W, (zeroValue 120).run Try.prog W = .ok (.agg (Array.replicate 64 (.int .u32 0))) W := by
    have := zero_of_info (P := Try.prog) (t := 120) (v := .agg (Array.replicate 64 (.int .u32 0))) (n := 64) (by kernel_rfl)
    exact this.1
  have hinf : (Try.prog.info? 120).map (·.size) = some (Array.replicate 64 (Value.int .u32 0)).size := by
    rw [Array.size_replicate]
    kernel_rfl
  conv => arg 2; arg 1; whnf
  go_loopw [7] (fun i wr => ∃ n A : Nat, Hid (A = 64 * n) ∧ n ≤ nb ∧ i = .int .i64 A ∧ Blk wr p6 (hvA (hashW t n)) 119 ∧ Only p6 w wr) (fun i _ => L - (intOf i).toNat)
  case atStart => exact ⟨0, 0, rfl, by omega, rfl, k6, Only.refl _ _⟩
  case round =>
    obtain ⟨n, A, HA, hn, rfl, kk, hO⟩ := hrel
    clear k6
    by_cases hlt : A < L
    · clear hexit
      have i1 : (0 : Int) ≤ (A : Int) := by omega
      have i2 : (A : Int) < (L : Int) := by omega
      have hA64 : A + 64 ≤ L := by have := HA.out; have := hLn.out; omega
      have HR := Nm.hide (show hashW t (n + 1) = addSv (hashW t n) (roundsW (fun i => wordAt t (A + 4 * i)) (hashW t n) 64) by rw [HA.out]; rfl)
      have hn1 : n + 1 ≤ nb := by have := HA.out; have := hLn.out; omega
      generalize hashW t n = h at *
      have hcr := fun j hj => hO.cell hne (hc j hj)
      have htb : tb < wr.heap.size := World.block_lt_of_cell? wr _ (hcr 0 (by omega))
      have hp6 := blk_lt kk
      clear hc
      go_wp2_with (refine wpList_store_blk (.tmp 8) (.tmp 71) 120 rfl rfl rfl wr.heap.size _ _ (blk_new _ _ _) rfl rfl hinf (by simp) (all_rep 64) ?_; intro w2 k2 o2)
      rw [← wA_zero (fun i => wordAt t (A + 4 * i))] at k2
      have hO2 := (hO.alloc _).then o2 (.inr hO.size)
      have kk2 := o2.blk (blk_alloc kk _) (Nat.ne_of_lt hp6)
      have hc2 := fun j hj => o2.cell (Nat.ne_of_lt htb) (((Below.refl _ wr).alloc (Nat.le_refl _) _).cell htb |>.trans (hcr j hj))
      have hs2 := o2.size
      have hws := hO.size
      rw [World.size_alloc] at hs2
      clear o2 kk hcr hO
      generalize hp8 : wr.heap.size = p8 at *
      clear hp8
      refine sha_words tb xc L A p8 t (Nat.ne_of_lt htb) hA64 hL _ _ hc2 k2 _ _ _ _ _ _ _ _ _ _ _ _ _ _ _ _ _ _ _ _ _ _ _ _ _ _ _ _ _ _ _ _ _ _ _ _ _ _ _ _ _ _ _ _ _ _ _ _ _ _ _ _ _ _ _ _ _ _ _ _ _ _ _ _ _ _ _ _ _ _ _ _ _ _ _ _ _ _ _ _ _ _ _ _ _ _ _ _ _ _ _ _ _ _ _ _ _ _ _ _ _ _ _ _ _ _ _ _ _ _ _ _ _ _ _ _ _ _ _ _ _ _ _ _ _ _ _ _ _ _ _ _ _ _ _ _ _ _ _ _ _ _ _ _ _ _ _ _ _ _ _ _ _ _ _ _ _ _ _ _ _ _ _ _ _ _ _ _ _ _ _ _ _ _ _ _ _ _ _ _ _ _ _ _ _ _ _ _ _ _ _ _ _ _ _ _ _ _ _ _ _ _ _ _ _ _ _ _ _ _ _ _ _ _ _ _ _ _ _ _ _ _ _ _ _ _ _ _ _ _ _ _ _ _ _ _ _ _ _ _ _ _ _ _ _ _ _ _ _ _ _ _ _ _ _ _ _ _ _ _ _ _ _ ?_
      intro u9 u10 u11 u12 u13 u14 u72 u73 u74 u75 u76 u77 u78 u79 u80 u81 u82 u83 u84 u85 u86 u87 u88 u89 u90 u91 u92 u93 u94 u95 u96 u97 u98 u99 u100 u101 u102 u103 u104 u105 u106 u107 u108 u109 u110 u111 u112 u113 u114 u115 u116 u117 u118 u119 u120 u121 u122 u123 u124 u125 u126 u127 u128 u129 u130 u131 u132 u133 u134 u135 u136 u137 u138 u139 u140 u141 u142 u143 u144 u145 u146 u147 u148 u149 u150 u151 w3
      rintro ⟨k3, o3⟩
      have kk3 := o3.blk kk2 (Nat.ne_of_lt hp6)
      have hO3 := hO2.then o3 (.inr hws)
      have hl3 := o3.size
      clear o3 kk2 hc2 hO2 k2 hs2
      obtain ⟨c0, c1, c2, c3, c4, c5, c6, c7⟩ := hvA_cells kk3
      obtain ⟨m, hm⟩ : ∃ m : Nat → Wd, (fun i => wordAt t (A + 4 * i)) = m := ⟨_, rfl⟩
      rw [hm] at HR k3
      have hp8' := blk_lt k3
      clear hm
      go_wp2
      have k5 : Blk (w3.alloc (.cells (hvA h) 119)) w3.heap.size (hvA h) 119 := blk_new _ _ _
      have k8 := blk_alloc k3 (.cells (hvA h) 119)
      have k6 := blk_alloc kk3 (.cells (hvA h) 119)
      have hO4 := hO3.alloc (.cells (hvA h) 119)
      have hz := World.size_alloc w3 (.cells (hvA h) 119)
      clear c0 c1 c2 c3 c4 c5 c6 c7 hO3 kk3 k3
      have hp6' : p6 < w3.heap.size := by omega
      generalize hq : w3.heap.size = p15 at *
      refine sha_rounds p8 p15 (Nat.ne_of_lt hp8') m h _ _ k8 k5 _ _ _ _ _ _ _ _ _ _ _ _ _ _ _ _ _ _ _ _ _ _ _ _ _ _ _ _ _ _ _ _ _ _ _ _ _ _ _ _ _ _ _ _ _ _ _ _ _ _ _ _ _ _ _ _ _ _ _ _ _ _ _ _ _ _ _ _ _ _ _ _ _ _ _ _ _ _ _ _ _ _ _ _ _ _ _ _ _ _ _ _ _ _ _ _ _ _ _ _ _ _ _ _ _ _ _ _ _ _ _ _ _ _ _ _ _ _ _ _ _ _ _ _ _ _ _ _ _ _ _ _ _ _ _ _ _ _ _ _ _ _ _ _ _ _ _ _ _ _ _ _ _ _ _ _ _ _ _ _ _ _ _ _ _ _ _ _ _ _ _ _ _ _ _ _ _ _ _ _ _ _ _ _ _ _ _ _ _ _ _ _ _ _ _ _ _ _ _ _ _ _ _ _ _ _ _ _ _ _ _ _ _ _ _ _ _ _ _ _ _ _ _ _ _ _ _ _ _ _ _ _ _ _ _ _ _ _ _ _ _ _ _ _ _ _ _ _ _ _ _ _ _ _ _ _ _ _ _ _ _ _ _ _ ?_
      intro u16 u17 u18 u19 u20 u21 u153 u154 u155 u156 u157 u158 u159 u160 u161 u162 u163 u164 u165 u166 u167 u168 u169 u170 u171 u172 u173 u174 u175 u176 u177 u178 u179 u180 u181 u182 u183 u184 u185 u186 u187 u188 u189 u190 u191 u192 u193 u194 u195 u196 u197 u198 u199 u200 u201 u202 u203 u204 u205 u206 u207 u208 u209 u210 u211 u212 u213 u214 u215 u216 u217 u218 u219 u220 u221 u222 u223 u224 u225 u226 u227 u228 u229 u230 u231 u232 u233 u234 w4
      rintro ⟨k9, o9⟩
      have kk4 := o9.blk k6 (Nat.ne_of_lt hp6')
      have hO5 := hO4.then o9 (.inr (by omega))
      clear k8 k5 k6 hO4 o9
      go_wp2
      refine sha_add p6 p15 (Nat.ne_of_gt hp6') h (roundsW m h 64) _ _ kk4 k9 _ _ _ _ _ _ _ _ _ _ _ _ _ _ _ _ _ _ _ _ _ _ _ _ _ _ _ _ _ _ _ _ _ _ _ _ _ _ _ _ _ _ _ _ _ _ _ _ _ _ _ _ _ _ _ _ _ _ _ _ _ _ _ _ _ _ _ _ _ _ _ _ _ _ _ _ _ _ _ _ _ _ _ _ _ _ _ _ _ _ _ _ _ _ _ _ _ _ _ _ _ _ _ _ _ _ _ _ _ _ _ _ _ _ _ _ _ _ _ _ _ _ _ _ _ _ _ _ _ _ _ _ _ _ _ _ _ _ _ _ _ _ _ _ _ _ _ _ _ _ _ _ _ _ _ _ _ _ _ _ _ _ _ _ _ _ _ _ _ _ _ _ _ _ _ _ _ _ _ _ _ _ _ _ _ _ _ _ _ _ _ _ _ _ _ _ _ _ _ _ _ _ _ _ _ _ _ _ _ _ _ _ _ _ _ _ _ _ _ _ _ _ _ _ _ _ _ _ _ _ _ _ _ _ _ _ _ _ _ _ _ _ _ _ _ _ _ _ _ _ _ _ _ _ _ _ _ _ _ _ _ _ _ _ ?_
      intro u22 u235 u236 u237 u238 u239 u240 u241 u242 u243 u244 u245 u246 u247 w5
      rintro ⟨k10, o10⟩
      rw [← HR.out] at k10
      have hO6 := hO5.then o10 (.inl rfl)
      clear kk4 k9 hO5 o10
      go_wp2
      go_roundw
      case rel => exact ⟨n + 1, A + 64, by have := HA.out; show A + 64 = 64 * (n + 1); omega, hn1, by go_num, k10, hO6⟩
      case measure => simp [intOf]; omega
    · have hn2 : n = nb := by have := HA.out; have := hLn.out; omega
      subst hn2
      have i2 : ¬ (A : Int) < (L : Int) := by omega
      have HX := Nm.hide (And.intro kk hO)
      go_wp2
end Go.Proofs.Ytilcbdhcojgcbaa
/- spec.Sha256 by its contract. -/
namespace Go.Proofs.Ytilcbdhcojgcbaa
open Go.RowKit
set_option linter.unusedVariables false

set_option maxRecDepth 1000000 in
set_option maxHeartbeats 16000000 in
theorem specSha256_any (v : Value) (l : List UInt8) (w : World) (h : BySl w v l) (hl : l.length ≤ 3000000) :
    Calls Try.prog 52 #[v] w fun e w' => e = .returned (.agg (byA (shaL l))) ∧ Below w.heap.size w w' := by
  obtain ⟨j0, hj, k0, k1, k2⟩ := info_parts Try.infoBy
  obtain ⟨_, a, cap, rfl, hcap, hmx, hc⟩ := h
  have hz32 : ∀ W, (zeroValue 71).run Try.prog W = .ok (.agg (Array.replicate 32 (.int .u8 0))) W := by
    have := zero_of_info (P := Try.prog) (t := 71) (v := .agg (Array.replicate 32 (.int .u8 0))) (n := 32) (by kernel_rfl)
    exact this.1
  have hinf : (Try.prog.info? 71).map (·.size) = some (Array.replicate 32 (Value.int .u8 0)).size := by
    rw [Array.size_replicate]
    kernel_rfl
  have kR := blk_alloc (blk_new w (Array.replicate 32 (Value.int .u8 0)) 71) (.cells #[] 5)
  have hB0 := (Below.refl w.heap.size w).alloc (Nat.le_refl _) (.cells (Array.replicate 32 (Value.int .u8 0)) 71)
  have hro := World.ownsRow_made (base := w.heap.size + 1) (size := 1) (e := 5) (w.alloc (.cells (Array.replicate 32 (Value.int .u8 0)) 71)) #[] 0 (by simp) (by decide) rfl
  have hBs := hB0.alloc hB0.size (.cells #[] 5)
  rw [World.size_alloc] at hro
  have hc1 : 0 < l.length → ∃ b off, a = some ⟨b, off, none⟩ ∧ b < w.heap.size + 1 ∧ ∀ k c, l[k]? = some c → ((w.alloc (.cells (Array.replicate 32 (Value.int .u8 0)) 71)).alloc (.cells #[] 5)).cell? ⟨b, off + k, none⟩ = some (.int .u8 (c.toNat : Int)) := by
    intro h0
    obtain ⟨b, off, e, hcell⟩ := hc (by omega)
    have hx : l[0]? = some l[0] := List.getElem?_eq_getElem h0
    have hb := World.block_lt_of_cell? w _ (hcell 0 (.int .u8 (l[0].toNat : Int)) (by simp [Nm.bys, hx]))
    refine ⟨b, off, e, Nat.lt_succ_of_lt hb, fun k c hk => ?_⟩
    exact (hBs.cell (p := ⟨b, off + k, none⟩) hb).trans (hcell k (.int .u8 (c.toNat : Int)) (by simp [Nm.bys, hk]))
  have hsz : w.heap.size + 1 ≤ ((w.alloc (.cells (Array.replicate 32 (Value.int .u8 0)) 71)).alloc (.cells #[] 5)).heap.size := by rw [World.size_alloc, World.size_alloc]; omega
  clear hc hcap hmx hB0
  go_enter Try.func52, Try.ntmps52
  go_wp2
  refine sha_copy (w.heap.size + 1) l a cap hl _ _ hsz _ hro hc1 _ _ _ _ _ _ _ _ _ _ _ _ _ _ _ _ _ _ _ _ _ _ _ _ _ _ _ _ _ _ _ _ _ _ _ _ _ _ _ _ _ _ _ _ _ _ _ _ _ _ _ _ _ _ _ _ _ _ _ _ _ _ _ _ _ _ _ _ _ _ _ _ _ _ _ _ _ _ _ _ _ _ _ _ _ _ _ _ _ _ _ _ _ _ _ _ _ _ _ _ _ _ _ _ _ _ _ _ _ _ _ _ _ _ _ _ _ _ _ _ _ _ _ _ _ _ _ _ _ _ _ _ _ _ _ _ _ _ _ _ _ _ _ _ _ _ _ _ _ _ _ _ _ _ _ _ _ _ _ _ _ _ _ _ _ _ _ _ _ _ _ _ _ _ _ _ _ _ _ _ _ _ _ _ _ _ _ _ _ _ _ _ _ _ _ _ _ _ _ _ _ _ _ _ _ _ _ _ _ _ _ _ _ _ _ _ _ _ _ _ _ _ _ _ _ _ _ _ _ _ _ _ _ _ _ _ _ _ _ _ _ _ _ _ _ _ _ _ _ _ _ _ _ _ _ _ _ _ _ _ _ _ _ _ ?_
  intro xa xc u4 u26 u27 u28 u29 u30 u31 u32 u33 u34 u35 u36 u37 u38 w1
  rintro ⟨hown, hbel⟩
  have kR1 : Blk w1 w.heap.size _ _ := (hbel.block _ (Nat.lt_succ_self _)).trans kR
  have hB1 : Below w.heap.size w w1 := hBs.trans (hbel.mono (Nat.le_succ _))
  have hs1 := Nat.le_trans hsz hbel.size
  clear kR hBs hro hbel hc1 hsz
  obtain ⟨B, hBe⟩ : ∃ B, w.heap.size + 1 = B := ⟨_, rfl⟩
  have HBe := Nm.hide hBe
  rw [hBe] at hown hs1
  clear hBe
  go_wp2_with (at_builtin; refine wpList_append_own _ rfl (.tmp 39) (.tmp 40) 22 rfl B 5 j0 (.int .u8 0) 1 1 Try.underlying22 hj k0 k1 k2 rfl (by decide) _ _ _ rfl (hown.alloc _) ⟨w1.heap.size, 0, none⟩ 1 1 [.int .u8 128] rfl rfl (cell_one_new _ _ _) (Nm.one_cell _ rfl) (by unfold maxLen; omega) (by omega) (by simp; omega) ?_; intro vb wb hown8 hgrow8 hnl8; clear hnl8)
  have hrow : ∀ q, Value.ownBlock (.slice xa l.length xc) = some q → B ≤ q := fun q hq => (hown.lt q hq).1
  have hBb : Below B w1 wb := ((Below.refl B w1).alloc hs1 _).grown hgrow8 (by rw [World.size_alloc]; omega) hrow
  have kR2 : Blk wb w.heap.size _ _ := (hBb.block _ (by have := HBe.out; omega)).trans kR1
  have hB2 : Below w.heap.size w wb := hB1.trans (hBb.mono (by have := HBe.out; omega))
  have hs2 := Nat.le_trans hs1 hBb.size
  have hown9 : wb.ownsRow B 5 1 vb (l.length + 1) (Nm.bys (l ++ [128])) := by
    have : Nm.bys (l ++ [128]) = Nm.bys l ++ [.int .u8 128] := by simp [Nm.bys]
    rw [this]; exact hown8
  obtain ⟨za, zc, rfl⟩ := own_sl hown8
  clear hgrow8 hown hown8 hrow hBb kR1 hB1 hs1
  refine sha_pad B l l.length rfl hl _ _ hs2 za zc hown9 _ _ _ _ _ _ _ _ _ _ _ _ _ _ _ _ _ _ _ _ _ _ _ _ _ _ _ _ _ _ _ _ _ _ _ _ _ _ _ _ _ _ _ _ _ _ _ _ _ _ _ _ _ _ _ _ _ _ _ _ _ _ _ _ _ _ _ _ _ _ _ _ _ _ _ _ _ _ _ _ _ _ _ _ _ _ _ _ _ _ _ _ _ _ _ _ _ _ _ _ _ _ _ _ _ _ _ _ _ _ _ _ _ _ _ _ _ _ _ _ _ _ _ _ _ _ _ _ _ _ _ _ _ _ _ _ _ _ _ _ _ _ _ _ _ _ _ _ _ _ _ _ _ _ _ _ _ _ _ _ _ _ _ _ _ _ _ _ _ _ _ _ _ _ _ _ _ _ _ _ _ _ _ _ _ _ _ _ _ _ _ _ _ _ _ _ _ _ _ _ _ _ _ _ _ _ _ _ _ _ _ _ _ _ _ _ _ _ _ _ _ _ _ _ _ _ _ _ _ _ _ _ _ _ _ _ _ _ _ _ _ _ _ _ _ _ _ _ _ _ _ _ _ _ _ _ _ _ _ _ _ _ _ _ _ _ ?_
  intro xa2 xc2 u42 u43 u44 u45 u46 u47 u48 w2
  rintro ⟨hown2, hbel⟩
  have kR3 : Blk w2 w.heap.size _ _ := (hbel.block _ (by have := HBe.out; omega)).trans kR2
  have hB3 : Below w.heap.size w w2 := hB2.trans (hbel.mono (by have := HBe.out; omega))
  have hs3 := Nat.le_trans hs2 hbel.size
  have hzl := zN_lt l.length
  clear hown9 hbel kR2 hB2 hs2
  obtain ⟨N0, hN0⟩ : ∃ N0, l.length + 1 + zN l.length = N0 := ⟨_, rfl⟩
  have HN0 := Nm.hide hN0
  have hN0b : N0 ≤ 4000000 := by omega
  rw [hN0] at hown2 ⊢
  clear hN0
  go_wp2
  refine sha_len B l (padTo l) a cap N0 hl hN0b _ _ hs3 xa2 xc2 hown2 _ _ _ _ _ _ _ _ _ _ _ _ _ _ _ _ _ _ _ _ _ _ _ _ _ _ _ _ _ _ _ _ _ _ _ _ _ _ _ _ _ _ _ _ _ _ _ _ _ _ _ _ _ _ _ _ _ _ _ _ _ _ _ _ _ _ _ _ _ _ _ _ _ _ _ _ _ _ _ _ _ _ _ _ _ _ _ _ _ _ _ _ _ _ _ _ _ _ _ _ _ _ _ _ _ _ _ _ _ _ _ _ _ _ _ _ _ _ _ _ _ _ _ _ _ _ _ _ _ _ _ _ _ _ _ _ _ _ _ _ _ _ _ _ _ _ _ _ _ _ _ _ _ _ _ _ _ _ _ _ _ _ _ _ _ _ _ _ _ _ _ _ _ _ _ _ _ _ _ _ _ _ _ _ _ _ _ _ _ _ _ _ _ _ _ _ _ _ _ _ _ _ _ _ _ _ _ _ _ _ _ _ _ _ _ _ _ _ _ _ _ _ _ _ _ _ _ _ _ _ _ _ _ _ _ _ _ _ _ _ _ _ _ _ _ _ _ _ _ _ _ _ _ _ _ _ _ _ _ _ _ _ _ _ ?_
  intro xa3 xc3 u5 u49 u50 u51 u52 u53 u54 u55 u56 u57 u58 u59 u60 u61 u62 u63 w3
  rintro ⟨hown3, hbel⟩
  have kR4 : Blk w3 w.heap.size _ _ := (hbel.block _ (by have := HBe.out; omega)).trans kR3
  have hB4 : Below w.heap.size w w3 := hB3.trans (hbel.mono (by have := HBe.out; omega))
  have hpl := padL_len l
  have hpe : (padL l).length = N0 + 8 := by rw [padL, List.length_append, padTo_len, lenL_len, HN0.out]
  obtain ⟨L, hLe⟩ : ∃ L, N0 + 8 = L := ⟨_, rfl⟩
  rw [hLe] at hown3 hpe ⊢
  obtain ⟨nb, hnb⟩ : ∃ nb, L = 64 * nb := ⟨L / 64, by omega⟩
  have HNB := Nm.hide hnb
  have HSH := Nm.hide (show shaL l = outL (hashW (padL l) nb) by rw [shaL, hpe, hnb, Nat.mul_div_cancel_left _ (by decide)])
  have hL0 : 0 < L := by omega
  have hL2 : L ≤ 4000000 := by omega
  rw [show padTo l ++ lenL l.length = padL l from rfl] at hown3
  obtain ⟨tb, cap3, e3, htb, htl⟩ := hown3.form hL0
  cases e3
  have hcell : ∀ j, j < L → w3.cell? ⟨tb, j, none⟩ = some (.int .u8 ((bW (padL l) j).toNat : Int)) := by
    intro j hj'
    rw [hown3.cellAt j (by omega), bW_nat]
    have hx : (padL l)[j]? = some ((padL l)[j]'(by omega)) := List.getElem?_eq_getElem (by omega)
    simp [Nm.bys, hx]
  generalize padL l = t at *
  have hBt : w.heap.size < tb := by have := HBe.out; omega
  clear hown2 hown3 hbel kR3 hB3 hs3 hpl hpe hLe hnb hzl htb hN0b
  go_wp2
  have k6 : Blk (w3.alloc (.cells (hvA H0) 119)) w3.heap.size (hvA H0) 119 := blk_new _ _ _
  have hA := (Below.refl w3.heap.size w3).alloc (Nat.le_refl _) (.cells (hvA H0) 119)
  have hc4 := fun j hj => (hA.cell (p := ⟨tb, j, none⟩) htl).trans (hcell j hj)
  have kR5 := blk_alloc kR4 (.cells (hvA H0) 119)
  have hB5 := hB4.alloc hB4.size (.cells (hvA H0) 119)
  have hws := blk_lt kR4
  have hz3 := World.size_alloc w3 (.cells (hvA H0) 119)
  clear hA hcell kR4 hB4
  generalize hp6 : w3.heap.size = p6 at *
  refine sha_blocks tb _ L nb p6 t HNB (Nat.ne_of_lt htl) hL2 _ _ hc4 k6 _ _ _ _ _ _ _ _ _ _ _ _ _ _ _ _ _ _ _ _ _ _ _ _ _ _ _ _ _ _ _ _ _ _ _ _ _ _ _ _ _ _ _ _ _ _ _ _ _ _ _ _ _ _ _ _ _ _ _ _ _ _ _ _ _ _ _ _ _ _ _ _ _ _ _ _ _ _ _ _ _ _ _ _ _ _ _ _ _ _ _ _ _ _ _ _ _ _ _ _ _ _ _ _ _ _ _ _ _ _ _ _ _ _ _ _ _ _ _ _ _ _ _ _ _ _ _ _ _ _ _ _ _ _ _ _ _ _ _ _ _ _ _ _ _ _ _ _ _ _ _ _ _ _ _ _ _ _ _ _ _ _ _ _ _ _ _ _ _ _ _ _ _ _ _ _ _ _ _ _ _ _ _ _ _ _ _ _ _ _ _ _ _ _ _ _ _ _ _ _ _ _ _ _ _ _ _ _ _ _ _ _ _ _ _ _ _ _ _ _ _ _ _ _ _ _ _ _ _ _ _ _ _ _ _ _ _ _ _ _ _ _ _ _ _ _ _ _ _ _ _ _ _ _ _ _ _ _ _ _ _ _ _ _ ?_
  intro u7 u8 u9 u10 u11 u12 u13 u14 u15 u16 u17 u18 u19 u20 u21 u22 u65 u66 u67 u68 u69 u70 u71 u72 u73 u74 u75 u76 u77 u78 u79 u80 u81 u82 u83 u84 u85 u86 u87 u88 u89 u90 u91 u92 u93 u94 u95 u96 u97 u98 u99 u100 u101 u102 u103 u104 u105 u106 u107 u108 u109 u110 u111 u112 u113 u114 u115 u116 u117 u118 u119 u120 u121 u122 u123 u124 u125 u126 u127 u128 u129 u130 u131 u132 u133 u134 u135 u136 u137 u138 u139 u140 u141 u142 u143 u144 u145 u146 u147 u148 u149 u150 u151 u152 u153 u154 u155 u156 u157 u158 u159 u160 u161 u162 u163 u164 u165 u166 u167 u168 u169 u170 u171 u172 u173 u174 u175 u176 u177 u178 u179 u180 u181 u182 u183 u184 u185 u186 u187 u188 u189 u190 u191 u192 u193 u194 u195 u196 u197 u198 u199 u200 u201 u202 u203 u204 u205 u206 u207 u208 u209 u210 u211 u212 u213 u214 u215 u216 u217 u218 u219 u220 u221 u222 u223 u224 u225 u226 u227 u228 u229 u230 u231 u232 u233 u234 u235 u236 u237 u238 u239 u240 u241 u242 u243 u244 u245 u246 u247 w4
  rintro ⟨k7, o7⟩
  have kR6 := o7.blk kR5 (Nat.ne_of_lt hws)
  have hB6 := o7.below hB5 (Nat.le_of_lt hws) hB5.size
  have hz4 := o7.size
  clear hc4 k6 kR5 hB5 o7
  have hl6 := blk_lt k7
  have hlR := blk_lt kR6
  go_wp2_with (refine wpList_store_blk (.tmp 23) (.tmp 248) 71 rfl rfl rfl w4.heap.size _ _ (blk_new _ _ _) rfl rfl hinf (by simp) (all_rep8 32) ?_; intro w5 k5 o5)
  rw [← ouA_zero (outL (hashW t nb))] at k5
  have k8 := o5.blk (blk_alloc k7 _) (Nat.ne_of_lt hl6)
  have kR7 := o5.blk (blk_alloc kR6 _) (Nat.ne_of_lt hlR)
  have hB7 := o5.below (hB6.alloc hB6.size _) (Nat.le_of_lt hlR) (by rw [World.size_alloc]; omega)
  have hz5 := o5.size
  rw [World.size_alloc] at hz5
  clear o5 k7 kR6 hB6
  generalize hp23 : w4.heap.size = p23 at *
  refine sha_bytes p6 p23 (Nat.ne_of_lt hl6) (hashW t nb) _ _ k8 k5 _ _ _ _ _ _ _ _ _ _ _ _ _ _ _ _ _ _ _ _ _ _ _ _ _ _ _ _ _ _ _ _ _ _ _ _ _ _ _ _ _ _ _ _ _ _ _ _ _ _ _ _ _ _ _ _ _ _ _ _ _ _ _ _ _ _ _ _ _ _ _ _ _ _ _ _ _ _ _ _ _ _ _ _ _ _ _ _ _ _ _ _ _ _ _ _ _ _ _ _ _ _ _ _ _ _ _ _ _ _ _ _ _ _ _ _ _ _ _ _ _ _ _ _ _ _ _ _ _ _ _ _ _ _ _ _ _ _ _ _ _ _ _ _ _ _ _ _ _ _ _ _ _ _ _ _ _ _ _ _ _ _ _ _ _ _ _ _ _ _ _ _ _ _ _ _ _ _ _ _ _ _ _ _ _ _ _ _ _ _ _ _ _ _ _ _ _ _ _ _ _ _ _ _ _ _ _ _ _ _ _ _ _ _ _ _ _ _ _ _ _ _ _ _ _ _ _ _ _ _ _ _ _ _ _ _ _ _ _ _ _ _ _ _ _ _ _ _ _ _ _ _ _ _ _ _ _ _ _ _ _ _ _ _ ?_
  intro u24 u249 u250 u251 u252 u253 u254 u255 u256 u257 u258 u259 u260 u261 u262 u263 u264 u265 w6
  rintro ⟨k9, o9⟩
  rw [ouA_byA, ← HSH.out] at k9
  have kR8 := o9.blk kR7 (Nat.ne_of_lt hlR)
  have hB8 := o9.below hB7 (Nat.le_of_lt hlR) (by omega)
  have hz6 := o9.size
  have hsL : (byA (shaL l)).size = 32 := by rw [byA_size, HSH.out]; rfl
  have hinf2 : (Try.prog.info? 71).map (·.size) = some (byA (shaL l)).size := by rw [hsL]; kernel_rfl
  clear o9 k8 k5 kR7 hB7
  go_wp2_with (first
    | (refine wpList_load_blk (.tmp 23) 71 rfl rfl p23 _ _ k9 rfl Try.underlying71 rfl hinf2 ?_)
    | (refine wpList_store_blk (.tmp 2) (.tmp 266) 71 rfl rfl rfl w.heap.size _ _ kR8 rfl rfl hinf2 (by rw [hsL]; simp) (byA_one _) ?_; intro w7 k10 o10))
  have hB9 := o10.below hB8 (Nat.le_refl _) (by omega)
  exact bodyPost_ret (v := .agg _) (run_results_cell Try.results52 rfl k10 Try.underlying71 hinf2) rfl ⟨rfl, hB9⟩
end Go.Proofs.Ytilcbdhcojgcbaa
/- spec.l09Str by its contract. -/
namespace Go.Proofs.Ytilcbdhcojgcbaa
open Go.RowKit
set_option linter.unusedVariables false

set_option maxRecDepth 100000 in
set_option maxHeartbeats 1600000 in
theorem l09Str_any (l : List UInt8) (hl : l.length = 32) (w : World) :
    Calls Try.prog 35 #[.agg (byA l)] w fun e w' => e = .returned (.string ⟨l.toArray⟩) ∧ Below w.heap.size w w' := by
  obtain ⟨j0, hj, k0, k1, k2⟩ := info_parts Try.infoBy
  have kR := blk_alloc (blk_new w (byA l) 71) (.cells #[] 5)
  have hB0 := (Below.refl w.heap.size w).alloc (Nat.le_refl _) (.cells (byA l) 71)
  have hro := World.ownsRow_made (base := w.heap.size + 1) (size := 1) (e := 5) (w.alloc (.cells (byA l) 71)) #[] 0 (by simp) (by decide) rfl
  have hBs := hB0.alloc hB0.size (.cells #[] 5)
  rw [World.size_alloc] at hro
  have HL := Nm.hide hl
  clear hl
  go_enter Try.func35, Try.ntmps35
  go_wp2
  go_loopw [3, 4] (fun u i wr => ∃ k : Nat, k ≤ 32 ∧ i = .int .i64 k ∧ wr.ownsRow (w.heap.size + 1) 5 1 u k (Nm.bys (l.take k)) ∧ Blk wr w.heap.size (byA l) 71 ∧ Below w.heap.size w wr) (fun _ i _ => 32 - (intOf i).toNat)
  case atStart => exact ⟨0, Nat.zero_le _, rfl, hro, kR, hBs⟩
  case round =>
    obtain ⟨k, hk, rfl, hown, kB, hbel⟩ := hrel
    obtain ⟨ya, yc, rfl⟩ := own_sl hown
    clear hro hBs hB0 kR
    by_cases hlt : k < 32
    · have hkl : k < l.length := by rw [HL.out]; exact hlt
      have hx : l[k]? = some l[k] := List.getElem?_eq_getElem hkl
      have hcr : wr.cell? ⟨w.heap.size, k, none⟩ = some (.int .u8 ((l[k]).toNat : Int)) := (blk_cell kB k).trans (by simp [byA, hkl])
      have HT := Nm.hide (show Nm.bys (l.take (k + 1)) = Nm.bys (l.take k) ++ [.int .u8 ((l[k]).toNat : Int)] by rw [List.take_add_one, hx, Nm.bys_append]; rfl)
      have i1 : (0 : Int) ≤ (k : Int) := by omega
      have i2 : (k : Int) < 32 := by omega
      have hlw := blk_lt kB
      generalize l[k] = c at *
      go_wp2_with (at_builtin; refine wpList_append_own _ rfl (.tmp 10) (.tmp 14) 22 rfl (w.heap.size + 1) 5 j0 (.int .u8 0) 1 1 Try.underlying22 hj k0 k1 k2 rfl (by decide) _ _ _ rfl (hown.alloc _) ⟨wr.heap.size, 0, none⟩ 1 1 [.int .u8 (c.toNat : Int)] rfl rfl (cell_one_new _ _ _) (Nm.one_cell _ rfl) (by unfold maxLen; omega) (by omega) (by simp; omega) ?_; intro vb wb hown8 hgrow8 hnl8; clear hnl8)
      rw [← HT.out] at hown8
      have hrow : ∀ q, Value.ownBlock (.slice ya k yc) = some q → w.heap.size + 1 ≤ q := fun q hq => (hown.lt q hq).1
      have hB8 : Below (w.heap.size + 1) wr wb := ((Below.refl _ wr).alloc (by omega) _).grown hgrow8 (by rw [World.size_alloc]; omega) hrow
      have kB8 : Blk wb w.heap.size (byA l) 71 := (hB8.block _ (Nat.lt_succ_self _)).trans kB
      have hbel8 := hbel.trans (hB8.mono (Nat.le_succ _))
      obtain ⟨za, zc, rfl⟩ := own_sl hown8
      clear hgrow8 hown hbel kB hB8 hrow
      go_roundw
      case rel => exact ⟨k + 1, by omega, by go_num, hown8, kB8, hbel8⟩
      case measure => simp [intOf]; omega
    · obtain rfl : k = 32 := by omega
      rw [show l.take 32 = l by rw [← HL.out]; exact List.take_length] at hown
      have HC := Nm.conv_own (P := Try.prog) (src := 22) (dst := 9) Try.underlying22 Try.underlying5 Try.underlying9 hown (by omega)
      obtain ⟨g, cap, hv, hcv⟩ := HC
      cases hv
      rw [show ((32 : Nat) : Int) = 32 from rfl]
      go_wp2
      go_ret
      exact ⟨rfl, hbel⟩
end Go.Proofs.Ytilcbdhcojgcbaa
