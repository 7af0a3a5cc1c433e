import Derived.Test.YtilcbdhcojgcbaaJVfE
import Derived.Deep.RegionHeld3
/- spec.Sha256: the rounds of a block. -/
namespace Go.Proofs.Ytilcbdhcojgcbaa
open Go.RowKit
set_option linter.unusedVariables false

set_option maxRecDepth 1000000 in
set_option maxHeartbeats 16000000 in
theorem sha_rounds (p8 p15 : Nat) (hne : p8 ≠ p15) (m : Nat → Wd) (s : Sv) (Q0 : Exit → Act → World → Prop) (w : World) (k8 : Blk w p8 (wA m 64) 120) (k15 : Blk w p15 (hvA s) 119)
    (s0 s1 s2 s3 s4 s5 s6 s7 s9 s10 s11 s12 s13 s14 s17 s18 s19 s20 s21 s22 s23 s24 s25 s26 s27 s28 s29 s30 s31 s32 s33 s34 s35 s36 s37 s38 s39 s40 s41 s42 s43 s44 s45 s46 s47 s48 s49 s50 s51 s52 s53 s54 s55 s56 s57 s58 s59 s60 s61 s62 s63 s64 s65 s66 s67 s68 s69 s70 s71 s72 s73 s74 s75 s76 s77 s78 s79 s80 s81 s82 s83 s84 s85 s86 s87 s88 s89 s90 s91 s92 s93 s94 s95 s96 s97 s98 s99 s100 s101 s102 s103 s104 s105 s106 s107 s108 s109 s110 s111 s112 s113 s114 s115 s116 s117 s118 s119 s120 s121 s122 s123 s124 s125 s126 s127 s128 s129 s130 s131 s132 s133 s134 s135 s136 s137 s138 s139 s140 s141 s142 s143 s144 s145 s146 s147 s148 s149 s150 s151 s152 s153 s154 s155 s156 s157 s158 s159 s160 s161 s162 s163 s164 s165 s166 s167 s168 s169 s170 s171 s172 s173 s174 s175 s176 s177 s178 s179 s180 s181 s182 s183 s184 s185 s186 s187 s188 s189 s190 s191 s192 s193 s194 s195 s196 s197 s198 s199 s200 s201 s202 s203 s204 s205 s206 s207 s208 s209 s210 s211 s212 s213 s214 s215 s216 s217 s218 s219 s220 s221 s222 s223 s224 s225 s226 s227 s228 s229 s230 s231 s232 s233 s234 s235 s236 s237 s238 s239 s240 s241 s242 s243 s244 s245 s246 s247 s248 s249 s250 s251 s252 s253 s254 s255 s256 s257 s258 s259 s260 s261 s262 s263 s264 s265 s266 : Value)
    (hexit : ∀ (u16 u17 u18 u19 u20 u21 u153 u154 u155 u156 u157 u158 u159 u160 u161 u162 u163 u164 u165 u166 u167 u168 u169 u170 u171 u172 u173 u174 u175 u176 u177 u178 u179 u180 u181 u182 u183 u184 u185 u186 u187 u188 u189 u190 u191 u192 u193 u194 u195 u196 u197 u198 u199 u200 u201 u202 u203 u204 u205 u206 u207 u208 u209 u210 u211 u212 u213 u214 u215 u216 u217 u218 u219 u220 u221 u222 u223 u224 u225 u226 u227 u228 u229 u230 u231 u232 u233 u234 : Value) (w' : World), Blk w' p15 (hvA (roundsW m s 64)) 119 ∧ Only p15 w w' → Q0 (.exit 10) ⟨(s0 :: s1 :: s2 :: s3 :: s4 :: s5 :: s6 :: s7 :: .pointer (some ⟨p8, 0, none⟩) :: s9 :: s10 :: s11 :: s12 :: s13 :: s14 :: .pointer (some ⟨p15, 0, none⟩) :: u16 :: u17 :: u18 :: u19 :: u20 :: u21 :: s22 :: s23 :: s24 :: s25 :: s26 :: s27 :: s28 :: s29 :: s30 :: s31 :: s32 :: s33 :: s34 :: s35 :: s36 :: s37 :: s38 :: s39 :: s40 :: s41 :: s42 :: s43 :: s44 :: s45 :: s46 :: s47 :: s48 :: s49 :: s50 :: s51 :: s52 :: s53 :: s54 :: s55 :: s56 :: s57 :: s58 :: s59 :: s60 :: s61 :: s62 :: s63 :: s64 :: s65 :: s66 :: s67 :: s68 :: s69 :: s70 :: s71 :: s72 :: s73 :: s74 :: s75 :: s76 :: s77 :: s78 :: s79 :: s80 :: s81 :: s82 :: s83 :: s84 :: s85 :: s86 :: s87 :: s88 :: s89 :: s90 :: s91 :: s92 :: s93 :: s94 :: s95 :: s96 :: s97 :: s98 :: s99 :: s100 :: s101 :: s102 :: s103 :: s104 :: s105 :: s106 :: s107 :: s108 :: s109 :: s110 :: s111 :: s112 :: s113 :: s114 :: s115 :: s116 :: s117 :: s118 :: s119 :: s120 :: s121 :: s122 :: s123 :: s124 :: s125 :: s126 :: s127 :: s128 :: s129 :: s130 :: s131 :: s132 :: s133 :: s134 :: s135 :: s136 :: s137 :: s138 :: s139 :: s140 :: s141 :: s142 :: s143 :: s144 :: s145 :: s146 :: s147 :: s148 :: s149 :: s150 :: s151 :: s152 :: u153 :: u154 :: u155 :: u156 :: u157 :: u158 :: u159 :: u160 :: u161 :: u162 :: u163 :: u164 :: u165 :: u166 :: u167 :: u168 :: u169 :: u170 :: u171 :: u172 :: u173 :: u174 :: u175 :: u176 :: u177 :: u178 :: u179 :: u180 :: u181 :: u182 :: u183 :: u184 :: u185 :: u186 :: u187 :: u188 :: u189 :: u190 :: u191 :: u192 :: u193 :: u194 :: u195 :: u196 :: u197 :: u198 :: u199 :: u200 :: u201 :: u202 :: u203 :: u204 :: u205 :: u206 :: u207 :: u208 :: u209 :: u210 :: u211 :: u212 :: u213 :: u214 :: u215 :: u216 :: u217 :: u218 :: u219 :: u220 :: u221 :: u222 :: u223 :: u224 :: u225 :: u226 :: u227 :: u228 :: u229 :: u230 :: u231 :: u232 :: u233 :: u234 :: s235 :: s236 :: s237 :: s238 :: s239 :: s240 :: s241 :: s242 :: s243 :: s244 :: s245 :: s246 :: s247 :: s248 :: s249 :: s250 :: s251 :: s252 :: s253 :: s254 :: s255 :: s256 :: s257 :: s258 :: s259 :: s260 :: s261 :: s262 :: s263 :: s264 :: s265 :: s266 :: []).toArray, []⟩ w') :
    Code.wp Try.prog (Code.loop shL6) Q0 ⟨(s0 :: s1 :: s2 :: s3 :: s4 :: s5 :: s6 :: s7 :: .pointer (some ⟨p8, 0, none⟩) :: s9 :: s10 :: s11 :: s12 :: s13 :: s14 :: .pointer (some ⟨p15, 0, none⟩) :: .int .i64 0 :: s17 :: s18 :: s19 :: s20 :: s21 :: s22 :: s23 :: s24 :: s25 :: s26 :: s27 :: s28 :: s29 :: s30 :: s31 :: s32 :: s33 :: s34 :: s35 :: s36 :: s37 :: s38 :: s39 :: s40 :: s41 :: s42 :: s43 :: s44 :: s45 :: s46 :: s47 :: s48 :: s49 :: s50 :: s51 :: s52 :: s53 :: s54 :: s55 :: s56 :: s57 :: s58 :: s59 :: s60 :: s61 :: s62 :: s63 :: s64 :: s65 :: s66 :: s67 :: s68 :: s69 :: s70 :: s71 :: s72 :: s73 :: s74 :: s75 :: s76 :: s77 :: s78 :: s79 :: s80 :: s81 :: s82 :: s83 :: s84 :: s85 :: s86 :: s87 :: s88 :: s89 :: s90 :: s91 :: s92 :: s93 :: s94 :: s95 :: s96 :: s97 :: s98 :: s99 :: s100 :: s101 :: s102 :: s103 :: s104 :: s105 :: s106 :: s107 :: s108 :: s109 :: s110 :: s111 :: s112 :: s113 :: s114 :: s115 :: s116 :: s117 :: s118 :: s119 :: s120 :: s121 :: s122 :: s123 :: s124 :: s125 :: s126 :: s127 :: s128 :: s129 :: s130 :: s131 :: s132 :: s133 :: s134 :: s135 :: s136 :: s137 :: s138 :: s139 :: s140 :: s141 :: s142 :: s143 :: s144 :: s145 :: s146 :: s147 :: s148 :: s149 :: s150 :: s151 :: s152 :: s153 :: s154 :: s155 :: s156 :: s157 :: s158 :: s159 :: s160 :: s161 :: s162 :: s163 :: s164 :: s165 :: s166 :: s167 :: s168 :: s169 :: s170 :: s171 :: s172 :: s173 :: s174 :: s175 :: s176 :: s177 :: s178 :: s179 :: s180 :: s181 :: s182 :: s183 :: s184 :: s185 :: s186 :: s187 :: s188 :: s189 :: s190 :: s191 :: s192 :: s193 :: s194 :: s195 :: s196 :: s197 :: s198 :: s199 :: s200 :: s201 :: s202 :: s203 :: s204 :: s205 :: s206 :: s207 :: s208 :: s209 :: s210 :: s211 :: s212 :: s213 :: s214 :: s215 :: s216 :: s217 :: s218 :: s219 :: s220 :: s221 :: s222 :: s223 :: s224 :: s225 :: s226 :: s227 :: s228 :: s229 :: s230 :: s231 :: s232 :: s233 :: s234 :: s235 :: s236 :: s237 :: s238 :: s239 :: s240 :: s241 :: s242 :: s243 :: s244 :: s245 :: s246 :: s247 :: s248 :: s249 :: s250 :: s251 :: s252 :: s253 :: s254 :: s255 :: s256 :: s257 :: s258 :: s259 :: s260 :: s261 :: s262 :: s263 :: s264 :: s265 :: s266 :: []).toArray, []⟩ w := by
  conv => arg 2; arg 1; whnf
  go_loopw [16] (fun i wr => ∃ k : Nat, k ≤ 64 ∧ i = .int .i64 k ∧ Blk wr p15 (hvA (roundsW m s k)) 119 ∧ Only p15 w wr) (fun i _ => 64 - (intOf i).toNat)
  case atStart => exact ⟨0, by omega, rfl, k15, Only.refl _ _⟩
  case round =>
    obtain ⟨k, hk, rfl, kk, hO⟩ := hrel
    clear k15
    by_cases hlt : k < 64
    · clear hexit
      have i1 : (0 : Int) ≤ (k : Int) := by omega
      have i2 : (k : Int) < 64 := by omega
      have HR := Nm.hide (show roundsW m s (k + 1) = roundW (roundsW m s k) (KW k) (wF m k) from rfl)
      generalize roundsW m s k = v at *
      have kw := hO.blk k8 hne
      have cw := (blk_cell kw k).trans (wA_at hlt hlt)
      obtain ⟨c0, c1, c2, c3, c4, c5, c6, c7⟩ := hvA_cells kk
      have hS : ∀ W, Below wr.heap.size wr W → (W.cell? ⟨p15, 0, none⟩ = some (.int .u32 (v.a.toNat : Int)) ∧ W.cell? ⟨p15, 1, none⟩ = some (.int .u32 (v.b.toNat : Int)) ∧ W.cell? ⟨p15, 2, none⟩ = some (.int .u32 (v.c.toNat : Int)) ∧ W.cell? ⟨p15, 3, none⟩ = some (.int .u32 (v.d.toNat : Int)) ∧
          W.cell? ⟨p15, 4, none⟩ = some (.int .u32 (v.e.toNat : Int)) ∧ W.cell? ⟨p15, 5, none⟩ = some (.int .u32 (v.f.toNat : Int)) ∧ W.cell? ⟨p15, 6, none⟩ = some (.int .u32 (v.g.toNat : Int)) ∧ W.cell? ⟨p15, 7, none⟩ = some (.int .u32 (v.h.toNat : Int)) ∧
          W.cell? ⟨p8, k, none⟩ = some (.int .u32 ((wF m k).toNat : Int))) ∧ Below wr.heap.size wr W := fun W hW =>
        ⟨⟨(hW.cell (blk_lt kk)).trans c0, (hW.cell (blk_lt kk)).trans c1, (hW.cell (blk_lt kk)).trans c2, (hW.cell (blk_lt kk)).trans c3, (hW.cell (blk_lt kk)).trans c4, (hW.cell (blk_lt kk)).trans c5, (hW.cell (blk_lt kk)).trans c6, (hW.cell (blk_lt kk)).trans c7, (hW.cell (blk_lt kw)).trans cw⟩, hW⟩
      have hS0 := hS wr.drew (Below.refl _ _).drew
      generalize wF m k = wk at *
      obtain ⟨va, vb, vc, vd, ve, vf, vg, vh⟩ := v
      simp only at c0 c1 c2 c3 c4 c5 c6 c7 hS hS0
      go_wp2
      clear c0 c1 c2 c3 c4 c5 c6 c7 cw
      go_region_held3 (fun W => (W.cell? ⟨p15, 0, none⟩ = some (.int .u32 (va.toNat : Int)) ∧ W.cell? ⟨p15, 1, none⟩ = some (.int .u32 (vb.toNat : Int)) ∧ W.cell? ⟨p15, 2, none⟩ = some (.int .u32 (vc.toNat : Int)) ∧ W.cell? ⟨p15, 3, none⟩ = some (.int .u32 (vd.toNat : Int)) ∧
          W.cell? ⟨p15, 4, none⟩ = some (.int .u32 (ve.toNat : Int)) ∧ W.cell? ⟨p15, 5, none⟩ = some (.int .u32 (vf.toNat : Int)) ∧ W.cell? ⟨p15, 6, none⟩ = some (.int .u32 (vg.toNat : Int)) ∧ W.cell? ⟨p15, 7, none⟩ = some (.int .u32 (vh.toNat : Int)) ∧
          W.cell? ⟨p8, k, none⟩ = some (.int .u32 (wk.toNat : Int))) ∧ Below wr.heap.size wr W) (first | with_reducible assumption | with_reducible exact hS0)
        ((first | (go_at_call 64; refine (l09Turn_any _ _ (by decide) (by decide) _).mono ?_; rintro e w1 ⟨rfl, rfl⟩) | (go_at_call 65; refine (l09K_any k hlt _).mono ?_; rintro e w1 ⟨rfl, hb1⟩; have hS1 := hS _ ((Below.refl _ wr).drew.trans hb1))))
      obtain ⟨T1, hT1⟩ : ∃ T1, T1 = vh + (turnW ve 6 ^^^ turnW ve 11 ^^^ turnW ve 25) + ((ve &&& vf) ^^^ (~~~ve &&& vg)) + KW k + wk := ⟨_, rfl⟩
      have HT1 := Nm.hide hT1
      simp only [w_xor, w_and, w_not, wr_add]
      rw [← hT1]
      clear hT1
      have hS2 := hS w1.drew hS1.2.drew
      go_wp2
      go_region_held3 (fun W => (W.cell? ⟨p15, 0, none⟩ = some (.int .u32 (va.toNat : Int)) ∧ W.cell? ⟨p15, 1, none⟩ = some (.int .u32 (vb.toNat : Int)) ∧ W.cell? ⟨p15, 2, none⟩ = some (.int .u32 (vc.toNat : Int)) ∧ W.cell? ⟨p15, 3, none⟩ = some (.int .u32 (vd.toNat : Int)) ∧
          W.cell? ⟨p15, 4, none⟩ = some (.int .u32 (ve.toNat : Int)) ∧ W.cell? ⟨p15, 5, none⟩ = some (.int .u32 (vf.toNat : Int)) ∧ W.cell? ⟨p15, 6, none⟩ = some (.int .u32 (vg.toNat : Int)) ∧ W.cell? ⟨p15, 7, none⟩ = some (.int .u32 (vh.toNat : Int)) ∧
          W.cell? ⟨p8, k, none⟩ = some (.int .u32 (wk.toNat : Int))) ∧ Below wr.heap.size wr W) (first | with_reducible assumption | with_reducible exact hS2)
        ((first | (go_at_call 64; refine (l09Turn_any _ _ (by decide) (by decide) _).mono ?_; rintro e w1 ⟨rfl, rfl⟩)))
      obtain ⟨T2, hT2⟩ : ∃ T2, T2 = (turnW va 2 ^^^ turnW va 13 ^^^ turnW va 22) + ((va &&& vb) ^^^ (va &&& vc) ^^^ (vb &&& vc)) := ⟨_, rfl⟩
      have HT2 := Nm.hide hT2
      simp only [w_xor, w_and, wr_add]
      rw [← hT2]
      clear hT2
      have kk1 : Blk w1.drew p15 _ _ := blk_below kk hS2.2
      have hO1 : Only p15 w w1.drew := hO.more hS2.2
      have hgo : ∀ (K : Act → World → Prop) (Q : Exit → Act → World → Prop) a w, K a w → Exit.then K Q .normal a w := fun _ _ _ _ h => h
      refine hgo _ _ _ _ ?_
      apply_assumption
      clear hgo hS hS0 hS1 hb1 k8 kw kk hO hS2
      refine sha_next p15 T1 T2 va vb vc vd ve vf vg vh _ _ kk1 _ _ _ _ _ _ _ _ _ _ _ _ _ _ _ _ _ _ _ _ _ _ _ _ _ _ _ _ _ _ _ _ _ _ _ _ _ _ _ _ _ _ _ _ _ _ _ _ _ _ _ _ _ _ _ _ _ _ _ _ _ _ _ _ _ _ _ _ _ _ _ _ _ _ _ _ _ _ _ _ _ _ _ _ _ _ _ _ _ _ _ _ _ _ _ _ _ _ _ _ _ _ _ _ _ _ _ _ _ _ _ _ _ _ _ _ _ _ _ _ _ _ _ _ _ _ _ _ _ _ _ _ _ _ _ _ _ _ _ _ _ _ _ _ _ _ _ _ _ _ _ _ _ _ _ _ _ _ _ _ _ _ _ _ _ _ _ _ _ _ _ _ _ _ _ _ _ _ _ _ _ _ _ _ _ _ _ _ _ _ _ _ _ _ _ _ _ _ _ _ _ _ _ _ _ _ _ _ _ _ _ _ _ _ _ _ _ _ _ _ _ _ _ _ _ _ _ _ _ _ _ _ _ _ _ _ _ _ _ _ _ _ _ _ _ _ _ _ _ _ _ _ _ _ _ _ _ _ _ _ _ _ _ _ ?_
      intro u21 u214 u215 u216 u217 u218 u219 u220 u221 u222 u223 u224 u225 u226 u227 u228 u229 u230 u231 u232 u233 u234 w3
      rintro ⟨k3, o3⟩
      have hO3 := hO1.then o3 (.inl rfl)
      have k4 : Blk w3 p15 (hvA (roundsW m s (k + 1))) 119 := by
        rw [HR.out]
        have e : roundW ⟨va, vb, vc, vd, ve, vf, vg, vh⟩ (KW k) wk = ⟨T1 + T2, va, vb, vc, vd + T1, ve, vf, vg⟩ := by rw [HT1.out, HT2.out]; rfl
        rw [e]
        exact k3
      clear k3 o3 hO1 kk1
      go_wp2
      go_roundw
      case rel => exact ⟨k + 1, by omega, by go_num, k4, hO3⟩
      case measure => simp [intOf]; omega
    · obtain rfl : k = 64 := by omega
      go_wp2
      exact ⟨kk, hO⟩
end Go.Proofs.Ytilcbdhcojgcbaa
