import Derived.Test.YtilcbdhcojgcbaaJCutM
import Derived.Test.YtilcbdhcojgcbaaJOrdL
import Derived.Deep.CutRange
import Derived.Test.YtilcbdhcojgcbaaJShK
import Derived.Deep.QuietTactic
import Derived.BigQuiet
import Derived.Test.YtilcbdhcojgcbaaJMath
import Derived.Test.YtilcbdhcojgcbaaRows
import Derived.WalkSpells
import Derived.WalkLawsBesides
import Derived.RegionTactic
import Derived.BigRegion
import Derived.OpenShut
import Derived.Test.YtilcbdhcojgcbaaJICp
/- impl.readSignature by its contract. -/
namespace Go.Proofs.Ytilcbdhcojgcbaa
open Go.RowKit
set_option linter.unusedVariables false

/-- A struct and a value handed back. -/
theorem run_results_row2 {P : Program} {fn : Func} {tmps : Array Value} {w : World} {r s : Nat} {t : TypeId} {p : Nat} {cs : Array Value} {d : TypeDesc} {v : Value} (hf : fn.results = #[.cell r t, .tmp s]) (ht : tmps[r]?.getD undef = .pointer (some ⟨p, 0, none⟩)) (hs : tmps[s]?.getD undef = v) (hk : Blk w p cs t)
    (hu : P.underlying t = some d) (hd : (match d with | .struct _ | .array _ _ => true | _ => false) = true) (hi : (P.info? t).map (·.size) = some cs.size) : (results fn tmps).run P w = .ok (.tuple #[.agg cs, v]) w := by
  have hl := run_loadVar_row w p t t cs (0, 0) d hk hu hd hi
  simp [results, hf, ht, hs, asAddr, hl]

/-- A text that is longer is copied into a stretch of a block. -/
theorem run_copy_strL {P : Program} (w : World) (dT sT ty elem T : TypeId) (b o dLen dCap : Nat) (S : ByteArray) (cs : Array Value) (hk : Blk w b cs T)
    (hu : P.underlying dT = some (.slice elem)) (hs : (P.info? elem).map (·.size) = some 1) (h2 : dLen ≤ S.size) (hfit : o + dLen ≤ cs.size) :
    (Builtin.copy_ #[dT, sT] ty #[.slice (some ⟨b, o, none⟩) dLen dCap, .string S]).run P w = .ok (goInt dLen) (w.setCells b o (bytesV (S.extract 0 dLen))) := by
  have hlv : (bytesV (S.extract 0 dLen)).length = dLen := by simp [bytesV]; omega
  have hst := run_storeCells_cells (P := P) b o (bytesV (S.extract 0 dLen)) 0 w
    (by intro j hj; rw [Nat.add_zero, blk_cell hk (o + j), Array.getElem?_eq_getElem (by omega)]; rfl)
    (by intro j hj; rw [Nat.add_zero]; exact blk_frozen hk _)
    (by intro v hv; simp only [bytesV, List.mem_map] at hv; obtain ⟨c, _, rfl⟩ := hv; rfl)
  have hmin : Nat.min S.size dLen = dLen := Nat.min_eq_right h2
  have hcl : ((S.extract 0 dLen).data.map fun b => (Value.int .u8 (b.toNat : Int))) = (bytesV (S.extract 0 dLen)).toArray := by
    apply Array.toList_inj.1
    simp [bytesV]
  cases hq : P.info? elem with
  | none => simp [hq] at hs
  | some i =>
    have hi : i.size = 1 := by simpa [hq] using hs
    have hst2 : (storeCells ⟨b, o, none⟩ (bytesV (S.extract 0 dLen))).run P w = .ok () (w.setCells b o (bytesV (S.extract 0 dLen))) := by simpa using hst
    have hsz2 : ∀ W : World, (Builtin.firstCells 1 dLen (.string S)).run P W = .ok (bytesV (S.extract 0 dLen)).toArray W := fun W => by rw [← hcl]; rfl
    have hlen : ∀ W : World, (Builtin.lenOf (.string S)).run P W = .ok S.size W := fun W => rfl
    simp [Builtin.copy_, run_underlying hu, hlen, hmin, sizeOf, typeInfo, hq, hi, hsz2, hst2]
theorem wpList_copy_strL {P : Program} {ops : Array Oper} {rest : List Oper} {o : Oper} {a : Act} {w : World} {Q : Exit → Act → World → Prop} (hgd : o.guard = none) (d s : Operand) (dT sT : TypeId)
    (ho : o.op = .call { callee := .builtin .copy, args := #[d, s], argTypes := #[dT, sT] }) (elem : TypeId) (hu : P.underlying dT = some (.slice elem)) (hsz : (P.info? elem).map (·.size) = some 1)
    (b off dLen dCap : Nat) (hd : a.eval d = .slice (some ⟨b, off, none⟩) dLen dCap) (S : ByteArray) (hs : a.eval s = .string S) (cs : Array Value) (T : TypeId) (hk : Blk w b cs T) (h2 : dLen ≤ S.size) (hfit : off + dLen ≤ cs.size)
    (h : ∀ w', Blk w' b (spl cs off (bytesV (S.extract 0 dLen))) T → Only b w w' → wpList P ops Q rest (a.put o.dst (goInt dLen)) w') : wpList P ops Q (o :: rest) a w :=
  wpList_plain hgd fun _ hK => by
    have hrun := run_copy_strL (P := P) w dT sT o.type elem T b off dLen dCap S cs hk hu hsz h2 hfit
    unfold Oper.wp
    simp [execOp, ho, resolve, invoke, builtin, hd, hs, hrun, Result.andThen]
    exact hK _ _ (h _ (blk_setCells _ _ _ _ hk) (only_setCells _ _ _ (Only.refl _ _)))

/-- What readSignature answers. -/
def rdB (r : Rm) : Bool := decide (r.ty = 250) && datB r
def sg0 : Array Value := sgA ByteArray.empty 0 0 z32 0
def sgR (r : Rm) : Array Value := sgA ⟨r.owner.toArray⟩ (sT r.dat) (sF r.dat) (sS r.dat) (sI r.dat)

theorem sg0_size : sg0.size = 36 := sgA_size z32_len
theorem sgI_info (cs : Array Value) (h : cs.size = 36) : (Try.prog.info? 73).map (·.size) = some cs.size := by rw [h]; kernel_rfl

set_option maxRecDepth 100000 in
set_option maxHeartbeats 3200000 in
theorem readSig_short (r : Rm) (w : World) (hd : r.dat.length ≠ 61) :
    Calls Try.prog 47 #[.agg #[.string ⟨r.owner.toArray⟩, .int .i64 (r.ty : Int), .int .i64 (r.cl : Int), .int .i64 (r.ttl : Int), .string ⟨r.dat.toArray⟩]] w fun e w' => e = .returned (.tuple #[.agg sg0, .bool false]) ∧ Below w.heap.size w w' := by
  obtain ⟨D, hD⟩ : ∃ D : ByteArray, D = ⟨r.dat.toArray⟩ := ⟨_, rfl⟩
  have hDz : D.size = r.dat.length := by rw [hD, ba_size]
  have hne : ((D.size : Int) != 61) = true := by rw [bne_iff_ne]; omega
  rw [← hD]
  generalize (⟨r.owner.toArray⟩ : ByteArray) = O at *
  generalize (r.ty : Int) = ty at *
  generalize (r.cl : Int) = cl at *
  generalize (r.ttl : Int) = tl at *
  clear hD hDz hd
  have hz36 : ∀ W, (zeroValue 73).run Try.prog W = .ok (.agg sg0) W := by
    have := zero_of_info (P := Try.prog) (t := 73) (v := .agg sg0) (n := 36) (by kernel_rfl)
    exact this.1
  have k0 := blk_new w #[.string O, .int .i64 ty, .int .i64 cl, .int .i64 tl, .string D] 56
  have hB0 := (Below.refl w.heap.size w).alloc (Nat.le_refl _) (.cells #[.string O, .int .i64 ty, .int .i64 cl, .int .i64 tl, .string D] 56)
  have hBs := hB0.alloc hB0.size (.cells sg0 73)
  have k1 := blk_new (w.alloc (.cells #[.string O, .int .i64 ty, .int .i64 cl, .int .i64 tl, .string D] 56)) sg0 73
  have k0' := blk_alloc k0 (.cells sg0 73)
  rw [World.size_alloc] at k1
  have q4 := (blk_cell k0' 4).trans rfl
  have hin := sgI_info sg0 sg0_size
  have hon : sg0.all (·.oneCell') = true := sgA_one _ _ _ _ _
  have hsz : w.heap.size + 1 ≤ ((w.alloc (.cells #[.string O, .int .i64 ty, .int .i64 cl, .int .i64 tl, .string D] 56)).alloc (.cells sg0 73)).heap.size := by rw [World.size_alloc, World.size_alloc]; omega
  generalize sg0 = S0 at *
  go_enter Try.func47, Try.ntmps47
  go_wp2_with (refine wpList_store_blk (.tmp 2) (.tmp 12) 73 rfl rfl rfl (w.heap.size + 1) _ _ k1 rfl rfl hin rfl hon ?_; intro w' k' o')
  refine bodyPost_ret (run_results_row2 rfl rfl rfl k' Try.underlying73 rfl hin) rfl ⟨rfl, ?_⟩
  exact o'.below hBs (by omega) (by omega)
end Go.Proofs.Ytilcbdhcojgcbaa
/- spec.Sha256: the next eight words. -/
namespace Go.Proofs.Ytilcbdhcojgcbaa
open Go.RowKit
set_option linter.unusedVariables false

theorem all8 (a b c d e f g h : Int) : (#[.int .u32 a, .int .u32 b, .int .u32 c, .int .u32 d, .int .u32 e, .int .u32 f, .int .u32 g, .int .u32 h] : Array Value).all (·.oneCell') = true := by simp [Value.oneCell']
theorem hvA_cells {w : World} {p : Nat} {v : Sv} {T : TypeId} (h : Blk w p (hvA v) T) : w.cell? ⟨p, 0, none⟩ = some (.int .u32 (v.a.toNat : Int)) ∧ w.cell? ⟨p, 1, none⟩ = some (.int .u32 (v.b.toNat : Int)) ∧ w.cell? ⟨p, 2, none⟩ = some (.int .u32 (v.c.toNat : Int)) ∧ w.cell? ⟨p, 3, none⟩ = some (.int .u32 (v.d.toNat : Int)) ∧
    w.cell? ⟨p, 4, none⟩ = some (.int .u32 (v.e.toNat : Int)) ∧ w.cell? ⟨p, 5, none⟩ = some (.int .u32 (v.f.toNat : Int)) ∧ w.cell? ⟨p, 6, none⟩ = some (.int .u32 (v.g.toNat : Int)) ∧ w.cell? ⟨p, 7, none⟩ = some (.int .u32 (v.h.toNat : Int)) :=
  ⟨blk_cell h 0, blk_cell h 1, blk_cell h 2, blk_cell h 3, blk_cell h 4, blk_cell h 5, blk_cell h 6, blk_cell h 7⟩

set_option maxRecDepth 1000000 in
set_option maxHeartbeats 16000000 in
theorem sha_next (p15 : Nat) (T1 T2 va vb vc vd ve vf vg vh : Wd) (Q0 : Exit → Act → World → Prop) (w : World) (kk : Blk w p15 (hvA ⟨va, vb, vc, vd, ve, vf, vg, vh⟩) 119)
    (s0 s1 s2 s3 s4 s5 s6 s7 s8 s9 s10 s11 s12 s13 s14 s16 s17 s18 s21 s22 s23 s24 s25 s26 s27 s28 s29 s30 s31 s32 s33 s34 s35 s36 s37 s38 s39 s40 s41 s42 s43 s44 s45 s46 s47 s48 s49 s50 s51 s52 s53 s54 s55 s56 s57 s58 s59 s60 s61 s62 s63 s64 s65 s66 s67 s68 s69 s70 s71 s72 s73 s74 s75 s76 s77 s78 s79 s80 s81 s82 s83 s84 s85 s86 s87 s88 s89 s90 s91 s92 s93 s94 s95 s96 s97 s98 s99 s100 s101 s102 s103 s104 s105 s106 s107 s108 s109 s110 s111 s112 s113 s114 s115 s116 s117 s118 s119 s120 s121 s122 s123 s124 s125 s126 s127 s128 s129 s130 s131 s132 s133 s134 s135 s136 s137 s138 s139 s140 s141 s142 s143 s144 s145 s146 s147 s148 s149 s150 s151 s152 s153 s154 s155 s156 s157 s158 s159 s160 s161 s162 s163 s164 s165 s166 s167 s168 s169 s170 s171 s172 s173 s174 s175 s176 s177 s178 s179 s180 s181 s182 s183 s184 s185 s186 s187 s188 s189 s190 s191 s192 s193 s194 s195 s196 s197 s198 s199 s200 s201 s202 s203 s204 s205 s206 s207 s208 s209 s210 s211 s212 s213 s214 s215 s216 s217 s218 s219 s220 s221 s222 s223 s224 s225 s226 s227 s228 s229 s230 s231 s232 s233 s234 s235 s236 s237 s238 s239 s240 s241 s242 s243 s244 s245 s246 s247 s248 s249 s250 s251 s252 s253 s254 s255 s256 s257 s258 s259 s260 s261 s262 s263 s264 s265 s266 : Value)
    (hexit : ∀ (u21 u214 u215 u216 u217 u218 u219 u220 u221 u222 u223 u224 u225 u226 u227 u228 u229 u230 u231 u232 u233 u234 : Value) (w' : World), Blk w' p15 (hvA ⟨T1 + T2, va, vb, vc, vd + T1, ve, vf, vg⟩) 119 ∧ Only p15 w w' → Q0 .normal ⟨(s0 :: s1 :: s2 :: s3 :: s4 :: s5 :: s6 :: s7 :: s8 :: s9 :: s10 :: s11 :: s12 :: s13 :: s14 :: .pointer (some ⟨p15, 0, none⟩) :: s16 :: s17 :: s18 :: .int .u32 (T1.toNat : Int) :: .int .u32 (T2.toNat : Int) :: u21 :: s22 :: s23 :: s24 :: s25 :: s26 :: s27 :: s28 :: s29 :: s30 :: s31 :: s32 :: s33 :: s34 :: s35 :: s36 :: s37 :: s38 :: s39 :: s40 :: s41 :: s42 :: s43 :: s44 :: s45 :: s46 :: s47 :: s48 :: s49 :: s50 :: s51 :: s52 :: s53 :: s54 :: s55 :: s56 :: s57 :: s58 :: s59 :: s60 :: s61 :: s62 :: s63 :: s64 :: s65 :: s66 :: s67 :: s68 :: s69 :: s70 :: s71 :: s72 :: s73 :: s74 :: s75 :: s76 :: s77 :: s78 :: s79 :: s80 :: s81 :: s82 :: s83 :: s84 :: s85 :: s86 :: s87 :: s88 :: s89 :: s90 :: s91 :: s92 :: s93 :: s94 :: s95 :: s96 :: s97 :: s98 :: s99 :: s100 :: s101 :: s102 :: s103 :: s104 :: s105 :: s106 :: s107 :: s108 :: s109 :: s110 :: s111 :: s112 :: s113 :: s114 :: s115 :: s116 :: s117 :: s118 :: s119 :: s120 :: s121 :: s122 :: s123 :: s124 :: s125 :: s126 :: s127 :: s128 :: s129 :: s130 :: s131 :: s132 :: s133 :: s134 :: s135 :: s136 :: s137 :: s138 :: s139 :: s140 :: s141 :: s142 :: s143 :: s144 :: s145 :: s146 :: s147 :: s148 :: s149 :: s150 :: s151 :: s152 :: s153 :: s154 :: s155 :: s156 :: s157 :: s158 :: s159 :: s160 :: s161 :: s162 :: s163 :: s164 :: s165 :: s166 :: s167 :: s168 :: s169 :: s170 :: s171 :: s172 :: s173 :: s174 :: s175 :: s176 :: s177 :: s178 :: s179 :: s180 :: s181 :: s182 :: s183 :: s184 :: s185 :: s186 :: s187 :: s188 :: s189 :: s190 :: s191 :: s192 :: s193 :: s194 :: s195 :: s196 :: s197 :: s198 :: s199 :: s200 :: s201 :: s202 :: s203 :: s204 :: s205 :: s206 :: s207 :: s208 :: s209 :: s210 :: s211 :: s212 :: s213 :: u214 :: u215 :: u216 :: u217 :: u218 :: u219 :: u220 :: u221 :: u222 :: u223 :: u224 :: u225 :: u226 :: u227 :: u228 :: u229 :: u230 :: u231 :: u232 :: u233 :: u234 :: s235 :: s236 :: s237 :: s238 :: s239 :: s240 :: s241 :: s242 :: s243 :: s244 :: s245 :: s246 :: s247 :: s248 :: s249 :: s250 :: s251 :: s252 :: s253 :: s254 :: s255 :: s256 :: s257 :: s258 :: s259 :: s260 :: s261 :: s262 :: s263 :: s264 :: s265 :: s266 :: []).toArray, []⟩ w') :
    Code.wp Try.prog shR37 Q0 ⟨(s0 :: s1 :: s2 :: s3 :: s4 :: s5 :: s6 :: s7 :: s8 :: s9 :: s10 :: s11 :: s12 :: s13 :: s14 :: .pointer (some ⟨p15, 0, none⟩) :: s16 :: s17 :: s18 :: .int .u32 (T1.toNat : Int) :: .int .u32 (T2.toNat : Int) :: s21 :: s22 :: s23 :: s24 :: s25 :: s26 :: s27 :: s28 :: s29 :: s30 :: s31 :: s32 :: s33 :: s34 :: s35 :: s36 :: s37 :: s38 :: s39 :: s40 :: s41 :: s42 :: s43 :: s44 :: s45 :: s46 :: s47 :: s48 :: s49 :: s50 :: s51 :: s52 :: s53 :: s54 :: s55 :: s56 :: s57 :: s58 :: s59 :: s60 :: s61 :: s62 :: s63 :: s64 :: s65 :: s66 :: s67 :: s68 :: s69 :: s70 :: s71 :: s72 :: s73 :: s74 :: s75 :: s76 :: s77 :: s78 :: s79 :: s80 :: s81 :: s82 :: s83 :: s84 :: s85 :: s86 :: s87 :: s88 :: s89 :: s90 :: s91 :: s92 :: s93 :: s94 :: s95 :: s96 :: s97 :: s98 :: s99 :: s100 :: s101 :: s102 :: s103 :: s104 :: s105 :: s106 :: s107 :: s108 :: s109 :: s110 :: s111 :: s112 :: s113 :: s114 :: s115 :: s116 :: s117 :: s118 :: s119 :: s120 :: s121 :: s122 :: s123 :: s124 :: s125 :: s126 :: s127 :: s128 :: s129 :: s130 :: s131 :: s132 :: s133 :: s134 :: s135 :: s136 :: s137 :: s138 :: s139 :: s140 :: s141 :: s142 :: s143 :: s144 :: s145 :: s146 :: s147 :: s148 :: s149 :: s150 :: s151 :: s152 :: s153 :: s154 :: s155 :: s156 :: s157 :: s158 :: s159 :: s160 :: s161 :: s162 :: s163 :: s164 :: s165 :: s166 :: s167 :: s168 :: s169 :: s170 :: s171 :: s172 :: s173 :: s174 :: s175 :: s176 :: s177 :: s178 :: s179 :: s180 :: s181 :: s182 :: s183 :: s184 :: s185 :: s186 :: s187 :: s188 :: s189 :: s190 :: s191 :: s192 :: s193 :: s194 :: s195 :: s196 :: s197 :: s198 :: s199 :: s200 :: s201 :: s202 :: s203 :: s204 :: s205 :: s206 :: s207 :: s208 :: s209 :: s210 :: s211 :: s212 :: s213 :: s214 :: s215 :: s216 :: s217 :: s218 :: s219 :: s220 :: s221 :: s222 :: s223 :: s224 :: s225 :: s226 :: s227 :: s228 :: s229 :: s230 :: s231 :: s232 :: s233 :: s234 :: s235 :: s236 :: s237 :: s238 :: s239 :: s240 :: s241 :: s242 :: s243 :: s244 :: s245 :: s246 :: s247 :: s248 :: s249 :: s250 :: s251 :: s252 :: s253 :: s254 :: s255 :: s256 :: s257 :: s258 :: s259 :: s260 :: s261 :: s262 :: s263 :: s264 :: s265 :: s266 :: []).toArray, []⟩ w := by
  conv => arg 2; whnf
  have hinf8 : (Try.prog.info? 119).map (·.size) = some 8 := by kernel_rfl
  obtain ⟨c0, c1, c2, c3, c4, c5, c6, c7⟩ := hvA_cells kk
  simp only at c0 c1 c2 c3 c4 c5 c6 c7
  have HX := Nm.hide hexit
  clear hexit
  go_wp2_with (first
    | (refine wpList_store_blk (.tmp 15) (.tmp 234) 119 rfl rfl rfl p15 _ _ (blk_alloc kk _) rfl rfl hinf8 rfl (all8 _ _ _ _ _ _ _ _) ?_; intro w3 k3 o3))
  rw [w_add, w_add] at k3
  refine HX.out _ _ _ _ _ _ _ _ _ _ _ _ _ _ _ _ _ _ _ _ _ _ _ ⟨k3, ((Only.refl p15 w).alloc _).then o3 (.inl rfl)⟩
end Go.Proofs.Ytilcbdhcojgcbaa
/- (impl.state).round by its contract. -/
namespace Go.Proofs.Ytilcbdhcojgcbaa
open Go.RowKit
set_option linter.unusedVariables false

def t1X (s : Sv) (x : Wd) : Wd := s.h + (turnW s.e 6 ^^^ turnW s.e 11 ^^^ turnW s.e 25) + ((s.e &&& s.f) ^^^ (~~~s.e &&& s.g)) + x
def roundX (s : Sv) (x : Wd) : Sv := ⟨t1X s x + t2W s, s.a, s.b, s.c, s.d + t1X s x, s.e, s.f, s.g⟩
theorem roundX_eq (s : Sv) (k w : Wd) : roundX s (k + w) = roundW s k w := by
  have e : t1X s (k + w) = t1W s k w := by rw [t1X, t1W, ← BitVec.add_assoc]
  rw [roundX, roundW, e]
theorem blk_drewN {w : World} {b : Nat} {cs : Array Value} {T : TypeId} (n : Nat) (h : Blk w b cs T) : Blk (w.drewN n) b cs T := h
theorem below_drewN {B : Nat} {w w' : World} (n : Nat) (h : Below B w w') : Below B w (w'.drewN n) := ⟨h.os, h.tape, h.output, h.size, h.block⟩
theorem w_add22 (a b c d e f : Wd) : ((a.toNat : Int) + (b.toNat : Int) + (c.toNat : Int) + (d.toNat : Int) + ((e.toNat : Int) + (f.toNat : Int))) % (4294967296 : Int) = ((a + b + c + d + (e + f)).toNat : Int) := by
  rw [← w_add, ← w_add, ← w_add, ← w_add, ← w_add]
  omega
theorem w_add14 (z a b c d : Wd) : ((z.toNat : Int) + ((a.toNat : Int) + (b.toNat : Int) + (c.toNat : Int) + (d.toNat : Int))) % (4294967296 : Int) = ((z + (a + b + c + d)).toNat : Int) := by
  rw [← w_add, ← w_add, ← w_add, ← w_add]
  omega

end Go.Proofs.Ytilcbdhcojgcbaa
/- spec.Sha256: the words of a round are added. -/
namespace Go.Proofs.Ytilcbdhcojgcbaa
open Go.RowKit
set_option linter.unusedVariables false

def adA (h v : Sv) (i : Nat) : Array Value := ((List.range 8).map fun j => if j < i then wV (((svL h)[j]?).getD 0 + ((svL v)[j]?).getD 0) else wV (((svL h)[j]?).getD 0)).toArray
theorem adA_zero (h v : Sv) : adA h v 0 = hvA h := rfl
theorem adA_all (h v : Sv) : adA h v 8 = hvA (addSv h v) := rfl
theorem hvA_at (h : Sv) {j : Nat} (hj : j < 8) : (hvA h)[j]? = some (.int .u32 ((((svL h)[j]?).getD 0).toNat : Int)) := by
  match j, hj with
  | 0, _ | 1, _ | 2, _ | 3, _ | 4, _ | 5, _ | 6, _ | 7, _ => rfl
theorem adA_at {h v : Sv} {i j : Nat} (hij : ¬ j < i) (hj : j < 8) : (adA h v i)[j]? = some (.int .u32 ((((svL h)[j]?).getD 0).toNat : Int)) := by
  simp [adA, hj, hij, wV]
theorem adA_set {h v : Sv} {i : Nat} (hi : i < 8) : (adA h v i).setIfInBounds i (.int .u32 ((((svL h)[i]?).getD 0 + ((svL v)[i]?).getD 0).toNat : Int)) = adA h v (i + 1) := by
  apply Array.ext_getElem?
  intro j
  rw [Array.getElem?_setIfInBounds]
  by_cases hj : i = j
  · subst hj
    simp [adA, hi, wV]
  · rw [if_neg hj]
    by_cases hj8 : j < 8
    · simp only [adA, List.getElem?_toArray, List.getElem?_map, List.getElem?_range hj8, Option.map_some]
      by_cases h1 : j < i
      · rw [if_pos h1, if_pos (by omega)]
      · rw [if_neg h1, if_neg (by omega)]
    · simp [adA, hj8]

set_option maxRecDepth 1000000 in
set_option maxHeartbeats 16000000 in
theorem sha_add (p6 p15 : Nat) (hne : p15 ≠ p6) (h v : Sv) (Q0 : Exit → Act → World → Prop) (w : World) (k6 : Blk w p6 (hvA h) 119) (k15 : Blk w p15 (hvA v) 119)
    (s0 s1 s2 s3 s4 s5 s7 s8 s9 s10 s11 s12 s13 s14 s16 s17 s18 s19 s20 s21 s23 s24 s25 s26 s27 s28 s29 s30 s31 s32 s33 s34 s35 s36 s37 s38 s39 s40 s41 s42 s43 s44 s45 s46 s47 s48 s49 s50 s51 s52 s53 s54 s55 s56 s57 s58 s59 s60 s61 s62 s63 s64 s65 s66 s67 s68 s69 s70 s71 s72 s73 s74 s75 s76 s77 s78 s79 s80 s81 s82 s83 s84 s85 s86 s87 s88 s89 s90 s91 s92 s93 s94 s95 s96 s97 s98 s99 s100 s101 s102 s103 s104 s105 s106 s107 s108 s109 s110 s111 s112 s113 s114 s115 s116 s117 s118 s119 s120 s121 s122 s123 s124 s125 s126 s127 s128 s129 s130 s131 s132 s133 s134 s135 s136 s137 s138 s139 s140 s141 s142 s143 s144 s145 s146 s147 s148 s149 s150 s151 s152 s153 s154 s155 s156 s157 s158 s159 s160 s161 s162 s163 s164 s165 s166 s167 s168 s169 s170 s171 s172 s173 s174 s175 s176 s177 s178 s179 s180 s181 s182 s183 s184 s185 s186 s187 s188 s189 s190 s191 s192 s193 s194 s195 s196 s197 s198 s199 s200 s201 s202 s203 s204 s205 s206 s207 s208 s209 s210 s211 s212 s213 s214 s215 s216 s217 s218 s219 s220 s221 s222 s223 s224 s225 s226 s227 s228 s229 s230 s231 s232 s233 s234 s235 s236 s237 s238 s239 s240 s241 s242 s243 s244 s245 s246 s247 s248 s249 s250 s251 s252 s253 s254 s255 s256 s257 s258 s259 s260 s261 s262 s263 s264 s265 s266 : Value)
    (hexit : ∀ (u22 u235 u236 u237 u238 u239 u240 u241 u242 u243 u244 u245 u246 u247 : Value) (w' : World), Blk w' p6 (hvA (addSv h v)) 119 ∧ Only p6 w w' → Q0 (.exit 12) ⟨(s0 :: s1 :: s2 :: s3 :: s4 :: s5 :: .pointer (some ⟨p6, 0, none⟩) :: s7 :: s8 :: s9 :: s10 :: s11 :: s12 :: s13 :: s14 :: .pointer (some ⟨p15, 0, none⟩) :: s16 :: s17 :: s18 :: s19 :: s20 :: s21 :: u22 :: s23 :: s24 :: s25 :: s26 :: s27 :: s28 :: s29 :: s30 :: s31 :: s32 :: s33 :: s34 :: s35 :: s36 :: s37 :: s38 :: s39 :: s40 :: s41 :: s42 :: s43 :: s44 :: s45 :: s46 :: s47 :: s48 :: s49 :: s50 :: s51 :: s52 :: s53 :: s54 :: s55 :: s56 :: s57 :: s58 :: s59 :: s60 :: s61 :: s62 :: s63 :: s64 :: s65 :: s66 :: s67 :: s68 :: s69 :: s70 :: s71 :: s72 :: s73 :: s74 :: s75 :: s76 :: s77 :: s78 :: s79 :: s80 :: s81 :: s82 :: s83 :: s84 :: s85 :: s86 :: s87 :: s88 :: s89 :: s90 :: s91 :: s92 :: s93 :: s94 :: s95 :: s96 :: s97 :: s98 :: s99 :: s100 :: s101 :: s102 :: s103 :: s104 :: s105 :: s106 :: s107 :: s108 :: s109 :: s110 :: s111 :: s112 :: s113 :: s114 :: s115 :: s116 :: s117 :: s118 :: s119 :: s120 :: s121 :: s122 :: s123 :: s124 :: s125 :: s126 :: s127 :: s128 :: s129 :: s130 :: s131 :: s132 :: s133 :: s134 :: s135 :: s136 :: s137 :: s138 :: s139 :: s140 :: s141 :: s142 :: s143 :: s144 :: s145 :: s146 :: s147 :: s148 :: s149 :: s150 :: s151 :: s152 :: s153 :: s154 :: s155 :: s156 :: s157 :: s158 :: s159 :: s160 :: s161 :: s162 :: s163 :: s164 :: s165 :: s166 :: s167 :: s168 :: s169 :: s170 :: s171 :: s172 :: s173 :: s174 :: s175 :: s176 :: s177 :: s178 :: s179 :: s180 :: s181 :: s182 :: s183 :: s184 :: s185 :: s186 :: s187 :: s188 :: s189 :: s190 :: s191 :: s192 :: s193 :: s194 :: s195 :: s196 :: s197 :: s198 :: s199 :: s200 :: s201 :: s202 :: s203 :: s204 :: s205 :: s206 :: s207 :: s208 :: s209 :: s210 :: s211 :: s212 :: s213 :: s214 :: s215 :: s216 :: s217 :: s218 :: s219 :: s220 :: s221 :: s222 :: s223 :: s224 :: s225 :: s226 :: s227 :: s228 :: s229 :: s230 :: s231 :: s232 :: s233 :: s234 :: u235 :: u236 :: u237 :: u238 :: u239 :: u240 :: u241 :: u242 :: u243 :: u244 :: u245 :: u246 :: u247 :: s248 :: s249 :: s250 :: s251 :: s252 :: s253 :: s254 :: s255 :: s256 :: s257 :: s258 :: s259 :: s260 :: s261 :: s262 :: s263 :: s264 :: s265 :: s266 :: []).toArray, []⟩ w') :
    Code.wp Try.prog (Code.loop shL7) Q0 ⟨(s0 :: s1 :: s2 :: s3 :: s4 :: s5 :: .pointer (some ⟨p6, 0, none⟩) :: s7 :: s8 :: s9 :: s10 :: s11 :: s12 :: s13 :: s14 :: .pointer (some ⟨p15, 0, none⟩) :: s16 :: s17 :: s18 :: s19 :: s20 :: s21 :: .int .i64 0 :: s23 :: s24 :: s25 :: s26 :: s27 :: s28 :: s29 :: s30 :: s31 :: s32 :: s33 :: s34 :: s35 :: s36 :: s37 :: s38 :: s39 :: s40 :: s41 :: s42 :: s43 :: s44 :: s45 :: s46 :: s47 :: s48 :: s49 :: s50 :: s51 :: s52 :: s53 :: s54 :: s55 :: s56 :: s57 :: s58 :: s59 :: s60 :: s61 :: s62 :: s63 :: s64 :: s65 :: s66 :: s67 :: s68 :: s69 :: s70 :: s71 :: s72 :: s73 :: s74 :: s75 :: s76 :: s77 :: s78 :: s79 :: s80 :: s81 :: s82 :: s83 :: s84 :: s85 :: s86 :: s87 :: s88 :: s89 :: s90 :: s91 :: s92 :: s93 :: s94 :: s95 :: s96 :: s97 :: s98 :: s99 :: s100 :: s101 :: s102 :: s103 :: s104 :: s105 :: s106 :: s107 :: s108 :: s109 :: s110 :: s111 :: s112 :: s113 :: s114 :: s115 :: s116 :: s117 :: s118 :: s119 :: s120 :: s121 :: s122 :: s123 :: s124 :: s125 :: s126 :: s127 :: s128 :: s129 :: s130 :: s131 :: s132 :: s133 :: s134 :: s135 :: s136 :: s137 :: s138 :: s139 :: s140 :: s141 :: s142 :: s143 :: s144 :: s145 :: s146 :: s147 :: s148 :: s149 :: s150 :: s151 :: s152 :: s153 :: s154 :: s155 :: s156 :: s157 :: s158 :: s159 :: s160 :: s161 :: s162 :: s163 :: s164 :: s165 :: s166 :: s167 :: s168 :: s169 :: s170 :: s171 :: s172 :: s173 :: s174 :: s175 :: s176 :: s177 :: s178 :: s179 :: s180 :: s181 :: s182 :: s183 :: s184 :: s185 :: s186 :: s187 :: s188 :: s189 :: s190 :: s191 :: s192 :: s193 :: s194 :: s195 :: s196 :: s197 :: s198 :: s199 :: s200 :: s201 :: s202 :: s203 :: s204 :: s205 :: s206 :: s207 :: s208 :: s209 :: s210 :: s211 :: s212 :: s213 :: s214 :: s215 :: s216 :: s217 :: s218 :: s219 :: s220 :: s221 :: s222 :: s223 :: s224 :: s225 :: s226 :: s227 :: s228 :: s229 :: s230 :: s231 :: s232 :: s233 :: s234 :: s235 :: s236 :: s237 :: s238 :: s239 :: s240 :: s241 :: s242 :: s243 :: s244 :: s245 :: s246 :: s247 :: s248 :: s249 :: s250 :: s251 :: s252 :: s253 :: s254 :: s255 :: s256 :: s257 :: s258 :: s259 :: s260 :: s261 :: s262 :: s263 :: s264 :: s265 :: s266 :: []).toArray, []⟩ w := by
  conv => arg 2; arg 1; whnf
  go_loopw [22] (fun i wr => ∃ k : Nat, k ≤ 8 ∧ i = .int .i64 k ∧ Blk wr p6 (adA h v k) 119 ∧ Only p6 w wr) (fun i _ => 8 - (intOf i).toNat)
  case atStart => exact ⟨0, by omega, rfl, k6, Only.refl _ _⟩
  case round =>
    obtain ⟨k, hk, rfl, kk, hO⟩ := hrel
    have kv := hO.blk k15 hne
    clear k6 k15
    by_cases hlt : k < 8
    · have c6 := (blk_cell kk k).trans (adA_at (Nat.lt_irrefl k) hlt)
      have c15 := (blk_cell kv k).trans (hvA_at v hlt)
      have f6 := blk_frozen kk k
      have i1 : (0 : Int) ≤ (k : Int) := by omega
      have i2 : (k : Int) < 8 := by omega
      have kS := blk_set kk k (.int .u32 ((((svL h)[k]?).getD 0 + ((svL v)[k]?).getD 0).toNat : Int))
      rw [adA_set hlt] at kS
      have hOS := hO.set (i := k) (v := .int .u32 ((((svL h)[k]?).getD 0 + ((svL v)[k]?).getD 0).toNat : Int))
      generalize ((svL h)[k]?).getD 0 = x at *
      generalize ((svL v)[k]?).getD 0 = y at *
      clear hexit
      go_wp2
      go_region
      all_goals go_wp2
      rw [w_add x y]
      go_roundw
      case rel => exact ⟨k + 1, by omega, by go_num, blk_drew kS, hOS.drew⟩
      case measure => simp [intOf]; omega
    · obtain rfl : k = 8 := by omega
      rw [adA_all] at kk
      go_wp2
      exact ⟨kk, hO⟩
end Go.Proofs.Ytilcbdhcojgcbaa
/- (impl.state).take by its contract. -/
namespace Go.Proofs.Ytilcbdhcojgcbaa
open Go.RowKit
set_option linter.unusedVariables false

theorem run_index_arr {P : Program} {t e : TypeId} {n k : Nat} {cs : Array Value} {v : Value} {i : TypeInfo} (hu : P.underlying t = some (.array n e)) (hue : P.underlying e = some (.int .u32)) (hi : P.info? e = some i) (hs : i.size = 1) (hk : k < n) (hv : cs[k]? = some v) (W : World) :
    (Instr.index t (.agg cs) (.int .i64 (k : Int))).run P W = .ok v W := by
  have h0 : (0 : Int) ≤ (k : Int) ∧ (k : Int) < (n : Int) := by omega
  simp [Instr.index, asIntOf, run_underlying hu, run_underlying hue, part, isAgg, sizeOf, typeInfo, hi, hs, h0, hk, hv]
theorem info_one {P : Program} {e : TypeId} (h : (P.info? e).map (·.size) = some 1) : ∃ i, P.info? e = some i ∧ i.size = 1 := by
  cases hq : P.info? e with
  | none => simp [hq] at h
  | some i => exact ⟨i, rfl, by simpa [hq] using h⟩
theorem hvA_size (s : Sv) : (hvA s).size = 8 := rfl
theorem hvA_one (s : Sv) : (hvA s).all (·.oneCell') = true := all8 _ _ _ _ _ _ _ _
/-- The words K lie in block g. -/
def KAt (W : World) (g : Nat) : Prop := ∀ i, i < 64 → W.cell? ⟨g, i, none⟩ = some (.int .u32 ((KW i).toNat : Int))
theorem KAt.below {w W : World} {g : Nat} (h : KAt w g) (hb : Below w.heap.size w W) : KAt W g := fun i hi => (hb.cell (World.block_lt_of_cell? w _ (h i hi))).trans (h i hi)

theorem wp_store_blk {P : Program} {o : Oper} {a : Act} {w : World} {K : Act → World → Prop} {Q : Exit → Act → World → Prop} (p x : Operand) (t : TypeId) (ho : o.op = .store t p x) (hdst : o.dst = none) (b : Nat) (c c' : Array Value) (hk : Blk w b c t)
    (hp : a.eval p = .pointer (some ⟨b, 0, none⟩)) (hx : a.eval x = .agg c') (hi : (P.info? t).map (·.size) = some c'.size) (hs : c.size = c'.size) (h1 : c'.all (·.oneCell') = true)
    (h : ∀ w', Blk w' b c' t → Only b w w' → K a w') : o.wp P a w K Q := by
  unfold Oper.wp execOp
  simp only [ho, hp, hx, Instr.storeAt, Instr.sureAddr, Sem.run_bind, Sem.run_pure, Result.andThen_ok, run_storeVar_row w b t t c c' hk hi hs h1]
  have e : a.put o.dst undef = a := by rw [hdst]; rfl
  show K (a.put o.dst undef) _
  rw [e]
  exact h _ (blk_setRow hk) Only.setRow

end Go.Proofs.Ytilcbdhcojgcbaa
/- impl.fail, (*reader).take by their contracts. -/
namespace Go.Proofs.Ytilcbdhcojgcbaa
open Go.RowKit
set_option linter.unusedVariables false

/-- What a reader panics with. -/
def fault (c : Int) : List PanicEntry := [{ v := .iface 109 (.agg #[.int .i64 c]), recovered := false }]

set_option maxRecDepth 100000 in
set_option maxHeartbeats 400000 in
theorem fail_any (c : Int) (w : World) :
    Calls Try.prog 54 #[.int .i64 c] w fun e w' => e = .panicked (fault c) ∧ w' = w := by
  go_enter Try.func54, Try.ntmps54
  go_wp2
  simp [bodyPost, fault]

theorem bp_panic {P : Program} {f : Func} {R : Ending → World → Prop} {ch : List PanicEntry} {a : Act} {w : World} (hd : a.defers = []) (h : R (.panicked ch) w) : bodyPost P f R (.panic ch) a w := by
  simp only [bodyPost]
  exact ⟨hd, h⟩

/-- A reader lies in block g: its bytes' slice, its place. -/
def Rd (w : World) (g : Nat) (v : Value) (p : Nat) : Prop := w.heap[g]? = some (.cells #[v, .int .i64 p] 92 (0, 0))

/-- What take tells of a slice. -/
def cutV (a : Option Addr) (cap p size : Nat) : Value := if cap = p then .slice a size 0 else .slice (a.map (fun x => x.add p)) size (cap - p)

theorem grown_drew {w w' : World} {row : Option Nat} (h : w.grownBy w' row) : w.grownBy w'.drew row := ⟨h.os, h.tape, h.output, h.size, h.block⟩

theorem rd_set {w : World} {g p q : Nat} {v : Value} (h : Rd w g v p) : Rd (w.setCell ⟨g, 1, none⟩ (.int .i64 q)) g v q ∧ w.grownBy (w.setCell ⟨g, 1, none⟩ (.int .i64 q)) (some g) := by
  refine ⟨?_, ⟨rfl, rfl, rfl, by simp, fun k _ hk => heap_setCell_other w ⟨g, 1, none⟩ k _ (fun e => hk (by simp [e]))⟩⟩
  unfold Rd
  rw [heap_setCell_same w g 1 _ _ _ h]; rfl

set_option maxRecDepth 100000 in
set_option maxHeartbeats 800000 in
theorem take_any (g : Nat) (a : Option Addr) (n cap p size : Nat) (w : World) (h : Rd w g (.slice a n cap) p) (hp : p ≤ n) (hn : n ≤ cap) (hnn : n ≤ 1048576) (hs : size ≤ 65535) :
    Calls Try.prog 66 #[.pointer (some ⟨g, 0, none⟩), .int .i64 size] w fun e w' =>
      (p + size ≤ n ∧ e = .returned (cutV a cap p size) ∧ Rd w' g (.slice a n cap) (p + size) ∧ w.grownBy w' (some g)) ∨
      (n < p + size ∧ e = .panicked (fault 8) ∧ w.grownBy w' (some g)) := by
  have c0 : w.cell? ⟨g, 0, none⟩ = some (.slice a n cap) := by rw [cell_of_row _ _ _ _ _ _ h]; rfl
  have c1 : w.cell? ⟨g, 1, none⟩ = some (.int .i64 p) := by rw [cell_of_row _ _ _ _ _ _ h]; rfl
  have f0 := frozen_of_row w g 0 _ _ h
  have f1 := frozen_of_row w g 1 _ _ h
  by_cases hlt : n < p + size
  · have hlt' : (n : Int) - (p : Int) < (size : Int) := by omega
    go_enter Try.func66, Try.ntmps66
    go_wp2
    go_region
    go_wp2_with (go_at_call 54; refine (fail_any 8 _).mono ?_; rintro e w1 ⟨rfl, rfl⟩)
    refine bp_panic rfl ?_
    exact .inr ⟨hlt, rfl, grown_drew (World.grownBy.refl _ _)⟩
  · have hlt' : (size : Int) ≤ (n : Int) - (p : Int) := by omega
    have HS := Nm.hide (rd_set (q := p + size) h)
    simp only [Int.natCast_add] at HS
    have HL : Hid (p + size ≤ n) := by exact Nat.le_of_not_lt hlt
    have hcell := fun q => (World.cell?_setCell_other w ⟨g, 1, none⟩ ⟨g, 0, none⟩ (.int .i64 q) (by simp))
    clear hlt
    by_cases hcp : cap = p
    · subst hcp
      go_enter Try.func66, Try.ntmps66
      go_wp2
      go_region
      go_wp2
      go_region
      go_wp2
      go_ret
      exact .inl ⟨HL.out, by simp [cutV], HS.out.1, grown_drew (grown_drew HS.out.2)⟩
    · go_enter Try.func66, Try.ntmps66
      go_wp2
      go_region
      go_wp2
      go_region
      go_wp2
      go_ret
      exact .inl ⟨HL.out, by simp [cutV, hcp], HS.out.1, grown_drew (grown_drew HS.out.2)⟩
end Go.Proofs.Ytilcbdhcojgcbaa
/- (*reader).number by its contract. -/
namespace Go.Proofs.Ytilcbdhcojgcbaa
open Go.RowKit
set_option linter.unusedVariables false

theorem by_drop {l : List UInt8} {p size : Nat} : Nm.bys ((l.drop p).take size) = ((Nm.bys l).drop p).take size := by
  simp [Nm.bys]

/-- What take tells leads to the bytes from the place on. -/
theorem cut_row {w : World} {a : Option Addr} {l : List UInt8} {cap p size : Nat} (h : BySl w (.slice a l.length cap) l) (hp : p + size ≤ l.length) : CRow w (cutV a cap p size) size 1 (Nm.bys ((l.drop p).take size)) := by
  obtain ⟨_, a', cap', e, h1, h2, h3⟩ := h
  simp only [Value.slice.injEq] at e
  obtain ⟨rfl, _, rfl⟩ := e
  have hlen : (Nm.bys ((l.drop p).take size)).length = size * 1 := by rw [Nm.bys_length]; simp; omega
  refine ⟨hlen, ?_⟩
  by_cases hcp : cap = p
  · refine ⟨a, 0, by rw [cutV, if_pos hcp], by omega, by omega, fun h => by omega⟩
  · refine ⟨a.map (fun x => x.add p), cap - p, by rw [cutV, if_neg hcp], by omega, by omega, fun h => ?_⟩
    obtain ⟨b, off, rfl, hc⟩ := h3 (by omega)
    refine ⟨b, off + p, by simp [Nm.addr_add], fun i x hx => ?_⟩
    rw [by_drop, List.getElem?_take] at hx
    split at hx
    · rw [List.getElem?_drop] at hx
      rw [Nat.add_assoc]
      exact hc _ _ hx
    · cases hx

theorem cut_str {w : World} {v : Value} {l : List UInt8} {n : Nat} (h : CRow w v n 1 (Nm.bys l)) : (convert 22 9 v).run Try.prog w = .ok (.string ⟨l.toArray⟩) w := by
  obtain ⟨hl, a, cap, rfl, h1, h2, h3⟩ := h
  rw [Nm.bys_length, Nat.mul_one] at hl
  subst hl
  rcases Nat.eq_zero_or_pos l.length with h0 | hpos
  · have : l = [] := List.length_eq_zero_iff.1 h0
    subst this
    cases a with
    | none => exact (run_convert_bytes_string w 22 9 5 none 0 cap Try.underlying22 Try.underlying5 Try.underlying9).trans rfl
    | some x => exact run_convert_bytes_back w 22 9 5 x cap [] Try.underlying22 Try.underlying5 Try.underlying9 (by intro j hj; simp at hj)
  · obtain ⟨b, off, rfl, hc⟩ := h3 hpos
    refine run_convert_bytes_back w 22 9 5 ⟨b, off, none⟩ cap l Try.underlying22 Try.underlying5 Try.underlying9 ?_
    intro j hj
    rw [Nm.addr_add]
    exact hc j _ (by simp [Nm.bys, hj])

set_option maxRecDepth 100000 in
set_option maxHeartbeats 800000 in
theorem number_any (g : Nat) (a : Option Addr) (l : List UInt8) (cap p size : Nat) (w : World) (h : Rd w g (.slice a l.length cap) p) (hl : BySl w (.slice a l.length cap) l) (hfar : ∀ w', w.grownBy w' (some g) → BySl w' (.slice a l.length cap) l) (hp : p ≤ l.length) (hnn : l.length ≤ 1048576) (hs : size ≤ 6) :
    Calls Try.prog 53 #[.pointer (some ⟨g, 0, none⟩), .int .i64 size] w fun e w' =>
      (p + size ≤ l.length ∧ e = .returned (.int .i64 (numL ((l.drop p).take size))) ∧ Rd w' g (.slice a l.length cap) (p + size) ∧ w.grownBy w' (some g)) ∨
      (l.length < p + size ∧ e = .panicked (fault 8) ∧ w.grownBy w' (some g)) := by
  have hcap : l.length ≤ cap := by
    obtain ⟨_, a', cap', e, h1, _⟩ := hl
    simp only [Value.slice.injEq] at e
    obtain ⟨rfl, _, rfl⟩ := e
    exact h1
  have ht := take_any g a l.length cap p size w h hp hcap hnn (by omega)
  by_cases hlt : p + size ≤ l.length
  · have hcv := fun W (h : w.grownBy W (some g)) => cut_str (cut_row (hfar W h) hlt)
    have hrb := fun W => readBig_any ⟨((l.drop p).take size).toArray⟩ W (by show ((l.drop p).take size).toArray.size ≤ 6; simp; omega)
    generalize hq : cutV a cap p size = q at *
    have hlt2 : ¬ l.length < p + size := by omega
    simp only [hlt, hlt2, true_and, false_and, or_false] at ht
    go_enter Try.func53, Try.ntmps53
    go_wp2_with (first | (go_at_call 66; refine ht.mono ?_; rintro e w1 ⟨rfl, hr1, hg1⟩; have hcv1 := hcv w1 hg1) | (go_at_call 57; refine (hrb _).mono ?_; rintro e w2 ⟨rfl, rfl⟩))
    go_ret
    exact .inl ⟨hlt, rfl, hr1, hg1⟩
  · have hlt2 : l.length < p + size := by omega
    simp only [hlt, hlt2, true_and, false_and, false_or] at ht
    go_enter Try.func53, Try.ntmps53
    go_wp2_with (go_at_call 66; refine ht.mono ?_; rintro e w1 ⟨rfl, hg1⟩)
    refine bp_panic rfl ?_
    exact .inr ⟨hlt2, rfl, hg1⟩
end Go.Proofs.Ytilcbdhcojgcbaa
