import Derived.Test.YtfficbpalibmoaaGreatDoorJICc
import Derived.Test.YtfficbpalibmoaaGreatDoorJDcM
import Derived.Test.YtfficbpalibmoaaGreatDoorJJoin
import Derived.Deep.CutRange
import Derived.Test.YtfficbpalibmoaaGreatDoorJOwnT
import Derived.Test.YtfficbpalibmoaaGreatDoorJSgR
import Derived.Deep.QuietTactic
import Derived.BigQuiet
/- impl.foldByte, impl.foldText and impl.FoldName by their contracts. -/
namespace Go.Proofs.YtfficbpalibmoaaGreatDoor
open Go.RowKit

theorem low_set {l : List UInt8} {k : Nat} {c : UInt8} (h : l[k]? = some c) : (Nm.smallL (l.take k) ++ l.drop k).set k (Nm.low c) = Nm.smallL (l.take (k + 1)) ++ l.drop (k + 1) := by
  have hk : k < l.length := (List.getElem?_eq_some_iff.1 h).1
  have hx : l[k] = c := (List.getElem?_eq_some_iff.1 h).2
  have hl : (Nm.smallL (l.take k)).length = k := by simp [Nm.smallL]; omega
  rw [Nm.smallL_step h, List.set_append_right _ _ (by omega), hl, List.drop_eq_getElem_cons hk, hx]
  simp

set_option maxRecDepth 100000 in
set_option maxHeartbeats 800000 in
theorem foldText_any (s : ByteArray) (w : World) (hs : s.size ≤ 1000000000) :
    Calls Tryz.prog 70 #[.string s] w fun e w' => e = .returned (.string (Nm.small s)) ∧ Below w.heap.size w w' := by
  obtain ⟨cap, W, hcap, hmx, hrun, hrow, hbel⟩ := new_bytes s w
  have hmx' := hmx (by unfold maxLen; omega)
  unfold maxLen at hmx'
  clear hmx
  go_enter Tryz.func70, Tryz.ntmps70
  go_wp2
  go_loopw [10] (fun i wr => ∃ k : Nat, k ≤ s.size ∧ i = .int .i64 k ∧ BRow wr w.heap.size (Nm.smallL (s.data.toList.take k) ++ s.data.toList.drop k) ∧ Below w.heap.size w wr)
    (fun i _ => s.size - (intOf i).toNat)
  case atStart => exact ⟨0, Nat.zero_le _, rfl, by simpa [Nm.smallL] using hrow, hbel⟩
  case round =>
    obtain ⟨k, hk, rfl, hrk, hbk⟩ := hrel
    clear hrun hrow hbel
    by_cases hlt : k < s.size
    · have hd := Nm.get_data hlt
      have hll : (Nm.smallL (s.data.toList.take k) ++ s.data.toList.drop k)[k]? = some s[k] := by
        rw [List.getElem?_append_right (by simp [Nm.smallL]; omega)]
        simp [Nm.smallL, Nat.min_eq_left hk]
        simpa using hd
      have hck := hrk k _ hll
      have HB := Nm.hide (hrk.set (k := k) (d := Nm.low s[k]) (by simp [Nm.smallL]; omega))
      rw [low_set hd] at HB
      have HW : Hid (Below w.heap.size w (wr.setCell ⟨w.heap.size, k, none⟩ (.int .u8 (Nm.low s[k]).toNat))) := hbk.setCell (Nat.le_refl _) _
      obtain ⟨hc1, hc2⟩ := hck
      clear hd hll hrk
      go_wp2_with (go_at_call 74; refine (foldByte_any _ _).mono ?_; rintro e w3 ⟨rfl, rfl⟩)
      go_roundw
      case rel => exact ⟨k + 1, by omega, by go_num, HB.out, HW.out⟩
      case measure => simp [intOf]; omega
    · have hkl : k = s.size := by omega
      subst hkl
      have hcv := run_convert_bytes_back (P := Tryz.prog) wr 22 9 5 ⟨w.heap.size, 0, none⟩ cap (Nm.smallL s.data.toList) Tryz.underlying22 Tryz.underlying5 Tryz.underlying9 (by
        intro j hj
        rw [Nm.addr_add, Nat.zero_add]
        refine (hrk j _ ?_).1
        rw [List.take_of_length_le (by simp), List.drop_of_length_le (by simp), List.append_nil]
        exact List.getElem?_eq_getElem hj)
      have hsl : (Nm.smallL s.data.toList).length = s.size := by simp [Nm.smallL]
      rw [hsl, show (⟨(Nm.smallL s.data.toList).toArray⟩ : ByteArray) = Nm.small s from rfl] at hcv
      clear hrk hlt hsl
      go_wp2
      go_ret
      exact ⟨rfl, hbk⟩

set_option maxRecDepth 100000 in
set_option maxHeartbeats 400000 in
theorem implFoldName_any (s : ByteArray) (w : World) (hs : s.size ≤ maxLen) :
    Calls Tryz.prog 76 #[.string s] w fun e w' => e = .returned (.string (Nm.foldS s)) ∧ Below w.heap.size w w' := by
  have hok := implNameOK_any s w hs
  cases hq : Nm.split s with
  | none =>
    have HA := Nm.hide (Nm.foldS_none hq)
    rw [hq] at hok
    clear hq
    go_enter Tryz.func76, Tryz.ntmps76
    go_wp2_with fail
    refine hok.mono ?_
    rintro e w1 ⟨rfl, hbel⟩
    go_wp2
    go_ret
    rw [HA.out]
    exact ⟨rfl, hbel⟩
  | some ls =>
    have HA := Nm.hide (Nm.foldS_some hq)
    have hz := Nm.split_size hq
    rw [hq] at hok
    clear hq
    go_enter Tryz.func76, Tryz.ntmps76
    go_wp2_with fail
    refine hok.mono ?_
    rintro e w1 ⟨rfl, hbel⟩
    go_wp2_with fail
    refine (foldText_any s _ (by omega)).mono ?_
    rintro e w2 ⟨rfl, hbel2⟩
    go_wp2
    go_ret
    rw [HA.out]
    exact ⟨rfl, Nm.below_two hbel hbel2⟩
end Go.Proofs.YtfficbpalibmoaaGreatDoor
/- impl.readSignature by its contract. -/
namespace Go.Proofs.YtfficbpalibmoaaGreatDoor
open Go.RowKit
set_option linter.unusedVariables false

/-- A struct and a value handed back. -/
theorem run_results_row2 {P : Program} {fn : Func} {tmps : Array Value} {w : World} {r s : Nat} {t : TypeId} {p : Nat} {cs : Array Value} {d : TypeDesc} {v : Value} (hf : fn.results = #[.cell r t, .tmp s]) (ht : tmps[r]?.getD undef = .pointer (some ⟨p, 0, none⟩)) (hs : tmps[s]?.getD undef = v) (hk : Blk w p cs t)
    (hu : P.underlying t = some d) (hd : (match d with | .struct _ | .array _ _ => true | _ => false) = true) (hi : (P.info? t).map (·.size) = some cs.size) : (results fn tmps).run P w = .ok (.tuple #[.agg cs, v]) w := by
  have hl := run_loadVar_row w p t t cs (0, 0) d hk hu hd hi
  simp [results, hf, ht, hs, asAddr, hl]

/-- A text that is longer is copied into a stretch of a block. -/
theorem run_copy_strL {P : Program} (w : World) (dT sT ty elem T : TypeId) (b o dLen dCap : Nat) (S : ByteArray) (cs : Array Value) (hk : Blk w b cs T)
    (hu : P.underlying dT = some (.slice elem)) (hs : (P.info? elem).map (·.size) = some 1) (h2 : dLen ≤ S.size) (hfit : o + dLen ≤ cs.size) :
    (Builtin.copy_ #[dT, sT] ty #[.slice (some ⟨b, o, none⟩) dLen dCap, .string S]).run P w = .ok (goInt dLen) (w.setCells b o (bytesV (S.extract 0 dLen))) := by
  have hlv : (bytesV (S.extract 0 dLen)).length = dLen := by simp [bytesV]; omega
  have hst := run_storeCells_cells (P := P) b o (bytesV (S.extract 0 dLen)) 0 w
    (by intro j hj; rw [Nat.add_zero, blk_cell hk (o + j), Array.getElem?_eq_getElem (by omega)]; rfl)
    (by intro j hj; rw [Nat.add_zero]; exact blk_frozen hk _)
    (by intro v hv; simp only [bytesV, List.mem_map] at hv; obtain ⟨c, _, rfl⟩ := hv; rfl)
  have hmin : Nat.min S.size dLen = dLen := Nat.min_eq_right h2
  have hcl : ((S.extract 0 dLen).data.map fun b => (Value.int .u8 (b.toNat : Int))) = (bytesV (S.extract 0 dLen)).toArray := by
    apply Array.toList_inj.1
    simp [bytesV]
  cases hq : P.info? elem with
  | none => simp [hq] at hs
  | some i =>
    have hi : i.size = 1 := by simpa [hq] using hs
    have hst2 : (storeCells ⟨b, o, none⟩ (bytesV (S.extract 0 dLen))).run P w = .ok () (w.setCells b o (bytesV (S.extract 0 dLen))) := by simpa using hst
    have hsz2 : ∀ W : World, (Builtin.firstCells 1 dLen (.string S)).run P W = .ok (bytesV (S.extract 0 dLen)).toArray W := fun W => by rw [← hcl]; rfl
    have hlen : ∀ W : World, (Builtin.lenOf (.string S)).run P W = .ok S.size W := fun W => rfl
    simp [Builtin.copy_, run_underlying hu, hlen, hmin, sizeOf, typeInfo, hq, hi, hsz2, hst2]
theorem wpList_copy_strL {P : Program} {ops : Array Oper} {rest : List Oper} {o : Oper} {a : Act} {w : World} {Q : Exit → Act → World → Prop} (hgd : o.guard = none) (d s : Operand) (dT sT : TypeId)
    (ho : o.op = .call { callee := .builtin .copy, args := #[d, s], argTypes := #[dT, sT] }) (elem : TypeId) (hu : P.underlying dT = some (.slice elem)) (hsz : (P.info? elem).map (·.size) = some 1)
    (b off dLen dCap : Nat) (hd : a.eval d = .slice (some ⟨b, off, none⟩) dLen dCap) (S : ByteArray) (hs : a.eval s = .string S) (cs : Array Value) (T : TypeId) (hk : Blk w b cs T) (h2 : dLen ≤ S.size) (hfit : off + dLen ≤ cs.size)
    (h : ∀ w', Blk w' b (spl cs off (bytesV (S.extract 0 dLen))) T → Only b w w' → wpList P ops Q rest (a.put o.dst (goInt dLen)) w') : wpList P ops Q (o :: rest) a w :=
  wpList_plain hgd fun _ hK => by
    have hrun := run_copy_strL (P := P) w dT sT o.type elem T b off dLen dCap S cs hk hu hsz h2 hfit
    unfold Oper.wp
    simp [execOp, ho, resolve, invoke, builtin, hd, hs, hrun, Result.andThen]
    exact hK _ _ (h _ (blk_setCells _ _ _ _ hk) (only_setCells _ _ _ (Only.refl _ _)))

/-- What readSignature answers. -/
def rdB (r : Rm) : Bool := decide (r.ty = 250) && datB r
def sg0 : Array Value := sgA ByteArray.empty 0 0 z32 0
def sgR (r : Rm) : Array Value := sgA ⟨r.owner.toArray⟩ (sT r.dat) (sF r.dat) (sS r.dat) (sI r.dat)

theorem sg0_size : sg0.size = 36 := sgA_size z32_len
theorem sgI_info (cs : Array Value) (h : cs.size = 36) : (Tryz.prog.info? 68).map (·.size) = some cs.size := by rw [h]; kernel_rfl

set_option maxRecDepth 100000 in
set_option maxHeartbeats 3200000 in
theorem readSig_short (r : Rm) (w : World) (hd : r.dat.length ≠ 61) :
    Calls Tryz.prog 52 #[.agg #[.string ⟨r.owner.toArray⟩, .int .i64 (r.ty : Int), .int .i64 (r.cl : Int), .int .i64 (r.ttl : Int), .string ⟨r.dat.toArray⟩]] w fun e w' => e = .returned (.tuple #[.agg sg0, .bool false]) ∧ Below w.heap.size w w' := by
  obtain ⟨D, hD⟩ : ∃ D : ByteArray, D = ⟨r.dat.toArray⟩ := ⟨_, rfl⟩
  have hDz : D.size = r.dat.length := by rw [hD, ba_size]
  have hne : ((D.size : Int) != 61) = true := by rw [bne_iff_ne]; omega
  rw [← hD]
  generalize (⟨r.owner.toArray⟩ : ByteArray) = O at *
  generalize (r.ty : Int) = ty at *
  generalize (r.cl : Int) = cl at *
  generalize (r.ttl : Int) = tl at *
  clear hD hDz hd
  have hz36 : ∀ W, (zeroValue 68).run Tryz.prog W = .ok (.agg sg0) W := by
    have := zero_of_info (P := Tryz.prog) (t := 68) (v := .agg sg0) (n := 36) (by kernel_rfl)
    exact this.1
  have k0 := blk_new w #[.string O, .int .i64 ty, .int .i64 cl, .int .i64 tl, .string D] 54
  have hB0 := (Below.refl w.heap.size w).alloc (Nat.le_refl _) (.cells #[.string O, .int .i64 ty, .int .i64 cl, .int .i64 tl, .string D] 54)
  have hBs := hB0.alloc hB0.size (.cells sg0 68)
  have k1 := blk_new (w.alloc (.cells #[.string O, .int .i64 ty, .int .i64 cl, .int .i64 tl, .string D] 54)) sg0 68
  have k0' := blk_alloc k0 (.cells sg0 68)
  rw [World.size_alloc] at k1
  have q4 := (blk_cell k0' 4).trans rfl
  have hin := sgI_info sg0 sg0_size
  have hon : sg0.all (·.oneCell') = true := sgA_one _ _ _ _ _
  have hsz : w.heap.size + 1 ≤ ((w.alloc (.cells #[.string O, .int .i64 ty, .int .i64 cl, .int .i64 tl, .string D] 54)).alloc (.cells sg0 68)).heap.size := by rw [World.size_alloc, World.size_alloc]; omega
  generalize sg0 = S0 at *
  go_enter Tryz.func52, Tryz.ntmps52
  go_wp2_with (refine wpList_store_blk (.tmp 2) (.tmp 12) 68 rfl rfl rfl (w.heap.size + 1) _ _ k1 rfl rfl hin rfl hon ?_; intro w' k' o')
  refine bodyPost_ret (run_results_row2 rfl rfl rfl k' Tryz.underlying68 rfl hin) rfl ⟨rfl, ?_⟩
  exact o'.below hBs (by omega) (by omega)
end Go.Proofs.YtfficbpalibmoaaGreatDoor
/- spec.Sha256: the next eight words. -/
namespace Go.Proofs.YtfficbpalibmoaaGreatDoor
open Go.RowKit
set_option linter.unusedVariables false

theorem all8 (a b c d e f g h : Int) : (#[.int .u32 a, .int .u32 b, .int .u32 c, .int .u32 d, .int .u32 e, .int .u32 f, .int .u32 g, .int .u32 h] : Array Value).all (·.oneCell') = true := by simp [Value.oneCell']
theorem hvA_cells {w : World} {p : Nat} {v : Sv} {T : TypeId} (h : Blk w p (hvA v) T) : w.cell? ⟨p, 0, none⟩ = some (.int .u32 (v.a.toNat : Int)) ∧ w.cell? ⟨p, 1, none⟩ = some (.int .u32 (v.b.toNat : Int)) ∧ w.cell? ⟨p, 2, none⟩ = some (.int .u32 (v.c.toNat : Int)) ∧ w.cell? ⟨p, 3, none⟩ = some (.int .u32 (v.d.toNat : Int)) ∧
    w.cell? ⟨p, 4, none⟩ = some (.int .u32 (v.e.toNat : Int)) ∧ w.cell? ⟨p, 5, none⟩ = some (.int .u32 (v.f.toNat : Int)) ∧ w.cell? ⟨p, 6, none⟩ = some (.int .u32 (v.g.toNat : Int)) ∧ w.cell? ⟨p, 7, none⟩ = some (.int .u32 (v.h.toNat : Int)) :=
  ⟨blk_cell h 0, blk_cell h 1, blk_cell h 2, blk_cell h 3, blk_cell h 4, blk_cell h 5, blk_cell h 6, blk_cell h 7⟩

set_option maxRecDepth 1000000 in
set_option maxHeartbeats 16000000 in
theorem sha_next (p15 : Nat) (T1 T2 va vb vc vd ve vf vg vh : Wd) (Q0 : Exit → Act → World → Prop) (w : World) (kk : Blk w p15 (hvA ⟨va, vb, vc, vd, ve, vf, vg, vh⟩) 125)
    (s0 s1 s2 s3 s4 s5 s6 s7 s8 s9 s10 s11 s12 s13 s14 s16 s17 s18 s21 s22 s23 s24 s25 s26 s27 s28 s29 s30 s31 s32 s33 s34 s35 s36 s37 s38 s39 s40 s41 s42 s43 s44 s45 s46 s47 s48 s49 s50 s51 s52 s53 s54 s55 s56 s57 s58 s59 s60 s61 s62 s63 s64 s65 s66 s67 s68 s69 s70 s71 s72 s73 s74 s75 s76 s77 s78 s79 s80 s81 s82 s83 s84 s85 s86 s87 s88 s89 s90 s91 s92 s93 s94 s95 s96 s97 s98 s99 s100 s101 s102 s103 s104 s105 s106 s107 s108 s109 s110 s111 s112 s113 s114 s115 s116 s117 s118 s119 s120 s121 s122 s123 s124 s125 s126 s127 s128 s129 s130 s131 s132 s133 s134 s135 s136 s137 s138 s139 s140 s141 s142 s143 s144 s145 s146 s147 s148 s149 s150 s151 s152 s153 s154 s155 s156 s157 s158 s159 s160 s161 s162 s163 s164 s165 s166 s167 s168 s169 s170 s171 s172 s173 s174 s175 s176 s177 s178 s179 s180 s181 s182 s183 s184 s185 s186 s187 s188 s189 s190 s191 s192 s193 s194 s195 s196 s197 s198 s199 s200 s201 s202 s203 s204 s205 s206 s207 s208 s209 s210 s211 s212 s213 s214 s215 s216 s217 s218 s219 s220 s221 s222 s223 s224 s225 s226 s227 s228 s229 s230 s231 s232 s233 s234 s235 s236 s237 s238 s239 s240 s241 s242 s243 s244 s245 s246 s247 s248 s249 s250 s251 s252 s253 s254 s255 s256 s257 s258 s259 s260 s261 s262 s263 s264 s265 s266 : Value)
    (hexit : ∀ (u21 u214 u215 u216 u217 u218 u219 u220 u221 u222 u223 u224 u225 u226 u227 u228 u229 u230 u231 u232 u233 u234 : Value) (w' : World), Blk w' p15 (hvA ⟨T1 + T2, va, vb, vc, vd + T1, ve, vf, vg⟩) 125 ∧ Only p15 w w' → Q0 .normal ⟨(s0 :: s1 :: s2 :: s3 :: s4 :: s5 :: s6 :: s7 :: s8 :: s9 :: s10 :: s11 :: s12 :: s13 :: s14 :: .pointer (some ⟨p15, 0, none⟩) :: s16 :: s17 :: s18 :: .int .u32 (T1.toNat : Int) :: .int .u32 (T2.toNat : Int) :: u21 :: s22 :: s23 :: s24 :: s25 :: s26 :: s27 :: s28 :: s29 :: s30 :: s31 :: s32 :: s33 :: s34 :: s35 :: s36 :: s37 :: s38 :: s39 :: s40 :: s41 :: s42 :: s43 :: s44 :: s45 :: s46 :: s47 :: s48 :: s49 :: s50 :: s51 :: s52 :: s53 :: s54 :: s55 :: s56 :: s57 :: s58 :: s59 :: s60 :: s61 :: s62 :: s63 :: s64 :: s65 :: s66 :: s67 :: s68 :: s69 :: s70 :: s71 :: s72 :: s73 :: s74 :: s75 :: s76 :: s77 :: s78 :: s79 :: s80 :: s81 :: s82 :: s83 :: s84 :: s85 :: s86 :: s87 :: s88 :: s89 :: s90 :: s91 :: s92 :: s93 :: s94 :: s95 :: s96 :: s97 :: s98 :: s99 :: s100 :: s101 :: s102 :: s103 :: s104 :: s105 :: s106 :: s107 :: s108 :: s109 :: s110 :: s111 :: s112 :: s113 :: s114 :: s115 :: s116 :: s117 :: s118 :: s119 :: s120 :: s121 :: s122 :: s123 :: s124 :: s125 :: s126 :: s127 :: s128 :: s129 :: s130 :: s131 :: s132 :: s133 :: s134 :: s135 :: s136 :: s137 :: s138 :: s139 :: s140 :: s141 :: s142 :: s143 :: s144 :: s145 :: s146 :: s147 :: s148 :: s149 :: s150 :: s151 :: s152 :: s153 :: s154 :: s155 :: s156 :: s157 :: s158 :: s159 :: s160 :: s161 :: s162 :: s163 :: s164 :: s165 :: s166 :: s167 :: s168 :: s169 :: s170 :: s171 :: s172 :: s173 :: s174 :: s175 :: s176 :: s177 :: s178 :: s179 :: s180 :: s181 :: s182 :: s183 :: s184 :: s185 :: s186 :: s187 :: s188 :: s189 :: s190 :: s191 :: s192 :: s193 :: s194 :: s195 :: s196 :: s197 :: s198 :: s199 :: s200 :: s201 :: s202 :: s203 :: s204 :: s205 :: s206 :: s207 :: s208 :: s209 :: s210 :: s211 :: s212 :: s213 :: u214 :: u215 :: u216 :: u217 :: u218 :: u219 :: u220 :: u221 :: u222 :: u223 :: u224 :: u225 :: u226 :: u227 :: u228 :: u229 :: u230 :: u231 :: u232 :: u233 :: u234 :: s235 :: s236 :: s237 :: s238 :: s239 :: s240 :: s241 :: s242 :: s243 :: s244 :: s245 :: s246 :: s247 :: s248 :: s249 :: s250 :: s251 :: s252 :: s253 :: s254 :: s255 :: s256 :: s257 :: s258 :: s259 :: s260 :: s261 :: s262 :: s263 :: s264 :: s265 :: s266 :: []).toArray, []⟩ w') :
    Code.wp Tryz.prog shR37 Q0 ⟨(s0 :: s1 :: s2 :: s3 :: s4 :: s5 :: s6 :: s7 :: s8 :: s9 :: s10 :: s11 :: s12 :: s13 :: s14 :: .pointer (some ⟨p15, 0, none⟩) :: s16 :: s17 :: s18 :: .int .u32 (T1.toNat : Int) :: .int .u32 (T2.toNat : Int) :: s21 :: s22 :: s23 :: s24 :: s25 :: s26 :: s27 :: s28 :: s29 :: s30 :: s31 :: s32 :: s33 :: s34 :: s35 :: s36 :: s37 :: s38 :: s39 :: s40 :: s41 :: s42 :: s43 :: s44 :: s45 :: s46 :: s47 :: s48 :: s49 :: s50 :: s51 :: s52 :: s53 :: s54 :: s55 :: s56 :: s57 :: s58 :: s59 :: s60 :: s61 :: s62 :: s63 :: s64 :: s65 :: s66 :: s67 :: s68 :: s69 :: s70 :: s71 :: s72 :: s73 :: s74 :: s75 :: s76 :: s77 :: s78 :: s79 :: s80 :: s81 :: s82 :: s83 :: s84 :: s85 :: s86 :: s87 :: s88 :: s89 :: s90 :: s91 :: s92 :: s93 :: s94 :: s95 :: s96 :: s97 :: s98 :: s99 :: s100 :: s101 :: s102 :: s103 :: s104 :: s105 :: s106 :: s107 :: s108 :: s109 :: s110 :: s111 :: s112 :: s113 :: s114 :: s115 :: s116 :: s117 :: s118 :: s119 :: s120 :: s121 :: s122 :: s123 :: s124 :: s125 :: s126 :: s127 :: s128 :: s129 :: s130 :: s131 :: s132 :: s133 :: s134 :: s135 :: s136 :: s137 :: s138 :: s139 :: s140 :: s141 :: s142 :: s143 :: s144 :: s145 :: s146 :: s147 :: s148 :: s149 :: s150 :: s151 :: s152 :: s153 :: s154 :: s155 :: s156 :: s157 :: s158 :: s159 :: s160 :: s161 :: s162 :: s163 :: s164 :: s165 :: s166 :: s167 :: s168 :: s169 :: s170 :: s171 :: s172 :: s173 :: s174 :: s175 :: s176 :: s177 :: s178 :: s179 :: s180 :: s181 :: s182 :: s183 :: s184 :: s185 :: s186 :: s187 :: s188 :: s189 :: s190 :: s191 :: s192 :: s193 :: s194 :: s195 :: s196 :: s197 :: s198 :: s199 :: s200 :: s201 :: s202 :: s203 :: s204 :: s205 :: s206 :: s207 :: s208 :: s209 :: s210 :: s211 :: s212 :: s213 :: s214 :: s215 :: s216 :: s217 :: s218 :: s219 :: s220 :: s221 :: s222 :: s223 :: s224 :: s225 :: s226 :: s227 :: s228 :: s229 :: s230 :: s231 :: s232 :: s233 :: s234 :: s235 :: s236 :: s237 :: s238 :: s239 :: s240 :: s241 :: s242 :: s243 :: s244 :: s245 :: s246 :: s247 :: s248 :: s249 :: s250 :: s251 :: s252 :: s253 :: s254 :: s255 :: s256 :: s257 :: s258 :: s259 :: s260 :: s261 :: s262 :: s263 :: s264 :: s265 :: s266 :: []).toArray, []⟩ w := by
  conv => arg 2; whnf
  have hinf8 : (Tryz.prog.info? 125).map (·.size) = some 8 := by kernel_rfl
  obtain ⟨c0, c1, c2, c3, c4, c5, c6, c7⟩ := hvA_cells kk
  simp only at c0 c1 c2 c3 c4 c5 c6 c7
  have HX := Nm.hide hexit
  clear hexit
  go_wp2_with (first
    | (refine wpList_store_blk (.tmp 15) (.tmp 234) 125 rfl rfl rfl p15 _ _ (blk_alloc kk _) rfl rfl hinf8 rfl (all8 _ _ _ _ _ _ _ _) ?_; intro w3 k3 o3))
  rw [w_add, w_add] at k3
  refine HX.out _ _ _ _ _ _ _ _ _ _ _ _ _ _ _ _ _ _ _ _ _ _ _ ⟨k3, ((Only.refl p15 w).alloc _).then o3 (.inl rfl)⟩
end Go.Proofs.YtfficbpalibmoaaGreatDoor
/- (impl.state).round by its contract. -/
namespace Go.Proofs.YtfficbpalibmoaaGreatDoor
open Go.RowKit
set_option linter.unusedVariables false

def t1X (s : Sv) (x : Wd) : Wd := s.h + (turnW s.e 6 ^^^ turnW s.e 11 ^^^ turnW s.e 25) + ((s.e &&& s.f) ^^^ (~~~s.e &&& s.g)) + x
def roundX (s : Sv) (x : Wd) : Sv := ⟨t1X s x + t2W s, s.a, s.b, s.c, s.d + t1X s x, s.e, s.f, s.g⟩
theorem roundX_eq (s : Sv) (k w : Wd) : roundX s (k + w) = roundW s k w := by
  have e : t1X s (k + w) = t1W s k w := by rw [t1X, t1W, ← BitVec.add_assoc]
  rw [roundX, roundW, e]
theorem blk_drewN {w : World} {b : Nat} {cs : Array Value} {T : TypeId} (n : Nat) (h : Blk w b cs T) : Blk (w.drewN n) b cs T := h
theorem below_drewN {B : Nat} {w w' : World} (n : Nat) (h : Below B w w') : Below B w (w'.drewN n) := ⟨h.os, h.tape, h.output, h.size, h.block⟩
theorem w_add22 (a b c d e f : Wd) : ((a.toNat : Int) + (b.toNat : Int) + (c.toNat : Int) + (d.toNat : Int) + ((e.toNat : Int) + (f.toNat : Int))) % (4294967296 : Int) = ((a + b + c + d + (e + f)).toNat : Int) := by
  rw [← w_add, ← w_add, ← w_add, ← w_add, ← w_add]
  omega
theorem w_add14 (z a b c d : Wd) : ((z.toNat : Int) + ((a.toNat : Int) + (b.toNat : Int) + (c.toNat : Int) + (d.toNat : Int))) % (4294967296 : Int) = ((z + (a + b + c + d)).toNat : Int) := by
  rw [← w_add, ← w_add, ← w_add, ← w_add]
  omega

set_option maxRecDepth 100000 in
set_option maxHeartbeats 8000000 in
theorem round_any (s : Sv) (x : Wd) (w : World) :
    Calls Tryz.prog 107 #[.agg (hvA s), .int .u32 (x.toNat : Int)] w fun e w' => e = .returned (.agg (hvA (roundX s x))) ∧ Below w.heap.size w w' := by
  obtain ⟨va, vb, vc, vd, ve, vf, vg, vh⟩ := s
  have hinf8 : (Tryz.prog.info? 138).map (·.size) = some 8 := by kernel_rfl
  have hkA : ∀ (A Z : Array Value) (n : Nat), Blk (((w.alloc (.cells A 138)).alloc (.cells Z 138)).drewN n) (w.heap.size + 1) Z 138 := by
    intro A Z n
    have h := blk_new (w.alloc (.cells A 138)) Z 138
    rw [World.size_alloc] at h
    exact blk_drewN n h
  have hBA : ∀ (A Z : Array Value) (n : Nat), Below w.heap.size w (((w.alloc (.cells A 138)).alloc (.cells Z 138)).drewN n) := fun A Z n =>
    below_drewN n (((Below.refl w.heap.size w).alloc (Nat.le_refl _) _).alloc (((Below.refl w.heap.size w).alloc (Nat.le_refl _) _).size) _)
  show Calls Tryz.prog 107 #[.agg #[.int .u32 (va.toNat : Int), .int .u32 (vb.toNat : Int), .int .u32 (vc.toNat : Int), .int .u32 (vd.toNat : Int), .int .u32 (ve.toNat : Int), .int .u32 (vf.toNat : Int), .int .u32 (vg.toNat : Int), .int .u32 (vh.toNat : Int)], .int .u32 (x.toNat : Int)] w _
  go_enter Tryz.func107, Tryz.ntmps107
  go_wp2
  go_quiet (fail)
  go_wp2
  go_quiet (fail)
  go_wp2_with (first
    | (go_at_call 108; refine (turn_any _ _ (by decide) (by decide) _).mono ?_; rintro e wv ⟨rfl, rfl⟩)
    | (refine wpList_store_blk (.tmp 4) (.tmp 84) 138 rfl rfl rfl (w.heap.size + 1) _ _ (hkA _ _ _) rfl rfl hinf8 rfl (all8 _ _ _ _ _ _ _ _) ?_; intro w9 k9 o9))
  have hsg : (if IntKind.u32.signed = true then (-1 : Int) else IntKind.u32.max) = IntKind.u32.max := rfl
  simp only [hsg, w_xor, w_and, w_not] at k9
  rw [w_add22, w_add14] at k9
  have hb := o9.below (hBA _ _ _) (Nat.le_succ _) (hBA _ _ _).size
  exact bodyPost_ret (v := .agg _) (run_results_cell Tryz.results107 rfl k9 Tryz.underlying138 hinf8) rfl ⟨rfl, hb⟩
end Go.Proofs.YtfficbpalibmoaaGreatDoor
/- spec.Sha256: the words of a round are added. -/
namespace Go.Proofs.YtfficbpalibmoaaGreatDoor
open Go.RowKit
set_option linter.unusedVariables false

def adA (h v : Sv) (i : Nat) : Array Value := ((List.range 8).map fun j => if j < i then wV (((svL h)[j]?).getD 0 + ((svL v)[j]?).getD 0) else wV (((svL h)[j]?).getD 0)).toArray
theorem adA_zero (h v : Sv) : adA h v 0 = hvA h := rfl
theorem adA_all (h v : Sv) : adA h v 8 = hvA (addSv h v) := rfl
theorem hvA_at (h : Sv) {j : Nat} (hj : j < 8) : (hvA h)[j]? = some (.int .u32 ((((svL h)[j]?).getD 0).toNat : Int)) := by
  match j, hj with
  | 0, _ | 1, _ | 2, _ | 3, _ | 4, _ | 5, _ | 6, _ | 7, _ => rfl
theorem adA_at {h v : Sv} {i j : Nat} (hij : ¬ j < i) (hj : j < 8) : (adA h v i)[j]? = some (.int .u32 ((((svL h)[j]?).getD 0).toNat : Int)) := by
  simp [adA, hj, hij, wV]
theorem adA_set {h v : Sv} {i : Nat} (hi : i < 8) : (adA h v i).setIfInBounds i (.int .u32 ((((svL h)[i]?).getD 0 + ((svL v)[i]?).getD 0).toNat : Int)) = adA h v (i + 1) := by
  apply Array.ext_getElem?
  intro j
  rw [Array.getElem?_setIfInBounds]
  by_cases hj : i = j
  · subst hj
    simp [adA, hi, wV]
  · rw [if_neg hj]
    by_cases hj8 : j < 8
    · simp only [adA, List.getElem?_toArray, List.getElem?_map, List.getElem?_range hj8, Option.map_some]
      by_cases h1 : j < i
      · rw [if_pos h1, if_pos (by omega)]
      · rw [if_neg h1, if_neg (by omega)]
    · simp [adA, hj8]

set_option maxRecDepth 1000000 in
set_option maxHeartbeats 16000000 in
theorem sha_add (p6 p15 : Nat) (hne : p15 ≠ p6) (h v : Sv) (Q0 : Exit → Act → World → Prop) (w : World) (k6 : Blk w p6 (hvA h) 125) (k15 : Blk w p15 (hvA v) 125)
    (s0 s1 s2 s3 s4 s5 s7 s8 s9 s10 s11 s12 s13 s14 s16 s17 s18 s19 s20 s21 s23 s24 s25 s26 s27 s28 s29 s30 s31 s32 s33 s34 s35 s36 s37 s38 s39 s40 s41 s42 s43 s44 s45 s46 s47 s48 s49 s50 s51 s52 s53 s54 s55 s56 s57 s58 s59 s60 s61 s62 s63 s64 s65 s66 s67 s68 s69 s70 s71 s72 s73 s74 s75 s76 s77 s78 s79 s80 s81 s82 s83 s84 s85 s86 s87 s88 s89 s90 s91 s92 s93 s94 s95 s96 s97 s98 s99 s100 s101 s102 s103 s104 s105 s106 s107 s108 s109 s110 s111 s112 s113 s114 s115 s116 s117 s118 s119 s120 s121 s122 s123 s124 s125 s126 s127 s128 s129 s130 s131 s132 s133 s134 s135 s136 s137 s138 s139 s140 s141 s142 s143 s144 s145 s146 s147 s148 s149 s150 s151 s152 s153 s154 s155 s156 s157 s158 s159 s160 s161 s162 s163 s164 s165 s166 s167 s168 s169 s170 s171 s172 s173 s174 s175 s176 s177 s178 s179 s180 s181 s182 s183 s184 s185 s186 s187 s188 s189 s190 s191 s192 s193 s194 s195 s196 s197 s198 s199 s200 s201 s202 s203 s204 s205 s206 s207 s208 s209 s210 s211 s212 s213 s214 s215 s216 s217 s218 s219 s220 s221 s222 s223 s224 s225 s226 s227 s228 s229 s230 s231 s232 s233 s234 s235 s236 s237 s238 s239 s240 s241 s242 s243 s244 s245 s246 s247 s248 s249 s250 s251 s252 s253 s254 s255 s256 s257 s258 s259 s260 s261 s262 s263 s264 s265 s266 : Value)
    (hexit : ∀ (u22 u235 u236 u237 u238 u239 u240 u241 u242 u243 u244 u245 u246 u247 : Value) (w' : World), Blk w' p6 (hvA (addSv h v)) 125 ∧ Only p6 w w' → Q0 (.exit 12) ⟨(s0 :: s1 :: s2 :: s3 :: s4 :: s5 :: .pointer (some ⟨p6, 0, none⟩) :: s7 :: s8 :: s9 :: s10 :: s11 :: s12 :: s13 :: s14 :: .pointer (some ⟨p15, 0, none⟩) :: s16 :: s17 :: s18 :: s19 :: s20 :: s21 :: u22 :: s23 :: s24 :: s25 :: s26 :: s27 :: s28 :: s29 :: s30 :: s31 :: s32 :: s33 :: s34 :: s35 :: s36 :: s37 :: s38 :: s39 :: s40 :: s41 :: s42 :: s43 :: s44 :: s45 :: s46 :: s47 :: s48 :: s49 :: s50 :: s51 :: s52 :: s53 :: s54 :: s55 :: s56 :: s57 :: s58 :: s59 :: s60 :: s61 :: s62 :: s63 :: s64 :: s65 :: s66 :: s67 :: s68 :: s69 :: s70 :: s71 :: s72 :: s73 :: s74 :: s75 :: s76 :: s77 :: s78 :: s79 :: s80 :: s81 :: s82 :: s83 :: s84 :: s85 :: s86 :: s87 :: s88 :: s89 :: s90 :: s91 :: s92 :: s93 :: s94 :: s95 :: s96 :: s97 :: s98 :: s99 :: s100 :: s101 :: s102 :: s103 :: s104 :: s105 :: s106 :: s107 :: s108 :: s109 :: s110 :: s111 :: s112 :: s113 :: s114 :: s115 :: s116 :: s117 :: s118 :: s119 :: s120 :: s121 :: s122 :: s123 :: s124 :: s125 :: s126 :: s127 :: s128 :: s129 :: s130 :: s131 :: s132 :: s133 :: s134 :: s135 :: s136 :: s137 :: s138 :: s139 :: s140 :: s141 :: s142 :: s143 :: s144 :: s145 :: s146 :: s147 :: s148 :: s149 :: s150 :: s151 :: s152 :: s153 :: s154 :: s155 :: s156 :: s157 :: s158 :: s159 :: s160 :: s161 :: s162 :: s163 :: s164 :: s165 :: s166 :: s167 :: s168 :: s169 :: s170 :: s171 :: s172 :: s173 :: s174 :: s175 :: s176 :: s177 :: s178 :: s179 :: s180 :: s181 :: s182 :: s183 :: s184 :: s185 :: s186 :: s187 :: s188 :: s189 :: s190 :: s191 :: s192 :: s193 :: s194 :: s195 :: s196 :: s197 :: s198 :: s199 :: s200 :: s201 :: s202 :: s203 :: s204 :: s205 :: s206 :: s207 :: s208 :: s209 :: s210 :: s211 :: s212 :: s213 :: s214 :: s215 :: s216 :: s217 :: s218 :: s219 :: s220 :: s221 :: s222 :: s223 :: s224 :: s225 :: s226 :: s227 :: s228 :: s229 :: s230 :: s231 :: s232 :: s233 :: s234 :: u235 :: u236 :: u237 :: u238 :: u239 :: u240 :: u241 :: u242 :: u243 :: u244 :: u245 :: u246 :: u247 :: s248 :: s249 :: s250 :: s251 :: s252 :: s253 :: s254 :: s255 :: s256 :: s257 :: s258 :: s259 :: s260 :: s261 :: s262 :: s263 :: s264 :: s265 :: s266 :: []).toArray, []⟩ w') :
    Code.wp Tryz.prog (Code.loop shL7) Q0 ⟨(s0 :: s1 :: s2 :: s3 :: s4 :: s5 :: .pointer (some ⟨p6, 0, none⟩) :: s7 :: s8 :: s9 :: s10 :: s11 :: s12 :: s13 :: s14 :: .pointer (some ⟨p15, 0, none⟩) :: s16 :: s17 :: s18 :: s19 :: s20 :: s21 :: .int .i64 0 :: s23 :: s24 :: s25 :: s26 :: s27 :: s28 :: s29 :: s30 :: s31 :: s32 :: s33 :: s34 :: s35 :: s36 :: s37 :: s38 :: s39 :: s40 :: s41 :: s42 :: s43 :: s44 :: s45 :: s46 :: s47 :: s48 :: s49 :: s50 :: s51 :: s52 :: s53 :: s54 :: s55 :: s56 :: s57 :: s58 :: s59 :: s60 :: s61 :: s62 :: s63 :: s64 :: s65 :: s66 :: s67 :: s68 :: s69 :: s70 :: s71 :: s72 :: s73 :: s74 :: s75 :: s76 :: s77 :: s78 :: s79 :: s80 :: s81 :: s82 :: s83 :: s84 :: s85 :: s86 :: s87 :: s88 :: s89 :: s90 :: s91 :: s92 :: s93 :: s94 :: s95 :: s96 :: s97 :: s98 :: s99 :: s100 :: s101 :: s102 :: s103 :: s104 :: s105 :: s106 :: s107 :: s108 :: s109 :: s110 :: s111 :: s112 :: s113 :: s114 :: s115 :: s116 :: s117 :: s118 :: s119 :: s120 :: s121 :: s122 :: s123 :: s124 :: s125 :: s126 :: s127 :: s128 :: s129 :: s130 :: s131 :: s132 :: s133 :: s134 :: s135 :: s136 :: s137 :: s138 :: s139 :: s140 :: s141 :: s142 :: s143 :: s144 :: s145 :: s146 :: s147 :: s148 :: s149 :: s150 :: s151 :: s152 :: s153 :: s154 :: s155 :: s156 :: s157 :: s158 :: s159 :: s160 :: s161 :: s162 :: s163 :: s164 :: s165 :: s166 :: s167 :: s168 :: s169 :: s170 :: s171 :: s172 :: s173 :: s174 :: s175 :: s176 :: s177 :: s178 :: s179 :: s180 :: s181 :: s182 :: s183 :: s184 :: s185 :: s186 :: s187 :: s188 :: s189 :: s190 :: s191 :: s192 :: s193 :: s194 :: s195 :: s196 :: s197 :: s198 :: s199 :: s200 :: s201 :: s202 :: s203 :: s204 :: s205 :: s206 :: s207 :: s208 :: s209 :: s210 :: s211 :: s212 :: s213 :: s214 :: s215 :: s216 :: s217 :: s218 :: s219 :: s220 :: s221 :: s222 :: s223 :: s224 :: s225 :: s226 :: s227 :: s228 :: s229 :: s230 :: s231 :: s232 :: s233 :: s234 :: s235 :: s236 :: s237 :: s238 :: s239 :: s240 :: s241 :: s242 :: s243 :: s244 :: s245 :: s246 :: s247 :: s248 :: s249 :: s250 :: s251 :: s252 :: s253 :: s254 :: s255 :: s256 :: s257 :: s258 :: s259 :: s260 :: s261 :: s262 :: s263 :: s264 :: s265 :: s266 :: []).toArray, []⟩ w := by
  conv => arg 2; arg 1; whnf
  go_loopw [22] (fun i wr => ∃ k : Nat, k ≤ 8 ∧ i = .int .i64 k ∧ Blk wr p6 (adA h v k) 125 ∧ Only p6 w wr) (fun i _ => 8 - (intOf i).toNat)
  case atStart => exact ⟨0, by omega, rfl, k6, Only.refl _ _⟩
  case round =>
    obtain ⟨k, hk, rfl, kk, hO⟩ := hrel
    have kv := hO.blk k15 hne
    clear k6 k15
    by_cases hlt : k < 8
    · have c6 := (blk_cell kk k).trans (adA_at (Nat.lt_irrefl k) hlt)
      have c15 := (blk_cell kv k).trans (hvA_at v hlt)
      have f6 := blk_frozen kk k
      have i1 : (0 : Int) ≤ (k : Int) := by omega
      have i2 : (k : Int) < 8 := by omega
      have kS := blk_set kk k (.int .u32 ((((svL h)[k]?).getD 0 + ((svL v)[k]?).getD 0).toNat : Int))
      rw [adA_set hlt] at kS
      have hOS := hO.set (i := k) (v := .int .u32 ((((svL h)[k]?).getD 0 + ((svL v)[k]?).getD 0).toNat : Int))
      generalize ((svL h)[k]?).getD 0 = x at *
      generalize ((svL v)[k]?).getD 0 = y at *
      clear hexit
      go_wp2
      go_region
      all_goals go_wp2
      rw [w_add x y]
      go_roundw
      case rel => exact ⟨k + 1, by omega, by go_num, blk_drew kS, hOS.drew⟩
      case measure => simp [intOf]; omega
    · obtain rfl : k = 8 := by omega
      rw [adA_all] at kk
      go_wp2
      exact ⟨kk, hO⟩
end Go.Proofs.YtfficbpalibmoaaGreatDoor
