import Derived.Test.YtinbaopcapnbgaaShM
import Derived.Test.YtinbaopcapnbgaaBlkT
import Derived.Deep.WholeRow
/- spec.l09K by its contract. -/
namespace Go.Proofs.Ytinbaopcapnbgaa
open Go.RowKit
set_option linter.unusedVariables false

theorem KL_arr : (#[.int .u32 1116352408, .int .u32 1899447441, .int .u32 3049323471, .int .u32 3921009573, .int .u32 961987163, .int .u32 1508970993, .int .u32 2453635748, .int .u32 2870763221, .int .u32 3624381080, .int .u32 310598401, .int .u32 607225278, .int .u32 1426881987, .int .u32 1925078388, .int .u32 2162078206, .int .u32 2614888103, .int .u32 3248222580, .int .u32 3835390401, .int .u32 4022224774, .int .u32 264347078, .int .u32 604807628, .int .u32 770255983, .int .u32 1249150122, .int .u32 1555081692, .int .u32 1996064986, .int .u32 2554220882, .int .u32 2821834349, .int .u32 2952996808, .int .u32 3210313671, .int .u32 3336571891, .int .u32 3584528711, .int .u32 113926993, .int .u32 338241895, .int .u32 666307205, .int .u32 773529912, .int .u32 1294757372, .int .u32 1396182291, .int .u32 1695183700, .int .u32 1986661051, .int .u32 2177026350, .int .u32 2456956037, .int .u32 2730485921, .int .u32 2820302411, .int .u32 3259730800, .int .u32 3345764771, .int .u32 3516065817, .int .u32 3600352804, .int .u32 4094571909, .int .u32 275423344, .int .u32 430227734, .int .u32 506948616, .int .u32 659060556, .int .u32 883997877, .int .u32 958139571, .int .u32 1322822218, .int .u32 1537002063, .int .u32 1747873779, .int .u32 1955562222, .int .u32 2024104815, .int .u32 2227730452, .int .u32 2361852424, .int .u32 2428436474, .int .u32 2756734187, .int .u32 3204031479, .int .u32 3329325298] : Array Value) = (KL.map fun n => Value.int .u32 ((n : Nat) : Int)).toArray := rfl
theorem KL_small : ∀ n ∈ KL, n < 4294967296 := by decide
theorem KW_at {i : Nat} (h : i < 64) : (KL.map fun n => Value.int .u32 ((n : Nat) : Int)).toArray[i]? = some (.int .u32 ((KW i).toNat : Int)) := by
  have hl : i < KL.length := h
  have h1 : KL[i]? = some KL[i] := List.getElem?_eq_getElem hl
  have h2 := KL_small _ (List.getElem_mem hl)
  have h3 : (KW i).toNat = KL[i] := by
    rw [KW, h1]
    show (BitVec.ofNat 32 KL[i]).toNat = _
    rw [BitVec.toNat_ofNat]
    exact Nat.mod_eq_of_lt h2
  rw [h3]
  simp [h1]

theorem wpList_store_new {P : Program} {ops : Array Oper} {rest : List Oper} {o : Oper} {a : Act} {Q : Exit → Act → World → Prop} (w : World) (hgd : o.guard = none) (p x : Operand) (t : TypeId) (ho : o.op = .store t p x) (hdst : o.dst = none)
    (c c' : Array Value) (hp : a.eval p = .pointer (some ⟨w.heap.size, 0, none⟩)) (hx : a.eval x = .agg c') (hi : (P.info? t).map (·.size) = some c'.size) (hs : c.size = c'.size) (h1 : c'.all (·.oneCell') = true)
    (h : wpList P ops Q rest a (w.alloc (.cells c' t))) : wpList P ops Q (o :: rest) a (w.alloc (.cells c t)) :=
  wpList_plain hgd fun _ hK => by
    unfold Oper.wp execOp
    have hr := run_storeAt_new (P := P) w t c c' hi hs h1
    simp only [ho, hp, hx, Sem.run_bind, Sem.run_pure, hr, Result.andThen_ok]
    have e : a.put o.dst undef = a := by rw [hdst]; rfl
    refine hK _ _ ?_
    rw [e]
    exact h

theorem K_list {i : Nat} (h : i < 64) : (KL.map fun n => Value.int .u32 ((n : Nat) : Int))[i]'(by simpa [KL] using h) = .int .u32 ((KW i).toNat : Int) := by
  have := KW_at h
  rw [List.getElem?_toArray, List.getElem?_eq_getElem (by simpa [KL] using h)] at this
  exact Option.some.inj this

end Go.Proofs.Ytinbaopcapnbgaa
