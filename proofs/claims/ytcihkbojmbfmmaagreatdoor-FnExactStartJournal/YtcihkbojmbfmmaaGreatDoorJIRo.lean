import Derived.Test.YtcihkbojmbfmmaaGreatDoorJICc
import Derived.Test.YtcihkbojmbfmmaaGreatDoorShR
import Derived.Deep.QuietTactic
import Derived.BigQuiet
import Derived.StillTailTactics
namespace Go.Proofs.YtcihkbojmbfmmaaGreatDoor
open Go.RowKit
set_option linter.unusedVariables false
def t1X(s:Sv)(x:Wd):Wd:=s.h+(turnW s.e 6 ^^^ turnW s.e 11 ^^^ turnW s.e 25)+((s.e&&& s.f) ^^^ (~~~s.e&&& s.g))+x
def roundX(s:Sv)(x:Wd):Sv:=⟨t1X s x+t2W s,s.a,s.b,s.c,s.d+t1X s x,s.e,s.f,s.g⟩
theorem roundX_eq(s:Sv)(k w:Wd):roundX s (k+w)=roundW s k w:=by
 have e:t1X s (k+w)=t1W s k w:=by rw [t1X,t1W,<- BitVec.add_assoc]
 rw [roundX,roundW,e]
theorem blk_drewN{w:World}{b:Nat}{cs:Array Value}{T:TypeId}(n:Nat)(h:Blk w b cs T):Blk (w.drewN n) b cs T:=h
theorem below_drewN{B:Nat}{w w':World}(n:Nat)(h:Below B w w'):Below B w (w'.drewN n):=⟨h.os,h.tape,h.output,h.size,h.block⟩
theorem w_add22(a b c d e f:Wd):((a.toNat:Int)+(b.toNat:Int)+(c.toNat:Int)+(d.toNat:Int)+((e.toNat:Int)+(f.toNat:Int))) % (4294967296:Int)=((a+b+c+d+(e+f)).toNat:Int):=by
 rw [<- w_add,<- w_add,<- w_add,<- w_add,<- w_add];omega
theorem w_add14(z a b c d:Wd):((z.toNat:Int)+((a.toNat:Int)+(b.toNat:Int)+(c.toNat:Int)+(d.toNat:Int))) % (4294967296:Int)=((z+(a+b+c+d)).toNat:Int):=by
 rw [<- w_add,<- w_add,<- w_add,<- w_add];omega
set_option maxRecDepth 100000 in
set_option maxHeartbeats 8000000 in
theorem round_any(s:Sv)(x:Wd)(w:World):
 Calls Tryz.prog 129 #[.agg (hvA s),.int .u32 (x.toNat:Int)] w fun e w'=>e=.returned (.agg (hvA (roundX s x)))∧Below w.heap.size w w':=by
 obtain⟨va,vb,vc,vd,ve,vf,vg,vh⟩:=s;have hinf8:(Tryz.prog.info? 145).map (·.size)=some 8:=by kernel_rfl
 have hkA:∀ (A Z:Array Value) (n:Nat),Blk (((w.alloc (.cells A 145)).alloc (.cells Z 145)).drewN n) (w.heap.size+1) Z 145:=by
  intro A Z n;have h:=blk_new (w.alloc (.cells A 145)) Z 145;rw [World.size_alloc] at h;exact blk_drewN n h
 have hBA:∀ (A Z:Array Value) (n:Nat),Below w.heap.size w (((w.alloc (.cells A 145)).alloc (.cells Z 145)).drewN n):=fun A Z n=>
  below_drewN n (((Below.refl w.heap.size w).alloc (Nat.le_refl _) _).alloc (((Below.refl w.heap.size w).alloc (Nat.le_refl _) _).size) _)
 show Calls Tryz.prog 129 #[.agg #[.int .u32 (va.toNat:Int),.int .u32 (vb.toNat:Int),.int .u32 (vc.toNat:Int),.int .u32 (vd.toNat:Int),.int .u32 (ve.toNat:Int),.int .u32 (vf.toNat:Int),.int .u32 (vg.toNat:Int),.int .u32 (vh.toNat:Int)],.int .u32 (x.toNat:Int)] w _
 go_enter Tryz.func129,Tryz.ntmps129;go_wp2;go_quiet (fail)
 go_wp2;go_quiet (fail)
 go_wp2_with (first
  |(go_at_call 154;refine(turn_any _ _ (by decide) (by decide) _).mono ?_;rintro e wv ⟨rfl,rfl⟩)
  |(refine wpList_store_blk (.tmp 4) (.tmp 84) 145 rfl rfl rfl (w.heap.size+1) _ _ (hkA _ _ _) rfl rfl hinf8 rfl (all8 _ _ _ _ _ _ _ _) ?_;intro w9 k9 o9))
 have hsg:(if IntKind.u32.signed=true then(-1:Int) else IntKind.u32.max)=IntKind.u32.max:=rfl;simp only [hsg,w_xor,w_and,w_not] at k9;rw [w_add22,w_add14] at k9;have hb:=o9.below (hBA _ _ _) (Nat.le_succ _) (hBA _ _ _).size;exact bodyPost_ret (v:=.agg _) (run_results_cell Tryz.results129 rfl k9 Tryz.underlying145 hinf8) rfl ⟨rfl,hb⟩
def blA(t:List UInt8):Array Value:=((List.range 64).map fun j=>Value.int .u8 ((bW t j).toNat:Int)).toArray
theorem blA_at(t:List UInt8){j:Nat}(h:j<64):(blA t)[j]? =some (.int .u8 ((bW t j).toNat:Int)):=by simp [blA,h]
theorem blA_size(t:List UInt8):(blA t).size=64:=by simp [blA]
theorem wA_size(m:Nat->Wd)(i:Nat):(wA m i).size=64:=by simp [wA]
theorem wA_one(m:Nat->Wd)(i:Nat):(wA m i).all (·.oneCell')=true:=Array.all_eq_true_iff_forall_mem.2 (fun v hv=>by
 simp only [wA,List.mem_toArray,List.mem_map] at hv;obtain⟨j,_,rfl⟩:=hv
 split<;>rfl)
theorem b_wide'(x:Wd)(h:x.toNat<256):IntKind.u32.wrap (x.toNat:Int)=(x.toNat:Int):=u32_wrap _ (by omega)
set_option maxRecDepth 100000 in
set_option maxHeartbeats 8000000 in
theorem words_any(t:List UInt8)(w:World):
 Calls Tryz.prog 128 #[.agg (blA t)] w fun e w'=>e=.returned (.agg (wA (fun i=>wordAt t (4*i)) 64))∧Below w.heap.size w w':=by
 have hz64:∀ W,(zeroValue 127).run Tryz.prog W=.ok (.agg (Array.replicate 64 (.int .u32 0))) W:=by
  have:=zero_of_info (P:=Tryz.prog) (t:=127) (v:=.agg (Array.replicate 64 (.int .u32 0))) (n:=64) (by kernel_rfl);exact this.1
 have hinf:(Tryz.prog.info? 127).map (·.size)=some 64:=by kernel_rfl
 obtain⟨W0,hW0⟩:∃ W0,W0=((w.alloc (.cells (blA t) 147)).alloc (.cells (Array.replicate 64 (.int .u32 0)) 127)).alloc (.cells (Array.replicate 64 (.int .u32 0)) 127):=⟨_,rfl⟩;obtain⟨m,hm⟩:∃ m:Nat->Wd,(fun i=>wordAt t (4*i))=m:=⟨_,rfl⟩;rw [hm];have b1:Blk W0 w.heap.size (blA t) 147:=by rw [hW0];exact blk_alloc (blk_alloc (blk_new _ _ _) _) _
 have b2:Blk W0 (w.heap.size+1) (Array.replicate 64 (.int .u32 0)) 127:=by
  have h:=blk_new (w.alloc (.cells (blA t) 147)) (Array.replicate 64 (.int .u32 0)) 127;rw [World.size_alloc] at h;rw [hW0];exact blk_alloc h _
 have b3:Blk W0 (w.heap.size+2) (wA m 0) 127:=by
  have h:=blk_new ((w.alloc (.cells (blA t) 147)).alloc (.cells (Array.replicate 64 (.int .u32 0)) 127)) (Array.replicate 64 (.int .u32 0)) 127;rw [World.size_alloc,World.size_alloc] at h;rw [hW0,wA_zero];exact h
 have hB:Below w.heap.size w W0:=by
  have h1:=(Below.refl w.heap.size w).alloc (Nat.le_refl _) (.cells (blA t) 147);have h2:=h1.alloc h1.size (.cells (Array.replicate 64 (.int .u32 0)) 127);rw [hW0];exact h2.alloc h2.size _
 go_enter Tryz.func128,Tryz.ntmps128;go_wp2;rw [<- hW0];have HW:=Nm.hide hW0;have HM:=Nm.hide hm;clear hW0 hm;have hsz:=hB.size;generalize hp1:w.heap.size=p1 at*;have HP1:=Nm.hide hp1;clear hp1
 go_loopw [10] (fun i wr=>∃ k:Nat,k<=16∧i=.int .i64 k∧Blk wr (p1+2) (wA m k) 127∧Only (p1+2) W0 wr) (fun i _=>16-(intOf i).toNat)
 case atStart=>exact⟨0,by omega,rfl,b3,Only.refl _ _⟩
 case round=>
  obtain⟨k,hk,rfl,kk,hO⟩:=hrel;clear b3
  by_cases hlt:k<16
  ·have h64:k<64:=by omega
   have i1:(0:Int)<=(k:Int):=by omega
   have i2:(k:Int)<16:=by omega
   have i64:(k:Int)<64:=by omega
   have kb:=hO.blk b1 (by omega);have f8:=blk_frozen kk k;obtain⟨v8,hv8⟩:=wA_any (m:=m) (i:=k) h64;have c8:=(blk_cell kk k).trans hv8
   have kS:=Nm.hide (show Blk (wr.setCell ⟨p1+2,k,none⟩ (.int .u32 ((wF m k).toNat:Int))) (p1+2) (wA m (k+1)) 127 by
    have h:=blk_set kk k (.int .u32 ((wF m k).toNat:Int));rw [wA_set h64] at h
    exact h)
   have hOS:=Nm.hide (hO.set (i:=k) (v:=.int .u32 ((wF m k).toNat:Int)));have d0:=(blk_cell kb (4*k)).trans (blA_at t (by omega));have d1:=(blk_cell kb (4*k+1)).trans (blA_at t (by omega));have d2:=(blk_cell kb (4*k+2)).trans (blA_at t (by omega));have d3:=(blk_cell kb (4*k+3)).trans (blA_at t (by omega))
   have hw:=Nm.hide (show wF m k=(bW t (4*k)<<<24)|||(bW t (4*k+1)<<<16)|||(bW t (4*k+2)<<<8)|||bW t (4*k+3) by
    rw [wF_low hlt,<- HM.out]
    rfl)
   have y0:(bW t (4*k)).toNat<256:=by rw [bW_nat];exact UInt8.toNat_lt _
   have y1:(bW t (4*k+1)).toNat<256:=by rw [bW_nat];exact UInt8.toNat_lt _
   have y2:(bW t (4*k+2)).toNat<256:=by rw [bW_nat];exact UInt8.toNat_lt _
   have y3:(bW t (4*k+3)).toNat<256:=by rw [bW_nat];exact UInt8.toNat_lt _
   generalize bW t (4*k)=x0 at*;generalize bW t (4*k+1)=x1 at*;generalize bW t (4*k+2)=x2 at*;generalize bW t (4*k+3)=x3 at*;obtain⟨K0,hK0⟩:∃ K0,4*k=K0:=⟨_,rfl⟩;obtain⟨K1,hK1⟩:∃ K1,4*k+1=K1:=⟨_,rfl⟩;obtain⟨K2,hK2⟩:∃ K2,4*k+2=K2:=⟨_,rfl⟩;obtain⟨K3,hK3⟩:∃ K3,4*k+3=K3:=⟨_,rfl⟩;rw [hK0] at d0;rw [hK1] at d1;rw [hK2] at d2;rw [hK3] at d3;have q0:IntKind.i64.wrap (4*(k:Int))=(K0:Int):=by rw [Go.wrap_small _ (by omega) (by omega)];omega
   have q1:IntKind.i64.wrap ((K0:Int)+1)=(K1:Int):=by rw [Go.wrap_small _ (by omega) (by omega)];omega
   have q2:IntKind.i64.wrap ((K0:Int)+2)=(K2:Int):=by rw [Go.wrap_small _ (by omega) (by omega)];omega
   have q3:IntKind.i64.wrap ((K0:Int)+3)=(K3:Int):=by rw [Go.wrap_small _ (by omega) (by omega)];omega
   have j0:(K0:Int)<64:=by omega
   have j1:(K1:Int)<64:=by omega
   have j2:(K2:Int)<64:=by omega
   have j3:(K3:Int)<64:=by omega
   have z0:(0:Int)<=(K0:Int):=by omega
   have z1:(0:Int)<=(K1:Int):=by omega
   have z2:(0:Int)<=(K2:Int):=by omega
   have z3:(0:Int)<=(K3:Int):=by omega
   have r0:=b_wide' x0 y0;have r1:=b_wide' x1 y1;have r2:=b_wide' x2 y2;have r3:=b_wide' x3 y3;clear hK0 hK1 hK2 hK3 y0 y1 y2 y3;go_wp2
   go_still_tail 30,(by kernel_rfl)
   go_wp2;rw [w_shl24,w_shl16,w_shl8,w_or,w_or,w_or,<- hw.out];go_roundw
   case rel=>exact⟨k+1,by omega,by go_num,blk_drew kS.out,hOS.out.drew⟩
   case measure=>simp [intOf];omega
  ·obtain rfl:k=16:=by omega
   rw [show((16:Nat):Int)=16 from rfl];go_wp2
   go_loopw [5] (fun i wr=>∃ k:Nat,16<=k∧k<=64∧i=.int .i64 k∧Blk wr (p1+2) (wA m k) 127∧Only (p1+2) W0 wr) (fun i _=>64-(intOf i).toNat)
   case atStart=>exact⟨16,by omega,by omega,rfl,kk,hO⟩
   case round=>
    clear kk hO;obtain⟨k,hk16,hk,rfl,kk,hO⟩:=hrel
    by_cases hlt:k<64
    ·have i1:(0:Int)<=(k:Int):=by omega
     have i2:(k:Int)<64:=by omega
     obtain⟨wd,hwd⟩:∃ wd,wd=wr.drew:=⟨_,rfl⟩;have kd:Blk wd (p1+2) (wA m k) 127:=by rw [hwd];exact kk
     have hOd:Only (p1+2) W0 wd:=by rw [hwd];exact hO.drew
     have f8:=blk_frozen kd k;obtain⟨v8,hv8⟩:=wA_any (m:=m) (i:=k) hlt;have c8:=(blk_cell kd k).trans hv8
     have kS:=Nm.hide (show Blk (wd.setCell ⟨p1+2,k,none⟩ (.int .u32 ((wF m k).toNat:Int))) (p1+2) (wA m (k+1)) 127 by
      have h:=blk_set kd k (.int .u32 ((wF m k).toNat:Int));rw [wA_set hlt] at h
      exact h)
     have hOS:=Nm.hide (hOd.set (i:=k) (v:=.int .u32 ((wF m k).toNat:Int)));have e15:=(blk_cell kk (k-15)).trans (wA_at (show k-15<k by omega) (by omega));have e2:=(blk_cell kk (k-2)).trans (wA_at (show k-2<k by omega) (by omega));have e16:=(blk_cell kd (k-16)).trans (wA_at (show k-16<k by omega) (by omega));have e7:=(blk_cell kd (k-7)).trans (wA_at (show k-7<k by omega) (by omega));have hw:=Nm.hide (wF_high (m:=m) (show ¬k<16 by omega));generalize wF m (k-15)=x15 at*;generalize wF m (k-2)=x2 at*;generalize wF m (k-16)=x16 at*;generalize wF m (k-7)=x7 at*;obtain⟨k16,hk16'⟩:∃ j,k-16=j:=⟨_,rfl⟩;obtain⟨k7,hk7⟩:∃ j,k-7=j:=⟨_,rfl⟩;obtain⟨k15,hk15⟩:∃ j,k-15=j:=⟨_,rfl⟩;obtain⟨k2,hk2⟩:∃ j,k-2=j:=⟨_,rfl⟩;rw [hk16'] at e16;rw [hk7] at e7;rw [hk15] at e15;rw [hk2] at e2;have q16:IntKind.i64.wrap ((k:Int)-16)=(k16:Int):=by rw [Go.wrap_small _ (by omega) (by omega)];omega
     have q7:IntKind.i64.wrap ((k:Int)-7)=(k7:Int):=by rw [Go.wrap_small _ (by omega) (by omega)];omega
     have q15:IntKind.i64.wrap ((k:Int)-15)=(k15:Int):=by rw [Go.wrap_small _ (by omega) (by omega)];omega
     have q2:IntKind.i64.wrap ((k:Int)-2)=(k2:Int):=by rw [Go.wrap_small _ (by omega) (by omega)];omega
     have y16:(k16:Int)<64:=by omega
     have y7:(k7:Int)<64:=by omega
     have y15:(k15:Int)<64:=by omega
     have y2:(k2:Int)<64:=by omega
     have z16:(0:Int)<=(k16:Int):=by omega
     have z7:(0:Int)<=(k7:Int):=by omega
     have z15:(0:Int)<=(k15:Int):=by omega
     have z2:(0:Int)<=(k2:Int):=by omega
     clear hk16' hk7 hk15 hk2;have HWD0:=Nm.hide hwd;clear hwd;go_wp2
     go_still (by kernel_rfl)
     go_wp2_with (first|(go_at_call 154;refine(turn_any _ _ (by decide) (by decide) _).mono ?_;rintro e wv ⟨rfl,rfl⟩))
     rw [<- HWD0.out]
     go_still_tail 14,(by kernel_rfl)
     go_wp2;rw [w_shr3,w_shr10,w_xor,w_xor,w_xor,w_xor,w_add4,show turnW x15 7 ^^^ turnW x15 18 ^^^ (x15>>>3)=s0W x15 from rfl,show turnW x2 17 ^^^ turnW x2 19 ^^^ (x2>>>10)=s1W x2 from rfl,<- hw.out];go_roundw
     case rel=>exact⟨k+1,by omega,by omega,by go_num,blk_drew kS.out,hOS.out.drew⟩
     case measure=>simp [intOf];omega
    ·obtain rfl:k=64:=by omega
     have b2':=hO.blk b2 (by omega)
     go_wp2_with (first
      |(refine wpList_load_blk (.tmp 3) 127 rfl rfl (p1+2) _ _ kk rfl Tryz.underlying127 rfl (by rw [wA_size];exact hinf) ?_)
      |(refine wpList_store_blk (.tmp 2) (.tmp 88) 127 rfl rfl rfl (p1+1) _ _ b2' rfl rfl (by rw [wA_size];exact hinf) (by rw [wA_size];simp) (wA_one _ _) ?_;intro w9 k9 o9))
     have hb:=o9.below (hO.below hB (by omega) hsz) (by omega) (Nat.le_trans hsz hO.size);exact bodyPost_ret (v:=.agg _) (run_results_cell Tryz.results128 rfl k9 Tryz.underlying127 (by rw [wA_size];exact hinf)) rfl ⟨rfl,by rw [HP1.out];exact hb⟩
end Go.Proofs.YtcihkbojmbfmmaaGreatDoor
