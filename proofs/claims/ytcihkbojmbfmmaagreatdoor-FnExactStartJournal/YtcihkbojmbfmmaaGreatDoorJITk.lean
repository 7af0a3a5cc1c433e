import Derived.Test.YtcihkbojmbfmmaaGreatDoorJIRo
import Derived.Test.YtcihkbojmbfmmaaGreatDoorJShL7
import Derived.Test.YtcihkbojmbfmmaaGreatDoorJMath
import Derived.Test.YtcihkbojmbfmmaaGreatDoorJIBg
import Derived.Test.YtcihkbojmbfmmaaGreatDoorJCzM
import Derived.Deep.RegionHeld3
namespace Go.Proofs.YtcihkbojmbfmmaaGreatDoor
open Go.RowKit
set_option linter.unusedVariables false
theorem run_index_arr{P:Program}{t e:TypeId}{n k:Nat}{cs:Array Value}{v:Value}{i:TypeInfo}(hu:P.underlying t=some (.array n e))(hue:P.underlying e=some (.int .u32))(hi:P.info? e=some i)(hs:i.size=1)(hk:k<n)(hv:cs[k]? =some v)(W:World):
 (Instr.index t (.agg cs) (.int .i64 (k:Int))).run P W=.ok v W:=by
 have h0:(0:Int)<=(k:Int)∧(k:Int)<(n:Int):=by omega
 simp [Instr.index,asIntOf,run_underlying hu,run_underlying hue,part,isAgg,sizeOf,typeInfo,hi,hs,h0,hk,hv]
theorem info_one{P:Program}{e:TypeId}(h:(P.info? e).map (·.size)=some 1):∃ i,P.info? e=some i∧i.size=1:=by
 cases hq:P.info? e with
 |none=>simp [hq] at h
 |some i=>exact⟨i,rfl,by simpa [hq] using h⟩
theorem hvA_size(s:Sv):(hvA s).size=8:=rfl
theorem hvA_one(s:Sv):(hvA s).all (·.oneCell')=true:=all8 _ _ _ _ _ _ _ _
def KAt(W:World)(g:Nat):Prop:=∀ i,i<64->W.cell? ⟨g,i,none⟩=some (.int .u32 ((KW i).toNat:Int))
theorem KAt.below{w W:World}{g:Nat}(h:KAt w g)(hb:Below w.heap.size w W):KAt W g:=fun i hi=>(hb.cell (World.block_lt_of_cell? w _ (h i hi))).trans (h i hi)
theorem wp_store_blk{P:Program}{o:Oper}{a:Act}{w:World}{K:Act->World->Prop}{Q:Exit->Act->World->Prop}(p x:Operand)(t:TypeId)(ho:o.op=.store t p x)(hdst:o.dst=none)(b:Nat)(c c':Array Value)(hk:Blk w b c t)
 (hp:a.eval p=.pointer (some ⟨b,0,none⟩)) (hx:a.eval x=.agg c') (hi:(P.info? t).map (·.size)=some c'.size) (hs:c.size=c'.size) (h1:c'.all (·.oneCell')=true)
 (h:∀ w',Blk w' b c' t->Only b w w'->K a w'):o.wp P a w K Q:=by
 unfold Oper.wp execOp;simp only [ho,hp,hx,Instr.storeAt,Instr.sureAddr,Sem.run_bind,Sem.run_pure,Result.andThen_ok,run_storeVar_row w b t t c c' hk hi hs h1];have e:a.put o.dst undef=a:=by rw [hdst];rfl
 show K (a.put o.dst undef) _
 rw [e];exact h _ (blk_setRow hk) Only.setRow
set_option maxRecDepth 100000 in
set_option maxHeartbeats 8000000 in
theorem stTake_any(s:Sv)(t:List UInt8)(w:World)(hK:KAt w 1):
 Calls Tryz.prog 98 #[.agg (hvA s),.agg (blA t)] w fun e w'=>e=.returned (.agg (hvA (addSv s (roundsW (fun i=>wordAt t (4*i)) s 64))))∧Below w.heap.size w w':=by
 have hinf8:(Tryz.prog.info? 145).map (·.size)=some 8:=by kernel_rfl
 have hinf64:(Tryz.prog.info? 147).map (·.size)=some (blA t).size:=by rw [blA_size];kernel_rfl
 obtain⟨m,hm⟩:∃ m:Nat->Wd,(fun i=>wordAt t (4*i))=m:=⟨_,rfl⟩;have hwd:=fun W=>words_any t W
 rw [hm];simp only [hm] at hwd;have hinfA:(Tryz.prog.info? 145).map (·.size)=some (hvA s).size:=hinf8;have kA:∀ Z:Array Value,Blk (((w.alloc (.cells (hvA s) 145)).alloc (.cells (blA t) 147)).alloc (.cells Z 145)) w.heap.size (hvA s) 145:=fun Z=>blk_alloc (blk_alloc (blk_new _ _ _) _) _
 have kA2:∀ Z Y:Array Value,Blk ((((w.alloc (.cells (hvA s) 145)).alloc (.cells (blA t) 147)).alloc (.cells Z 145)).alloc (.cells Y 145)) (w.heap.size+1+1+1) Y 145:=by
  intro Z Y;have h:=blk_new (((w.alloc (.cells (hvA s) 145)).alloc (.cells (blA t) 147)).alloc (.cells Z 145)) Y 145;rw [World.size_alloc,World.size_alloc,World.size_alloc] at h;exact h
 have kB2:∀ Z Y:Array Value,Blk ((((w.alloc (.cells (hvA s) 145)).alloc (.cells (blA t) 147)).alloc (.cells Z 145)).alloc (.cells Y 145)) (w.heap.size+1) (blA t) 147:=by
  intro Z Y;have h:=blk_new (w.alloc (.cells (hvA s) 145)) (blA t) 147;rw [World.size_alloc] at h;exact blk_alloc (blk_alloc h _) _
 have kC2:∀ Z Y:Array Value,Blk ((((w.alloc (.cells (hvA s) 145)).alloc (.cells (blA t) 147)).alloc (.cells Z 145)).alloc (.cells Y 145)) (w.heap.size+1+1) Z 145:=by
  intro Z Y;have h:=blk_new ((w.alloc (.cells (hvA s) 145)).alloc (.cells (blA t) 147)) Z 145;rw [World.size_alloc,World.size_alloc] at h;exact blk_alloc h _
 have hB2:∀ Z Y:Array Value,Below w.heap.size w ((((w.alloc (.cells (hvA s) 145)).alloc (.cells (blA t) 147)).alloc (.cells Z 145)).alloc (.cells Y 145)):=by
  intro Z Y;have h1:=(Below.refl w.heap.size w).alloc (Nat.le_refl _) (.cells (hvA s) 145);have h2:=h1.alloc h1.size (.cells (blA t) 147);have h3:=h2.alloc h2.size (.cells Z 145);exact h3.alloc h3.size _
 go_enter Tryz.func98,Tryz.ntmps98
 go_wp2_with (first
  |(refine wpList_load_blk (.tmp 2) 145 rfl rfl w.heap.size _ _ (kA _) rfl Tryz.underlying145 rfl hinfA ?_)
  |(refine wpList_store_blk (.tmp 5) (.tmp 9) 145 rfl rfl rfl (w.heap.size+1+1+1) _ _ (kA2 _ _) rfl rfl hinfA rfl (all8 _ _ _ _ _ _ _ _) ?_;intro w1 k5 o5;have k2:=o5.blk (blk_alloc (kA _) _) (by omega);have k3:=o5.blk (kB2 _ _) (by omega);have k4:=o5.blk (kC2 _ _) (by omega);have hB3:=o5.below (hB2 _ _) (by omega) (hB2 _ _).size;clear o5)
  |(refine wpList_load_blk (.tmp 3) 147 rfl rfl (w.heap.size+1) _ _ k3 rfl Tryz.underlying147 rfl hinf64 ?_)
  |(go_at_call 128;refine(hwd _).mono ?_;rintro e w2 ⟨rfl,hb2⟩))
 have k52:=blk_below k5 hb2;have k22:=blk_below k2 hb2;have k42:=blk_below k4 hb2;have hBw:=Nm.below_two hB3 hb2;have hK2:=hK.below hBw;clear k5 k2 k4 k3 hB3 hb2 kA kA2 kB2 kC2 hB2 hwd;have HK1:=Nm.hide (World.block_lt_of_cell? w _ (hK 0 (by decide)));have hp0:=hBw.size;clear hK;generalize hp:w.heap.size=p0 at*;have HP:=Nm.hide hp;clear hp
 go_loopw [12] (fun i wr=>∃ k:Nat,k<=64∧i=.int .i64 k∧Blk wr (p0+1+1+1) (hvA (roundsW m s k)) 145∧Only (p0+1+1+1) w2 wr) (fun i _=>64-(intOf i).toNat)
 case atStart=>exact⟨0,by omega,rfl,k52,Only.refl _ _⟩
 case round=>
  obtain⟨k,hk,rfl,kk,hO⟩:=hrel;clear k52
  by_cases hlt:k<64
  ·have i1:(0:Int)<=(k:Int):=by omega
   have i2:(k:Int)<64:=by omega
   have ha:=wA_at (m:=m) hlt hlt;have hsz:=wA_size m 64;have HR:=Nm.hide (show roundsW m s (k+1)=roundX (roundsW m s k) (KW k+wF m k) by rw [roundX_eq];rfl);have hKc:=hO.cell (b:=1) (by have:=World.block_lt_of_cell? w2 _ (hK2 0 (by decide));have:=HK1.out;omega) (hK2 k hlt);generalize roundsW m s k=v at*;generalize hwA:wA m 64=WA at*;generalize wF m k=wk at*;obtain⟨va,vb,vc,vd,ve,vf,vg,vh⟩:=v;obtain⟨ui,hui,hus⟩:=info_one (P:=Tryz.prog) (e:=125) (by kernel_rfl);have hix:=fun W=>run_index_arr (P:=Tryz.prog) (W:=W) Tryz.underlying127 Tryz.underlying125 hui hus hlt ha
   have hcl:=hvA_cells kk;have hpk:=blk_lt kk
   have hS:∀ W,Below wr.heap.size wr W->(W.cell? ⟨p0+1+1+1,0,none⟩=some (.int .u32 (va.toNat:Int))∧W.cell? ⟨p0+1+1+1,1,none⟩=some (.int .u32 (vb.toNat:Int))∧W.cell? ⟨p0+1+1+1,2,none⟩=some (.int .u32 (vc.toNat:Int))∧W.cell? ⟨p0+1+1+1,3,none⟩=some (.int .u32 (vd.toNat:Int))∧W.cell? ⟨p0+1+1+1,4,none⟩=some (.int .u32 (ve.toNat:Int))∧W.cell? ⟨p0+1+1+1,5,none⟩=some (.int .u32 (vf.toNat:Int))∧W.cell? ⟨p0+1+1+1,6,none⟩=some (.int .u32 (vg.toNat:Int))∧W.cell? ⟨p0+1+1+1,7,none⟩=some (.int .u32 (vh.toNat:Int))∧W.cell? ⟨1,k,none⟩=some (.int .u32 ((KW k).toNat:Int)))∧Below wr.heap.size wr W:=fun W hW=>
    ⟨⟨(hW.cell hpk).trans hcl.1,(hW.cell hpk).trans hcl.2.1,(hW.cell hpk).trans hcl.2.2.1,(hW.cell hpk).trans hcl.2.2.2.1,(hW.cell hpk).trans hcl.2.2.2.2.1,(hW.cell hpk).trans hcl.2.2.2.2.2.1,(hW.cell hpk).trans hcl.2.2.2.2.2.2.1,(hW.cell hpk).trans hcl.2.2.2.2.2.2.2,(hW.cell (World.block_lt_of_cell? wr _ hKc)).trans hKc⟩,hW⟩
   have hS0:=hS wr.drew (Below.refl _ _).drew;clear hcl ha hsz hKc;go_wp2;refine wp_region_last (S:=fun W=>(W.cell? ⟨p0+1+1+1,0,none⟩=some (.int .u32 (va.toNat:Int))∧W.cell? ⟨p0+1+1+1,1,none⟩=some (.int .u32 (vb.toNat:Int))∧W.cell? ⟨p0+1+1+1,2,none⟩=some (.int .u32 (vc.toNat:Int))∧W.cell? ⟨p0+1+1+1,3,none⟩=some (.int .u32 (vd.toNat:Int))∧W.cell? ⟨p0+1+1+1,4,none⟩=some (.int .u32 (ve.toNat:Int))∧W.cell? ⟨p0+1+1+1,5,none⟩=some (.int .u32 (vf.toNat:Int))∧W.cell? ⟨p0+1+1+1,6,none⟩=some (.int .u32 (vg.toNat:Int))∧W.cell? ⟨p0+1+1+1,7,none⟩=some (.int .u32 (vh.toNat:Int))∧W.cell? ⟨1,k,none⟩=some (.int .u32 ((KW k).toNat:Int)))∧Below wr.heap.size wr W) 7 (by kernel_rfl) hS0 (fun hH=>?_);clear hS0;refine tkA 0 rfl ?_;refine tkA 1 rfl ?_;refine tkA 2 rfl ?_;refine tkA 3 rfl ?_;refine tkA 4 rfl ?_;refine tkA 5 rfl ?_;rw [wr_add];refine wpAnyL_one (i:=6) (by kernel_rfl) rfl (fun K hK=>?_);go_simp;refine(round_any ⟨va,vb,vc,vd,ve,vf,vg,vh⟩ (KW k+wk) _).mono ?_;rintro e w3 ⟨rfl,hb3⟩;have hb4:Below wr.heap.size wr w3:=(Below.refl _ wr).drew.trans hb3;have kk3:=blk_below kk hb4;have hO3:=hO.more hb4;rw [<- HR.out];go_wp2_with fail
   refine hK.out _ _ (hS _ hb4) (fun _=>?_);clear hK K hS hH hb3 kk hO hb4;refine wpAnyL_end (by kernel_rfl) rfl (by kernel_rfl) (fun K hK=>?_);rw [if_pos (by rfl)];refine wp_store_blk (.tmp 5) (.tmp 22) 145 rfl rfl (p0+1+1+1) _ _ kk3 rfl rfl (by rw [hvA_size];exact hinf8) (by rw [hvA_size,hvA_size]) (hvA_one _) ?_;intro w4 k4' o4;refine hK.out _ _ ?_;clear hK K;have hO4:=hO3.then o4 (.inl rfl)
   clear o4 hO3 kk3;go_wp2;go_roundw
   case rel=>exact⟨k+1,by omega,by go_num,k4',hO4⟩
   case measure=>simp [intOf];omega
  ·obtain rfl:k=64:=by omega
   rw [show((64:Nat):Int)=64 from rfl];have k2w:=hO.blk k22 (by omega);have k4w:=hO.blk k42 (by omega);have hBr:=hO.below hBw (by omega) hp0;have hpr:=Nat.le_trans hp0 hO.size;clear k22 k42 hK2;generalize hv64:roundsW m s 64=v at*;have HV:=Nm.hide hv64;clear hv64;go_wp2
   go_loopw [24] (fun i wl=>∃ k:Nat,k<=8∧i=.int .i64 k∧Blk wl p0 (adA s v k) 145∧Only p0 wr wl) (fun i _=>8-(intOf i).toNat)
   case atStart=>exact⟨0,by omega,rfl,k2w,Only.refl _ _⟩
   case round=>
    obtain⟨k,hk,rfl,kq,hQ⟩:=hrel;have kv:=hQ.blk kk (by omega);have k4x:=hQ.blk k4w (by omega);clear k2w
    by_cases hlt:k<8
    ·have c6:=(blk_cell kq k).trans (adA_at (Nat.lt_irrefl k) hlt);have c15:=(blk_cell kv k).trans (hvA_at v hlt);have f6:=blk_frozen kq k;have i1:(0:Int)<=(k:Int):=by omega
     have i2:(k:Int)<8:=by omega
     have kS:=Nm.hide (show Blk (World.setCell _ ⟨p0,k,none⟩ (.int .u32 ((((svL s)[k]?).getD 0+((svL v)[k]?).getD 0).toNat:Int))) p0 (adA s v (k+1)) 145 by
      have h:=blk_set kq k (.int .u32 ((((svL s)[k]?).getD 0+((svL v)[k]?).getD 0).toNat:Int));rw [adA_set hlt] at h
      exact h)
     have hOS:=Nm.hide (hQ.set (i:=k) (v:=.int .u32 ((((svL s)[k]?).getD 0+((svL v)[k]?).getD 0).toNat:Int)));generalize ((svL s)[k]?).getD 0=x at*;generalize ((svL v)[k]?).getD 0=y at*;go_wp2;go_region
     all_goals go_wp2
     rw [w_add x y];go_roundw
     case rel=>exact⟨k+1,by omega,by go_num,blk_drew kS.out,hOS.out.drew⟩
     case measure=>simp [intOf];omega
    ·obtain rfl:k=8:=by omega
     rw [adA_all] at kq;have hpl:=blk_lt kq
     go_wp2_with (first
      |(refine wpList_load_blk (.tmp 2) 145 rfl rfl p0 _ _ kq rfl Tryz.underlying145 rfl (by rw [hvA_size];exact hinf8) ?_)
      |(refine wpList_store_blk (.tmp 4) (.tmp 36) 145 rfl rfl rfl (p0+1+1) _ _ k4x rfl rfl (by rw [hvA_size];exact hinf8) (by rw [hvA_size];rfl) (hvA_one _) ?_;intro w9 k9 o9))
     have hb:=o9.below (hQ.below hBr (Nat.le_refl _) hpr) (by omega) (Nat.le_trans hpr hQ.size);exact bodyPost_ret (v:=.agg _) (run_results_cell Tryz.results98 rfl k9 Tryz.underlying145 (by rw [hvA_size];exact hinf8)) rfl ⟨by rw [HV.out],by rw [HP.out];exact hb⟩
theorem ouA_size(l:List UInt8)(i:Nat):(ouA l i).size=32:=by simp [ouA]
theorem big4(x:Nat):bigL x 4=[UInt8.ofNat (x / 2 ^ 24),UInt8.ofNat (x / 2 ^ 16),UInt8.ofNat (x / 2 ^ 8),UInt8.ofNat (x / 2 ^ 0)]:=rfl
theorem ouA_four(s:Sv){k:Nat}(h:k<8):spl (ouA (outL s) (4*k)) (4*k) (bytesV ⟨(bigL (((svL s)[k]?).getD 0).toNat 4).toArray⟩)=ouA (outL s) (4*(k+1)):=by
 have e:∀ i,i<4->((outL s)[4*k+i]?).getD 0=UInt8.ofNat ((((svL s)[k]?).getD 0).toNat / 2 ^ (24-8*i)):=by
  intro i hi;rw [outL_at s (by omega),show(4*k+i) / 4=k by omega,show(4*k+i) % 4=i by omega]
 rw [big4];show spl _ _ [.int .u8 ((UInt8.ofNat ((((svL s)[k]?).getD 0).toNat / 2 ^ 24)).toNat:Int),.int .u8 ((UInt8.ofNat ((((svL s)[k]?).getD 0).toNat / 2 ^ 16)).toNat:Int),.int .u8 ((UInt8.ofNat ((((svL s)[k]?).getD 0).toNat / 2 ^ 8)).toNat:Int),.int .u8 ((UInt8.ofNat ((((svL s)[k]?).getD 0).toNat / 2 ^ 0)).toNat:Int)]=_
 rw [<- e 0 (by omega),<- e 1 (by omega),<- e 2 (by omega),<- e 3 (by omega)];simp only [spl,Nat.add_zero];rw [ouA_set (by omega),ouA_set (by omega),show 4*k+1+1=4*k+2 by omega,ouA_set (by omega),show 4*k+2+1=4*k+3 by omega,ouA_set (by omega),show 4*(k+1)=4*k+3+1 by omega]
set_option maxRecDepth 100000 in
set_option maxHeartbeats 8000000 in
theorem sum_any(s:Sv)(w:World):
 Calls Tryz.prog 99 #[.agg (hvA s)] w fun e w'=>e=.returned (.agg (byA (outL s)))∧Below w.heap.size w w':=by
 have hz32:∀ W,(zeroValue 86).run Tryz.prog W=.ok (.agg (Array.replicate 32 (.int .u8 0))) W:=by
  have:=zero_of_info (P:=Tryz.prog) (t:=86) (v:=.agg (Array.replicate 32 (.int .u8 0))) (n:=32) (by kernel_rfl);exact this.1
 have hinfA:(Tryz.prog.info? 145).map (·.size)=some (hvA s).size:=by rw [hvA_size];kernel_rfl
 have hinf32:(Tryz.prog.info? 86).map (·.size)=some 32:=by kernel_rfl
 obtain⟨W0,hW0⟩:∃ W0,W0=((w.alloc (.cells (hvA s) 145)).alloc (.cells (Array.replicate 32 (.int .u8 0)) 86)).alloc (.cells (Array.replicate 32 (.int .u8 0)) 86):=⟨_,rfl⟩;have kA:Blk (((w.alloc (.cells (hvA s) 145)).alloc (.cells (Array.replicate 32 (.int .u8 0)) 86)).alloc (.cells (Array.replicate 32 (.int .u8 0)) 86)) w.heap.size (hvA s) 145:=blk_alloc (blk_alloc (blk_new _ _ _) _) _
 have b2:Blk W0 (w.heap.size+1) (Array.replicate 32 (.int .u8 0)) 86:=by
  have h:=blk_new (w.alloc (.cells (hvA s) 145)) (Array.replicate 32 (.int .u8 0)) 86;rw [World.size_alloc] at h;rw [hW0];exact blk_alloc h _
 have b3:Blk W0 (w.heap.size+2) (ouA (outL s) 0) 86:=by
  have h:=blk_new ((w.alloc (.cells (hvA s) 145)).alloc (.cells (Array.replicate 32 (.int .u8 0)) 86)) (Array.replicate 32 (.int .u8 0)) 86;rw [World.size_alloc,World.size_alloc] at h;rw [hW0,ouA_zero];exact h
 have hB:Below w.heap.size w W0:=by
  have h1:=(Below.refl w.heap.size w).alloc (Nat.le_refl _) (.cells (hvA s) 145);have h2:=h1.alloc h1.size (.cells (Array.replicate 32 (.int .u8 0)) 86);rw [hW0];exact h2.alloc h2.size _
 have hsz:=hB.size;go_enter Tryz.func99,Tryz.ntmps99;go_wp2_with (refine wpList_load_blk (.tmp 1) 145 rfl rfl w.heap.size _ _ kA rfl Tryz.underlying145 rfl hinfA ?_)
 rw [<- hW0];have HW:=Nm.hide hW0;clear hW0 kA;generalize hp1:w.heap.size=p1 at*;have HP1:=Nm.hide hp1;clear hp1
 go_loopw [7] (fun i wr=>∃ k:Nat,k<=8∧i=.int .i64 k∧Blk wr (p1+2) (ouA (outL s) (4*k)) 86∧Only (p1+2) W0 wr) (fun i _=>8-(intOf i).toNat)
 case atStart=>exact⟨0,by omega,rfl,b3,Only.refl _ _⟩
 case round=>
  obtain⟨k,hk,rfl,kk,hO⟩:=hrel;clear b3
  by_cases hlt:k<8
  ·have i1:(0:Int)<=(k:Int):=by omega
   have i2:(k:Int)<8:=by omega
   obtain⟨ui,hui,hus⟩:=info_one (P:=Tryz.prog) (e:=125) (by kernel_rfl);have hix:=fun W=>run_index_arr (P:=Tryz.prog) (W:=W) Tryz.underlying145 Tryz.underlying125 hui hus hlt (hvA_at s hlt)
   have H4:=Nm.hide (ouA_four s hlt);have HS:=Nm.hide (ouA_size (outL s) (4*k));obtain⟨x,hx⟩:∃ x:Nat,(((svL s)[k]?).getD 0).toNat=x:=⟨_,rfl⟩;have hx32:x<4294967296:=by rw [<- hx];exact(((svL s)[k]?).getD 0).isLt
   rw [hx] at hix;have H4':=Nm.hide (show spl (ouA (outL s) (4*k)) (4*k) (bytesV ⟨(bigL x 4).toArray⟩)=ouA (outL s) (4*(k+1)) by rw [<- hx];exact H4.out);clear hx H4;have hbb:=fun W=>bigBytesN_any x 4 W (by omega) (by decide) (by decide)
   have hTr:True:=trivial;obtain⟨K4,hK4⟩:∃ K4,4*k=K4:=⟨_,rfl⟩;have q0:IntKind.i64.wrap (4*(k:Int))=(K4:Int):=by rw [Go.wrap_small _ (by omega) (by omega)];omega
   have qx:IntKind.i64.wrap (x:Int)=(x:Int):=Go.wrap_small _ (by omega) (by omega);have z0:(0:Int)<=(K4:Int):=by omega
   have z1:(K4:Int)<=32:=by omega
   have z2:(K4:Int)<32:=by omega
   rw [hK4] at kk HS H4';have HK4:=Nm.hide hK4;clear hK4;go_wp2;refine wp_region_held_drew (S:=fun _=>True) (by kernel_rfl) trivial (fun hHeld=>?_);refine wpAnyH_take (i:=0) (v:=?_) rfl (by kernel_rfl) (by kernel_rfl) (by kernel_rfl) (fun _ _ _ h=>h) (Or.inl ⟨by rfl,?_⟩) (by assumption) ?_;rotate_left 1
   ·(intro w hSw;go_simp;try (with_reducible rfl))
   refine wpAnyH_take (i:=1) (v:=?_) rfl (by kernel_rfl) (by kernel_rfl) (by kernel_rfl) (fun _ _ _ h=>h) (Or.inl ⟨by rfl,?_⟩) (by assumption) ?_;rotate_left 1
   ·(intro w hSw;go_simp;try (with_reducible rfl))
   refine wpAnyH_take (i:=2) (v:=?_) rfl (by kernel_rfl) (by kernel_rfl) (by kernel_rfl) (fun _ _ _ h=>h) (Or.inl ⟨by rfl,?_⟩) (by assumption) ?_;rotate_left 1
   ·(intro w hSw;go_simp;try (with_reducible rfl))
   refine wpAnyH_take (i:=3) (v:=?_) rfl (by kernel_rfl) (by kernel_rfl) (by kernel_rfl) (fun _ _ _ h=>h) (Or.inl ⟨by rfl,?_⟩) (by assumption) ?_;rotate_left 1
   ·(intro w hSw;go_simp;try (with_reducible rfl))
   refine wpAnyH_take (i:=4) (v:=?_) rfl (by kernel_rfl) (by kernel_rfl) (by kernel_rfl) (fun _ _ _ h=>h) (Or.inl ⟨by rfl,?_⟩) (by assumption) ?_;rotate_left 1
   ·(intro w hSw;go_simp;try (with_reducible rfl))
   refine wpAnyH_ready (rs:=[5]) (by kernel_rfl) (by simp) ?_;refine AllReadyH.cons rfl (fun K hK=>?_) AllReadyH.nil;go_simp;refine(hbb _).mono ?_;rintro e w3 ⟨rfl,hb3⟩;have hbd:Below wr.heap.size wr w3:=(Below.refl _ wr).drew.trans hb3;have kk3:=blk_below kk hbd;have hO3:=hO.more hbd;rw [if_neg (show ¬32=K4 by omega)];go_wp2_with fail
   refine hK.out _ _ trivial (fun _=>?_);clear hK K hb3 hbd;refine wpAnyH_ready (rs:=[6]) (by kernel_rfl) (by simp) ?_;refine AllReadyH.cons rfl (fun K hK=>?_) AllReadyH.nil;refine step_copy_str rfl (.tmp 13) (.tmp 16) 26 9 rfl 5 Tryz.underlying26 (by kernel_rfl) (p1+2) K4 (32-K4) (32-K4) (by go_simp) ⟨(bigL x 4).toArray⟩ (by go_simp) _ _ kk3 (by show 4<=_;have:=HK4.out;omega) (by rw [HS.out];show K4+4<=32;have:=HK4.out;omega) ?_;intro w4 k4 o4;rw [H4'.out] at k4;refine hK.out _ _ trivial (fun _=>?_);clear hK K;have hO4:=hO3.then o4 (.inl rfl)
   clear o4 hO3 kk3;refine wpAnyH_done (by kernel_rfl) ?_ _;go_wp2;go_roundw
   case rel=>exact⟨k+1,by omega,by go_num,k4,hO4⟩
   case measure=>simp [intOf];omega
  ·obtain rfl:k=8:=by omega
   rw [show((8:Nat):Int)=8 from rfl];rw [show 4*8=32 from rfl,ouA_byA] at kk;have b2':=hO.blk b2 (by omega);have hinfB:(Tryz.prog.info? 86).map (·.size)=some (byA (outL s)).size:=by rw [byA_size];exact hinf32
   go_wp2_with (first
    |(refine wpList_load_blk (.tmp 3) 86 rfl rfl (p1+2) _ _ kk rfl Tryz.underlying86 rfl hinfB ?_)
    |(refine wpList_store_blk (.tmp 2) (.tmp 19) 86 rfl rfl rfl (p1+1) _ _ b2' rfl rfl hinfB (by rw [byA_size,outL_len];simp) (byA_one _) ?_;intro w9 k9 o9))
   have hb:=o9.below (hO.below hB (by omega) hsz) (by omega) (Nat.le_trans hsz hO.size);exact bodyPost_ret (v:=.agg _) (run_results_cell Tryz.results99 rfl k9 Tryz.underlying86 hinfB) rfl ⟨rfl,by rw [HP1.out];exact hb⟩
theorem bW_drop(t:List UInt8)(n k:Nat):bW (t.drop n) k=bW t (n+k):=by simp [bW,List.getElem?_drop]
theorem wordAt_drop(t:List UInt8)(n k:Nat):wordAt (t.drop n) k=wordAt t (n+k):=by
 simp only [wordAt,bW_drop,Nat.add_assoc]
theorem hash_step(t:List UInt8)(n:Nat):addSv (hashW t n) (roundsW (fun i=>wordAt (t.drop (64*n)) (4*i)) (hashW t n) 64)=hashW t (n+1):=by
 simp only [wordAt_drop];rfl
theorem bl_ext{L:List Value}{t:List UInt8}(hl:L.length=64)(h:∀ j,j<64->L[j]? =some (.int .u8 ((bW t j).toNat:Int))):L.toArray=blA t:=by
 apply Array.ext_getElem?;intro j
 by_cases hj:j<64
 ·rw [blA_at t hj,List.getElem?_toArray];exact h j hj
 ·simp [blA,hj,hl]
theorem pad_low(l:List UInt8){j:Nat}(h:j<l.length):bW (padL l) j=bW l j:=by
 simp only [bW,padL,padTo_eq];rw [List.append_assoc,List.append_assoc,List.getElem?_append_left h]
theorem pad_one(l:List UInt8):bW (padL l) l.length=128:=by
 simp only [bW,padL,padTo_eq];rw [List.append_assoc,List.append_assoc,List.getElem?_append_right (Nat.le_refl _),Nat.sub_self];rfl
theorem pad_zero(l:List UInt8){j:Nat}(h1:l.length<j)(h2:j<l.length+1+zN l.length):bW (padL l) j=0:=by
 simp only [bW,padL,padTo_eq];rw [List.append_assoc,List.getElem?_append_right (by simp;omega),List.getElem?_append_left (by simp;omega)];simp
 rw [List.getElem?_replicate]
 split<;>rfl
theorem pad_len(l:List UInt8){i:Nat}(h:i<8):bW (padL l) (l.length+1+zN l.length+i)=BitVec.ofNat 32 (UInt8.ofNat (8*l.length / 2 ^ (8*(7-i)))).toNat:=by
 simp only [bW,padL];rw [List.getElem?_append_right (by rw [padTo_len];omega),padTo_len,show l.length+1+zN l.length+i-(l.length+1+zN l.length)=i by omega];simp [lenL,h]
theorem b8_nat(c:UInt8):(BitVec.ofNat 32 c.toNat).toNat=c.toNat:=by
 rw [BitVec.toNat_ofNat];have:=c.toNat_lt;omega
theorem spl_get:∀ (vs:List Value) (cs:Array Value) (o j:Nat),o+vs.length<=cs.size->(spl cs o vs)[j]? =if o<=j∧j<o+vs.length then vs[j-o]? else cs[j]?
 |[],cs,o,j,h=>by
  rw [if_neg (by simp)]
  rfl
 |v::r,cs,o,j,h=>by
  have hl:(v::r).length=r.length+1:=rfl;rw [spl,spl_get r _ (o+1) j (by simp at h ⊢;omega),Array.getElem?_setIfInBounds]
  by_cases h1:o+1<=j∧j<o+1+r.length
  ·rw [if_pos h1,if_pos (by omega),show j-o=(j-(o+1))+1 by omega];rfl
  ·rw [if_neg h1]
   by_cases h2:o=j
   ·subst h2;rw [if_pos rfl,if_pos (by rw [hl] at h;omega),if_pos (by rw [hl];omega),Nat.sub_self];rfl
   ·rw [if_neg h2,if_neg (by rw [hl];omega)]
theorem bl_ext2{A:Array Value}{t:List UInt8}(hl:A.size=64)(h:∀ j,j<64->A[j]? =some (.int .u8 ((bW t j).toNat:Int))):A=blA t:=by
 apply Array.ext_getElem?;intro j
 by_cases hj:j<64
 ·rw [blA_at t hj];exact h j hj
 ·rw [Array.getElem?_eq_none (by omega),Array.getElem?_eq_none (by rw [blA_size];omega)]
def lastA(l:List UInt8)(n:Nat):Array Value:=(splice (Array.replicate 64 (Value.int .u8 0)).toList 0 (Nm.bys (l.drop (64*n)))).toArray.setIfInBounds (l.length-64*n) (.int .u8 128)
theorem lastA_size{l:List UInt8}{n:Nat}(h2:l.length<64*n+64):(lastA l n).size=64:=by
 simp [lastA,splice,Nm.bys]
 omega
theorem lastA_at{l:List UInt8}{n:Nat}(h1:64*n<=l.length)(h2:l.length<64*n+64){j:Nat}(hj:j<64):
 (lastA l n)[j]? =some (if j<l.length-64*n then .int .u8 ((bW l (64*n+j)).toNat:Int) else if j=l.length-64*n then .int .u8 128 else .int .u8 0):=by
 have hs:(splice (Array.replicate 64 (Value.int .u8 0)).toList 0 (Nm.bys (l.drop (64*n)))).length=64:=by simp [splice,Nm.bys];omega
 have hd:(Nm.bys (l.drop (64*n))).length=l.length-64*n:=by simp [Nm.bys]
 rw [lastA,Array.getElem?_setIfInBounds]
 by_cases he:l.length-64*n=j
 ·rw [if_pos he,if_pos (by rw [List.size_toArray,hs];omega),if_neg (by omega),if_pos he.symm]
 ·rw [if_neg he,List.getElem?_toArray];simp only [splice,List.take_zero,List.nil_append]
  by_cases hlt:j<l.length-64*n
  ·rw [if_pos hlt,List.getElem?_append_left (by omega)];have hx:l[64*n+j]? =some (l[64*n+j]'(by omega)):=List.getElem?_eq_getElem (by omega);simp only [Nm.bys,List.getElem?_map,List.getElem?_drop,hx,Option.map_some,bW,b8_nat,Option.getD_some]
  ·rw [if_neg hlt,if_neg (by omega),List.getElem?_append_right (by omega),List.getElem?_drop,Array.getElem?_toList,Array.getElem?_replicate,if_pos (by omega)]
theorem last_long{l:List UInt8}{n:Nat}(h1:64*n<=l.length)(h2:l.length<64*n+64)(h3:64*n+56<=l.length):lastA l n=blA ((padL l).drop (64*n)):=by
 refine bl_ext2 (lastA_size h2) (fun j hj=>?_);rw [lastA_at h1 h2 hj,bW_drop];have hz:zN l.length=119-(l.length-64*n):=by unfold zN;omega
 by_cases ha:j<l.length-64*n
 ·rw [if_pos ha,pad_low l (by omega)]
 ·rw [if_neg ha]
  by_cases hb:j=l.length-64*n
  ·rw [if_pos hb,show 64*n+j=l.length by omega,pad_one];rfl
  ·rw [if_neg hb,pad_zero l (by omega) (by omega)];rfl
theorem len_bytes(l:List UInt8):bytesV ⟨(bigL (8*l.length) 8).toArray⟩=(lenL l.length).map fun c=>Value.int .u8 (c.toNat:Int):=rfl
theorem lenV_at(l:List UInt8){i:Nat}(h:i<8):(bytesV ⟨(bigL (8*l.length) 8).toArray⟩)[i]? =some (.int .u8 ((UInt8.ofNat (8*l.length / 2 ^ (8*(7-i)))).toNat:Int)):=by
 rw [len_bytes];simp [lenL,h]
theorem lenV_len(l:List UInt8):(bytesV ⟨(bigL (8*l.length) 8).toArray⟩).length=8:=by rw [len_bytes];simp [lenL]
theorem last_short{l:List UInt8}{n:Nat}(h1:64*n<=l.length)(h2:l.length<64*n+56):spl (lastA l n) 56 (bytesV ⟨(bigL (8*l.length) 8).toArray⟩)=blA ((padL l).drop (64*n)):=by
 have hs:=lastA_size (l:=l) (n:=n) (by omega);refine bl_ext2 (by rw [spl_size,hs]) (fun j hj=>?_);rw [spl_get _ _ _ _ (by rw [lenV_len,hs];decide),lenV_len,bW_drop];have hz:zN l.length=55-(l.length-64*n):=by unfold zN;omega
 by_cases hc:56<=j∧j<56+8
 ·rw [if_pos hc,lenV_at l (by omega),show 64*n+j=l.length+1+zN l.length+(j-56) by omega,pad_len l (by omega),b8_nat]
 ·rw [if_neg hc,lastA_at h1 (by omega) hj]
  by_cases ha:j<l.length-64*n
  ·rw [if_pos ha,pad_low l (by omega)]
  ·rw [if_neg ha]
   by_cases hb:j=l.length-64*n
   ·rw [if_pos hb,show 64*n+j=l.length by omega,pad_one];rfl
   ·rw [if_neg hb,pad_zero l (by omega) (by omega)];rfl
theorem last_next{l:List UInt8}{n:Nat}(h1:64*n+56<=l.length)(h2:l.length<64*n+64):spl (Array.replicate 64 (Value.int .u8 0)) 56 (bytesV ⟨(bigL (8*l.length) 8).toArray⟩)=blA ((padL l).drop (64*(n+1))):=by
 refine bl_ext2 (by rw [spl_size];simp) (fun j hj=>?_);rw [spl_get _ _ _ _ (by rw [lenV_len];simp),lenV_len,bW_drop];have hz:zN l.length=119-(l.length-64*n):=by unfold zN;omega
 by_cases hc:56<=j∧j<56+8
 ·rw [if_pos hc,lenV_at l (by omega),show 64*(n+1)+j=l.length+1+zN l.length+(j-56) by omega,pad_len l (by omega),b8_nat]
 ·rw [if_neg hc,Array.getElem?_replicate,if_pos hj,pad_zero l (by omega) (by omega)];rfl
theorem blocks_short{l:List UInt8}{n:Nat}(h1:64*n<=l.length)(h2:l.length<64*n+56):shaL l=outL (hashW (padL l) (n+1)):=by
 have hz:zN l.length=55-(l.length-64*n):=by unfold zN;omega
 have:(padL l).length / 64=n+1:=by rw [padL,List.length_append,padTo_len,lenL_len];omega
 rw [shaL,this]
theorem blocks_long{l:List UInt8}{n:Nat}(h1:64*n+56<=l.length)(h2:l.length<64*n+64):shaL l=outL (hashW (padL l) (n+1+1)):=by
 have hz:zN l.length=119-(l.length-64*n):=by unfold zN;omega
 have:(padL l).length / 64=n+1+1:=by rw [padL,List.length_append,padTo_len,lenL_len];omega
 rw [shaL,this]
noncomputable def shEnd:Code:=sndS (sndS (sndS (sndS (sndS (sndS (((Tryz.f62).body).getD .skip))))))
set_option maxRecDepth 1000000 in
set_option maxHeartbeats 8000000 in
theorem sha_end(K0:Act->World->Prop)(p2 p3 p6:Nat)(h32:p2<p3)(h63:p3<p6)(h:Sv)(A:Array Value)(l t:List UInt8)(a:Option Addr)(cap:Nat)(hl:l.length<=3000000)(hA:spl A 56 (bytesV ⟨(bigL (8*l.length) 8).toArray⟩)=blA t)(hsA:A.size=64)(Q0:Exit->Act->World->Prop)(hk0:∀ a w,Code.wp Tryz.prog (sndS shEnd) Q0 a w->K0 a w)(w0 w:World)(hK:KAt w0 1)(hB0:Hid (p2=w0.heap.size))(hbel:Below p2 w0 w)
 (k2:Blk w p2 (Array.replicate 32 (.int .u8 0)) 86) (k3:Blk w p3 (hvA h) 145) (k6:Blk w p6 A 147)
 (s1 s4 s5 s7 s8 s9 s10 s11 s12 s13 s14 s15 s16 s17 s18 s19 s20 s21 s22 s23 s24 s25 s26 s27 s28 s29 s30 s31 s32 s33 s34 s35 s36 s37 s38 s39 s40 s41 s42:Value)
 (hexit:∀ (u33 u34 u35 u36 u37 u38 u39 u40 u41 u42:Value) (w':World),Blk w' p2 (byA (outL (addSv h (roundsW (fun i=>wordAt t (4*i)) h 64)))) 86∧Below p2 w0 w'->Q0 .ret ⟨(.slice a l.length cap::s1::.pointer (some ⟨p2,0,none⟩)::.pointer (some ⟨p3,0,none⟩)::s4::s5::.pointer (some ⟨p6,0,none⟩)::s7::s8::s9::s10::s11::s12::s13::s14::s15::s16::s17::s18::s19::s20::s21::s22::s23::s24::s25::s26::s27::s28::s29::s30::s31::s32::u33::u34::u35::u36::u37::u38::u39::u40::u41::u42::[]).toArray,[]⟩ w'):
 Code.wp Tryz.prog (fstS shEnd) (Exit.then K0 Q0) ⟨(.slice a l.length cap::s1::.pointer (some ⟨p2,0,none⟩)::.pointer (some ⟨p3,0,none⟩)::s4::s5::.pointer (some ⟨p6,0,none⟩)::s7::s8::s9::s10::s11::s12::s13::s14::s15::s16::s17::s18::s19::s20::s21::s22::s23::s24::s25::s26::s27::s28::s29::s30::s31::s32::s33::s34::s35::s36::s37::s38::s39::s40::s41::s42::[]).toArray,[]⟩ w:=by
 conv=>arg 2;whnf
 have hinf8:(Tryz.prog.info? 145).map (·.size)=some 8:=by kernel_rfl
 have hinf64:(Tryz.prog.info? 147).map (·.size)=some 64:=by kernel_rfl
 have hinf32:(Tryz.prog.info? 86).map (·.size)=some 32:=by kernel_rfl
 have HX:=Nm.hide hexit;clear hexit;have hbb:=fun W=>bigBytesN_any (8*l.length) 8 W (by omega) (by decide) (by decide)
 have i0:(0:Int)<=(l.length:Int):=by omega
 have i1:(l.length:Int)<=3000000:=by omega
 have q0:IntKind.i64.wrap (8*(l.length:Int))=((8*l.length:Nat):Int):=by rw [Go.wrap_small _ (by omega) (by omega)];omega
 obtain⟨E,hE⟩:∃ E,8*l.length=E:=⟨_,rfl⟩;rw [hE] at q0 hbb hA;clear hE;have hTr:True:=trivial;go_wp2;refine wp_region_noPanic ?_;refine wp_region_held_drew (S:=fun _=>True) (by kernel_rfl) trivial (fun hHeld=>?_);refine wpAnyH_take (i:=0) (v:=?_) rfl (by kernel_rfl) (by kernel_rfl) (by kernel_rfl) (fun _ _ _ h=>h) (Or.inl ⟨by rfl,?_⟩) (by assumption) ?_;rotate_left 1
 ·(intro w hSw;go_simp;try (with_reducible rfl))
 refine wpAnyH_take (i:=1) (v:=?_) rfl (by kernel_rfl) (by kernel_rfl) (by kernel_rfl) (fun _ _ _ h=>h) (Or.inl ⟨by rfl,?_⟩) (by assumption) ?_;rotate_left 1
 ·(intro w hSw;go_simp;try (with_reducible rfl))
 refine wpAnyH_take (i:=2) (v:=?_) rfl (by kernel_rfl) (by kernel_rfl) (by kernel_rfl) (fun _ _ _ h=>h) (Or.inl ⟨by rfl,?_⟩) (by assumption) ?_;rotate_left 1
 ·(intro w hSw;go_simp;try (with_reducible rfl))
 refine wpAnyH_take (i:=3) (v:=?_) rfl (by kernel_rfl) (by kernel_rfl) (by kernel_rfl) (fun _ _ _ h=>h) (Or.inl ⟨by rfl,?_⟩) (by assumption) ?_;rotate_left 1
 ·(intro w hSw;go_simp;try (with_reducible rfl))
 refine wpAnyH_ready (rs:=[4]) (by kernel_rfl) (by simp) ?_;refine AllReadyH.cons rfl (fun K hK'=>?_) AllReadyH.nil;go_simp;refine(hbb _).mono ?_;rintro e w3 ⟨rfl,hb3⟩;have hbd:Below w.heap.size w w3:=(Below.refl _ w).drew.trans hb3;have k23:=blk_below k2 hbd;have k33:=blk_below k3 hbd;have k63:=blk_below k6 hbd;have hl2:=blk_lt k2;have hB3:Below p2 w0 w3:=hbel.trans (hbd.mono (Nat.le_of_lt hl2));have hs3:=hbd.size;clear hbd hb3 k2 k3 k6 hbel;go_wp2_with fail
 refine hK'.out _ _ trivial (fun _=>?_);clear hK' K;refine wpAnyH_ready (rs:=[5]) (by kernel_rfl) (by simp) ?_;refine AllReadyH.cons rfl (fun K hK'=>?_) AllReadyH.nil;refine step_copy_str rfl (.tmp 33) (.tmp 37) 26 9 rfl 5 Tryz.underlying26 (by kernel_rfl) p6 56 8 8 (by go_simp) ⟨(bigL E 8).toArray⟩ (by go_simp) _ _ k63 (by show 8<=8;decide) (by rw [hsA];show 56+8<=64;decide) ?_;intro w4 k64 o4;rw [hA] at k64;have k24:=o4.blk k23 (by omega);have k34:=o4.blk k33 (by omega);have hB4:=o4.below hB3 (by omega) (by omega);have hs4:=o4.size;refine hK'.out _ _ trivial (fun _=>?_);clear hK' K o4 k23 k33 k63 hB3;refine wpAnyH_done (by kernel_rfl) ?_ _;refine NoPanic.normal ?_;have hgo:∀ (K:Act->World->Prop) (Q:Exit->Act->World->Prop) a w,K a w->Exit.then K Q .normal a w:=fun _ _ _ _ h=>h
 refine hgo _ _ _ _ ?_;refine hk0 _ _ ?_;clear hk0 hgo
 conv=>arg 2;whnf
 have hKw:∀ W,Below p2 w0 W->KAt W 1:=fun W hW=>hK.below (by rw [<- hB0.out];exact hW)
 have htk:=fun W hW=>stTake_any h t W hW
 generalize addSv h (roundsW (fun i=>wordAt t (4*i)) h 64)=hh at*;have hinfB:(Tryz.prog.info? 86).map (·.size)=some (byA (outL hh)).size:=by rw [byA_size];exact hinf32
 go_wp2_with (first
  |(refine wpList_load_blk (.tmp 3) 145 rfl rfl p3 _ _ k34 rfl Tryz.underlying145 rfl (by rw [hvA_size];exact hinf8) ?_)
  |(refine wpList_load_blk (.tmp 6) 147 rfl rfl p6 _ _ k64 rfl Tryz.underlying147 rfl (by rw [blA_size];exact hinf64) ?_)
  |(go_at_call 98;refine(htk _ (hKw _ hB4)).mono ?_;rintro e w5 ⟨rfl,hb5⟩;have k25:=blk_below k24 hb5;have hB5:=hB4.trans (hb5.mono (Nat.le_of_lt (blk_lt k24))))
  |(go_at_call 99;refine(sum_any hh _).mono ?_;rintro e w6 ⟨rfl,hb6⟩;have k26:=blk_below k25 hb6;have hB6:=hB5.trans (hb6.mono (Nat.le_of_lt (blk_lt k25))))
  |(refine wpList_store_blk (.tmp 2) (.tmp 42) 86 rfl rfl rfl p2 _ _ k26 rfl rfl hinfB (by rw [byA_size,outL_len];simp) (byA_one _) ?_;intro w7 k7 o7;have hB7:=o7.below hB6 (Nat.le_refl _) (Nat.le_of_lt (blk_lt k26))))
 exact HX.out _ _ _ _ _ _ _ _ _ _ _ ⟨k7,hB7⟩
end Go.Proofs.YtcihkbojmbfmmaaGreatDoor
