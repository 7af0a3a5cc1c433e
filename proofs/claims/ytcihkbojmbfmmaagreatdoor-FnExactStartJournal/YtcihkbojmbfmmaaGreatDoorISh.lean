import Derived.Test.YtcihkbojmbfmmaaGreatDoorJITk
namespace Go.Proofs.YtcihkbojmbfmmaaGreatDoor
open Go.RowKit
set_option linter.unusedVariables false
def slLenI:Value->Nat
 |.slice _ k _=>k
 |_=>0
theorem rep64:(Array.replicate 64 (Value.int .u8 0)).toList=List.replicate 64 (.int .u8 0):=by simp
theorem bys_one(l:List UInt8):∀ v∈Nm.bys l,v.oneCell'=true:=by
 intro v hv;simp only [Nm.bys,List.mem_map] at hv;obtain⟨c,_,rfl⟩:=hv;rfl
theorem full_block(l:List UInt8){n:Nat}(h:64*n+64<=l.length):(splice (List.replicate 64 (Value.int .u8 0)) 0 (Nm.bys ((l.drop (64*n)).take 64))).toArray=blA ((padL l).drop (64*n)):=by
 apply bl_ext
 ·simp [splice,Nm.bys];omega
 ·intro j hj;rw [bW_drop,pad_low l (by omega)];have hx:l[64*n+j]? =some (l[64*n+j]'(by omega)):=List.getElem?_eq_getElem (by omega)
  have e:(splice (List.replicate 64 (Value.int .u8 0)) 0 (Nm.bys ((l.drop (64*n)).take 64)))[j]? =(Nm.bys ((l.drop (64*n)).take 64))[j]? :=by
   simp only [splice,List.take_zero,List.nil_append];rw [List.getElem?_append_left (by simp [Nm.bys];omega)]
  rw [e];simp only [Nm.bys,List.getElem?_map,List.getElem?_take,hj,if_true,List.getElem?_drop,hx,Option.map_some,bW,b8_nat,Option.getD_some]
theorem sp_at{l:List UInt8}{n:Nat}(h1:64*n<=l.length)(h2:l.length<64*n+64):(splice (Array.replicate 64 (Value.int .u8 0)).toList 0 (Nm.bys (l.drop (64*n)))).toArray[l.length-64*n]? =some (.int .u8 0):=by
 rw [List.getElem?_toArray];simp only [splice,List.take_zero,List.nil_append];rw [List.getElem?_append_right (by simp [Nm.bys]),List.getElem?_drop,Array.getElem?_toList,Array.getElem?_replicate,if_pos (by simp [Nm.bys];omega)]
set_option maxRecDepth 100000 in
set_option maxHeartbeats 8000000 in
theorem implSha256_any(v:Value)(l:List UInt8)(w:World)(h:BySl w v l)(hl:l.length<=3000000)(hF:∃ t fr,w.heap[0]? =some (.cells (hvA H0) t fr))(hK:KAt w 1):
 Calls Tryz.prog 62 #[v] w fun e w'=>e=.returned (.agg (byA (shaL l)))∧Below w.heap.size w w':=by
 have hz32:∀ W,(zeroValue 86).run Tryz.prog W=.ok (.agg (Array.replicate 32 (.int .u8 0))) W:=by
  have:=zero_of_info (P:=Tryz.prog) (t:=86) (v:=.agg (Array.replicate 32 (.int .u8 0))) (n:=32) (by kernel_rfl);exact this.1
 have hz64:∀ W,(zeroValue 147).run Tryz.prog W=.ok (.agg (Array.replicate 64 (.int .u8 0))) W:=by
  have:=zero_of_info (P:=Tryz.prog) (t:=147) (v:=.agg (Array.replicate 64 (.int .u8 0))) (n:=64) (by kernel_rfl);exact this.1
 have hinf8:(Tryz.prog.info? 145).map (·.size)=some 8:=by kernel_rfl
 have hinf64:(Tryz.prog.info? 147).map (·.size)=some 64:=by kernel_rfl
 have hinf32:(Tryz.prog.info? 86).map (·.size)=some 32:=by kernel_rfl
 obtain⟨tF,frF,hF⟩:=hF;have hFl:0<w.heap.size:=(Array.getElem?_eq_some_iff.1 hF).1;have hF1:∀ Z:Obj,(w.alloc Z).heap[0]? =some (.cells (hvA H0) tF frF):=fun Z=>(Below.heap_alloc w Z _ hFl).trans hF
 have kP:∀ Z Y:Array Value,Blk ((w.alloc (.cells Z 86)).alloc (.cells Y 145)) (w.heap.size+1) Y 145:=by
  intro Z Y;have h:=blk_new (w.alloc (.cells Z 86)) Y 145;rw [World.size_alloc] at h;exact h
 have kR:∀ Z Y:Array Value,Blk ((w.alloc (.cells Z 86)).alloc (.cells Y 145)) w.heap.size Z 86:=fun Z Y=>blk_alloc (blk_new _ _ _) _
 have hBz:∀ Z Y:Array Value,Below w.heap.size w ((w.alloc (.cells Z 86)).alloc (.cells Y 145)):=by
  intro Z Y;have h1:=(Below.refl w.heap.size w).alloc (Nat.le_refl _) (.cells Z 86);exact h1.alloc h1.size _
 obtain⟨_,a,cap,rfl,hcap,hmx,hc⟩:=id h;go_enter Tryz.func62,Tryz.ntmps62
 go_wp2_with (first
  |(refine wpList_load_glob (.global 0) 145 rfl rfl 0 _ _ _ _ _ (hF1 _) rfl Tryz.underlying145 (by rw [hvA_size];exact hinf8) ?_)
  |(refine wpList_store_blk (.tmp 3) (.tmp 7) 145 rfl rfl rfl (w.heap.size+1) _ _ (kP _ _) rfl rfl (by rw [hvA_size];exact hinf8) (by rw [hvA_size];rfl) (hvA_one _) ?_;intro w1 k3 o3;have k0:=o3.blk (kR _ _) (by omega);have hB1:=o3.below (hBz _ _) (by omega) (hBz _ _).size;clear o3))
 have hs1:=hB1.size;have hlt3:=blk_lt k3;clear hc kP kR hBz hF1 hF hcap hmx
 go_loopw [4] (fun u wr=>∃ n:Nat,64*n<=l.length∧BySl w u (l.drop (64*n))∧Blk wr (w.heap.size+1) (hvA (hashW (padL l) n)) 145∧Blk wr w.heap.size (Array.replicate 32 (.int .u8 0)) 86∧Below w.heap.size w wr) (fun u _=>slLenI u)
 case atStart=>exact⟨0,by omega,by simpa using h,k3,k0,hB1⟩
 case round=>
  clear k3 k0 hB1 hlt3 hs1;obtain⟨n,hn,hu,kk,k0,hbel⟩:=hrel;obtain⟨hul,ra,rc,rfl,hrc,hrm,hrd⟩:=hu;have hlen:(l.drop (64*n)).length=l.length-64*n:=by simp
  rw [hlen] at hul hrc hrd ⊢;obtain⟨R,hR⟩:∃ R,l.length-64*n=R:=⟨_,rfl⟩;rw [hR] at hul hrc hrd ⊢;have HR:=Nm.hide hR;clear hR hlen
  by_cases hge:64<=R
  ·have i1:(64:Int)<=(R:Int):=by omega
   obtain⟨b,off,rfl,hcell⟩:=hrd (by omega)
   have hb:b<w.heap.size:=by
    have hx:(l.drop (64*n))[0]? =some ((l.drop (64*n))[0]'(by simp;have:=HR.out;omega)):=List.getElem?_eq_getElem _;exact World.block_lt_of_cell? w _ (hcell 0 (.int .u8 (((l.drop (64*n))[0]'(by simp;have:=HR.out;omega)).toNat:Int)) (by simp only [Nm.bys,List.getElem?_map,hx,Option.map_some]))
   have hlw:=blk_lt kk;have knew:∀ W:World,Blk (W.alloc (.cells (Array.replicate 64 (.int .u8 0)) 147)) W.heap.size (Array.replicate 64 (.int .u8 0)) 147:=fun W=>blk_new _ _ _
   have hfb:=full_block l (n:=n) (by have:=HR.out;omega);rw [<- rep64] at hfb;have hcs:(Nm.bys ((l.drop (64*n)).take 64)).length=64:=by simp [Nm.bys];have:=HR.out;omega
   have hBa:=hbel.alloc hbel.size (.cells (Array.replicate 64 (.int .u8 0)) 147)
   have hsrcF:∀ j x,(Nm.bys ((l.drop (64*n)).take 64))[j]? =some x->(wr.alloc (.cells (Array.replicate 64 (.int .u8 0)) 147)).cell? ((⟨b,off,none⟩:Addr).add j)=some x:=by
    intro j x hx;have hadd:(⟨b,off,none⟩:Addr).add j=⟨b,off+j,none⟩:=by unfold Addr.add;split<;>simp_all
    rw [hadd];refine(hBa.cell (p:=⟨b,off+j,none⟩) hb).trans (hcell j x ?_)
    have hj:j<64:=by
     have:=(List.getElem?_eq_some_iff.1 hx).1;omega
    simp only [Nm.bys,List.getElem?_map,List.getElem?_take,hj,if_true] at hx ⊢;exact hx
   have hcl2:0<R-64->∃ b' off',(if rc=64 then some (⟨b,off,none⟩:Addr) else some ⟨b,off+64,none⟩)=some ⟨b',off',none⟩∧∀ (i:Nat) (x:Value),(Nm.bys (l.drop (64*(n+1))))[i]? =some x->w.cell? ⟨b',off'+i,none⟩=some x:=by
    intro h0;refine⟨b,off+64,by rw [if_neg (by omega)],fun i x hx=>?_⟩;rw [Nat.add_assoc];refine hcell (64+i) x ?_;simp only [Nm.bys,List.getElem?_map,List.getElem?_drop] at hx ⊢;rw [show 64*n+(64+i)=64*(n+1)+i by omega];exact hx
   have hKr:=hK.below hbel;have htk:=fun W (hW:KAt W 1)=>stTake_any (hashW (padL l) n) ((padL l).drop (64*n)) W hW
   simp only [hash_step] at htk;clear hcell;have hnF:(Nm.bys ((l.drop (64*n)).take 64)).length=Nat.min R 64:=by rw [hcs];exact(Nat.min_eq_right hge).symm
   have hsF:0<(Nm.bys ((l.drop (64*n)).take 64)).length->∃ ad,(some (⟨b,off,none⟩:Addr))=some ad∧∀ j x,(Nm.bys ((l.drop (64*n)).take 64))[j]? =some x->(wr.alloc (.cells (Array.replicate 64 (.int .u8 0)) 147)).cell? (ad.add j)=some x:=fun _=>⟨_,rfl,hsrcF⟩
   have hfF:0+(Nm.bys ((l.drop (64*n)).take 64)).length<=(Array.replicate 64 (Value.int .u8 0)).size:=by rw [hcs];simp
   have hcont:∀ (F:World->Prop),(∀ w2,Blk w2 wr.heap.size (blA ((padL l).drop (64*n))) 147->Blk w2 (w.heap.size+1) (hvA (hashW (padL l) n)) 145->Blk w2 w.heap.size (Array.replicate 32 (.int .u8 0)) 86->Below w.heap.size w w2->F w2)->
    ∀ w2,Blk w2 wr.heap.size (splice (Array.replicate 64 (Value.int .u8 0)).toList 0 (Nm.bys ((l.drop (64*n)).take 64))).toArray 147->Only wr.heap.size (wr.alloc (.cells (Array.replicate 64 (.int .u8 0)) 147)) w2->F w2:=by
    intro F hF2 w2 k2 o2;rw [hfb] at k2;exact hF2 w2 k2 (o2.blk (blk_alloc kk _) (Nat.ne_of_lt hlw)) (o2.blk (blk_alloc k0 _) (by omega)) (o2.below hBa hbel.size (by rw [World.size_alloc];have:=hbel.size;omega))
   go_wp2_with (first
    |(refine wpList_copy_blk rfl (.tmp 13) (.tmp 14) 26 26 rfl 5 Tryz.underlying26 (by kernel_rfl) wr.heap.size 0 64 64 (some ⟨b,off,none⟩) R rc rfl rfl _ _ (knew wr) (Nm.bys ((l.drop (64*n)).take 64)) hnF hsF hfF (bys_one _) ?_;rw [hcs];refine hcont _ ?_;intro w2 k2 kk2 k02 hB2)
    |(refine wpList_load_blk (.tmp 3) 145 rfl rfl (w.heap.size+1) _ _ kk2 rfl Tryz.underlying145 rfl (by rw [hvA_size];exact hinf8) ?_)
    |(refine wpList_load_blk (.tmp 5) 147 rfl rfl wr.heap.size _ _ k2 rfl Tryz.underlying147 rfl (by rw [blA_size];exact hinf64) ?_)
    |(go_at_call 98;refine(htk _ (hK.below hB2)).mono ?_;rintro e w3 ⟨rfl,hb3⟩;have kk3:=blk_below kk2 hb3;have k03:=blk_below k02 hb3;have hB3:=Nm.below_two hB2 hb3)
    |(refine wpList_store_blk (.tmp 3) (.tmp 19) 145 rfl rfl rfl (w.heap.size+1) _ _ kk3 rfl rfl (by rw [hvA_size];exact hinf8) (by rw [hvA_size,hvA_size]) (hvA_one _) ?_;intro w4 k4 o4;have k04:=o4.blk k03 (by omega);have hB4:=o4.below hB3 (by omega) hB3.size))
   have hd2:(l.drop (64*(n+1))).length=R-64:=by simp;have:=HR.out;omega
   go_roundw
   case rel=>
    refine⟨n+1,by have:=HR.out;omega,⟨by simp [Nm.bys],_,rc-64,by rw [hd2],by rw [hd2];omega,by omega,?_⟩,k4,k04,hB4⟩;rw [hd2];exact hcl2
   case measure=>simp only [slLenI];omega
  ·have hRlt:R<64:=by omega
   have i1:(R:Int)<64:=by omega
   have i0:(0:Int)<=(R:Int):=by omega
   have i1d:decide ((64:Int)<=(R:Int))=false:=by simp;omega
   have i1n:¬(64:Int)<=(R:Int):=by omega
   have hLn:l.length=64*n+R:=by have:=HR.out;omega
   have HLn:=Nm.hide hLn;have hlw:=blk_lt kk;have hBa:=hbel.alloc hbel.size (.cells (Array.replicate 64 (.int .u8 0)) 147);have knew:Blk (wr.alloc (.cells (Array.replicate 64 (.int .u8 0)) 147)) wr.heap.size (Array.replicate 64 (.int .u8 0)) 147:=blk_new _ _ _;have hcs:(Nm.bys (l.drop (64*n))).length=R:=by simp [Nm.bys];omega
   have hnF:(Nm.bys (l.drop (64*n))).length=Nat.min R 64:=by rw [hcs];exact(Nat.min_eq_left (by omega)).symm
   have hfF:0+(Nm.bys (l.drop (64*n))).length<=(Array.replicate 64 (Value.int .u8 0)).size:=by rw [hcs];simp;omega
   have hsF:0<(Nm.bys (l.drop (64*n))).length->∃ ad,ra=some ad∧∀ j x,(Nm.bys (l.drop (64*n)))[j]? =some x->(wr.alloc (.cells (Array.replicate 64 (.int .u8 0)) 147)).cell? (ad.add j)=some x:=by
    intro h0;rw [hcs] at h0;obtain⟨b,off,e,hcell⟩:=hrd h0;refine⟨⟨b,off,none⟩,e,fun j x hx=>?_⟩;have hadd:(⟨b,off,none⟩:Addr).add j=⟨b,off+j,none⟩:=by unfold Addr.add;split<;>simp_all
    have hc1:=hcell j x hx;rw [hadd];exact(hBa.cell (p:=⟨b,off+j,none⟩) (World.block_lt_of_cell? w _ hc1)).trans hc1
   have hcont:∀ (F:World->Prop),(∀ w2,w2.cell? ⟨wr.heap.size,R,none⟩=some (.int .u8 0)->w2.frozen? ⟨wr.heap.size,R,none⟩=false->Blk (w2.setCell ⟨wr.heap.size,R,none⟩ (.int .u8 128)) wr.heap.size (lastA l n) 147->Blk (w2.setCell ⟨wr.heap.size,R,none⟩ (.int .u8 128)) (w.heap.size+1) (hvA (hashW (padL l) n)) 145->
    Blk (w2.setCell ⟨wr.heap.size,R,none⟩ (.int .u8 128)) w.heap.size (Array.replicate 32 (.int .u8 0)) 86->Below w.heap.size w (w2.setCell ⟨wr.heap.size,R,none⟩ (.int .u8 128))->F w2)->
    ∀ w2,Blk w2 wr.heap.size (splice (Array.replicate 64 (Value.int .u8 0)).toList 0 (Nm.bys (l.drop (64*n)))).toArray 147->Only wr.heap.size (wr.alloc (.cells (Array.replicate 64 (.int .u8 0)) 147)) w2->F w2:=by
    intro F hF2 w2 k2 o2;have hsp:=sp_at (l:=l) (n:=n) (by omega) (by omega);have hk:=blk_set k2 R (.int .u8 128);have eR:l.length-64*n=R:=by omega
    rw [eR] at hsp;refine hF2 w2 ((blk_cell k2 R).trans hsp) (blk_frozen k2 R) ?_ (blk_far (o2.blk (blk_alloc kk _) (Nat.ne_of_lt hlw)) (Nat.ne_of_lt hlw)) (blk_far (o2.blk (blk_alloc k0 _) (by omega)) (by omega)) ((o2.below hBa hbel.size (by rw [World.size_alloc];have:=hbel.size;omega)).setCell hbel.size _);rw [lastA,eR];exact hk
   have hp6:=hbel.size;clear hrd kk k0 hBa
   by_cases h56:56<=R
   ·have HB:=Nm.hide (blocks_long (l:=l) (n:=n) (by omega) (by omega));have HL:=Nm.hide (last_long (l:=l) (n:=n) (by omega) (by omega) (by omega));have HN:=Nm.hide (last_next (l:=l) (n:=n) (by omega) (by omega));clear hLn;have htk:=fun W (hW:KAt W 1)=>stTake_any (hashW (padL l) n) ((padL l).drop (64*n)) W hW
    simp only [hash_step] at htk;rw [HL.out] at hcont;have i9:(64:Int)<(R:Int)+1+8:=by omega
    have i9b:(64:Int)<(R:Int)+9:=by omega
    have hinf64r:(Tryz.prog.info? 147).map (·.size)=some (Array.replicate 64 (Value.int .u8 0)).size:=by rw [Array.size_replicate];exact hinf64
    go_wp2_with (first
     |(refine wpList_copy_blk rfl (.tmp 20) (.tmp 21) 26 26 rfl 5 Tryz.underlying26 (by kernel_rfl) wr.heap.size 0 64 64 ra R rc rfl rfl _ _ knew (Nm.bys (l.drop (64*n))) hnF hsF hfF (bys_one _) ?_;rw [hcs];refine hcont _ ?_;clear hcont;intro w2 c2 f2 k6 k3 k2 hB2)
     |(refine wpList_load_blk (.tmp 3) 145 rfl rfl (w.heap.size+1) _ _ k3 rfl Tryz.underlying145 rfl (by rw [hvA_size];exact hinf8) ?_)
     |(refine wpList_load_blk (.tmp 6) 147 rfl rfl wr.heap.size _ _ k6 rfl Tryz.underlying147 rfl (by rw [blA_size];exact hinf64) ?_)
     |(go_at_call 98;refine(htk _ (hK.below hB2)).mono ?_;rintro e w3 ⟨rfl,hb3⟩;have k33:=blk_below k3 hb3;have k23:=blk_below k2 hb3;have k63:=blk_below k6 hb3;have hB3:=Nm.below_two hB2 hb3)
     |(refine wpList_store_blk (.tmp 3) (.tmp 31) 145 rfl rfl rfl (w.heap.size+1) _ _ k33 rfl rfl (by rw [hvA_size];exact hinf8) (by rw [hvA_size,hvA_size]) (hvA_one _) ?_;intro w4 k34 o4;have k24:=o4.blk k23 (by omega);have k64:=o4.blk k63 (by omega);have hB4:=o4.below hB3 (by omega) hB3.size;clear o4)
     |(refine wpList_store_blk (.tmp 6) (.tmp 32) 147 rfl rfl rfl wr.heap.size _ _ k64 rfl rfl hinf64r (by rw [blA_size];simp) (all_rep8 64) ?_;intro w5 k65 o5;have k25:=o5.blk k24 (by omega);have k35:=o5.blk k34 (by omega);have hB5:=o5.below hB4 hp6 hB4.size;clear o5))
    refine sha_end _ w.heap.size (w.heap.size+1) wr.heap.size (by omega) hlw (hashW (padL l) (n+1)) _ l _ a cap hl HN.out (by simp) _ (by assumption) w _ hK rfl hB5 k25 k35 k65 _ _ _ _ _ _ _ _ _ _ _ _ _ _ _ _ _ _ _ _ _ _ _ _ _ _ _ _ _ _ _ _ _ _ _ _ _ _ _ ?_;intro u33 u34 u35 u36 u37 u38 u39 u40 u41 u42 w9
    rintro⟨k9,hB9⟩
    rw [hash_step,<- HB.out] at k9;exact bodyPost_ret (v:=.agg _) (run_results_cell Tryz.results62 rfl k9 Tryz.underlying86 (by rw [byA_size,HB.out];exact hinf32)) rfl ⟨rfl,hB9⟩
   ·have HB:=Nm.hide (blocks_short (l:=l) (n:=n) (by omega) (by omega));have HN:=Nm.hide (last_short (l:=l) (n:=n) (by omega) (by omega));have HSz:=Nm.hide (lastA_size (l:=l) (n:=n) (by omega));clear hLn;have i9:¬(64:Int)<(R:Int)+1+8:=by omega
    have i9b:¬(64:Int)<(R:Int)+9:=by omega
    go_wp2_with (first
     |(refine wpList_copy_blk rfl (.tmp 20) (.tmp 21) 26 26 rfl 5 Tryz.underlying26 (by kernel_rfl) wr.heap.size 0 64 64 ra R rc rfl rfl _ _ knew (Nm.bys (l.drop (64*n))) hnF hsF hfF (bys_one _) ?_;rw [hcs];refine hcont _ ?_;clear hcont;intro w2 c2 f2 k6 k3 k2 hB2))
    refine sha_end _ w.heap.size (w.heap.size+1) wr.heap.size (by omega) hlw (hashW (padL l) n) _ l _ a cap hl HN.out HSz.out _ (by assumption) w _ hK rfl hB2 k2 k3 k6 _ _ _ _ _ _ _ _ _ _ _ _ _ _ _ _ _ _ _ _ _ _ _ _ _ _ _ _ _ _ _ _ _ _ _ _ _ _ _ ?_;intro u33 u34 u35 u36 u37 u38 u39 u40 u41 u42 w9
    rintro⟨k9,hB9⟩
    rw [hash_step,<- HB.out] at k9;exact bodyPost_ret (v:=.agg _) (run_results_cell Tryz.results62 rfl k9 Tryz.underlying86 (by rw [byA_size,HB.out];exact hinf32)) rfl ⟨rfl,hB9⟩
end Go.Proofs.YtcihkbojmbfmmaaGreatDoor
