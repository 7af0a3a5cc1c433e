import Derived.Test.YtcodajnebegdiaaGreatCzS
namespace Go.Proofs.YtcodajnebegdiaaGreat
open Go.RowKit
set_option linter.unusedVariables false
theorem zr_len(ps:List Zp):(zoneRecs ps).length<=500:=by
 unfold zoneRecs;split
 ·simp
 ·rw [recsAll_len];omega
theorem bzO_zero{list:List Rr}{o:ByteArray}(h:(bldE list o).1=0):bzO list o=o∧bzZ list o=bldZ list:=by
 rw [bzO,bzZ,if_pos h,if_pos h];exact⟨rfl,rfl⟩
set_option maxRecDepth 100000 in
set_option maxHeartbeats 3200000 in
theorem specCheckZone_any(o:ByteArray)(v:Value)(ps:List Zp)(w:World)(h:ZRow w v ps)(hs:zsum ps<=1048576)(hl:ps.length<=1048576)(hf:∀ p∈ps,p.1.own.size<=1048576∧∀ x∈p.1.da,x.size<=1048576)(ha:o.size<=maxLen):
 Calls Tryz.prog 20 #[.agg #[.string o,v]] w fun e w'=>e=.returned (.int .i64 (if zOK ps o=true then 0 else 32))∧Below w.heap.size w w':=by
 have k0:=blk_new w #[.string o,v] 32;have b0:=(Below.refl w.heap.size w).alloc (Nat.le_refl _) (.cells #[.string o,v] 32);have hct:=l06Count_any o v ps _ (h.below b0) hs hl;have hzr:=fun W (hW:Below w.heap.size w W)=>specZoneRecords_any o v ps W (h.below hW) hs hl
 have hrl:=zr_len ps;have hrf:=recs_fit hf;have hbz:=fun V W hV=>(specBuildZone_any V (zoneRecs ps) o W hV (by omega) ha (fun r hr=>by have:=(hrf r hr).1;unfold maxLen;omega)).mono (fun _ _ hp=>bz_uni hp)
 obtain⟨va,vc,rfl⟩:∃ va vc,v=.slice va ps.length vc:=by obtain⟨⟨_,a,c,e,_⟩,_⟩:=h;exact⟨a,c,e⟩
 have HH:=Nm.hide (And.intro h (And.intro hzr hbz));obtain⟨CZ,hCZ⟩:∃ CZ:Int,CZ=if zOK ps o=true then 0 else 32:=⟨_,rfl⟩
 rw [<- hCZ];have HCZ:=Nm.hide hCZ;have r0:=fun i=>blk_cell k0 i
 unfold maxLen at ha;clear h hf hs hzr hbz hrf hCZ hrl
 by_cases hbig:500<ps.length
 ·have hC:CZ=32:=by rw [HCZ.out,zOK_big (.inl hbig)];rfl
  have i1:(500:Int)<(ps.length:Int):=by omega
  subst hC;clear HCZ hct;go_enter Tryz.func20,Tryz.ntmps20;go_wp2;go_ret;exact⟨rfl,b0⟩
 ·have i1:¬(500:Int)<(ps.length:Int):=by omega
  by_cases hbig2:500<dsum ps
  ·have hC:CZ=32:=by rw [HCZ.out,zOK_big (.inr hbig2)];rfl
   have i2:(500:Int)<(dsum ps:Int):=by omega
   subst hC;clear HCZ;go_enter Tryz.func20,Tryz.ntmps20;go_wp2_with (go_at_call 35;refine hct.mono ?_;rintro e w1 ⟨rfl,b1⟩)
   go_ret;exact⟨rfl,Nm.below_two b0 b1⟩
  ·have i2:¬(500:Int)<(dsum ps:Int):=by omega
   go_enter Tryz.func20,Tryz.ntmps20;go_wp2_with (go_at_call 35;refine hct.mono ?_;rintro e w1 ⟨rfl,b1⟩)
   have k1:=blk_below k0 b1;have bw1:=Nm.below_two b0 b1
   have kS:Hid (∀ X,Below w1.heap.size w1 X->X.cell? ⟨w.heap.size,0,none⟩=some (.string o)∧X.cell? ⟨w.heap.size,1,none⟩=some (.slice va ps.length vc)):=by
    intro X hX;have kx:=blk_below k1 hX;exact⟨(blk_cell kx 0).trans rfl,(blk_cell kx 1).trans rfl⟩
   have bd:=(Below.refl w1.heap.size w1).drew;clear hct r0 k0 b0 b1 i1 i2 hbig hbig2;go_cut [3,4,5] from 15 to 23 (fun p c i wx=>∃ (g:Nat) (a:Option Addr) (cc:Nat) (qs:List Zp),p=.pointer (some ⟨g,0,none⟩)∧c=.int .i64 (bldE (zoneRecs ps) o).1∧Blk wx g #[.string (bzO (zoneRecs ps) o),.slice a qs.length cc] 32∧qs.map (·.1)=bzZ (zoneRecs ps) o∧ZRow wx (.slice a qs.length cc) qs∧Below w1.heap.size w1 wx)
   case first=>
    refine wp_region_last (fun X=>X.cell? ⟨w.heap.size,0,none⟩=some (.string o)∧X.cell? ⟨w.heap.size,1,none⟩=some (.slice va ps.length vc)) 1000 (by kernel_rfl) (kS.out _ bd) (fun hHeld=>?_);refine tkL (i:=0) (v:=?_) rfl ?_ ?_;rotate_left 1
    ·(intro W hSW;obtain⟨z0,z1⟩:=hSW;go_simp;try (with_reducible rfl))
    refine tkL (i:=2) (v:=?_) rfl ?_ ?_;rotate_left 1
    ·(intro W hSW;obtain⟨z0,z1⟩:=hSW;go_simp;try (with_reducible rfl))
    refine tkL (i:=3) (v:=?_) rfl ?_ ?_;rotate_left 1
    ·(intro W hSW;obtain⟨z0,z1⟩:=hSW;go_simp;try (with_reducible rfl))
    generalize bzO (zoneRecs ps) o=OO at*;generalize bzZ (zoneRecs ps) o=ZZ at*;generalize (bldE (zoneRecs ps) o).1=BC at*;generalize bzI (zoneRecs ps) o=BI at*;refine wpAnyL_two (i:=1) (j:=9) (by kernel_rfl) rfl rfl (fun K hK=>?_) (fun K hK=>?_)
    ·go_simp;refine(HH.out.2.1 _ (Nm.below_two bw1 bd)).mono ?_;rintro e w2 ⟨u,rfl,hown,b2⟩;obtain⟨ua,uc,rfl⟩:=own_sl hown;have b2':=Nm.below_two bd b2;go_wp2_with fail
     refine hK.out _ _ (kS.out _ b2') (fun hHeld=>?_);clear hK K;refine wpAnyL_two (i:=4) (j:=9) (by kernel_rfl) rfl rfl (fun K hK=>?_) (fun K hK=>?_)
     ·go_simp;refine(HH.out.2.2 _ _ (CRow.of_owns hown)).mono ?_;rintro e w3 ⟨a,cc,qs,rfl,hqs,hz,b3⟩;have b3':=Nm.below_two b2' b3;go_wp2_with fail
      refine hK.out _ _ (kS.out _ b3') (fun hHeld=>?_);clear hK K;refine tkL (i:=5) (v:=?_) rfl ?_ ?_;rotate_left 1
      ·(intro W hSW;obtain⟨z0,z1⟩:=hSW;go_simp;try (with_reducible rfl))
      refine tkL (i:=6) (v:=?_) rfl ?_ ?_;rotate_left 1
      ·(intro W hSW;obtain⟨z0,z1⟩:=hSW;go_simp;try (with_reducible rfl))
      refine tkL (i:=7) (v:=?_) rfl ?_ ?_;rotate_left 1
      ·(intro W hSW;obtain⟨z0,z1⟩:=hSW;go_simp;try (with_reducible rfl))
      refine tkL (i:=8) (v:=?_) rfl ?_ ?_;rotate_left 1
      ·(intro W hSW;obtain⟨z0,z1⟩:=hSW;go_simp;try (with_reducible rfl))
      refine wpAnyL_one (i:=9) (by kernel_rfl) rfl (fun K hK=>?_);go_simp;have bz:=(Below.refl w3.heap.size w3).alloc (Nat.le_refl _) (.cells #[.string ⟨#[]⟩,.slice none 0 0] 32);have kz:=blk_new w3 #[.string ⟨#[]⟩,.slice none 0 0] 32;have rz:=fun i=>blk_cell kz i
      have fz:=fun i=>blk_frozen kz i
      refine hK.out _ _ (kS.out _ (Nm.below_two b3' bz)) (fun hHeld=>?_);clear hK K;refine wpAnyL_one (i:=10) (by kernel_rfl) rfl (fun K hK=>?_);go_simp;have bn:=(Below.refl w3.heap.size w3).alloc (Nat.le_refl _) (.cells #[.string OO,.slice a qs.length cc] 32);have kn:=blk_new w3 #[.string OO,.slice a qs.length cc] 32;have en:=Nm.below_two b3' bn;refine hK.out _ _ (kS.out _ en) (fun hHeld=>?_);clear hK K;refine wpAnyL_one (i:=11) (by kernel_rfl) rfl (fun K hK=>?_);go_simp;refine hK.out _ _ (kS.out _ en) (fun hHeld=>?_);clear hK K;refine wpAnyL_one (i:=12) (by kernel_rfl) rfl (fun K hK=>?_);go_simp;refine hK.out _ _ (kS.out _ en) (fun hHeld=>?_);clear hK K;refine wpAnyL_done (by kernel_rfl) ?_;go_wp2_with fail
      go_meet
      case rel=>exact⟨w3.heap.size,a,cc,qs,rfl,rfl,kn,hqs,hz.zrow.below bn,en⟩
     ·go_simp;have bz:=(Below.refl w2.heap.size w2).alloc (Nat.le_refl _) (.cells #[.string ⟨#[]⟩,.slice none 0 0] 32);have kz:=blk_new w2 #[.string ⟨#[]⟩,.slice none 0 0] 32;have b2z:=Nm.below_two b2' bz;have hownz:=own_below hown bz;have HG:Hid (w1.heap.size<=w2.heap.size∧w2.heap.size<(w2.alloc (.cells #[.string ⟨#[]⟩,.slice none 0 0] 32)).heap.size):=⟨b2'.size,by simp⟩;refine hK.out _ _ (kS.out _ b2z) (fun hHeld=>?_);clear hK K;refine wpAnyL_one (i:=4) (by kernel_rfl) rfl (fun K hK=>?_);go_simp;refine(HH.out.2.2 _ _ (CRow.of_owns hownz)).mono ?_;rintro e w3 ⟨a,cc,qs,rfl,hqs,hz,b3⟩;have b3':=Nm.below_two b2z b3;have kz3:=blk_below kz b3;clear hown hownz kz;go_wp2_with fail
      refine hK.out _ _ (kS.out _ b3') (fun hHeld=>?_);clear hK K;refine tkL (i:=5) (v:=?_) rfl ?_ ?_;rotate_left 1
      ·(intro W hSW;obtain⟨z0,z1⟩:=hSW;go_simp;try (with_reducible rfl))
      refine tkL (i:=6) (v:=?_) rfl ?_ ?_;rotate_left 1
      ·(intro W hSW;obtain⟨z0,z1⟩:=hSW;go_simp;try (with_reducible rfl))
      refine tkL (i:=7) (v:=?_) rfl ?_ ?_;rotate_left 1
      ·(intro W hSW;obtain⟨z0,z1⟩:=hSW;go_simp;try (with_reducible rfl))
      refine tkL (i:=8) (v:=?_) rfl ?_ ?_;rotate_left 1
      ·(intro W hSW;obtain⟨z0,z1⟩:=hSW;go_simp;try (with_reducible rfl))
      refine wpAnyL_one (i:=10) (by kernel_rfl) rfl (fun K hK=>?_);have rz:=fun i=>blk_cell kz3 i
      have fz:=fun i=>blk_frozen kz3 i
      go_simp;have kn:=blk_set (blk_set kz3 0 (.string OO)) 1 (.slice a qs.length cc);simp only [List.setIfInBounds_toArray,List.set_cons_zero,List.set_cons_succ] at kn;have hzn:=(hz.far (i:=0) (y:=.string OO) (g:=w2.heap.size) HG.out.2).far (i:=1) (y:=.slice a qs.length cc) (g:=w2.heap.size) HG.out.2;have en:=(b3'.setCell (p:=⟨w2.heap.size,0,none⟩) HG.out.1 (.string OO)).setCell (p:=⟨w2.heap.size,1,none⟩) HG.out.1 (.slice a qs.length cc);clear rz fz kz3;refine hK.out _ _ (kS.out _ en) (fun hHeld=>?_);clear hK K;refine wpAnyL_one (i:=11) (by kernel_rfl) rfl (fun K hK=>?_);go_simp;refine hK.out _ _ (kS.out _ en) (fun hHeld=>?_);clear hK K;refine wpAnyL_one (i:=12) (by kernel_rfl) rfl (fun K hK=>?_);go_simp;refine hK.out _ _ (kS.out _ en) (fun hHeld=>?_);clear hK K;refine wpAnyL_done (by kernel_rfl) ?_;go_wp2_with fail
      go_meet
      case rel=>exact⟨w2.heap.size,a,cc,qs,rfl,rfl,kn,hqs,hzn.zrow,en⟩
    ·go_simp;have bz:=((Below.refl w1.heap.size w1).alloc (Nat.le_refl _) (.cells #[.string ⟨#[]⟩,.slice none 0 0] 32)).drew;have kz:=blk_drew (blk_new w1 #[.string ⟨#[]⟩,.slice none 0 0] 32)
     have hs1:(w1.alloc (.cells #[.string ⟨#[]⟩,.slice none 0 0] 32)).drew.heap.size=w1.heap.size+1:=by
      show(w1.alloc _).heap.size=_
      simp
     have HS1:=Nm.hide hs1;clear hs1;refine hK.out _ _ (kS.out _ bz) (fun hHeld=>?_);clear hK K;refine wpAnyL_one (i:=1) (by kernel_rfl) rfl (fun K hK=>?_);go_simp;refine(HH.out.2.1 _ (Nm.below_two bw1 bz)).mono ?_;rintro e w2 ⟨u,rfl,hown,b2⟩;obtain⟨ua,uc,rfl⟩:=own_sl hown;have b2':=Nm.below_two bz b2;have kz2:=blk_below kz b2;have HG:Hid (w1.heap.size<=w1.heap.size∧w1.heap.size<w2.heap.size):=⟨Nat.le_refl _,by have:=b2.size;have:=HS1.out;omega⟩;go_wp2_with fail
     refine hK.out _ _ (kS.out _ b2') (fun hHeld=>?_);clear hK K;refine wpAnyL_one (i:=4) (by kernel_rfl) rfl (fun K hK=>?_);go_simp;refine(HH.out.2.2 _ _ (CRow.of_owns hown)).mono ?_;rintro e w3 ⟨a,cc,qs,rfl,hqs,hz,b3⟩;have b3':=Nm.below_two b2' b3;have kz3:=blk_below kz2 b3;clear hown kz kz2;go_wp2_with fail
     refine hK.out _ _ (kS.out _ b3') (fun hHeld=>?_);clear hK K;refine tkL (i:=5) (v:=?_) rfl ?_ ?_;rotate_left 1
     ·(intro W hSW;obtain⟨z0,z1⟩:=hSW;go_simp;try (with_reducible rfl))
     refine tkL (i:=6) (v:=?_) rfl ?_ ?_;rotate_left 1
     ·(intro W hSW;obtain⟨z0,z1⟩:=hSW;go_simp;try (with_reducible rfl))
     refine tkL (i:=7) (v:=?_) rfl ?_ ?_;rotate_left 1
     ·(intro W hSW;obtain⟨z0,z1⟩:=hSW;go_simp;try (with_reducible rfl))
     refine tkL (i:=8) (v:=?_) rfl ?_ ?_;rotate_left 1
     ·(intro W hSW;obtain⟨z0,z1⟩:=hSW;go_simp;try (with_reducible rfl))
     refine wpAnyL_one (i:=10) (by kernel_rfl) rfl (fun K hK=>?_);have rz:=fun i=>blk_cell kz3 i
     have fz:=fun i=>blk_frozen kz3 i
     go_simp;have kn:=blk_set (blk_set kz3 0 (.string OO)) 1 (.slice a qs.length cc);simp only [List.setIfInBounds_toArray,List.set_cons_zero,List.set_cons_succ] at kn;have hzn:=(hz.far (i:=0) (y:=.string OO) (g:=w1.heap.size) HG.out.2).far (i:=1) (y:=.slice a qs.length cc) (g:=w1.heap.size) HG.out.2;have en:=(b3'.setCell (p:=⟨w1.heap.size,0,none⟩) HG.out.1 (.string OO)).setCell (p:=⟨w1.heap.size,1,none⟩) HG.out.1 (.slice a qs.length cc);clear rz fz kz3;refine hK.out _ _ (kS.out _ en) (fun hHeld=>?_);clear hK K;refine wpAnyL_one (i:=11) (by kernel_rfl) rfl (fun K hK=>?_);go_simp;refine hK.out _ _ (kS.out _ en) (fun hHeld=>?_);clear hK K;refine wpAnyL_one (i:=12) (by kernel_rfl) rfl (fun K hK=>?_);go_simp;refine hK.out _ _ (kS.out _ en) (fun hHeld=>?_);clear hK K;refine wpAnyL_done (by kernel_rfl) ?_;go_wp2_with fail
     go_meet
     case rel=>exact⟨w1.heap.size,a,cc,qs,rfl,rfl,kn,hqs,hzn.zrow,en⟩
   case rest=>
    obtain⟨g,a,cc,qs,rfl,rfl,kg,hqs,hz,b5⟩:=hcut;have kZ5:=blk_below k1 b5;have hsz:=l06SameZone_any o (.slice a qs.length cc) (.slice va ps.length vc) qs ps wc hz (HH.out.1.below (Nm.below_two bw1 b5));have rg:=fun i=>blk_cell kg i
    have rZ:=fun i=>blk_cell kZ5 i
    have bw5:=Nm.below_two bw1 b5
    by_cases hE:(bldE (zoneRecs ps) o).1=0
    ·obtain⟨e1,e2⟩:=bzO_zero hE;rw [e1] at rg;rw [hqs,e2] at hsz;have hzk:zOK ps o=eqZs (bldZ (zoneRecs ps)) (ps.map (·.1)):=by rw [zOK,decide_eq_true hE];rfl
     rw [hE]
     cases hq:eqZs (bldZ (zoneRecs ps)) (ps.map (·.1)) with
     |true=>
      have hC:CZ=0:=by rw [HCZ.out,hzk,hq];rfl
      rw [hq] at hsz;subst hC;clear HCZ hE e1 e2 hq hzk HH hqs kg kZ5 hz kS bd b5 k1;go_wp2_with (go_at_call 38;refine hsz.mono ?_;rintro e w6 ⟨rfl,b6⟩)
      go_ret
      exact⟨rfl,Nm.below_two bw5 b6⟩
     |false=>
      have hC:CZ=32:=by rw [HCZ.out,hzk,hq];rfl
      rw [hq] at hsz;subst hC;clear HCZ hE e1 e2 hq hzk HH hqs kg kZ5 hz kS bd b5 k1;go_wp2_with (go_at_call 38;refine hsz.mono ?_;rintro e w6 ⟨rfl,b6⟩)
      go_ret;exact⟨rfl,Nm.below_two bw5 b6⟩
    ·have hC:CZ=32:=by rw [HCZ.out,zOK,decide_eq_false hE];rfl
     have n0:((bldE (zoneRecs ps) o).1 != 0)=true:=by simpa using hE
     generalize (bldE (zoneRecs ps) o).1=BC at*;subst hC;clear HCZ hE HH hqs kg kZ5 hz kS bd b5 k1 hsz;go_wp2;go_ret;exact⟨rfl,bw5⟩
end Go.Proofs.YtcodajnebegdiaaGreat
