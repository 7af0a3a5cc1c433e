import Derived.Test.YtcihkbojmbfmmaaGreatDoorJZoR
import Derived.Test.YtcihkbojmbfmmaaGreatDoorJSjC
import Derived.Test.YtcihkbojmbfmmaaGreatDoorJZrT
import Derived.Shelf.Strings.Builder1
import Derived.Shelf.Small.Strs
import Derived.Shelf.Small.Wraps
import Derived.Shelf.Strings.BuilderF
import Derived.Shelf.Strings.BuilderK
import Derived.Shelf.LaysM
import Derived.Shelf.Strconv.Clone
import Derived.Shelf.Slices.Equal
import Derived.Ground.Names2Prog
import Derived.Shelf.Slices.SearchI
import Derived.Shelf.Slices.Empties2
import Derived.Ground.SlgnProg
import Derived.Shelf.SlicesG.SearchI
import Derived.Test.YtcihkbojmbfmmaaGreatDoorProg
import Derived.Test.YtcihkbojmbfmmaaGreatDoorJMath
namespace Go.Proofs.YtcihkbojmbfmmaaGreatDoor
open Go.RowKit
set_option linter.unusedVariables false
theorem zr_len(ps:List Zp):(zoneRecs ps).length<=500:=by
 unfold zoneRecs;split
 ·simp
 ·rw [recsAll_len];omega
theorem bzO_zero{list:List Rr}{o:ByteArray}(h:(bldE list o).1=0):bzO list o=o∧bzZ list o=bldZ list:=by
 rw [bzO,bzZ,if_pos h,if_pos h];exact⟨rfl,rfl⟩
set_option maxRecDepth 100000 in
set_option maxHeartbeats 3200000 in
theorem specCheckZone_any(o:ByteArray)(v:Value)(ps:List Zp)(w:World)(h:ZRow w v ps)(hs:zsum ps<=1048576)(hl:ps.length<=1048576)(hf:∀ p∈ps,p.1.own.size<=1048576∧∀ x∈p.1.da,x.size<=1048576)(ha:o.size<=maxLen):
 Calls Tryz.prog 14 #[.agg #[.string o,v]] w fun e w'=>e=.returned (.int .i64 (if zOK ps o=true then 0 else 32))∧Below w.heap.size w w':=by
 have k0:=blk_new w #[.string o,v] 31;have b0:=(Below.refl w.heap.size w).alloc (Nat.le_refl _) (.cells #[.string o,v] 31);have hct:=l06Count_any o v ps _ (h.below b0) hs hl;have hzr:=fun W (hW:Below w.heap.size w W)=>specZoneRecords_any o v ps W (h.below hW) hs hl
 have hrl:=zr_len ps;have hrf:=recs_fit hf;have hbz:=fun V W hV=>(specBuildZone_any V (zoneRecs ps) o W hV (by omega) ha (fun r hr=>by have:=(hrf r hr).1;unfold maxLen;omega)).mono (fun _ _ hp=>bz_uni hp)
 obtain⟨va,vc,rfl⟩:∃ va vc,v=.slice va ps.length vc:=by obtain⟨⟨_,a,c,e,_⟩,_⟩:=h;exact⟨a,c,e⟩
 have HH:=Nm.hide (And.intro h (And.intro hzr hbz));obtain⟨CZ,hCZ⟩:∃ CZ:Int,CZ=if zOK ps o=true then 0 else 32:=⟨_,rfl⟩
 rw [<- hCZ];have HCZ:=Nm.hide hCZ;have r0:=fun i=>blk_cell k0 i
 unfold maxLen at ha;clear h hf hs hzr hbz hrf hCZ hrl
 by_cases hbig:500<ps.length
 ·have hC:CZ=32:=by rw [HCZ.out,zOK_big (.inl hbig)];rfl
  have i1:(500:Int)<(ps.length:Int):=by omega
  subst hC;clear HCZ hct;go_enter Tryz.func14,Tryz.ntmps14;go_wp2;go_ret;exact⟨rfl,b0⟩
 ·have i1:¬(500:Int)<(ps.length:Int):=by omega
  by_cases hbig2:500<dsum ps
  ·have hC:CZ=32:=by rw [HCZ.out,zOK_big (.inr hbig2)];rfl
   have i2:(500:Int)<(dsum ps:Int):=by omega
   subst hC;clear HCZ;go_enter Tryz.func14,Tryz.ntmps14;go_wp2_with (go_at_call 24;refine hct.mono ?_;rintro e w1 ⟨rfl,b1⟩)
   go_ret;exact⟨rfl,Nm.below_two b0 b1⟩
  ·have i2:¬(500:Int)<(dsum ps:Int):=by omega
   go_enter Tryz.func14,Tryz.ntmps14;go_wp2_with (go_at_call 24;refine hct.mono ?_;rintro e w1 ⟨rfl,b1⟩)
   have k1:=blk_below k0 b1;have bw1:=Nm.below_two b0 b1
   have kS:Hid (∀ X,Below w1.heap.size w1 X->X.cell? ⟨w.heap.size,0,none⟩=some (.string o)∧X.cell? ⟨w.heap.size,1,none⟩=some (.slice va ps.length vc)):=by
    intro X hX;have kx:=blk_below k1 hX;exact⟨(blk_cell kx 0).trans rfl,(blk_cell kx 1).trans rfl⟩
   have bd:=(Below.refl w1.heap.size w1).drew;clear hct r0 k0 b0 b1 i1 i2 hbig hbig2;go_cut [3,4,5] from 15 to 23 (fun p c i wx=>∃ (g:Nat) (a:Option Addr) (cc:Nat) (qs:List Zp),p=.pointer (some ⟨g,0,none⟩)∧c=.int .i64 (bldE (zoneRecs ps) o).1∧Blk wx g #[.string (bzO (zoneRecs ps) o),.slice a qs.length cc] 31∧qs.map (·.1)=bzZ (zoneRecs ps) o∧ZRow wx (.slice a qs.length cc) qs∧Below w1.heap.size w1 wx)
   case first=>
    refine wp_region_last (fun X=>X.cell? ⟨w.heap.size,0,none⟩=some (.string o)∧X.cell? ⟨w.heap.size,1,none⟩=some (.slice va ps.length vc)) 1000 (by kernel_rfl) (kS.out _ bd) (fun hHeld=>?_);refine tkL (i:=0) (v:=?_) rfl ?_ ?_;rotate_left 1
    ·(intro W hSW;obtain⟨z0,z1⟩:=hSW;go_simp;try (with_reducible rfl))
    refine tkL (i:=2) (v:=?_) rfl ?_ ?_;rotate_left 1
    ·(intro W hSW;obtain⟨z0,z1⟩:=hSW;go_simp;try (with_reducible rfl))
    refine tkL (i:=3) (v:=?_) rfl ?_ ?_;rotate_left 1
    ·(intro W hSW;obtain⟨z0,z1⟩:=hSW;go_simp;try (with_reducible rfl))
    generalize bzO (zoneRecs ps) o=OO at*;generalize bzZ (zoneRecs ps) o=ZZ at*;generalize (bldE (zoneRecs ps) o).1=BC at*;generalize bzI (zoneRecs ps) o=BI at*;refine wpAnyL_two (i:=1) (j:=9) (by kernel_rfl) rfl rfl (fun K hK=>?_) (fun K hK=>?_)
    ·go_simp;refine(HH.out.2.1 _ (Nm.below_two bw1 bd)).mono ?_;rintro e w2 ⟨u,rfl,hown,b2⟩;obtain⟨ua,uc,rfl⟩:=own_sl hown;have b2':=Nm.below_two bd b2;go_wp2_with fail
     refine hK.out _ _ (kS.out _ b2') (fun hHeld=>?_);clear hK K;refine wpAnyL_two (i:=4) (j:=9) (by kernel_rfl) rfl rfl (fun K hK=>?_) (fun K hK=>?_)
     ·go_simp;refine(HH.out.2.2 _ _ (CRow.of_owns hown)).mono ?_;rintro e w3 ⟨a,cc,qs,rfl,hqs,hz,b3⟩;have b3':=Nm.below_two b2' b3;go_wp2_with fail
      refine hK.out _ _ (kS.out _ b3') (fun hHeld=>?_);clear hK K;refine tkL (i:=5) (v:=?_) rfl ?_ ?_;rotate_left 1
      ·(intro W hSW;obtain⟨z0,z1⟩:=hSW;go_simp;try (with_reducible rfl))
      refine tkL (i:=6) (v:=?_) rfl ?_ ?_;rotate_left 1
      ·(intro W hSW;obtain⟨z0,z1⟩:=hSW;go_simp;try (with_reducible rfl))
      refine tkL (i:=7) (v:=?_) rfl ?_ ?_;rotate_left 1
      ·(intro W hSW;obtain⟨z0,z1⟩:=hSW;go_simp;try (with_reducible rfl))
      refine tkL (i:=8) (v:=?_) rfl ?_ ?_;rotate_left 1
      ·(intro W hSW;obtain⟨z0,z1⟩:=hSW;go_simp;try (with_reducible rfl))
      refine wpAnyL_one (i:=9) (by kernel_rfl) rfl (fun K hK=>?_);go_simp;have bz:=(Below.refl w3.heap.size w3).alloc (Nat.le_refl _) (.cells #[.string ⟨#[]⟩,.slice none 0 0] 31);have kz:=blk_new w3 #[.string ⟨#[]⟩,.slice none 0 0] 31;have rz:=fun i=>blk_cell kz i
      have fz:=fun i=>blk_frozen kz i
      refine hK.out _ _ (kS.out _ (Nm.below_two b3' bz)) (fun hHeld=>?_);clear hK K;refine wpAnyL_one (i:=10) (by kernel_rfl) rfl (fun K hK=>?_);go_simp;have bn:=(Below.refl w3.heap.size w3).alloc (Nat.le_refl _) (.cells #[.string OO,.slice a qs.length cc] 31);have kn:=blk_new w3 #[.string OO,.slice a qs.length cc] 31;have en:=Nm.below_two b3' bn;refine hK.out _ _ (kS.out _ en) (fun hHeld=>?_);clear hK K;refine wpAnyL_one (i:=11) (by kernel_rfl) rfl (fun K hK=>?_);go_simp;refine hK.out _ _ (kS.out _ en) (fun hHeld=>?_);clear hK K;refine wpAnyL_one (i:=12) (by kernel_rfl) rfl (fun K hK=>?_);go_simp;refine hK.out _ _ (kS.out _ en) (fun hHeld=>?_);clear hK K;refine wpAnyL_done (by kernel_rfl) ?_;go_wp2_with fail
      go_meet
      case rel=>exact⟨w3.heap.size,a,cc,qs,rfl,rfl,kn,hqs,hz.zrow.below bn,en⟩
     ·go_simp;have bz:=(Below.refl w2.heap.size w2).alloc (Nat.le_refl _) (.cells #[.string ⟨#[]⟩,.slice none 0 0] 31);have kz:=blk_new w2 #[.string ⟨#[]⟩,.slice none 0 0] 31;have b2z:=Nm.below_two b2' bz;have hownz:=own_below hown bz;have HG:Hid (w1.heap.size<=w2.heap.size∧w2.heap.size<(w2.alloc (.cells #[.string ⟨#[]⟩,.slice none 0 0] 31)).heap.size):=⟨b2'.size,by simp⟩;refine hK.out _ _ (kS.out _ b2z) (fun hHeld=>?_);clear hK K;refine wpAnyL_one (i:=4) (by kernel_rfl) rfl (fun K hK=>?_);go_simp;refine(HH.out.2.2 _ _ (CRow.of_owns hownz)).mono ?_;rintro e w3 ⟨a,cc,qs,rfl,hqs,hz,b3⟩;have b3':=Nm.below_two b2z b3;have kz3:=blk_below kz b3;clear hown hownz kz;go_wp2_with fail
      refine hK.out _ _ (kS.out _ b3') (fun hHeld=>?_);clear hK K;refine tkL (i:=5) (v:=?_) rfl ?_ ?_;rotate_left 1
      ·(intro W hSW;obtain⟨z0,z1⟩:=hSW;go_simp;try (with_reducible rfl))
      refine tkL (i:=6) (v:=?_) rfl ?_ ?_;rotate_left 1
      ·(intro W hSW;obtain⟨z0,z1⟩:=hSW;go_simp;try (with_reducible rfl))
      refine tkL (i:=7) (v:=?_) rfl ?_ ?_;rotate_left 1
      ·(intro W hSW;obtain⟨z0,z1⟩:=hSW;go_simp;try (with_reducible rfl))
      refine tkL (i:=8) (v:=?_) rfl ?_ ?_;rotate_left 1
      ·(intro W hSW;obtain⟨z0,z1⟩:=hSW;go_simp;try (with_reducible rfl))
      refine wpAnyL_one (i:=10) (by kernel_rfl) rfl (fun K hK=>?_);have rz:=fun i=>blk_cell kz3 i
      have fz:=fun i=>blk_frozen kz3 i
      go_simp;have kn:=blk_set (blk_set kz3 0 (.string OO)) 1 (.slice a qs.length cc);simp only [List.setIfInBounds_toArray,List.set_cons_zero,List.set_cons_succ] at kn;have hzn:=(hz.far (i:=0) (y:=.string OO) (g:=w2.heap.size) HG.out.2).far (i:=1) (y:=.slice a qs.length cc) (g:=w2.heap.size) HG.out.2;have en:=(b3'.setCell (p:=⟨w2.heap.size,0,none⟩) HG.out.1 (.string OO)).setCell (p:=⟨w2.heap.size,1,none⟩) HG.out.1 (.slice a qs.length cc);clear rz fz kz3;refine hK.out _ _ (kS.out _ en) (fun hHeld=>?_);clear hK K;refine wpAnyL_one (i:=11) (by kernel_rfl) rfl (fun K hK=>?_);go_simp;refine hK.out _ _ (kS.out _ en) (fun hHeld=>?_);clear hK K;refine wpAnyL_one (i:=12) (by kernel_rfl) rfl (fun K hK=>?_);go_simp;refine hK.out _ _ (kS.out _ en) (fun hHeld=>?_);clear hK K;refine wpAnyL_done (by kernel_rfl) ?_;go_wp2_with fail
      go_meet
      case rel=>exact⟨w2.heap.size,a,cc,qs,rfl,rfl,kn,hqs,hzn.zrow,en⟩
    ·go_simp;have bz:=((Below.refl w1.heap.size w1).alloc (Nat.le_refl _) (.cells #[.string ⟨#[]⟩,.slice none 0 0] 31)).drew;have kz:=blk_drew (blk_new w1 #[.string ⟨#[]⟩,.slice none 0 0] 31)
     have hs1:(w1.alloc (.cells #[.string ⟨#[]⟩,.slice none 0 0] 31)).drew.heap.size=w1.heap.size+1:=by
      show(w1.alloc _).heap.size=_
      simp
     have HS1:=Nm.hide hs1;clear hs1;refine hK.out _ _ (kS.out _ bz) (fun hHeld=>?_);clear hK K;refine wpAnyL_one (i:=1) (by kernel_rfl) rfl (fun K hK=>?_);go_simp;refine(HH.out.2.1 _ (Nm.below_two bw1 bz)).mono ?_;rintro e w2 ⟨u,rfl,hown,b2⟩;obtain⟨ua,uc,rfl⟩:=own_sl hown;have b2':=Nm.below_two bz b2;have kz2:=blk_below kz b2;have HG:Hid (w1.heap.size<=w1.heap.size∧w1.heap.size<w2.heap.size):=⟨Nat.le_refl _,by have:=b2.size;have:=HS1.out;omega⟩;go_wp2_with fail
     refine hK.out _ _ (kS.out _ b2') (fun hHeld=>?_);clear hK K;refine wpAnyL_one (i:=4) (by kernel_rfl) rfl (fun K hK=>?_);go_simp;refine(HH.out.2.2 _ _ (CRow.of_owns hown)).mono ?_;rintro e w3 ⟨a,cc,qs,rfl,hqs,hz,b3⟩;have b3':=Nm.below_two b2' b3;have kz3:=blk_below kz2 b3;clear hown kz kz2;go_wp2_with fail
     refine hK.out _ _ (kS.out _ b3') (fun hHeld=>?_);clear hK K;refine tkL (i:=5) (v:=?_) rfl ?_ ?_;rotate_left 1
     ·(intro W hSW;obtain⟨z0,z1⟩:=hSW;go_simp;try (with_reducible rfl))
     refine tkL (i:=6) (v:=?_) rfl ?_ ?_;rotate_left 1
     ·(intro W hSW;obtain⟨z0,z1⟩:=hSW;go_simp;try (with_reducible rfl))
     refine tkL (i:=7) (v:=?_) rfl ?_ ?_;rotate_left 1
     ·(intro W hSW;obtain⟨z0,z1⟩:=hSW;go_simp;try (with_reducible rfl))
     refine tkL (i:=8) (v:=?_) rfl ?_ ?_;rotate_left 1
     ·(intro W hSW;obtain⟨z0,z1⟩:=hSW;go_simp;try (with_reducible rfl))
     refine wpAnyL_one (i:=10) (by kernel_rfl) rfl (fun K hK=>?_);have rz:=fun i=>blk_cell kz3 i
     have fz:=fun i=>blk_frozen kz3 i
     go_simp;have kn:=blk_set (blk_set kz3 0 (.string OO)) 1 (.slice a qs.length cc);simp only [List.setIfInBounds_toArray,List.set_cons_zero,List.set_cons_succ] at kn;have hzn:=(hz.far (i:=0) (y:=.string OO) (g:=w1.heap.size) HG.out.2).far (i:=1) (y:=.slice a qs.length cc) (g:=w1.heap.size) HG.out.2;have en:=(b3'.setCell (p:=⟨w1.heap.size,0,none⟩) HG.out.1 (.string OO)).setCell (p:=⟨w1.heap.size,1,none⟩) HG.out.1 (.slice a qs.length cc);clear rz fz kz3;refine hK.out _ _ (kS.out _ en) (fun hHeld=>?_);clear hK K;refine wpAnyL_one (i:=11) (by kernel_rfl) rfl (fun K hK=>?_);go_simp;refine hK.out _ _ (kS.out _ en) (fun hHeld=>?_);clear hK K;refine wpAnyL_one (i:=12) (by kernel_rfl) rfl (fun K hK=>?_);go_simp;refine hK.out _ _ (kS.out _ en) (fun hHeld=>?_);clear hK K;refine wpAnyL_done (by kernel_rfl) ?_;go_wp2_with fail
     go_meet
     case rel=>exact⟨w1.heap.size,a,cc,qs,rfl,rfl,kn,hqs,hzn.zrow,en⟩
   case rest=>
    obtain⟨g,a,cc,qs,rfl,rfl,kg,hqs,hz,b5⟩:=hcut;have kZ5:=blk_below k1 b5;have hsz:=l06SameZone_any o (.slice a qs.length cc) (.slice va ps.length vc) qs ps wc hz (HH.out.1.below (Nm.below_two bw1 b5));have rg:=fun i=>blk_cell kg i
    have rZ:=fun i=>blk_cell kZ5 i
    have bw5:=Nm.below_two bw1 b5
    by_cases hE:(bldE (zoneRecs ps) o).1=0
    ·obtain⟨e1,e2⟩:=bzO_zero hE;rw [e1] at rg;rw [hqs,e2] at hsz;have hzk:zOK ps o=eqZs (bldZ (zoneRecs ps)) (ps.map (·.1)):=by rw [zOK,decide_eq_true hE];rfl
     rw [hE]
     cases hq:eqZs (bldZ (zoneRecs ps)) (ps.map (·.1)) with
     |true=>
      have hC:CZ=0:=by rw [HCZ.out,hzk,hq];rfl
      rw [hq] at hsz;subst hC;clear HCZ hE e1 e2 hq hzk HH hqs kg kZ5 hz kS bd b5 k1;go_wp2_with (go_at_call 27;refine hsz.mono ?_;rintro e w6 ⟨rfl,b6⟩)
      go_ret
      exact⟨rfl,Nm.below_two bw5 b6⟩
     |false=>
      have hC:CZ=32:=by rw [HCZ.out,hzk,hq];rfl
      rw [hq] at hsz;subst hC;clear HCZ hE e1 e2 hq hzk HH hqs kg kZ5 hz kS bd b5 k1;go_wp2_with (go_at_call 27;refine hsz.mono ?_;rintro e w6 ⟨rfl,b6⟩)
      go_ret;exact⟨rfl,Nm.below_two bw5 b6⟩
    ·have hC:CZ=32:=by rw [HCZ.out,zOK,decide_eq_false hE];rfl
     have n0:((bldE (zoneRecs ps) o).1 != 0)=true:=by simpa using hE
     generalize (bldE (zoneRecs ps) o).1=BC at*;subst hC;clear HCZ hE HH hqs kg kZ5 hz kS bd b5 k1 hsz;go_wp2;go_ret;exact⟨rfl,bw5⟩
set_option maxRecDepth 100000 in
set_option maxHeartbeats 1600000 in
theorem l12Zone_any(o:ByteArray)(v:Value)(ps:List Zp)(w:World)(h:ZRow w v ps)(hs:zsum ps<=1048576)(hl:ps.length<=1048576)(ho:o.size<=1048576)(hz:zOK ps o=true)(hf:∀ p∈ps,p.1.own.size<=1048576∧∀ x∈p.1.da,x.size<=1048576):
 Calls Tryz.prog 16 #[.agg #[.string o,v]] w fun e w'=>e=.returned (.string ⟨(zonP o (zoneRecs ps)).toArray⟩)∧Below w.heap.size w w':=by
 obtain⟨z1,z2,z3⟩:=zon_small hz hs ho hf;obtain⟨a,cap,rfl⟩:∃ a c,v=.slice a ps.length c:=by obtain⟨⟨_,a,c,e,_⟩,_⟩:=h;exact⟨a,c,e⟩
 have kR:=blk_new w #[.string o,.slice a ps.length cap] 31;have hb:=(Below.refl w.heap.size w).alloc (Nat.le_refl _) (.cells #[.string o,.slice a ps.length cap] 31);have hr:=specZoneRecords_any o _ ps _ (h.below hb) hs hl;have hq:=fun V W (hV:CRow W V (zoneRecs ps).length 5 (rvVs (zoneRecs ps)))=>l12Records_any V (zoneRecs ps) W hV (fun r hr=>(zOK_rcf hz hf r hr).1) z1 z2
 obtain⟨T,hT⟩:∃ T:ByteArray,T=⟨(bigL (zoneRecs ps).length 2++rcsP (zoneRecs ps)).toArray⟩:=⟨_,rfl⟩;have hTz:T.size=2+(rcsP (zoneRecs ps)).length:=by rw [hT,ba_size,List.length_append,bigL_len]
 have hT2:2<=T.size:=by omega
 have hTm:T.size<=1181078:=by omega
 have hT2i:(2:Int)<=(T.size:Int):=by omega
 have eA:T.extract 0 2=⟨(bigL (zoneRecs ps).length 2).toArray⟩:=by
  have e:((bigL (zoneRecs ps).length 2++rcsP (zoneRecs ps)).drop 0).take (2-0)=bigL (zoneRecs ps).length 2:=by rw [List.drop_zero];exact List.take_left' (bigL_len _ _)
  rw [hT,sj_ext,e]
 have eB:T.extract 2 T.size=⟨(rcsP (zoneRecs ps)).toArray⟩:=by
  have e:((bigL (zoneRecs ps).length 2++rcsP (zoneRecs ps)).drop 2).take (2+(rcsP (zoneRecs ps)).length-2)=rcsP (zoneRecs ps):=by rw [List.drop_left' (bigL_len _ _),List.take_of_length_le (by omega)]
  rw [hTz,hT,sj_ext,e]
 have lo:o.data.toList.length=o.size:=by simp
 obtain⟨C1,q1,c1⟩:=sj_cat [90] _ ⟨#[90]⟩ (T.extract 0 2) rfl eA (by rw [bigL_len];simp);obtain⟨C2,q2,c2⟩:=sj_cat _ _ C1 o c1 (ba_mk o).symm (by simp only [List.length_append,lo,bigL_len,List.length_cons,List.length_nil];omega);obtain⟨C3,q3,c3⟩:=sj_cat _ _ C2 (T.extract 2 T.size) c2 eB (by simp only [List.length_append,lo,bigL_len,List.length_cons,List.length_nil];omega);have HE:Hid ((⟨(zonP o (zoneRecs ps)).toArray⟩:ByteArray)=C3):=by show _=_;rw [c3,zonP]
 rw [HE.out];rw [<- hT] at hq;clear HE c1 c2 c3 eA eB hT lo z3 hTz;go_enter Tryz.func16,Tryz.ntmps16;go_wp2_with fail
 refine hr.mono ?_;rintro e w1 ⟨u,rfl,hu,b1⟩;have kR1:=blk_below kR b1;have hb1:=Nm.below_two hb b1;have hq1:=hq u w1 (CRow.of_owns hu);clear hr hq kR hb b1 hu;go_wp2_with fail
 refine hq1.mono ?_;rintro e w2 ⟨rfl,b2⟩;have kR:=blk_below kR1 b2;have hb:=Nm.below_two hb1 b2;clear hq1 kR1 hb1 b2;go_wp2;refine wp_region_last (S:=fun W=>Blk W w.heap.size #[.string o,.slice a ps.length cap] 31) (L:=1000) (by kernel_rfl) kR (fun hH=>?_);refine tkL (i:=0) (v:=?_) rfl ?_ ?_;rotate_left 1
 ·(intro W s1;have ss1:=(fun i=>blk_cell s1 i);go_simp;try (with_reducible rfl))
 refine tkL (i:=1) (v:=?_) rfl ?_ ?_;rotate_left 1
 ·(intro W s1;have ss1:=(fun i=>blk_cell s1 i);go_simp;try (with_reducible rfl))
 refine tkL (i:=2) (v:=?_) rfl ?_ ?_;rotate_left 1
 ·(intro W s1;have ss1:=(fun i=>blk_cell s1 i);go_simp;try (with_reducible rfl))
 refine tkL (i:=3) (v:=?_) rfl ?_ ?_;rotate_left 1
 ·(intro W s1;have ss1:=(fun i=>blk_cell s1 i);go_simp;try (with_reducible rfl))
 refine tkL (i:=4) (v:=?_) rfl ?_ ?_;rotate_left 1
 ·(intro W s1;have ss1:=(fun i=>blk_cell s1 i);go_simp;try (with_reducible rfl))
 refine tkL (i:=5) (v:=?_) rfl ?_ ?_;rotate_left 1
 ·(intro W s1;have ss1:=(fun i=>blk_cell s1 i);go_simp;try (with_reducible rfl))
 refine tkL (i:=6) (v:=?_) rfl ?_ ?_;rotate_left 1
 ·(intro W s1;have ss1:=(fun i=>blk_cell s1 i);go_simp;try (with_reducible rfl))
 refine tkL (i:=7) (v:=?_) rfl ?_ ?_;rotate_left 1
 ·(intro W s1;have ss1:=(fun i=>blk_cell s1 i);go_simp;try (with_reducible rfl))
 refine tkL (i:=8) (v:=?_) rfl ?_ ?_;rotate_left 1
 ·(intro W s1;have ss1:=(fun i=>blk_cell s1 i);go_simp;try (with_reducible rfl))
 refine tkL (i:=9) (v:=?_) rfl ?_ ?_;rotate_left 1
 ·(intro W s1;have ss1:=(fun i=>blk_cell s1 i);go_simp;try (with_reducible rfl))
 refine wpAnyL_done (by kernel_rfl) ?_;clear hH;go_simp;go_wp2;go_ret;exact⟨rfl,hb.drew⟩
def SjS(R:List UInt8×Int)(w:World)(e:Ending)(w':World):Prop:=∃ v,e=.returned (.tuple #[v,.int .i64 R.2])∧BySl w' v R.1∧Below w.heap.size w w'
theorem nil_byS(w:World):BySl w (.slice none 0 0) []:=CRow.of_owns (B:=0) (e:=5) (World.ownsRow_nil _ _ _ _)
set_option maxRecDepth 100000 in
set_option maxHeartbeats 1600000 in
theorem specStartJournal_any(o:ByteArray)(v:Value)(ps:List Zp)(w:World)(h:ZRow w v ps)(hs:zsum ps<=1048576)(hl:ps.length<=1048576)(ho:o.size<=1048576)(hf:∀ p∈ps,p.1.own.size<=1048576∧∀ x∈p.1.da,x.size<=1048576):
 Calls Tryz.prog 5 #[.agg #[.string o,v]] w (SjS (sjR ps o) w):=by
 obtain⟨a,cap,rfl⟩:∃ a c,v=.slice a ps.length c:=by obtain⟨⟨_,a,c,e,_⟩,_⟩:=h;exact⟨a,c,e⟩
 have kR:=blk_new w #[.string o,.slice a ps.length cap] 31;have hb:=(Below.refl w.heap.size w).alloc (Nat.le_refl _) (.cells #[.string o,.slice a ps.length cap] 31);have hc:=specCheckZone_any o _ ps _ (h.below hb) hs hl hf (by unfold maxLen;omega);obtain⟨R,HR⟩:∃ R,Hid (R=sjR ps o):=⟨_,rfl⟩;rw [<- HR.out]
 cases hz:zOK ps o with
 |false=>
  have HN:Hid (R=([],32)):=by show _=_;rw [HR.out,sjR,if_neg (by rw [hz];decide)]
  rw [hz,if_neg (by decide)] at hc;clear HR;go_enter Tryz.func5,Tryz.ntmps5;go_wp2_with (go_at_call 14;refine hc.mono ?_;rintro e w1 ⟨rfl,b1⟩)
  go_ret2;rw [HN.out]
  exact⟨_,rfl,nil_byS _,Nm.below_two hb b1⟩
 |true=>
  have hzn:=fun W hW=>l12Zone_any o (.slice a ps.length cap) ps W (h.below hW) hs hl ho hz hf
  obtain⟨-,-,z3⟩:=zon_small hz hs ho hf;rw [hz,if_pos rfl] at hc;have HN:Hid (R=if 400000<(zonP o (zoneRecs ps)).length+8 then([],11) else(frmP (zonP o (zoneRecs ps)),0)):=by show _=_;rw [HR.out,sjR,if_pos hz]
  clear HR hz;generalize zonP o (zoneRecs ps)=Z at*;have hfr:=fun W=>l12Frame_any Z W (by omega)
  have hfl:(frmP Z).length=Z.length+8:=by simp [frmP,bigL_len,shaL_len];omega
  obtain⟨S,hS⟩:∃ S:ByteArray,S=⟨Z.toArray⟩:=⟨_,rfl⟩;obtain⟨F,hF⟩:∃ F:ByteArray,F=⟨(frmP Z).toArray⟩:=⟨_,rfl⟩;have hFz:F.size=Z.length+8:=by rw [hF,ba_size,hfl]
  have hFl:Hid (F.data.toList=frmP Z):=by show _=_;rw [hF]
  rw [<- hS] at hzn hfr;rw [<- hF] at hfr;clear hS hF hfl
  by_cases hbig:400000<Z.length+8
  ·have HN2:Hid (R=([],11)):=by show _=_;rw [HN.out,if_pos hbig]
   have i1:(400000:Int)<(F.size:Int):=by omega
   have hFm:F.size<=3000008:=by omega
   clear HN hFl hFz z3 hbig;go_enter Tryz.func5,Tryz.ntmps5;go_wp2_with fail
   go_at_call 14
   refine hc.mono ?_;rintro e w1 ⟨rfl,b1⟩;have kR1:=blk_below kR b1;have hb1:=Nm.below_two hb b1;have r1:=fun i=>blk_cell kR1 i
   go_wp2_with (first|(go_at_call 16;refine(hzn _ hb1).mono ?_;rintro e w2 ⟨rfl,b2⟩)|(go_at_call 15;refine(hfr _).mono ?_;rintro e w3 ⟨rfl,b3⟩))
   go_ret2;rw [HN2.out];exact⟨_,rfl,nil_byS _,Nm.below_two (Nm.below_two hb1 b2) b3⟩
  ·have HN2:Hid (R=(frmP Z,0)):=by show _=_;rw [HN.out,if_neg hbig]
   have i1:¬(400000:Int)<(F.size:Int):=by omega
   have hcv:=fun W=>FRow.new F W (by omega)
   rw [hFl.out] at hcv;have hFm:F.size<=3000008:=by omega
   clear HN hFl hFz z3 hbig;go_enter Tryz.func5,Tryz.ntmps5;go_wp2_with fail
   go_at_call 14
   refine hc.mono ?_;rintro e w1 ⟨rfl,b1⟩;have kR1:=blk_below kR b1;have hb1:=Nm.below_two hb b1;have r1:=fun i=>blk_cell kR1 i
   go_wp2_with (first|(go_at_call 16;refine(hzn _ hb1).mono ?_;rintro e w2 ⟨rfl,b2⟩)|(go_at_call 15;refine(hfr _).mono ?_;rintro e w3 ⟨rfl,b3⟩;obtain⟨u,W4,hrun,hF4,b4⟩:=hcv w3))
   go_ret2;rw [HN2.out];exact⟨_,rfl,hF4.read,Nm.below_two (Nm.below_two (Nm.below_two hb1 b2) b3) b4⟩
end Go.Proofs.YtcihkbojmbfmmaaGreatDoor
namespace Go.Proofs
open Go.Shelf
def Tryz.lays169_ren:Go.Shelf.Ren:=⟨fun|169=>68|n=>n,fun|70=>106|9=>9|0=>0|72=>108|37=>26|127=>150|3=>3|5=>5|n=>n,fun|n=>n⟩
theorem Tryz.lays169:Go.Proofs.Lays.n169 Tryz.prog Tryz.lays169_ren:={
 mixed:=by kernel_rfl
 f169:=Tryz.func68.trans (congrArg some (by kernel_rfl))
 t0:=Tryz.underlying0
 a0:=Tryz.isAgg0
 z0:=Tryz.sizeOf0
 v0:=Tryz.zeroValue0
 t3:=Tryz.underlying3
 a3:=Tryz.isAgg3
 z3:=Tryz.sizeOf3
 v3:=Tryz.zeroValue3
 t9:=Tryz.underlying9
 a9:=Tryz.isAgg9
 z9:=Tryz.sizeOf9
 v9:=Tryz.zeroValue9
 t37:=Tryz.underlying26
 a37:=Tryz.isAgg26
 z37:=Tryz.sizeOf26
 v37:=Tryz.zeroValue26
 t70:=Tryz.underlying106
 a70:=Tryz.isAgg106
 z70:=Tryz.sizeOf106
 v70:=Tryz.zeroValue106
 t72:=Tryz.underlying108
 a72:=Tryz.isAgg108
 z72:=Tryz.sizeOf108
 v72:=Tryz.zeroValue108
 t127:=Tryz.underlying150
 a127:=Tryz.isAgg150
 z127:=Tryz.sizeOf150
 v127:=Tryz.zeroValue150}
theorem Tryz.Builder_Extra_169:Builder.Extra Tryz.prog Tryz.lays169_ren:={
 sizeBuilder:=by kernel_rfl
 liesBuilder:=by kernel_rfl
 t5:=Tryz.underlying5
 a5:=Tryz.isAgg5
 z5:=Tryz.sizeOf5
 v5:=Tryz.zeroValue5
 infoByte:=by kernel_rfl
 cellsByte:=by kernel_rfl
 sizeByte:=by kernel_rfl
 neB5:=by decide}
open Go.RowKit in
theorem Tryz.Builder_String(B b:Nat)(l:List UInt8)(w:World)(h:Lib.IsBuilder 108 5 B b (Lib.byteCells l) w)(h0:l≠[]):
 Calls Tryz.prog 68 #[.pointer (some ⟨b,0,none⟩)] w fun e w'=>e=.returned (.string ⟨l.toArray⟩)∧Below B w w':=Any.Builder_String Tryz.lays169 Tryz.Builder_Extra_169 B b l w h h0
open Go.RowKit in
theorem Tryz.Builder_String_empty(B b:Nat)(w:World)(h:Lib.IsBuilder 108 5 B b [] w)(hBw:B<=w.heap.size):
 Calls Tryz.prog 68 #[.pointer (some ⟨b,0,none⟩)] w fun e w'=>e=.returned (.string ⟨#[]⟩)∧Below B w w':=Any.Builder_String_empty Tryz.lays169 Tryz.Builder_Extra_169 B b w h hBw
open Go.RowKit in
theorem Tryz.Builder_String_any(B b:Nat)(l:List UInt8)(w:World)(h:Lib.IsBuilder 108 5 B b (Lib.byteCells l) w)(hBw:B<=w.heap.size):
 Calls Tryz.prog 68 #[.pointer (some ⟨b,0,none⟩)] w fun e w'=>e=.returned (.string ⟨l.toArray⟩)∧Below B w w':=Any.Builder_String_any Tryz.lays169 Tryz.Builder_Extra_169 B b l w h hBw
end Go.Proofs
namespace Go.Proofs.YtcihkbojmbfmmaaGreatDoor
open Go.RowKit
set_option linter.unusedVariables false
theorem bu_lt{T e:TypeId}{B b:Nat}{bs:List Value}{w:World}(h:Lib.IsBuilder T e B b bs w):b<w.heap.size:=by
 rcases h with h|h<;>exact h.lt
theorem bu_below{T e:TypeId}{B b:Nat}{bs:List Value}{w W:World}(h:Lib.IsBuilder T e B b bs w)(hb:Below w.heap.size w W):Lib.IsBuilder T e B b bs W:=by
 have hlt:=bu_lt h
 rcases h with⟨hB,v,h1,h2,h3⟩|⟨hB,v,h1,h2,h3⟩
 ·exact .inl ⟨hB,v,(hb.block b hlt).trans h1,own_below h2 hb,h3⟩
 ·exact .inr ⟨hB,v,(hb.block b hlt).trans h1,own_below h2 hb,h3⟩
end Go.Proofs.YtcihkbojmbfmmaaGreatDoor
