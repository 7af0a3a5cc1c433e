import Derived.Test.YtcihkbojmbfmmaaGreatDoorJZrT
import Derived.Test.YtcihkbojmbfmmaaGreatDoorJZrI
import Derived.Test.YtcihkbojmbfmmaaGreatDoorJZoR
import Derived.Test.YtcihkbojmbfmmaaGreatDoorJMath
import Derived.Test.YtcihkbojmbfmmaaGreatDoorSjH
import Derived.Test.YtcihkbojmbfmmaaGreatDoorRows
import Derived.WalkSpells
import Derived.WalkLawsBesides
import Derived.RegionTactic
import Derived.BigRegion
import Derived.ProofKit
import Derived.LaidMore
import Derived.OpenShut
import Derived.Below
import Derived.Lib.LaidTab
import Derived.MakeChecks
namespace Go.Proofs.YtcihkbojmbfmmaaGreatDoor
open Go.RowKit
set_option linter.unusedVariables false
theorem built_any(bb:Nat)(la:Option Addr)(lc:Nat)(list:List Rr)(apex:ByteArray)(w:World)(hk:Blk w bb #[.slice la list.length lc,.string apex,.slice none 0 0,.slice none 0 0,.pointer none,.slice none 0 0] 97)(h:w.ownsRow 0 73 5 (.slice la list.length lc) list.length (rvVs list))(ha:apex.size<=1000000000)(ho:∀ r∈list,r.own.size<=1000000000∧r.da.size<=2000000):
 Calls Tryz.prog 58 #[.pointer (some ⟨bb,0,none⟩)] w fun e w'=>e=rsV (bldE list apex).1 (bldE list apex).2∧Outs [bb] w w'∧((bldE list apex).1=0->∃ th ys aa ac labv rv os kv ks B,P3 list apex bb (.slice la list.length lc) th ys aa ac labv rv os kv ks B w'):=
 build_any bb la lc list apex w hk (CRow.of_owns h) (fun _ e=>own_nb h hk (by decide) (by have:=rowBlk_own h e;simpa using this)) (fun _ b hb=>own_lt h b (rowBlk_own h hb)) (by unfold maxLen;omega) ho
theorem outs_low{fp:List Nat}{B:Nat}{w w':World}(h:Outs fp w w')(hB:B<=w.heap.size)(hf:∀ b∈fp,B<=b):Below B w w':=
 ⟨h.os,h.tape,h.output,h.size,fun k hk=>h.block k (by omega) (fun hm=>by have:=hf k hm;omega)⟩
theorem outs_six{w:World}{b:Nat}{x0 x1 x2 x3 x4 x5:Value}:Outs [b] w ((((((w.setCell ⟨b,0,none⟩ x0).setCell ⟨b,1,none⟩ x1).setCell ⟨b,2,none⟩ x2).setCell ⟨b,3,none⟩ x3).setCell ⟨b,4,none⟩ x4).setCell ⟨b,5,none⟩ x5):=by
 have t:∀ {A C:World} {i:Nat} {x:Value},Outs [b] A C->Outs [b] A (C.setCell ⟨b,i,none⟩ x):=fun h=>h.trans outs_set (fun k hk=>.inl hk)
 exact t (t (t (t (t outs_set))))
theorem own_six{w:World}{B b n:Nat}{v:Value}{cs:Array Value}{xs:List Value}{x0 x1 x2 x3 x4 x5:Value}(h:w.ownsRow B 73 5 v n xs)(k:Blk w b cs 97):((((((w.setCell ⟨b,0,none⟩ x0).setCell ⟨b,1,none⟩ x1).setCell ⟨b,2,none⟩ x2).setCell ⟨b,3,none⟩ x3).setCell ⟨b,4,none⟩ x4).setCell ⟨b,5,none⟩ x5).ownsRow B 73 5 v n xs:=
 own_outs h outs_six (fun c hc hm=>own_nb h k (by decide) (by rw [<- List.mem_singleton.1 hc];simpa using hm))
theorem zone_field(x:ByteArray)(a:Option Addr)(n c:Nat)(W:World):(Instr.field 31 (.agg #[.string x,.slice a n c]) 1).run Tryz.prog W=.ok (.slice a n c) W:=by kernel_rfl
def OzPost(ps:List Zp)(o:ByteArray)(w:World)(e:Ending)(w':World):Prop:=Below w.heap.size w w'∧
 ((zOK ps o=false∧e=.returned (.tuple #[.pointer none,.bool false]))∨
 (zOK ps o=true∧∃ bb lv th ys aa ac labv rv os kv ks B,e=.returned (.tuple #[.pointer (some ⟨bb,3,none⟩),.bool true])∧P3 (zoneRecs ps) o bb lv th ys aa ac labv rv os kv ks B w'))
set_option maxRecDepth 100000 in
set_option maxHeartbeats 3200000 in
theorem openZone_any(o:ByteArray)(v:Value)(ps:List Zp)(w:World)(h:ZRow w v ps)(hs:zsum ps<=1048576)(hf:∀ p∈ps,p.1.own.size<=1048576∧∀ x∈p.1.da,x.size<=1048576)(ha:o.size<=1000000000):
 Calls Tryz.prog 32 #[.agg #[.string o,v]] w (OzPost ps o w):=by
 have k0:=blk_new w #[.string o,v] 31;have b0:=(Below.refl w.heap.size w).alloc (Nat.le_refl _) (.cells #[.string o,v] 31);have hzr:=fun W (hW:Below w.heap.size w W)=>implZoneRecords_any o v ps W (h.below hW) hs (fun p hp=>(hf p hp).2)
 have hrf:=recs_fit hf;have hbt:=fun bb la lc W hk hr=>built_any bb la lc (zoneRecs ps) o W hk hr ha (fun r hr=>by have:=hrf r hr;exact⟨by omega,by omega⟩)
 have HZ:Hid (∀ bb lv th ys aa ac labv rv os kv ks B W,P3 (zoneRecs ps) o bb lv th ys aa ac labv rv os kv ks B W->Calls Tryz.prog 60 #[.pointer (some ⟨bb,3,none⟩),.string o] W fun e W'=>∃ v qs,e=.returned (.agg #[.string o,v])∧qs.map (·.1)=bldZ (zoneRecs ps)∧ZOwn W' W.heap.size v qs∧Below W.heap.size W W'):=by
  intro bb lv th ys aa ac labv rv os kv ks B W hP;have hl5:=hP.hl;have hol:=hP.st.inv.len.1;rw [List.length_map] at hol;rw [zone_eq hP.st.inv hP.good.1 hP.mix];exact zone_any bb 3 th rv os B o W hP.st.tr (hP.st.inv.trs (by rw [List.length_map];omega)) (by omega) hP.st.lab ((blk_cell hP.kb 4).trans rfl) ha
 have hzv:∃ va vc,v=.slice va ps.length vc:=by obtain⟨⟨_,a,c,e,_⟩,_⟩:=h;exact⟨a,c,e⟩
 obtain⟨va,vc,rfl⟩:=hzv;have HH:=Nm.hide (And.intro h (And.intro hzr hbt));obtain⟨E,hE⟩:∃ E,E=bldE (zoneRecs ps) o:=⟨_,rfl⟩;have HE:=Nm.hide hE;clear h hzr hbt hrf hf hE;go_enter Tryz.func32,Tryz.ntmps32;go_upto_region 1 with fail
 go_cut [4] from 7 to 11 (fun p wx=>∃ (bb:Nat) (la:Option Addr) (lc:Nat),p=.pointer (some ⟨bb,0,none⟩)∧w.heap.size<bb∧Blk wx bb #[.slice la (zoneRecs ps).length lc,.string o,.slice none 0 0,.slice none 0 0,.pointer none,.slice none 0 0] 97∧wx.ownsRow 0 73 5 (.slice la (zoneRecs ps).length lc) (zoneRecs ps).length (rvVs (zoneRecs ps))∧Below w.heap.size w wx∧Blk wx w.heap.size #[.string o,.slice va ps.length vc] 31)
 case first=>
  have hd:Below w.heap.size w (w.alloc (.cells #[.string o,.slice va ps.length vc] 31)).drew:=b0.drew
  have kS:Hid (∀ X,Below (w.heap.size+1) (w.alloc (.cells #[.string o,.slice va ps.length vc] 31)) X->X.cell? ⟨w.heap.size,0,none⟩=some (.string o)∧X.cell? ⟨w.heap.size,1,none⟩=some (.slice va ps.length vc)):=by
   intro X hX;have kx:=blk_below k0 (by simpa using hX);exact⟨(blk_cell kx 0).trans rfl,(blk_cell kx 1).trans rfl⟩
  have e0:Below (w.heap.size+1) (w.alloc (.cells #[.string o,.slice va ps.length vc] 31)) (w.alloc (.cells #[.string o,.slice va ps.length vc] 31)).drew:=(Below.refl _ _).drew;refine wp_region_last (fun X=>X.cell? ⟨w.heap.size,0,none⟩=some (.string o)∧X.cell? ⟨w.heap.size,1,none⟩=some (.slice va ps.length vc)) 1000 (by kernel_rfl) (kS.out _ e0) (fun hHeld=>?_);refine tkL (i:=0) (v:=?_) rfl ?_ ?_;rotate_left 1
  ·(intro W hSW;obtain⟨z0,z1⟩:=hSW;go_simp;try (with_reducible rfl))
  refine tkL (i:=2) (v:=?_) rfl ?_ ?_;rotate_left 1
  ·(intro W hSW;obtain⟨z0,z1⟩:=hSW;go_simp;try (with_reducible rfl))
  refine tkL (i:=3) (v:=?_) rfl ?_ ?_;rotate_left 1
  ·(intro W hSW;obtain⟨z0,z1⟩:=hSW;go_simp;try (with_reducible rfl))
  refine wpAnyL_two (i:=1) (j:=5) (by kernel_rfl) rfl rfl (fun K hK=>?_) (fun K hK=>?_)
  ·go_simp;refine(HH.out.2.1 _ hd).mono ?_;rintro e w1 ⟨u,rfl,hown,b1⟩;obtain⟨la,lc,rfl⟩:=own_sl hown;have hs1:w.heap.size+1<=w1.heap.size:=by have:=b1.size;simpa [World.drew] using this
   have e1:Below (w.heap.size+1) (w.alloc (.cells #[.string o,.slice va ps.length vc] 31)) w1:=e0.trans (b1.mono (by show w.heap.size+1<=(w.alloc _).heap.size;simp));have bw1:Below w.heap.size w w1:=Nm.below_two b0 (by simpa using e1);go_wp2_with fail
   refine hK.out _ _ (kS.out _ e1) (fun hHeld=>?_);clear hK K;refine tkL (i:=4) (v:=?_) rfl ?_ ?_;rotate_left 1
   ·(intro W hSW;obtain⟨z0,z1⟩:=hSW;go_simp;try (with_reducible rfl))
   refine wpAnyL_one (i:=5) (by kernel_rfl) rfl (fun K hK=>?_);go_simp;have bz:=(Below.refl w1.heap.size w1).alloc (Nat.le_refl _) (.cells #[.slice none 0 0,.string ⟨#[]⟩,.slice none 0 0,.slice none 0 0,.pointer none,.slice none 0 0] 97);have kz:=blk_new w1 #[.slice none 0 0,.string ⟨#[]⟩,.slice none 0 0,.slice none 0 0,.pointer none,.slice none 0 0] 97;have rz:=fun i=>blk_cell kz i
   have fz:=fun i=>blk_frozen kz i
   refine hK.out _ _ (kS.out _ (e1.trans (bz.mono hs1))) (fun hHeld=>?_);clear hK K;refine wpAnyL_one (i:=6) (by kernel_rfl) rfl (fun K hK=>?_);go_simp;have bn:=(Below.refl w1.heap.size w1).alloc (Nat.le_refl _) (.cells #[.slice la (zoneRecs ps).length lc,.string o,.slice none 0 0,.slice none 0 0,.pointer none,.slice none 0 0] 97);have kn:=blk_new w1 #[.slice la (zoneRecs ps).length lc,.string o,.slice none 0 0,.slice none 0 0,.pointer none,.slice none 0 0] 97;have en:=e1.trans (bn.mono hs1);refine hK.out _ _ (kS.out _ en) (fun hHeld=>?_);clear hK K;refine wpAnyL_done (by kernel_rfl) ?_;go_wp2_with fail
   go_meet
   case rel=>exact⟨w1.heap.size,la,lc,rfl,by omega,kn,own_base (own_below hown bn) (Nat.zero_le _),Nm.below_two bw1 bn,blk_below k0 (by simpa using en)⟩
  ·go_simp;have kz0:=blk_new (w.alloc (.cells #[.string o,.slice va ps.length vc] 31)) #[.slice none 0 0,.string ⟨#[]⟩,.slice none 0 0,.slice none 0 0,.pointer none,.slice none 0 0] 97;rw [World.size_alloc] at kz0;have kz:=blk_drew kz0;have bA:Below (w.heap.size+1) (w.alloc (.cells #[.string o,.slice va ps.length vc] 31)) ((w.alloc (.cells #[.string o,.slice va ps.length vc] 31)).alloc (.cells #[.slice none 0 0,.string ⟨#[]⟩,.slice none 0 0,.slice none 0 0,.pointer none,.slice none 0 0] 97)).drew:=((Below.refl _ _).alloc (by simp) _).drew;have bA':Below w.heap.size w ((w.alloc (.cells #[.string o,.slice va ps.length vc] 31)).alloc (.cells #[.slice none 0 0,.string ⟨#[]⟩,.slice none 0 0,.slice none 0 0,.pointer none,.slice none 0 0] 97)).drew:=Nm.below_two b0 (by simpa using bA)
   have hsA:((w.alloc (.cells #[.string o,.slice va ps.length vc] 31)).alloc (.cells #[.slice none 0 0,.string ⟨#[]⟩,.slice none 0 0,.slice none 0 0,.pointer none,.slice none 0 0] 97)).drew.heap.size=w.heap.size+2:=by
    show((w.alloc _).alloc _).heap.size=_
    simp
   have HSA:=Nm.hide hsA;clear kz0 hsA;refine hK.out _ _ (kS.out _ bA) (fun hHeld=>?_);clear hK K;refine wpAnyL_one (i:=1) (by kernel_rfl) rfl (fun K hK=>?_);go_simp;refine(HH.out.2.1 _ bA').mono ?_;rintro e w1 ⟨u,rfl,hown,b1⟩;obtain⟨la,lc,rfl⟩:=own_sl hown;have hs1:w.heap.size+2<=w1.heap.size:=by have:=b1.size;have:=HSA.out;omega
   have e1:Below (w.heap.size+1) (w.alloc (.cells #[.string o,.slice va ps.length vc] 31)) w1:=bA.trans (b1.mono (by have:=HSA.out;omega));have bw1:Below w.heap.size w w1:=Nm.below_two b0 (by simpa using e1);have kz1:=blk_below kz b1;have HOW:=Nm.hide hown;clear hown kz b1;go_wp2_with fail
   refine hK.out _ _ (kS.out _ e1) (fun hHeld=>?_);clear hK K;refine tkL (i:=4) (v:=?_) rfl ?_ ?_;rotate_left 1
   ·(intro W hSW;obtain⟨z0,z1⟩:=hSW;go_simp;try (with_reducible rfl))
   refine wpAnyL_one (i:=6) (by kernel_rfl) rfl (fun K hK=>?_);have rz:=fun i=>blk_cell kz1 i
   have fz:=fun i=>blk_frozen kz1 i
   go_simp;have kn:=blk_set (blk_set (blk_set (blk_set (blk_set (blk_set kz1 0 (.slice la (zoneRecs ps).length lc)) 1 (.string o)) 2 (.slice none 0 0)) 3 (.slice none 0 0)) 4 (.pointer none)) 5 (.slice none 0 0);simp only [List.setIfInBounds_toArray,List.set_cons_zero,List.set_cons_succ] at kn;have on:=own_six (v:=.slice la (zoneRecs ps).length lc) (x0:=.slice la (zoneRecs ps).length lc) (x1:=.string o) (x2:=.slice none 0 0) (x3:=.slice none 0 0) (x4:=.pointer none) (x5:=.slice none 0 0) HOW.out kz1;have oo:Outs [w.heap.size+1] w1 ((((((w1.setCell ⟨w.heap.size+1,0,none⟩ (.slice la (zoneRecs ps).length lc)).setCell ⟨w.heap.size+1,1,none⟩ (.string o)).setCell ⟨w.heap.size+1,2,none⟩ (.slice none 0 0)).setCell ⟨w.heap.size+1,3,none⟩ (.slice none 0 0)).setCell ⟨w.heap.size+1,4,none⟩ (.pointer none)).setCell ⟨w.heap.size+1,5,none⟩ (.slice none 0 0)):=outs_six;have en:=e1.trans (outs_low oo (by omega) (fun b hb=>by rw [List.mem_singleton.1 hb];exact Nat.le_refl _));clear rz fz kz1;refine hK.out _ _ (kS.out _ en) (fun hHeld=>?_);clear hK K;refine wpAnyL_done (by kernel_rfl) ?_;go_wp2_with fail
   go_meet
   case rel=>exact⟨w.heap.size+1,la,lc,rfl,by omega,kn,own_base on (Nat.zero_le _),Nm.below_two b0 (by simpa using en),blk_below k0 (by simpa using en)⟩
 case rest=>
  obtain⟨bb,la,lc,rfl,hbb,kb,hown,bwc,kZ⟩:=hcut;have hbd:=HH.out.2.2 bb la lc wc kb hown;unfold rsV at hbd;rw [<- HE.out] at hbd;obtain⟨C,I⟩:=E;simp only at hbd
  have HB:=Nm.hide (And.intro hbb bwc);clear hown kb bwc hbb k0 b0
  by_cases hC:C=0
  ·subst hC;go_wp2_with fail
   refine hbd.mono ?_;rintro e w2 ⟨rfl,hou,hp⟩;obtain⟨th,ys,aa,ac,labv,rv,os,kv,ks,B,hP⟩:=hp trivial;have kZ2:=blk_outs kZ hou (fun hm=>by have:=List.mem_singleton.1 hm;have:=HB.out.1;omega);have b2:Below w.heap.size w w2:=HB.out.2.trans (outs_low hou HB.out.2.size (fun b hb=>by rw [List.mem_singleton.1 hb];have:=HB.out.1;omega));have HP:=Nm.hide (And.intro hP b2);clear hbd hou hp hP b2 kZ;go_wp2_with fail
   have kS:Hid (∀ X,Below w2.heap.size w2 X->X.cell? ⟨w.heap.size,0,none⟩=some (.string o)∧X.cell? ⟨w.heap.size,1,none⟩=some (.slice va ps.length vc)):=by
    intro X hX;have kx:=blk_below kZ2 hX;exact⟨(blk_cell kx 0).trans rfl,(blk_cell kx 1).trans rfl⟩
   have bd:=(Below.refl w2.heap.size w2).drew;clear kZ2;go_cut [26] from 18 to 26 (fun p wx=>p=.bool (!eqZs (bldZ (zoneRecs ps)) (ps.map (·.1)))∧Below w2.heap.size w2 wx)
   case first=>
    refine wp_region_last (fun X=>X.cell? ⟨w.heap.size,0,none⟩=some (.string o)∧X.cell? ⟨w.heap.size,1,none⟩=some (.slice va ps.length vc)) 1000 (by kernel_rfl) (kS.out _ bd) (fun hHeld=>?_);refine tkL (i:=0) (v:=?_) rfl ?_ ?_;rotate_left 1
    ·(intro W hSW;obtain⟨z0,z1⟩:=hSW;go_simp;try (with_reducible rfl))
    refine tkL (i:=1) (v:=?_) rfl ?_ ?_;rotate_left 1
    ·(intro W hSW;obtain⟨z0,z1⟩:=hSW;go_simp;try (with_reducible rfl))
    refine tkL (i:=2) (v:=?_) rfl ?_ ?_;rotate_left 1
    ·(intro W hSW;obtain⟨z0,z1⟩:=hSW;go_simp;try (with_reducible rfl))
    refine tkL (i:=5) (v:=?_) rfl ?_ ?_;rotate_left 1
    ·(intro W hSW;obtain⟨z0,z1⟩:=hSW;go_simp;try (with_reducible rfl))
    refine tkL (i:=6) (v:=?_) rfl ?_ ?_;rotate_left 1
    ·(intro W hSW;obtain⟨z0,z1⟩:=hSW;go_simp;try (with_reducible rfl))
    refine wpAnyL_one (i:=3) (by kernel_rfl) rfl (fun K hK=>?_);go_simp;refine(HZ.out _ _ _ _ _ _ _ _ _ _ _ _ _ (HP.out.1.below bd)).mono ?_;rintro e w3 ⟨zv,qs,rfl,hqs,hzo,b3⟩;obtain⟨za,zc,rfl⟩:=own_sl hzo.outer;have b3':=Nm.below_two bd b3;have hfd:=fun W=>zone_field o za qs.length zc W
    go_wp2_with fail
    refine hK.out _ _ (kS.out _ b3') (fun hHeld=>?_);clear hK K;refine tkL (i:=4) (v:=?_) rfl ?_ ?_;rotate_left 1
    ·(intro W hSW;obtain⟨z0,z1⟩:=hSW;go_simp;try (with_reducible rfl))
    refine wpAnyL_one (i:=7) (by kernel_rfl) rfl (fun K hK=>?_);go_simp;refine(equalSets_any _ _ qs ps _ hzo.zrow ((HH.out.1.below HP.out.2).below b3')).mono ?_;rintro e w4 ⟨rfl,b4⟩;rw [hqs];have b4':=Nm.below_two b3' b4;go_wp2_with fail
    refine hK.out _ _ (kS.out _ b4') (fun hHeld=>?_);clear hK K;refine tkL (i:=8) (v:=?_) rfl ?_ ?_;rotate_left 1
    ·(intro W hSW;obtain⟨z0,z1⟩:=hSW;go_simp;try (with_reducible rfl))
    refine wpAnyL_done (by kernel_rfl) ?_;go_wp2_with fail
    go_meet
    case rel=>exact⟨rfl,b4'⟩
   case rest=>
    obtain⟨rfl,b5⟩:=hcut;have hEo:(bldE (zoneRecs ps) o).1=0:=by rw [<- HE.out]
    cases hq:eqZs (bldZ (zoneRecs ps)) (ps.map (·.1)) with
    |true=>
     have hok:zOK ps o=true:=by rw [zOK,decide_eq_true hEo,hq];rfl
     have HOK:=Nm.hide hok;clear hq hok hEo;go_wp2;go_ret2
     exact⟨Nm.below_two HP.out.2 b5,.inr ⟨HOK.out,bb,_,th,ys,aa,ac,labv,rv,os,kv,ks,B,rfl,HP.out.1.below b5⟩⟩
    |false=>
     have hok:zOK ps o=false:=by rw [zOK,hq,Bool.and_false]
     have HOK:=Nm.hide hok;clear hq hok hEo;go_wp2;go_ret2;exact⟨Nm.below_two HP.out.2 b5,.inl ⟨HOK.out,rfl⟩⟩
  ·have n0:(C != 0)=true:=by simpa using hC
   have hok:zOK ps o=false:=by rw [zOK,<- HE.out,decide_eq_false hC];rfl
   have HOK:=Nm.hide hok;clear hC hok;go_wp2_with fail
   refine hbd.mono ?_;rintro e w2 ⟨rfl,hou,hp⟩;have b2:Below w.heap.size w w2:=HB.out.2.trans (outs_low hou HB.out.2.size (fun b hb=>by rw [List.mem_singleton.1 hb];have:=HB.out.1;omega));clear hbd hou hp;go_wp2;go_ret2;exact⟨b2,.inl ⟨HOK.out,rfl⟩⟩
set_option maxRecDepth 100000 in
set_option maxHeartbeats 800000 in
theorem implCheckZone_any(o:ByteArray)(v:Value)(ps:List Zp)(w:World)(h:ZRow w v ps)(hs:zsum ps<=1048576)(hf:∀ p∈ps,p.1.own.size<=1048576∧∀ x∈p.1.da,x.size<=1048576)(ha:o.size<=1000000000):
 Calls Tryz.prog 18 #[.agg #[.string o,v]] w fun e w'=>e=.returned (.int .i64 (if zOK ps o=true then 0 else 32))∧Below w.heap.size w w':=by
 have k0:=blk_new w #[.string o,v] 31;have b0:=(Below.refl w.heap.size w).alloc (Nat.le_refl _) (.cells #[.string o,v] 31);have ho:=openZone_any o v ps _ (h.below b0) hs hf ha;obtain⟨va,vc,rfl⟩:∃ va vc,v=.slice va ps.length vc:=by obtain⟨⟨_,a,c,e,_⟩,_⟩:=h;exact⟨a,c,e⟩
 have r0:=fun i=>blk_cell k0 i
 obtain⟨CZ,hCZ⟩:∃ CZ:Int,CZ=if zOK ps o=true then 0 else 32:=⟨_,rfl⟩
 rw [<- hCZ];have HCZ:=Nm.hide hCZ;clear h hf hs hCZ;go_enter Tryz.func18,Tryz.ntmps18;go_wp2_with fail
 refine ho.mono ?_;rintro e w1 ⟨b1,⟨hz,rfl⟩|⟨hz,bb,lv,th,ys,aa,ac,labv,rv,os,kv,ks,B,rfl,hP⟩⟩
 ·have hC:CZ=32:=by rw [HCZ.out,hz];rfl
  clear HCZ hz ho;subst hC;go_wp2;go_ret;exact⟨rfl,Nm.below_two b0 b1⟩
 ·have hC:CZ=0:=by rw [HCZ.out,hz];rfl
  clear HCZ hz ho hP;subst hC;go_wp2;go_ret;exact⟨rfl,Nm.below_two b0 b1⟩
set_option maxRecDepth 100000 in
set_option maxHeartbeats 1600000 in
theorem implStartJournal_any(o:ByteArray)(v:Value)(ps:List Zp)(w:World)(h:ZRow w v ps)(hs:zsum ps<=1048576)(ho:o.size<=1048576)(hf:∀ p∈ps,p.1.own.size<=1048576∧∀ x∈p.1.da,x.size<=1048576)(hA:ShaAt w):
 Calls Tryz.prog 7 #[.agg #[.string o,v]] w (SjP (sjR ps o) w):=by
 obtain⟨a,cap,rfl⟩:∃ a c,v=.slice a ps.length c:=by obtain⟨⟨_,a,c,e,_⟩,_⟩:=h;exact⟨a,c,e⟩
 have kR:=blk_new w #[.string o,.slice a ps.length cap] 31;have hb:=(Below.refl w.heap.size w).alloc (Nat.le_refl _) (.cells #[.string o,.slice a ps.length cap] 31);have hc:=implCheckZone_any o _ ps _ (h.below hb) hs hf (by omega);obtain⟨R,HR⟩:∃ R,Hid (R=sjR ps o):=⟨_,rfl⟩;rw [<- HR.out]
 cases hz:zOK ps o with
 |false=>
  have HN:Hid (R=([],32)):=by show _=_;rw [HR.out,sjR,if_neg (by rw [hz];decide)]
  rw [hz,if_neg (by decide)] at hc;clear HR;go_enter Tryz.func7,Tryz.ntmps7;go_wp2_with (go_at_call 18;refine hc.mono ?_;rintro e w1 ⟨rfl,b1⟩)
  go_ret2;rw [HN.out]
  exact⟨_,rfl,World.ownsRow_nil _ _ _ _,Nm.below_two hb b1⟩
 |true=>
  have hzn:=fun W hW=>zonePayload_any o (.slice a ps.length cap) ps W (h.below hW) hs ho hz hf
  obtain⟨-,-,z3⟩:=zon_small hz hs ho hf;rw [hz,if_pos rfl] at hc;have HN:Hid (R=if 400000<(zonP o (zoneRecs ps)).length+8 then([],11) else(frmP (zonP o (zoneRecs ps)),0)):=by show _=_;rw [HR.out,sjR,if_pos hz]
  clear HR hz;generalize zonP o (zoneRecs ps)=Z at*;have hfr:=fun W (hW:Below w.heap.size w W)=>frameOf_any Z W (by omega) (hA.below hW)
  rw [<- HN.out] at hfr;obtain⟨S,hS⟩:∃ S:ByteArray,S=⟨Z.toArray⟩:=⟨_,rfl⟩;rw [<- hS] at hzn hfr;clear hS HN z3;go_enter Tryz.func7,Tryz.ntmps7;go_wp2_with fail
  go_at_call 18
  refine hc.mono ?_;rintro e w1 ⟨rfl,b1⟩;have kR1:=blk_below kR b1;have hb1:=Nm.below_two hb b1;have r1:=fun i=>blk_cell kR1 i
  go_wp2_with fail
  go_at_call 20
  refine(hzn _ hb1).mono ?_;rintro e w2 ⟨rfl,b2⟩;have hb2:=Nm.below_two hb1 b2;clear hc hzn kR1 r1 kR;go_wp2_with fail
  go_at_call 19
  refine(hfr _ hb2).mono ?_;rintro e w3 ⟨u,rfl,hu,b3⟩;have HU:Hid (w3.ownsRow w.heap.size 5 1 u R.1.length (Nm.bys R.1)):=⟨hu.1,hu.2.imp id fun⟨g,cap,cur,e,hg,r⟩=>⟨g,cap,cur,e,Nat.le_trans hb2.size hg,r⟩⟩;have hb3:=Nm.below_two hb2 b3;clear hu b3 hfr;go_wp2;go_ret2;exact⟨_,rfl,HU.out,hb3⟩
set_option maxRecDepth 100000 in
set_option maxHeartbeats 800000 in
theorem eqBy_any(v u:Value)(l:List UInt8)(w:World)(h:CRow w v l.length 1 (Nm.bys l))(h':CRow w u l.length 1 (Nm.bys l)):
 Calls Tryz.prog 8 #[v,u] w fun e w'=>e=.returned (.bool true)∧Below w.heap.size w w':=by
 obtain⟨_,a,cap,rfl,hcap,hmx,hc⟩:=h;obtain⟨_,a',cap',rfl,hcap',hmx',hc'⟩:=h';unfold maxLen at hmx;have hne:((l.length:Int) != (l.length:Int))=false:=by simp
 go_enter Tryz.func8,Tryz.ntmps8;go_wp2
 go_loopw [5] (fun i wr=>∃ k:Nat,k<=l.length∧i=.int .i64 k∧Below w.heap.size w wr) (fun i _=>l.length-(intOf i).toNat)
 case atStart=>exact⟨0,Nat.zero_le _,rfl,Below.refl _ _⟩
 case round=>
  obtain⟨k,hk,rfl,hbel⟩:=hrel
  by_cases hlt:k<l.length
  ·obtain⟨x,hx⟩:∃ x,l[k]? =some x:=⟨_,List.getElem?_eq_getElem hlt⟩;have hx':(Nm.bys l)[k]? =some (.int .u8 x.toNat):=by simp [Nm.bys,hx]
   obtain⟨b,off,rfl,hcell⟩:=hc (by omega);obtain⟨b',off',rfl,hcell'⟩:=hc' (by omega);have hcx:wr.cell? ⟨b,off+k,none⟩=some (.int .u8 x.toNat):=(hbel.cell (World.block_lt_of_cell? w _ (hcell k _ hx'))).trans (hcell k _ hx');have hcx':wr.cell? ⟨b',off'+k,none⟩=some (.int .u8 x.toNat):=(hbel.cell (World.block_lt_of_cell? w _ (hcell' k _ hx'))).trans (hcell' k _ hx');have hxx:((x.toNat:Int) != (x.toNat:Int))=false:=by simp
   have i1:(k:Int)<(l.length:Int):=by omega
   clear hx hx' hcell hcell' hc hc';go_wp2;go_region
   all_goals
    go_wp2;go_roundw
    case rel=>exact⟨k+1,by omega,by go_num,hbel.drew⟩
    case measure=>simp [intOf];omega
  ·obtain rfl:k=l.length:=by omega
   have i1:(l.length:Int)<=(l.length:Int):=by omega
   clear hc hc';go_wp2;go_ret;exact⟨rfl,hbel⟩
def bmk(n:Nat):List Value:=(List.range n).map fun i:Nat=>.int .u8 ((1+(i:Int)) % 256)
theorem bmk_len(n:Nat):(bmk n).length=n:=by simp [bmk]
theorem bmk_get{n i:Nat}(h:i<n):(bmk n)[i]? =some (.int .u8 ((1+(i:Int)) % 256)):=by simp [bmk,h]
theorem take_set{L xs:List Value}{n i:Nat}{v:Value}(hL:L.length=n)(hx:xs.length=n)(hi:i<n)(hv:L[i]? =some v):(L.take i++xs.drop i).set i v=L.take (i+1)++xs.drop (i+1):=by
 have h1:(L.take i).length=i:=by simp;omega
 obtain⟨h2,e2⟩:=List.getElem?_eq_some_iff.1 hv;rw [List.take_succ_eq_append_getElem h2,e2,List.set_append_right _ _ (by omega),h1,List.drop_eq_getElem_cons (by omega:i<xs.length),Nat.sub_self,List.set_cons_zero,List.append_assoc];rfl
set_option maxRecDepth 100000 in
set_option maxHeartbeats 1600000 in
theorem markBy_any(v:Value)(n B:Nat)(xs:List Value)(w:World)(hown:w.ownsRow B 5 1 v n xs)(hn:n<=1048576):
 Calls Tryz.prog 11 #[v,.int .i64 1] w fun e w'=>e=.returned (.int .i64 (1+(n:Int)))∧w'.ownsRow B 5 1 v n (bmk n)∧w.grownBy w' v.ownBlock:=by
 have hxl:xs.length=n:=by have:=hown.1;omega
 rcases Nat.eq_zero_or_pos n with h0|hpos
 ·subst h0
  obtain⟨a,cap,rfl⟩:∃ a cap,v=.slice a 0 cap:=by
   rcases hown.2 with⟨rfl,_⟩|⟨g,cap,cur,rfl,_⟩
   ·exact⟨_,_,rfl⟩
   ·exact⟨_,_,rfl⟩
  have hx0:xs=bmk 0:=List.eq_nil_of_length_eq_zero hxl;rw [hx0] at hown;go_enter Tryz.func11,Tryz.ntmps11;go_wp2
  go_loop [1,5] (fun t i=>t=.int .i64 1∧i=.int .i64 0) (fun _ _=>0)
  case atStart=>exact⟨rfl,rfl⟩
  case round=>
   obtain⟨rfl,rfl⟩:=hrel;go_wp2;go_ret;exact⟨rfl,hown,World.grownBy.refl _ _⟩
 ·obtain⟨g,cap,rfl,hBg⟩:∃ g cap,v=.slice (some ⟨g,0,none⟩) n cap∧B<=g:=by
   rcases hown.2 with⟨rfl,h0⟩|⟨g,cap,cur,rfl,hb,_⟩
   ·omega
   ·exact⟨g,cap,rfl,hb⟩
  have hown0:w.ownsRow B 5 1 (.slice (some ⟨g,0,none⟩) n cap) n ((bmk n).take 0++xs.drop 0):=by simpa using hown
  go_enter Tryz.func11,Tryz.ntmps11;go_wp2
  go_loopw [1,5] (fun t i wr=>∃ (j:Nat),j<=n∧i=.int .i64 (j:Int)∧t=.int .i64 (1+(j:Int))∧wr.ownsRow B 5 1 (.slice (some ⟨g,0,none⟩) n cap) n ((bmk n).take j++xs.drop j)∧w.grownBy wr (some g))
   (fun _ i _=>n-(intOf i).toNat)
  case atStart=>exact⟨0,Nat.zero_le _,rfl,rfl,hown0,World.grownBy.refl _ _⟩
  case round=>
   obtain⟨j,hj,rfl,rfl,hownj,hgr⟩:=hrel;clear hown hown0
   by_cases hlt:j<n
   ·have hyl:((bmk n).take j++xs.drop j).length=n:=by have:=hownj.1;omega
    obtain⟨y,hy⟩:∃ y,wr.cell? ⟨g,j,none⟩=some y:=by
     rw [hownj.cellAt j (by omega)];exact⟨_,List.getElem?_eq_getElem (by omega)⟩
    have hfz:=hownj.frozenAt j
    have HS:Hid ((wr.setCell ⟨g,j,none⟩ (.int .u8 ((1+(j:Int)) % 256))).ownsRow B 5 1 (.slice (some ⟨g,0,none⟩) n cap) n ((bmk n).take (j+1)++xs.drop (j+1))∧w.grownBy (wr.setCell ⟨g,j,none⟩ (.int .u8 ((1+(j:Int)) % 256))) (some g)):=by
     refine⟨?_,⟨hgr.os,hgr.tape,hgr.output,by simpa using hgr.size,fun q hq hne=>by rw [heap_setCell_other wr ⟨g,j,none⟩ q _ (fun e=>hne (by simp [e]))];exact hgr.block q hq hne⟩⟩;have:=(hownj.stored j (.int .u8 ((1+(j:Int)) % 256))).1
     rwa [take_set (bmk_len n) hxl hlt (bmk_get hlt)] at this
    have i1:(j:Int)<(n:Int):=by omega
    have e9:1+(j:Int)+1=1+((j:Int)+1):=by omega
    clear hownj hgr hyl;go_wp2;go_roundw
    case rel=>exact⟨j+1,by omega,by go_num,by go_num,HS.out.1,HS.out.2⟩
    case measure=>simp [intOf];omega
   ·obtain rfl:j=n:=by omega
    have i1:(j:Int)<=(j:Int):=by omega
    rw [List.take_of_length_le (by rw [bmk_len];omega),List.drop_of_length_le (by omega),List.append_nil] at hownj;go_wp2;go_ret;exact⟨rfl,hownj,hgr⟩
set_option maxRecDepth 100000 in
set_option maxHeartbeats 1600000 in
theorem heldBy_any(v:Value)(n:Nat)(w:World)(h:CRow w v n 1 (bmk n))(hn:n<=1048576):
 Calls Tryz.prog 12 #[v,.int .i64 1] w fun e w'=>e=.returned (.int .i64 (1+(n:Int)))∧Below w.heap.size w w':=by
 obtain⟨_,a,cap,rfl,hcap,hmx,hc⟩:=h;unfold maxLen at hmx;go_enter Tryz.func12,Tryz.ntmps12;go_wp2
 go_loopw [1,5] (fun t i wr=>∃ k:Nat,k<=n∧i=.int .i64 k∧t=.int .i64 (1+(k:Int))∧Below w.heap.size w wr) (fun _ i _=>n-(intOf i).toNat)
 case atStart=>exact⟨0,Nat.zero_le _,rfl,rfl,Below.refl _ _⟩
 case round=>
  obtain⟨k,hk,rfl,rfl,hbel⟩:=hrel
  by_cases hlt:k<n
  ·obtain⟨b,off,rfl,hcell⟩:=hc (by omega);have hcx:=(hbel.cell (World.block_lt_of_cell? w _ (hcell k _ (bmk_get hlt)))).trans (hcell k _ (bmk_get hlt));have hxx:((1+(k:Int)) % 256 != (1+(k:Int)) % 256)=false:=by simp
   have i1:(k:Int)<(n:Int):=by omega
   clear hcell hc;go_wp2;go_roundw
   case rel=>exact⟨k+1,by omega,by go_num,by go_num,hbel⟩
   case measure=>simp [intOf];omega
  ·obtain rfl:k=n:=by omega
   have i1:(k:Int)<=(k:Int):=by omega
   clear hc;go_wp2;go_ret;exact⟨rfl,hbel⟩
end Go.Proofs.YtcihkbojmbfmmaaGreatDoor
namespace Go.Proofs.YtcihkbojmbfmmaaGreatDoor
open Go.RowKit Go.ChangeShapes
theorem laid_mem{P:Program}{w:World}:∀ {l:List (String×DataW Unit)} {ps:List MemPlace},DataW.LaidVars P w l ps->∀ {n:String} {d:DataW Unit},(n,d)∈l->
 ∃ g t cs fuel p,P.globalNamed n=some g∧(P.globals[g]?).map (·.type)=some t∧w.var? P n=some cs∧DataW.trod (fun _=>()) P w 0 (fun _=>true) false fuel t cs.toList=some (d,p):=by
 intro l
 induction l with
 |nil=>intro ps _ n d h;cases h
 |cons x r ih=>
  intro ps h n d hm;obtain⟨n0,d0⟩:=x;obtain⟨g,t,cs,fuel,p,q,h1,h2,h3,h4,hr,_⟩:=h
  rcases List.mem_cons.1 hm with e|e
  ·cases e
   exact⟨g,t,cs,fuel,p,h1,h2,h3,h4⟩
  ·exact ih hr e
theorem var_block{P:Program}{w:World}{n:String}{g:Nat}{cs:Array Value}(hg:P.globalNamed n=some g)(h:w.var? P n=some cs):∃ t fr,w.heap[g]? =some (.cells cs t fr):=by
 simp only [World.var?,hg,Option.bind_some] at h
 split at h
 ·rename_i c t fr hh;cases h
  exact⟨t,fr,hh⟩
 ·cases h
theorem tab_of_laid{P:Program}{W:World}{l:List (String×DataW Unit)}(h:laidMet P l W){name:String}{k:IntKind}{zs:List Int}{g:Nat}{t e:TypeId}{n:Nat}
 (hm:(name,Lib.tabData k zs)∈l) (hg:P.globalNamed name=some g) (hty:(P.globals[g]?).map (·.type)=some t) (ht:P.underlying t=some (.array n e)) (he:P.underlying e=some (.int k)) (hce:P.cellsOf e=1) (hct:P.cellsOf t=n):
 Lib.TabIs P W name k zs:=by
 obtain⟨ps,hv,_⟩:=h;obtain⟨g',t',cs,fuel,p,hg',ht',hvar,hd⟩:=laid_mem hv hm;obtain rfl:=Option.some.inj (hg.symm.trans hg');obtain rfl:=Option.some.inj (hty.symm.trans ht');unfold Lib.TabIs;rw [hvar,<- Lib.cells_of_tab ht he hce hct hd]
end Go.Proofs.YtcihkbojmbfmmaaGreatDoor
