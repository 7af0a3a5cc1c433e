import Derived.Test.YtcodajnebegdiaaGreatCzE
import Derived.Test.YtcodajnebegdiaaGreatJZrI
import Derived.Test.YtcodajnebegdiaaGreatJLoC
import Derived.Test.YtcodajnebegdiaaGreatJMath
import Derived.Test.YtcodajnebegdiaaGreatLoK
import Derived.Test.YtcodajnebegdiaaGreatJZbB
namespace Go.Proofs.YtcodajnebegdiaaGreat
open Go.RowKit
set_option linter.unusedVariables false
theorem built_any(bb:Nat)(la:Option Addr)(lc:Nat)(list:List Rr)(apex:ByteArray)(w:World)(hk:Blk w bb #[.slice la list.length lc,.string apex,.slice none 0 0,.slice none 0 0,.pointer none,.slice none 0 0] 140)(h:w.ownsRow 0 109 5 (.slice la list.length lc) list.length (rvVs list))(ha:apex.size<=1000000000)(ho:∀ r∈list,r.own.size<=1000000000∧r.da.size<=2000000):
 Calls Tryz.prog 95 #[.pointer (some ⟨bb,0,none⟩)] w fun e w'=>e=rsV (bldE list apex).1 (bldE list apex).2∧Outs [bb] w w'∧((bldE list apex).1=0->∃ th ys aa ac labv rv os kv ks B,P3 list apex bb (.slice la list.length lc) th ys aa ac labv rv os kv ks B w'):=
 build_any bb la lc list apex w hk (CRow.of_owns h) (fun _ e=>own_nb h hk (by decide) (by have:=rowBlk_own h e;simpa using this)) (fun _ b hb=>own_lt h b (rowBlk_own h hb)) (by unfold maxLen;omega) ho
theorem outs_low{fp:List Nat}{B:Nat}{w w':World}(h:Outs fp w w')(hB:B<=w.heap.size)(hf:∀ b∈fp,B<=b):Below B w w':=
 ⟨h.os,h.tape,h.output,h.size,fun k hk=>h.block k (by omega) (fun hm=>by have:=hf k hm;omega)⟩
theorem outs_six{w:World}{b:Nat}{x0 x1 x2 x3 x4 x5:Value}:Outs [b] w ((((((w.setCell ⟨b,0,none⟩ x0).setCell ⟨b,1,none⟩ x1).setCell ⟨b,2,none⟩ x2).setCell ⟨b,3,none⟩ x3).setCell ⟨b,4,none⟩ x4).setCell ⟨b,5,none⟩ x5):=by
 have t:∀ {A C:World} {i:Nat} {x:Value},Outs [b] A C->Outs [b] A (C.setCell ⟨b,i,none⟩ x):=fun h=>h.trans outs_set (fun k hk=>.inl hk)
 exact t (t (t (t (t outs_set))))
theorem own_six{w:World}{B b n:Nat}{v:Value}{cs:Array Value}{xs:List Value}{x0 x1 x2 x3 x4 x5:Value}(h:w.ownsRow B 109 5 v n xs)(k:Blk w b cs 140):((((((w.setCell ⟨b,0,none⟩ x0).setCell ⟨b,1,none⟩ x1).setCell ⟨b,2,none⟩ x2).setCell ⟨b,3,none⟩ x3).setCell ⟨b,4,none⟩ x4).setCell ⟨b,5,none⟩ x5).ownsRow B 109 5 v n xs:=
 own_outs h outs_six (fun c hc hm=>own_nb h k (by decide) (by rw [<- List.mem_singleton.1 hc];simpa using hm))
theorem zone_field(x:ByteArray)(a:Option Addr)(n c:Nat)(W:World):(Instr.field 32 (.agg #[.string x,.slice a n c]) 1).run Tryz.prog W=.ok (.slice a n c) W:=by kernel_rfl
def OzPost(ps:List Zp)(o:ByteArray)(w:World)(e:Ending)(w':World):Prop:=Below w.heap.size w w'∧
 ((zOK ps o=false∧e=.returned (.tuple #[.pointer none,.bool false]))∨
 (zOK ps o=true∧∃ bb lv th ys aa ac labv rv os kv ks B,e=.returned (.tuple #[.pointer (some ⟨bb,3,none⟩),.bool true])∧P3 (zoneRecs ps) o bb lv th ys aa ac labv rv os kv ks B w'))
set_option maxRecDepth 100000 in
set_option maxHeartbeats 3200000 in
theorem openZone_any(o:ByteArray)(v:Value)(ps:List Zp)(w:World)(h:ZRow w v ps)(hs:zsum ps<=1048576)(hf:∀ p∈ps,p.1.own.size<=1048576∧∀ x∈p.1.da,x.size<=1048576)(ha:o.size<=1000000000):
 Calls Tryz.prog 49 #[.agg #[.string o,v]] w (OzPost ps o w):=by
 have k0:=blk_new w #[.string o,v] 32;have b0:=(Below.refl w.heap.size w).alloc (Nat.le_refl _) (.cells #[.string o,v] 32);have hzr:=fun W (hW:Below w.heap.size w W)=>implZoneRecords_any o v ps W (h.below hW) hs (fun p hp=>(hf p hp).2)
 have hrf:=recs_fit hf;have hbt:=fun bb la lc W hk hr=>built_any bb la lc (zoneRecs ps) o W hk hr ha (fun r hr=>by have:=hrf r hr;exact⟨by omega,by omega⟩)
 have HZ:Hid (∀ bb lv th ys aa ac labv rv os kv ks B W,P3 (zoneRecs ps) o bb lv th ys aa ac labv rv os kv ks B W->Calls Tryz.prog 97 #[.pointer (some ⟨bb,3,none⟩),.string o] W fun e W'=>∃ v qs,e=.returned (.agg #[.string o,v])∧qs.map (·.1)=bldZ (zoneRecs ps)∧ZOwn W' W.heap.size v qs∧Below W.heap.size W W'):=by
  intro bb lv th ys aa ac labv rv os kv ks B W hP;have hl5:=hP.hl;have hol:=hP.st.inv.len.1;rw [List.length_map] at hol;rw [zone_eq hP.st.inv hP.good.1 hP.mix];exact zone_any bb 3 th rv os B o W hP.st.tr (hP.st.inv.trs (by rw [List.length_map];omega)) (by omega) hP.st.lab ((blk_cell hP.kb 4).trans rfl) ha
 have hzv:∃ va vc,v=.slice va ps.length vc:=by obtain⟨⟨_,a,c,e,_⟩,_⟩:=h;exact⟨a,c,e⟩
 obtain⟨va,vc,rfl⟩:=hzv;have HH:=Nm.hide (And.intro h (And.intro hzr hbt));obtain⟨E,hE⟩:∃ E,E=bldE (zoneRecs ps) o:=⟨_,rfl⟩;have HE:=Nm.hide hE;clear h hzr hbt hrf hf hE;go_enter Tryz.func49,Tryz.ntmps49;go_upto_region 1 with fail
 go_cut [4] from 7 to 11 (fun p wx=>∃ (bb:Nat) (la:Option Addr) (lc:Nat),p=.pointer (some ⟨bb,0,none⟩)∧w.heap.size<bb∧Blk wx bb #[.slice la (zoneRecs ps).length lc,.string o,.slice none 0 0,.slice none 0 0,.pointer none,.slice none 0 0] 140∧wx.ownsRow 0 109 5 (.slice la (zoneRecs ps).length lc) (zoneRecs ps).length (rvVs (zoneRecs ps))∧Below w.heap.size w wx∧Blk wx w.heap.size #[.string o,.slice va ps.length vc] 32)
 case first=>
  have hd:Below w.heap.size w (w.alloc (.cells #[.string o,.slice va ps.length vc] 32)).drew:=b0.drew
  have kS:Hid (∀ X,Below (w.heap.size+1) (w.alloc (.cells #[.string o,.slice va ps.length vc] 32)) X->X.cell? ⟨w.heap.size,0,none⟩=some (.string o)∧X.cell? ⟨w.heap.size,1,none⟩=some (.slice va ps.length vc)):=by
   intro X hX;have kx:=blk_below k0 (by simpa using hX);exact⟨(blk_cell kx 0).trans rfl,(blk_cell kx 1).trans rfl⟩
  have e0:Below (w.heap.size+1) (w.alloc (.cells #[.string o,.slice va ps.length vc] 32)) (w.alloc (.cells #[.string o,.slice va ps.length vc] 32)).drew:=(Below.refl _ _).drew;refine wp_region_last (fun X=>X.cell? ⟨w.heap.size,0,none⟩=some (.string o)∧X.cell? ⟨w.heap.size,1,none⟩=some (.slice va ps.length vc)) 1000 (by kernel_rfl) (kS.out _ e0) (fun hHeld=>?_);refine tkL (i:=0) (v:=?_) rfl ?_ ?_;rotate_left 1
  ·(intro W hSW;obtain⟨z0,z1⟩:=hSW;go_simp;try (with_reducible rfl))
  refine tkL (i:=2) (v:=?_) rfl ?_ ?_;rotate_left 1
  ·(intro W hSW;obtain⟨z0,z1⟩:=hSW;go_simp;try (with_reducible rfl))
  refine tkL (i:=3) (v:=?_) rfl ?_ ?_;rotate_left 1
  ·(intro W hSW;obtain⟨z0,z1⟩:=hSW;go_simp;try (with_reducible rfl))
  refine wpAnyL_two (i:=1) (j:=5) (by kernel_rfl) rfl rfl (fun K hK=>?_) (fun K hK=>?_)
  ·go_simp;refine(HH.out.2.1 _ hd).mono ?_;rintro e w1 ⟨u,rfl,hown,b1⟩;obtain⟨la,lc,rfl⟩:=own_sl hown;have hs1:w.heap.size+1<=w1.heap.size:=by have:=b1.size;simpa [World.drew] using this
   have e1:Below (w.heap.size+1) (w.alloc (.cells #[.string o,.slice va ps.length vc] 32)) w1:=e0.trans (b1.mono (by show w.heap.size+1<=(w.alloc _).heap.size;simp));have bw1:Below w.heap.size w w1:=Nm.below_two b0 (by simpa using e1);go_wp2_with fail
   refine hK.out _ _ (kS.out _ e1) (fun hHeld=>?_);clear hK K;refine tkL (i:=4) (v:=?_) rfl ?_ ?_;rotate_left 1
   ·(intro W hSW;obtain⟨z0,z1⟩:=hSW;go_simp;try (with_reducible rfl))
   refine wpAnyL_one (i:=5) (by kernel_rfl) rfl (fun K hK=>?_);go_simp;have bz:=(Below.refl w1.heap.size w1).alloc (Nat.le_refl _) (.cells #[.slice none 0 0,.string ⟨#[]⟩,.slice none 0 0,.slice none 0 0,.pointer none,.slice none 0 0] 140);have kz:=blk_new w1 #[.slice none 0 0,.string ⟨#[]⟩,.slice none 0 0,.slice none 0 0,.pointer none,.slice none 0 0] 140;have rz:=fun i=>blk_cell kz i
   have fz:=fun i=>blk_frozen kz i
   refine hK.out _ _ (kS.out _ (e1.trans (bz.mono hs1))) (fun hHeld=>?_);clear hK K;refine wpAnyL_one (i:=6) (by kernel_rfl) rfl (fun K hK=>?_);go_simp;have bn:=(Below.refl w1.heap.size w1).alloc (Nat.le_refl _) (.cells #[.slice la (zoneRecs ps).length lc,.string o,.slice none 0 0,.slice none 0 0,.pointer none,.slice none 0 0] 140);have kn:=blk_new w1 #[.slice la (zoneRecs ps).length lc,.string o,.slice none 0 0,.slice none 0 0,.pointer none,.slice none 0 0] 140;have en:=e1.trans (bn.mono hs1);refine hK.out _ _ (kS.out _ en) (fun hHeld=>?_);clear hK K;refine wpAnyL_done (by kernel_rfl) ?_;go_wp2_with fail
   go_meet
   case rel=>exact⟨w1.heap.size,la,lc,rfl,by omega,kn,own_base (own_below hown bn) (Nat.zero_le _),Nm.below_two bw1 bn,blk_below k0 (by simpa using en)⟩
  ·go_simp;have kz0:=blk_new (w.alloc (.cells #[.string o,.slice va ps.length vc] 32)) #[.slice none 0 0,.string ⟨#[]⟩,.slice none 0 0,.slice none 0 0,.pointer none,.slice none 0 0] 140;rw [World.size_alloc] at kz0;have kz:=blk_drew kz0;have bA:Below (w.heap.size+1) (w.alloc (.cells #[.string o,.slice va ps.length vc] 32)) ((w.alloc (.cells #[.string o,.slice va ps.length vc] 32)).alloc (.cells #[.slice none 0 0,.string ⟨#[]⟩,.slice none 0 0,.slice none 0 0,.pointer none,.slice none 0 0] 140)).drew:=((Below.refl _ _).alloc (by simp) _).drew;have bA':Below w.heap.size w ((w.alloc (.cells #[.string o,.slice va ps.length vc] 32)).alloc (.cells #[.slice none 0 0,.string ⟨#[]⟩,.slice none 0 0,.slice none 0 0,.pointer none,.slice none 0 0] 140)).drew:=Nm.below_two b0 (by simpa using bA)
   have hsA:((w.alloc (.cells #[.string o,.slice va ps.length vc] 32)).alloc (.cells #[.slice none 0 0,.string ⟨#[]⟩,.slice none 0 0,.slice none 0 0,.pointer none,.slice none 0 0] 140)).drew.heap.size=w.heap.size+2:=by
    show((w.alloc _).alloc _).heap.size=_
    simp
   have HSA:=Nm.hide hsA;clear kz0 hsA;refine hK.out _ _ (kS.out _ bA) (fun hHeld=>?_);clear hK K;refine wpAnyL_one (i:=1) (by kernel_rfl) rfl (fun K hK=>?_);go_simp;refine(HH.out.2.1 _ bA').mono ?_;rintro e w1 ⟨u,rfl,hown,b1⟩;obtain⟨la,lc,rfl⟩:=own_sl hown;have hs1:w.heap.size+2<=w1.heap.size:=by have:=b1.size;have:=HSA.out;omega
   have e1:Below (w.heap.size+1) (w.alloc (.cells #[.string o,.slice va ps.length vc] 32)) w1:=bA.trans (b1.mono (by have:=HSA.out;omega));have bw1:Below w.heap.size w w1:=Nm.below_two b0 (by simpa using e1);have kz1:=blk_below kz b1;have HOW:=Nm.hide hown;clear hown kz b1;go_wp2_with fail
   refine hK.out _ _ (kS.out _ e1) (fun hHeld=>?_);clear hK K;refine tkL (i:=4) (v:=?_) rfl ?_ ?_;rotate_left 1
   ·(intro W hSW;obtain⟨z0,z1⟩:=hSW;go_simp;try (with_reducible rfl))
   refine wpAnyL_one (i:=6) (by kernel_rfl) rfl (fun K hK=>?_);have rz:=fun i=>blk_cell kz1 i
   have fz:=fun i=>blk_frozen kz1 i
   go_simp;have kn:=blk_set (blk_set (blk_set (blk_set (blk_set (blk_set kz1 0 (.slice la (zoneRecs ps).length lc)) 1 (.string o)) 2 (.slice none 0 0)) 3 (.slice none 0 0)) 4 (.pointer none)) 5 (.slice none 0 0);simp only [List.setIfInBounds_toArray,List.set_cons_zero,List.set_cons_succ] at kn;have on:=own_six (v:=.slice la (zoneRecs ps).length lc) (x0:=.slice la (zoneRecs ps).length lc) (x1:=.string o) (x2:=.slice none 0 0) (x3:=.slice none 0 0) (x4:=.pointer none) (x5:=.slice none 0 0) HOW.out kz1;have oo:Outs [w.heap.size+1] w1 ((((((w1.setCell ⟨w.heap.size+1,0,none⟩ (.slice la (zoneRecs ps).length lc)).setCell ⟨w.heap.size+1,1,none⟩ (.string o)).setCell ⟨w.heap.size+1,2,none⟩ (.slice none 0 0)).setCell ⟨w.heap.size+1,3,none⟩ (.slice none 0 0)).setCell ⟨w.heap.size+1,4,none⟩ (.pointer none)).setCell ⟨w.heap.size+1,5,none⟩ (.slice none 0 0)):=outs_six;have en:=e1.trans (outs_low oo (by omega) (fun b hb=>by rw [List.mem_singleton.1 hb];exact Nat.le_refl _));clear rz fz kz1;refine hK.out _ _ (kS.out _ en) (fun hHeld=>?_);clear hK K;refine wpAnyL_done (by kernel_rfl) ?_;go_wp2_with fail
   go_meet
   case rel=>exact⟨w.heap.size+1,la,lc,rfl,by omega,kn,own_base on (Nat.zero_le _),Nm.below_two b0 (by simpa using en),blk_below k0 (by simpa using en)⟩
 case rest=>
  obtain⟨bb,la,lc,rfl,hbb,kb,hown,bwc,kZ⟩:=hcut;have hbd:=HH.out.2.2 bb la lc wc kb hown;unfold rsV at hbd;rw [<- HE.out] at hbd;obtain⟨C,I⟩:=E;simp only at hbd
  have HB:=Nm.hide (And.intro hbb bwc);clear hown kb bwc hbb k0 b0
  by_cases hC:C=0
  ·subst hC;go_wp2_with fail
   refine hbd.mono ?_;rintro e w2 ⟨rfl,hou,hp⟩;obtain⟨th,ys,aa,ac,labv,rv,os,kv,ks,B,hP⟩:=hp trivial;have kZ2:=blk_outs kZ hou (fun hm=>by have:=List.mem_singleton.1 hm;have:=HB.out.1;omega);have b2:Below w.heap.size w w2:=HB.out.2.trans (outs_low hou HB.out.2.size (fun b hb=>by rw [List.mem_singleton.1 hb];have:=HB.out.1;omega));have HP:=Nm.hide (And.intro hP b2);clear hbd hou hp hP b2 kZ;go_wp2_with fail
   have kS:Hid (∀ X,Below w2.heap.size w2 X->X.cell? ⟨w.heap.size,0,none⟩=some (.string o)∧X.cell? ⟨w.heap.size,1,none⟩=some (.slice va ps.length vc)):=by
    intro X hX;have kx:=blk_below kZ2 hX;exact⟨(blk_cell kx 0).trans rfl,(blk_cell kx 1).trans rfl⟩
   have bd:=(Below.refl w2.heap.size w2).drew;clear kZ2;go_cut [26] from 18 to 26 (fun p wx=>p=.bool (!eqZs (bldZ (zoneRecs ps)) (ps.map (·.1)))∧Below w2.heap.size w2 wx)
   case first=>
    refine wp_region_last (fun X=>X.cell? ⟨w.heap.size,0,none⟩=some (.string o)∧X.cell? ⟨w.heap.size,1,none⟩=some (.slice va ps.length vc)) 1000 (by kernel_rfl) (kS.out _ bd) (fun hHeld=>?_);refine tkL (i:=0) (v:=?_) rfl ?_ ?_;rotate_left 1
    ·(intro W hSW;obtain⟨z0,z1⟩:=hSW;go_simp;try (with_reducible rfl))
    refine tkL (i:=1) (v:=?_) rfl ?_ ?_;rotate_left 1
    ·(intro W hSW;obtain⟨z0,z1⟩:=hSW;go_simp;try (with_reducible rfl))
    refine tkL (i:=2) (v:=?_) rfl ?_ ?_;rotate_left 1
    ·(intro W hSW;obtain⟨z0,z1⟩:=hSW;go_simp;try (with_reducible rfl))
    refine tkL (i:=5) (v:=?_) rfl ?_ ?_;rotate_left 1
    ·(intro W hSW;obtain⟨z0,z1⟩:=hSW;go_simp;try (with_reducible rfl))
    refine tkL (i:=6) (v:=?_) rfl ?_ ?_;rotate_left 1
    ·(intro W hSW;obtain⟨z0,z1⟩:=hSW;go_simp;try (with_reducible rfl))
    refine wpAnyL_one (i:=3) (by kernel_rfl) rfl (fun K hK=>?_);go_simp;refine(HZ.out _ _ _ _ _ _ _ _ _ _ _ _ _ (HP.out.1.below bd)).mono ?_;rintro e w3 ⟨zv,qs,rfl,hqs,hzo,b3⟩;obtain⟨za,zc,rfl⟩:=own_sl hzo.outer;have b3':=Nm.below_two bd b3;have hfd:=fun W=>zone_field o za qs.length zc W
    go_wp2_with fail
    refine hK.out _ _ (kS.out _ b3') (fun hHeld=>?_);clear hK K;refine tkL (i:=4) (v:=?_) rfl ?_ ?_;rotate_left 1
    ·(intro W hSW;obtain⟨z0,z1⟩:=hSW;go_simp;try (with_reducible rfl))
    refine wpAnyL_one (i:=7) (by kernel_rfl) rfl (fun K hK=>?_);go_simp;refine(equalSets_any _ _ qs ps _ hzo.zrow ((HH.out.1.below HP.out.2).below b3')).mono ?_;rintro e w4 ⟨rfl,b4⟩;rw [hqs];have b4':=Nm.below_two b3' b4;go_wp2_with fail
    refine hK.out _ _ (kS.out _ b4') (fun hHeld=>?_);clear hK K;refine tkL (i:=8) (v:=?_) rfl ?_ ?_;rotate_left 1
    ·(intro W hSW;obtain⟨z0,z1⟩:=hSW;go_simp;try (with_reducible rfl))
    refine wpAnyL_done (by kernel_rfl) ?_;go_wp2_with fail
    go_meet
    case rel=>exact⟨rfl,b4'⟩
   case rest=>
    obtain⟨rfl,b5⟩:=hcut;have hEo:(bldE (zoneRecs ps) o).1=0:=by rw [<- HE.out]
    cases hq:eqZs (bldZ (zoneRecs ps)) (ps.map (·.1)) with
    |true=>
     have hok:zOK ps o=true:=by rw [zOK,decide_eq_true hEo,hq];rfl
     have HOK:=Nm.hide hok;clear hq hok hEo;go_wp2;go_ret2
     exact⟨Nm.below_two HP.out.2 b5,.inr ⟨HOK.out,bb,_,th,ys,aa,ac,labv,rv,os,kv,ks,B,rfl,HP.out.1.below b5⟩⟩
    |false=>
     have hok:zOK ps o=false:=by rw [zOK,hq,Bool.and_false]
     have HOK:=Nm.hide hok;clear hq hok hEo;go_wp2;go_ret2;exact⟨Nm.below_two HP.out.2 b5,.inl ⟨HOK.out,rfl⟩⟩
  ·have n0:(C != 0)=true:=by simpa using hC
   have hok:zOK ps o=false:=by rw [zOK,<- HE.out,decide_eq_false hC];rfl
   have HOK:=Nm.hide hok;clear hC hok;go_wp2_with fail
   refine hbd.mono ?_;rintro e w2 ⟨rfl,hou,hp⟩;have b2:Below w.heap.size w w2:=HB.out.2.trans (outs_low hou HB.out.2.size (fun b hb=>by rw [List.mem_singleton.1 hb];have:=HB.out.1;omega));clear hbd hou hp;go_wp2;go_ret2;exact⟨b2,.inl ⟨HOK.out,rfl⟩⟩
theorem name39{d:ByteArray}(h:cutCode 39 d=0):∃ zs,Nm.split d=some zs:=by
 have h1:(Dt.spans [.nm] 0 d).isSome=true:=by
  rw [cutCode,if_neg (by omega)] at h
  split at h
  ·cases h
  ·split at h
   ·rename_i h2;exact h2
   ·cases h
 rw [Dt.spans] at h1
 cases hs:Dt.sz .nm d with
 |none=>rw [hs] at h1;cases h1
 |some n=>
  rw [hs] at h1;simp only [Option.isSome_map] at h1
  have hn:n=(Dt.nameAtS d).size∧(Dt.nameAtS d).size≠0:=by
   change (if(Dt.nameAtS d).size=0 then none else some (Dt.nameAtS d).size)=some n at hs
   split at hs
   ·cases hs
   ·rename_i h0;simp only [Option.some.injEq] at hs;exact⟨hs.symm,h0⟩
  have hle:(Dt.nameAtS d).size<=d.size:=Dt.nameF_le 256 d 0;rw [Dt.spans] at h1
  have he:(d.extract n d.size).size=0:=by
   split at h1
   ·rename_i h2;exact h2
   ·cases h1
  rw [ByteArray.size_extract] at he;have:=(Dt.name_iff d).2 ⟨hn.2,by omega⟩;exact Option.isSome_iff_exists.1 this
section
variable {list:List Rr}{o:ByteArray}{bb:Nat}{lv:Value}{th:Nat}{ys:List ByteArray}{aa:Option Addr}{ac:Nat}{labv rv:Value}{os:List GOw}{kv:Value}{ks:List Ld}{B:Nat}{W:World}
theorem P3.full(hP:P3 list o bb lv th ys aa ac labv rv os kv ks B W):∀ c∈os,∀ s∈c.ss,0<s.da.length:=by
 intro c hc s hs;have hT:=hP.st.inv;obtain⟨x,hF,-⟩:=hT.set c hc s hs;obtain⟨c',hc',h1,s',hs',h2,p,hp,-⟩:=hT.cov x hF.mem;have e1:c'=c:=hT.one hc' hc (by rw [<- cmpLs_eq_left h1];exact hF.2.1.1);subst e1;have e2:s'=s:=(hT.sorted.2 c' hc').1.one hs' hs (by rw [h2];exact hF.2.1.2);subst e2;exact List.length_pos_of_mem hp
theorem P3.d39(hP:P3 list o bb lv th ys aa ac labv rv os kv ks B W):∀ c∈os,∀ s∈c.ss,s.ty=39->∃ zs,Nm.split (hdB (szT (c,s)).da)=some zs:=by
 intro c hc s hs h39;have h0:=hP.full c hc s hs
 obtain⟨p,r,hda⟩:∃ p r,s.da=p::r:=by
  cases hx:s.da with
  |nil=>rw [hx] at h0;simp at h0
  |cons p r=>exact⟨p,r,rfl⟩
 obtain⟨i,x,hF,hx⟩:=hP.st.inv.dat c hc s hs p (by rw [hda];simp);have e:hdB (szT (c,s)).da=x.r.da:=by simp [hdB,szT,hda,hx]
 rw [e];obtain⟨r',hr',rfl⟩:=List.mem_map.1 hF.mem;have h1:=bad_none _ _ hP.ok r' hr'
 have hty:r'.ty=39:=by
  have:=hF.2.1.1.2;rw [h39] at this;exact this
 have h2:cutCode 39 r'.da=0:=by
  rw [oneC] at h1
  split at h1
  ·cases h1
  ·split at h1
   ·cases h1
   ·split at h1
    ·cases h1
    ·split at h1
     ·cases h1
     ·split at h1
      ·cases h1
      ·rename_i h9;rw [hty] at h9;exact Decidable.not_not.1 h9
 exact name39 h2
end
def lsOK(ps:List Zp)(o name:ByteArray)(q:Int):Prop:=zOK ps o=true∧(Nm.split name).isSome=true∧1<=q∧q<=65535
open Classical in
noncomputable def lsR (ps:List Zp) (o name:ByteArray) (q:Int):Stp×Int:=if lsOK ps o name q then(lkZ ps o name q,0) else(stp 0,32)
def OqP(ps:List Zp)(o name:ByteArray)(q:Int)(w:World)(e:Ending)(w':World):Prop:=Below w.heap.size w w'∧
 ((¬lsOK ps o name q∧e=.returned (.tuple #[.pointer none,.slice none 0 0,.bool false]))∨
  (lsOK ps o name q∧∃ bb lv th ys aa ac labv rv os kv ks B la lc lab,e=.returned (.tuple #[.pointer (some ⟨bb,3,none⟩),.slice la (List.length lab) lc,.bool true])∧Nm.split name=some lab∧P3 (zoneRecs ps) o bb lv th ys aa ac labv rv os kv ks B w'∧Nm.SRow w' (.slice la lab.length lc) lab))
set_option maxRecDepth 100000 in
set_option maxHeartbeats 1600000 in
theorem openQuery_any(o name:ByteArray)(q:Int)(v:Value)(ps:List Zp)(w:World)(h:ZRow w v ps)(hs:zsum ps<=1048576)(hf:∀ p∈ps,p.1.own.size<=1048576∧∀ x∈p.1.da,x.size<=1048576)(ha:o.size<=1000000000)(hn:name.size<=1000000000):
 Calls Tryz.prog 24 #[.agg #[.string o,v],.string name,.int .i64 q] w (OqP ps o name q w):=by
 obtain⟨va,vc,rfl⟩:∃ va vc,v=.slice va ps.length vc:=by obtain⟨⟨_,a,c,e,_⟩,_⟩:=h;exact⟨a,c,e⟩
 have b0:=(Below.refl w.heap.size w).alloc (Nat.le_refl _) (.cells #[.string o,.slice va ps.length vc] 32);have k0:=blk_new w #[.string o,.slice va ps.length vc] 32;have hop:=openZone_any o (.slice va ps.length vc) ps _ (h.below b0) hs hf ha;have hsp:=fun W=>splitName_any name W (by unfold maxLen;omega)
 have hwi:=fun W=>within_any q 65535 W
 have r0:=fun i=>blk_cell k0 i
 have HB:Hid (∀ e w',Below w.heap.size w w'->¬lsOK ps o name q->e=.returned (.tuple #[.pointer none,.slice none 0 0,.bool false])->OqP ps o name q w e w'):=fun e w' h1 h2 h3=>⟨h1,.inl ⟨h2,h3⟩⟩
 clear h hf hs;go_enter Tryz.func24,Tryz.ntmps24;go_wp2_with fail
 refine hop.mono ?_;rintro e w1 ⟨hb1,⟨hz,rfl⟩|⟨hz,bb,lv,th,ys,aa,ac,labv,rv,os,kv,ks,B,rfl,hP⟩⟩
 ·have bw1:=Nm.below_two b0 hb1;have HN:Hid (¬lsOK ps o name q):=fun hh=>by rw [hh.1] at hz;cases hz
  clear hz hop k0 b0 hb1 r0;go_wp2_with fail
  refine(hsp _).mono ?_;rintro e w2 ⟨lv,rfl,hov,b2⟩;generalize (Nm.split name).isSome=SB at*;generalize (Nm.split name).getD []=SL at*;obtain⟨la,lc,rfl⟩:=own_sl hov;clear hov hsp;go_wp2;go_ret3;exact HB.out _ _ (Nm.below_two bw1 b2) HN.out rfl
 ·have bw1:=Nm.below_two b0 hb1;clear hop k0 b0 hb1 r0;go_wp2_with fail
  refine(hsp _).mono ?_;rintro e w2 ⟨lv',rfl,hov,b2⟩;have bw2:=Nm.below_two bw1 b2;have hP2:=hP.below b2
  cases hsn:Nm.split name with
  |none=>
   rw [hsn] at hov;have HN:Hid (¬lsOK ps o name q):=fun hh=>by have:=hh.2.1;rw [hsn] at this;cases this
   obtain⟨la,lc,rfl⟩:=own_sl hov;simp only [Option.isSome_none,Option.getD_none,List.length_nil] at hov ⊢;clear hz hP hP2 hsp hsn bw1 hov;go_wp2;go_ret3
   exact HB.out _ _ bw2 HN.out rfl
  |some lab=>
   rw [hsn] at hov;simp only [Option.getD_some] at hov;obtain⟨la,lc,rfl⟩:=own_sl hov;have hrow:=Nm.SRow.of_owns hov;simp only [Option.isSome_some]
   by_cases hq0:q=0
   ·have HN:Hid (¬lsOK ps o name q):=fun hh=>by have:=hh.2.2.1;omega
    have i1:(q==0)=true:=by simpa using hq0
    clear hz hP hP2 hsp hsn bw1 hov hrow hq0;go_wp2;go_ret3;exact HB.out _ _ bw2 HN.out rfl
   ·have i1:(q==0)=false:=by simpa using hq0
    by_cases hq1:0<=q∧q<=65535
    ·have e1:(decide (0<=q)&&decide (q<=65535))=true:=by simp [hq1.1,hq1.2]
     rw [e1] at hwi;have HG:Hid (OqP ps o name q w (.returned (.tuple #[.pointer (some ⟨bb,3,none⟩),.slice la lab.length lc,.bool true])) w2):=⟨bw2,.inr ⟨⟨hz,by rw [hsn];rfl,by omega,hq1.2⟩,bb,lv,th,ys,aa,ac,labv,rv,os,kv,ks,B,la,lc,lab,rfl,hsn,hP2,hrow⟩⟩;clear hz hP hP2 hsp hsn bw1 hov hrow hq0 e1 hq1;go_wp2_with (go_at_call 51;refine(hwi _).mono ?_;rintro e wf ⟨rfl,hw⟩;obtain rfl:=hw.symm;clear hw)
     go_ret3;exact HG.out
    ·have e1:(decide (0<=q)&&decide (q<=65535))=false:=by
      rw [Bool.and_eq_false_iff,decide_eq_false_iff_not,decide_eq_false_iff_not];omega
     rw [e1] at hwi;have HN:Hid (¬lsOK ps o name q):=fun hh=>hq1 ⟨by have:=hh.2.2.1;omega,hh.2.2.2⟩
     clear hz hP hP2 hsp hsn bw1 hov hrow hq0 e1 hq1;go_wp2_with (go_at_call 51;refine(hwi _).mono ?_;rintro e wf ⟨rfl,hw⟩;obtain rfl:=hw.symm;clear hw)
     go_ret3;exact HB.out _ _ bw2 HN.out rfl
end Go.Proofs.YtcodajnebegdiaaGreat
