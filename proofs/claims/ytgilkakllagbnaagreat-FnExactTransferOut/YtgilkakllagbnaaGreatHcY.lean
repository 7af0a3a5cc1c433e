import Derived.Test.YtgilkakllagbnaaGreatJZrM
import Derived.Test.YtgilkakllagbnaaGreatHcA
import Derived.Test.YtgilkakllagbnaaGreatJDzY
import Derived.Test.YtgilkakllagbnaaGreatJRrM
import Derived.Test.YtgilkakllagbnaaGreatJStI
import Derived.Test.YtgilkakllagbnaaGreatJGoodM
namespace Go.Proofs.YtgilkakllagbnaaGreat
open Go.RowKit
set_option linter.unusedVariables false
section
variable {P:Program}{ops:Array Oper}{Q:Exit->Act->World->Prop}{md:Region.Mode}{S:World->Prop}{L:Nat}
theorem wpAnyL_3{i j k:Nat}{o o1 o2:Oper}{fuel:Nat}{listed:Array Bool}{a:Act}{w:World}(hr:Region.ready md ops listed=[i,j,k])(ho:ops[i]? =some o)(ho1:ops[j]? =some o1)(ho2:ops[k]? =some o2)
 (h:∀ K':Act->World->Prop,Shut (∀ a w,S w->(S w->wpAnyL P md ops Q S L fuel (listed.setIfInBounds i true) a w)->K' a w)->if Region.wanted o (yielded ops a.tmps)=true then Oper.wp P o a w K' Q else K' (a.put o.dst undef) w)
 (h1:∀ K':Act->World->Prop,Shut (∀ a w,S w->(S w->wpAnyL P md ops Q S L fuel (listed.setIfInBounds j true) a w)->K' a w)->if Region.wanted o1 (yielded ops a.tmps)=true then Oper.wp P o1 a w K' Q else K' (a.put o1.dst undef) w)
 (h2:∀ K':Act->World->Prop,Shut (∀ a w,S w->(S w->wpAnyL P md ops Q S L fuel (listed.setIfInBounds k true) a w)->K' a w)->if Region.wanted o2 (yielded ops a.tmps)=true then Oper.wp P o2 a w K' Q else K' (a.put o2.dst undef) w):
 wpAnyL P md ops Q S L (fuel+1) listed a w:=by
 refine⟨fun h0=>(by rw [hr] at h0;cases h0),fun q hq=>?_⟩;rw [hr] at hq
 rcases(show q=i∨q=j∨q=k by simpa using hq) with rfl|rfl|rfl
 ·exact wpOp_step ho (fun K' hK=>h K' (fun a w hS hW=>hK a w ⟨.inr hS,hW hS⟩))
 ·exact wpOp_step ho1 (fun K' hK=>h1 K' (fun a w hS hW=>hK a w ⟨.inr hS,hW hS⟩))
 ·exact wpOp_step ho2 (fun K' hK=>h2 K' (fun a w hS hW=>hK a w ⟨.inr hS,hW hS⟩))
end
theorem rowE{W:World}{B:Nat}{u:Value}{l:List Rr}{s:Rr}(h:W.ownsRow B 56 5 u (l.length+1) (rvVs l++[.string s.own,.int .i64 s.ty,.int .i64 s.cl,.int .i64 s.tt,.string s.da])):W.ownsRow B 56 5 u (l++[s]).length (rvVs (l++[s])):=by
 rw [rvVs_app,List.length_append];exact h
def OuW(w:World)(g:Nat)(s:Rr)(o:ByteArray)(zv:Value)(RS:List Rr)(u:Value)(wx:World):Prop:=
 wx.ownsRow w.heap.size 56 5 u ([s]++RS++[s]).length (rvVs ([s]++RS++[s]))∧Blk wx w.heap.size #[.string o,zv] 33∧Blk wx g #[.string s.own,.int .i64 s.ty,.int .i64 s.cl,.int .i64 s.tt,.string s.da] 56∧Below w.heap.size w wx
set_option maxRecDepth 100000 in
set_option maxHeartbeats 12800000 in
theorem l11Out_any(o:ByteArray)(v hv:Value)(ps:List Zp)(hs:List Hp)(qt sn:Int)(w:World)(h:ZRow w v ps)(hh:HRow w hv hs)(hsz:zsum ps<=1048576)(hpl:ps.length<=1048576)(hF:FitZ ps)(ho:o.size<=1048576)(hz:zOK ps o=true)(hl40:hs.length<=40)(hl500:∀ c∈hs.map (·.1),c.del.length<=500∧c.add.length<=500)(hfo:∀ p∈hs,p.1.old.da.size<=2000000):
 Calls Tryz.prog 22 #[.agg #[.string o,v],hv,.int .i64 qt,.int .i64 sn] w fun e w'=>∃ u,e=.returned u∧w'.ownsRow w.heap.size 56 5 u (outT (soaOf ps) (restR (zoneRecs ps)) (hs.map (·.1)) qt sn).length (rvVs (outT (soaOf ps) (restR (zoneRecs ps)) (hs.map (·.1)) qt sn))∧Below w.heap.size w w':=by
 obtain⟨va,vc,rfl⟩:∃ va vc,v=.slice va ps.length vc:=by obtain⟨⟨_,a,c,e,_⟩,_⟩:=h;exact⟨a,c,e⟩
 obtain⟨i0,hi,hz0,hz1,hz2⟩:=info_parts Tryz.infoRw;have hso:=fun W (hW:Below w.heap.size w W)=>l11Soa_ok o _ ps W (h.below hW) hpl hF (by unfold maxLen;omega) hz
 have hser:=fun W (hW:Below w.heap.size w W)=>l10Serial_ok o _ ps W (h.below hW) hpl hF (by unfold maxLen;omega) hz
 have hre:=fun W (hW:Below w.heap.size w W)=>l11Rest_any o _ ps W (h.below hW) hsz hpl
 have hRl:(restR (zoneRecs ps)).length<=500:=by have:=zOK_len hz;have:=List.length_filter_le (fun x=> !is6 x) (zoneRecs ps);unfold restR;omega
 generalize soaOf ps=s at*;generalize restR (zoneRecs ps)=RS at*;obtain⟨R,HR⟩:∃ R,Hid (R=outT s RS (hs.map (·.1)) qt sn):=⟨_,rfl⟩;rw [<- HR.out];have b0:=(Below.refl w.heap.size w).alloc (Nat.le_refl _) (.cells #[.string o,.slice va ps.length vc] 33);have k0:=blk_new w #[.string o,.slice va ps.length vc] 33;have r0:=fun i=>blk_cell k0 i
 clear h hz hF hpl hsz ho;go_enter Tryz.func22,Tryz.ntmps22;go_wp2_with fail
 go_at_call 49
 refine(hso _ b0).mono ?_;rintro e w1 ⟨rfl,b1⟩;have cA:=(Below.refl w1.heap.size w1).alloc (Nat.le_refl _) (.cells #[.string s.own,.int .i64 s.ty,.int .i64 s.cl,.int .i64 s.tt,.string s.da] 56);have q0:=blk_new w1 #[.string s.own,.int .i64 s.ty,.int .i64 s.cl,.int .i64 s.tt,.string s.da] 56;have p0:=blk_below (blk_below k0 b1) cA;have bw:=Nm.below_two (Nm.below_two b0 b1) cA;have y0:w1.heap.size<(w1.alloc (.cells #[.string s.own,.int .i64 s.ty,.int .i64 s.cl,.int .i64 s.tt,.string s.da] 56)).heap.size:=by simp
 have ya:w.heap.size<w1.heap.size:=by have:=blk_lt k0;have:=b1.size;omega
 clear r0 k0 b0 b1 hso cA;go_upto_region 2 with fail
 generalize hW1:w1.alloc (.cells #[.string s.own,.int .i64 s.ty,.int .i64 s.cl,.int .i64 s.tt,.string s.da] 56)=W1 at*;clear hW1;go_cut [10] from 17 to 24 (fun u wx=>∃ U,U=u∧OuW w w1.heap.size s o (.slice va ps.length vc) RS U wx)
 case first=>
  have bd:=(Below.refl W1.heap.size W1).drew;have p0:=blk_below p0 bd;have q0:=blk_below q0 bd;have b0:=Nm.below_two bw bd;have yd:W1.heap.size<=W1.drew.heap.size:=Nat.le_refl _;clear bd hser HR hh hfo hl500 bw;refine wp_region_last (fun X=>Blk X w.heap.size #[.string o,.slice va ps.length vc] 33∧Blk X w1.heap.size #[.string s.own,.int .i64 s.ty,.int .i64 s.cl,.int .i64 s.tt,.string s.da] 56) 1000 (by kernel_rfl) ⟨p0,q0⟩ (fun hHeld=>?_);generalize W1.drew=X0 at*;refine wpAnyL_take (i:=0) (v:=?_) rfl (by kernel_rfl) (by kernel_rfl) (by kernel_rfl) (by kernel_rfl) (fun _ _ _ h=>h) (Or.inl ⟨by kernel_rfl,?_⟩) (by assumption) ?_;rotate_left 1
  ·(rintro W ⟨s1,s2⟩;have ss1:=(fun i=>blk_cell s1 i);have ss2:=(fun i=>blk_cell s2 i);go_simp;try (with_reducible rfl))
  refine wpAnyL_take (i:=2) (v:=?_) rfl (by kernel_rfl) (by kernel_rfl) (by kernel_rfl) (by kernel_rfl) (fun _ _ _ h=>h) (Or.inl ⟨by kernel_rfl,?_⟩) (by assumption) ?_;rotate_left 1
  ·(rintro W ⟨s1,s2⟩;have ss1:=(fun i=>blk_cell s1 i);have ss2:=(fun i=>blk_cell s2 i);go_simp;try (with_reducible rfl))
  refine wpAnyL_take (i:=5) (v:=?_) rfl (by kernel_rfl) (by kernel_rfl) (by kernel_rfl) (by kernel_rfl) (fun _ _ _ h=>h) (Or.inl ⟨by kernel_rfl,?_⟩) (by assumption) ?_;rotate_left 1
  ·(rintro W ⟨s1,s2⟩;have ss1:=(fun i=>blk_cell s1 i);have ss2:=(fun i=>blk_cell s2 i);go_simp;try (with_reducible rfl))
  refine wpAnyL_3 (i:=1) (j:=3) (k:=6) (by kernel_rfl) rfl rfl rfl (fun K hK=>?_) (fun K hK=>?_) (fun K hK=>?_)
  ·go_simp;have c0:=(Below.refl X0.heap.size X0).alloc (Nat.le_refl _) (.cells #[.string s.own,.int .i64 s.ty,.int .i64 s.cl,.int .i64 s.tt,.string s.da] 56);have o1:(X0.alloc (.cells #[.string s.own,.int .i64 s.ty,.int .i64 s.cl,.int .i64 s.tt,.string s.da] 56)).ownsRow w.heap.size 56 5 (.slice (some ⟨X0.heap.size,0,none⟩) 1 1) 1 (rvVs [s]):=World.ownsRow_lit (base:=w.heap.size) (e:=56) (size:=5) X0 #[.string s.own,.int .i64 s.ty,.int .i64 s.cl,.int .i64 s.tt,.string s.da] 1 (by omega) (by decide) rfl;have y1:X0.heap.size<(X0.alloc (.cells #[.string s.own,.int .i64 s.ty,.int .i64 s.cl,.int .i64 s.tt,.string s.da] 56)).heap.size:=by simp
   have p1:=blk_below p0 c0;have q1:=blk_below q0 c0;have b1:=Nm.below_two b0 c0;refine hK.out _ _ ⟨p1,q1⟩ (fun hHeld=>?_);clear hK K c0;generalize hX1:X0.alloc (.cells #[.string s.own,.int .i64 s.ty,.int .i64 s.cl,.int .i64 s.tt,.string s.da] 56)=X1 at*;clear hX1;refine wpAnyL_two (i:=3) (j:=6) (by kernel_rfl) rfl rfl (fun K hK=>?_) (fun K hK=>?_)
   ·go_simp;refine(hre X1 b1).mono ?_;rintro e X2 ⟨z,rfl,o3,c1⟩;have y2:=c1.size;have p2:=blk_below p1 c1;have q2:=blk_below q1 c1;have b2:=Nm.below_two b1 c1;have o1:=own_below o1 c1;have z3:=fun g hg=>o3.lt g hg
    go_wp2_with fail
    refine hK.out _ _ ⟨p2,q2⟩ (fun hHeld=>?_);clear hK K c1;refine wpAnyL_two (i:=4) (j:=6) (by kernel_rfl) rfl rfl (fun K hK=>?_) (fun K hK=>?_)
    ·go_simp;refine(l06JoinK_any _ z [s] RS w.heap.size X2 o1 (fun W hW=>crow_grown (CRow.of_owns o3) hW (fun g hg e=>by have:=z3 g hg;simp [Value.ownBlock] at e;omega)) (by omega) (by simp;omega)).mono ?_;rintro e X3 ⟨u,rfl,o4,g4,hu4⟩;have y3:=g4.size;have p3:=blk_grown p2 g4 (by simp [Value.ownBlock];omega);have q3:=blk_grown q2 g4 (by simp [Value.ownBlock];omega);have b3:=b2.grown g4 (by omega) (fun g hg=>by simp [Value.ownBlock] at hg;omega)
     have u4:∀ g,u.ownBlock=some g->W1.heap.size<=g:=fun g hg=>by
      by_cases hl:g<X2.heap.size
      ·have e:=hu4 g hg hl;simp [Value.ownBlock] at e
       omega
      ·omega
     go_wp2_with fail
     refine hK.out _ _ ⟨p3,q3⟩ (fun hHeld=>?_);clear hK K g4 hu4 o1 o3 z3;refine wpAnyL_one (i:=6) (by kernel_rfl) rfl (fun K hK=>?_);go_simp;have c3:=(Below.refl X3.heap.size X3).alloc (Nat.le_refl _) (.cells #[.string s.own,.int .i64 s.ty,.int .i64 s.cl,.int .i64 s.tt,.string s.da] 56);have k6:=blk_new X3 #[.string s.own,.int .i64 s.ty,.int .i64 s.cl,.int .i64 s.tt,.string s.da] 56;have y4:X3.heap.size<(X3.alloc (.cells #[.string s.own,.int .i64 s.ty,.int .i64 s.cl,.int .i64 s.tt,.string s.da] 56)).heap.size:=by simp
     have p4:=blk_below p3 c3;have q4:=blk_below q3 c3;have b4:=Nm.below_two b3 c3;have o4:=own_below o4 c3;refine hK.out _ _ ⟨p4,q4⟩ (fun hHeld=>?_);clear hK K c3;generalize hX4:X3.alloc (.cells #[.string s.own,.int .i64 s.ty,.int .i64 s.cl,.int .i64 s.tt,.string s.da] 56)=X4 at*;clear hX4;refine wpAnyL_one (i:=7) (by kernel_rfl) rfl (fun K hK=>?_);refine step_append_own rfl (.tmp 21) (.tmp 23) 28 rfl w.heap.size 56 i0 (.agg #[.string ByteArray.empty,.int .i64 0,.int .i64 0,.int .i64 0,.string ByteArray.empty]) 5 56 Tryz.underlying28 hi hz0 hz1 hz2 rfl (by decide) u _ _ (by go_simp) o4 ⟨X3.heap.size,0,none⟩ 1 1 [.string s.own,.int .i64 s.ty,.int .i64 s.cl,.int .i64 s.tt,.string s.da] (by go_simp) rfl (fun j z hz=>by rw [Nm.addr_add,Nat.zero_add];exact(blk_cell k6 j).trans (by simpa using hz)) (by intro z hz;simp at hz;rcases hz with rfl|rfl|rfl|rfl|rfl<;>rfl) (by unfold maxLen;simp;omega) (by simp;omega) (by omega) ?_;intro u7 X7 o7 g7 _;have p7:=blk_grown p4 g7 (fun e=>by have:=u4 _ e;omega);have q7:=blk_grown q4 g7 (fun e=>by have:=u4 _ e;omega);have b7:=b4.grown g7 (by omega) (fun g hg=>by have:=u4 g hg;omega);have o8:=Nm.hide (rowE o7);refine hK.out _ _ ⟨p7,q7⟩ (fun hHeld=>?_);clear hK K o7 g7 o4 u4;refine wpAnyL_take (i:=8) (v:=?_) rfl (by kernel_rfl) (by kernel_rfl) (by kernel_rfl) (by kernel_rfl) (fun _ _ _ h=>h) (Or.inl ⟨by kernel_rfl,?_⟩) (by assumption) ?_;rotate_left 1
     ·(rintro W ⟨s1,s2⟩;have ss1:=(fun i=>blk_cell s1 i);have ss2:=(fun i=>blk_cell s2 i);go_simp;try (with_reducible rfl))
     refine wpAnyL_done (by kernel_rfl) ?_;go_simp;go_wp2_with fail
     go_meet
     case rel=>exact⟨_,rfl,o8.out,p7,q7,b7⟩
    ·go_simp;have c2:=(Below.refl X2.heap.size X2).alloc (Nat.le_refl _) (.cells #[.string s.own,.int .i64 s.ty,.int .i64 s.cl,.int .i64 s.tt,.string s.da] 56);have k6:=blk_new X2 #[.string s.own,.int .i64 s.ty,.int .i64 s.cl,.int .i64 s.tt,.string s.da] 56;have y3:X2.heap.size<(X2.alloc (.cells #[.string s.own,.int .i64 s.ty,.int .i64 s.cl,.int .i64 s.tt,.string s.da] 56)).heap.size:=by simp
     have p3:=blk_below p2 c2;have q3:=blk_below q2 c2;have b3:=Nm.below_two b2 c2;have o1:=own_below o1 c2;have o3:=own_below o3 c2;refine hK.out _ _ ⟨p3,q3⟩ (fun hHeld=>?_);clear hK K c2;generalize hX3:X2.alloc (.cells #[.string s.own,.int .i64 s.ty,.int .i64 s.cl,.int .i64 s.tt,.string s.da] 56)=X3 at*;clear hX3;refine wpAnyL_one (i:=4) (by kernel_rfl) rfl (fun K hK=>?_);go_simp;refine(l06JoinK_any _ z [s] RS w.heap.size X3 o1 (fun W hW=>crow_grown (CRow.of_owns o3) hW (fun g hg e=>by have:=z3 g hg;simp [Value.ownBlock] at e;omega)) (by omega) (by simp;omega)).mono ?_;rintro e X4 ⟨u,rfl,o4,g4,hu4⟩;have y4:=g4.size;have p4:=blk_grown p3 g4 (by simp [Value.ownBlock];omega);have q4:=blk_grown q3 g4 (by simp [Value.ownBlock];omega);have b4:=b3.grown g4 (by omega) (fun g hg=>by simp [Value.ownBlock] at hg;omega);have k6:=blk_grown k6 g4 (by simp [Value.ownBlock];omega)
     have u4:∀ g,u.ownBlock=some g->W1.heap.size<=g:=fun g hg=>by
      by_cases hl:g<X3.heap.size
      ·have e:=hu4 g hg hl;simp [Value.ownBlock] at e
       omega
      ·omega
     go_wp2_with fail
     refine hK.out _ _ ⟨p4,q4⟩ (fun hHeld=>?_);clear hK K g4 hu4 o1 o3 z3;refine wpAnyL_one (i:=7) (by kernel_rfl) rfl (fun K hK=>?_);refine step_append_own rfl (.tmp 21) (.tmp 23) 28 rfl w.heap.size 56 i0 (.agg #[.string ByteArray.empty,.int .i64 0,.int .i64 0,.int .i64 0,.string ByteArray.empty]) 5 56 Tryz.underlying28 hi hz0 hz1 hz2 rfl (by decide) u _ _ (by go_simp) o4 ⟨X2.heap.size,0,none⟩ 1 1 [.string s.own,.int .i64 s.ty,.int .i64 s.cl,.int .i64 s.tt,.string s.da] (by go_simp) rfl (fun j z hz=>by rw [Nm.addr_add,Nat.zero_add];exact(blk_cell k6 j).trans (by simpa using hz)) (by intro z hz;simp at hz;rcases hz with rfl|rfl|rfl|rfl|rfl<;>rfl) (by unfold maxLen;simp;omega) (by simp;omega) (by omega) ?_;intro u7 X7 o7 g7 _;have p7:=blk_grown p4 g7 (fun e=>by have:=u4 _ e;omega);have q7:=blk_grown q4 g7 (fun e=>by have:=u4 _ e;omega);have b7:=b4.grown g7 (by omega) (fun g hg=>by have:=u4 g hg;omega);have o8:=Nm.hide (rowE o7);refine hK.out _ _ ⟨p7,q7⟩ (fun hHeld=>?_);clear hK K o7 g7 o4 u4;refine wpAnyL_take (i:=8) (v:=?_) rfl (by kernel_rfl) (by kernel_rfl) (by kernel_rfl) (by kernel_rfl) (fun _ _ _ h=>h) (Or.inl ⟨by kernel_rfl,?_⟩) (by assumption) ?_;rotate_left 1
     ·(rintro W ⟨s1,s2⟩;have ss1:=(fun i=>blk_cell s1 i);have ss2:=(fun i=>blk_cell s2 i);go_simp;try (with_reducible rfl))
     refine wpAnyL_done (by kernel_rfl) ?_;go_simp;go_wp2_with fail
     go_meet
     case rel=>exact⟨_,rfl,o8.out,p7,q7,b7⟩
   ·go_simp;have c1:=(Below.refl X1.heap.size X1).alloc (Nat.le_refl _) (.cells #[.string s.own,.int .i64 s.ty,.int .i64 s.cl,.int .i64 s.tt,.string s.da] 56);have k6:=blk_new X1 #[.string s.own,.int .i64 s.ty,.int .i64 s.cl,.int .i64 s.tt,.string s.da] 56;have y2:X1.heap.size<(X1.alloc (.cells #[.string s.own,.int .i64 s.ty,.int .i64 s.cl,.int .i64 s.tt,.string s.da] 56)).heap.size:=by simp
    have p2:=blk_below p1 c1;have q2:=blk_below q1 c1;have b2:=Nm.below_two b1 c1;have o1:=own_below o1 c1;refine hK.out _ _ ⟨p2,q2⟩ (fun hHeld=>?_);clear hK K c1;generalize hX2:X1.alloc (.cells #[.string s.own,.int .i64 s.ty,.int .i64 s.cl,.int .i64 s.tt,.string s.da] 56)=X2 at*;clear hX2;refine wpAnyL_one (i:=3) (by kernel_rfl) rfl (fun K hK=>?_);go_simp;refine(hre X2 b2).mono ?_;rintro e X3 ⟨z,rfl,o3,c2⟩;have y3:=c2.size;have p3:=blk_below p2 c2;have q3:=blk_below q2 c2;have b3:=Nm.below_two b2 c2;have o1:=own_below o1 c2;have k6:=blk_below k6 c2;have z3:=fun g hg=>o3.lt g hg
    go_wp2_with fail
    refine hK.out _ _ ⟨p3,q3⟩ (fun hHeld=>?_);clear hK K c2;refine wpAnyL_one (i:=4) (by kernel_rfl) rfl (fun K hK=>?_);go_simp;refine(l06JoinK_any _ z [s] RS w.heap.size X3 o1 (fun W hW=>crow_grown (CRow.of_owns o3) hW (fun g hg e=>by have:=z3 g hg;simp [Value.ownBlock] at e;omega)) (by omega) (by simp;omega)).mono ?_;rintro e X4 ⟨u,rfl,o4,g4,hu4⟩;have y4:=g4.size;have p4:=blk_grown p3 g4 (by simp [Value.ownBlock];omega);have q4:=blk_grown q3 g4 (by simp [Value.ownBlock];omega);have b4:=b3.grown g4 (by omega) (fun g hg=>by simp [Value.ownBlock] at hg;omega);have k6:=blk_grown k6 g4 (by simp [Value.ownBlock];omega)
    have u4:∀ g,u.ownBlock=some g->W1.heap.size<=g:=fun g hg=>by
     by_cases hl:g<X3.heap.size
     ·have e:=hu4 g hg hl;simp [Value.ownBlock] at e
      omega
     ·omega
    go_wp2_with fail
    refine hK.out _ _ ⟨p4,q4⟩ (fun hHeld=>?_);clear hK K g4 hu4 o1 o3 z3;refine wpAnyL_one (i:=7) (by kernel_rfl) rfl (fun K hK=>?_);refine step_append_own rfl (.tmp 21) (.tmp 23) 28 rfl w.heap.size 56 i0 (.agg #[.string ByteArray.empty,.int .i64 0,.int .i64 0,.int .i64 0,.string ByteArray.empty]) 5 56 Tryz.underlying28 hi hz0 hz1 hz2 rfl (by decide) u _ _ (by go_simp) o4 ⟨X1.heap.size,0,none⟩ 1 1 [.string s.own,.int .i64 s.ty,.int .i64 s.cl,.int .i64 s.tt,.string s.da] (by go_simp) rfl (fun j z hz=>by rw [Nm.addr_add,Nat.zero_add];exact(blk_cell k6 j).trans (by simpa using hz)) (by intro z hz;simp at hz;rcases hz with rfl|rfl|rfl|rfl|rfl<;>rfl) (by unfold maxLen;simp;omega) (by simp;omega) (by omega) ?_;intro u7 X7 o7 g7 _;have p7:=blk_grown p4 g7 (fun e=>by have:=u4 _ e;omega);have q7:=blk_grown q4 g7 (fun e=>by have:=u4 _ e;omega);have b7:=b4.grown g7 (by omega) (fun g hg=>by have:=u4 g hg;omega);have o8:=Nm.hide (rowE o7);refine hK.out _ _ ⟨p7,q7⟩ (fun hHeld=>?_);clear hK K o7 g7 o4 u4;refine wpAnyL_take (i:=8) (v:=?_) rfl (by kernel_rfl) (by kernel_rfl) (by kernel_rfl) (by kernel_rfl) (fun _ _ _ h=>h) (Or.inl ⟨by kernel_rfl,?_⟩) (by assumption) ?_;rotate_left 1
    ·(rintro W ⟨s1,s2⟩;have ss1:=(fun i=>blk_cell s1 i);have ss2:=(fun i=>blk_cell s2 i);go_simp;try (with_reducible rfl))
    refine wpAnyL_done (by kernel_rfl) ?_;go_simp;go_wp2_with fail
    go_meet
    case rel=>exact⟨_,rfl,o8.out,p7,q7,b7⟩
  ·go_simp;refine(hre X0 b0).mono ?_;rintro e X1 ⟨z,rfl,o3,c0⟩;have y1:=c0.size;have p1:=blk_below p0 c0;have q1:=blk_below q0 c0;have b1:=Nm.below_two b0 c0;have z3:=fun g hg=>o3.lt g hg
   go_wp2_with fail
   refine hK.out _ _ ⟨p1,q1⟩ (fun hHeld=>?_);clear hK K c0;refine wpAnyL_two (i:=1) (j:=6) (by kernel_rfl) rfl rfl (fun K hK=>?_) (fun K hK=>?_)
   ·go_simp;have c1:=(Below.refl X1.heap.size X1).alloc (Nat.le_refl _) (.cells #[.string s.own,.int .i64 s.ty,.int .i64 s.cl,.int .i64 s.tt,.string s.da] 56);have o1:(X1.alloc (.cells #[.string s.own,.int .i64 s.ty,.int .i64 s.cl,.int .i64 s.tt,.string s.da] 56)).ownsRow w.heap.size 56 5 (.slice (some ⟨X1.heap.size,0,none⟩) 1 1) 1 (rvVs [s]):=World.ownsRow_lit (base:=w.heap.size) (e:=56) (size:=5) X1 #[.string s.own,.int .i64 s.ty,.int .i64 s.cl,.int .i64 s.tt,.string s.da] 1 (by omega) (by decide) rfl;have y2:X1.heap.size<(X1.alloc (.cells #[.string s.own,.int .i64 s.ty,.int .i64 s.cl,.int .i64 s.tt,.string s.da] 56)).heap.size:=by simp
    have p2:=blk_below p1 c1;have q2:=blk_below q1 c1;have b2:=Nm.below_two b1 c1;have o3:=own_below o3 c1;refine hK.out _ _ ⟨p2,q2⟩ (fun hHeld=>?_);clear hK K c1;generalize hX2:X1.alloc (.cells #[.string s.own,.int .i64 s.ty,.int .i64 s.cl,.int .i64 s.tt,.string s.da] 56)=X2 at*;clear hX2;refine wpAnyL_two (i:=4) (j:=6) (by kernel_rfl) rfl rfl (fun K hK=>?_) (fun K hK=>?_)
    ·go_simp;refine(l06JoinK_any _ z [s] RS w.heap.size X2 o1 (fun W hW=>crow_grown (CRow.of_owns o3) hW (fun g hg e=>by have:=z3 g hg;simp [Value.ownBlock] at e;omega)) (by omega) (by simp;omega)).mono ?_;rintro e X3 ⟨u,rfl,o4,g4,hu4⟩;have y3:=g4.size;have p3:=blk_grown p2 g4 (by simp [Value.ownBlock];omega);have q3:=blk_grown q2 g4 (by simp [Value.ownBlock];omega);have b3:=b2.grown g4 (by omega) (fun g hg=>by simp [Value.ownBlock] at hg;omega)
     have u4:∀ g,u.ownBlock=some g->W1.heap.size<=g:=fun g hg=>by
      by_cases hl:g<X2.heap.size
      ·have e:=hu4 g hg hl;simp [Value.ownBlock] at e
       omega
      ·omega
     go_wp2_with fail
     refine hK.out _ _ ⟨p3,q3⟩ (fun hHeld=>?_);clear hK K g4 hu4 o1 o3 z3;refine wpAnyL_one (i:=6) (by kernel_rfl) rfl (fun K hK=>?_);go_simp;have c3:=(Below.refl X3.heap.size X3).alloc (Nat.le_refl _) (.cells #[.string s.own,.int .i64 s.ty,.int .i64 s.cl,.int .i64 s.tt,.string s.da] 56);have k6:=blk_new X3 #[.string s.own,.int .i64 s.ty,.int .i64 s.cl,.int .i64 s.tt,.string s.da] 56;have y4:X3.heap.size<(X3.alloc (.cells #[.string s.own,.int .i64 s.ty,.int .i64 s.cl,.int .i64 s.tt,.string s.da] 56)).heap.size:=by simp
     have p4:=blk_below p3 c3;have q4:=blk_below q3 c3;have b4:=Nm.below_two b3 c3;have o4:=own_below o4 c3;refine hK.out _ _ ⟨p4,q4⟩ (fun hHeld=>?_);clear hK K c3;generalize hX4:X3.alloc (.cells #[.string s.own,.int .i64 s.ty,.int .i64 s.cl,.int .i64 s.tt,.string s.da] 56)=X4 at*;clear hX4;refine wpAnyL_one (i:=7) (by kernel_rfl) rfl (fun K hK=>?_);refine step_append_own rfl (.tmp 21) (.tmp 23) 28 rfl w.heap.size 56 i0 (.agg #[.string ByteArray.empty,.int .i64 0,.int .i64 0,.int .i64 0,.string ByteArray.empty]) 5 56 Tryz.underlying28 hi hz0 hz1 hz2 rfl (by decide) u _ _ (by go_simp) o4 ⟨X3.heap.size,0,none⟩ 1 1 [.string s.own,.int .i64 s.ty,.int .i64 s.cl,.int .i64 s.tt,.string s.da] (by go_simp) rfl (fun j z hz=>by rw [Nm.addr_add,Nat.zero_add];exact(blk_cell k6 j).trans (by simpa using hz)) (by intro z hz;simp at hz;rcases hz with rfl|rfl|rfl|rfl|rfl<;>rfl) (by unfold maxLen;simp;omega) (by simp;omega) (by omega) ?_;intro u7 X7 o7 g7 _;have p7:=blk_grown p4 g7 (fun e=>by have:=u4 _ e;omega);have q7:=blk_grown q4 g7 (fun e=>by have:=u4 _ e;omega);have b7:=b4.grown g7 (by omega) (fun g hg=>by have:=u4 g hg;omega);have o8:=Nm.hide (rowE o7);refine hK.out _ _ ⟨p7,q7⟩ (fun hHeld=>?_);clear hK K o7 g7 o4 u4;refine wpAnyL_take (i:=8) (v:=?_) rfl (by kernel_rfl) (by kernel_rfl) (by kernel_rfl) (by kernel_rfl) (fun _ _ _ h=>h) (Or.inl ⟨by kernel_rfl,?_⟩) (by assumption) ?_;rotate_left 1
     ·(rintro W ⟨s1,s2⟩;have ss1:=(fun i=>blk_cell s1 i);have ss2:=(fun i=>blk_cell s2 i);go_simp;try (with_reducible rfl))
     refine wpAnyL_done (by kernel_rfl) ?_;go_simp;go_wp2_with fail
     go_meet
     case rel=>exact⟨_,rfl,o8.out,p7,q7,b7⟩
    ·go_simp;have c2:=(Below.refl X2.heap.size X2).alloc (Nat.le_refl _) (.cells #[.string s.own,.int .i64 s.ty,.int .i64 s.cl,.int .i64 s.tt,.string s.da] 56);have k6:=blk_new X2 #[.string s.own,.int .i64 s.ty,.int .i64 s.cl,.int .i64 s.tt,.string s.da] 56;have y3:X2.heap.size<(X2.alloc (.cells #[.string s.own,.int .i64 s.ty,.int .i64 s.cl,.int .i64 s.tt,.string s.da] 56)).heap.size:=by simp
     have p3:=blk_below p2 c2;have q3:=blk_below q2 c2;have b3:=Nm.below_two b2 c2;have o1:=own_below o1 c2;have o3:=own_below o3 c2;refine hK.out _ _ ⟨p3,q3⟩ (fun hHeld=>?_);clear hK K c2;generalize hX3:X2.alloc (.cells #[.string s.own,.int .i64 s.ty,.int .i64 s.cl,.int .i64 s.tt,.string s.da] 56)=X3 at*;clear hX3;refine wpAnyL_one (i:=4) (by kernel_rfl) rfl (fun K hK=>?_);go_simp;refine(l06JoinK_any _ z [s] RS w.heap.size X3 o1 (fun W hW=>crow_grown (CRow.of_owns o3) hW (fun g hg e=>by have:=z3 g hg;simp [Value.ownBlock] at e;omega)) (by omega) (by simp;omega)).mono ?_;rintro e X4 ⟨u,rfl,o4,g4,hu4⟩;have y4:=g4.size;have p4:=blk_grown p3 g4 (by simp [Value.ownBlock];omega);have q4:=blk_grown q3 g4 (by simp [Value.ownBlock];omega);have b4:=b3.grown g4 (by omega) (fun g hg=>by simp [Value.ownBlock] at hg;omega);have k6:=blk_grown k6 g4 (by simp [Value.ownBlock];omega)
     have u4:∀ g,u.ownBlock=some g->W1.heap.size<=g:=fun g hg=>by
      by_cases hl:g<X3.heap.size
      ·have e:=hu4 g hg hl;simp [Value.ownBlock] at e
       omega
      ·omega
     go_wp2_with fail
     refine hK.out _ _ ⟨p4,q4⟩ (fun hHeld=>?_);clear hK K g4 hu4 o1 o3 z3;refine wpAnyL_one (i:=7) (by kernel_rfl) rfl (fun K hK=>?_);refine step_append_own rfl (.tmp 21) (.tmp 23) 28 rfl w.heap.size 56 i0 (.agg #[.string ByteArray.empty,.int .i64 0,.int .i64 0,.int .i64 0,.string ByteArray.empty]) 5 56 Tryz.underlying28 hi hz0 hz1 hz2 rfl (by decide) u _ _ (by go_simp) o4 ⟨X2.heap.size,0,none⟩ 1 1 [.string s.own,.int .i64 s.ty,.int .i64 s.cl,.int .i64 s.tt,.string s.da] (by go_simp) rfl (fun j z hz=>by rw [Nm.addr_add,Nat.zero_add];exact(blk_cell k6 j).trans (by simpa using hz)) (by intro z hz;simp at hz;rcases hz with rfl|rfl|rfl|rfl|rfl<;>rfl) (by unfold maxLen;simp;omega) (by simp;omega) (by omega) ?_;intro u7 X7 o7 g7 _;have p7:=blk_grown p4 g7 (fun e=>by have:=u4 _ e;omega);have q7:=blk_grown q4 g7 (fun e=>by have:=u4 _ e;omega);have b7:=b4.grown g7 (by omega) (fun g hg=>by have:=u4 g hg;omega);have o8:=Nm.hide (rowE o7);refine hK.out _ _ ⟨p7,q7⟩ (fun hHeld=>?_);clear hK K o7 g7 o4 u4;refine wpAnyL_take (i:=8) (v:=?_) rfl (by kernel_rfl) (by kernel_rfl) (by kernel_rfl) (by kernel_rfl) (fun _ _ _ h=>h) (Or.inl ⟨by kernel_rfl,?_⟩) (by assumption) ?_;rotate_left 1
     ·(rintro W ⟨s1,s2⟩;have ss1:=(fun i=>blk_cell s1 i);have ss2:=(fun i=>blk_cell s2 i);go_simp;try (with_reducible rfl))
     refine wpAnyL_done (by kernel_rfl) ?_;go_simp;go_wp2_with fail
     go_meet
     case rel=>exact⟨_,rfl,o8.out,p7,q7,b7⟩
   ·go_simp;have c1:=(Below.refl X1.heap.size X1).alloc (Nat.le_refl _) (.cells #[.string s.own,.int .i64 s.ty,.int .i64 s.cl,.int .i64 s.tt,.string s.da] 56);have k6:=blk_new X1 #[.string s.own,.int .i64 s.ty,.int .i64 s.cl,.int .i64 s.tt,.string s.da] 56;have y2:X1.heap.size<(X1.alloc (.cells #[.string s.own,.int .i64 s.ty,.int .i64 s.cl,.int .i64 s.tt,.string s.da] 56)).heap.size:=by simp
    have p2:=blk_below p1 c1;have q2:=blk_below q1 c1;have b2:=Nm.below_two b1 c1;have o3:=own_below o3 c1;refine hK.out _ _ ⟨p2,q2⟩ (fun hHeld=>?_);clear hK K c1;generalize hX2:X1.alloc (.cells #[.string s.own,.int .i64 s.ty,.int .i64 s.cl,.int .i64 s.tt,.string s.da] 56)=X2 at*;clear hX2;refine wpAnyL_one (i:=1) (by kernel_rfl) rfl (fun K hK=>?_);go_simp;have c2:=(Below.refl X2.heap.size X2).alloc (Nat.le_refl _) (.cells #[.string s.own,.int .i64 s.ty,.int .i64 s.cl,.int .i64 s.tt,.string s.da] 56);have o1:(X2.alloc (.cells #[.string s.own,.int .i64 s.ty,.int .i64 s.cl,.int .i64 s.tt,.string s.da] 56)).ownsRow w.heap.size 56 5 (.slice (some ⟨X2.heap.size,0,none⟩) 1 1) 1 (rvVs [s]):=World.ownsRow_lit (base:=w.heap.size) (e:=56) (size:=5) X2 #[.string s.own,.int .i64 s.ty,.int .i64 s.cl,.int .i64 s.tt,.string s.da] 1 (by omega) (by decide) rfl;have y3:X2.heap.size<(X2.alloc (.cells #[.string s.own,.int .i64 s.ty,.int .i64 s.cl,.int .i64 s.tt,.string s.da] 56)).heap.size:=by simp
    have p3:=blk_below p2 c2;have q3:=blk_below q2 c2;have b3:=Nm.below_two b2 c2;have o3:=own_below o3 c2;have k6:=blk_below k6 c2;refine hK.out _ _ ⟨p3,q3⟩ (fun hHeld=>?_);clear hK K c2;generalize hX3:X2.alloc (.cells #[.string s.own,.int .i64 s.ty,.int .i64 s.cl,.int .i64 s.tt,.string s.da] 56)=X3 at*;clear hX3;refine wpAnyL_one (i:=4) (by kernel_rfl) rfl (fun K hK=>?_);go_simp;refine(l06JoinK_any _ z [s] RS w.heap.size X3 o1 (fun W hW=>crow_grown (CRow.of_owns o3) hW (fun g hg e=>by have:=z3 g hg;simp [Value.ownBlock] at e;omega)) (by omega) (by simp;omega)).mono ?_;rintro e X4 ⟨u,rfl,o4,g4,hu4⟩;have y4:=g4.size;have p4:=blk_grown p3 g4 (by simp [Value.ownBlock];omega);have q4:=blk_grown q3 g4 (by simp [Value.ownBlock];omega);have b4:=b3.grown g4 (by omega) (fun g hg=>by simp [Value.ownBlock] at hg;omega);have k6:=blk_grown k6 g4 (by simp [Value.ownBlock];omega)
    have u4:∀ g,u.ownBlock=some g->W1.heap.size<=g:=fun g hg=>by
     by_cases hl:g<X3.heap.size
     ·have e:=hu4 g hg hl;simp [Value.ownBlock] at e
      omega
     ·omega
    go_wp2_with fail
    refine hK.out _ _ ⟨p4,q4⟩ (fun hHeld=>?_);clear hK K g4 hu4 o1 o3 z3;refine wpAnyL_one (i:=7) (by kernel_rfl) rfl (fun K hK=>?_);refine step_append_own rfl (.tmp 21) (.tmp 23) 28 rfl w.heap.size 56 i0 (.agg #[.string ByteArray.empty,.int .i64 0,.int .i64 0,.int .i64 0,.string ByteArray.empty]) 5 56 Tryz.underlying28 hi hz0 hz1 hz2 rfl (by decide) u _ _ (by go_simp) o4 ⟨X1.heap.size,0,none⟩ 1 1 [.string s.own,.int .i64 s.ty,.int .i64 s.cl,.int .i64 s.tt,.string s.da] (by go_simp) rfl (fun j z hz=>by rw [Nm.addr_add,Nat.zero_add];exact(blk_cell k6 j).trans (by simpa using hz)) (by intro z hz;simp at hz;rcases hz with rfl|rfl|rfl|rfl|rfl<;>rfl) (by unfold maxLen;simp;omega) (by simp;omega) (by omega) ?_;intro u7 X7 o7 g7 _;have p7:=blk_grown p4 g7 (fun e=>by have:=u4 _ e;omega);have q7:=blk_grown q4 g7 (fun e=>by have:=u4 _ e;omega);have b7:=b4.grown g7 (by omega) (fun g hg=>by have:=u4 g hg;omega);have o8:=Nm.hide (rowE o7);refine hK.out _ _ ⟨p7,q7⟩ (fun hHeld=>?_);clear hK K o7 g7 o4 u4;refine wpAnyL_take (i:=8) (v:=?_) rfl (by kernel_rfl) (by kernel_rfl) (by kernel_rfl) (by kernel_rfl) (fun _ _ _ h=>h) (Or.inl ⟨by kernel_rfl,?_⟩) (by assumption) ?_;rotate_left 1
    ·(rintro W ⟨s1,s2⟩;have ss1:=(fun i=>blk_cell s1 i);have ss2:=(fun i=>blk_cell s2 i);go_simp;try (with_reducible rfl))
    refine wpAnyL_done (by kernel_rfl) ?_;go_simp;go_wp2_with fail
    go_meet
    case rel=>exact⟨_,rfl,o8.out,p7,q7,b7⟩
  ·go_simp;have c0:=(Below.refl X0.heap.size X0).alloc (Nat.le_refl _) (.cells #[.string s.own,.int .i64 s.ty,.int .i64 s.cl,.int .i64 s.tt,.string s.da] 56);have k6:=blk_new X0 #[.string s.own,.int .i64 s.ty,.int .i64 s.cl,.int .i64 s.tt,.string s.da] 56;have y1:X0.heap.size<(X0.alloc (.cells #[.string s.own,.int .i64 s.ty,.int .i64 s.cl,.int .i64 s.tt,.string s.da] 56)).heap.size:=by simp
   have p1:=blk_below p0 c0;have q1:=blk_below q0 c0;have b1:=Nm.below_two b0 c0;refine hK.out _ _ ⟨p1,q1⟩ (fun hHeld=>?_);clear hK K c0;generalize hX1:X0.alloc (.cells #[.string s.own,.int .i64 s.ty,.int .i64 s.cl,.int .i64 s.tt,.string s.da] 56)=X1 at*;clear hX1;refine wpAnyL_two (i:=1) (j:=3) (by kernel_rfl) rfl rfl (fun K hK=>?_) (fun K hK=>?_)
   ·go_simp;have c1:=(Below.refl X1.heap.size X1).alloc (Nat.le_refl _) (.cells #[.string s.own,.int .i64 s.ty,.int .i64 s.cl,.int .i64 s.tt,.string s.da] 56);have o1:(X1.alloc (.cells #[.string s.own,.int .i64 s.ty,.int .i64 s.cl,.int .i64 s.tt,.string s.da] 56)).ownsRow w.heap.size 56 5 (.slice (some ⟨X1.heap.size,0,none⟩) 1 1) 1 (rvVs [s]):=World.ownsRow_lit (base:=w.heap.size) (e:=56) (size:=5) X1 #[.string s.own,.int .i64 s.ty,.int .i64 s.cl,.int .i64 s.tt,.string s.da] 1 (by omega) (by decide) rfl;have y2:X1.heap.size<(X1.alloc (.cells #[.string s.own,.int .i64 s.ty,.int .i64 s.cl,.int .i64 s.tt,.string s.da] 56)).heap.size:=by simp
    have p2:=blk_below p1 c1;have q2:=blk_below q1 c1;have b2:=Nm.below_two b1 c1;have k6:=blk_below k6 c1;refine hK.out _ _ ⟨p2,q2⟩ (fun hHeld=>?_);clear hK K c1;generalize hX2:X1.alloc (.cells #[.string s.own,.int .i64 s.ty,.int .i64 s.cl,.int .i64 s.tt,.string s.da] 56)=X2 at*;clear hX2;refine wpAnyL_one (i:=3) (by kernel_rfl) rfl (fun K hK=>?_);go_simp;refine(hre X2 b2).mono ?_;rintro e X3 ⟨z,rfl,o3,c2⟩;have y3:=c2.size;have p3:=blk_below p2 c2;have q3:=blk_below q2 c2;have b3:=Nm.below_two b2 c2;have o1:=own_below o1 c2;have k6:=blk_below k6 c2;have z3:=fun g hg=>o3.lt g hg
    go_wp2_with fail
    refine hK.out _ _ ⟨p3,q3⟩ (fun hHeld=>?_);clear hK K c2;refine wpAnyL_one (i:=4) (by kernel_rfl) rfl (fun K hK=>?_);go_simp;refine(l06JoinK_any _ z [s] RS w.heap.size X3 o1 (fun W hW=>crow_grown (CRow.of_owns o3) hW (fun g hg e=>by have:=z3 g hg;simp [Value.ownBlock] at e;omega)) (by omega) (by simp;omega)).mono ?_;rintro e X4 ⟨u,rfl,o4,g4,hu4⟩;have y4:=g4.size;have p4:=blk_grown p3 g4 (by simp [Value.ownBlock];omega);have q4:=blk_grown q3 g4 (by simp [Value.ownBlock];omega);have b4:=b3.grown g4 (by omega) (fun g hg=>by simp [Value.ownBlock] at hg;omega);have k6:=blk_grown k6 g4 (by simp [Value.ownBlock];omega)
    have u4:∀ g,u.ownBlock=some g->W1.heap.size<=g:=fun g hg=>by
     by_cases hl:g<X3.heap.size
     ·have e:=hu4 g hg hl;simp [Value.ownBlock] at e
      omega
     ·omega
    go_wp2_with fail
    refine hK.out _ _ ⟨p4,q4⟩ (fun hHeld=>?_);clear hK K g4 hu4 o1 o3 z3;refine wpAnyL_one (i:=7) (by kernel_rfl) rfl (fun K hK=>?_);refine step_append_own rfl (.tmp 21) (.tmp 23) 28 rfl w.heap.size 56 i0 (.agg #[.string ByteArray.empty,.int .i64 0,.int .i64 0,.int .i64 0,.string ByteArray.empty]) 5 56 Tryz.underlying28 hi hz0 hz1 hz2 rfl (by decide) u _ _ (by go_simp) o4 ⟨X0.heap.size,0,none⟩ 1 1 [.string s.own,.int .i64 s.ty,.int .i64 s.cl,.int .i64 s.tt,.string s.da] (by go_simp) rfl (fun j z hz=>by rw [Nm.addr_add,Nat.zero_add];exact(blk_cell k6 j).trans (by simpa using hz)) (by intro z hz;simp at hz;rcases hz with rfl|rfl|rfl|rfl|rfl<;>rfl) (by unfold maxLen;simp;omega) (by simp;omega) (by omega) ?_;intro u7 X7 o7 g7 _;have p7:=blk_grown p4 g7 (fun e=>by have:=u4 _ e;omega);have q7:=blk_grown q4 g7 (fun e=>by have:=u4 _ e;omega);have b7:=b4.grown g7 (by omega) (fun g hg=>by have:=u4 g hg;omega);have o8:=Nm.hide (rowE o7);refine hK.out _ _ ⟨p7,q7⟩ (fun hHeld=>?_);clear hK K o7 g7 o4 u4;refine wpAnyL_take (i:=8) (v:=?_) rfl (by kernel_rfl) (by kernel_rfl) (by kernel_rfl) (by kernel_rfl) (fun _ _ _ h=>h) (Or.inl ⟨by kernel_rfl,?_⟩) (by assumption) ?_;rotate_left 1
    ·(rintro W ⟨s1,s2⟩;have ss1:=(fun i=>blk_cell s1 i);have ss2:=(fun i=>blk_cell s2 i);go_simp;try (with_reducible rfl))
    refine wpAnyL_done (by kernel_rfl) ?_;go_simp;go_wp2_with fail
    go_meet
    case rel=>exact⟨_,rfl,o8.out,p7,q7,b7⟩
   ·go_simp;refine(hre X1 b1).mono ?_;rintro e X2 ⟨z,rfl,o3,c1⟩;have y2:=c1.size;have p2:=blk_below p1 c1;have q2:=blk_below q1 c1;have b2:=Nm.below_two b1 c1;have k6:=blk_below k6 c1;have z3:=fun g hg=>o3.lt g hg
    go_wp2_with fail
    refine hK.out _ _ ⟨p2,q2⟩ (fun hHeld=>?_);clear hK K c1;refine wpAnyL_one (i:=1) (by kernel_rfl) rfl (fun K hK=>?_);go_simp;have c2:=(Below.refl X2.heap.size X2).alloc (Nat.le_refl _) (.cells #[.string s.own,.int .i64 s.ty,.int .i64 s.cl,.int .i64 s.tt,.string s.da] 56);have o1:(X2.alloc (.cells #[.string s.own,.int .i64 s.ty,.int .i64 s.cl,.int .i64 s.tt,.string s.da] 56)).ownsRow w.heap.size 56 5 (.slice (some ⟨X2.heap.size,0,none⟩) 1 1) 1 (rvVs [s]):=World.ownsRow_lit (base:=w.heap.size) (e:=56) (size:=5) X2 #[.string s.own,.int .i64 s.ty,.int .i64 s.cl,.int .i64 s.tt,.string s.da] 1 (by omega) (by decide) rfl;have y3:X2.heap.size<(X2.alloc (.cells #[.string s.own,.int .i64 s.ty,.int .i64 s.cl,.int .i64 s.tt,.string s.da] 56)).heap.size:=by simp
    have p3:=blk_below p2 c2;have q3:=blk_below q2 c2;have b3:=Nm.below_two b2 c2;have o3:=own_below o3 c2;have k6:=blk_below k6 c2;refine hK.out _ _ ⟨p3,q3⟩ (fun hHeld=>?_);clear hK K c2;generalize hX3:X2.alloc (.cells #[.string s.own,.int .i64 s.ty,.int .i64 s.cl,.int .i64 s.tt,.string s.da] 56)=X3 at*;clear hX3;refine wpAnyL_one (i:=4) (by kernel_rfl) rfl (fun K hK=>?_);go_simp;refine(l06JoinK_any _ z [s] RS w.heap.size X3 o1 (fun W hW=>crow_grown (CRow.of_owns o3) hW (fun g hg e=>by have:=z3 g hg;simp [Value.ownBlock] at e;omega)) (by omega) (by simp;omega)).mono ?_;rintro e X4 ⟨u,rfl,o4,g4,hu4⟩;have y4:=g4.size;have p4:=blk_grown p3 g4 (by simp [Value.ownBlock];omega);have q4:=blk_grown q3 g4 (by simp [Value.ownBlock];omega);have b4:=b3.grown g4 (by omega) (fun g hg=>by simp [Value.ownBlock] at hg;omega);have k6:=blk_grown k6 g4 (by simp [Value.ownBlock];omega)
    have u4:∀ g,u.ownBlock=some g->W1.heap.size<=g:=fun g hg=>by
     by_cases hl:g<X3.heap.size
     ·have e:=hu4 g hg hl;simp [Value.ownBlock] at e
      omega
     ·omega
    go_wp2_with fail
    refine hK.out _ _ ⟨p4,q4⟩ (fun hHeld=>?_);clear hK K g4 hu4 o1 o3 z3;refine wpAnyL_one (i:=7) (by kernel_rfl) rfl (fun K hK=>?_);refine step_append_own rfl (.tmp 21) (.tmp 23) 28 rfl w.heap.size 56 i0 (.agg #[.string ByteArray.empty,.int .i64 0,.int .i64 0,.int .i64 0,.string ByteArray.empty]) 5 56 Tryz.underlying28 hi hz0 hz1 hz2 rfl (by decide) u _ _ (by go_simp) o4 ⟨X0.heap.size,0,none⟩ 1 1 [.string s.own,.int .i64 s.ty,.int .i64 s.cl,.int .i64 s.tt,.string s.da] (by go_simp) rfl (fun j z hz=>by rw [Nm.addr_add,Nat.zero_add];exact(blk_cell k6 j).trans (by simpa using hz)) (by intro z hz;simp at hz;rcases hz with rfl|rfl|rfl|rfl|rfl<;>rfl) (by unfold maxLen;simp;omega) (by simp;omega) (by omega) ?_;intro u7 X7 o7 g7 _;have p7:=blk_grown p4 g7 (fun e=>by have:=u4 _ e;omega);have q7:=blk_grown q4 g7 (fun e=>by have:=u4 _ e;omega);have b7:=b4.grown g7 (by omega) (fun g hg=>by have:=u4 g hg;omega);have o8:=Nm.hide (rowE o7);refine hK.out _ _ ⟨p7,q7⟩ (fun hHeld=>?_);clear hK K o7 g7 o4 u4;refine wpAnyL_take (i:=8) (v:=?_) rfl (by kernel_rfl) (by kernel_rfl) (by kernel_rfl) (by kernel_rfl) (fun _ _ _ h=>h) (Or.inl ⟨by kernel_rfl,?_⟩) (by assumption) ?_;rotate_left 1
    ·(rintro W ⟨s1,s2⟩;have ss1:=(fun i=>blk_cell s1 i);have ss2:=(fun i=>blk_cell s2 i);go_simp;try (with_reducible rfl))
    refine wpAnyL_done (by kernel_rfl) ?_;go_simp;go_wp2_with fail
    go_meet
    case rel=>exact⟨_,rfl,o8.out,p7,q7,b7⟩
 case rest=>
  clear hre p0 q0 bw;obtain⟨U,rfl,oW,pc,qc,bc⟩:=hcut;obtain⟨wd,hwd⟩:∃ x,x=wc:=⟨_,rfl⟩;subst hwd;have zc:=blk_lt qc;obtain⟨WH,hWH⟩:∃ WH,WH=[s]++RS++[s]:=⟨_,rfl⟩;rw [<- hWH] at oW;have HWH:=Nm.hide hWH;clear hWH;obtain⟨ua,uc,hu⟩:=own_sl oW;subst hu;have rz:=fun i=>blk_cell pc i
  have rs:=fun i=>blk_cell qc i
  by_cases q1:qt=252
  ·have HN:Hid (R=WH):=by show _=_;rw [HR.out,outT,if_pos q1,HWH.out]
   have e1:(qt==252)=true:=by simp [q1]
   clear HR q1 hser hh hfo hl500 rz rs;go_wp2;go_ret;rw [HN.out];exact⟨_,rfl,oW,bc⟩
  ·have e1:(qt==252)=false:=by simpa using q1
   have hsl:=fun W=>specSerialLess_any sn (sdS s) W
   have HS:Hid (R=if serL sn (sdS s)=false then [s] else match lastF (atH (hs.map (·.1)) sn) (hs.map (·.1)).length with|some i=>[s]++((hs.map (·.1)).drop i).flatMap cgR++[s]|none=>[s]++RS++[s]):=by
    show _=_
    rw [HR.out,outT,if_neg q1]<;>rfl
   generalize sdS s=SD at*;clear HR q1;go_wp2_with fail
   go_at_call 53
   refine(hser _ bc).mono ?_;rintro e w2 ⟨rfl,b2⟩;have bw2:=Nm.below_two bc b2;have q2:=blk_below qc b2;have oW2:=own_below oW b2;have z2:=b2.size;clear rz rs hser pc qc oW bc b2
   cases hsl0:serL sn SD with
   |false=>
    have HN:Hid (R=[s]):=by show _=_;rw [HS.out,hsl0];rfl
    rw [hsl0] at hsl;clear HS hsl0 hh hfo hl500;go_wp2_with fail
    go_at_call 52
    refine(hsl _).mono ?_;rintro e w3 ⟨rfl,hw⟩;obtain rfl:=hw.symm;clear hw hsl;have rs2:=fun i=>blk_cell q2 i
    have cB:=(Below.refl w2.heap.size w2).alloc (Nat.le_refl _) (.cells #[.string s.own,.int .i64 s.ty,.int .i64 s.cl,.int .i64 s.tt,.string s.da] 56);have HO:Hid ((w2.alloc (.cells #[.string s.own,.int .i64 s.ty,.int .i64 s.cl,.int .i64 s.tt,.string s.da] 56)).ownsRow w.heap.size 56 5 (.slice (some ⟨w2.heap.size,0,none⟩) 1 1) 1 (rvVs [s])):=World.ownsRow_lit (base:=w.heap.size) (e:=56) (size:=5) w2 #[.string s.own,.int .i64 s.ty,.int .i64 s.cl,.int .i64 s.tt,.string s.da] 1 bw2.size (by decide) rfl;have bwB:=Nm.below_two bw2 cB;go_wp2;go_ret;rw [HN.out]
    exact⟨_,rfl,HO.out,bwB⟩
   |true=>
    have HT:Hid (R=match lastF (atH (hs.map (·.1)) sn) hs.length with|some i=>[s]++((hs.map (·.1)).drop i).flatMap cgR++[s]|none=>[s]++RS++[s]):=by show _=_;rw [HS.out,hsl0,List.length_map];rfl
    rw [hsl0] at hsl;clear HS hsl0;have hH:=hh;obtain⟨⟨_,a,cap,rfl,hcap,hmx,hc⟩,-⟩:=hh;unfold maxLen at hmx;go_wp2_with fail
    go_at_call 52
    refine(hsl _).mono ?_;rintro e w3 ⟨rfl,hw⟩;obtain rfl:=hw.symm;clear hw hsl;go_wp2
    go_loopw [11] (fun i wr=>∃ k:Nat,k<=hs.length∧i=.int .i64 ((k:Int)-1)∧Hid (∀ j,k<=j->j<hs.length->atH (hs.map (·.1)) sn j=false)∧Below w2.heap.size w2 wr) (fun i _=>(intOf i+1).toNat)
    case atStart=>exact⟨hs.length,Nat.le_refl _,rfl,by show ∀ _,_;intro j h1 h2;omega,Below.refl _ _⟩
    case round=>
     obtain⟨k,hk,rfl,HA,hbel⟩:=hrel
     rcases k with _|m
     ·have HN:Hid (R=WH):=by
       show _=_
       rw [HT.out,last_none _ (fun j hj=>HA.out j (Nat.zero_le _) hj),HWH.out]
      have oW3:=own_below oW2 hbel;have bw3:=Nm.below_two bw2 hbel;clear HA hc hfo hH HT hl500;have e0:((0:Nat):Int)-1= -1:=by omega
      rw [e0];clear e0;go_wp2;go_ret;rw [HN.out];exact⟨_,rfl,oW3,bw3⟩
     ·have e0:((m+1:Nat):Int)-1=(m:Int):=by omega
      rw [e0];clear e0;have hlt:m<hs.length:=by omega
      obtain⟨x,hxk⟩:∃ x,hs[m]? =some x:=⟨_,List.getElem?_eq_getElem hlt⟩;obtain⟨b,off,rfl,hcell⟩:=hc (by omega);have hbw:=Nm.below_two bw2 hbel;obtain⟨⟨c0,c1,c2,c3,c4⟩,-,-⟩:=hp_cells (hp_put hbw hcell) hxk;have hone:=l11SoaSerial_any x.1.old wr (hfo x (List.mem_of_getElem? hxk));have hat:=atH_at (s:=sn) (cs_at hxk);have i1:(0:Int)<=(m:Int):=by omega
      have i2:(m:Int)<(hs.length:Int):=by omega
      have HC:=Nm.hide hcell;clear hxk hcell hc hfo;obtain⟨⟨xo,xn,xd,xe⟩,xv,xu⟩:=x;simp only at c0 c1 c2 c3 c4 hone hat
      by_cases hss:ssS xo=sn
      ·have hyes:atH (hs.map (·.1)) sn m=true:=by rw [hat,decide_eq_true hss]
       have HU:Hid (R=[s]++((hs.drop m).map (·.1)).flatMap cgR++[s]):=by
        show _=_
        rw [HT.out,last_some hyes _ hlt (fun j h1 h2=>HA.out j (by omega) h2),List.map_drop]
       rw [hss] at hone;have hee:(sn==sn)=true:=by simp
       clear hat HA hyes hss HT oW2;go_wp2_with fail
       refine hone.mono ?_;rintro e w4 ⟨rfl,b4⟩;have bw4:=Nm.below_two hbw b4;have q4:=blk_below q2 (Nm.below_two hbel b4);have rs4:=fun i=>blk_cell q4 i
       have z4:=blk_lt q4;have cB:=(Below.refl w4.heap.size w4).alloc (Nat.le_refl _) (.cells #[.string s.own,.int .i64 s.ty,.int .i64 s.cl,.int .i64 s.tt,.string s.da] 56)
       have o5:(w4.alloc (.cells #[.string s.own,.int .i64 s.ty,.int .i64 s.cl,.int .i64 s.tt,.string s.da] 56)).ownsRow w4.heap.size 56 5 (.slice (some ⟨w4.heap.size,0,none⟩) 1 1) ([s]++(((hs.drop m).map (·.1)).take 0).flatMap cgR).length (rvVs ([s]++(((hs.drop m).map (·.1)).take 0).flatMap cgR)):=by
        rw [List.take_zero];exact World.ownsRow_lit (base:=w4.heap.size) (e:=56) (size:=5) w4 #[.string s.own,.int .i64 s.ty,.int .i64 s.cl,.int .i64 s.tt,.string s.da] 1 (Nat.le_refl _) (by decide) rfl
       have q5:=blk_below q4 cB;clear hone c0 c1 c2 c3 c4 hbel hbw q2 bw2 q4 b4 z2 zc;go_wp2;clear rs4;have hle:=flat_tle (cs:=(hs.drop m).map (·.1)) (fun c hc=>hl500 c (by rw [List.map_drop] at hc;exact List.mem_of_mem_drop hc)) (by simp;omega);have hdl:(hs.drop m).length=hs.length-m:=by simp
       have HD:=Nm.hide (fun W (hW:Below w.heap.size w W) (j:Nat) (x:Hp) (hx:hs[m+j]? =some x)=>And.intro (hp_cells (hp_put hW HC.out) hx) (And.intro (hH.sl (List.mem_of_getElem? hx)) ((hH.below hW).2 x (List.mem_of_getElem? hx))))
       go_loopw [12,13] (fun vo ix wr=>∃ (j:Nat) (OU:Value),j<=hs.length-m∧ix=.int .i64 ((m+j:Nat):Int)∧OU=vo∧wr.ownsRow w4.heap.size 56 5 OU ([s]++(((hs.drop m).map (·.1)).take j).flatMap cgR).length (rvVs ([s]++(((hs.drop m).map (·.1)).take j).flatMap cgR))∧Blk wr w1.heap.size #[.string s.own,.int .i64 s.ty,.int .i64 s.cl,.int .i64 s.tt,.string s.da] 56∧Below w4.heap.size w4 wr) (fun _ ix _=>hs.length-(intOf ix).toNat)
       case atStart=>exact⟨0,_,Nat.zero_le _,rfl,rfl,o5,q5,cB⟩
       case round=>
        clear o5 q5 cB;obtain⟨j,OU,hj,rfl,rfl,oO,qr,hbr⟩:=hrel;have hbw:=Nm.below_two bw4 hbr;have hsr:=hbr.size
        by_cases hlt2:j<hs.length-m
        ·obtain⟨x,hxk⟩:∃ x,hs[m+j]? =some x:=⟨_,List.getElem?_eq_getElem (by omega)⟩;obtain⟨⟨⟨c0,c1,c2,c3,c4⟩,⟨c5,c6,c7,c8,c9⟩,c10,c11⟩,⟨⟨xa,xc,hx1⟩,ya,yc,hx2⟩,-⟩:=HD.out wr hbw j x hxk;have HCD:Hid ((∀ W,Below w.heap.size w W->CRow W x.2.1 x.1.del.length 5 (rvVs x.1.del))∧∀ W,Below w.heap.size w W->CRow W x.2.2 x.1.add.length 5 (rvVs x.1.add)):=⟨fun W hW=>(HD.out W hW j x hxk).2.2.1,fun W hW=>(HD.out W hW j x hxk).2.2.2⟩;have hdx:(hs.drop m)[j]? =some x:=by rw [List.getElem?_drop];exact hxk
         have HFT:=Nm.hide (flat_take (cs_at hdx));have hl1:=hle j;have hl2:=hle (j+1);rw [flat_take (cs_at hdx),List.length_append,cgR_len] at hl2;obtain⟨KX,hKX⟩:∃ K:Nat,K=m+j:=⟨_,rfl⟩;have HKX:=Nm.hide hKX;rw [<- hKX] at c0 c1 c2 c3 c4 c5 c6 c7 c8 c9 c10 c11 ⊢;have i3:(0:Int)<=(KX:Int):=by omega
         have i4:(KX:Int)<(hs.length:Int):=by omega
         have i5:KX<41:=by omega
         have HLJ:=Nm.hide hlt2;clear hxk hdx hle HD hH HU hl500 hKX hdl HC hlt2 hj;obtain⟨⟨zo,zn,zd,ze⟩,zv,zu⟩:=x;simp only at c0 c1 c2 c3 c4 c5 c6 c7 c8 c9 c10 c11 hx1 hx2 HCD HFT hl2
         subst hx1 hx2;obtain⟨FJ,hFJ⟩:∃ F,F=[s]++(((hs.drop m).map (·.1)).take j).flatMap cgR:=⟨_,rfl⟩;have hFl:FJ.length=1+((((hs.drop m).map (·.1)).take j).flatMap cgR).length:=by rw [hFJ,List.length_append];rfl
         have HFE:Hid (FJ++[zo]++zd++[zn]++ze=[s]++(((hs.drop m).map (·.1)).take (j+1)).flatMap cgR):=by
          show _=_
          rw [HFT.out,hFJ];simp [cgR]
         rw [<- hFJ] at oO;have hlF:FJ.length+zd.length+ze.length<=60000:=by omega
         clear hFJ hFl HFT hl1 hl2;have cC:=(Below.refl wr.heap.size wr).alloc (Nat.le_refl _) (.cells (cgL zo zn (.slice xa zd.length xc) (.slice ya ze.length yc)).toArray 58);have kC:=blk_new wr (cgL zo zn (.slice xa zd.length xc) (.slice ya ze.length yc)).toArray 58;have oC:=own_below oO cC;have qC:=blk_below qr cC;have bC:=Nm.below_two hbr cC;have hou:∀ g,OU.ownBlock=some g->g≠wr.heap.size:=fun g hg=>by have:=(oO.lt g hg).2;omega
         clear oO qr cC hbr hbw;go_upto_region 16 with fail
         generalize hWC:wr.alloc (.cells (cgL zo zn (.slice xa zd.length xc) (.slice ya ze.length yc)).toArray 58)=WC at*;clear hWC c0 c1 c2 c3 c4 c5 c6 c7 c8 c9 c10 c11;go_cut [12] from 63 to 70 (fun u wx=>∃ U,U=u∧wx.ownsRow w4.heap.size 56 5 U (FJ++[zo]++zd).length (rvVs (FJ++[zo]++zd))∧(∀ g,U.ownBlock=some g->g≠wr.heap.size)∧Blk wx wr.heap.size (cgL zo zn (.slice xa zd.length xc) (.slice ya ze.length yc)).toArray 58∧Blk wx w1.heap.size #[.string s.own,.int .i64 s.ty,.int .i64 s.cl,.int .i64 s.tt,.string s.da] 56∧Below w4.heap.size w4 wx)
         case first=>
          have bd:=(Below.refl WC.heap.size WC).drew;have o0:=own_below oC bd;have q0:=blk_below qC bd;have k0:=blk_below kC bd;have b0:=Nm.below_two bC bd;have yd:WC.heap.size<=WC.drew.heap.size:=Nat.le_refl _;have lw:=blk_lt kC;clear bd;refine wp_region_last (fun X=>Blk X wr.heap.size (cgL zo zn (.slice xa zd.length xc) (.slice ya ze.length yc)).toArray 58∧Blk X w1.heap.size #[.string s.own,.int .i64 s.ty,.int .i64 s.cl,.int .i64 s.tt,.string s.da] 56) 1000 (by kernel_rfl) ⟨k0,q0⟩ (fun hHeld=>?_);generalize WC.drew=Y0 at*;refine wpAnyL_take (i:=0) (v:=?_) rfl (by kernel_rfl) (by kernel_rfl) (by kernel_rfl) (by kernel_rfl) (fun _ _ _ h=>h) (Or.inl ⟨by kernel_rfl,?_⟩) (by assumption) ?_;rotate_left 1
          ·(rintro W ⟨s1,s2⟩;have ss1:=(fun i=>blk_cell s1 i);go_simp;try (with_reducible rfl))
          refine wpAnyL_take (i:=1) (v:=?_) rfl (by kernel_rfl) (by kernel_rfl) (by kernel_rfl) (by kernel_rfl) (fun _ _ _ h=>h) (Or.inl ⟨by kernel_rfl,?_⟩) (by assumption) ?_;rotate_left 1
          ·(rintro W ⟨s1,s2⟩;have ss1:=(fun i=>blk_cell s1 i);go_simp;try (with_reducible rfl))
          refine wpAnyL_take (i:=2) (v:=?_) rfl (by kernel_rfl) (by kernel_rfl) (by kernel_rfl) (by kernel_rfl) (fun _ _ _ h=>h) (Or.inl ⟨by kernel_rfl,?_⟩) (by assumption) ?_;rotate_left 1
          ·(rintro W ⟨s1,s2⟩;have ss1:=(fun i=>blk_cell s1 i);go_simp;try (with_reducible rfl))
          refine wpAnyL_take (i:=5) (v:=?_) rfl (by kernel_rfl) (by kernel_rfl) (by kernel_rfl) (by kernel_rfl) (fun _ _ _ h=>h) (Or.inl ⟨by kernel_rfl,?_⟩) (by assumption) ?_;rotate_left 1
          ·(rintro W ⟨s1,s2⟩;have ss1:=(fun i=>blk_cell s1 i);go_simp;try (with_reducible rfl))
          refine wpAnyL_take (i:=6) (v:=?_) rfl (by kernel_rfl) (by kernel_rfl) (by kernel_rfl) (by kernel_rfl) (fun _ _ _ h=>h) (Or.inl ⟨by kernel_rfl,?_⟩) (by assumption) ?_;rotate_left 1
          ·(rintro W ⟨s1,s2⟩;have ss1:=(fun i=>blk_cell s1 i);go_simp;try (with_reducible rfl))
          refine wpAnyL_one (i:=3) (by kernel_rfl) rfl (fun K hK=>?_);go_simp;have c1:=(Below.refl Y0.heap.size Y0).alloc (Nat.le_refl _) (.cells #[.string zo.own,.int .i64 zo.ty,.int .i64 zo.cl,.int .i64 zo.tt,.string zo.da] 56);have k3:=blk_new Y0 #[.string zo.own,.int .i64 zo.ty,.int .i64 zo.cl,.int .i64 zo.tt,.string zo.da] 56;have y1:Y0.heap.size<(Y0.alloc (.cells #[.string zo.own,.int .i64 zo.ty,.int .i64 zo.cl,.int .i64 zo.tt,.string zo.da] 56)).heap.size:=by simp
          have k1:=blk_below k0 c1;have q1:=blk_below q0 c1;have b1:=Nm.below_two b0 c1;have o1:=own_below o0 c1;refine hK.out _ _ ⟨k1,q1⟩ (fun hHeld=>?_);clear hK K c1;generalize hY1:Y0.alloc (.cells #[.string zo.own,.int .i64 zo.ty,.int .i64 zo.cl,.int .i64 zo.tt,.string zo.da] 56)=Y1 at*;clear hY1;refine wpAnyL_one (i:=4) (by kernel_rfl) rfl (fun K hK=>?_);refine step_append_own_at rfl (.tmp 63) (.tmp 66) 28 rfl w4.heap.size 56 i0 (.agg #[.string ByteArray.empty,.int .i64 0,.int .i64 0,.int .i64 0,.string ByteArray.empty]) 5 56 Tryz.underlying28 hi hz0 hz1 hz2 rfl (by decide) OU _ _ (by go_simp) o1 ⟨Y0.heap.size,0,none⟩ 1 1 [.string zo.own,.int .i64 zo.ty,.int .i64 zo.cl,.int .i64 zo.tt,.string zo.da] (by go_simp) rfl (fun j z hz=>by rw [Nm.addr_add,Nat.zero_add];exact(blk_cell k3 j).trans (by simpa using hz)) (by intro z hz;simp at hz;rcases hz with rfl|rfl|rfl|rfl|rfl<;>rfl) (by unfold maxLen;omega) (by omega) (by omega) ?_;intro u4 Y2 o4 g4 _ hat4;have hol:=fun g hg=>o1.lt g hg
          have k2:=blk_grown k1 g4 (fun e=>hou _ e rfl);have q2:=blk_grown q1 g4 (fun e=>by have:=hol _ e;omega);have b2:=b1.grown g4 (by omega) (fun g hg=>(hol g hg).1);have o5:=rowE o4
          have h4:∀ g,u4.ownBlock=some g->w4.heap.size<=g∧g≠wr.heap.size:=fun g hg=>by
           rcases hat4 with e|e
           ·rw [e] at hg;exact⟨(hol g hg).1,hou g hg⟩
           ·rw [e] at hg;simp at hg;omega
          have y2:=g4.size;refine hK.out _ _ ⟨k2,q2⟩ (fun hHeld=>?_);clear hK K o4 g4 hat4;refine wpAnyL_one (i:=7) (by kernel_rfl) rfl (fun K hK=>?_);go_simp;refine(l06JoinK_any u4 _ (FJ++[zo]) zd w4.heap.size Y2 o5 (fun W hW=>HCD.out.1 W (bw4.trans ((b2.grown hW (by omega) (fun g hg=>(h4 g hg).1)).mono bw4.size))) (by omega) (by rw [List.length_append,List.length_singleton];omega)).mono ?_;rintro e Y3 ⟨u7,rfl,o7,g7,hu7⟩;have k7:=blk_grown k2 g7 (fun e=>(h4 _ e).2 rfl);have q7:=blk_grown q2 g7 (fun e=>by have:=(h4 _ e).1;omega);have b7:=b2.grown g7 (by omega) (fun g hg=>(h4 g hg).1)
          have h7:∀ g,u7.ownBlock=some g->g≠wr.heap.size:=fun g hg e=>by
           subst e;exact(h4 _ (hu7 _ hg (by omega))).2 rfl
          go_wp2_with fail
          refine hK.out _ _ ⟨k7,q7⟩ (fun hHeld=>?_);clear hK K g7 hu7 o5 h4;refine wpAnyL_take (i:=8) (v:=?_) rfl (by kernel_rfl) (by kernel_rfl) (by kernel_rfl) (by kernel_rfl) (fun _ _ _ h=>h) (Or.inl ⟨by kernel_rfl,?_⟩) (by assumption) ?_;rotate_left 1
          ·(rintro W ⟨s1,s2⟩;have ss1:=(fun i=>blk_cell s1 i);go_simp;try (with_reducible rfl))
          refine wpAnyL_done (by kernel_rfl) ?_;go_simp;go_wp2_with fail
          go_meet
          case rel=>exact⟨_,rfl,o7,h7,k7,q7,b7⟩
         case rest=>
          obtain⟨OV,rfl,o6,hov,k6,q6,b6⟩:=hcut;obtain⟨w6,hw6⟩:∃ x,x=wc:=⟨_,rfl⟩;subst hw6;clear oC qC kC bC hou;obtain⟨FK,hFK⟩:∃ F,F=FJ++[zo]++zd:=⟨_,rfl⟩;rw [<- hFK] at o6 HFE;have hlK:FK.length=FJ.length+1+zd.length:=by rw [hFK,List.length_append,List.length_append];rfl
          clear hFK;go_upto_region 17 with fail
          have bd:=(Below.refl w6.heap.size w6).drew;have o0:=own_below o6 bd;have q0:=blk_below q6 bd;have k0:=blk_below k6 bd;have b0:=Nm.below_two b6 bd;have yd:w6.heap.size<=w6.drew.heap.size:=Nat.le_refl _;have lw:=blk_lt k6;clear bd;refine wp_region_last (fun X=>Blk X wr.heap.size (cgL zo zn (.slice xa zd.length xc) (.slice ya ze.length yc)).toArray 58∧Blk X w1.heap.size #[.string s.own,.int .i64 s.ty,.int .i64 s.cl,.int .i64 s.tt,.string s.da] 56) 1000 (by kernel_rfl) ⟨k0,q0⟩ (fun hHeld=>?_);generalize w6.drew=Y0 at*;refine wpAnyL_take (i:=0) (v:=?_) rfl (by kernel_rfl) (by kernel_rfl) (by kernel_rfl) (by kernel_rfl) (fun _ _ _ h=>h) (Or.inl ⟨by kernel_rfl,?_⟩) (by assumption) ?_;rotate_left 1
          ·(rintro W ⟨s1,s2⟩;have ss1:=(fun i=>blk_cell s1 i);go_simp;try (with_reducible rfl))
          refine wpAnyL_take (i:=1) (v:=?_) rfl (by kernel_rfl) (by kernel_rfl) (by kernel_rfl) (by kernel_rfl) (fun _ _ _ h=>h) (Or.inl ⟨by kernel_rfl,?_⟩) (by assumption) ?_;rotate_left 1
          ·(rintro W ⟨s1,s2⟩;have ss1:=(fun i=>blk_cell s1 i);go_simp;try (with_reducible rfl))
          refine wpAnyL_take (i:=2) (v:=?_) rfl (by kernel_rfl) (by kernel_rfl) (by kernel_rfl) (by kernel_rfl) (fun _ _ _ h=>h) (Or.inl ⟨by kernel_rfl,?_⟩) (by assumption) ?_;rotate_left 1
          ·(rintro W ⟨s1,s2⟩;have ss1:=(fun i=>blk_cell s1 i);go_simp;try (with_reducible rfl))
          refine wpAnyL_take (i:=5) (v:=?_) rfl (by kernel_rfl) (by kernel_rfl) (by kernel_rfl) (by kernel_rfl) (fun _ _ _ h=>h) (Or.inl ⟨by kernel_rfl,?_⟩) (by assumption) ?_;rotate_left 1
          ·(rintro W ⟨s1,s2⟩;have ss1:=(fun i=>blk_cell s1 i);go_simp;try (with_reducible rfl))
          refine wpAnyL_take (i:=6) (v:=?_) rfl (by kernel_rfl) (by kernel_rfl) (by kernel_rfl) (by kernel_rfl) (fun _ _ _ h=>h) (Or.inl ⟨by kernel_rfl,?_⟩) (by assumption) ?_;rotate_left 1
          ·(rintro W ⟨s1,s2⟩;have ss1:=(fun i=>blk_cell s1 i);go_simp;try (with_reducible rfl))
          refine wpAnyL_one (i:=3) (by kernel_rfl) rfl (fun K hK=>?_);go_simp;have c1:=(Below.refl Y0.heap.size Y0).alloc (Nat.le_refl _) (.cells #[.string zn.own,.int .i64 zn.ty,.int .i64 zn.cl,.int .i64 zn.tt,.string zn.da] 56);have k3:=blk_new Y0 #[.string zn.own,.int .i64 zn.ty,.int .i64 zn.cl,.int .i64 zn.tt,.string zn.da] 56;have y1:Y0.heap.size<(Y0.alloc (.cells #[.string zn.own,.int .i64 zn.ty,.int .i64 zn.cl,.int .i64 zn.tt,.string zn.da] 56)).heap.size:=by simp
          have k1:=blk_below k0 c1;have q1:=blk_below q0 c1;have b1:=Nm.below_two b0 c1;have o1:=own_below o0 c1;refine hK.out _ _ ⟨k1,q1⟩ (fun hHeld=>?_);clear hK K c1;generalize hY1:Y0.alloc (.cells #[.string zn.own,.int .i64 zn.ty,.int .i64 zn.cl,.int .i64 zn.tt,.string zn.da] 56)=Y1 at*;clear hY1;refine wpAnyL_one (i:=4) (by kernel_rfl) rfl (fun K hK=>?_);refine step_append_own_at rfl (.tmp 71) (.tmp 74) 28 rfl w4.heap.size 56 i0 (.agg #[.string ByteArray.empty,.int .i64 0,.int .i64 0,.int .i64 0,.string ByteArray.empty]) 5 56 Tryz.underlying28 hi hz0 hz1 hz2 rfl (by decide) OV _ _ (by go_simp) o1 ⟨Y0.heap.size,0,none⟩ 1 1 [.string zn.own,.int .i64 zn.ty,.int .i64 zn.cl,.int .i64 zn.tt,.string zn.da] (by go_simp) rfl (fun j z hz=>by rw [Nm.addr_add,Nat.zero_add];exact(blk_cell k3 j).trans (by simpa using hz)) (by intro z hz;simp at hz;rcases hz with rfl|rfl|rfl|rfl|rfl<;>rfl) (by unfold maxLen;omega) (by omega) (by omega) ?_;intro u4 Y2 o4 g4 _ hat4;have hol:=fun g hg=>o1.lt g hg
          have k2:=blk_grown k1 g4 (fun e=>hov _ e rfl);have q2:=blk_grown q1 g4 (fun e=>by have:=hol _ e;omega);have b2:=b1.grown g4 (by omega) (fun g hg=>(hol g hg).1);have o5:=rowE o4
          have h4:∀ g,u4.ownBlock=some g->w4.heap.size<=g∧g≠wr.heap.size:=fun g hg=>by
           rcases hat4 with e|e
           ·rw [e] at hg;exact⟨(hol g hg).1,hov g hg⟩
           ·rw [e] at hg;simp at hg;omega
          have y2:=g4.size;refine hK.out _ _ ⟨k2,q2⟩ (fun hHeld=>?_);clear hK K o4 g4 hat4;refine wpAnyL_one (i:=7) (by kernel_rfl) rfl (fun K hK=>?_);go_simp;refine(l06JoinK_any u4 _ (FK++[zn]) ze w4.heap.size Y2 o5 (fun W hW=>HCD.out.2 W (bw4.trans ((b2.grown hW (by omega) (fun g hg=>(h4 g hg).1)).mono bw4.size))) (by omega) (by rw [List.length_append,List.length_singleton];omega)).mono ?_;rintro e Y3 ⟨u7,rfl,o7,g7,hu7⟩;have k7:=blk_grown k2 g7 (fun e=>(h4 _ e).2 rfl);have q7:=blk_grown q2 g7 (fun e=>by have:=(h4 _ e).1;omega);have b7:=b2.grown g7 (by omega) (fun g hg=>(h4 g hg).1)
          have h7:∀ g,u7.ownBlock=some g->g≠wr.heap.size:=fun g hg e=>by
           subst e;exact(h4 _ (hu7 _ hg (by omega))).2 rfl
          go_wp2_with fail
          refine hK.out _ _ ⟨k7,q7⟩ (fun hHeld=>?_);clear hK K g7 hu7 o5 h4;refine wpAnyL_take (i:=8) (v:=?_) rfl (by kernel_rfl) (by kernel_rfl) (by kernel_rfl) (by kernel_rfl) (fun _ _ _ h=>h) (Or.inl ⟨by kernel_rfl,?_⟩) (by assumption) ?_;rotate_left 1
          ·(rintro W ⟨s1,s2⟩;have ss1:=(fun i=>blk_cell s1 i);go_simp;try (with_reducible rfl))
          refine wpAnyL_done (by kernel_rfl) ?_;go_simp;rw [HFE.out] at o7;clear k7 h7;obtain⟨xa8,xc8,rfl⟩:=own_sl o7;go_wp2;go_roundw
          case rel=>exact⟨j+1,_,by have:=HLJ.out;omega,by rw [show((m+(j+1):Nat):Int)=(KX:Int)+1 by have:=HKX.out;omega],rfl,o7,q7,b7⟩
          case measure=>have:=HKX.out;have:=HLJ.out;simp [intOf];omega
        ·have hjl:m+j=hs.length:=by omega
         have e9:((hs.drop m).map (·.1)).take j=(hs.drop m).map (·.1):=List.take_of_length_le (by simp;omega);rw [e9] at oO;have hl1:=hle j;rw [e9] at hl1;rw [hjl];have i3:¬(hs.length:Int)<(hs.length:Int):=by omega
         have rs9:=fun i=>blk_cell qr i
         have hlF:([s]++((hs.drop m).map (·.1)).flatMap cgR).length<=60000:=by rw [List.length_append];simp only [List.length_singleton];omega
         generalize [s]++((hs.drop m).map (·.1)).flatMap cgR=FJ at*;clear hjl e9 hl1 hle HD hH hl500 HC;go_wp2_with (at_builtin;refine wpList_append_own _ rfl (.tmp 79) (.tmp 81) 28 rfl w4.heap.size 56 i0 _ 5 56 Tryz.underlying28 hi hz0 hz1 hz2 rfl (by decide) _ _ _ rfl (oO.alloc _) ⟨wr.heap.size,0,none⟩ 1 1 [.string s.own,.int .i64 s.ty,.int .i64 s.cl,.int .i64 s.tt,.string s.da] rfl rfl (cell_newJ _ _ _) (by intro u hu;simp at hu;rcases hu with rfl|rfl|rfl|rfl|rfl<;>rfl) (by unfold maxLen;omega) (by omega) (by simp;omega) ?_;intro va9 wa ho9 hg9 hnl9;clear hnl9)
         have o9:=own_base (rowE ho9) bw4.size;have b9:=bw4.trans (((hbr.alloc hsr _).grown hg9 (by simp;omega) (fun g hg=>(oO.lt g hg).1)).mono bw4.size);obtain⟨xa9,xc9,rfl⟩:=own_sl o9;clear ho9 hg9;go_wp2;go_ret;rw [HU.out];exact⟨_,rfl,o9,b9⟩
      ·have HA2:Hid (∀ j,m<=j->j<hs.length->atH (hs.map (·.1)) sn j=false):=by
        show ∀ _,_
        intro j h1 h2
        by_cases hj:j=m
        ·subst hj;rw [hat,decide_eq_false hss]
        ·exact HA.out j (by omega) h2
       have hee:(ssS xo==sn)=false:=by simpa using hss
       generalize ssS xo=S at*;clear hat HA hH hss HT HC;go_wp2_with fail
       refine hone.mono ?_;rintro e w4 ⟨rfl,b4⟩;have hbel1:=Nm.below_two hbel b4;clear hone c0 c1 c2 c3 c4;go_wp2;go_roundw
       case rel=>exact⟨m,by omega,by go_num,HA2,hbel1⟩
       case measure=>simp [intOf]
end Go.Proofs.YtgilkakllagbnaaGreat
