import Derived.Test.YtgilkakllagbnaaGreatJFoldD
import Derived.Test.YtgilkakllagbnaaGreatJRrM
namespace Go.Proofs.YtgilkakllagbnaaGreat
open Go.RowKit
set_option linter.unusedVariables false
theorem SeS.one{l:List GSe}(h:SeS l){a b:GSe}(ha:a∈l)(hb:b∈l)(e:a.ty=b.ty):a=b:=by
 induction l with
 |nil=>cases ha
 |cons x l ih=>
  have hx:=List.pairwise_cons.1 h
  rcases List.mem_cons.1 ha with rfl|ha'
  ·rcases List.mem_cons.1 hb with rfl|hb'
   ·rfl
   ·have:=hx.1 b hb';omega
  ·rcases List.mem_cons.1 hb with rfl|hb'
   ·have:=hx.1 a ha';omega
   ·exact ih hx.2 ha' hb'
theorem SeS.found{l:List GSe}(h:SeS l){s:GSe}(hs:s∈l):isIn (sCmp s.ty) l=true∧l[posOf (sCmp s.ty) l]? =some s:=by
 have hmono:=mono_of_pair (f:=sCmp s.ty) h (fun a b hab hb=>by
  rw [sCmp,cmpI_neg] at hb ⊢
  omega)
 have hfnd:=posOf_fnd l hmono;obtain⟨k,hk⟩:=List.mem_iff_getElem?.1 hs;have hkl:=(List.getElem?_eq_some_iff.1 hk).1
 have hz:sCmp s.ty s=0:=by
  rcases Int.lt_trichotomy (sCmp s.ty s) 0 with h1|h1|h1
  ·rw [sCmp,cmpI_neg] at h1;omega
  ·exact h1
  ·rw [sCmp,Nm.cmpI] at h1;simp at h1
 have hF:Fnd l.length (cfOf (sCmp s.ty) l) k:=by
  refine⟨Nat.le_of_lt hkl,fun i hi=>?_,fun i h1 h2=>?_⟩
  ·have hi':l[i]? =some l[i]:=List.getElem?_eq_getElem (by omega);rw [cfOf_at hi',sCmp,cmpI_neg];have:=List.pairwise_iff_getElem.1 h i k (by omega) hkl hi;rw [(List.getElem?_eq_some_iff.1 hk).2] at this;exact this
  ·have hi':l[i]? =some l[i]:=List.getElem?_eq_getElem h2;rw [cfOf_at hi']
   rcases Int.lt_or_le (sCmp s.ty l[i]) 0 with h3|h3
   ·rw [sCmp,cmpI_neg] at h3
    rcases Nat.lt_or_eq_of_le h1 with h4|rfl
    ·have:=List.pairwise_iff_getElem.1 h k i hkl h2 h4;rw [(List.getElem?_eq_some_iff.1 hk).2] at this;omega
    ·rw [(List.getElem?_eq_some_iff.1 hk).2] at h3;omega
   ·exact h3
 have e:=Fnd.unique hfnd hF;rw [isIn,e,cfOf_at hk,hz];exact⟨by simp [hkl],hk⟩
theorem OwAt.below{w w':World}{B:Nat}{o:GOw}(h:OwAt w B o)(hb:Below w.heap.size w w'):OwAt w' B o:=h.keep fun b hm=>hb.block b (h.lt b hm)
set_option maxRecDepth 100000 in
set_option maxHeartbeats 1600000 in
theorem ownerSet_any(o:GOw)(s:GSe)(B:Nat)(w:World)(h:OwAt w B o)(hl:o.ss.length<=500000)(hd:SeS o.ss)(hs:s∈o.ss)(hsl:s.da.length<=1000000):
 Calls Tryz.prog 119 #[ptr o.blk,.int .i64 s.ty] w fun e w'=>∃ v,e=.returned (.tuple #[.agg #[.string o.nm,.int .i64 s.ty,.int .i64 s.tt,v],.bool true])∧w'.ownsRow w.heap.size 9 1 v s.da.length (s.da.map fun p=>.string p.2)∧Below w.heap.size w w':=by
 have hB0:=(Below.refl w.heap.size w).alloc (Nat.le_refl _) (.cells #[.string ⟨#[]⟩,.int .i64 0,.int .i64 0,.slice none 0 0] 90);have kZ:=blk_new w #[.string ⟨#[]⟩,.int .i64 0,.int .i64 0,.slice none 0 0] 90;have h1:=h.below hB0
 have hg:=(getSet_any o B s.ty _ h1 hl hd).mono (R':=fun e w'=>Below (w.heap.size+1) (w.alloc (.cells #[.string ⟨#[]⟩,.int .i64 0,.int .i64 0,.slice none 0 0] 90)) w'∧e=.returned (.tuple #[ptr s.blk,.bool true])) (by
  rintro e w' ⟨hb,⟨_,s',h1,h2,rfl⟩|⟨hno,_⟩⟩
  ·obtain rfl:=hd.one (List.mem_of_getElem? h1) hs h2;exact⟨by simpa using hb,rfl⟩
  ·rw [(hd.found hs).1] at hno;cases hno)
 have hv:=fun W (hW:Below w.heap.size w W)=>valuesOf_any s.hd s.rv s.da hsl W (Nat.lt_of_lt_of_le (blk_lt (h.sets s hs).head) hW.size) ((blk_cell (blk_below (h.sets s hs).head hW) 1).trans rfl) ((rwsS_own (fun p:ByteArray×ByteArray=>p.1) (fun p=>p.2) s.da (by have:=own_below (h.sets s hs).rows hW;rw [show(daRs s.da).length=s.da.length by simp [daRs]] at this;exact this)))
 have rn:=fun i=>blk_cell h1.node i
 have kn:=h.node;have ks:=(h.sets s hs).node;have HV:=Nm.hide hv;unfold ptr at hg rn kn ks ⊢;clear h h1 hd hs hv;go_enter Tryz.func119,Tryz.ntmps119;go_wp2_with fail
 refine hg.mono ?_;rintro e w1 ⟨hb1,rfl⟩;have bw1:Below w.heap.size w w1:=hB0.trans (hb1.mono (Nat.le_succ _));have kn1:=blk_below kn bw1;have ks1:=blk_below ks bw1;have kZ1:Blk w1 w.heap.size _ _:=blk_below kZ (by simpa using hb1);clear hg rn kn ks hb1;go_wp2_with fail
 refine wp_region_S (S:=fun W=>W.cell? ⟨o.blk,0,none⟩=some (.string o.nm)∧W.cell? ⟨s.blk,0,none⟩=some (.int .i64 s.tt)∧W.cell? ⟨s.blk,2,none⟩=some (.pointer (some ⟨s.hd,0,none⟩))) (Ls:=[15,16]) rfl ⟨(blk_cell (blk_drew kn1) 0).trans rfl,(blk_cell (blk_drew ks1) 0).trans rfl,(blk_cell (blk_drew ks1) 2).trans rfl⟩ (fun hH=>?_);refine wpAnyS_take (i:=0) (v:=?_) rfl (by kernel_rfl) (by kernel_rfl) (by kernel_rfl) (by kernel_rfl) (fun _ _ _ h=>h) (Or.inl ⟨by rfl,?_⟩) (by assumption) ?_;rotate_left 1
 ·(intro w hSw;obtain⟨t2,t3,t4⟩:=hSw;go_simp;try (with_reducible rfl))
 refine wpAnyS_take (i:=1) (v:=?_) rfl (by kernel_rfl) (by kernel_rfl) (by kernel_rfl) (by kernel_rfl) (fun _ _ _ h=>h) (Or.inl ⟨by rfl,?_⟩) (by assumption) ?_;rotate_left 1
 ·(intro w hSw;obtain⟨t2,t3,t4⟩:=hSw;go_simp;try (with_reducible rfl))
 refine wpAnyS_take (i:=2) (v:=?_) rfl (by kernel_rfl) (by kernel_rfl) (by kernel_rfl) (by kernel_rfl) (fun _ _ _ h=>h) (Or.inl ⟨by rfl,?_⟩) (by assumption) ?_;rotate_left 1
 ·(intro w hSw;obtain⟨t2,t3,t4⟩:=hSw;go_simp;try (with_reducible rfl))
 refine wpAnyS_take (i:=3) (v:=?_) rfl (by kernel_rfl) (by kernel_rfl) (by kernel_rfl) (by kernel_rfl) (fun _ _ _ h=>h) (Or.inl ⟨by rfl,?_⟩) (by assumption) ?_;rotate_left 1
 ·(intro w hSw;obtain⟨t2,t3,t4⟩:=hSw;go_simp;try (with_reducible rfl))
 refine wpAnyS_take (i:=4) (v:=?_) rfl (by kernel_rfl) (by kernel_rfl) (by kernel_rfl) (by kernel_rfl) (fun _ _ _ h=>h) (Or.inl ⟨by rfl,?_⟩) (by assumption) ?_;rotate_left 1
 ·(intro w hSw;obtain⟨t2,t3,t4⟩:=hSw;go_simp;try (with_reducible rfl))
 refine wpAnyS_take (i:=5) (v:=?_) rfl (by kernel_rfl) (by kernel_rfl) (by kernel_rfl) (by kernel_rfl) (fun _ _ _ h=>h) (Or.inl ⟨by rfl,?_⟩) (by assumption) ?_;rotate_left 1
 ·(intro w hSw;obtain⟨t2,t3,t4⟩:=hSw;go_simp;try (with_reducible rfl))
 refine wpAnyS_take (i:=6) (v:=?_) rfl (by kernel_rfl) (by kernel_rfl) (by kernel_rfl) (by kernel_rfl) (fun _ _ _ h=>h) (Or.inl ⟨by rfl,?_⟩) (by assumption) ?_;rotate_left 1
 ·(intro w hSw;obtain⟨t2,t3,t4⟩:=hSw;go_simp;try (with_reducible rfl))
 refine wpAnyS_take (i:=7) (v:=?_) rfl (by kernel_rfl) (by kernel_rfl) (by kernel_rfl) (by kernel_rfl) (fun _ _ _ h=>h) (Or.inl ⟨by rfl,?_⟩) (by assumption) ?_;rotate_left 1
 ·(intro w hSw;obtain⟨t2,t3,t4⟩:=hSw;go_simp;try (with_reducible rfl))
 refine wpAnyS_take (i:=8) (v:=?_) rfl (by kernel_rfl) (by kernel_rfl) (by kernel_rfl) (by kernel_rfl) (fun _ _ _ h=>h) (Or.inl ⟨by rfl,?_⟩) (by assumption) ?_;rotate_left 1
 ·(intro w hSw;obtain⟨t2,t3,t4⟩:=hSw;go_simp;try (with_reducible rfl))
 refine wpAnyS_take (i:=9) (v:=?_) rfl (by kernel_rfl) (by kernel_rfl) (by kernel_rfl) (by kernel_rfl) (fun _ _ _ h=>h) (Or.inl ⟨by rfl,?_⟩) (by assumption) ?_;rotate_left 1
 ·(intro w hSw;obtain⟨t2,t3,t4⟩:=hSw;go_simp;try (with_reducible rfl))
 refine wpAnyS_take (i:=10) (v:=?_) rfl (by kernel_rfl) (by kernel_rfl) (by kernel_rfl) (by kernel_rfl) (fun _ _ _ h=>h) (Or.inl ⟨by rfl,?_⟩) (by assumption) ?_;rotate_left 1
 ·(intro w hSw;obtain⟨t2,t3,t4⟩:=hSw;go_simp;try (with_reducible rfl))
 refine wpAnyS_take (i:=11) (v:=?_) rfl (by kernel_rfl) (by kernel_rfl) (by kernel_rfl) (by kernel_rfl) (fun _ _ _ h=>h) (Or.inl ⟨by rfl,?_⟩) (by assumption) ?_;rotate_left 1
 ·(intro w hSw;obtain⟨t2,t3,t4⟩:=hSw;go_simp;try (with_reducible rfl))
 refine wpAnyS_take (i:=12) (v:=?_) rfl (by kernel_rfl) (by kernel_rfl) (by kernel_rfl) (by kernel_rfl) (fun _ _ _ h=>h) (Or.inl ⟨by rfl,?_⟩) (by assumption) ?_;rotate_left 1
 ·(intro w hSw;obtain⟨t2,t3,t4⟩:=hSw;go_simp;try (with_reducible rfl))
 refine wpAnyS_one (i:=13) (by kernel_rfl) rfl (fun K hK'=>?_);go_simp;have bd:=(Below.refl w1.heap.size w1).drew;refine(HV.out _ (bw1.drew)).mono ?_;rintro e w3 ⟨v,rfl,ho3,d3⟩;have d3':=bd.trans d3;have kn3:=blk_below kn1 d3';have ks3:=blk_below ks1 d3';have kZ3:=blk_below kZ1 d3';have bw3:=Nm.below_two bw1 d3';obtain⟨va,vc,rfl⟩:=own_sl ho3;have HLT:Hid (w.heap.size<w1.heap.size):=blk_lt kZ1;clear kn1 ks1 kZ1 hH;go_wp2_with fail
 refine hK'.out _ _ ⟨(blk_cell kn3 0).trans rfl,(blk_cell ks3 0).trans rfl,(blk_cell ks3 2).trans rfl⟩ (fun hH=>?_);clear hK' K;refine wpAnyS_take (i:=14) (v:=?_) rfl (by kernel_rfl) (by kernel_rfl) (by kernel_rfl) (by kernel_rfl) (fun _ _ _ h=>h) (Or.inl ⟨by rfl,?_⟩) (by assumption) ?_;rotate_left 1
 ·(intro w hSw;obtain⟨t2,t3,t4⟩:=hSw;go_simp;try (with_reducible rfl))
 refine wpAnyS_late (i:=15) (by kernel_rfl) rfl (by kernel_rfl) (fun K hK'=>?_);have rz:=fun i=>blk_cell kZ3 i
 have fz:=fun i=>blk_frozen kZ3 i
 go_simp;refine hK'.out _ _ ?_;clear hK' K;refine wpAnyS_late (i:=16) (by kernel_rfl) rfl (by kernel_rfl) (fun K hK'=>?_);go_simp;refine hK'.out _ _ ?_;clear hK' K;refine wpAnyS_done (by kernel_rfl) ?_;have hfar:(Value.slice va s.da.length vc).ownBlock≠some w.heap.size:=fun e=>by have:=(ho3.lt _ e).1;have:=HLT.out;simp at*;omega
 have k4:=blk_set (blk_set (blk_set (blk_set kZ3 0 (.string o.nm)) 1 (.int .i64 s.ty)) 2 (.int .i64 s.tt)) 3 (.slice va s.da.length vc);simp only [List.setIfInBounds_toArray,List.set_cons_zero,List.set_cons_succ] at k4;have ho4:=own_far (y:=.slice va s.da.length vc) (i:=3) (g:=w.heap.size) (own_far (y:=.int .i64 s.tt) (i:=2) (g:=w.heap.size) (own_far (y:=.int .i64 s.ty) (i:=1) (g:=w.heap.size) (own_far (y:=.string o.nm) (i:=0) (g:=w.heap.size) ho3 hfar) hfar) hfar) hfar;have bw4:=(((bw3.setCell (p:=⟨w.heap.size,0,none⟩) (Nat.le_refl _) (.string o.nm)).setCell (p:=⟨w.heap.size,1,none⟩) (Nat.le_refl _) (.int .i64 s.ty)).setCell (p:=⟨w.heap.size,2,none⟩) (Nat.le_refl _) (.int .i64 s.tt)).setCell (p:=⟨w.heap.size,3,none⟩) (Nat.le_refl _) (.slice va s.da.length vc);have rk:=fun i=>blk_cell k4 i
 clear rz fz hH;go_wp2_with fail
 refine bodyPost_ret (v:=.tuple #[.agg #[.string o.nm,.int .i64 s.ty,.int .i64 s.tt,.slice va s.da.length vc],.bool true]) ?_ rfl ⟨_,rfl,own_base ho4 bw1.size,bw4⟩;simp [results,Tryz.f119,go_sem,rk]
end Go.Proofs.YtgilkakllagbnaaGreat
