import Derived.Test.YtcodajnebegdiaaGreatJMath
import Derived.Test.YtcodajnebegdiaaGreatJZbA
import Derived.LaidEqlPtr
import Derived.Test.YtcodajnebegdiaaGreatJTbGI
namespace Go.Proofs.YtcodajnebegdiaaGreat
open Go
section
variable {P:Program}{ops:Array Oper}{Q:Exit->Act->World->Prop}{md:Region.Mode}{S:World->Prop}{Ls:List Nat}
def wpAnyS(P:Program)(md:Region.Mode)(ops:Array Oper)(Q:Exit->Act->World->Prop)(S:World->Prop)(Ls:List Nat):Nat->Array Bool->Act->World->Prop
 |0,listed,a,w=>Region.ready md ops listed=[]∧Q .normal a w
 |fuel+1,listed,a,w=>
  (Region.ready md ops listed=[]->Q .normal a w)∧
  ∀ i∈Region.ready md ops listed,wpOp P ops Q i (fun a' w'=>(i∈Ls∨S w')∧wpAnyS P md ops Q S Ls fuel (listed.setIfInBounds i true) a' w') a w
theorem wpAny_of_S:∀ (fuel:Nat) (listed:Array Bool) (a:Act) (w:World),wpAnyS P md ops Q S Ls fuel listed a w->wpAny P md ops Q fuel listed a w
 |0,_,_,_,h=>h
 |fuel+1,_,_,_,h=>⟨h.1,fun i hi=>wpOp_mono (fun a' w' h'=>wpAny_of_S fuel _ a' w' h'.2) (h.2 i hi)⟩
theorem late_waits{listed:Array Bool}{i j:Nat}(hL:Ls.all (fun L=>waitsFor md ops L i)=true)(hi:i∈Region.ready md ops listed)(hj:j∈Region.ready md ops listed):j∉Ls:=fun h=>last_waits (List.all_eq_true.1 hL j h) hi hj rfl
theorem wpAnyS_first{i:Nat}{oi:Oper}{v:Value}(hi:ops[i]? =some oi)(hsel:∀ (j:Nat) (o:Oper) cs b,ops[j]? =some o->o.op≠ .select cs b)
 (hQ:∀ c a w,Q (.panic c) (a.put oi.dst v) w->Q (.panic c) a w) (hL:Ls.all (fun L=>waitsFor md ops L i)=true) (fuel:Nat):
 ∀ (listed:Array Bool) (a:Act) (w:World),Untouched md ops oi i listed->i∈Region.ready md ops listed->YieldsIf P ops S oi v a->S w->
   wpAnyS P md ops Q S Ls fuel (listed.setIfInBounds i true) (a.put oi.dst v) w->wpAnyS P md ops Q S Ls (fuel+1) listed a w:=by
 induction fuel with
 |zero=>
  intro listed a w _ hr hy hS H;refine⟨fun h=>absurd (h▸hr) (by simp),fun j hj=>?_⟩
  rcases Nat.decEq j i with hne|rfl
  ·exact absurd (H.1▸ready_mono hj hne) (by simp)
  ·exact hy.wpOp hi hS ⟨.inr hS,H⟩
 |succ fuel ih=>
  intro listed a w hun hr hy hS H;refine⟨fun h=>absurd (h▸hr) (by simp),fun j hj=>?_⟩
  rcases Nat.decEq j i with hne|rfl
  ·obtain⟨hju,oj,hoj,_⟩:=mem_ready.1 hj;have hstep:=wpOp_putIf hoj (hun j oj hoj hne hju (ready_free hr hj hoj)) (fun cs b=>hsel i oi cs b hi) (fun cs b=>hsel j oj cs b hoj) hQ hy (H.2 j (ready_mono hj hne));refine wpOp_mono (fun a' w' ⟨hy',hS',hW⟩=>?_) hstep;have hSw:=hS'.resolve_left (late_waits hL hr hj);exact⟨.inr hSw,ih _ a' w' (hun.more hju) (ready_mono hr (Ne.symm hne)) hy' hSw (by rw [Array.setIfInBounds_comm _ _ hne];exact hW)⟩
  ·exact hy.wpOp hi hS ⟨.inr hS,H⟩
theorem wpAnyS_take{i:Nat}{oi:Oper}{v:Value}{fuel:Nat}{listed:Array Bool}{a:Act}{w:World}(hi:ops[i]? =some oi)
 (hs:Region.noSelect ops=true) (hf:Region.free md ops listed i=true) (hr:(Region.ready md ops listed).contains i=true) (hL:Ls.all (fun L=>waitsFor md ops L i)=true)
 (hQ:∀ c a w,Q (.panic c) (a.put oi.dst v) w->Q (.panic c) a w) (hy:YieldsIf P ops S oi v a) (hS:S w)
 (h:wpAnyS P md ops Q S Ls fuel (listed.setIfInBounds i true) (a.put oi.dst v) w):wpAnyS P md ops Q S Ls (fuel+1) listed a w:=
 wpAnyS_first hi (Region.noSelect_spec hs) hQ hL fuel listed a w (Region.free_spec hi hf) (by simpa using hr) hy hS h
theorem wpAnyS_one{i:Nat}{o:Oper}{fuel:Nat}{listed:Array Bool}{a:Act}{w:World}(hr:Region.ready md ops listed=[i])(ho:ops[i]? =some o)
 (h:∀ K':Act->World->Prop,Shut (∀ a w,S w->(S w->wpAnyS P md ops Q S Ls fuel (listed.setIfInBounds i true) a w)->K' a w)->if Region.wanted o (yielded ops a.tmps)=true then Oper.wp P o a w K' Q else K' (a.put o.dst undef) w):
 wpAnyS P md ops Q S Ls (fuel+1) listed a w:=by
 refine⟨fun h0=>(by rw [hr] at h0;cases h0),fun j hj=>?_⟩;rw [hr] at hj;obtain rfl:j=i:=by simpa using hj
 exact wpOp_step ho (fun K' hK=>h K' (fun a w hS hW=>hK a w ⟨.inr hS,hW hS⟩))
theorem wpAnyS_late{i:Nat}{o:Oper}{fuel:Nat}{listed:Array Bool}{a:Act}{w:World}(hr:Region.ready md ops listed=[i])(ho:ops[i]? =some o)(hl:Ls.contains i=true)
 (h:∀ K':Act->World->Prop,Shut (∀ a w,wpAnyS P md ops Q S Ls fuel (listed.setIfInBounds i true) a w->K' a w)->if Region.wanted o (yielded ops a.tmps)=true then Oper.wp P o a w K' Q else K' (a.put o.dst undef) w):
 wpAnyS P md ops Q S Ls (fuel+1) listed a w:=by
 refine⟨fun h0=>(by rw [hr] at h0;cases h0),fun j hj=>?_⟩;rw [hr] at hj;obtain rfl:j=i:=by simpa using hj
 exact wpOp_step ho (fun K' hK=>h K' (fun a w hW=>hK a w ⟨.inl (by simpa using hl),hW⟩))
theorem wpAnyS_done{fuel:Nat}{listed:Array Bool}{a:Act}{w:World}(hr:Region.ready md ops listed=[])(hq:Q .normal a w):wpAnyS P md ops Q S Ls fuel listed a w:=by
 cases fuel with
 |zero=>exact⟨hr,hq⟩
 |succ n=>exact⟨fun _=>hq,by rw [hr];intro i hi;cases hi⟩
theorem wp_region_S{id:Nat}{a:Act}{w:World}(S:World->Prop)(Ls:List Nat)(hm:P.follows .mixedOrders=true)(hS:S w.drew)
 (h:S w.drew->wpAnyS P .any ops Q S Ls ops.size (Array.replicate ops.size false) a w.drew):(Code.region id ops true).wp P Q a w:=
 wp_region_any hm (wpAny_of_S _ _ _ _ (h hS))
end
end Go.Proofs.YtcodajnebegdiaaGreat
namespace Go.Proofs.YtcodajnebegdiaaGreat
open Go.RowKit
set_option linter.unusedVariables false
theorem SeS.one{l:List GSe}(h:SeS l){a b:GSe}(ha:a∈l)(hb:b∈l)(e:a.ty=b.ty):a=b:=by
 induction l with
 |nil=>cases ha
 |cons x l ih=>
  have hx:=List.pairwise_cons.1 h
  rcases List.mem_cons.1 ha with rfl|ha'
  ·rcases List.mem_cons.1 hb with rfl|hb'
   ·rfl
   ·have:=hx.1 b hb';omega
  ·rcases List.mem_cons.1 hb with rfl|hb'
   ·have:=hx.1 a ha';omega
   ·exact ih hx.2 ha' hb'
theorem SeS.found{l:List GSe}(h:SeS l){s:GSe}(hs:s∈l):isIn (sCmp s.ty) l=true∧l[posOf (sCmp s.ty) l]? =some s:=by
 have hmono:=mono_of_pair (f:=sCmp s.ty) h (fun a b hab hb=>by
  rw [sCmp,cmpI_neg] at hb ⊢
  omega)
 have hfnd:=posOf_fnd l hmono;obtain⟨k,hk⟩:=List.mem_iff_getElem?.1 hs;have hkl:=(List.getElem?_eq_some_iff.1 hk).1
 have hz:sCmp s.ty s=0:=by
  rcases Int.lt_trichotomy (sCmp s.ty s) 0 with h1|h1|h1
  ·rw [sCmp,cmpI_neg] at h1;omega
  ·exact h1
  ·rw [sCmp,Nm.cmpI] at h1;simp at h1
 have hF:Fnd l.length (cfOf (sCmp s.ty) l) k:=by
  refine⟨Nat.le_of_lt hkl,fun i hi=>?_,fun i h1 h2=>?_⟩
  ·have hi':l[i]? =some l[i]:=List.getElem?_eq_getElem (by omega);rw [cfOf_at hi',sCmp,cmpI_neg];have:=List.pairwise_iff_getElem.1 h i k (by omega) hkl hi;rw [(List.getElem?_eq_some_iff.1 hk).2] at this;exact this
  ·have hi':l[i]? =some l[i]:=List.getElem?_eq_getElem h2;rw [cfOf_at hi']
   rcases Int.lt_or_le (sCmp s.ty l[i]) 0 with h3|h3
   ·rw [sCmp,cmpI_neg] at h3
    rcases Nat.lt_or_eq_of_le h1 with h4|rfl
    ·have:=List.pairwise_iff_getElem.1 h k i hkl h2 h4;rw [(List.getElem?_eq_some_iff.1 hk).2] at this;omega
    ·rw [(List.getElem?_eq_some_iff.1 hk).2] at h3;omega
   ·exact h3
 have e:=Fnd.unique hfnd hF;rw [isIn,e,cfOf_at hk,hz];exact⟨by simp [hkl],hk⟩
theorem OwAt.below{w w':World}{B:Nat}{o:GOw}(h:OwAt w B o)(hb:Below w.heap.size w w'):OwAt w' B o:=h.keep fun b hm=>hb.block b (h.lt b hm)
set_option maxRecDepth 100000 in
set_option maxHeartbeats 1600000 in
theorem ownerSet_any(o:GOw)(s:GSe)(B:Nat)(w:World)(h:OwAt w B o)(hl:o.ss.length<=500000)(hd:SeS o.ss)(hs:s∈o.ss)(hsl:s.da.length<=1000000):
 Calls Tryz.prog 104 #[ptr o.blk,.int .i64 s.ty] w fun e w'=>∃ v,e=.returned (.tuple #[.agg #[.string o.nm,.int .i64 s.ty,.int .i64 s.tt,v],.bool true])∧w'.ownsRow w.heap.size 9 1 v s.da.length (s.da.map fun p=>.string p.2)∧Below w.heap.size w w':=by
 have hB0:=(Below.refl w.heap.size w).alloc (Nat.le_refl _) (.cells #[.string ⟨#[]⟩,.int .i64 0,.int .i64 0,.slice none 0 0] 76);have kZ:=blk_new w #[.string ⟨#[]⟩,.int .i64 0,.int .i64 0,.slice none 0 0] 76;have h1:=h.below hB0
 have hg:=(getSet_any o B s.ty _ h1 hl hd).mono (R':=fun e w'=>Below (w.heap.size+1) (w.alloc (.cells #[.string ⟨#[]⟩,.int .i64 0,.int .i64 0,.slice none 0 0] 76)) w'∧e=.returned (.tuple #[ptr s.blk,.bool true])) (by
  rintro e w' ⟨hb,⟨_,s',h1,h2,rfl⟩|⟨hno,_⟩⟩
  ·obtain rfl:=hd.one (List.mem_of_getElem? h1) hs h2;exact⟨by simpa using hb,rfl⟩
  ·rw [(hd.found hs).1] at hno;cases hno)
 have hv:=fun W (hW:Below w.heap.size w W)=>valuesOf_any s.hd s.rv s.da hsl W (Nat.lt_of_lt_of_le (blk_lt (h.sets s hs).head) hW.size) ((blk_cell (blk_below (h.sets s hs).head hW) 1).trans rfl) ((rwsS_own (fun p:ByteArray×ByteArray=>p.1) (fun p=>p.2) s.da (by have:=own_below (h.sets s hs).rows hW;rw [show(daRs s.da).length=s.da.length by simp [daRs]] at this;exact this)))
 have rn:=fun i=>blk_cell h1.node i
 have kn:=h.node;have ks:=(h.sets s hs).node;have HV:=Nm.hide hv;unfold ptr at hg rn kn ks ⊢;clear h h1 hd hs hv;go_enter Tryz.func104,Tryz.ntmps104;go_wp2_with fail
 refine hg.mono ?_;rintro e w1 ⟨hb1,rfl⟩;have bw1:Below w.heap.size w w1:=hB0.trans (hb1.mono (Nat.le_succ _));have kn1:=blk_below kn bw1;have ks1:=blk_below ks bw1;have kZ1:Blk w1 w.heap.size _ _:=blk_below kZ (by simpa using hb1);clear hg rn kn ks hb1;go_wp2_with fail
 refine wp_region_S (S:=fun W=>W.cell? ⟨o.blk,0,none⟩=some (.string o.nm)∧W.cell? ⟨s.blk,0,none⟩=some (.int .i64 s.tt)∧W.cell? ⟨s.blk,2,none⟩=some (.pointer (some ⟨s.hd,0,none⟩))) (Ls:=[15,16]) rfl ⟨(blk_cell (blk_drew kn1) 0).trans rfl,(blk_cell (blk_drew ks1) 0).trans rfl,(blk_cell (blk_drew ks1) 2).trans rfl⟩ (fun hH=>?_);refine wpAnyS_take (i:=0) (v:=?_) rfl (by kernel_rfl) (by kernel_rfl) (by kernel_rfl) (by kernel_rfl) (fun _ _ _ h=>h) (Or.inl ⟨by rfl,?_⟩) (by assumption) ?_;rotate_left 1
 ·(intro w hSw;obtain⟨t2,t3,t4⟩:=hSw;go_simp;try (with_reducible rfl))
 refine wpAnyS_take (i:=1) (v:=?_) rfl (by kernel_rfl) (by kernel_rfl) (by kernel_rfl) (by kernel_rfl) (fun _ _ _ h=>h) (Or.inl ⟨by rfl,?_⟩) (by assumption) ?_;rotate_left 1
 ·(intro w hSw;obtain⟨t2,t3,t4⟩:=hSw;go_simp;try (with_reducible rfl))
 refine wpAnyS_take (i:=2) (v:=?_) rfl (by kernel_rfl) (by kernel_rfl) (by kernel_rfl) (by kernel_rfl) (fun _ _ _ h=>h) (Or.inl ⟨by rfl,?_⟩) (by assumption) ?_;rotate_left 1
 ·(intro w hSw;obtain⟨t2,t3,t4⟩:=hSw;go_simp;try (with_reducible rfl))
 refine wpAnyS_take (i:=3) (v:=?_) rfl (by kernel_rfl) (by kernel_rfl) (by kernel_rfl) (by kernel_rfl) (fun _ _ _ h=>h) (Or.inl ⟨by rfl,?_⟩) (by assumption) ?_;rotate_left 1
 ·(intro w hSw;obtain⟨t2,t3,t4⟩:=hSw;go_simp;try (with_reducible rfl))
 refine wpAnyS_take (i:=4) (v:=?_) rfl (by kernel_rfl) (by kernel_rfl) (by kernel_rfl) (by kernel_rfl) (fun _ _ _ h=>h) (Or.inl ⟨by rfl,?_⟩) (by assumption) ?_;rotate_left 1
 ·(intro w hSw;obtain⟨t2,t3,t4⟩:=hSw;go_simp;try (with_reducible rfl))
 refine wpAnyS_take (i:=5) (v:=?_) rfl (by kernel_rfl) (by kernel_rfl) (by kernel_rfl) (by kernel_rfl) (fun _ _ _ h=>h) (Or.inl ⟨by rfl,?_⟩) (by assumption) ?_;rotate_left 1
 ·(intro w hSw;obtain⟨t2,t3,t4⟩:=hSw;go_simp;try (with_reducible rfl))
 refine wpAnyS_take (i:=6) (v:=?_) rfl (by kernel_rfl) (by kernel_rfl) (by kernel_rfl) (by kernel_rfl) (fun _ _ _ h=>h) (Or.inl ⟨by rfl,?_⟩) (by assumption) ?_;rotate_left 1
 ·(intro w hSw;obtain⟨t2,t3,t4⟩:=hSw;go_simp;try (with_reducible rfl))
 refine wpAnyS_take (i:=7) (v:=?_) rfl (by kernel_rfl) (by kernel_rfl) (by kernel_rfl) (by kernel_rfl) (fun _ _ _ h=>h) (Or.inl ⟨by rfl,?_⟩) (by assumption) ?_;rotate_left 1
 ·(intro w hSw;obtain⟨t2,t3,t4⟩:=hSw;go_simp;try (with_reducible rfl))
 refine wpAnyS_take (i:=8) (v:=?_) rfl (by kernel_rfl) (by kernel_rfl) (by kernel_rfl) (by kernel_rfl) (fun _ _ _ h=>h) (Or.inl ⟨by rfl,?_⟩) (by assumption) ?_;rotate_left 1
 ·(intro w hSw;obtain⟨t2,t3,t4⟩:=hSw;go_simp;try (with_reducible rfl))
 refine wpAnyS_take (i:=9) (v:=?_) rfl (by kernel_rfl) (by kernel_rfl) (by kernel_rfl) (by kernel_rfl) (fun _ _ _ h=>h) (Or.inl ⟨by rfl,?_⟩) (by assumption) ?_;rotate_left 1
 ·(intro w hSw;obtain⟨t2,t3,t4⟩:=hSw;go_simp;try (with_reducible rfl))
 refine wpAnyS_take (i:=10) (v:=?_) rfl (by kernel_rfl) (by kernel_rfl) (by kernel_rfl) (by kernel_rfl) (fun _ _ _ h=>h) (Or.inl ⟨by rfl,?_⟩) (by assumption) ?_;rotate_left 1
 ·(intro w hSw;obtain⟨t2,t3,t4⟩:=hSw;go_simp;try (with_reducible rfl))
 refine wpAnyS_take (i:=11) (v:=?_) rfl (by kernel_rfl) (by kernel_rfl) (by kernel_rfl) (by kernel_rfl) (fun _ _ _ h=>h) (Or.inl ⟨by rfl,?_⟩) (by assumption) ?_;rotate_left 1
 ·(intro w hSw;obtain⟨t2,t3,t4⟩:=hSw;go_simp;try (with_reducible rfl))
 refine wpAnyS_take (i:=12) (v:=?_) rfl (by kernel_rfl) (by kernel_rfl) (by kernel_rfl) (by kernel_rfl) (fun _ _ _ h=>h) (Or.inl ⟨by rfl,?_⟩) (by assumption) ?_;rotate_left 1
 ·(intro w hSw;obtain⟨t2,t3,t4⟩:=hSw;go_simp;try (with_reducible rfl))
 refine wpAnyS_one (i:=13) (by kernel_rfl) rfl (fun K hK'=>?_);go_simp;have bd:=(Below.refl w1.heap.size w1).drew;refine(HV.out _ (bw1.drew)).mono ?_;rintro e w3 ⟨v,rfl,ho3,d3⟩;have d3':=bd.trans d3;have kn3:=blk_below kn1 d3';have ks3:=blk_below ks1 d3';have kZ3:=blk_below kZ1 d3';have bw3:=Nm.below_two bw1 d3';obtain⟨va,vc,rfl⟩:=own_sl ho3;have HLT:Hid (w.heap.size<w1.heap.size):=blk_lt kZ1;clear kn1 ks1 kZ1 hH;go_wp2_with fail
 refine hK'.out _ _ ⟨(blk_cell kn3 0).trans rfl,(blk_cell ks3 0).trans rfl,(blk_cell ks3 2).trans rfl⟩ (fun hH=>?_);clear hK' K;refine wpAnyS_take (i:=14) (v:=?_) rfl (by kernel_rfl) (by kernel_rfl) (by kernel_rfl) (by kernel_rfl) (fun _ _ _ h=>h) (Or.inl ⟨by rfl,?_⟩) (by assumption) ?_;rotate_left 1
 ·(intro w hSw;obtain⟨t2,t3,t4⟩:=hSw;go_simp;try (with_reducible rfl))
 refine wpAnyS_late (i:=15) (by kernel_rfl) rfl (by kernel_rfl) (fun K hK'=>?_);have rz:=fun i=>blk_cell kZ3 i
 have fz:=fun i=>blk_frozen kZ3 i
 go_simp;refine hK'.out _ _ ?_;clear hK' K;refine wpAnyS_late (i:=16) (by kernel_rfl) rfl (by kernel_rfl) (fun K hK'=>?_);go_simp;refine hK'.out _ _ ?_;clear hK' K;refine wpAnyS_done (by kernel_rfl) ?_;have hfar:(Value.slice va s.da.length vc).ownBlock≠some w.heap.size:=fun e=>by have:=(ho3.lt _ e).1;have:=HLT.out;simp at*;omega
 have k4:=blk_set (blk_set (blk_set (blk_set kZ3 0 (.string o.nm)) 1 (.int .i64 s.ty)) 2 (.int .i64 s.tt)) 3 (.slice va s.da.length vc);simp only [List.setIfInBounds_toArray,List.set_cons_zero,List.set_cons_succ] at k4;have ho4:=own_far (y:=.slice va s.da.length vc) (i:=3) (g:=w.heap.size) (own_far (y:=.int .i64 s.tt) (i:=2) (g:=w.heap.size) (own_far (y:=.int .i64 s.ty) (i:=1) (g:=w.heap.size) (own_far (y:=.string o.nm) (i:=0) (g:=w.heap.size) ho3 hfar) hfar) hfar) hfar;have bw4:=(((bw3.setCell (p:=⟨w.heap.size,0,none⟩) (Nat.le_refl _) (.string o.nm)).setCell (p:=⟨w.heap.size,1,none⟩) (Nat.le_refl _) (.int .i64 s.ty)).setCell (p:=⟨w.heap.size,2,none⟩) (Nat.le_refl _) (.int .i64 s.tt)).setCell (p:=⟨w.heap.size,3,none⟩) (Nat.le_refl _) (.slice va s.da.length vc);have rk:=fun i=>blk_cell k4 i
 clear rz fz hH;go_wp2_with fail
 refine bodyPost_ret (v:=.tuple #[.agg #[.string o.nm,.int .i64 s.ty,.int .i64 s.tt,.slice va s.da.length vc],.bool true]) ?_ rfl ⟨_,rfl,own_base ho4 bw1.size,bw4⟩;simp [results,Tryz.f104,go_sem,rk]
theorem infoOwS:(Tryz.prog.info? 151).map (·.size)=some 3:=by kernel_rfl
theorem eqlOw_same(t:Nat)(w:World):(binOp .eql 96 (.pointer (some ⟨t,0,none⟩)) (.pointer (some ⟨t,0,none⟩))).run Tryz.prog w=.ok (.bool true) w:=by
 obtain⟨j,hj,_⟩:=Option.map_eq_some_iff.1 infoOwS;exact run_eql_ptr_same w _ Tryz.underlying96 hj
theorem eqlOw_other{t x:Nat}{w:World}{ca cb:Array Value}{ta tb:TypeId}(h:t≠x)(ha:Blk w t ca ta)(hb:Blk w x cb tb):
 (binOp .eql 96 (.pointer (some ⟨t,0,none⟩)) (.pointer (some ⟨x,0,none⟩))).run Tryz.prog w=.ok (.bool false) w:=by
 obtain⟨j,hj,hs⟩:=Option.map_eq_some_iff.1 infoOwS;exact run_eql_ptr_other w Tryz.underlying96 hj (by omega) (fun e=>h (congrArg Addr.block e)) ha hb
set_option maxRecDepth 100000 in
set_option maxHeartbeats 800000 in
theorem indexOw_any(v:Value)(bs:List Nat)(t:Nat)(w:World)(h:CRow w v bs.length 1 (bs.map ptr))(hbk:∀ b,b=t∨b∈bs->∃ cs T,Blk w b cs T):
 Calls Tryz.prog 208 #[v,.pointer (some ⟨t,0,none⟩)] w fun e w'=>Below w.heap.size w w'∧((t∉bs∧e=.returned (.int .i64 (-1)))∨(t∈bs∧∃ k:Nat,e=.returned (.int .i64 k))):=by
 obtain⟨_,a,cap,rfl,hcap,hmx,hc⟩:=h;unfold maxLen at hmx;go_enter Tryz.func208,Tryz.ntmps208;go_wp2
 go_loopw [8] (fun i wr=>∃ k:Nat,k<=bs.length∧i=.int .i64 k∧t∉bs.take k∧Below w.heap.size w wr) (fun i _=>bs.length-(intOf i).toNat)
 case atStart=>exact⟨0,Nat.zero_le _,rfl,by simp,Below.refl _ _⟩
 case round=>
  obtain⟨k,hk,rfl,hno,hbel⟩:=hrel;have HR:=Nm.hide (And.intro hno hbel)
  by_cases hlt:k<bs.length
  ·obtain⟨x,hx⟩:∃ x,bs[k]? =some x:=⟨_,List.getElem?_eq_getElem hlt⟩;obtain⟨bb,off,rfl,hcell⟩:=hc (by omega);have hcx:=hcell k (.pointer (some ⟨x,0,none⟩)) (by simp [ptr,hx]);have hcr:wr.cell? ⟨bb,off+k,none⟩=some (.pointer (some ⟨x,0,none⟩)):=(hbel.cell (World.block_lt_of_cell? w _ hcx)).trans hcx;have HX:=Nm.hide hx;have i1:(0:Int)<=(k:Int):=by omega
   have i2:(k:Int)<(bs.length:Int):=by omega
   obtain⟨c1,T1,k1⟩:=hbk t (.inl rfl);obtain⟨c2,T2,k2⟩:=hbk x (.inr (List.mem_of_getElem? hx));have K1:=Nm.hide (And.intro (blk_below k1 hbel) (blk_below k2 hbel));clear hc hcell hcx hx hno hbel k1 k2
   by_cases he:t=x
   ·subst he;have hq:=eqlOw_same t wr;clear hbk;go_wp2;go_ret;exact⟨HR.out.2,.inr ⟨List.mem_of_getElem? HX.out,k,rfl⟩⟩
   ·have hq:=eqlOw_other he K1.out.1 K1.out.2;clear hbk;go_wp2;go_roundw
    case rel=>
     refine⟨k+1,by omega,by go_num,?_,HR.out.2⟩;obtain⟨hk',e⟩:=List.getElem?_eq_some_iff.1 HX.out;rw [List.take_succ_eq_append_getElem hk',e];simp only [List.mem_append,List.mem_singleton,not_or];exact⟨HR.out.1,he⟩
    case measure=>simp [intOf];omega
  ·have hke:k=bs.length:=by omega
   subst hke;clear hc hno hbel;go_wp2;go_ret;have:=HR.out.1;rw [List.take_length] at this;exact⟨HR.out.2,.inl ⟨this,rfl⟩⟩
set_option maxRecDepth 100000 in
set_option maxHeartbeats 800000 in
theorem containsOw_any(v:Value)(bs:List Nat)(t:Nat)(w:World)(h:CRow w v bs.length 1 (bs.map ptr))(hbk:∀ b,b=t∨b∈bs->∃ cs T,Blk w b cs T):
 Calls Tryz.prog 182 #[v,.pointer (some ⟨t,0,none⟩)] w fun e w'=>e=.returned (.bool (decide (t∈bs)))∧Below w.heap.size w w':=by
 have hi:=indexOw_any v bs t w h hbk;obtain⟨_,a,cap,rfl,hcap,hmx,hc⟩:=h;clear hc;go_enter Tryz.func182,Tryz.ntmps182;go_wp2_with fail
 refine hi.mono ?_;rintro e w1 ⟨b1,⟨hb,rfl⟩|⟨hb,k,rfl⟩⟩
 ·have HB:=Nm.hide hb;clear hb;go_wp2;go_ret;rw [decide_eq_false HB.out];exact⟨rfl,b1⟩
 ·have HB:=Nm.hide hb;clear hb;have hk:(0:Int)<=(k:Int):=by omega
  go_wp2;go_ret;rw [decide_eq_true HB.out];exact⟨rfl,b1⟩
def wildL:List ByteArray->Bool
 |[]=>false
 |x::_=>x.toList==[42]
set_option maxRecDepth 100000 in
set_option maxHeartbeats 800000 in
theorem isWild_any(v:Value)(ls:List ByteArray)(w:World)(h:Nm.SRow w v ls):
 Calls Tryz.prog 177 #[v] w fun e w'=>e=.returned (.bool (wildL ls))∧Below w.heap.size w w':=by
 obtain⟨a,cap,rfl,h1,h2,h3,h4⟩:=h;unfold maxLen at h2
 cases ls with
 |nil=>
  clear h3 h4;go_enter Tryz.func177,Tryz.ntmps177;go_wp2;go_ret
  exact⟨rfl,Below.refl _ _⟩
 |cons x ls=>
  obtain⟨b,off,rfl,hc⟩:=h4 (by simp);have c0:=hc 0 x rfl;simp only [Nat.add_zero] at c0;generalize hn:(x::ls).length=N at*;have n1:(0:Int)<(N:Int):=by simp at hn;omega
  have HN:=Nm.hide hn;clear hc h3 h4 hn;go_enter Tryz.func177,Tryz.ntmps177;go_wp2;go_ret;exact⟨rfl,Below.refl _ _⟩
def First{α:Type}(P:α->Prop)(l:List α)(i:Nat)(x:α):Prop:=l[i]? =some x∧P x∧∀ (j:Nat) (y:α),j<i->l[j]? =some y->¬P y
theorem First.lt{α:Type}{P:α->Prop}{l:List α}{i:Nat}{x:α}(h:First P l i x):i<l.length:=(List.getElem?_eq_some_iff.1 h.1).1
theorem First.snoc{α:Type}{P:α->Prop}{l:List α}{i:Nat}{x:α}(h:First P l i x)(y:α):First P (l++[y]) i x:=by
 have hi:=h.lt;refine⟨by rw [List.getElem?_append_left hi];exact h.1,h.2.1,fun j z hj hz=>?_⟩;rw [List.getElem?_append_left (by omega)] at hz;exact h.2.2 j z hj hz
theorem First.new{α:Type}{P:α->Prop}{l:List α}{x:α}(hno:∀ y∈l,¬P y)(hx:P x):First P (l++[x]) l.length x:=
 ⟨by simp,hx,fun j y hj hy=>by rw [List.getElem?_append_left hj] at hy;exact hno y (List.mem_of_getElem? hy)⟩
theorem First.congr{α:Type}{P Q:α->Prop}{l:List α}{i:Nat}{x:α}(h:First P l i x)(e:∀ y,P y↔Q y):First Q l i x:=
 ⟨h.1,(e x).1 h.2.1,fun j y hj hy hq=>h.2.2 j y hj hy ((e y).2 hq)⟩
theorem First.mem{α:Type}{P:α->Prop}{l:List α}{i:Nat}{x:α}(h:First P l i x):x∈l:=List.mem_of_getElem? h.1
theorem First.ex{α:Type}{P:α->Prop}:∀ {l:List α},(∃ x∈l,P x)->∃ i x,First P l i x:=by
 intro l
 induction l with
 |nil=>rintro⟨x,hx,_⟩;cases hx
 |cons y l ih=>
  rintro⟨x,hx,hp⟩
  by_cases hy:P y
  ·exact⟨0,y,rfl,hy,fun j _ hj=>by omega⟩
  ·have hx':x∈l:=by
    rcases List.mem_cons.1 hx with rfl|h
    ·exact absurd hp hy
    ·exact h
   obtain⟨i,z,h1,h2,h3⟩:=ih ⟨x,hx',hp⟩;refine⟨i+1,z,by simpa using h1,h2,fun j u hj hu=>?_⟩
   cases j with
   |zero=>simp at hu;subst hu;exact hy
   |succ j=>exact h3 j u (by omega) (by simpa using hu)
theorem First.uniq{α:Type}{P:α->Prop}{l:List α}{i j:Nat}{x y:α}(h:First P l i x)(h':First P l j y):i=j∧x=y:=by
 have e:i=j:=by
  rcases Nat.lt_trichotomy i j with h1|h1|h1
  ·exact absurd h.2.1 (h'.2.2 i x h1 h.1)
  ·exact h1
  ·exact absurd h'.2.1 (h.2.2 j y h1 h'.1)
 subst e;have:=h.1.symm.trans h'.1;exact⟨rfl,Option.some.inj this⟩
theorem First.find{α:Type}{P:α->Prop}{l:List α}{i:Nat}{x:α}(h:First P l i x)(p:α->Bool)(e:∀ y∈l,p y=true↔P y):l.find? p=some x:=by
 rw [List.find?_eq_some_iff_getElem];have hi:=h.lt;refine⟨(e x h.mem).2 h.2.1,i,hi,(List.getElem?_eq_some_iff.1 h.1).2,fun j hj=>?_⟩;have hj':l[j]? =some l[j]:=List.getElem?_eq_getElem (by omega);have:=h.2.2 j _ hj hj'
 cases hp:p l[j] with
 |false=>rfl
 |true=>exact absurd ((e _ (List.mem_of_getElem? hj')).1 hp) this
theorem place_split{α:Type}{f:α->Int}{R:α->α->Prop}:∀ {l:List α},l.Pairwise R->(∀ a b,R a b->f b<=0->f a<0)->
 (isIn f l=false∧∃ A C,l=A++C∧posOf f l=A.length∧(∀ a∈A,f a<0)∧∀ c∈C,0<f c)∨
 (isIn f l=true∧∃ A o C,l=A++o::C∧posOf f l=A.length∧f o=0∧(∀ a∈A,f a<0)∧∀ c∈C,0<f c):=by
 intro l
 induction l with
 |nil=>intro _ _;exact .inl ⟨rfl,[],[],rfl,rfl,by simp,by simp⟩
 |cons x l ih=>
  intro hp hR;obtain⟨hx,hl⟩:=List.pairwise_cons.1 hp
  by_cases h1:f x<0
  ·have hpo:posOf f (x::l)=posOf f l+1:=by simp [posOf,h1]
   have hin:isIn f (x::l)=isIn f l:=by
    rw [isIn,isIn,hpo];congr 1
    ·simp
   rw [hin,hpo]
   rcases ih hl hR with⟨hi,A,C,e,hA,ha,hc⟩|⟨hi,A,o,C,e,hA,h0,ha,hc⟩
   ·refine .inl ⟨hi,x::A,C,by rw [e];rfl,by rw [hA];rfl,fun a hm=>?_,hc⟩
    rcases List.mem_cons.1 hm with rfl|hm
    ·exact h1
    ·exact ha a hm
   ·refine .inr ⟨hi,x::A,o,C,by rw [e];rfl,by rw [hA];rfl,h0,fun a hm=>?_,hc⟩
    rcases List.mem_cons.1 hm with rfl|hm
    ·exact h1
    ·exact ha a hm
  ·have hpo:posOf f (x::l)=0:=by simp [posOf,h1]
   have hC:∀ c∈l,0<f c:=fun c hc=>by
    rcases Int.lt_or_le 0 (f c) with h|h
    ·exact h
    ·exact absurd (hR x c (hx c hc) h) h1
   have hin:isIn f (x::l)=decide (f x=0):=by
    rw [isIn,hpo];simp [cfOf]
   by_cases h0:f x=0
   ·exact .inr ⟨by rw [hin,decide_eq_true h0],[],x,l,rfl,hpo,h0,by simp,hC⟩
   ·refine .inl ⟨by rw [hin,decide_eq_false h0],[],x::l,rfl,hpo,by simp,fun c hc=>?_⟩
    rcases List.mem_cons.1 hc with rfl|hc
    ·omega
    ·exact hC c hc
theorem ins_len{α:Type}(A C:List α)(x:α):insAt A.length x (A++C)=A++x::C:=by simp [insAt]
theorem set_len{α:Type}(A C:List α)(o x:α):(A++o::C).set A.length x=A++x::C:=by
 rw [List.set_append_right _ _ (Nat.le_refl _)];simp
theorem cmpLs_lt_le{a b c:List ByteArray}(h1:Nm.cmpLs a b<0)(h2:Nm.cmpLs b c<=0):Nm.cmpLs a c<0:=by
 have h3:=cmpLs_trans (a:=a) (b:=b) (c:=c) (by omega) h2
 rcases Int.lt_or_eq_of_le h3 with h|h
 ·exact h
 ·exfalso
  have h4:=cmpLs_anti a c;have h5:=cmpLs_trans (a:=b) (b:=c) (c:=a) h2 (by rw [h4];omega);have h6:=cmpLs_anti a b;omega
theorem cmpLs_eq_left{a b c:List ByteArray}(h:Nm.cmpLs a b=0):Nm.cmpLs a c=Nm.cmpLs b c:=by
 have hr1:=cmpLs_range a c;have hr2:=cmpLs_range b c;have h':Nm.cmpLs b a=0:=by rw [cmpLs_anti a b];omega
 have k1:=fun(x:Nm.cmpLs b c<=0)=>cmpLs_trans (a:=a) (b:=b) (c:=c) (by omega) x
 have k2:=fun(x:Nm.cmpLs a c<=0)=>cmpLs_trans (a:=b) (b:=a) (c:=c) (by omega) x
 have k3:=fun(x:0<=Nm.cmpLs b c)=>cmpLs_trans' (a:=a) (b:=b) (c:=c) (by omega) x
 have k4:=fun(x:0<=Nm.cmpLs a c)=>cmpLs_trans' (a:=b) (b:=a) (c:=c) (by omega) x
 by_cases z1:Nm.cmpLs b c<=0<;>by_cases z2:0<=Nm.cmpLs b c<;>by_cases z3:Nm.cmpLs a c<=0<;>by_cases z4:0<=Nm.cmpLs a c<;>first|omega|(have:=k1 z1;omega)|(have:=k2 z3;omega)|(have:=k3 z2;omega)|(have:=k4 z4;omega)
theorem cmpLs_eq_right{a b c:List ByteArray}(h:Nm.cmpLs a b=0):Nm.cmpLs c a=Nm.cmpLs c b:=by
 rw [cmpLs_anti a c,cmpLs_anti b c,cmpLs_eq_left h]
theorem cmpLs_self(a:List ByteArray):Nm.cmpLs a a=0:=(cmpLs_zero a a).2 rfl
theorem cmpLs_symm{a b:List ByteArray}(h:Nm.cmpLs a b=0):Nm.cmpLs b a=0:=by rw [cmpLs_anti a b];omega
theorem oCmp_mono(lab:List ByteArray)(a b:GOw)(h:Nm.cmpLs a.lab b.lab<0)(hb:oCmp lab b<=0):oCmp lab a<0:=cmpLs_lt_le h hb
theorem sCmp_mono(ty:Int)(a b:GSe)(h:a.ty<b.ty)(hb:sCmp ty b<=0):sCmp ty a<0:=by
 rw [sCmp,cmpI_neg];rw [sCmp] at hb
 rcases Int.lt_trichotomy b.ty ty with h1|h1|h1
 ·omega
 ·omega
 ·rw [Nm.cmpI_gt h1] at hb;omega
theorem ordL_lt_le{a b c:List UInt8}(h1:Nm.ordL a b<0)(h2:Nm.ordL b c<=0):Nm.ordL a c<0:=by
 have h3:=ordL_trans a b c (by omega) h2
 rcases Int.lt_or_eq_of_le h3 with h|h
 ·exact h
 ·exfalso
  have h4:=ordL_anti a c;have h5:=ordL_trans b c a h2 (by rw [h4];omega);have h6:=ordL_anti a b;omega
theorem dCmp_mono(fd:ByteArray)(a b:ByteArray×ByteArray)(h:Nm.ordL a.1.data.toList b.1.data.toList<0)(hb:dCmp fd b<=0):dCmp fd a<0:=ordL_lt_le h hb
theorem dCmp_zero{fd:ByteArray}{p:ByteArray×ByteArray}:dCmp fd p=0↔p.1=fd:=by
 rw [dCmp,ordL_zero];exact⟨fun h=>Nm.ba_ext h,fun h=>by rw [h]⟩
theorem sCmp_zero{ty:Int}{s:GSe}:sCmp ty s=0↔s.ty=ty:=⟨fun h=>cmpI_zero h,fun h=>by rw [sCmp,Nm.cmpI_eq h]⟩
theorem low_low(c:UInt8):Nm.low (Nm.low c)=Nm.low c:=by
 by_cases h:65<=c.toNat∧c.toNat<=90
 ·have:=Nm.low_up h;exact Nm.low_id (by omega)
 ·rw [Nm.low_id h,Nm.low_id h]
theorem small_small(x:ByteArray):Nm.small (Nm.small x)=Nm.small x:=by
 apply Nm.ba_ext;rw [Nm.small_data,Nm.small_data,Nm.smallL,Nm.smallL,List.map_map];apply List.map_congr_left;intro c _;exact low_low c
theorem ordS_small(x y:ByteArray):Nm.ordS (Nm.small x) (Nm.small y)=Nm.ordS x y:=by
 rw [Nm.ordS,Nm.ordS,<- Nm.small_data,<- Nm.small_data,small_small,small_small,Nm.small_data,Nm.small_data]
theorem cmpRev_small:∀ (a b:List ByteArray),Nm.cmpRev (a.map Nm.small) (b.map Nm.small)=Nm.cmpRev a b
 |[],[]=>rfl
 |[],y::b=>rfl
 |x::a,[]=>rfl
 |x::a,y::b=>by
  simp only [List.map_cons,Nm.cmpRev,ordS_small,cmpRev_small a b]
theorem cmpLs_small(a b:List ByteArray):Nm.cmpLs (a.map Nm.small) (b.map Nm.small)=Nm.cmpLs a b:=by
 rw [Nm.cmpLs,<- List.map_reverse,<- List.map_reverse,cmpRev_small,Nm.cmpLs]
theorem underB_small(a b:List ByteArray):underB (a.map Nm.small) (b.map Nm.small)=underB a b:=by
 rw [underB,underB,List.length_map,List.length_map,<- List.map_drop,cmpLs_small]
theorem underB_same{a a' b b':List ByteArray}(h1:Nm.cmpLs a a'=0)(h2:Nm.cmpLs b b'=0):underB a b=underB a' b':=by
 rw [<- underB_small a b,<- underB_small a' b',(cmpLs_zero _ _).1 h1,(cmpLs_zero _ _).1 h2]
theorem len_same{a b:List ByteArray}(h:Nm.cmpLs a b=0):a.length=b.length:=by
 have:=congrArg List.length ((cmpLs_zero _ _).1 h);simpa using this
theorem split_fold{a:ByteArray}{xs:List ByteArray}(h:Nm.split a=some xs):Nm.split (Nm.foldS a)=some (xs.map Nm.small):=by
 rw [Nm.foldS_some h,<- Nm.joinL_small h];have:=Nm.split_size h;exact split_of_join (small_ok (Nm.split_join h).2) (by rw [Nm.wsum_small];omega)
theorem fold_lab{a b:ByteArray}{xs ys:List ByteArray}(ha:Nm.split a=some xs)(hb:Nm.split b=some ys):Nm.foldS a=Nm.foldS b↔Nm.cmpLs xs ys=0:=by
 constructor
 ·intro h;have h1:=split_fold ha;rw [h,split_fold hb] at h1;exact(cmpLs_zero _ _).2 (Option.some.inj h1).symm
 ·intro h;rw [Nm.foldS_some ha,Nm.foldS_some hb,<- Nm.joinL_small ha,<- Nm.joinL_small hb,(cmpLs_zero _ _).1 h]
theorem cmpS_fold{a b:ByteArray}{xs ys:List ByteArray}(ha:Nm.split a=some xs)(hb:Nm.split b=some ys):Nm.cmpS (Nm.foldS a) (Nm.foldS b)=Nm.cmpLs xs ys:=by
 rw [Nm.cmpS,split_fold ha,split_fold hb];exact cmpLs_small _ _
theorem isUnder_fold{a b:ByteArray}{xs ys:List ByteArray}(ha:Nm.split a=some xs)(hb:Nm.split b=some ys):isUnderS (Nm.foldS a) (Nm.foldS b)=underB xs ys:=by
 rw [isUnder_some (split_fold ha) (split_fold hb)];exact underB_small _ _
theorem low_star{c:UInt8}:Nm.low c=42↔c=42:=by
 by_cases h:65<=c.toNat∧c.toNat<=90
 ·have h1:=Nm.low_up h;constructor
  ·intro e;rw [e] at h1;simp at h1;omega
  ·intro e;rw [e] at h;simp at h
 ·rw [Nm.low_id h]
theorem wildL_same{a b:List ByteArray}(h:Nm.cmpLs a b=0):wildL a=wildL b:=by
 have e:=(cmpLs_zero _ _).1 h
 cases a with
 |nil=>
  cases b with
  |nil=>rfl
  |cons y b=>simp at e
 |cons x a=>
  cases b with
  |nil=>simp at e
  |cons y b=>
   simp only [List.map_cons,List.cons.injEq] at e;have e1:=congrArg (fun z:ByteArray=>z.data.toList) e.1;simp only [Nm.small_data,Nm.smallL] at e1;rw [wildL,wildL,ByteArray.toList_eq,ByteArray.toList_eq,Bool.eq_iff_iff];simp only [beq_iff_eq];generalize x.data.toList=X at*;generalize y.data.toList=Y at*
   have key:∀ Z:List UInt8,Z=[42]↔Z.map Nm.low=[42]:=by
    intro Z
    cases Z with
    |nil=>simp
    |cons z Z=>cases Z with
     |nil=>simp [low_star]
     |cons z' Z=>simp
   rw [key X,key Y,e1]
theorem starB_fold{a:ByteArray}{xs:List ByteArray}(h:Nm.split a=some xs):starB (Nm.foldS a)=wildL xs:=by
 have hj:=Nm.split_join h;rw [Nm.foldS_some h,<- Nm.joinL_small h,starB]
 cases xs with
 |nil=>rfl
 |cons x t=>
  have hx:=hj.2 x (List.mem_cons_self)
  have e:Nm.joinL ((x::t).map Nm.small)=UInt8.ofNat x.size::((Nm.small x).data.toList++Nm.joinL (t.map Nm.small)):=by
   simp [Nm.joinL,Nm.preL,Nm.small_size]
  have hs:1<(ByteArray.mk (Nm.joinL ((x::t).map Nm.small)).toArray).size:=by
   show 1<(Nm.joinL ((x::t).map Nm.small)).toArray.size
   rw [List.size_toArray,e];have:(Nm.small x).data.toList.length=x.size:=by rw [Nm.small_data];simp [Nm.smallL]
   simp only [List.length_cons,List.length_append,this];omega
  rw [decide_eq_true hs,Bool.true_and,wildL,Bool.eq_iff_iff,decide_eq_true_eq,beq_iff_eq,ByteArray.toList_eq];have hl:x.data.toList.length=x.size:=by simp
  rw [e,Nm.small_data,Nm.smallL];generalize x.data.toList=X at*
  cases X with
  |nil=>simp at hl;omega
  |cons c X=>
   have h63:x.size<=63:=hx.2;generalize x.size=n at*;constructor
   ·intro h2;have h3:=congrArg (fun z:ByteArray=>z.data.toList) h2;simp at h3;obtain⟨h4,h5⟩:=h3
    have hn:n=1:=by
     have:=congrArg UInt8.toNat h4;simp at this;omega
    subst hn;simp at hl;subst hl;rw [low_star.1 h5]
   ·intro h2;simp at h2;obtain⟨rfl,rfl⟩:=h2;simp at hl;subst hl;have h42:Nm.low 42=42:=low_star.2 rfl;apply Nm.ba_ext;simp [h42]
def labI(x:It):List ByteArray:=(Nm.split x.r.own).getD []
def GoodI(x:It):Prop:=Nm.split x.r.own=some (labI x)∧x.fo=Nm.foldS x.r.own∧x.dt=foldR x.r.ty x.r.da∧x.out=false
def OfO(lab:List ByteArray)(y:It):Prop:=Nm.cmpLs (labI y) lab=0
def OfS(lab:List ByteArray)(ty:Int)(y:It):Prop:=OfO lab y∧y.r.ty=ty
def OfD(lab:List ByteArray)(ty:Int)(fd:ByteArray)(y:It):Prop:=OfS lab ty y∧y.dt=fd
theorem good_fo{x y:It}(hx:GoodI x)(hy:GoodI y):x.fo=y.fo↔Nm.cmpLs (labI x) (labI y)=0:=by
 rw [hx.2.1,hy.2.1];exact fold_lab hx.1 hy.1
structure TInv (l:List It) (os:List GOw):Prop where
 sorted:OwS os∧∀ o∈os,SeS o.ss∧∀ s∈o.ss,DaS s.da
 len:os.length<=l.length∧∀ o∈os,o.ss.length<=l.length∧∀ s∈o.ss,s.da.length<=l.length
 own:∀ o∈os,∃ i x,First (OfO o.lab) l i x∧o.nm=x.r.own∧o.lab=labI x
 set:∀ o∈os,∀ s∈o.ss,∃ x,First (OfS o.lab s.ty) l s.fi x∧s.tt=x.r.tt
 dat:∀ o∈os,∀ s∈o.ss,∀ p∈s.da,∃ i x,First (OfD o.lab s.ty p.1) l i x∧p.2=x.r.da
 cov:∀ x∈l,∃ o∈os,OfO o.lab x∧∃ s∈o.ss,s.ty=x.r.ty∧∃ p∈s.da,p.1=x.dt
theorem TInv.nil:TInv [] []:=⟨⟨List.Pairwise.nil,by simp⟩,by simp,by simp,by simp,by simp,by simp⟩
theorem TInv.trs{l:List It}{os:List GOw}(h:TInv l os)(hl:l.length<=400000):TrS os:=
 ⟨h.sorted.1,fun o ho=>⟨(h.sorted.2 o ho).1,by have:=(h.len.2 o ho).1;omega,fun s hs=>⟨(h.sorted.2 o ho).2 s hs,by have:=(h.len.2 o ho).2 s hs;omega⟩⟩⟩
theorem pair_mid{α:Type}{R:α->α->Prop}{A C:List α}{x:α}(h:(A++C).Pairwise R)(ha:∀ a∈A,R a x)(hc:∀ c∈C,R x c):(A++x::C).Pairwise R:=by
 rw [List.pairwise_append] at h ⊢;refine⟨h.1,List.pairwise_cons.2 ⟨hc,h.2.1⟩,fun a hm b hb=>?_⟩
 rcases List.mem_cons.1 hb with rfl|hb
 ·exact ha a hm
 ·exact h.2.2 a hm b hb
theorem pair_drop{α:Type}{R:α->α->Prop}{A C:List α}{o:α}(h:(A++o::C).Pairwise R):(A++C).Pairwise R:=by
 refine h.sublist ?_;exact List.Sublist.append_left (List.sublist_cons_self o C) A
structure LayP (own:ByteArray) (lv:Value) (lab:List ByteArray) (ty tt:Int) (at_:Nat) (fd da:ByteArray) (os os':List GOw) (o':GOw) (s':GSe) (isNew:Bool):Prop where
 spl:∃ (A C:List GOw) (o1:GOw) (A2 C2:List GSe) (s2:GSe),os'=A++o'::C∧(∀ a∈A,Nm.cmpLs a.lab lab<0)∧(∀ c∈C,0<Nm.cmpLs c.lab lab)∧
  o'.blk=o1.blk∧o'.lab=o1.lab∧o'.nm=o1.nm∧o'.lv=o1.lv∧
  ((os=A++o1::C∧Nm.cmpLs o1.lab lab=0)∨(os=A++C∧o1.lab=lab∧o1.nm=own∧o1.ss=[]∧o1.lv=lv))∧
  o'.ss=A2++s'::C2∧(∀ a∈A2,a.ty<ty)∧(∀ c∈C2,ty<c.ty)∧s'.blk=s2.blk∧s'.ty=ty∧s2.ty=ty∧s'.fi=s2.fi∧s'.tt=s2.tt∧
  (o1.ss=A2++s2::C2∨(o1.ss=A2++C2∧s2.tt=tt∧s2.fi=at_∧s2.da=[]))∧
  ((isNew=false∧s'.da=s2.da∧∃ p∈s2.da,p.1=fd)∨(isNew=true∧∃ A3 C3,s2.da=A3++C3∧s'.da=A3++(fd,da)::C3∧(∀ a∈A3,Nm.ordL a.1.data.toList fd.data.toList<0)∧(∀ c∈C3,0<Nm.ordL c.1.data.toList fd.data.toList)))
theorem layP_of{own:ByteArray}{lv:Value}{lab:List ByteArray}{ty tt:Int}{at_:Nat}{fd da:ByteArray}{os os':List GOw}{ob sb:Nat}{isNew:Bool}(hs:OwS os∧∀ o∈os,SeS o.ss∧∀ s∈o.ss,DaS s.da)(h:LayG own lv lab ty tt at_ fd da os os' ob sb isNew):
 ∃ o' s',LayP own lv lab ty tt at_ fd da os os' o' s' isNew∧o'.blk=ob∧s'.blk=sb:=by
 obtain⟨o1,os1,s2,ss2,rv2,rv3,hO,hS,rfl,rfl,hN,hos⟩:=h
 have hss:SeS o1.ss∧∀ s∈o1.ss,DaS s.da:=by
  rcases hO with⟨_,_,h1,_⟩|⟨_,_,_,_,_,h1⟩
  ·exact hs.2 o1 (List.mem_of_getElem? h1)
  ·rw [h1];exact⟨List.Pairwise.nil,by simp⟩
 have hdd:DaS s2.da:=by
  rcases hS with⟨_,_,h1,_⟩|⟨_,_,_,_,_,h1⟩
  ·exact hss.2 s2 (List.mem_of_getElem? h1)
  ·rw [h1];exact List.Pairwise.nil
 obtain⟨s',hs'⟩:∃ s':GSe,s'={s2 with rv:=rv3,da:=putF (dCmp fd) (fd,da) s2.da}:=⟨_,rfl⟩;rw [<- hs'] at hos
 have pS:∃ (A2 C2:List GSe),ss2.set (posOf (sCmp ty) o1.ss) s'=A2++s'::C2∧(∀ a∈A2,a.ty<ty)∧(∀ c∈C2,ty<c.ty)∧s2.ty=ty∧(o1.ss=A2++s2::C2∨(o1.ss=A2++C2∧s2.tt=tt∧s2.fi=at_∧s2.da=[])):=by
  have gt:∀ {A:List GSe},(∀ c∈A,0<sCmp ty c)->∀ c∈A,ty<c.ty:=fun h c hc=>by
   have:=h c hc;rw [sCmp] at this
   rcases Int.lt_trichotomy c.ty ty with h1|h1|h1
   ·rw [Nm.cmpI_lt h1] at this;omega
   ·rw [Nm.cmpI_eq h1] at this;omega
   ·exact h1
  have lt:∀ {A:List GSe},(∀ c∈A,sCmp ty c<0)->∀ c∈A,c.ty<ty:=fun h c hc=>cmpI_neg.1 (h c hc)
  rcases place_split (f:=sCmp ty) hss.1 (sCmp_mono ty) with⟨hi,A,C,e,hp,ha,hc⟩|⟨hi,A,o,C,e,hp,h0,ha,hc⟩
  ·rcases hS with⟨h1,_⟩|⟨_,h2,h3,h4,h5,h6⟩
   ·rw [hi] at h1;cases h1
   ·refine⟨A,C,?_,lt ha,gt hc,h3,.inr ⟨e,h4,h5,h6⟩⟩;rw [h2,hp,e,ins_len,set_len]
  ·rcases hS with⟨_,h2,h3,h4⟩|⟨h1,_⟩
   ·have e2:s2=o:=by
     rw [hp,e,List.getElem?_append_right (Nat.le_refl _)] at h3;simp at h3;exact h3.symm
    subst e2;refine⟨A,C,?_,lt ha,gt hc,h4,.inl e⟩;rw [h2,hp,e,set_len]
   ·rw [hi] at h1;cases h1
 obtain⟨A2,C2,e2,hA2,hC2,hty,hcase2⟩:=pS;rw [e2] at hos;obtain⟨o',ho'⟩:∃ o':GOw,o'={o1 with rv:=rv2,ss:=A2++s'::C2}:=⟨_,rfl⟩;rw [<- ho'] at hos
 have pD:(isNew=false∧s'.da=s2.da∧∃ p∈s2.da,p.1=fd)∨(isNew=true∧∃ A3 C3,s2.da=A3++C3∧s'.da=A3++(fd,da)::C3∧(∀ a∈A3,Nm.ordL a.1.data.toList fd.data.toList<0)∧(∀ c∈C3,0<Nm.ordL c.1.data.toList fd.data.toList)):=by
  have e3:s'.da=putF (dCmp fd) (fd,da) s2.da:=by rw [hs']
  rcases place_split (f:=dCmp fd) hdd (dCmp_mono fd) with⟨hi,A,C,e,hp,ha,hc⟩|⟨hi,A,o,C,e,hp,h0,ha,hc⟩
  ·refine .inr ⟨by rw [hN,hi];rfl,A,C,e,?_,ha,hc⟩;rw [e3,putF,hi,hp];simp only [Bool.false_eq_true,if_false];rw [e,ins_len]
  ·refine .inl ⟨by rw [hN,hi];rfl,by rw [e3,putF,hi];rfl,o,by rw [e];simp,dCmp_zero.1 h0⟩
 refine⟨o',s',⟨?_⟩,by rw [ho'],by rw [hs']⟩
 rcases place_split (f:=oCmp lab) hs.1 (oCmp_mono lab) with⟨hi,A,C,e,hp,ha,hc⟩|⟨hi,A,o,C,e,hp,h0,ha,hc⟩
 ·rcases hO with⟨h1,_⟩|⟨_,h2,h3,h4,h5,h6⟩
  ·rw [hi] at h1;cases h1
  ·refine⟨A,C,o1,A2,C2,s2,?_,ha,hc,by rw [ho'],by rw [ho'],by rw [ho'],by rw [ho'],.inr ⟨e,h3,h5,h6,h4⟩,by rw [ho'],hA2,hC2,by rw [hs'],by rw [hs'];exact hty,hty,by rw [hs'],by rw [hs'],hcase2,pD⟩;rw [hos,h2,hp,e,ins_len,set_len]
 ·rcases hO with⟨_,h2,h3,h4⟩|⟨h1,_⟩
  ·have e1:o1=o:=by
    rw [hp,e,List.getElem?_append_right (Nat.le_refl _)] at h3;simp at h3;exact h3.symm
   subst e1;refine⟨A,C,o1,A2,C2,s2,?_,ha,hc,by rw [ho'],by rw [ho'],by rw [ho'],by rw [ho'],.inl ⟨e,h4⟩,by rw [ho'],hA2,hC2,by rw [hs'],by rw [hs'];exact hty,hty,by rw [hs'],by rw [hs'],hcase2,pD⟩;rw [hos,h2,hp,e,set_len]
  ·rw [hi] at h1;cases h1
structure LayR (l:List It) (x:It) (lv:Value) (os os':List GOw) (o':GOw) (s':GSe) (isNew:Bool):Prop where
 inv:TInv (l++[x]) os'
 isOwn:o'∈os'∧OfO o'.lab x
 isSet:s'∈o'.ss∧s'.ty=x.r.ty
 nw:isNew=true↔ ∀ y∈l,¬OfD (labI x) x.r.ty x.dt y
 kept:∀ o∈os,∃ q∈os',q.blk=o.blk∧q.lab=o.lab∧q.lv=o.lv∧∀ s∈o.ss,∃ t∈q.ss,t.blk=s.blk∧t.ty=s.ty
 lvs:∀ q∈os',(∃ o∈os,q.lv=o.lv∧q.lab=o.lab)∨(q.lv=lv∧q.lab=labI x)
theorem mem_mid{α:Type}{A C:List α}{x q:α}(h:q∈A++x::C):q=x∨q∈A∨q∈C:=by
 rcases List.mem_append.1 h with h|h
 ·exact .inr (.inl h)
 ·rcases List.mem_cons.1 h with h|h
  ·exact .inl h
  ·exact .inr (.inr h)
theorem lay_r{l:List It}{x:It}{lv:Value}{os os':List GOw}{o':GOw}{s':GSe}{isNew:Bool}(hI:TInv l os)(h:LayP x.r.own lv (labI x) x.r.ty x.r.tt l.length x.dt x.r.da os os' o' s' isNew):LayR l x lv os os' o' s' isNew:=by
 obtain⟨A,C,o1,A2,C2,s2,eos,hA,hC,eb,el,en,ev,hO,ess,hA2,hC2,sb,st,st2,sf,stt,hS,hD⟩:=h.spl
 have olab:Nm.cmpLs o1.lab (labI x)=0:=by
  rcases hO with⟨_,h1⟩|⟨_,h1,_⟩
  ·exact h1
  ·rw [h1];exact cmpLs_self _
 have isO:∀ y,OfO o1.lab y↔OfO (labI x) y:=fun y=>by rw [OfO,OfO,cmpLs_eq_right olab]
 have nz:∀ o,(o∈A∨o∈C)->Nm.cmpLs o.lab (labI x)≠0:=fun o ho=>by
  rcases ho with ho|ho
  ·have:=hA o ho;omega
  ·have:=hC o ho;omega
 have nt:∀ s,(s∈A2∨s∈C2)->s.ty≠x.r.ty:=fun s hs=>by
  rcases hs with hs|hs
  ·have:=hA2 s hs;omega
  ·have:=hC2 s hs;omega
 have acO:∀ o,(o∈A∨o∈C)->o∈os:=fun o ho=>by
  rcases hO with⟨e,_⟩|⟨e,_⟩<;>rw [e]<;>rcases ho with ho|ho<;>simp [ho]
 have acS:∀ s,(s∈A2∨s∈C2)->s∈o1.ss:=fun s hs=>by
  rcases hS with e|⟨e,_⟩<;>rw [e]<;>rcases hs with hs|hs<;>simp [hs]
 have o1os:o1.ss≠[]->o1∈os:=fun hne=>by
  rcases hO with⟨e,_⟩|⟨_,_,_,h1,_⟩
  ·rw [e];simp
  ·exact absurd h1 hne
 have mne:∀ {s:GSe},s∈o1.ss->o1∈os:=fun hs=>o1os (List.ne_nil_of_mem hs)
 have covO:∀ y∈l,OfO (labI x) y->o1∈os∧∃ s∈o1.ss,s.ty=y.r.ty∧∃ p∈s.da,p.1=y.dt:=by
  intro y hy h1;obtain⟨o,ho,h2,s,hs,h3,p,hp,h4⟩:=hI.cov y hy;have h5:Nm.cmpLs o.lab (labI x)=0:=by rw [<- cmpLs_eq_left h2];exact h1
  rcases hO with⟨e,_⟩|⟨e,_⟩
  ·rw [e] at ho
   rcases mem_mid ho with rfl|ho
   ·exact⟨by rw [e];simp,s,hs,h3,p,hp,h4⟩
   ·exact absurd h5 (nz o ho)
  ·rw [e] at ho;exact absurd h5 (nz o (List.mem_append.1 ho))
 have covS:∀ y∈l,OfS (labI x) x.r.ty y->o1.ss=A2++s2::C2∧∃ p∈s2.da,p.1=y.dt:=by
  intro y hy h1;obtain⟨_,s,hs,h3,hp⟩:=covO y hy h1.1;rw [h1.2] at h3
  rcases hS with e|⟨e,_⟩
  ·rw [e] at hs
   rcases mem_mid hs with rfl|hs
   ·exact⟨e,hp⟩
   ·exact absurd h3 (nt s hs)
  ·rw [e] at hs;exact absurd h3 (nt s (List.mem_append.1 hs))
 have covD:∀ y∈l,OfD (labI x) x.r.ty x.dt y->isNew=false:=by
  intro y hy h1;obtain⟨_,p,hp,h3⟩:=covS y hy h1.1;rw [h1.2] at h3;have h0:Nm.ordL p.1.data.toList x.dt.data.toList=0:=dCmp_zero.2 h3
  rcases hD with⟨h4,_⟩|⟨_,A3,C3,e,_,ha,hc⟩
  ·exact h4
  ·rw [e] at hp
   rcases List.mem_append.1 hp with hp|hp
   ·have:=ha p hp;omega
   ·have:=hc p hp;omega
 have s2da:s2.da≠[]->s2∈o1.ss:=fun hne=>by
  rcases hS with e|⟨_,_,_,e⟩
  ·rw [e];simp
  ·exact absurd e hne
 have nw:isNew=true↔ ∀ y∈l,¬OfD (labI x) x.r.ty x.dt y:=by
  constructor
  ·intro h1 y hy h2;rw [covD y hy h2] at h1;cases h1
  ·intro h1
   rcases hD with⟨_,_,p,hp,h3⟩|⟨h2,_⟩
   ·exfalso
    have hs:=s2da (List.ne_nil_of_mem hp);obtain⟨i,y,hy,_⟩:=hI.dat o1 (mne hs) s2 hs p hp;obtain⟨⟨z1,z2⟩,z3⟩:=hy.2.1;exact h1 y hy.mem ⟨⟨(isO y).1 z1,by rw [z2,st2]⟩,by rw [z3,h3]⟩
   ·exact h2
 have sub3:∀ p∈s2.da,p∈s'.da:=fun p hp=>by
  rcases hD with⟨_,e,_⟩|⟨_,A3,C3,e,e',_⟩
  ·rw [e];exact hp
  ·rw [e'];rw [e] at hp
   rcases List.mem_append.1 hp with hp|hp<;>simp [hp]
 have xp:∃ p∈s'.da,p.1=x.dt:=by
  rcases hD with⟨_,e,p,hp,h3⟩|⟨_,A3,C3,e,e',_⟩
  ·exact⟨p,by rw [e];exact hp,h3⟩
  ·exact⟨(x.dt,x.r.da),by rw [e'];simp,rfl⟩
 have o'm:o'∈os':=by rw [eos];simp
 have s'm:s'∈o'.ss:=by rw [ess];simp
 have acO':∀ o,(o∈A∨o∈C)->o∈os':=fun o ho=>by rw [eos];rcases ho with ho|ho<;>simp [ho]
 have acS':∀ s,(s∈A2∨s∈C2)->s∈o'.ss:=fun s hs=>by rw [ess];rcases hs with hs|hs<;>simp [hs]
 have isOwn:OfO o'.lab x:=by rw [OfO,el];exact cmpLs_symm olab
 have o1so:SeS o1.ss∧∀ s∈o1.ss,DaS s.da:=by
  rcases hO with⟨e,_⟩|⟨_,_,_,h1,_⟩
  ·exact hI.sorted.2 o1 (by rw [e];simp)
  ·rw [h1];exact⟨List.Pairwise.nil,by simp⟩
 have s2so:DaS s2.da:=by
  rcases hS with e|⟨_,_,_,e⟩
  ·exact o1so.2 s2 (by rw [e];simp)
  ·rw [e];exact List.Pairwise.nil
 have ow:OwS os':=by
  rw [eos];refine pair_mid ?_ (fun a ha=>?_) (fun c hc=>?_)
  ·rcases hO with⟨e,_⟩|⟨e,_⟩
   ·exact pair_drop (by rw [<- e];exact hI.sorted.1)
   ·rw [<- e];exact hI.sorted.1
  ·rw [el,cmpLs_eq_right olab];exact hA a ha
  ·rw [el,cmpLs_eq_left olab,cmpLs_anti c.lab];have:=hC c hc;omega
 have se:SeS o'.ss:=by
  rw [ess];refine pair_mid ?_ (fun a ha=>by rw [st];exact hA2 a ha) (fun c hc=>by rw [st];exact hC2 c hc)
  rcases hS with e|⟨e,_⟩
  ·exact pair_drop (by rw [<- e];exact o1so.1)
  ·rw [<- e];exact o1so.1
 have da:DaS s'.da:=by
  rcases hD with⟨_,e,_⟩|⟨_,A3,C3,e,e',ha,hc⟩
  ·rw [e];exact s2so
  ·rw [e'];refine pair_mid (by rw [<- e];exact s2so) ha (fun c h1=>?_);rw [ordL_anti c.1.data.toList];have:=hc c h1;simp only
   omega
 have l1:os'.length<=os.length+1:=by
  rw [eos]
  rcases hO with⟨e,_⟩|⟨e,_⟩<;>rw [e]<;>simp<;>omega
 have l2:o'.ss.length<=o1.ss.length+1:=by
  rw [ess]
  rcases hS with e|⟨e,_⟩<;>rw [e]<;>simp<;>omega
 have l3:s'.da.length<=s2.da.length+1:=by
  rcases hD with⟨_,e,_⟩|⟨_,A3,C3,e,e',_⟩
  ·rw [e];omega
  ·rw [e',e];simp;omega
 have l4:o1.ss.length<=l.length∧∀ s∈o1.ss,s.da.length<=l.length:=by
  rcases hO with⟨e,_⟩|⟨_,_,_,h1,_⟩
  ·exact hI.len.2 o1 (by rw [e];simp)
  ·rw [h1];simp
 have l5:s2.da.length<=l.length:=by
  rcases hS with e|⟨_,_,_,e⟩
  ·exact l4.2 s2 (by rw [e];simp)
  ·rw [e];simp
 have hll:(l++[x]).length=l.length+1:=by simp
 refine⟨⟨⟨ow,fun q hq=>?_⟩,⟨by have:=hI.len.1;omega,fun q hq=>?_⟩,fun q hq=>?_,fun q hq s hs=>?_,fun q hq s hs p hp=>?_,fun y hy=>?_⟩,⟨o'm,isOwn⟩,⟨s'm,st⟩,nw,fun o ho=>?_,fun q hq=>?_⟩
 ·rw [eos] at hq
  rcases mem_mid hq with rfl|hq
  ·refine⟨se,fun s hs=>?_⟩;rw [ess] at hs
   rcases mem_mid hs with rfl|hs
   ·exact da
   ·exact o1so.2 s (acS s hs)
  ·exact hI.sorted.2 q (acO q hq)
 ·rw [eos] at hq
  rcases mem_mid hq with rfl|hq
  ·refine⟨by omega,fun s hs=>?_⟩;rw [ess] at hs
   rcases mem_mid hs with rfl|hs
   ·omega
   ·have:=l4.2 s (acS s hs);omega
  ·have h1:=hI.len.2 q (acO q hq);exact⟨by omega,fun s hs=>by have:=h1.2 s hs;omega⟩
 ·rw [eos] at hq
  rcases mem_mid hq with rfl|hq
  ·rcases hO with⟨e,_⟩|⟨e,h1,h2,h3,_⟩
   ·obtain⟨i,y,h1,h2,h3⟩:=hI.own o1 (by rw [e];simp);exact⟨i,y,by rw [el];exact h1.snoc x,by rw [en,h2],by rw [el,h3]⟩
   ·refine⟨l.length,x,First.new (fun y hy h4=>?_) isOwn,by rw [en,h2],by rw [el,h1]⟩;rw [el,isO] at h4;obtain⟨_,s,hs,_⟩:=covO y hy h4;rw [h3] at hs;cases hs
  ·obtain⟨i,y,h1,h2⟩:=hI.own q (acO q hq);exact⟨i,y,h1.snoc x,h2⟩
 ·rw [eos] at hq
  rcases mem_mid hq with rfl|hq
  ·rw [ess] at hs
   rcases mem_mid hs with rfl|hs
   ·rcases hS with e|⟨e,h1,h2,h3⟩
    ·have hm:s2∈o1.ss:=by rw [e];simp
     obtain⟨y,h1,h2⟩:=hI.set o1 (mne hm) s2 hm;exact⟨y,by rw [el,st,sf,<- st2];exact h1.snoc x,by rw [stt,h2]⟩
    ·refine⟨x,?_,by rw [stt,h1]⟩;rw [sf,h2];refine First.new (fun y hy h4=>?_) ⟨isOwn,st.symm⟩;rw [el,st] at h4;have h5:=(covS y hy ⟨(isO y).1 h4.1,h4.2⟩).1;rw [e] at h5;have h6:s2∈A2++C2:=by rw [h5];simp
     exact nt s2 (List.mem_append.1 h6) st2
   ·obtain⟨y,h1,h2⟩:=hI.set o1 (mne (acS s hs)) s (acS s hs);exact⟨y,by rw [el];exact h1.snoc x,h2⟩
  ·obtain⟨y,h1,h2⟩:=hI.set q (acO q hq) s hs;exact⟨y,h1.snoc x,h2⟩
 ·rw [eos] at hq
  rcases mem_mid hq with rfl|hq
  ·rw [ess] at hs
   rcases mem_mid hs with rfl|hs
   ·have hcase:p∈s2.da∨(isNew=true∧p=(x.dt,x.r.da)):=by
     rcases hD with⟨_,e,_⟩|⟨h1,A3,C3,e,e',_⟩
     ·rw [e] at hp;exact .inl hp
     ·rw [e'] at hp
      rcases mem_mid hp with h2|h2
      ·exact .inr ⟨h1,h2⟩
      ·rw [e];exact .inl (List.mem_append.2 h2)
    rcases hcase with hp|⟨h1,rfl⟩
    ·have hm:=s2da (List.ne_nil_of_mem hp);obtain⟨i,y,h1,h2⟩:=hI.dat o1 (mne hm) s2 hm p hp;exact⟨i,y,by rw [el,st,<- st2];exact h1.snoc x,h2⟩
    ·refine⟨l.length,x,First.new (fun y hy h4=>?_) ⟨⟨isOwn,st.symm⟩,rfl⟩,rfl⟩;rw [el,st] at h4;exact nw.1 h1 y hy ⟨⟨(isO y).1 h4.1.1,h4.1.2⟩,h4.2⟩
   ·obtain⟨i,y,h1,h2⟩:=hI.dat o1 (mne (acS s hs)) s (acS s hs) p hp;exact⟨i,y,by rw [el];exact h1.snoc x,h2⟩
  ·obtain⟨i,y,h1,h2⟩:=hI.dat q (acO q hq) s hs p hp;exact⟨i,y,h1.snoc x,h2⟩
 ·rcases List.mem_append.1 hy with hy|hy
  ·obtain⟨o,ho,h2,s,hs,h3,p,hp,h4⟩:=hI.cov y hy
   by_cases hoo:Nm.cmpLs o.lab (labI x)=0
   ·have h5:OfO (labI x) y:=by rw [OfO,cmpLs_eq_left h2];exact hoo
    obtain⟨hm,s,hs,h3,p,hp,h4⟩:=covO y hy h5;refine⟨o',o'm,by rw [el];exact(isO y).2 h5,?_⟩
    rcases hS with e|⟨e,_⟩
    ·rw [e] at hs
     rcases mem_mid hs with rfl|hs
     ·exact⟨s',s'm,by rw [st,<- st2,h3],p,sub3 p hp,h4⟩
     ·exact⟨s,acS' s hs,h3,p,hp,h4⟩
    ·rw [e] at hs;exact⟨s,acS' s (List.mem_append.1 hs),h3,p,hp,h4⟩
   ·have hm:o∈A∨o∈C:=by
     rcases hO with⟨e,_⟩|⟨e,_⟩
     ·rw [e] at ho
      rcases mem_mid ho with rfl|ho
      ·exact absurd olab hoo
      ·exact ho
     ·rw [e] at ho;exact List.mem_append.1 ho
    exact⟨o,acO' o hm,h2,s,hs,h3,p,hp,h4⟩
  ·obtain rfl:=List.mem_singleton.1 hy;obtain⟨p,hp,h1⟩:=xp;exact⟨o',o'm,isOwn,s',s'm,st,p,hp,h1⟩
 ·have hm:o=o1∨o∈A∨o∈C:=by
   rcases hO with⟨e,_⟩|⟨e,_⟩
   ·rw [e] at ho;exact mem_mid ho
   ·rw [e] at ho;exact .inr (List.mem_append.1 ho)
  rcases hm with rfl|hm
  ·refine⟨o',o'm,eb,el,ev,fun s hs=>?_⟩
   have hm2:s=s2∨s∈A2∨s∈C2:=by
    rcases hS with e|⟨e,_⟩
    ·rw [e] at hs;exact mem_mid hs
    ·rw [e] at hs;exact .inr (List.mem_append.1 hs)
   rcases hm2 with rfl|hm2
   ·exact⟨s',s'm,sb,by rw [st,st2]⟩
   ·exact⟨s,acS' s hm2,rfl,rfl⟩
  ·exact⟨o,acO' o hm,rfl,rfl,rfl,fun s hs=>⟨s,hs,rfl,rfl⟩⟩
 ·rw [eos] at hq
  rcases mem_mid hq with rfl|hq
  ·rcases hO with⟨e,_⟩|⟨_,h1,_,_,h2⟩
   ·exact .inl ⟨o1,by rw [e];simp,ev,el⟩
   ·exact .inr ⟨by rw [ev,h2],by rw [el,h1]⟩
  ·exact .inl ⟨q,acO q hq,rfl,rfl⟩
def preR:List ByteArray->List ByteArray->Bool
 |[],_=>true
 |_::_,[]=>false
 |x::a,y::b=>decide (Nm.ordS x y=0)&&preR a b
theorem preR_iff:∀ (a c:List ByteArray),preR a c=(decide (a.length<=c.length)&&decide (Nm.cmpRev (c.take a.length) a=0))
 |[],c=>by simp [preR,Nm.cmpRev]
 |x::a,[]=>by simp [preR]
 |x::a,y::c=>by
  have e:Nm.ordS y x=0↔Nm.ordS x y=0:=by rw [ordS_anti x y];omega
  rw [preR,preR_iff a c];simp only [List.length_cons,List.take_succ_cons,Nm.cmpRev]
  by_cases h:Nm.ordS x y=0
  ·simp [h,e.2 h]
  ·have h':¬Nm.ordS y x=0:=fun z=>h (e.1 z)
   simp [h,h']
theorem under_pre(xs ys:List ByteArray):underB xs ys=preR ys.reverse xs.reverse:=by
 rw [preR_iff,underB,List.length_reverse,List.length_reverse,Nm.cmpLs]
 by_cases h:ys.length<=xs.length
 ·have e:(xs.drop (xs.length-ys.length)).reverse=xs.reverse.take ys.length:=by
   rw [List.take_reverse]
  rw [e]
 ·rw [decide_eq_false h,Bool.false_and,Bool.false_and]
theorem preR_mid:∀ (a b c:List ByteArray),preR a c=true->Nm.cmpRev a b<=0->Nm.cmpRev b c<=0->preR a b=true
 |[],b,c,_,_,_=>by simp [preR]
 |x::a,b,[],h,_,_=>by simp [preR] at h
 |x::a,[],z::c,h,h1,_=>by simp [Nm.cmpRev] at h1
 |x::a,y::b,z::c,h,h1,h2=>by
  simp only [preR,Bool.and_eq_true,decide_eq_true_eq] at h ⊢;obtain⟨h3,h4⟩:=h;rw [Nm.cmpRev] at h1 h2;have e1:=(ordS_swap h3 y).2;have e2:=ordS_anti x y
  by_cases hxy:Nm.ordS x y=0
  ·rw [if_pos hxy] at h1;rw [if_pos (by omega)] at h2;exact⟨hxy,preR_mid a b c h4 h1 h2⟩
  ·rw [if_neg hxy] at h1;rw [if_neg (by omega)] at h2;omega
theorem preR_trans:∀ (a b c:List ByteArray),preR a b=true->preR b c=true->preR a c=true
 |[],b,c,_,_=>by simp [preR]
 |x::a,[],c,h,_=>by simp [preR] at h
 |x::a,y::b,[],_,h=>by simp [preR] at h
 |x::a,y::b,z::c,h1,h2=>by
  simp only [preR,Bool.and_eq_true,decide_eq_true_eq] at h1 h2 ⊢;exact⟨by rw [(ordS_swap h1.1 z).1];exact h2.1,preR_trans a b c h1.2 h2.2⟩
theorem preR_le:∀ (a c:List ByteArray),preR a c=true->Nm.cmpRev a c<=0
 |[],[],_=>by simp [Nm.cmpRev]
 |[],y::c,_=>by simp [Nm.cmpRev]
 |x::a,[],h=>by simp [preR] at h
 |x::a,y::c,h=>by
  simp only [preR,Bool.and_eq_true,decide_eq_true_eq] at h;rw [Nm.cmpRev,if_pos h.1];exact preR_le a c h.2
theorem under_mid{n t o:List ByteArray}(h:underB n t=true)(h1:Nm.cmpLs t o<0)(h2:Nm.cmpLs o n<0):underB o t=true:=by
 rw [under_pre] at h ⊢;exact preR_mid _ _ _ h (by rw [Nm.cmpLs] at h1;omega) (by rw [Nm.cmpLs] at h2;omega)
theorem under_trans{a b c:List ByteArray}(h1:underB a b=true)(h2:underB b c=true):underB a c=true:=by
 rw [under_pre] at h1 h2 ⊢;exact preR_trans _ _ _ h2 h1
theorem under_le{a b:List ByteArray}(h:underB a b=true):Nm.cmpLs b a<=0:=by
 rw [under_pre] at h;exact preR_le _ _ h
theorem under_len{a b:List ByteArray}(h:underB a b=true):b.length<a.length↔Nm.cmpLs a b≠0:=by
 simp only [underB,Bool.and_eq_true,decide_eq_true_eq] at h;constructor
 ·intro h1 h2;have:=len_same h2;omega
 ·intro h1
  rcases Nat.lt_or_eq_of_le h.1 with h2|h2
  ·exact h2
  ·exfalso
   apply h1;have:=h.2;rw [h2,Nat.sub_self,List.drop_zero] at this;exact this
def has39(o:GOw):Bool:=isIn (sCmp 39) o.ss
def belStep(acc:Option GOw×List GOw)(o:GOw):Option GOw×List GOw:=match acc.1 with
 |some q=>if underB o.lab q.lab then(some q,acc.2++[o]) else if has39 o then(some o,acc.2) else(some q,acc.2)
 |none=>if has39 o then(some o,acc.2) else(none,acc.2)
def belK(os:List GOw):Option GOw×List GOw:=os.foldl belStep (none,[])
theorem belK_snoc(os:List GOw)(o:GOw):belK (os++[o])=belStep (belK os) o:=by simp [belK,List.foldl_append]
structure BelInv (pre:List GOw):Prop where
 tail:∀ q,(belK pre).1=some q->q∈pre∧has39 q=true
 out:∀ o∈pre,(o∈(belK pre).2↔ ∃ q∈pre,has39 q=true∧Nm.cmpLs o.lab q.lab≠0∧underB o.lab q.lab=true)
 sub:∀ o∈(belK pre).2,o∈pre
 cov:∀ q∈pre,has39 q=true->∃ t,(belK pre).1=some t∧∀ n,(∀ p∈pre,Nm.cmpLs p.lab n<0)->underB n q.lab=true->underB n t.lab=true
theorem snoc_ind{α:Type}{P:List α->Prop}(h0:P [])(h1:∀ l a,P l->P (l++[a]))(l:List α):P l:=by
 have h:∀ m:List α,P m.reverse:=by
  intro m
  induction m with
  |nil=>exact h0
  |cons a m ih=>rw [List.reverse_cons];exact h1 _ _ ih
 have h2:=h l.reverse
 rwa [List.reverse_reverse] at h2
theorem bel_inv:∀ (pre:List GOw),OwS pre->BelInv pre:=by
 refine snoc_ind (P:=fun pre=>OwS pre->BelInv pre) ?_ ?_
 ·intro _;exact⟨by simp [belK],by simp,by simp [belK],by simp⟩
 ·intro pre o ih hs;obtain⟨hs1,_,hs2⟩:=List.pairwise_append.1 hs;have hlt:∀ p∈pre,Nm.cmpLs p.lab o.lab<0:=fun p hp=>hs2 p hp o (by simp)
  have I:=ih hs1
  have hne:∀ p∈pre,p≠o:=fun p hp e=>by
   have:=hlt p hp;rw [e,cmpLs_self] at this;omega
  have up:∀ p∈pre,underB p.lab o.lab=false:=fun p hp=>by
   cases h:underB p.lab o.lab with
   |false=>rfl
   |true=>have h1:=under_le h;have h2:=hlt p hp;have h3:=cmpLs_anti p.lab o.lab;omega
  have strict:∀ q∈pre,Nm.cmpLs o.lab q.lab≠0:=fun q hq=>by have h1:=hlt q hq;have h2:=cmpLs_anti q.lab o.lab;omega
  have key:(∃ q∈pre,has39 q=true∧underB o.lab q.lab=true)↔ ∃ t,(belK pre).1=some t∧underB o.lab t.lab=true:=by
   constructor
   ·rintro⟨q,hq,h1,h2⟩
    obtain⟨t,ht,h3⟩:=I.cov q hq h1;exact⟨t,ht,h3 o.lab hlt h2⟩
   ·rintro⟨t,ht,h2⟩
    exact⟨t,(I.tail t ht).1,(I.tail t ht).2,h2⟩
  have outs:∀ (p:GOw) (t':Option GOw) (out':List GOw),p∈pre->(p∈out'↔p∈(belK pre).2)->(p∈out'↔ ∃ q∈pre++[o],has39 q=true∧Nm.cmpLs p.lab q.lab≠0∧underB p.lab q.lab=true):=by
   intro p t' out' hp he;rw [he,I.out p hp];constructor
   ·rintro⟨q,hq,h⟩;exact⟨q,by simp [hq],h⟩
   ·rintro⟨q,hq,h1,h2,h3⟩
    rcases List.mem_append.1 hq with hq|hq
    ·exact⟨q,hq,h1,h2,h3⟩
    ·obtain rfl:=List.mem_singleton.1 hq;rw [up p hp] at h3;cases h3
  by_cases hk:∃ q∈pre,has39 q=true∧underB o.lab q.lab=true
  ·obtain⟨t,ht,hu⟩:=key.1 hk
   have e:belK (pre++[o])=(some t,(belK pre).2++[o]):=by
    rw [belK_snoc,belStep,ht];simp [hu]
   refine⟨fun q hq=>?_,fun p hp=>?_,fun p hp=>?_,fun q hq h1=>?_⟩
   ·rw [e] at hq;obtain rfl:=Option.some.inj hq;exact⟨by simp [(I.tail t ht).1],(I.tail t ht).2⟩
   ·rw [e]
    rcases List.mem_append.1 hp with hp|hp
    ·exact outs p none _ hp (by simp [hne p hp])
    ·obtain rfl:=List.mem_singleton.1 hp;refine⟨fun _=>?_,fun _=>by simp⟩;obtain⟨q,hq,h1,h2⟩:=hk;exact⟨q,by simp [hq],h1,strict q hq,h2⟩
   ·rw [e] at hp
    rcases List.mem_append.1 hp with hp|hp
    ·simp [I.sub p hp]
    ·simp at hp;simp [hp]
   ·rw [e];refine⟨t,rfl,fun n hn h2=>?_⟩
    rcases List.mem_append.1 hq with hq|hq
    ·obtain⟨t2,ht2,h3⟩:=I.cov q hq h1;rw [ht] at ht2;obtain rfl:=Option.some.inj ht2;exact h3 n (fun p hp=>hn p (by simp [hp])) h2
    ·obtain rfl:=List.mem_singleton.1 hq;exact under_trans h2 hu
  ·have hno:¬∃ t,(belK pre).1=some t∧underB o.lab t.lab=true:=fun h=>hk (key.2 h)
   have e2:(belK (pre++[o])).2=(belK pre).2∧(belK (pre++[o])).1=if has39 o then some o else(belK pre).1:=by
    rw [belK_snoc,belStep]
    cases ht:(belK pre).1 with
    |none=>cases h:has39 o<;>simp
    |some t=>
     have hu:underB o.lab t.lab=false:=by
      cases h:underB o.lab t.lab with
      |false=>rfl
      |true=>exact absurd ⟨t,ht,h⟩ hno
     cases h:has39 o<;>simp [hu]
   refine⟨fun q hq=>?_,fun p hp=>?_,fun p hp=>?_,fun q hq h1=>?_⟩
   ·rw [e2.2] at hq
    by_cases h:has39 o=true
    ·rw [if_pos h] at hq;obtain rfl:=Option.some.inj hq;exact⟨by simp,h⟩
    ·rw [if_neg h] at hq;exact⟨by simp [(I.tail q hq).1],(I.tail q hq).2⟩
   ·rw [e2.1]
    rcases List.mem_append.1 hp with hp|hp
    ·exact outs p none _ hp Iff.rfl
    ·obtain rfl:=List.mem_singleton.1 hp;constructor
     ·intro h1;exact absurd rfl (hne _ (I.sub _ h1))
     ·rintro⟨q,hq,h1,h2,h3⟩
      rcases List.mem_append.1 hq with hq|hq
      ·exact absurd ⟨q,hq,h1,h3⟩ hk
      ·obtain rfl:=List.mem_singleton.1 hq;exact absurd (cmpLs_self _) h2
   ·rw [e2.1] at hp;simp [I.sub p hp]
   ·rw [e2.2]
    by_cases h:has39 o=true
    ·rw [if_pos h];refine⟨o,rfl,fun n hn h2=>?_⟩
     rcases List.mem_append.1 hq with hq|hq
     ·exfalso
      refine hk ⟨q,hq,h1,under_mid h2 (hlt q hq) (hn o (by simp))⟩
     ·obtain rfl:=List.mem_singleton.1 hq;exact h2
    ·rw [if_neg h]
     rcases List.mem_append.1 hq with hq|hq
     ·obtain⟨t,ht,h3⟩:=I.cov q hq h1;exact⟨t,ht,fun n hn=>h3 n (fun p hp=>hn p (by simp [hp]))⟩
     ·obtain rfl:=List.mem_singleton.1 hq;exact absurd h1 h
def ru1(l:List It)(fo:ByteArray)(i:Nat)(x:It):Bool:= !x.out&&decide (x.r.ty=6)&&(decide (x.fo≠fo)||hasI (l.take i) fo 6)
def ru2(x:It):Bool:= !x.out&&starB x.fo&&(decide (x.r.ty=2)||decide (x.r.ty=39))
def ru3(l:List It)(i:Nat)(x:It):Bool:= !x.out&&(decide (x.r.ty=5)||decide (x.r.ty=39))&&hasI (l.take i) x.fo x.r.ty
def ru4(l:List It)(x:It):Bool:= !x.out&&decide (x.r.ty≠5)&&decide (x.r.ty≠47)&&hasI l x.fo 5
def be5(x y:It):Bool:= !y.out&&decide (y.r.ty=39)&&decide (y.fo≠x.fo)&&isUnderS x.fo y.fo
def ru5(l:List It)(x:It):Bool:= !x.out&&l.any fun y=>be5 x y
theorem rulesI_eq(l:List It)(fo:ByteArray):rulesI l fo=
 match firstI (ru1 l fo) l with
 |some i=>(20,i)
 |none=>if !hasI l fo 6 then(20,-1) else if !hasI l fo 2 then(21,-1) else
  match firstI (fun _ x=>ru2 x) l with
  |some i=>(26,i)
  |none=>match firstI (ru3 l) l with
   |some i=>(23,i)
   |none=>match firstI (fun _ x=>ru4 l x) l with
    |some i=>(23,i)
    |none=>match firstI (fun _ x=>ru5 l x) l with
     |some i=>(25,i)
     |none=>(0,0):=rfl
theorem first_next{p:Nat->It->Bool}{l:List It}{k:Nat}{x:It}(hno:∀ (i:Nat) (y:It),i<k->l[i]? =some y->p i y=false)(hk:l[k]? =some x)(hp:p k x=false):∀ (i:Nat) (y:It),i<k+1->l[i]? =some y->p i y=false:=by
 intro i y hi hy
 by_cases h:i=k
 ·subst h;rw [hk] at hy;obtain rfl:=Option.some.inj hy;exact hp
 ·exact hno i y (by omega) hy
theorem any_next{p:It->Bool}{l:List It}{k:Nat}{y:It}(h:(l.take k).any p=false)(hk:l[k]? =some y)(hp:p y=false):(l.take (k+1)).any p=false:=by
 obtain⟨hi,e⟩:=List.getElem?_eq_some_iff.1 hk;rw [List.take_succ_eq_append_getElem hi,e,List.any_append,h];simp [hp]
set_option maxRecDepth 100000 in
set_option maxHeartbeats 1600000 in
theorem l06Starred_any(s:ByteArray)(w:World)(hs:s.size<=maxLen):Calls Tryz.prog 130 #[.string s] w fun e w'=>e=.returned (.bool (starB s))∧w'=w:=by
 unfold maxLen at hs;obtain⟨Q,hQ⟩:∃ Q,Q=starB s:=⟨_,rfl⟩;rw [<- hQ];unfold starB at hQ
 by_cases h1:1<s.size
 ·have i1:(1:Int)<(s.size:Int):=by omega
  rw [decide_eq_true h1,Bool.true_and,<- ba_eq] at hQ;have HQ:=Nm.hide hQ;clear hQ;go_enter Tryz.func130,Tryz.ntmps130;go_wp2;go_ret;exact⟨by rw [HQ.out,show(⟨#[1,42]⟩:ByteArray).toList=[1,42] from by rw [ByteArray.toList_eq]];rfl,rfl⟩
 ·have i1:(s.size:Int)<=1:=by omega
  rw [decide_eq_false h1,Bool.false_and] at hQ;subst hQ;go_enter Tryz.func130,Tryz.ntmps130;go_wp2;go_ret;exact⟨rfl,rfl⟩
end Go.Proofs.YtcodajnebegdiaaGreat
