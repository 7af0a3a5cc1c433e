import Derived.Test.YtmdinnjimioffaaGreatJBzT
import Derived.Deep.CutRange
import Derived.Test.YtmdinnjimioffaaGreatJOrdL
namespace Go.Proofs.YtmdinnjimioffaaGreat
open Go.RowKit
set_option linter.unusedVariables false
theorem infoLaid:(Tryz.prog.info? 129).map (fun i=>(i.zero,i.size,i.bytes))=some (some (.agg #[.int .i64 0,.int .i64 0,.pointer none,.pointer none]),4,32):=by kernel_rfl
theorem badI_at{l:List It}{k:Nat}{x:It}(hno:∀ (i:Nat) (y:It),i<k->l[i]? =some y->mixI (l.take i) y=false)(hk:l[k]? =some x)(hp:mixI (l.take k) x=true):badI l=(k:Int):=by
 rw [badI,firstI_at (p:=fun i x=>mixI (l.take i) x) (fun i hi y hy=>hno i y hi hy) hk hp]
theorem badI_no{l:List It}(hno:∀ (i:Nat) (y:It),l[i]? =some y->mixI (l.take i) y=false):badI l= -1:=by
 rw [badI,firstI_no (p:=fun i x=>mixI (l.take i) x) (fun i _ y hy=>hno i y hy)]
theorem take_snoc_it{l:List It}{k:Nat}{x:It}(h:l[k]? =some x):l.take (k+1)=l.take k++[x]:=by
 obtain⟨hk,e⟩:=List.getElem?_eq_some_iff.1 h;rw [List.take_succ_eq_append_getElem hk,e]
set_option maxRecDepth 100000 in
set_option maxHeartbeats 6400000 in
theorem checkTimes_any(bb th:Nat)(la:Option Addr)(lc:Nat)(list:List Rr)(apex:ByteArray)(labv:Value)(lvs:List Value)(av:Value)(B0:Nat)(w:World)(hk:Blk w bb #[.slice la list.length lc,.string apex,labv,av,ptr th,.slice none 0 0] 73)
 (h:CRow w (.slice la list.length lc) list.length 5 (rvVs list)) (hfar:0<list.length->∀ b,rowBlk (.slice la list.length lc)=some b->b≠bb∧b≠th) (hl:list.length<=500) (hlb:LbRow w B0 labv lvs (labsOf list)) (hth:Blk w th #[cmpLv,.slice none 0 0] 145)
 (hg:∀ r∈list,(Nm.split r.own).isSome=true) (ho:∀ r∈list,r.own.size<=1000000000∧r.da.size<=2000000):
 Calls Tryz.prog 57 #[.pointer (some ⟨bb,0,none⟩)] w fun e w'=>Outs [bb,th] w w'∧
  ((0<=badI (list.map itemOf)∧e=rsV 24 (badI (list.map itemOf)))∨
  (badI (list.map itemOf)= -1∧e=rsV 0 0∧(∀ (i:Nat) (y:It),(list.map itemOf)[i]? =some y->mixI ((list.map itemOf).take i) y=false)∧∃ rv os kv ks,Blk w' bb #[.slice la list.length lc,.string apex,labv,av,ptr th,kv] 73∧BSt w.heap.size w' th (list.map itemOf) rv os kv ks)):=by
 obtain⟨i0,hi,hz0,hz1,hz2⟩:=info_parts infoLaid;have rk:=fun i=>blk_cell hk i
 have hbl:=blk_lt hk;obtain⟨_,a,cap,e,hcap,hmx,hc⟩:=h;cases e
 unfold maxLen at hmx;have HX:=Nm.hide (And.intro hfar (And.intro hlb (And.intro hth (And.intro hg ho))));clear hfar hlb hth hg ho;have HK:=Nm.hide hk;clear hk;unfold ptr at*;go_enter Tryz.func57,Tryz.ntmps57;go_wp2
 go_loopw [13] (fun i wr=>∃ (k:Nat) (rv:Value) (os:List GOw) (kv:Value) (ks:List Ld),k<=list.length∧i=.int .i64 k∧(∀ (j:Nat) (y:It),j<k->(list.map itemOf)[j]? =some y->mixI ((list.map itemOf).take j) y=false)∧Blk wr bb #[.slice la list.length lc,.string apex,labv,av,.pointer (some ⟨th,0,none⟩),kv] 73∧BSt w.heap.size wr th ((list.map itemOf).take k) rv os kv ks∧LbRow wr B0 labv lvs (labsOf list)∧Outs [bb,th] w wr) (fun i _=>list.length-(intOf i).toNat)
 case atStart=>exact⟨0,.slice none 0 0,[],.slice none 0 0,[],Nat.zero_le _,rfl,fun j x hj=>absurd hj (Nat.not_lt_zero _),HK.out,BSt.nil HX.out.2.2.1,HX.out.2.1,Outs.below (Below.refl _ _)⟩
 case round=>
  obtain⟨k,rv,os,kv,ks,hk',rfl,hno,kb,hS,lr,hou⟩:=hrel;have HR:=Nm.hide (And.intro hno (And.intro kb (And.intro hS (And.intro lr hou))))
  by_cases hlt:k<list.length
  ·obtain⟨x,hx⟩:∃ x,list[k]? =some x:=⟨_,List.getElem?_eq_getElem hlt⟩;obtain⟨b,off,rfl,hcell⟩:=hc (by omega)
   have hnb:b∉[bb,th]:=fun hm=>by
    have:=HX.out.1 (by omega) b rfl;simp at hm
    rcases hm with h|h
    ·exact this.1 h
    ·exact this.2 h
   obtain⟨d0,d1,d2,d3,d4⟩:=rv_cells (w:=wr) (fun i y hy=>outs_cell hou (hcell i y hy) hnb) hx;have hxo:=HX.out.2.2.2.2 x (List.mem_of_getElem? hx);have hll:lvs.length=list.length:=by rw [lr.len,labsOf,List.length_map]
   obtain⟨u,hu⟩:∃ u,lvs[k]? =some u:=⟨_,List.getElem?_eq_getElem (by omega)⟩;have hul:=lab_ok lr hu hx (HX.out.2.2.2.1 x (List.mem_of_getElem? hx)) hS.tr.types;obtain⟨va,vc,eu,_⟩:=hul.row;have hlay:=layAt hS lr hou.size HX.out.2.2.2.1 hx (by rw [hu,eu]) hl kb rfl hxo.1 hxo.2
   obtain⟨lb,lcap,eLv⟩:∃ lb lcap,labv=.slice (some ⟨lb,0,none⟩) list.length lcap:=by
    rcases lr.outer.2 with⟨_,h0⟩|⟨q,cap,cur,e,_⟩
    ·omega
    ·exact⟨q,cap,by rw [e,hll]⟩
   have hlc:wr.cell? ⟨lb,k,none⟩=some u:=by
    have:=lr.outer;rw [eLv,hll] at this;have h9:=this.cellAt k (by omega);rw [h9];exact hu
   rw [eu] at hlc;subst eLv;generalize (labI (itemOf x)).length=vn at*;have HXX:=Nm.hide (And.intro hx (And.intro hu eu));have hwr:=hou.size;have kr:=blk_new wr #[.string x.own,.int .i64 x.ty,.int .i64 x.cl,.int .i64 x.tt,.string x.da] 33;have ba:=(Below.refl wr.heap.size wr).alloc (Nat.le_refl _) (.cells #[.string x.own,.int .i64 x.ty,.int .i64 x.cl,.int .i64 x.tt,.string x.da] 33);have kbA:=blk_below kb ba;have cL:=(ba.cell (p:=⟨lb,k,none⟩) (World.block_lt_of_cell? wr _ hlc)).trans hlc;have i1:(0:Int)<=(k:Int):=by omega
   have i2:(k:Int)<(list.length:Int):=by omega
   have HLAY:=Nm.hide hlay;clear hc hcell hx hno kb lr hou hnb rk hS hul hlay eu hu hll hlc hxo;go_wp2_with fail
   go_cut [6,7] from 18 to 33 (fun p q wx=>∃ (g ob sb:Nat) (isNew:Bool) (rv':Value) (os':List GOw) (W:World),p=.pointer (some ⟨g,0,none⟩)∧q=.bool isNew∧wr.heap.size<g∧Blk wx g #[.int .i64 (k:Int),.int .i64 x.ty,.pointer (some ⟨ob,0,none⟩),.pointer (some ⟨sb,0,none⟩)] 129∧Blk wx wr.heap.size #[.string x.own,.int .i64 x.ty,.int .i64 x.cl,.int .i64 x.tt,.string x.da] 33∧LaidR w.heap.size wr.heap.size W wx th ((list.map itemOf).take k) (itemOf x) rv rv' os os' kv ks ob sb isNew∧Outs (g::fpT th rv os) (wr.alloc (.cells #[.string x.own,.int .i64 x.ty,.int .i64 x.cl,.int .i64 x.tt,.string x.da] 33)) wx)
   case first=>
    have hfpr:∀ b∈fpT th rv os,b<wr.heap.size:=HR.out.2.2.1.tr.lt
    have kbS:Hid (∀ g X,wr.heap.size<g->Outs (g::fpT th rv os) (wr.alloc (.cells #[.string x.own,.int .i64 x.ty,.int .i64 x.cl,.int .i64 x.tt,.string x.da] 33)) X->(X.cell? ⟨wr.heap.size,0,none⟩=some (.string x.own)∧X.cell? ⟨wr.heap.size,1,none⟩=some (.int .i64 x.ty)∧X.cell? ⟨wr.heap.size,2,none⟩=some (.int .i64 x.cl)∧X.cell? ⟨wr.heap.size,3,none⟩=some (.int .i64 x.tt)∧X.cell? ⟨wr.heap.size,4,none⟩=some (.string x.da)∧X.cell? ⟨bb,2,none⟩=some (.slice (some ⟨lb,0,none⟩) list.length lcap)∧X.cell? ⟨lb,k,none⟩=some (.slice va vn vc))):=by
     intro g X hgr hX;have l1:=blk_lt HR.out.2.1;have l2:=own_lt HR.out.2.2.2.1.outer lb (by simp [Value.ownBlock])
     have n1:wr.heap.size∉g::fpT th rv os:=fun hm=>by
      rcases List.mem_cons.1 hm with h|h
      ·omega
      ·have:=hfpr _ h;omega
     have n2:bb∉g::fpT th rv os:=fun hm=>by
      rcases List.mem_cons.1 hm with h|h
      ·omega
      ·exact blk_out HR.out.2.1 (HR.out.2.2.1.tr.types bb h) (by decide) rfl
     have n3:lb∉g::fpT th rv os:=fun hm=>by
      rcases List.mem_cons.1 hm with h|h
      ·omega
      ·exact own_out HR.out.2.2.2.1.outer (HR.out.2.2.1.tr.types lb h) (by decide) (by simp [Value.ownBlock])
     have kx:=fun i=>blk_cell (blk_outs kr hX n1) i
     exact⟨(kx 0).trans rfl,(kx 1).trans rfl,(kx 2).trans rfl,(kx 3).trans rfl,(kx 4).trans rfl,(blk_cell (blk_outs kbA hX n2) 2).trans rfl,outs_cell hX cL n3⟩
    have bd:Below wr.heap.size wr (wr.alloc (.cells #[.string x.own,.int .i64 x.ty,.int .i64 x.cl,.int .i64 x.tt,.string x.da] 33)).drew:=ba.drew;have O0:Outs (fpT th rv os) (wr.alloc (.cells #[.string x.own,.int .i64 x.ty,.int .i64 x.cl,.int .i64 x.tt,.string x.da] 33)) (wr.alloc (.cells #[.string x.own,.int .i64 x.ty,.int .i64 x.cl,.int .i64 x.tt,.string x.da] 33)).drew:=Outs.below (Below.refl _ _).drew
    have hs0:(wr.alloc (.cells #[.string x.own,.int .i64 x.ty,.int .i64 x.cl,.int .i64 x.tt,.string x.da] 33)).drew.heap.size=wr.heap.size+1:=by
     show(wr.alloc _).heap.size=_
     simp
    have HS0:=Nm.hide hs0;have HFP:=Nm.hide hfpr;clear hs0 hfpr d0 d1 d2 d3 d4;refine wp_region_last (fun X=>X.cell? ⟨wr.heap.size,0,none⟩=some (.string x.own)∧X.cell? ⟨wr.heap.size,1,none⟩=some (.int .i64 x.ty)∧X.cell? ⟨wr.heap.size,2,none⟩=some (.int .i64 x.cl)∧X.cell? ⟨wr.heap.size,3,none⟩=some (.int .i64 x.tt)∧X.cell? ⟨wr.heap.size,4,none⟩=some (.string x.da)∧X.cell? ⟨bb,2,none⟩=some (.slice (some ⟨lb,0,none⟩) list.length lcap)∧X.cell? ⟨lb,k,none⟩=some (.slice va vn vc)) 1000 (by kernel_rfl) (kbS.out (wr.heap.size+1) _ (by omega) (O0.wide (fun k hk=>by simp [hk]))) (fun hHeld=>?_);refine tkL (i:=0) (v:=?_) rfl ?_ ?_;rotate_left 1
    ·(intro W hSW;obtain⟨z0,z1,z2,z3,z4,z5,z6⟩:=hSW;go_simp;try (with_reducible rfl))
    refine tkL (i:=1) (v:=?_) rfl ?_ ?_;rotate_left 1
    ·(intro W hSW;obtain⟨z0,z1,z2,z3,z4,z5,z6⟩:=hSW;go_simp;try (with_reducible rfl))
    refine tkL (i:=2) (v:=?_) rfl ?_ ?_;rotate_left 1
    ·(intro W hSW;obtain⟨z0,z1,z2,z3,z4,z5,z6⟩:=hSW;go_simp;try (with_reducible rfl))
    refine tkL (i:=3) (v:=?_) rfl ?_ ?_;rotate_left 1
    ·(intro W hSW;obtain⟨z0,z1,z2,z3,z4,z5,z6⟩:=hSW;go_simp;try (with_reducible rfl))
    refine tkL (i:=4) (v:=?_) rfl ?_ ?_;rotate_left 1
    ·(intro W hSW;obtain⟨z0,z1,z2,z3,z4,z5,z6⟩:=hSW;go_simp;try (with_reducible rfl))
    refine tkL (i:=5) (v:=?_) rfl ?_ ?_;rotate_left 1
    ·(intro W hSW;obtain⟨z0,z1,z2,z3,z4,z5,z6⟩:=hSW;go_simp;try (with_reducible rfl))
    refine tkL (i:=6) (v:=?_) rfl ?_ ?_;rotate_left 1
    ·(intro W hSW;obtain⟨z0,z1,z2,z3,z4,z5,z6⟩:=hSW;go_simp;try (with_reducible rfl))
    refine tkL (i:=7) (v:=?_) rfl ?_ ?_;rotate_left 1
    ·(intro W hSW;obtain⟨z0,z1,z2,z3,z4,z5,z6⟩:=hSW;go_simp;try (with_reducible rfl))
    refine tkL (i:=8) (v:=?_) rfl ?_ ?_;rotate_left 1
    ·(intro W hSW;obtain⟨z0,z1,z2,z3,z4,z5,z6⟩:=hSW;go_simp;try (with_reducible rfl))
    refine tkL (i:=9) (v:=?_) rfl ?_ ?_;rotate_left 1
    ·(intro W hSW;obtain⟨z0,z1,z2,z3,z4,z5,z6⟩:=hSW;go_simp;try (with_reducible rfl))
    refine tkL (i:=10) (v:=?_) rfl ?_ ?_;rotate_left 1
    ·(intro W hSW;obtain⟨z0,z1,z2,z3,z4,z5,z6⟩:=hSW;go_simp;try (with_reducible rfl))
    refine tkL (i:=11) (v:=?_) rfl ?_ ?_;rotate_left 1
    ·(intro W hSW;obtain⟨z0,z1,z2,z3,z4,z5,z6⟩:=hSW;go_simp;try (with_reducible rfl))
    refine wpAnyL_two (i:=12) (j:=16) (by kernel_rfl) rfl rfl (fun K hK=>?_) (fun K hK=>?_)
    ·go_simp;refine(HLAY.out _ bd).mono ?_;rintro e w1 ⟨ob,sb,isNew,rv',os',rfl,hLR,O1,M1⟩;go_wp2_with fail
     have O1':=O0.trans O1 (fun k hk=>.inl hk);have hw1:wr.heap.size+1<=w1.heap.size:=by have:=O1.size;have:=HS0.out;omega
     have O2:Outs (w1.heap.size::fpT th rv os) (wr.alloc (.cells #[.string x.own,.int .i64 x.ty,.int .i64 x.cl,.int .i64 x.tt,.string x.da] 33)) w1:=O1'.wide (fun k hk=>by simp [hk]);have kz:=blk_new w1 #[.int .i64 0,.int .i64 0,.pointer none,.pointer none] 129;have bz:=(Below.refl w1.heap.size w1).alloc (Nat.le_refl _) (.cells #[.int .i64 0,.int .i64 0,.pointer none,.pointer none] 129);have rz:=fun i=>blk_cell kz i
     have fz:=fun i=>blk_frozen kz i
     have HW1:=Nm.hide hw1;clear hw1;refine hK.out _ _ (kbS.out w1.heap.size _ (by have:=HW1.out;omega) O2) (fun hHeld=>?_);clear hK K;refine tkL (i:=13) (v:=?_) rfl ?_ ?_;rotate_left 1
     ·(intro W hSW;obtain⟨z0,z1,z2,z3,z4,z5,z6⟩:=hSW;go_simp;try (with_reducible rfl))
     refine tkL (i:=14) (v:=?_) rfl ?_ ?_;rotate_left 1
     ·(intro W hSW;obtain⟨z0,z1,z2,z3,z4,z5,z6⟩:=hSW;go_simp;try (with_reducible rfl))
     refine tkL (i:=15) (v:=?_) rfl ?_ ?_;rotate_left 1
     ·(intro W hSW;obtain⟨z0,z1,z2,z3,z4,z5,z6⟩:=hSW;go_simp;try (with_reducible rfl))
     refine wpAnyL_one (i:=16) (by kernel_rfl) rfl (fun K hK=>?_);go_simp;have O3:=O2.trans (Outs.below (fp:=w1.heap.size::fpT th rv os) bz) (fun k hk=>.inl hk);refine hK.out _ _ (kbS.out w1.heap.size _ (by have:=HW1.out;omega) O3) (fun hHeld=>?_);clear hK K;refine wpAnyL_one (i:=17) (by kernel_rfl) rfl (fun K hK=>?_);go_simp;have k4:=blk_new w1 #[.int .i64 (k:Int),.int .i64 x.ty,.pointer (some ⟨ob,0,none⟩),.pointer (some ⟨sb,0,none⟩)] 129;have Og:=Outs.below (fp:=[w1.heap.size]) ((Below.refl w1.heap.size w1).alloc (Nat.le_refl _) (.cells #[.int .i64 (k:Int),.int .i64 x.ty,.pointer (some ⟨ob,0,none⟩),.pointer (some ⟨sb,0,none⟩)] 129));have O4:=O2.trans Og (fun k hk=>.inl (by rw [List.mem_singleton.1 hk];simp));have LR4:=hLR.more Og (fun hm=>by have:=hLR.tr.lt _ hm;omega) (fun hm=>by have:=own_lt hLR.kept _ hm;omega) (by have:=HW1.out;omega)
     have kr4:=blk_outs kr O4 (fun hm=>by
      rcases List.mem_cons.1 hm with h|h
      ·have:=HW1.out;omega
      ·have:=HFP.out _ h;omega)
     clear rz fz kz;refine hK.out _ _ (kbS.out w1.heap.size _ (by have:=HW1.out;omega) O4) (fun hHeld=>?_);clear hK K;refine wpAnyL_one (i:=18) (by kernel_rfl) rfl (fun K hK=>?_);go_simp;refine hK.out _ _ (kbS.out w1.heap.size _ (by have:=HW1.out;omega) O4) (fun hHeld=>?_);clear hK K;refine wpAnyL_done (by kernel_rfl) ?_;go_wp2_with fail
     go_meet
     case rel=>exact⟨w1.heap.size,ob,sb,isNew,rv',os',_,rfl,rfl,by have:=HW1.out;omega,k4,kr4,LR4,O4⟩
    ·go_simp;have kz1:=blk_new (wr.alloc (.cells #[.string x.own,.int .i64 x.ty,.int .i64 x.cl,.int .i64 x.tt,.string x.da] 33)) #[.int .i64 0,.int .i64 0,.pointer none,.pointer none] 129;rw [World.size_alloc] at kz1;have kz:=blk_drew kz1;have bz:=((Below.refl _ (wr.alloc (.cells #[.string x.own,.int .i64 x.ty,.int .i64 x.cl,.int .i64 x.tt,.string x.da] 33))).alloc (Nat.le_refl _) (.cells #[.int .i64 0,.int .i64 0,.pointer none,.pointer none] 129)).drew;have bw:=Nm.below_two ba bz
     have hsz:((wr.alloc (.cells #[.string x.own,.int .i64 x.ty,.int .i64 x.cl,.int .i64 x.tt,.string x.da] 33)).alloc (.cells #[.int .i64 0,.int .i64 0,.pointer none,.pointer none] 129)).drew.heap.size=wr.heap.size+2:=by
      show((wr.alloc _).alloc _).heap.size=_
      simp
     have O2:=Outs.below (fp:=(wr.heap.size+1)::fpT th rv os) bz;clear kz1;refine hK.out _ _ (kbS.out (wr.heap.size+1) _ (by omega) O2) (fun hHeld=>?_);clear hK K;refine wpAnyL_one (i:=12) (by kernel_rfl) rfl (fun K hK=>?_);go_simp;have hly:=HLAY.out _ bw;have HSZ:=Nm.hide hsz;clear hsz;refine hly.mono ?_;rintro e w1 ⟨ob,sb,isNew,rv',os',rfl,hLR,O1,M1⟩;have O3:=O2.trans O1 (fun k hk=>.inl (by simp [hk]));have ng:wr.heap.size+1∉fpT th rv os:=fun hm=>by have:=HFP.out _ hm;omega
     have kz2:=blk_outs kz O1 ng;clear hly kz;go_wp2_with fail
     refine hK.out _ _ (kbS.out (wr.heap.size+1) _ (by omega) O3) (fun hHeld=>?_);clear hK K;refine tkL (i:=13) (v:=?_) rfl ?_ ?_;rotate_left 1
     ·(intro W hSW;obtain⟨z0,z1,z2,z3,z4,z5,z6⟩:=hSW;go_simp;try (with_reducible rfl))
     refine tkL (i:=14) (v:=?_) rfl ?_ ?_;rotate_left 1
     ·(intro W hSW;obtain⟨z0,z1,z2,z3,z4,z5,z6⟩:=hSW;go_simp;try (with_reducible rfl))
     refine tkL (i:=15) (v:=?_) rfl ?_ ?_;rotate_left 1
     ·(intro W hSW;obtain⟨z0,z1,z2,z3,z4,z5,z6⟩:=hSW;go_simp;try (with_reducible rfl))
     refine wpAnyL_one (i:=17) (by kernel_rfl) rfl (fun K hK=>?_);have rz:=fun i=>blk_cell kz2 i
     have fz:=fun i=>blk_frozen kz2 i
     go_simp;have k4:=blk_set (blk_set (blk_set (blk_set kz2 0 (.int .i64 (k:Int))) 1 (.int .i64 x.ty)) 2 (.pointer (some ⟨ob,0,none⟩))) 3 (.pointer (some ⟨sb,0,none⟩));simp only [List.setIfInBounds_toArray,List.set_cons_zero,List.set_cons_succ] at k4;have Og:=(((outs_set (W:=w1) (b:=wr.heap.size+1) (i:=0) (v:=.int .i64 (k:Int))).trans (outs_set (b:=wr.heap.size+1) (i:=1) (v:=.int .i64 x.ty)) (fun k hk=>.inl hk)).trans (outs_set (b:=wr.heap.size+1) (i:=2) (v:=.pointer (some ⟨ob,0,none⟩))) (fun k hk=>.inl hk)).trans (outs_set (b:=wr.heap.size+1) (i:=3) (v:=.pointer (some ⟨sb,0,none⟩))) (fun k hk=>.inl hk);have O4:=O3.trans Og (fun k hk=>.inl (by rw [List.mem_singleton.1 hk];simp))
     have LR4:=hLR.more Og (fun hm=>by
      rcases M1 _ hm with h|h
      ·exact ng h
      ·have:=HSZ.out;omega) (fun hm=>by have:=own_lt HR.out.2.2.1.kept _ hm;omega) (by omega)
     have kr4:=blk_outs kr O4 (fun hm=>by
      rcases List.mem_cons.1 hm with h|h
      ·omega
      ·have:=HFP.out _ h;omega)
     clear rz fz kz2;refine hK.out _ _ (kbS.out (wr.heap.size+1) _ (by omega) O4) (fun hHeld=>?_);clear hK K;refine wpAnyL_one (i:=18) (by kernel_rfl) rfl (fun K hK=>?_);go_simp;refine hK.out _ _ (kbS.out (wr.heap.size+1) _ (by omega) O4) (fun hHeld=>?_);clear hK K;refine wpAnyL_done (by kernel_rfl) ?_;go_wp2_with fail
     go_meet
     case rel=>exact⟨wr.heap.size+1,ob,sb,isNew,rv',os',_,rfl,rfl,by omega,k4,kr4,LR4,O4⟩
   case rest=>
    obtain⟨g,ob,sb,isNew,rv',os',W,rfl,rfl,hgw,kg,kr5,LR,Oc⟩:=hcut;obtain⟨tt,ctt,hmix⟩:=LR.tt;have hgI:GoodI (itemOf x):=good_item (HX.out.2.2.2.1 x (List.mem_of_getElem? HXX.out.1));have hix:(list.map itemOf)[k]? =some (itemOf x):=by simp [HXX.out.1]
    have c3:=(blk_cell kr5 3).trans rfl;have g3:=(blk_cell kg 3).trans rfl
    have hmx2:(x.tt != tt)=mixI ((list.map itemOf).take k) (itemOf x):=by
     rw [hmix]
     show(x.tt != tt)=decide (tt≠x.tt)
     by_cases h9:x.tt=tt
     ·rw [h9];simp
     ·have h8:tt≠x.tt:=fun e=>h9 e.symm
      simp [h9,h8]
    have hnbb:bb∉g::fpT th rv os:=fun hm=>by
     have l1:=blk_lt HR.out.2.1
     rcases List.mem_cons.1 hm with h|h
     ·omega
     ·exact blk_out HR.out.2.1 (HR.out.2.2.1.tr.types bb h) (by decide) rfl
    have kbC:=blk_outs kbA Oc hnbb
    have oCw:Outs [bb,th] w wc:=by
     have h1:Outs [bb,th] w (wr.alloc (.cells #[.string x.own,.int .i64 x.ty,.int .i64 x.cl,.int .i64 x.tt,.string x.da] 33)):=HR.out.2.2.2.2.trans (Outs.below (fp:=[bb,th]) ba) (fun k hk=>.inl hk);refine outs_two (B:=w.heap.size) h1 Oc (fun b hb=>?_) (Nat.le_refl _)
     rcases List.mem_cons.1 hb with h|h
     ·exact .inr (by omega)
     ·exact HR.out.2.2.1.fpl b h
    have lrC:LbRow wc B0 (.slice (some ⟨lb,0,none⟩) list.length lcap) lvs (labsOf list):=by
     have l0:=HR.out.2.2.2.1.below ba;refine⟨own_outs l0.outer Oc (fun b hb=>?_),l0.len,fun i u xs e1 e2=>own_outs (l0.inner i u xs e1 e2) Oc (fun b hb=>?_)⟩
     ·rcases List.mem_cons.1 hb with h|h
      ·intro hm;have:=own_lt HR.out.2.2.2.1.outer _ hm;omega
      ·exact own_out HR.out.2.2.2.1.outer (HR.out.2.2.1.tr.types b h) (by decide)
     ·rcases List.mem_cons.1 hb with h|h
      ·intro hm;have:=own_lt (HR.out.2.2.2.1.inner i u xs e1 e2) _ hm;omega
      ·exact own_out (HR.out.2.2.2.1.inner i u xs e1 e2) (HR.out.2.2.1.tr.types b h) (by decide)
    have HM:=Nm.hide (And.intro hmx2 (And.intro hix (And.intro oCw (And.intro lrC LR))));clear hmix hmx2 hix oCw lrC LR Oc hnbb kr5 kr kbA cL HLAY d0 d1 d2 d3 d4 hgI
    cases hne:(x.tt != tt) with
    |true=>
     have HN:=Nm.hide hne;go_wp2;go_quiet (fail)
     go_wp2;go_ret2;have hb9:=badI_at HR.out.1 HM.out.2.1 (by rw [<- HM.out.1];exact HN.out)
     refine⟨HM.out.2.2.1.trans (Outs.below (fp:=[bb,th]) (Go.below_drewN (Below.refl _ wc) _)) (fun k hk=>.inl hk),.inl ⟨by rw [hb9];omega,by rw [hb9];rfl⟩⟩
    |false=>
     have HN:=Nm.hide hne
     cases isNew with
     |false=>
      go_wp2;go_quiet (fail)
      go_wp2;have bq:=Go.below_drewN (Below.refl wc.heap.size wc) nq;go_roundw
      case rel=>
       refine⟨k+1,rv',os',kv,ks,by omega,by go_num,fun j y hj hy=>?_,blk_below kbC bq,?_,HM.out.2.2.2.1.below bq,HM.out.2.2.1.trans (Outs.below (fp:=[bb,th]) bq) (fun k hk=>.inl hk)⟩
       ·rcases Nat.lt_succ_iff_lt_or_eq.1 hj with h1|rfl
        ·exact HR.out.1 j y h1 hy
        ·rw [HM.out.2.1] at hy;cases hy;rw [<- HM.out.1];exact HN.out
       ·rw [take_snoc_it HM.out.2.1];exact HM.out.2.2.2.2.old bq
      case measure=>simp [intOf];omega
     |true=>
      go_wp2;go_quiet (fail)
      go_upto_region 8 with fail
      have bq:=(Go.below_drewN (Below.refl wc.heap.size wc) nq).drew;have kb8:=blk_below kbC bq;have kg8:=blk_below kg bq;have ok8:=own_below HM.out.2.2.2.2.kept bq;have hwc:=HM.out.2.2.1.size
      have hks:ks.length<=k:=by
       have:=HR.out.2.2.1.kin.len;rw [List.length_take,List.length_map] at this;omega
      obtain⟨ka,kc,rfl⟩:=own_sl ok8;have hkg:(Value.slice ka ks.length kc).ownBlock≠some g:=fun e=>by have:=own_lt HR.out.2.2.1.kept g (by rw [e];simp);omega
      have HQ:=Nm.hide (And.intro hks (And.intro hwc (And.intro hgw hkg)));have Hbq:=Nm.hide bq;clear hks hwc hgw hkg bq c3 g3 ctt hne;generalize hWD:(wc.drewN nq).drew=WD at*;have HWD:=Nm.hide hWD;clear hWD;refine wp_region_last (fun X=>X.cell? ⟨bb,5,none⟩=some (.slice ka ks.length kc)∧X.cell? ⟨g,0,none⟩=some (.int .i64 (k:Int))∧X.cell? ⟨g,1,none⟩=some (.int .i64 x.ty)∧X.cell? ⟨g,2,none⟩=some (.pointer (some ⟨ob,0,none⟩))∧X.cell? ⟨g,3,none⟩=some (.pointer (some ⟨sb,0,none⟩))∧True∧True) 10 (by kernel_rfl) (by rw [HWD.out];exact⟨(blk_cell kb8 5).trans rfl,(blk_cell kg8 0).trans rfl,(blk_cell kg8 1).trans rfl,(blk_cell kg8 2).trans rfl,(blk_cell kg8 3).trans rfl,trivial,trivial⟩) (fun hHeld=>?_);rw [HWD.out] at hHeld ⊢;refine tkL (i:=0) (v:=?_) rfl ?_ ?_;rotate_left 1
      ·(intro W hSW;obtain⟨z0,z1,z2,z3,z4,z5,z6⟩:=hSW;go_simp;try (with_reducible rfl))
      refine tkL (i:=1) (v:=?_) rfl ?_ ?_;rotate_left 1
      ·(intro W hSW;obtain⟨z0,z1,z2,z3,z4,z5,z6⟩:=hSW;go_simp;try (with_reducible rfl))
      refine tkL (i:=2) (v:=?_) rfl ?_ ?_;rotate_left 1
      ·(intro W hSW;obtain⟨z0,z1,z2,z3,z4,z5,z6⟩:=hSW;go_simp;try (with_reducible rfl))
      refine tkL (i:=3) (v:=?_) rfl ?_ ?_;rotate_left 1
      ·(intro W hSW;obtain⟨z0,z1,z2,z3,z4,z5,z6⟩:=hSW;go_simp;try (with_reducible rfl))
      refine tkL (i:=4) (v:=?_) rfl ?_ ?_;rotate_left 1
      ·(intro W hSW;obtain⟨z0,z1,z2,z3,z4,z5,z6⟩:=hSW;go_simp;try (with_reducible rfl))
      refine tkL (i:=5) (v:=?_) rfl ?_ ?_;rotate_left 1
      ·(intro W hSW;obtain⟨z0,z1,z2,z3,z4,z5,z6⟩:=hSW;go_simp;try (with_reducible rfl))
      refine wpAnyL_one (i:=6) (by kernel_rfl) rfl (fun K hK=>?_);go_simp;have ba8:=(Below.refl WD.heap.size WD).alloc (Nat.le_refl _) (.cells #[.int .i64 (k:Int),.int .i64 x.ty,.pointer (some ⟨ob,0,none⟩),.pointer (some ⟨sb,0,none⟩)] 129);have kb9:=blk_below kb8 ba8;have kg9:=blk_below kg8 ba8;have ok9:=own_below ok8 ba8;refine hK.out _ _ ⟨(blk_cell kb9 5).trans rfl,(blk_cell kg9 0).trans rfl,(blk_cell kg9 1).trans rfl,(blk_cell kg9 2).trans rfl,(blk_cell kg9 3).trans rfl,trivial,trivial⟩ (fun hHeld=>?_);clear hK K;refine wpAnyL_one (i:=7) (by kernel_rfl) rfl (fun K hK=>?_);refine step_append_own rfl (.tmp 48) (.tmp 50) 71 rfl w.heap.size 129 i0 (.agg #[.int .i64 0,.int .i64 0,.pointer none,.pointer none]) 4 32 Tryz.underlying71 hi hz0 hz1 hz2 rfl (by decide) (.slice ka ks.length kc) ks.length (ldVs ks) (by rfl) ok9 ⟨WD.heap.size,0,none⟩ 1 1 [.int .i64 (k:Int),.int .i64 x.ty,.pointer (some ⟨ob,0,none⟩),.pointer (some ⟨sb,0,none⟩)] (by rfl) rfl (cell_newV _ _ _) (by intro u hu;simp at hu;rcases hu with rfl|rfl|rfl|rfl<;>rfl) (by unfold maxLen;have:=HQ.out;omega) (by have:=HQ.out;omega) (by have h1:=HQ.out.2.1;have h2:=Hbq.out.size;have h3:=ba8.size;omega) ?_;intro v9 w9 hown9 hgrow9 _;obtain⟨g',cap',rfl⟩:=ownsRow_succ hown9;have kb10:=blk_grown kb9 hgrow9 (own_nb ok9 kb9 (by decide));have kg10:=blk_grown kg9 hgrow9 HQ.out.2.2.2;refine hK.out _ _ ⟨(blk_cell kb10 5).trans rfl,(blk_cell kg10 0).trans rfl,(blk_cell kg10 1).trans rfl,(blk_cell kg10 2).trans rfl,(blk_cell kg10 3).trans rfl,trivial,trivial⟩ (fun hHeld=>?_);clear hK K;refine wpAnyL_one (i:=8) (by kernel_rfl) rfl (fun K hK=>?_);go_simp;refine hK.out _ _ hHeld (fun hHeld=>?_);clear hK K;refine wpAnyL_one (i:=9) (by kernel_rfl) rfl (fun K hK=>?_);go_simp;refine hK.out _ _ hHeld (fun hHeld=>?_);clear hK K;have rk10:=fun i=>blk_cell kb10 i
      have fk10:=fun i=>blk_frozen kb10 i
      refine wpAnyL_end (by kernel_rfl) rfl (by kernel_rfl) (fun K hK=>?_);go_simp;refine hK.out _ _ ?_;clear hK K hHeld rk10 fk10;have k11:=blk_set kb10 5 (.slice (some ⟨g',0,none⟩) (ks.length+1) cap');simp only [List.setIfInBounds_toArray,List.set_cons_zero,List.set_cons_succ] at k11;have hbw:Below wc.heap.size wc (WD.alloc (.cells #[.int .i64 (k:Int),.int .i64 x.ty,.pointer (some ⟨ob,0,none⟩),.pointer (some ⟨sb,0,none⟩)] 129)):=Nm.below_two Hbq.out ba8;have hlen:((list.map itemOf).take k).length=k:=by rw [List.length_take,List.length_map];omega
      have hnew:=HM.out.2.2.2.2.new hbw hgrow9 (by rw [hlen];exact hown9) kb10;rw [hlen] at hnew;have lr11:=(LbRow.outs (fp:=(Value.slice ka ks.length kc).ownBlock.toList) (ts:=[129]) (HM.out.2.2.2.1.below hbw) ⟨hgrow9.os,hgrow9.tape,hgrow9.output,hgrow9.size,fun q hq hn=>hgrow9.block q hq (fun e=>hn (by rw [<- e];simp))⟩ (ty_own ok9 (by simp)) (by decide) (by decide)).set (i:=5) (y:=.slice (some ⟨g',0,none⟩) (ks.length+1) cap') kb10;have ou11:=(outs_grown (HM.out.2.2.1.trans (Outs.below (fp:=[bb,th]) hbw) (fun k hk=>.inl hk)) hgrow9 (fun q e=>(ok9.lt q e).1)).trans (outs_set (b:=bb) (i:=5) (v:=.slice (some ⟨g',0,none⟩) (ks.length+1) cap')) (fun k hk=>.inl (by simp [List.mem_singleton.1 hk]));clear hHeld kg9 kg8 kg10 kb9 kb10 ok9 ok8 hown9 hgrow9;go_wp2;go_roundw
      case rel=>
       refine⟨k+1,rv',os',_,ks++[⟨k,(itemOf x).r.ty,ob,sb⟩],by omega,by go_num,fun j y hj hy=>?_,k11,?_,lr11,ou11⟩
       ·rcases Nat.lt_succ_iff_lt_or_eq.1 hj with h1|rfl
        ·exact HR.out.1 j y h1 hy
        ·rw [HM.out.2.1] at hy;cases hy;rw [<- HM.out.1];exact HN.out
       ·rw [take_snoc_it HM.out.2.1];exact hnew
      case measure=>simp [intOf];omega
  ·have hke:k=list.length:=by omega
   subst hke;clear hc hno kb lr hou hS;go_wp2;go_ret2;have hall:∀ (i:Nat) (y:It),(list.map itemOf)[i]? =some y->mixI ((list.map itemOf).take i) y=false:=fun i y hy=>HR.out.1 i y (by have:=(List.getElem?_eq_some_iff.1 hy).1;rwa [List.length_map] at this) hy
   refine⟨HR.out.2.2.2.2,.inr ⟨badI_no hall,rfl,hall,rv,os,kv,ks,HR.out.2.1,?_⟩⟩;have:=HR.out.2.2.1
   rwa [List.take_of_length_le (by rw [List.length_map];exact Nat.le_refl _)] at this
end Go.Proofs.YtmdinnjimioffaaGreat
