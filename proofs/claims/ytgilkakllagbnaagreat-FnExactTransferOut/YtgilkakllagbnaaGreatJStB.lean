import Derived.Test.YtgilkakllagbnaaGreatJStA
import Derived.Test.YtgilkakllagbnaaGreatJStI
import Derived.Test.YtgilkakllagbnaaGreatJDlE
import Derived.Test.YtgilkakllagbnaaGreatJZrI
import Derived.Test.YtgilkakllagbnaaGreatJRrM
import Derived.Test.YtgilkakllagbnaaGreatJOwnT
import Derived.Test.YtgilkakllagbnaaGreatJZnT
import Derived.Test.YtgilkakllagbnaaGreatJTrN
import Derived.Test.YtgilkakllagbnaaGreatTrP
import Derived.Test.YtgilkakllagbnaaGreatJGoodM
import Derived.Test.YtgilkakllagbnaaGreatJZrM
import Derived.Deep.RegionHeld3
namespace Go.Proofs.YtgilkakllagbnaaGreat
open Go.RowKit
set_option linter.unusedVariables false
theorem blk_only{w w':World}{b p:Nat}{cs:Array Value}{T:TypeId}(k:Blk w b cs T)(h:Only p w w')(hne:b≠p):Blk w' b cs T:=(h.block b (blk_lt k) hne).trans k
theorem only_below{w w':World}{p B:Nat}(h:Only p w w')(hp:B<=p)(hB:B<=w.heap.size):Below B w w':=
 ⟨h.os,h.tape,h.output,h.size,fun k hk=>h.block k (by omega) (by omega)⟩
theorem delRR_all(B g cap:Nat)(xs:List Rr)(i j:Nat)(w:World)(hown:w.ownsRow B 56 5 (.slice (some ⟨g,0,none⟩) xs.length cap) xs.length (rvVs xs))(hij:i<j)(hj:j<=xs.length)(hn:xs.length<=1048576):
 Calls Tryz.prog 62 #[.slice (some ⟨g,0,none⟩) xs.length cap,.int .i64 (i:Int),.int .i64 (j:Int)] w fun e w'=>e=.returned (.slice (some ⟨g,0,none⟩) (i+(xs.length-j)) cap)∧w'.ownsRow B 56 5 (.slice (some ⟨g,0,none⟩) (i+(xs.length-j)) cap) (xs.take i++xs.drop j).length (rvVs (xs.take i++xs.drop j))∧Only g w w':=by
 by_cases hcj:cap=j
 ·have hc:xs.length<=cap:=by
   rcases hown.2 with⟨e0,_⟩|⟨g',cap',cur,e0,_,_,hnc,_⟩
   ·cases e0
   ·simp only [Value.slice.injEq] at e0;omega
  have e1:xs.length=j:=by omega
  subst hcj;rw [e1] at hown ⊢;rw [List.drop_of_length_le (by omega),List.append_nil,Nat.sub_self,Nat.add_zero];exact deleteRR_end B g cap i xs w e1 hown hij (by omega)
 ·exact deleteRR_in B g cap xs i j w hown hij hj hn hcj
set_option maxRecDepth 100000 in
set_option maxHeartbeats 1600000 in
theorem partSOA_row(o:ByteArray)(v:Value)(ps:List Zp)(r:Rr)(k:Nat)(w:World)(h:ZRow w v ps)(hs:zsum ps<=1048576)(hf:∀ p∈ps,∀ x∈p.1.da,x.size<=1048576)(hrk:(zoneRecs ps)[k]? =some r)(hsk:soI (zoneRecs ps)=(k:Int))(hn:(zoneRecs ps).length<=500):
 Calls Tryz.prog 27 #[.agg #[.string o,v]] w fun e w'=>∃ (ua:Option Addr) (uc:Nat),e=.returned (.tuple #[.agg #[.string r.own,.int .i64 r.ty,.int .i64 r.cl,.int .i64 r.tt,.string r.da],.slice ua (k+((zoneRecs ps).length-(k+1))) uc])∧w'.ownsRow w.heap.size 56 5 (.slice ua (k+((zoneRecs ps).length-(k+1))) uc) ((zoneRecs ps).take k++(zoneRecs ps).drop (k+1)).length (rvVs ((zoneRecs ps).take k++(zoneRecs ps).drop (k+1)))∧Below w.heap.size w w':=by
 obtain⟨va,vc,rfl⟩:∃ va vc,v=.slice va ps.length vc:=by obtain⟨⟨_,a,c,e,_⟩,_⟩:=h;exact⟨a,c,e⟩
 have hk:=(List.getElem?_eq_some_iff.1 hrk).1;have b0:=(Below.refl w.heap.size w).alloc (Nat.le_refl _) (.cells #[.string o,.slice va ps.length vc] 33);have b1:=b0.alloc b0.size (.cells #[.string ⟨#[]⟩,.int .i64 0,.int .i64 0,.int .i64 0,.string ⟨#[]⟩] 56);have k0:=blk_alloc (blk_new w #[.string o,.slice va ps.length vc] 33) (.cells #[.string ⟨#[]⟩,.int .i64 0,.int .i64 0,.int .i64 0,.string ⟨#[]⟩] 56);have kR:=blk_new (w.alloc (.cells #[.string o,.slice va ps.length vc] 33)) #[.string ⟨#[]⟩,.int .i64 0,.int .i64 0,.int .i64 0,.string ⟨#[]⟩] 56;rw [World.size_alloc] at kR;have hzr:=implZoneRecords_any o (.slice va ps.length vc) ps _ (h.below b1) hs hf;have r0:=fun i=>blk_cell k0 i
 have hix:=fun v W (hW:CRow W v (zoneRecs ps).length 5 (rvVs (zoneRecs ps)))=>indexSOA_any v (zoneRecs ps) W hW
 rw [hsk] at hix;obtain⟨j,hj⟩:∃ j,j=k+1:=⟨_,rfl⟩;have hdl:=fun B g cap W hown=>delRR_all B g cap (zoneRecs ps) k j W hown (by omega) (by omega) (by omega)
 have hkj:(k:Int)+1=(j:Int):=by omega
 have hjb:j<=501:=by omega
 rw [<- hj];clear hj;clear h hf hs hsk;generalize zoneRecs ps=xs at*;go_enter Tryz.func27,Tryz.ntmps27;go_wp2_with fail
 refine hzr.mono ?_;rintro e w1 ⟨u,rfl,hou,hb1⟩;have bw1:=Nm.below_two b1 hb1;have kR1:=blk_below kR hb1;obtain⟨ua,uc,eu⟩:=own_sl hou;subst eu;have hgx:w.heap.size+2<=w1.heap.size:=by have:=hb1.size;simp at this;exact this
 rw [show(((w.alloc (.cells #[.string o,.slice va ps.length vc] 33)).alloc (.cells #[.string ⟨#[]⟩,.int .i64 0,.int .i64 0,.int .i64 0,.string ⟨#[]⟩] 56)).heap.size)=w.heap.size+2 by simp] at hou;clear hzr k0 r0 b0 b1 kR hb1;go_wp2_with fail
 refine(hix _ w1 (CRow.of_owns hou)).mono ?_;rintro e w2 ⟨rfl,hb2⟩;have hou2:=own_below hou hb2;have kR2:=blk_below kR1 hb2;have bw2:=Nm.below_two bw1 hb2
 obtain⟨gl,rfl,hgl⟩:∃ gl,ua=some ⟨gl,0,none⟩∧w.heap.size+2<=gl:=by
  rcases hou2.2 with⟨h1,h2⟩|⟨g',cap',cur,h1,h2,_⟩
  ·omega
  ·simp only [Value.slice.injEq] at h1;exact⟨g',h1.1,h2⟩
 have hgl2:gl<w2.heap.size:=(hou2.lt gl rfl).2;obtain⟨_,a9,c9,e9,_,_,hc9⟩:=CRow.of_owns hou2;simp only [Value.slice.injEq] at e9;obtain⟨rfl,_,rfl⟩:=e9;obtain⟨gb,go,e9,hcell⟩:=hc9 (by omega);simp only [Option.some.injEq,Addr.mk.injEq,and_true] at e9;obtain⟨rfl,rfl⟩:=e9;obtain⟨d0,d1,d2,d3,d4⟩:=rv_cells hcell hrk;simp only [Nat.zero_add] at d0 d1 d2 d3 d4;have n1:(0:Int)<=(k:Int):=by omega
 have n2:(k:Int)<(xs.length:Int):=by omega
 have hwj:IntKind.i64.wrap (j:Int)=(j:Int):=Go.wrap_small _ (by omega) (by omega);have kP:=blk_new w2 #[.string r.own,.int .i64 r.ty,.int .i64 r.cl,.int .i64 r.tt,.string r.da] 56;have b3:=(Below.refl w2.heap.size w2).alloc (Nat.le_refl _) (.cells #[.string r.own,.int .i64 r.ty,.int .i64 r.cl,.int .i64 r.tt,.string r.da] 56);have hou3:=own_below hou2 b3;have kR3:=blk_below kR2 b3;have bw3:=Nm.below_two bw2 b3;have hS:∀ W,Blk W w2.heap.size #[.string r.own,.int .i64 r.ty,.int .i64 r.cl,.int .i64 r.tt,.string r.da] 56->(W.cell? ⟨w2.heap.size,0,none⟩=some (.string r.own)∧W.cell? ⟨w2.heap.size,1,none⟩=some (.int .i64 r.ty)∧W.cell? ⟨w2.heap.size,2,none⟩=some (.int .i64 r.cl)∧W.cell? ⟨w2.heap.size,3,none⟩=some (.int .i64 r.tt)∧W.cell? ⟨w2.heap.size,4,none⟩=some (.string r.da)):=fun W hW=>⟨(blk_cell hW 0).trans rfl,(blk_cell hW 1).trans rfl,(blk_cell hW 2).trans rfl,(blk_cell hW 3).trans rfl,(blk_cell hW 4).trans rfl⟩
 have hS0:=hS _ (blk_drew kP);have hcall:=hdl _ _ _ _ (own_below hou3 ((Below.refl _ _).drew));clear hdl hix hcell hc9 hou hou2 kR1 kR2 bw1 bw2 hb2 hrk;go_wp2;refine wp_region_last (fun X=>(X.cell? ⟨w2.heap.size,0,none⟩=some (.string r.own)∧X.cell? ⟨w2.heap.size,1,none⟩=some (.int .i64 r.ty)∧X.cell? ⟨w2.heap.size,2,none⟩=some (.int .i64 r.cl)∧X.cell? ⟨w2.heap.size,3,none⟩=some (.int .i64 r.tt)∧X.cell? ⟨w2.heap.size,4,none⟩=some (.string r.da))) 1000 (by kernel_rfl) hS0 (fun hHeld=>?_);refine tkL (i:=0) (v:=?_) rfl ?_ ?_;rotate_left 1
 ·(intro W hSW;obtain⟨s0,s1,s2,s3,s4⟩:=hSW;go_simp;try (with_reducible rfl))
 refine tkL (i:=1) (v:=?_) rfl ?_ ?_;rotate_left 1
 ·(intro W hSW;obtain⟨s0,s1,s2,s3,s4⟩:=hSW;go_simp;try (with_reducible rfl))
 refine tkL (i:=2) (v:=?_) rfl ?_ ?_;rotate_left 1
 ·(intro W hSW;obtain⟨s0,s1,s2,s3,s4⟩:=hSW;go_simp;try (with_reducible rfl))
 refine tkL (i:=3) (v:=?_) rfl ?_ ?_;rotate_left 1
 ·(intro W hSW;obtain⟨s0,s1,s2,s3,s4⟩:=hSW;go_simp;try (with_reducible rfl))
 refine tkL (i:=4) (v:=?_) rfl ?_ ?_;rotate_left 1
 ·(intro W hSW;obtain⟨s0,s1,s2,s3,s4⟩:=hSW;go_simp;try (with_reducible rfl))
 refine wpAnyL_one (i:=5) (by kernel_rfl) rfl (fun K hK=>?_);go_simp;refine hcall.mono ?_;rintro e w4 ⟨rfl,hown4,hO⟩;have kP4:=blk_only (blk_drew kP) hO (by omega);have kR4:=blk_only (blk_drew kR3) hO (by omega);have bw4:Below w.heap.size w w4:=(bw3.drew).trans (only_below hO (by omega) (by have:=bw3.size;simpa using this));go_wp2_with fail
 refine hK.out _ _ (hS _ kP4) (fun hH=>?_);clear hK K;have rk4:=fun i=>blk_cell kR4 i
 have fk4:=fun i=>blk_frozen kR4 i
 obtain⟨k5,bw5⟩:=rr_store (r:=r) kR4 bw4 (Nat.le_succ _);have kP5:=blk_far (i:=4) (v:=.string r.da) (blk_far (i:=3) (v:=.int .i64 r.tt) (blk_far (i:=2) (v:=.int .i64 r.cl) (blk_far (i:=1) (v:=.int .i64 r.ty) (blk_far (i:=0) (v:=.string r.own) kP4 (c:=w.heap.size+1) (by omega)) (c:=w.heap.size+1) (by omega)) (c:=w.heap.size+1) (by omega)) (c:=w.heap.size+1) (by omega)) (c:=w.heap.size+1) (by omega);have hown5:=own_base (own_far_lt (g:=w.heap.size+1) (i:=4) (y:=.string r.da) (own_far_lt (g:=w.heap.size+1) (i:=3) (y:=.int .i64 r.tt) (own_far_lt (g:=w.heap.size+1) (i:=2) (y:=.int .i64 r.cl) (own_far_lt (g:=w.heap.size+1) (i:=1) (y:=.int .i64 r.ty) (own_far_lt (g:=w.heap.size+1) (i:=0) (y:=.string r.own) hown4 (by omega)) (by omega)) (by omega)) (by omega)) (by omega)) (B':=w.heap.size) (by omega);refine wpAnyL_one (i:=6) (by kernel_rfl) rfl (fun K hK=>?_);go_simp;refine hK.out _ _ (hS _ kP5) (fun hH2=>?_);clear hK K;refine wpAnyL_one (i:=7) (by kernel_rfl) rfl (fun K hK=>?_);go_simp;refine hK.out _ _ (hS _ kP5) (fun hH3=>?_);clear hK K;refine wpAnyL_done (by kernel_rfl) ?_;have rk:=fun i=>blk_cell k5 i
 have HB:=Nm.hide (And.intro hown5 bw5);clear hH hH2 hH3 hHeld hS hS0 kP kP4 kP5 kR3 kR4 k5 bw5 bw4 rk4 fk4 hcall hown4 hown5;go_wp2_with fail
 refine bodyPost_ret (v:=.tuple #[.agg #[.string r.own,.int .i64 r.ty,.int .i64 r.cl,.int .i64 r.tt,.string r.da],.slice (some ⟨gl,0,none⟩) (k+(xs.length-j)) uc]) ?_ rfl ⟨_,_,rfl,HB.out.1,HB.out.2⟩;simp [results,Tryz.f27,go_sem,rk]
theorem soa_size{d:ByteArray}(h:cutCode 6 d=0):22<=d.size∧d.size<=65535:=by
 rw [cutCode,if_neg (by omega)] at h
 by_cases hl:65535<d.size
 ·rw [if_pos hl] at h;omega
 ·rw [if_neg hl] at h;refine⟨?_,by omega⟩
  cases hq:Dt.spans (Dt.implP 6) 0 d with
  |none=>rw [hq] at h;simp at h
  |some sp=>
   have e:Dt.implP 6=[.nm,.nm,.bs 20]:=rfl;rw [e] at hq;simp only [Dt.spans,Dt.sz] at hq
   by_cases h1:(Dt.nameAtS d).size=0
   ·simp [h1] at hq
   ·simp only [h1,if_false] at hq
    by_cases h2:(Dt.nameAtS (d.extract (Dt.nameAtS d).size d.size)).size=0
    ·simp [h2] at hq
    ·simp only [h2,if_false] at hq;have l1:=Dt.name_le d;have l2:=Dt.name_le (d.extract (Dt.nameAtS d).size d.size);have z1:(d.extract (Dt.nameAtS d).size d.size).size=d.size-(Dt.nameAtS d).size:=by simp
     generalize (d.extract (Dt.nameAtS d).size d.size)=d1 at*;have z2:(d1.extract (Dt.nameAtS d1).size d1.size).size=d1.size-(Dt.nameAtS d1).size:=by simp
     rw [z2] at hq
     by_cases h3:20<=d1.size-(Dt.nameAtS d1).size
     ·omega
     ·rw [if_neg h3] at hq;simp at hq
def dCmp(fd:ByteArray)(p:ByteArray×ByteArray):Int:=Nm.ordL p.1.data.toList fd.data.toList
def DaS(l:List (ByteArray×ByteArray)):Prop:=l.Pairwise fun a b=>Nm.ordL a.1.data.toList b.1.data.toList<0
theorem ordL_lt_trans{a b c:List UInt8}(h1:Nm.ordL a b<0)(h2:Nm.ordL b c<0):Nm.ordL a c<0:=by
 have h3:=ordL_trans a b c (by omega) (by omega)
 rcases Int.lt_or_eq_of_le h3 with h|h
 ·exact h
 ·exfalso
  have h4:=ordL_anti a c;have h5:=ordL_trans b c a (by omega) (by rw [h4];omega);have h6:=ordL_anti a b;omega
set_option maxHeartbeats 800000 in
theorem data_any(s:GSe)(B nb rb:Nat)(fd da:ByteArray)(r0 r1 r2 r3:Value)(w:World)(h:SeAt w B s)(hB:B<=w.heap.size)(hl:s.da.length<=500000)(hd:DaS s.da)(kn:Blk w nb #[.bool false] 4)(kr:Blk w rb #[r0,r1,r2,r3,.string da] 56)(hs:da.size<=1000000000):
 Calls Tryz.prog 164 #[ptr s.hd,.string fd,.func (.func 166) #[] #[ptr nb,ptr rb]] w fun e w'=>∃ v rv',e=.returned (.string v)∧SeAt w' B {s with rv:=rv',da:=putF (dCmp fd) (fd,da) s.da}∧Blk w' nb #[.bool (!isIn (dCmp fd) s.da)] 4∧Outs (nb::fpS s) w w'∧∀ b∈rv'.ownBlock.toList,b∈fpS s∨w.heap.size<=b:=by
 have hdl:(daRs s.da).length=s.da.length:=by simp [daRs]
 have hcf:∀ (tb i:Nat) (p:Value×Value),(daRs s.da)[i]? =some p->∀ W,Below w.heap.size w W->Blk W tb #[.pointer (some ⟨s.hd,0,none⟩)] 178->Calls Tryz.prog 196 #[.agg #[p.1,p.2],.string fd,.pointer (some ⟨tb,0,none⟩)] W fun e w'=>e=.returned (.int .i64 (cfOf (dCmp fd) s.da i))∧Below W.heap.size W w':=by
  intro tb i p hp W hW kb;simp only [daRs,List.getElem?_map,Option.map_eq_some_iff] at hp;obtain⟨q,hq,rfl⟩:=hp;rw [cfOf_at hq];exact place1S_any tb s.hd s.rv q.1 q.2 fd W kb (blk_below h.head hW)
 have hmono:=mono_of_pair (f:=dCmp fd) hd (fun a b hab hb=>ordL_lt_trans hab hb);have hfnd:=posOf_fnd s.da hmono
 cases hin:isIn (dCmp fd) s.da with
 |true=>
  obtain⟨x,hx,hx0⟩:=isIn_some hin;have hx':(daRs s.da)[posOf (dCmp fd) s.da]? =some (.string x.1,.string x.2):=by simp [daRs,hx]
  refine(valueOfS_in s.hd B cmpSv s.rv (.string fd) _ (daRs s.da) (cfOf (dCmp fd) s.da) (posOf (dCmp fd) s.da) _ w h.head h.rows (by omega) hcf (by rw [hdl];exact hmono) (by rw [hdl];exact hfnd) hx' (by rw [cfOf_at hx];exact hx0)).mono ?_;rintro e w' ⟨rfl,hb⟩;refine⟨x.2,s.rv,rfl,?_,?_,Outs.below hb,fun b hbm=>.inl (by simp only [fpS,List.mem_cons];exact .inr (.inr hbm))⟩
  ·rw [putF,if_pos hin];exact h.keep (fun b hm=>hb.block b (h.lt b hm))
  ·exact blk_below kn hb
 |false=>
  have hout:=valueOfS_out s.hd B cmpSv s.rv fd #[ptr nb,ptr rb] (daRs s.da) (cfOf (dCmp fd) s.da) (posOf (dCmp fd) s.da) w (some nb) (fun ux W w'=>ux=da∧Blk w' nb #[.bool true] 4) h.head h.rows (by omega) hcf (by rw [hdl];exact hmono) (by rw [hdl];exact hfnd) (by rw [hdl];exact isIn_not hin)
   (fun p hp=>by
    simp only [daRs,List.mem_map] at hp;obtain⟨q,_,rfl⟩:=hp
    exact⟨rfl,rfl⟩) hB
   (fun W hW=>lay3_any nb rb false da r0 r1 r2 r3 W (blk_below kn hW) (blk_below kr hW) hs) (fun e=>blk_ne kn h.head (by decide) (Option.some.inj e)) (fun x hx e=>own_nb h.rows kn (by decide) (by rw [hx,<- e]))
  refine hout.mono ?_;rintro e w' ⟨ux,W,w1,rv',rfl,hW,hg1,⟨rfl,kn1⟩,kg',ho',hK,hloc⟩;have hne1:=blk_ne kn h.node (by decide);have hne2:=blk_ne h.node h.head (by decide);have node1:Blk w1 s.blk _ _:=blk_grown (blk_below h.node hW) hg1 (fun e=>hne1 (Option.some.inj e));have node2:=hK.blk node1 hne2 (own_nb h.rows h.node (by decide));have kn2:=hK.blk kn1 (blk_ne kn h.head (by decide)) (own_nb h.rows kn (by decide));refine⟨ux,rv',rfl,?_,kn2,?_,?_⟩
  ·rw [putF,if_neg (by simp [hin])];refine⟨node2,kg',?_⟩;have e1:daRs (insAt (posOf (dCmp fd) s.da) (fd,ux) s.da)=(daRs s.da).take (posOf (dCmp fd) s.da)++[(Value.string fd,Value.string ux)]++(daRs s.da).drop (posOf (dCmp fd) s.da):=by simp [daRs,insAt]
   show w'.ownsRow B _ 2 rv' (daRs (insAt (posOf (dCmp fd) s.da) (fd,ux) s.da)).length (rowCs (daRs (insAt (posOf (dCmp fd) s.da) (fd,ux) s.da)))
   rw [e1]
   have hle:((daRs s.da).take (posOf (dCmp fd) s.da)++[(Value.string fd,Value.string ux)]++(daRs s.da).drop (posOf (dCmp fd) s.da)).length=(daRs s.da).length+1:=by
    have:=hfnd.1;simp
    omega
   rw [hle];exact ho'
  ·refine⟨hK.os.trans (hg1.os.trans hW.os),hK.tape.trans (hg1.tape.trans hW.tape),hK.output.trans (hg1.output.trans hW.output),Nat.le_trans hW.size (Nat.le_trans hg1.size hK.size),fun k hk hn=>?_⟩;simp only [fpS,List.mem_cons,not_or] at hn;obtain⟨n1,n2,n3,n4⟩:=hn;rw [hK.block k (Nat.lt_of_lt_of_le hk (Nat.le_trans hW.size hg1.size)) n3 (fun e=>n4 (by rw [e];simp)),hg1.block k (Nat.lt_of_lt_of_le hk hW.size) (by simpa using n1)];exact hW.block k hk
  ·intro b hb
   rcases hloc with h1|h1
   ·rw [h1] at hb;exact .inl (by simp only [fpS,List.mem_cons];exact .inr (.inr hb))
   ·right
    cases hr:rv'.ownBlock with
    |none=>rw [hr] at hb;simp at hb
    |some q=>
     rw [hr] at hb;simp at hb;subst hb;have:=h1 _ hr;have:=hg1.size;have:=hW.size;omega
theorem flat_ins{α:Type}(f:α->List Nat)(k:Nat)(x:α)(l:List α):((insAt k x l).flatMap f).Perm (f x++l.flatMap f):=by
 rw [insAt,List.append_assoc,List.flatMap_append,List.flatMap_append];have e:l.flatMap f=(l.take k).flatMap f++(l.drop k).flatMap f:=by rw [<- List.flatMap_append,List.take_append_drop]
 rw [e];simp only [List.flatMap_cons,List.flatMap_nil,List.append_nil];rw [<- List.append_assoc,<- List.append_assoc];exact List.Perm.append_right _ List.perm_append_comm
theorem own_list(v:Value):v.ownBlock.toList.Nodup:=by cases v.ownBlock<;>simp
theorem nd_grow{N M:Nat}{A r r' X Y:List Nat}(h:(A++(r++X)).Nodup)(hlt:∀ x∈A++(r++X),x<N)(hY:Y.Nodup)(hY1:∀ y∈Y,N<=y∧y<M)(hr':r'.Nodup)(hr:r'=r∨∀ x∈r',M<=x)(hNM:N<=M):(A++(r'++(Y++X))).Nodup:=by
 rw [List.nodup_append,List.nodup_append] at h;obtain⟨hA,⟨hr0,hX,hrX⟩,hAX⟩:=h;have lA:∀ x∈A,x<N:=fun x hx=>hlt x (by simp [hx])
 have lr:∀ x∈r,x<N:=fun x hx=>hlt x (by simp [hx])
 have lX:∀ x∈X,x<N:=fun x hx=>hlt x (by simp [hx])
 rw [List.nodup_append,List.nodup_append,List.nodup_append];refine⟨hA,⟨hr',⟨hY,hX,fun a ha b hb=>?_⟩,fun a ha b hb=>?_⟩,fun a ha b hb=>?_⟩
 ·have:=(hY1 a ha).1;have:=lX b hb;omega
 ·rcases hr with rfl|hr
  ·rcases List.mem_append.1 hb with hb|hb
   ·have:=(hY1 b hb).1;have:=lr a ha;omega
   ·exact hrX a ha b hb
  ·rcases List.mem_append.1 hb with hb|hb
   ·have:=(hY1 b hb).2;have:=hr a ha;omega
   ·have:=lX b hb;have:=hr a ha;omega
 ·rcases List.mem_append.1 hb with hb|hb
  ·rcases hr with rfl|hr
   ·exact hAX a ha b (List.mem_append.2 (.inl hb))
   ·have:=lA a ha;have:=hr b hb;omega
  ·rcases List.mem_append.1 hb with hb|hb
   ·have:=(hY1 b hb).1;have:=lA a ha;omega
   ·exact hAX a ha b (List.mem_append.2 (.inr hb))
def sCmp(ty:Int)(s:GSe):Int:=Nm.cmpI s.ty ty
def SeS(l:List GSe):Prop:=l.Pairwise fun a b=>a.ty<b.ty
def GotS(ty tt:Int)(at_:Nat)(l:List GSe)(s:GSe)(l':List GSe):Prop:=
 (isIn (sCmp ty) l=true∧l'=l∧l[posOf (sCmp ty) l]? =some s∧s.ty=ty)∨(isIn (sCmp ty) l=false∧l'=insAt (posOf (sCmp ty) l) s l∧s.ty=ty∧s.tt=tt∧s.fi=at_∧s.da=[])
theorem cmpI_neg{a b:Int}:Nm.cmpI a b<0↔a<b:=by
 constructor
 ·intro h
  rcases Int.lt_or_le a b with h1|h1
  ·exact h1
  ·rcases Int.lt_or_eq_of_le h1 with h2|h2
   ·rw [Nm.cmpI_gt h2] at h;omega
   ·rw [Nm.cmpI_eq h2.symm] at h;omega
 ·intro h;rw [Nm.cmpI_lt h];decide
theorem cmpI_zero{a b:Int}(h:Nm.cmpI a b=0):a=b:=by
 rcases Int.lt_trichotomy a b with h1|h1|h1
 ·rw [Nm.cmpI_lt h1] at h;omega
 ·exact h1
 ·rw [Nm.cmpI_gt h1] at h;omega
set_option maxHeartbeats 800000 in
theorem set_any(o:GOw)(B rb ab at_:Nat)(ty tt:Int)(r0 r1 r2 r4:Value)(w:World)(h:OwAt w B o)(hnd:(fpO o).Nodup)(hB:B<=w.heap.size)(hl:o.ss.length<=500000)(hd:SeS o.ss)(kr:Blk w rb #[r0,r1,r2,.int .i64 tt,r4] 56)(ka:Blk w ab #[.int .i64 (at_:Int)] 3):
 Calls Tryz.prog 160 #[ptr o.hd,.int .i64 ty,.func (.func 161) #[] #[ptr rb,ptr ab]] w fun e w'=>∃ s rv' ss',e=.returned (ptr s.blk)∧GotS ty tt at_ o.ss s ss'∧OwAt w' B {o with rv:=rv',ss:=ss'}∧(fpO {o with rv:=rv',ss:=ss'}).Nodup∧Outs (fpO o) w w'∧∀ b∈fpO {o with rv:=rv',ss:=ss'},b∈fpO o∨w.heap.size<=b:=by
 have hdl:(seRs o.ss).length=o.ss.length:=by simp [seRs]
 have hcf:∀ (tb i:Nat) (p:Value×Value),(seRs o.ss)[i]? =some p->∀ W,Below w.heap.size w W->Blk W tb #[.pointer (some ⟨o.hd,0,none⟩)] 156->Calls Tryz.prog 184 #[.agg #[p.1,p.2],.int .i64 ty,.pointer (some ⟨tb,0,none⟩)] W fun e w'=>e=.returned (.int .i64 (cfOf (sCmp ty) o.ss i))∧Below W.heap.size W w':=by
  intro tb i p hp W hW kb;simp only [seRs,List.getElem?_map,Option.map_eq_some_iff] at hp;obtain⟨q,hq,rfl⟩:=hp;rw [cfOf_at hq];exact place1I_any tb o.hd o.rv (ptr q.blk) q.ty ty W kb (blk_below h.head hW)
 have hmono:=mono_of_pair (f:=sCmp ty) hd (fun a b hab hb=>by
  rw [sCmp,cmpI_neg] at hb ⊢
  omega)
 have hfnd:=posOf_fnd o.ss hmono
 cases hin:isIn (sCmp ty) o.ss with
 |true=>
  obtain⟨x,hx,hx0⟩:=isIn_some hin;have hx':(seRs o.ss)[posOf (sCmp ty) o.ss]? =some (.int .i64 x.ty,ptr x.blk):=by simp [seRs,hx]
  refine(valueOfI_in o.hd B cmpIv o.rv (.int .i64 ty) _ (seRs o.ss) (cfOf (sCmp ty) o.ss) (posOf (sCmp ty) o.ss) _ w h.head h.rows (by omega) hcf (by rw [hdl];exact hmono) (by rw [hdl];exact hfnd) hx' (by rw [cfOf_at hx];exact hx0)).mono ?_;rintro e w' ⟨rfl,hb⟩
  exact⟨x,o.rv,o.ss,rfl,.inl ⟨hin,rfl,hx,cmpI_zero hx0⟩,h.keep (fun b hm=>hb.block b (h.lt b hm)),hnd,Outs.below hb,fun b hbm=>.inl hbm⟩
 |false=>
  have hout:=valueOfI_out o.hd B cmpIv o.rv ty #[ptr rb,ptr ab] (seRs o.ss) (cfOf (sCmp ty) o.ss) (posOf (sCmp ty) o.ss) w none (NewS tt at_) h.head h.rows (by omega) hcf (by rw [hdl];exact hmono) (by rw [hdl];exact hfnd) (by rw [hdl];exact isIn_not hin)
   (fun p hp=>by
    simp only [seRs,List.mem_map] at hp;obtain⟨q,_,rfl⟩:=hp
    exact⟨rfl,rfl⟩) hB
   (fun W hW=>lay2_any rb ab at_ tt r0 r1 r2 r4 W (blk_below kr hW) (blk_below ka hW)) (by simp) (by simp)
  refine hout.mono ?_;rintro e w' ⟨ux,W,w1,rv',rfl,hW,hg1,⟨hd1,sb,rfl,hh1,hs1,hne,kh1,ks1⟩,kg',ho',hK,hloc⟩;have hW1:Below w.heap.size w w1:=⟨hg1.os.trans hW.os,hg1.tape.trans hW.tape,hg1.output.trans hW.output,Nat.le_trans hW.size hg1.size,fun k hk=>(hg1.block k (Nat.lt_of_lt_of_le hk hW.size) (by simp)).trans (hW.block k hk)⟩;have hsW:=hW.size;have hsb:=blk_lt ks1;have hhb:=blk_lt kh1;have holt:∀ x,o.rv.ownBlock=some x->x<w.heap.size:=fun x hx=>(h.rows.lt x hx).2
  have hohd:=blk_lt h.head
  -- the old parts
  have keep:∀ b,b<w.heap.size->b≠o.hd->o.rv.ownBlock≠some b->w'.heap[b]? =w.heap[b]? :=fun b hb h1 h2=>(hK.block b (Nat.lt_of_lt_of_le hb hW1.size) h1 h2).trans (hW1.block b hb)
  have hnd':=hnd;simp only [fpO,List.nodup_cons,List.nodup_append,List.mem_cons,List.mem_append,not_or] at hnd';obtain⟨⟨a1,a2,a3⟩,⟨a4,a5⟩,a6,a7,a8⟩:=hnd';refine⟨⟨sb,hd1,.slice none 0 0,ty,tt,at_,[]⟩,rv',insAt (posOf (sCmp ty) o.ss) ⟨sb,hd1,.slice none 0 0,ty,tt,at_,[]⟩ o.ss,rfl,.inr ⟨hin,rfl,rfl,rfl,rfl,rfl⟩,⟨?_,kg',?_,?_⟩,?_,?_,?_⟩
  ·exact blk_keep h.node (keep o.blk (blk_lt h.node) a1 (fun e=>a2 (by rw [e];simp)))
  ·have e1:seRs (insAt (posOf (sCmp ty) o.ss) ⟨sb,hd1,.slice none 0 0,ty,tt,at_,[]⟩ o.ss)=(seRs o.ss).take (posOf (sCmp ty) o.ss)++[(Value.int .i64 ty,Value.pointer (some ⟨sb,0,none⟩))]++(seRs o.ss).drop (posOf (sCmp ty) o.ss):=by simp [seRs,insAt,ptr]
   show w'.ownsRow B _ 2 rv' (seRs (insAt (posOf (sCmp ty) o.ss) ⟨sb,hd1,.slice none 0 0,ty,tt,at_,[]⟩ o.ss)).length (rowCs (seRs (insAt (posOf (sCmp ty) o.ss) ⟨sb,hd1,.slice none 0 0,ty,tt,at_,[]⟩ o.ss)))
   rw [e1]
   have hle:((seRs o.ss).take (posOf (sCmp ty) o.ss)++[(Value.int .i64 ty,Value.pointer (some ⟨sb,0,none⟩))]++(seRs o.ss).drop (posOf (sCmp ty) o.ss)).length=(seRs o.ss).length+1:=by
    have:=hfnd.1;simp
    omega
   rw [hle];exact ho'
  ·intro s hs
   have hcase:s∈o.ss∨s=⟨sb,hd1,.slice none 0 0,ty,tt,at_,[]⟩:=by
    simp only [insAt,List.mem_append,List.mem_singleton] at hs
    rcases hs with(hs|hs)|hs
    ·exact .inl (List.mem_of_mem_take hs)
    ·exact .inr hs
    ·exact .inl (List.mem_of_mem_drop hs)
   rcases hcase with hs|rfl
   ·refine(h.sets s hs).keep (fun b hb=>keep b ((h.sets s hs).lt b hb) ?_ ?_)
    ·intro e;exact a5 (List.mem_flatMap.2 ⟨s,hs,by rw [<- e];exact hb⟩)
    ·intro e;exact a8 b (by rw [e];simp) b (List.mem_flatMap.2 ⟨s,hs,hb⟩) rfl
   ·exact⟨hK.blk ks1 (show sb≠o.hd by omega) (fun e=>by have:=holt sb e;omega),hK.blk kh1 (show hd1≠o.hd by omega) (fun e=>by have:=holt hd1 e;omega),World.ownsRow_nil _ _ _ _⟩
  ·have hp:(fpO {o with rv:=rv',ss:=insAt (posOf (sCmp ty) o.ss) ⟨sb,hd1,.slice none 0 0,ty,tt,at_,[]⟩ o.ss}).Perm ([o.blk,o.hd]++(rv'.ownBlock.toList++([sb,hd1]++o.ss.flatMap fpS))):=by
    show(o.blk::o.hd::(rv'.ownBlock.toList++_)).Perm _
    refine List.Perm.cons _ (List.Perm.cons _ (List.Perm.append_left _ ?_));exact flat_ins fpS _ _ _
   rw [hp.nodup_iff]
   refine nd_grow (N:=w.heap.size) (M:=w1.heap.size) (r:=o.rv.ownBlock.toList) hnd (h.lt) (by simp;omega) (by
    intro y hy;simp at hy
    rcases hy with rfl|rfl<;>omega) (own_list _) ?_ hW1.size
   rcases hloc with h1|h1
   ·left;rw [h1]
   ·right;intro x hx
    cases hr:rv'.ownBlock with
    |none=>rw [hr] at hx;simp at hx
    |some q=>
     rw [hr] at hx;simp at hx;subst hx;exact h1 _ hr
  ·refine⟨hK.os.trans hW1.os,hK.tape.trans hW1.tape,hK.output.trans hW1.output,Nat.le_trans hW1.size hK.size,fun k hk hn=>keep k hk (fun e=>hn (by rw [e];simp [fpO])) (fun e=>hn (by simp only [fpO,List.mem_cons,List.mem_append];exact .inr (.inr (.inl (by rw [e];simp)))))⟩
  ·intro b hb
   have hp:(fpO {o with rv:=rv',ss:=insAt (posOf (sCmp ty) o.ss) ⟨sb,hd1,.slice none 0 0,ty,tt,at_,[]⟩ o.ss}).Perm ([o.blk,o.hd]++(rv'.ownBlock.toList++([sb,hd1]++o.ss.flatMap fpS))):=by
    show(o.blk::o.hd::(rv'.ownBlock.toList++_)).Perm _
    refine List.Perm.cons _ (List.Perm.cons _ (List.Perm.append_left _ ?_));exact flat_ins fpS _ _ _
   rw [hp.mem_iff] at hb;simp only [List.mem_append,List.mem_cons,List.not_mem_nil,or_false] at hb
   rcases hb with(rfl|rfl)|hb|(rfl|rfl)|hb
   ·left;simp [fpO]
   ·left;simp [fpO]
   ·rcases hloc with h1|h1
    ·left;rw [h1] at hb;simp only [fpO,List.mem_cons,List.mem_append];exact .inr (.inr (.inl hb))
    ·right
     cases hr:rv'.ownBlock with
     |none=>rw [hr] at hb;simp at hb
     |some q=>
      rw [hr] at hb;simp at hb;subst hb;have:=h1 _ hr;have:=hW1.size;omega
   ·right;omega
   ·right;omega
   ·left;simp only [fpO,List.mem_cons,List.mem_append];exact .inr (.inr (.inr hb))
def rowBlk:Value->Option Nat
 |.slice (some a) _ _=>some a.block
 |_=>none
structure LabOK (w:World) (fp:List Nat) (v:Value) (lab:List ByteArray):Prop where
 row:Nm.SRow w v lab
 far:lab≠[]->∀ b,rowBlk v=some b->b∉fp∧b<w.heap.size
 fit:(∀ x∈lab,x.size<=1000000000)∧lab.length<=1000000000
def LabAt(w:World)(fp:List Nat)(os:List GOw):Prop:=∀ o∈os,LabOK w fp o.lv o.lab
theorem srow_keep{w w':World}{v:Value}{lab:List ByteArray}(h:Nm.SRow w v lab)(he:lab≠[]->∀ b,rowBlk v=some b->w'.heap[b]? =w.heap[b]?):Nm.SRow w' v lab:=by
 obtain⟨a,cap,rfl,h1,h2,h3,h4⟩:=h;refine⟨a,cap,rfl,h1,h2,h3,fun hne=>?_⟩;obtain⟨b,off,rfl,hc⟩:=h4 hne;refine⟨b,off,rfl,fun k x hx=>?_⟩;rw [World.cell?_of_block (w:=w) (he hne b rfl)];exact hc k x hx
theorem LabOK.outs{w w':World}{fp fp':List Nat}{v:Value}{lab:List ByteArray}(h:LabOK w fp v lab)(ho:Outs fp w w')(hf:∀ b∈fp',b∈fp∨w.heap.size<=b):LabOK w' fp' v lab:=by
 refine⟨srow_keep h.row (fun hne b hb=>?_),fun hne b hb=>?_,h.fit⟩
 ·obtain⟨h1,h2⟩:=h.far hne b hb;exact ho.block b h2 h1
 ·obtain⟨h1,h2⟩:=h.far hne b hb;refine⟨fun hm=>?_,Nat.lt_of_lt_of_le h2 ho.size⟩
  rcases hf b hm with h3|h3
  ·exact h1 h3
  ·omega
def oCmp(lab:List ByteArray)(o:GOw):Int:=Nm.cmpLs o.lab lab
def OwS(l:List GOw):Prop:=l.Pairwise fun a b=>Nm.cmpLs a.lab b.lab<0
theorem cmpLs_lt_trans{a b c:List ByteArray}(h1:Nm.cmpLs a b<0)(h2:Nm.cmpLs b c<0):Nm.cmpLs a c<0:=by
 have h3:=cmpLs_trans (a:=a) (b:=b) (c:=c) (by omega) (by omega)
 rcases Int.lt_or_eq_of_le h3 with h|h
 ·exact h
 ·exfalso
  have h4:=cmpLs_anti a c;have h5:=cmpLs_trans (a:=b) (b:=c) (c:=a) (by omega) (by rw [h4];omega);have h6:=cmpLs_anti a b;omega
def GotO(own:ByteArray)(lv:Value)(lab:List ByteArray)(l:List GOw)(o:GOw)(l':List GOw):Prop:=
 (isIn (oCmp lab) l=true∧l'=l∧l[posOf (oCmp lab) l]? =some o∧Nm.cmpLs o.lab lab=0)∨(isIn (oCmp lab) l=false∧l'=insAt (posOf (oCmp lab) l) o l∧o.lab=lab∧o.lv=lv∧o.nm=own∧o.ss=[])
set_option maxHeartbeats 800000 in
theorem owner_any(th:Nat)(rv:Value)(os:List GOw)(B rb lb:Nat)(own:ByteArray)(la:Option Addr)(ln lc:Nat)(lab:List ByteArray)(r1 r2 r3 r4:Value)(w:World)(h:TrAt w B th rv os)(hB:B<=w.heap.size)(hl:os.length<=500000)(hd:OwS os)(hLab:LabAt w (fpT th rv os) os)(hlab:LabOK w (fpT th rv os) (.slice la ln lc) lab)(kr:Blk w rb #[.string own,r1,r2,r3,r4] 56)(kl:Blk w lb #[.slice la ln lc] 125)(hs:own.size<=1000000000):
 Calls Tryz.prog 156 #[ptr th,.slice la ln lc,.func (.func 157) #[] #[ptr rb,ptr lb]] w fun e w'=>∃ o rv' os',e=.returned (ptr o.blk)∧GotO own (.slice la ln lc) lab os o os'∧TrAt w' B th rv' os'∧Outs (fpT th rv os) w w'∧∀ b∈fpT th rv' os',b∈fpT th rv os∨w.heap.size<=b:=by
 have hdl:(owRs os).length=os.length:=by simp [owRs]
 have hcf:∀ (tb i:Nat) (p:Value×Value),(owRs os)[i]? =some p->∀ W,Below w.heap.size w W->Blk W tb #[.pointer (some ⟨th,0,none⟩)] 126->Calls Tryz.prog 189 #[.agg #[p.1,p.2],.slice la ln lc,.pointer (some ⟨tb,0,none⟩)] W fun e w'=>e=.returned (.int .i64 (cfOf (oCmp lab) os i))∧Below W.heap.size W w':=by
  intro tb i p hp W hW kb;simp only [owRs,List.getElem?_map,Option.map_eq_some_iff] at hp;obtain⟨q,hq,rfl⟩:=hp;rw [cfOf_at hq];have hq2:=hLab q (List.mem_of_getElem? hq);exact place1L_any tb th rv (ptr q.blk) q.lv (.slice la ln lc) q.lab lab W kb (blk_below h.head hW) (hq2.row.below hW) (hlab.row.below hW) hq2.fit.1 hq2.fit.2 hlab.fit.2
 have hmono:=mono_of_pair (f:=oCmp lab) hd (fun a b hab hb=>by
  exact cmpLs_lt_trans hab hb)
 have hfnd:=posOf_fnd os hmono
 cases hin:isIn (oCmp lab) os with
 |true=>
  obtain⟨x,hx,hx0⟩:=isIn_some hin;have hx':(owRs os)[posOf (oCmp lab) os]? =some (x.lv,ptr x.blk):=by simp [owRs,hx]
  refine(valueOfL_in th B cmpLv rv (.slice la ln lc) _ (owRs os) (cfOf (oCmp lab) os) (posOf (oCmp lab) os) _ w h.head h.rows (by omega) hcf (by rw [hdl];exact hmono) (by rw [hdl];exact hfnd) hx' (by rw [cfOf_at hx];exact hx0)).mono ?_;rintro e w' ⟨rfl,hb⟩
  exact⟨x,rv,os,rfl,.inl ⟨hin,rfl,hx,hx0⟩,h.keep (fun b hm=>hb.block b (h.lt b hm)),Outs.below hb,fun b hbm=>.inl hbm⟩
 |false=>
  have hout:=valueOfL_out th B cmpLv rv la ln lc #[ptr rb,ptr lb] (owRs os) (cfOf (oCmp lab) os) (posOf (oCmp lab) os) w none (NewO own (.slice la ln lc)) h.head h.rows (by omega) hcf (by rw [hdl];exact hmono) (by rw [hdl];exact hfnd) (by rw [hdl];exact isIn_not hin)
   (fun p hp=>by
    simp only [owRs,List.mem_map] at hp;obtain⟨q,hq,rfl⟩:=hp;obtain⟨qa,qc,e,_⟩:=(hLab q hq).row;refine⟨?_,rfl⟩;show q.lv.oneCell'=true
    rw [e]
    rfl) hB
   (fun W hW=>lay1_any rb lb own r1 r2 r3 r4 la ln lc W (blk_below kr hW) (blk_below kl hW) hs) (by simp) (by simp)
  refine hout.mono ?_;rintro e w' ⟨ux,W,w1,rv',rfl,hW,hg1,⟨hd1,sb,rfl,hh1,hs1,hne,kh1,ks1⟩,kg',ho',hK,hloc⟩;have hW1:Below w.heap.size w w1:=⟨hg1.os.trans hW.os,hg1.tape.trans hW.tape,hg1.output.trans hW.output,Nat.le_trans hW.size hg1.size,fun k hk=>(hg1.block k (Nat.lt_of_lt_of_le hk hW.size) (by simp)).trans (hW.block k hk)⟩;have hsW:=hW.size;have hsb:=blk_lt ks1;have hhb:=blk_lt kh1;have holt:∀ x,rv.ownBlock=some x->x<w.heap.size:=fun x hx=>(h.rows.lt x hx).2
  have hohd:=blk_lt h.head;have keep:∀ b,b<w.heap.size->b≠th->rv.ownBlock≠some b->w'.heap[b]? =w.heap[b]? :=fun b hb h1 h2=>(hK.block b (Nat.lt_of_lt_of_le hb hW1.size) h1 h2).trans (hW1.block b hb)
  have hnd':=h.nodup;simp only [fpT,List.nodup_cons,List.nodup_append,List.mem_append,not_or] at hnd';obtain⟨⟨a2,a3⟩,a6,a7,a8⟩:=hnd';obtain⟨on,hon⟩:∃ on:GOw,on=⟨sb,hd1,.slice none 0 0,.slice la ln lc,lab,own,[]⟩:=⟨_,rfl⟩
  have hp:(fpT th rv' (insAt (posOf (oCmp lab) os) on os)).Perm ([th]++(rv'.ownBlock.toList++([sb,hd1]++os.flatMap fpO))):=by
   show(th::(rv'.ownBlock.toList++_)).Perm _
   refine List.Perm.cons _ (List.Perm.append_left _ ?_);have:=flat_ins fpO (posOf (oCmp lab) os) on os;rw [show fpO on=[sb,hd1] by rw [hon];rfl] at this;exact this
  refine⟨on,rv',insAt (posOf (oCmp lab) os) on os,by rw [hon];rfl,.inr ⟨hin,rfl,by rw [hon],by rw [hon],by rw [hon],by rw [hon]⟩,⟨kg',?_,?_,?_⟩,?_,?_⟩
  ·have e1:owRs (insAt (posOf (oCmp lab) os) on os)=(owRs os).take (posOf (oCmp lab) os)++[(Value.slice la ln lc,Value.pointer (some ⟨sb,0,none⟩))]++(owRs os).drop (posOf (oCmp lab) os):=by rw [hon];simp [owRs,insAt,ptr]
   rw [e1]
   have hle:((owRs os).take (posOf (oCmp lab) os)++[(Value.slice la ln lc,Value.pointer (some ⟨sb,0,none⟩))]++(owRs os).drop (posOf (oCmp lab) os)).length=(owRs os).length+1:=by
    have:=hfnd.1;simp
    omega
   rw [hle];exact ho'
  ·intro o ho
   have hcase:o∈os∨o=on:=by
    simp only [insAt,List.mem_append,List.mem_singleton] at ho
    rcases ho with(ho|ho)|ho
    ·exact .inl (List.mem_of_mem_take ho)
    ·exact .inr ho
    ·exact .inl (List.mem_of_mem_drop ho)
   rcases hcase with ho|rfl
   ·refine(h.owners o ho).keep (fun b hb=>keep b ((h.owners o ho).lt b hb) ?_ ?_)
    ·intro e;exact a3 (List.mem_flatMap.2 ⟨o,ho,by rw [<- e];exact hb⟩)
    ·intro e;exact a8 b (by rw [e];simp) b (List.mem_flatMap.2 ⟨o,ho,hb⟩) rfl
   ·rw [hon];exact⟨hK.blk ks1 (show sb≠th by omega) (fun e=>by have:=holt sb e;omega),hK.blk kh1 (show hd1≠th by omega) (fun e=>by have:=holt hd1 e;omega),World.ownsRow_nil _ _ _ _,by simp⟩
  ·rw [hp.nodup_iff]
   refine nd_grow (N:=w.heap.size) (M:=w1.heap.size) (r:=rv.ownBlock.toList) h.nodup (h.lt) (by simp;omega) (by
    intro y hy;simp at hy
    rcases hy with rfl|rfl<;>omega) (own_list _) ?_ hW1.size
   rcases hloc with h1|h1
   ·left;rw [h1]
   ·right;intro x hx
    cases hr:rv'.ownBlock with
    |none=>rw [hr] at hx;simp at hx
    |some q=>
     rw [hr] at hx;simp at hx;subst hx;exact h1 _ hr
  ·refine⟨hK.os.trans hW1.os,hK.tape.trans hW1.tape,hK.output.trans hW1.output,Nat.le_trans hW1.size hK.size,fun k hk hn=>keep k hk (fun e=>hn (by rw [e];simp [fpT])) (fun e=>hn (by simp only [fpT,List.mem_cons,List.mem_append];exact .inr (.inl (by rw [e];simp))))⟩
  ·intro b hb;rw [hp.mem_iff] at hb;simp only [List.mem_append,List.mem_cons,List.not_mem_nil,or_false] at hb
   rcases hb with rfl|hb|(rfl|rfl)|hb
   ·left;simp [fpT]
   ·rcases hloc with h1|h1
    ·left;rw [h1] at hb;simp only [fpT,List.mem_cons,List.mem_append];exact .inr (.inl hb)
    ·right
     cases hr:rv'.ownBlock with
     |none=>rw [hr] at hb;simp at hb
     |some q=>
      rw [hr] at hb;simp at hb;subst hb;have:=h1 _ hr;have:=hW1.size;omega
   ·right;omega
   ·right;omega
   ·left;simp only [fpT,List.mem_cons,List.mem_append];exact .inr (.inr hb)
theorem set_split{α:Type}{l:List α}{j:Nat}{x:α}(h:l[j]? =some x)(y:α):l=l.take j++[x]++l.drop (j+1)∧l.set j y=l.take j++[y]++l.drop (j+1):=by
 obtain⟨hj,e⟩:=List.getElem?_eq_some_iff.1 h;constructor
 ·rw [List.append_assoc,List.singleton_append,<- e,List.getElem_cons_drop,List.take_append_drop]
 ·rw [List.set_eq_take_append_cons_drop,if_pos hj,List.append_assoc];rfl
theorem nd_seg{N:Nat}{X A A' Y:List Nat}(h:(X++(A++Y)).Nodup)(hlt:∀ x∈X++(A++Y),x<N)(hA:A'.Nodup)(hm:∀ a∈A',a∈A∨N<=a):(X++(A'++Y)).Nodup:=by
 rw [List.nodup_append,List.nodup_append] at h;obtain⟨hX,⟨hA0,hY,hAY⟩,hXA⟩:=h;rw [List.nodup_append,List.nodup_append];refine⟨hX,⟨hA,hY,fun a ha b hb=>?_⟩,fun a ha b hb=>?_⟩
 ·rcases hm a ha with h1|h1
  ·exact hAY a h1 b hb
  ·have:=hlt b (by simp [hb]);omega
 ·rcases List.mem_append.1 hb with hb|hb
  ·rcases hm b hb with h1|h1
   ·exact hXA a ha b (List.mem_append.2 (.inl h1))
   ·have:=hlt a (by simp [ha]);omega
  ·exact hXA a ha b (List.mem_append.2 (.inr hb))
theorem ow_set{w w':World}{B:Nat}{o:GOw}{j:Nat}{s s':GSe}{F:List Nat}(h:OwAt w B o)(hnd:(fpO o).Nodup)(hj:o.ss[j]? =some s)(hs:SeAt w' B s')(hb:s'.blk=s.blk)(ht:s'.ty=s.ty)(hn:(fpS s').Nodup)
 (hm:∀ b∈fpS s',b∈fpS s∨w.heap.size<=b) (hF:Outs F w w') (hFo:∀ b∈F,b∈fpO o->b∈fpS s):
 OwAt w' B {o with ss:=o.ss.set j s'}∧(fpO {o with ss:=o.ss.set j s'}).Nodup∧∀ b∈fpO {o with ss:=o.ss.set j s'},b∈fpO o∨w.heap.size<=b:=by
 obtain⟨e1,e2⟩:=set_split hj s'
 have f1:fpO o=(o.blk::o.hd::(o.rv.ownBlock.toList++(o.ss.take j).flatMap fpS))++(fpS s++(o.ss.drop (j+1)).flatMap fpS):=by
  conv=>lhs;rw [fpO,e1]
  simp
 have f2:fpO {o with ss:=o.ss.set j s'}=(o.blk::o.hd::(o.rv.ownBlock.toList++(o.ss.take j).flatMap fpS))++(fpS s'++(o.ss.drop (j+1)).flatMap fpS):=by
  show o.blk::o.hd::(o.rv.ownBlock.toList++(o.ss.set j s').flatMap fpS)=_
  rw [e2];simp
 have hnd2:=hnd;rw [f1] at hnd2;have hlt:∀ x∈(o.blk::o.hd::(o.rv.ownBlock.toList++(o.ss.take j).flatMap fpS))++(fpS s++(o.ss.drop (j+1)).flatMap fpS),x<w.heap.size:=fun x hx=>h.lt x (by rw [f1];exact hx)
 have hsep:∀ b,b∈(o.blk::o.hd::(o.rv.ownBlock.toList++(o.ss.take j).flatMap fpS))∨b∈(o.ss.drop (j+1)).flatMap fpS->b∉fpS s:=by
  intro b hb hbs;rw [List.nodup_append,List.nodup_append] at hnd2;obtain⟨_,⟨_,_,h3⟩,h4⟩:=hnd2
  rcases hb with hb|hb
  ·exact h4 b hb b (List.mem_append.2 (.inl hbs)) rfl
  ·exact h3 b hbs b hb rfl
 have keep:∀ b∈fpO o,b∉fpS s->w'.heap[b]? =w.heap[b]? :=fun b hbo hbs=>hF.block b (h.lt b hbo) (fun hbF=>hbs (hFo b hbF hbo))
 refine⟨⟨?_,?_,?_,?_⟩,?_,?_⟩
 ·exact blk_keep h.node (keep _ (by simp [fpO]) (hsep _ (.inl (by simp))))
 ·exact blk_keep h.head (keep _ (by simp [fpO]) (hsep _ (.inl (by simp))))
 ·have e3:seRs (o.ss.set j s')=seRs o.ss:=by
   rw [e2]
   conv=>rhs;rw [e1]
   simp [seRs,hb,ht]
  show w'.ownsRow B _ 2 o.rv (seRs (o.ss.set j s')).length (rowCs (seRs (o.ss.set j s')))
  rw [e3];refine own_keep h.rows (fun b hbm=>keep b (by simp only [fpO,List.mem_cons,List.mem_append];exact .inr (.inr (.inl hbm))) (hsep b (.inl (by simp only [List.mem_cons,List.mem_append];exact .inr (.inr (.inl hbm))))))
 ·intro t htm;have htm2:t∈o.ss.set j s':=htm;rw [e2] at htm2;simp only [List.mem_append,List.mem_singleton] at htm2
  have old:∀ t∈o.ss,(t∈o.ss.take j∨t∈o.ss.drop (j+1))->SeAt w' B t:=by
   intro t hto hts;refine(h.sets t hto).keep (fun b hbm=>keep b (by simp only [fpO,List.mem_cons,List.mem_append,List.mem_flatMap];exact .inr (.inr (.inr ⟨t,hto,hbm⟩))) (hsep b ?_))
   rcases hts with hts|hts
   ·left;simp only [List.mem_cons,List.mem_append,List.mem_flatMap];exact .inr (.inr (.inr ⟨t,hts,hbm⟩))
   ·right;exact List.mem_flatMap.2 ⟨t,hts,hbm⟩
  rcases htm2 with(hts|rfl)|hts
  ·exact old t (List.mem_of_mem_take hts) (.inl hts)
  ·exact hs
  ·exact old t (List.mem_of_mem_drop hts) (.inr hts)
 ·rw [f2];exact nd_seg hnd2 hlt hn hm
 ·intro b hbm;rw [f2] at hbm;rw [f1]
  rcases List.mem_append.1 hbm with hbm|hbm
  ·exact .inl (List.mem_append.2 (.inl hbm))
  ·rcases List.mem_append.1 hbm with hbm|hbm
   ·rcases hm b hbm with h1|h1
    ·exact .inl (List.mem_append.2 (.inr (List.mem_append.2 (.inl h1))))
    ·exact .inr h1
   ·exact .inl (List.mem_append.2 (.inr (List.mem_append.2 (.inr hbm))))
theorem tr_owner{w w':World}{B th:Nat}{rv:Value}{os:List GOw}{p:Nat}{o o':GOw}{F:List Nat}(h:TrAt w B th rv os)(hp:os[p]? =some o)(ho:OwAt w' B o')(hb:o'.blk=o.blk)(hl:o'.lv=o.lv)(hn:(fpO o').Nodup)
 (hm:∀ b∈fpO o',b∈fpO o∨w.heap.size<=b) (hF:Outs F w w') (hFo:∀ b∈F,b∈fpT th rv os->b∈fpO o):
 TrAt w' B th rv (os.set p o')∧∀ b∈fpT th rv (os.set p o'),b∈fpT th rv os∨w.heap.size<=b:=by
 obtain⟨e1,e2⟩:=set_split hp o'
 have f1:fpT th rv os=(th::(rv.ownBlock.toList++(os.take p).flatMap fpO))++(fpO o++(os.drop (p+1)).flatMap fpO):=by
  conv=>lhs;rw [fpT,e1]
  simp
 have f2:fpT th rv (os.set p o')=(th::(rv.ownBlock.toList++(os.take p).flatMap fpO))++(fpO o'++(os.drop (p+1)).flatMap fpO):=by
  rw [fpT,e2];simp
 have hnd2:=h.nodup;rw [f1] at hnd2;have hlt:∀ x∈(th::(rv.ownBlock.toList++(os.take p).flatMap fpO))++(fpO o++(os.drop (p+1)).flatMap fpO),x<w.heap.size:=fun x hx=>h.lt x (by rw [f1];exact hx)
 have hsep:∀ b,b∈(th::(rv.ownBlock.toList++(os.take p).flatMap fpO))∨b∈(os.drop (p+1)).flatMap fpO->b∉fpO o:=by
  intro b hb hbs;rw [List.nodup_append,List.nodup_append] at hnd2;obtain⟨_,⟨_,_,h3⟩,h4⟩:=hnd2
  rcases hb with hb|hb
  ·exact h4 b hb b (List.mem_append.2 (.inl hbs)) rfl
  ·exact h3 b hbs b hb rfl
 have keep:∀ b∈fpT th rv os,b∉fpO o->w'.heap[b]? =w.heap[b]? :=fun b hbo hbs=>hF.block b (h.lt b hbo) (fun hbF=>hbs (hFo b hbF hbo))
 refine⟨⟨?_,?_,?_,?_⟩,?_⟩
 ·exact blk_keep h.head (keep _ (by simp [fpT]) (hsep _ (.inl (by simp))))
 ·have e3:owRs (os.set p o')=owRs os:=by
   rw [e2]
   conv=>rhs;rw [e1]
   simp [owRs,hb,hl]
  rw [e3];refine own_keep h.rows (fun b hbm=>keep b (by simp only [fpT,List.mem_cons,List.mem_append];exact .inr (.inl hbm)) (hsep b (.inl (by simp only [List.mem_cons,List.mem_append];exact .inr (.inl hbm)))))
 ·intro t htm;rw [e2] at htm;simp only [List.mem_append,List.mem_singleton] at htm
  have old:∀ t∈os,(t∈os.take p∨t∈os.drop (p+1))->OwAt w' B t:=by
   intro t hto hts;refine(h.owners t hto).keep (fun b hbm=>keep b (by simp only [fpT,List.mem_cons,List.mem_append,List.mem_flatMap];exact .inr (.inr ⟨t,hto,hbm⟩)) (hsep b ?_))
   rcases hts with hts|hts
   ·left;simp only [List.mem_cons,List.mem_append,List.mem_flatMap];exact .inr (.inr ⟨t,hts,hbm⟩)
   ·right;exact List.mem_flatMap.2 ⟨t,hts,hbm⟩
  rcases htm with(hts|rfl)|hts
  ·exact old t (List.mem_of_mem_take hts) (.inl hts)
  ·exact ho
  ·exact old t (List.mem_of_mem_drop hts) (.inr hts)
 ·rw [f2];exact nd_seg hnd2 hlt hn hm
 ·intro b hbm;rw [f2] at hbm;rw [f1]
  rcases List.mem_append.1 hbm with hbm|hbm
  ·exact .inl (List.mem_append.2 (.inl hbm))
  ·rcases List.mem_append.1 hbm with hbm|hbm
   ·rcases hm b hbm with h1|h1
    ·exact .inl (List.mem_append.2 (.inr (List.mem_append.2 (.inl h1))))
    ·exact .inr h1
   ·exact .inl (List.mem_append.2 (.inr (List.mem_append.2 (.inr hbm))))
def kinB(x y:It):Bool:=decide (y.fo=x.fo)&&decide (y.r.ty=x.r.ty)
def dupI(pre:List It)(x:It):Bool:=pre.any fun y=>kinB x y&&decide (y.dt=x.dt)
def mixI(pre:List It)(x:It):Bool:=match pre.find? (kinB x) with
 |some y=>decide (y.r.tt≠x.r.tt)
 |none=>false
def outI(b:Bool)(x:It):It:={x with out:=x.out||b}
def twI(l:List It):List It:=l.mapIdx fun i x=>outI (dupI (l.take i) x) x
def badI(l:List It):Int:=match firstI (fun i x=>mixI (l.take i) x) l with
 |some i=>i
 |none=> -1
theorem twI_len(l:List It):(twI l).length=l.length:=by simp [twI]
theorem twI_get{l:List It}{i:Nat}{x:It}(h:l[i]? =some x):(twI l)[i]? =some (outI (dupI (l.take i) x) x):=by
 simp [twI,h]
theorem dupI_take{l:List It}{k:Nat}{y:It}(x:It)(h:l[k]? =some y):dupI (l.take (k+1)) x=(dupI (l.take k) x||(kinB x y&&decide (y.dt=x.dt))):=by
 obtain⟨hi,e⟩:=List.getElem?_eq_some_iff.1 h;rw [List.take_succ_eq_append_getElem hi,e];simp [dupI]
theorem find_take_no{l:List It}{k:Nat}{p:It->Bool}(h:∀ (j:Nat) (y:It),j<k->l[j]? =some y->p y=false):(l.take k).find? p=none:=by
 rw [List.find?_eq_none];intro y hy;obtain⟨j,hj,e⟩:=List.getElem_of_mem hy;have hj':=hj;rw [List.length_take] at hj';have h2:l[j]? =some y:=by rw [<- e,List.getElem_take,List.getElem?_eq_getElem (by omega)]
 simp [h j y (by omega) h2]
theorem find_take_at{l:List It}{k f:Nat}{y:It}{p:It->Bool}(hf:f<k)(hy:l[f]? =some y)(hp:p y=true)(h:∀ (j:Nat) (z:It),j<f->l[j]? =some z->p z=false):(l.take k).find? p=some y:=by
 rw [List.find?_eq_some_iff_getElem];obtain⟨hl,e⟩:=List.getElem?_eq_some_iff.1 hy;refine⟨hp,f,by rw [List.length_take];omega,by rw [List.getElem_take];exact e,fun j hj=>?_⟩;rw [List.getElem_take];have:=h j l[j] hj (List.getElem?_eq_getElem (by omega));simp [this]
def midI(l:List It)(i k:Nat):List It:=(twI l).take i++(l.drop i).mapIdx fun j x=>if j=0 then outI (dupI (l.take k) x) x else x
theorem midI_len(l:List It)(i k:Nat):(midI l i k).length=l.length:=by
 simp [midI,twI_len];omega
theorem midI_lo{l:List It}{i k j:Nat}{x:It}(h:l[j]? =some x)(hj:j<i):(midI l i k)[j]? =some (outI (dupI (l.take j) x) x):=by
 have hlt:=(List.getElem?_eq_some_iff.1 h).1;rw [midI,List.getElem?_append_left (by rw [List.length_take,twI_len];omega),List.getElem?_take_of_lt hj,twI_get h]
theorem midI_at{l:List It}{i k:Nat}{x:It}(h:l[i]? =some x):(midI l i k)[i]? =some (outI (dupI (l.take k) x) x):=by
 have hlt:=(List.getElem?_eq_some_iff.1 h).1;rw [midI,List.getElem?_append_right (by rw [List.length_take,twI_len];omega)];simp [twI_len,Nat.min_eq_left (Nat.le_of_lt hlt),h]
theorem midI_hi{l:List It}{i k j:Nat}{x:It}(h:l[j]? =some x)(hj:i<j):(midI l i k)[j]? =some x:=by
 have hlt:=(List.getElem?_eq_some_iff.1 h).1;rw [midI,List.getElem?_append_right (by rw [List.length_take,twI_len];omega)];simp only [List.length_take,twI_len,Nat.min_eq_left (by omega:i<=l.length),List.getElem?_mapIdx,List.getElem?_drop];rw [show i+(j-i)=j by omega,h]
 simp;omega
theorem midI_ext{l m:List It}{i k:Nat}(hl:m.length=l.length)(h:∀ (j:Nat) (x:It),l[j]? =some x->m[j]? =(midI l i k)[j]?):m=midI l i k:=by
 apply List.ext_getElem?;intro j
 by_cases hj:j<l.length
 ·exact h j _ (List.getElem?_eq_getElem hj)
 ·rw [List.getElem?_eq_none (by omega),List.getElem?_eq_none (by rw [midI_len];omega)]
theorem midI_start(l:List It):midI l 0 0=l:=by
 symm;refine midI_ext rfl (fun j x h=>?_)
 rcases Nat.eq_zero_or_pos j with rfl|hj
 ·rw [midI_at h,h];simp [outI,dupI]
 ·rw [midI_hi h hj,h]
theorem midI_next{l:List It}{i:Nat}(hi:i<l.length):midI l i i=midI l (i+1) 0:=by
 refine midI_ext (midI_len _ _ _) (fun j x h=>?_)
 by_cases h1:j<i
 ·rw [midI_lo h h1,midI_lo h (by omega)]
 ·by_cases h2:j=i
  ·subst h2;rw [midI_at h,midI_lo h (by omega)]
  ·by_cases h3:j=i+1
   ·subst h3;rw [midI_hi h (by omega),midI_at h];simp [outI,dupI]
   ·rw [midI_hi h (by omega),midI_hi h (by omega)]
theorem midI_end{l:List It}:midI l l.length 0=twI l:=by
 symm;refine midI_ext (twI_len l) (fun j x h=>?_);have hlt:=(List.getElem?_eq_some_iff.1 h).1;rw [midI_lo h hlt,twI_get h]
theorem midI_same{l:List It}{i k:Nat}{x y:It}(hx:l[i]? =some x)(hy:l[k]? =some y)(h:(kinB x y&&decide (y.dt=x.dt))=false):midI l i (k+1)=midI l i k:=by
 refine midI_ext (midI_len _ _ _) (fun j z hz=>?_)
 by_cases h1:j<i
 ·rw [midI_lo hz h1,midI_lo hz h1]
 ·by_cases h2:j=i
  ·subst h2;rw [hx] at hz;obtain rfl:=Option.some.inj hz;rw [midI_at hx,midI_at hx,dupI_take x hy,h,Bool.or_false]
  ·rw [midI_hi hz (by omega),midI_hi hz (by omega)]
theorem midI_out{l:List It}{i k:Nat}{x y:It}(hx:l[i]? =some x)(hy:l[k]? =some y)(h:(kinB x y&&decide (y.dt=x.dt))=true):(midI l i k).set i {x with out:=true}=midI l i (k+1):=by
 refine midI_ext (by rw [List.length_set,midI_len]) (fun j z hz=>?_);have hlt:=(List.getElem?_eq_some_iff.1 hx).1;rw [List.getElem?_set]
 by_cases h1:j<i
 ·rw [if_neg (by omega),midI_lo hz h1,midI_lo hz h1]
 ·by_cases h2:j=i
  ·subst h2;rw [hx] at hz;obtain rfl:=Option.some.inj hz;rw [if_pos rfl,if_pos (by rw [midI_len];exact hlt),midI_at hx,dupI_take x hy,h,Bool.or_true,outI,Bool.or_true]
  ·rw [if_neg (by omega),midI_hi hz (by omega),midI_hi hz (by omega)]
theorem itCs_set:∀ (l:List It) (i:Nat) (x:It),l[i]? =some x->(itCs l).set (i*8+7) (.bool true)=itCs (l.set i {x with out:=true}):=by
 intro l
 induction l with
 |nil=>intro i x h;simp at h
 |cons y l ih=>
  intro i x h;have e:∀ z zs,itCs (z::zs)=itC z++itCs zs:=by intro z zs;simp [itCs]
  cases i with
  |zero=>
   simp at h;subst h;rw [List.set_cons_zero,e,e,List.set_append_left _ _ (by simp [itC])]
   rfl
  |succ i=>
   simp at h;have hl:(itC y).length=8:=rfl;rw [List.set_cons_succ,e,e,List.set_append_right _ _ (by omega),hl,show(i+1)*8+7-8=i*8+7 by omega,ih i x h]
def sortF:Nat->List It->List It
 |0,l=>l
 |n+1,l=>if l.length<2 then l else List.merge (sortF n (l.take (l.length / 2))) (sortF n (l.drop (l.length / 2))) befI
def sortI(l:List It):List It:=sortF l.length l
theorem sortF_small{n:Nat}{l:List It}(h:l.length<2):sortF n l=l:=by
 cases n with
 |zero=>rfl
 |succ n=>rw [sortF,if_pos h]
theorem sortF_big{n:Nat}{l:List It}(h:¬l.length<2):sortF (n+1) l=List.merge (sortF n (l.take (l.length / 2))) (sortF n (l.drop (l.length / 2))) befI:=by rw [sortF,if_neg h]
theorem sortF_perm:∀ (n:Nat) (l:List It),(sortF n l).Perm l:=by
 intro n
 induction n with
 |zero=>intro l;exact .refl _
 |succ n ih=>
  intro l
  by_cases h:l.length<2
  ·rw [sortF_small h]
  ·rw [sortF_big h];have h1:(List.merge (sortF n (l.take (l.length / 2))) (sortF n (l.drop (l.length / 2))) befI).Perm (sortF n (l.take (l.length / 2))++sortF n (l.drop (l.length / 2))):=List.merge_perm_append _;refine h1.trans ?_;refine((ih _).append (ih _)).trans ?_;rw [List.take_append_drop]
theorem sortF_len(n:Nat)(l:List It):(sortF n l).length=l.length:=(sortF_perm n l).length_eq
theorem sortF_mem{n:Nat}{l:List It}{x:It}:x∈sortF n l↔x∈l:=(sortF_perm n l).mem_iff
theorem itCs_take(l:List It)(h:Nat):itCs (l.take h)=(itCs l).take (h*8):=by
 induction l generalizing h with
 |nil=>simp [itCs]
 |cons x l ih=>
  have e:∀ z zs,itCs (z::zs)=itC z++itCs zs:=by intro z zs;simp [itCs]
  have hl:(itC x).length=8:=rfl
  cases h with
  |zero=>simp [itCs]
  |succ h=>
   rw [List.take_succ_cons,e,e,ih,List.take_append,hl,List.take_of_length_le (l:=itC x) (i:=(h+1)*8) (by omega),show(h+1)*8-8=h*8 by omega]
theorem itCs_drop(l:List It)(h:Nat):itCs (l.drop h)=(itCs l).drop (h*8):=by
 induction l generalizing h with
 |nil=>simp [itCs]
 |cons x l ih=>
  have e:∀ z zs,itCs (z::zs)=itC z++itCs zs:=by intro z zs;simp [itCs]
  have hl:(itC x).length=8:=rfl
  cases h with
  |zero=>simp
  |succ h=>
   rw [List.drop_succ_cons,e,ih,List.drop_append,hl,List.drop_of_length_le (l:=itC x) (i:=(h+1)*8) (by omega),show(h+1)*8-8=h*8 by omega,List.nil_append]
theorem cr_take{w:World}{b off n cap h:Nat}{l:List It}(hr:CRow w (.slice (some ⟨b,off,none⟩) n cap) l.length 8 (itCs l))(hh:h<=l.length):CRow w (.slice (some ⟨b,off,none⟩) h cap) (l.take h).length 8 (itCs (l.take h)):=by
 obtain⟨h0,a,c,e,h1,h2,h3⟩:=hr;simp only [Value.slice.injEq] at e;obtain⟨rfl,rfl,rfl⟩:=e;have hl:(l.take h).length=h:=by rw [List.length_take];omega
 rw [hl];refine⟨by rw [itCs_len,hl],_,_,rfl,by omega,h2,fun hp=>⟨b,off,rfl,fun i x hx=>?_⟩⟩;rw [itCs_take] at hx;obtain⟨b',off',e,hc⟩:=h3 (by omega);cases e
 refine hc i x ?_;rw [List.getElem?_take] at hx
 split at hx
 ·exact hx
 ·cases hx
theorem cr_drop{w:World}{b off n cap h:Nat}{l:List It}(hr:CRow w (.slice (some ⟨b,off,none⟩) n cap) l.length 8 (itCs l))(hh:h<l.length):CRow w (.slice (some ⟨b,off+h*8,none⟩) (l.length-h) (cap-h)) (l.drop h).length 8 (itCs (l.drop h)):=by
 obtain⟨h0,a,c,e,h1,h2,h3⟩:=hr;simp only [Value.slice.injEq] at e;obtain⟨rfl,rfl,rfl⟩:=e;have hl:(l.drop h).length=l.length-h:=List.length_drop;rw [hl];refine⟨by rw [itCs_len,hl],_,_,rfl,by omega,by omega,fun hp=>⟨b,off+h*8,rfl,fun i x hx=>?_⟩⟩;rw [itCs_drop,List.getElem?_drop] at hx;obtain⟨b',off',e,hc⟩:=h3 (by omega);cases e
 have:=hc (h*8+i) x hx;rw [Nat.add_assoc];exact this
theorem merge_left{a b:List It}{i:Nat}{x:It}(hx:a[i]? =some x):List.merge (a.drop i) (b.drop b.length) befI=x::List.merge (a.drop (i+1)) (b.drop b.length) befI:=by
 obtain⟨hi,e⟩:=List.getElem?_eq_some_iff.1 hx;rw [List.drop_length,List.merge_right,List.merge_right,List.drop_eq_getElem_cons hi,e]
theorem merge_one{a b:List It}{i k:Nat}{x y:It}(hx:a[i]? =some x)(hy:b[k]? =some y)(h:befI x y=true):List.merge (a.drop i) (b.drop k) befI=x::List.merge (a.drop (i+1)) (b.drop k) befI:=by
 obtain⟨hi,e⟩:=List.getElem?_eq_some_iff.1 hx;obtain⟨hk,e2⟩:=List.getElem?_eq_some_iff.1 hy;rw [List.drop_eq_getElem_cons hi,e,List.drop_eq_getElem_cons hk,e2,List.cons_merge_cons,if_pos h]
theorem merge_two{a b:List It}{i k:Nat}{x y:It}(hx:a[i]? =some x)(hy:b[k]? =some y)(h:befI x y=false):List.merge (a.drop i) (b.drop k) befI=y::List.merge (a.drop i) (b.drop (k+1)) befI:=by
 obtain⟨hi,e⟩:=List.getElem?_eq_some_iff.1 hx;obtain⟨hk,e2⟩:=List.getElem?_eq_some_iff.1 hy;rw [List.drop_eq_getElem_cons hi,e,List.drop_eq_getElem_cons hk,e2,List.cons_merge_cons,if_neg (by simp [h])]
theorem merge_right'{a b:List It}{k:Nat}{y:It}(hy:b[k]? =some y):List.merge (a.drop a.length) (b.drop k) befI=y::List.merge (a.drop a.length) (b.drop (k+1)) befI:=by
 obtain⟨hk,e⟩:=List.getElem?_eq_some_iff.1 hy;rw [List.drop_length,List.nil_merge,List.nil_merge,List.drop_eq_getElem_cons hk,e]
def ru1(l:List It)(fo:ByteArray)(i:Nat)(x:It):Bool:= !x.out&&decide (x.r.ty=6)&&(decide (x.fo≠fo)||hasI (l.take i) fo 6)
def ru2(x:It):Bool:= !x.out&&starB x.fo&&(decide (x.r.ty=2)||decide (x.r.ty=39))
def ru3(l:List It)(i:Nat)(x:It):Bool:= !x.out&&(decide (x.r.ty=5)||decide (x.r.ty=39))&&hasI (l.take i) x.fo x.r.ty
def ru4(l:List It)(x:It):Bool:= !x.out&&decide (x.r.ty≠5)&&decide (x.r.ty≠47)&&hasI l x.fo 5
def be5(x y:It):Bool:= !y.out&&decide (y.r.ty=39)&&decide (y.fo≠x.fo)&&isUnderS x.fo y.fo
def ru5(l:List It)(x:It):Bool:= !x.out&&l.any fun y=>be5 x y
theorem rulesI_eq(l:List It)(fo:ByteArray):rulesI l fo=
 match firstI (ru1 l fo) l with
 |some i=>(20,i)
 |none=>if !hasI l fo 6 then(20,-1) else if !hasI l fo 2 then(21,-1) else
  match firstI (fun _ x=>ru2 x) l with
  |some i=>(26,i)
  |none=>match firstI (ru3 l) l with
   |some i=>(23,i)
   |none=>match firstI (fun _ x=>ru4 l x) l with
    |some i=>(23,i)
    |none=>match firstI (fun _ x=>ru5 l x) l with
     |some i=>(25,i)
     |none=>(0,0):=rfl
theorem first_next{p:Nat->It->Bool}{l:List It}{k:Nat}{x:It}(hno:∀ (i:Nat) (y:It),i<k->l[i]? =some y->p i y=false)(hk:l[k]? =some x)(hp:p k x=false):∀ (i:Nat) (y:It),i<k+1->l[i]? =some y->p i y=false:=by
 intro i y hi hy
 by_cases h:i=k
 ·subst h;rw [hk] at hy;obtain rfl:=Option.some.inj hy;exact hp
 ·exact hno i y (by omega) hy
theorem any_next{p:It->Bool}{l:List It}{k:Nat}{y:It}(h:(l.take k).any p=false)(hk:l[k]? =some y)(hp:p y=false):(l.take (k+1)).any p=false:=by
 obtain⟨hi,e⟩:=List.getElem?_eq_some_iff.1 hk;rw [List.take_succ_eq_append_getElem hi,e,List.any_append,h];simp [hp]
set_option maxRecDepth 100000 in
set_option maxHeartbeats 1600000 in
theorem l06Starred_any(s:ByteArray)(w:World)(hs:s.size<=maxLen):Calls Tryz.prog 103 #[.string s] w fun e w'=>e=.returned (.bool (starB s))∧w'=w:=by
 unfold maxLen at hs;obtain⟨Q,hQ⟩:∃ Q,Q=starB s:=⟨_,rfl⟩;rw [<- hQ];unfold starB at hQ
 by_cases h1:1<s.size
 ·have i1:(1:Int)<(s.size:Int):=by omega
  rw [decide_eq_true h1,Bool.true_and,<- ba_eq] at hQ;have HQ:=Nm.hide hQ;clear hQ;go_enter Tryz.func103,Tryz.ntmps103;go_wp2;go_ret;exact⟨by rw [HQ.out,show(⟨#[1,42]⟩:ByteArray).toList=[1,42] from by rw [ByteArray.toList_eq]];rfl,rfl⟩
 ·have i1:(s.size:Int)<=1:=by omega
  rw [decide_eq_false h1,Bool.false_and] at hQ;subst hQ;go_enter Tryz.func103,Tryz.ntmps103;go_wp2;go_ret;exact⟨rfl,rfl⟩
end Go.Proofs.YtgilkakllagbnaaGreat
namespace Go.Proofs.YtgilkakllagbnaaGreat
open Go.RowKit Go.Shelf
set_option linter.unusedVariables false
attribute [local go_sem] Oper.semAt_some
def RwsL{α:Type}(ka:α->Option Addr)(kn kc:α->Nat)(vf:α->Addr)(n₀:Nat)(W:World)(sv:Value)(zs:List α):Prop:=
 (sv=.slice none 0 0∧zs=[])∨∃ b off cap,sv=.slice (some ⟨b,off,none⟩) zs.length cap∧b<n₀∧(zs.length<=cap∧cap<=maxLen)∧
  ∀ (i:Nat) (x:α),zs[i]? =some x->W.cell? ⟨b,off+i*2,none⟩=some (Value.slice (ka x) (kn x) (kc x))∧W.cell? ⟨b,off+i*2+1,none⟩=some (Value.pointer (some (vf x)))
theorem RwsL.below{α:Type}{ka:α->Option Addr}{kn kc:α->Nat}{vf:α->Addr}{n₀:Nat}{W W':World}{sv:Value}{zs:List α}(h:RwsL ka kn kc vf n₀ W sv zs)(hB:Below n₀ W W'):RwsL ka kn kc vf n₀ W' sv zs:=by
 rcases h with h|⟨b,off,cap,e,hb,hcp,hc⟩
 ·exact .inl h
 ·exact .inr ⟨b,off,cap,e,hb,hcp,fun i x hx=>⟨(hB.cell (p:=⟨b,off+i*2,none⟩) hb).trans (hc i x hx).1,(hB.cell (p:=⟨b,off+i*2+1,none⟩) hb).trans (hc i x hx).2⟩⟩
theorem rwsL_own{α:Type}(ka:α->Option Addr)(kn kc:α->Nat)(vf:α->Addr){w:World}{B e:Nat}{v:Value}(zs:List α)(h:w.ownsRow B e 2 v zs.length (rowCs (zs.map fun x=>((Value.slice (ka x) (kn x) (kc x)),(Value.pointer (some (vf x))))))):RwsL ka kn kc vf w.heap.size w v zs:=by
 have h':=h
 rcases h.2 with⟨rfl,h0⟩|⟨q,cap,cur,rfl,hb,hh,hc1,hc2,hcs,ht⟩
 ·exact .inl ⟨rfl,List.length_eq_zero_iff.1 h0⟩
 ·refine .inr ⟨q,0,cap,rfl,(Array.getElem?_eq_some_iff.1 hh).1,⟨hc1,hc2⟩,fun i x hx=>?_⟩;have hi:=(List.getElem?_eq_some_iff.1 hx).1;have hm:(zs.map fun x=>((Value.slice (ka x) (kn x) (kc x)),(Value.pointer (some (vf x)))))[i]? =some ((Value.slice (ka x) (kn x) (kc x)),(Value.pointer (some (vf x)))):=by simp [hx]
  have a0:=rowCs_at _ i 0 _ hm (by decide);have a1:=rowCs_at _ i 1 _ hm (by decide);have c0:=h'.cellAt (i*2) (by omega);have c1:=h'.cellAt (i*2+1) (by omega);exact⟨by rw [Nat.zero_add,c0];exact a0,by rw [Nat.zero_add,c1];exact a1⟩
set_option maxRecDepth 100000 in
set_option maxHeartbeats 2000000 in
theorem all1nL_in{α:Type}(F:Fence)(n:Nat)(h7:F.fn 144)(hro:F.round=none)(l tb g:Nat)(J:List α->World->Prop)(W:World)
 (kb:W.cell? ⟨tb,0,none⟩=some (.pointer (some ⟨g,0,none⟩))) (kg:W.cell? ⟨g,1,none⟩=some (.slice none 0 0)) (h0:J [] W):
 CallsIn F n Tryz.prog 144 #[.func (.yield l) #[] #[],.pointer (some ⟨tb,0,none⟩)] W fun e W'=>(∃ v,e=.returned v)∧J [] W':=by
 refine callsIn_of_wp Tryz.func144 rfl h7 ?_ hro;simp only [Tryz.ntmps144,List.size_toArray,List.length_cons,List.length_nil,Nat.reduceAdd,Nat.reduceSub,Array.replicate_succ,Array.replicate_zero,List.push_toArray,List.append_toArray,List.nil_append,List.cons_append]
 gi_wp2
 gi_loopw [10] (fun i wr=>i=.int .i64 0∧J [] wr) (fun _ _=>0)
 case atStart=>exact⟨rfl,h0⟩
 case round=>
  obtain⟨rfl,hJs⟩:=hrel
  gi_wp2
  go_end0
  exact⟨⟨_,rfl⟩,hJs⟩
set_option maxRecDepth 100000 in
set_option maxHeartbeats 2000000 in
theorem allL_in(F:Fence)(n:Nat)(h6:F.fn 117)(hro:F.round=none)(p:Option Addr)(w:World):
 CallsIn F n Tryz.prog 117 #[.pointer p] w fun e w'=>e=.returned (.func (.func 144) #[] #[.pointer (some ⟨w.heap.size,0,none⟩)])∧w'=w.alloc (.cells #[.pointer p] 126):=by
 refine callsIn_of_wp Tryz.func117 rfl h6 ?_ hro;simp only [Tryz.ntmps117,List.size_toArray,List.length_cons,List.length_nil,Nat.reduceAdd,Nat.reduceSub,Array.replicate_succ,Array.replicate_zero,List.push_toArray,List.append_toArray,List.nil_append,List.cons_append]
 gi_wp2
 go_ret;exact⟨rfl,rfl⟩
theorem allStopsL{α:Type}(ka:α->Option Addr)(kn kc:α->Nat)(vf:α->Addr)(F:Fence)(n:Nat)(h7:F.fn 144)(hro:F.round=none)(hn:1<=n)(tb g n₀:Nat)(sv:Value)(zs:List α)(hl:zs.length<=1000000)(w:World)(htb:tb<w.heap.size)(hg:g<n₀)(hn₀:n₀<=w.heap.size)
 (kb:w.cell? ⟨tb,0,none⟩=some (.pointer (some ⟨g,0,none⟩))) (kg:w.cell? ⟨g,1,none⟩=some sv) (hR:RwsL ka kn kc vf n₀ w sv zs):
 SeqStopsK F n Tryz.prog 144 #[.pointer (some ⟨tb,0,none⟩)] (fun x:α=>#[(Value.slice (ka x) (kn x) (kc x)),(Value.pointer (some (vf x)))]) (Below n₀) (fun ys=>ys=zs) (fun pre=>pre<+:zs) zs.length w:=fun l J Jx W hW hJ _ hY h0=>by
 have kb':=(hW.cell (p:=⟨tb,0,none⟩) htb).trans kb;have kg':=(hW.cell (p:=⟨g,1,none⟩) (Nat.lt_of_lt_of_le hg hn₀)).trans kg
 rcases hR.below (hW.mono hn₀) with⟨rfl,rfl⟩|⟨b,off,cap,rfl,hb,hcp,hcs⟩
 ·exact(all1nL_in F n h7 hro l tb g J W kb' kg' h0).mono fun e W' ⟨he,hj⟩=>⟨he,.inl ⟨_,rfl,hj⟩⟩
 ·exact all1L_in ka kn kc vf F n h7 hro hn l tb g n₀ b off cap (.pointer none) zs hl hcp hb J Jx (fun s W1 W2 hs hgr=>hJ s W1 W2 none hs hgr (fun r e=>by cases e)) hY W kb' kg' hcs (Nat.le_trans hn₀ hW.size) h0
end Go.Proofs.YtgilkakllagbnaaGreat
namespace Go.Proofs.YtgilkakllagbnaaGreat
open Go.RowKit Go.Shelf
set_option linter.unusedVariables false
attribute [local go_sem] Oper.semAt_some
def RwsI{α:Type}(kf:α->Int)(vf:α->Addr)(n₀:Nat)(W:World)(sv:Value)(zs:List α):Prop:=
 (sv=.slice none 0 0∧zs=[])∨∃ b off cap,sv=.slice (some ⟨b,off,none⟩) zs.length cap∧b<n₀∧(zs.length<=cap∧cap<=maxLen)∧
  ∀ (i:Nat) (x:α),zs[i]? =some x->W.cell? ⟨b,off+i*2,none⟩=some (Value.int .i64 (kf x))∧W.cell? ⟨b,off+i*2+1,none⟩=some (Value.pointer (some (vf x)))
theorem RwsI.below{α:Type}{kf:α->Int}{vf:α->Addr}{n₀:Nat}{W W':World}{sv:Value}{zs:List α}(h:RwsI kf vf n₀ W sv zs)(hB:Below n₀ W W'):RwsI kf vf n₀ W' sv zs:=by
 rcases h with h|⟨b,off,cap,e,hb,hcp,hc⟩
 ·exact .inl h
 ·exact .inr ⟨b,off,cap,e,hb,hcp,fun i x hx=>⟨(hB.cell (p:=⟨b,off+i*2,none⟩) hb).trans (hc i x hx).1,(hB.cell (p:=⟨b,off+i*2+1,none⟩) hb).trans (hc i x hx).2⟩⟩
theorem rwsI_own{α:Type}(kf:α->Int)(vf:α->Addr){w:World}{B e:Nat}{v:Value}(zs:List α)(h:w.ownsRow B e 2 v zs.length (rowCs (zs.map fun x=>((Value.int .i64 (kf x)),(Value.pointer (some (vf x))))))):RwsI kf vf w.heap.size w v zs:=by
 have h':=h
 rcases h.2 with⟨rfl,h0⟩|⟨q,cap,cur,rfl,hb,hh,hc1,hc2,hcs,ht⟩
 ·exact .inl ⟨rfl,List.length_eq_zero_iff.1 h0⟩
 ·refine .inr ⟨q,0,cap,rfl,(Array.getElem?_eq_some_iff.1 hh).1,⟨hc1,hc2⟩,fun i x hx=>?_⟩;have hi:=(List.getElem?_eq_some_iff.1 hx).1;have hm:(zs.map fun x=>((Value.int .i64 (kf x)),(Value.pointer (some (vf x)))))[i]? =some ((Value.int .i64 (kf x)),(Value.pointer (some (vf x)))):=by simp [hx]
  have a0:=rowCs_at _ i 0 _ hm (by decide);have a1:=rowCs_at _ i 1 _ hm (by decide);have c0:=h'.cellAt (i*2) (by omega);have c1:=h'.cellAt (i*2+1) (by omega);exact⟨by rw [Nat.zero_add,c0];exact a0,by rw [Nat.zero_add,c1];exact a1⟩
set_option maxRecDepth 100000 in
set_option maxHeartbeats 2000000 in
theorem all1nI_in{α:Type}(F:Fence)(n:Nat)(h7:F.fn 145)(hro:F.round=none)(l tb g:Nat)(J:List α->World->Prop)(W:World)
 (kb:W.cell? ⟨tb,0,none⟩=some (.pointer (some ⟨g,0,none⟩))) (kg:W.cell? ⟨g,1,none⟩=some (.slice none 0 0)) (h0:J [] W):
 CallsIn F n Tryz.prog 145 #[.func (.yield l) #[] #[],.pointer (some ⟨tb,0,none⟩)] W fun e W'=>(∃ v,e=.returned v)∧J [] W':=by
 refine callsIn_of_wp Tryz.func145 rfl h7 ?_ hro;simp only [Tryz.ntmps145,List.size_toArray,List.length_cons,List.length_nil,Nat.reduceAdd,Nat.reduceSub,Array.replicate_succ,Array.replicate_zero,List.push_toArray,List.append_toArray,List.nil_append,List.cons_append]
 gi_wp2
 gi_loopw [10] (fun i wr=>i=.int .i64 0∧J [] wr) (fun _ _=>0)
 case atStart=>exact⟨rfl,h0⟩
 case round=>
  obtain⟨rfl,hJs⟩:=hrel
  gi_wp2
  go_end0
  exact⟨⟨_,rfl⟩,hJs⟩
set_option maxRecDepth 100000 in
set_option maxHeartbeats 2000000 in
theorem allI_in(F:Fence)(n:Nat)(h6:F.fn 118)(hro:F.round=none)(p:Option Addr)(w:World):
 CallsIn F n Tryz.prog 118 #[.pointer p] w fun e w'=>e=.returned (.func (.func 145) #[] #[.pointer (some ⟨w.heap.size,0,none⟩)])∧w'=w.alloc (.cells #[.pointer p] 156):=by
 refine callsIn_of_wp Tryz.func118 rfl h6 ?_ hro;simp only [Tryz.ntmps118,List.size_toArray,List.length_cons,List.length_nil,Nat.reduceAdd,Nat.reduceSub,Array.replicate_succ,Array.replicate_zero,List.push_toArray,List.append_toArray,List.nil_append,List.cons_append]
 gi_wp2
 go_ret;exact⟨rfl,rfl⟩
theorem allStopsI{α:Type}(kf:α->Int)(vf:α->Addr)(F:Fence)(n:Nat)(h7:F.fn 145)(hro:F.round=none)(hn:1<=n)(tb g n₀:Nat)(sv:Value)(zs:List α)(hl:zs.length<=1000000)(w:World)(htb:tb<w.heap.size)(hg:g<n₀)(hn₀:n₀<=w.heap.size)
 (kb:w.cell? ⟨tb,0,none⟩=some (.pointer (some ⟨g,0,none⟩))) (kg:w.cell? ⟨g,1,none⟩=some sv) (hR:RwsI kf vf n₀ w sv zs):
 SeqStopsK F n Tryz.prog 145 #[.pointer (some ⟨tb,0,none⟩)] (fun x:α=>#[(Value.int .i64 (kf x)),(Value.pointer (some (vf x)))]) (Below n₀) (fun ys=>ys=zs) (fun pre=>pre<+:zs) zs.length w:=fun l J Jx W hW hJ _ hY h0=>by
 have kb':=(hW.cell (p:=⟨tb,0,none⟩) htb).trans kb;have kg':=(hW.cell (p:=⟨g,1,none⟩) (Nat.lt_of_lt_of_le hg hn₀)).trans kg
 rcases hR.below (hW.mono hn₀) with⟨rfl,rfl⟩|⟨b,off,cap,rfl,hb,hcp,hcs⟩
 ·exact(all1nI_in F n h7 hro l tb g J W kb' kg' h0).mono fun e W' ⟨he,hj⟩=>⟨he,.inl ⟨_,rfl,hj⟩⟩
 ·exact all1I_in kf vf F n h7 hro hn l tb g n₀ b off cap (.pointer none) zs hl hcp hb J Jx (fun s W1 W2 hs hgr=>hJ s W1 W2 none hs hgr (fun r e=>by cases e)) hY W kb' kg' hcs (Nat.le_trans hn₀ hW.size) h0
end Go.Proofs.YtgilkakllagbnaaGreat
namespace Go.Proofs.YtgilkakllagbnaaGreat
open Go.RowKit
set_option linter.unusedVariables false
theorem eqR_of{a b:Rr}:eqR a b=(a.own.toList==b.own.toList&&a.ty==b.ty&&a.cl==b.cl&&a.tt==b.tt&&a.da.toList==b.da.toList):=by
 rw [eqR,ByteArray.toList_eq,ByteArray.toList_eq,ByteArray.toList_eq,ByteArray.toList_eq]
end Go.Proofs.YtgilkakllagbnaaGreat
namespace Go.Proofs.YtgilkakllagbnaaGreat
open Go Go.Maps Go.MapKept Go.ChangeMaps
set_option linter.unusedVariables false
section
variable {w:World}{r:Nat}{L:List (Rr×Nat)}{t e:TypeId}
end
end Go.Proofs.YtgilkakllagbnaaGreat
namespace Go.Proofs.YtgilkakllagbnaaGreat
open Go.RowKit
set_option linter.unusedVariables false
theorem ZOwn.zrow{w:World}{B:Nat}{v:Value}{ps:List Zp}(h:ZOwn w B v ps):ZRow w v ps:=
 ⟨CRow.of_owns h.outer,fun p hp=>by obtain⟨i,hi⟩:=List.getElem?_of_mem hp;exact Nm.SRow.of_owns (h.inner i p hi)⟩
set_option maxRecDepth 100000 in
set_option maxHeartbeats 3200000 in
theorem specZoneRecords_any(o:ByteArray)(v:Value)(ps:List Zp)(w:World)(h:ZRow w v ps)(hs:zsum ps<=1048576)(hl:ps.length<=1048576):
 Calls Tryz.prog 47 #[.agg #[.string o,v]] w fun e w'=>∃ u,e=.returned u∧w'.ownsRow w.heap.size 56 5 u (zoneRecs ps).length (rvVs (zoneRecs ps))∧Below w.heap.size w w':=by
 obtain⟨RS,hRS⟩:∃ R,R=zoneRecs ps:=⟨_,rfl⟩;rw [<- hRS];unfold zoneRecs at hRS;have hB0:=(Below.refl w.heap.size w).alloc (Nat.le_refl _) (.cells #[.string o,v] 33);have hbx:=blk_new w #[.string o,v] 33;have hrow:=h.below hB0;have hrowW:=h;have hsz0:(w.alloc (.cells #[.string o,v] 33)).heap.size=w.heap.size+1:=by simp
 have o0:=World.ownsRow_lit (base:=(w.alloc (.cells #[.string o,v] 33)).heap.size) (e:=56) (size:=5) (w.alloc (.cells #[.string o,v] 33)) #[] 0 (Nat.le_refl _) (by decide) rfl;obtain⟨⟨_,a,cap,rfl,hcap,hmx,_⟩,_⟩:=h;unfold maxLen at hmx
 by_cases hbig:500<ps.length
 ·have hbig':(500:Int)<(ps.length:Int):=by omega
  obtain rfl:RS=[]:=by rw [hRS,if_pos (.inl hbig)]
  clear hRS hrow;go_enter Tryz.func47,Tryz.ntmps47;go_wp2;go_ret;refine⟨_,rfl,?_,hB0.alloc hB0.size _⟩;rw [hsz0] at o0;exact own_base o0 (by omega)
 ·have hbig':(ps.length:Int)<=500:=by omega
  have hcnt:=fun W (hW:Below (w.alloc (.cells #[.string o,.slice a ps.length cap] 33)).heap.size (w.alloc (.cells #[.string o,.slice a ps.length cap] 33)) W)=>l06Count_any o (.slice a ps.length cap) ps W (hrow.below hW) hs hl
  by_cases hd:500<dsum ps
  ·have hd':(500:Int)<(dsum ps:Int):=by omega
   obtain rfl:RS=[]:=by rw [hRS,if_pos (.inr hd)]
   clear hRS hrow;generalize dsum ps=D at*;go_enter Tryz.func47,Tryz.ntmps47;go_wp2_with (go_at_call 45;refine(hcnt _ ((Below.refl _ _).alloc (Nat.le_refl _) _)).mono ?_;rintro e w1 ⟨rfl,hb1⟩)
   go_ret;refine⟨_,rfl,?_,Nm.below_two (hB0.alloc hB0.size _) hb1⟩;have o1:=own_below o0 hb1;rw [hsz0] at o1;exact own_base o1 (by omega)
  ·have hd':(dsum ps:Int)<=500:=by omega
   have hRS2:RS=recsAll ps:=by rw [hRS,if_neg (by omega)]
   clear hRS;have hdd:∀ k,dsum (ps.take k)<=500:=fun k=>by have:=dsum_take_le ps k;omega
   have hrl:=fun k=>recsAll_len (ps.take k)
   have hstep:=fun(k:Nat) (x:Zp) (h:ps[k]? =some x)=>recsAll_step h
   have hdst:=fun(k:Nat) (x:Zp) (h:ps[k]? =some x)=>dsum_step ps k x h
   have hrun:=hcnt;generalize hDP:dsum ps=D at hrun hd';go_enter Tryz.func47,Tryz.ntmps47;go_wp2_with (go_at_call 45;refine(hrun _ ((Below.refl _ _).alloc (Nat.le_refl _) _)).mono ?_;rintro e w1 ⟨rfl,hb1⟩)
   have hbx1:=blk_below (blk_alloc hbx (.cells #[] 56)) hb1;have hB1:=Nm.below_two (hB0.alloc hB0.size (.cells #[] 56)) hb1;have o1:=own_below o0 hb1;have hb01:Below (w.alloc (.cells #[.string o,.slice a ps.length cap] 33)).heap.size (w.alloc (.cells #[.string o,.slice a ps.length cap] 33)) w1:=Nm.below_two ((Below.refl _ _).alloc (Nat.le_refl _) _) hb1;have hrow1:=hrow.below hb01;rw [hsz0] at o1;clear hcnt hrun hb1 hb01 o0 hrow hbx hB0 hsz0;obtain⟨wb,hwb⟩:∃ wb,wb=w1:=⟨w1,rfl⟩;have hw1b:w.heap.size+1<=w1.heap.size:=blk_lt hbx1
   go_loopw [3,4] (fun vo vi wr=>∃ k:Nat,k<=ps.length∧vi=.int .i64 k∧wr.ownsRow (w.heap.size+1) 56 5 vo (recsAll (ps.take k)).length (rvVs (recsAll (ps.take k)))∧Below (w.heap.size+1) w1 wr) (fun _ vi _=>ps.length-(intOf vi).toNat)
   case atStart=>exact⟨0,Nat.zero_le _,rfl,o1,Below.refl _ _⟩
   case round=>
    obtain⟨k,hk,rfl,oO,hbel⟩:=hrel;clear o1;have hW:Below w.heap.size w wr:=hB1.trans (hbel.mono (by omega));have hbr:Blk wr w.heap.size #[.string o,.slice a ps.length cap] 33:=(hbel.block _ (by omega)).trans hbx1;have q1:wr.cell? ⟨w.heap.size,1,none⟩=some (.slice a ps.length cap):=(blk_cell hbr 1).trans rfl;have hwsz:w.heap.size+1<=wr.heap.size:=blk_lt hbr
    by_cases hlt:k<ps.length
    ·obtain⟨x,hxk⟩:∃ x,ps[k]? =some x:=⟨_,List.getElem?_eq_getElem hlt⟩;obtain⟨⟨_,a',cap',hv,_,_,hc⟩,hsr⟩:=hrowW.below hW;simp only [Value.slice.injEq] at hv;obtain⟨rfl,_,rfl⟩:=hv;obtain⟨b,off,rfl,hcell⟩:=hc (by omega);obtain⟨c0,c1,c2,c3⟩:=zp_cells hcell hxk;have hmem:=List.mem_of_getElem? hxk;have hxl:x.1.da.length<=1048576:=by have:=zsum_mem ps x hmem;unfold zs1 at this;omega
     have hone:=l06SetRecords_any x.1 x.2 wr (hsr x hmem) hxl;have hsp:=hstep k x hxk;have hld:=hdst k x hxk;have hd1:=hdd (k+1);have hl0:=hrl k;have hl1:=recsOf_len x.1;have hjn:=fun U W (h1:W.ownsRow (w.heap.size+1) 56 5 _ (recsAll (ps.take k)).length (rvVs (recsAll (ps.take k)))) (h2:W.ownsRow wr.heap.size 56 5 U (recsOf x.1).length (rvVs (recsOf x.1))) hB=>l06Join_any _ U (recsAll (ps.take k)) (recsOf x.1) (w.heap.size+1) wr.heap.size W h1 h2 hB (fun g hg=>(oO.lt g hg).2) (by omega)
     rw [<- hsp] at hjn;have i1:(0:Int)<=(k:Int):=by omega
     have i2:(k:Int)<(ps.length:Int):=by omega
     clear hcell hc hsr hrowW hstep hdst hrl hdd hsp hld hl0 hl1 hmem hxk;generalize recsAll (ps.take k)=R0 at*;generalize hR1:recsAll (ps.take (k+1))=R1 at*;generalize recsOf x.1=R2 at*;obtain⟨⟨o1,ty,tt,da⟩,dv⟩:=x;simp only at c0 c1 c2 c3 hone
     obtain⟨oa,oc,hov⟩:=own_sl oO;subst hov;go_wp2_with (first|(go_at_call 78;refine hone.mono ?_;rintro e w2 ⟨u,rfl,hu,hb2⟩;have oO2:=own_below oO hb2)|(go_at_call 50;refine(hjn _ _ oO2 hu (by have:=hb2.size;omega)).mono ?_;rintro e w3 ⟨u3,rfl,hu3,hb3⟩))
     go_roundw
     case rel=>exact⟨k+1,by omega,by go_num,by rw [hR1];exact hu3,(hbel.trans (hb2.mono (by omega))).trans hb3⟩
     case measure=>simp [intOf];omega
    ·have hkl:k=ps.length:=by omega
     subst hkl;have i2:(ps.length:Int)<=(ps.length:Int):=by omega
     rw [List.take_length,<- hRS2] at oO;clear hrowW hstep hdst hrl hdd hRS2;go_wp2;go_ret;exact⟨_,rfl,own_base oO (by omega),hW⟩
end Go.Proofs.YtgilkakllagbnaaGreat
