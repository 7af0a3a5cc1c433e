import Derived.Test.YtieobflhfcgliaaGreatJOnT
import Derived.Test.YtieobflhfcgliaaGreatJStA
import Derived.BigQuiet
import Derived.RegionTactic
import Derived.Test.YtieobflhfcgliaaGreatBzD
import Derived.Test.YtieobflhfcgliaaGreatZbZ
namespace Go.Proofs.YtieobflhfcgliaaGreat
open Go.RowKit
set_option linter.unusedVariables false
set_option maxRecDepth 100000 in
set_option maxHeartbeats 3200000 in
theorem deleteRR_end(B g N i:Nat)(xs:List Rr)(w:World)(hx:xs.length=N)(hown:w.ownsRow B 27 5 (.slice (some ⟨g,0,none⟩) N N) N (rvVs xs))(hiN:i<N)(hn:N<=1048576):
 Calls Tryz.prog 92 #[.slice (some ⟨g,0,none⟩) N N,.int .i64 (i:Int),.int .i64 (N:Int)] w fun e w'=>e=.returned (.slice (some ⟨g,0,none⟩) i N)∧w'.ownsRow B 27 5 (.slice (some ⟨g,0,none⟩) i N) (xs.take i).length (rvVs (xs.take i))∧Only g w w':=by
 obtain⟨i0,hi,hz0,hz1,hz2⟩:=info_parts Tryz.infoRRc
 rcases hown.2 with⟨e0,_⟩|⟨g',cap',cur,e0,hBg,hh,hnc,hcm,hcs,htk⟩
 ·cases e0
 simp only [Value.slice.injEq,Option.some.injEq,Addr.mk.injEq,true_and,and_true] at e0;obtain⟨rfl,rfl⟩:=e0;have hblk:Blk w g cur 27:=hh
 have hrv:∀ t:Nat,t<N*5->cur[t]? =(rvVs xs)[t]? :=by
  intro t ht;rw [<- htk,List.getElem?_take_of_lt ht];simp
 obtain⟨vs,hvl,hclr⟩:=run_clear_rr w.drew g (i*5) (N-i) (N-i) (by omega) (fun t ht=>by show(w.cell? _).isSome=true;rw [blk_cell hblk];rw [Array.getElem?_eq_getElem (by omega)];rfl) (fun t _=>blk_frozen (blk_below hblk (Below.refl _ _).drew) _);obtain⟨cs2,kb2,sz2,out2,_⟩:=blk_cells vs (i*5) w.drew cur (blk_below hblk (Below.refl _ _).drew) (by rw [hvl];omega);have O2:=only_cells vs (i*5) w w.drew (Only.refl g w).drew
 have HO:Hid ((w.drew.setCells g (i*5) vs).ownsRow B 27 5 (.slice (some ⟨g,0,none⟩) i N) (xs.take i).length (rvVs (xs.take i))):=by
  have hlen:(xs.take i).length=i:=by rw [List.length_take];omega
  show World.ownsRow _ _ _ _ _ _ _
  rw [hlen];refine⟨by rw [rvVs_len,hlen],.inr ⟨g,N,cs2,rfl,hBg,kb2,by omega,hcm,by omega,?_⟩⟩;apply List.ext_getElem?;intro t
  by_cases ht:t<i*5
  ·rw [List.getElem?_take_of_lt ht];rw [show cs2.toList[t]? =cs2[t]? by simp,out2 t (.inl ht),hrv t (by omega)];have e2:rvVs xs=rvVs (xs.take i)++rvVs (xs.drop i):=by rw [<- rvVs_app,List.take_append_drop]
   rw [e2,List.getElem?_append_left (by rw [rvVs_len,hlen];omega)]
  ·rw [List.getElem?_eq_none (by simp;omega),List.getElem?_eq_none (by rw [rvVs_len,hlen];omega)]
 have HC:=Nm.hide hclr;have HO2:=Nm.hide O2;have n1:(0:Int)<=(i:Int):=by omega
 have n3:(i:Int)<=(N:Int):=by omega
 have n6:((i:Int)==(N:Int))=false:=by simp;omega
 have n7:¬N=i:=by omega
 have n8:(0:Int)<=(N:Int):=by omega
 have n9:¬N=0:=by omega
 have HX:=Nm.hide hx;clear hrv hclr O2 kb2 sz2 out2 hvl htk hcs hblk hh hown hnc hx;go_enter Tryz.func92,Tryz.ntmps92;go_wp2;refine wp_region_S (S:=fun _=>True) (Ls:=[]) (by kernel_rfl) trivial (fun hH=>?_);refine wpAnyS_take (i:=0) (v:=?_) rfl (by kernel_rfl) (by kernel_rfl) (by kernel_rfl) (by kernel_rfl) (fun _ _ _ h=>h) (Or.inl ⟨by rfl,?_⟩) trivial ?_;rotate_left 1
 ·(intro w hSw;go_simp;try (with_reducible rfl))
 refine wpAnyS_take (i:=1) (v:=?_) rfl (by kernel_rfl) (by kernel_rfl) (by kernel_rfl) (by kernel_rfl) (fun _ _ _ h=>h) (Or.inl ⟨by rfl,?_⟩) trivial ?_;rotate_left 1
 ·(intro w hSw;go_simp;try (with_reducible rfl))
 refine wpAnyS_take (i:=2) (v:=?_) rfl (by kernel_rfl) (by kernel_rfl) (by kernel_rfl) (by kernel_rfl) (fun _ _ _ h=>h) (Or.inl ⟨by rfl,?_⟩) trivial ?_;rotate_left 1
 ·(intro w hSw;go_simp;try (with_reducible rfl))
 refine wpAnyS_take (i:=3) (v:=?_) rfl (by kernel_rfl) (by kernel_rfl) (by kernel_rfl) (by kernel_rfl) (fun _ _ _ h=>h) (Or.inl ⟨by rfl,?_⟩) trivial ?_;rotate_left 1
 ·(intro w hSw;go_simp;try (with_reducible rfl))
 refine wpAnyS_take (i:=4) (v:=?_) rfl (by kernel_rfl) (by kernel_rfl) (by kernel_rfl) (by kernel_rfl) (fun _ _ _ h=>h) (Or.inl ⟨by rfl,?_⟩) trivial ?_;rotate_left 1
 ·(intro w hSw;go_simp;try (with_reducible rfl))
 refine wpAnyS_take (i:=5) (v:=?_) rfl (by kernel_rfl) (by kernel_rfl) (by kernel_rfl) (by kernel_rfl) (fun _ _ _ h=>h) (Or.inl ⟨by rfl,?_⟩) trivial ?_;rotate_left 1
 ·(intro w hSw;go_simp;try (with_reducible rfl))
 refine wpAnyS_one (i:=6) (by kernel_rfl) rfl (fun K hK'=>?_);refine step_append_room rfl (.tmp 22) (.tmp 25) 28 rfl 27 i0 5 Tryz.underlying28 hi hz1 g 0 i N rfl ⟨g,0,none⟩ 0 0 [] (by rfl) rfl (fun t u ht=>by simp at ht) (fun u hu=>by simp at hu) (by omega) (fun t ht=>by simp at ht) ?_;refine hK'.out _ _ trivial (fun hH=>?_);clear hK' K;refine wpAnyS_take (i:=7) (v:=?_) rfl (by kernel_rfl) (by kernel_rfl) (by kernel_rfl) (by kernel_rfl) (fun _ _ _ h=>h) (Or.inl ⟨by rfl,?_⟩) trivial ?_;rotate_left 1
 ·(intro w hSw;go_simp;try (with_reducible rfl))
 refine wpAnyS_done (by kernel_rfl) ?_;clear hH;have e1:∀ o,w.drew.setCells g o []=w.drew:=fun o=>rfl
 rw [e1];go_simp;clear e1;go_upto_region 6 with fail
 go_wp2_with (refine wpList_clear_ran rfl (.tmp 31) 28 rfl _ rfl (HC.out _) ?_)
 go_ret;exact⟨rfl,HO.out,HO2.out⟩
theorem str_ne{a b:ByteArray}(h:a≠b):(a.toList != b.toList)=true:=by
 rw [bne_iff_ne,ByteArray.toList_eq,ByteArray.toList_eq];exact fun e=>h (Nm.ba_ext e)
theorem str_eq_no{a b:ByteArray}(h:a≠b):(a.toList==b.toList)=false:=by
 have:=str_ne h;rw [bne] at this;simpa using this
set_option maxRecDepth 100000 in
set_option maxHeartbeats 800000 in
theorem equalStr_any(v u:Value)(xs ys:List ByteArray)(w:World)(h:Nm.SRow w v xs)(h':Nm.SRow w u ys):
 Calls Tryz.prog 123 #[v,u] w fun e w'=>e=.returned (.bool (decide (xs=ys)))∧Below w.heap.size w w':=by
 obtain⟨a,cap,rfl,hcap,hmx,_,hc⟩:=h;obtain⟨a',cap',rfl,hcap',hmx',_,hc'⟩:=h';unfold maxLen at hmx hmx'
 by_cases hl:xs.length=ys.length
 ·have nl:((xs.length:Int) != (ys.length:Int))=false:=by rw [hl];simp
  have HL:=Nm.hide hl;clear hl;go_enter Tryz.func123,Tryz.ntmps123;go_wp2
  go_loopw [13] (fun i wr=>∃ k:Nat,k<=xs.length∧i=.int .i64 k∧xs.take k=ys.take k∧Below w.heap.size w wr) (fun i _=>xs.length-(intOf i).toNat)
  case atStart=>exact⟨0,Nat.zero_le _,rfl,rfl,Below.refl _ _⟩
  case round=>
   obtain⟨k,hk,rfl,heq,hbel⟩:=hrel;have HR:=Nm.hide (And.intro heq hbel)
   by_cases hlt:k<xs.length
   ·obtain⟨x,hx⟩:∃ x,xs[k]? =some x:=⟨_,List.getElem?_eq_getElem hlt⟩;obtain⟨y,hy⟩:∃ y,ys[k]? =some y:=⟨_,List.getElem?_eq_getElem (by have:=HL.out;omega)⟩;obtain⟨b,off,rfl,hcell⟩:=hc (List.ne_nil_of_mem (List.mem_of_getElem? hx));obtain⟨b',off',rfl,hcell'⟩:=hc' (List.ne_nil_of_mem (List.mem_of_getElem? hy));have c1:=hcell k x hx;have c2:=hcell' k y hy;have d1:=(hbel.cell (World.block_lt_of_cell? w _ c1)).trans c1;have d2:=(hbel.cell (World.block_lt_of_cell? w _ c2)).trans c2;have i1:(0:Int)<=(k:Int):=by omega
    have i2:(k:Int)<(xs.length:Int):=by omega
    have i3:(k:Int)<(ys.length:Int):=by have:=HL.out;omega
    have HX:=Nm.hide (And.intro hx hy);clear hc hc' hcell hcell' c1 c2 hx hy heq hbel
    by_cases hxy:x=y
    ·subst hxy;have e1:(x.toList != x.toList)=false:=by simp
     go_wp2;go_quiet (fail)
     go_wp2;go_roundw
     case rel=>
      obtain⟨hk1,ex⟩:=List.getElem?_eq_some_iff.1 HX.out.1;obtain⟨hk2,ey⟩:=List.getElem?_eq_some_iff.1 HX.out.2;refine⟨k+1,by omega,by go_num,by rw [List.take_succ_eq_append_getElem hk1,List.take_succ_eq_append_getElem hk2,ex,ey,HR.out.1],Go.below_drewN HR.out.2 _⟩
     case measure=>simp [intOf];omega
    ·have e1:=str_eq_no hxy;have HXY:=Nm.hide hxy;clear hxy;go_wp2;go_quiet (fail)
     go_wp2;go_ret;refine⟨?_,Go.below_drewN HR.out.2 _⟩
     rw [decide_eq_false (fun e=>HXY.out (by
      have h1:=HX.out.1;rw [e,HX.out.2] at h1
      exact(Option.some.inj h1).symm))]
     rfl
   ·have hke:k=xs.length:=by omega
    subst hke;clear hc hc' heq hbel;go_wp2;go_ret;have h1:=HR.out.1;rw [List.take_length,HL.out,List.take_length] at h1;rw [decide_eq_true h1];exact⟨rfl,HR.out.2⟩
 ·have nl:((xs.length:Int) != (ys.length:Int))=true:=by rw [bne_iff_ne];omega
  have HL:=Nm.hide hl;clear hl hc hc';go_enter Tryz.func123,Tryz.ntmps123;go_wp2;go_ret;rw [decide_eq_false (fun e=>HL.out (by rw [e]))];exact⟨rfl,Below.refl _ _⟩
set_option maxRecDepth 100000 in
set_option maxHeartbeats 1600000 in
theorem setSame_any(s t:Sz)(v u:Value)(w:World)(h:Nm.SRow w v s.da)(h':Nm.SRow w u t.da):
 Calls Tryz.prog 90 #[.agg #[.string s.own,.int .i64 s.ty,.int .i64 s.tt,v],.agg #[.string t.own,.int .i64 t.ty,.int .i64 t.tt,u]] w fun e w'=>e=.returned (.bool (eqSz s t))∧Below w.heap.size w w':=by
 have hB:=((Below.refl w.heap.size w).alloc (Nat.le_refl _) (.cells #[.string s.own,.int .i64 s.ty,.int .i64 s.tt,v] 75)).alloc (by simp) (.cells #[.string t.own,.int .i64 t.ty,.int .i64 t.tt,u] 75);have he:=equalStr_any v u s.da t.da _ (h.below hB) (h'.below hB);obtain⟨a,cap,rfl,_⟩:=h;obtain⟨a',cap',rfl,_⟩:=h';obtain⟨so,st,stt,sd⟩:=s;obtain⟨to_,tt,ttt,td⟩:=t;simp only [eqSz] at*;generalize decide (sd=td)=DD at*
 by_cases h1:so=to_
 ·subst h1;have e1:(so.toList==so.toList)=true:=by simp
  by_cases h2:st=tt
  ·subst h2;have e2:(st==st)=true:=by simp
   by_cases h3:stt=ttt
   ·subst h3;have e3:(stt==stt)=true:=by simp
    go_enter Tryz.func90,Tryz.ntmps90;go_wp2_with (go_at_call 123;refine he.mono ?_;rintro e w1 ⟨rfl,b1⟩)
    go_ret;exact⟨by simp,Nm.below_two hB b1⟩
   ·have e3:(stt==ttt)=false:=by simpa using h3
    clear he;go_enter Tryz.func90,Tryz.ntmps90;go_wp2;go_ret;exact⟨by simp [h3],hB⟩
  ·have e2:(st==tt)=false:=by simpa using h2
   clear he;go_enter Tryz.func90,Tryz.ntmps90;go_wp2;go_ret;exact⟨by simp [h2],hB⟩
 ·have e1:=str_eq_no h1;clear he;go_enter Tryz.func90,Tryz.ntmps90;go_wp2;go_ret;exact⟨by simp [h1],hB⟩
set_option maxRecDepth 100000 in
set_option maxHeartbeats 1600000 in
theorem equalSets_any(v u:Value)(qs rs:List Zp)(w:World)(h:ZRow w v qs)(h':ZRow w u rs):
 Calls Tryz.prog 88 #[v,u,.func (.func 90) #[] #[]] w fun e w'=>e=.returned (.bool (eqZs (qs.map (·.1)) (rs.map (·.1))))∧Below w.heap.size w w':=by
 obtain⟨⟨_,a,cap,rfl,hcap,hmx,hc⟩,hd⟩:=h;obtain⟨⟨_,a',cap',rfl,hcap',hmx',hc'⟩,hd'⟩:=h';unfold maxLen at hmx hmx'
 by_cases hl:qs.length=rs.length
 ·have nl:((qs.length:Int) != (rs.length:Int))=false:=by rw [hl];simp
  have HL:=Nm.hide hl;clear hl;go_enter Tryz.func88,Tryz.ntmps88;go_wp2
  go_loopw [17] (fun i wr=>∃ k:Nat,k<=qs.length∧i=.int .i64 k∧(∀ (j:Nat) (q r:Zp),j<k->qs[j]? =some q->rs[j]? =some r->q.1=r.1)∧Below w.heap.size w wr) (fun i _=>qs.length-(intOf i).toNat)
  case atStart=>exact⟨0,Nat.zero_le _,rfl,fun j _ _ hj=>absurd hj (Nat.not_lt_zero _),Below.refl _ _⟩
  case round=>
   obtain⟨k,hk,rfl,heq,hbel⟩:=hrel;have HR:=Nm.hide (And.intro heq hbel)
   by_cases hlt:k<qs.length
   ·obtain⟨q,hq⟩:∃ q,qs[k]? =some q:=⟨_,List.getElem?_eq_getElem hlt⟩;obtain⟨r,hr⟩:∃ r,rs[k]? =some r:=⟨_,List.getElem?_eq_getElem (by have:=HL.out;omega)⟩;obtain⟨b,off,rfl,hcell⟩:=hc (by omega);obtain⟨b',off',rfl,hcell'⟩:=hc' (by have:=HL.out;omega);have put:∀ {p:Addr} {z:Value},w.cell? p=some z->wr.cell? p=some z:=fun h=>(hbel.cell (World.block_lt_of_cell? w _ h)).trans h
    obtain⟨c0,c1,c2,c3⟩:=zp_cells hcell hq;obtain⟨d0,d1,d2,d3⟩:=zp_cells hcell' hr;have C0:=put c0;have C1:=put c1;have C2:=put c2;have C3:=put c3;have B1:=(Below.refl wr.heap.size wr).alloc (Nat.le_refl _) (.cells #[.string q.1.own,.int .i64 q.1.ty,.int .i64 q.1.tt,q.2] 75);have D0:=(B1.cell (p:=⟨b',off'+k*4,none⟩) (World.block_lt_of_cell? wr _ (put d0))).trans (put d0);have D1:=(B1.cell (p:=⟨b',off'+k*4+1,none⟩) (World.block_lt_of_cell? wr _ (put d1))).trans (put d1);have D2:=(B1.cell (p:=⟨b',off'+k*4+2,none⟩) (World.block_lt_of_cell? wr _ (put d2))).trans (put d2);have D3:=(B1.cell (p:=⟨b',off'+k*4+3,none⟩) (World.block_lt_of_cell? wr _ (put d3))).trans (put d3);have B2:=B1.alloc B1.size (.cells #[.string r.1.own,.int .i64 r.1.ty,.int .i64 r.1.tt,r.2] 75);have hss:=setSame_any q.1 r.1 q.2 r.2 _ (((hd q (List.mem_of_getElem? hq)).below hbel).below B2) (((hd' r (List.mem_of_getElem? hr)).below hbel).below B2);obtain⟨qa,qc,eq,_⟩:=hd q (List.mem_of_getElem? hq);obtain⟨ra,rc,er,_⟩:=hd' r (List.mem_of_getElem? hr);have HX:=Nm.hide (And.intro hq hr);have i1:(0:Int)<=(k:Int):=by omega
    have i2:(k:Int)<(qs.length:Int):=by omega
    have i3:(k:Int)<(rs.length:Int):=by have:=HL.out;omega
    have B2':=Nm.below_two hbel B2;rw [eq] at C3 hss D0 D1 D2 D3 B2';rw [er] at D3 hss B2';clear hc hc' hcell hcell' hq hr heq hbel put c0 c1 c2 c3 d0 d1 d2 d3 hd hd' B1 B2
    cases hE:eqSz q.1 r.1 with
    |true=>
     rw [hE] at hss;have HE:=Nm.hide hE;clear hE;go_wp2_with (go_at_call 90;refine hss.mono ?_;rintro e w2 ⟨rfl,b2⟩)
     go_roundw
     case rel=>
      refine⟨k+1,by omega,by go_num,fun j x y hj hx hy=>?_,Nm.below_two B2' b2⟩
      rcases Nat.lt_succ_iff_lt_or_eq.1 hj with h1|rfl
      ·exact HR.out.1 j x y h1 hx hy
      ·rw [HX.out.1] at hx;rw [HX.out.2] at hy;cases hx
       cases hy
       exact eqSz_iff.1 HE.out
     case measure=>simp [intOf];omega
    |false=>
     rw [hE] at hss;have HE:=Nm.hide hE;clear hE;go_wp2_with (go_at_call 90;refine hss.mono ?_;rintro e w2 ⟨rfl,b2⟩)
     go_ret;rw [eqZs_not (j:=k) (a:=q.1) (b:=r.1) (by simp [HX.out.1]) (by simp [HX.out.2]) HE.out];exact⟨rfl,Nm.below_two B2' b2⟩
   ·have hke:k=qs.length:=by omega
    subst hke;clear hc hc' heq hbel hd hd';go_wp2;go_ret
    rw [eqZs_all (by simp [HL.out]) (fun j x y hx hy=>by
     simp only [List.getElem?_map,Option.map_eq_some_iff] at hx hy;obtain⟨q,hq,rfl⟩:=hx;obtain⟨r,hr,rfl⟩:=hy
     exact HR.out.1 j q r (List.getElem?_eq_some_iff.1 hq).1 hq hr)]
    exact⟨rfl,HR.out.2⟩
 ·have nl:((qs.length:Int) != (rs.length:Int))=true:=by rw [bne_iff_ne];omega
  have HL:=Nm.hide hl;clear hl hc hc' hd hd';go_enter Tryz.func88,Tryz.ntmps88;go_wp2;go_ret;rw [eqZs_len (by simpa using HL.out)];exact⟨rfl,Below.refl _ _⟩
theorem ibz_back{W:World}{b:Nat}{x0 x1:Value}{c i:Int}{R:Ending->World->Prop}{a:Act}(h:Blk W b #[x0,x1] 35)
 (h4:a.tmps[4]? =some (.pointer (some ⟨b,0,none⟩))) (h5:a.tmps[5]? =some (.int .i64 c)) (h6:a.tmps[6]? =some (.int .i64 i)) (hd:a.defers=[])
 (hR:R (.returned (.tuple #[.agg #[x0,x1],.int .i64 c,.int .i64 i])) W):bodyPost Tryz.prog Tryz.f68 R .ret a W:=by
 refine bodyPost_ret ?_ hd hR;have r:=fun i=>blk_cell h i
 simp [results,Tryz.results68,go_sem,Result.andThen,r,h4,h5,h6]
set_option maxRecDepth 100000 in
set_option maxHeartbeats 3200000 in
theorem implBuildZone_any(v:Value)(list:List Rr)(apex:ByteArray)(w:World)(h:CRow w v list.length 5 (rvVs list))(ha:apex.size<=1000000000)(ho:∀ r∈list,r.own.size<=1000000000∧r.da.size<=2000000):
 Calls Tryz.prog 68 #[v,.string apex] w (BzPost list apex w):=by
 obtain⟨la,lc,rfl⟩:∃ la lc,v=.slice la list.length lc:=by
  obtain⟨_,a,cap,e,_⟩:=h;exact⟨a,cap,e⟩
 have hltb:0<list.length->∀ b,rowBlk (.slice la list.length lc)=some b->b<w.heap.size:=by
  intro h0 b hb;obtain⟨_,a,cap,e,h1,h2,h3⟩:=h;cases e
  obtain⟨b',off,rfl,hc⟩:=h3 h0;have hbb:b'=b:=by simpa [rowBlk] using hb
  subst hbb;have hn:0<(rvVs list).length:=by rw [rvVs_len];omega
  exact World.block_lt_of_cell? w _ (hc 0 _ (List.getElem?_eq_getElem hn))
 have kR:=blk_new w #[.string ⟨#[]⟩,.slice none 0 0] 35;have b0:=(Below.refl w.heap.size w).alloc (Nat.le_refl _) (.cells #[.string ⟨#[]⟩,.slice none 0 0] 35);have kB:=blk_new (w.alloc (.cells #[.string ⟨#[]⟩,.slice none 0 0] 35)) #[.slice la list.length lc,.string apex,.slice none 0 0,.slice none 0 0,.pointer none,.slice none 0 0] 121;have b1:=b0.alloc b0.size (.cells #[.slice la list.length lc,.string apex,.slice none 0 0,.slice none 0 0,.pointer none,.slice none 0 0] 121);have kR1:=blk_alloc kR (.cells #[.slice la list.length lc,.string apex,.slice none 0 0,.slice none 0 0,.pointer none,.slice none 0 0] 121);rw [World.size_alloc] at kB;have hbd:=build_any (w.heap.size+1) la lc list apex _ kB (h.below b1) (fun h0 e=>by have:=hltb h0 _ e;omega) (fun h0 b hb=>by have:=hltb h0 b hb;simp;omega) (by unfold maxLen;omega) ho
 have HZ:Hid (∀ th ys aa ac labv rv os kv ks B W,P3 list apex (w.heap.size+1) (.slice la list.length lc) th ys aa ac labv rv os kv ks B W->Calls Tryz.prog 89 #[.pointer (some ⟨w.heap.size+1,3,none⟩),.string apex] W fun e W'=>∃ v ps,e=.returned (.agg #[.string apex,v])∧ps.map (·.1)=bldZ list∧ZOwn W' W.heap.size v ps∧Below W.heap.size W W'):=by
  intro th ys aa ac labv rv os kv ks B W hP;have hl5:=hP.hl;have hol:=hP.st.inv.len.1;rw [List.length_map] at hol;rw [zone_eq hP.st.inv hP.good.1 hP.mix];exact zone_any (w.heap.size+1) 3 th rv os B apex W hP.st.tr (hP.st.inv.trs (by rw [List.length_map];omega)) (by omega) hP.st.lab ((blk_cell hP.kb 4).trans rfl) ha
 have HB:=Nm.hide b1;clear h hltb kR b0 b1 kB ho;unfold rsV at hbd;obtain⟨E,hE⟩:∃ E,E=bldE list apex:=⟨_,rfl⟩;rw [<- hE] at hbd;have HE:=Nm.hide hE;clear hE;obtain⟨C,I⟩:=E;simp only at hbd
 by_cases hC:C=0
 ·subst hC;go_enter Tryz.func68,Tryz.ntmps68;go_wp2_with fail
  refine hbd.mono ?_;rintro e w2 ⟨rfl,hou,hp⟩;obtain⟨th,ys,aa,ac,labv,rv,os,kv,ks,B,hP⟩:=hp trivial;have hz:=HZ.out th ys aa ac labv rv os kv ks B w2 hP;have kR2:=blk_outs kR1 hou (fun hm=>by have:=List.mem_singleton.1 hm;omega);have hw2:w.heap.size+2<=w2.heap.size:=by have:=hou.size;simp at this;omega
  have HW2:=Nm.hide hw2;have HOU:=Nm.hide hou;clear hbd hou hp hP HZ hw2 kR1
  go_wp2_with (
   go_at_call 89
   refine hz.mono ?_;rintro e w3 ⟨zv,ps,rfl,hps,hzo,b3⟩;obtain⟨za,zc,rfl⟩:=own_sl hzo.outer;have kR3:=blk_below kR2 b3;have rR3:=fun i=>blk_cell kR3 i
   have fR3:=fun i=>blk_frozen kR3 i)
  have k5:=blk_set (blk_set kR3 0 (.string apex)) 1 (.slice za ps.length zc);simp only [List.setIfInBounds_toArray,List.set_cons_zero,List.set_cons_succ] at k5;refine ibz_back k5 rfl rfl rfl rfl ⟨?_,fun _=>⟨_,ps,rfl,hps,?_⟩,fun h=>absurd (by rw [<- HE.out]) h⟩
  ·have hb:Below w.heap.size w w3:=by
    have h1:=HB.out;have h2:=HOU.out;refine⟨b3.os.trans (h2.os.trans h1.os),b3.tape.trans (h2.tape.trans h1.tape),b3.output.trans (h2.output.trans h1.output),by have:=HW2.out;have:=b3.size;omega,fun k hk=>?_⟩;have hk2:k<w2.heap.size:=by have:=HW2.out;omega
    rw [b3.block k hk2,h2.block k (by simp;omega) (fun hm=>by have:=List.mem_singleton.1 hm;omega)];exact h1.block k hk
   exact(hb.setCell (p:=⟨w.heap.size,0,none⟩) (Nat.le_refl _) (.string apex)).setCell (p:=⟨w.heap.size,1,none⟩) (Nat.le_refl _) (.slice za ps.length zc)
  ·have hw:=HW2.out;exact((hzo.far (i:=0) (y:=.string apex) (g:=w.heap.size) (by omega)).far (i:=1) (y:=.slice za ps.length zc) (g:=w.heap.size) (by omega)).base (by omega)
 ·have n0:(C != 0)=true:=by simpa using hC
  have H0:=Nm.hide hC;clear hC HZ;go_enter Tryz.func68,Tryz.ntmps68;go_wp2_with fail
  refine hbd.mono ?_;rintro e w2 ⟨rfl,hou,hp⟩;have kR2:=blk_outs kR1 hou (fun hm=>by have:=List.mem_singleton.1 hm;omega);have rR2:=fun i=>blk_cell kR2 i
  have fR2:=fun i=>blk_frozen kR2 i
  have hw2:w.heap.size+2<=w2.heap.size:=by have:=hou.size;simp at this;omega
  have HW2:=Nm.hide hw2;have HOU:=Nm.hide hou;clear hbd hou hp hw2 kR1;go_wp2;have k5:=blk_set (blk_set kR2 0 (.string ⟨#[]⟩)) 1 (.slice none 0 0);simp only [List.setIfInBounds_toArray,List.set_cons_zero,List.set_cons_succ] at k5;refine ibz_back k5 rfl rfl rfl rfl ⟨?_,fun h=>absurd (by rw [<- HE.out] at h;exact h) H0.out,fun _=>by rw [<- HE.out];rfl⟩
  have hb:Below w.heap.size w w2:=by
   have h1:=HB.out;have h2:=HOU.out;refine⟨h2.os.trans h1.os,h2.tape.trans h1.tape,h2.output.trans h1.output,by have:=HW2.out;omega,fun k hk=>?_⟩;rw [h2.block k (by simp;omega) (fun hm=>by have:=List.mem_singleton.1 hm;omega)];exact h1.block k hk
  exact(hb.setCell (p:=⟨w.heap.size,0,none⟩) (Nat.le_refl _) (.string ⟨#[]⟩)).setCell (p:=⟨w.heap.size,1,none⟩) (Nat.le_refl _) (.slice none 0 0)
end Go.Proofs.YtieobflhfcgliaaGreat
