import Derived.Test.YtmdinnjimioffaaGreatJCzM
import Derived.BigQuiet
import Derived.RegionTactic
import Derived.Test.YtmdinnjimioffaaGreatJTrE
import Derived.Test.YtmdinnjimioffaaGreatJTrP
import Derived.Test.YtmdinnjimioffaaGreatJOrdL
namespace Go.Proofs.YtmdinnjimioffaaGreat
open Go.RowKit
set_option linter.unusedVariables false
theorem str_ne{a b:ByteArray}(h:a≠b):(a.toList != b.toList)=true:=by
 rw [bne_iff_ne,ByteArray.toList_eq,ByteArray.toList_eq];exact fun e=>h (Nm.ba_ext e)
theorem str_eq_no{a b:ByteArray}(h:a≠b):(a.toList==b.toList)=false:=by
 have:=str_ne h;rw [bne] at this;simpa using this
set_option maxRecDepth 100000 in
set_option maxHeartbeats 800000 in
theorem equalStr_any(v u:Value)(xs ys:List ByteArray)(w:World)(h:Nm.SRow w v xs)(h':Nm.SRow w u ys):
 Calls Tryz.prog 103 #[v,u] w fun e w'=>e=.returned (.bool (decide (xs=ys)))∧Below w.heap.size w w':=by
 obtain⟨a,cap,rfl,hcap,hmx,_,hc⟩:=h;obtain⟨a',cap',rfl,hcap',hmx',_,hc'⟩:=h';unfold maxLen at hmx hmx'
 by_cases hl:xs.length=ys.length
 ·have nl:((xs.length:Int) != (ys.length:Int))=false:=by rw [hl];simp
  have HL:=Nm.hide hl;clear hl;go_enter Tryz.func103,Tryz.ntmps103;go_wp2
  go_loopw [13] (fun i wr=>∃ k:Nat,k<=xs.length∧i=.int .i64 k∧xs.take k=ys.take k∧Below w.heap.size w wr) (fun i _=>xs.length-(intOf i).toNat)
  case atStart=>exact⟨0,Nat.zero_le _,rfl,rfl,Below.refl _ _⟩
  case round=>
   obtain⟨k,hk,rfl,heq,hbel⟩:=hrel;have HR:=Nm.hide (And.intro heq hbel)
   by_cases hlt:k<xs.length
   ·obtain⟨x,hx⟩:∃ x,xs[k]? =some x:=⟨_,List.getElem?_eq_getElem hlt⟩;obtain⟨y,hy⟩:∃ y,ys[k]? =some y:=⟨_,List.getElem?_eq_getElem (by have:=HL.out;omega)⟩;obtain⟨b,off,rfl,hcell⟩:=hc (List.ne_nil_of_mem (List.mem_of_getElem? hx));obtain⟨b',off',rfl,hcell'⟩:=hc' (List.ne_nil_of_mem (List.mem_of_getElem? hy));have c1:=hcell k x hx;have c2:=hcell' k y hy;have d1:=(hbel.cell (World.block_lt_of_cell? w _ c1)).trans c1;have d2:=(hbel.cell (World.block_lt_of_cell? w _ c2)).trans c2;have i1:(0:Int)<=(k:Int):=by omega
    have i2:(k:Int)<(xs.length:Int):=by omega
    have i3:(k:Int)<(ys.length:Int):=by have:=HL.out;omega
    have HX:=Nm.hide (And.intro hx hy);clear hc hc' hcell hcell' c1 c2 hx hy heq hbel
    by_cases hxy:x=y
    ·subst hxy;have e1:(x.toList != x.toList)=false:=by simp
     go_wp2;go_quiet (fail)
     go_wp2;go_roundw
     case rel=>
      obtain⟨hk1,ex⟩:=List.getElem?_eq_some_iff.1 HX.out.1;obtain⟨hk2,ey⟩:=List.getElem?_eq_some_iff.1 HX.out.2;refine⟨k+1,by omega,by go_num,by rw [List.take_succ_eq_append_getElem hk1,List.take_succ_eq_append_getElem hk2,ex,ey,HR.out.1],Go.below_drewN HR.out.2 _⟩
     case measure=>simp [intOf];omega
    ·have e1:=str_eq_no hxy;have HXY:=Nm.hide hxy;clear hxy;go_wp2;go_quiet (fail)
     go_wp2;go_ret;refine⟨?_,Go.below_drewN HR.out.2 _⟩
     rw [decide_eq_false (fun e=>HXY.out (by
      have h1:=HX.out.1;rw [e,HX.out.2] at h1
      exact(Option.some.inj h1).symm))]
     rfl
   ·have hke:k=xs.length:=by omega
    subst hke;clear hc hc' heq hbel;go_wp2;go_ret;have h1:=HR.out.1;rw [List.take_length,HL.out,List.take_length] at h1;rw [decide_eq_true h1];exact⟨rfl,HR.out.2⟩
 ·have nl:((xs.length:Int) != (ys.length:Int))=true:=by rw [bne_iff_ne];omega
  have HL:=Nm.hide hl;clear hl hc hc';go_enter Tryz.func103,Tryz.ntmps103;go_wp2;go_ret;rw [decide_eq_false (fun e=>HL.out (by rw [e]))];exact⟨rfl,Below.refl _ _⟩
set_option maxRecDepth 100000 in
set_option maxHeartbeats 1600000 in
theorem setSame_any(s t:Sz)(v u:Value)(w:World)(h:Nm.SRow w v s.da)(h':Nm.SRow w u t.da):
 Calls Tryz.prog 69 #[.agg #[.string s.own,.int .i64 s.ty,.int .i64 s.tt,v],.agg #[.string t.own,.int .i64 t.ty,.int .i64 t.tt,u]] w fun e w'=>e=.returned (.bool (eqSz s t))∧Below w.heap.size w w':=by
 have hB:=((Below.refl w.heap.size w).alloc (Nat.le_refl _) (.cells #[.string s.own,.int .i64 s.ty,.int .i64 s.tt,v] 65)).alloc (by simp) (.cells #[.string t.own,.int .i64 t.ty,.int .i64 t.tt,u] 65);have he:=equalStr_any v u s.da t.da _ (h.below hB) (h'.below hB);obtain⟨a,cap,rfl,_⟩:=h;obtain⟨a',cap',rfl,_⟩:=h';obtain⟨so,st,stt,sd⟩:=s;obtain⟨to_,tt,ttt,td⟩:=t;simp only [eqSz] at*;generalize decide (sd=td)=DD at*
 by_cases h1:so=to_
 ·subst h1;have e1:(so.toList==so.toList)=true:=by simp
  by_cases h2:st=tt
  ·subst h2;have e2:(st==st)=true:=by simp
   by_cases h3:stt=ttt
   ·subst h3;have e3:(stt==stt)=true:=by simp
    go_enter Tryz.func69,Tryz.ntmps69;go_wp2_with (go_at_call 103;refine he.mono ?_;rintro e w1 ⟨rfl,b1⟩)
    go_ret;exact⟨by simp,Nm.below_two hB b1⟩
   ·have e3:(stt==ttt)=false:=by simpa using h3
    clear he;go_enter Tryz.func69,Tryz.ntmps69;go_wp2;go_ret;exact⟨by simp [h3],hB⟩
  ·have e2:(st==tt)=false:=by simpa using h2
   clear he;go_enter Tryz.func69,Tryz.ntmps69;go_wp2;go_ret;exact⟨by simp [h2],hB⟩
 ·have e1:=str_eq_no h1;clear he;go_enter Tryz.func69,Tryz.ntmps69;go_wp2;go_ret;exact⟨by simp [h1],hB⟩
set_option maxRecDepth 100000 in
set_option maxHeartbeats 1600000 in
theorem equalSets_any(v u:Value)(qs rs:List Zp)(w:World)(h:ZRow w v qs)(h':ZRow w u rs):
 Calls Tryz.prog 68 #[v,u,.func (.func 69) #[] #[]] w fun e w'=>e=.returned (.bool (eqZs (qs.map (·.1)) (rs.map (·.1))))∧Below w.heap.size w w':=by
 obtain⟨⟨_,a,cap,rfl,hcap,hmx,hc⟩,hd⟩:=h;obtain⟨⟨_,a',cap',rfl,hcap',hmx',hc'⟩,hd'⟩:=h';unfold maxLen at hmx hmx'
 by_cases hl:qs.length=rs.length
 ·have nl:((qs.length:Int) != (rs.length:Int))=false:=by rw [hl];simp
  have HL:=Nm.hide hl;clear hl;go_enter Tryz.func68,Tryz.ntmps68;go_wp2
  go_loopw [17] (fun i wr=>∃ k:Nat,k<=qs.length∧i=.int .i64 k∧(∀ (j:Nat) (q r:Zp),j<k->qs[j]? =some q->rs[j]? =some r->q.1=r.1)∧Below w.heap.size w wr) (fun i _=>qs.length-(intOf i).toNat)
  case atStart=>exact⟨0,Nat.zero_le _,rfl,fun j _ _ hj=>absurd hj (Nat.not_lt_zero _),Below.refl _ _⟩
  case round=>
   obtain⟨k,hk,rfl,heq,hbel⟩:=hrel;have HR:=Nm.hide (And.intro heq hbel)
   by_cases hlt:k<qs.length
   ·obtain⟨q,hq⟩:∃ q,qs[k]? =some q:=⟨_,List.getElem?_eq_getElem hlt⟩;obtain⟨r,hr⟩:∃ r,rs[k]? =some r:=⟨_,List.getElem?_eq_getElem (by have:=HL.out;omega)⟩;obtain⟨b,off,rfl,hcell⟩:=hc (by omega);obtain⟨b',off',rfl,hcell'⟩:=hc' (by have:=HL.out;omega);have put:∀ {p:Addr} {z:Value},w.cell? p=some z->wr.cell? p=some z:=fun h=>(hbel.cell (World.block_lt_of_cell? w _ h)).trans h
    obtain⟨c0,c1,c2,c3⟩:=zp_cells hcell hq;obtain⟨d0,d1,d2,d3⟩:=zp_cells hcell' hr;have C0:=put c0;have C1:=put c1;have C2:=put c2;have C3:=put c3;have B1:=(Below.refl wr.heap.size wr).alloc (Nat.le_refl _) (.cells #[.string q.1.own,.int .i64 q.1.ty,.int .i64 q.1.tt,q.2] 65);have D0:=(B1.cell (p:=⟨b',off'+k*4,none⟩) (World.block_lt_of_cell? wr _ (put d0))).trans (put d0);have D1:=(B1.cell (p:=⟨b',off'+k*4+1,none⟩) (World.block_lt_of_cell? wr _ (put d1))).trans (put d1);have D2:=(B1.cell (p:=⟨b',off'+k*4+2,none⟩) (World.block_lt_of_cell? wr _ (put d2))).trans (put d2);have D3:=(B1.cell (p:=⟨b',off'+k*4+3,none⟩) (World.block_lt_of_cell? wr _ (put d3))).trans (put d3);have B2:=B1.alloc B1.size (.cells #[.string r.1.own,.int .i64 r.1.ty,.int .i64 r.1.tt,r.2] 65);have hss:=setSame_any q.1 r.1 q.2 r.2 _ (((hd q (List.mem_of_getElem? hq)).below hbel).below B2) (((hd' r (List.mem_of_getElem? hr)).below hbel).below B2);obtain⟨qa,qc,eq,_⟩:=hd q (List.mem_of_getElem? hq);obtain⟨ra,rc,er,_⟩:=hd' r (List.mem_of_getElem? hr);have HX:=Nm.hide (And.intro hq hr);have i1:(0:Int)<=(k:Int):=by omega
    have i2:(k:Int)<(qs.length:Int):=by omega
    have i3:(k:Int)<(rs.length:Int):=by have:=HL.out;omega
    have B2':=Nm.below_two hbel B2;rw [eq] at C3 hss D0 D1 D2 D3 B2';rw [er] at D3 hss B2';clear hc hc' hcell hcell' hq hr heq hbel put c0 c1 c2 c3 d0 d1 d2 d3 hd hd' B1 B2
    cases hE:eqSz q.1 r.1 with
    |true=>
     rw [hE] at hss;have HE:=Nm.hide hE;clear hE;go_wp2_with (go_at_call 69;refine hss.mono ?_;rintro e w2 ⟨rfl,b2⟩)
     go_roundw
     case rel=>
      refine⟨k+1,by omega,by go_num,fun j x y hj hx hy=>?_,Nm.below_two B2' b2⟩
      rcases Nat.lt_succ_iff_lt_or_eq.1 hj with h1|rfl
      ·exact HR.out.1 j x y h1 hx hy
      ·rw [HX.out.1] at hx;rw [HX.out.2] at hy;cases hx
       cases hy
       exact eqSz_iff.1 HE.out
     case measure=>simp [intOf];omega
    |false=>
     rw [hE] at hss;have HE:=Nm.hide hE;clear hE;go_wp2_with (go_at_call 69;refine hss.mono ?_;rintro e w2 ⟨rfl,b2⟩)
     go_ret;rw [eqZs_not (j:=k) (a:=q.1) (b:=r.1) (by simp [HX.out.1]) (by simp [HX.out.2]) HE.out];exact⟨rfl,Nm.below_two B2' b2⟩
   ·have hke:k=qs.length:=by omega
    subst hke;clear hc hc' heq hbel hd hd';go_wp2;go_ret
    rw [eqZs_all (by simp [HL.out]) (fun j x y hx hy=>by
     simp only [List.getElem?_map,Option.map_eq_some_iff] at hx hy;obtain⟨q,hq,rfl⟩:=hx;obtain⟨r,hr,rfl⟩:=hy
     exact HR.out.1 j q r (List.getElem?_eq_some_iff.1 hq).1 hq hr)]
    exact⟨rfl,HR.out.2⟩
 ·have nl:((qs.length:Int) != (rs.length:Int))=true:=by rw [bne_iff_ne];omega
  have HL:=Nm.hide hl;clear hl hc hc' hd hd';go_enter Tryz.func68,Tryz.ntmps68;go_wp2;go_ret;rw [eqZs_len (by simpa using HL.out)];exact⟨rfl,Below.refl _ _⟩
theorem built_any(bb:Nat)(la:Option Addr)(lc:Nat)(list:List Rr)(apex:ByteArray)(w:World)(hk:Blk w bb #[.slice la list.length lc,.string apex,.slice none 0 0,.slice none 0 0,.pointer none,.slice none 0 0] 73)(h:w.ownsRow 0 33 5 (.slice la list.length lc) list.length (rvVs list))(ha:apex.size<=1000000000)(ho:∀ r∈list,r.own.size<=1000000000∧r.da.size<=2000000):
 Calls Tryz.prog 28 #[.pointer (some ⟨bb,0,none⟩)] w fun e w'=>e=rsV (bldE list apex).1 (bldE list apex).2∧Outs [bb] w w'∧((bldE list apex).1=0->∃ th ys aa ac labv rv os kv ks B,P3 list apex bb (.slice la list.length lc) th ys aa ac labv rv os kv ks B w'):=
 build_any bb la lc list apex w hk (CRow.of_owns h) (fun _ e=>own_nb h hk (by decide) (by have:=rowBlk_own h e;simpa using this)) (fun _ b hb=>own_lt h b (rowBlk_own h hb)) (by unfold maxLen;omega) ho
theorem outs_low{fp:List Nat}{B:Nat}{w w':World}(h:Outs fp w w')(hB:B<=w.heap.size)(hf:∀ b∈fp,B<=b):Below B w w':=
 ⟨h.os,h.tape,h.output,h.size,fun k hk=>h.block k (by omega) (fun hm=>by have:=hf k hm;omega)⟩
theorem outs_six{w:World}{b:Nat}{x0 x1 x2 x3 x4 x5:Value}:Outs [b] w ((((((w.setCell ⟨b,0,none⟩ x0).setCell ⟨b,1,none⟩ x1).setCell ⟨b,2,none⟩ x2).setCell ⟨b,3,none⟩ x3).setCell ⟨b,4,none⟩ x4).setCell ⟨b,5,none⟩ x5):=by
 have t:∀ {A C:World} {i:Nat} {x:Value},Outs [b] A C->Outs [b] A (C.setCell ⟨b,i,none⟩ x):=fun h=>h.trans outs_set (fun k hk=>.inl hk)
 exact t (t (t (t (t outs_set))))
theorem own_six{w:World}{B b n:Nat}{v:Value}{cs:Array Value}{xs:List Value}{x0 x1 x2 x3 x4 x5:Value}(h:w.ownsRow B 33 5 v n xs)(k:Blk w b cs 73):((((((w.setCell ⟨b,0,none⟩ x0).setCell ⟨b,1,none⟩ x1).setCell ⟨b,2,none⟩ x2).setCell ⟨b,3,none⟩ x3).setCell ⟨b,4,none⟩ x4).setCell ⟨b,5,none⟩ x5).ownsRow B 33 5 v n xs:=
 own_outs h outs_six (fun c hc hm=>own_nb h k (by decide) (by rw [<- List.mem_singleton.1 hc];simpa using hm))
theorem zone_field(x:ByteArray)(a:Option Addr)(n c:Nat)(W:World):(Instr.field 28 (.agg #[.string x,.slice a n c]) 1).run Tryz.prog W=.ok (.slice a n c) W:=by kernel_rfl
def OzPost(ps:List Zp)(o:ByteArray)(w:World)(e:Ending)(w':World):Prop:=Below w.heap.size w w'∧
 ((zOK ps o=false∧e=.returned (.tuple #[.pointer none,.bool false]))∨
 (zOK ps o=true∧∃ bb lv th ys aa ac labv rv os kv ks B,e=.returned (.tuple #[.pointer (some ⟨bb,3,none⟩),.bool true])∧P3 (zoneRecs ps) o bb lv th ys aa ac labv rv os kv ks B w'))
set_option maxRecDepth 100000 in
set_option maxHeartbeats 3200000 in
theorem openZone_any(o:ByteArray)(v:Value)(ps:List Zp)(w:World)(h:ZRow w v ps)(hs:zsum ps<=1048576)(hf:∀ p∈ps,p.1.own.size<=1048576∧∀ x∈p.1.da,x.size<=1048576)(ha:o.size<=1000000000):
 Calls Tryz.prog 33 #[.agg #[.string o,v]] w (OzPost ps o w):=by
 have k0:=blk_new w #[.string o,v] 28;have b0:=(Below.refl w.heap.size w).alloc (Nat.le_refl _) (.cells #[.string o,v] 28);have hzr:=fun W (hW:Below w.heap.size w W)=>implZoneRecords_any o v ps W (h.below hW) hs (fun p hp=>(hf p hp).2)
 have hrf:=recs_fit hf;have hbt:=fun bb la lc W hk hr=>built_any bb la lc (zoneRecs ps) o W hk hr ha (fun r hr=>by have:=hrf r hr;exact⟨by omega,by omega⟩)
 have HZ:Hid (∀ bb lv th ys aa ac labv rv os kv ks B W,P3 (zoneRecs ps) o bb lv th ys aa ac labv rv os kv ks B W->Calls Tryz.prog 29 #[.pointer (some ⟨bb,3,none⟩),.string o] W fun e W'=>∃ v qs,e=.returned (.agg #[.string o,v])∧qs.map (·.1)=bldZ (zoneRecs ps)∧ZOwn W' W.heap.size v qs∧Below W.heap.size W W'):=by
  intro bb lv th ys aa ac labv rv os kv ks B W hP;have hl5:=hP.hl;have hol:=hP.st.inv.len.1;rw [List.length_map] at hol;rw [zone_eq hP.st.inv hP.good.1 hP.mix];exact zone_any bb 3 th rv os B o W hP.st.tr (hP.st.inv.trs (by rw [List.length_map];omega)) (by omega) hP.st.lab ((blk_cell hP.kb 4).trans rfl) ha
 have hzv:∃ va vc,v=.slice va ps.length vc:=by obtain⟨⟨_,a,c,e,_⟩,_⟩:=h;exact⟨a,c,e⟩
 obtain⟨va,vc,rfl⟩:=hzv;have HH:=Nm.hide (And.intro h (And.intro hzr hbt));obtain⟨E,hE⟩:∃ E,E=bldE (zoneRecs ps) o:=⟨_,rfl⟩;have HE:=Nm.hide hE;clear h hzr hbt hrf hf hE;go_enter Tryz.func33,Tryz.ntmps33;go_upto_region 1 with fail
 go_cut [4] from 7 to 11 (fun p wx=>∃ (bb:Nat) (la:Option Addr) (lc:Nat),p=.pointer (some ⟨bb,0,none⟩)∧w.heap.size<bb∧Blk wx bb #[.slice la (zoneRecs ps).length lc,.string o,.slice none 0 0,.slice none 0 0,.pointer none,.slice none 0 0] 73∧wx.ownsRow 0 33 5 (.slice la (zoneRecs ps).length lc) (zoneRecs ps).length (rvVs (zoneRecs ps))∧Below w.heap.size w wx∧Blk wx w.heap.size #[.string o,.slice va ps.length vc] 28)
 case first=>
  have hd:Below w.heap.size w (w.alloc (.cells #[.string o,.slice va ps.length vc] 28)).drew:=b0.drew
  have kS:Hid (∀ X,Below (w.heap.size+1) (w.alloc (.cells #[.string o,.slice va ps.length vc] 28)) X->X.cell? ⟨w.heap.size,0,none⟩=some (.string o)∧X.cell? ⟨w.heap.size,1,none⟩=some (.slice va ps.length vc)):=by
   intro X hX;have kx:=blk_below k0 (by simpa using hX);exact⟨(blk_cell kx 0).trans rfl,(blk_cell kx 1).trans rfl⟩
  have e0:Below (w.heap.size+1) (w.alloc (.cells #[.string o,.slice va ps.length vc] 28)) (w.alloc (.cells #[.string o,.slice va ps.length vc] 28)).drew:=(Below.refl _ _).drew;refine wp_region_last (fun X=>X.cell? ⟨w.heap.size,0,none⟩=some (.string o)∧X.cell? ⟨w.heap.size,1,none⟩=some (.slice va ps.length vc)) 1000 (by kernel_rfl) (kS.out _ e0) (fun hHeld=>?_);refine tkL (i:=0) (v:=?_) rfl ?_ ?_;rotate_left 1
  ·(intro W hSW;obtain⟨z0,z1⟩:=hSW;go_simp;try (with_reducible rfl))
  refine tkL (i:=2) (v:=?_) rfl ?_ ?_;rotate_left 1
  ·(intro W hSW;obtain⟨z0,z1⟩:=hSW;go_simp;try (with_reducible rfl))
  refine tkL (i:=3) (v:=?_) rfl ?_ ?_;rotate_left 1
  ·(intro W hSW;obtain⟨z0,z1⟩:=hSW;go_simp;try (with_reducible rfl))
  refine wpAnyL_two (i:=1) (j:=5) (by kernel_rfl) rfl rfl (fun K hK=>?_) (fun K hK=>?_)
  ·go_simp;refine(HH.out.2.1 _ hd).mono ?_;rintro e w1 ⟨u,rfl,hown,b1⟩;obtain⟨la,lc,rfl⟩:=own_sl hown;have hs1:w.heap.size+1<=w1.heap.size:=by have:=b1.size;simpa [World.drew] using this
   have e1:Below (w.heap.size+1) (w.alloc (.cells #[.string o,.slice va ps.length vc] 28)) w1:=e0.trans (b1.mono (by show w.heap.size+1<=(w.alloc _).heap.size;simp));have bw1:Below w.heap.size w w1:=Nm.below_two b0 (by simpa using e1);go_wp2_with fail
   refine hK.out _ _ (kS.out _ e1) (fun hHeld=>?_);clear hK K;refine tkL (i:=4) (v:=?_) rfl ?_ ?_;rotate_left 1
   ·(intro W hSW;obtain⟨z0,z1⟩:=hSW;go_simp;try (with_reducible rfl))
   refine wpAnyL_one (i:=5) (by kernel_rfl) rfl (fun K hK=>?_);go_simp;have bz:=(Below.refl w1.heap.size w1).alloc (Nat.le_refl _) (.cells #[.slice none 0 0,.string ⟨#[]⟩,.slice none 0 0,.slice none 0 0,.pointer none,.slice none 0 0] 73);have kz:=blk_new w1 #[.slice none 0 0,.string ⟨#[]⟩,.slice none 0 0,.slice none 0 0,.pointer none,.slice none 0 0] 73;have rz:=fun i=>blk_cell kz i
   have fz:=fun i=>blk_frozen kz i
   refine hK.out _ _ (kS.out _ (e1.trans (bz.mono hs1))) (fun hHeld=>?_);clear hK K;refine wpAnyL_one (i:=6) (by kernel_rfl) rfl (fun K hK=>?_);go_simp;have bn:=(Below.refl w1.heap.size w1).alloc (Nat.le_refl _) (.cells #[.slice la (zoneRecs ps).length lc,.string o,.slice none 0 0,.slice none 0 0,.pointer none,.slice none 0 0] 73);have kn:=blk_new w1 #[.slice la (zoneRecs ps).length lc,.string o,.slice none 0 0,.slice none 0 0,.pointer none,.slice none 0 0] 73;have en:=e1.trans (bn.mono hs1);refine hK.out _ _ (kS.out _ en) (fun hHeld=>?_);clear hK K;refine wpAnyL_done (by kernel_rfl) ?_;go_wp2_with fail
   go_meet
   case rel=>exact⟨w1.heap.size,la,lc,rfl,by omega,kn,own_base (own_below hown bn) (Nat.zero_le _),Nm.below_two bw1 bn,blk_below k0 (by simpa using en)⟩
  ·go_simp;have kz0:=blk_new (w.alloc (.cells #[.string o,.slice va ps.length vc] 28)) #[.slice none 0 0,.string ⟨#[]⟩,.slice none 0 0,.slice none 0 0,.pointer none,.slice none 0 0] 73;rw [World.size_alloc] at kz0;have kz:=blk_drew kz0;have bA:Below (w.heap.size+1) (w.alloc (.cells #[.string o,.slice va ps.length vc] 28)) ((w.alloc (.cells #[.string o,.slice va ps.length vc] 28)).alloc (.cells #[.slice none 0 0,.string ⟨#[]⟩,.slice none 0 0,.slice none 0 0,.pointer none,.slice none 0 0] 73)).drew:=((Below.refl _ _).alloc (by simp) _).drew;have bA':Below w.heap.size w ((w.alloc (.cells #[.string o,.slice va ps.length vc] 28)).alloc (.cells #[.slice none 0 0,.string ⟨#[]⟩,.slice none 0 0,.slice none 0 0,.pointer none,.slice none 0 0] 73)).drew:=Nm.below_two b0 (by simpa using bA)
   have hsA:((w.alloc (.cells #[.string o,.slice va ps.length vc] 28)).alloc (.cells #[.slice none 0 0,.string ⟨#[]⟩,.slice none 0 0,.slice none 0 0,.pointer none,.slice none 0 0] 73)).drew.heap.size=w.heap.size+2:=by
    show((w.alloc _).alloc _).heap.size=_
    simp
   have HSA:=Nm.hide hsA;clear kz0 hsA;refine hK.out _ _ (kS.out _ bA) (fun hHeld=>?_);clear hK K;refine wpAnyL_one (i:=1) (by kernel_rfl) rfl (fun K hK=>?_);go_simp;refine(HH.out.2.1 _ bA').mono ?_;rintro e w1 ⟨u,rfl,hown,b1⟩;obtain⟨la,lc,rfl⟩:=own_sl hown;have hs1:w.heap.size+2<=w1.heap.size:=by have:=b1.size;have:=HSA.out;omega
   have e1:Below (w.heap.size+1) (w.alloc (.cells #[.string o,.slice va ps.length vc] 28)) w1:=bA.trans (b1.mono (by have:=HSA.out;omega));have bw1:Below w.heap.size w w1:=Nm.below_two b0 (by simpa using e1);have kz1:=blk_below kz b1;have HOW:=Nm.hide hown;clear hown kz b1;go_wp2_with fail
   refine hK.out _ _ (kS.out _ e1) (fun hHeld=>?_);clear hK K;refine tkL (i:=4) (v:=?_) rfl ?_ ?_;rotate_left 1
   ·(intro W hSW;obtain⟨z0,z1⟩:=hSW;go_simp;try (with_reducible rfl))
   refine wpAnyL_one (i:=6) (by kernel_rfl) rfl (fun K hK=>?_);have rz:=fun i=>blk_cell kz1 i
   have fz:=fun i=>blk_frozen kz1 i
   go_simp;have kn:=blk_set (blk_set (blk_set (blk_set (blk_set (blk_set kz1 0 (.slice la (zoneRecs ps).length lc)) 1 (.string o)) 2 (.slice none 0 0)) 3 (.slice none 0 0)) 4 (.pointer none)) 5 (.slice none 0 0);simp only [List.setIfInBounds_toArray,List.set_cons_zero,List.set_cons_succ] at kn;have on:=own_six (v:=.slice la (zoneRecs ps).length lc) (x0:=.slice la (zoneRecs ps).length lc) (x1:=.string o) (x2:=.slice none 0 0) (x3:=.slice none 0 0) (x4:=.pointer none) (x5:=.slice none 0 0) HOW.out kz1;have oo:Outs [w.heap.size+1] w1 ((((((w1.setCell ⟨w.heap.size+1,0,none⟩ (.slice la (zoneRecs ps).length lc)).setCell ⟨w.heap.size+1,1,none⟩ (.string o)).setCell ⟨w.heap.size+1,2,none⟩ (.slice none 0 0)).setCell ⟨w.heap.size+1,3,none⟩ (.slice none 0 0)).setCell ⟨w.heap.size+1,4,none⟩ (.pointer none)).setCell ⟨w.heap.size+1,5,none⟩ (.slice none 0 0)):=outs_six;have en:=e1.trans (outs_low oo (by omega) (fun b hb=>by rw [List.mem_singleton.1 hb];exact Nat.le_refl _));clear rz fz kz1;refine hK.out _ _ (kS.out _ en) (fun hHeld=>?_);clear hK K;refine wpAnyL_done (by kernel_rfl) ?_;go_wp2_with fail
   go_meet
   case rel=>exact⟨w.heap.size+1,la,lc,rfl,by omega,kn,own_base on (Nat.zero_le _),Nm.below_two b0 (by simpa using en),blk_below k0 (by simpa using en)⟩
 case rest=>
  obtain⟨bb,la,lc,rfl,hbb,kb,hown,bwc,kZ⟩:=hcut;have hbd:=HH.out.2.2 bb la lc wc kb hown;unfold rsV at hbd;rw [<- HE.out] at hbd;obtain⟨C,I⟩:=E;simp only at hbd
  have HB:=Nm.hide (And.intro hbb bwc);clear hown kb bwc hbb k0 b0
  by_cases hC:C=0
  ·subst hC;go_wp2_with fail
   refine hbd.mono ?_;rintro e w2 ⟨rfl,hou,hp⟩;obtain⟨th,ys,aa,ac,labv,rv,os,kv,ks,B,hP⟩:=hp trivial;have kZ2:=blk_outs kZ hou (fun hm=>by have:=List.mem_singleton.1 hm;have:=HB.out.1;omega);have b2:Below w.heap.size w w2:=HB.out.2.trans (outs_low hou HB.out.2.size (fun b hb=>by rw [List.mem_singleton.1 hb];have:=HB.out.1;omega));have HP:=Nm.hide (And.intro hP b2);clear hbd hou hp hP b2 kZ;go_wp2_with fail
   have kS:Hid (∀ X,Below w2.heap.size w2 X->X.cell? ⟨w.heap.size,0,none⟩=some (.string o)∧X.cell? ⟨w.heap.size,1,none⟩=some (.slice va ps.length vc)):=by
    intro X hX;have kx:=blk_below kZ2 hX;exact⟨(blk_cell kx 0).trans rfl,(blk_cell kx 1).trans rfl⟩
   have bd:=(Below.refl w2.heap.size w2).drew;clear kZ2;go_cut [26] from 18 to 26 (fun p wx=>p=.bool (!eqZs (bldZ (zoneRecs ps)) (ps.map (·.1)))∧Below w2.heap.size w2 wx)
   case first=>
    refine wp_region_last (fun X=>X.cell? ⟨w.heap.size,0,none⟩=some (.string o)∧X.cell? ⟨w.heap.size,1,none⟩=some (.slice va ps.length vc)) 1000 (by kernel_rfl) (kS.out _ bd) (fun hHeld=>?_);refine tkL (i:=0) (v:=?_) rfl ?_ ?_;rotate_left 1
    ·(intro W hSW;obtain⟨z0,z1⟩:=hSW;go_simp;try (with_reducible rfl))
    refine tkL (i:=1) (v:=?_) rfl ?_ ?_;rotate_left 1
    ·(intro W hSW;obtain⟨z0,z1⟩:=hSW;go_simp;try (with_reducible rfl))
    refine tkL (i:=2) (v:=?_) rfl ?_ ?_;rotate_left 1
    ·(intro W hSW;obtain⟨z0,z1⟩:=hSW;go_simp;try (with_reducible rfl))
    refine tkL (i:=5) (v:=?_) rfl ?_ ?_;rotate_left 1
    ·(intro W hSW;obtain⟨z0,z1⟩:=hSW;go_simp;try (with_reducible rfl))
    refine tkL (i:=6) (v:=?_) rfl ?_ ?_;rotate_left 1
    ·(intro W hSW;obtain⟨z0,z1⟩:=hSW;go_simp;try (with_reducible rfl))
    refine wpAnyL_one (i:=3) (by kernel_rfl) rfl (fun K hK=>?_);go_simp;refine(HZ.out _ _ _ _ _ _ _ _ _ _ _ _ _ (HP.out.1.below bd)).mono ?_;rintro e w3 ⟨zv,qs,rfl,hqs,hzo,b3⟩;obtain⟨za,zc,rfl⟩:=own_sl hzo.outer;have b3':=Nm.below_two bd b3;have hfd:=fun W=>zone_field o za qs.length zc W
    go_wp2_with fail
    refine hK.out _ _ (kS.out _ b3') (fun hHeld=>?_);clear hK K;refine tkL (i:=4) (v:=?_) rfl ?_ ?_;rotate_left 1
    ·(intro W hSW;obtain⟨z0,z1⟩:=hSW;go_simp;try (with_reducible rfl))
    refine wpAnyL_one (i:=7) (by kernel_rfl) rfl (fun K hK=>?_);go_simp;refine(equalSets_any _ _ qs ps _ hzo.zrow ((HH.out.1.below HP.out.2).below b3')).mono ?_;rintro e w4 ⟨rfl,b4⟩;rw [hqs];have b4':=Nm.below_two b3' b4;go_wp2_with fail
    refine hK.out _ _ (kS.out _ b4') (fun hHeld=>?_);clear hK K;refine tkL (i:=8) (v:=?_) rfl ?_ ?_;rotate_left 1
    ·(intro W hSW;obtain⟨z0,z1⟩:=hSW;go_simp;try (with_reducible rfl))
    refine wpAnyL_done (by kernel_rfl) ?_;go_wp2_with fail
    go_meet
    case rel=>exact⟨rfl,b4'⟩
   case rest=>
    obtain⟨rfl,b5⟩:=hcut;have hEo:(bldE (zoneRecs ps) o).1=0:=by rw [<- HE.out]
    cases hq:eqZs (bldZ (zoneRecs ps)) (ps.map (·.1)) with
    |true=>
     have hok:zOK ps o=true:=by rw [zOK,decide_eq_true hEo,hq];rfl
     have HOK:=Nm.hide hok;clear hq hok hEo;go_wp2;go_ret2
     exact⟨Nm.below_two HP.out.2 b5,.inr ⟨HOK.out,bb,_,th,ys,aa,ac,labv,rv,os,kv,ks,B,rfl,HP.out.1.below b5⟩⟩
    |false=>
     have hok:zOK ps o=false:=by rw [zOK,hq,Bool.and_false]
     have HOK:=Nm.hide hok;clear hq hok hEo;go_wp2;go_ret2;exact⟨Nm.below_two HP.out.2 b5,.inl ⟨HOK.out,rfl⟩⟩
  ·have n0:(C != 0)=true:=by simpa using hC
   have hok:zOK ps o=false:=by rw [zOK,<- HE.out,decide_eq_false hC];rfl
   have HOK:=Nm.hide hok;clear hC hok;go_wp2_with fail
   refine hbd.mono ?_;rintro e w2 ⟨rfl,hou,hp⟩;have b2:Below w.heap.size w w2:=HB.out.2.trans (outs_low hou HB.out.2.size (fun b hb=>by rw [List.mem_singleton.1 hb];have:=HB.out.1;omega));clear hbd hou hp;go_wp2;go_ret2;exact⟨b2,.inl ⟨HOK.out,rfl⟩⟩
set_option maxRecDepth 100000 in
set_option maxHeartbeats 800000 in
theorem implCheckZone_any(o:ByteArray)(v:Value)(ps:List Zp)(w:World)(h:ZRow w v ps)(hs:zsum ps<=1048576)(hf:∀ p∈ps,p.1.own.size<=1048576∧∀ x∈p.1.da,x.size<=1048576)(ha:o.size<=1000000000):
 Calls Tryz.prog 9 #[.agg #[.string o,v]] w fun e w'=>e=.returned (.int .i64 (if zOK ps o=true then 0 else 32))∧Below w.heap.size w w':=by
 have k0:=blk_new w #[.string o,v] 28;have b0:=(Below.refl w.heap.size w).alloc (Nat.le_refl _) (.cells #[.string o,v] 28);have ho:=openZone_any o v ps _ (h.below b0) hs hf ha;obtain⟨va,vc,rfl⟩:∃ va vc,v=.slice va ps.length vc:=by obtain⟨⟨_,a,c,e,_⟩,_⟩:=h;exact⟨a,c,e⟩
 have r0:=fun i=>blk_cell k0 i
 obtain⟨CZ,hCZ⟩:∃ CZ:Int,CZ=if zOK ps o=true then 0 else 32:=⟨_,rfl⟩
 rw [<- hCZ];have HCZ:=Nm.hide hCZ;clear h hf hs hCZ;go_enter Tryz.func9,Tryz.ntmps9;go_wp2_with fail
 refine ho.mono ?_;rintro e w1 ⟨b1,⟨hz,rfl⟩|⟨hz,bb,lv,th,ys,aa,ac,labv,rv,os,kv,ks,B,rfl,hP⟩⟩
 ·have hC:CZ=32:=by rw [HCZ.out,hz];rfl
  clear HCZ hz ho;subst hC;go_wp2;go_ret;exact⟨rfl,Nm.below_two b0 b1⟩
 ·have hC:CZ=0:=by rw [HCZ.out,hz];rfl
  clear HCZ hz ho hP;subst hC;go_wp2;go_ret;exact⟨rfl,Nm.below_two b0 b1⟩
end Go.Proofs.YtmdinnjimioffaaGreat
