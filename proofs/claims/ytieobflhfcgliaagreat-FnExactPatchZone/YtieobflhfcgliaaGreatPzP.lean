import Derived.Test.YtieobflhfcgliaaGreatJPzK
import Derived.Test.YtieobflhfcgliaaGreatJDlE
import Derived.Test.YtieobflhfcgliaaGreatJStI
namespace Go.Proofs.YtieobflhfcgliaaGreat
open Go.RowKit
set_option linter.unusedVariables false
section
variable {P:Program}{ops:Array Oper}{Q:Exit->Act->World->Prop}{md:Region.Mode}{S:World->Prop}{L:Nat}
theorem wpAnyL_three{i j k:Nat}{o o1 o2:Oper}{fuel:Nat}{listed:Array Bool}{a:Act}{w:World}(hr:Region.ready md ops listed=[i,j,k])(ho:ops[i]? =some o)(ho1:ops[j]? =some o1)(ho2:ops[k]? =some o2)
 (h:∀ K':Act->World->Prop,Shut (∀ a w,S w->(S w->wpAnyL P md ops Q S L fuel (listed.setIfInBounds i true) a w)->K' a w)->if Region.wanted o (yielded ops a.tmps)=true then Oper.wp P o a w K' Q else K' (a.put o.dst undef) w)
 (h1:∀ K':Act->World->Prop,Shut (∀ a w,S w->(S w->wpAnyL P md ops Q S L fuel (listed.setIfInBounds j true) a w)->K' a w)->if Region.wanted o1 (yielded ops a.tmps)=true then Oper.wp P o1 a w K' Q else K' (a.put o1.dst undef) w)
 (h2:∀ K':Act->World->Prop,Shut (∀ a w,S w->(S w->wpAnyL P md ops Q S L fuel (listed.setIfInBounds k true) a w)->K' a w)->if Region.wanted o2 (yielded ops a.tmps)=true then Oper.wp P o2 a w K' Q else K' (a.put o2.dst undef) w):
 wpAnyL P md ops Q S L (fuel+1) listed a w:=by
 refine⟨fun h0=>(by rw [hr] at h0;cases h0),fun q hq=>?_⟩;rw [hr] at hq
 rcases(show q=i∨q=j∨q=k by simpa using hq) with rfl|rfl|rfl
 ·exact wpOp_step ho (fun K' hK=>h K' (fun a w hS hW=>hK a w ⟨.inr hS,hW hS⟩))
 ·exact wpOp_step ho1 (fun K' hK=>h1 K' (fun a w hS hW=>hK a w ⟨.inr hS,hW hS⟩))
 ·exact wpOp_step ho2 (fun K' hK=>h2 K' (fun a w hS hW=>hK a w ⟨.inr hS,hW hS⟩))
end
set_option maxRecDepth 100000 in
set_option maxHeartbeats 6400000 in
theorem patch_any(o:ByteArray)(v d a:Value)(ps:List Zp)(old new:Rr)(del add:List Rr)(w:World)(h:ZRow w v ps)(hd:CRow w d del.length 5 (rvVs del))(hda:CRow w a add.length 5 (rvVs add))(hz:zOK ps o=true)(hs:zsum ps<=1048576)(hf:∀ p∈ps,p.1.own.size<=1048576∧∀ x∈p.1.da,x.size<=1048576)(ho:o.size<=1048576)(hfo:old.da.size<=1048576)(hfn:RFit new∧new.own.size<=1048576∧new.da.size<=1048576)(hfd:∀ x∈del,RFit x)(hfa:∀ x∈add,x.own.size<=1048576∧x.da.size<=1048576):
 Calls Tryz.prog 41 #[.agg #[.string o,v],cgV old new d a] w (PzPost (pzC ps o old new del add) (pzL ps new del add) o w):=by
 obtain⟨va,vc,rfl⟩:∃ va vc,v=.slice va ps.length vc:=by obtain⟨⟨_,a,c,e,_⟩,_⟩:=h;exact⟨a,c,e⟩
 obtain⟨da,dc,rfl⟩:∃ da dc,d=.slice da del.length dc:=by obtain⟨_,a,c,e,_⟩:=hd;exact⟨a,c,e⟩
 obtain⟨aa,ac,rfl⟩:∃ aa ac,a=.slice aa add.length ac:=by obtain⟨_,a,c,e,_⟩:=hda;exact⟨a,c,e⟩
 obtain⟨R,HR⟩:∃ R,Hid (R=pzC ps o old new del add):=⟨_,rfl⟩;rw [<- HR.out];obtain⟨W0,hW0⟩:∃ W0,W0=((w.alloc (.cells #[.string o,.slice va ps.length vc] 35)).alloc (.cells (cgL old new (.slice da del.length dc) (.slice aa add.length ac)).toArray 30)).alloc (.cells #[.string ⟨#[]⟩,.slice none 0 0] 35):=⟨_,rfl⟩
 have b0:Below w.heap.size w W0:=by
  rw [hW0];exact(((Below.refl w.heap.size w).alloc (Nat.le_refl _) _).alloc (by simp) _).alloc (by simp;omega) _
 have ky:Blk W0 w.heap.size #[.string o,.slice va ps.length vc] 35:=by
  rw [hW0];exact blk_alloc (blk_alloc (blk_new w #[.string o,.slice va ps.length vc] 35) _) _
 have kz:Blk W0 (w.heap.size+1) (cgL old new (.slice da del.length dc) (.slice aa add.length ac)).toArray 30:=by
  rw [hW0];have:=blk_new (w.alloc (.cells #[.string o,.slice va ps.length vc] 35)) (cgL old new (.slice da del.length dc) (.slice aa add.length ac)).toArray 30;rw [World.size_alloc] at this;exact blk_alloc this _
 have kc:Blk W0 (w.heap.size+2) #[.string ⟨#[]⟩,.slice none 0 0] 35:=by
  rw [hW0];have:=blk_new ((w.alloc (.cells #[.string o,.slice va ps.length vc] 35)).alloc (.cells (cgL old new (.slice da del.length dc) (.slice aa add.length ac)).toArray 30)) #[.string ⟨#[]⟩,.slice none 0 0] 35;rw [World.size_alloc,World.size_alloc] at this;exact this
 have z0:W0.heap.size=w.heap.size+3:=by rw [hW0];simp
 have hlo:=isLong_any old new da aa del.length add.length dc ac W0;have rz:=fun i=>blk_cell kz i
 cases hl:(decide (500<del.length)||decide (500<add.length)) with
 |true=>
  have HN:Hid (R=32):=by show _=_;rw [HR.out,pzC,if_pos hl]
  rw [hl,hW0] at hlo;clear HR;go_enter Tryz.func41,Tryz.ntmps41;go_wp2_with fail
  rw [<- hW0] at hlo ⊢;clear hW0;go_at_call 64
  refine hlo.mono ?_;rintro e w1 ⟨rfl,b1⟩;have bw1:=Nm.below_two b0 b1;have kc1:=blk_below kc b1;have rk:=fun i=>blk_cell kc1 i
  have fk:=fun i=>blk_frozen kc1 i
  have kX:=setAll_new [.string ⟨#[]⟩,.slice none 0 0] kc1 rfl;have HX:=Nm.hide (below_setA (Nat.le_add_right _ 2) [.string ⟨#[]⟩,.slice none 0 0] 0 _ bw1);simp only [setAll,Nat.zero_add] at kX HX;have rX:=fun i=>blk_cell kX i
  clear kX;go_wp2;rw [HN.out];refine bodyPost_ret (v:=.tuple #[.agg #[.string ⟨#[]⟩,.slice none 0 0],.int .i64 32]) ?_ rfl ⟨_,_,rfl,Pz.bad (by decide),HX.out⟩
  simp [results,Tryz.f41,go_sem,rX]
 |false=>
  have l1:del.length<=500:=by simp at hl;omega
  have l2:add.length<=500:=by simp at hl;omega
  obtain⟨al,hal⟩:=name_ofZ hz;obtain⟨r,k,s,ds,f1,g1,i1,c1,-,-,-,u1,-⟩:=zOK_soaR hz hal;have e1:soaOf ps=r:=by rw [soaOf,f1];rfl
  have m1:=(recs_fit hf r (List.mem_of_getElem? g1)).2;have n1:=zOK_len hz;have hRf:∀ x∈restR (zoneRecs ps),RFit x:=fun x hx=>zOK_fits hz hal hf x (List.mem_filter.1 hx).1
  have hRs:∀ x∈restR (zoneRecs ps),x.own.size<=1048576∧x.da.size<=1048576:=fun x hx=>recs_fit hf x (List.mem_filter.1 hx).1
  have hRn:(restR (zoneRecs ps)).Nodup:=(zOK_nodup hz).filter _;have hRl:(restR (zoneRecs ps)).length<=500:=by have:=List.length_filter_le (fun x=> !is6 x) (zoneRecs ps);unfold restR;omega
  have hps:=fun W (hW:Below w.heap.size w W)=>partSOA_rest o _ ps r k _ W (h.below hW) hs (fun p hp x hx=>(hf p hp).2 x hx) g1 i1 n1 c1
  have hcb:=fun W=>comesBehind_any new old W (by omega) (by omega)
  have HD:Hid (R=if !eqR r old|| !cbB new old then 27 else if !heB (restR (zoneRecs ps)) del||add.any is6 then 7 else(bldE (pzL ps new del add) o).1):=by
   show _=_
   rw [HR.out,pzC,if_neg (by rw [hl];decide),e1]
  clear HR f1 g1 i1 c1 u1 e1 n1 hz hs hf;have HPL:Hid (pzL ps new del add=[new]++wthF (restR (zoneRecs ps)) del++add):=by show _=_;rfl
  have hPL:∀ x∈pzL ps new del add,x.own.size<=1000000000∧x.da.size<=2000000:=by
   intro x hx
   have key:x.own.size<=1048576∧x.da.size<=1048576:=by
    rw [pzL,List.mem_append,List.mem_append] at hx
    rcases hx with(hx|hx)|hx
    ·simp at hx;subst hx;exact hfn.2
    ·exact hRs x (List.mem_filter.1 hx).1
    ·exact hfa x hx
   omega
  have hWl:(wthF (restR (zoneRecs ps)) del).length<=500:=by have:=List.length_filter_le (fun x=> !hasR del x) (restR (zoneRecs ps));unfold wthF;omega
  generalize pzL ps new del add=PL at*;generalize restR (zoneRecs ps)=RS at*;rw [hl,hW0] at hlo;go_enter Tryz.func41,Tryz.ntmps41;go_wp2_with fail
  rw [<- hW0] at hlo ⊢;clear hW0;go_at_call 64
  refine hlo.mono ?_;rintro e w1 ⟨rfl,b1⟩;have bw1:=Nm.below_two b0 b1;have ky1:=blk_below ky b1;have kz1:=blk_below kz b1;have kc1:=blk_below kc b1;have z1:=b1.size;have ry:=fun i=>blk_cell ky1 i
  clear rz hlo b1 ky kz kc b0;go_wp2_with fail
  go_at_call 55
  refine(hps _ bw1).mono ?_;rintro e w2 ⟨ua,uc,rfl,oR,b2⟩;have bA:=Nm.below_two b2 ((Below.refl w2.heap.size w2).alloc (Nat.le_refl _) (.cells #[.string r.own,.int .i64 r.ty,.int .i64 r.cl,.int .i64 r.tt,.string r.da] 27));have kr:=blk_new w2 #[.string r.own,.int .i64 r.ty,.int .i64 r.cl,.int .i64 r.tt,.string r.da] 27;have oA:=own_below oR ((Below.refl w2.heap.size w2).alloc (Nat.le_refl _) (.cells #[.string r.own,.int .i64 r.ty,.int .i64 r.cl,.int .i64 r.tt,.string r.da] 27));have ky2:=blk_below ky1 bA;have kz2:=blk_below kz1 bA;have kc2:=blk_below kc1 bA;have bw2:=Nm.below_two bw1 bA;have z2:=bA.size;have rz:=fun i=>blk_cell kz2 i
  have rr:=fun i=>blk_cell kr i
  clear ry hps b2 ky1 kz1 kc1 bw1 oR bA
  cases hq:eqR r old with
  |false=>
   have HN:Hid (R=27):=by show _=_;rw [HD.out,hq];rfl
   have rk:=fun i=>blk_cell kc2 i
   have fk:=fun i=>blk_frozen kc2 i
   have ne:(r.own.toList==old.own.toList&&r.ty==old.ty&&r.cl==old.cl&&r.tt==old.tt&&r.da.toList==old.da.toList)=false:=eqR_of.symm.trans hq;clear HD hq
   cases e1:(r.own.toList==old.own.toList) with
   |false=>
    clear ne;have kX:=setAll_new [.string ⟨#[]⟩,.slice none 0 0] kc2 rfl;have HX:=Nm.hide (below_setA (Nat.le_add_right _ 2) [.string ⟨#[]⟩,.slice none 0 0] 0 _ bw2);simp only [setAll,Nat.zero_add] at kX HX;have rX:=fun i=>blk_cell kX i
    clear kX;go_wp2;rw [HN.out];refine bodyPost_ret (v:=.tuple #[.agg #[.string ⟨#[]⟩,.slice none 0 0],.int .i64 27]) ?_ rfl ⟨_,_,rfl,Pz.bad (by decide),HX.out⟩
    simp [results,Tryz.f41,go_sem,rX]
   |true=>
    cases e2:(r.ty==old.ty) with
    |false=>
     clear ne;have kX:=setAll_new [.string ⟨#[]⟩,.slice none 0 0] kc2 rfl;have HX:=Nm.hide (below_setA (Nat.le_add_right _ 2) [.string ⟨#[]⟩,.slice none 0 0] 0 _ bw2);simp only [setAll,Nat.zero_add] at kX HX;have rX:=fun i=>blk_cell kX i
     clear kX;go_wp2;rw [HN.out];refine bodyPost_ret (v:=.tuple #[.agg #[.string ⟨#[]⟩,.slice none 0 0],.int .i64 27]) ?_ rfl ⟨_,_,rfl,Pz.bad (by decide),HX.out⟩
     simp [results,Tryz.f41,go_sem,rX]
    |true=>
     cases e3:(r.cl==old.cl) with
     |false=>
      clear ne;have kX:=setAll_new [.string ⟨#[]⟩,.slice none 0 0] kc2 rfl;have HX:=Nm.hide (below_setA (Nat.le_add_right _ 2) [.string ⟨#[]⟩,.slice none 0 0] 0 _ bw2);simp only [setAll,Nat.zero_add] at kX HX;have rX:=fun i=>blk_cell kX i
      clear kX;go_wp2;rw [HN.out];refine bodyPost_ret (v:=.tuple #[.agg #[.string ⟨#[]⟩,.slice none 0 0],.int .i64 27]) ?_ rfl ⟨_,_,rfl,Pz.bad (by decide),HX.out⟩
      simp [results,Tryz.f41,go_sem,rX]
     |true=>
      cases e4:(r.tt==old.tt) with
      |false=>
       clear ne;have kX:=setAll_new [.string ⟨#[]⟩,.slice none 0 0] kc2 rfl;have HX:=Nm.hide (below_setA (Nat.le_add_right _ 2) [.string ⟨#[]⟩,.slice none 0 0] 0 _ bw2);simp only [setAll,Nat.zero_add] at kX HX;have rX:=fun i=>blk_cell kX i
       clear kX;go_wp2;rw [HN.out];refine bodyPost_ret (v:=.tuple #[.agg #[.string ⟨#[]⟩,.slice none 0 0],.int .i64 27]) ?_ rfl ⟨_,_,rfl,Pz.bad (by decide),HX.out⟩
       simp [results,Tryz.f41,go_sem,rX]
      |true=>
       cases e5:(r.da.toList==old.da.toList) with
       |false=>
        clear ne;have kX:=setAll_new [.string ⟨#[]⟩,.slice none 0 0] kc2 rfl;have HX:=Nm.hide (below_setA (Nat.le_add_right _ 2) [.string ⟨#[]⟩,.slice none 0 0] 0 _ bw2);simp only [setAll,Nat.zero_add] at kX HX;have rX:=fun i=>blk_cell kX i
        clear kX;go_wp2;rw [HN.out];refine bodyPost_ret (v:=.tuple #[.agg #[.string ⟨#[]⟩,.slice none 0 0],.int .i64 27]) ?_ rfl ⟨_,_,rfl,Pz.bad (by decide),HX.out⟩
        simp [results,Tryz.f41,go_sem,rX]
       |true=>
        rw [e1,e2,e3,e4,e5] at ne
        cases ne
  |true=>
   obtain rfl:=(eqR_iff r old).1 hq;have hhe:=fun W (hW:Below w.heap.size w W) (v:Value) (hv:CRow W v RS.length 5 (rvVs RS))=>hasEach_any v _ RS del W hv (hd.below hW) hRf hfd hRn (by omega) (by omega)
   have hco:=fun W (hW:Below w.heap.size w W)=>containsSOA_any _ add W (hda.below hW)
   cases hv1:cbB new r with
   |false=>
    have HN:Hid (R=27):=by show _=_;rw [HD.out,hv1,Bool.not_false,Bool.or_true];rfl
    rw [hv1] at hcb;clear HD hv1 hq;go_wp2_with fail
    go_at_call 29
    refine(hcb _).mono ?_;rintro e w3 ⟨rfl,b3⟩;have kc3:=blk_below kc2 b3;have bw3:=Nm.below_two bw2 b3;have rk:=fun i=>blk_cell kc3 i
    have fk:=fun i=>blk_frozen kc3 i
    clear rz rr;have kX:=setAll_new [.string ⟨#[]⟩,.slice none 0 0] kc3 rfl;have HX:=Nm.hide (below_setA (Nat.le_add_right _ 2) [.string ⟨#[]⟩,.slice none 0 0] 0 _ bw3);simp only [setAll,Nat.zero_add] at kX HX;have rX:=fun i=>blk_cell kX i
    clear kX;go_wp2;rw [HN.out];refine bodyPost_ret (v:=.tuple #[.agg #[.string ⟨#[]⟩,.slice none 0 0],.int .i64 27]) ?_ rfl ⟨_,_,rfl,Pz.bad (by decide),HX.out⟩
    simp [results,Tryz.f41,go_sem,rX]
   |true=>
    have HE:Hid (R=if !heB RS del||add.any is6 then 7 else(bldE PL o).1):=by show _=_;rw [HD.out,hv1,hq];rfl
    rw [hv1] at hcb;clear HD hv1 hq;go_wp2_with fail
    go_at_call 29
    refine(hcb _).mono ?_;rintro e w3 ⟨rfl,b3⟩;have ky3:=blk_below ky2 b3;have kz3:=blk_below kz2 b3;have kc3:=blk_below kc2 b3;have bw3:=Nm.below_two bw2 b3;have o3:=own_below oA b3;have z3:=b3.size;have rz3:=fun i=>blk_cell kz3 i
    clear rz rr ky2 kz2 kc2 bw2 oA hcb b3;have hhe3:=hhe _ bw3 _ (CRow.of_owns o3)
    cases hv2:heB RS del with
    |false=>
     have HN:Hid (R=7):=by show _=_;rw [HE.out,hv2];rfl
     rw [hv2] at hhe3;clear HE hv2;go_wp2_with fail
     go_at_call 65
     refine hhe3.mono ?_;rintro e w4 ⟨rfl,b4⟩;have kc4:=blk_below kc3 b4;have bw4:=Nm.below_two bw3 b4;have rk:=fun i=>blk_cell kc4 i
     have fk:=fun i=>blk_frozen kc4 i
     clear rz3;have kX:=setAll_new [.string ⟨#[]⟩,.slice none 0 0] kc4 rfl;have HX:=Nm.hide (below_setA (Nat.le_add_right _ 2) [.string ⟨#[]⟩,.slice none 0 0] 0 _ bw4);simp only [setAll,Nat.zero_add] at kX HX;have rX:=fun i=>blk_cell kX i
     clear kX;go_wp2;rw [HN.out];refine bodyPost_ret (v:=.tuple #[.agg #[.string ⟨#[]⟩,.slice none 0 0],.int .i64 7]) ?_ rfl ⟨_,_,rfl,Pz.bad (by decide),HX.out⟩
     simp [results,Tryz.f41,go_sem,rX]
    |true=>
     rw [hv2] at hhe3;go_wp2_with fail
     go_at_call 65
     refine hhe3.mono ?_;rintro e w4 ⟨rfl,b4⟩;have ky4:=blk_below ky3 b4;have kz4:=blk_below kz3 b4;have kc4:=blk_below kc3 b4;have bw4:=Nm.below_two bw3 b4;have o4:=own_below o3 b4;have z4:=b4.size;have rz4:=fun i=>blk_cell kz4 i
     clear rz3 ky3 kz3 kc3 o3 hhe3 hhe b4;have hco4:=hco _ bw4
     cases hv3:add.any is6 with
     |true=>
      have HN:Hid (R=7):=by show _=_;rw [HE.out,hv2,hv3];rfl
      rw [hv3] at hco4;clear HE hv2 hv3;go_wp2_with fail
      go_at_call 66
      refine hco4.mono ?_;rintro e w5 ⟨rfl,b5⟩;have kc5:=blk_below kc4 b5;have bw5:=Nm.below_two bw4 b5;have rk:=fun i=>blk_cell kc5 i
      have fk:=fun i=>blk_frozen kc5 i
      clear rz4;have kX:=setAll_new [.string ⟨#[]⟩,.slice none 0 0] kc5 rfl;have HX:=Nm.hide (below_setA (Nat.le_add_right _ 2) [.string ⟨#[]⟩,.slice none 0 0] 0 _ bw5);simp only [setAll,Nat.zero_add] at kX HX;have rX:=fun i=>blk_cell kX i
      clear kX;go_wp2;rw [HN.out];refine bodyPost_ret (v:=.tuple #[.agg #[.string ⟨#[]⟩,.slice none 0 0],.int .i64 7]) ?_ rfl ⟨_,_,rfl,Pz.bad (by decide),HX.out⟩
      simp [results,Tryz.f41,go_sem,rX]
     |false=>
      have HN:Hid (R=(bldE PL o).1):=by show _=_;rw [HE.out,hv2,hv3];rfl
      rw [hv3] at hco4;have hnd:=he_nodup hv2;clear HE hv2 hv3 hco;go_wp2_with fail
      go_at_call 66
      refine hco4.mono ?_;rintro e wb ⟨rfl,b5⟩;have kyb:=blk_below ky4 b5;have kzb:=blk_below kz4 b5;have kcb:=blk_below kc4 b5;have bwb:=Nm.below_two bw4 b5;have ob:=own_below o4 b5;have zb:=b5.size;clear rz4 ky4 kz4 kc4 o4 hco4 b5 bw3 bw4;have lb:w.heap.size+2<wb.heap.size:=blk_lt kcb;have kS:Hid (∀ X,Below wb.heap.size wb X->Blk X w.heap.size #[.string o,.slice va ps.length vc] 35∧Blk X (w.heap.size+1) (cgL r new (.slice da del.length dc) (.slice aa add.length ac)).toArray 30):=fun X hX=>⟨blk_below kyb hX,blk_below kzb hX⟩
      have bd:=(Below.refl wb.heap.size wb).drew;have bx0:=bd;have hwo:=fun W (hW:Below wb.heap.size wb W)=>without_any _ _ RS del W (CRow.of_owns (own_below ob hW)) (hd.below (Nm.below_two bwb hW)) hRf hfd (hnd) (by omega) (by omega)
      generalize wthF RS del=WD at*;have hcn:∀ W,Below wb.heap.size wb W->∀ v1 v2 b,Blk W b #[v1,v2,.slice aa add.length ac] 28->CRow W v1 1 5 (rvVs [new])->CRow W v2 WD.length 5 (rvVs WD)->Calls Tryz.prog 69 #[.slice (some ⟨b,0,none⟩) 3 3] W fun e w'=>∃ v,e=.returned v∧w'.ownsRow W.heap.size 27 5 v PL.length (rvVs PL)∧Below W.heap.size W w':=fun W hW v1 v2 b k r1 r2=>by rw [HPL.out];exact concatR_own v1 v2 _ [new] WD add b W (blk_cell k 0) (blk_cell k 1) (blk_cell k 2) r1 r2 (hda.below (Nm.below_two bwb hW)) (by simp) (by simp) (by omega) (by omega)
      have hbz:∀ W v,CRow W v PL.length 5 (rvVs PL)->Calls Tryz.prog 68 #[v,.string o] W fun e w'=>∃ oz vz ix,e=.returned (.tuple #[.agg #[.string oz,vz],.int .i64 R,.int .i64 ix])∧Pz R PL o w' W.heap.size oz vz∧Below W.heap.size W w':=fun W v hv=>by rw [HN.out];exact(implBuildZone_any v PL o W hv (by omega) hPL).mono fun e w' hp=>bz_pz hp
      go_upto_region 8 with fail
      go_cut [8,9,10] from 43 to 60 (fun p q r wx=>∃ (c:Nat) (oz:ByteArray) (vz:Value) (ix:Int),p=.pointer (some ⟨c,0,none⟩)∧q=.int .i64 R∧r=.int .i64 ix∧wb.heap.size<=c∧Blk wx c #[.string oz,vz] 35∧Pz R PL o wx wb.heap.size oz vz∧Below wb.heap.size wb wx)
      case first=>
       refine wp_region_last (fun X=>Blk X w.heap.size #[.string o,.slice va ps.length vc] 35∧Blk X (w.heap.size+1) (cgL r new (.slice da del.length dc) (.slice aa add.length ac)).toArray 30) 1000 (by kernel_rfl) (kS.out _ bd) (fun hHeld=>?_);generalize wb.drew=x0 at*;refine wpAnyL_take (i:=0) (v:=?_) rfl (by kernel_rfl) (by kernel_rfl) (by kernel_rfl) (by kernel_rfl) (fun _ _ _ h=>h) (Or.inl ⟨by kernel_rfl,?_⟩) (by assumption) ?_;rotate_left 1
       ·(rintro W ⟨s1,s2⟩;have ss1:=(fun i=>blk_cell s1 i);have ss2:=(fun i=>blk_cell s2 i);go_simp;try (with_reducible rfl))
       refine wpAnyL_take (i:=1) (v:=?_) rfl (by kernel_rfl) (by kernel_rfl) (by kernel_rfl) (by kernel_rfl) (fun _ _ _ h=>h) (Or.inl ⟨by kernel_rfl,?_⟩) (by assumption) ?_;rotate_left 1
       ·(rintro W ⟨s1,s2⟩;have ss1:=(fun i=>blk_cell s1 i);have ss2:=(fun i=>blk_cell s2 i);go_simp;try (with_reducible rfl))
       refine wpAnyL_take (i:=3) (v:=?_) rfl (by kernel_rfl) (by kernel_rfl) (by kernel_rfl) (by kernel_rfl) (fun _ _ _ h=>h) (Or.inl ⟨by kernel_rfl,?_⟩) (by assumption) ?_;rotate_left 1
       ·(rintro W ⟨s1,s2⟩;have ss1:=(fun i=>blk_cell s1 i);have ss2:=(fun i=>blk_cell s2 i);go_simp;try (with_reducible rfl))
       refine wpAnyL_take (i:=4) (v:=?_) rfl (by kernel_rfl) (by kernel_rfl) (by kernel_rfl) (by kernel_rfl) (fun _ _ _ h=>h) (Or.inl ⟨by kernel_rfl,?_⟩) (by assumption) ?_;rotate_left 1
       ·(rintro W ⟨s1,s2⟩;have ss1:=(fun i=>blk_cell s1 i);have ss2:=(fun i=>blk_cell s2 i);go_simp;try (with_reducible rfl))
       refine wpAnyL_take (i:=5) (v:=?_) rfl (by kernel_rfl) (by kernel_rfl) (by kernel_rfl) (by kernel_rfl) (fun _ _ _ h=>h) (Or.inl ⟨by kernel_rfl,?_⟩) (by assumption) ?_;rotate_left 1
       ·(rintro W ⟨s1,s2⟩;have ss1:=(fun i=>blk_cell s1 i);have ss2:=(fun i=>blk_cell s2 i);go_simp;try (with_reducible rfl))
       refine wpAnyL_take (i:=7) (v:=?_) rfl (by kernel_rfl) (by kernel_rfl) (by kernel_rfl) (by kernel_rfl) (fun _ _ _ h=>h) (Or.inl ⟨by kernel_rfl,?_⟩) (by assumption) ?_;rotate_left 1
       ·(rintro W ⟨s1,s2⟩;have ss1:=(fun i=>blk_cell s1 i);have ss2:=(fun i=>blk_cell s2 i);go_simp;try (with_reducible rfl))
       refine wpAnyL_take (i:=8) (v:=?_) rfl (by kernel_rfl) (by kernel_rfl) (by kernel_rfl) (by kernel_rfl) (fun _ _ _ h=>h) (Or.inl ⟨by kernel_rfl,?_⟩) (by assumption) ?_;rotate_left 1
       ·(rintro W ⟨s1,s2⟩;have ss1:=(fun i=>blk_cell s1 i);have ss2:=(fun i=>blk_cell s2 i);go_simp;try (with_reducible rfl))
       refine wpAnyL_take (i:=11) (v:=?_) rfl (by kernel_rfl) (by kernel_rfl) (by kernel_rfl) (by kernel_rfl) (fun _ _ _ h=>h) (Or.inl ⟨by kernel_rfl,?_⟩) (by assumption) ?_;rotate_left 1
       ·(rintro W ⟨s1,s2⟩;have ss1:=(fun i=>blk_cell s1 i);have ss2:=(fun i=>blk_cell s2 i);go_simp;try (with_reducible rfl))
       refine wpAnyL_take (i:=12) (v:=?_) rfl (by kernel_rfl) (by kernel_rfl) (by kernel_rfl) (by kernel_rfl) (fun _ _ _ h=>h) (Or.inl ⟨by kernel_rfl,?_⟩) (by assumption) ?_;rotate_left 1
       ·(rintro W ⟨s1,s2⟩;have ss1:=(fun i=>blk_cell s1 i);have ss2:=(fun i=>blk_cell s2 i);go_simp;try (with_reducible rfl))
       refine wpAnyL_three (i:=2) (j:=6) (k:=18) (by kernel_rfl) rfl rfl rfl (fun K hK=>?_) (fun K hK=>?_) (fun K hK=>?_)
       ·go_simp;have ca:=(Below.refl x0.heap.size x0).alloc (Nat.le_refl _) (.cells #[.string new.own,.int .i64 new.ty,.int .i64 new.cl,.int .i64 new.tt,.string new.da] 27);have kN:=blk_new x0 #[.string new.own,.int .i64 new.ty,.int .i64 new.cl,.int .i64 new.tt,.string new.da] 27;have bN:=Nm.below_two bx0 ca;have sN:=bx0.size;refine hK.out _ _ (kS.out _ bN) (fun hHeld=>?_);clear hK K;obtain⟨gA,hgA⟩:∃ g,g=x0.heap.size:=⟨_,rfl⟩;rw [<- hgA] at kN ⊢;generalize x0.alloc (.cells #[.string new.own,.int .i64 new.ty,.int .i64 new.cl,.int .i64 new.tt,.string new.da] 27)=x1 at*;have rA:=row1 kN;clear kN hgA;have bx1:=bN;clear bN;refine wpAnyL_two (i:=6) (j:=18) (by kernel_rfl) rfl rfl (fun K hK=>?_) (fun K hK=>?_)
        ·go_simp;refine(hwo x1 bx1).mono ?_;rintro e x2 ⟨vB,rfl,oB,cN⟩;obtain⟨ba,bc,rfl⟩:=own_sl oB;have rB:=CRow.of_owns oB;have rA:=rA.below cN;have bx2:=Nm.below_two bx1 cN;go_wp2_with fail
         refine hK.out _ _ (kS.out _ bx2) (fun hHeld=>?_);clear hK K oB cN;refine wpAnyL_two (i:=9) (j:=18) (by kernel_rfl) rfl rfl (fun K hK=>?_) (fun K hK=>?_)
         ·go_simp;have ca:=(Below.refl x2.heap.size x2).alloc (Nat.le_refl _) (.cells #[.slice (some ⟨gA,0,none⟩) 1 1,.slice ba WD.length bc,.slice aa add.length ac] 28);have kN:=blk_new x2 #[.slice (some ⟨gA,0,none⟩) 1 1,.slice ba WD.length bc,.slice aa add.length ac] 28;have bN:=Nm.below_two bx2 ca;have sN:=bx2.size;have rA:=rA.below ca;have rB:=rB.below ca;refine hK.out _ _ (kS.out _ bN) (fun hHeld=>?_);clear hK K;obtain⟨gC,hgC⟩:∃ g,g=x2.heap.size:=⟨_,rfl⟩;rw [<- hgC] at kN ⊢;generalize x2.alloc (.cells #[.slice (some ⟨gA,0,none⟩) 1 1,.slice ba WD.length bc,.slice aa add.length ac] 28)=x3 at*;have kC:=kN;clear kN hgC;have bx3:=bN;clear bN;refine wpAnyL_two (i:=10) (j:=18) (by kernel_rfl) rfl rfl (fun K hK=>?_) (fun K hK=>?_)
          ·go_simp;refine(hcn x3 bx3 _ _ gC kC rA rB).mono ?_;rintro e x4 ⟨vD,rfl,oD,cN⟩;obtain⟨qa,qc,rfl⟩:=own_sl oD;have rD:=CRow.of_owns oD;have bx4:=Nm.below_two bx3 cN;go_wp2_with fail
           refine hK.out _ _ (kS.out _ bx4) (fun hHeld=>?_);clear hK K oD cN rA rB kC;refine wpAnyL_two (i:=13) (j:=18) (by kernel_rfl) rfl rfl (fun K hK=>?_) (fun K hK=>?_)
           ·go_simp;refine(hbz x4 _ rD).mono ?_;rintro e x5 ⟨oz,vz,ix,rfl,pz,cN⟩;obtain⟨za,zn,zc,rfl⟩:=pz.sl;have sE:=bx4.size;have rD:=rD.below cN;have bx5:=Nm.below_two bx4 cN;go_wp2_with fail
            refine hK.out _ _ (kS.out _ bx5) (fun hHeld=>?_);clear hK K rD;refine wpAnyL_take (i:=14) (v:=?_) rfl (by kernel_rfl) (by kernel_rfl) (by kernel_rfl) (by kernel_rfl) (fun _ _ _ h=>h) (Or.inl ⟨by kernel_rfl,?_⟩) (by assumption) ?_;rotate_left 1
            ·(rintro W ⟨s1,s2⟩;have ss1:=(fun i=>blk_cell s1 i);have ss2:=(fun i=>blk_cell s2 i);go_simp;try (with_reducible rfl))
            refine wpAnyL_take (i:=15) (v:=?_) rfl (by kernel_rfl) (by kernel_rfl) (by kernel_rfl) (by kernel_rfl) (fun _ _ _ h=>h) (Or.inl ⟨by kernel_rfl,?_⟩) (by assumption) ?_;rotate_left 1
            ·(rintro W ⟨s1,s2⟩;have ss1:=(fun i=>blk_cell s1 i);have ss2:=(fun i=>blk_cell s2 i);go_simp;try (with_reducible rfl))
            refine wpAnyL_take (i:=16) (v:=?_) rfl (by kernel_rfl) (by kernel_rfl) (by kernel_rfl) (by kernel_rfl) (fun _ _ _ h=>h) (Or.inl ⟨by kernel_rfl,?_⟩) (by assumption) ?_;rotate_left 1
            ·(rintro W ⟨s1,s2⟩;have ss1:=(fun i=>blk_cell s1 i);have ss2:=(fun i=>blk_cell s2 i);go_simp;try (with_reducible rfl))
            refine wpAnyL_take (i:=17) (v:=?_) rfl (by kernel_rfl) (by kernel_rfl) (by kernel_rfl) (by kernel_rfl) (fun _ _ _ h=>h) (Or.inl ⟨by kernel_rfl,?_⟩) (by assumption) ?_;rotate_left 1
            ·(rintro W ⟨s1,s2⟩;have ss1:=(fun i=>blk_cell s1 i);have ss2:=(fun i=>blk_cell s2 i);go_simp;try (with_reducible rfl))
            refine wpAnyL_one (i:=18) (by kernel_rfl) rfl (fun K hK=>?_);go_simp;have ca:=(Below.refl x5.heap.size x5).alloc (Nat.le_refl _) (.cells #[.string ⟨#[]⟩,.slice none 0 0] 35);have kN:=blk_new x5 #[.string ⟨#[]⟩,.slice none 0 0] 35;have bN:=Nm.below_two bx5 ca;have sN:=bx5.size;refine hK.out _ _ (kS.out _ bN) (fun hHeld=>?_);clear hK K;obtain⟨gX,hgX⟩:∃ g,g=x5.heap.size:=⟨_,rfl⟩;rw [<- hgX] at kN ⊢;generalize x5.alloc (.cells #[.string ⟨#[]⟩,.slice none 0 0] 35)=x6 at*;have kX:=kN;have lX:=blk_lt kX;have lx:wb.heap.size<=gX:=by omega
            have lE:x5.heap.size<=gX:=by omega
            clear kN hgX;have bx6:=bN;clear bN;have cX:=ca;have rk:=fun i=>blk_cell kX i
            have fk:=fun i=>blk_frozen kX i
            have kF:=setAll_new [.string oz,.slice za zn zc] kX rfl;have HX:Hid (Pz R PL o (setAll x6 gX 0 [.string oz,.slice za zn zc]) wb.heap.size oz (.slice za zn zc)∧Below wb.heap.size wb (setAll x6 gX 0 [.string oz,.slice za zn zc])):=⟨(pz.below (below_setA lE [.string oz,.slice za zn zc] 0 _ cX)).base sE,below_setA lx [.string oz,.slice za zn zc] 0 _ bx6⟩;simp only [setAll,Nat.zero_add] at kF HX;refine wpAnyL_one (i:=19) (by kernel_rfl) rfl (fun K hK=>?_);go_simp;refine hK.out _ _ (kS.out _ HX.out.2) (fun hHeld=>?_);clear hK K;refine wpAnyL_take (i:=20) (v:=?_) rfl (by kernel_rfl) (by kernel_rfl) (by kernel_rfl) (by kernel_rfl) (fun _ _ _ h=>h) (Or.inl ⟨by kernel_rfl,?_⟩) (by assumption) ?_;rotate_left 1
            ·(rintro W ⟨s1,s2⟩;have ss1:=(fun i=>blk_cell s1 i);have ss2:=(fun i=>blk_cell s2 i);go_simp;try (with_reducible rfl))
            refine wpAnyL_take (i:=21) (v:=?_) rfl (by kernel_rfl) (by kernel_rfl) (by kernel_rfl) (by kernel_rfl) (fun _ _ _ h=>h) (Or.inl ⟨by kernel_rfl,?_⟩) (by assumption) ?_;rotate_left 1
            ·(rintro W ⟨s1,s2⟩;have ss1:=(fun i=>blk_cell s1 i);have ss2:=(fun i=>blk_cell s2 i);go_simp;try (with_reducible rfl))
            refine wpAnyL_done (by kernel_rfl) ?_;go_wp2_with fail
            go_meet
            case rel=>exact⟨gX,oz,_,_,rfl,rfl,rfl,lx,kF,HX.out.1,HX.out.2⟩
           ·go_simp;have ca:=(Below.refl x4.heap.size x4).alloc (Nat.le_refl _) (.cells #[.string ⟨#[]⟩,.slice none 0 0] 35);have kN:=blk_new x4 #[.string ⟨#[]⟩,.slice none 0 0] 35;have bN:=Nm.below_two bx4 ca;have sN:=bx4.size;have rD:=rD.below ca;refine hK.out _ _ (kS.out _ bN) (fun hHeld=>?_);clear hK K;obtain⟨gX,hgX⟩:∃ g,g=x4.heap.size:=⟨_,rfl⟩;rw [<- hgX] at kN ⊢;generalize x4.alloc (.cells #[.string ⟨#[]⟩,.slice none 0 0] 35)=x5 at*;have kX:=kN;have lX:=blk_lt kX;have lx:wb.heap.size<=gX:=by omega
            have lE:x4.heap.size<=gX:=by omega
            clear kN hgX;have bx5:=bN;clear bN;refine wpAnyL_one (i:=13) (by kernel_rfl) rfl (fun K hK=>?_);go_simp;have lY:=blk_lt kX;refine(hbz x5 _ rD).mono ?_;rintro e x6 ⟨oz,vz,ix,rfl,pz,cN⟩;obtain⟨za,zn,zc,rfl⟩:=pz.sl;have sE:=bx5.size;have rD:=rD.below cN;have kX:=blk_below kX cN;have bx6:=Nm.below_two bx5 cN;go_wp2_with fail
            refine hK.out _ _ (kS.out _ bx6) (fun hHeld=>?_);clear hK K rD;refine wpAnyL_take (i:=14) (v:=?_) rfl (by kernel_rfl) (by kernel_rfl) (by kernel_rfl) (by kernel_rfl) (fun _ _ _ h=>h) (Or.inl ⟨by kernel_rfl,?_⟩) (by assumption) ?_;rotate_left 1
            ·(rintro W ⟨s1,s2⟩;have ss1:=(fun i=>blk_cell s1 i);have ss2:=(fun i=>blk_cell s2 i);go_simp;try (with_reducible rfl))
            refine wpAnyL_take (i:=15) (v:=?_) rfl (by kernel_rfl) (by kernel_rfl) (by kernel_rfl) (by kernel_rfl) (fun _ _ _ h=>h) (Or.inl ⟨by kernel_rfl,?_⟩) (by assumption) ?_;rotate_left 1
            ·(rintro W ⟨s1,s2⟩;have ss1:=(fun i=>blk_cell s1 i);have ss2:=(fun i=>blk_cell s2 i);go_simp;try (with_reducible rfl))
            refine wpAnyL_take (i:=16) (v:=?_) rfl (by kernel_rfl) (by kernel_rfl) (by kernel_rfl) (by kernel_rfl) (fun _ _ _ h=>h) (Or.inl ⟨by kernel_rfl,?_⟩) (by assumption) ?_;rotate_left 1
            ·(rintro W ⟨s1,s2⟩;have ss1:=(fun i=>blk_cell s1 i);have ss2:=(fun i=>blk_cell s2 i);go_simp;try (with_reducible rfl))
            refine wpAnyL_take (i:=17) (v:=?_) rfl (by kernel_rfl) (by kernel_rfl) (by kernel_rfl) (by kernel_rfl) (fun _ _ _ h=>h) (Or.inl ⟨by kernel_rfl,?_⟩) (by assumption) ?_;rotate_left 1
            ·(rintro W ⟨s1,s2⟩;have ss1:=(fun i=>blk_cell s1 i);have ss2:=(fun i=>blk_cell s2 i);go_simp;try (with_reducible rfl))
            have rk:=fun i=>blk_cell kX i
            have fk:=fun i=>blk_frozen kX i
            have kF:=setAll_new [.string oz,.slice za zn zc] kX rfl;have HX:Hid (Pz R PL o (setAll x6 gX 0 [.string oz,.slice za zn zc]) wb.heap.size oz (.slice za zn zc)∧Below wb.heap.size wb (setAll x6 gX 0 [.string oz,.slice za zn zc])):=⟨(Pz.far (Pz.far pz (by omega)) (by omega)).base sE,below_setA lx [.string oz,.slice za zn zc] 0 _ bx6⟩;simp only [setAll,Nat.zero_add] at kF HX;refine wpAnyL_one (i:=19) (by kernel_rfl) rfl (fun K hK=>?_);go_simp;refine hK.out _ _ (kS.out _ HX.out.2) (fun hHeld=>?_);clear hK K;refine wpAnyL_take (i:=20) (v:=?_) rfl (by kernel_rfl) (by kernel_rfl) (by kernel_rfl) (by kernel_rfl) (fun _ _ _ h=>h) (Or.inl ⟨by kernel_rfl,?_⟩) (by assumption) ?_;rotate_left 1
            ·(rintro W ⟨s1,s2⟩;have ss1:=(fun i=>blk_cell s1 i);have ss2:=(fun i=>blk_cell s2 i);go_simp;try (with_reducible rfl))
            refine wpAnyL_take (i:=21) (v:=?_) rfl (by kernel_rfl) (by kernel_rfl) (by kernel_rfl) (by kernel_rfl) (fun _ _ _ h=>h) (Or.inl ⟨by kernel_rfl,?_⟩) (by assumption) ?_;rotate_left 1
            ·(rintro W ⟨s1,s2⟩;have ss1:=(fun i=>blk_cell s1 i);have ss2:=(fun i=>blk_cell s2 i);go_simp;try (with_reducible rfl))
            refine wpAnyL_done (by kernel_rfl) ?_;go_wp2_with fail
            go_meet
            case rel=>exact⟨gX,oz,_,_,rfl,rfl,rfl,lx,kF,HX.out.1,HX.out.2⟩
          ·go_simp;have ca:=(Below.refl x3.heap.size x3).alloc (Nat.le_refl _) (.cells #[.string ⟨#[]⟩,.slice none 0 0] 35);have kN:=blk_new x3 #[.string ⟨#[]⟩,.slice none 0 0] 35;have bN:=Nm.below_two bx3 ca;have sN:=bx3.size;have rA:=rA.below ca;have rB:=rB.below ca;have kC:=blk_below kC ca;refine hK.out _ _ (kS.out _ bN) (fun hHeld=>?_);clear hK K;obtain⟨gX,hgX⟩:∃ g,g=x3.heap.size:=⟨_,rfl⟩;rw [<- hgX] at kN ⊢;generalize x3.alloc (.cells #[.string ⟨#[]⟩,.slice none 0 0] 35)=x4 at*;have kX:=kN;have lX:=blk_lt kX;have lx:wb.heap.size<=gX:=by omega
           have lE:x3.heap.size<=gX:=by omega
           clear kN hgX;have bx4:=bN;clear bN;refine wpAnyL_one (i:=10) (by kernel_rfl) rfl (fun K hK=>?_);go_simp;refine(hcn x4 bx4 _ _ gC kC rA rB).mono ?_;rintro e x5 ⟨vD,rfl,oD,cN⟩;obtain⟨qa,qc,rfl⟩:=own_sl oD;have rD:=CRow.of_owns oD;have kX:=blk_below kX cN;have bx5:=Nm.below_two bx4 cN;go_wp2_with fail
           refine hK.out _ _ (kS.out _ bx5) (fun hHeld=>?_);clear hK K oD cN rA rB kC;refine wpAnyL_one (i:=13) (by kernel_rfl) rfl (fun K hK=>?_);go_simp;have lY:=blk_lt kX;refine(hbz x5 _ rD).mono ?_;rintro e x6 ⟨oz,vz,ix,rfl,pz,cN⟩;obtain⟨za,zn,zc,rfl⟩:=pz.sl;have sE:=bx5.size;have rD:=rD.below cN;have kX:=blk_below kX cN;have bx6:=Nm.below_two bx5 cN;go_wp2_with fail
           refine hK.out _ _ (kS.out _ bx6) (fun hHeld=>?_);clear hK K rD;refine wpAnyL_take (i:=14) (v:=?_) rfl (by kernel_rfl) (by kernel_rfl) (by kernel_rfl) (by kernel_rfl) (fun _ _ _ h=>h) (Or.inl ⟨by kernel_rfl,?_⟩) (by assumption) ?_;rotate_left 1
           ·(rintro W ⟨s1,s2⟩;have ss1:=(fun i=>blk_cell s1 i);have ss2:=(fun i=>blk_cell s2 i);go_simp;try (with_reducible rfl))
           refine wpAnyL_take (i:=15) (v:=?_) rfl (by kernel_rfl) (by kernel_rfl) (by kernel_rfl) (by kernel_rfl) (fun _ _ _ h=>h) (Or.inl ⟨by kernel_rfl,?_⟩) (by assumption) ?_;rotate_left 1
           ·(rintro W ⟨s1,s2⟩;have ss1:=(fun i=>blk_cell s1 i);have ss2:=(fun i=>blk_cell s2 i);go_simp;try (with_reducible rfl))
           refine wpAnyL_take (i:=16) (v:=?_) rfl (by kernel_rfl) (by kernel_rfl) (by kernel_rfl) (by kernel_rfl) (fun _ _ _ h=>h) (Or.inl ⟨by kernel_rfl,?_⟩) (by assumption) ?_;rotate_left 1
           ·(rintro W ⟨s1,s2⟩;have ss1:=(fun i=>blk_cell s1 i);have ss2:=(fun i=>blk_cell s2 i);go_simp;try (with_reducible rfl))
           refine wpAnyL_take (i:=17) (v:=?_) rfl (by kernel_rfl) (by kernel_rfl) (by kernel_rfl) (by kernel_rfl) (fun _ _ _ h=>h) (Or.inl ⟨by kernel_rfl,?_⟩) (by assumption) ?_;rotate_left 1
           ·(rintro W ⟨s1,s2⟩;have ss1:=(fun i=>blk_cell s1 i);have ss2:=(fun i=>blk_cell s2 i);go_simp;try (with_reducible rfl))
           have rk:=fun i=>blk_cell kX i
           have fk:=fun i=>blk_frozen kX i
           have kF:=setAll_new [.string oz,.slice za zn zc] kX rfl;have HX:Hid (Pz R PL o (setAll x6 gX 0 [.string oz,.slice za zn zc]) wb.heap.size oz (.slice za zn zc)∧Below wb.heap.size wb (setAll x6 gX 0 [.string oz,.slice za zn zc])):=⟨(Pz.far (Pz.far pz (by omega)) (by omega)).base sE,below_setA lx [.string oz,.slice za zn zc] 0 _ bx6⟩;simp only [setAll,Nat.zero_add] at kF HX;refine wpAnyL_one (i:=19) (by kernel_rfl) rfl (fun K hK=>?_);go_simp;refine hK.out _ _ (kS.out _ HX.out.2) (fun hHeld=>?_);clear hK K;refine wpAnyL_take (i:=20) (v:=?_) rfl (by kernel_rfl) (by kernel_rfl) (by kernel_rfl) (by kernel_rfl) (fun _ _ _ h=>h) (Or.inl ⟨by kernel_rfl,?_⟩) (by assumption) ?_;rotate_left 1
           ·(rintro W ⟨s1,s2⟩;have ss1:=(fun i=>blk_cell s1 i);have ss2:=(fun i=>blk_cell s2 i);go_simp;try (with_reducible rfl))
           refine wpAnyL_take (i:=21) (v:=?_) rfl (by kernel_rfl) (by kernel_rfl) (by kernel_rfl) (by kernel_rfl) (fun _ _ _ h=>h) (Or.inl ⟨by kernel_rfl,?_⟩) (by assumption) ?_;rotate_left 1
           ·(rintro W ⟨s1,s2⟩;have ss1:=(fun i=>blk_cell s1 i);have ss2:=(fun i=>blk_cell s2 i);go_simp;try (with_reducible rfl))
           refine wpAnyL_done (by kernel_rfl) ?_;go_wp2_with fail
           go_meet
           case rel=>exact⟨gX,oz,_,_,rfl,rfl,rfl,lx,kF,HX.out.1,HX.out.2⟩
         ·go_simp;have ca:=(Below.refl x2.heap.size x2).alloc (Nat.le_refl _) (.cells #[.string ⟨#[]⟩,.slice none 0 0] 35);have kN:=blk_new x2 #[.string ⟨#[]⟩,.slice none 0 0] 35;have bN:=Nm.below_two bx2 ca;have sN:=bx2.size;have rA:=rA.below ca;have rB:=rB.below ca;refine hK.out _ _ (kS.out _ bN) (fun hHeld=>?_);clear hK K;obtain⟨gX,hgX⟩:∃ g,g=x2.heap.size:=⟨_,rfl⟩;rw [<- hgX] at kN ⊢;generalize x2.alloc (.cells #[.string ⟨#[]⟩,.slice none 0 0] 35)=x3 at*;have kX:=kN;have lX:=blk_lt kX;have lx:wb.heap.size<=gX:=by omega
          have lE:x2.heap.size<=gX:=by omega
          clear kN hgX;have bx3:=bN;clear bN;refine wpAnyL_one (i:=9) (by kernel_rfl) rfl (fun K hK=>?_);go_simp;have ca:=(Below.refl x3.heap.size x3).alloc (Nat.le_refl _) (.cells #[.slice (some ⟨gA,0,none⟩) 1 1,.slice ba WD.length bc,.slice aa add.length ac] 28);have kN:=blk_new x3 #[.slice (some ⟨gA,0,none⟩) 1 1,.slice ba WD.length bc,.slice aa add.length ac] 28;have bN:=Nm.below_two bx3 ca;have sN:=bx3.size;have rA:=rA.below ca;have rB:=rB.below ca;have kX:=blk_below kX ca;refine hK.out _ _ (kS.out _ bN) (fun hHeld=>?_);clear hK K;obtain⟨gC,hgC⟩:∃ g,g=x3.heap.size:=⟨_,rfl⟩;rw [<- hgC] at kN ⊢;generalize x3.alloc (.cells #[.slice (some ⟨gA,0,none⟩) 1 1,.slice ba WD.length bc,.slice aa add.length ac] 28)=x4 at*;have kC:=kN;clear kN hgC;have bx4:=bN;clear bN;refine wpAnyL_one (i:=10) (by kernel_rfl) rfl (fun K hK=>?_);go_simp;refine(hcn x4 bx4 _ _ gC kC rA rB).mono ?_;rintro e x5 ⟨vD,rfl,oD,cN⟩;obtain⟨qa,qc,rfl⟩:=own_sl oD;have rD:=CRow.of_owns oD;have kX:=blk_below kX cN;have bx5:=Nm.below_two bx4 cN;go_wp2_with fail
          refine hK.out _ _ (kS.out _ bx5) (fun hHeld=>?_);clear hK K oD cN rA rB kC;refine wpAnyL_one (i:=13) (by kernel_rfl) rfl (fun K hK=>?_);go_simp;have lY:=blk_lt kX;refine(hbz x5 _ rD).mono ?_;rintro e x6 ⟨oz,vz,ix,rfl,pz,cN⟩;obtain⟨za,zn,zc,rfl⟩:=pz.sl;have sE:=bx5.size;have rD:=rD.below cN;have kX:=blk_below kX cN;have bx6:=Nm.below_two bx5 cN;go_wp2_with fail
          refine hK.out _ _ (kS.out _ bx6) (fun hHeld=>?_);clear hK K rD;refine wpAnyL_take (i:=14) (v:=?_) rfl (by kernel_rfl) (by kernel_rfl) (by kernel_rfl) (by kernel_rfl) (fun _ _ _ h=>h) (Or.inl ⟨by kernel_rfl,?_⟩) (by assumption) ?_;rotate_left 1
          ·(rintro W ⟨s1,s2⟩;have ss1:=(fun i=>blk_cell s1 i);have ss2:=(fun i=>blk_cell s2 i);go_simp;try (with_reducible rfl))
          refine wpAnyL_take (i:=15) (v:=?_) rfl (by kernel_rfl) (by kernel_rfl) (by kernel_rfl) (by kernel_rfl) (fun _ _ _ h=>h) (Or.inl ⟨by kernel_rfl,?_⟩) (by assumption) ?_;rotate_left 1
          ·(rintro W ⟨s1,s2⟩;have ss1:=(fun i=>blk_cell s1 i);have ss2:=(fun i=>blk_cell s2 i);go_simp;try (with_reducible rfl))
          refine wpAnyL_take (i:=16) (v:=?_) rfl (by kernel_rfl) (by kernel_rfl) (by kernel_rfl) (by kernel_rfl) (fun _ _ _ h=>h) (Or.inl ⟨by kernel_rfl,?_⟩) (by assumption) ?_;rotate_left 1
          ·(rintro W ⟨s1,s2⟩;have ss1:=(fun i=>blk_cell s1 i);have ss2:=(fun i=>blk_cell s2 i);go_simp;try (with_reducible rfl))
          refine wpAnyL_take (i:=17) (v:=?_) rfl (by kernel_rfl) (by kernel_rfl) (by kernel_rfl) (by kernel_rfl) (fun _ _ _ h=>h) (Or.inl ⟨by kernel_rfl,?_⟩) (by assumption) ?_;rotate_left 1
          ·(rintro W ⟨s1,s2⟩;have ss1:=(fun i=>blk_cell s1 i);have ss2:=(fun i=>blk_cell s2 i);go_simp;try (with_reducible rfl))
          have rk:=fun i=>blk_cell kX i
          have fk:=fun i=>blk_frozen kX i
          have kF:=setAll_new [.string oz,.slice za zn zc] kX rfl;have HX:Hid (Pz R PL o (setAll x6 gX 0 [.string oz,.slice za zn zc]) wb.heap.size oz (.slice za zn zc)∧Below wb.heap.size wb (setAll x6 gX 0 [.string oz,.slice za zn zc])):=⟨(Pz.far (Pz.far pz (by omega)) (by omega)).base sE,below_setA lx [.string oz,.slice za zn zc] 0 _ bx6⟩;simp only [setAll,Nat.zero_add] at kF HX;refine wpAnyL_one (i:=19) (by kernel_rfl) rfl (fun K hK=>?_);go_simp;refine hK.out _ _ (kS.out _ HX.out.2) (fun hHeld=>?_);clear hK K;refine wpAnyL_take (i:=20) (v:=?_) rfl (by kernel_rfl) (by kernel_rfl) (by kernel_rfl) (by kernel_rfl) (fun _ _ _ h=>h) (Or.inl ⟨by kernel_rfl,?_⟩) (by assumption) ?_;rotate_left 1
          ·(rintro W ⟨s1,s2⟩;have ss1:=(fun i=>blk_cell s1 i);have ss2:=(fun i=>blk_cell s2 i);go_simp;try (with_reducible rfl))
          refine wpAnyL_take (i:=21) (v:=?_) rfl (by kernel_rfl) (by kernel_rfl) (by kernel_rfl) (by kernel_rfl) (fun _ _ _ h=>h) (Or.inl ⟨by kernel_rfl,?_⟩) (by assumption) ?_;rotate_left 1
          ·(rintro W ⟨s1,s2⟩;have ss1:=(fun i=>blk_cell s1 i);have ss2:=(fun i=>blk_cell s2 i);go_simp;try (with_reducible rfl))
          refine wpAnyL_done (by kernel_rfl) ?_;go_wp2_with fail
          go_meet
          case rel=>exact⟨gX,oz,_,_,rfl,rfl,rfl,lx,kF,HX.out.1,HX.out.2⟩
        ·go_simp;have ca:=(Below.refl x1.heap.size x1).alloc (Nat.le_refl _) (.cells #[.string ⟨#[]⟩,.slice none 0 0] 35);have kN:=blk_new x1 #[.string ⟨#[]⟩,.slice none 0 0] 35;have bN:=Nm.below_two bx1 ca;have sN:=bx1.size;have rA:=rA.below ca;refine hK.out _ _ (kS.out _ bN) (fun hHeld=>?_);clear hK K;obtain⟨gX,hgX⟩:∃ g,g=x1.heap.size:=⟨_,rfl⟩;rw [<- hgX] at kN ⊢;generalize x1.alloc (.cells #[.string ⟨#[]⟩,.slice none 0 0] 35)=x2 at*;have kX:=kN;have lX:=blk_lt kX;have lx:wb.heap.size<=gX:=by omega
         have lE:x1.heap.size<=gX:=by omega
         clear kN hgX;have bx2:=bN;clear bN;refine wpAnyL_one (i:=6) (by kernel_rfl) rfl (fun K hK=>?_);go_simp;refine(hwo x2 bx2).mono ?_;rintro e x3 ⟨vB,rfl,oB,cN⟩;obtain⟨ba,bc,rfl⟩:=own_sl oB;have rB:=CRow.of_owns oB;have rA:=rA.below cN;have kX:=blk_below kX cN;have bx3:=Nm.below_two bx2 cN;go_wp2_with fail
         refine hK.out _ _ (kS.out _ bx3) (fun hHeld=>?_);clear hK K oB cN;refine wpAnyL_one (i:=9) (by kernel_rfl) rfl (fun K hK=>?_);go_simp;have ca:=(Below.refl x3.heap.size x3).alloc (Nat.le_refl _) (.cells #[.slice (some ⟨gA,0,none⟩) 1 1,.slice ba WD.length bc,.slice aa add.length ac] 28);have kN:=blk_new x3 #[.slice (some ⟨gA,0,none⟩) 1 1,.slice ba WD.length bc,.slice aa add.length ac] 28;have bN:=Nm.below_two bx3 ca;have sN:=bx3.size;have rA:=rA.below ca;have rB:=rB.below ca;have kX:=blk_below kX ca;refine hK.out _ _ (kS.out _ bN) (fun hHeld=>?_);clear hK K;obtain⟨gC,hgC⟩:∃ g,g=x3.heap.size:=⟨_,rfl⟩;rw [<- hgC] at kN ⊢;generalize x3.alloc (.cells #[.slice (some ⟨gA,0,none⟩) 1 1,.slice ba WD.length bc,.slice aa add.length ac] 28)=x4 at*;have kC:=kN;clear kN hgC;have bx4:=bN;clear bN;refine wpAnyL_one (i:=10) (by kernel_rfl) rfl (fun K hK=>?_);go_simp;refine(hcn x4 bx4 _ _ gC kC rA rB).mono ?_;rintro e x5 ⟨vD,rfl,oD,cN⟩;obtain⟨qa,qc,rfl⟩:=own_sl oD;have rD:=CRow.of_owns oD;have kX:=blk_below kX cN;have bx5:=Nm.below_two bx4 cN;go_wp2_with fail
         refine hK.out _ _ (kS.out _ bx5) (fun hHeld=>?_);clear hK K oD cN rA rB kC;refine wpAnyL_one (i:=13) (by kernel_rfl) rfl (fun K hK=>?_);go_simp;have lY:=blk_lt kX;refine(hbz x5 _ rD).mono ?_;rintro e x6 ⟨oz,vz,ix,rfl,pz,cN⟩;obtain⟨za,zn,zc,rfl⟩:=pz.sl;have sE:=bx5.size;have rD:=rD.below cN;have kX:=blk_below kX cN;have bx6:=Nm.below_two bx5 cN;go_wp2_with fail
         refine hK.out _ _ (kS.out _ bx6) (fun hHeld=>?_);clear hK K rD;refine wpAnyL_take (i:=14) (v:=?_) rfl (by kernel_rfl) (by kernel_rfl) (by kernel_rfl) (by kernel_rfl) (fun _ _ _ h=>h) (Or.inl ⟨by kernel_rfl,?_⟩) (by assumption) ?_;rotate_left 1
         ·(rintro W ⟨s1,s2⟩;have ss1:=(fun i=>blk_cell s1 i);have ss2:=(fun i=>blk_cell s2 i);go_simp;try (with_reducible rfl))
         refine wpAnyL_take (i:=15) (v:=?_) rfl (by kernel_rfl) (by kernel_rfl) (by kernel_rfl) (by kernel_rfl) (fun _ _ _ h=>h) (Or.inl ⟨by kernel_rfl,?_⟩) (by assumption) ?_;rotate_left 1
         ·(rintro W ⟨s1,s2⟩;have ss1:=(fun i=>blk_cell s1 i);have ss2:=(fun i=>blk_cell s2 i);go_simp;try (with_reducible rfl))
         refine wpAnyL_take (i:=16) (v:=?_) rfl (by kernel_rfl) (by kernel_rfl) (by kernel_rfl) (by kernel_rfl) (fun _ _ _ h=>h) (Or.inl ⟨by kernel_rfl,?_⟩) (by assumption) ?_;rotate_left 1
         ·(rintro W ⟨s1,s2⟩;have ss1:=(fun i=>blk_cell s1 i);have ss2:=(fun i=>blk_cell s2 i);go_simp;try (with_reducible rfl))
         refine wpAnyL_take (i:=17) (v:=?_) rfl (by kernel_rfl) (by kernel_rfl) (by kernel_rfl) (by kernel_rfl) (fun _ _ _ h=>h) (Or.inl ⟨by kernel_rfl,?_⟩) (by assumption) ?_;rotate_left 1
         ·(rintro W ⟨s1,s2⟩;have ss1:=(fun i=>blk_cell s1 i);have ss2:=(fun i=>blk_cell s2 i);go_simp;try (with_reducible rfl))
         have rk:=fun i=>blk_cell kX i
         have fk:=fun i=>blk_frozen kX i
         have kF:=setAll_new [.string oz,.slice za zn zc] kX rfl;have HX:Hid (Pz R PL o (setAll x6 gX 0 [.string oz,.slice za zn zc]) wb.heap.size oz (.slice za zn zc)∧Below wb.heap.size wb (setAll x6 gX 0 [.string oz,.slice za zn zc])):=⟨(Pz.far (Pz.far pz (by omega)) (by omega)).base sE,below_setA lx [.string oz,.slice za zn zc] 0 _ bx6⟩;simp only [setAll,Nat.zero_add] at kF HX;refine wpAnyL_one (i:=19) (by kernel_rfl) rfl (fun K hK=>?_);go_simp;refine hK.out _ _ (kS.out _ HX.out.2) (fun hHeld=>?_);clear hK K;refine wpAnyL_take (i:=20) (v:=?_) rfl (by kernel_rfl) (by kernel_rfl) (by kernel_rfl) (by kernel_rfl) (fun _ _ _ h=>h) (Or.inl ⟨by kernel_rfl,?_⟩) (by assumption) ?_;rotate_left 1
         ·(rintro W ⟨s1,s2⟩;have ss1:=(fun i=>blk_cell s1 i);have ss2:=(fun i=>blk_cell s2 i);go_simp;try (with_reducible rfl))
         refine wpAnyL_take (i:=21) (v:=?_) rfl (by kernel_rfl) (by kernel_rfl) (by kernel_rfl) (by kernel_rfl) (fun _ _ _ h=>h) (Or.inl ⟨by kernel_rfl,?_⟩) (by assumption) ?_;rotate_left 1
         ·(rintro W ⟨s1,s2⟩;have ss1:=(fun i=>blk_cell s1 i);have ss2:=(fun i=>blk_cell s2 i);go_simp;try (with_reducible rfl))
         refine wpAnyL_done (by kernel_rfl) ?_;go_wp2_with fail
         go_meet
         case rel=>exact⟨gX,oz,_,_,rfl,rfl,rfl,lx,kF,HX.out.1,HX.out.2⟩
       ·go_simp;refine(hwo x0 bx0).mono ?_;rintro e x1 ⟨vB,rfl,oB,cN⟩;obtain⟨ba,bc,rfl⟩:=own_sl oB;have rB:=CRow.of_owns oB;have bx1:=Nm.below_two bx0 cN;go_wp2_with fail
        refine hK.out _ _ (kS.out _ bx1) (fun hHeld=>?_);clear hK K oB cN;refine wpAnyL_two (i:=2) (j:=18) (by kernel_rfl) rfl rfl (fun K hK=>?_) (fun K hK=>?_)
        ·go_simp;have ca:=(Below.refl x1.heap.size x1).alloc (Nat.le_refl _) (.cells #[.string new.own,.int .i64 new.ty,.int .i64 new.cl,.int .i64 new.tt,.string new.da] 27);have kN:=blk_new x1 #[.string new.own,.int .i64 new.ty,.int .i64 new.cl,.int .i64 new.tt,.string new.da] 27;have bN:=Nm.below_two bx1 ca;have sN:=bx1.size;have rB:=rB.below ca;refine hK.out _ _ (kS.out _ bN) (fun hHeld=>?_);clear hK K;obtain⟨gA,hgA⟩:∃ g,g=x1.heap.size:=⟨_,rfl⟩;rw [<- hgA] at kN ⊢;generalize x1.alloc (.cells #[.string new.own,.int .i64 new.ty,.int .i64 new.cl,.int .i64 new.tt,.string new.da] 27)=x2 at*;have rA:=row1 kN;clear kN hgA;have bx2:=bN;clear bN;refine wpAnyL_two (i:=9) (j:=18) (by kernel_rfl) rfl rfl (fun K hK=>?_) (fun K hK=>?_)
         ·go_simp;have ca:=(Below.refl x2.heap.size x2).alloc (Nat.le_refl _) (.cells #[.slice (some ⟨gA,0,none⟩) 1 1,.slice ba WD.length bc,.slice aa add.length ac] 28);have kN:=blk_new x2 #[.slice (some ⟨gA,0,none⟩) 1 1,.slice ba WD.length bc,.slice aa add.length ac] 28;have bN:=Nm.below_two bx2 ca;have sN:=bx2.size;have rA:=rA.below ca;have rB:=rB.below ca;refine hK.out _ _ (kS.out _ bN) (fun hHeld=>?_);clear hK K;obtain⟨gC,hgC⟩:∃ g,g=x2.heap.size:=⟨_,rfl⟩;rw [<- hgC] at kN ⊢;generalize x2.alloc (.cells #[.slice (some ⟨gA,0,none⟩) 1 1,.slice ba WD.length bc,.slice aa add.length ac] 28)=x3 at*;have kC:=kN;clear kN hgC;have bx3:=bN;clear bN;refine wpAnyL_two (i:=10) (j:=18) (by kernel_rfl) rfl rfl (fun K hK=>?_) (fun K hK=>?_)
          ·go_simp;refine(hcn x3 bx3 _ _ gC kC rA rB).mono ?_;rintro e x4 ⟨vD,rfl,oD,cN⟩;obtain⟨qa,qc,rfl⟩:=own_sl oD;have rD:=CRow.of_owns oD;have bx4:=Nm.below_two bx3 cN;go_wp2_with fail
           refine hK.out _ _ (kS.out _ bx4) (fun hHeld=>?_);clear hK K oD cN rA rB kC;refine wpAnyL_two (i:=13) (j:=18) (by kernel_rfl) rfl rfl (fun K hK=>?_) (fun K hK=>?_)
           ·go_simp;refine(hbz x4 _ rD).mono ?_;rintro e x5 ⟨oz,vz,ix,rfl,pz,cN⟩;obtain⟨za,zn,zc,rfl⟩:=pz.sl;have sE:=bx4.size;have rD:=rD.below cN;have bx5:=Nm.below_two bx4 cN;go_wp2_with fail
            refine hK.out _ _ (kS.out _ bx5) (fun hHeld=>?_);clear hK K rD;refine wpAnyL_take (i:=14) (v:=?_) rfl (by kernel_rfl) (by kernel_rfl) (by kernel_rfl) (by kernel_rfl) (fun _ _ _ h=>h) (Or.inl ⟨by kernel_rfl,?_⟩) (by assumption) ?_;rotate_left 1
            ·(rintro W ⟨s1,s2⟩;have ss1:=(fun i=>blk_cell s1 i);have ss2:=(fun i=>blk_cell s2 i);go_simp;try (with_reducible rfl))
            refine wpAnyL_take (i:=15) (v:=?_) rfl (by kernel_rfl) (by kernel_rfl) (by kernel_rfl) (by kernel_rfl) (fun _ _ _ h=>h) (Or.inl ⟨by kernel_rfl,?_⟩) (by assumption) ?_;rotate_left 1
            ·(rintro W ⟨s1,s2⟩;have ss1:=(fun i=>blk_cell s1 i);have ss2:=(fun i=>blk_cell s2 i);go_simp;try (with_reducible rfl))
            refine wpAnyL_take (i:=16) (v:=?_) rfl (by kernel_rfl) (by kernel_rfl) (by kernel_rfl) (by kernel_rfl) (fun _ _ _ h=>h) (Or.inl ⟨by kernel_rfl,?_⟩) (by assumption) ?_;rotate_left 1
            ·(rintro W ⟨s1,s2⟩;have ss1:=(fun i=>blk_cell s1 i);have ss2:=(fun i=>blk_cell s2 i);go_simp;try (with_reducible rfl))
            refine wpAnyL_take (i:=17) (v:=?_) rfl (by kernel_rfl) (by kernel_rfl) (by kernel_rfl) (by kernel_rfl) (fun _ _ _ h=>h) (Or.inl ⟨by kernel_rfl,?_⟩) (by assumption) ?_;rotate_left 1
            ·(rintro W ⟨s1,s2⟩;have ss1:=(fun i=>blk_cell s1 i);have ss2:=(fun i=>blk_cell s2 i);go_simp;try (with_reducible rfl))
            refine wpAnyL_one (i:=18) (by kernel_rfl) rfl (fun K hK=>?_);go_simp;have ca:=(Below.refl x5.heap.size x5).alloc (Nat.le_refl _) (.cells #[.string ⟨#[]⟩,.slice none 0 0] 35);have kN:=blk_new x5 #[.string ⟨#[]⟩,.slice none 0 0] 35;have bN:=Nm.below_two bx5 ca;have sN:=bx5.size;refine hK.out _ _ (kS.out _ bN) (fun hHeld=>?_);clear hK K;obtain⟨gX,hgX⟩:∃ g,g=x5.heap.size:=⟨_,rfl⟩;rw [<- hgX] at kN ⊢;generalize x5.alloc (.cells #[.string ⟨#[]⟩,.slice none 0 0] 35)=x6 at*;have kX:=kN;have lX:=blk_lt kX;have lx:wb.heap.size<=gX:=by omega
            have lE:x5.heap.size<=gX:=by omega
            clear kN hgX;have bx6:=bN;clear bN;have cX:=ca;have rk:=fun i=>blk_cell kX i
            have fk:=fun i=>blk_frozen kX i
            have kF:=setAll_new [.string oz,.slice za zn zc] kX rfl;have HX:Hid (Pz R PL o (setAll x6 gX 0 [.string oz,.slice za zn zc]) wb.heap.size oz (.slice za zn zc)∧Below wb.heap.size wb (setAll x6 gX 0 [.string oz,.slice za zn zc])):=⟨(pz.below (below_setA lE [.string oz,.slice za zn zc] 0 _ cX)).base sE,below_setA lx [.string oz,.slice za zn zc] 0 _ bx6⟩;simp only [setAll,Nat.zero_add] at kF HX;refine wpAnyL_one (i:=19) (by kernel_rfl) rfl (fun K hK=>?_);go_simp;refine hK.out _ _ (kS.out _ HX.out.2) (fun hHeld=>?_);clear hK K;refine wpAnyL_take (i:=20) (v:=?_) rfl (by kernel_rfl) (by kernel_rfl) (by kernel_rfl) (by kernel_rfl) (fun _ _ _ h=>h) (Or.inl ⟨by kernel_rfl,?_⟩) (by assumption) ?_;rotate_left 1
            ·(rintro W ⟨s1,s2⟩;have ss1:=(fun i=>blk_cell s1 i);have ss2:=(fun i=>blk_cell s2 i);go_simp;try (with_reducible rfl))
            refine wpAnyL_take (i:=21) (v:=?_) rfl (by kernel_rfl) (by kernel_rfl) (by kernel_rfl) (by kernel_rfl) (fun _ _ _ h=>h) (Or.inl ⟨by kernel_rfl,?_⟩) (by assumption) ?_;rotate_left 1
            ·(rintro W ⟨s1,s2⟩;have ss1:=(fun i=>blk_cell s1 i);have ss2:=(fun i=>blk_cell s2 i);go_simp;try (with_reducible rfl))
            refine wpAnyL_done (by kernel_rfl) ?_;go_wp2_with fail
            go_meet
            case rel=>exact⟨gX,oz,_,_,rfl,rfl,rfl,lx,kF,HX.out.1,HX.out.2⟩
           ·go_simp;have ca:=(Below.refl x4.heap.size x4).alloc (Nat.le_refl _) (.cells #[.string ⟨#[]⟩,.slice none 0 0] 35);have kN:=blk_new x4 #[.string ⟨#[]⟩,.slice none 0 0] 35;have bN:=Nm.below_two bx4 ca;have sN:=bx4.size;have rD:=rD.below ca;refine hK.out _ _ (kS.out _ bN) (fun hHeld=>?_);clear hK K;obtain⟨gX,hgX⟩:∃ g,g=x4.heap.size:=⟨_,rfl⟩;rw [<- hgX] at kN ⊢;generalize x4.alloc (.cells #[.string ⟨#[]⟩,.slice none 0 0] 35)=x5 at*;have kX:=kN;have lX:=blk_lt kX;have lx:wb.heap.size<=gX:=by omega
            have lE:x4.heap.size<=gX:=by omega
            clear kN hgX;have bx5:=bN;clear bN;refine wpAnyL_one (i:=13) (by kernel_rfl) rfl (fun K hK=>?_);go_simp;have lY:=blk_lt kX;refine(hbz x5 _ rD).mono ?_;rintro e x6 ⟨oz,vz,ix,rfl,pz,cN⟩;obtain⟨za,zn,zc,rfl⟩:=pz.sl;have sE:=bx5.size;have rD:=rD.below cN;have kX:=blk_below kX cN;have bx6:=Nm.below_two bx5 cN;go_wp2_with fail
            refine hK.out _ _ (kS.out _ bx6) (fun hHeld=>?_);clear hK K rD;refine wpAnyL_take (i:=14) (v:=?_) rfl (by kernel_rfl) (by kernel_rfl) (by kernel_rfl) (by kernel_rfl) (fun _ _ _ h=>h) (Or.inl ⟨by kernel_rfl,?_⟩) (by assumption) ?_;rotate_left 1
            ·(rintro W ⟨s1,s2⟩;have ss1:=(fun i=>blk_cell s1 i);have ss2:=(fun i=>blk_cell s2 i);go_simp;try (with_reducible rfl))
            refine wpAnyL_take (i:=15) (v:=?_) rfl (by kernel_rfl) (by kernel_rfl) (by kernel_rfl) (by kernel_rfl) (fun _ _ _ h=>h) (Or.inl ⟨by kernel_rfl,?_⟩) (by assumption) ?_;rotate_left 1
            ·(rintro W ⟨s1,s2⟩;have ss1:=(fun i=>blk_cell s1 i);have ss2:=(fun i=>blk_cell s2 i);go_simp;try (with_reducible rfl))
            refine wpAnyL_take (i:=16) (v:=?_) rfl (by kernel_rfl) (by kernel_rfl) (by kernel_rfl) (by kernel_rfl) (fun _ _ _ h=>h) (Or.inl ⟨by kernel_rfl,?_⟩) (by assumption) ?_;rotate_left 1
            ·(rintro W ⟨s1,s2⟩;have ss1:=(fun i=>blk_cell s1 i);have ss2:=(fun i=>blk_cell s2 i);go_simp;try (with_reducible rfl))
            refine wpAnyL_take (i:=17) (v:=?_) rfl (by kernel_rfl) (by kernel_rfl) (by kernel_rfl) (by kernel_rfl) (fun _ _ _ h=>h) (Or.inl ⟨by kernel_rfl,?_⟩) (by assumption) ?_;rotate_left 1
            ·(rintro W ⟨s1,s2⟩;have ss1:=(fun i=>blk_cell s1 i);have ss2:=(fun i=>blk_cell s2 i);go_simp;try (with_reducible rfl))
            have rk:=fun i=>blk_cell kX i
            have fk:=fun i=>blk_frozen kX i
            have kF:=setAll_new [.string oz,.slice za zn zc] kX rfl;have HX:Hid (Pz R PL o (setAll x6 gX 0 [.string oz,.slice za zn zc]) wb.heap.size oz (.slice za zn zc)∧Below wb.heap.size wb (setAll x6 gX 0 [.string oz,.slice za zn zc])):=⟨(Pz.far (Pz.far pz (by omega)) (by omega)).base sE,below_setA lx [.string oz,.slice za zn zc] 0 _ bx6⟩;simp only [setAll,Nat.zero_add] at kF HX;refine wpAnyL_one (i:=19) (by kernel_rfl) rfl (fun K hK=>?_);go_simp;refine hK.out _ _ (kS.out _ HX.out.2) (fun hHeld=>?_);clear hK K;refine wpAnyL_take (i:=20) (v:=?_) rfl (by kernel_rfl) (by kernel_rfl) (by kernel_rfl) (by kernel_rfl) (fun _ _ _ h=>h) (Or.inl ⟨by kernel_rfl,?_⟩) (by assumption) ?_;rotate_left 1
            ·(rintro W ⟨s1,s2⟩;have ss1:=(fun i=>blk_cell s1 i);have ss2:=(fun i=>blk_cell s2 i);go_simp;try (with_reducible rfl))
            refine wpAnyL_take (i:=21) (v:=?_) rfl (by kernel_rfl) (by kernel_rfl) (by kernel_rfl) (by kernel_rfl) (fun _ _ _ h=>h) (Or.inl ⟨by kernel_rfl,?_⟩) (by assumption) ?_;rotate_left 1
            ·(rintro W ⟨s1,s2⟩;have ss1:=(fun i=>blk_cell s1 i);have ss2:=(fun i=>blk_cell s2 i);go_simp;try (with_reducible rfl))
            refine wpAnyL_done (by kernel_rfl) ?_;go_wp2_with fail
            go_meet
            case rel=>exact⟨gX,oz,_,_,rfl,rfl,rfl,lx,kF,HX.out.1,HX.out.2⟩
          ·go_simp;have ca:=(Below.refl x3.heap.size x3).alloc (Nat.le_refl _) (.cells #[.string ⟨#[]⟩,.slice none 0 0] 35);have kN:=blk_new x3 #[.string ⟨#[]⟩,.slice none 0 0] 35;have bN:=Nm.below_two bx3 ca;have sN:=bx3.size;have rA:=rA.below ca;have rB:=rB.below ca;have kC:=blk_below kC ca;refine hK.out _ _ (kS.out _ bN) (fun hHeld=>?_);clear hK K;obtain⟨gX,hgX⟩:∃ g,g=x3.heap.size:=⟨_,rfl⟩;rw [<- hgX] at kN ⊢;generalize x3.alloc (.cells #[.string ⟨#[]⟩,.slice none 0 0] 35)=x4 at*;have kX:=kN;have lX:=blk_lt kX;have lx:wb.heap.size<=gX:=by omega
           have lE:x3.heap.size<=gX:=by omega
           clear kN hgX;have bx4:=bN;clear bN;refine wpAnyL_one (i:=10) (by kernel_rfl) rfl (fun K hK=>?_);go_simp;refine(hcn x4 bx4 _ _ gC kC rA rB).mono ?_;rintro e x5 ⟨vD,rfl,oD,cN⟩;obtain⟨qa,qc,rfl⟩:=own_sl oD;have rD:=CRow.of_owns oD;have kX:=blk_below kX cN;have bx5:=Nm.below_two bx4 cN;go_wp2_with fail
           refine hK.out _ _ (kS.out _ bx5) (fun hHeld=>?_);clear hK K oD cN rA rB kC;refine wpAnyL_one (i:=13) (by kernel_rfl) rfl (fun K hK=>?_);go_simp;have lY:=blk_lt kX;refine(hbz x5 _ rD).mono ?_;rintro e x6 ⟨oz,vz,ix,rfl,pz,cN⟩;obtain⟨za,zn,zc,rfl⟩:=pz.sl;have sE:=bx5.size;have rD:=rD.below cN;have kX:=blk_below kX cN;have bx6:=Nm.below_two bx5 cN;go_wp2_with fail
           refine hK.out _ _ (kS.out _ bx6) (fun hHeld=>?_);clear hK K rD;refine wpAnyL_take (i:=14) (v:=?_) rfl (by kernel_rfl) (by kernel_rfl) (by kernel_rfl) (by kernel_rfl) (fun _ _ _ h=>h) (Or.inl ⟨by kernel_rfl,?_⟩) (by assumption) ?_;rotate_left 1
           ·(rintro W ⟨s1,s2⟩;have ss1:=(fun i=>blk_cell s1 i);have ss2:=(fun i=>blk_cell s2 i);go_simp;try (with_reducible rfl))
           refine wpAnyL_take (i:=15) (v:=?_) rfl (by kernel_rfl) (by kernel_rfl) (by kernel_rfl) (by kernel_rfl) (fun _ _ _ h=>h) (Or.inl ⟨by kernel_rfl,?_⟩) (by assumption) ?_;rotate_left 1
           ·(rintro W ⟨s1,s2⟩;have ss1:=(fun i=>blk_cell s1 i);have ss2:=(fun i=>blk_cell s2 i);go_simp;try (with_reducible rfl))
           refine wpAnyL_take (i:=16) (v:=?_) rfl (by kernel_rfl) (by kernel_rfl) (by kernel_rfl) (by kernel_rfl) (fun _ _ _ h=>h) (Or.inl ⟨by kernel_rfl,?_⟩) (by assumption) ?_;rotate_left 1
           ·(rintro W ⟨s1,s2⟩;have ss1:=(fun i=>blk_cell s1 i);have ss2:=(fun i=>blk_cell s2 i);go_simp;try (with_reducible rfl))
           refine wpAnyL_take (i:=17) (v:=?_) rfl (by kernel_rfl) (by kernel_rfl) (by kernel_rfl) (by kernel_rfl) (fun _ _ _ h=>h) (Or.inl ⟨by kernel_rfl,?_⟩) (by assumption) ?_;rotate_left 1
           ·(rintro W ⟨s1,s2⟩;have ss1:=(fun i=>blk_cell s1 i);have ss2:=(fun i=>blk_cell s2 i);go_simp;try (with_reducible rfl))
           have rk:=fun i=>blk_cell kX i
           have fk:=fun i=>blk_frozen kX i
           have kF:=setAll_new [.string oz,.slice za zn zc] kX rfl;have HX:Hid (Pz R PL o (setAll x6 gX 0 [.string oz,.slice za zn zc]) wb.heap.size oz (.slice za zn zc)∧Below wb.heap.size wb (setAll x6 gX 0 [.string oz,.slice za zn zc])):=⟨(Pz.far (Pz.far pz (by omega)) (by omega)).base sE,below_setA lx [.string oz,.slice za zn zc] 0 _ bx6⟩;simp only [setAll,Nat.zero_add] at kF HX;refine wpAnyL_one (i:=19) (by kernel_rfl) rfl (fun K hK=>?_);go_simp;refine hK.out _ _ (kS.out _ HX.out.2) (fun hHeld=>?_);clear hK K;refine wpAnyL_take (i:=20) (v:=?_) rfl (by kernel_rfl) (by kernel_rfl) (by kernel_rfl) (by kernel_rfl) (fun _ _ _ h=>h) (Or.inl ⟨by kernel_rfl,?_⟩) (by assumption) ?_;rotate_left 1
           ·(rintro W ⟨s1,s2⟩;have ss1:=(fun i=>blk_cell s1 i);have ss2:=(fun i=>blk_cell s2 i);go_simp;try (with_reducible rfl))
           refine wpAnyL_take (i:=21) (v:=?_) rfl (by kernel_rfl) (by kernel_rfl) (by kernel_rfl) (by kernel_rfl) (fun _ _ _ h=>h) (Or.inl ⟨by kernel_rfl,?_⟩) (by assumption) ?_;rotate_left 1
           ·(rintro W ⟨s1,s2⟩;have ss1:=(fun i=>blk_cell s1 i);have ss2:=(fun i=>blk_cell s2 i);go_simp;try (with_reducible rfl))
           refine wpAnyL_done (by kernel_rfl) ?_;go_wp2_with fail
           go_meet
           case rel=>exact⟨gX,oz,_,_,rfl,rfl,rfl,lx,kF,HX.out.1,HX.out.2⟩
         ·go_simp;have ca:=(Below.refl x2.heap.size x2).alloc (Nat.le_refl _) (.cells #[.string ⟨#[]⟩,.slice none 0 0] 35);have kN:=blk_new x2 #[.string ⟨#[]⟩,.slice none 0 0] 35;have bN:=Nm.below_two bx2 ca;have sN:=bx2.size;have rA:=rA.below ca;have rB:=rB.below ca;refine hK.out _ _ (kS.out _ bN) (fun hHeld=>?_);clear hK K;obtain⟨gX,hgX⟩:∃ g,g=x2.heap.size:=⟨_,rfl⟩;rw [<- hgX] at kN ⊢;generalize x2.alloc (.cells #[.string ⟨#[]⟩,.slice none 0 0] 35)=x3 at*;have kX:=kN;have lX:=blk_lt kX;have lx:wb.heap.size<=gX:=by omega
          have lE:x2.heap.size<=gX:=by omega
          clear kN hgX;have bx3:=bN;clear bN;refine wpAnyL_one (i:=9) (by kernel_rfl) rfl (fun K hK=>?_);go_simp;have ca:=(Below.refl x3.heap.size x3).alloc (Nat.le_refl _) (.cells #[.slice (some ⟨gA,0,none⟩) 1 1,.slice ba WD.length bc,.slice aa add.length ac] 28);have kN:=blk_new x3 #[.slice (some ⟨gA,0,none⟩) 1 1,.slice ba WD.length bc,.slice aa add.length ac] 28;have bN:=Nm.below_two bx3 ca;have sN:=bx3.size;have rA:=rA.below ca;have rB:=rB.below ca;have kX:=blk_below kX ca;refine hK.out _ _ (kS.out _ bN) (fun hHeld=>?_);clear hK K;obtain⟨gC,hgC⟩:∃ g,g=x3.heap.size:=⟨_,rfl⟩;rw [<- hgC] at kN ⊢;generalize x3.alloc (.cells #[.slice (some ⟨gA,0,none⟩) 1 1,.slice ba WD.length bc,.slice aa add.length ac] 28)=x4 at*;have kC:=kN;clear kN hgC;have bx4:=bN;clear bN;refine wpAnyL_one (i:=10) (by kernel_rfl) rfl (fun K hK=>?_);go_simp;refine(hcn x4 bx4 _ _ gC kC rA rB).mono ?_;rintro e x5 ⟨vD,rfl,oD,cN⟩;obtain⟨qa,qc,rfl⟩:=own_sl oD;have rD:=CRow.of_owns oD;have kX:=blk_below kX cN;have bx5:=Nm.below_two bx4 cN;go_wp2_with fail
          refine hK.out _ _ (kS.out _ bx5) (fun hHeld=>?_);clear hK K oD cN rA rB kC;refine wpAnyL_one (i:=13) (by kernel_rfl) rfl (fun K hK=>?_);go_simp;have lY:=blk_lt kX;refine(hbz x5 _ rD).mono ?_;rintro e x6 ⟨oz,vz,ix,rfl,pz,cN⟩;obtain⟨za,zn,zc,rfl⟩:=pz.sl;have sE:=bx5.size;have rD:=rD.below cN;have kX:=blk_below kX cN;have bx6:=Nm.below_two bx5 cN;go_wp2_with fail
          refine hK.out _ _ (kS.out _ bx6) (fun hHeld=>?_);clear hK K rD;refine wpAnyL_take (i:=14) (v:=?_) rfl (by kernel_rfl) (by kernel_rfl) (by kernel_rfl) (by kernel_rfl) (fun _ _ _ h=>h) (Or.inl ⟨by kernel_rfl,?_⟩) (by assumption) ?_;rotate_left 1
          ·(rintro W ⟨s1,s2⟩;have ss1:=(fun i=>blk_cell s1 i);have ss2:=(fun i=>blk_cell s2 i);go_simp;try (with_reducible rfl))
          refine wpAnyL_take (i:=15) (v:=?_) rfl (by kernel_rfl) (by kernel_rfl) (by kernel_rfl) (by kernel_rfl) (fun _ _ _ h=>h) (Or.inl ⟨by kernel_rfl,?_⟩) (by assumption) ?_;rotate_left 1
          ·(rintro W ⟨s1,s2⟩;have ss1:=(fun i=>blk_cell s1 i);have ss2:=(fun i=>blk_cell s2 i);go_simp;try (with_reducible rfl))
          refine wpAnyL_take (i:=16) (v:=?_) rfl (by kernel_rfl) (by kernel_rfl) (by kernel_rfl) (by kernel_rfl) (fun _ _ _ h=>h) (Or.inl ⟨by kernel_rfl,?_⟩) (by assumption) ?_;rotate_left 1
          ·(rintro W ⟨s1,s2⟩;have ss1:=(fun i=>blk_cell s1 i);have ss2:=(fun i=>blk_cell s2 i);go_simp;try (with_reducible rfl))
          refine wpAnyL_take (i:=17) (v:=?_) rfl (by kernel_rfl) (by kernel_rfl) (by kernel_rfl) (by kernel_rfl) (fun _ _ _ h=>h) (Or.inl ⟨by kernel_rfl,?_⟩) (by assumption) ?_;rotate_left 1
          ·(rintro W ⟨s1,s2⟩;have ss1:=(fun i=>blk_cell s1 i);have ss2:=(fun i=>blk_cell s2 i);go_simp;try (with_reducible rfl))
          have rk:=fun i=>blk_cell kX i
          have fk:=fun i=>blk_frozen kX i
          have kF:=setAll_new [.string oz,.slice za zn zc] kX rfl;have HX:Hid (Pz R PL o (setAll x6 gX 0 [.string oz,.slice za zn zc]) wb.heap.size oz (.slice za zn zc)∧Below wb.heap.size wb (setAll x6 gX 0 [.string oz,.slice za zn zc])):=⟨(Pz.far (Pz.far pz (by omega)) (by omega)).base sE,below_setA lx [.string oz,.slice za zn zc] 0 _ bx6⟩;simp only [setAll,Nat.zero_add] at kF HX;refine wpAnyL_one (i:=19) (by kernel_rfl) rfl (fun K hK=>?_);go_simp;refine hK.out _ _ (kS.out _ HX.out.2) (fun hHeld=>?_);clear hK K;refine wpAnyL_take (i:=20) (v:=?_) rfl (by kernel_rfl) (by kernel_rfl) (by kernel_rfl) (by kernel_rfl) (fun _ _ _ h=>h) (Or.inl ⟨by kernel_rfl,?_⟩) (by assumption) ?_;rotate_left 1
          ·(rintro W ⟨s1,s2⟩;have ss1:=(fun i=>blk_cell s1 i);have ss2:=(fun i=>blk_cell s2 i);go_simp;try (with_reducible rfl))
          refine wpAnyL_take (i:=21) (v:=?_) rfl (by kernel_rfl) (by kernel_rfl) (by kernel_rfl) (by kernel_rfl) (fun _ _ _ h=>h) (Or.inl ⟨by kernel_rfl,?_⟩) (by assumption) ?_;rotate_left 1
          ·(rintro W ⟨s1,s2⟩;have ss1:=(fun i=>blk_cell s1 i);have ss2:=(fun i=>blk_cell s2 i);go_simp;try (with_reducible rfl))
          refine wpAnyL_done (by kernel_rfl) ?_;go_wp2_with fail
          go_meet
          case rel=>exact⟨gX,oz,_,_,rfl,rfl,rfl,lx,kF,HX.out.1,HX.out.2⟩
        ·go_simp;have ca:=(Below.refl x1.heap.size x1).alloc (Nat.le_refl _) (.cells #[.string ⟨#[]⟩,.slice none 0 0] 35);have kN:=blk_new x1 #[.string ⟨#[]⟩,.slice none 0 0] 35;have bN:=Nm.below_two bx1 ca;have sN:=bx1.size;have rB:=rB.below ca;refine hK.out _ _ (kS.out _ bN) (fun hHeld=>?_);clear hK K;obtain⟨gX,hgX⟩:∃ g,g=x1.heap.size:=⟨_,rfl⟩;rw [<- hgX] at kN ⊢;generalize x1.alloc (.cells #[.string ⟨#[]⟩,.slice none 0 0] 35)=x2 at*;have kX:=kN;have lX:=blk_lt kX;have lx:wb.heap.size<=gX:=by omega
         have lE:x1.heap.size<=gX:=by omega
         clear kN hgX;have bx2:=bN;clear bN;refine wpAnyL_one (i:=2) (by kernel_rfl) rfl (fun K hK=>?_);go_simp;have ca:=(Below.refl x2.heap.size x2).alloc (Nat.le_refl _) (.cells #[.string new.own,.int .i64 new.ty,.int .i64 new.cl,.int .i64 new.tt,.string new.da] 27);have kN:=blk_new x2 #[.string new.own,.int .i64 new.ty,.int .i64 new.cl,.int .i64 new.tt,.string new.da] 27;have bN:=Nm.below_two bx2 ca;have sN:=bx2.size;have rB:=rB.below ca;have kX:=blk_below kX ca;refine hK.out _ _ (kS.out _ bN) (fun hHeld=>?_);clear hK K;obtain⟨gA,hgA⟩:∃ g,g=x2.heap.size:=⟨_,rfl⟩;rw [<- hgA] at kN ⊢;generalize x2.alloc (.cells #[.string new.own,.int .i64 new.ty,.int .i64 new.cl,.int .i64 new.tt,.string new.da] 27)=x3 at*;have rA:=row1 kN;clear kN hgA;have bx3:=bN;clear bN;refine wpAnyL_one (i:=9) (by kernel_rfl) rfl (fun K hK=>?_);go_simp;have ca:=(Below.refl x3.heap.size x3).alloc (Nat.le_refl _) (.cells #[.slice (some ⟨gA,0,none⟩) 1 1,.slice ba WD.length bc,.slice aa add.length ac] 28);have kN:=blk_new x3 #[.slice (some ⟨gA,0,none⟩) 1 1,.slice ba WD.length bc,.slice aa add.length ac] 28;have bN:=Nm.below_two bx3 ca;have sN:=bx3.size;have rA:=rA.below ca;have rB:=rB.below ca;have kX:=blk_below kX ca;refine hK.out _ _ (kS.out _ bN) (fun hHeld=>?_);clear hK K;obtain⟨gC,hgC⟩:∃ g,g=x3.heap.size:=⟨_,rfl⟩;rw [<- hgC] at kN ⊢;generalize x3.alloc (.cells #[.slice (some ⟨gA,0,none⟩) 1 1,.slice ba WD.length bc,.slice aa add.length ac] 28)=x4 at*;have kC:=kN;clear kN hgC;have bx4:=bN;clear bN;refine wpAnyL_one (i:=10) (by kernel_rfl) rfl (fun K hK=>?_);go_simp;refine(hcn x4 bx4 _ _ gC kC rA rB).mono ?_;rintro e x5 ⟨vD,rfl,oD,cN⟩;obtain⟨qa,qc,rfl⟩:=own_sl oD;have rD:=CRow.of_owns oD;have kX:=blk_below kX cN;have bx5:=Nm.below_two bx4 cN;go_wp2_with fail
         refine hK.out _ _ (kS.out _ bx5) (fun hHeld=>?_);clear hK K oD cN rA rB kC;refine wpAnyL_one (i:=13) (by kernel_rfl) rfl (fun K hK=>?_);go_simp;have lY:=blk_lt kX;refine(hbz x5 _ rD).mono ?_;rintro e x6 ⟨oz,vz,ix,rfl,pz,cN⟩;obtain⟨za,zn,zc,rfl⟩:=pz.sl;have sE:=bx5.size;have rD:=rD.below cN;have kX:=blk_below kX cN;have bx6:=Nm.below_two bx5 cN;go_wp2_with fail
         refine hK.out _ _ (kS.out _ bx6) (fun hHeld=>?_);clear hK K rD;refine wpAnyL_take (i:=14) (v:=?_) rfl (by kernel_rfl) (by kernel_rfl) (by kernel_rfl) (by kernel_rfl) (fun _ _ _ h=>h) (Or.inl ⟨by kernel_rfl,?_⟩) (by assumption) ?_;rotate_left 1
         ·(rintro W ⟨s1,s2⟩;have ss1:=(fun i=>blk_cell s1 i);have ss2:=(fun i=>blk_cell s2 i);go_simp;try (with_reducible rfl))
         refine wpAnyL_take (i:=15) (v:=?_) rfl (by kernel_rfl) (by kernel_rfl) (by kernel_rfl) (by kernel_rfl) (fun _ _ _ h=>h) (Or.inl ⟨by kernel_rfl,?_⟩) (by assumption) ?_;rotate_left 1
         ·(rintro W ⟨s1,s2⟩;have ss1:=(fun i=>blk_cell s1 i);have ss2:=(fun i=>blk_cell s2 i);go_simp;try (with_reducible rfl))
         refine wpAnyL_take (i:=16) (v:=?_) rfl (by kernel_rfl) (by kernel_rfl) (by kernel_rfl) (by kernel_rfl) (fun _ _ _ h=>h) (Or.inl ⟨by kernel_rfl,?_⟩) (by assumption) ?_;rotate_left 1
         ·(rintro W ⟨s1,s2⟩;have ss1:=(fun i=>blk_cell s1 i);have ss2:=(fun i=>blk_cell s2 i);go_simp;try (with_reducible rfl))
         refine wpAnyL_take (i:=17) (v:=?_) rfl (by kernel_rfl) (by kernel_rfl) (by kernel_rfl) (by kernel_rfl) (fun _ _ _ h=>h) (Or.inl ⟨by kernel_rfl,?_⟩) (by assumption) ?_;rotate_left 1
         ·(rintro W ⟨s1,s2⟩;have ss1:=(fun i=>blk_cell s1 i);have ss2:=(fun i=>blk_cell s2 i);go_simp;try (with_reducible rfl))
         have rk:=fun i=>blk_cell kX i
         have fk:=fun i=>blk_frozen kX i
         have kF:=setAll_new [.string oz,.slice za zn zc] kX rfl;have HX:Hid (Pz R PL o (setAll x6 gX 0 [.string oz,.slice za zn zc]) wb.heap.size oz (.slice za zn zc)∧Below wb.heap.size wb (setAll x6 gX 0 [.string oz,.slice za zn zc])):=⟨(Pz.far (Pz.far pz (by omega)) (by omega)).base sE,below_setA lx [.string oz,.slice za zn zc] 0 _ bx6⟩;simp only [setAll,Nat.zero_add] at kF HX;refine wpAnyL_one (i:=19) (by kernel_rfl) rfl (fun K hK=>?_);go_simp;refine hK.out _ _ (kS.out _ HX.out.2) (fun hHeld=>?_);clear hK K;refine wpAnyL_take (i:=20) (v:=?_) rfl (by kernel_rfl) (by kernel_rfl) (by kernel_rfl) (by kernel_rfl) (fun _ _ _ h=>h) (Or.inl ⟨by kernel_rfl,?_⟩) (by assumption) ?_;rotate_left 1
         ·(rintro W ⟨s1,s2⟩;have ss1:=(fun i=>blk_cell s1 i);have ss2:=(fun i=>blk_cell s2 i);go_simp;try (with_reducible rfl))
         refine wpAnyL_take (i:=21) (v:=?_) rfl (by kernel_rfl) (by kernel_rfl) (by kernel_rfl) (by kernel_rfl) (fun _ _ _ h=>h) (Or.inl ⟨by kernel_rfl,?_⟩) (by assumption) ?_;rotate_left 1
         ·(rintro W ⟨s1,s2⟩;have ss1:=(fun i=>blk_cell s1 i);have ss2:=(fun i=>blk_cell s2 i);go_simp;try (with_reducible rfl))
         refine wpAnyL_done (by kernel_rfl) ?_;go_wp2_with fail
         go_meet
         case rel=>exact⟨gX,oz,_,_,rfl,rfl,rfl,lx,kF,HX.out.1,HX.out.2⟩
       ·go_simp;have ca:=(Below.refl x0.heap.size x0).alloc (Nat.le_refl _) (.cells #[.string ⟨#[]⟩,.slice none 0 0] 35);have kN:=blk_new x0 #[.string ⟨#[]⟩,.slice none 0 0] 35;have bN:=Nm.below_two bx0 ca;have sN:=bx0.size;refine hK.out _ _ (kS.out _ bN) (fun hHeld=>?_);clear hK K;obtain⟨gX,hgX⟩:∃ g,g=x0.heap.size:=⟨_,rfl⟩;rw [<- hgX] at kN ⊢;generalize x0.alloc (.cells #[.string ⟨#[]⟩,.slice none 0 0] 35)=x1 at*;have kX:=kN;have lX:=blk_lt kX;have lx:wb.heap.size<=gX:=by omega
        have lE:x0.heap.size<=gX:=by omega
        clear kN hgX;have bx1:=bN;clear bN;refine wpAnyL_two (i:=2) (j:=6) (by kernel_rfl) rfl rfl (fun K hK=>?_) (fun K hK=>?_)
        ·go_simp;have ca:=(Below.refl x1.heap.size x1).alloc (Nat.le_refl _) (.cells #[.string new.own,.int .i64 new.ty,.int .i64 new.cl,.int .i64 new.tt,.string new.da] 27);have kN:=blk_new x1 #[.string new.own,.int .i64 new.ty,.int .i64 new.cl,.int .i64 new.tt,.string new.da] 27;have bN:=Nm.below_two bx1 ca;have sN:=bx1.size;have kX:=blk_below kX ca;refine hK.out _ _ (kS.out _ bN) (fun hHeld=>?_);clear hK K;obtain⟨gA,hgA⟩:∃ g,g=x1.heap.size:=⟨_,rfl⟩;rw [<- hgA] at kN ⊢;generalize x1.alloc (.cells #[.string new.own,.int .i64 new.ty,.int .i64 new.cl,.int .i64 new.tt,.string new.da] 27)=x2 at*;have rA:=row1 kN;clear kN hgA;have bx2:=bN;clear bN;refine wpAnyL_one (i:=6) (by kernel_rfl) rfl (fun K hK=>?_);go_simp;refine(hwo x2 bx2).mono ?_;rintro e x3 ⟨vB,rfl,oB,cN⟩;obtain⟨ba,bc,rfl⟩:=own_sl oB;have rB:=CRow.of_owns oB;have rA:=rA.below cN;have kX:=blk_below kX cN;have bx3:=Nm.below_two bx2 cN;go_wp2_with fail
         refine hK.out _ _ (kS.out _ bx3) (fun hHeld=>?_);clear hK K oB cN;refine wpAnyL_one (i:=9) (by kernel_rfl) rfl (fun K hK=>?_);go_simp;have ca:=(Below.refl x3.heap.size x3).alloc (Nat.le_refl _) (.cells #[.slice (some ⟨gA,0,none⟩) 1 1,.slice ba WD.length bc,.slice aa add.length ac] 28);have kN:=blk_new x3 #[.slice (some ⟨gA,0,none⟩) 1 1,.slice ba WD.length bc,.slice aa add.length ac] 28;have bN:=Nm.below_two bx3 ca;have sN:=bx3.size;have rA:=rA.below ca;have rB:=rB.below ca;have kX:=blk_below kX ca;refine hK.out _ _ (kS.out _ bN) (fun hHeld=>?_);clear hK K;obtain⟨gC,hgC⟩:∃ g,g=x3.heap.size:=⟨_,rfl⟩;rw [<- hgC] at kN ⊢;generalize x3.alloc (.cells #[.slice (some ⟨gA,0,none⟩) 1 1,.slice ba WD.length bc,.slice aa add.length ac] 28)=x4 at*;have kC:=kN;clear kN hgC;have bx4:=bN;clear bN;refine wpAnyL_one (i:=10) (by kernel_rfl) rfl (fun K hK=>?_);go_simp;refine(hcn x4 bx4 _ _ gC kC rA rB).mono ?_;rintro e x5 ⟨vD,rfl,oD,cN⟩;obtain⟨qa,qc,rfl⟩:=own_sl oD;have rD:=CRow.of_owns oD;have kX:=blk_below kX cN;have bx5:=Nm.below_two bx4 cN;go_wp2_with fail
         refine hK.out _ _ (kS.out _ bx5) (fun hHeld=>?_);clear hK K oD cN rA rB kC;refine wpAnyL_one (i:=13) (by kernel_rfl) rfl (fun K hK=>?_);go_simp;have lY:=blk_lt kX;refine(hbz x5 _ rD).mono ?_;rintro e x6 ⟨oz,vz,ix,rfl,pz,cN⟩;obtain⟨za,zn,zc,rfl⟩:=pz.sl;have sE:=bx5.size;have rD:=rD.below cN;have kX:=blk_below kX cN;have bx6:=Nm.below_two bx5 cN;go_wp2_with fail
         refine hK.out _ _ (kS.out _ bx6) (fun hHeld=>?_);clear hK K rD;refine wpAnyL_take (i:=14) (v:=?_) rfl (by kernel_rfl) (by kernel_rfl) (by kernel_rfl) (by kernel_rfl) (fun _ _ _ h=>h) (Or.inl ⟨by kernel_rfl,?_⟩) (by assumption) ?_;rotate_left 1
         ·(rintro W ⟨s1,s2⟩;have ss1:=(fun i=>blk_cell s1 i);have ss2:=(fun i=>blk_cell s2 i);go_simp;try (with_reducible rfl))
         refine wpAnyL_take (i:=15) (v:=?_) rfl (by kernel_rfl) (by kernel_rfl) (by kernel_rfl) (by kernel_rfl) (fun _ _ _ h=>h) (Or.inl ⟨by kernel_rfl,?_⟩) (by assumption) ?_;rotate_left 1
         ·(rintro W ⟨s1,s2⟩;have ss1:=(fun i=>blk_cell s1 i);have ss2:=(fun i=>blk_cell s2 i);go_simp;try (with_reducible rfl))
         refine wpAnyL_take (i:=16) (v:=?_) rfl (by kernel_rfl) (by kernel_rfl) (by kernel_rfl) (by kernel_rfl) (fun _ _ _ h=>h) (Or.inl ⟨by kernel_rfl,?_⟩) (by assumption) ?_;rotate_left 1
         ·(rintro W ⟨s1,s2⟩;have ss1:=(fun i=>blk_cell s1 i);have ss2:=(fun i=>blk_cell s2 i);go_simp;try (with_reducible rfl))
         refine wpAnyL_take (i:=17) (v:=?_) rfl (by kernel_rfl) (by kernel_rfl) (by kernel_rfl) (by kernel_rfl) (fun _ _ _ h=>h) (Or.inl ⟨by kernel_rfl,?_⟩) (by assumption) ?_;rotate_left 1
         ·(rintro W ⟨s1,s2⟩;have ss1:=(fun i=>blk_cell s1 i);have ss2:=(fun i=>blk_cell s2 i);go_simp;try (with_reducible rfl))
         have rk:=fun i=>blk_cell kX i
         have fk:=fun i=>blk_frozen kX i
         have kF:=setAll_new [.string oz,.slice za zn zc] kX rfl;have HX:Hid (Pz R PL o (setAll x6 gX 0 [.string oz,.slice za zn zc]) wb.heap.size oz (.slice za zn zc)∧Below wb.heap.size wb (setAll x6 gX 0 [.string oz,.slice za zn zc])):=⟨(Pz.far (Pz.far pz (by omega)) (by omega)).base sE,below_setA lx [.string oz,.slice za zn zc] 0 _ bx6⟩;simp only [setAll,Nat.zero_add] at kF HX;refine wpAnyL_one (i:=19) (by kernel_rfl) rfl (fun K hK=>?_);go_simp;refine hK.out _ _ (kS.out _ HX.out.2) (fun hHeld=>?_);clear hK K;refine wpAnyL_take (i:=20) (v:=?_) rfl (by kernel_rfl) (by kernel_rfl) (by kernel_rfl) (by kernel_rfl) (fun _ _ _ h=>h) (Or.inl ⟨by kernel_rfl,?_⟩) (by assumption) ?_;rotate_left 1
         ·(rintro W ⟨s1,s2⟩;have ss1:=(fun i=>blk_cell s1 i);have ss2:=(fun i=>blk_cell s2 i);go_simp;try (with_reducible rfl))
         refine wpAnyL_take (i:=21) (v:=?_) rfl (by kernel_rfl) (by kernel_rfl) (by kernel_rfl) (by kernel_rfl) (fun _ _ _ h=>h) (Or.inl ⟨by kernel_rfl,?_⟩) (by assumption) ?_;rotate_left 1
         ·(rintro W ⟨s1,s2⟩;have ss1:=(fun i=>blk_cell s1 i);have ss2:=(fun i=>blk_cell s2 i);go_simp;try (with_reducible rfl))
         refine wpAnyL_done (by kernel_rfl) ?_;go_wp2_with fail
         go_meet
         case rel=>exact⟨gX,oz,_,_,rfl,rfl,rfl,lx,kF,HX.out.1,HX.out.2⟩
        ·go_simp;refine(hwo x1 bx1).mono ?_;rintro e x2 ⟨vB,rfl,oB,cN⟩;obtain⟨ba,bc,rfl⟩:=own_sl oB;have rB:=CRow.of_owns oB;have kX:=blk_below kX cN;have bx2:=Nm.below_two bx1 cN;go_wp2_with fail
         refine hK.out _ _ (kS.out _ bx2) (fun hHeld=>?_);clear hK K oB cN;refine wpAnyL_one (i:=2) (by kernel_rfl) rfl (fun K hK=>?_);go_simp;have ca:=(Below.refl x2.heap.size x2).alloc (Nat.le_refl _) (.cells #[.string new.own,.int .i64 new.ty,.int .i64 new.cl,.int .i64 new.tt,.string new.da] 27);have kN:=blk_new x2 #[.string new.own,.int .i64 new.ty,.int .i64 new.cl,.int .i64 new.tt,.string new.da] 27;have bN:=Nm.below_two bx2 ca;have sN:=bx2.size;have rB:=rB.below ca;have kX:=blk_below kX ca;refine hK.out _ _ (kS.out _ bN) (fun hHeld=>?_);clear hK K;obtain⟨gA,hgA⟩:∃ g,g=x2.heap.size:=⟨_,rfl⟩;rw [<- hgA] at kN ⊢;generalize x2.alloc (.cells #[.string new.own,.int .i64 new.ty,.int .i64 new.cl,.int .i64 new.tt,.string new.da] 27)=x3 at*;have rA:=row1 kN;clear kN hgA;have bx3:=bN;clear bN;refine wpAnyL_one (i:=9) (by kernel_rfl) rfl (fun K hK=>?_);go_simp;have ca:=(Below.refl x3.heap.size x3).alloc (Nat.le_refl _) (.cells #[.slice (some ⟨gA,0,none⟩) 1 1,.slice ba WD.length bc,.slice aa add.length ac] 28);have kN:=blk_new x3 #[.slice (some ⟨gA,0,none⟩) 1 1,.slice ba WD.length bc,.slice aa add.length ac] 28;have bN:=Nm.below_two bx3 ca;have sN:=bx3.size;have rA:=rA.below ca;have rB:=rB.below ca;have kX:=blk_below kX ca;refine hK.out _ _ (kS.out _ bN) (fun hHeld=>?_);clear hK K;obtain⟨gC,hgC⟩:∃ g,g=x3.heap.size:=⟨_,rfl⟩;rw [<- hgC] at kN ⊢;generalize x3.alloc (.cells #[.slice (some ⟨gA,0,none⟩) 1 1,.slice ba WD.length bc,.slice aa add.length ac] 28)=x4 at*;have kC:=kN;clear kN hgC;have bx4:=bN;clear bN;refine wpAnyL_one (i:=10) (by kernel_rfl) rfl (fun K hK=>?_);go_simp;refine(hcn x4 bx4 _ _ gC kC rA rB).mono ?_;rintro e x5 ⟨vD,rfl,oD,cN⟩;obtain⟨qa,qc,rfl⟩:=own_sl oD;have rD:=CRow.of_owns oD;have kX:=blk_below kX cN;have bx5:=Nm.below_two bx4 cN;go_wp2_with fail
         refine hK.out _ _ (kS.out _ bx5) (fun hHeld=>?_);clear hK K oD cN rA rB kC;refine wpAnyL_one (i:=13) (by kernel_rfl) rfl (fun K hK=>?_);go_simp;have lY:=blk_lt kX;refine(hbz x5 _ rD).mono ?_;rintro e x6 ⟨oz,vz,ix,rfl,pz,cN⟩;obtain⟨za,zn,zc,rfl⟩:=pz.sl;have sE:=bx5.size;have rD:=rD.below cN;have kX:=blk_below kX cN;have bx6:=Nm.below_two bx5 cN;go_wp2_with fail
         refine hK.out _ _ (kS.out _ bx6) (fun hHeld=>?_);clear hK K rD;refine wpAnyL_take (i:=14) (v:=?_) rfl (by kernel_rfl) (by kernel_rfl) (by kernel_rfl) (by kernel_rfl) (fun _ _ _ h=>h) (Or.inl ⟨by kernel_rfl,?_⟩) (by assumption) ?_;rotate_left 1
         ·(rintro W ⟨s1,s2⟩;have ss1:=(fun i=>blk_cell s1 i);have ss2:=(fun i=>blk_cell s2 i);go_simp;try (with_reducible rfl))
         refine wpAnyL_take (i:=15) (v:=?_) rfl (by kernel_rfl) (by kernel_rfl) (by kernel_rfl) (by kernel_rfl) (fun _ _ _ h=>h) (Or.inl ⟨by kernel_rfl,?_⟩) (by assumption) ?_;rotate_left 1
         ·(rintro W ⟨s1,s2⟩;have ss1:=(fun i=>blk_cell s1 i);have ss2:=(fun i=>blk_cell s2 i);go_simp;try (with_reducible rfl))
         refine wpAnyL_take (i:=16) (v:=?_) rfl (by kernel_rfl) (by kernel_rfl) (by kernel_rfl) (by kernel_rfl) (fun _ _ _ h=>h) (Or.inl ⟨by kernel_rfl,?_⟩) (by assumption) ?_;rotate_left 1
         ·(rintro W ⟨s1,s2⟩;have ss1:=(fun i=>blk_cell s1 i);have ss2:=(fun i=>blk_cell s2 i);go_simp;try (with_reducible rfl))
         refine wpAnyL_take (i:=17) (v:=?_) rfl (by kernel_rfl) (by kernel_rfl) (by kernel_rfl) (by kernel_rfl) (fun _ _ _ h=>h) (Or.inl ⟨by kernel_rfl,?_⟩) (by assumption) ?_;rotate_left 1
         ·(rintro W ⟨s1,s2⟩;have ss1:=(fun i=>blk_cell s1 i);have ss2:=(fun i=>blk_cell s2 i);go_simp;try (with_reducible rfl))
         have rk:=fun i=>blk_cell kX i
         have fk:=fun i=>blk_frozen kX i
         have kF:=setAll_new [.string oz,.slice za zn zc] kX rfl;have HX:Hid (Pz R PL o (setAll x6 gX 0 [.string oz,.slice za zn zc]) wb.heap.size oz (.slice za zn zc)∧Below wb.heap.size wb (setAll x6 gX 0 [.string oz,.slice za zn zc])):=⟨(Pz.far (Pz.far pz (by omega)) (by omega)).base sE,below_setA lx [.string oz,.slice za zn zc] 0 _ bx6⟩;simp only [setAll,Nat.zero_add] at kF HX;refine wpAnyL_one (i:=19) (by kernel_rfl) rfl (fun K hK=>?_);go_simp;refine hK.out _ _ (kS.out _ HX.out.2) (fun hHeld=>?_);clear hK K;refine wpAnyL_take (i:=20) (v:=?_) rfl (by kernel_rfl) (by kernel_rfl) (by kernel_rfl) (by kernel_rfl) (fun _ _ _ h=>h) (Or.inl ⟨by kernel_rfl,?_⟩) (by assumption) ?_;rotate_left 1
         ·(rintro W ⟨s1,s2⟩;have ss1:=(fun i=>blk_cell s1 i);have ss2:=(fun i=>blk_cell s2 i);go_simp;try (with_reducible rfl))
         refine wpAnyL_take (i:=21) (v:=?_) rfl (by kernel_rfl) (by kernel_rfl) (by kernel_rfl) (by kernel_rfl) (fun _ _ _ h=>h) (Or.inl ⟨by kernel_rfl,?_⟩) (by assumption) ?_;rotate_left 1
         ·(rintro W ⟨s1,s2⟩;have ss1:=(fun i=>blk_cell s1 i);have ss2:=(fun i=>blk_cell s2 i);go_simp;try (with_reducible rfl))
         refine wpAnyL_done (by kernel_rfl) ?_;go_wp2_with fail
         go_meet
         case rel=>exact⟨gX,oz,_,_,rfl,rfl,rfl,lx,kF,HX.out.1,HX.out.2⟩
      case rest=>
       obtain⟨c,oz,vz,ix,rfl,rfl,rfl,hc,kc9,pz,bx⟩:=hcut;obtain⟨za,zn,zc,rfl⟩:=pz.sl;have kcX:=blk_below kcb bx;have bwX:=Nm.below_two bwb bx;have kX:=setAll_new [.string oz,.slice za zn zc] kcX rfl;have HX:Hid (Pz R PL o (setAll wc (w.heap.size+2) 0 [.string oz,.slice za zn zc]) w.heap.size oz (.slice za zn zc)∧Below w.heap.size w (setAll wc (w.heap.size+2) 0 [.string oz,.slice za zn zc])):=⟨(Pz.far (Pz.far pz (by omega)) (by omega)).base (by omega),below_setA (Nat.le_add_right _ _) _ 0 _ bwX⟩;simp only [setAll,Nat.zero_add] at kX HX;have rX:=fun i=>blk_cell kX i
       have r9:=fun i=>blk_cell kc9 i
       have rk:=fun i=>blk_cell kcX i
       have fk:=fun i=>blk_frozen kcX i
       clear kX kS bd hcn hbz hwo;go_wp2;refine bodyPost_ret (v:=.tuple #[.agg #[.string oz,.slice za zn zc],.int .i64 R]) ?_ rfl ⟨_,_,rfl,HX.out.1,HX.out.2⟩;simp [results,Tryz.f41,go_sem,rX]
end Go.Proofs.YtieobflhfcgliaaGreat
