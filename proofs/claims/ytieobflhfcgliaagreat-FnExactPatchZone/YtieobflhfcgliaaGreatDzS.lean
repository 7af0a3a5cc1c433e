import Derived.Test.YtieobflhfcgliaaGreatJDzE
namespace Go.Proofs.YtieobflhfcgliaaGreat
open Go.RowKit
set_option linter.unusedVariables false
theorem soa_ok{ps:List Zp}{o:ByteArray}(hz:zOK ps o=true):∃ (s:Sz) (ds:List ByteArray),fndZ (ps.map (·.1)) o 6=some s∧s.da=(soaOf ps).da::ds∧rvA (soaOf ps)=.agg #[.string s.own,.int .i64 s.ty,.int .i64 1,.int .i64 s.tt,.string (soaOf ps).da]∧s∈ps.map (·.1):=by
 obtain⟨al,ha⟩:=name_ofZ hz;obtain⟨r,k,s,ds,f1,-,-,-,f2,f3,f4,-,f5⟩:=zOK_soaR hz ha;have e:soaOf ps=r:=by rw [soaOf,f1];rfl
 have a1:r.own=s.own:=congrArg Rr.own f4;have a2:r.ty=s.ty:=congrArg Rr.ty f4;have a3:r.cl=1:=congrArg Rr.cl f4;have a4:r.tt=s.tt:=congrArg Rr.tt f4;rw [e];refine⟨s,ds,f2,f3,?_,f5⟩;show Value.agg #[.string r.own,.int .i64 r.ty,.int .i64 r.cl,.int .i64 r.tt,.string r.da]=_
 rw [a1,a2,a3,a4]
def FitZ(ps:List Zp):Prop:=∀ p∈ps,p.1.own.size<=1048576∧p.1.da.length<=1048576∧∀ x∈p.1.da,x.size<=1048576
theorem l11Soa_ok(o:ByteArray)(v:Value)(ps:List Zp)(w:World)(h:ZRow w v ps)(hl:ps.length<=1048576)(hF:FitZ ps)(ho:o.size<=maxLen)(hz:zOK ps o=true):
 Calls Tryz.prog 24 #[.agg #[.string o,v]] w fun e w'=>e=.returned (rvA (soaOf ps))∧Below w.heap.size w w':=by
 obtain⟨s,ds,f1,f2,f3,f4⟩:=soa_ok hz;obtain⟨p,hp,ep⟩:=List.mem_map.1 f4;rw [f3];exact l11Soa_any o v ps s _ ds w h hl (fun p hp=>⟨(hF p hp).1,(hF p hp).2.1⟩) ho f1 f2 (by rw [<- ep];exact(hF p hp).2.1)
theorem l10Serial_ok(o:ByteArray)(v:Value)(ps:List Zp)(w:World)(h:ZRow w v ps)(hl:ps.length<=1048576)(hF:FitZ ps)(ho:o.size<=maxLen)(hz:zOK ps o=true):
 Calls Tryz.prog 22 #[.agg #[.string o,v]] w fun e w'=>e=.returned (.int .i64 (sdS (soaOf ps)))∧Below w.heap.size w w':=by
 obtain⟨s,ds,f1,f2,f3,f4⟩:=soa_ok hz;obtain⟨p,hp,ep⟩:=List.mem_map.1 f4;exact l10Serial_any o v ps s _ ds w h hl (fun p hp=>⟨(hF p hp).1,(hF p hp).2.1⟩) ho f1 f2 (by have:=(hF p hp).2.2 (soaOf ps).da (by rw [ep,f2];simp);omega)
set_option maxRecDepth 100000 in
set_option maxHeartbeats 3200000 in
theorem specDiffZones_any(o1 o2:ByteArray)(v1 v2:Value)(ps1 ps2:List Zp)(w:World)(h1:ZRow w v1 ps1)(h2:ZRow w v2 ps2)(hs1:zsum ps1<=1048576)(hs2:zsum ps2<=1048576)(hl1:ps1.length<=1048576)(hl2:ps2.length<=1048576)(hF1:FitZ ps1)(hF2:FitZ ps2)(ho1:o1.size<=1048576)(ho2:o2.size<=1048576):
 Calls Tryz.prog 6 #[.agg #[.string o1,v1],.agg #[.string o2,v2]] w (DzPost (dzR ps1 ps2 o1 o2) w):=by
 obtain⟨va1,vc1,rfl⟩:∃ va vc,v1=.slice va ps1.length vc:=by obtain⟨⟨_,a,c,e,_⟩,_⟩:=h1;exact⟨a,c,e⟩
 obtain⟨va2,vc2,rfl⟩:∃ va vc,v2=.slice va ps2.length vc:=by obtain⟨⟨_,a,c,e,_⟩,_⟩:=h2;exact⟨a,c,e⟩
 obtain⟨R,HR⟩:∃ R,Hid (R=dzR ps1 ps2 o1 o2):=⟨_,rfl⟩;rw [<- HR.out];obtain⟨W0,hW0⟩:∃ W0,W0=((w.alloc (.cells #[.string o1,.slice va1 ps1.length vc1] 35)).alloc (.cells #[.string o2,.slice va2 ps2.length vc2] 35)).alloc (.cells #[.string ⟨#[]⟩,.int .i64 0,.int .i64 0,.int .i64 0,.string ⟨#[]⟩,.string ⟨#[]⟩,.int .i64 0,.int .i64 0,.int .i64 0,.string ⟨#[]⟩,.slice none 0 0,.slice none 0 0] 30):=⟨_,rfl⟩
 have b0:Below w.heap.size w W0:=by
  rw [hW0];exact(((Below.refl w.heap.size w).alloc (Nat.le_refl _) _).alloc (by simp) _).alloc (by simp;omega) _
 have ky:Blk W0 w.heap.size #[.string o1,.slice va1 ps1.length vc1] 35:=by
  rw [hW0];exact blk_alloc (blk_alloc (blk_new w #[.string o1,.slice va1 ps1.length vc1] 35) _) _
 have kz:Blk W0 (w.heap.size+1) #[.string o2,.slice va2 ps2.length vc2] 35:=by
  rw [hW0];have:=blk_new (w.alloc (.cells #[.string o1,.slice va1 ps1.length vc1] 35)) #[.string o2,.slice va2 ps2.length vc2] 35;rw [World.size_alloc] at this;exact blk_alloc this _
 have kc:Blk W0 (w.heap.size+2) cg0.toArray 30:=by
  rw [hW0];have:=blk_new ((w.alloc (.cells #[.string o1,.slice va1 ps1.length vc1] 35)).alloc (.cells #[.string o2,.slice va2 ps2.length vc2] 35)) #[.string ⟨#[]⟩,.int .i64 0,.int .i64 0,.int .i64 0,.string ⟨#[]⟩,.string ⟨#[]⟩,.int .i64 0,.int .i64 0,.int .i64 0,.string ⟨#[]⟩,.slice none 0 0,.slice none 0 0] 30;rw [World.size_alloc,World.size_alloc] at this;exact this
 have z0:W0.heap.size=w.heap.size+3:=by rw [hW0];simp
 have hc1:=specCheckZone_any o1 _ ps1 W0 (h1.below b0) hs1 hl1 (fun p hp=>⟨(hF1 p hp).1,(hF1 p hp).2.2⟩) (by unfold maxLen;omega);have hc2:=fun W (hW:Below w.heap.size w W)=>specCheckZone_any o2 _ ps2 W (h2.below hW) hs2 hl2 (fun p hp=>⟨(hF2 p hp).1,(hF2 p hp).2.2⟩) (by unfold maxLen;omega)
 have bad:∀ W,Below w.heap.size w W->Blk W (w.heap.size+2) cg0.toArray 30->Hid (Blk (setAll W (w.heap.size+2) 0 cg0) (w.heap.size+2) cg0.toArray 30∧Below w.heap.size w (setAll W (w.heap.size+2) 0 cg0)):=fun W hW hk=>⟨setAll_new cg0 hk rfl,below_setA (Nat.le_add_right _ _) cg0 0 _ hW⟩
 simp only [setAll,Nat.reduceAdd,Nat.zero_add] at bad;have r0:=fun i=>blk_cell ky i
 cases hz1:zOK ps1 o1 with
 |false=>
  have HN:Hid (R=⟨32,rr0,rr0,[],[]⟩):=by show _=_;rw [HR.out,dzR,if_pos (by simp [dzOK,hz1])]
  rw [hz1,if_neg (by decide)] at hc1;rw [hW0] at hc1;clear HR hc2 r0;go_enter Tryz.func6,Tryz.ntmps6;go_wp2_with fail
  rw [<- hW0] at hc1 ⊢;clear hW0;go_at_call 20
  refine hc1.mono ?_;rintro e w1 ⟨rfl,b1⟩;have bw1:=Nm.below_two b0 b1;have kc1:=blk_below kc b1;have HX:=bad _ bw1 kc1;have rk:=fun i=>blk_cell kc1 i
  have fk:=fun i=>blk_frozen kc1 i
  have rX:=fun i=>blk_cell HX.out.1 i
  clear bad;go_wp2;rw [HN.out];refine bodyPost_ret (v:=.tuple #[cgV rr0 rr0 (.slice none 0 0) (.slice none 0 0),.int .i64 32]) ?_ rfl ⟨_,_,rfl,cown_nil _ _,HX.out.2⟩
  simp [results,Tryz.f6,go_sem,rX,rr0]
 |true=>
  rw [hz1,if_pos rfl] at hc1
  cases hz2:zOK ps2 o2 with
  |false=>
   have HN:Hid (R=⟨32,rr0,rr0,[],[]⟩):=by show _=_;rw [HR.out,dzR,if_pos (by simp [dzOK,hz2])]
   rw [hz2,if_neg (by decide)] at hc2;rw [hW0] at hc1;clear HR r0;go_enter Tryz.func6,Tryz.ntmps6;go_wp2_with fail
   rw [<- hW0] at hc1 ⊢;clear hW0;go_at_call 20
   refine hc1.mono ?_;rintro e w1 ⟨rfl,b1⟩;have bw1:=Nm.below_two b0 b1;have kc1:=blk_below kc b1;have kz1:=blk_below kz b1;have rz:=fun i=>blk_cell kz1 i
   go_wp2_with fail
   go_at_call 20
   refine(hc2 _ bw1).mono ?_;rintro e w2 ⟨rfl,b2⟩;have bw2:=Nm.below_two bw1 b2;have kc2:=blk_below kc1 b2;have HX:=bad _ bw2 kc2;have rk:=fun i=>blk_cell kc2 i
   have fk:=fun i=>blk_frozen kc2 i
   have rX:=fun i=>blk_cell HX.out.1 i
   clear bad;go_wp2;rw [HN.out];refine bodyPost_ret (v:=.tuple #[cgV rr0 rr0 (.slice none 0 0) (.slice none 0 0),.int .i64 32]) ?_ rfl ⟨_,_,rfl,cown_nil _ _,HX.out.2⟩
   simp [results,Tryz.f6,go_sem,rX,rr0]
  |true=>
   rw [hz2,if_pos rfl] at hc2
   cases ho:(o1.toList==o2.toList) with
   |false=>
    have HN:Hid (R=⟨32,rr0,rr0,[],[]⟩):=by show _=_;rw [HR.out,dzR,if_pos (by simp only [dzOK,hz1,hz2,ho];rfl)]
    rw [hW0] at hc1;clear HR r0;go_enter Tryz.func6,Tryz.ntmps6;go_wp2_with fail
    rw [<- hW0] at hc1 ⊢;clear hW0;go_at_call 20
    refine hc1.mono ?_;rintro e w1 ⟨rfl,b1⟩;have bw1:=Nm.below_two b0 b1;have kc1:=blk_below kc b1;have kz1:=blk_below kz b1;have ky1:=blk_below ky b1;have rz:=fun i=>blk_cell kz1 i
    go_wp2_with fail
    go_at_call 20
    refine(hc2 _ bw1).mono ?_;rintro e w2 ⟨rfl,b2⟩;have bw2:=Nm.below_two bw1 b2;have kc2:=blk_below kc1 b2;have kz2:=blk_below kz1 b2;have ky2:=blk_below ky1 b2;have ry2:=fun i=>blk_cell ky2 i
    have rz2:=fun i=>blk_cell kz2 i
    have HX:=bad _ bw2 kc2;have rk:=fun i=>blk_cell kc2 i
    have fk:=fun i=>blk_frozen kc2 i
    have rX:=fun i=>blk_cell HX.out.1 i
    clear bad rz;go_wp2;rw [HN.out];refine bodyPost_ret (v:=.tuple #[cgV rr0 rr0 (.slice none 0 0) (.slice none 0 0),.int .i64 32]) ?_ rfl ⟨_,_,rfl,cown_nil _ _,HX.out.2⟩
    simp [results,Tryz.f6,go_sem,rX,rr0]
   |true=>
    have m1:o1.size<=maxLen:=by unfold maxLen;omega
    have m2:o2.size<=maxLen:=by unfold maxLen;omega
    have hse1:=fun W (hW:Below w.heap.size w W)=>l10Serial_ok o1 _ ps1 W (h1.below hW) hl1 hF1 m1 hz1
    have hse2:=fun W (hW:Below w.heap.size w W)=>l10Serial_ok o2 _ ps2 W (h2.below hW) hl2 hF2 m2 hz2
    have hso1:=fun W (hW:Below w.heap.size w W)=>l11Soa_ok o1 _ ps1 W (h1.below hW) hl1 hF1 m1 hz1
    have hso2:=fun W (hW:Below w.heap.size w W)=>l11Soa_ok o2 _ ps2 W (h2.below hW) hl2 hF2 m2 hz2
    have hre1:=fun W (hW:Below w.heap.size w W)=>l11Rest_any o1 _ ps1 W (h1.below hW) hs1 hl1
    have hre2:=fun W (hW:Below w.heap.size w W)=>l11Rest_any o2 _ ps2 W (h2.below hW) hs2 hl2
    have n1:(restR (zoneRecs ps1)).length<=1000000:=by have:=List.length_filter_le (fun x=> !is6 x) (zoneRecs ps1);have:=zOK_len hz1;unfold restR;omega
    have n2:(restR (zoneRecs ps2)).length<=1000000:=by have:=List.length_filter_le (fun x=> !is6 x) (zoneRecs ps2);have:=zOK_len hz2;unfold restR;omega
    have HD:Hid (R=if serL (sdS (soaOf ps1)) (sdS (soaOf ps2))=true then⟨0,soaOf ps1,soaOf ps2,wthF (restR (zoneRecs ps1)) (restR (zoneRecs ps2)),wthF (restR (zoneRecs ps2)) (restR (zoneRecs ps1))⟩ else⟨27,rr0,rr0,[],[]⟩):=by
     show _=_
     rw [HR.out,dzR,if_neg (by simp only [dzOK,hz1,hz2,ho];decide)]
    clear HR m1 m2 hF1 hF2 hs1 hs2;generalize soaOf ps1=r1 at*;generalize soaOf ps2=r2 at*;generalize restR (zoneRecs ps1)=R1 at*;generalize restR (zoneRecs ps2)=R2 at*;generalize sdS r1=N1 at*;generalize sdS r2=N2 at*;have hsl:=fun W=>specSerialLess_any N1 N2 W
    generalize serL N1 N2=L at*;have hlA:=fun v u W h h'=>l11Less_any v u R1 R2 W h h' n1 n2
    have hlB:=fun v u W h h'=>l11Less_any v u R2 R1 W h h' n2 n1
    generalize wthF R1 R2=D1 at*;generalize wthF R2 R1=D2 at*;rw [hW0] at hc1;clear r0;go_enter Tryz.func6,Tryz.ntmps6;go_wp2_with fail
    rw [<- hW0] at hc1 ⊢;clear hW0;go_at_call 20
    refine hc1.mono ?_;rintro e w1 ⟨rfl,b1⟩;have bw1:=Nm.below_two b0 b1;have kc1:=blk_below kc b1;have kz1:=blk_below kz b1;have ky1:=blk_below ky b1;have rz:=fun i=>blk_cell kz1 i
    have z1:=b1.size;go_wp2_with fail
    go_at_call 20
    refine(hc2 _ bw1).mono ?_;rintro e w2 ⟨rfl,b2⟩;have bw2:=Nm.below_two bw1 b2;have kc2:=blk_below kc1 b2;have kz2:=blk_below kz1 b2;have ky2:=blk_below ky1 b2;have ry2:=fun i=>blk_cell ky2 i
    have rz2:=fun i=>blk_cell kz2 i
    have z2:=b2.size;clear rz hc1 hc2 kc1 kz1 ky1 kc kz ky b1 b2 b0;go_upto_region 3 with fail
    have hdr:Below w2.heap.size w2 w2.drew:=(Below.refl _ _).drew;have bd:=Nm.below_two bw2 hdr;refine wp_region_last (fun X=>Blk X w.heap.size #[.string o1,.slice va1 ps1.length vc1] 35∧Blk X (w.heap.size+1) #[.string o2,.slice va2 ps2.length vc2] 35) 1000 (by kernel_rfl) ⟨blk_drew ky2,blk_drew kz2⟩ (fun hHeld=>?_);clear ry2 rz2;refine tkL (i:=0) (v:=?_) rfl ?_ ?_;rotate_left 1
    ·(rintro W ⟨s1,s2⟩;have ss1:=(fun i=>blk_cell s1 i);have ss2:=(fun i=>blk_cell s2 i);go_simp;try (with_reducible rfl))
    refine tkL (i:=2) (v:=?_) rfl ?_ ?_;rotate_left 1
    ·(rintro W ⟨s1,s2⟩;have ss1:=(fun i=>blk_cell s1 i);have ss2:=(fun i=>blk_cell s2 i);go_simp;try (with_reducible rfl))
    refine wpAnyL_one (i:=1) (by kernel_rfl) rfl (fun K hK=>?_);go_simp;refine(hse1 _ bd).mono ?_;rintro e w3 ⟨rfl,b3⟩;have b23:=hdr.trans b3;have ky3:=blk_below ky2 b23;have kz3:=blk_below kz2 b23;have kc3:=blk_below kc2 b23;have bw3:=Nm.below_two bw2 b23;have z3:=b23.size;go_wp2_with fail
    refine hK.out _ _ ⟨ky3,kz3⟩ (fun hH3=>?_);clear hK K hHeld ky2 kz2 kc2 hdr b3 b23 bd hse1;refine wpAnyL_one (i:=3) (by kernel_rfl) rfl (fun K hK=>?_);go_simp;refine(hse2 _ bw3).mono ?_;rintro e w4 ⟨rfl,b4⟩;have ky4:=blk_below ky3 b4;have kz4:=blk_below kz3 b4;have kc4:=blk_below kc3 b4;have bw4:=Nm.below_two bw3 b4;have z4:=b4.size;go_wp2_with fail
    refine hK.out _ _ ⟨ky4,kz4⟩ (fun hH4=>?_);clear hK K hH3 ky3 kz3 kc3 b4 hse2 bw3 bw2 bw1;refine wpAnyL_one (i:=4) (by kernel_rfl) rfl (fun K hK=>?_);go_simp;refine(hsl _).mono ?_;rintro e w4' ⟨rfl,rfl⟩;go_wp2_with fail
    refine hK.out _ _ ⟨ky4,kz4⟩ (fun hH5=>?_);clear hK K hsl hH4;refine tkL (i:=5) (v:=?_) rfl ?_ ?_;rotate_left 1
    ·(rintro W ⟨s1,s2⟩;have ss1:=(fun i=>blk_cell s1 i);have ss2:=(fun i=>blk_cell s2 i);go_simp;try (with_reducible rfl))
    refine wpAnyL_done (by kernel_rfl) ?_;clear hH5;have rk:=fun i=>blk_cell kc4 i
    have fk:=fun i=>blk_frozen kc4 i
    cases L with
    |false=>
     have HN:Hid (R=⟨27,rr0,rr0,[],[]⟩):=by show _=_;rw [HD.out,if_neg (by decide)]
     have HX:=bad _ bw4 kc4;have rX:=fun i=>blk_cell HX.out.1 i
     clear bad HD;go_wp2;rw [HN.out];refine bodyPost_ret (v:=.tuple #[cgV rr0 rr0 (.slice none 0 0) (.slice none 0 0),.int .i64 27]) ?_ rfl ⟨_,_,rfl,cown_nil _ _,HX.out.2⟩
     simp [results,Tryz.f6,go_sem,rX,rr0]
    |true=>
     have HN:Hid (R=⟨0,r1,r2,D1,D2⟩):=by show _=_;rw [HD.out,if_pos rfl]
     have ry:=fun i=>blk_cell ky4 i
     clear bad HD rk fk;go_wp2_with fail
     go_at_call 23
     refine(hre1 _ bw4).mono ?_;rintro e w5 ⟨xa,rfl,ox5,b5⟩;obtain⟨xaa,xac,rfl⟩:=own_sl ox5;have ky5:=blk_below ky4 b5;have kz5:=blk_below kz4 b5;have kc5:=blk_below kc4 b5;have bw5:=Nm.below_two bw4 b5;have z5:=b5.size;have rz:=fun i=>blk_cell kz5 i
     clear ry ky4 kz4 kc4 b5 bw4 hre1;go_wp2_with fail
     go_at_call 23
     refine(hre2 _ bw5).mono ?_;rintro e w6 ⟨xb,rfl,oy6,b6⟩;obtain⟨xba,xbc,rfl⟩:=own_sl oy6;have ox6:=own_below ox5 b6;have ky6:=blk_below ky5 b6;have kz6:=blk_below kz5 b6;have kc6:=blk_below kc5 b6;have bw6:=Nm.below_two bw5 b6;have z6:=b6.size;clear rz ky5 kz5 kc5 b6 bw5 hre2 ox5;go_upto_region 7 with fail
     have hdr:Below w6.heap.size w6 w6.drew:=(Below.refl _ _).drew;have bd:=Nm.below_two bw6 hdr;refine wp_region_last (fun X=>Blk X w.heap.size #[.string o1,.slice va1 ps1.length vc1] 35∧Blk X (w.heap.size+1) #[.string o2,.slice va2 ps2.length vc2] 35) 1000 (by kernel_rfl) ⟨blk_drew ky6,blk_drew kz6⟩ (fun hHeld=>?_);refine tkL (i:=0) (v:=?_) rfl ?_ ?_;rotate_left 1
     ·(rintro W ⟨s1,s2⟩;have ss1:=(fun i=>blk_cell s1 i);have ss2:=(fun i=>blk_cell s2 i);go_simp;try (with_reducible rfl))
     refine tkL (i:=2) (v:=?_) rfl ?_ ?_;rotate_left 1
     ·(rintro W ⟨s1,s2⟩;have ss1:=(fun i=>blk_cell s1 i);have ss2:=(fun i=>blk_cell s2 i);go_simp;try (with_reducible rfl))
     refine tkL (i:=4) (v:=?_) rfl ?_ ?_;rotate_left 1
     ·(rintro W ⟨s1,s2⟩;have ss1:=(fun i=>blk_cell s1 i);have ss2:=(fun i=>blk_cell s2 i);go_simp;try (with_reducible rfl))
     refine tkL (i:=5) (v:=?_) rfl ?_ ?_;rotate_left 1
     ·(rintro W ⟨s1,s2⟩;have ss1:=(fun i=>blk_cell s1 i);have ss2:=(fun i=>blk_cell s2 i);go_simp;try (with_reducible rfl))
     refine tkL (i:=7) (v:=?_) rfl ?_ ?_;rotate_left 1
     ·(rintro W ⟨s1,s2⟩;have ss1:=(fun i=>blk_cell s1 i);have ss2:=(fun i=>blk_cell s2 i);go_simp;try (with_reducible rfl))
     refine tkL (i:=8) (v:=?_) rfl ?_ ?_;rotate_left 1
     ·(rintro W ⟨s1,s2⟩;have ss1:=(fun i=>blk_cell s1 i);have ss2:=(fun i=>blk_cell s2 i);go_simp;try (with_reducible rfl))
     refine wpAnyL_one (i:=1) (by kernel_rfl) rfl (fun K hK=>?_);go_simp;refine(hso1 _ bd).mono ?_;rintro e w7 ⟨rfl,b7⟩;have b67:=hdr.trans b7;have ky7:=blk_below ky6 b67;have kz7:=blk_below kz6 b67;have kc7:=blk_below kc6 b67;have ox7:=own_below ox6 b67;have oy7:=own_below oy6 b67;have bw7:=Nm.below_two bw6 b67;have z7:=b67.size;go_wp2_with fail
     refine hK.out _ _ ⟨ky7,kz7⟩ (fun hH7=>?_);clear hK K hHeld ky6 kz6 kc6 hdr b7 b67 bd hso1 ox6 oy6;refine wpAnyL_one (i:=3) (by kernel_rfl) rfl (fun K hK=>?_);go_simp;refine(hso2 _ bw7).mono ?_;rintro e w8 ⟨rfl,b8⟩;have ky8:=blk_below ky7 b8;have kz8:=blk_below kz7 b8;have kc8:=blk_below kc7 b8;have ox8:=own_below ox7 b8;have oy8:=own_below oy7 b8;have bw8:=Nm.below_two bw7 b8;have z8:=b8.size;go_wp2_with fail
     refine hK.out _ _ ⟨ky8,kz8⟩ (fun hH8=>?_);clear hK K hH7 ky7 kz7 kc7 b8 hso2 ox7 oy7;have hc1:=hlA _ _ w8 (CRow.of_owns ox8) (CRow.of_owns oy8);refine wpAnyL_one (i:=6) (by kernel_rfl) rfl (fun K hK=>?_);go_simp;refine hc1.mono ?_;rintro e w9 ⟨dz,rfl,od,b9⟩;have ky9:=blk_below ky8 b9;have kz9:=blk_below kz8 b9;have kc9:=blk_below kc8 b9;have hc2:=hlB _ _ w9 (CRow.of_owns (own_below oy8 b9)) (CRow.of_owns (own_below ox8 b9));have bw9:=Nm.below_two bw8 b9;have z9:=b9.size;go_wp2_with fail
     refine hK.out _ _ ⟨ky9,kz9⟩ (fun hH9=>?_);clear hK K hH8 ky8 kz8 kc8 b9 ox8 oy8 hc1 hlA hlB;refine wpAnyL_one (i:=9) (by kernel_rfl) rfl (fun K hK=>?_);go_simp;refine hc2.mono ?_;rintro e wA ⟨az,rfl,oa,bA⟩;have kyA:=blk_below ky9 bA;have kzA:=blk_below kz9 bA;have kcA:=blk_below kc9 bA;have odA:=own_below od bA;have bwA:=Nm.below_two bw9 bA;have hdl:∀ g,dz.ownBlock=some g->g<w9.heap.size:=fun g hg=>(od.lt g hg).2
     go_wp2_with fail
     refine hK.out _ _ ⟨kyA,kzA⟩ (fun hHA=>?_);clear hK K hH9 hc2 ky9 kz9 kc9 bA;obtain⟨da,dc,rfl⟩:=own_sl odA;obtain⟨aa,ac,rfl⟩:=own_sl oa;refine tkL (i:=10) (v:=?_) rfl ?_ ?_;rotate_left 1
     ·(rintro W ⟨s1,s2⟩;have ss1:=(fun i=>blk_cell s1 i);have ss2:=(fun i=>blk_cell s2 i);go_simp;try (with_reducible rfl))
     have rk:=fun i=>blk_cell kcA i
     have fk:=fun i=>blk_frozen kcA i
     have kX:=setAll_new (cgL r1 r2 (.slice da D1.length dc) (.slice aa D2.length ac)) kcA rfl
     have HO:Hid (COwn (setAll wA (w.heap.size+2) 0 (cgL r1 r2 (.slice da D1.length dc) (.slice aa D2.length ac))) w.heap.size (.slice da D1.length dc) (.slice aa D2.length ac) D1 D2∧Below w.heap.size w (setAll wA (w.heap.size+2) 0 (cgL r1 r2 (.slice da D1.length dc) (.slice aa D2.length ac)))):=
      ⟨⟨w9.heap.size,by omega,own_base (own_setA (g:=w.heap.size+2) (by omega) (cgL r1 r2 (.slice da D1.length dc) (.slice aa D2.length ac)) 0 _ odA) (by omega),own_setA (g:=w.heap.size+2) (by omega) (cgL r1 r2 (.slice da D1.length dc) (.slice aa D2.length ac)) 0 _ oa,hdl⟩,below_setA (g:=w.heap.size+2) (Nat.le_add_right _ _) (cgL r1 r2 (.slice da D1.length dc) (.slice aa D2.length ac)) 0 _ bwA⟩
     have kyX:=setAll_far (b:=w.heap.size) (c:=w.heap.size+2) (by omega) (cgL r1 r2 (.slice da D1.length dc) (.slice aa D2.length ac)) 0 _ kyA;have kzX:=setAll_far (b:=w.heap.size+1) (c:=w.heap.size+2) (by omega) (cgL r1 r2 (.slice da D1.length dc) (.slice aa D2.length ac)) 0 _ kzA;clear odA oa od hdl;simp only [setAll,Nat.reduceAdd,Nat.zero_add] at kX HO kyX kzX;refine wpAnyL_one (i:=11) (by kernel_rfl) rfl (fun K hK=>?_);go_simp;refine hK.out _ _ ⟨kyX,kzX⟩ (fun hHX=>?_);clear hK K;refine tkL (i:=12) (v:=?_) rfl ?_ ?_;rotate_left 1
     ·(rintro W ⟨s1,s2⟩;have ss1:=(fun i=>blk_cell s1 i);have ss2:=(fun i=>blk_cell s2 i);go_simp;try (with_reducible rfl))
     refine wpAnyL_done (by kernel_rfl) ?_;have rX:=fun i=>blk_cell kX i
     clear hHA hHX rk fk kyX kzX kX;go_wp2_with fail
     rw [HN.out];refine bodyPost_ret (v:=.tuple #[cgV r1 r2 (.slice da D1.length dc) (.slice aa D2.length ac),.int .i64 0]) ?_ rfl ⟨_,_,rfl,HO.out.1,HO.out.2⟩;simp [results,Tryz.f6,go_sem,rX]
end Go.Proofs.YtieobflhfcgliaaGreat
