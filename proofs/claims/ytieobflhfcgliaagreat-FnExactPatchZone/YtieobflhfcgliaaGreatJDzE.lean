import Derived.Test.YtieobflhfcgliaaGreatJBig1
import Derived.Test.YtieobflhfcgliaaGreatJCzO
import Derived.Test.YtieobflhfcgliaaGreatJCzC
import Derived.Test.YtieobflhfcgliaaGreatJStR
namespace Go.Proofs.YtieobflhfcgliaaGreat
open Go.RowKit
set_option linter.unusedVariables false
abbrev cgV(a b:Rr)(d e:Value):Value:=.agg #[.string a.own,.int .i64 a.ty,.int .i64 a.cl,.int .i64 a.tt,.string a.da,.string b.own,.int .i64 b.ty,.int .i64 b.cl,.int .i64 b.tt,.string b.da,d,e]
def COwn(w:World)(B:Nat)(d e:Value)(xs ys:List Rr):Prop:=∃ M,B<=M∧w.ownsRow B 27 5 d xs.length (rvVs xs)∧w.ownsRow M 27 5 e ys.length (rvVs ys)∧∀ g,d.ownBlock=some g->g<M
theorem partSOA_rest(o:ByteArray)(v:Value)(ps:List Zp)(r:Rr)(k:Nat)(R:List Rr)(w:World)(h:ZRow w v ps)(hs:zsum ps<=1048576)(hf:∀ p∈ps,∀ x∈p.1.da,x.size<=1048576)(hrk:(zoneRecs ps)[k]? =some r)(hsk:soI (zoneRecs ps)=(k:Int))(hn:(zoneRecs ps).length<=500)(he:(zoneRecs ps).take k++(zoneRecs ps).drop (k+1)=R):
 Calls Tryz.prog 55 #[.agg #[.string o,v]] w fun e w'=>∃ (ua:Option Addr) (uc:Nat),e=.returned (.tuple #[rvA r,.slice ua R.length uc])∧w'.ownsRow w.heap.size 27 5 (.slice ua R.length uc) R.length (rvVs R)∧Below w.heap.size w w':=by
 refine(partSOA_row o v ps r k w h hs hf hrk hsk hn).mono ?_;rintro e w' ⟨ua,uc,rfl,ho,hb⟩;rw [he] at ho;obtain⟨a,c,e⟩:=own_sl ho;rw [e] at ho ⊢;exact⟨a,c,rfl,ho,hb⟩
theorem own_setA{B e s n g:Nat}{v:Value}{xs:List Value}(hg:g<B):∀ (vs:List Value) (i:Nat) (W:World),W.ownsRow B e s v n xs->(setAll W g i vs).ownsRow B e s v n xs
 |[],_,_,h=>h
 |y::vs,i,W,h=>own_setA hg vs (i+1) _ (own_far_lt h hg)
theorem below_setA{B g:Nat}{w:World}(hg:B<=g):∀ (vs:List Value) (i:Nat) (W:World),Below B w W->Below B w (setAll W g i vs)
 |[],_,_,h=>h
 |y::vs,i,W,h=>below_setA hg vs (i+1) _ (h.setCell hg _)
abbrev cgL(a b:Rr)(d e:Value):List Value:=[.string a.own,.int .i64 a.ty,.int .i64 a.cl,.int .i64 a.tt,.string a.da,.string b.own,.int .i64 b.ty,.int .i64 b.cl,.int .i64 b.tt,.string b.da,d,e]
set_option maxRecDepth 100000 in
set_option maxHeartbeats 3200000 in
theorem diff_any(o1 o2:ByteArray)(v1 v2:Value)(ps1 ps2:List Zp)(r1 r2:Rr)(k1 k2:Nat)(R1 R2:List Rr)(w:World)(h1:ZRow w v1 ps1)(h2:ZRow w v2 ps2)(hs1:zsum ps1<=1048576)(hs2:zsum ps2<=1048576)(hf1:∀ p∈ps1,∀ x∈p.1.da,x.size<=1048576)(hf2:∀ p∈ps2,∀ x∈p.1.da,x.size<=1048576)
 (a1:(zoneRecs ps1)[k1]? =some r1) (a2:(zoneRecs ps2)[k2]? =some r2) (s1:soI (zoneRecs ps1)=(k1:Int)) (s2:soI (zoneRecs ps2)=(k2:Int)) (n1:(zoneRecs ps1).length<=500) (n2:(zoneRecs ps2).length<=500) (e1:(zoneRecs ps1).take k1++(zoneRecs ps1).drop (k1+1)=R1) (e2:(zoneRecs ps2).take k2++(zoneRecs ps2).drop (k2+1)=R2)
 (f1:∀ x∈R1,RFit x) (f2:∀ x∈R2,RFit x) (d1:R1.Nodup) (d2:R2.Nodup) (l1:R1.length<=1000000) (l2:R2.length<=1000000):
 Calls Tryz.prog 28 #[.agg #[.string o1,v1],.agg #[.string o2,v2]] w fun e w'=>∃ d a,e=.returned (cgV r1 r2 d a)∧COwn w' w.heap.size d a (wthF R1 R2) (wthF R2 R1)∧Below w.heap.size w w':=by
 obtain⟨va1,vc1,rfl⟩:∃ va vc,v1=.slice va ps1.length vc:=by obtain⟨⟨_,a,c,e,_⟩,_⟩:=h1;exact⟨a,c,e⟩
 obtain⟨va2,vc2,rfl⟩:∃ va vc,v2=.slice va ps2.length vc:=by obtain⟨⟨_,a,c,e,_⟩,_⟩:=h2;exact⟨a,c,e⟩
 obtain⟨W0,hW0⟩:∃ W0,W0=((w.alloc (.cells #[.string o1,.slice va1 ps1.length vc1] 35)).alloc (.cells #[.string o2,.slice va2 ps2.length vc2] 35)).alloc (.cells #[.string ⟨#[]⟩,.int .i64 0,.int .i64 0,.int .i64 0,.string ⟨#[]⟩,.string ⟨#[]⟩,.int .i64 0,.int .i64 0,.int .i64 0,.string ⟨#[]⟩,.slice none 0 0,.slice none 0 0] 30):=⟨_,rfl⟩
 have b0:Below w.heap.size w W0:=by
  rw [hW0];exact(((Below.refl w.heap.size w).alloc (Nat.le_refl _) _).alloc (by simp) _).alloc (by simp;omega) _
 have kz:Blk W0 (w.heap.size+1) #[.string o2,.slice va2 ps2.length vc2] 35:=by
  rw [hW0];have:=blk_new (w.alloc (.cells #[.string o1,.slice va1 ps1.length vc1] 35)) #[.string o2,.slice va2 ps2.length vc2] 35;rw [World.size_alloc] at this;exact blk_alloc this _
 have kc:Blk W0 (w.heap.size+2) #[.string ⟨#[]⟩,.int .i64 0,.int .i64 0,.int .i64 0,.string ⟨#[]⟩,.string ⟨#[]⟩,.int .i64 0,.int .i64 0,.int .i64 0,.string ⟨#[]⟩,.slice none 0 0,.slice none 0 0] 30:=by
  rw [hW0];have:=blk_new ((w.alloc (.cells #[.string o1,.slice va1 ps1.length vc1] 35)).alloc (.cells #[.string o2,.slice va2 ps2.length vc2] 35)) #[.string ⟨#[]⟩,.int .i64 0,.int .i64 0,.int .i64 0,.string ⟨#[]⟩,.string ⟨#[]⟩,.int .i64 0,.int .i64 0,.int .i64 0,.string ⟨#[]⟩,.slice none 0 0,.slice none 0 0] 30;rw [World.size_alloc,World.size_alloc] at this;exact this
 have z0:W0.heap.size=w.heap.size+3:=by rw [hW0];simp
 have hp1:=partSOA_rest o1 _ ps1 r1 k1 R1 W0 (h1.below b0) hs1 hf1 a1 s1 n1 e1;have hp2:=fun W (hW:Below w.heap.size w W)=>partSOA_rest o2 _ ps2 r2 k2 R2 W (h2.below hW) hs2 hf2 a2 s2 n2 e2
 have hwt:=fun v u xs ys W=>without_any v u xs ys W
 rw [hW0] at hp1;clear a1 a2 s1 s2 n1 n2 e1 e2 h1 h2 hf1 hf2 hs1 hs2;go_enter Tryz.func28,Tryz.ntmps28;go_wp2_with fail
 rw [<- hW0] at hp1 ⊢;clear hW0;go_at_call 55
 refine hp1.mono ?_;rintro e w1 ⟨ua,uc,rfl,o1',b1⟩;have kz1:=blk_alloc (blk_below kz b1) (.cells #[.string r1.own,.int .i64 r1.ty,.int .i64 r1.cl,.int .i64 r1.tt,.string r1.da] 27);have kc1:=blk_alloc (blk_below kc b1) (.cells #[.string r1.own,.int .i64 r1.ty,.int .i64 r1.cl,.int .i64 r1.tt,.string r1.da] 27);have kA1:=blk_new w1 #[.string r1.own,.int .i64 r1.ty,.int .i64 r1.cl,.int .i64 r1.tt,.string r1.da] 27;have bw1:=Nm.below_two b0 b1;have bw2:=bw1.alloc bw1.size (.cells #[.string r1.own,.int .i64 r1.ty,.int .i64 r1.cl,.int .i64 r1.tt,.string r1.da] 27);have o12:=o1'.alloc (.cells #[.string r1.own,.int .i64 r1.ty,.int .i64 r1.cl,.int .i64 r1.tt,.string r1.da] 27);have hp22:=hp2 _ bw2;have q1:=fun i=>blk_cell kz1 i
 have z1:=b1.size;clear hp1 hp2 kz kc b1 bw1 o1';go_wp2_with fail
 go_at_call 55
 refine hp22.mono ?_;rintro e w3 ⟨xa,xc,rfl,o2',b3⟩;have kc4:=blk_alloc (blk_below kc1 b3) (.cells #[.string r2.own,.int .i64 r2.ty,.int .i64 r2.cl,.int .i64 r2.tt,.string r2.da] 27);have kA4:=blk_alloc (blk_below kA1 b3) (.cells #[.string r2.own,.int .i64 r2.ty,.int .i64 r2.cl,.int .i64 r2.tt,.string r2.da] 27);have kB4:=blk_new w3 #[.string r2.own,.int .i64 r2.ty,.int .i64 r2.cl,.int .i64 r2.tt,.string r2.da] 27;have bw3:=Nm.below_two bw2 b3;have bw4:=bw3.alloc bw3.size (.cells #[.string r2.own,.int .i64 r2.ty,.int .i64 r2.cl,.int .i64 r2.tt,.string r2.da] 27);have o14:=(own_below o12 b3).alloc (.cells #[.string r2.own,.int .i64 r2.ty,.int .i64 r2.cl,.int .i64 r2.tt,.string r2.da] 27);have o24:=o2'.alloc (.cells #[.string r2.own,.int .i64 r2.ty,.int .i64 r2.cl,.int .i64 r2.tt,.string r2.da] 27);have z3:=b3.size;rw [World.size_alloc] at z3;clear hp22 kz1 kc1 kA1 bw2 bw3 o12 o2' b3 q1;go_upto_region 3 with fail
 generalize w3.alloc (.cells #[.string r2.own,.int .i64 r2.ty,.int .i64 r2.cl,.int .i64 r2.tt,.string r2.da] 27)=W4 at*;have hdr:Below W4.heap.size W4 W4.drew:=(Below.refl _ _).drew;have hc1:=hwt _ _ R1 R2 W4.drew (CRow.of_owns (own_below o14 hdr)) (CRow.of_owns (own_below o24 hdr)) f1 f2 d2 l1 l2;have z4:w3.heap.size+1<=W4.heap.size:=blk_lt kB4;refine wp_region_last (fun X=>Blk X w1.heap.size #[.string r1.own,.int .i64 r1.ty,.int .i64 r1.cl,.int .i64 r1.tt,.string r1.da] 27∧Blk X w3.heap.size #[.string r2.own,.int .i64 r2.ty,.int .i64 r2.cl,.int .i64 r2.tt,.string r2.da] 27) 1000 (by kernel_rfl) ⟨blk_drew kA4,blk_drew kB4⟩ (fun hHeld=>?_);refine tkL (i:=0) (v:=?_) rfl ?_ ?_;rotate_left 1
 ·(rintro W ⟨s1,s2⟩;have ss1:=(fun i=>blk_cell s1 i);have ss2:=(fun i=>blk_cell s2 i);go_simp;try (with_reducible rfl))
 refine tkL (i:=1) (v:=?_) rfl ?_ ?_;rotate_left 1
 ·(rintro W ⟨s1,s2⟩;have ss1:=(fun i=>blk_cell s1 i);have ss2:=(fun i=>blk_cell s2 i);go_simp;try (with_reducible rfl))
 refine tkL (i:=2) (v:=?_) rfl ?_ ?_;rotate_left 1
 ·(rintro W ⟨s1,s2⟩;have ss1:=(fun i=>blk_cell s1 i);have ss2:=(fun i=>blk_cell s2 i);go_simp;try (with_reducible rfl))
 refine tkL (i:=3) (v:=?_) rfl ?_ ?_;rotate_left 1
 ·(rintro W ⟨s1,s2⟩;have ss1:=(fun i=>blk_cell s1 i);have ss2:=(fun i=>blk_cell s2 i);go_simp;try (with_reducible rfl))
 refine tkL (i:=5) (v:=?_) rfl ?_ ?_;rotate_left 1
 ·(rintro W ⟨s1,s2⟩;have ss1:=(fun i=>blk_cell s1 i);have ss2:=(fun i=>blk_cell s2 i);go_simp;try (with_reducible rfl))
 refine tkL (i:=6) (v:=?_) rfl ?_ ?_;rotate_left 1
 ·(rintro W ⟨s1,s2⟩;have ss1:=(fun i=>blk_cell s1 i);have ss2:=(fun i=>blk_cell s2 i);go_simp;try (with_reducible rfl))
 refine wpAnyL_one (i:=4) (by kernel_rfl) rfl (fun K hK=>?_);go_simp;refine hc1.mono ?_;rintro e w5 ⟨dz,rfl,od,b5⟩;have b45:=hdr.trans b5;have kA5:=blk_below kA4 b45;have kB5:=blk_below kB4 b45;have kc5:=blk_below kc4 b45;have hc2:=hwt _ _ R2 R1 w5 (CRow.of_owns (own_below o24 b45)) (CRow.of_owns (own_below o14 b45)) f2 f1 d1 l2 l1;go_wp2_with fail
 refine hK.out _ _ ⟨kA5,kB5⟩ (fun hH=>?_);clear hK K hc1;refine wpAnyL_one (i:=7) (by kernel_rfl) rfl (fun K hK=>?_);go_simp;refine hc2.mono ?_;rintro e w6 ⟨az,rfl,oa,b6⟩;have kA6:=blk_below kA5 b6;have kB6:=blk_below kB5 b6;have kc6:=blk_below kc5 b6;have od6:=own_below od b6;have bw6:=Nm.below_two (Nm.below_two bw4 b45) b6;have z5:=b45.size;have hdl:∀ g,dz.ownBlock=some g->g<w5.heap.size:=fun g hg=>(od.lt g hg).2
 go_wp2_with fail
 refine hK.out _ _ ⟨kA6,kB6⟩ (fun hH2=>?_);clear hK K hc2;obtain⟨da,dc,rfl⟩:=own_sl od6;obtain⟨aa,ac,rfl⟩:=own_sl oa;refine tkL (i:=8) (v:=?_) rfl ?_ ?_;rotate_left 1
 ·(rintro W ⟨s1,s2⟩;have ss1:=(fun i=>blk_cell s1 i);have ss2:=(fun i=>blk_cell s2 i);go_simp;try (with_reducible rfl))
 have rk:=fun i=>blk_cell kc6 i
 have fk:=fun i=>blk_frozen kc6 i
 have kX:=setAll_new (cgL r1 r2 (.slice da (wthF R1 R2).length dc) (.slice aa (wthF R2 R1).length ac)) kc6 rfl;have bX:=below_setA (g:=w.heap.size+2) (Nat.le_add_right _ _) (cgL r1 r2 (.slice da (wthF R1 R2).length dc) (.slice aa (wthF R2 R1).length ac)) 0 _ bw6;have odX:=own_setA (g:=w.heap.size+2) (by show w.heap.size+2<W4.heap.size;omega) (cgL r1 r2 (.slice da (wthF R1 R2).length dc) (.slice aa (wthF R2 R1).length ac)) 0 _ od6;have oaX:=own_setA (g:=w.heap.size+2) (by omega) (cgL r1 r2 (.slice da (wthF R1 R2).length dc) (.slice aa (wthF R2 R1).length ac)) 0 _ oa
 have HO:Hid (COwn (setAll w6 (w.heap.size+2) 0 (cgL r1 r2 (.slice da (wthF R1 R2).length dc) (.slice aa (wthF R2 R1).length ac))) w.heap.size (.slice da (wthF R1 R2).length dc) (.slice aa (wthF R2 R1).length ac) (wthF R1 R2) (wthF R2 R1)∧Below w.heap.size w (setAll w6 (w.heap.size+2) 0 (cgL r1 r2 (.slice da (wthF R1 R2).length dc) (.slice aa (wthF R2 R1).length ac)))):=
  ⟨⟨w5.heap.size,by omega,own_base odX (by show w.heap.size<=W4.heap.size;omega),oaX,hdl⟩,bX⟩
 have kAX:=setAll_far (b:=w1.heap.size) (c:=w.heap.size+2) (by omega) (cgL r1 r2 (.slice da (wthF R1 R2).length dc) (.slice aa (wthF R2 R1).length ac)) 0 _ kA6;have kBX:=setAll_far (b:=w3.heap.size) (c:=w.heap.size+2) (by omega) (cgL r1 r2 (.slice da (wthF R1 R2).length dc) (.slice aa (wthF R2 R1).length ac)) 0 _ kB6;clear odX oaX bX od6 oa od hdl;simp only [setAll,Nat.reduceAdd,Nat.zero_add] at kX HO kAX kBX;refine wpAnyL_one (i:=9) (by kernel_rfl) rfl (fun K hK=>?_);go_simp;refine hK.out _ _ ⟨kAX,kBX⟩ (fun hH3=>?_);clear hK K;refine wpAnyL_done (by kernel_rfl) ?_;have rX:=fun i=>blk_cell kX i
 clear hH hH2 hH3 hHeld rk fk kAX kBX kX;go_wp2_with fail
 refine bodyPost_ret (v:=cgV r1 r2 (.slice da (wthF R1 R2).length dc) (.slice aa (wthF R2 R1).length ac)) ?_ rfl ⟨_,_,rfl,HO.out.1,HO.out.2⟩;simp [results,Tryz.f28,go_sem,rX]
def rr0:Rr:=⟨⟨#[]⟩,0,0,0,⟨#[]⟩⟩
structure Dz where
 co:Int
 old:Rr
 new:Rr
 del:List Rr
 add:List Rr
def soaOf(ps:List Zp):Rr:=((zoneRecs ps).find? is6).getD rr0
def dzOK(ps1 ps2:List Zp)(o1 o2:ByteArray):Bool:=zOK ps1 o1&&zOK ps2 o2&&(o1.toList==o2.toList)
def dzR(ps1 ps2:List Zp)(o1 o2:ByteArray):Dz:=
 if dzOK ps1 ps2 o1 o2=false then⟨32,rr0,rr0,[],[]⟩
 else if serL (sdS (soaOf ps1)) (sdS (soaOf ps2))=true then⟨0,soaOf ps1,soaOf ps2,wthF (restR (zoneRecs ps1)) (restR (zoneRecs ps2)),wthF (restR (zoneRecs ps2)) (restR (zoneRecs ps1))⟩
 else⟨27,rr0,rr0,[],[]⟩
def DzPost(z:Dz)(w:World)(e:Ending)(w':World):Prop:=
 ∃ d a,e=.returned (.tuple #[cgV z.old z.new d a,.int .i64 z.co])∧COwn w' w.heap.size d a z.del z.add∧Below w.heap.size w w'
theorem cown_nil(w:World)(B:Nat):COwn w B (.slice none 0 0) (.slice none 0 0) [] []:=⟨B,Nat.le_refl _,World.ownsRow_nil _ _ _ _,World.ownsRow_nil _ _ _ _,fun g h=>by cases h⟩
theorem COwn.below{w w':World}{B:Nat}{d e:Value}{xs ys:List Rr}(h:COwn w B d e xs ys)(hb:Below w.heap.size w w'):COwn w' B d e xs ys:=by
 obtain⟨M,h1,h2,h3,h4⟩:=h;exact⟨M,h1,own_below h2 hb,own_below h3 hb,h4⟩
theorem COwn.base{w:World}{B B':Nat}{d e:Value}{xs ys:List Rr}(h:COwn w B d e xs ys)(hb:B'<=B):COwn w B' d e xs ys:=by
 obtain⟨M,h1,h2,h3,h4⟩:=h;exact⟨M,Nat.le_trans hb h1,own_base h2 hb,h3,h4⟩
theorem COwn.setA{w:World}{B g:Nat}{d e:Value}{xs ys:List Rr}(h:COwn w B d e xs ys)(hg:g<B)(vs:List Value)(i:Nat):COwn (setAll w g i vs) B d e xs ys:=by
 obtain⟨M,h1,h2,h3,h4⟩:=h;exact⟨M,h1,own_setA hg vs i _ h2,own_setA (by omega) vs i _ h3,h4⟩
theorem COwn.sl{w:World}{B:Nat}{d e:Value}{xs ys:List Rr}(h:COwn w B d e xs ys):(∃ a c,d=.slice a xs.length c)∧∃ a c,e=.slice a ys.length c:=by
 obtain⟨M,h1,h2,h3,h4⟩:=h;exact⟨own_sl h2,own_sl h3⟩
abbrev cg0:List Value:=[.string ⟨#[]⟩,.int .i64 0,.int .i64 0,.int .i64 0,.string ⟨#[]⟩,.string ⟨#[]⟩,.int .i64 0,.int .i64 0,.int .i64 0,.string ⟨#[]⟩,.slice none 0 0,.slice none 0 0]
theorem name_ofZ{ps:List Zp}{o:ByteArray}(hz:zOK ps o=true):∃ al,Nm.split o=some al:=by
 have h0:=(zOK_recs hz).1;rw [bldE] at h0
 split at h0
 ·cases h0
 ·rename_i h1
  cases e:Nm.split o with
  |none=>rw [e] at h1;exact absurd rfl h1
  |some al=>exact⟨al,rfl⟩
theorem zOK_len{ps:List Zp}{o:ByteArray}(hz:zOK ps o=true):(zoneRecs ps).length<=500:=by
 have h0:=(zOK_recs hz).1;obtain⟨al,ha⟩:=name_ofZ hz;rw [bldE,if_neg (by rw [ha];simp)] at h0
 split at h0
 ·cases h0
 ·rename_i h1;omega
set_option maxRecDepth 100000 in
set_option maxHeartbeats 3200000 in
theorem implDiffZones_any(o1 o2:ByteArray)(v1 v2:Value)(ps1 ps2:List Zp)(w:World)(h1:ZRow w v1 ps1)(h2:ZRow w v2 ps2)(hs1:zsum ps1<=1048576)(hs2:zsum ps2<=1048576)(hf1:∀ p∈ps1,p.1.own.size<=1048576∧∀ x∈p.1.da,x.size<=1048576)(hf2:∀ p∈ps2,p.1.own.size<=1048576∧∀ x∈p.1.da,x.size<=1048576)(ho1:o1.size<=1048576)(ho2:o2.size<=1048576):
 Calls Tryz.prog 8 #[.agg #[.string o1,v1],.agg #[.string o2,v2]] w (DzPost (dzR ps1 ps2 o1 o2) w):=by
 obtain⟨va1,vc1,rfl⟩:∃ va vc,v1=.slice va ps1.length vc:=by obtain⟨⟨_,a,c,e,_⟩,_⟩:=h1;exact⟨a,c,e⟩
 obtain⟨va2,vc2,rfl⟩:∃ va vc,v2=.slice va ps2.length vc:=by obtain⟨⟨_,a,c,e,_⟩,_⟩:=h2;exact⟨a,c,e⟩
 obtain⟨R,HR⟩:∃ R,Hid (R=dzR ps1 ps2 o1 o2):=⟨_,rfl⟩;rw [<- HR.out];obtain⟨W0,hW0⟩:∃ W0,W0=((w.alloc (.cells #[.string o1,.slice va1 ps1.length vc1] 35)).alloc (.cells #[.string o2,.slice va2 ps2.length vc2] 35)).alloc (.cells #[.string ⟨#[]⟩,.int .i64 0,.int .i64 0,.int .i64 0,.string ⟨#[]⟩,.string ⟨#[]⟩,.int .i64 0,.int .i64 0,.int .i64 0,.string ⟨#[]⟩,.slice none 0 0,.slice none 0 0] 30):=⟨_,rfl⟩
 have b0:Below w.heap.size w W0:=by
  rw [hW0];exact(((Below.refl w.heap.size w).alloc (Nat.le_refl _) _).alloc (by simp) _).alloc (by simp;omega) _
 have ky:Blk W0 w.heap.size #[.string o1,.slice va1 ps1.length vc1] 35:=by
  rw [hW0];exact blk_alloc (blk_alloc (blk_new w #[.string o1,.slice va1 ps1.length vc1] 35) _) _
 have kz:Blk W0 (w.heap.size+1) #[.string o2,.slice va2 ps2.length vc2] 35:=by
  rw [hW0];have:=blk_new (w.alloc (.cells #[.string o1,.slice va1 ps1.length vc1] 35)) #[.string o2,.slice va2 ps2.length vc2] 35;rw [World.size_alloc] at this;exact blk_alloc this _
 have kc:Blk W0 (w.heap.size+2) cg0.toArray 30:=by
  rw [hW0];have:=blk_new ((w.alloc (.cells #[.string o1,.slice va1 ps1.length vc1] 35)).alloc (.cells #[.string o2,.slice va2 ps2.length vc2] 35)) #[.string ⟨#[]⟩,.int .i64 0,.int .i64 0,.int .i64 0,.string ⟨#[]⟩,.string ⟨#[]⟩,.int .i64 0,.int .i64 0,.int .i64 0,.string ⟨#[]⟩,.slice none 0 0,.slice none 0 0] 30;rw [World.size_alloc,World.size_alloc] at this;exact this
 have z0:W0.heap.size=w.heap.size+3:=by rw [hW0];simp
 have hc1:=implCheckZone_any o1 _ ps1 W0 (h1.below b0) hs1 hf1 (by omega);have hc2:=fun W (hW:Below w.heap.size w W)=>implCheckZone_any o2 _ ps2 W (h2.below hW) hs2 hf2 (by omega)
 have bad:∀ W,Below w.heap.size w W->Blk W (w.heap.size+2) cg0.toArray 30->Hid (Blk (setAll W (w.heap.size+2) 0 cg0) (w.heap.size+2) cg0.toArray 30∧Below w.heap.size w (setAll W (w.heap.size+2) 0 cg0)):=fun W hW hk=>⟨setAll_new cg0 hk rfl,below_setA (Nat.le_add_right _ _) cg0 0 _ hW⟩
 simp only [setAll,Nat.reduceAdd,Nat.zero_add] at bad;have r0:=fun i=>blk_cell ky i
 cases hz1:zOK ps1 o1 with
 |false=>
  have HN:Hid (R=⟨32,rr0,rr0,[],[]⟩):=by show _=_;rw [HR.out,dzR,if_pos (by simp [dzOK,hz1])]
  rw [hz1,if_neg (by decide)] at hc1;rw [hW0] at hc1;clear HR hc2 r0;go_enter Tryz.func8,Tryz.ntmps8;go_wp2_with fail
  rw [<- hW0] at hc1 ⊢;clear hW0;go_at_call 27
  refine hc1.mono ?_;rintro e w1 ⟨rfl,b1⟩;have bw1:=Nm.below_two b0 b1;have kc1:=blk_below kc b1;have HX:=bad _ bw1 kc1;have rk:=fun i=>blk_cell kc1 i
  have fk:=fun i=>blk_frozen kc1 i
  have rX:=fun i=>blk_cell HX.out.1 i
  clear bad;go_wp2;rw [HN.out];refine bodyPost_ret (v:=.tuple #[cgV rr0 rr0 (.slice none 0 0) (.slice none 0 0),.int .i64 32]) ?_ rfl ⟨_,_,rfl,cown_nil _ _,HX.out.2⟩
  simp [results,Tryz.f8,go_sem,rX,rr0]
 |true=>
  rw [hz1,if_pos rfl] at hc1
  cases hz2:zOK ps2 o2 with
  |false=>
   have HN:Hid (R=⟨32,rr0,rr0,[],[]⟩):=by show _=_;rw [HR.out,dzR,if_pos (by simp [dzOK,hz2])]
   rw [hz2,if_neg (by decide)] at hc2;rw [hW0] at hc1;clear HR r0;go_enter Tryz.func8,Tryz.ntmps8;go_wp2_with fail
   rw [<- hW0] at hc1 ⊢;clear hW0;go_at_call 27
   refine hc1.mono ?_;rintro e w1 ⟨rfl,b1⟩;have bw1:=Nm.below_two b0 b1;have kc1:=blk_below kc b1;have kz1:=blk_below kz b1;have rz:=fun i=>blk_cell kz1 i
   go_wp2_with fail
   go_at_call 27
   refine(hc2 _ bw1).mono ?_;rintro e w2 ⟨rfl,b2⟩;have bw2:=Nm.below_two bw1 b2;have kc2:=blk_below kc1 b2;have HX:=bad _ bw2 kc2;have rk:=fun i=>blk_cell kc2 i
   have fk:=fun i=>blk_frozen kc2 i
   have rX:=fun i=>blk_cell HX.out.1 i
   clear bad;go_wp2;rw [HN.out];refine bodyPost_ret (v:=.tuple #[cgV rr0 rr0 (.slice none 0 0) (.slice none 0 0),.int .i64 32]) ?_ rfl ⟨_,_,rfl,cown_nil _ _,HX.out.2⟩
   simp [results,Tryz.f8,go_sem,rX,rr0]
  |true=>
   rw [hz2,if_pos rfl] at hc2
   cases ho:(o1.toList==o2.toList) with
   |false=>
    have HN:Hid (R=⟨32,rr0,rr0,[],[]⟩):=by show _=_;rw [HR.out,dzR,if_pos (by simp only [dzOK,hz1,hz2,ho];rfl)]
    rw [hW0] at hc1;clear HR r0;go_enter Tryz.func8,Tryz.ntmps8;go_wp2_with fail
    rw [<- hW0] at hc1 ⊢;clear hW0;go_at_call 27
    refine hc1.mono ?_;rintro e w1 ⟨rfl,b1⟩;have bw1:=Nm.below_two b0 b1;have kc1:=blk_below kc b1;have kz1:=blk_below kz b1;have ky1:=blk_below ky b1;have rz:=fun i=>blk_cell kz1 i
    go_wp2_with fail
    go_at_call 27
    refine(hc2 _ bw1).mono ?_;rintro e w2 ⟨rfl,b2⟩;have bw2:=Nm.below_two bw1 b2;have kc2:=blk_below kc1 b2;have kz2:=blk_below kz1 b2;have ky2:=blk_below ky1 b2;have ry2:=fun i=>blk_cell ky2 i
    have rz2:=fun i=>blk_cell kz2 i
    have HX:=bad _ bw2 kc2;have rk:=fun i=>blk_cell kc2 i
    have fk:=fun i=>blk_frozen kc2 i
    have rX:=fun i=>blk_cell HX.out.1 i
    clear bad rz;go_wp2;rw [HN.out];refine bodyPost_ret (v:=.tuple #[cgV rr0 rr0 (.slice none 0 0) (.slice none 0 0),.int .i64 32]) ?_ rfl ⟨_,_,rfl,cown_nil _ _,HX.out.2⟩
    simp [results,Tryz.f8,go_sem,rX,rr0]
   |true=>
    obtain⟨al1,ha1⟩:=name_ofZ hz1;obtain⟨al2,ha2⟩:=name_ofZ hz2;obtain⟨r1,k1,s1,ds1,f1,g1,i1,c1,-,-,-,u1,-⟩:=zOK_soaR hz1 ha1;obtain⟨r2,k2,s2,ds2,f2,g2,i2,c2,-,-,-,u2,-⟩:=zOK_soaR hz2 ha2;have e1:soaOf ps1=r1:=by rw [soaOf,f1];rfl
    have e2:soaOf ps2=r2:=by rw [soaOf,f2];rfl
    have t1:soB r1=true:=by simp [soB,List.find?_some f1,u1]
    have t2:soB r2=true:=by simp [soB,List.find?_some f2,u2]
    have m1:=(recs_fit hf1 r1 (List.mem_of_getElem? g1)).2;have m2:=(recs_fit hf2 r2 (List.mem_of_getElem? g2)).2;have n1:=zOK_len hz1;have n2:=zOK_len hz2;have hdf:=fun W (hW:Below w.heap.size w W)=>diff_any o1 o2 _ _ ps1 ps2 r1 r2 k1 k2 _ _ W (h1.below hW) (h2.below hW) hs1 hs2 (fun p hp x hx=>(hf1 p hp).2 x hx) (fun p hp x hx=>(hf2 p hp).2 x hx) g1 g2 i1 i2 n1 n2 c1 c2 (fun x hx=>zOK_fits hz1 ha1 hf1 x (List.mem_filter.1 hx).1) (fun x hx=>zOK_fits hz2 ha2 hf2 x (List.mem_filter.1 hx).1) ((zOK_nodup hz1).filter _) ((zOK_nodup hz2).filter _) (by have:=List.length_filter_le (fun x=> !is6 x) (zoneRecs ps1);unfold restR;omega) (by have:=List.length_filter_le (fun x=> !is6 x) (zoneRecs ps2);unfold restR;omega)
    have hcb:=fun W=>comesBehind_any r2 r1 W (by omega) (by omega)
    have ecb:cbB r2 r1=serL (sdS r1) (sdS r2):=by rw [cbB,t1,t2];rfl
    rw [ecb] at hcb
    have HD:Hid (R=if serL (sdS r1) (sdS r2)=true then⟨0,r1,r2,wthF (restR (zoneRecs ps1)) (restR (zoneRecs ps2)),wthF (restR (zoneRecs ps2)) (restR (zoneRecs ps1))⟩ else⟨27,rr0,rr0,[],[]⟩):=by
     show _=_
     rw [HR.out,dzR,if_neg (by simp only [dzOK,hz1,hz2,ho];decide),e1,e2]
    clear HR e1 e2 t1 t2 m1 m2 n1 n2 ecb f1 g1 i1 c1 u1 f2 g2 i2 c2 u2 ha1 ha2;generalize wthF (restR (zoneRecs ps1)) (restR (zoneRecs ps2))=D1 at*;generalize wthF (restR (zoneRecs ps2)) (restR (zoneRecs ps1))=D2 at*;generalize serL (sdS r1) (sdS r2)=L at*;rw [hW0] at hc1;clear r0;go_enter Tryz.func8,Tryz.ntmps8;go_wp2_with fail
    rw [<- hW0] at hc1 ⊢;clear hW0;go_at_call 27
    refine hc1.mono ?_;rintro e w1 ⟨rfl,b1⟩;have bw1:=Nm.below_two b0 b1;have kc1:=blk_below kc b1;have kz1:=blk_below kz b1;have ky1:=blk_below ky b1;have rz:=fun i=>blk_cell kz1 i
    have z1:=b1.size;go_wp2_with fail
    go_at_call 27
    refine(hc2 _ bw1).mono ?_;rintro e w2 ⟨rfl,b2⟩;have bw2:=Nm.below_two bw1 b2;have kc2:=blk_below kc1 b2;have kz2:=blk_below kz1 b2;have ky2:=blk_below ky1 b2;have ry2:=fun i=>blk_cell ky2 i
    have rz2:=fun i=>blk_cell kz2 i
    have z2:=b2.size;clear rz hc1 hc2;go_wp2_with fail
    go_at_call 28
    refine(hdf _ bw2).mono ?_;rintro e w3 ⟨d,a,rfl,oc,b3⟩;obtain⟨⟨da,dc,rfl⟩,aa,ac,rfl⟩:=oc.sl;have kV:=blk_new w3 (cgL r1 r2 (.slice da D1.length dc) (.slice aa D2.length ac)).toArray 30;have b4:=(Below.refl w3.heap.size w3).alloc (Nat.le_refl _) (.cells (cgL r1 r2 (.slice da D1.length dc) (.slice aa D2.length ac)).toArray 30);have oc4:=oc.below b4;have kc4:=blk_below (blk_below kc2 b3) b4;have bw4:=Nm.below_two (Nm.below_two bw2 b3) b4;have rV:=fun i=>blk_cell kV i
    clear hdf ry2 rz2 ky1 ky2 kz1 kz2 ky kz kc kc1 kc2 bw1 bw2 b3 b4 b0 b1 b2 oc;go_wp2_with fail
    go_at_call 29
    refine(hcb _).mono ?_;rintro e w5 ⟨rfl,b5⟩;have kV5:=blk_below kV b5;have oc5:=oc4.below b5;have kc5:=blk_below kc4 b5;have bw5:=Nm.below_two bw4 b5;have rV5:=fun i=>blk_cell kV5 i
    have rk:=fun i=>blk_cell kc5 i
    have fk:=fun i=>blk_frozen kc5 i
    clear rV kV kc4 oc4 bw4 hcb
    cases L with
    |true=>
     have HN:Hid (R=⟨0,r1,r2,D1,D2⟩):=by show _=_;rw [HD.out,if_pos rfl]
     have kX:=setAll_new (cgL r1 r2 (.slice da D1.length dc) (.slice aa D2.length ac)) kc5 rfl;have HX:Hid (COwn (setAll w5 (w.heap.size+2) 0 (cgL r1 r2 (.slice da D1.length dc) (.slice aa D2.length ac))) w.heap.size (.slice da D1.length dc) (.slice aa D2.length ac) D1 D2∧Below w.heap.size w (setAll w5 (w.heap.size+2) 0 (cgL r1 r2 (.slice da D1.length dc) (.slice aa D2.length ac)))):=⟨(oc5.setA (by omega) _ 0).base (by omega),below_setA (Nat.le_add_right _ _) _ 0 _ bw5⟩;simp only [setAll,Nat.reduceAdd,Nat.zero_add] at kX HX;have rX:=fun i=>blk_cell kX i
     clear bad HD kX;go_wp2;rw [HN.out];refine bodyPost_ret (v:=.tuple #[cgV r1 r2 (.slice da D1.length dc) (.slice aa D2.length ac),.int .i64 0]) ?_ rfl ⟨_,_,rfl,HX.out.1,HX.out.2⟩
     simp [results,Tryz.f8,go_sem,rX]
    |false=>
     have HN:Hid (R=⟨27,rr0,rr0,[],[]⟩):=by show _=_;rw [HD.out,if_neg (by decide)]
     have HX:=bad _ bw5 kc5;have rX:=fun i=>blk_cell HX.out.1 i
     clear bad HD;go_wp2;rw [HN.out];refine bodyPost_ret (v:=.tuple #[cgV rr0 rr0 (.slice none 0 0) (.slice none 0 0),.int .i64 27]) ?_ rfl ⟨_,_,rfl,cown_nil _ _,HX.out.2⟩;simp [results,Tryz.f8,go_sem,rX,rr0]
set_option maxRecDepth 100000 in
set_option maxHeartbeats 1600000 in
theorem l10Serial_any(o:ByteArray)(v:Value)(ps:List Zp)(s:Sz)(d:ByteArray)(ds:List ByteArray)(w:World)(h:ZRow w v ps)(hl:ps.length<=1048576)(hf:∀ p∈ps,p.1.own.size<=1048576∧p.1.da.length<=1048576)(ho:o.size<=maxLen)(hs:fndZ (ps.map (·.1)) o 6=some s)(hd:s.da=d::ds)(hdz:d.size<=2000000):
 Calls Tryz.prog 22 #[.agg #[.string o,v]] w fun e w'=>e=.returned (.int .i64 (if cutCode 6 d=0 then serS d else 0))∧Below w.heap.size w w':=by
 obtain⟨va,vc,rfl⟩:∃ va vc,v=.slice va ps.length vc:=by obtain⟨⟨_,a,c,e,_⟩,_⟩:=h;exact⟨a,c,e⟩
 have b0:=(Below.refl w.heap.size w).alloc (Nat.le_refl _) (.cells #[.string o,.slice va ps.length vc] 35);have k0:=blk_new w #[.string o,.slice va ps.length vc] 35;have hfd:=l06Find_any o o 6 (.slice va ps.length vc) ps _ (h.below b0) hl hf ho;rw [hs] at hfd;have r0:=fun i=>blk_cell k0 i
 have hse:=fun W=>specSerial_any d W hdz
 generalize (if cutCode 6 d=0 then serS d else 0)=N at*;generalize (if cutCode 6 d=0 then(0:Int) else 7)=M at*;clear h hf hs;obtain⟨x,ty,tt,da⟩:=s;simp only at hd ⊢
 subst hd;go_enter Tryz.func22,Tryz.ntmps22;go_wp2_with fail
 refine hfd.mono ?_;rintro e w1 ⟨u,rfl,hou,hb1⟩;simp only [Option.getD_some,Option.isSome_some] at hou ⊢;obtain⟨ua,uc,eu⟩:=own_sl hou;subst eu;have bw1:=Nm.below_two b0 hb1;have b2:=(Below.refl w1.heap.size w1).alloc (Nat.le_refl _) (.cells #[.string x,.int .i64 ty,.int .i64 tt,.slice ua (d::ds).length uc] 75);have kB:=blk_new w1 #[.string x,.int .i64 ty,.int .i64 tt,.slice ua (d::ds).length uc] 75;have rB:=fun i=>blk_cell kB i
 have bw2:=Nm.hide (Nm.below_two bw1 b2);obtain⟨a9,c9,e9,-,-,-,hc9⟩:=(Nm.SRow.of_owns hou).below b2;simp only [Value.slice.injEq] at e9;obtain⟨rfl,_,rfl⟩:=e9;obtain⟨gb,go,rfl,hcell⟩:=hc9 (by simp);have d0:=hcell 0 d rfl;rw [Nat.add_zero] at d0;have hn0:(0:Int)<(((d::ds).length:Nat):Int):=by simp;try omega
 generalize (d::ds).length=RL at*;clear hfd k0 r0 b0 hb1 hou bw1 hcell hc9 kB b2;go_wp2_with (go_at_call 50;refine(hse _).mono ?_;rintro e w3 ⟨rfl,hb3⟩)
 go_ret;exact⟨rfl,Nm.below_two bw2.out hb3⟩
end Go.Proofs.YtieobflhfcgliaaGreat
