import Derived.Test.YtahpiciofdfipaaGreatJNqM
import Derived.Test.YtahpiciofdfipaaGreatJOwnT
import Derived.Test.YtahpiciofdfipaaGreatJICheck
import Derived.Test.YtahpiciofdfipaaGreatJSCheck
import Derived.Test.YtahpiciofdfipaaGreatJCmpM
import Derived.BigQuiet
namespace Go.Proofs.YtahpiciofdfipaaGreat
open Go.RowKit
set_option linter.unusedVariables false
theorem dsum_cntC:∀ (ps:List Zp),dsum ps=cntS (ps.map (·.1))
 |[]=>rfl
 |p::ps=>by
  have:=dsum_cntC ps;simp only [dsum,cntS,List.map_cons,List.sum_cons] at this ⊢;omega
theorem recs_bdC{ps:List Zp}{N:Nat}(h:ZB ps N):(∀ r∈zoneRecs ps,ZR r)∧(zoneRecs ps).length<=N:=by
 unfold zoneRecs;split
 ·exact⟨by simp,Nat.zero_le _⟩
 ·refine⟨fun r hr=>?_,by rw [recsAll_len,dsum_cntC];exact h.cnt⟩;rw [recsAll,List.mem_flatMap] at hr;obtain⟨p,hp,hr⟩:=hr;rw [recsOf,List.mem_map] at hr;obtain⟨d,hd,rfl⟩:=hr;exact⟨(h.one p hp).1,(h.one p hp).2 d hd⟩
theorem lit1{W:World}{p:Nat}(x:ByteArray)(hp:p=W.heap.size):(W.alloc (.cells #[.string x] 9)).ownsRow W.heap.size 9 1 (.slice (some ⟨p,0,none⟩) 1 1) 1 [.string x]:=by
 subst hp;exact World.ownsRow_lit (base:=W.heap.size) (e:=9) (size:=1) W #[.string x] 1 (Nat.le_refl _) (by decide) rfl
theorem subr1(X:World){p B:Nat}(x ab:ByteArray)(h:X.ownsRow B 9 1 (.slice (some ⟨p,0,none⟩) 1 1) 1 [.string x])(hx:x.size<=100)(ha:ab.size<=2000):
 Calls Tryz.prog 61 #[.slice (some ⟨p,0,none⟩) 1 1,.string ab] X fun e w'=>∃ s:ByteArray,e=.returned (.string s)∧s.size=1+x.size+ab.size∧Below X.heap.size X w':=
 (l05Sub_any _ [x] ab X (Nm.SRow.of_owns (ls:=[x]) h) (by simp [Nm.wsum];omega) (by omega)).mono fun e w' ⟨s,h1,h2,h3⟩=>⟨s,h1,by rw [h2];simp [Nm.wsum],h3⟩
structure Cu (w0:World) (g:Nat) (a:Option Addr) (n cap:Nat) (o:ByteArray) (v:Value) (ps:List Zp) (zb:Nat) (w:World):Prop where
 d:Dr w0 g a n cap w
 z:ZOwn w w0.heap.size v ps
 k:Blk w zb #[.string o,v] 25
 r:Blk w (zb+1) #[.string ByteArray.empty,.slice none 0 0] 25
section
variable {w0 w w1:World}{g n cap zb:Nat}{a:Option Addr}{o:ByteArray}{v:Value}{ps:List Zp}
theorem Cu.below(h:Cu w0 g a n cap o v ps zb w)(hb:Below w.heap.size w w1):Cu w0 g a n cap o v ps zb w1:=⟨h.d.below hb,h.z.below hb,blk_below h.k hb,blk_below h.r hb⟩
theorem Cu.alloc(h:Cu w0 g a n cap o v ps zb w)(x:Obj):Cu w0 g a n cap o v ps zb (w.alloc x):=h.below ((Below.refl _ _).alloc (Nat.le_refl _) _)
theorem Cu.app{m:Nat}{u:Value}{xs:List Value}(h:Cu w0 g a n cap o v ps zb w)(hr:w.ownsRow w0.heap.size 79 5 u m xs)(hg:w.grownBy w1 u.ownBlock):Cu w0 g a n cap o v ps zb w1:=
 ⟨h.d.row hg (fun k hk=>(hr.lt k hk).1),h.z.other hr (by decide) (by decide) hg,blk_grown h.k hg (own_nb hr h.k (by decide)),blk_grown h.r hg (own_nb hr h.r (by decide))⟩
theorem ZHas.dr{B:Nat}(h:ZHas w B v ps)(hg:w.grownBy w1 (some g))(hl:g<B):ZHas w1 B v ps:=
 ⟨own_besideZ h.1 hg (fun k e hk=>by have e:=Option.some.inj e;subst e;have:=(h.1.lt _ hk).1;omega),fun p hp=>own_besideZ (h.2 p hp) hg (fun k e hk=>by have e:=Option.some.inj e;subst e;have:=((h.2 p hp).lt _ hk).1;omega)⟩
end
def CuP(w0:World)(g:Nat)(a:Option Addr)(n cap:Nat)(e:Ending)(w':World):Prop:=∃ (o name:ByteArray) (v:Value) (ps:List Zp),e=.returned (.tuple #[.agg #[.string o,v],.string name])∧o.size<=2000∧name.size<=2000∧ZL ps∧ZKp w' w0.heap.size v ps∧Dr w0 g a n cap w'
set_option maxRecDepth 100000 in
set_option maxHeartbeats 6400000 in
theorem l06Cuts_any{w0:World}{g n cap:Nat}{a:Option Addr}(o:ByteArray)(v:Value)(ps:List Zp)(N:Nat)(w:World)(D:Dr w0 g a n cap w)(hz:ZOwn w w0.heap.size v ps)(hB:ZB ps N)(hN:N<=126)(ho:o.size<=20):
 Calls Tryz.prog 33 #[.pointer (some ⟨g,0,none⟩),.agg #[.string o,v]] w (CuP w0 g a n cap):=by
 obtain⟨i0,hi,hz0,hz1,hz2⟩:=info_parts Tryz.infoRRc;obtain⟨va,vc,rfl⟩:=own_sl hz.outer;have hgl:=D.lt;have hw:=D.size;obtain⟨zb,hzb⟩:∃ zb,zb=w.heap.size:=⟨_,rfl⟩
 have C0:Cu w0 g a n cap o (.slice va ps.length vc) ps zb ((w.alloc (.cells #[.string o,.slice va ps.length vc] 25)).alloc (.cells #[.string ByteArray.empty,.slice none 0 0] 25)):=by
  subst hzb;have kR:=blk_new (w.alloc (.cells #[.string o,.slice va ps.length vc] 25)) #[.string ByteArray.empty,.slice none 0 0] 25;rw [World.size_alloc] at kR;exact⟨(D.alloc _).alloc _,(hz.below ((Below.refl _ _).alloc (Nat.le_refl _) _)).below ((Below.refl _ _).alloc (Nat.le_refl _) _),blk_alloc (blk_new w _ _) _,kR⟩
 have hbR:w0.heap.size<=zb+1:=by omega
 have hbZ:w0.heap.size<=zb:=by omega
 have hlen:=hB.len;have hsum:=hB.sum (by omega);obtain⟨hzr,hrl⟩:=recs_bdC hB;have CA:=C0.alloc (.cells #[.string ⟨#[116,111,112]⟩] 9);have r0:=fun i=>blk_cell CA.k i
 rw [hzb] at r0;clear D hz;go_enter Tryz.func33,Tryz.ntmps33;go_wp2_with fail
 refine(subr1 _ ⟨#[116,111,112]⟩ o (lit1 _ (by simp)) (by decide) (by omega)).mono ?_;rintro e w1 ⟨cut,rfl,zc,b1⟩
 replace zc:cut.size=4+o.size:=zc
 have hcz:cut.size<=24:=by omega
 have C1:=CA.below b1;rw [<- hzb];clear C0 CA b1 zc r0 hw hzb;go_wp2_with fail
 refine(l05Sub_any _ [⟨#[108,111,119]⟩,⟨#[109,105,100]⟩] cut _ (srow2 w1 ⟨#[108,111,119]⟩ ⟨#[109,105,100]⟩) (by decide) (by omega)).mono ?_;rintro e w2 ⟨deep,rfl,zd,b2⟩;have hdz:deep.size<=32:=by rw [zd,show Nm.wsum [(⟨#[108,111,119]⟩:ByteArray),⟨#[109,105,100]⟩]=8 from rfl];omega
 have C2:=(C1.alloc (.cells #[.string ⟨#[108,111,119]⟩,.string ⟨#[109,105,100]⟩] 9)).below b2;have r2:=fun i=>blk_cell C2.k i
 clear C1 b2 zd;have hzrc:=specZoneRecords_any o (.slice va ps.length vc) ps w2 C2.z.zrow hsum (by omega);generalize zoneRecs ps=L at*;go_wp2_with fail
 refine hzrc.mono ?_;rintro e w3 ⟨u,rfl,hou,b3⟩;obtain⟨ua,uc,rfl⟩:=own_sl hou;have C3:=C2.below b3;have ho3:=own_base hou C2.d.size;have CA:=C3.alloc (.cells #[.string ⟨#[110,115]⟩] 9);have r3:=fun i=>blk_cell CA.k i
 clear hzrc hou b3 C2 r2;go_wp2_with fail
 refine(subr1 _ ⟨#[110,115]⟩ o (lit1 _ rfl) (by decide) (by omega)).mono ?_;rintro e w4 ⟨d1,rfl,zc,b4⟩
 replace zc:d1.size=3+o.size:=zc
 have hd1:d1.size<=23:=by omega
 have C4:=CA.below b4;have ho4:=own_below (ho3.alloc (.cells #[.string ⟨#[110,115]⟩] 9)) b4;have hs4:=C4.d.size;clear C3 CA b4 zc r3 ho3;go_wp2_with (at_builtin;refine wpList_append_own _ rfl (.tmp 21) (.tmp 28) 49 rfl w0.heap.size 79 i0 _ 5 56 Tryz.underlying49 hi hz0 hz1 hz2 rfl (by decide) _ _ _ rfl (ho4.alloc _) ⟨w4.heap.size,0,none⟩ 1 1 [.string cut,.int .i64 2,.int .i64 1,.int .i64 5,.string d1] rfl rfl (cell_newV w4 #[.string cut,.int .i64 2,.int .i64 1,.int .i64 5,.string d1] 79) (by intro u hu;simp at hu;rcases hu with rfl|rfl|rfl|rfl|rfl<;>rfl) (by unfold maxLen;omega) (by omega) (by simp;omega) ?_)
 intro v5 w5 hown5 hgrow5 _;have C5:=(C4.alloc (.cells #[.string cut,.int .i64 2,.int .i64 1,.int .i64 5,.string d1] 79)).app (ho4.alloc _) hgrow5;obtain⟨ua5,uc5,rfl⟩:=own_sl hown5;have CA:=C5.alloc (.cells #[.string ⟨#[110,115]⟩] 9);have r5:=fun i=>blk_cell CA.k i
 clear C4 ho4 hgrow5 hs4;go_wp2_with fail
 refine(subr1 _ ⟨#[110,115]⟩ o (lit1 _ rfl) (by decide) (by omega)).mono ?_;rintro e w6 ⟨d2,rfl,zc,b6⟩
 replace zc:d2.size=3+o.size:=zc
 have hd2:d2.size<=23:=by omega
 have C6:=CA.below b6;have ho6:=own_below (hown5.alloc (.cells #[.string ⟨#[110,115]⟩] 9)) b6;have hs6:=C6.d.size;clear C5 CA b6 zc r5 hown5;go_wp2_with (at_builtin;refine wpList_append_own _ rfl (.tmp 30) (.tmp 37) 49 rfl w0.heap.size 79 i0 _ 5 56 Tryz.underlying49 hi hz0 hz1 hz2 rfl (by decide) _ _ _ rfl (ho6.alloc _) ⟨w6.heap.size,0,none⟩ 1 1 [.string deep,.int .i64 2,.int .i64 1,.int .i64 5,.string d2] rfl rfl (cell_newV w6 #[.string deep,.int .i64 2,.int .i64 1,.int .i64 5,.string d2] 79) (by intro u hu;simp at hu;rcases hu with rfl|rfl|rfl|rfl|rfl<;>rfl) (by unfold maxLen;omega) (by omega) (by simp;omega) ?_)
 intro v7 w7 hown7 hgrow7 _;have C7:=(C6.alloc (.cells #[.string deep,.int .i64 2,.int .i64 1,.int .i64 5,.string d2] 79)).app (ho6.alloc _) hgrow7;obtain⟨ua7,uc7,rfl⟩:=own_sl hown7
 have hown8:w7.ownsRow w0.heap.size 79 5 (.slice ua7 (L.length+1+1) uc7) (L++[(⟨cut,2,1,5,d1⟩:Rr)]++[(⟨deep,2,1,5,d2⟩:Rr)]).length (rvVs (L++[(⟨cut,2,1,5,d1⟩:Rr)]++[(⟨deep,2,1,5,d2⟩:Rr)])):=by
  rw [rvVs_app,rvVs_app,List.length_append,List.length_append,List.append_assoc];exact hown7
 have hzr2:∀ r∈L++[(⟨cut,2,1,5,d1⟩:Rr)]++[(⟨deep,2,1,5,d2⟩:Rr)],ZR r:=zr_snoc (zr_snoc hzr ⟨by show cut.size<=1000;omega,by show d1.size<=3200;omega⟩) ⟨by show deep.size<=1000;omega,by show d2.size<=3200;omega⟩;have hl2:(L++[(⟨cut,2,1,5,d1⟩:Rr)]++[(⟨deep,2,1,5,d2⟩:Rr)]).length<=128:=by simp;omega
 have hbz:=specBuildZone_any (.slice ua7 (L.length+1+1) uc7) _ o w7 (CRow.of_owns hown8) (by omega) (by unfold maxLen;omega) (fun r hr=>by have:=(hzr2 r hr).1;unfold maxLen;omega);have hs7:=C7.d.size;have r7:=fun i=>blk_cell C7.k i
 generalize L++[(⟨cut,2,1,5,d1⟩:Rr)]++[(⟨deep,2,1,5,d2⟩:Rr)]=LL at*;clear C6 ho6 hgrow7 hs6 hown7 hown8;go_wp2_with fail
 refine hbz.mono ?_;rintro e w8 hb;obtain⟨b8,o2,zv,qs,c,i,rfl,ho2,hzb2,hzo2⟩:=bz_drawn (N:=128) hb hzr2 hl2 ho hs7;obtain⟨za,zc,rfl⟩:=own_sl hzo2.outer;have bA:=(Below.refl w8.heap.size w8).alloc (Nat.le_refl _) (.cells #[.string o2,.slice za qs.length zc] 25);have C9:=(C7.below b8).below bA;have ky9:=blk_new w8 #[.string o2,.slice za qs.length zc] 25;have hz7:=hzo2.has.below bA;have hzl2:=hzb2.out.1.zt.zl (by omega);have hzl1:=hB.zt.zl (by omega);have ry:=fun i=>blk_cell ky9 i
 have rz:=fun i=>blk_cell C9.k i
 have fz:=fun i=>blk_frozen C9.k i
 have ZY:=Nm.hide hz7;have hgz:g<zb:=by omega
 clear hb hbz hzr2 hl2 hs7 hzo2 b8 bA C7 r7 hzb2 hz7
 by_cases hcz:c=0
 case' pos=>
  subst hcz;generalize o2=O at*;generalize qs=PS at*;generalize za=xa at*;generalize zc=xc at*;have HZL:=Nm.hide hzl2;have kq:=blk_set (blk_set C9.k 0 (.string O)) 1 (.slice xa PS.length xc);simp only [List.setIfInBounds_toArray,List.set_cons_zero,List.set_cons_succ] at kq;have rq:=blk_far (c:=zb) (i:=1) (v:=.slice xa PS.length xc) (blk_far (c:=zb) (i:=0) (v:=.string O) C9.r (by omega)) (by omega);have dq:=(C9.d.set hbZ (.string O) (i:=0)).set hbZ (.slice xa PS.length xc) (i:=1);have zq:=ZHas.blk (x:=.slice xa PS.length xc) (i:=1) (ZHas.blk (x:=.string O) (i:=0) ZY.out C9.k (by decide) (by decide)) (blk_set C9.k 0 (.string O)) (by decide) (by decide);clear C9 ky9 ZY hzl1 hzl2 hlen hsum hzr hrl hz0 hz1 hz2 hi
 case' neg=>
  have n9:(c==0)=false:=by rw [beq_eq_false_iff_ne];exact hcz
  have hO9:o.size<=2000:=by omega
  generalize o=O at*;generalize ps=PS at*;generalize va=xa at*;generalize vc=xc at*;have HZL:=Nm.hide hzl1;have kq:=C9.k;have rq:=C9.r;have dq:=C9.d;have zq:=C9.z.has;clear C9 ky9 ZY hzl1 hzl2 hsum hzr hrl hz0 hz1 hz2 hi hcz ry rz fz
 all_goals
  have HZ:=Nm.hide zq;have HK:=Nm.hide (And.intro kq rq);have HD:=Nm.hide dq;clear kq rq dq zq;go_wp2_with fail
  refine(l01Next_any g a n cap 4 _ HD.out.s (by decide)).mono ?_;rintro e wA ⟨q,rfl,hq0,hq1,hsA,hgA⟩;have hq2:=hq1 (by decide);have DA:=HD.out.step hsA hgA;have kA:=blk_grown HK.out.1 hgA (by intro e;simp at e;omega);have rA:=blk_grown HK.out.2 hgA (by intro e;simp at e;omega);have ZA:=HZ.out.dr hgA hgl;clear HZ HK HD hsA hgA hq1
  by_cases p0:q=0
  ·subst p0;have ck:=fun i=>blk_cell kA i
   have cr:=fun i=>blk_cell rA i
   have fr:=fun i=>blk_frozen rA i
   have kE:=blk_set (blk_set rA 0 (.string O)) 1 (.slice xa PS.length xc);have DE:=(DA.set hbR (.string O) (i:=0)).set hbR (.slice xa PS.length xc) (i:=1);have zE:=ZHas.blk (x:=.slice xa PS.length xc) (i:=1) (ZHas.blk (x:=.string O) (i:=0) ZA rA (by decide) (by decide)) (blk_set rA 0 (.string O)) (by decide) (by decide);have rE:=fun i=>blk_cell kE i
   have HE:=Nm.hide (And.intro zE DE);go_wp2;refine bodyPost_ret (v:=.tuple #[.agg #[.string O,.slice xa PS.length xc],.string deep]) ?_ rfl ?_
   rotate_left
   ·exact⟨_,_,_,_,rfl,by omega,by omega,HZL.out,HE.out.1.kp,HE.out.2⟩
   simp [results,Tryz.results33,go_sem,Result.andThen,rE]
  by_cases p1:q=1
  ·subst p1;go_wp2_with fail
   have hdw:Below wA.heap.size wA wA.drew:=(Below.refl _ _).drew;have bx:Below wA.heap.size wA (wA.alloc (.cells #[.string ⟨#[109,105,100]⟩] 9)).drew:=((Below.refl _ _).alloc (Nat.le_refl _) (.cells #[.string ⟨#[109,105,100]⟩] 9)).drew;have kd:=blk_below kA hdw;have kx:=blk_below kA bx;have rx:=blk_below rA bx;have Dx:=DA.below bx;have Zx:=ZA.below bx;have hlx:(wA.alloc (.cells #[.string ⟨#[109,105,100]⟩] 9)).drew.ownsRow wA.heap.size 9 1 (.slice (some ⟨wA.heap.size,0,none⟩) 1 1) 1 [.string ⟨#[109,105,100]⟩]:=own_below (lit1 (W:=wA) ⟨#[109,105,100]⟩ rfl) (Below.refl _ _).drew;have hS0:wA.drew.cell? ⟨zb,0,none⟩=some (.string O)∧wA.drew.cell? ⟨zb,1,none⟩=some (.slice xa PS.length xc):=⟨(blk_cell kd 0).trans rfl,(blk_cell kd 1).trans rfl⟩;have hSx:(wA.alloc (.cells #[.string ⟨#[109,105,100]⟩] 9)).drew.cell? ⟨zb,0,none⟩=some (.string O)∧(wA.alloc (.cells #[.string ⟨#[109,105,100]⟩] 9)).drew.cell? ⟨zb,1,none⟩=some (.slice xa PS.length xc):=⟨(blk_cell kx 0).trans rfl,(blk_cell kx 1).trans rfl⟩;have HSX:=Nm.hide hSx;have HX:=Nm.hide (And.intro rx (And.intro Dx (And.intro Zx kx)));have HLX:=Nm.hide hlx;clear hdw bx kd kA rA DA ZA hSx rx Dx Zx kx hlx;refine wp_region_last (fun X=>X.cell? ⟨zb,0,none⟩=some (.string O)∧X.cell? ⟨zb,1,none⟩=some (.slice xa PS.length xc)) 1000 (by kernel_rfl) hS0 (fun hHeld=>?_);refine wpAnyL_take (i:=0) (v:=?_) rfl (by kernel_rfl) (by kernel_rfl) (by kernel_rfl) (by kernel_rfl) (fun _ _ _ h=>h) (Or.inl ⟨by kernel_rfl,?_⟩) (by assumption) ?_;rotate_left 1
   ·(intro W hSW;obtain⟨s1,s2⟩:=hSW;go_simp;try (with_reducible rfl))
   refine wpAnyL_take (i:=2) (v:=?_) rfl (by kernel_rfl) (by kernel_rfl) (by kernel_rfl) (by kernel_rfl) (fun _ _ _ h=>h) (Or.inl ⟨by kernel_rfl,?_⟩) (by assumption) ?_;rotate_left 1
   ·(intro W hSW;obtain⟨s1,s2⟩:=hSW;go_simp;try (with_reducible rfl))
   refine wpAnyL_one (i:=1) (by kernel_rfl) rfl (fun K hK=>?_);go_simp;refine hK.out _ _ HSX.out (fun hHeld=>?_);clear hK K;refine wpAnyL_one (i:=3) (by kernel_rfl) rfl (fun K hK=>?_);go_simp;refine(subr1 _ ⟨#[109,105,100]⟩ cut HLX.out (by decide) (by omega)).mono ?_;rintro e wB ⟨nm,rfl,zn,bB⟩;have h9:(⟨#[109,105,100]⟩:ByteArray).size<=3:=by decide
   have hnm:nm.size<=2000:=by omega
   clear h9;have rB:=blk_below HX.out.1 bB;have DB:=HX.out.2.1.below bB;have ZB9:=HX.out.2.2.1.below bB;have kB:=blk_below HX.out.2.2.2 bB;have hSB:wB.cell? ⟨zb,0,none⟩=some (.string O)∧wB.cell? ⟨zb,1,none⟩=some (.slice xa PS.length xc):=⟨(blk_cell kB 0).trans rfl,(blk_cell kB 1).trans rfl⟩;have kBs:=blk_far (c:=zb+1) (i:=1) (v:=.slice xa PS.length xc) (blk_far (c:=zb+1) (i:=0) (v:=.string O) kB (by omega)) (by omega);have hSE:((wB.setCell ⟨zb+1,0,none⟩ (.string O)).setCell ⟨zb+1,1,none⟩ (.slice xa PS.length xc)).cell? ⟨zb,0,none⟩=some (.string O)∧((wB.setCell ⟨zb+1,0,none⟩ (.string O)).setCell ⟨zb+1,1,none⟩ (.slice xa PS.length xc)).cell? ⟨zb,1,none⟩=some (.slice xa PS.length xc):=⟨(blk_cell kBs 0).trans rfl,(blk_cell kBs 1).trans rfl⟩;have HSE:=Nm.hide hSE;have HSB:=Nm.hide hSB;have kE:=blk_set (blk_set rB 0 (.string O)) 1 (.slice xa PS.length xc);have DE:=(DB.set hbR (.string O) (i:=0)).set hbR (.slice xa PS.length xc) (i:=1);have ZE:=ZHas.blk (x:=.slice xa PS.length xc) (i:=1) (ZHas.blk (x:=.string O) (i:=0) ZB9 rB (by decide) (by decide)) (blk_set rB 0 (.string O)) (by decide) (by decide);have HDE:=Nm.hide (And.intro DE ZE);have HKE:=Nm.hide kE;have cR:=fun i=>blk_cell rB i
   have fR:=fun i=>blk_frozen rB i
   clear hSE hSB kBs kB DB ZB9 DE ZE kE HX HSX HLX zn bB hS0 hHeld;go_wp2_with fail
   refine hK.out _ _ HSB.out (fun hHeld=>?_);clear hK K;refine wpAnyL_one (i:=4) (by kernel_rfl) rfl (fun K hK=>?_);go_simp;refine hK.out _ _ HSE.out (fun hHeld=>?_);clear hK K;refine wpAnyL_take (i:=5) (v:=?_) rfl (by kernel_rfl) (by kernel_rfl) (by kernel_rfl) (by kernel_rfl) (fun _ _ _ h=>h) (Or.inl ⟨by kernel_rfl,?_⟩) (by assumption) ?_;rotate_left 1
   ·(intro W hSW;obtain⟨s1,s2⟩:=hSW;go_simp;try (with_reducible rfl))
   refine wpAnyL_done (by kernel_rfl) ?_;clear hHeld cR fR
   try go_simp
   have rE:=fun i=>blk_cell HKE.out i
   have HE:=Nm.hide (And.intro HDE.out.2 HDE.out.1);go_wp2;refine bodyPost_ret (v:=.tuple #[.agg #[.string O,.slice xa PS.length xc],.string nm]) ?_ rfl ?_
   rotate_left
   ·exact⟨_,_,_,_,rfl,by omega,by omega,HZL.out,HE.out.1.kp,HE.out.2⟩
   simp [results,Tryz.results33,go_sem,Result.andThen,rE]
  ·have n0:(q==0)=false:=by rw [beq_eq_false_iff_ne];exact p0
   have n1:(q==1)=false:=by rw [beq_eq_false_iff_ne];exact p1
   clear p0 p1;go_wp2_with fail
   have hdw:Below wA.heap.size wA wA.drew:=(Below.refl _ _).drew;have bx:Below wA.heap.size wA (wA.alloc (.cells #[.string ⟨#[120]⟩] 9)).drew:=((Below.refl _ _).alloc (Nat.le_refl _) (.cells #[.string ⟨#[120]⟩] 9)).drew;have kd:=blk_below kA hdw;have kx:=blk_below kA bx;have rx:=blk_below rA bx;have Dx:=DA.below bx;have Zx:=ZA.below bx;have hlx:(wA.alloc (.cells #[.string ⟨#[120]⟩] 9)).drew.ownsRow wA.heap.size 9 1 (.slice (some ⟨wA.heap.size,0,none⟩) 1 1) 1 [.string ⟨#[120]⟩]:=own_below (lit1 (W:=wA) ⟨#[120]⟩ rfl) (Below.refl _ _).drew;have hS0:wA.drew.cell? ⟨zb,0,none⟩=some (.string O)∧wA.drew.cell? ⟨zb,1,none⟩=some (.slice xa PS.length xc):=⟨(blk_cell kd 0).trans rfl,(blk_cell kd 1).trans rfl⟩;have hSx:(wA.alloc (.cells #[.string ⟨#[120]⟩] 9)).drew.cell? ⟨zb,0,none⟩=some (.string O)∧(wA.alloc (.cells #[.string ⟨#[120]⟩] 9)).drew.cell? ⟨zb,1,none⟩=some (.slice xa PS.length xc):=⟨(blk_cell kx 0).trans rfl,(blk_cell kx 1).trans rfl⟩;have HSX:=Nm.hide hSx;have HX:=Nm.hide (And.intro rx (And.intro Dx (And.intro Zx kx)));have HLX:=Nm.hide hlx;clear hdw bx kd kA rA DA ZA hSx rx Dx Zx kx hlx;refine wp_region_last (fun X=>X.cell? ⟨zb,0,none⟩=some (.string O)∧X.cell? ⟨zb,1,none⟩=some (.slice xa PS.length xc)) 1000 (by kernel_rfl) hS0 (fun hHeld=>?_);refine wpAnyL_take (i:=0) (v:=?_) rfl (by kernel_rfl) (by kernel_rfl) (by kernel_rfl) (by kernel_rfl) (fun _ _ _ h=>h) (Or.inl ⟨by kernel_rfl,?_⟩) (by assumption) ?_;rotate_left 1
   ·(intro W hSW;obtain⟨s1,s2⟩:=hSW;go_simp;try (with_reducible rfl))
   refine wpAnyL_take (i:=2) (v:=?_) rfl (by kernel_rfl) (by kernel_rfl) (by kernel_rfl) (by kernel_rfl) (fun _ _ _ h=>h) (Or.inl ⟨by kernel_rfl,?_⟩) (by assumption) ?_;rotate_left 1
   ·(intro W hSW;obtain⟨s1,s2⟩:=hSW;go_simp;try (with_reducible rfl))
   refine wpAnyL_one (i:=1) (by kernel_rfl) rfl (fun K hK=>?_);go_simp;refine hK.out _ _ HSX.out (fun hHeld=>?_);clear hK K;refine wpAnyL_one (i:=3) (by kernel_rfl) rfl (fun K hK=>?_);go_simp;refine(subr1 _ ⟨#[120]⟩ deep HLX.out (by decide) (by omega)).mono ?_;rintro e wB ⟨nm,rfl,zn,bB⟩;have h9:(⟨#[120]⟩:ByteArray).size<=3:=by decide
   have hnm:nm.size<=2000:=by omega
   clear h9;have rB:=blk_below HX.out.1 bB;have DB:=HX.out.2.1.below bB;have ZB9:=HX.out.2.2.1.below bB;have kB:=blk_below HX.out.2.2.2 bB;have hSB:wB.cell? ⟨zb,0,none⟩=some (.string O)∧wB.cell? ⟨zb,1,none⟩=some (.slice xa PS.length xc):=⟨(blk_cell kB 0).trans rfl,(blk_cell kB 1).trans rfl⟩;have kBs:=blk_far (c:=zb+1) (i:=1) (v:=.slice xa PS.length xc) (blk_far (c:=zb+1) (i:=0) (v:=.string O) kB (by omega)) (by omega);have hSE:((wB.setCell ⟨zb+1,0,none⟩ (.string O)).setCell ⟨zb+1,1,none⟩ (.slice xa PS.length xc)).cell? ⟨zb,0,none⟩=some (.string O)∧((wB.setCell ⟨zb+1,0,none⟩ (.string O)).setCell ⟨zb+1,1,none⟩ (.slice xa PS.length xc)).cell? ⟨zb,1,none⟩=some (.slice xa PS.length xc):=⟨(blk_cell kBs 0).trans rfl,(blk_cell kBs 1).trans rfl⟩;have HSE:=Nm.hide hSE;have HSB:=Nm.hide hSB;have kE:=blk_set (blk_set rB 0 (.string O)) 1 (.slice xa PS.length xc);have DE:=(DB.set hbR (.string O) (i:=0)).set hbR (.slice xa PS.length xc) (i:=1);have ZE:=ZHas.blk (x:=.slice xa PS.length xc) (i:=1) (ZHas.blk (x:=.string O) (i:=0) ZB9 rB (by decide) (by decide)) (blk_set rB 0 (.string O)) (by decide) (by decide);have HDE:=Nm.hide (And.intro DE ZE);have HKE:=Nm.hide kE;have cR:=fun i=>blk_cell rB i
   have fR:=fun i=>blk_frozen rB i
   clear hSE hSB kBs kB DB ZB9 DE ZE kE HX HSX HLX zn bB hS0 hHeld;go_wp2_with fail
   refine hK.out _ _ HSB.out (fun hHeld=>?_);clear hK K;refine wpAnyL_one (i:=4) (by kernel_rfl) rfl (fun K hK=>?_);go_simp;refine hK.out _ _ HSE.out (fun hHeld=>?_);clear hK K;refine wpAnyL_take (i:=5) (v:=?_) rfl (by kernel_rfl) (by kernel_rfl) (by kernel_rfl) (by kernel_rfl) (fun _ _ _ h=>h) (Or.inl ⟨by kernel_rfl,?_⟩) (by assumption) ?_;rotate_left 1
   ·(intro W hSW;obtain⟨s1,s2⟩:=hSW;go_simp;try (with_reducible rfl))
   refine wpAnyL_done (by kernel_rfl) ?_;clear hHeld cR fR
   try go_simp
   have rE:=fun i=>blk_cell HKE.out i
   have HE:=Nm.hide (And.intro HDE.out.2 HDE.out.1);go_wp2;refine bodyPost_ret (v:=.tuple #[.agg #[.string O,.slice xa PS.length xc],.string nm]) ?_ rfl ?_
   rotate_left
   ·exact⟨_,_,_,_,rfl,by omega,by omega,HZL.out,HE.out.1.kp,HE.out.2⟩
   simp [results,Tryz.results33,go_sem,Result.andThen,rE]
end Go.Proofs.YtahpiciofdfipaaGreat
