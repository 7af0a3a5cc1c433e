import Derived.Test.YtgilkakllagbnaaGreatJHcZ
import Derived.Test.YtgilkakllagbnaaGreatJHcB
import Derived.Test.YtgilkakllagbnaaGreatJHcS
import Derived.Test.YtgilkakllagbnaaGreatJZrM
import Derived.Test.YtgilkakllagbnaaGreatJZbLb
import Derived.Test.YtgilkakllagbnaaGreatJParts
import Derived.Test.YtgilkakllagbnaaGreatJTbGI
import Derived.Test.YtgilkakllagbnaaGreatJZnM
import Derived.Test.YtgilkakllagbnaaGreatJRrM
namespace Go.Proofs.YtgilkakllagbnaaGreat
open Go.RowKit
set_option linter.unusedVariables false
theorem hkl_le(hs:List Hp):hkl hs<=10*(hs.length+hsum hs):=by
 induction hs with
 |nil=>simp [hkl]
 |cons y xs ih=>simp only [hkl,hk1,hsum,hs1,List.length_cons];omega
theorem hkl_same{ps qs:List Hp}(e:qs.map (·.1)=ps.map (·.1)):hkl qs=hkl ps:=by
 have f:∀ xs:List Hp,hkl xs=((xs.map (·.1)).map hk1).sum:=by
  intro xs
  induction xs with
  |nil=>rfl
  |cons y xs ih=>simp only [hkl,List.map_cons,List.sum_cons,ih]
 rw [f,f,e]
set_option maxRecDepth 100000 in
set_option maxHeartbeats 6400000 in
theorem fnExactTransferOut_walk(o:ByteArray)(v hv:Value)(ps:List Zp)(hs:List Hp)(qt s:Int)(w:World)(h1:ZRow w v ps)(hx1:ZFit ps)(ho1:o.size<=maxLen)(h2:HRow w hv hs)(hx2:HFit hs):
 Calls Tryz.prog 3 #[.agg #[.string o,v],hv,.int .i64 qt,.int .i64 s] w fun e w'=>e=.returned (.bool true)∧Below w.heap.size w w':=by
 obtain⟨va,vc,rfl⟩:∃ va vc,v=.slice va ps.length vc:=by obtain⟨⟨_,a,c,e,_⟩,_⟩:=h1;exact⟨a,c,e⟩
 obtain⟨ha,hc,rfl⟩:∃ a c,hv=.slice a hs.length c:=by obtain⟨⟨_,a,c,e,_⟩,_⟩:=h2;exact⟨a,c,e⟩
 have b0:=(Below.refl w.heap.size w).alloc (Nat.le_refl _) (.cells #[.string o,.slice va ps.length vc] 24);have k0:=blk_new w #[.string o,.slice va ps.length vc] 24;have hsz:=szZone_any o _ ps 1048576 _ (h1.below b0) hx1 ho1 (by decide) (by decide);have hsy:=fun W (hW:Below w.heap.size w W) L (l0:0<=L) (l1:L<=1048576)=>szChangeS_any _ hs L W (h2.below hW) hx2 l0 l1
 by_cases hb:(o.size:Int)+ps.length+(zsum ps:Int)<=1048576
 ·have e1:szZ o ps 1048576=1048576-o.size-ps.length-zsum ps:=if_pos hb;rw [e1] at hsz;have hnn:0<=1048576-(o.size:Int)-(ps.length:Int)-(zsum ps:Int):=by omega
  have hsyL:=fun W hW=>hsy W hW (1048576-(o.size:Int)-(ps.length:Int)-(zsum ps:Int)) hnn (by omega)
  by_cases hb2:(hs.length:Int)+(hsum hs:Int)<=1048576-(o.size:Int)-(ps.length:Int)-(zsum ps:Int)
  ·have e2:szHS hs (1048576-(o.size:Int)-(ps.length:Int)-(zsum ps:Int))=1048576-(o.size:Int)-(ps.length:Int)-(zsum ps:Int)-hs.length-hsum hs:=if_pos hb2;rw [e2] at hsyL;have hnn2:0<=1048576-(o.size:Int)-(ps.length:Int)-(zsum ps:Int)-hs.length-hsum hs:=by omega
   have s1:zsum ps<=1048576:=by omega
   have l1:ps.length<=1048576:=by omega
   have p1:o.size<=1048576:=by omega
   have s2:hsum hs<=1048576:=by omega
   have l2:hs.length<=1048576:=by omega
   have hkb:=hkl_le hs;have lz:zsum ps+3*ps.length+hkl hs<=30000000:=by omega
   have F1:FitZ ps:=cz_fits s1;have hto1:=fun W (hW:Below w.heap.size w W)=>toZone_any o _ ps W (h1.below hW) l1 (fun p hp=>(F1 p hp).2.1)
   have hto2:=fun W (hW:Below w.heap.size w W)=>toChangeS_any _ hs W (h2.below hW) l2 (hs_lens s2)
   have hsp:=specTo_same (o:=o) (ps:=ps) (hs:=hs) (qt:=qt) (s:=s) s1 l1 F1 p1 s2;have him:=implTo_same (o:=o) (ps:=ps) (hs:=hs) (qt:=qt) (s:=s) s1 F1 p1 s2;have hRl:=toR_len ps o (hs.map (·.1)) qt s;generalize toR ps o (hs.map (·.1)) qt s=R at*;obtain⟨RL,RC⟩:=R;simp only at hsp him hRl
   have HL5:=Nm.hide (hs_lens s2);generalize (1048576-(o.size:Int)-(ps.length:Int)-(zsum ps:Int)-(hs.length:Int)-(hsum hs:Int))=L2 at*;generalize (1048576-(o.size:Int)-(ps.length:Int)-(zsum ps:Int))=L1 at*;clear hb hb2 hx1 hx2 ho1 e1 e2 hsy hkb;go_enter Tryz.func3,Tryz.ntmps3;go_wp2_with fail
   go_at_call 4
   refine hsz.mono ?_;rintro e w1 ⟨rfl,b1⟩;have bw1:=Nm.below_two b0 b1;have k1:=blk_below k0 b1;clear hsz b0 b1 k0;go_wp2_with fail
   go_at_call 5
   refine(hsyL _ bw1).mono ?_;rintro e wb ⟨rfl,b2⟩;have bwb:=Nm.below_two bw1 b2;have kb:=blk_below k1 b2;have rb:=fun i=>blk_cell kb i
   clear hsyL bw1 b2 k1
   -- the model's answer
   go_wp2_with fail
   go_at_call 7
   refine(hto1 _ bwb).mono ?_;rintro e x3 ⟨u1,q1,rfl,e1,z1,c3⟩;have bx3:=Nm.below_two bwb c3;have kx3:=blk_below kb c3;obtain⟨ua1,uc1,hu1⟩:=own_sl z1.1;subst hu1;clear rb;go_wp2_with fail
   go_at_call 8
   refine(hto2 _ bx3).mono ?_;rintro e x4 ⟨t2,q2,rfl,e2,z2,c4⟩;have bx4:=Nm.below_two bx3 c4;have kx4:=blk_below kx3 c4;obtain⟨ua2,uc2,hu2⟩:=own_sl z2.1;subst hu2;go_wp2_with fail
   go_at_call 6
   refine(hsp _ _ q1 q2 _ e1 e2 (z1.below c4).read z2.read).mono ?_;rintro e x5 ⟨u5,rfl,o5,c5⟩;have bx5:=Nm.below_two bx4 c5;have kx5:=blk_below kx4 c5;obtain⟨ua5,uc5,hu5⟩:=own_sl o5;subst hu5;have lt5:∀ g,(Value.slice ua5 RL.length uc5).ownBlock=some g->g<x5.heap.size:=fun g hg=>(o5.lt g hg).2
   have zx5:=blk_lt kx5;have r5:=fun i=>blk_cell kx5 i
   clear hsp z1 z2 e1 e2 c3 c4 c5 bx3 bx4 kx3 kx4 kb bwb
   -- the program's answer
   go_wp2_with fail
   go_at_call 7
   refine(hto1 _ bx5).mono ?_;rintro e w4 ⟨u4,qs4,rfl,hq4,z4,b4⟩;obtain⟨ua4,uc4,hu4⟩:=own_sl z4.1;subst hu4;obtain⟨hC4,hD4⟩:=z4.lt;have s4:=b4.size;have cA:=(Below.refl w4.heap.size w4).alloc (Nat.le_refl _) (.cells #[.string o,.slice ua4 qs4.length uc4] 33);have xz:=blk_new w4 #[.string o,.slice ua4 qs4.length uc4] 33;have eA:w4.heap.size<(w4.alloc (.cells #[.string o,.slice ua4 qs4.length uc4] 33)).heap.size:=by simp
   have bA:=Nm.below_two b4 cA;have kA:=blk_below kx5 bA;have oA:=own_below o5 bA;have bwA:=Nm.below_two bx5 bA;have zA:=z4.below cA;clear r5 z4 b4 cA bA o5 kx5 bx5;go_wp2_with fail
   generalize hWA:w4.alloc (.cells #[.string o,.slice ua4 qs4.length uc4] 33)=WA at*;clear hWA;go_at_call 8
   refine(hto2 _ bwA).mono ?_;rintro e w5 ⟨t5,qs5,rfl,hq5,z5,b5⟩;obtain⟨ua6,uc6,hu6⟩:=own_sl z5.1;subst hu6;obtain⟨hC5,hD5⟩:=z5.lt;have s5:=b5.size;have k5:=blk_below kA b5;have xz5:=blk_below xz b5;have oB:=own_below oA b5;have bw5:=Nm.below_two bwA b5;have zB:=zA.below b5;have r5:=fun i=>blk_cell xz5 i
   clear kA xz oA bwA zA b5;go_wp2_with fail
   go_at_call 9
   refine(him _ _ qs4 qs5 _ hq4 hq5 zB.read z5.read).mono ?_;rintro e w6 ⟨u7,rfl,o7,b6⟩;obtain⟨ua7,uc7,hu7⟩:=own_sl o7;subst hu7;have lt7:∀ g,(Value.slice ua7 RL.length uc7).ownBlock=some g->w5.heap.size<=g:=fun g hg=>(o7.lt g hg).1
   have s6:=b6.size;have k6:=blk_below k5 b6;have xz6:=blk_below xz5 b6;have oC:=own_below oB b6;have bw6:=Nm.below_two bw5 b6;have zC:=zB.below b6;have yC:=z5.below b6;have hco:(RC != RC)=false:=by simp
   clear r5 k5 xz5 oB bw5 zB z5 b6;have heq:=fun(u u':Value) W (g1:CRow W u RL.length 5 (rvVs RL)) (g2:CRow W u' RL.length 5 (rvVs RL))=>eqRVS_any u u' RL W g1 g2
   go_wp2_with fail
   go_at_call 10
   refine(heq _ _ _ (CRow.of_owns o7) (CRow.of_owns oC)).mono ?_;rintro e w7 ⟨rfl,b7⟩;have k7:=blk_below k6 b7;have xz7:=blk_below xz6 b7;have oD:=own_below oC b7;have gD:=own_below o7 b7;have bw7:=Nm.below_two bw6 b7;have zD:=zC.below b7;have yD:=yC.below b7;have s7:=b7.size;clear k6 xz6 oC o7 bw6 zC yC b7;have hez1:=fun(u u':Value) (qs rs:List Zp) (W:World) (g1:qs.map (·.1)=ps.map (·.1)) (g2:rs.map (·.1)=ps.map (·.1)) (g3:ZRow W u qs) (g4:ZRow W u' rs)=>eqZone_any o u u' qs rs W g3 g4 (g1.trans g2.symm) (fun q hq=>by have:=(fitT_same g1 F1 q hq).2.1;omega)
   go_upto_region 14 with fail
   have bd:=(Below.refl w7.heap.size w7).drew;refine wp_region_last (fun X=>Blk X w.heap.size #[.string o,.slice va ps.length vc] 24∧Blk X w4.heap.size #[.string o,.slice ua4 qs4.length uc4] 33) 1000 (by kernel_rfl) ⟨blk_drew k7,blk_drew xz7⟩ (fun hHeld=>?_);refine tkL (i:=0) (v:=?_) rfl ?_ ?_;rotate_left 1
   ·(rintro W ⟨s1,s2⟩;have ss1:=(fun i=>blk_cell s1 i);have ss2:=(fun i=>blk_cell s2 i);go_simp;try (with_reducible rfl))
   refine tkL (i:=1) (v:=?_) rfl ?_ ?_;rotate_left 1
   ·(rintro W ⟨s1,s2⟩;have ss1:=(fun i=>blk_cell s1 i);have ss2:=(fun i=>blk_cell s2 i);go_simp;try (with_reducible rfl))
   refine wpAnyL_one (i:=2) (by kernel_rfl) rfl (fun K hK=>?_);go_simp;refine(hto1 _ (Nm.below_two bw7 bd)).mono ?_;rintro e wn ⟨un,qsn,rfl,hqn,zn,bn⟩;have b1n:=Nm.below_two bd bn;go_wp2_with fail
   refine hK.out _ _ ⟨blk_below k7 b1n,blk_below xz7 b1n⟩ (fun hHeld=>?_);clear hK K;refine wpAnyL_one (i:=3) (by kernel_rfl) rfl (fun K hK=>?_);go_simp;refine(hez1 _ _ qs4 qsn _ hq4 hqn (zD.below b1n).read zn.read).mono ?_;rintro e w8 ⟨rfl,bn2⟩;have b2n:=Nm.below_two b1n bn2;go_wp2_with fail
   refine hK.out _ _ ⟨blk_below k7 b2n,blk_below xz7 b2n⟩ (fun hHeld=>?_);clear hK K;refine tkL (i:=4) (v:=?_) rfl ?_ ?_;rotate_left 1
   ·(rintro W ⟨s1,s2⟩;have ss1:=(fun i=>blk_cell s1 i);have ss2:=(fun i=>blk_cell s2 i);go_simp;try (with_reducible rfl))
   refine wpAnyL_done (by kernel_rfl) ?_;have k8:=blk_below k7 b2n;have xz8:=blk_below xz7 b2n;have oE:=own_below oD b2n;have gE:=own_below gD b2n;have bw8:=Nm.below_two bw7 b2n;have zE:=zD.below b2n;have yE:=yD.below b2n;have s8:=b2n.size;clear b1n bn bn2 zn hqn b2n bd hez1 k7 xz7 oD gD bw7 zD yD hHeld;go_simp;go_wp2_with fail
   go_at_call 8
   refine(hto2 _ bw8).mono ?_;rintro e wm ⟨tn,qsm,rfl,hqm,zm,bm⟩;obtain⟨xm,xn,hum⟩:=own_sl zm.1;subst hum;have heh:=eqChangeS_any _ _ qs5 qsm wm (yE.below bm).read zm.read (hq5.trans hqm.symm);go_wp2_with fail
   go_at_call 12
   refine heh.mono ?_;rintro e w9 ⟨rfl,bm2⟩;have b9:=Nm.below_two bm bm2;have k9:=blk_below k8 b9;have xz9:=blk_below xz8 b9;have oF:=own_below oE b9;have gF:=own_below gE b9;have bw9:=Nm.below_two bw8 b9;have zF:=zE.below b9;have yF:=yE.below b9;have s9:=b9.size;clear heh zm bm bm2 hqm b9 k8 xz8 oE gE bw8 zE yE
   -- marks on what was handed in
   have n1:zl qs4+hkl qs5<=30000000:=by have h:=zl_le qs4;have e:=congrArg List.length hq4;rw [zsum_same hq4] at h;rw [hkl_same hq5];simp at e;omega
   have n2:zl qs4<=10000000:=by have h:=zl_le qs4;have e:=congrArg List.length hq4;rw [zsum_same hq4] at h;simp at e;omega
   have hm1:=markZone_mk o _ qs4 x5.heap.size w4.heap.size 1 w9 zF hC4 hD4 n2 (by decide);obtain⟨K1,hK1⟩:∃ K1:Nat,K1=1+zl qs4:=⟨_,rfl⟩;have hm2:=fun W g (hW:WA.heap.size<=W.heap.size)=>markChangeS_mk (.slice ua6 qs5.length uc6) qs5 WA.heap.size w5.heap.size K1 W g hW hC5 hD5 (by omega) (fun q hq=>by have:=hp_mem hq5 (P:=fun c=>c.del.length<=1048576∧c.add.length<=1048576) HL5.out q hq;omega)
   obtain⟨K2,hK2⟩:∃ K2:Nat,K2=K1+hkl qs5:=⟨_,rfl⟩;rw [<- hK1] at hm1;rw [<- hK2] at hm2;have p2:(0:Int)<=(K2:Int):=by omega
   have i2:¬(K2:Int)<0:=by omega
   clear hK1 hK2 n1 n2;have rx:=fun i=>blk_cell xz9 i
   go_wp2_with fail
   go_at_call 13
   refine hm1.mono ?_;rintro e w10 ⟨rfl,m1⟩
   have k10:Blk w10 w.heap.size #[.string o,.slice va ps.length vc] 24:=by
    unfold Blk;rw [m1.block _ (blk_lt k9) (.inl zx5)];exact k9
   have oG:=own_mj oF (fun g hg=>.inl (lt5 g hg)) m1;have gG:=own_mj gF (fun g hg=>.inr (by have:=lt7 g hg;omega)) m1;have yG:=yF.mj (fun g hg=>.inr (by have:=(yF.1.lt g hg).1;omega)) (fun p hp=>⟨fun g hg=>.inr (by have:=((yF.2 p hp).1.lt g hg).1;omega),fun g hg=>.inr (by have:=((yF.2 p hp).2.lt g hg).1;omega)⟩) m1;have bw10:Below w.heap.size w w10:=bw9.trans (m1.down (by omega) bw9.size);have s10:=m1.size;clear rx hm1 m1 k9 xz9 oF gF bw9 zF yF;go_wp2_with fail
   go_at_call 14
   refine(hm2 _ yG (by omega)).mono ?_;rintro e w11 ⟨rfl,m2⟩
   have k11:Blk w11 w.heap.size #[.string o,.slice va ps.length vc] 24:=by
    unfold Blk;rw [m2.block _ (blk_lt k10) (.inl (by omega))];exact k10
   have oH:=own_mj oG (fun g hg=>.inl (by have:=lt5 g hg;omega)) m2;have gH:=own_mj gG (fun g hg=>.inr (lt7 g hg)) m2;have bw11:Below w.heap.size w w11:=bw10.trans (m2.down (by omega) bw10.size);have s11:=m2.size;clear hm2 m2 k10 oG gG bw10 yG;go_wp2_with fail
   go_at_call 10
   refine(heq _ _ _ (CRow.of_owns gH) (CRow.of_owns oH)).mono ?_;rintro e w12 ⟨rfl,b12⟩;have k12:=blk_below k11 b12;have oI:=own_below oH b12;have gI:=own_below gH b12;have bw12:=Nm.below_two bw11 b12;have s12:=b12.size;clear k11 oH gH bw11 b12
   -- marks on the answer
   have hm3:=markRRS_any _ RL.length w5.heap.size 1 (rvVs RL) w12 gI (by omega) (by omega) (by decide);have hh3:=fun W g=>heldRRS_any (.slice ua7 RL.length uc7) RL.length 1 W g (by omega) (by decide)
   obtain⟨N,hN⟩:∃ N:Nat,N=1+RL.length*5:=⟨_,rfl⟩;rw [<- hN] at hm3 hh3;have hNp:¬(N:Int)<0:=by omega
   have hNn:((N:Int) != (N:Int))=false:=by simp
   clear hN;go_wp2_with fail
   go_at_call 15
   refine hm3.mono ?_;rintro e w13 ⟨rfl,gJ,g13⟩;have k13:=blk_grown k12 g13 (fun e=>by have:=lt7 _ e;omega);have oJ:=own_grownC oI g13 (fun g hg hg'=>by have:=lt7 g hg;have:=lt5 g hg';omega);have bw13:=bw12.grown g13 bw12.size (fun g hg=>by have:=lt7 g hg;omega);have s13:=g13.size;clear hm3 k12 oI gI g13 bw12;go_wp2_with fail
   go_at_call 16
   refine(hh3 _ (CRow.of_owns gJ)).mono ?_;rintro e w14 ⟨rfl,b14⟩;have k14:=blk_below k13 b14;have oK:=own_below oJ b14;have gK:=own_below gJ b14;have bw14:=Nm.below_two bw13 b14;have r14:=fun i=>blk_cell k14 i
   clear k13 oJ gJ bw13 b14
   -- once more
   go_wp2_with fail
   go_at_call 7
   refine(hto1 _ bw14).mono ?_;rintro e w15 ⟨u15,q15,rfl,e15,z15,b15⟩;obtain⟨ua15,uc15,hu15⟩:=own_sl z15.1;subst hu15;have bw15:=Nm.below_two bw14 b15;have oL:=own_below oK b15;have gL:=own_below gK b15;clear r14 k14 oK gK bw14;go_wp2_with fail
   go_at_call 8
   refine(hto2 _ bw15).mono ?_;rintro e w16 ⟨u16,q16,rfl,e16,z16,b16⟩;obtain⟨ua16,uc16,hu16⟩:=own_sl z16.1;subst hu16;have bw16:=Nm.below_two bw15 b16;have oM:=own_below oL b16;have gM:=own_below gL b16;have z17:=z15.below b16;clear oL gL bw15 z15;go_wp2_with fail
   go_at_call 9
   refine(him _ _ q15 q16 _ e15 e16 z17.read z16.read).mono ?_;rintro e w17 ⟨u17,rfl,o17,b17⟩;obtain⟨ua17,uc17,hu17⟩:=own_sl o17;subst hu17;have bw17:=Nm.below_two bw16 b17;have oN:=own_below oM b17;have gN:=own_below gM b17;clear oM gM bw16 z16 z17 him hto1 hto2;go_wp2_with fail
   go_at_call 10
   refine(heq _ _ _ (CRow.of_owns o17) (CRow.of_owns oN)).mono ?_;rintro e w18 ⟨rfl,b18⟩;have bw18:=Nm.below_two bw17 b18;have gO:=own_below gN b18;go_wp2_with fail
   go_at_call 16
   refine(hh3 _ (CRow.of_owns gO)).mono ?_;rintro e w19 ⟨rfl,b19⟩;have bw19:=Nm.below_two bw18 b19;go_wp2;go_ret;exact⟨rfl,bw19⟩
  ·have e2:szHS hs (1048576-(o.size:Int)-(ps.length:Int)-(zsum ps:Int))= -1:=if_neg hb2;rw [e2] at hsyL;generalize (1048576-(o.size:Int)-(ps.length:Int)-(zsum ps:Int))=L1 at*;clear hb hb2 hx1 hx2 e1 e2 hsy;go_enter Tryz.func3,Tryz.ntmps3;go_wp2_with fail
   go_at_call 4
   refine hsz.mono ?_;rintro e w1 ⟨rfl,b1⟩;have bw1:=Nm.below_two b0 b1;go_wp2_with fail
   go_at_call 5
   refine(hsyL _ bw1).mono ?_;rintro e w2 ⟨rfl,b2⟩;go_wp2;go_ret;exact⟨rfl,Nm.below_two bw1 b2⟩
 ·have e1:szZ o ps 1048576= -1:=if_neg hb;rw [e1] at hsz;clear hb hx1 hx2 e1 hsy;go_enter Tryz.func3,Tryz.ntmps3;go_wp2_with fail
  go_at_call 4
  refine hsz.mono ?_;rintro e w1 ⟨rfl,b1⟩;go_wp2;go_ret;exact⟨rfl,Nm.below_two b0 b1⟩
end Go.Proofs.YtgilkakllagbnaaGreat
