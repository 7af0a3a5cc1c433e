import Derived.Test.YtcihkbojmbfmmaaGreatDoorJCzM
import Derived.Test.YtcihkbojmbfmmaaGreatDoorJCzC
import Derived.Test.YtcihkbojmbfmmaaGreatDoorJCzO
namespace Go.Proofs.YtcihkbojmbfmmaaGreatDoor
open Go.RowKit
set_option linter.unusedVariables false
theorem sjR_len(ps:List Zp)(o:ByteArray):(sjR ps o).1.length<=400000:=by
 rw [sjR];split
 ·split
  ·simp
  ·show(frmP _).length<=400000
   simp [frmP,bigL_len,shaL_len]
   omega
 ·simp
theorem sjR_same{ps qs:List Zp}{o:ByteArray}(h:qs.map (·.1)=ps.map (·.1))(hz:zOK qs o=zOK ps o):sjR qs o=sjR ps o:=by
 rw [sjR,sjR,hz,zoneRecs_same h]
theorem first_ofJ{W:World}(hL:laidMet Tryz.prog Rows.fnExactStartJournalRow.laid W):∃ t fr,W.heap[0]? =some (.cells (hvA H0) t fr):=by
 have h:=tab_of_laid (g:=0) (t:=145) (e:=125) (n:=8) (k:=.u32) (zs:=[1779033703,3144134277,1013904242,2773480762,1359893119,2600822924,528734635,1541459225]) hL (by exact List.Mem.head _) (by kernel_rfl) (by kernel_rfl) Tryz.underlying145 Tryz.underlying125 (by kernel_rfl) (by kernel_rfl);exact var_block (by kernel_rfl) h
theorem round_ofJ{W:World}(hL:laidMet Tryz.prog Rows.fnExactStartJournalRow.laid W):KAt W 1:=by
 have h:=tab_of_laid (g:=1) (t:=127) (e:=125) (n:=64) (k:=.u32) (zs:=KL.map fun n=>((n:Nat):Int)) hL (by exact List.Mem.tail _ (List.Mem.head _)) (by kernel_rfl) (by kernel_rfl) Tryz.underlying127 Tryz.underlying125 (by kernel_rfl) (by kernel_rfl);obtain⟨t,fr,hh⟩:=var_block (g:=1) (by kernel_rfl) h;intro i hi;rw [cell_of_row _ _ _ _ _ _ hh,List.map_map];exact KW_at hi
set_option maxRecDepth 100000 in
set_option maxHeartbeats 6400000 in
theorem fnExactStartJournal_walk(o:ByteArray)(v:Value)(ps:List Zp)(w:World)(h:ZRow w v ps)(hx:ZFit ps)(ho:o.size<=maxLen)(hL:laidMet Tryz.prog Rows.fnExactStartJournalRow.laid w):
 Calls Tryz.prog 3 #[.agg #[.string o,v]] w fun e w'=>e=.returned (.bool true)∧Below w.heap.size w w':=by
 have hA:ShaAt w:=⟨first_ofJ hL,round_ofJ hL⟩;clear hL;have hBa:=(Below.refl w.heap.size w).alloc (Nat.le_refl _) (.cells #[.string o,v] 24);have hz0:=blk_new w #[.string o,v] 24;have Z0:=h.below hBa;have hsz:=szZone_any o v ps 1048576 _ Z0 hx ho (by decide) (by decide);obtain⟨a,cap,hva⟩:∃ a c,v=.slice a ps.length c:=by obtain⟨⟨_,a,c,e,_⟩,_⟩:=h;exact⟨a,c,e⟩
 subst hva
 by_cases hb:(o.size:Int)+ps.length+(zsum ps:Int)<=1048576
 ·have e1:szZ o ps 1048576=1048576-o.size-ps.length-zsum ps:=if_pos hb;rw [e1] at hsz;have hzs:zsum ps<=1048576:=by omega
  have hpl:ps.length<=1048576:=by omega
  have hol:o.size<=1048576:=by omega
  have hfit:=cz_fits hzs;have hnn:0<=1048576-(o.size:Int)-(ps.length:Int)-(zsum ps:Int):=by omega
  generalize (1048576-(o.size:Int)-(ps.length:Int)-(zsum ps:Int))=L at*;clear hb hx e1
  -- what each call does
  have hto:∀ W,Below w.heap.size w W->Calls Tryz.prog 6 #[.agg #[.string o,.slice a ps.length cap]] W fun e w'=>∃ u qs,e=.returned (.agg #[.string o,u])∧qs.map (·.1)=ps.map (·.1)∧OZ w' W.heap.size u qs∧Below W.heap.size W w':=fun W hW=>toZone_any o _ ps W (h.below hW) hpl (fun p hp=>(hfit p hp).2.1)
  have hfq:∀ qs:List Zp,qs.map (·.1)=ps.map (·.1)->∀ q∈qs,q.1.own.size<=1048576∧q.1.da.length<=1048576∧∀ x∈q.1.da,x.size<=1048576:=fun qs hq=>cz_mem hq (P:=fun s=>s.own.size<=1048576∧s.da.length<=1048576∧∀ x∈s.da,x.size<=1048576) hfit
  have hsp:∀ (u:Value) (qs:List Zp) (W:World),qs.map (·.1)=ps.map (·.1)->ZRow W u qs->Calls Tryz.prog 5 #[.agg #[.string o,u]] W (SjS (sjR ps o) W):=by
   intro u qs W hq hz;have hl:qs.length=ps.length:=by have:=congrArg List.length hq;simpa using this
   have:=specStartJournal_any o u qs W hz (by rw [zsum_same hq];exact hzs) (by omega) hol (fun q hq'=>⟨(hfq qs hq q hq').1,(hfq qs hq q hq').2.2⟩)
   rwa [sjR_same hq (zOK_same hq o)] at this
  have him:∀ (u:Value) (qs:List Zp) (W:World),qs.map (·.1)=ps.map (·.1)->ZRow W u qs->Below w.heap.size w W->Calls Tryz.prog 7 #[.agg #[.string o,u]] W (SjP (sjR ps o) W):=by
   intro u qs W hq hz hW;have:=implStartJournal_any o u qs W hz (by rw [zsum_same hq];exact hzs) hol (fun q hq'=>⟨(hfq qs hq q hq').1,(hfq qs hq q hq').2.2⟩) (hA.below hW)
   rwa [sjR_same hq (zOK_same hq o)] at this
  have hez:∀ (u u':Value) (qs rs:List Zp) (W:World),qs.map (·.1)=ps.map (·.1)->rs.map (·.1)=ps.map (·.1)->ZRow W u qs->ZRow W u' rs->Calls Tryz.prog 9 #[.agg #[.string o,u],.agg #[.string o,u']] W fun e w'=>e=.returned (.bool true)∧Below W.heap.size W w':=fun u u' qs rs W h1 h2 h3 h4=>eqZone_any o u u' qs rs W h3 h4 (h1.trans h2.symm) (cz_mem h1 (P:=fun s=>s.da.length<=1000000000) (fun p hp=>by have:=(hfit p hp).2.1;omega))
  have hmz:∀ (u:Value) (qs:List Zp) (B C:Nat) (W:World),qs.map (·.1)=ps.map (·.1)->OZ W B u qs->(∀ g,u.ownBlock=some g->g<C)->(∀ q∈qs,∀ g,q.2.ownBlock=some g->g<C)->Calls Tryz.prog 10 #[.agg #[.string o,u],.int .i64 1] W fun e w'=>∃ k:Nat,e=.returned (.int .i64 (k:Int))∧Mj B C W w':=by
   intro u qs B C W hq h1 h2 h3;have hl:qs.length=ps.length:=by have:=congrArg List.length hq;simpa using this
   refine(markZone_mk o u qs B C 1 W h1 h2 h3 (by have:=zl_le qs;rw [zsum_same hq] at this;omega) (by decide)).mono ?_;rintro e w' ⟨rfl,hm⟩;exact⟨_,rfl,hm⟩
  have hda:=sjR_len ps o;unfold SjS at hsp;unfold SjP at him;generalize (sjR ps o).2=RB at*;generalize (sjR ps o).1=ds at*;have heq:=fun(r r':Value) (W:World) (h1:BySl W r ds) h2=>eqBy_any r r' ds W h1 h2
  have hRn:(RB != RB)=false:=by simp
  obtain⟨N,hN⟩:∃ N:Int,N=1+(ds.length:Int):=⟨_,rfl⟩;have hN0:0<=N:=by omega
  have hNn:(N != N)=false:=by simp
  have hmr:=fun(r:Value) (B:Nat) (W:World) (h1:W.ownsRow B 5 1 r ds.length (Nm.bys ds))=>markBy_any r ds.length B _ W h1 (by omega)
  have hhr:=fun(r:Value) (W:World) hc=>heldBy_any r ds.length W hc (by omega)
  rw [<- hN] at hmr hhr;have HS:Hid (∀ {W:World} {B:Nat} {r:Value},W.ownsRow B 5 1 r ds.length (Nm.bys ds)->BySl W r ds):=fun h=>CRow.of_owns h
  have HM:Hid (∀ {W:World} {B:Nat} {r:Value},W.ownsRow B 5 1 r ds.length (bmk ds.length)->CRow W r ds.length 1 (bmk ds.length)):=fun h=>CRow.of_owns h
  clear hfit hzs hpl hN hfq ho;go_enter Tryz.func3,Tryz.ntmps3;go_wp2_with fail
  refine hsz.mono ?_;rintro e w1 ⟨rfl,hb1⟩;have z1:=blk_below hz0 hb1;have b1:=Nm.below_two hBa hb1;have q0:=(blk_cell z1 0).trans rfl;have q1:=(blk_cell z1 1).trans rfl;clear hsz hz0 hb1 Z0;go_wp2_with fail
  refine(hto _ b1).mono ?_;rintro e w2 ⟨u2,qs2,rfl,hq2,hoz2,hb2⟩;have z2:=blk_below z1 hb2;have b2:=Nm.below_two b1 hb2;clear q0 q1 z1;go_wp2_with fail
  refine(hsp u2 qs2 _ hq2 hoz2.read).mono ?_;rintro e w3 ⟨r3,rfl,ho3,hb3⟩;obtain⟨ra3,rc3,hr3⟩:∃ a c,r3=.slice a ds.length c:=by obtain⟨_,a,c,e,_⟩:=ho3;exact⟨a,c,e⟩
  subst hr3;have z3:=blk_below z2 hb3;have b3:=Nm.below_two b2 hb3;have q0:=(blk_cell z3 0).trans rfl;have q1:=(blk_cell z3 1).trans rfl;have hlt3:w.heap.size<w3.heap.size:=Nat.lt_of_lt_of_le (blk_lt z2) hb3.size;clear z2 hsp hoz2;go_wp2_with fail
  refine(hto _ b3).mono ?_;rintro e w4 ⟨u4,qs4,rfl,hq4,hoz4,hb4⟩;obtain⟨ua4,uc4,hu4⟩:=own_sl hoz4.1;subst hu4;have z4:=blk_below z3 hb4;have b4:=Nm.below_two b3 hb4;have HO3:=Nm.hide ho3;have d4:=hb4;have hs4:=hb4.size;obtain⟨hC4,hD4⟩:=hoz4.lt;have hbA:=(Below.refl w4.heap.size w4).alloc (Nat.le_refl _) (.cells #[.string o,.slice ua4 qs4.length uc4] 31);have x4:=blk_new w4 #[.string o,.slice ua4 qs4.length uc4] 31;have hszA:(w4.alloc (.cells #[.string o,.slice ua4 qs4.length uc4] 31)).heap.size=w4.heap.size+1:=by simp
  have hozA:=hoz4.below hbA;have HLT:=Nm.hide (And.intro hlt3 hs4);clear q0 q1 z3 ho3 hs4 hlt3;go_wp2_with fail
  refine(him _ qs4 _ hq4 hozA.read (Nm.below_two b4 hbA)).mono ?_;rintro e w6 ⟨r5,rfl,ho5,hb5⟩;obtain⟨ra5,rc5,hr5⟩:=own_sl ho5;subst hr5;rw [hszA] at ho5;have hbA6:=Nm.below_two hbA hb5;have z6:=blk_below z4 hbA6;have x6:=blk_below x4 hb5;have b6:=Nm.below_two b4 hbA6;have hoz6:=hoz4.below hbA6;have d6:=Nm.below_two d4 hbA6;have hl5:∀ g,(Value.slice ra5 ds.length rc5).ownBlock=some g->w4.heap.size+1<=g:=fun g hg=>(ho5.lt g hg).1
  clear z4 x4 hozA hoz4 d4 hbA hbA6 hb5 hszA;go_wp2_with fail
  refine(heq _ _ _ (HS.out ho5) (HO3.out.below d6)).mono ?_;rintro e w7 ⟨rfl,hb7⟩;have z7:=blk_below z6 hb7;have x7:=blk_below x6 hb7;have b7:=Nm.below_two b6 hb7;have hoz7:=hoz6.below hb7;have d7:=Nm.below_two d6 hb7;have ho57:=own_below ho5 hb7;clear z6 x6 b6 hoz6 d6 ho5 hb7
  have hS:∀ W,Below w7.heap.size w7 W->((W.cell? ⟨w.heap.size,0,none⟩=some (.string o)∧W.cell? ⟨w.heap.size,1,none⟩=some (.slice a ps.length cap))∧(W.cell? ⟨w4.heap.size,0,none⟩=some (.string o)∧W.cell? ⟨w4.heap.size,1,none⟩=some (.slice ua4 qs4.length uc4)))∧Below w7.heap.size w7 W:=by
   intro W hW;have y1:=blk_below z7 hW;have y2:=blk_below x7 hW;exact⟨⟨⟨(blk_cell y1 0).trans rfl,(blk_cell y1 1).trans rfl⟩,(blk_cell y2 0).trans rfl,(blk_cell y2 1).trans rfl⟩,hW⟩
  have hS0:=hS w7.drew (Below.refl _ _).drew;go_wp2;go_region_held3 (fun W=>((W.cell? ⟨w.heap.size,0,none⟩=some (.string o)∧W.cell? ⟨w.heap.size,1,none⟩=some (.slice a ps.length cap))∧(W.cell? ⟨w4.heap.size,0,none⟩=some (.string o)∧W.cell? ⟨w4.heap.size,1,none⟩=some (.slice ua4 qs4.length uc4)))∧Below w7.heap.size w7 W) (first|with_reducible assumption|with_reducible exact hS0) ((first|(go_at_call 6;refine(hto _ (Nm.below_two b7 hS0.2)).mono ?_;rintro e w8 ⟨u8,qs8,rfl,hq8,hoz8,hb8⟩;have hb78:Below w7.heap.size w7 w8:=Nm.below_two (Below.refl _ _).drew hb8;have hS8:=hS _ hb78)|(go_at_call 9;refine(hez _ _ qs4 qs8 _ hq4 hq8 (hoz7.below hb78).read hoz8.read).mono ?_;rintro e w9 ⟨rfl,hb9⟩;have hb79:=Nm.below_two hb78 hb9;have hS9:=hS _ hb79)))
  have z9:=blk_below z7 hb79;have x9:=blk_below x7 hb79;have b9:=Nm.below_two b7 hb79;have hoz9:=hoz7.below hb79;have d9:=Nm.below_two d7 hb79;have ho59:=own_below ho57 hb79;have q0:=(blk_cell x9 0).trans rfl;have q1:=(blk_cell x9 1).trans rfl;clear hS hS0 hS9 z7 x7 hoz7 d7 ho57 hez b7;go_wp2_with fail
  refine(hmz _ qs4 w3.heap.size w4.heap.size _ hq4 hoz9 hC4 hD4).mono ?_;rintro e w10 ⟨k10,rfl,hm10⟩;have hk10:(0:Int)<=(k10:Int):=by omega
  have z10:Blk w10 w.heap.size #[.string o,.slice a ps.length cap] 24:=(hm10.block _ (blk_lt z9) (.inl HLT.out.1)).trans z9;have d10:Below w3.heap.size w3 w10:=d9.trans (hm10.down (Nat.le_refl _) d9.size);have ho510:=own_mj ho59 (fun g hg=>.inr (by have:=hl5 g hg;omega)) hm10;have b10:Below w.heap.size w w10:=b9.trans (hm10.down (by have:=HLT.out.1;omega) b9.size);clear q0 q1 z9 x9 hoz9 d9 ho59 hmz hm10 b9;go_wp2_with fail
  refine(heq _ _ _ (HS.out ho510) (HO3.out.below d10)).mono ?_;rintro e w11 ⟨rfl,hb11⟩;have z11:=blk_below z10 hb11;have d11:=Nm.below_two d10 hb11;have ho511:=own_below ho510 hb11;have b11:=Nm.below_two b10 hb11;clear z10 d10 ho510 b10;go_wp2_with fail
  refine(hmr _ _ _ ho511).mono ?_;rintro e w12 ⟨rfl,ho12,hg12⟩;have z12:=blk_grown z11 hg12 (own_nb ho511 z11 (by decide));have d12:Below w3.heap.size w3 w12:=d11.grown hg12 d11.size (fun g hg=>by have h1:=hl5 g hg;have h3:=HLT.out.2;omega);have b12:Below w.heap.size w w12:=b11.grown hg12 b11.size (fun g hg=>by have:=hl5 g hg;have h3:=HLT.out;omega);clear z11 d11 ho511 b11 hg12 hmr hb11;go_wp2_with fail
  refine(hhr _ _ (HM.out ho12)).mono ?_;rintro e w13 ⟨rfl,hb13⟩;have z13:=blk_below z12 hb13;have d13:=Nm.below_two d12 hb13;have ho513:=own_below ho12 hb13;have b13:=Nm.below_two b12 hb13;have q0:=(blk_cell z13 0).trans rfl;have q1:=(blk_cell z13 1).trans rfl;clear z12 d12 ho12 b12 hb13;go_wp2_with fail
  refine(hto _ b13).mono ?_;rintro e w14 ⟨u14,qs14,rfl,hq14,hoz14,hb14⟩;go_wp2_with fail
  refine(him _ qs14 _ hq14 hoz14.read (Nm.below_two b13 hb14)).mono ?_;rintro e w16 ⟨r15,rfl,ho16,hb15⟩;obtain⟨ra15,rc15,hr15⟩:=own_sl ho16;subst hr15;have hb16:=Nm.below_two hb14 hb15;have d16:=Nm.below_two d13 hb16;have ho516:=own_below ho513 hb16;have b16:=Nm.below_two b13 hb16;clear q0 q1 z13 d13 ho513 hb14 hb15 hb16 hoz14 hto him;go_wp2_with fail
  refine(heq _ _ _ (HS.out ho16) (HO3.out.below d16)).mono ?_;rintro e w17 ⟨rfl,hb17⟩;have ho517:=own_below ho516 hb17;go_wp2_with fail
  refine(hhr _ _ (HM.out ho517)).mono ?_;rintro e w18 ⟨rfl,hb18⟩;have b18:=Nm.below_two (Nm.below_two b16 hb17) hb18;go_wp2;go_ret;exact⟨rfl,b18⟩
 ·have e1:szZ o ps 1048576= -1:=if_neg hb;rw [e1] at hsz;clear hb e1 hx Z0;go_enter Tryz.func3,Tryz.ntmps3;go_wp2_with fail
  refine hsz.mono ?_;rintro e w1 ⟨rfl,b1⟩;go_wp2;go_ret;exact⟨rfl,Nm.below_two hBa b1⟩
end Go.Proofs.YtcihkbojmbfmmaaGreatDoor
