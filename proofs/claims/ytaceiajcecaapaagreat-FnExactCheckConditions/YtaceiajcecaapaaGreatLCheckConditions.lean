import Derived.Test.YtaceiajcecaapaaGreatJCzX
import Derived.Test.YtaceiajcecaapaaGreatJCnI
import Derived.Test.YtaceiajcecaapaaGreatJZrI
import Derived.Test.YtaceiajcecaapaaGreatJZrM
import Derived.Test.YtaceiajcecaapaaGreatJTake1
import Derived.Test.YtaceiajcecaapaaGreatJCmp
namespace Go.Proofs.YtaceiajcecaapaaGreat
open Go.RowKit
set_option linter.unusedVariables false
theorem cnR_same{ps qs:List Zp}(h:qs.map (·.1)=ps.map (·.1))(o:ByteArray)(xs:List Rr):cnR qs o xs=cnR ps o xs:=by
 rw [cnR,cnR,cnB,cnB,zOK_same h,h]
set_option maxRecDepth 100000 in
set_option maxHeartbeats 6400000 in
theorem fnExactCheckConditions_walk(o:ByteArray)(v:Value)(ps:List Zp)(l:Value)(xs:List Rr)(w:World)(h:ZRow w v ps)(hx:ZFit ps)(ho:o.size<=maxLen)(hl:CRow w l xs.length 5 (rvVs xs))(hlx:∀ r∈xs,r.own.size<=maxLen∧r.da.size<=maxLen):
 Calls Tryz.prog 3 #[.agg #[.string o,v],l] w fun e w'=>e=.returned (.bool true)∧Below w.heap.size w w':=by
 have hBa:=(Below.refl w.heap.size w).alloc (Nat.le_refl _) (.cells #[.string o,v] 24);have hz0:=blk_new w #[.string o,v] 24;have Z0:=h.below hBa;have hsz:=szZone_any o v ps 1048576 _ Z0 hx ho (by decide) (by decide);obtain⟨a,cap,hva⟩:∃ a c,v=.slice a ps.length c:=by obtain⟨⟨_,a,c,e,_⟩,_⟩:=h;exact⟨a,c,e⟩
 subst hva;obtain⟨la,lc,hla⟩:∃ a c,l=.slice a xs.length c:=by obtain⟨_,a,c,e,_⟩:=hl;exact⟨a,c,e⟩
 subst hla
 by_cases hb:(o.size:Int)+ps.length+(zsum ps:Int)<=1048576
 ·have e1:szZ o ps 1048576=1048576-o.size-ps.length-zsum ps:=if_pos hb;rw [e1] at hsz;have hzs:zsum ps<=1048576:=by omega
  have hpl:ps.length<=1048576:=by omega
  have hol:o.size<=1048576:=by omega
  have hfit:=cz_fits hzs;have hnn:0<=1048576-(o.size:Int)-(ps.length:Int)-(zsum ps:Int):=by omega
  have hnm:1048576-(o.size:Int)-(ps.length:Int)-(zsum ps:Int)<=1048576:=by omega
  generalize (1048576-(o.size:Int)-(ps.length:Int)-(zsum ps:Int))=L at*;have hsz2:=fun W (hW:Below w.heap.size w W)=>szRRS_any _ xs L W (hl.below hW) hlx hnn hnm
  clear hb hx e1
  by_cases hb:(xs.length:Int)+(rsum xs:Int)<=L
  ·have e1:szRS xs L=L-xs.length-rsum xs:=if_pos hb;rw [e1] at hsz2;have hlen:xs.length<=1048576:=by omega
   have hxs:∀ r∈xs,r.own.size<=1048576∧r.da.size<=1048576:=by
    intro r hr;have:=rsum_mem xs r hr;omega
   have hnn2:0<=L-(xs.length:Int)-(rsum xs:Int):=by omega
   generalize (L-(xs.length:Int)-(rsum xs:Int))=M at*
   -- what each call does
   have htr:=fun W (hW:Below w.heap.size w W)=>toRRS_any _ xs W (hl.below hW) hlen
   have hto:∀ W,Below w.heap.size w W->Calls Tryz.prog 7 #[.agg #[.string o,.slice a ps.length cap]] W fun e w'=>∃ u qs,e=.returned (.agg #[.string o,u])∧qs.map (·.1)=ps.map (·.1)∧OZ w' W.heap.size u qs∧Below W.heap.size W w':=fun W hW=>toZone_any o _ ps W (h.below hW) hpl (fun p hp=>(hfit p hp).2.1)
   have hfq:∀ qs:List Zp,qs.map (·.1)=ps.map (·.1)->∀ q∈qs,q.1.own.size<=1048576∧q.1.da.length<=1048576∧∀ x∈q.1.da,x.size<=1048576:=fun qs hq=>cz_mem hq (P:=fun s=>s.own.size<=1048576∧s.da.length<=1048576∧∀ x∈s.da,x.size<=1048576) hfit
   have hsp:∀ (u y:Value) (qs:List Zp) (W:World),qs.map (·.1)=ps.map (·.1)->ZRow W u qs->CRow W y xs.length 5 (rvVs xs)->Calls Tryz.prog 6 #[.agg #[.string o,u],y] W fun e w'=>e=.returned (.tuple #[.int .i64 (cnR ps o xs).1,.int .i64 (cnR ps o xs).2])∧Below W.heap.size W w':=by
    intro u y qs W hq hz hy;have hl:qs.length=ps.length:=by have:=congrArg List.length hq;simpa using this
    have:=specCheckConditions_any o u y qs xs W hz (by rw [zsum_same hq];exact hzs) (by omega) (hfq qs hq) (by omega) hy hxs
    rwa [cnR_same hq] at this
   have him:∀ (u y:Value) (qs:List Zp) (W:World),qs.map (·.1)=ps.map (·.1)->ZRow W u qs->CRow W y xs.length 5 (rvVs xs)->Calls Tryz.prog 9 #[.agg #[.string o,u],y] W fun e w'=>e=.returned (.tuple #[.int .i64 (cnR ps o xs).1,.int .i64 (cnR ps o xs).2])∧Below W.heap.size W w':=by
    intro u y qs W hq hz hy;have:=implCheckConditions_any o u y qs xs W hz (by rw [zsum_same hq];exact hzs) (fun q hq'=>⟨(hfq qs hq q hq').1,(hfq qs hq q hq').2.2⟩) (by omega) hy hxs
    rwa [cnR_same hq] at this
   have hez:∀ (u u':Value) (qs rs:List Zp) (W:World),qs.map (·.1)=ps.map (·.1)->rs.map (·.1)=ps.map (·.1)->ZRow W u qs->ZRow W u' rs->Calls Tryz.prog 10 #[.agg #[.string o,u],.agg #[.string o,u']] W fun e w'=>e=.returned (.bool true)∧Below W.heap.size W w':=fun u u' qs rs W h1 h2 h3 h4=>eqZone_any o u u' qs rs W h3 h4 (h1.trans h2.symm) (cz_mem h1 (P:=fun s=>s.da.length<=1000000000) (fun p hp=>by have:=(hfit p hp).2.1;omega))
   have her:=fun V U W=>eqRVS_any V U xs W
   obtain⟨N1,hN1⟩:∃ N:Int,N=(cnR ps o xs).1:=⟨_,rfl⟩;obtain⟨N2,hN2⟩:∃ N:Int,N=(cnR ps o xs).2:=⟨_,rfl⟩;rw [<- hN1,<- hN2] at hsp him;have hNn:(N1 != N1)=false:=by simp
   have hNn2:(N2 != N2)=false:=by simp
   clear hfit hzs hpl hN1 hN2 hfq ho hlx hxs hlen hb e1 hnm;go_enter Tryz.func3,Tryz.ntmps3;go_wp2_with fail
   refine hsz.mono ?_;rintro e w1 ⟨rfl,hb1⟩;have z1:=blk_below hz0 hb1;have b1:=Nm.below_two hBa hb1;clear hsz hz0 hb1 Z0;go_wp2_with fail
   refine(hsz2 _ b1).mono ?_;rintro e w1b ⟨rfl,hb1b⟩;have z1b:=blk_below z1 hb1b;have b1b:=Nm.below_two b1 hb1b;have q0:=(blk_cell z1b 0).trans rfl;have q1:=(blk_cell z1b 1).trans rfl;clear hsz2 z1 hb1b;go_wp2_with fail
   refine(hto _ b1b).mono ?_;rintro e w2 ⟨u2,qs2,rfl,hq2,hoz2,hb2⟩;have z2:=blk_below z1b hb2;have b2:=Nm.below_two b1b hb2;clear q0 q1 z1b;go_wp2_with fail
   refine(htr _ b2).mono ?_;rintro e w2b ⟨y2,rfl,hy2,hb2b⟩;have z2b:=blk_below z2 hb2b;have b2b:=Nm.below_two b2 hb2b;have hoz2b:=hoz2.below hb2b;clear z2 hoz2;go_wp2_with fail
   refine(hsp u2 y2 qs2 _ hq2 hoz2b.read (CRow.of_owns hy2)).mono ?_;rintro e w3 ⟨rfl,hb3⟩;have z3:=blk_below z2b hb3;have b3:=Nm.below_two b2b hb3;have q0:=(blk_cell z3 0).trans rfl;have q1:=(blk_cell z3 1).trans rfl;clear z2b hsp hoz2b hy2 hb2b;go_wp2_with fail
   refine(hto _ b3).mono ?_;rintro e w4 ⟨u4,qs4,rfl,hq4,hoz4,hb4⟩;obtain⟨ua4,uc4,hu4⟩:=own_sl hoz4.1;subst hu4;have z4:=blk_below z3 hb4;have b4:=Nm.below_two b3 hb4;have hbA:=(Below.refl w4.heap.size w4).alloc (Nat.le_refl _) (.cells #[.string o,.slice ua4 qs4.length uc4] 32);have x4:=blk_new w4 #[.string o,.slice ua4 qs4.length uc4] 32;have b4A:=Nm.below_two b4 hbA;have z4A:=blk_below z4 hbA;have hozA:=hoz4.below hbA;clear q0 q1 z3 hoz4 z4;go_wp2_with fail
   refine(htr _ b4A).mono ?_;rintro e w5 ⟨y5,rfl,hy5,hb5⟩;have z5:=blk_below z4A hb5;have x5:=blk_below x4 hb5;have b5:=Nm.below_two b4A hb5;have hoz5:=hozA.below hb5;have q0:=(blk_cell x5 0).trans rfl;have q1:=(blk_cell x5 1).trans rfl;clear z4A x4 hozA hb5;go_wp2_with fail
   refine(him _ y5 qs4 _ hq4 hoz5.read (CRow.of_owns hy5)).mono ?_;rintro e w6 ⟨rfl,hb6⟩;have z6:=blk_below z5 hb6;have x6:=blk_below x5 hb6;have b6:=Nm.below_two b5 hb6;have hoz6:=hoz5.below hb6;have hy6:=(CRow.of_owns hy5).below hb6;clear z5 x5 hoz5 hy5 hb6 q0 q1 him
   have hS:∀ W,Below w6.heap.size w6 W->((W.cell? ⟨w.heap.size,0,none⟩=some (.string o)∧W.cell? ⟨w.heap.size,1,none⟩=some (.slice a ps.length cap))∧(W.cell? ⟨w4.heap.size,0,none⟩=some (.string o)∧W.cell? ⟨w4.heap.size,1,none⟩=some (.slice ua4 qs4.length uc4)))∧Below w6.heap.size w6 W:=by
    intro W hW;have y1:=blk_below z6 hW;have y2:=blk_below x6 hW;exact⟨⟨⟨(blk_cell y1 0).trans rfl,(blk_cell y1 1).trans rfl⟩,(blk_cell y2 0).trans rfl,(blk_cell y2 1).trans rfl⟩,hW⟩
   have hS0:=hS w6.drew (Below.refl _ _).drew;go_wp2;go_region_held3 (fun W=>((W.cell? ⟨w.heap.size,0,none⟩=some (.string o)∧W.cell? ⟨w.heap.size,1,none⟩=some (.slice a ps.length cap))∧(W.cell? ⟨w4.heap.size,0,none⟩=some (.string o)∧W.cell? ⟨w4.heap.size,1,none⟩=some (.slice ua4 qs4.length uc4)))∧Below w6.heap.size w6 W) (first|with_reducible assumption|with_reducible exact hS0) ((first|(go_at_call 7;refine(hto _ (Nm.below_two b6 hS0.2)).mono ?_;rintro e w7 ⟨u7,qs7,rfl,hq7,hoz7,hb7⟩;have hb67:Below w6.heap.size w6 w7:=Nm.below_two (Below.refl _ _).drew hb7;have hS7:=hS _ hb67)|(go_at_call 10;refine(hez _ _ qs4 qs7 _ hq4 hq7 (hoz6.below hb67).read hoz7.read).mono ?_;rintro e w8 ⟨rfl,hb8⟩;have hb68:=Nm.below_two hb67 hb8;have hS8:=hS _ hb68)))
   have b8:=Nm.below_two b6 hb68;have hy8:=hy6.below hb68;clear hS hS0 hS7 hS8 hoz6 hoz7 hez hto z6 x6;go_wp2_with fail
   refine(htr _ b8).mono ?_;rintro e w9 ⟨y9,rfl,hy9,hb9⟩;have b9:=Nm.below_two b8 hb9;go_wp2_with fail
   refine(her y5 y9 _ (hy8.below hb9) (CRow.of_owns hy9)).mono ?_;rintro e w10 ⟨rfl,hb10⟩;have b10:=Nm.below_two b9 hb10;go_wp2;go_ret;exact⟨rfl,b10⟩
  ·have e1:szRS xs L= -1:=if_neg hb;rw [e1] at hsz2;clear hb e1 Z0 hfit hlx;go_enter Tryz.func3,Tryz.ntmps3;go_wp2_with fail
   refine hsz.mono ?_;rintro e w1 ⟨rfl,hb1⟩;have b1:=Nm.below_two hBa hb1;go_wp2_with fail
   refine(hsz2 _ b1).mono ?_;rintro e w2 ⟨rfl,hb2⟩;go_wp2;go_ret;exact⟨rfl,Nm.below_two b1 hb2⟩
 ·have e1:szZ o ps 1048576= -1:=if_neg hb;rw [e1] at hsz;clear hb e1 hx Z0;go_enter Tryz.func3,Tryz.ntmps3;go_wp2_with fail
  refine hsz.mono ?_;rintro e w1 ⟨rfl,b1⟩;go_wp2;go_ret;exact⟨rfl,Nm.below_two hBa b1⟩
end Go.Proofs.YtaceiajcecaapaaGreat
