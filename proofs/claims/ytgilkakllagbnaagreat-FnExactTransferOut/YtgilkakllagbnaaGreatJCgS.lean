import Derived.Test.YtgilkakllagbnaaGreatJTzM
import Derived.Test.YtgilkakllagbnaaGreatJStA
import Derived.Test.YtgilkakllagbnaaGreatJStI
import Derived.Lib.SmallJoins
import Derived.Test.YtgilkakllagbnaaGreatJOwnT
namespace Go.Proofs.YtgilkakllagbnaaGreat
open Go.RowKit
set_option linter.unusedVariables false
def szC(a b:Rr)(xs ys:List Rr)(L:Int):Int:=
 if szR a L<0 then -1 else if szR b (szR a L)<0 then -1 else if szRS xs (szR b (szR a L))<0 then -1 else if szRS ys (szRS xs (szR b (szR a L)))<0 then -1 else szRS ys (szRS xs (szR b (szR a L)))
theorem szR_le{r:Rr}{L:Int}(h:¬szR r L<0):(r.own.size:Int)+r.da.size<=L∧0<=szR r L∧szR r L<=L:=by
 unfold szR at*
 split at h
 ·split<;>omega
 ·omega
theorem szRS_le{xs:List Rr}{L:Int}(h:¬szRS xs L<0):(xs.length:Int)+rsum xs<=L∧0<=szRS xs L∧szRS xs L+xs.length<=L:=by
 unfold szRS at*
 split at h
 ·split<;>omega
 ·omega
theorem szRS_neg{xs:List Rr}{L:Int}(h:szRS xs L<0):szRS xs L= -1:=by
 unfold szRS at*
 split at h
 ·omega
 ·rename_i g;rw [if_neg g]
set_option maxRecDepth 100000 in
set_option maxHeartbeats 1600000 in
theorem szChange_any(a b:Rr)(d e:Value)(xs ys:List Rr)(L:Int)(w:World)(h1:CRow w d xs.length 5 (rvVs xs))(h2:CRow w e ys.length 5 (rvVs ys))(ha:RFit a)(hb:RFit b)(hx:∀ r∈xs,RFit r)(hy:∀ r∈ys,RFit r)(h0:0<=L)(hL:L<=1048576):
 Calls Tryz.prog 18 #[cgV a b d e,.int .i64 L] w fun r w'=>r=.returned (.int .i64 (szC a b xs ys L))∧Below w.heap.size w w':=by
 obtain⟨R,HR⟩:∃ R,Hid (R=szC a b xs ys L):=⟨_,rfl⟩;rw [<- HR.out];have hc1:=fun W=>szRR_any a L W h0 hL ha.1 ha.2.1
 have hc2:=fun W (l0:0<=szR a L) (l1:szR a L<=1048576)=>szRR_any b (szR a L) W l0 l1 hb.1 hb.2.1
 have hc3:=fun W (hW:Below w.heap.size w W) (l0:0<=szR b (szR a L)) (l1:szR b (szR a L)<=1048576)=>szRRS_any d xs (szR b (szR a L)) W (h1.below hW) (fun r hr=>⟨(hx r hr).1,(hx r hr).2.1⟩) l0 l1
 have hc4:=fun W (hW:Below w.heap.size w W) (l0:0<=szRS xs (szR b (szR a L))) (l1:szRS xs (szR b (szR a L))<=1048576)=>szRRS_any e ys (szRS xs (szR b (szR a L))) W (h2.below hW) (fun r hr=>⟨(hy r hr).1,(hy r hr).2.1⟩) l0 l1
 obtain⟨_,da,dc,rfl,-,-,-⟩:=h1;obtain⟨_,ea,ec,rfl,-,-,-⟩:=h2;have b0:=(Below.refl w.heap.size w).alloc (Nat.le_refl _) (.cells (cgL a b (.slice da xs.length dc) (.slice ea ys.length ec)).toArray 50);have k0:=blk_new w (cgL a b (.slice da xs.length dc) (.slice ea ys.length ec)).toArray 50;have r0:=fun i=>blk_cell k0 i
 clear ha hb hx hy
 by_cases g1:szR a L<0
 ·have HN:Hid (R= -1):=by show _=_;rw [HR.out,szC,if_pos g1]
  clear HR hc2 hc3 hc4;generalize szR a L=L1 at*;go_enter Tryz.func18,Tryz.ntmps18;go_wp2_with fail
  refine(hc1 _).mono ?_;rintro r w1 ⟨rfl,c1⟩;have bw1:=Nm.below_two b0 c1;go_wp2;go_ret;rw [HN.out];exact⟨rfl,by assumption⟩
 ·obtain⟨p1,q1,r1⟩:=szR_le g1
  replace hc2:=fun W=>hc2 W q1 (by omega)
  by_cases g2:szR b (szR a L)<0
  ·have HN:Hid (R= -1):=by show _=_;rw [HR.out,szC,if_neg g1,if_pos g2]
   clear HR hc3 hc4;generalize szR b (szR a L)=L2 at*;generalize szR a L=L1 at*;go_enter Tryz.func18,Tryz.ntmps18;go_wp2_with fail
   refine(hc1 _).mono ?_;rintro r w1 ⟨rfl,c1⟩;have bw1:=Nm.below_two b0 c1;have k1:=blk_below k0 c1;clear r0 k0;have r0:=fun i=>blk_cell k1 i
   go_wp2_with fail
   refine(hc2 _).mono ?_;rintro r w2 ⟨rfl,c2⟩;have bw2:=Nm.below_two bw1 c2;go_wp2;go_ret;rw [HN.out];exact⟨rfl,by assumption⟩
  ·obtain⟨p2,q2,r2⟩:=szR_le g2
   replace hc3:=fun W hW=>hc3 W hW q2 (by omega)
   by_cases g3:szRS xs (szR b (szR a L))<0
   ·have HN:Hid (R= -1):=by show _=_;rw [HR.out,szC,if_neg g1,if_neg g2,if_pos g3]
    clear HR hc4;generalize szRS xs (szR b (szR a L))=L3 at*;generalize szR b (szR a L)=L2 at*;generalize szR a L=L1 at*;go_enter Tryz.func18,Tryz.ntmps18;go_wp2_with fail
    refine(hc1 _).mono ?_;rintro r w1 ⟨rfl,c1⟩;have bw1:=Nm.below_two b0 c1;have k1:=blk_below k0 c1;clear r0 k0;have r0:=fun i=>blk_cell k1 i
    go_wp2_with fail
    refine(hc2 _).mono ?_;rintro r w2 ⟨rfl,c2⟩;have bw2:=Nm.below_two bw1 c2;have k2:=blk_below k1 c2;clear r0 k1;have r0:=fun i=>blk_cell k2 i
    go_wp2_with fail
    refine(hc3 _ bw2).mono ?_;rintro r w3 ⟨rfl,c3⟩;have bw3:=Nm.below_two bw2 c3;go_wp2;go_ret;rw [HN.out];exact⟨rfl,by assumption⟩
   ·obtain⟨p3,q3,r3⟩:=szRS_le g3
    replace hc4:=fun W hW=>hc4 W hW q3 (by omega)
    have HN:Hid (R=szRS ys (szRS xs (szR b (szR a L)))):=by
     show _=_
     rw [HR.out,szC,if_neg g1,if_neg g2,if_neg g3];split
     ·rename_i g4;exact(szRS_neg g4).symm
     ·rfl
    have g4:szRS ys (szRS xs (szR b (szR a L)))<0->szRS ys (szRS xs (szR b (szR a L)))= -1:=fun g4=>szRS_neg g4
    clear HR;generalize szRS ys (szRS xs (szR b (szR a L)))=L4 at*;generalize szRS xs (szR b (szR a L))=L3 at*;generalize szR b (szR a L)=L2 at*;generalize szR a L=L1 at*
    by_cases g5:L4<0
    ·have g6:=g4 g5;subst g6;clear g4;go_enter Tryz.func18,Tryz.ntmps18;go_wp2_with fail
     refine(hc1 _).mono ?_;rintro r w1 ⟨rfl,c1⟩;have bw1:=Nm.below_two b0 c1;have k1:=blk_below k0 c1;clear r0 k0;have r0:=fun i=>blk_cell k1 i
     go_wp2_with fail
     refine(hc2 _).mono ?_;rintro r w2 ⟨rfl,c2⟩;have bw2:=Nm.below_two bw1 c2;have k2:=blk_below k1 c2;clear r0 k1;have r0:=fun i=>blk_cell k2 i
     go_wp2_with fail
     refine(hc3 _ bw2).mono ?_;rintro r w3 ⟨rfl,c3⟩;have bw3:=Nm.below_two bw2 c3;have k3:=blk_below k2 c3;clear r0 k2;have r0:=fun i=>blk_cell k3 i
     go_wp2_with fail
     refine(hc4 _ bw3).mono ?_;rintro r w4 ⟨rfl,c4⟩;have bw4:=Nm.below_two bw3 c4;go_wp2;go_ret;rw [HN.out];exact⟨rfl,by assumption⟩
    ·clear g4;go_enter Tryz.func18,Tryz.ntmps18;go_wp2_with fail
     refine(hc1 _).mono ?_;rintro r w1 ⟨rfl,c1⟩;have bw1:=Nm.below_two b0 c1;have k1:=blk_below k0 c1;clear r0 k0;have r0:=fun i=>blk_cell k1 i
     go_wp2_with fail
     refine(hc2 _).mono ?_;rintro r w2 ⟨rfl,c2⟩;have bw2:=Nm.below_two bw1 c2;have k2:=blk_below k1 c2;clear r0 k1;have r0:=fun i=>blk_cell k2 i
     go_wp2_with fail
     refine(hc3 _ bw2).mono ?_;rintro r w3 ⟨rfl,c3⟩;have bw3:=Nm.below_two bw2 c3;have k3:=blk_below k2 c3;clear r0 k2;have r0:=fun i=>blk_cell k3 i
     go_wp2_with fail
     refine(hc4 _ bw3).mono ?_;rintro r w4 ⟨rfl,c4⟩;have bw4:=Nm.below_two bw3 c4;go_wp2;go_ret;rw [HN.out];exact⟨rfl,by assumption⟩
section
open Go.Deep
variable {H:Type}{enc:TypeId×Value->H}{w:World}{base:Nat}{spare:Nat->Bool}{held:Bool}
theorem cg_c:Tryz.prog.cellsOf 47=5∧Tryz.prog.cellsOf 48=1∧Tryz.prog.cellsOf 50=12:=⟨by kernel_rfl,by kernel_rfl,by kernel_rfl⟩
end
theorem setAll_midC{b:Nat}{T:TypeId}:∀ (vs old pre suf:List Value) (w:World),Blk w b (pre++(old++suf)).toArray T->old.length=vs.length->Blk (setAll w b pre.length vs) b (pre++(vs++suf)).toArray T:=by
 intro vs
 induction vs with
 |nil=>
  intro old pre suf w h hl;have:old=[]:=List.length_eq_zero_iff.1 hl;subst this
  exact h
 |cons v vs ih=>
  intro old pre suf w h hl
  cases old with
  |nil=>simp at hl
  |cons x old=>
   have h2:=blk_set h pre.length v;have e:(pre++(x::old++suf)).toArray.setIfInBounds pre.length v=((pre++[v])++(old++suf)).toArray:=by simp
   rw [e] at h2;have h3:=ih old (pre++[v]) suf _ h2 (by simpa using hl);rw [List.length_append] at h3;simpa [setAll] using h3
set_option maxRecDepth 100000 in
set_option maxHeartbeats 3200000 in
theorem toChange_any(a b:Rr)(d e:Value)(xs ys:List Rr)(w:World)(h1:CRow w d xs.length 5 (rvVs xs))(h2:CRow w e ys.length 5 (rvVs ys))(l1:xs.length<=1048576)(l2:ys.length<=1048576):
 Calls Tryz.prog 24 #[cgV a b d e] w fun r w'=>∃ d' e',r=.returned (cgV a b d' e')∧COwn w' w.heap.size d' e' xs ys∧Below w.heap.size w w':=by
 have hrr:=fun(r:Rr) W=>toRR_any r W
 have hx:=fun W (hW:Below w.heap.size w W)=>toRRS_any d xs W (h1.below hW) l1
 have hy:=fun W (hW:Below w.heap.size w W)=>toRRS_any e ys W (h2.below hW) l2
 obtain⟨_,da,dc,rfl,-,-,-⟩:=h1;obtain⟨_,ea,ec,rfl,-,-,-⟩:=h2;have hz1:(w.alloc (.cells (cgL a b (.slice da xs.length dc) (.slice ea ys.length ec)).toArray 50)).heap.size=w.heap.size+1:=by simp
 have hz2:((w.alloc (.cells (cgL a b (.slice da xs.length dc) (.slice ea ys.length ec)).toArray 50)).alloc (.cells #[.string ⟨#[]⟩,.int .i64 0,.int .i64 0,.int .i64 0,.string ⟨#[]⟩,.string ⟨#[]⟩,.int .i64 0,.int .i64 0,.int .i64 0,.string ⟨#[]⟩,.slice none 0 0,.slice none 0 0] 58)).heap.size=w.heap.size+1+1:=by simp
 have hB:=(((Below.refl w.heap.size w).alloc (Nat.le_refl _) (.cells (cgL a b (.slice da xs.length dc) (.slice ea ys.length ec)).toArray 50)).alloc (by simp) (.cells #[.string ⟨#[]⟩,.int .i64 0,.int .i64 0,.int .i64 0,.string ⟨#[]⟩,.string ⟨#[]⟩,.int .i64 0,.int .i64 0,.int .i64 0,.string ⟨#[]⟩,.slice none 0 0,.slice none 0 0] 58)).alloc (by simp;omega) (.cells #[.string ⟨#[]⟩,.int .i64 0,.int .i64 0,.int .i64 0,.string ⟨#[]⟩,.string ⟨#[]⟩,.int .i64 0,.int .i64 0,.int .i64 0,.string ⟨#[]⟩,.slice none 0 0,.slice none 0 0] 58);have k0:=blk_alloc (blk_alloc (blk_new w (cgL a b (.slice da xs.length dc) (.slice ea ys.length ec)).toArray 50) (.cells #[.string ⟨#[]⟩,.int .i64 0,.int .i64 0,.int .i64 0,.string ⟨#[]⟩,.string ⟨#[]⟩,.int .i64 0,.int .i64 0,.int .i64 0,.string ⟨#[]⟩,.slice none 0 0,.slice none 0 0] 58)) (.cells #[.string ⟨#[]⟩,.int .i64 0,.int .i64 0,.int .i64 0,.string ⟨#[]⟩,.string ⟨#[]⟩,.int .i64 0,.int .i64 0,.int .i64 0,.string ⟨#[]⟩,.slice none 0 0,.slice none 0 0] 58);have k1:=blk_alloc (blk_new (w.alloc (.cells (cgL a b (.slice da xs.length dc) (.slice ea ys.length ec)).toArray 50)) #[.string ⟨#[]⟩,.int .i64 0,.int .i64 0,.int .i64 0,.string ⟨#[]⟩,.string ⟨#[]⟩,.int .i64 0,.int .i64 0,.int .i64 0,.string ⟨#[]⟩,.slice none 0 0,.slice none 0 0] 58) (.cells #[.string ⟨#[]⟩,.int .i64 0,.int .i64 0,.int .i64 0,.string ⟨#[]⟩,.string ⟨#[]⟩,.int .i64 0,.int .i64 0,.int .i64 0,.string ⟨#[]⟩,.slice none 0 0,.slice none 0 0] 58);have k2:=blk_new ((w.alloc (.cells (cgL a b (.slice da xs.length dc) (.slice ea ys.length ec)).toArray 50)).alloc (.cells #[.string ⟨#[]⟩,.int .i64 0,.int .i64 0,.int .i64 0,.string ⟨#[]⟩,.string ⟨#[]⟩,.int .i64 0,.int .i64 0,.int .i64 0,.string ⟨#[]⟩,.slice none 0 0,.slice none 0 0] 58)) #[.string ⟨#[]⟩,.int .i64 0,.int .i64 0,.int .i64 0,.string ⟨#[]⟩,.string ⟨#[]⟩,.int .i64 0,.int .i64 0,.int .i64 0,.string ⟨#[]⟩,.slice none 0 0,.slice none 0 0] 58;rw [hz1] at k1;rw [hz2] at k2;clear hz1 hz2;have r0:=fun i=>blk_cell k0 i
 go_enter Tryz.func24,Tryz.ntmps24;go_wp2_with fail
 refine(hrr a _).mono ?_;rintro e w1 ⟨rfl,b1⟩;have B1:=Nm.below_two hB b1;have y0:=blk_below k0 b1;have y1:=blk_below k1 b1;have y2:=blk_below k2 b1;clear r0 k0 k1 k2 hB;have r0:=fun i=>blk_cell y0 i
 have r2:=fun i=>blk_cell y2 i
 have f2:=fun i=>blk_frozen y2 i
 go_wp2_with fail
 clear r0 r2 f2;obtain⟨W1,hW1⟩:∃ W,W=setAll w1 (w.heap.size+1+1) 0 [.string a.own,.int .i64 a.ty,.int .i64 a.cl,.int .i64 a.tt,.string a.da]:=⟨_,rfl⟩
 have z2:Blk W1 (w.heap.size+1+1) #[.string a.own,.int .i64 a.ty,.int .i64 a.cl,.int .i64 a.tt,.string a.da,.string ⟨#[]⟩,.int .i64 0,.int .i64 0,.int .i64 0,.string ⟨#[]⟩,.slice none 0 0,.slice none 0 0] 58:=by
  rw [hW1];exact setAll_midC [.string a.own,.int .i64 a.ty,.int .i64 a.cl,.int .i64 a.tt,.string a.da] [.string ⟨#[]⟩,.int .i64 0,.int .i64 0,.int .i64 0,.string ⟨#[]⟩] [] [.string ⟨#[]⟩,.int .i64 0,.int .i64 0,.int .i64 0,.string ⟨#[]⟩,.slice none 0 0,.slice none 0 0] w1 y2 rfl
 have z0:=setAll_far (b:=w.heap.size) (c:=w.heap.size+1+1) (by omega) [.string a.own,.int .i64 a.ty,.int .i64 a.cl,.int .i64 a.tt,.string a.da] 0 w1 y0;have z1:=setAll_far (b:=w.heap.size+1) (c:=w.heap.size+1+1) (by omega) [.string a.own,.int .i64 a.ty,.int .i64 a.cl,.int .i64 a.tt,.string a.da] 0 w1 y1;have BW:=below_setA (B:=w.heap.size) (g:=w.heap.size+1+1) (by omega) [.string a.own,.int .i64 a.ty,.int .i64 a.cl,.int .i64 a.tt,.string a.da] 0 w1 B1;rw [<- hW1] at z0 z1 BW;simp only [setAll,Nat.reduceAdd,Nat.zero_add] at hW1;rw [<- hW1];clear hW1 y0 y1 y2 B1 b1;refine(hrr b _).mono ?_;rintro e w2 ⟨rfl,b2⟩;have B2:=Nm.below_two BW b2;have y0:=blk_below z0 b2;have y1:=blk_below z1 b2;have y2:=blk_below z2 b2;clear z0 z1 z2 BW b2;have r0:=fun i=>blk_cell y0 i
 have r2:=fun i=>blk_cell y2 i
 have f2:=fun i=>blk_frozen y2 i
 go_wp2_with fail
 clear r0 r2 f2;obtain⟨W2,hW2⟩:∃ W,W=setAll w2 (w.heap.size+1+1) 5 [.string b.own,.int .i64 b.ty,.int .i64 b.cl,.int .i64 b.tt,.string b.da]:=⟨_,rfl⟩
 have z2:Blk W2 (w.heap.size+1+1) #[.string a.own,.int .i64 a.ty,.int .i64 a.cl,.int .i64 a.tt,.string a.da,.string b.own,.int .i64 b.ty,.int .i64 b.cl,.int .i64 b.tt,.string b.da,.slice none 0 0,.slice none 0 0] 58:=by
  rw [hW2];exact setAll_midC [.string b.own,.int .i64 b.ty,.int .i64 b.cl,.int .i64 b.tt,.string b.da] [.string ⟨#[]⟩,.int .i64 0,.int .i64 0,.int .i64 0,.string ⟨#[]⟩] [.string a.own,.int .i64 a.ty,.int .i64 a.cl,.int .i64 a.tt,.string a.da] [.slice none 0 0,.slice none 0 0] w2 y2 rfl
 have z0:=setAll_far (b:=w.heap.size) (c:=w.heap.size+1+1) (by omega) [.string b.own,.int .i64 b.ty,.int .i64 b.cl,.int .i64 b.tt,.string b.da] 5 w2 y0;have z1:=setAll_far (b:=w.heap.size+1) (c:=w.heap.size+1+1) (by omega) [.string b.own,.int .i64 b.ty,.int .i64 b.cl,.int .i64 b.tt,.string b.da] 5 w2 y1;have BW:=below_setA (B:=w.heap.size) (g:=w.heap.size+1+1) (by omega) [.string b.own,.int .i64 b.ty,.int .i64 b.cl,.int .i64 b.tt,.string b.da] 5 w2 B2;rw [<- hW2] at z0 z1 BW;simp only [setAll,Nat.reduceAdd] at hW2;rw [<- hW2];clear hW2 y0 y1 y2 B2 hrr;refine(hx _ BW).mono ?_;rintro e w3 ⟨u,rfl,od,b3⟩;obtain⟨ua,uc,rfl⟩:=own_sl od;have x0:=blk_below z0 b3;have x1:=blk_below z1 b3;have x2:=blk_below z2 b3;have B3:=Nm.below_two BW b3;have hg2:=blk_lt z2;have r0:=fun i=>blk_cell x0 i
 have r2:=fun i=>blk_cell x2 i
 have f2:=fun i=>blk_frozen x2 i
 clear z0 z1 z2 b3;go_wp2_with fail
 have A2:=blk_set x2 10 (.slice ua xs.length uc);have A1:Blk (w3.setCell ⟨w.heap.size+1+1,10,none⟩ (.slice ua xs.length uc)) (w.heap.size+1) _ _:=blk_far x1 (by omega);have od2:=own_far_lt (g:=w.heap.size+1+1) (i:=10) (y:=(.slice ua xs.length uc)) od hg2;have B3s:Below w.heap.size w (w3.setCell ⟨w.heap.size+1+1,10,none⟩ (.slice ua xs.length uc)):=B3.setCell (by show w.heap.size<=w.heap.size+1+1;omega) _;clear r0 r2 f2 x0 x1 x2 od;refine(hy _ B3s).mono ?_;rintro e w4 ⟨t,rfl,oe,b4⟩;obtain⟨ta,tc,rfl⟩:=own_sl oe;have x1:=blk_below A1 b4;have x2:=blk_below A2 b4;have B4:=Nm.below_two B3s b4;have od3:=own_below od2 b4;have hlt:=fun g hg=>(od2.lt g hg).2
 have hg3:w.heap.size+1+1<(w3.setCell ⟨w.heap.size+1+1,10,none⟩ (.slice ua xs.length uc)).heap.size:=blk_lt A2;have A2':=blk_set x2 11 (.slice ta ys.length tc);have A1':Blk (w4.setCell ⟨w.heap.size+1+1,11,none⟩ (.slice ta ys.length tc)) (w.heap.size+1) _ _:=blk_far x1 (by omega);have od4:=own_far_lt (g:=w.heap.size+1+1) (i:=11) (y:=(.slice ta ys.length tc)) od3 hg2;have oe4:=own_far_lt (g:=w.heap.size+1+1) (i:=11) (y:=(.slice ta ys.length tc)) oe hg3;have B6:Below w.heap.size w (w4.setCell ⟨w.heap.size+1+1,11,none⟩ (.slice ta ys.length tc)):=B4.setCell (by show w.heap.size<=w.heap.size+1+1;omega) _;have p11:w4.cell? ⟨w.heap.size+1+1,11,none⟩=some (.slice none 0 0):=(blk_cell x2 11).trans rfl;have pf:=fun i=>blk_frozen x2 i
 have r2:=fun i=>blk_cell A2' i
 have r1:=fun i=>blk_cell A1' i
 have f1:=fun i=>blk_frozen A1' i
 clear x1 x2 od3 oe B4 b4 A1 A2;go_wp2_with fail
 obtain⟨W6,hW6⟩:∃ W,W=setAll (w4.setCell ⟨w.heap.size+1+1,11,none⟩ (.slice ta ys.length tc)) (w.heap.size+1) 0 [.string a.own,.int .i64 a.ty,.int .i64 a.cl,.int .i64 a.tt,.string a.da,.string b.own,.int .i64 b.ty,.int .i64 b.cl,.int .i64 b.tt,.string b.da,.slice ua xs.length uc,.slice ta ys.length tc]:=⟨_,rfl⟩;have kz:=setAll_new [.string a.own,.int .i64 a.ty,.int .i64 a.cl,.int .i64 a.tt,.string a.da,.string b.own,.int .i64 b.ty,.int .i64 b.cl,.int .i64 b.tt,.string b.da,.slice ua xs.length uc,.slice ta ys.length tc] A1' rfl;have B7:=below_setA (B:=w.heap.size) (g:=w.heap.size+1) (by omega) [.string a.own,.int .i64 a.ty,.int .i64 a.cl,.int .i64 a.tt,.string a.da,.string b.own,.int .i64 b.ty,.int .i64 b.cl,.int .i64 b.tt,.string b.da,.slice ua xs.length uc,.slice ta ys.length tc] 0 _ B6;have od9:=own_setA (g:=w.heap.size+1) (by omega) [.string a.own,.int .i64 a.ty,.int .i64 a.cl,.int .i64 a.tt,.string a.da,.string b.own,.int .i64 b.ty,.int .i64 b.cl,.int .i64 b.tt,.string b.da,.slice ua xs.length uc,.slice ta ys.length tc] 0 _ od4;have oe9:=own_setA (g:=w.heap.size+1) (by omega) [.string a.own,.int .i64 a.ty,.int .i64 a.cl,.int .i64 a.tt,.string a.da,.string b.own,.int .i64 b.ty,.int .i64 b.cl,.int .i64 b.tt,.string b.da,.slice ua xs.length uc,.slice ta ys.length tc] 0 _ oe4;rw [<- hW6] at kz B7 od9 oe9;simp only [setAll,Nat.reduceAdd,Nat.zero_add] at hW6;rw [<- hW6];have rz:=fun i=>blk_cell kz i
 clear hW6 r1 r2 f1 A1' A2' od4 oe4 B6;refine bodyPost_ret (v:=cgV a b (.slice ua xs.length uc) (.slice ta ys.length tc)) ?_ rfl ⟨_,_,rfl,⟨_,?_,own_base od9 BW.size,oe9,hlt⟩,B7⟩
 ·simp [results,Tryz.results24,go_sem,Result.andThen,rz]
 ·exact B3s.size
end Go.Proofs.YtgilkakllagbnaaGreat
