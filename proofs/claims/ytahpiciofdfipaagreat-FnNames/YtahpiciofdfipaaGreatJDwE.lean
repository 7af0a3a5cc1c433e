import Derived.Test.YtahpiciofdfipaaGreatJFnN
import Derived.Test.YtahpiciofdfipaaGreatJNqM
import Derived.Test.YtahpiciofdfipaaGreatJTrD
import Derived.Test.YtahpiciofdfipaaGreatJNameOKs
import Derived.Test.YtahpiciofdfipaaGreatZbZ
import Derived.Test.YtahpiciofdfipaaGreatJZbG
import Derived.Test.YtahpiciofdfipaaGreatDwF
import Derived.Test.YtahpiciofdfipaaGreatDwG
import Derived.Test.YtahpiciofdfipaaGreatDwH
import Derived.Test.YtahpiciofdfipaaGreatJGoodM
import Derived.BigQuiet
namespace Go.Proofs.YtahpiciofdfipaaGreat
open Go.RowKit
set_option linter.unusedVariables false
set_option maxRecDepth 100000 in
set_option maxHeartbeats 6400000 in
theorem l06Zone_any(g:Nat)(a:Option Addr)(n cap:Nat)(parts:Nat)(w:World)(h:Src w g a n cap)(hp:parts<=70):
 Calls Tryz.prog 29 #[.pointer (some ⟨g,0,none⟩),.int .i64 (parts:Int)] w fun e w'=>∃ (o:ByteArray) (v:Value) (ps:List Zp),e=.returned (.agg #[.string o,v])∧o.size<=20∧(ZB ps (3+3*parts)∧0<ps.length∧1<=o.size)∧ZOwn w' w.heap.size v ps∧Src w' g a n cap∧w.grownBy w' (some g):=by
 obtain⟨i0,hi,hz0,hz1,hz2⟩:=info_parts Tryz.infoRRc;obtain⟨hcode,hglt⟩:=src_code h;have hA:=src_below h ((Below.refl _ _).alloc (Nat.le_refl _) (.cells #[.string ByteArray.empty,.slice none 0 0] 25));have hgA:w.grownBy (w.alloc (.cells #[.string ByteArray.empty,.slice none 0 0] 25)) (some g):=grown_alloc (World.grownBy.refl _ _) _;have kA:=blk_new w #[.string ByteArray.empty,.slice none 0 0] 25;have hne:(some g:Option Nat)≠some w.heap.size:=by intro e;simp at e;omega
 go_enter Tryz.func29,Tryz.ntmps29;go_wp2_with fail
 refine(l05Records_any g a n cap parts _ hA (by omega)).mono ?_;rintro e w1 ⟨ap,bb,lv,xs,rfl,hap,hbb,hpre,hx1,hx2,L⟩;obtain⟨ha1,ha2⟩:=ap_size hap;have HA1:=Nm.hide ha1;have HGO:=Nm.hide (good_ok hap hbb)
 obtain⟨x0,x1,HF,hx0,hx1'⟩:∃ x0 x1,Hid ([x0,x1]=frsR ap bb)∧xs[0]? =some x0∧xs[1]? =some x1:=by
  obtain⟨t,rfl⟩:=hpre;exact⟨_,_,rfl,rfl,rfl⟩
 clear hap hbb hpre;obtain⟨la,lc,rfl⟩:=own_sl L.r;have g1:=grown_step hgA L.d.gr;have k1:=blk_grown kA L.d.gr hne;have HB0:Hid (∀ W,w1.grownBy W (some g)->w.grownBy W (some g)∧Blk W w.heap.size #[.string ByteArray.empty,.slice none 0 0] 25):=fun W hW=>⟨grown_step g1 hW,blk_grown k1 hW hne⟩
 obtain⟨_,la',lc',ee,hcap,hmx,hc⟩:=CRow.of_owns L.r;simp only [Value.slice.injEq] at ee;obtain⟨rfl,_,rfl⟩:=ee;obtain⟨b,off,rfl,hcell⟩:=hc (by omega)
 have hbg:b≠g:=by
  have h1:=(L.r.lt b rfl).1;rw [World.size_alloc] at h1;omega
 have HC:Hid (∀ (j:Nat) (x:Rr),xs[j]? =some x->∀ W,Dr w1 g a n cap W->W.cell? ⟨b,off+j*5,none⟩=some (.string x.own)∧W.cell? ⟨b,off+j*5+1,none⟩=some (.int .i64 x.ty)∧W.cell? ⟨b,off+j*5+2,none⟩=some (.int .i64 x.cl)∧W.cell? ⟨b,off+j*5+3,none⟩=some (.int .i64 x.tt)∧W.cell? ⟨b,off+j*5+4,none⟩=some (.string x.da)):=by
  intro j x hx W hW;obtain⟨c0,c1,c2,c3,c4⟩:=rv_cells hcell hx;exact⟨hW.cell c0 hbg,hW.cell c1 hbg,hW.cell c2 hbg,hW.cell c3 hbg,hW.cell c4 hbg⟩
 have HZ:=Nm.hide L.z;have HBW:Hid (w.heap.size<w1.heap.size):=by have h1:=L.d.size;rw [World.size_alloc] at h1;show _<_;omega
 have D1:=Dr.start L.d.s;have z0:=L.z x0 (List.mem_of_getElem? hx0);have z1:=L.z x1 (List.mem_of_getElem? hx1');obtain⟨c0,c1,c2,c3,c4⟩:=HC.out 0 x0 hx0 w1 D1;obtain⟨d0,d1,d2,d3,d4⟩:=HC.out 1 x1 hx1' w1 D1;have i1:(0:Int)<(xs.length:Int):=by omega
 have i2:(1:Int)<(xs.length:Int):=by omega
 clear hA hgA kA L g1 k1 hcell hc h hx0 hx1';obtain⟨o0,t0,l0,u0,e0⟩:=x0;obtain⟨o1,t1,l1,u1,e1⟩:=x1;simp only [Nat.zero_mul,Nat.add_zero,Nat.one_mul] at c0 c1 c2 c3 c4 d0 d1 d2 d3 d4;go_wp2_with fail
 go_cut [7] from 22 (fun gv wx=>∃ ga gc,gv=.slice ga 2 gc∧wx.ownsRow w1.heap.size 79 5 (.slice ga 2 gc) 2 (rvVs [⟨o0,t0,l0,u0,e0⟩,⟨o1,t1,l1,u1,e1⟩])∧Dr w1 g a n cap wx)
 case first=>
  have hlit:=World.ownsRow_lit (base:=w1.heap.size) (e:=79) (size:=5) w1.drew #[.string o0,.int .i64 t0,.int .i64 l0,.int .i64 u0,.string e0,.string o1,.int .i64 t1,.int .i64 l1,.int .i64 u1,.string e1] 2 (Nat.le_refl _) (by decide) rfl;have DL:=(D1.below (Below.refl _ _).drew).alloc (.cells #[.string o0,.int .i64 t0,.int .i64 l0,.int .i64 u0,.string e0,.string o1,.int .i64 t1,.int .i64 l1,.int .i64 u1,.string e1] 79);have HLD:=Nm.hide (And.intro hlit DL);clear hlit DL;go_region
  all_goals
   go_wp2_with fail
   go_meet
   case rel=>exact⟨_,_,rfl,HLD.out.1,HLD.out.2⟩
 case rest=>
  obtain⟨ga,gc,rfl,hg2,D2⟩:=hcut
  have z2:∀ r∈[(⟨o0,t0,l0,u0,e0⟩:Rr),⟨o1,t1,l1,u1,e1⟩],ZR r:=by
   intro r hr;simp at hr
   rcases hr with rfl|rfl
   ·exact z0
   ·exact z1
  have hbz:=specBuildZone_any (.slice ga 2 gc) [⟨o0,t0,l0,u0,e0⟩,⟨o1,t1,l1,u1,e1⟩] ap wc (CRow.of_owns hg2) (by simp) (by unfold maxLen;omega) (fun r hr=>by have:=(z2 r hr).1;unfold maxLen;omega);obtain⟨ys0,HY0⟩:∃ ys,Hid (ys=[(⟨o0,t0,l0,u0,e0⟩:Rr),⟨o1,t1,l1,u1,e1⟩]):=⟨_,rfl⟩;have hw1c:=D2.size;clear c0 c1 c2 c3 c4 d0 d1 d2 d3 d4 D1;go_wp2_with fail
  refine hbz.mono ?_;rintro e w3 hb;obtain⟨b3,o,zv,ps,c,i,rfl,ho,hzb,hzo⟩:=bz_drawn (N:=3+3*parts) hb z2 (by simp;omega) ha2 hw1c;obtain⟨za,zc,rfl⟩:=own_sl hzo.outer;have bA:=(Below.refl w3.heap.size w3).alloc (Nat.le_refl _) (.cells #[.string o,.slice za ps.length zc] 25);have kz:=blk_new w3 #[.string o,.slice za ps.length zc] 25;have D3:=(D2.below b3).below bA;have hg3:=own_below (own_below hg2 b3) bA;have hzo3:=hzo.below bA;have hz3:=(D2.below b3).size;have hzq:Hid (ZB ps (3+3*parts)∧0<ps.length∧1<=o.size):=⟨hzb.out.1,(hzb.out.2.1 (hzb.out.2.2 (by rw [HF.out,HGO.out]))).1,by rw [(hzb.out.2.1 (hzb.out.2.2 (by rw [HF.out,HGO.out]))).2];exact ha1⟩;clear hb hbz D2 hg2 hzo bA b3 hw1c hzb HF HGO;go_wp2_with fail
  go_loopw [7,11] (fun gv iv wr=>∃ (k:Nat) (ys:List Rr) (o:ByteArray) (zv:Value) (ps:List Zp),2<=k∧k<=xs.length∧iv=.int .i64 k∧0<ys.length∧ys.length<=k∧Hid (∀ r∈ys,ZR r)∧wr.ownsRow w1.heap.size 79 5 gv ys.length (rvVs ys)∧o.size<=20∧Hid (ZB ps (3+3*parts)∧0<ps.length∧1<=o.size)∧ZOwn wr w1.heap.size zv ps∧Blk wr w3.heap.size #[.string o,zv] 25∧Dr w1 g a n cap wr) (fun _ i _=>xs.length-(intOf i).toNat)
  case atStart=>exact⟨2,[⟨o0,t0,l0,u0,e0⟩,⟨o1,t1,l1,u1,e1⟩],o,_,ps,Nat.le_refl _,by omega,rfl,by simp,by simp,z2,hg3,ho,hzq,hzo3,kz,D3⟩
  case round=>
   clear kz D3 hg3 hzo3 hzq ho z2;obtain⟨k,ys,o,zv,ps,hk2,hk,rfl,hy0,hyk,HY,hrow,ho,HZB,hzo,kz,D⟩:=hrel;obtain⟨ra,rc,rfl⟩:=own_sl hrow;obtain⟨za,zc,rfl⟩:=own_sl hzo.outer
   by_cases hlt:k<xs.length
   ·obtain⟨x,hxk⟩:∃ x,xs[k]? =some x:=⟨_,List.getElem?_eq_getElem hlt⟩;have hzx:=HZ.out x (List.mem_of_getElem? hxk);obtain⟨c0,c1,c2,c3,c4⟩:=HC.out k x hxk wr D;have j1:(0:Int)<=(k:Int):=by omega
    have j2:(k:Int)<(xs.length:Int):=by omega
    have hzs:=D.size;clear hxk;obtain⟨ow,ty,cl,tt,da⟩:=x;simp only at c0 c1 c2 c3 c4
    have hrA:=hrow.alloc (.cells #[.string ow,.int .i64 ty,.int .i64 cl,.int .i64 tt,.string da] 79);obtain⟨v',w5,hr,hown5,hkeep5,hgrow⟩:=run_app_keep (P:=Tryz.prog) (wr.alloc (.cells #[.string ow,.int .i64 ty,.int .i64 cl,.int .i64 tt,.string da] 79)) w1.heap.size 49 49 79 i0 _ 5 56 Tryz.underlying49 hi hz0 hz1 hz2 rfl (by decide) _ _ _ hy0 hrA ⟨wr.heap.size,0,none⟩ 1 1 [.string ow,.int .i64 ty,.int .i64 cl,.int .i64 tt,.string da] rfl (cell_newV wr #[.string ow,.int .i64 ty,.int .i64 cl,.int .i64 tt,.string da] 79) (by intro u hu;simp at hu;rcases hu with rfl|rfl|rfl|rfl|rfl<;>rfl) (by unfold maxLen;omega) (by omega) (by simp;omega);have D5:=(D.alloc (.cells #[.string ow,.int .i64 ty,.int .i64 cl,.int .i64 tt,.string da] 79)).row hgrow (fun q hq=>(hrow.lt q hq).1);have hzo5:=(hzo.below ((Below.refl _ _).alloc (Nat.le_refl _) (.cells #[.string ow,.int .i64 ty,.int .i64 cl,.int .i64 tt,.string da] 79))).other hrA (by decide) (by decide) hgrow;have kz5:=blk_grown (blk_alloc kz (.cells #[.string ow,.int .i64 ty,.int .i64 cl,.int .i64 tt,.string da] 79)) hgrow (own_nb hrow kz (by decide));have hys:∀ r∈ys++[(⟨ow,ty,cl,tt,da⟩:Rr)],ZR r:=zr_snoc HY.out hzx
    have hown6:w5.ownsRow w1.heap.size 79 5 v' (ys++[(⟨ow,ty,cl,tt,da⟩:Rr)]).length (rvVs (ys++[(⟨ow,ty,cl,tt,da⟩:Rr)])):=by
     rw [rvVs_app,List.length_append];exact hown5
    obtain⟨va,vc,rfl⟩:=own_sl hown5;have hbz:=specBuildZone_any (.slice va (ys.length+1) vc) (ys++[(⟨ow,ty,cl,tt,da⟩:Rr)]) ap w5 (CRow.of_owns hown6) (by simp;omega) (by unfold maxLen;omega) (fun r hr=>by have:=(hys r hr).1;unfold maxLen;omega);have hs5:=D5.size;clear hrA hown5 hgrow hrow hzo kz;go_wp2_with (at_builtin;refine wpList_app_ran rfl (.tmp 42) (.tmp 47) 49 49 rfl _ _ _ w5 rfl rfl hr ?_)
    clear c0 c1 c2 c3 c4 hr;go_wp2_with fail
    refine hbz.mono ?_;rintro e w6 hb;obtain⟨b6,o',zv',ps',c',i',rfl,ho',hzb',hzo'⟩:=bz_drawn (N:=3+3*parts) hb hys (by simp;omega) ha2 hs5;obtain⟨za',zc',rfl⟩:=own_sl hzo'.outer;have bA:=(Below.refl w6.heap.size w6).alloc (Nat.le_refl _) (.cells #[.string o',.slice za' ps'.length zc'] 25);have kz7:=blk_below (blk_below kz5 b6) bA;have ky7:=blk_new w6 #[.string o',.slice za' ps'.length zc'] 25;have D7:=(D5.below b6).below bA;have HS:=Nm.hide (And.intro hys (And.intro hzb' (And.intro (own_below (own_below hown6 b6) bA) (hzo'.below bA))));have hkeep7:=own_below (own_below hkeep5 b6) bA;have hzo7:=(hzo5.below b6).below bA;have ry:=fun i=>blk_cell ky7 i
    have rz:=fun i=>blk_cell kz7 i
    have fz:=fun i=>blk_frozen kz7 i
    clear hb hbz hown6 hys hzb' hzo' b6 bA hkeep5 hzo5 kz5 D5
    by_cases hcz:c'=0
    ·subst hcz;have hzle:w1.heap.size<=w3.heap.size:=by omega
     have kE:=blk_set (blk_set kz7 0 (.string o')) 1 (.slice za' ps'.length zc');have DE:=(D7.set hzle (.string o') (i:=0)).set hzle (.slice za' ps'.length zc') (i:=1);have hoE:=own_setB (x:=.slice za' ps'.length zc') (i:=1) (own_setB (x:=.string o') (i:=0) HS.out.2.2.1 kz7 (by decide)) (blk_set kz7 0 (.string o')) (by decide);have hzE:=ZOwn.blk (x:=.slice za' ps'.length zc') (i:=1) (ZOwn.blk (x:=.string o') (i:=0) HS.out.2.2.2 kz7 (by decide) (by decide)) (blk_set kz7 0 (.string o')) (by decide) (by decide);have HE:=Nm.hide (And.intro kE (And.intro DE (And.intro hoE hzE)));clear kE DE hoE hzE D7 hkeep7 hzo7 kz7;go_wp2;go_roundw
     case rel=>exact⟨k+1,ys++[(⟨ow,ty,cl,tt,da⟩:Rr)],o',_,ps',by omega,hlt,by go_num,by simp,by simp;omega,HS.out.1,HE.out.2.2.1,ho',⟨HS.out.2.1.out.1,(HS.out.2.1.out.2.1 (by trivial)).1,by rw [(HS.out.2.1.out.2.1 (by trivial)).2];exact HA1.out⟩,HE.out.2.2.2,HE.out.1,HE.out.2.1⟩
     case measure=>simp [intOf];omega
    ·have n0:(c'==0)=false:=by rw [beq_eq_false_iff_ne];exact hcz
     clear hcz ry rz fz ky7;go_wp2;go_roundw
     case rel=>exact⟨k+1,ys,o,_,ps,by omega,hlt,by go_num,hy0,by omega,HY,hkeep7,ho,HZB,hzo7,kz7,D7⟩
     case measure=>simp [intOf];omega
   ·have hkl:k=xs.length:=by omega
    subst hkl;obtain⟨gw,kB⟩:=HB0.out wr D.gr;have Dw:Dr w g a n cap wr:=⟨D.s,gw,hglt,hcode⟩;have rB:=fun i=>blk_cell kB i
    have fB:=fun i=>blk_frozen kB i
    have rz:=fun i=>blk_cell kz i
    have kE:=blk_set (blk_set kB 0 (.string o)) 1 (.slice za ps.length zc);have DE:=(Dw.set (Nat.le_refl _) (.string o) (i:=0)).set (Nat.le_refl _) (.slice za ps.length zc) (i:=1);have hBw:w.heap.size<w1.heap.size:=HBW.out;have hzE:=((hzo.far (i:=0) (y:=.string o) hBw).far (i:=1) (y:=.slice za ps.length zc) hBw).base (Nat.le_of_lt hBw);have rE:=fun i=>blk_cell kE i
    have HE:=Nm.hide (And.intro DE hzE);have i3:¬(xs.length:Int)<(xs.length:Int):=by omega
    clear kE DE hzE Dw gw D hzo hrow kB;go_wp2;refine bodyPost_ret (v:=.agg #[.string o,.slice za ps.length zc]) ?_ rfl ?_
    rotate_left
    ·refine⟨o,_,rfl,ho,ps,?_⟩
     try simp only [and_assoc]
     exact⟨HZB.out.1,HZB.out.2.1,HZB.out.2.2,HE.out.2,HE.out.1.s,HE.out.1.gr⟩
    simp [results,Tryz.results29,go_sem,Result.andThen,rE]
theorem ZB.morez{ps:List Zp}{N M:Nat}(h:ZB ps N)(hM:N<=M):ZB ps M:=⟨h.one,Nat.le_trans h.len hM,Nat.le_trans h.cnt hM⟩
def ZaP(w:World)(e:Ending)(w':World):Prop:=∃ (o name:ByteArray) (v:Value) (ps:List Zp),e=.returned (.tuple #[.agg #[.string o,v],.string name])∧o.size<=2000∧name.size<=2000∧ZL ps∧ZKp w' w.heap.size v ps∧Below w.heap.size w w'
set_option maxRecDepth 100000 in
set_option maxHeartbeats 3200000 in
theorem l06ZoneAsk_any(a:Option Addr)(n cap:Nat)(w:World)(h:CodeIn w a n)(hn:n<=1048576):
 Calls Tryz.prog 14 #[.slice a n cap] w (ZaP w):=by
 have kR:=blk_new w #[.string ByteArray.empty,.slice none 0 0] 25;have bR:=(Below.refl w.heap.size w).alloc (Nat.le_refl _) (.cells #[.string ByteArray.empty,.slice none 0 0] 25);go_enter Tryz.func14,Tryz.ntmps14;go_wp2_with fail
 refine(l01Begin_any a n cap _ (code_below h bR) hn).mono ?_;rintro e w1 ⟨st,rfl,b1⟩;have b01:=Nm.below_two bR b1;have hs1:=src_made (cap:=cap) (code_below h b01) hn st;have b1A:=b01.alloc b01.size (.cells #[.slice a n cap,.int .i64 0,.int .u64 st] 66 (0,0));have k1:=blk_alloc (blk_below kR b1) (.cells #[.slice a n cap,.int .i64 0,.int .u64 st] 66 (0,0));obtain⟨g,hg⟩:∃ g,g=w1.heap.size:=⟨_,rfl⟩;have hgw:w.heap.size<g:=by have:=b1.size;simp at this;omega
 rw [<- hg] at hs1;clear kR bR b1 b01 h;go_wp2_with fail
 rw [<- hg];clear hg;refine(l01Next_any g a n cap 12 _ hs1 (by decide)).mono ?_;rintro e w2 ⟨r,rfl,r0,r1,hs2,hg2⟩;have r2:=r1 (by decide);obtain⟨m,rfl⟩:=Int.eq_ofNat_of_zero_le r0;have b2:=b1A.grown hg2 b1A.size (fun k hk=>by simp at hk;omega);have k2:=blk_grown k1 hg2 (by intro e;simp at e;omega);clear hs1 hg2 b1A k1 r1 r0;go_wp2_with fail
 refine(l01Parts_any a n cap w2 hn).mono ?_;rintro e w3 ⟨k,rfl,hk,rfl⟩;obtain⟨M,HM⟩:∃ M:Nat,Hid (M=m+k):=⟨_,rfl⟩
 have hmk:IntKind.i64.wrap ((m:Int)+(k:Int))=(M:Int):=by
  have:=HM.out;rw [Go.wrap_small _ (by omega) (by omega)];omega
 have hM:M<=41:=by
  have:=HM.out;omega
 go_wp2_with fail
 refine(l06Zone_any g a n cap M w3 hs2 (by omega)).mono ?_;rintro e w4 ⟨o,v,ps,rfl,ho,⟨hB,hp,ho1⟩,hz,hs4,hg4⟩;obtain⟨va,vc,rfl⟩:=own_sl hz.outer;have D4:=(Dr.start hs2).step hs4 hg4;have hgl:=D4.lt;have hB2:ZB ps 126:=hB.morez (by omega);have DA:=D4.alloc (.cells #[.string o,.slice va ps.length vc] 25);have zA:=hz.below ((Below.refl _ _).alloc (Nat.le_refl _) (.cells #[.string o,.slice va ps.length vc] 25));have kz:=blk_new w4 #[.string o,.slice va ps.length vc] 25;have rz:=fun i=>blk_cell kz i
 have hgz:g<w4.heap.size:=by have:=D4.size;omega
 have HK:Hid (∀ W,Dr w3 g a n cap W->Blk W w.heap.size #[.string ByteArray.empty,.slice none 0 0] 25∧Below w.heap.size w W):=fun W hW=>⟨blk_grown k2 hW.gr (by intro e;simp at e;omega),b2.grown hW.gr b2.size (fun k hk=>by simp at hk;omega)⟩
 have HW:Hid (w.heap.size<w3.heap.size):=by show _<_;omega
 clear hmk r2 hk hB k2 b2 hs4 hg4 hz D4;go_wp2_with fail
 refine(l06Asked_any g a n cap o (.slice va ps.length vc) ps w3.heap.size _ DA.s zA hgl (hB2.morez (by decide)) hp ho ho1).mono ?_;rintro e w5 ⟨nm,rfl,hn1,hn2,hs5,hg5⟩;have D5:=DA.step hs5 hg5;have z5:=zA.dr hg5 hgl;have kz5:=blk_grown kz hg5 (by intro e;simp at e;omega);clear DA zA kz rz hs5 hg5;go_wp2_with fail
 refine(l01Next_any g a n cap 6 _ D5.s (by decide)).mono ?_;rintro e w6 ⟨q,rfl,q0,q1,hs6,hg6⟩;have D6:=D5.step hs6 hg6;have z6:=z5.dr hg6 hgl;have kz6:=blk_grown kz5 hg6 (by intro e;simp at e;omega);clear D5 z5 kz5 hs6 hg6 q1
 by_cases hq:q=0
 ·subst hq;have rz:=fun i=>blk_cell kz6 i
  go_wp2_with fail
  refine(l06Cuts_any o (.slice va ps.length vc) ps 126 w6 D6 z6 hB2 (by decide) ho).mono ?_;rintro e w7 ⟨o',nm',v',ps',rfl,ho',hnm',hzl,hkp,D7⟩;obtain⟨xa,xc,rfl⟩:∃ va vc,v'=.slice va (ps').length vc:=by obtain⟨⟨_,a,c,e,_⟩,_⟩:=(hkp).zrow;exact⟨a,c,e⟩
  obtain⟨k9,b9⟩:=HK.out _ D7;have hkE:=((hkp).far (g:=w.heap.size) (i:=0) (y:=.string o') HW.out).far (g:=w.heap.size) (i:=1) (y:=.slice xa (ps').length xc) HW.out;have kE:=blk_set (blk_set k9 0 (.string o')) 1 (.slice xa (ps').length xc);have bE:=(b9.setCell (p:=⟨w.heap.size,0,none⟩) (Nat.le_refl _) (.string o')).setCell (p:=⟨w.heap.size,1,none⟩) (Nat.le_refl _) (.slice xa (ps').length xc);have HE:=Nm.hide (And.intro (hkE.base (Nat.le_of_lt HW.out)) bE);have r9:=fun i=>blk_cell k9 i
  have f9:=fun i=>blk_frozen k9 i
  have rE:=fun i=>blk_cell kE i
  clear hkE bE b9 HK;go_wp2;refine bodyPost_ret (v:=.tuple #[.agg #[.string o',.slice xa (ps').length xc],.string nm']) ?_ rfl ?_
  rotate_left
  ·exact⟨_,_,_,_,rfl,ho',hnm',hzl,HE.out.1,HE.out.2⟩
  simp [results,Tryz.results14,go_sem,Result.andThen,rE]
 ·have nq:(q==0)=false:=by rw [beq_eq_false_iff_ne];exact hq
  clear hq;go_wp2_with fail
  refine(l01Next_any g a n cap 40 _ D6.s (by decide)).mono ?_;rintro e w7 ⟨q2,rfl,q20,q21,hs7,hg7⟩;have D7:=D6.step hs7 hg7;have z7:=z6.dr hg7 hgl;have kz7:=blk_grown kz6 hg7 (by intro e;simp at e;omega);clear D6 z6 kz6 hs7 hg7 q21
  by_cases hq2:q2=0
  ·subst hq2;go_wp2_with fail
   refine(l01Spoil_any g a n cap nm _ D7.s hn1 (by omega)).mono ?_;rintro e w8 ⟨s,rfl,hnm',hs8,hg8⟩;have D8:=D7.step hs8 hg8;have z8:=z7.dr hg8 hgl;have kz8:=blk_grown kz7 hg8 (by intro e;simp at e;omega);have rz:=fun i=>blk_cell kz8 i
   clear D7 z7 kz7 hs8 hg8;go_wp2_with fail
   refine(l06Bend_any o (.slice va ps.length vc) ps 126 w8 D8 z8 hB2 (by decide) hp ho).mono ?_;rintro e w9 ⟨o',v',ps',rfl,ho',hzl,hkp,D9⟩;clear rz D8 z8 kz8;obtain⟨xa,xc,rfl⟩:∃ va vc,v'=.slice va (ps').length vc:=by obtain⟨⟨_,a,c,e,_⟩,_⟩:=(hkp).zrow;exact⟨a,c,e⟩
   obtain⟨k9,b9⟩:=HK.out _ D9;have hkE:=((hkp).far (g:=w.heap.size) (i:=0) (y:=.string o') HW.out).far (g:=w.heap.size) (i:=1) (y:=.slice xa (ps').length xc) HW.out;have kE:=blk_set (blk_set k9 0 (.string o')) 1 (.slice xa (ps').length xc);have bE:=(b9.setCell (p:=⟨w.heap.size,0,none⟩) (Nat.le_refl _) (.string o')).setCell (p:=⟨w.heap.size,1,none⟩) (Nat.le_refl _) (.slice xa (ps').length xc);have HE:=Nm.hide (And.intro (hkE.base (Nat.le_of_lt HW.out)) bE);have r9:=fun i=>blk_cell k9 i
   have f9:=fun i=>blk_frozen k9 i
   have rE:=fun i=>blk_cell kE i
   clear hkE bE b9 HK;go_wp2;refine bodyPost_ret (v:=.tuple #[.agg #[.string o',.slice xa (ps').length xc],.string s]) ?_ rfl ?_
   rotate_left
   ·exact⟨_,_,_,_,rfl,ho',hnm',hzl,HE.out.1,HE.out.2⟩
   simp [results,Tryz.results14,go_sem,Result.andThen,rE]
  ·have nq2:(q2==0)=false:=by rw [beq_eq_false_iff_ne];exact hq2
   have hnm':nm.size<=2000:=by omega
   have rz:=fun i=>blk_cell kz7 i
   clear hq2;go_wp2_with fail
   refine(l06Bend_any o (.slice va ps.length vc) ps 126 w7 D7 z7 hB2 (by decide) hp ho).mono ?_;rintro e w9 ⟨o',v',ps',rfl,ho',hzl,hkp,D9⟩;clear rz D7 z7 kz7;obtain⟨xa,xc,rfl⟩:∃ va vc,v'=.slice va (ps').length vc:=by obtain⟨⟨_,a,c,e,_⟩,_⟩:=(hkp).zrow;exact⟨a,c,e⟩
   obtain⟨k9,b9⟩:=HK.out _ D9;have hkE:=((hkp).far (g:=w.heap.size) (i:=0) (y:=.string o') HW.out).far (g:=w.heap.size) (i:=1) (y:=.slice xa (ps').length xc) HW.out;have kE:=blk_set (blk_set k9 0 (.string o')) 1 (.slice xa (ps').length xc);have bE:=(b9.setCell (p:=⟨w.heap.size,0,none⟩) (Nat.le_refl _) (.string o')).setCell (p:=⟨w.heap.size,1,none⟩) (Nat.le_refl _) (.slice xa (ps').length xc);have HE:=Nm.hide (And.intro (hkE.base (Nat.le_of_lt HW.out)) bE);have r9:=fun i=>blk_cell k9 i
   have f9:=fun i=>blk_frozen k9 i
   have rE:=fun i=>blk_cell kE i
   clear hkE bE b9 HK;go_wp2;refine bodyPost_ret (v:=.tuple #[.agg #[.string o',.slice xa (ps').length xc],.string nm]) ?_ rfl ?_
   rotate_left
   ·exact⟨_,_,_,_,rfl,ho',hnm',hzl,HE.out.1,HE.out.2⟩
   simp [results,Tryz.results14,go_sem,Result.andThen,rE]
set_option maxRecDepth 100000 in
set_option maxHeartbeats 400000 in
theorem drawFindNode_any(a:Option Addr)(n cap:Nat)(w:World)(h:CodeIn w a n)(hn:n<=1048576):
 Calls Tryz.prog 4 #[.slice a n cap] w (DfP w):=by
 have kR:=blk_new w #[.string ByteArray.empty,.slice none 0 0] 25;have bR:=(Below.refl w.heap.size w).alloc (Nat.le_refl _) (.cells #[.string ByteArray.empty,.slice none 0 0] 25);have hza:=l06ZoneAsk_any a n cap _ (code_below h bR) hn;go_enter Tryz.func4,Tryz.ntmps4;go_wp2_with fail
 refine hza.mono ?_;rintro e w1 ⟨o,nm,v,ps,rfl,ho,hnm,hzl,hkp,b1⟩;obtain⟨va,vc,rfl⟩:∃ va vc,v=.slice va ps.length vc:=by obtain⟨⟨_,a,c,e,_⟩,_⟩:=hkp.zrow;exact⟨a,c,e⟩
 have k1:=blk_below kR b1;have b01:=Nm.below_two bR b1;rw [World.size_alloc] at hkp;have hkE:=(hkp.far (g:=w.heap.size) (i:=0) (y:=.string o) (by omega)).far (g:=w.heap.size) (i:=1) (y:=.slice va ps.length vc) (by omega);have kE:=blk_set (blk_set k1 0 (.string o)) 1 (.slice va ps.length vc);have bE:=(b01.setCell (p:=⟨w.heap.size,0,none⟩) (Nat.le_refl _) (.string o)).setCell (p:=⟨w.heap.size,1,none⟩) (Nat.le_refl _) (.slice va ps.length vc);have HE:=Nm.hide (And.intro hkE bE);have r1:=fun i=>blk_cell k1 i
 have f1:=fun i=>blk_frozen k1 i
 have rE:=fun i=>blk_cell kE i
 clear hza kR bR b1 b01 hkp hkE bE h;go_wp2;refine bodyPost_ret (v:=.tuple #[.agg #[.string o,.slice va ps.length vc],.string nm]) ?_ rfl ?_
 rotate_left
 ·exact⟨_,_,_,_,rfl,ho,hnm,hzl,HE.out.1.zrow,HE.out.2⟩
 simp [results,Tryz.results4,go_sem,Result.andThen,rE]
end Go.Proofs.YtahpiciofdfipaaGreat
