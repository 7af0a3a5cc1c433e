import Derived.Test.YtmdinnjimioffaaGreatJZbLb
import Derived.Test.YtmdinnjimioffaaGreatJFoldN
import Derived.Test.YtmdinnjimioffaaGreatJZbG
import Derived.Test.YtmdinnjimioffaaGreatJZtM
import Derived.Test.YtmdinnjimioffaaGreatJTrP
import Derived.Test.YtmdinnjimioffaaGreatJTrG
import Derived.Test.YtmdinnjimioffaaGreatJOrdL
import Derived.BigQuiet
namespace Go.Proofs.YtmdinnjimioffaaGreat
open Go.RowKit
set_option linter.unusedVariables false
def DbP(w:World)(e:Ending)(w':World):Prop:=∃ (v:Value) (xs:List Rr) (ap:ByteArray),e=.returned (.tuple #[v,.string ap])∧CRow w' v xs.length 5 (rvVs xs)∧0<xs.length∧xs.length<=700∧(∀ r∈xs,r.own.size<=4000∧r.da.size<=4000)∧(∃ ys:List Rr,ys.length<=125∧∀ r∈xs,r∈ys)∧ap.size<=4000∧Below w.heap.size w w'
structure Dv (w w0:World) (g:Nat) (a:Option Addr) (n cap:Nat) (v:Value) (xs:List Rr) (W:World):Prop where
 d:Dr w0 g a n cap W
 r:W.ownsRow w0.heap.size 33 5 v xs.length (rvVs xs)
 z:∀ r∈xs,r.own.size<=4000∧r.da.size<=4000
section
variable {w w0 W W1:World}{g n cap:Nat}{a:Option Addr}{v:Value}{xs:List Rr}
theorem Dv.below(h:Dv w w0 g a n cap v xs W)(hb:Below W.heap.size W W1):Dv w w0 g a n cap v xs W1:=⟨h.d.below hb,own_below h.r hb,h.z⟩
theorem Dv.step(h:Dv w w0 g a n cap v xs W)(hs:Src W1 g a n cap)(hg:W.grownBy W1 (some g)):Dv w w0 g a n cap v xs W1:=⟨h.d.step hs hg,h.d.keep h.r hg,h.z⟩
theorem Dv.put{b cp j i:Nat}{x y:Rr}{u:Value}(h:Dv w w0 g a n cap (.slice (some ⟨b,0,none⟩) xs.length cp) xs W)(hx:xs[j]? =some x)(hi:i<5)(e:(rvV x).set i u=rvV y)(hy:y.own.size<=4000∧y.da.size<=4000):Dv w w0 g a n cap (.slice (some ⟨b,0,none⟩) xs.length cp) (xs.set j y) (W.setCell ⟨b,j*5+i,none⟩ u):=by
 obtain⟨h1,h2⟩:=h.r.stored (j*5+i) u;rw [rvs_put xs j i x y u hx hi e] at h1;refine⟨h.d.set (h.r.lt b rfl).1 u,by rw [List.length_set];exact h1,fun r hr=>?_⟩
 rcases List.mem_or_eq_of_mem_set hr with hr|rfl
 ·exact h.z r hr
 ·exact hy
theorem Dv.app{y:Rr}{v1:Value}(h:Dv w w0 g a n cap v xs W)(ho:W1.ownsRow w0.heap.size 33 5 v1 (xs.length+1) (rvVs xs++rvV y))(hg:W.grownBy W1 v.ownBlock)(hy:y.own.size<=4000∧y.da.size<=4000):Dv w w0 g a n cap v1 (xs++[y]) W1:=by
 have e:rvVs (xs++[y])=rvVs xs++rvV y:=by rw [rvVs_app];simp [rvVs]
 refine⟨h.d.row hg (fun k hk=>(h.r.lt k hk).1),by rw [e,List.length_append];exact ho,fun r hr=>?_⟩
 rcases List.mem_append.1 hr with hr|hr
 ·exact h.z r hr
 ·rw [List.mem_singleton.1 hr];exact hy
theorem Dv.end_{ap:ByteArray}(h:Dv w w0 g a n cap v xs W)(hb:Below w.heap.size w w0)(hg:w.heap.size<=g)(h0:0<xs.length)(h1:xs.length<=125)(ha:ap.size<=4000):DbP w (.returned (.tuple #[v,.string ap])) W:=
 ⟨v,xs,ap,rfl,CRow.of_owns h.r,h0,by omega,h.z,⟨xs,h1,fun r hr=>hr⟩,ha,hb.grown h.d.gr hb.size (fun k hk=>by simp at hk;omega)⟩
end
theorem Dv.end2{w w0 W:World}{g n cap:Nat}{a:Option Addr}{v:Value}{xs ys:List Rr}{ap:ByteArray}(h:Dv w w0 g a n cap v xs W)(hb:Below w.heap.size w w0)(hg:w.heap.size<=g)(h0:0<xs.length)(h1:xs.length<=700)(hy:ys.length<=125)(hm:∀ r∈xs,r∈ys)(ha:ap.size<=4000):DbP w (.returned (.tuple #[v,.string ap])) W:=
 ⟨v,xs,ap,rfl,CRow.of_owns h.r,h0,h1,h.z,⟨ys,hy,hm⟩,ha,hb.grown h.d.gr hb.size (fun k hk=>by simp at hk;omega)⟩
def slLenW:Value->Nat
 |.slice _ k _=>k
 |_=>0
theorem crow_tl{W:World}{b cp:Nat}{x:Rr}{xs:List Rr}(h:CRow W (.slice (some ⟨b,0,none⟩) (x::xs).length cp) (x::xs).length 5 (rvVs (x::xs)))(h0:0<xs.length):CRow W (.slice (some ⟨b,5,none⟩) xs.length (cp-1)) xs.length 5 (rvVs xs):=by
 obtain⟨_,a,c,e,h1,h2,h3⟩:=h;simp only [Value.slice.injEq] at e;obtain⟨rfl,-,rfl⟩:=e;obtain⟨b',off',e2,hc⟩:=h3 (by simp);simp only [Option.some.injEq,Addr.mk.injEq] at e2;obtain⟨rfl,rfl,-⟩:=e2;refine⟨rvVs_len xs,_,_,rfl,by simp at h1;omega,by omega,fun _=>⟨b,5,rfl,fun i y hy=>?_⟩⟩;have hl:(rvV x).length=5:=rfl;have:=hc (5+i) y (by rw [show rvVs (x::xs)=rvV x++rvVs xs from rfl,List.getElem?_append_right (by omega),hl];simpa using hy)
 rwa [Nat.zero_add] at this
theorem Dv.tl{w w0 W:World}{g n cap b cp:Nat}{a:Option Addr}{xs:List Rr}{ap:ByteArray}(h:Dv w w0 g a n cap (.slice (some ⟨b,0,none⟩) xs.length cp) xs W)(hb:Below w.heap.size w w0)(hg:w.heap.size<=g)(h0:2<=xs.length)(h1:xs.length<=125)(ha:ap.size<=4000):DbP w (.returned (.tuple #[.slice (some ⟨b,5,none⟩) (xs.length-1) (cp-1),.string ap])) W:=by
 have hbw:=hb.grown h.d.gr hb.size (fun k hk=>by simp at hk;omega);have hc:=CRow.of_owns h.r;have hz:=h.z
 cases xs with
 |nil=>simp at h0
 |cons x t=>
  have ht:0<t.length:=by simp at h0;omega
  exact⟨_,t,ap,rfl,crow_tl hc ht,ht,by simp at h1;omega,fun r hr=>hz r (List.mem_cons_of_mem _ hr),⟨t,by simp at h1;omega,fun r hr=>hr⟩,ha,hbw⟩
theorem own_pre5{w:World}{B e g n cap k:Nat}{xs:List Value}(h:w.ownsRow B e 5 (.slice (some ⟨g,0,none⟩) n cap) n xs)(hk:k<=n):w.ownsRow B e 5 (.slice (some ⟨g,0,none⟩) k cap) k (xs.take (k*5)):=by
 obtain⟨h1,h2⟩:=h;refine⟨by rw [List.length_take,h1];omega,?_⟩
 rcases h2 with⟨h',_⟩|⟨g',cap',cur,h',hb,hg,hnc,hcm,hcs,htake⟩
 ·cases h'
 ·simp only [Value.slice.injEq,Option.some.injEq,Addr.mk.injEq,and_true,true_and] at h';obtain⟨rfl,rfl⟩:=h';refine .inr ⟨g,cap,cur,rfl,hb,hg,by omega,hcm,hcs,?_⟩;rw [<- htake,List.take_take,Nat.min_eq_left (by omega)]
theorem hown_cap{w:World}{B e g s n cap:Nat}{xs:List Value}(h:w.ownsRow B e s (.slice (some ⟨g,0,none⟩) n cap) n xs):n<=cap∧cap<=maxLen:=by
 rcases h.2 with⟨h',_⟩|⟨g',cap',cur,h',_,_,hnc,hcm,_⟩
 ·cases h'
 ·simp only [Value.slice.injEq] at h';omega
theorem rvs_take(xs:List Rr)(k:Nat):(rvVs xs).take (k*5)=rvVs (xs.take k):=by
 induction xs generalizing k with
 |nil=>simp [rvVs]
 |cons x xs ih=>
  cases k with
  |zero=>simp [rvVs]
  |succ k=>
   have e:rvVs (x::xs)=rvV x++rvVs xs:=rfl;have hl:(rvV x).length=5:=rfl;rw [List.take_succ_cons,e,show(k+1)*5=5+k*5 by omega,List.take_append,hl,Nat.add_sub_cancel_left,ih,List.take_of_length_le (by omega)];rfl
theorem rvs_drop(xs:List Rr)(k:Nat):(rvVs xs).drop (k*5)=rvVs (xs.drop k):=by
 induction xs generalizing k with
 |nil=>simp [rvVs]
 |cons x xs ih=>
  cases k with
  |zero=>simp
  |succ k=>
   have e:rvVs (x::xs)=rvV x++rvVs xs:=rfl;have hl:(rvV x).length=5:=rfl;rw [List.drop_succ_cons,e,show(k+1)*5=5+k*5 by omega,List.drop_append,hl,Nat.add_sub_cancel_left,ih,List.drop_eq_nil_of_le (by omega)];rfl
set_option maxRecDepth 100000 in
set_option maxHeartbeats 12800000 in
theorem drawBuildZone_any(a:Option Addr)(n cap:Nat)(w:World)(h:CodeIn w a n)(hn:n<=1048576):
 Calls Tryz.prog 4 #[.slice a n cap] w (DbP w):=by
 obtain⟨i0,hi,hz0,hz1,hz2⟩:=info_parts Tryz.infoRRc;go_enter Tryz.func4,Tryz.ntmps4;go_wp2_with fail
 refine(l01Begin_any a n cap _ h hn).mono ?_;rintro e w1 ⟨st,rfl,b1⟩;have hs1:=src_made (cap:=cap) (code_below h b1) hn st;have b1A:=b1.alloc b1.size (.cells #[.slice a n cap,.int .i64 0,.int .u64 st] 40 (0,0));obtain⟨g,hg⟩:∃ g,g=w1.heap.size:=⟨_,rfl⟩;have hgw:w.heap.size<=g:=by have:=b1.size;omega
 rw [<- hg] at hs1;clear b1 h;go_wp2_with fail
 rw [<- hg];clear hg;refine(l01Next_any g a n cap 9 _ hs1 (by decide)).mono ?_;rintro e w2 ⟨r,rfl,r0,r1,hs2,hg2⟩;have r2:=r1 (by decide);obtain⟨m,rfl⟩:=Int.eq_ofNat_of_zero_le r0;have b2:=b1A.grown hg2 b1A.size (fun k hk=>by simp at hk;omega);clear hs1 hg2 b1A r1 r0;go_wp2_with fail
 refine(l01Parts_any a n cap w2 hn).mono ?_;rintro e w3 ⟨k,rfl,hk,rfl⟩;obtain⟨M,HM⟩:∃ M:Nat,Hid (M=m+k):=⟨_,rfl⟩
 have hmk:IntKind.i64.wrap ((m:Int)+(k:Int))=(M:Int):=by
  have:=HM.out;rw [Go.wrap_small _ (by omega) (by omega)];omega
 have hM:M<=38:=by
  have:=HM.out;omega
 have HBW:=Nm.hide b2;have HGW:=Nm.hide hgw;go_wp2_with fail
 refine(l05Records_any g a n cap M w3 hs2 (by omega)).mono ?_;rintro e w4 ⟨ap,bb,lv,xs,rfl,hap,_,_,hx1,hx2,L⟩;obtain⟨ha1,ha2⟩:=ap_size hap;have hgl:=L.d.lt;have D4:Dv w w3 g a n cap lv xs w4:=⟨L.d,L.r,fun r hr=>by have:=L.z r hr;exact⟨by have:=this.1;omega,by have:=this.2;omega⟩⟩;have hxl:xs.length<=117:=by omega
 obtain⟨la,lc,rfl⟩:=own_sl D4.r
 obtain⟨b,rfl⟩:∃ b,la=some ⟨b,0,none⟩:=by
  rcases D4.r.2 with⟨e,h0⟩|⟨g1,c1,cur,e,_⟩
  ·omega
  ·simp only [Value.slice.injEq] at e;exact⟨g1,e.1⟩
 have HLZ:=Nm.hide L.z;clear hmk r2 hk b2 hap L hx2 HM hM;go_wp2_with fail
 refine(l01Next_any g a n cap (xs.length:Int) _ D4.d.s (by omega)).mono ?_;rintro e w5 ⟨r,rfl,r0,r1,hs5,hg5⟩;have r2:=r1 (by omega);obtain⟨i,rfl⟩:=Int.eq_ofNat_of_zero_le r0;have hil:i<xs.length:=by omega
 obtain⟨x,hx⟩:∃ x,xs[i]? =some x:=⟨_,List.getElem?_eq_getElem hil⟩;have D5:=D4.step hs5 hg5;have hzx:=D5.z x (List.mem_of_getElem? hx);clear D4 hs5 hg5 r1;go_wp2_with fail
 refine(l01Next_any g a n cap 22 _ D5.d.s (by decide)).mono ?_;rintro e w6 ⟨q,rfl,q0,q1,hs6,hg6⟩;have q2:=q1 (by decide);have D6:=D5.step hs6 hg6;clear D5 hs6 hg6 q1;have i1:(0:Int)<=(i:Int):=by omega
 have i2:(i:Int)<(xs.length:Int):=by omega
 have HX:=Nm.hide hx;have hf:=fun q=>D6.r.frozenAt q
 have hc:∀ j,j<5->w6.cell? ⟨b,i*5+j,none⟩=(rvV x)[j]? :=fun j hj=>(D6.r.cellAt (i*5+j) (by omega)).trans (rvVs_at xs i j x hx hj)
 have c0:w6.cell? ⟨b,i*5,none⟩=some (.string x.own):=(hc 0 (by decide)).trans rfl;have c1:w6.cell? ⟨b,i*5+1,none⟩=some (.int .i64 x.ty):=(hc 1 (by decide)).trans rfl;have c2:w6.cell? ⟨b,i*5+2,none⟩=some (.int .i64 x.cl):=(hc 2 (by decide)).trans rfl;have c3:w6.cell? ⟨b,i*5+3,none⟩=some (.int .i64 x.tt):=(hc 3 (by decide)).trans rfl;have c4:w6.cell? ⟨b,i*5+4,none⟩=some (.string x.da):=(hc 4 (by decide)).trans rfl;clear hc hx
 by_cases p0:q=0
 ·subst p0;have HE:=Nm.hide (D6.put (i:=2) (y:=⟨x.own,x.ty,3,x.tt,x.da⟩) (u:=.int .i64 3) HX.out (by decide) rfl hzx);go_wp2;go_ret2;exact HE.out.end_ (ap:=ap) HBW.out HGW.out (by first|omega|(simp;done)|(simp;omega)) (by first|omega|(simp;done)|(simp;omega)) (by first|omega|decide)
 by_cases p1:q=1
 ·subst p1;have HE:=Nm.hide (D6.put (i:=3) (y:=⟨x.own,x.ty,x.cl,wrap64 (x.tt+1),x.da⟩) (u:=.int .i64 (wrap64 (x.tt+1))) HX.out (by decide) rfl hzx);go_wp2;go_ret2;exact HE.out.end_ (ap:=ap) HBW.out HGW.out (by first|omega|(simp;done)|(simp;omega)) (by first|omega|(simp;done)|(simp;omega)) (by first|omega|decide)
 by_cases p2:q=2
 ·subst p2;have HE:=Nm.hide (D6.put (i:=1) (y:=⟨x.own,250,x.cl,x.tt,x.da⟩) (u:=.int .i64 250) HX.out (by decide) rfl hzx);go_wp2;go_ret2;exact HE.out.end_ (ap:=ap) HBW.out HGW.out (by first|omega|(simp;done)|(simp;omega)) (by first|omega|(simp;done)|(simp;omega)) (by first|omega|decide)
 by_cases p3:q=3
 ·subst p3;clear p0 p1 p2;go_wp2_with fail
  refine(l02SpoilData_any g a n cap x.da w6 D6.d.s (HLZ.out x (List.mem_of_getElem? HX.out)).2).mono ?_;rintro e w7 ⟨s,rfl,hs,hs7,hg7⟩;have D7:=D6.step hs7 hg7;have f7:=D7.r.frozenAt (i*5+4);have c7:=(D7.r.cellAt (i*5+4) (by omega)).trans ((rvVs_at xs i 4 x HX.out (by decide)).trans rfl);clear D6 hf c0 c1 c2 c3 c4 hs7 hg7;have HE:=Nm.hide (D7.put (i:=4) (y:=⟨x.own,x.ty,x.cl,x.tt,s⟩) (u:=.string s) HX.out (by decide) rfl ⟨hzx.1,by show s.size<=4000;omega⟩);go_wp2;go_ret2;exact HE.out.end_ (ap:=ap) HBW.out HGW.out (by first|omega|(simp;done)|(simp;omega)) (by first|omega|(simp;done)|(simp;omega)) (by first|omega|decide)
 by_cases p4:q=4
 ·subst p4;clear p0 p1 p2 p3;go_wp2_with fail
  refine(l01Raw_any g a n cap w6 D6.d.s).mono ?_;rintro e w7 ⟨s,rfl,hs,hs7,hg7⟩;have D7:=D6.step hs7 hg7;have f7:=D7.r.frozenAt (i*5);have c7:=(D7.r.cellAt (i*5) (by omega)).trans ((rvVs_at xs i 0 x HX.out (by decide)).trans rfl);clear D6 hf c0 c1 c2 c3 c4 hs7 hg7;have HE:=Nm.hide (D7.put (i:=0) (y:=⟨s,x.ty,x.cl,x.tt,x.da⟩) (u:=.string s) HX.out (by decide) rfl ⟨by show s.size<=4000;omega,hzx.2⟩);go_wp2;go_ret2;exact HE.out.end_ (ap:=ap) HBW.out HGW.out (by first|omega|(simp;done)|(simp;omega)) (by first|omega|(simp;done)|(simp;omega)) (by first|omega|decide)
 obtain⟨wq,hwq⟩:∃ W,W=w6:=⟨_,rfl⟩;subst hwq
 by_cases p5:q=5
 ·subst p5;clear p0 p1 p2 p3 p4;have hsz:=(D6).d.size;have hrA:=(D6).r.alloc (.cells #[.string x.own,.int .i64 x.ty,.int .i64 x.cl,.int .i64 x.tt,.string x.da] 33);go_wp2_with (at_builtin;refine wpList_append_own _ rfl (.tmp 69) (.tmp 74) 23 rfl w3.heap.size 33 i0 _ 5 56 Tryz.underlying23 hi hz0 hz1 hz2 rfl (by decide) _ _ _ rfl hrA ⟨wq.heap.size,0,none⟩ 1 1 [.string x.own,.int .i64 x.ty,.int .i64 x.cl,.int .i64 x.tt,.string x.da] rfl rfl (cell_newV wq #[.string x.own,.int .i64 x.ty,.int .i64 x.cl,.int .i64 x.tt,.string x.da] 33) (by intro u hu;simp at hu;rcases hu with rfl|rfl|rfl|rfl|rfl<;>rfl) (by unfold maxLen;omega) (by omega) (by simp;omega) ?_)
  intro v9 w9 hown9 hgrow9 _;have D9:=((D6).below ((Below.refl _ _).alloc (Nat.le_refl _) (.cells #[.string x.own,.int .i64 x.ty,.int .i64 x.cl,.int .i64 x.tt,.string x.da] 33))).app (y:=⟨x.own,x.ty,x.cl,x.tt,x.da⟩) hown9 hgrow9 hzx;obtain⟨va9,vc9,rfl⟩:=own_sl hown9;clear hown9 hgrow9 hrA hsz;have HE:=Nm.hide D9;go_wp2;go_ret2;exact HE.out.end_ (ap:=ap) HBW.out HGW.out (by first|omega|(simp;done)|(simp;omega)) (by first|omega|(simp;done)|(simp;omega)) (by first|omega|decide)
 by_cases p6:q=6
 ·subst p6;clear p0 p1 p2 p3 p4 p5 hf c0 c1 c2 c3 c4;have hso:Calls Tryz.prog 18 #[.string ap,.int .i64 7,.int .i64 3600,.int .i64 60] wq fun e w'=>∃ b:ByteArray,e=.returned (.agg #[.string ap,.int .i64 6,.int .i64 1,.int .i64 3600,.string (soaD ap b)])∧b.size=20∧Below wq.heap.size wq w':=l05Soa_any ap 7 60 3600 wq (by omega) (by decide) (by decide)
  go_wp2_with fail
  refine hso.mono ?_;rintro e w7 ⟨b0,rfl,hb0,b7⟩;have D7:=D6.below b7
  have hsd:(soaD ap b0).size<=4000:=by
   rw [soaD,ByteArray.size_append,ByteArray.size_append,sub_len,sub_len,show Nm.wsum [(⟨#[110,115,49]⟩:ByteArray)]=4 from rfl,show Nm.wsum [(⟨#[97,100,109,105,110]⟩:ByteArray)]=6 from rfl];omega
  generalize soaD ap b0=sd at*;clear hso D6 b7 hb0 HLZ;have hsz:=(D7).d.size;have hrA:=(D7).r.alloc (.cells #[.string ap,.int .i64 6,.int .i64 1,.int .i64 3600,.string sd] 33);go_wp2_with (at_builtin;refine wpList_append_own _ rfl (.tmp 78) (.tmp 81) 23 rfl w3.heap.size 33 i0 _ 5 56 Tryz.underlying23 hi hz0 hz1 hz2 rfl (by decide) _ _ _ rfl hrA ⟨w7.heap.size,0,none⟩ 1 1 [.string ap,.int .i64 6,.int .i64 1,.int .i64 3600,.string sd] rfl rfl (cell_newV w7 #[.string ap,.int .i64 6,.int .i64 1,.int .i64 3600,.string sd] 33) (by intro u hu;simp at hu;rcases hu with rfl|rfl|rfl|rfl|rfl<;>rfl) (by unfold maxLen;omega) (by omega) (by simp;omega) ?_)
  intro v9 w9 hown9 hgrow9 _;have D9:=((D7).below ((Below.refl _ _).alloc (Nat.le_refl _) (.cells #[.string ap,.int .i64 6,.int .i64 1,.int .i64 3600,.string sd] 33))).app (y:=⟨ap,6,1,3600,sd⟩) hown9 hgrow9 ⟨by show ap.size<=4000;omega,hsd⟩;obtain⟨va9,vc9,rfl⟩:=own_sl hown9;clear hown9 hgrow9 hrA hsz;have HE:=Nm.hide D9;go_wp2;go_ret2;exact HE.out.end_ (ap:=ap) HBW.out HGW.out (by first|omega|(simp;done)|(simp;omega)) (by first|omega|(simp;done)|(simp;omega)) (by first|omega|decide)
 by_cases p7:q=7
 ·subst p7;have e1:(1:Int)<=(xs.length:Int):=by omega
  have hcp:=hown_cap D6.r;have e2:(xs.length:Int)<=(lc:Int):=by omega
  clear p0 p1 p2 p3 p4 p5 p6 hf c0 c1 c2 c3 c4;have HE:=Nm.hide D6;go_wp2_with fail
  all_goals first
   |(exfalso;omega)
   |(go_wp2;go_ret2;exact HE.out.tl HBW.out HGW.out (by omega) (by omega) (by omega))
 by_cases p8:q=8
 ·subst p8;obtain⟨e0,e9⟩:=hown_cap D6.r;unfold maxLen at e9;have e1:(1:Int)<=(lc:Int):=by omega
  have e2:(2:Int)<=(xs.length:Int):=by omega
  have e3:(xs.length:Int)<=(lc:Int):=by omega
  have e4:2<lc:=by omega
  have e5:¬lc=2:=by omega
  have D8:=D6.below (Below.refl _ _).drew;have hpre:=own_pre5 D8.r (k:=1) (by omega)
  have hnew:∀ (j:Nat) (u:Value),((rvVs xs).drop (2*5))[j]? =some u->wq.drew.cell? ((⟨b,10,none⟩:Addr).add j)=some u:=fun j u hu=>by
   rw [List.getElem?_drop] at hu;have hj:=(List.getElem?_eq_some_iff.1 hu).1;rw [rvVs_len] at hj;rw [Nm.addr_add];exact(D8.r.cellAt (2*5+j) (by omega)).trans hu
  have hone:∀ u∈(rvVs xs).drop (2*5),u.oneCell'=true:=fun u hu=>by
   have:=List.mem_of_mem_drop hu;rw [rvVs,List.mem_flatMap] at this;obtain⟨r,_,hr⟩:=this;simp [rvV] at hr
   rcases hr with rfl|rfl|rfl|rfl|rfl<;>rfl
  have hlen:((rvVs xs).drop (2*5)).length=(xs.length-2)*5:=by rw [List.length_drop,rvVs_len];omega
  have hsz:=D8.d.size;have HD:=Nm.hide D8;clear p0 p1 p2 p3 p4 p5 p6 p7 hf c0 c1 c2 c3 c4 D6 D8;go_wp2_with fail
  refine wp_region_last (fun X=>True) 1000 (by kernel_rfl) trivial (fun hHeld=>?_);refine wpAnyL_take (i:=0) (v:=?_) rfl (by kernel_rfl) (by kernel_rfl) (by kernel_rfl) (by kernel_rfl) (fun _ _ _ h=>h) (Or.inl ⟨by kernel_rfl,?_⟩) (by assumption) ?_;rotate_left 1
  ·(intro W hSW;go_simp;try (with_reducible rfl))
  refine wpAnyL_take (i:=1) (v:=?_) rfl (by kernel_rfl) (by kernel_rfl) (by kernel_rfl) (by kernel_rfl) (fun _ _ _ h=>h) (Or.inl ⟨by kernel_rfl,?_⟩) (by assumption) ?_;rotate_left 1
  ·(intro W hSW;go_simp;try (with_reducible rfl))
  refine wpAnyL_take (i:=2) (v:=?_) rfl (by kernel_rfl) (by kernel_rfl) (by kernel_rfl) (by kernel_rfl) (fun _ _ _ h=>h) (Or.inl ⟨by kernel_rfl,?_⟩) (by assumption) ?_;rotate_left 1
  ·(intro W hSW;go_simp;try (with_reducible rfl))
  refine wpAnyL_take (i:=3) (v:=?_) rfl (by kernel_rfl) (by kernel_rfl) (by kernel_rfl) (by kernel_rfl) (fun _ _ _ h=>h) (Or.inl ⟨by kernel_rfl,?_⟩) (by assumption) ?_;rotate_left 1
  ·(intro W hSW;go_simp;try (with_reducible rfl))
  refine wpAnyL_one (i:=4) (by kernel_rfl) rfl (fun K hK=>?_);refine step_append_own rfl (.tmp 90) (.tmp 92) 23 rfl w3.heap.size 33 i0 _ 5 56 Tryz.underlying23 hi hz0 hz1 hz2 rfl (by decide) (.slice (some ⟨b,0,none⟩) 1 lc) 1 _ (by rfl) hpre ⟨b,10,none⟩ (xs.length-2) (lc-2) ((rvVs xs).drop (2*5)) (by rfl) hlen hnew hone (by unfold maxLen;omega) (by omega) hsz ?_;intro v9 w9 hown9 hgrow9 _;refine hK.out _ _ trivial (fun hHeld=>?_);clear hK K
  have D9:Dv w w3 g a n cap v9 (xs.take 1++xs.drop 2) w9:=by
   have e:rvVs (xs.take 1++xs.drop 2)=(rvVs xs).take (1*5)++(rvVs xs).drop (2*5):=by rw [rvVs_app,rvs_take,rvs_drop]
   have el:(xs.take 1++xs.drop 2).length=1+(xs.length-2):=by rw [List.length_append,List.length_take,List.length_drop];omega
   refine⟨HD.out.d.row hgrow9 (fun k hk=>(HD.out.r.lt k (by simpa [Value.ownBlock] using hk)).1),by rw [e,el];exact hown9,fun r hr=>?_⟩
   rcases List.mem_append.1 hr with hr|hr
   ·exact HD.out.z r (List.mem_of_mem_take hr)
   ·exact HD.out.z r (List.mem_of_mem_drop hr)
  have el:(xs.take 1++xs.drop 2).length=1+(xs.length-2):=by rw [List.length_append,List.length_take,List.length_drop];omega
  obtain⟨va9,vc9,rfl⟩:=own_sl D9.r;have D9':Dv w w3 g a n cap (.slice va9 (1+(xs.length-2)) vc9) (xs.take 1++xs.drop 2) w9:=by rw [<- el];exact D9
  generalize xs.take 1++xs.drop 2=ys at*;clear D9;clear hown9 hgrow9 hpre hnew hone hlen HD;refine wpAnyL_take (i:=5) (v:=?_) rfl (by kernel_rfl) (by kernel_rfl) (by kernel_rfl) (by kernel_rfl) (fun _ _ _ h=>h) (Or.inl ⟨by kernel_rfl,?_⟩) (by assumption) ?_;rotate_left 1
  ·(intro W hSW;go_simp;try (with_reducible rfl))
  refine wpAnyL_done (by kernel_rfl) ?_
  try go_simp
  have HE:=Nm.hide D9';go_wp2;go_ret2;exact HE.out.end_ (ap:=ap) HBW.out HGW.out (by first|omega|(simp;done)|(simp;omega)) (by first|omega|(simp;done)|(simp;omega)) (by first|omega|decide)
 by_cases p9:q=9
 ·subst p9;clear p0 p1 p2 p3 p4 p5 p6 p7 p8 hf c0 c1 c2 c3 c4;go_wp2_with fail
  refine(l05Sub_any _ [⟨#[42]⟩] ap _ (srow1 wq ⟨#[42]⟩) (by decide) (by omega)).mono ?_;rintro e w7 ⟨s,rfl,hs,b7⟩
  replace hs:s.size=2+ap.size:=hs
  have D7:=(D6.below ((Below.refl _ _).alloc (Nat.le_refl _) (.cells #[.string ⟨#[42]⟩] 9))).below b7;clear D6 b7;have hsz:=(D7).d.size;have hrA:=(D7).r.alloc (.cells #[.string s,.int .i64 2,.int .i64 1,.int .i64 5,.string ap] 33);go_wp2_with (at_builtin;refine wpList_append_own _ rfl (.tmp 96) (.tmp 102) 23 rfl w3.heap.size 33 i0 _ 5 56 Tryz.underlying23 hi hz0 hz1 hz2 rfl (by decide) _ _ _ rfl hrA ⟨w7.heap.size,0,none⟩ 1 1 [.string s,.int .i64 2,.int .i64 1,.int .i64 5,.string ap] rfl rfl (cell_newV w7 #[.string s,.int .i64 2,.int .i64 1,.int .i64 5,.string ap] 33) (by intro u hu;simp at hu;rcases hu with rfl|rfl|rfl|rfl|rfl<;>rfl) (by unfold maxLen;omega) (by omega) (by simp;omega) ?_)
  intro v9 w9 hown9 hgrow9 _;have D9:=((D7).below ((Below.refl _ _).alloc (Nat.le_refl _) (.cells #[.string s,.int .i64 2,.int .i64 1,.int .i64 5,.string ap] 33))).app (y:=⟨s,2,1,5,ap⟩) hown9 hgrow9 ⟨by show s.size<=4000;omega,by show ap.size<=4000;omega⟩;obtain⟨va9,vc9,rfl⟩:=own_sl hown9;clear hown9 hgrow9 hrA hsz;have HE:=Nm.hide D9;go_wp2;go_ret2;exact HE.out.end_ (ap:=ap) HBW.out HGW.out (by first|omega|(simp;done)|(simp;omega)) (by first|omega|(simp;done)|(simp;omega)) (by first|omega|decide)
 by_cases p10:q=10
 ·subst p10;clear p0 p1 p2 p3 p4 p5 p6 p7 p8 p9 hf c0 c1 c2 c3 c4;go_wp2_with fail
  refine(l05Sub_any _ [⟨#[107]⟩,⟨#[100,110]⟩] ap _ (srow2 wq ⟨#[107]⟩ ⟨#[100,110]⟩) (by decide) (by omega)).mono ?_;rintro e w7 ⟨s,rfl,hs,b7⟩
  replace hs:s.size=5+ap.size:=hs
  have D7:=(D6.below ((Below.refl _ _).alloc (Nat.le_refl _) (.cells #[.string ⟨#[107]⟩,.string ⟨#[100,110]⟩] 9))).below b7;clear D6 b7;have hsz:=(D7).d.size;have hrA:=(D7).r.alloc (.cells #[.string s,.int .i64 1,.int .i64 1,.int .i64 5,.string ⟨#[97,98,99,100]⟩] 33);go_wp2_with (at_builtin;refine wpList_append_own _ rfl (.tmp 106) (.tmp 111) 23 rfl w3.heap.size 33 i0 _ 5 56 Tryz.underlying23 hi hz0 hz1 hz2 rfl (by decide) _ _ _ rfl hrA ⟨w7.heap.size,0,none⟩ 1 1 [.string s,.int .i64 1,.int .i64 1,.int .i64 5,.string ⟨#[97,98,99,100]⟩] rfl rfl (cell_newV w7 #[.string s,.int .i64 1,.int .i64 1,.int .i64 5,.string ⟨#[97,98,99,100]⟩] 33) (by intro u hu;simp at hu;rcases hu with rfl|rfl|rfl|rfl|rfl<;>rfl) (by unfold maxLen;omega) (by omega) (by simp;omega) ?_)
  intro v9 w9 hown9 hgrow9 _;have D9:=((D7).below ((Below.refl _ _).alloc (Nat.le_refl _) (.cells #[.string s,.int .i64 1,.int .i64 1,.int .i64 5,.string ⟨#[97,98,99,100]⟩] 33))).app (y:=⟨s,1,1,5,⟨#[97,98,99,100]⟩⟩) hown9 hgrow9 ⟨by show s.size<=4000;omega,by show 4<=4000;decide⟩;obtain⟨va9,vc9,rfl⟩:=own_sl hown9;clear hown9 hgrow9 hrA hsz;have hl9:(xs++[(⟨s,1,1,5,⟨#[97,98,99,100]⟩⟩:Rr)]).length=xs.length+1:=by simp
  have D9':Dv w w3 g a n cap (.slice va9 (xs++[(⟨s,1,1,5,⟨#[97,98,99,100]⟩⟩:Rr)]).length vc9) (xs++[(⟨s,1,1,5,⟨#[97,98,99,100]⟩⟩:Rr)]) w9:=by rw [hl9];exact D9
  rw [<- hl9];have hl9a:(xs++[(⟨s,1,1,5,⟨#[97,98,99,100]⟩⟩:Rr)]).length<=118:=by omega
  generalize xs++[(⟨s,1,1,5,⟨#[97,98,99,100]⟩⟩:Rr)]=ys at*;clear D9 D7 hl9;go_wp2_with fail
  refine(l05Sub_any _ [⟨#[100,110]⟩] ap _ (srow1 w9 ⟨#[100,110]⟩) (by decide) (by omega)).mono ?_;rintro e w8 ⟨s2,rfl,hs2,b7⟩
  replace hs2:s2.size=3+ap.size:=hs2
  have D7:=(D9'.below ((Below.refl _ _).alloc (Nat.le_refl _) (.cells #[.string ⟨#[100,110]⟩] 9))).below b7;clear D9' b7;have hsz:=(D7).d.size;have hrA:=(D7).r.alloc (.cells #[.string s2,.int .i64 39,.int .i64 1,.int .i64 5,.string ap] 33);go_wp2_with (at_builtin;refine wpList_append_own _ rfl (.tmp 113) (.tmp 119) 23 rfl w3.heap.size 33 i0 _ 5 56 Tryz.underlying23 hi hz0 hz1 hz2 rfl (by decide) _ _ _ rfl hrA ⟨w8.heap.size,0,none⟩ 1 1 [.string s2,.int .i64 39,.int .i64 1,.int .i64 5,.string ap] rfl rfl (cell_newV w8 #[.string s2,.int .i64 39,.int .i64 1,.int .i64 5,.string ap] 33) (by intro u hu;simp at hu;rcases hu with rfl|rfl|rfl|rfl|rfl<;>rfl) (by unfold maxLen;omega) (by omega) (by simp;omega) ?_)
  intro v9 w9 hown9 hgrow9 _;have D9:=((D7).below ((Below.refl _ _).alloc (Nat.le_refl _) (.cells #[.string s2,.int .i64 39,.int .i64 1,.int .i64 5,.string ap] 33))).app (y:=⟨s2,39,1,5,ap⟩) hown9 hgrow9 ⟨by show s2.size<=4000;omega,by show ap.size<=4000;omega⟩;obtain⟨va9,vc9,rfl⟩:=own_sl hown9;clear hown9 hgrow9 hrA hsz;have HE:=Nm.hide D9;go_wp2;go_ret2;exact HE.out.end_ (ap:=ap) HBW.out HGW.out (by first|omega|(simp;done)|(simp;omega)) (by first|omega|(simp;done)|(simp;omega)) (by first|omega|decide)
 by_cases p11:q=11
 ·subst p11;clear p0 p1 p2 p3 p4 p5 p6 p7 p8 p9 p10 hf c0 c1 c2 c3 c4;have HE:=Nm.hide D6;go_wp2;go_ret2;exact HE.out.end_ (ap:=⟨#[120]⟩) HBW.out HGW.out (by first|omega|(simp;done)|(simp;omega)) (by first|omega|(simp;done)|(simp;omega)) (by first|omega|decide)
 by_cases p12:q=12
 ·subst p12;have hm3:(n:Int).tmod 3=((n % 3:Nat):Int):=by rw [Int.tmod_eq_emod_of_nonneg (by omega)];rfl
  have hxm:∀ r∈xs,r∈xs:=fun r hr=>hr
  clear p0 p1 p2 p3 p4 p5 p6 p7 p8 p9 p10 p11 hf c0 c1 c2 c3 c4 i2;go_wp2_with fail
  go_loopw [6] (fun lv wr=>∃ zs:List Rr,Dv w w3 g a n cap lv zs wr∧zs.length<=501∧i<zs.length∧Hid (zs[i]? =some x∧∀ r∈zs,r∈xs)) (fun lv _=>600-slLenW lv)
  case atStart=>exact⟨xs,D6,by omega,hil,HX.out,hxm⟩
  case round=>
   clear D6 hxm;obtain⟨zs,D,hzl,hiz,HZ⟩:=hrel;obtain⟨la',lc',rfl⟩:=own_sl D.r
   obtain⟨b',rfl⟩:∃ b',la'=some ⟨b',0,none⟩:=by
    rcases D.r.2 with⟨e,h0⟩|⟨g1,c1,cur,e,_⟩
    ·omega
    ·simp only [Value.slice.injEq] at e;exact⟨g1,e.1⟩
   go_wp2_with fail
   refine(l01Next_any g a n cap 2 _ D.d.s (by decide)).mono ?_;rintro e w7 ⟨r,rfl,hr0,hr1,hs7,hg7⟩;have hr2:=hr1 (by decide);have D7:=D.step hs7 hg7;have hw5:IntKind.i64.wrap (500+r)=500+r:=Go.wrap_small _ (by omega) (by omega);clear D hs7 hg7 hr1
   by_cases hlt:(zs.length:Int)<500+r
   ·by_cases h3:n % 3=0
    ·have h3':(((n % 3:Nat):Int)==0)=true:=by rw [h3];rfl
     have hc:∀ j,j<5->w7.cell? ⟨b',i*5+j,none⟩=(rvV x)[j]? :=fun j hj=>(D7.r.cellAt (i*5+j) (by omega)).trans (rvVs_at zs i j x HZ.out.1 hj)
     have c0:w7.cell? ⟨b',i*5,none⟩=some (.string x.own):=(hc 0 (by decide)).trans rfl;have c1:w7.cell? ⟨b',i*5+1,none⟩=some (.int .i64 x.ty):=(hc 1 (by decide)).trans rfl;have c2:w7.cell? ⟨b',i*5+2,none⟩=some (.int .i64 x.cl):=(hc 2 (by decide)).trans rfl;have c3:w7.cell? ⟨b',i*5+3,none⟩=some (.int .i64 x.tt):=(hc 3 (by decide)).trans rfl;have c4:w7.cell? ⟨b',i*5+4,none⟩=some (.string x.da):=(hc 4 (by decide)).trans rfl;have i2:(i:Int)<(zs.length:Int):=by omega
     clear hc h3;have hsz:=(D7).d.size;have hrA:=(D7).r.alloc (.cells #[.string x.own,.int .i64 x.ty,.int .i64 x.cl,.int .i64 x.tt,.string x.da] 33);go_wp2_with (at_builtin;refine wpList_append_own _ rfl (.tmp 136) (.tmp 141) 23 rfl w3.heap.size 33 i0 _ 5 56 Tryz.underlying23 hi hz0 hz1 hz2 rfl (by decide) _ _ _ rfl hrA ⟨w7.heap.size,0,none⟩ 1 1 [.string x.own,.int .i64 x.ty,.int .i64 x.cl,.int .i64 x.tt,.string x.da] rfl rfl (cell_newV w7 #[.string x.own,.int .i64 x.ty,.int .i64 x.cl,.int .i64 x.tt,.string x.da] 33) (by intro u hu;simp at hu;rcases hu with rfl|rfl|rfl|rfl|rfl<;>rfl) (by unfold maxLen;omega) (by omega) (by simp;omega) ?_)
     intro v9 w9 hown9 hgrow9 _;have D9:=((D7).below ((Below.refl _ _).alloc (Nat.le_refl _) (.cells #[.string x.own,.int .i64 x.ty,.int .i64 x.cl,.int .i64 x.tt,.string x.da] 33))).app (y:=⟨x.own,x.ty,x.cl,x.tt,x.da⟩) hown9 hgrow9 hzx;obtain⟨va9,vc9,rfl⟩:=own_sl hown9;clear hown9 hgrow9 hrA hsz;have hl9:(zs++[(⟨x.own,x.ty,x.cl,x.tt,x.da⟩:Rr)]).length=zs.length+1:=by simp
     have HR:Hid ((zs++[(⟨x.own,x.ty,x.cl,x.tt,x.da⟩:Rr)])[i]? =some x∧∀ r∈zs++[(⟨x.own,x.ty,x.cl,x.tt,x.da⟩:Rr)],r∈xs):=by
      refine⟨by rw [List.getElem?_append_left hiz];exact HZ.out.1,fun r hr=>?_⟩
      rcases List.mem_append.1 hr with hr|hr
      ·exact HZ.out.2 r hr
      ·rw [List.mem_singleton.1 hr];exact List.mem_of_getElem? HX.out
     have HD9:=Nm.hide D9;clear D9 D7 c0 c1 c2 c3 c4;go_wp2;go_roundw
     case rel=>exact⟨_,HD9.out,by omega,by omega,HR⟩
     case measure=>simp [slLenW];omega
    ·have h3':(((n % 3:Nat):Int)==0)=false:=by rw [beq_eq_false_iff_ne];omega
     have HE:=Nm.hide D7;clear D7 h3;go_wp2;go_ret2;exact HE.out.end2 (ap:=ap) HBW.out HGW.out (by omega) (by omega) (by omega) HZ.out.2 (by omega)
   ·have HE:=Nm.hide D7;clear D7;go_wp2;go_ret2;exact HE.out.end2 (ap:=ap) HBW.out HGW.out (by omega) (by omega) (by omega) HZ.out.2 (by omega)
 ·have n0:(q==0)=false:=by rw [beq_eq_false_iff_ne];exact p0
  have n1:(q==1)=false:=by rw [beq_eq_false_iff_ne];exact p1
  have n2:(q==2)=false:=by rw [beq_eq_false_iff_ne];exact p2
  have n3:(q==3)=false:=by rw [beq_eq_false_iff_ne];exact p3
  have n4:(q==4)=false:=by rw [beq_eq_false_iff_ne];exact p4
  have n5:(q==5)=false:=by rw [beq_eq_false_iff_ne];exact p5
  have n6:(q==6)=false:=by rw [beq_eq_false_iff_ne];exact p6
  have n7:(q==7)=false:=by rw [beq_eq_false_iff_ne];exact p7
  have n8:(q==8)=false:=by rw [beq_eq_false_iff_ne];exact p8
  have n9:(q==9)=false:=by rw [beq_eq_false_iff_ne];exact p9
  have n10:(q==10)=false:=by rw [beq_eq_false_iff_ne];exact p10
  have n11:(q==11)=false:=by rw [beq_eq_false_iff_ne];exact p11
  have n12:(q==12)=false:=by rw [beq_eq_false_iff_ne];exact p12
  clear p0 p1 p2 p3 p4 p5 p6 p7 p8 p9 p10 p11 p12 hf c0 c1 c2 c3 c4;have HE:=Nm.hide D6;go_wp2;go_ret2;exact HE.out.end_ (ap:=ap) HBW.out HGW.out (by first|omega|(simp;done)|(simp;omega)) (by first|omega|(simp;done)|(simp;omega)) (by first|omega|decide)
end Go.Proofs.YtmdinnjimioffaaGreat
