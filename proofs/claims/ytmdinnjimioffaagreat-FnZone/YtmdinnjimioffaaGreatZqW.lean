import Derived.Test.YtmdinnjimioffaaGreatJZpM
import Derived.Test.YtmdinnjimioffaaGreatJZqR
import Derived.Test.YtmdinnjimioffaaGreatDwV
import Derived.Test.YtmdinnjimioffaaGreatJCzE
import Derived.Test.YtmdinnjimioffaaGreatJTrE
import Derived.Test.YtmdinnjimioffaaGreatJOrdL
namespace Go.Proofs.YtmdinnjimioffaaGreat
open Go.RowKit
set_option linter.unusedVariables false
structure Zk (o:ByteArray) (b:Nat) (v:Value) (ps:List Zp) (W:World):Prop where
 k:Blk W b #[.string o,v] 28
 z:ZRow W v ps
theorem Zk.below{o:ByteArray}{b:Nat}{v:Value}{ps:List Zp}{W W1:World}(h:Zk o b v ps W)(hb:Below W.heap.size W W1):Zk o b v ps W1:=⟨blk_below h.k hb,h.z.below hb⟩
theorem Zk.new{o:ByteArray}{v:Value}{ps:List Zp}{W:World}(h:ZRow W v ps):Zk o W.heap.size v ps (W.alloc (.cells #[.string o,v] 28)):=⟨blk_new W _ _,h.below ((Below.refl _ _).alloc (Nat.le_refl _) _)⟩
theorem zrow_val{W:World}{v:Value}{ps:List Zp}(h:ZRow W v ps):∃ a c,v=.slice a ps.length c:=by
 obtain⟨⟨_,a,c,e,_⟩,_⟩:=h;exact⟨a,c,e⟩
structure Zl (w:World) (ap:ByteArray) (b1 b2 b3 b4 b5:Nat) (v1 v2 v3 v4 v5:Value) (p1 p2 p3 p4 p5:List Zp) (W:World):Prop where
 b:Below w.heap.size w W
 a:Zk ap b1 v1 p1 W
 z:Zk ap b2 v2 p2 W
 y:Zk ap b3 v3 p3 W
 x:Zk ap b4 v4 p4 W
 g:Zk ap b5 v5 p5 W
theorem Zl.below{w:World}{ap:ByteArray}{b1 b2 b3 b4 b5:Nat}{v1 v2 v3 v4 v5:Value}{p1 p2 p3 p4 p5:List Zp}{W W1:World}(h:Zl w ap b1 b2 b3 b4 b5 v1 v2 v3 v4 v5 p1 p2 p3 p4 p5 W)(hb:Below W.heap.size W W1):Zl w ap b1 b2 b3 b4 b5 v1 v2 v3 v4 v5 p1 p2 p3 p4 p5 W1:=
 ⟨Nm.below_two h.b hb,h.a.below hb,h.z.below hb,h.y.below hb,h.x.below hb,h.g.below hb⟩
def ZlS(b1 b2 b3 b4 b5:Nat)(ap:ByteArray)(v1 v2 v3 v4 v5:Value)(X:World):Prop:=
 X.cell? ⟨b1,0,none⟩=some (.string ap)∧X.cell? ⟨b1,1,none⟩=some v1∧X.cell? ⟨b2,0,none⟩=some (.string ap)∧X.cell? ⟨b2,1,none⟩=some v2∧X.cell? ⟨b3,0,none⟩=some (.string ap)∧X.cell? ⟨b3,1,none⟩=some v3∧X.cell? ⟨b4,0,none⟩=some (.string ap)∧X.cell? ⟨b4,1,none⟩=some v4∧X.cell? ⟨b5,0,none⟩=some (.string ap)∧X.cell? ⟨b5,1,none⟩=some v5
theorem Zl.s{w:World}{ap:ByteArray}{b1 b2 b3 b4 b5:Nat}{v1 v2 v3 v4 v5:Value}{p1 p2 p3 p4 p5:List Zp}{W:World}(h:Zl w ap b1 b2 b3 b4 b5 v1 v2 v3 v4 v5 p1 p2 p3 p4 p5 W):ZlS b1 b2 b3 b4 b5 ap v1 v2 v3 v4 v5 W:=
 ⟨(blk_cell h.a.k 0).trans rfl,(blk_cell h.a.k 1).trans rfl,(blk_cell h.z.k 0).trans rfl,(blk_cell h.z.k 1).trans rfl,(blk_cell h.y.k 0).trans rfl,(blk_cell h.y.k 1).trans rfl,(blk_cell h.x.k 0).trans rfl,(blk_cell h.x.k 1).trans rfl,(blk_cell h.g.k 0).trans rfl,(blk_cell h.g.k 1).trans rfl⟩
set_option maxRecDepth 100000 in
set_option maxHeartbeats 12800000 in
theorem fnZone_any(a:Option Addr)(n cap:Nat)(w:World)(hn:n<=maxLen)(HD:n<=1048576->Calls Tryz.prog 4 #[.slice a n cap] w (DbP w)):
 Calls Tryz.prog 3 #[.slice a n cap] w fun e w'=>e=.returned (.bool true)∧Below w.heap.size w w':=by
 obtain⟨i0,hi,hz0,hz1,hz2⟩:=info_parts Tryz.infoRRc;unfold maxLen at hn
 by_cases hl:1048576<n
 ·have hl':(1048576:Int)<(n:Int):=by omega
  clear HD;go_enter Tryz.func3,Tryz.ntmps3;go_wp2;go_ret;exact⟨rfl,Below.refl _ _⟩
 have hl':¬(1048576:Int)<(n:Int):=by omega
 have hd:=HD (by omega);clear HD hl;go_enter Tryz.func3,Tryz.ntmps3;go_wp2_with fail
 refine hd.mono ?_;rintro e w1 ⟨v,xs,ap,rfl,hc,h0,hlen,hz,⟨ys,hyl,hym⟩,ha,bw1⟩
 obtain⟨b,off,vc,rfl⟩:∃ b off vc,v=.slice (some ⟨b,off,none⟩) xs.length vc:=by
  obtain⟨_,a,c,e,_,_,h3⟩:=hc;obtain⟨b,off,rfl,_⟩:=h3 h0;exact⟨b,off,c,e⟩
 have HR:Hid (∀ W,Below w1.heap.size w1 W->CRow W (.slice (some ⟨b,off,none⟩) xs.length vc) xs.length 5 (rvVs xs)):=fun W hW=>hc.below hW
 have HC:Hid (∀ W,Below w1.heap.size w1 W->∀ (j:Nat) (u:Value),(rvVs xs)[j]? =some u->W.cell? ⟨b,off+j,none⟩=some u):=fun W hW j u hu=>by
  obtain⟨_,a,c,e,_,_,h3⟩:=hc.below hW;simp only [Value.slice.injEq] at e;obtain⟨rfl,-,rfl⟩:=e;obtain⟨b',off',e2,h4⟩:=h3 h0;simp only [Option.some.injEq,Addr.mk.injEq] at e2;obtain⟨rfl,rfl,-⟩:=e2;exact h4 j u hu
 have HIM:Hid (∀ (u:Value) (L:List Rr) W,CRow W u L.length 5 (rvVs L)->(∀ r∈L,r.own.size<=4000∧r.da.size<=4000)->Calls Tryz.prog 6 #[u,.string ap] W (BzPost L ap W)):=fun u L W hu hL=>implBuildZone_any u L ap W hu (by omega) (fun r hr=>⟨by have:=(hL r hr).1;omega,by have:=(hL r hr).2;omega⟩)
 have hsp:=specBuildZone_any (.slice (some ⟨b,off,none⟩) xs.length vc) xs ap w1 (HR.out w1 (Below.refl _ _)) (by omega) (by unfold maxLen;omega) (fun r hr=>by have:=(hz r hr).1;unfold maxLen;omega);have HZ:=Nm.hide hz;have HY:=Nm.hide hym;have HP:Hid (∀ L:List Rr,L.Perm xs->∀ r∈L,r.own.size<=4000∧r.da.size<=4000):=fun L hL r hr=>hz r (hL.mem_iff.1 hr)
 obtain⟨C,HCd⟩:∃ C,Hid (C=(bldE xs ap).1):=⟨_,rfl⟩;obtain⟨I,HId⟩:∃ I,Hid (I=(bldE xs ap).2):=⟨_,rfl⟩;clear hd hc hz hym;go_wp2_with fail
 refine hsp.mono ?_;rintro e w2 hb;obtain⟨b2,o1,v1,p1,rfl,hz1r,hg1,hq1⟩:=bz_two hb;rw [<- HCd.out] at hg1 hq1 ⊢;rw [<- HId.out];obtain⟨va1,vc1,rfl⟩:=zrow_val hz1r;have Z1:=Zk.new (o:=o1) hz1r;have bA:=(Below.refl w2.heap.size w2).alloc (Nat.le_refl _) (.cells #[.string o1,.slice va1 p1.length vc1] 28);have b2A:=Nm.below_two b2 bA;have HG1:=Nm.hide (And.intro hg1 hq1);have b2B:=b2A.alloc b2A.size (.cells #[] 33);have o0:=World.ownsRow_lit (base:=w2.heap.size+1) (e:=33) (size:=5) (w2.alloc (.cells #[.string o1,.slice va1 p1.length vc1] 28)) #[] 0 (by simp) (by decide) rfl;rw [World.size_alloc] at o0;have hcc:=fun j u hu=>HC.out _ b2B j u hu
 have hones:∀ u∈rvVs xs,u.oneCell'=true:=fun u hu=>by
  rw [rvVs,List.mem_flatMap] at hu;obtain⟨r,_,hr⟩:=hu;simp [rvV] at hr
  rcases hr with rfl|rfl|rfl|rfl|rfl<;>rfl
 clear hsp hb hz1r hg1 hq1 b2 bA;go_wp2_with (at_builtin;refine wpList_append_own _ rfl (.tmp 40) (.tmp 41) 23 rfl (w2.heap.size+1) 33 i0 _ 5 56 Tryz.underlying23 hi hz0 hz1 hz2 rfl (by decide) _ _ _ rfl o0 ⟨b,off,none⟩ xs.length vc (rvVs xs) rfl (rvVs_len xs) (fun j u hu=>by rw [Nm.addr_add];exact hcc j u hu) hones (by unfold maxLen;omega) (by omega) (by simp) ?_)
 intro v3 w3 hown3 hgrow3 _;have b3:=b2B.grown hgrow3 b2B.size (fun k hk=>by simp [Value.ownBlock] at hk;have:=b2A.size;simp at this;omega);have bq:Below (w2.alloc (.cells #[.string o1,.slice va1 p1.length vc1] 28)).heap.size (w2.alloc (.cells #[.string o1,.slice va1 p1.length vc1] 28)) w3:=((Below.refl _ _).alloc (Nat.le_refl _) (.cells #[] 33)).grown hgrow3 (by simp) (fun k hk=>by simp [Value.ownBlock] at hk;simp;omega);have Z3:=Z1.below bq
 try rw [Nat.zero_add] at hown3
 try rw [List.nil_append] at hown3
 obtain⟨ca,cc,rfl⟩:=own_sl hown3;have him:=HIM.out _ xs w3 (CRow.of_owns hown3) HZ.out;clear hown3 hgrow3 bq b2A b2B Z1 o0 hcc;go_wp2_with fail
 refine him.mono ?_;rintro e w4 hb;obtain⟨b4,o2,v2,p2,rfl,hz2r,hg2,hq2⟩:=bz_two hb;rw [<- HCd.out] at hg2 hq2 ⊢;rw [<- HId.out];obtain⟨va2,vc2,rfl⟩:=zrow_val hz2r
 have hso:o2=o1:=by
  by_cases hC:C=0
  ·rw [(hg2 hC).1,(HG1.out.1 hC).1]
  ·rw [(hq2 hC).1,(HG1.out.2 hC).1]
 have hsm:p1.map (·.1)=p2.map (·.1):=by
  by_cases hC:C=0
  ·rw [(hg2 hC).2,(HG1.out.1 hC).2]
  ·rw [(hq2 hC).2,(HG1.out.2 hC).2]
 subst hso;have bA:=(Below.refl w4.heap.size w4).alloc (Nat.le_refl _) (.cells #[.string o2,.slice va2 p2.length vc2] 28);have Z2:=Zk.new (o:=o2) hz2r;have Z4:=(Z3.below b4).below bA;have b5:=Nm.below_two (Nm.below_two b3 b4) bA;have hlz:=lwZone_any o2 _ _ p2 p1 _ Z2.z Z4.z hsm;have HM:=Nm.hide hsm;have HG2:=Nm.hide hg2;have rz1:=fun i=>blk_cell Z4.k i
 have rz2:=fun i=>blk_cell Z2.k i
 have dC:(C != C)=false:=by simp
 have dI:(I != I)=false:=by simp
 generalize w2.heap.size=nb1 at*;clear him hb hz2r hg2 hq2 b4 bA b3 Z3 hsm;go_wp2_with fail
 refine hlz.mono ?_;rintro e w6 ⟨rfl,b6⟩;have S1:=Z4.below b6;have S2:=Z2.below b6;have bw6:=Nm.below_two b5 b6;generalize w4.heap.size=nb2 at*;have bL:=(Below.refl w6.heap.size w6).alloc (Nat.le_refl _) (.cells #[] 33);have oL:=World.ownsRow_lit (base:=w6.heap.size) (e:=33) (size:=5) w6 #[] 0 (Nat.le_refl _) (by decide) rfl;have hwl:IntKind.i64.wrap ((xs.length:Int)-1)=(xs.length:Int)-1:=Go.wrap_small _ (by omega) (by omega);clear hlz rz1 rz2 Z4 Z2 b5 b6 dC dI;go_wp2_with fail
 go_loopw [11,12] (fun ov iv wr=>∃ (j m:Nat) (l:List Rr),j<=xs.length∧iv=.int .i64 ((j:Int)-1)∧Hid (l=(xs.drop j).reverse∧l.length=m)∧m+j<=xs.length∧wr.ownsRow w6.heap.size 33 5 ov m (rvVs l)∧Below w6.heap.size w6 wr) (fun _ iv _=>(intOf iv+1).toNat)
 case atStart=>exact⟨xs.length,0,[],Nat.le_refl _,rfl,⟨by simp,rfl⟩,by omega,oL,bL⟩
 case round=>
  clear oL bL hwl;obtain⟨j,m,l,hj,rfl,HL,hm,hown,hb⟩:=hrel
  by_cases hj0:0<j
  ·obtain⟨i,rfl⟩:∃ i,j=i+1:=⟨j-1,by omega⟩;have e1:((i+1:Nat):Int)-1=(i:Int):=by omega
   rw [e1];obtain⟨x,hx⟩:∃ x,xs[i]? =some x:=⟨_,List.getElem?_eq_getElem (by omega)⟩;have hST:(xs.drop i).reverse=l++[x]:=by rw [HL.out.1];exact rev_step hx
   have HST:Hid (l++[x]=(xs.drop i).reverse∧(l++[x]).length=m+1):=⟨hST.symm,by rw [List.length_append,HL.out.2];rfl⟩;obtain⟨c0,c1,c2,c3,c4⟩:=rv_cells (HC.out wr (Nm.below_two bw6 hb)) hx;obtain⟨oa,cp,rfl⟩:=own_sl hown;have j1:(0:Int)<=(i:Int):=by omega
   have j2:(i:Int)<(xs.length:Int):=by omega
   have hszr:=hb.size;clear hx HL e1 hj0 hST;obtain⟨ow,ty,cl,tt,da⟩:=x;simp only at c0 c1 c2 c3 c4
   go_wp2_with (at_builtin;refine wpList_append_own _ rfl (.tmp 70) (.tmp 75) 23 rfl w6.heap.size 33 i0 _ 5 56 Tryz.underlying23 hi hz0 hz1 hz2 rfl (by decide) _ _ _ rfl (hown.alloc _) ⟨wr.heap.size,0,none⟩ 1 1 [.string ow,.int .i64 ty,.int .i64 cl,.int .i64 tt,.string da] rfl rfl (cell_newV wr #[.string ow,.int .i64 ty,.int .i64 cl,.int .i64 tt,.string da] 33) (by intro u hu;simp at hu;rcases hu with rfl|rfl|rfl|rfl|rfl<;>rfl) (by unfold maxLen;omega) (by omega) (by simp;omega) ?_)
   intro v7 w7 hown7 hgrow7 _;have hb7:Below w6.heap.size w6 w7:=(hb.alloc hszr _).grown hgrow7 (by simp;omega) (fun k hk=>(hown.lt k hk).1);clear hgrow7 hown hb;go_wp2;go_roundw
   case rel=>exact⟨i,m+1,_,by omega,rfl,HST,by omega,by rw [rvVs_app];exact hown7,hb7⟩
   case measure=>simp [intOf]
  ·obtain rfl:j=0:=by omega
   have e1:((0:Nat):Int)-1= -1:=rfl;rw [e1];obtain⟨oa,oc,rfl⟩:=own_sl hown;have hlw:l=xs.reverse:=by rw [HL.out.1];simp
   subst hlw;have hml:m=xs.length:=by have:=HL.out.2;simp at this;omega
   subst hml;obtain⟨wo,rfl⟩:∃ x,x=wr:=⟨_,rfl⟩;have T1:=S1.below hb;have T2:=S2.below hb;have bwr:=Nm.below_two bw6 hb;have rv:=hown;clear HL hown hb S1 S2 bw6 e1 hj hj0 hm;have bL:=(Below.refl wo.heap.size wo).alloc (Nat.le_refl _) (.cells #[] 33);have oL:=World.ownsRow_lit (base:=wo.heap.size) (e:=33) (size:=5) wo #[] 0 (Nat.le_refl _) (by decide) rfl;obtain⟨H,HH⟩:∃ H:Nat,Hid (H=xs.length / 2):=⟨_,rfl⟩;have hq2:(xs.length:Int).tdiv 2=(H:Int):=by rw [HH.out,Int.tdiv_eq_ediv_of_nonneg (by omega)];rfl
   have hHl:H<=xs.length:=by have:=HH.out;omega
   have hn0:((xs.length:Int)==0)=false:=by rw [beq_eq_false_iff_ne];omega
   have hn1:¬(xs.length:Int)=0:=by omega
   go_wp2_with fail
   go_loopw [13,14] (fun ov iv wr=>∃ (j m:Nat) (l:List Rr),j<=xs.length∧iv=.int .i64 (j:Int)∧Hid (l=(rotL xs).take j∧l.length=m)∧m<=700∧wr.ownsRow wo.heap.size 33 5 ov m (rvVs l)∧Below wo.heap.size wo wr) (fun _ iv _=>xs.length-(intOf iv).toNat)
   case atStart=>exact⟨0,0,[],Nat.zero_le _,rfl,⟨by simp,rfl⟩,by omega,oL,bL⟩
   case round=>
    clear oL bL;obtain⟨j,m,l,hj,rfl,HL,hm,hown,hb⟩:=hrel
    by_cases hjl:j<xs.length
    ·obtain⟨K,HK⟩:∃ K:Nat,Hid (K=(j+xs.length / 2) % xs.length):=⟨_,rfl⟩;have hKl:K<xs.length:=by rw [HK.out];exact Nat.mod_lt _ h0
     obtain⟨x,hx⟩:∃ x,xs[K]? =some x:=⟨_,List.getElem?_eq_getElem hKl⟩;have hrt:(rotL xs)[j]? =some x:=by rw [rot_at hjl,<- HK.out];exact hx
     have hST:(rotL xs).take (j+1)=l++[x]:=by rw [HL.out.1,List.take_add_one,hrt];rfl
     have hlm:=HL.out.2;have hjm:m=j:=by rw [<- hlm,HL.out.1,List.length_take,rot_len];omega
     have HST:Hid (l++[x]=(rotL xs).take (j+1)∧(l++[x]).length=m+1):=⟨hST.symm,by rw [List.length_append,hlm];rfl⟩;obtain⟨S,HS⟩:∃ S:Nat,Hid (S=j+H):=⟨_,rfl⟩;have hw1:IntKind.i64.wrap ((j:Int)+(H:Int))=(S:Int):=by rw [Go.wrap_small _ (by omega) (by omega),HS.out];omega
     have hrm:(S:Int).tmod (xs.length:Int)=(K:Int):=by rw [Int.tmod_eq_emod_of_nonneg (by omega),HK.out,HS.out,HH.out];rfl
     obtain⟨c0,c1,c2,c3,c4⟩:=rv_cells (HC.out wr (Nm.below_two bwr hb)) hx;obtain⟨oa8,cp8,rfl⟩:=own_sl hown;have j1:(0:Int)<=(K:Int):=by omega
     have j2:(K:Int)<(xs.length:Int):=by omega
     have j3:(j:Int)<(xs.length:Int):=by omega
     have hszr:=hb.size;clear hx HL hST hlm hjm hrt;obtain⟨ow,ty,cl,tt,da⟩:=x;simp only at c0 c1 c2 c3 c4
     go_wp2_with (at_builtin;refine wpList_append_own _ rfl (.tmp 84) (.tmp 96) 23 rfl wo.heap.size 33 i0 _ 5 56 Tryz.underlying23 hi hz0 hz1 hz2 rfl (by decide) _ _ _ rfl (hown.alloc _) ⟨wr.heap.size,0,none⟩ 1 1 [.string ow,.int .i64 ty,.int .i64 cl,.int .i64 tt,.string da] rfl rfl (cell_newV wr #[.string ow,.int .i64 ty,.int .i64 cl,.int .i64 tt,.string da] 33) (by intro u hu;simp at hu;rcases hu with rfl|rfl|rfl|rfl|rfl<;>rfl) (by unfold maxLen;omega) (by omega) (by simp;omega) ?_)
     intro v7 w7 hown7 hgrow7 _;have hb7:Below wo.heap.size wo w7:=(hb.alloc hszr _).grown hgrow7 (by simp;omega) (fun k hk=>(hown.lt k hk).1);clear hgrow7 hown hb hw1 hrm;go_wp2;go_roundw
     case rel=>exact⟨j+1,m+1,_,by omega,by go_num,HST,by have:=HST.out.2;rw [HST.out.1,List.length_take,rot_len] at this;omega,by rw [rvVs_app];exact hown7,hb7⟩
     case measure=>simp [intOf];omega
    ·have hjx:j=xs.length:=by omega
     subst hjx;have hlr:l=rotL xs:=by rw [HL.out.1,List.take_of_length_le (by rw [rot_len];exact Nat.le_refl _)]
     subst hlr;have hml:m=xs.length:=by have:=HL.out.2;rw [rot_len] at this;omega
     subst hml;obtain⟨oa9,oc9,rfl⟩:=own_sl hown;have U1:=T1.below hb;have U2:=T2.below hb;have bw9:=Nm.below_two (Nm.below_two bw1 bwr) hb;have him3:=HIM.out (.slice oa xs.length oc) xs.reverse wr (by rw [List.length_reverse];exact CRow.of_owns (own_below rv hb)) (HP.out _ (List.reverse_perm xs));have him4:=Nm.hide (fun W (hW:Below wr.heap.size wr W)=>HIM.out (.slice oa9 xs.length oc9) (rotL xs) W (by rw [rot_len];exact(CRow.of_owns hown).below hW) (HP.out _ (rot_perm xs)));have hC3:(bldE xs.reverse ap).1=0↔C=0:=by rw [HCd.out];exact bldE_perm (List.reverse_perm xs)
     have hC4:(bldE (rotL xs) ap).1=0↔C=0:=by rw [HCd.out];exact bldE_perm (rot_perm xs)
     have HC34:=Nm.hide (And.intro hC3 hC4);clear T1 T2 bwr rv hown hb HL hjl hm hj hq2 hn0 hn1 hHl HH hC3 hC4;go_wp2_with fail
     refine him3.mono ?_;rintro e w10 hb3;obtain⟨b10,o3,v3,p3,rfl,hz3r,hg3,hq3⟩:=bz_two hb3;obtain⟨va3,vc3,rfl⟩:=zrow_val hz3r;have bA:=(Below.refl w10.heap.size w10).alloc (Nat.le_refl _) (.cells #[.string o3,.slice va3 p3.length vc3] 28);have Y3:=Zk.new (o:=o3) hz3r;have V1:=(U1.below b10).below bA;have V2:=(U2.below b10).below bA;have bwA:=Nm.below_two (Nm.below_two bw9 b10) bA;have him5:=him4.out _ (Nm.below_two b10 bA);have HG3:=Nm.hide hg3;obtain⟨C3,HC3⟩:∃ c,Hid (c=(bldE xs.reverse ap).1):=⟨_,rfl⟩;obtain⟨I3,HI3⟩:∃ c,Hid (c=(bldE xs.reverse ap).2):=⟨_,rfl⟩;rw [<- HC3.out,<- HI3.out];clear him3 him4 hb3 b10 hz3r hg3 hq3 U1 U2 bA bw9;go_wp2_with fail
     refine him5.mono ?_;rintro e w11 hb4;obtain⟨b11,o4,v4,p4,rfl,hz4r,hg4,hq4⟩:=bz_two hb4;obtain⟨va4,vc4,rfl⟩:=zrow_val hz4r;have bB:=(Below.refl w11.heap.size w11).alloc (Nat.le_refl _) (.cells #[.string o4,.slice va4 p4.length vc4] 28);have X4:=Zk.new (o:=o4) hz4r;have Y4:=(Y3.below b11).below bB;have V3:=(V1.below b11).below bB;have V4:=(V2.below b11).below bB;have bwB:=Nm.below_two (Nm.below_two bwA b11) bB;have HG4:=Nm.hide hg4;obtain⟨C4,HC4⟩:∃ c,Hid (c=(bldE (rotL xs) ap).1):=⟨_,rfl⟩;obtain⟨I4,HI4⟩:∃ c,Hid (c=(bldE (rotL xs) ap).2):=⟨_,rfl⟩;rw [<- HC4.out,<- HI4.out];clear him5 hb4 b11 hz4r hg4 hq4 Y3 V1 V2 bwA bB;generalize w10.heap.size=nb3 at*
     by_cases hC:C=0
     ·subst hC;have hE:(bldE xs ap).1=0:=HCd.out.symm;have hE3:(bldE xs.reverse ap).1=0:=HC34.out.1.2 rfl;have hE4:(bldE (rotL xs) ap).1=0:=HC34.out.2.2 rfl;obtain rfl:C3=0:=HC3.out.trans hE3;obtain rfl:C4=0:=HC4.out.trans hE4;have q1:ap=o2:=((HG1.out.1 rfl).1).symm;subst q1;have q3:ap=o3:=((HG3.out hE3).1).symm;subst q3;have q4:ap=o4:=((HG4.out hE4).1).symm;subst q4;have hp1:=(HG1.out.1 rfl).2;have hp2:=(HG2.out rfl).2;have hp3:=(HG3.out hE3).2;have hp4:=(HG4.out hE4).2;have f1:=zone_fit hE hp1 HY.out hyl HZ.out;have f2:=zone_fit hE hp2 HY.out hyl HZ.out;have f3:=zone_fit hE3 hp3 (fun r hr=>HY.out r ((List.reverse_perm xs).mem_iff.1 hr)) hyl (HP.out _ (List.reverse_perm xs));have f4:=zone_fit hE4 hp4 (fun r hr=>HY.out r ((rot_perm xs).mem_iff.1 hr)) hyl (HP.out _ (rot_perm xs));have k1:=bldZ_zOK hE hp1;have k2:=bldZ_zOK hE hp2;have k3:=bldZ_zOK hE3 hp3;have k4:=bldZ_zOK hE4 hp4;have g3:=recL_perm hE (List.reverse_perm xs);have g4:=recL_perm hE (rot_perm xs);have hE5:=bldE_zero (recL_ok hE);have hag:=recL_again hE;have hrz:=recL_sz hE HZ.out;have hrz3:=recL_sz hE3 (HP.out _ (List.reverse_perm xs));have hrz4:=recL_sz hE4 (HP.out _ (rot_perm xs));have hrl:(recL xs).length<=1000000:=by have:=recL_few hE HY.out;omega
      have hzr:=implZoneRecords_any ap _ p2 _ V4.z f2.1 (fun p hp=>(f2.2.2 p hp).2);rw [k2.1] at hzr;have HCP:=Nm.hide (And.intro hp1 (And.intro hp2 (And.intro hp3 hp4)));have HFT:=Nm.hide (And.intro f1 (And.intro f2 (And.intro f3 f4)));have HKZ:=Nm.hide (And.intro k1 (And.intro k2 (And.intro k3 k4)));have HGG:=Nm.hide (And.intro g3 g4);have HRZ:=Nm.hide (And.intro hrz (And.intro hrz3 hrz4));have HE5:=Nm.hide (And.intro hE5 hag);have rz2:=fun i=>blk_cell V4.k i
      clear hE hE3 hE4 hp1 hp2 hp3 hp4 f1 f2 f3 f4 k1 k2 k3 k4 g3 g4 hE5 hag hrz hrz3 hrz4 HG1 HG2 HG3 HG4 HC34 HC3 HC4 HCd;go_wp2_with fail
      refine hzr.mono ?_;rintro e w12 ⟨u,rfl,hou,b12⟩;obtain⟨ua,uc,rfl⟩:=own_sl hou;have him6:=HIM.out _ (recL xs) w12 (CRow.of_owns hou) HRZ.out.1;clear hzr hou rz2;go_wp2_with fail
      refine him6.mono ?_;rintro e w13 hb5;obtain⟨b13,o5,v5,p5,rfl,hz5r,hg5,hq5⟩:=bz_two hb5;rw [HE5.out.1] at hg5 hq5 ⊢;obtain⟨q5,hp5⟩:=hg5 rfl;have q5':=q5.symm;subst q5';rw [HE5.out.2] at hp5;obtain⟨va5,vc5,rfl⟩:=zrow_val hz5r;have bC:=(Below.refl w13.heap.size w13).alloc (Nat.le_refl _) (.cells #[.string ap,.slice va5 p5.length vc5] 28);have bD:=Nm.below_two b12 (Nm.below_two b13 bC);have SL:Zl w ap nb1 nb2 nb3 w11.heap.size w13.heap.size _ _ _ _ _ p1 p2 p3 p4 p5 (w13.alloc (.cells #[.string ap,.slice va5 p5.length vc5] 28)):=⟨Nm.below_two bwB bD,V3.below bD,V4.below bD,Y4.below bD,X4.below bD,Zk.new hz5r⟩;clear him6 hb5 b13 hz5r hg5 hq5 q5 bC bD b12 V3 V4 Y4 X4 bwB;obtain⟨LF,HLF⟩:∃ LF,Hid (LF=(recL xs).map foldRr):=⟨_,rfl⟩;have hLF:LF.length<=1000000:=by rw [HLF.out,List.length_map];exact hrl
      have T5:p1.map (·.1)=p5.map (·.1):=by rw [HCP.out.1,hp5]
      have CLZ:Hid (∀ W,Zl w ap nb1 nb2 nb3 w11.heap.size w13.heap.size (.slice va1 p1.length vc1) (.slice va2 p2.length vc2) (.slice va3 p3.length vc3) (.slice va4 p4.length vc4) (.slice va5 p5.length vc5) p1 p2 p3 p4 p5 W->Calls Tryz.prog 7 #[.agg #[.string ap,.slice va5 p5.length vc5],.agg #[.string ap,.slice va1 p1.length vc1]] W fun e w'=>e=.returned (.bool true)∧Below W.heap.size W w'):=fun W SL=>lwZone_any ap _ _ p5 p1 W SL.g.z SL.a.z T5
      have CCK:Hid (∀ W,Zl w ap nb1 nb2 nb3 w11.heap.size w13.heap.size (.slice va1 p1.length vc1) (.slice va2 p2.length vc2) (.slice va3 p3.length vc3) (.slice va4 p4.length vc4) (.slice va5 p5.length vc5) p1 p2 p3 p4 p5 W->Calls Tryz.prog 9 #[.agg #[.string ap,.slice va2 p2.length vc2]] W fun e w'=>e=.returned (.int .i64 0)∧Below W.heap.size W w'):=fun W SL=>by
       have h:=implCheckZone_any ap _ p2 W SL.z.z HFT.out.2.1.1 HFT.out.2.1.2.2 (by omega);rw [HKZ.out.2.1.2] at h;exact h
      have CF1:Hid (∀ W,Zl w ap nb1 nb2 nb3 w11.heap.size w13.heap.size (.slice va1 p1.length vc1) (.slice va2 p2.length vc2) (.slice va3 p3.length vc3) (.slice va4 p4.length vc4) (.slice va5 p5.length vc5) p1 p2 p3 p4 p5 W->Calls Tryz.prog 11 #[.agg #[.string ap,.slice va1 p1.length vc1]] W fun e w'=>∃ u,e=.returned u∧w'.ownsRow W.heap.size 33 5 u LF.length (rvVs LF)∧Below W.heap.size W w'):=fun W SL=>by
       have h:=lwFold_any ap _ p1 W SL.a.z HFT.out.1.1 HFT.out.1.2.1 (by rw [HKZ.out.1.1];exact fun r hr=>⟨by have:=(HRZ.out.1 r hr).1;unfold maxLen;omega,by have:=(HRZ.out.1 r hr).2;unfold maxLen;omega⟩);rw [HKZ.out.1.1,<- HLF.out,<- List.length_map (f:=foldRr),<- HLF.out] at h;exact h
      have CF3:Hid (∀ W,Zl w ap nb1 nb2 nb3 w11.heap.size w13.heap.size (.slice va1 p1.length vc1) (.slice va2 p2.length vc2) (.slice va3 p3.length vc3) (.slice va4 p4.length vc4) (.slice va5 p5.length vc5) p1 p2 p3 p4 p5 W->Calls Tryz.prog 11 #[.agg #[.string ap,.slice va3 p3.length vc3]] W fun e w'=>∃ u,e=.returned u∧w'.ownsRow W.heap.size 33 5 u LF.length (rvVs LF)∧Below W.heap.size W w'):=fun W SL=>by
       have h:=lwFold_any ap _ p3 W SL.y.z HFT.out.2.2.1.1 HFT.out.2.2.1.2.1 (by rw [HKZ.out.2.2.1.1];exact fun r hr=>⟨by have:=(HRZ.out.2.1 r hr).1;unfold maxLen;omega,by have:=(HRZ.out.2.1 r hr).2;unfold maxLen;omega⟩);rw [HKZ.out.2.2.1.1,HGG.out.1,<- HLF.out,<- List.length_map (f:=foldRr),HGG.out.1,<- HLF.out] at h;exact h
      have CF4:Hid (∀ W,Zl w ap nb1 nb2 nb3 w11.heap.size w13.heap.size (.slice va1 p1.length vc1) (.slice va2 p2.length vc2) (.slice va3 p3.length vc3) (.slice va4 p4.length vc4) (.slice va5 p5.length vc5) p1 p2 p3 p4 p5 W->Calls Tryz.prog 11 #[.agg #[.string ap,.slice va4 p4.length vc4]] W fun e w'=>∃ u,e=.returned u∧w'.ownsRow W.heap.size 33 5 u LF.length (rvVs LF)∧Below W.heap.size W w'):=fun W SL=>by
       have h:=lwFold_any ap _ p4 W SL.x.z HFT.out.2.2.2.1 HFT.out.2.2.2.2.1 (by rw [HKZ.out.2.2.2.1];exact fun r hr=>⟨by have:=(HRZ.out.2.2 r hr).1;unfold maxLen;omega,by have:=(HRZ.out.2.2 r hr).2;unfold maxLen;omega⟩);rw [HKZ.out.2.2.2.1,HGG.out.2,<- HLF.out,<- List.length_map (f:=foldRr),HGG.out.2,<- HLF.out] at h;exact h
      clear T5 hp5 HLF HKZ HGG HRZ HCP HFT HE5 hrl;generalize w11.heap.size=nb4 at*
      replace SL:=SL.below (Below.refl _ _).drew
      have hSL:=SL.s;go_wp2_with fail
      generalize w13.heap.size=nb5 at*;refine wp_region_last (fun X=>ZlS nb1 nb2 nb3 nb4 nb5 ap (.slice va1 p1.length vc1) (.slice va2 p2.length vc2) (.slice va3 p3.length vc3) (.slice va4 p4.length vc4) (.slice va5 p5.length vc5) X) 1000 (by kernel_rfl) hSL (fun hHeld=>?_);clear hSL;refine wpAnyL_take (i:=0) (v:=?_) rfl (by kernel_rfl) (by kernel_rfl) (by kernel_rfl) (by kernel_rfl) (fun _ _ _ h=>h) (Or.inl ⟨by kernel_rfl,?_⟩) (by assumption) ?_;rotate_left 1
      ·(intro W hSW;obtain⟨s1,s2,s3,s4,s5,s6,s7,s8,s9,s10⟩:=hSW;go_simp;try (with_reducible rfl))
      refine wpAnyL_take (i:=1) (v:=?_) rfl (by kernel_rfl) (by kernel_rfl) (by kernel_rfl) (by kernel_rfl) (fun _ _ _ h=>h) (Or.inl ⟨by kernel_rfl,?_⟩) (by assumption) ?_;rotate_left 1
      ·(intro W hSW;obtain⟨s1,s2,s3,s4,s5,s6,s7,s8,s9,s10⟩:=hSW;go_simp;try (with_reducible rfl))
      refine wpAnyL_take (i:=2) (v:=?_) rfl (by kernel_rfl) (by kernel_rfl) (by kernel_rfl) (by kernel_rfl) (fun _ _ _ h=>h) (Or.inl ⟨by kernel_rfl,?_⟩) (by assumption) ?_;rotate_left 1
      ·(intro W hSW;obtain⟨s1,s2,s3,s4,s5,s6,s7,s8,s9,s10⟩:=hSW;go_simp;try (with_reducible rfl))
      refine wpAnyL_take (i:=3) (v:=?_) rfl (by kernel_rfl) (by kernel_rfl) (by kernel_rfl) (by kernel_rfl) (fun _ _ _ h=>h) (Or.inl ⟨by kernel_rfl,?_⟩) (by assumption) ?_;rotate_left 1
      ·(intro W hSW;obtain⟨s1,s2,s3,s4,s5,s6,s7,s8,s9,s10⟩:=hSW;go_simp;try (with_reducible rfl))
      refine wpAnyL_take (i:=4) (v:=?_) rfl (by kernel_rfl) (by kernel_rfl) (by kernel_rfl) (by kernel_rfl) (fun _ _ _ h=>h) (Or.inl ⟨by kernel_rfl,?_⟩) (by assumption) ?_;rotate_left 1
      ·(intro W hSW;obtain⟨s1,s2,s3,s4,s5,s6,s7,s8,s9,s10⟩:=hSW;go_simp;try (with_reducible rfl))
      refine wpAnyL_one (i:=5) (by kernel_rfl) rfl (fun K hK=>?_);go_simp;refine((CLZ.out _ SL)).mono ?_;rintro e wn ⟨rfl,bn⟩
      replace SL:=SL.below bn
      have hSL:=SL.s;clear bn;go_wp2_with fail
      refine hK.out _ _ hSL (fun hHeld=>?_);clear hK K hSL;refine wpAnyL_take (i:=6) (v:=?_) rfl (by kernel_rfl) (by kernel_rfl) (by kernel_rfl) (by kernel_rfl) (fun _ _ _ h=>h) (Or.inl ⟨by kernel_rfl,?_⟩) (by assumption) ?_;rotate_left 1
      ·(intro W hSW;obtain⟨s1,s2,s3,s4,s5,s6,s7,s8,s9,s10⟩:=hSW;go_simp;try (with_reducible rfl))
      refine wpAnyL_take (i:=7) (v:=?_) rfl (by kernel_rfl) (by kernel_rfl) (by kernel_rfl) (by kernel_rfl) (fun _ _ _ h=>h) (Or.inl ⟨by kernel_rfl,?_⟩) (by assumption) ?_;rotate_left 1
      ·(intro W hSW;obtain⟨s1,s2,s3,s4,s5,s6,s7,s8,s9,s10⟩:=hSW;go_simp;try (with_reducible rfl))
      refine wpAnyL_take (i:=8) (v:=?_) rfl (by kernel_rfl) (by kernel_rfl) (by kernel_rfl) (by kernel_rfl) (fun _ _ _ h=>h) (Or.inl ⟨by kernel_rfl,?_⟩) (by assumption) ?_;rotate_left 1
      ·(intro W hSW;obtain⟨s1,s2,s3,s4,s5,s6,s7,s8,s9,s10⟩:=hSW;go_simp;try (with_reducible rfl))
      refine wpAnyL_one (i:=9) (by kernel_rfl) rfl (fun K hK=>?_);go_simp;refine((CCK.out _ SL)).mono ?_;rintro e wn ⟨rfl,bn⟩
      replace SL:=SL.below bn
      have hSL:=SL.s;clear bn;go_wp2_with fail
      refine hK.out _ _ hSL (fun hHeld=>?_);clear hK K hSL;refine wpAnyL_take (i:=10) (v:=?_) rfl (by kernel_rfl) (by kernel_rfl) (by kernel_rfl) (by kernel_rfl) (fun _ _ _ h=>h) (Or.inl ⟨by kernel_rfl,?_⟩) (by assumption) ?_;rotate_left 1
      ·(intro W hSW;obtain⟨s1,s2,s3,s4,s5,s6,s7,s8,s9,s10⟩:=hSW;go_simp;try (with_reducible rfl))
      refine wpAnyL_take (i:=11) (v:=?_) rfl (by kernel_rfl) (by kernel_rfl) (by kernel_rfl) (by kernel_rfl) (fun _ _ _ h=>h) (Or.inl ⟨by kernel_rfl,?_⟩) (by assumption) ?_;rotate_left 1
      ·(intro W hSW;obtain⟨s1,s2,s3,s4,s5,s6,s7,s8,s9,s10⟩:=hSW;go_simp;try (with_reducible rfl))
      refine wpAnyL_take (i:=12) (v:=?_) rfl (by kernel_rfl) (by kernel_rfl) (by kernel_rfl) (by kernel_rfl) (fun _ _ _ h=>h) (Or.inl ⟨by kernel_rfl,?_⟩) (by assumption) ?_;rotate_left 1
      ·(intro W hSW;obtain⟨s1,s2,s3,s4,s5,s6,s7,s8,s9,s10⟩:=hSW;go_simp;try (with_reducible rfl))
      refine wpAnyL_take (i:=13) (v:=?_) rfl (by kernel_rfl) (by kernel_rfl) (by kernel_rfl) (by kernel_rfl) (fun _ _ _ h=>h) (Or.inl ⟨by kernel_rfl,?_⟩) (by assumption) ?_;rotate_left 1
      ·(intro W hSW;obtain⟨s1,s2,s3,s4,s5,s6,s7,s8,s9,s10⟩:=hSW;go_simp;try (with_reducible rfl))
      refine wpAnyL_take (i:=15) (v:=?_) rfl (by kernel_rfl) (by kernel_rfl) (by kernel_rfl) (by kernel_rfl) (fun _ _ _ h=>h) (Or.inl ⟨by kernel_rfl,?_⟩) (by assumption) ?_;rotate_left 1
      ·(intro W hSW;obtain⟨s1,s2,s3,s4,s5,s6,s7,s8,s9,s10⟩:=hSW;go_simp;try (with_reducible rfl))
      refine wpAnyL_one (i:=14) (by kernel_rfl) rfl (fun K hK=>?_);go_simp;refine((CF3.out _ SL)).mono ?_;rintro e wa ⟨ua,rfl,ofa,ba⟩;obtain⟨uaa,uac,rfl⟩:=own_sl ofa
      replace SL:=SL.below ba
      have hSL:=SL.s;clear ba;go_wp2_with fail
      refine hK.out _ _ hSL (fun hHeld=>?_);clear hK K hSL;refine wpAnyL_one (i:=16) (by kernel_rfl) rfl (fun K hK=>?_);go_simp;refine(CF1.out _ SL).mono ?_;rintro e wb ⟨ub,rfl,ofb,bb⟩;obtain⟨uba,ubc,rfl⟩:=own_sl ofb
      replace SL:=SL.below bb
      have hSL:=SL.s;have hlr:=lwRecordsV_any _ _ LF wb (CRow.of_owns (own_below ofa bb)) (CRow.of_owns ofb) hLF;clear bb ofa ofb;go_wp2_with fail
      refine hK.out _ _ hSL (fun hHeld=>?_);clear hK K hSL;refine wpAnyL_one (i:=17) (by kernel_rfl) rfl (fun K hK=>?_);go_simp;refine hlr.mono ?_;rintro e wn ⟨rfl,bn⟩
      replace SL:=SL.below bn
      have hSL:=SL.s;clear bn hlr;go_wp2_with fail
      refine hK.out _ _ hSL (fun hHeld=>?_);clear hK K hSL;refine wpAnyL_take (i:=18) (v:=?_) rfl (by kernel_rfl) (by kernel_rfl) (by kernel_rfl) (by kernel_rfl) (fun _ _ _ h=>h) (Or.inl ⟨by kernel_rfl,?_⟩) (by assumption) ?_;rotate_left 1
      ·(intro W hSW;obtain⟨s1,s2,s3,s4,s5,s6,s7,s8,s9,s10⟩:=hSW;go_simp;try (with_reducible rfl))
      refine wpAnyL_take (i:=19) (v:=?_) rfl (by kernel_rfl) (by kernel_rfl) (by kernel_rfl) (by kernel_rfl) (fun _ _ _ h=>h) (Or.inl ⟨by kernel_rfl,?_⟩) (by assumption) ?_;rotate_left 1
      ·(intro W hSW;obtain⟨s1,s2,s3,s4,s5,s6,s7,s8,s9,s10⟩:=hSW;go_simp;try (with_reducible rfl))
      refine wpAnyL_take (i:=20) (v:=?_) rfl (by kernel_rfl) (by kernel_rfl) (by kernel_rfl) (by kernel_rfl) (fun _ _ _ h=>h) (Or.inl ⟨by kernel_rfl,?_⟩) (by assumption) ?_;rotate_left 1
      ·(intro W hSW;obtain⟨s1,s2,s3,s4,s5,s6,s7,s8,s9,s10⟩:=hSW;go_simp;try (with_reducible rfl))
      refine wpAnyL_take (i:=22) (v:=?_) rfl (by kernel_rfl) (by kernel_rfl) (by kernel_rfl) (by kernel_rfl) (fun _ _ _ h=>h) (Or.inl ⟨by kernel_rfl,?_⟩) (by assumption) ?_;rotate_left 1
      ·(intro W hSW;obtain⟨s1,s2,s3,s4,s5,s6,s7,s8,s9,s10⟩:=hSW;go_simp;try (with_reducible rfl))
      refine wpAnyL_one (i:=21) (by kernel_rfl) rfl (fun K hK=>?_);go_simp;refine((CF4.out _ SL)).mono ?_;rintro e wa ⟨ua,rfl,ofa,ba⟩;obtain⟨uaa,uac,rfl⟩:=own_sl ofa
      replace SL:=SL.below ba
      have hSL:=SL.s;clear ba;go_wp2_with fail
      refine hK.out _ _ hSL (fun hHeld=>?_);clear hK K hSL;refine wpAnyL_one (i:=23) (by kernel_rfl) rfl (fun K hK=>?_);go_simp;refine(CF1.out _ SL).mono ?_;rintro e wb ⟨ub,rfl,ofb,bb⟩;obtain⟨uba,ubc,rfl⟩:=own_sl ofb
      replace SL:=SL.below bb
      have hSL:=SL.s;have hlr:=lwRecordsV_any _ _ LF wb (CRow.of_owns (own_below ofa bb)) (CRow.of_owns ofb) hLF;clear bb ofa ofb;go_wp2_with fail
      refine hK.out _ _ hSL (fun hHeld=>?_);clear hK K hSL;refine wpAnyL_one (i:=24) (by kernel_rfl) rfl (fun K hK=>?_);go_simp;refine hlr.mono ?_;rintro e wn ⟨rfl,bn⟩
      replace SL:=SL.below bn
      have hSL:=SL.s;clear bn hlr;go_wp2_with fail
      refine hK.out _ _ hSL (fun hHeld=>?_);clear hK K hSL;refine wpAnyL_take (i:=25) (v:=?_) rfl (by kernel_rfl) (by kernel_rfl) (by kernel_rfl) (by kernel_rfl) (fun _ _ _ h=>h) (Or.inl ⟨by kernel_rfl,?_⟩) (by assumption) ?_;rotate_left 1
      ·(intro W hSW;obtain⟨s1,s2,s3,s4,s5,s6,s7,s8,s9,s10⟩:=hSW;go_simp;try (with_reducible rfl))
      refine wpAnyL_take (i:=26) (v:=?_) rfl (by kernel_rfl) (by kernel_rfl) (by kernel_rfl) (by kernel_rfl) (fun _ _ _ h=>h) (Or.inl ⟨by kernel_rfl,?_⟩) (by assumption) ?_;rotate_left 1
      ·(intro W hSW;obtain⟨s1,s2,s3,s4,s5,s6,s7,s8,s9,s10⟩:=hSW;go_simp;try (with_reducible rfl))
      refine wpAnyL_done (by kernel_rfl) ?_
      try go_simp
      go_wp2;go_ret;exact⟨rfl,SL.b⟩
     ·have hn3:C3≠0:=fun e=>hC (HC34.out.1.1 (HC3.out.symm.trans e))
      have hn4:C4≠0:=fun e=>hC (HC34.out.2.1 (HC4.out.symm.trans e))
      have m1:(C==0)=false:=by rw [beq_eq_false_iff_ne];exact hC
      have m3:(C3==0)=false:=by rw [beq_eq_false_iff_ne];exact hn3
      have m4:(C4==0)=false:=by rw [beq_eq_false_iff_ne];exact hn4
      have m5:(C != 0)=true:=by simp [hC]
      clear hn3 hn4 hC HG1 HG2 HG3 HG4 HC34 HC3 HC4 HCd V3 V4 Y4 X4;go_wp2;go_ret;exact⟨rfl,bwB⟩
end Go.Proofs.YtmdinnjimioffaaGreat
