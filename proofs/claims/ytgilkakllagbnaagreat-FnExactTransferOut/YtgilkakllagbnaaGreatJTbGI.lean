import Derived.Test.YtgilkakllagbnaaGreatJTbPI
import Derived.Test.YtgilkakllagbnaaGreatJOwnT
import Derived.Test.YtgilkakllagbnaaGreatJZrI
import Derived.Test.YtgilkakllagbnaaGreatJGoodM
import Derived.Test.YtgilkakllagbnaaGreatJZnM
import Derived.Test.YtgilkakllagbnaaGreatJData1
import Derived.Test.YtgilkakllagbnaaGreatJStI
import Derived.Test.YtgilkakllagbnaaGreatJClone
import Derived.Test.YtgilkakllagbnaaGreatJParts
import Derived.Test.YtgilkakllagbnaaGreatJZnT
import Derived.RegionTactic
namespace Go.Proofs.YtgilkakllagbnaaGreat
open Go.RowKit
set_option linter.unusedVariables false
set_option maxRecDepth 100000 in
set_option maxHeartbeats 1600000 in
theorem getI_in(g B:Nat)(cmpv rv key:Value)(rs:List (Value×Value))(cf:Nat->Int)(k:Nat)(p:Value×Value)(w:World)(hg:Blk w g #[cmpv,rv] 198)(h:w.ownsRow B 200 2 rv rs.length (rowCs rs))(hl:rs.length<=1000000)
 (hf:∀ (tb i:Nat) (p:Value×Value),rs[i]? =some p->∀ W,Below w.heap.size w W->Blk W tb #[.pointer (some ⟨g,0,none⟩)] 156->Calls Tryz.prog 184 #[.agg #[p.1,p.2],key,.pointer (some ⟨tb,0,none⟩)] W fun e w'=>e=.returned (.int .i64 (cf i))∧Below W.heap.size W w')
 (hm:∀ a b,a<=b->b<rs.length->cf b<0->cf a<0) (hk:Fnd rs.length cf k) (hp:rs[k]? =some p) (h0:cf k=0):
 Calls Tryz.prog 146 #[.pointer (some ⟨g,0,none⟩),key] w fun e w'=>e=.returned (.tuple #[p.2,.bool true])∧Below w.heap.size w w':=by
 have hpl:=placeI_any g cmpv rv key rs cf w hg (CRow.of_owns h) hl hf hm;have hkl:=(List.getElem?_eq_some_iff.1 hp).1;have at1:=rowCs_at rs k 1 p hp (by decide);obtain⟨_,a,cap,rfl,hcap,hmx,hc⟩:=CRow.of_owns h;obtain⟨b,off,rfl,hcell⟩:=hc (by omega);have c1:=hcell _ _ at1;have HK:=Nm.hide hk;have H0:=Nm.hide (And.intro hkl h0);unfold maxLen at hmx;have n1:(0:Int)<=(k:Int):=by omega
 have n2:(k:Int)<(rs.length:Int):=by omega
 clear hf hm hk hp h0 h hcell hc at1;go_enter Tryz.func146,Tryz.ntmps146;go_wp2_with fail
 refine hpl.mono ?_;rintro e w1 ⟨k',hk',rfl,b1⟩;obtain rfl:=Fnd.unique HK.out hk';rw [decide_eq_true H0.out.1,decide_eq_true H0.out.2];have kg:=blk_below hg b1;have rg:=fun i=>blk_cell kg i
 have d1:w1.cell? ⟨b,off+k*2+1,none⟩=some p.2:=(b1.cell (World.block_lt_of_cell? w _ c1)).trans c1;have tt:(true&&true)=true:=rfl;clear hpl hk' c1 H0;go_wp2;go_ret2;exact⟨rfl,b1⟩
set_option maxRecDepth 100000 in
set_option maxHeartbeats 1600000 in
theorem getI_out(g B:Nat)(cmpv rv key:Value)(rs:List (Value×Value))(cf:Nat->Int)(k:Nat)(w:World)(hg:Blk w g #[cmpv,rv] 198)(h:w.ownsRow B 200 2 rv rs.length (rowCs rs))(hl:rs.length<=1000000)
 (hf:∀ (tb i:Nat) (p:Value×Value),rs[i]? =some p->∀ W,Below w.heap.size w W->Blk W tb #[.pointer (some ⟨g,0,none⟩)] 156->Calls Tryz.prog 184 #[.agg #[p.1,p.2],key,.pointer (some ⟨tb,0,none⟩)] W fun e w'=>e=.returned (.int .i64 (cf i))∧Below W.heap.size W w')
 (hm:∀ a b,a<=b->b<rs.length->cf b<0->cf a<0) (hk:Fnd rs.length cf k) (h0:¬(k<rs.length∧cf k=0)):
 Calls Tryz.prog 146 #[.pointer (some ⟨g,0,none⟩),key] w fun e w'=>e=.returned (.tuple #[.pointer none,.bool false])∧Below w.heap.size w w':=by
 have hpl:=placeI_any g cmpv rv key rs cf w hg (CRow.of_owns h) hl hf hm;have HK:=Nm.hide hk
 have H0:Hid ((decide (k<rs.length)&&decide (cf k=0))=false):=by
  show _=_
  rw [Bool.and_eq_false_iff]
  by_cases hx:k<rs.length
  ·exact .inr (decide_eq_false (fun h=>h0 ⟨hx,h⟩))
  ·exact .inl (decide_eq_false hx)
 clear hf hm hk h0 h;go_enter Tryz.func146,Tryz.ntmps146;go_wp2_with fail
 refine hpl.mono ?_;rintro e w1 ⟨k',hk',rfl,b1⟩;obtain rfl:=Fnd.unique HK.out hk';rw [H0.out];clear hpl hk' H0;go_wp2;go_ret2;exact⟨rfl,b1⟩
set_option maxRecDepth 100000 in
set_option maxHeartbeats 1600000 in
theorem getL_in(g B:Nat)(cmpv rv key:Value)(rs:List (Value×Value))(cf:Nat->Int)(k:Nat)(p:Value×Value)(w:World)(hg:Blk w g #[cmpv,rv] 191)(h:w.ownsRow B 193 2 rv rs.length (rowCs rs))(hl:rs.length<=1000000)
 (hf:∀ (tb i:Nat) (p:Value×Value),rs[i]? =some p->∀ W,Below w.heap.size w W->Blk W tb #[.pointer (some ⟨g,0,none⟩)] 126->Calls Tryz.prog 189 #[.agg #[p.1,p.2],key,.pointer (some ⟨tb,0,none⟩)] W fun e w'=>e=.returned (.int .i64 (cf i))∧Below W.heap.size W w')
 (hm:∀ a b,a<=b->b<rs.length->cf b<0->cf a<0) (hk:Fnd rs.length cf k) (hp:rs[k]? =some p) (h0:cf k=0):
 Calls Tryz.prog 167 #[.pointer (some ⟨g,0,none⟩),key] w fun e w'=>e=.returned (.tuple #[p.2,.bool true])∧Below w.heap.size w w':=by
 have hpl:=placeL_any g cmpv rv key rs cf w hg (CRow.of_owns h) hl hf hm;have hkl:=(List.getElem?_eq_some_iff.1 hp).1;have at1:=rowCs_at rs k 1 p hp (by decide);obtain⟨_,a,cap,rfl,hcap,hmx,hc⟩:=CRow.of_owns h;obtain⟨b,off,rfl,hcell⟩:=hc (by omega);have c1:=hcell _ _ at1;have HK:=Nm.hide hk;have H0:=Nm.hide (And.intro hkl h0);unfold maxLen at hmx;have n1:(0:Int)<=(k:Int):=by omega
 have n2:(k:Int)<(rs.length:Int):=by omega
 clear hf hm hk hp h0 h hcell hc at1;go_enter Tryz.func167,Tryz.ntmps167;go_wp2_with fail
 refine hpl.mono ?_;rintro e w1 ⟨k',hk',rfl,b1⟩;obtain rfl:=Fnd.unique HK.out hk';rw [decide_eq_true H0.out.1,decide_eq_true H0.out.2];have kg:=blk_below hg b1;have rg:=fun i=>blk_cell kg i
 have d1:w1.cell? ⟨b,off+k*2+1,none⟩=some p.2:=(b1.cell (World.block_lt_of_cell? w _ c1)).trans c1;have tt:(true&&true)=true:=rfl;clear hpl hk' c1 H0;go_wp2;go_ret2;exact⟨rfl,b1⟩
set_option maxRecDepth 100000 in
set_option maxHeartbeats 1600000 in
theorem getL_out(g B:Nat)(cmpv rv key:Value)(rs:List (Value×Value))(cf:Nat->Int)(k:Nat)(w:World)(hg:Blk w g #[cmpv,rv] 191)(h:w.ownsRow B 193 2 rv rs.length (rowCs rs))(hl:rs.length<=1000000)
 (hf:∀ (tb i:Nat) (p:Value×Value),rs[i]? =some p->∀ W,Below w.heap.size w W->Blk W tb #[.pointer (some ⟨g,0,none⟩)] 126->Calls Tryz.prog 189 #[.agg #[p.1,p.2],key,.pointer (some ⟨tb,0,none⟩)] W fun e w'=>e=.returned (.int .i64 (cf i))∧Below W.heap.size W w')
 (hm:∀ a b,a<=b->b<rs.length->cf b<0->cf a<0) (hk:Fnd rs.length cf k) (h0:¬(k<rs.length∧cf k=0)):
 Calls Tryz.prog 167 #[.pointer (some ⟨g,0,none⟩),key] w fun e w'=>e=.returned (.tuple #[.pointer none,.bool false])∧Below w.heap.size w w':=by
 have hpl:=placeL_any g cmpv rv key rs cf w hg (CRow.of_owns h) hl hf hm;have HK:=Nm.hide hk
 have H0:Hid ((decide (k<rs.length)&&decide (cf k=0))=false):=by
  show _=_
  rw [Bool.and_eq_false_iff]
  by_cases hx:k<rs.length
  ·exact .inr (decide_eq_false (fun h=>h0 ⟨hx,h⟩))
  ·exact .inl (decide_eq_false hx)
 clear hf hm hk h0 h;go_enter Tryz.func167,Tryz.ntmps167;go_wp2_with fail
 refine hpl.mono ?_;rintro e w1 ⟨k',hk',rfl,b1⟩;obtain rfl:=Fnd.unique HK.out hk';rw [H0.out];clear hpl hk' H0;go_wp2;go_ret2;exact⟨rfl,b1⟩
end Go.Proofs.YtgilkakllagbnaaGreat
namespace Go.Proofs.YtgilkakllagbnaaGreat
open Go.RowKit
theorem under_short{xs ys:List ByteArray}(h:xs.length<ys.length):underB xs ys=false:=by
 rw [underB,decide_eq_false (by omega)];rfl
theorem under_long{xs ys:List ByteArray}(h:ys.length<=xs.length):underB xs ys=decide (Nm.cmpLs (xs.drop (xs.length-ys.length)) ys=0):=by
 rw [underB,decide_eq_true h];rfl
set_option maxRecDepth 100000 in
set_option maxHeartbeats 800000 in
theorem under_any(v u:Value)(xs ys:List ByteArray)(w:World)(h:Nm.SRow w v xs)(h':Nm.SRow w u ys)(hxs:∀ x∈xs,x.size<=1000000000)(hlx:xs.length<=1000000000)(hly:ys.length<=1000000000):
 Calls Tryz.prog 155 #[v,u] w fun e w'=>e=.returned (.bool (underB xs ys))∧∃ m,w'=w.drewN m:=by
 have hrow:=h;obtain⟨a,cap,rfl,hcap,hmx,hnl,hc⟩:=h;have hu:=h';obtain⟨a',cap',rfl,hcap',hmx',hnl',hc'⟩:=h';clear hc hc' hnl hnl'
 by_cases hl:xs.length<ys.length
 ·have HA:=Nm.hide (under_short hl);have hd:decide ((0:Int)<=(xs.length:Int)-(ys.length:Int))=false:=by simp;omega
  have hd':(xs.length:Int)-(ys.length:Int)<0:=by omega
  clear hrow hu;go_enter Tryz.func155,Tryz.ntmps155;go_wp2;go_ret;rw [HA.out];exact⟨rfl,0,rfl⟩
 ·have HA:=Nm.hide (under_long (xs:=xs) (ys:=ys) (by omega));obtain⟨d,hd⟩:∃ d,d=xs.length-ys.length:=⟨_,rfl⟩;rw [<- hd] at HA;have hq:(xs.length:Int)-(ys.length:Int)=(d:Int):=by omega
  have hdl:d<=xs.length:=by omega
  have hg:decide ((0:Int)<=(d:Int))=true:=by simp
  have hcmp:=fun V hr=>compare_any V (.slice a' ys.length cap') (xs.drop d) ys w hr hu (fun x hx=>hxs x (List.mem_of_mem_drop hx)) (by rw [List.length_drop];omega) hly
  have hd1:=fun e:cap=d=>hrow.drop_all e
  have hd2:=hrow.drop (k:=d) hdl;generalize Nm.cmpLs (xs.drop d) ys=o at*;have HD:Hid ((o==0)=decide (o=0)):=by show _=_;rw [Bool.eq_iff_iff];simp
  clear hd hl hxs hrow hu
  by_cases hck:cap=d
  ·have Hc:=hcmp _ (hd1 hck);clear hcmp hd1 hd2;subst hck;rw [show xs.length-cap=0 by omega] at Hc;go_enter Tryz.func155,Tryz.ntmps155;go_wp2_with fail
   refine Hc.mono ?_;rintro e w1 ⟨rfl,m,rfl⟩;go_wp2;go_ret;rw [HA.out,<- HD.out];exact⟨rfl,_,rfl⟩
  ·have Hc:=hcmp _ hd2;clear hcmp hd1 hd2;go_enter Tryz.func155,Tryz.ntmps155;go_wp2_with fail
   refine Hc.mono ?_;rintro e w1 ⟨rfl,m,rfl⟩;go_wp2;go_ret;rw [HA.out,<- HD.out];exact⟨rfl,_,rfl⟩
end Go.Proofs.YtgilkakllagbnaaGreat
namespace Go.Proofs.YtgilkakllagbnaaGreat
open Go.RowKit
set_option maxRecDepth 100000 in
set_option maxHeartbeats 800000 in
theorem specIsUnder_any(a b:ByteArray)(w:World)(ha:a.size<=maxLen)(hb:b.size<=maxLen):
 Calls Tryz.prog 97 #[.string a,.string b] w fun e w'=>e=.returned (.bool (isUnderS a b))∧Below w.heap.size w w':=by
 have hsa:=l01Split_any a w ha;have hsb:=fun W=>l01Split_any b W hb
 cases hqa:Nm.split a with
 |none=>
  have HA:=Nm.hide (isUnder_left (b:=b) hqa);rw [hqa] at hsa;clear hqa;go_enter Tryz.func97,Tryz.ntmps97;go_wp2_with fail
  refine hsa.mono ?_;rintro e w1 ⟨v,rfl,hown,hbel⟩;go_wp2_with fail
  refine(hsb _).mono ?_;rintro e w2 ⟨v2,rfl,hown2,hbel2⟩;go_wp2;go_ret;rw [HA.out]
  exact⟨rfl,Nm.below_two hbel hbel2⟩
 |some xs=>
  rw [hqa] at hsa
  cases hqb:Nm.split b with
  |none=>
   have HA:=Nm.hide (isUnder_right (a:=a) hqb);rw [hqb] at hsb;clear hqa hqb;go_enter Tryz.func97,Tryz.ntmps97;go_wp2_with fail
   refine hsa.mono ?_;rintro e w1 ⟨v,rfl,hown,hbel⟩;go_wp2_with fail
   refine(hsb _).mono ?_;rintro e w2 ⟨v2,rfl,hown2,hbel2⟩;go_wp2;go_ret;rw [HA.out]
   exact⟨rfl,Nm.below_two hbel hbel2⟩
  |some ys=>
   have HA:=Nm.hide (isUnder_some hqa hqb);have hund:=under_same hqa hqb;have hza:=Nm.split_size hqa;have hzb:=Nm.split_size hqb;have hla:=Nm.length_le_wsum xs;have hlb:=Nm.length_le_wsum ys;rw [hqb] at hsb;clear hqa hqb;go_enter Tryz.func97,Tryz.ntmps97;go_wp2_with fail
   refine hsa.mono ?_;rintro e w1 ⟨v,rfl,hown,hbel⟩;go_wp2_with fail
   refine(hsb _).mono ?_;rintro e w2 ⟨v2,rfl,hown2,hbel2⟩;have r1:=(Nm.SRow.of_owns hown).below hbel2;have r2:=Nm.SRow.of_owns hown2;simp only [Option.getD_some] at r1 r2;have hbw:=Nm.below_two hbel hbel2;obtain⟨a1,cap1,rfl,hcap1,hmx1,hnl1,hc1⟩:=r1;obtain⟨a2,cap2,rfl,hcap2,hmx2,hnl2,hc2⟩:=r2;have hrow:Nm.SRow w2 (.slice a1 xs.length cap1) xs:=⟨a1,cap1,rfl,hcap1,hmx1,hnl1,hc1⟩;clear hown hown2 hsa hsb hnl1 hnl2 hbel hbel2 hc1 hc2
   by_cases hl:xs.length<ys.length
   ·have HU:=Nm.hide (under_short hl);have hd:decide (xs.length<ys.length)=true:=by simpa using hl
    clear hrow;go_wp2;go_ret;rw [HA.out,HU.out];exact⟨rfl,hbw⟩
   ·have HU:=Nm.hide (hund (by omega))
    have hss:=fun W=>specSameName_any ⟨(Nm.joinL (xs.drop (xs.length-ys.length))).toArray⟩ b W (by
     show(Nm.joinL (xs.drop (xs.length-ys.length))).toArray.size<=maxLen
     rw [List.size_toArray,Nm.joinL_length];have:=Nm.wsum_drop_le xs (xs.length-ys.length);unfold maxLen
     omega) hb
    obtain⟨d,hd⟩:∃ d,d=xs.length-ys.length:=⟨_,rfl⟩;rw [<- hd] at HU hss;have hq:(xs.length:Int)-(ys.length:Int)=(d:Int):=by omega
    have hdl:d<=xs.length:=by omega
    have hyx:ys.length<=xs.length:=by omega
    have hwd:=Nm.wsum_drop_le xs d;have hjn:=fun V hr=>l01Join_any V (xs.drop d) w2 hr (by omega)
    have hd1:=fun e:cap1=d=>hrow.drop_all e
    have hd2:=hrow.drop (k:=d) hdl;have hdd:decide (xs.length<ys.length)=false:=by simp;omega
    generalize ByteArray.mk (Nm.joinL (xs.drop d)).toArray=J at*;clear hd hl hrow hund
    by_cases hck:cap1=d
    ·have Hc:=hjn _ (hd1 hck);clear hjn hd1 hd2;subst hck;rw [show xs.length-cap1=0 by omega] at Hc;go_wp2_with fail
     refine Hc.mono ?_;rintro e w3 ⟨rfl,hbel3⟩;go_wp2_with fail
     refine(hss _).mono ?_;rintro e w4 ⟨rfl,hbel4⟩;go_wp2;go_ret;rw [HA.out,<- HU.out];exact⟨rfl,Nm.below_two hbw (Nm.below_two hbel3 hbel4)⟩
    ·have Hc:=hjn _ hd2;clear hjn hd1 hd2;go_wp2_with fail
     refine Hc.mono ?_;rintro e w3 ⟨rfl,hbel3⟩;go_wp2_with fail
     refine(hss _).mono ?_;rintro e w4 ⟨rfl,hbel4⟩;go_wp2;go_ret;rw [HA.out,<- HU.out];exact⟨rfl,Nm.below_two hbw (Nm.below_two hbel3 hbel4)⟩
end Go.Proofs.YtgilkakllagbnaaGreat
namespace Go.Proofs.YtgilkakllagbnaaGreat
open Go.RowKit
set_option linter.unusedVariables false
def oneC(r:Rr)(apex:ByteArray):Int:=
 if(Nm.split r.own).isSome=false then 1 else if r.cl≠1 then 19 else if(decide (0<=r.tt)&&decide (r.tt<=2147483647))=false then 18
 else if metaB r.ty=true∨r.ty<0∨65535<r.ty then 6 else if cutCode r.ty r.da≠0 then 7 else if isUnderS r.own apex=false then 22 else 0
set_option maxRecDepth 100000 in
set_option maxHeartbeats 1600000 in
theorem l06One_any(r:Rr)(apex:ByteArray)(w:World)(ho:r.own.size<=maxLen)(ha:apex.size<=maxLen):
 Calls Tryz.prog 71 #[.agg #[.string r.own,.int .i64 r.ty,.int .i64 r.cl,.int .i64 r.tt,.string r.da],.string apex] w fun e w'=>e=.returned (.int .i64 (oneC r apex))∧Below w.heap.size w w':=by
 have hB0:=(Below.refl w.heap.size w).alloc (Nat.le_refl _) (.cells #[.string r.own,.int .i64 r.ty,.int .i64 r.cl,.int .i64 r.tt,.string r.da] 56);have hR0:=RB.new w r 56;have h1:=fun W=>specNameOK_any r.own W ho
 have h2:=fun W=>l04In_any r.tt 2147483647 W
 have h3:=fun W=>l05Meta_any r.ty W
 have h4:=fun W=>specCheckData_any r.ty r.da W
 have h5:=fun W=>specIsUnder_any r.own apex W ho ha
 have hkeep:=fun(W:World) (hb:Below (w.alloc (.cells #[.string r.own,.int .i64 r.ty,.int .i64 r.cl,.int .i64 r.tt,.string r.da] 56)).heap.size (w.alloc (.cells #[.string r.own,.int .i64 r.ty,.int .i64 r.cl,.int .i64 r.tt,.string r.da] 56)) W)=>(And.intro (hR0.below hb) (Nm.below_two hB0 hb))
 obtain⟨Q,hQ⟩:∃ Q,Q=oneC r apex:=⟨_,rfl⟩;rw [<- hQ];unfold oneC at hQ;generalize cutCode r.ty r.da=CC at*;generalize isUnderS r.own apex=IU at*;generalize (Nm.split r.own).isSome=SO at*;generalize (decide (0<=r.tt)&&decide (r.tt<=2147483647))=TT at*;have hmb:∀ b,metaB r.ty=b->True:=fun _ _=>trivial
 generalize metaB r.ty=MB at*;clear hmb;obtain⟨o,ty,cl,tt,da⟩:=r;simp only [RB] at*;obtain⟨c0,c1,c2,c3,c4⟩:=hR0
 cases SO with
 |false=>
  simp only [if_true] at hQ;subst hQ;clear h2 h3 h4 h5;go_enter Tryz.func71,Tryz.ntmps71;go_wp2_with fail
  refine(h1 _).mono ?_;rintro e w1 ⟨rfl,b1⟩;go_wp2;go_ret
  exact⟨rfl,Nm.below_two hB0 b1⟩
 |true=>
  simp only [Bool.true_eq_false,if_false] at hQ
  by_cases hcl:cl=1
  ·rw [if_neg (by simpa using hcl)] at hQ;subst hcl;have ncl:((1:Int) != 1)=false:=rfl
   cases TT with
   |false=>
    simp only [if_true] at hQ;subst hQ;clear h3 h4 h5;go_enter Tryz.func71,Tryz.ntmps71;go_wp2_with fail
    refine(h1 _).mono ?_;rintro e w1 ⟨rfl,b1⟩;obtain⟨⟨d0,d1,d2,d3,d4⟩,e1⟩:=hkeep w1 b1;clear c0 c1 c2 c3 c4;go_wp2_with fail
    refine(h2 _).mono ?_;rintro e w2 ⟨rfl,rfl⟩;go_wp2;go_ret
    exact⟨rfl,e1⟩
   |true=>
    simp only [Bool.true_eq_false,if_false] at hQ
    by_cases hm:MB=true∨ty<0∨65535<ty
    ·rw [if_pos hm] at hQ;subst hQ;clear h4 h5
     cases MB with
     |true=>
      go_enter Tryz.func71,Tryz.ntmps71;go_wp2_with fail
      refine(h1 _).mono ?_;rintro e w1 ⟨rfl,b1⟩;obtain⟨⟨d0,d1,d2,d3,d4⟩,e1⟩:=hkeep w1 b1;clear c0 c1 c2 c3 c4;go_wp2_with fail
      refine(h2 _).mono ?_;rintro e w2 ⟨rfl,rfl⟩;go_wp2_with fail
      refine(h3 _).mono ?_;rintro e w3 ⟨rfl,rfl⟩;go_wp2;go_ret
      exact⟨rfl,e1⟩
     |false=>
      by_cases hneg:ty<0
      ·have n0:decide (ty<0)=true:=decide_eq_true hneg;go_enter Tryz.func71,Tryz.ntmps71;go_wp2_with fail
       refine(h1 _).mono ?_;rintro e w1 ⟨rfl,b1⟩;obtain⟨⟨d0,d1,d2,d3,d4⟩,e1⟩:=hkeep w1 b1;clear c0 c1 c2 c3 c4;go_wp2_with fail
       refine(h2 _).mono ?_;rintro e w2 ⟨rfl,rfl⟩;go_wp2_with fail
       refine(h3 _).mono ?_;rintro e w3 ⟨rfl,rfl⟩;go_wp2;go_ret;exact⟨rfl,e1⟩
      ·have hbig:65535<ty:=by rcases hm with h|h|h;· cases h
                              ·omega
                              ·exact h
       have n0:decide (ty<0)=false:=decide_eq_false hneg;have n1:decide (65535<ty)=true:=decide_eq_true hbig;go_enter Tryz.func71,Tryz.ntmps71;go_wp2_with fail
       refine(h1 _).mono ?_;rintro e w1 ⟨rfl,b1⟩;obtain⟨⟨d0,d1,d2,d3,d4⟩,e1⟩:=hkeep w1 b1;clear c0 c1 c2 c3 c4;go_wp2_with fail
       refine(h2 _).mono ?_;rintro e w2 ⟨rfl,rfl⟩;go_wp2_with fail
       refine(h3 _).mono ?_;rintro e w3 ⟨rfl,rfl⟩;go_wp2;go_ret;exact⟨rfl,e1⟩
    ·rw [if_neg hm] at hQ
     obtain⟨rfl,hneg,hbig⟩:MB=false∧0<=ty∧ty<=65535:=by
      refine⟨?_,?_,?_⟩
      ·cases MB with
       |true=>exact absurd (Or.inl rfl) hm
       |false=>rfl
      ·exact Int.not_lt.1 (fun h=>hm (.inr (.inl h)))
      ·exact Int.not_lt.1 (fun h=>hm (.inr (.inr h)))
     by_cases hc:CC=0
     ·rw [if_neg (by simpa using hc)] at hQ;subst hc
      cases IU with
      |false=>
       simp only [if_true] at hQ;subst hQ;go_enter Tryz.func71,Tryz.ntmps71;go_wp2_with fail
       refine(h1 _).mono ?_;rintro e w1 ⟨rfl,b1⟩;obtain⟨⟨d0,d1,d2,d3,d4⟩,e1⟩:=hkeep w1 b1;clear c0 c1 c2 c3 c4;go_wp2_with fail
       refine(h2 _).mono ?_;rintro e w2 ⟨rfl,rfl⟩;go_wp2_with fail
       refine(h3 _).mono ?_;rintro e w3 ⟨rfl,rfl⟩;go_wp2_with fail
       refine(h4 _).mono ?_;rintro e w4 ⟨rfl,b4⟩;obtain⟨⟨g0,g1,g2,g3,g4⟩,e4⟩:=hkeep w4 (Nm.below_two b1 b4);clear d0 d1 d2 d3 d4;go_wp2_with fail
       refine(h5 _).mono ?_;rintro e w5 ⟨rfl,b5⟩;go_wp2;go_ret
       exact⟨rfl,Nm.below_two e4 b5⟩
      |true=>
       simp only [Bool.true_eq_false,if_false] at hQ;subst hQ;go_enter Tryz.func71,Tryz.ntmps71;go_wp2_with fail
       refine(h1 _).mono ?_;rintro e w1 ⟨rfl,b1⟩;obtain⟨⟨d0,d1,d2,d3,d4⟩,e1⟩:=hkeep w1 b1;clear c0 c1 c2 c3 c4;go_wp2_with fail
       refine(h2 _).mono ?_;rintro e w2 ⟨rfl,rfl⟩;go_wp2_with fail
       refine(h3 _).mono ?_;rintro e w3 ⟨rfl,rfl⟩;go_wp2_with fail
       refine(h4 _).mono ?_;rintro e w4 ⟨rfl,b4⟩;obtain⟨⟨g0,g1,g2,g3,g4⟩,e4⟩:=hkeep w4 (Nm.below_two b1 b4);clear d0 d1 d2 d3 d4;go_wp2_with fail
       refine(h5 _).mono ?_;rintro e w5 ⟨rfl,b5⟩;go_wp2;go_ret;exact⟨rfl,Nm.below_two e4 b5⟩
     ·rw [if_pos (by simpa using hc)] at hQ;subst hQ;have nc:(CC != 0)=true:=by rw [bne_iff_ne];exact hc
      go_enter Tryz.func71,Tryz.ntmps71;go_wp2_with fail
      refine(h1 _).mono ?_;rintro e w1 ⟨rfl,b1⟩;obtain⟨⟨d0,d1,d2,d3,d4⟩,e1⟩:=hkeep w1 b1;clear c0 c1 c2 c3 c4;go_wp2_with fail
      refine(h2 _).mono ?_;rintro e w2 ⟨rfl,rfl⟩;go_wp2_with fail
      refine(h3 _).mono ?_;rintro e w3 ⟨rfl,rfl⟩;go_wp2_with fail
      refine(h4 _).mono ?_;rintro e w4 ⟨rfl,b4⟩;go_wp2;go_ret;exact⟨rfl,Nm.below_two e1 b4⟩
  ·rw [if_pos (by simpa using hcl)] at hQ;subst hQ;have ncl:(cl != 1)=true:=by rw [bne_iff_ne];exact hcl
   clear h2 h3 h4 h5;go_enter Tryz.func71,Tryz.ntmps71;go_wp2_with fail
   refine(h1 _).mono ?_;rintro e w1 ⟨rfl,b1⟩;obtain⟨⟨d0,d1,d2,d3,d4⟩,e1⟩:=hkeep w1 b1;clear c0 c1 c2 c3 c4;go_wp2;go_ret;exact⟨rfl,e1⟩
structure Mk (B C:Nat) (T:TypeId) (w w':World):Prop where
 os:w'.os=w.os
 tape:w'.tape=w.tape
 output:w'.output=w.output
 size:w.heap.size<=w'.heap.size
 block:∀ k,k<w.heap.size->(k<B∨C<=k)->w'.heap[k]? =w.heap[k]?
 shape:∀ (g:Nat) (cur:Array Value) (e:TypeId),w.heap[g]? =some (.cells cur e (0,0))->∃ cur':Array Value,w'.heap[g]? =some (.cells cur' e (0,0))∧cur'.size=cur.size
 other:∀ (g:Nat) (cur:Array Value) (e:TypeId),w.heap[g]? =some (.cells cur e (0,0))->e≠T->w'.heap[g]? =some (.cells cur e (0,0))
theorem Mk.refl(B C T:Nat)(w:World):Mk B C T w w:=⟨rfl,rfl,rfl,Nat.le_refl _,fun _ _ _=>rfl,fun _ cur _ h=>⟨cur,h,rfl⟩,fun _ _ _ h _=>h⟩
theorem heap_lt{w:World}{g:Nat}{x:Obj}(h:w.heap[g]? =some x):g<w.heap.size:=(Array.getElem?_eq_some_iff.1 h).1
theorem Mk.below{B C T:Nat}{w w1 w2:World}(h:Mk B C T w w1)(hb:Below w1.heap.size w1 w2):Mk B C T w w2:=by
 refine⟨hb.os.trans h.os,hb.tape.trans h.tape,hb.output.trans h.output,Nat.le_trans h.size hb.size,fun k hk hr=>(hb.block k (Nat.lt_of_lt_of_le hk h.size)).trans (h.block k hk hr),fun g cur e hg=>?_,fun g cur e hg hne=>?_⟩
 ·obtain⟨cur',h1,h2⟩:=h.shape g cur e hg;exact⟨cur',(hb.block g (heap_lt h1)).trans h1,h2⟩
 ·have h1:=h.other g cur e hg hne;exact(hb.block g (heap_lt h1)).trans h1
theorem Mk.set{B C T:Nat}{w w1:World}{g i:Nat}{cur:Array Value}(h:Mk B C T w w1)(hB:B<=g)(hC:g<C)(hg:w1.heap[g]? =some (.cells cur T (0,0)))(y:Value):Mk B C T w (w1.setCell ⟨g,i,none⟩ y):=by
 refine⟨h.os,h.tape,h.output,by simpa using h.size,fun k hk hr=>?_,fun g' cur' e hg'=>?_,fun g' cur' e hg' hne=>?_⟩
 ·rw [heap_setCell_other w1 ⟨g,i,none⟩ k _ (by simp;omega)];exact h.block k hk hr
 ·obtain⟨c1,h1,h2⟩:=h.shape g' cur' e hg'
  by_cases hgg:g'=g
  ·subst hgg;rw [h1] at hg;simp only [Option.some.injEq,Obj.cells.injEq] at hg;obtain⟨rfl,rfl,_⟩:=hg;exact⟨_,heap_setCell_same w1 g' i _ _ y h1,by simpa using h2⟩
  ·exact⟨c1,by rw [heap_setCell_other w1 ⟨g,i,none⟩ g' _ (by simpa using hgg)];exact h1,h2⟩
 ·have h1:=h.other g' cur' e hg' hne
  have hgg:g'≠g:=by
   intro e1;subst e1;rw [h1] at hg;simp only [Option.some.injEq,Obj.cells.injEq] at hg;exact hne hg.2.1
  rw [heap_setCell_other w1 ⟨g,i,none⟩ g' _ (by simpa using hgg)];exact h1
def WR(w:World)(B C:Nat)(e s:Nat)(v:Value)(n:Nat):Prop:=∃ a cap,v=.slice a n cap∧n<=cap∧(0<n->∃ (g:Nat) (cur:Array Value),a=some ⟨g,0,none⟩∧B<=g∧g<C∧w.heap[g]? =some (.cells cur e (0,0))∧n*s<=cur.size)
theorem WR.of_owns{w:World}{B e s n:Nat}{v:Value}{xs:List Value}(h:w.ownsRow B e s v n xs):WR w B w.heap.size e s v n:=by
 rcases h.2 with⟨rfl,rfl⟩|⟨g,cap,cur,rfl,hb,hg,hn,hm,hs,ht⟩
 ·exact⟨none,0,rfl,Nat.le_refl _,fun h=>by omega⟩
 ·exact⟨_,cap,rfl,hn,fun _=>⟨g,cur,rfl,hb,heap_lt hg,hg,by rw [hs];exact Nat.mul_le_mul_right _ hn⟩⟩
theorem WR.of_ownsC{w:World}{B C e s n:Nat}{v:Value}{xs:List Value}(h:w.ownsRow B e s v n xs)(hC:∀ g,v.ownBlock=some g->g<C):WR w B C e s v n:=by
 rcases h.2 with⟨rfl,rfl⟩|⟨g,cap,cur,rfl,hb,hg,hn,hm,hs,ht⟩
 ·exact⟨none,0,rfl,Nat.le_refl _,fun h=>by omega⟩
 ·exact⟨_,cap,rfl,hn,fun _=>⟨g,cur,rfl,hb,hC g rfl,hg,by rw [hs];exact Nat.mul_le_mul_right _ hn⟩⟩
theorem WR.shape{w w':World}{B C e s n:Nat}{v:Value}(h:WR w B C e s v n)(hs:∀ (g:Nat) (cur:Array Value) (e:TypeId),w.heap[g]? =some (.cells cur e (0,0))->∃ cur':Array Value,w'.heap[g]? =some (.cells cur' e (0,0))∧cur'.size=cur.size):WR w' B C e s v n:=by
 obtain⟨a,cap,rfl,hn,hr⟩:=h;refine⟨a,cap,rfl,hn,fun hp=>?_⟩;obtain⟨g,cur,rfl,hB,hC,hg,hz⟩:=hr hp;obtain⟨cur',h1,h2⟩:=hs g cur e hg;exact⟨g,cur',rfl,hB,hC,h1,by omega⟩
set_option maxRecDepth 100000 in
set_option maxHeartbeats 800000 in
theorem markStringS_mk(v:Value)(n B C k:Nat)(w:World)(h:WR w B C 9 1 v n)(hn:n<=10000000)(hk:k<=100000000):
 Calls Tryz.prog 68 #[v,.int .i64 (k:Int)] w fun e w'=>e=.returned (.int .i64 ((k+n:Nat):Int))∧Mk B C 9 w w':=by
 obtain⟨a,cap,rfl,hcap,hr⟩:=h;have hmt:=fun(j:Nat) (hj:j<=1000000000) W=>markText_any j W hj
 go_enter Tryz.func68,Tryz.ntmps68;go_wp2
 go_loopw [1,5] (fun t i wr=>∃ j:Nat,j<=n∧i=.int .i64 (j:Int)∧t=.int .i64 ((k:Int)+(j:Int))∧Mk B C 9 w wr) (fun _ i _=>n-(intOf i).toNat)
 case atStart=>exact⟨0,Nat.zero_le _,rfl,by simp,Mk.refl _ _ _ _⟩
 case round=>
  obtain⟨j,hj,rfl,rfl,hm⟩:=hrel
  by_cases hlt:j<n
  ·obtain⟨g,cur,rfl,hB,hC,hg,hz⟩:=hr (by omega);obtain⟨cur',hg',hz'⟩:=hm.shape g cur _ hg;have hone:=hmt (k+j) (by omega) wr;rw [show((k+j:Nat):Int)=(k:Int)+(j:Int) by omega] at hone;have i1:(0:Int)<=(j:Int):=by omega
   have i2:(j:Int)<(n:Int):=by omega
   have hcl:j<cur'.size:=by omega
   clear hmt hr;go_wp2_with (go_at_call 41;refine hone.mono ?_;rintro e w1 ⟨rfl,hb1⟩;have hg1:=(hb1.block g (heap_lt hg')).trans hg';have hc1:w1.cell? ⟨g,j,none⟩=some cur'[j]:=(cell_of_row _ _ _ _ _ _ hg1).trans (Array.getElem?_eq_getElem hcl);have hf1:=frozen_of_row w1 g j _ _ hg1)
   go_roundw
   case rel=>exact⟨j+1,by omega,by go_num,by congr 1<;>omega,(hm.below hb1).set hB hC hg1 _⟩
   case measure=>simp [intOf];omega
  ·have hjn:j=n:=by omega
   subst hjn;clear hr hmt;have i2:(j:Int)<=(j:Int):=by omega
   go_wp2;go_ret;exact⟨by rw [show((k+j:Nat):Int)=(k:Int)+(j:Int) by omega];rfl,hm⟩
structure Mj (B C:Nat) (w w':World):Prop where
 os:w'.os=w.os
 tape:w'.tape=w.tape
 output:w'.output=w.output
 size:w.heap.size<=w'.heap.size
 block:∀ k,k<w.heap.size->(k<B∨C<=k)->w'.heap[k]? =w.heap[k]?
 shape:∀ (g:Nat) (cur:Array Value) (e:TypeId),w.heap[g]? =some (.cells cur e (0,0))->∃ cur':Array Value,w'.heap[g]? =some (.cells cur' e (0,0))∧cur'.size=cur.size
theorem Mj.refl(B C:Nat)(w:World):Mj B C w w:=⟨rfl,rfl,rfl,Nat.le_refl _,fun _ _ _=>rfl,fun _ cur _ h=>⟨cur,h,rfl⟩⟩
theorem Mj.step{B C T:Nat}{w w1 w2:World}(h:Mj B C w w1)(h2:Mk B C T w1 w2):Mj B C w w2:=by
 refine⟨h2.os.trans h.os,h2.tape.trans h.tape,h2.output.trans h.output,Nat.le_trans h.size h2.size,fun k hk hr=>(h2.block k (Nat.lt_of_lt_of_le hk h.size) hr).trans (h.block k hk hr),fun g cur e hg=>?_⟩;obtain⟨c1,h3,h4⟩:=h.shape g cur e hg;obtain⟨c2,h5,h6⟩:=h2.shape g c1 e h3;exact⟨c2,h5,by omega⟩
theorem Mj.down{B C:Nat}{w w':World}(h:Mj B C w w'){D:Nat}(h1:D<=B)(h2:D<=w.heap.size):Below D w w':=⟨h.os,h.tape,h.output,h.size,fun k hk=>h.block k (by omega) (.inl (by omega))⟩
def zl:List Zp->Nat
 |[]=>0
 |x::xs=>x.1.da.length+3+zl xs
theorem zl_step:∀ (xs:List Zp) (k:Nat) (x:Zp),xs[k]? =some x->zl (xs.take (k+1))=zl (xs.take k)+(x.1.da.length+3):=by
 intro xs
 induction xs with
 |nil=>intro k x h;simp at h
 |cons y xs ih=>
  intro k x h
  cases k with
  |zero=>simp at h;subst h;simp [zl]
  |succ k=>
   simp at h;have:=ih k x h;simp only [List.take_succ_cons,zl];omega
theorem zl_take_le:∀ (xs:List Zp) (k:Nat),zl (xs.take k)<=zl xs:=by
 intro xs
 induction xs with
 |nil=>intro k;simp [zl]
 |cons y xs ih=>
  intro k
  cases k with
  |zero=>simp [zl]
  |succ k=>have:=ih k;simp only [List.take_succ_cons,zl];omega
theorem zl_len(xs:List Zp):xs.length<=zl xs:=by
 induction xs with
 |nil=>simp [zl]
 |cons y xs ih=>simp only [zl,List.length_cons];omega
def SV(w:World)(g:Nat)(qs:List Zp)(cur:Array Value):Prop:=Blk w g cur 90∧qs.length*4<=cur.size∧∀ (j:Nat) (q:Zp),qs[j]? =some q->cur[j*4+3]? =some q.2
theorem SV.set{w:World}{g i:Nat}{qs:List Zp}{cur:Array Value}(h:SV w g qs cur)(y:Value)(hc:i % 4≠3):SV (w.setCell ⟨g,i,none⟩ y) g qs (cur.setIfInBounds i y):=by
 refine⟨blk_set h.1 _ _,by simpa using h.2.1,fun j q hj=>?_⟩;rw [Array.getElem?_setIfInBounds_ne (by omega)];exact h.2.2 j q hj
theorem SV.below{w W:World}{g:Nat}{qs:List Zp}{cur:Array Value}(h:SV w g qs cur)(hb:Below w.heap.size w W):SV W g qs cur:=⟨blk_below h.1 hb,h.2⟩
theorem SV.mk{w W:World}{B C g:Nat}{qs:List Zp}{cur:Array Value}(h:SV w g qs cur)(hb:Mk B C 9 w W):SV W g qs cur:=⟨hb.other g cur _ h.1 (by decide),h.2⟩
set_option maxRecDepth 100000 in
set_option maxHeartbeats 1600000 in
theorem markSetS_mk(v:Value)(qs:List Zp)(B C k:Nat)(w:World)(h:OZ w B v qs)(hC:∀ g,v.ownBlock=some g->g<C)(hCD:∀ q∈qs,∀ g,q.2.ownBlock=some g->g<C)(hn:zl qs<=10000000)(hk:k<=10000000):
 Calls Tryz.prog 40 #[v,.int .i64 (k:Int)] w fun e w'=>e=.returned (.int .i64 ((k+zl qs:Nat):Int))∧Mj B C w w':=by
 have hW0:=WR.of_ownsC h.1 hC;have hql:=zl_len qs;have hD0:∀ q∈qs,WR w B C 9 1 q.2 q.1.da.length:=fun q hq=>WR.of_ownsC (h.2 q hq) (hCD q hq)
 have hSV0:0<qs.length->∃ g cap cur,v=.slice (some ⟨g,0,none⟩) qs.length cap∧B<=g∧g<C∧SV w g qs cur:=by
  intro hp
  rcases h.1.2 with⟨_,h0⟩|⟨g,cap,cur,rfl,hb,hg,hn,hm,hs,ht⟩
  ·omega
  ·refine⟨g,cap,cur,rfl,hb,hC g rfl,hg,by rw [hs];exact Nat.mul_le_mul_right _ hn,fun j q hj=>?_⟩;have hjl:j<qs.length:=(List.getElem?_eq_some_iff.1 hj).1;have e:=(zpVs_at qs j 3 q hj (by decide));rw [<- ht,List.getElem?_take_of_lt (by omega)] at e;have e2:cur.toList[j*4+3]? =some q.2:=e;simpa using e2
 have hmt:=fun(j:Nat) (hj:j<=1000000000) W=>markText_any j W hj
 have hms:=fun(q:Zp) W (hWr:WR W B C 9 1 q.2 q.1.da.length) (j:Nat) (hj:j<=100000000) (hl:q.1.da.length<=10000000)=>markStringS_mk q.2 q.1.da.length B C j W hWr hl hj
 obtain⟨a,cap,rfl⟩:=own_sl h.1;clear h hW0 hC hCD;go_enter Tryz.func40,Tryz.ntmps40;go_wp2
 go_loopw [1,5] (fun t i wr=>∃ j:Nat,j<=qs.length∧i=.int .i64 (j:Int)∧t=.int .i64 ((k:Int)+(zl (qs.take j):Int))∧Mj B C w wr∧Hid (∀ g,a=some ⟨g,0,none⟩->0<qs.length->∃ cur,SV wr g qs cur)) (fun _ i _=>qs.length-(intOf i).toNat)
 case atStart=>
  refine⟨0,Nat.zero_le _,rfl,by simp [zl],Mj.refl _ _ _,?_⟩;intro g hg hp;obtain⟨g',cap',cur,e1,_,_,hsv⟩:=hSV0 hp;subst hg;simp only [Value.slice.injEq,Option.some.injEq,Addr.mk.injEq] at e1;obtain⟨⟨rfl,_⟩,_⟩:=e1;exact⟨cur,hsv⟩
 case round=>
  obtain⟨j,hj,rfl,rfl,hm,HV⟩:=hrel
  by_cases hlt:j<qs.length
  ·obtain⟨q,hq⟩:∃ q,qs[j]? =some q:=⟨_,List.getElem?_eq_getElem hlt⟩;obtain⟨g,cap',cur0,e1,hBg,hgC,_⟩:=hSV0 (by omega);simp only [Value.slice.injEq] at e1;obtain⟨rfl,_,rfl⟩:=e1;obtain⟨cur,hsv⟩:=HV.out g rfl (by omega);have hst:=zl_step qs j q hq;have hle:=zl_take_le qs (j+1);have hone:=hmt (k+zl (qs.take j)) (by omega) wr;rw [show((k+zl (qs.take j):Nat):Int)=(k:Int)+(zl (qs.take j):Int) by omega] at hone;have hms1:=fun W hWr=>hms q W hWr (k+zl (qs.take j)+3) (by omega) (by omega)
   rw [show((k+zl (qs.take j)+3:Nat):Int)=(k:Int)+(zl (qs.take j):Int)+1+1+1 by omega] at hms1;have hwr:=(hD0 q (List.mem_of_getElem? hq)).shape hm.shape;have hdv:=hsv.2.2 j q hq;have i1:(0:Int)<=(j:Int):=by omega
   have i2:(j:Int)<(qs.length:Int):=by omega
   have hfin:((k+zl (qs.take j)+3+q.1.da.length:Nat):Int)=(k:Int)+(zl (qs.take (j+1)):Int):=by omega
   have hcs:j*4+3<cur.size:=by have:=hsv.2.1;omega
   obtain⟨qa,qc,hqv⟩:∃ qa qc,q.2=.slice qa q.1.da.length qc:=by
    obtain⟨qa,qc,e,_⟩:=hwr;exact⟨qa,qc,e⟩
   clear hmt hms hSV0 HV hq hD0;generalize zl (qs.take j)=z0 at*;generalize hz1:zl (qs.take (j+1))=z1 at*;obtain⟨⟨o,ty,tt,da⟩,dv⟩:=q;simp only at hqv hms1 hwr hdv hfin
   subst hqv;go_wp2_with (first|(go_at_call 41;refine hone.mono ?_;rintro e w1 ⟨rfl,hb1⟩;have hs1:=hsv.below hb1;have f1:=blk_frozen hs1.1;have c0:w1.cell? ⟨g,j*4,none⟩=some cur[j*4]:=(blk_cell hs1.1 _).trans (Array.getElem?_eq_getElem (by omega));have c1:w1.cell? ⟨g,j*4+1,none⟩=some cur[j*4+1]:=(blk_cell hs1.1 _).trans (Array.getElem?_eq_getElem (by omega));have c2:w1.cell? ⟨g,j*4+2,none⟩=some cur[j*4+2]:=(blk_cell hs1.1 _).trans (Array.getElem?_eq_getElem (by omega));have c3:w1.cell? ⟨g,j*4+3,none⟩=some (.slice qa da.length qc):=(blk_cell hs1.1 _).trans hdv)|(go_at_call 68;refine(hms1 _ (hwr.shape (((((Mk.refl B C 90 wr).below hb1).set hBg hgC hs1.1 _).set hBg hgC (hs1.set _ (by omega)).1 _).set hBg hgC ((hs1.set _ (by omega)).set _ (by omega)).1 _).shape)).mono ?_;rintro e w5 ⟨rfl,hk5⟩))
   have hs5:=(((hs1.set (.string (mkS (k+z0))) (i:=j*4) (by omega)).set (.int .i64 ((k:Int)+(z0:Int)+1)) (i:=j*4+1) (by omega)).set (.int .i64 ((k:Int)+(z0:Int)+1+1)) (i:=j*4+2) (by omega)).mk hk5;have hm5:=(hm.step (((((Mk.refl B C 90 wr).below hb1).set hBg hgC hs1.1 _).set hBg hgC (hs1.set _ (by omega)).1 _).set hBg hgC ((hs1.set _ (by omega)).set _ (by omega)).1 _)).step hk5;go_roundw
   case rel=>
    refine⟨j+1,by omega,by go_num,?_,hm5,?_⟩
    ·rw [hz1];congr 1<;>omega
    ·intro g' hg' hp;cases hg'
     exact⟨_,hs5⟩
   case measure=>simp [intOf];omega
  ·have hjn:j=qs.length:=by omega
   subst hjn;clear hmt hms hSV0 HV hD0;have i2:(qs.length:Int)<=(qs.length:Int):=by omega
   rw [List.take_length];go_wp2;go_ret;exact⟨by rw [show((k+zl qs:Nat):Int)=(k:Int)+(zl qs:Int) by omega];rfl,hm⟩
set_option maxRecDepth 100000 in
set_option maxHeartbeats 800000 in
theorem markZone_mk(o:ByteArray)(v:Value)(qs:List Zp)(B C k:Nat)(w:World)(h:OZ w B v qs)(hC:∀ g,v.ownBlock=some g->g<C)(hCD:∀ q∈qs,∀ g,q.2.ownBlock=some g->g<C)(hn:zl qs<=10000000)(hk:k<=10000000):
 Calls Tryz.prog 13 #[.agg #[.string o,v],.int .i64 (k:Int)] w fun e w'=>e=.returned (.int .i64 ((k+zl qs:Nat):Int))∧Mj B C w w':=by
 have hB:=(Below.refl w.heap.size w).alloc (Nat.le_refl _) (.cells #[.string o,v] 33);have hone:=markSetS_mk v qs B C k _ (h.below hB) hC hCD hn hk;obtain⟨a,cap,rfl⟩:=own_sl h.1;have hsz:(w.alloc (.cells #[.string o,.slice a qs.length cap] 33)).heap.size=w.heap.size+1:=by simp
 clear h hC hCD;go_enter Tryz.func13,Tryz.ntmps13;go_wp2_with (go_at_call 40;refine hone.mono ?_;rintro e w1 ⟨rfl,hm⟩)
 go_ret;refine⟨rfl,hm.os,hm.tape,hm.output,by have:=hm.size;omega,fun k hk hr=>(hm.block k (by omega) hr).trans (hB.block k hk),fun g cur e hg=>?_⟩;exact hm.shape g cur e ((hB.block g (heap_lt hg)).trans hg)
theorem own_mj{w w':World}{B C B' e s n:Nat}{v:Value}{xs:List Value}(h:w.ownsRow B' e s v n xs)(hr:∀ g,v.ownBlock=some g->g<B∨C<=g)(hm:Mj B C w w'):w'.ownsRow B' e s v n xs:=by
 refine⟨h.1,?_⟩
 rcases h.2 with h0|⟨g,cap,cur,rfl,hb,hg,r⟩
 ·exact .inl h0
 ·exact .inr ⟨g,cap,cur,rfl,hb,(hm.block g (heap_lt hg) (hr g rfl)).trans hg,r⟩
theorem OZ.lt{w:World}{B:Nat}{v:Value}{qs:List Zp}(h:OZ w B v qs):(∀ g,v.ownBlock=some g->g<w.heap.size)∧∀ q∈qs,∀ g,q.2.ownBlock=some g->g<w.heap.size:=
 ⟨fun g hg=>(h.1.lt g hg).2,fun q hq g hg=>((h.2 q hq).lt g hg).2⟩
theorem zsum_same{ps qs:List Zp}(h:qs.map (·.1)=ps.map (·.1)):zsum qs=zsum ps:=by
 have e:∀ xs:List Zp,zsum xs=((xs.map (·.1)).map zs1).sum:=by
  intro xs
  induction xs with
  |nil=>rfl
  |cons y xs ih=>simp only [zsum,List.map_cons,List.sum_cons,ih]
 rw [e,e,h]
theorem zl_le(ps:List Zp):zl ps<=zsum ps+3*ps.length:=by
 induction ps with
 |nil=>simp [zl]
 |cons y ps ih=>simp only [zl,zsum,zs1,List.length_cons];omega
end Go.Proofs.YtgilkakllagbnaaGreat
