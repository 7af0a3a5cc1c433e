import Derived.Test.YtfmolgdfjklmpaaGreatCnC
import Derived.Test.YtfmolgdfjklmpaaGreatCnW
import Derived.Test.YtfmolgdfjklmpaaGreatJFnS
import Derived.Test.YtfmolgdfjklmpaaGreatJCzM
import Derived.Test.YtfmolgdfjklmpaaGreatJZoK
import Derived.Test.YtfmolgdfjklmpaaGreatJFnT
import Derived.Test.YtfmolgdfjklmpaaGreatJFnR
import Derived.Test.YtfmolgdfjklmpaaGreatJCzE
import Derived.Test.YtfmolgdfjklmpaaGreatJFnC
import Derived.Test.YtfmolgdfjklmpaaGreatJCzS
import Derived.Test.YtfmolgdfjklmpaaGreatJTrM
import Derived.Test.YtfmolgdfjklmpaaGreatJSls
import Derived.Test.YtfmolgdfjklmpaaGreatJZrI
import Derived.Test.YtfmolgdfjklmpaaGreatJSCheck
import Derived.Test.YtfmolgdfjklmpaaGreatJZrM
namespace Go.Proofs.YtfmolgdfjklmpaaGreat
open Go.RowKit
set_option linter.unusedVariables false
theorem rc_fit{r:Rr}(h:rcOK r=true):(Nm.split r.own).isSome=true∧(Lit.int .i64 r.ty).wf=true:=by
 simp only [rcOK,inB,Bool.and_eq_true,decide_eq_true_eq] at h;refine⟨h.1.1.1.1,?_⟩;have h1:=h.1.1.1.2;have e1:IntKind.i64.min= -9223372036854775808:=by decide
 have e2:IntKind.i64.max=9223372036854775807:=by decide
 simp only [Lit.wf,Bool.and_eq_true,decide_eq_true_eq,e1,e2];omega
section
variable {list:List Rr}{o:ByteArray}{bb:Nat}{lv:Value}{th:Nat}{ys:List ByteArray}{aa:Option Addr}{ac:Nat}{labv rv:Value}{os:List GOw}{kv:Value}{ks:List Ld}{B:Nat}
set_option maxRecDepth 100000 in
set_option maxHeartbeats 3200000 in
theorem checkConditions_any(u:Value)(xs:List Rr)(w:World)(hP:P3 list o bb lv th ys aa ac labv rv os kv ks B w)(hz:TZ os o ys)(hr:CRow w u xs.length 5 (rvVs xs))(hl:xs.length<=400)(hok:xs.all rcOK=true)(hf:∀ r∈xs,r.own.size<=1048576∧r.da.size<=1048576):
 Calls Tryz.prog 21 #[.pointer (some ⟨bb,3,none⟩),u] w fun e w'=>e=.returned (.int .i64 (cnS (zoneT os) o xs))∧Below w.heap.size w w':=by
 have HOK:Hid (∀ r∈xs,(Nm.split r.own).isSome=true∧(Lit.int .i64 r.ty).wf=true):=fun r hr=>rc_fit (List.all_eq_true.1 hok r hr)
 have HW:=Nm.hide (fun W (hW:Below w.heap.size w W)=>checkWanted_any u xs W (hP.below hW) (hr.below hW) hl (fun r h=>(HOK.out r h).1) (fun r h=>⟨(hf r h).1,(hf r h).2,(HOK.out r h).2⟩));have HC:=Nm.hide (fun(r:Rr) (lab:List ByteArray) W (hW:Below w.heap.size w W) (hn:Nm.split r.own=some lab) (h1:r.own.size<=1048576) (h2:r.da.size<=1048576)=>checkCondition_any r lab W (hP.below hW) hz hn h1 h2);obtain⟨_,a,cap,rfl,hcap,hmx,hc⟩:=hr;unfold maxLen at hmx;obtain⟨R,HR⟩:∃ R,Hid (R=cnS (zoneT os) o xs):=⟨_,rfl⟩;rw [<- HR.out];clear hP hz hok;go_enter Tryz.func21,Tryz.ntmps21;go_wp2_with fail
 go_loopw [10] (fun i wr=>∃ k:Nat,k<=xs.length∧i=.int .i64 k∧Hid (∀ j y,j<k->xs[j]? =some y->cnC (zoneT os) o y=0)∧Below w.heap.size w wr) (fun i _=>xs.length-(intOf i).toNat)
 case atStart=>exact⟨0,Nat.zero_le _,rfl,fun j y hj _=>absurd hj (Nat.not_lt_zero _),Below.refl _ _⟩
 case round=>
  obtain⟨k,hk,rfl,HA,hbel⟩:=hrel
  by_cases hlt:k<xs.length
  ·obtain⟨x,hxk⟩:∃ x,xs[k]? =some x:=⟨_,List.getElem?_eq_getElem hlt⟩;obtain⟨b,off,rfl,hcell⟩:=hc (by omega);obtain⟨c0,c1,c2,c3,c4⟩:=rv_cells hcell hxk;have put:∀ {O:Nat} {z:Value},w.cell? ⟨b,O,none⟩=some z->wr.cell? ⟨b,O,none⟩=some z:=fun h=>(hbel.cell (World.block_lt_of_cell? w _ h)).trans h
   replace c0:=put c0
   replace c1:=put c1
   replace c2:=put c2
   replace c3:=put c3
   replace c4:=put c4
   have hmem:=List.mem_of_getElem? hxk;obtain⟨ho,hd⟩:=hf x hmem;obtain⟨lab,hlab⟩:=Option.isSome_iff_exists.1 (HOK.out x hmem).1;have i1:(0:Int)<=(k:Int):=by omega
   have i2:(k:Int)<(xs.length:Int):=by omega
   have b1:=hbel.alloc hbel.size (.cells #[.string x.own,.int .i64 x.ty,.int .i64 x.cl,.int .i64 x.tt,.string x.da] 33);have hcc:=HC.out x lab _ b1 hlab ho hd;have HX:=Nm.hide hxk;obtain⟨C,HCC⟩:∃ C,Hid (C=cnC (zoneT os) o x):=⟨_,rfl⟩;rw [<- HCC.out] at hcc;clear hcell hc put hmem hlab ho hd HC HW HOK hf hxk
   by_cases hC:C=0
   ·have HA2:Hid (∀ j y,j<k+1->xs[j]? =some y->cnC (zoneT os) o y=0):=by
     intro j y hj hy
     rcases Nat.lt_or_eq_of_le (Nat.le_of_lt_succ hj) with h|h
     ·exact HA.out j y h hy
     ·subst h;rw [HX.out] at hy;obtain rfl:=Option.some.inj hy;rw [<- HCC.out,hC]
    subst hC;clear HA HR HCC HX;obtain⟨ow,ty,cl,tt,da⟩:=x;simp only at*
    go_wp2_with fail
    refine hcc.mono ?_;rintro e w1 ⟨rfl,b2⟩;have bw:=Nm.below_two b1 b2;go_wp2;go_roundw
    case rel=>exact⟨k+1,by omega,by go_num,HA2,bw⟩
    case measure=>simp [intOf];omega
   ·have HN:Hid (R=C):=by
     show _=_
     rw [HR.out,cnS,cnF_at HA.out HX.out (by rw [<- HCC.out];exact hC),Option.getD_some,HCC.out]
    have e1:(C != 0)=true:=by simpa using hC
    clear HA HR HCC HX hC;obtain⟨ow,ty,cl,tt,da⟩:=x;simp only at*
    go_wp2_with fail
    refine hcc.mono ?_;rintro e w1 ⟨rfl,b2⟩;have bw:=Nm.below_two b1 b2;go_wp2;go_ret;rw [HN.out];exact⟨rfl,bw⟩
  ·have hkl:k=xs.length:=by omega
   subst hkl
   have HN:Hid (R=if xs.any (bdB (zoneT os) xs)=true then 8 else 0):=by
    show _=_
    rw [HR.out,cnS,cnF_none (fun r hr=>by
     obtain⟨j,hj,rfl⟩:=List.mem_iff_getElem.1 hr
     exact HA.out j _ hj (List.getElem?_eq_getElem hj))]
    rfl
   have hw:=HW.out _ hbel;rw [<- HN.out] at hw;clear HA HR hc HW HC HN HOK hf;have i2:¬(xs.length:Int)<(xs.length:Int):=by omega
   go_wp2_with fail
   refine hw.mono ?_;rintro e w1 ⟨rfl,b2⟩;have bw:=Nm.below_two hbel b2;go_wp2;go_ret;exact⟨rfl,bw⟩
end
def cnB(ps:List Zp)(o:ByteArray)(xs:List Rr):Bool:=zOK ps o&&listB xs
def cnR(ps:List Zp)(o:ByteArray)(xs:List Rr):Int×Int:=if cnB ps o xs=true then(cnS (ps.map (·.1)) o xs,0) else(0,32)
set_option maxRecDepth 100000 in
set_option maxHeartbeats 3200000 in
theorem implCheckConditions_any(o:ByteArray)(v u:Value)(ps:List Zp)(xs:List Rr)(w:World)(h:ZRow w v ps)(hs:zsum ps<=1048576)(hf:∀ p∈ps,p.1.own.size<=1048576∧∀ x∈p.1.da,x.size<=1048576)(ha:o.size<=1000000000)(hr:CRow w u xs.length 5 (rvVs xs))(hx:∀ r∈xs,r.own.size<=1048576∧r.da.size<=1048576):
 Calls Tryz.prog 8 #[.agg #[.string o,v],u] w fun e w'=>e=.returned (.tuple #[.int .i64 (cnR ps o xs).1,.int .i64 (cnR ps o xs).2])∧Below w.heap.size w w':=by
 obtain⟨va,vc,rfl⟩:∃ va vc,v=.slice va ps.length vc:=by obtain⟨⟨_,a,c,e,_⟩,_⟩:=h;exact⟨a,c,e⟩
 have b0:=(Below.refl w.heap.size w).alloc (Nat.le_refl _) (.cells #[.string o,.slice va ps.length vc] 25);have k0:=blk_new w #[.string o,.slice va ps.length vc] 25;have r0:=fun i=>blk_cell k0 i
 have hop:=openZone_any o (.slice va ps.length vc) ps _ (h.below b0) hs hf ha;have hso:=fun W (hW:Below w.heap.size w W)=>isSound_any u xs W (hr.below hW) hx
 have HCR:=Nm.hide (fun W (hW:Below w.heap.size w W)=>hr.below hW);obtain⟨ua,uc,rfl⟩:∃ ua uc,u=.slice ua xs.length uc:=by obtain⟨_,a,c,e,_⟩:=hr;exact⟨a,c,e⟩
 obtain⟨R,HR⟩:∃ R,Hid (R=cnR ps o xs):=⟨_,rfl⟩;rw [<- HR.out];clear h hf hs hr;go_enter Tryz.func8,Tryz.ntmps8;go_wp2_with fail
 refine hop.mono ?_;rintro e w1 ⟨hb1,⟨hz,rfl⟩|⟨hz,bb,lv,th,ys,aa,ac,labv,rv,os,kv,ks,B,rfl,hP⟩⟩
 ·have HN:Hid (R=(0,32)):=by show _=_;rw [HR.out,cnR,if_neg (by simp [cnB,hz])]
  have bw1:=Nm.below_two b0 hb1;clear HR hz hop k0 r0 hso HCR;obtain⟨R1,R2⟩:=R;go_wp2;go_ret2;obtain⟨rfl,rfl⟩:=Prod.mk.inj HN.out;exact⟨rfl,bw1⟩
 ·have bw1:=Nm.below_two b0 hb1;have hso1:=hso w1 bw1
  cases hlb:listB xs with
  |false=>
   have HN:Hid (R=(0,32)):=by show _=_;rw [HR.out,cnR,if_neg (by simp [cnB,hlb])]
   rw [hlb] at hso1;clear HR hz hop k0 r0 hso HCR hP;obtain⟨R1,R2⟩:=R;go_wp2_with fail
   refine hso1.mono ?_;rintro e w2 ⟨rfl,b2⟩;have bw2:=Nm.below_two bw1 b2;go_wp2;go_ret2;obtain⟨rfl,rfl⟩:=Prod.mk.inj HN.out
   exact⟨rfl,bw2⟩
  |true=>
   have hzs:ps.map (·.1)=zoneT os:=by rw [<- (zOK_recs hz).2,zone_eq hP.st.inv hP.good.1 hP.mix]
   have hT:=tz_of hP.st.inv hP.good.1 hP.good.2 hP.ap hz hzs;have hlb2:xs.length<=400∧xs.all rcOK=true:=by simpa only [listB,Bool.and_eq_true,decide_eq_true_eq] using hlb
   have HN:Hid (R=(cnS (zoneT os) o xs,0)):=by show _=_;rw [HR.out,cnR,if_pos (by simp [cnB,hlb,hz]),hzs]
   have HK:=Nm.hide (fun W (hW:Below w1.heap.size w1 W)=>checkConditions_any (.slice ua xs.length uc) xs W (hP.below hW) hT (HCR.out W (Nm.below_two bw1 hW)) hlb2.1 hlb2.2 hx);rw [hlb] at hso1;clear HR hz hop k0 r0 hso HCR hP hlb hlb2 hT hzs;obtain⟨R1,R2⟩:=R;go_wp2_with fail
   refine hso1.mono ?_;rintro e w2 ⟨rfl,b2⟩;have bw2:=Nm.below_two bw1 b2;have hk:=HK.out w2 b2;obtain⟨e1,e2⟩:=Prod.mk.inj HN.out;rw [<- e1] at hk;subst e2;clear e1 HN HK;go_wp2_with fail
   refine hk.mono ?_;rintro e w3 ⟨rfl,b3⟩;have bw3:=Nm.below_two bw2 b3;go_wp2;go_ret2;exact⟨rfl,bw3⟩
theorem one_all{r:Rr}{o:ByteArray}(h:oneC r o=0):(Nm.split r.own).isSome=true∧r.cl=1∧0<=r.tt∧r.tt<=2147483647∧metaB r.ty=false∧0<=r.ty∧r.ty<=65535∧cutCode r.ty r.da=0∧isUnderS r.own o=true:=by
 rw [oneC] at h
 split at h
 ·exact absurd h (by simp)
 ·rename_i h1
  split at h
  ·exact absurd h (by simp)
  ·rename_i h2
   split at h
   ·exact absurd h (by simp)
   ·rename_i h3
    split at h
    ·exact absurd h (by simp)
    ·rename_i h4
     split at h
     ·exact absurd h (by simp)
     ·rename_i h5
      split at h
      ·exact absurd h (by simp)
      ·rename_i h6;simp at h3;refine⟨?_,by omega,by omega,by omega,?_,by omega,by omega,by omega,?_⟩
       ·cases hh:(Nm.split r.own).isSome with
        |true=>rfl
        |false=>exact absurd hh h1
       ·cases hh:metaB r.ty with
        |false=>rfl
        |true=>exact absurd (.inl hh) h4
       ·cases hh:isUnderS r.own o with
        |true=>rfl
        |false=>exact absurd hh h6
theorem same_self{a:ByteArray}(h:(Nm.split a).isSome=true):sameS a a=true:=by
 obtain⟨ls,hl⟩:=Option.isSome_iff_exists.1 h;rw [same_cmp hl hl,cmpLs_self];rfl
section
variable {ps:List Zp}{o:ByteArray}
theorem rec_at{r:Rr}(h:r∈recsAll ps):∃ (i:Nat) (p:Zp),ps[i]? =some p∧r.own=p.1.own∧r.ty=p.1.ty∧r.da∈p.1.da:=by
 rw [recsAll,List.mem_flatMap] at h;obtain⟨p,hp,hr⟩:=h;obtain⟨i,hi⟩:=List.getElem?_of_mem hp;rw [recsOf,List.mem_map] at hr;obtain⟨d,hd,rfl⟩:=hr;exact⟨i,p,hi,rfl,rfl,hd⟩
theorem rec_of{p:Zp}(hp:p∈ps){d:ByteArray}(hd:d∈p.1.da):(⟨p.1.own,p.1.ty,1,p.1.tt,d⟩:Rr)∈recsAll ps:=by
 rw [recsAll,List.mem_flatMap];exact⟨p,hp,List.mem_map.2 ⟨d,hd,rfl⟩⟩
theorem fnd_self(hz:zOK ps o=true){i:Nat}{p:Zp}(hi:ps[i]? =some p)(hs:sameS p.1.own p.1.own=true):fndZ (ps.map (·.1)) p.1.own p.1.ty=some p.1:=by
 cases e:fndZ (ps.map (·.1)) p.1.own p.1.ty with
 |none=>
  rw [fndZ,List.find?_eq_none] at e;have:=e p.1 (List.mem_map_of_mem (List.mem_of_getElem? hi))
  simp [hs] at this
 |some s=>
  have h1:=List.find?_some e;simp only [Bool.and_eq_true,decide_eq_true_eq] at h1;obtain⟨q,hq,rfl⟩:=List.mem_map.1 (List.mem_of_find?_eq_some e);obtain⟨j,hj⟩:=List.getElem?_of_mem hq;have:=zOK_key hz hj hi h1.1 h1.2;subst this;rw [hj] at hi;rw [Option.some.inj hi]
def z0R(r:Rr):Rr:=⟨r.own,r.ty,r.cl,0,r.da⟩
def anR(r:Rr):Rr:=⟨r.own,255,255,0,⟨#[]⟩⟩
def wishL(rs:List Rr):List Rr:=rs.map z0R++rs.reverse.map anR
theorem wish_mem{rs:List Rr}{x:Rr}:x∈wishL rs↔ ∃ r∈rs,x=z0R r∨x=anR r:=by
 simp only [wishL,List.mem_append,List.mem_map,List.mem_reverse];constructor
 ·rintro(⟨r,hr,rfl⟩|⟨r,hr,rfl⟩)
  ·exact⟨r,hr,.inl rfl⟩
  ·exact⟨r,hr,.inr rfl⟩
 ·rintro⟨r,hr,rfl|rfl⟩
  ·exact .inl ⟨r,hr,rfl⟩
  ·exact .inr ⟨r,hr,rfl⟩
theorem wish_ex(hz:zOK ps o=true){r:Rr}(hr:r∈recsAll ps):exB (ps.map (·.1)) (wishL (recsAll ps)) r.own r.ty=true:=by
 have h1:=zero_one (zOK_recs hz).1;rw [zOK_small hz] at h1;obtain⟨i,p,hi,e1,e2,e3⟩:=rec_at hr;have hsp:sameS p.1.own p.1.own=true:=by rw [<- e1];exact same_self (one_all (h1 r hr)).1
 rw [exB,sam_iff,e1,e2,seD,fnd_self hz hi hsp,Option.getD_some];intro x;rw [wnt,List.mem_map,List.mem_map];constructor
 ·rintro⟨y,hy,rfl⟩
  rw [List.mem_filter] at hy;obtain⟨hm,hw⟩:=hy;simp only [wtB,Bool.and_eq_true,decide_eq_true_eq] at hw;obtain⟨r',hr',rfl|rfl⟩:=wish_mem.1 hm
  ·obtain⟨j,q,hj,f1,f2,f3⟩:=rec_at hr';have hk:=zOK_key hz hj hi (by rw [<- f2];exact hw.1.2) (by rw [<- f1];exact hw.2);subst hk;rw [hj] at hi;obtain rfl:=Option.some.inj hi;exact⟨r'.da,f3,rfl⟩
  ·exact absurd hw.1.1 (by simp [anR])
 ·rintro⟨d,hd,rfl⟩
  have hm:=rec_of (List.mem_of_getElem? hi) hd;refine⟨z0R ⟨p.1.own,p.1.ty,1,p.1.tt,d⟩,List.mem_filter.2 ⟨wish_mem.2 ⟨_,hm,.inl rfl⟩,?_⟩,rfl⟩;simp [wtB,z0R,hsp]
theorem wish_has(hz:zOK ps o=true){r:Rr}(hr:r∈recsAll ps):hasN (ps.map (·.1)) r.own=true:=by
 have h1:=zero_one (zOK_recs hz).1;rw [zOK_small hz] at h1;obtain⟨i,p,hi,e1,e2,e3⟩:=rec_at hr;have hsp:sameS p.1.own p.1.own=true:=by rw [<- e1];exact same_self (one_all (h1 r hr)).1
 rw [hasN,decide_eq_true_eq,typZ,List.length_map,e1];exact List.length_pos_of_mem (List.mem_filter.2 ⟨List.mem_map_of_mem (List.mem_of_getElem? hi),hsp⟩)
theorem cn_wish(hz:zOK ps o=true)(hl:(recsAll ps).length<=200):cnR ps o (wishL (recsAll ps))=(0,0):=by
 have h1:=zero_one (zOK_recs hz).1;rw [zOK_small hz] at h1
 have hb:listB (wishL (recsAll ps))=true:=by
  rw [listB,Bool.and_eq_true,decide_eq_true_eq,List.all_eq_true];refine⟨by simp [wishL];omega,fun x hx=>?_⟩;obtain⟨r,hr,e⟩:=wish_mem.1 hx;obtain⟨a1,a2,a3,a4,a5,a6,a7,a8,a9⟩:=one_all (h1 r hr)
  rcases e with rfl|rfl
  ·simp [rcOK,z0R,inB,a1,a2,a6,a7,a8]
  ·simp [rcOK,anR,inB,a1,ByteArray.size]
 have hc:∀ x∈wishL (recsAll ps),cnC (ps.map (·.1)) o x=0:=by
  intro x hx;obtain⟨r,hr,e⟩:=wish_mem.1 hx;obtain⟨a1,a2,a3,a4,a5,a6,a7,a8,a9⟩:=one_all (h1 r hr)
  rcases e with rfl|rfl
  ·simp [cnC,z0R,a9,a2,ownB,a5,a8]
  ·simp [cnC,anR,a9,wish_has hz hr,ByteArray.size]
 have hbd:(wishL (recsAll ps)).any (bdB (ps.map (·.1)) (wishL (recsAll ps)))=false:=by
  rw [List.any_eq_false];intro x hx;obtain⟨r,hr,e⟩:=wish_mem.1 hx
  rcases e with rfl|rfl
  ·have:=wish_ex hz hr;simp [bdB,z0R,this]
  ·simp [bdB,anR]
 rw [cnR,if_pos (by rw [cnB,hz,hb];rfl),cnS,cnF_none hc,hbd];rfl
theorem cn_one(hz:zOK ps o=true){name:ByteArray}(hu:isUnderS name o=true)(hn:(Nm.split name).isSome=true)(c:Int)(hc:c=254∨c=255):cnR ps o [⟨name,255,c,0,⟨#[]⟩⟩]=(if c=254 then(if 0<(typZ (ps.map (·.1)) name).length then 6 else 0) else(if 0<(typZ (ps.map (·.1)) name).length then 0 else 3),0):=by
 have hb:listB [(⟨name,255,c,0,⟨#[]⟩⟩:Rr)]=true:=by
  rcases hc with rfl|rfl<;>simp [listB,rcOK,inB,hn,ByteArray.size]
 rw [cnR,if_pos (by rw [cnB,hz,hb];rfl),cnS,cnF,cnF]
 rcases hc with rfl|rfl
 ·by_cases h:0<(typZ (ps.map (·.1)) name).length
  ·simp [cnC,hu,hasN,h,ByteArray.size]
  ·simp [cnC,hu,hasN,h,ByteArray.size,bdB]
 ·by_cases h:0<(typZ (ps.map (·.1)) name).length
  ·simp [cnC,hu,hasN,h,ByteArray.size,bdB]
  ·simp [cnC,hu,hasN,h,ByteArray.size]
end
def NdP(r:Nd×Int)(w:World)(e:Ending)(w':World):Prop:=∃ u,e=.returned (.tuple #[.agg #[.int .i64 r.1.kd,.string r.1.clo,.string r.1.cut,u],.int .i64 r.2])∧w'.ownsRow w.heap.size 2 1 u r.1.ty.length (intCells r.1.ty)∧Below w.heap.size w w'
theorem ndP_none{w w':World}(h:Below w.heap.size w w'):NdP (nd0,32) w (.returned (.tuple #[.agg #[.int .i64 0,.string ⟨#[]⟩,.string ⟨#[]⟩,.slice none 0 0],.int .i64 32])) w':=
 ⟨_,rfl,World.ownsRow_nil _ _ _ _,h⟩
theorem zOK_ap{ps:List Zp}{o:ByteArray}(hz:zOK ps o=true):∃ al,Nm.split o=some al:=by
 have h0:=(zOK_recs hz).1
 cases hq:Nm.split o with
 |some al=>exact⟨al,rfl⟩
 |none=>rw [bldE,if_pos (by rw [hq];rfl)] at h0;exact absurd h0 (by decide)
set_option maxRecDepth 100000 in
set_option maxHeartbeats 1600000 in
theorem specFindNode_any(o name:ByteArray)(v:Value)(ps:List Zp)(w:World)(h:ZRow w v ps)(hs:zsum ps<=1048576)(hl:ps.length<=1048576)(hf:∀ p∈ps,p.1.own.size<=1048576∧∀ x∈p.1.da,x.size<=1048576)(ha:o.size<=maxLen)(hn:name.size<=maxLen):
 Calls Tryz.prog 9 #[.agg #[.string o,v],.string name] w (NdP (ndR ps o name) w):=by
 obtain⟨va,vc,rfl⟩:∃ va vc,v=.slice va ps.length vc:=by obtain⟨⟨_,a,c,e,_⟩,_⟩:=h;exact⟨a,c,e⟩
 have b0:=(Below.refl w.heap.size w).alloc (Nat.le_refl _) (.cells #[.string o,.slice va ps.length vc] 25);have b1:=b0.alloc b0.size (.cells #[.int .i64 0,.string ⟨#[]⟩,.string ⟨#[]⟩,.slice none 0 0] 38);have k0:=blk_alloc (blk_new w #[.string o,.slice va ps.length vc] 25) (.cells #[.int .i64 0,.string ⟨#[]⟩,.string ⟨#[]⟩,.slice none 0 0] 38);have kS:=blk_new (w.alloc (.cells #[.string o,.slice va ps.length vc] 25)) #[.int .i64 0,.string ⟨#[]⟩,.string ⟨#[]⟩,.slice none 0 0] 38;rw [World.size_alloc] at kS;have hck:=specCheckZone_any o (.slice va ps.length vc) ps _ (h.below b1) hs hl hf ha;have HOK:=Nm.hide (fun W=>specNameOK_any name W hn)
 have HND:Hid (∀ lab,Nm.split name=some lab->zOK ps o=true->∀ W,Below w.heap.size w W->Calls Tryz.prog 23 #[.agg #[.string o,.slice va ps.length vc],.string name] W (NdV (ndZ ps o name) W)):=fun lab hlab hz W hW=>by
  obtain⟨al,hal⟩:=zOK_ap hz;exact l06Node_any o name lab _ ps W (h.below hW) hl (fun p hp=>(hf p hp).1) hlab ha (fun hu=>thz_ex hz hal hlab (by rw [<- isUnder_some hlab hal];exact hu))
 have r0:=fun i=>blk_cell k0 i
 obtain⟨R,hR⟩:∃ R,R=ndR ps o name:=⟨_,rfl⟩;have HR:=Nm.hide hR;rw [<- hR];clear h hf hs b0 hR
 cases hz:zOK ps o with
 |false=>
  rw [hz] at hck;simp only [Bool.false_eq_true,if_false] at hck;have hR0:R=(nd0,32):=by rw [HR.out,ndR,if_neg (by rw [hz];simp)]
  subst hR0;clear hz HND HR;go_enter Tryz.func9,Tryz.ntmps9;go_wp2_with fail
  refine hck.mono ?_;rintro e w1 ⟨rfl,hb1⟩;have kS1:=blk_below kS hb1;have rz:=fun i=>blk_cell kS1 i
  have fz:=fun i=>blk_frozen kS1 i
  obtain⟨k4,-,bw4⟩:=node_store (kd:=0) (x:=⟨#[]⟩) (y:=⟨#[]⟩) kS1 (World.ownsRow_nil w1 0 2 1) (by simp [Value.ownBlock]) (Nm.below_two b1 hb1) (Nat.le_succ _);have rk:=fun i=>blk_cell k4 i
  have HP:=Nm.hide (ndP_none bw4);clear kS kS1 k0 r0 k4 bw4 hck;go_wp2_with fail
  refine bodyPost_ret (v:=.tuple #[.agg #[.int .i64 0,.string ⟨#[]⟩,.string ⟨#[]⟩,.slice none 0 0],.int .i64 32]) ?_ rfl HP.out
  simp [results,Tryz.f9,go_sem,rk]
 |true=>
  rw [hz] at hck;simp only [if_true] at hck;have HZ:=Nm.hide hz;have hok:=HOK.out;clear hz;go_enter Tryz.func9,Tryz.ntmps9;go_wp2_with fail
  refine hck.mono ?_;rintro e w1 ⟨rfl,hb1⟩;have bw1:=Nm.below_two b1 hb1;have kS1:=blk_below kS hb1;have k1:=blk_below k0 hb1;clear hck kS k0 r0 b1 hb1
  cases hsn:Nm.split name with
  |none=>
   rw [hsn] at hok;have hR0:R=(nd0,32):=by rw [HR.out,ndR,if_neg (by rw [hsn];simp)]
   subst hR0;simp only [Option.isSome_none] at hok;clear hsn HND HR HZ;go_wp2_with fail
   refine(hok _).mono ?_;rintro e w2 ⟨rfl,b2⟩;have kS2:=blk_below kS1 b2;have rz:=fun i=>blk_cell kS2 i
   have fz:=fun i=>blk_frozen kS2 i
   obtain⟨k4,-,bw4⟩:=node_store (kd:=0) (x:=⟨#[]⟩) (y:=⟨#[]⟩) kS2 (World.ownsRow_nil w2 0 2 1) (by simp [Value.ownBlock]) (Nm.below_two bw1 b2) (Nat.le_succ _);have rk:=fun i=>blk_cell k4 i
   have HP:=Nm.hide (ndP_none bw4);clear kS1 kS2 k1 k4 bw4 hok;go_wp2_with fail
   refine bodyPost_ret (v:=.tuple #[.agg #[.int .i64 0,.string ⟨#[]⟩,.string ⟨#[]⟩,.slice none 0 0],.int .i64 32]) ?_ rfl HP.out
   simp [results,Tryz.f9,go_sem,rk]
  |some lab=>
   rw [hsn] at hok;have hR1:R=(ndZ ps o name,0):=by rw [HR.out,ndR,if_pos ⟨HZ.out,by rw [hsn];rfl⟩]
   have HN:=Nm.hide (HND.out lab hsn HZ.out);simp only [Option.isSome_some] at hok;subst hR1;clear hsn HND HR HZ;generalize ndZ ps o name=N at*;obtain⟨kd,x,y,l⟩:=N;go_wp2_with fail
   refine(hok _).mono ?_;rintro e w2 ⟨rfl,b2⟩;have kS2:=blk_below kS1 b2;have k2:=blk_below k1 b2;have r2:=fun i=>blk_cell k2 i
   have bw2:=Nm.below_two bw1 b2;have hnd:=HN.out _ bw2;clear kS1 k1 bw1 b2 HN hok;go_wp2_with fail
   refine hnd.mono ?_;rintro e w3 ⟨u,rfl,hou,b3⟩;obtain⟨ua,uc,eu⟩:=own_sl hou;subst eu;have kS3:=blk_below kS2 b3;have rz:=fun i=>blk_cell kS3 i
   have fz:=fun i=>blk_frozen kS3 i
   obtain⟨k4,ho4,bw4⟩:=node_store (kd:=kd) (x:=x) (y:=y) kS3 hou (fun e=>by have h1:=(hou.lt _ e).1;have h2:=blk_lt kS2;omega) (Nm.below_two bw2 b3) (Nat.le_succ _);have rk:=fun i=>blk_cell k4 i
   have HP:Hid (NdP (⟨kd,x,y,l⟩,0) w (.returned (.tuple #[.agg #[.int .i64 kd,.string x,.string y,.slice ua l.length uc],.int .i64 0])) _):=⟨_,rfl,own_base ho4 bw2.size,bw4⟩;clear kS2 kS3 k4 ho4 bw4 hou hnd k2 r2;simp only at*
   go_wp2_with fail
   refine bodyPost_ret (v:=.tuple #[.agg #[.int .i64 kd,.string x,.string y,.slice ua l.length uc],.int .i64 0]) ?_ rfl HP.out;simp [results,Tryz.f9,go_sem,rk]
def DfP(w:World)(e:Ending)(w':World):Prop:=∃ (o name:ByteArray) (v:Value) (ps:List Zp),e=.returned (.tuple #[.agg #[.string o,v],.string name])∧o.size<=2000∧name.size<=2000∧ZL ps∧ZRow w' v ps∧Below w.heap.size w w'
def lstK(rs:List Rr)(j:Nat):List Rr:=rs.take j++((rs.drop j).map z0R++(rs.drop j).reverse.map anR)
theorem lst_len{rs:List Rr}{j:Nat}(h:j<=rs.length):(lstK rs j).length=rs.length+(rs.length-j):=by
 simp [lstK]
 omega
theorem lst_end(rs:List Rr):lstK rs rs.length=rs:=by simp [lstK]
theorem lst_all(rs:List Rr):lstK rs 0=wishL rs:=by simp [lstK,wishL]
theorem lst_at{rs:List Rr}{j:Nat}{x:Rr}(h:rs[j]? =some x):(lstK rs (j+1))[j]? =some x:=by
 have hl:=(List.getElem?_eq_some_iff.1 h).1;rw [lstK,List.getElem?_append_left (by simp;omega),List.getElem?_take,if_pos (by omega),h]
theorem lst_step{rs:List Rr}{j:Nat}{x:Rr}(h:rs[j]? =some x):lstK rs j=(lstK rs (j+1)).set j (z0R x)++[anR x]:=by
 obtain⟨hl,he⟩:=List.getElem?_eq_some_iff.1 h;have hd:rs.drop j=x::rs.drop (j+1):=by rw [<- he,List.getElem_cons_drop]
 have ht:rs.take (j+1)=rs.take j++[x]:=by rw [List.take_add_one,h];rfl
 have hjl:(rs.take j).length=j:=by simp;omega
 rw [lstK,lstK,hd,ht,List.append_assoc,List.set_append_right _ _ (by omega),hjl,Nat.sub_self];simp
theorem rvs_set:∀ (l:List Rr) (j:Nat) (x:Rr),l[j]? =some x->(rvVs l).set (j*5+3) (.int .i64 0)=rvVs (l.set j (z0R x))
 |[],j,x,h=>by simp at h
 |r::l,0,x,h=>by
  simp at h;subst h
  rfl
 |r::l,j+1,x,h=>by
  have ih:=rvs_set l j x (by simpa using h);have e:rvVs (r::l)=rvV r++rvVs l:=rfl;have e2:(j+1)*5+3=(rvV r).length+(j*5+3):=by simp [rvV];omega
  rw [e,e2,List.set_append_right _ _ (by omega),Nat.add_sub_cancel_left,ih];rfl
theorem rec_fit{ps:List Zp}(h:ZL ps):∀ r∈recsAll ps,r.own.size<=1048576∧r.da.size<=1048576:=by
 intro r hr;obtain⟨i,p,hi,e1,e2,e3⟩:=rec_at hr;have:=h.2.2 p (List.mem_of_getElem? hi);rw [e1];exact⟨this.1,this.2.2 _ e3⟩
theorem one_row(w:World)(r:Rr):CRow (w.alloc (.cells #[.string r.own,.int .i64 r.ty,.int .i64 r.cl,.int .i64 r.tt,.string r.da] 33)) (.slice (some ⟨w.heap.size,0,none⟩) 1 1) [r].length 5 (rvVs [r]):=
 CRow.of_owns (World.ownsRow_lit (base:=0) (e:=33) (size:=5) w #[.string r.own,.int .i64 r.ty,.int .i64 r.cl,.int .i64 r.tt,.string r.da] 1 (Nat.zero_le _) (by decide) rfl)
end Go.Proofs.YtfmolgdfjklmpaaGreat
