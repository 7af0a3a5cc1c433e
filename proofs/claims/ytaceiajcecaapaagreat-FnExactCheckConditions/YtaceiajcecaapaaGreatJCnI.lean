import Derived.Test.YtaceiajcecaapaaGreatJCnA
import Derived.Test.YtaceiajcecaapaaGreatCnW
import Derived.Test.YtaceiajcecaapaaGreatJBzZ
import Derived.Test.YtaceiajcecaapaaGreatJBzD
import Derived.Test.YtaceiajcecaapaaGreatCnE
import Derived.Test.YtaceiajcecaapaaGreatJCzX
import Derived.Test.YtaceiajcecaapaaGreatJCzS
namespace Go.Proofs.YtaceiajcecaapaaGreat
open Go.RowKit
set_option linter.unusedVariables false
theorem rc_fit{r:Rr}(h:rcOK r=true):(Nm.split r.own).isSome=true∧(Lit.int .i64 r.ty).wf=true:=by
 simp only [rcOK,inB,Bool.and_eq_true,decide_eq_true_eq] at h;refine⟨h.1.1.1.1,?_⟩;have h1:=h.1.1.1.2;have e1:IntKind.i64.min= -9223372036854775808:=by decide
 have e2:IntKind.i64.max=9223372036854775807:=by decide
 simp only [Lit.wf,Bool.and_eq_true,decide_eq_true_eq,e1,e2];omega
section
variable {list:List Rr}{o:ByteArray}{bb:Nat}{lv:Value}{th:Nat}{ys:List ByteArray}{aa:Option Addr}{ac:Nat}{labv rv:Value}{os:List GOw}{kv:Value}{ks:List Ld}{B:Nat}
set_option maxRecDepth 100000 in
set_option maxHeartbeats 3200000 in
theorem checkConditions_any(u:Value)(xs:List Rr)(w:World)(hP:P3 list o bb lv th ys aa ac labv rv os kv ks B w)(hz:TZ os o ys)(hr:CRow w u xs.length 5 (rvVs xs))(hl:xs.length<=400)(hok:xs.all rcOK=true)(hf:∀ r∈xs,r.own.size<=1048576∧r.da.size<=1048576):
 Calls Tryz.prog 21 #[.pointer (some ⟨bb,3,none⟩),u] w fun e w'=>e=.returned (.int .i64 (cnS (zoneT os) o xs))∧Below w.heap.size w w':=by
 have HOK:Hid (∀ r∈xs,(Nm.split r.own).isSome=true∧(Lit.int .i64 r.ty).wf=true):=fun r hr=>rc_fit (List.all_eq_true.1 hok r hr)
 have HW:=Nm.hide (fun W (hW:Below w.heap.size w W)=>checkWanted_any u xs W (hP.below hW) (hr.below hW) hl (fun r h=>(HOK.out r h).1) (fun r h=>⟨(hf r h).1,(hf r h).2,(HOK.out r h).2⟩));have HC:=Nm.hide (fun(r:Rr) (lab:List ByteArray) W (hW:Below w.heap.size w W) (hn:Nm.split r.own=some lab) (h1:r.own.size<=1048576) (h2:r.da.size<=1048576)=>checkCondition_any r lab W (hP.below hW) hz hn h1 h2);obtain⟨_,a,cap,rfl,hcap,hmx,hc⟩:=hr;unfold maxLen at hmx;obtain⟨R,HR⟩:∃ R,Hid (R=cnS (zoneT os) o xs):=⟨_,rfl⟩;rw [<- HR.out];clear hP hz hok;go_enter Tryz.func21,Tryz.ntmps21;go_wp2_with fail
 go_loopw [10] (fun i wr=>∃ k:Nat,k<=xs.length∧i=.int .i64 k∧Hid (∀ j y,j<k->xs[j]? =some y->cnC (zoneT os) o y=0)∧Below w.heap.size w wr) (fun i _=>xs.length-(intOf i).toNat)
 case atStart=>exact⟨0,Nat.zero_le _,rfl,fun j y hj _=>absurd hj (Nat.not_lt_zero _),Below.refl _ _⟩
 case round=>
  obtain⟨k,hk,rfl,HA,hbel⟩:=hrel
  by_cases hlt:k<xs.length
  ·obtain⟨x,hxk⟩:∃ x,xs[k]? =some x:=⟨_,List.getElem?_eq_getElem hlt⟩;obtain⟨b,off,rfl,hcell⟩:=hc (by omega);obtain⟨c0,c1,c2,c3,c4⟩:=rv_cells hcell hxk;have put:∀ {O:Nat} {z:Value},w.cell? ⟨b,O,none⟩=some z->wr.cell? ⟨b,O,none⟩=some z:=fun h=>(hbel.cell (World.block_lt_of_cell? w _ h)).trans h
   replace c0:=put c0
   replace c1:=put c1
   replace c2:=put c2
   replace c3:=put c3
   replace c4:=put c4
   have hmem:=List.mem_of_getElem? hxk;obtain⟨ho,hd⟩:=hf x hmem;obtain⟨lab,hlab⟩:=Option.isSome_iff_exists.1 (HOK.out x hmem).1;have i1:(0:Int)<=(k:Int):=by omega
   have i2:(k:Int)<(xs.length:Int):=by omega
   have b1:=hbel.alloc hbel.size (.cells #[.string x.own,.int .i64 x.ty,.int .i64 x.cl,.int .i64 x.tt,.string x.da] 47);have hcc:=HC.out x lab _ b1 hlab ho hd;have HX:=Nm.hide hxk;obtain⟨C,HCC⟩:∃ C,Hid (C=cnC (zoneT os) o x):=⟨_,rfl⟩;rw [<- HCC.out] at hcc;clear hcell hc put hmem hlab ho hd HC HW HOK hf hxk
   by_cases hC:C=0
   ·have HA2:Hid (∀ j y,j<k+1->xs[j]? =some y->cnC (zoneT os) o y=0):=by
     intro j y hj hy
     rcases Nat.lt_or_eq_of_le (Nat.le_of_lt_succ hj) with h|h
     ·exact HA.out j y h hy
     ·subst h;rw [HX.out] at hy;obtain rfl:=Option.some.inj hy;rw [<- HCC.out,hC]
    subst hC;clear HA HR HCC HX;obtain⟨ow,ty,cl,tt,da⟩:=x;simp only at*
    go_wp2_with fail
    refine hcc.mono ?_;rintro e w1 ⟨rfl,b2⟩;have bw:=Nm.below_two b1 b2;go_wp2;go_roundw
    case rel=>exact⟨k+1,by omega,by go_num,HA2,bw⟩
    case measure=>simp [intOf];omega
   ·have HN:Hid (R=C):=by
     show _=_
     rw [HR.out,cnS,cnF_at HA.out HX.out (by rw [<- HCC.out];exact hC),Option.getD_some,HCC.out]
    have e1:(C != 0)=true:=by simpa using hC
    clear HA HR HCC HX hC;obtain⟨ow,ty,cl,tt,da⟩:=x;simp only at*
    go_wp2_with fail
    refine hcc.mono ?_;rintro e w1 ⟨rfl,b2⟩;have bw:=Nm.below_two b1 b2;go_wp2;go_ret;rw [HN.out];exact⟨rfl,bw⟩
  ·have hkl:k=xs.length:=by omega
   subst hkl
   have HN:Hid (R=if xs.any (bdB (zoneT os) xs)=true then 8 else 0):=by
    show _=_
    rw [HR.out,cnS,cnF_none (fun r hr=>by
     obtain⟨j,hj,rfl⟩:=List.mem_iff_getElem.1 hr
     exact HA.out j _ hj (List.getElem?_eq_getElem hj))]
    rfl
   have hw:=HW.out _ hbel;rw [<- HN.out] at hw;clear HA HR hc HW HC HN HOK hf;have i2:¬(xs.length:Int)<(xs.length:Int):=by omega
   go_wp2_with fail
   refine hw.mono ?_;rintro e w1 ⟨rfl,b2⟩;have bw:=Nm.below_two hbel b2;go_wp2;go_ret;exact⟨rfl,bw⟩
end
def cnB(ps:List Zp)(o:ByteArray)(xs:List Rr):Bool:=zOK ps o&&listB xs
def cnR(ps:List Zp)(o:ByteArray)(xs:List Rr):Int×Int:=if cnB ps o xs=true then(cnS (ps.map (·.1)) o xs,0) else(0,32)
set_option maxRecDepth 100000 in
set_option maxHeartbeats 3200000 in
theorem implCheckConditions_any(o:ByteArray)(v u:Value)(ps:List Zp)(xs:List Rr)(w:World)(h:ZRow w v ps)(hs:zsum ps<=1048576)(hf:∀ p∈ps,p.1.own.size<=1048576∧∀ x∈p.1.da,x.size<=1048576)(ha:o.size<=1000000000)(hr:CRow w u xs.length 5 (rvVs xs))(hx:∀ r∈xs,r.own.size<=1048576∧r.da.size<=1048576):
 Calls Tryz.prog 9 #[.agg #[.string o,v],u] w fun e w'=>e=.returned (.tuple #[.int .i64 (cnR ps o xs).1,.int .i64 (cnR ps o xs).2])∧Below w.heap.size w w':=by
 obtain⟨va,vc,rfl⟩:∃ va vc,v=.slice va ps.length vc:=by obtain⟨⟨_,a,c,e,_⟩,_⟩:=h;exact⟨a,c,e⟩
 have b0:=(Below.refl w.heap.size w).alloc (Nat.le_refl _) (.cells #[.string o,.slice va ps.length vc] 32);have k0:=blk_new w #[.string o,.slice va ps.length vc] 32;have r0:=fun i=>blk_cell k0 i
 have hop:=openZone_any o (.slice va ps.length vc) ps _ (h.below b0) hs hf ha;have hso:=fun W (hW:Below w.heap.size w W)=>isSound_any u xs W (hr.below hW) hx
 have HCR:=Nm.hide (fun W (hW:Below w.heap.size w W)=>hr.below hW);obtain⟨ua,uc,rfl⟩:∃ ua uc,u=.slice ua xs.length uc:=by obtain⟨_,a,c,e,_⟩:=hr;exact⟨a,c,e⟩
 obtain⟨R,HR⟩:∃ R,Hid (R=cnR ps o xs):=⟨_,rfl⟩;rw [<- HR.out];clear h hf hs hr;go_enter Tryz.func9,Tryz.ntmps9;go_wp2_with fail
 refine hop.mono ?_;rintro e w1 ⟨hb1,⟨hz,rfl⟩|⟨hz,bb,lv,th,ys,aa,ac,labv,rv,os,kv,ks,B,rfl,hP⟩⟩
 ·have HN:Hid (R=(0,32)):=by show _=_;rw [HR.out,cnR,if_neg (by simp [cnB,hz])]
  have bw1:=Nm.below_two b0 hb1;clear HR hz hop k0 r0 hso HCR;obtain⟨R1,R2⟩:=R;go_wp2;go_ret2;obtain⟨rfl,rfl⟩:=Prod.mk.inj HN.out;exact⟨rfl,bw1⟩
 ·have bw1:=Nm.below_two b0 hb1;have hso1:=hso w1 bw1
  cases hlb:listB xs with
  |false=>
   have HN:Hid (R=(0,32)):=by show _=_;rw [HR.out,cnR,if_neg (by simp [cnB,hlb])]
   rw [hlb] at hso1;clear HR hz hop k0 r0 hso HCR hP;obtain⟨R1,R2⟩:=R;go_wp2_with fail
   refine hso1.mono ?_;rintro e w2 ⟨rfl,b2⟩;have bw2:=Nm.below_two bw1 b2;go_wp2;go_ret2;obtain⟨rfl,rfl⟩:=Prod.mk.inj HN.out
   exact⟨rfl,bw2⟩
  |true=>
   have hzs:ps.map (·.1)=zoneT os:=by rw [<- (zOK_recs hz).2,zone_eq hP.st.inv hP.good.1 hP.mix]
   have hT:=tz_of hP.st.inv hP.good.1 hP.good.2 hP.ap hz hzs;have hlb2:xs.length<=400∧xs.all rcOK=true:=by simpa only [listB,Bool.and_eq_true,decide_eq_true_eq] using hlb
   have HN:Hid (R=(cnS (zoneT os) o xs,0)):=by show _=_;rw [HR.out,cnR,if_pos (by simp [cnB,hlb,hz]),hzs]
   have HK:=Nm.hide (fun W (hW:Below w1.heap.size w1 W)=>checkConditions_any (.slice ua xs.length uc) xs W (hP.below hW) hT (HCR.out W (Nm.below_two bw1 hW)) hlb2.1 hlb2.2 hx);rw [hlb] at hso1;clear HR hz hop k0 r0 hso HCR hP hlb hlb2 hT hzs;obtain⟨R1,R2⟩:=R;go_wp2_with fail
   refine hso1.mono ?_;rintro e w2 ⟨rfl,b2⟩;have bw2:=Nm.below_two bw1 b2;have hk:=HK.out w2 b2;obtain⟨e1,e2⟩:=Prod.mk.inj HN.out;rw [<- e1] at hk;subst e2;clear e1 HN HK;go_wp2_with fail
   refine hk.mono ?_;rintro e w3 ⟨rfl,b3⟩;have bw3:=Nm.below_two bw2 b3;go_wp2;go_ret2;exact⟨rfl,bw3⟩
set_option maxRecDepth 100000 in
set_option maxHeartbeats 6400000 in
theorem l10Conditions_any(o:ByteArray)(v u:Value)(ps:List Zp)(xs:List Rr)(w:World)(h:ZRow w v ps)(hl:ps.length<=1048576)(hf:∀ p∈ps,p.1.own.size<=1048576∧p.1.da.length<=1048576)(ho:o.size<=1000000000)(hr:CRow w u xs.length 5 (rvVs xs))(hxl:xs.length<=400)(hx:∀ r∈xs,r.own.size<=1048576)(hnd:∀ n t,(seD (ps.map (·.1)) n t).Nodup):
 Calls Tryz.prog 16 #[.agg #[.string o,v],u] w fun e w'=>e=.returned (.int .i64 (cnS (ps.map (·.1)) o xs))∧Below w.heap.size w w':=by
 obtain⟨va,vc,rfl⟩:∃ va vc,v=.slice va ps.length vc:=by obtain⟨⟨_,a,c,e,_⟩,_⟩:=h;exact⟨a,c,e⟩
 have HC:=Nm.hide (fun(r:Rr) (hr':r∈xs) W (hW:Below w.heap.size w W)=>l10Condition_any o r _ ps W (h.below hW) hl hf ho (hx r hr'))
 have HE:Hid (∀ (r:Rr) (hr':r∈xs) W (hW:Below w.heap.size w W),Calls Tryz.prog 31 #[.agg #[.string o,.slice va ps.length vc],u,.string r.own,.int .i64 r.ty] W fun e w'=>e=.returned (.bool (exB (ps.map (·.1)) xs r.own r.ty))∧Below W.heap.size W w'):=by
  intro r hr' W hW;have:=l10Exact_any o r.own r.ty _ u ps xs W (h.below hW) hl hf (hr.below hW) hxl hx (hx r hr')
  rwa [exM_eq (hnd _ _)] at this
 obtain⟨_,a,cap,rfl,hcap,hmx,hc⟩:=hr;unfold maxLen at hmx;obtain⟨R,HR⟩:∃ R,Hid (R=cnS (ps.map (·.1)) o xs):=⟨_,rfl⟩;rw [<- HR.out];have b0:=(Below.refl w.heap.size w).alloc (Nat.le_refl _) (.cells #[.string o,.slice va ps.length vc] 32);have k0:=blk_new w #[.string o,.slice va ps.length vc] 32;generalize hss:ps.map (·.1)=ss at*;clear h hf hx hnd hss hxl;go_enter Tryz.func16,Tryz.ntmps16;go_wp2_with fail
 go_loopw [5] (fun i wr=>∃ k:Nat,k<=xs.length∧i=.int .i64 k∧Hid (∀ j y,j<k->xs[j]? =some y->cnC ss o y=0)∧Below w.heap.size w wr∧Blk wr w.heap.size #[.string o,.slice va ps.length vc] 32) (fun i _=>xs.length-(intOf i).toNat)
 case atStart=>exact⟨0,Nat.zero_le _,rfl,fun j y hj _=>absurd hj (Nat.not_lt_zero _),b0,k0⟩
 case round=>
  clear b0 k0;obtain⟨k,hk,rfl,HA,hbel,kz⟩:=hrel
  by_cases hlt:k<xs.length
  ·obtain⟨x,hxk⟩:∃ x,xs[k]? =some x:=⟨_,List.getElem?_eq_getElem hlt⟩;obtain⟨b,off,rfl,hcell⟩:=hc (by omega);obtain⟨c0,c1,c2,c3,c4⟩:=rv_cells hcell hxk
   have kS:Hid (∀ X,Below wr.heap.size wr X->X.cell? ⟨w.heap.size,0,none⟩=some (.string o)∧X.cell? ⟨w.heap.size,1,none⟩=some (.slice va ps.length vc)∧X.cell? ⟨b,off+k*5,none⟩=some (.string x.own)∧X.cell? ⟨b,off+k*5+1,none⟩=some (.int .i64 x.ty)∧X.cell? ⟨b,off+k*5+2,none⟩=some (.int .i64 x.cl)∧X.cell? ⟨b,off+k*5+3,none⟩=some (.int .i64 x.tt)∧X.cell? ⟨b,off+k*5+4,none⟩=some (.string x.da)):=by
    intro X hX;have hwX:=Nm.below_two hbel hX;have put:∀ {O:Nat} {z:Value},w.cell? ⟨b,O,none⟩=some z->X.cell? ⟨b,O,none⟩=some z:=fun h=>(hwX.cell (World.block_lt_of_cell? w _ h)).trans h
    exact⟨(blk_cell (blk_below kz hX) 0).trans rfl,(blk_cell (blk_below kz hX) 1).trans rfl,put c0,put c1,put c2,put c3,put c4⟩
   have hcc:=HC.out x (List.mem_of_getElem? hxk) _ hbel.drew;have i1:(0:Int)<=(k:Int):=by omega
   have i2:(k:Int)<(xs.length:Int):=by omega
   have HX:=Nm.hide hxk;obtain⟨C,HCC⟩:∃ C,Hid (C=cnC ss o x):=⟨_,rfl⟩;rw [<- HCC.out] at hcc;have HBZ:=Nm.hide (fun X (hX:Below wr.heap.size wr X)=>And.intro (Nm.below_two hbel hX) (blk_below kz hX));clear hcell hc hxk c0 c1 c2 c3 c4 kz HC HE hbel
   by_cases hC:C=0
   ·have HA2:Hid (∀ j y,j<k+1->xs[j]? =some y->cnC ss o y=0):=by
     intro j y hj hy
     rcases Nat.lt_or_eq_of_le (Nat.le_of_lt_succ hj) with h|h
     ·exact HA.out j y h hy
     ·subst h;rw [HX.out] at hy;obtain rfl:=Option.some.inj hy;rw [<- HCC.out,hC]
    subst hC;clear HA HR HCC HX;obtain⟨ow,ty,cl,tt,da⟩:=x;simp only at*
    go_wp2_with fail
    refine wp_region_last (fun X=>X.cell? ⟨w.heap.size,0,none⟩=some (.string o)∧X.cell? ⟨w.heap.size,1,none⟩=some (.slice va ps.length vc)∧X.cell? ⟨b,off+k*5,none⟩=some (.string ow)∧X.cell? ⟨b,off+k*5+1,none⟩=some (.int .i64 ty)∧X.cell? ⟨b,off+k*5+2,none⟩=some (.int .i64 cl)∧X.cell? ⟨b,off+k*5+3,none⟩=some (.int .i64 tt)∧X.cell? ⟨b,off+k*5+4,none⟩=some (.string da)) 1000 (by kernel_rfl) (kS.out _ (Below.refl _ wr).drew) (fun hHeld=>?_);refine wpAnyL_take (i:=0) (v:=?_) rfl (by kernel_rfl) (by kernel_rfl) (by kernel_rfl) (by kernel_rfl) (fun _ _ _ h=>h) (Or.inl ⟨by kernel_rfl,?_⟩) (by assumption) ?_;rotate_left 1
    ·(intro W hSW;obtain⟨s1,s2,s3,s4,s5,s6,s7⟩:=hSW;go_simp;try (with_reducible rfl))
    refine wpAnyL_take (i:=1) (v:=?_) rfl (by kernel_rfl) (by kernel_rfl) (by kernel_rfl) (by kernel_rfl) (fun _ _ _ h=>h) (Or.inl ⟨by kernel_rfl,?_⟩) (by assumption) ?_;rotate_left 1
    ·(intro W hSW;obtain⟨s1,s2,s3,s4,s5,s6,s7⟩:=hSW;go_simp;try (with_reducible rfl))
    refine wpAnyL_take (i:=2) (v:=?_) rfl (by kernel_rfl) (by kernel_rfl) (by kernel_rfl) (by kernel_rfl) (fun _ _ _ h=>h) (Or.inl ⟨by kernel_rfl,?_⟩) (by assumption) ?_;rotate_left 1
    ·(intro W hSW;obtain⟨s1,s2,s3,s4,s5,s6,s7⟩:=hSW;go_simp;try (with_reducible rfl))
    refine wpAnyL_take (i:=3) (v:=?_) rfl (by kernel_rfl) (by kernel_rfl) (by kernel_rfl) (by kernel_rfl) (fun _ _ _ h=>h) (Or.inl ⟨by kernel_rfl,?_⟩) (by assumption) ?_;rotate_left 1
    ·(intro W hSW;obtain⟨s1,s2,s3,s4,s5,s6,s7⟩:=hSW;go_simp;try (with_reducible rfl))
    refine wpAnyL_take (i:=4) (v:=?_) rfl (by kernel_rfl) (by kernel_rfl) (by kernel_rfl) (by kernel_rfl) (fun _ _ _ h=>h) (Or.inl ⟨by kernel_rfl,?_⟩) (by assumption) ?_;rotate_left 1
    ·(intro W hSW;obtain⟨s1,s2,s3,s4,s5,s6,s7⟩:=hSW;go_simp;try (with_reducible rfl))
    refine wpAnyL_one (i:=5) (by kernel_rfl) rfl (fun K hK=>?_);go_simp;refine hcc.mono ?_;rintro e w2 ⟨rfl,b2⟩;have b2':=Nm.below_two (Below.refl _ wr).drew b2;go_wp2_with fail
    refine hK.out _ _ (kS.out _ b2') (fun hHeld=>?_);clear hK K;refine wpAnyL_take (i:=6) (v:=?_) rfl (by kernel_rfl) (by kernel_rfl) (by kernel_rfl) (by kernel_rfl) (fun _ _ _ h=>h) (Or.inl ⟨by kernel_rfl,?_⟩) (by assumption) ?_;rotate_left 1
    ·(intro W hSW;obtain⟨s1,s2,s3,s4,s5,s6,s7⟩:=hSW;go_simp;try (with_reducible rfl))
    refine wpAnyL_done (by kernel_rfl) ?_;obtain⟨bz,kz2⟩:=HBZ.out _ b2';clear kS b2 b2' hcc hHeld HBZ;go_simp;go_wp2;go_roundw
    case rel=>exact⟨k+1,by omega,by go_num,HA2,bz,kz2⟩
    case measure=>simp [intOf];omega
   ·have HN:Hid (R=C):=by
     show _=_
     rw [HR.out,cnS,cnF_at HA.out HX.out (by rw [<- HCC.out];exact hC),Option.getD_some,HCC.out]
    have e1:(C != 0)=true:=by simpa using hC
    clear HA HR HCC HX hC;obtain⟨ow,ty,cl,tt,da⟩:=x;simp only at*
    go_wp2_with fail
    refine wp_region_last (fun X=>X.cell? ⟨w.heap.size,0,none⟩=some (.string o)∧X.cell? ⟨w.heap.size,1,none⟩=some (.slice va ps.length vc)∧X.cell? ⟨b,off+k*5,none⟩=some (.string ow)∧X.cell? ⟨b,off+k*5+1,none⟩=some (.int .i64 ty)∧X.cell? ⟨b,off+k*5+2,none⟩=some (.int .i64 cl)∧X.cell? ⟨b,off+k*5+3,none⟩=some (.int .i64 tt)∧X.cell? ⟨b,off+k*5+4,none⟩=some (.string da)) 1000 (by kernel_rfl) (kS.out _ (Below.refl _ wr).drew) (fun hHeld=>?_);refine wpAnyL_take (i:=0) (v:=?_) rfl (by kernel_rfl) (by kernel_rfl) (by kernel_rfl) (by kernel_rfl) (fun _ _ _ h=>h) (Or.inl ⟨by kernel_rfl,?_⟩) (by assumption) ?_;rotate_left 1
    ·(intro W hSW;obtain⟨s1,s2,s3,s4,s5,s6,s7⟩:=hSW;go_simp;try (with_reducible rfl))
    refine wpAnyL_take (i:=1) (v:=?_) rfl (by kernel_rfl) (by kernel_rfl) (by kernel_rfl) (by kernel_rfl) (fun _ _ _ h=>h) (Or.inl ⟨by kernel_rfl,?_⟩) (by assumption) ?_;rotate_left 1
    ·(intro W hSW;obtain⟨s1,s2,s3,s4,s5,s6,s7⟩:=hSW;go_simp;try (with_reducible rfl))
    refine wpAnyL_take (i:=2) (v:=?_) rfl (by kernel_rfl) (by kernel_rfl) (by kernel_rfl) (by kernel_rfl) (fun _ _ _ h=>h) (Or.inl ⟨by kernel_rfl,?_⟩) (by assumption) ?_;rotate_left 1
    ·(intro W hSW;obtain⟨s1,s2,s3,s4,s5,s6,s7⟩:=hSW;go_simp;try (with_reducible rfl))
    refine wpAnyL_take (i:=3) (v:=?_) rfl (by kernel_rfl) (by kernel_rfl) (by kernel_rfl) (by kernel_rfl) (fun _ _ _ h=>h) (Or.inl ⟨by kernel_rfl,?_⟩) (by assumption) ?_;rotate_left 1
    ·(intro W hSW;obtain⟨s1,s2,s3,s4,s5,s6,s7⟩:=hSW;go_simp;try (with_reducible rfl))
    refine wpAnyL_take (i:=4) (v:=?_) rfl (by kernel_rfl) (by kernel_rfl) (by kernel_rfl) (by kernel_rfl) (fun _ _ _ h=>h) (Or.inl ⟨by kernel_rfl,?_⟩) (by assumption) ?_;rotate_left 1
    ·(intro W hSW;obtain⟨s1,s2,s3,s4,s5,s6,s7⟩:=hSW;go_simp;try (with_reducible rfl))
    refine wpAnyL_one (i:=5) (by kernel_rfl) rfl (fun K hK=>?_);go_simp;refine hcc.mono ?_;rintro e w2 ⟨rfl,b2⟩;have b2':=Nm.below_two (Below.refl _ wr).drew b2;go_wp2_with fail
    refine hK.out _ _ (kS.out _ b2') (fun hHeld=>?_);clear hK K;refine wpAnyL_take (i:=6) (v:=?_) rfl (by kernel_rfl) (by kernel_rfl) (by kernel_rfl) (by kernel_rfl) (fun _ _ _ h=>h) (Or.inl ⟨by kernel_rfl,?_⟩) (by assumption) ?_;rotate_left 1
    ·(intro W hSW;obtain⟨s1,s2,s3,s4,s5,s6,s7⟩:=hSW;go_simp;try (with_reducible rfl))
    refine wpAnyL_done (by kernel_rfl) ?_;obtain⟨bz,kz2⟩:=HBZ.out _ b2';clear kS b2 b2' hcc hHeld HBZ;go_simp;go_wp2;go_ret;rw [HN.out];exact⟨rfl,bz⟩
  ·have hkl:k=xs.length:=by omega
   subst hkl
   have HN:Hid (R=if xs.any (bdB ss xs)=true then 8 else 0):=by
    show _=_
    rw [HR.out,cnS,cnF_none (fun r hr=>by
     obtain⟨j,hj,rfl⟩:=List.mem_iff_getElem.1 hr
     exact HA.out j _ hj (List.getElem?_eq_getElem hj))]
    rfl
   have i2:¬(xs.length:Int)<(xs.length:Int):=by omega
   obtain⟨wo,hwo⟩:∃ wo,wo=wr:=⟨wr,rfl⟩;subst hwo;clear HA HR HC;go_wp2_with fail
   go_loopw [7] (fun i wr=>∃ k:Nat,k<=xs.length∧i=.int .i64 k∧Hid (∀ j y,j<k->xs[j]? =some y->bdB ss xs y=false)∧Below w.heap.size w wr∧Blk wr w.heap.size #[.string o,.slice va ps.length vc] 32) (fun i _=>xs.length-(intOf i).toNat)
   case atStart=>exact⟨0,Nat.zero_le _,rfl,fun j y hj _=>absurd hj (Nat.not_lt_zero _),hbel,kz⟩
   case round=>
    clear hbel kz;obtain⟨k,hk,rfl,HA,hbel,kz⟩:=hrel
    by_cases hlt:k<xs.length
    ·obtain⟨x,hxk⟩:∃ x,xs[k]? =some x:=⟨_,List.getElem?_eq_getElem hlt⟩;obtain⟨b,off,rfl,hcell⟩:=hc (by omega);obtain⟨c0,c1,c2,c3,c4⟩:=rv_cells hcell hxk
     have kS:Hid (∀ X,Below wr.heap.size wr X->X.cell? ⟨w.heap.size,0,none⟩=some (.string o)∧X.cell? ⟨w.heap.size,1,none⟩=some (.slice va ps.length vc)∧X.cell? ⟨b,off+k*5,none⟩=some (.string x.own)∧X.cell? ⟨b,off+k*5+1,none⟩=some (.int .i64 x.ty)∧X.cell? ⟨b,off+k*5+2,none⟩=some (.int .i64 x.cl)∧X.cell? ⟨b,off+k*5+3,none⟩=some (.int .i64 x.tt)∧X.cell? ⟨b,off+k*5+4,none⟩=some (.string x.da)):=by
      intro X hX;have hwX:=Nm.below_two hbel hX;have put:∀ {O:Nat} {z:Value},w.cell? ⟨b,O,none⟩=some z->X.cell? ⟨b,O,none⟩=some z:=fun h=>(hwX.cell (World.block_lt_of_cell? w _ h)).trans h
      exact⟨(blk_cell (blk_below kz hX) 0).trans rfl,(blk_cell (blk_below kz hX) 1).trans rfl,put c0,put c1,put c2,put c3,put c4⟩
     have hcc:=HE.out x (List.mem_of_getElem? hxk) _ hbel.drew;have i1:(0:Int)<=(k:Int):=by omega
     have i2:(k:Int)<(xs.length:Int):=by omega
     have HX:=Nm.hide hxk;have HBZ:=Nm.hide (fun X (hX:Below wr.heap.size wr X)=>And.intro (Nm.below_two hbel hX) (blk_below kz hX));have HBD:Hid (bdB ss xs x=(decide (x.cl=1)&& !exB ss xs x.own x.ty)):=rfl
     have HA2:Hid (bdB ss xs x=false->∀ j y,j<k+1->xs[j]? =some y->bdB ss xs y=false):=by
      intro hb j y hj hy
      rcases Nat.lt_or_eq_of_le (Nat.le_of_lt_succ hj) with h|h
      ·exact HA.out j y h hy
      ·subst h;rw [HX.out] at hy;obtain rfl:=Option.some.inj hy;exact hb
     have HA3:Hid (bdB ss xs x=true->R=8):=by
      intro hb;rw [HN.out,if_pos (List.any_eq_true.2 ⟨x,List.mem_of_getElem? HX.out,hb⟩)]
     have cq:=(kS.out wr (Below.refl _ _)).2.2.2.2.1;clear hcell hc hxk c0 c1 c2 c3 c4 kz HE hbel HA HN;obtain⟨ow,ty,cl,tt,da⟩:=x;simp only at*
     by_cases h1:cl=1
     ·subst h1
      cases hex:exB ss xs ow ty with
      |true=>
       have HA4:=Nm.hide (HA2.out (by rw [HBD.out,hex];rfl));rw [hex] at hcc;clear HA2 HA3 HBD hex HX cq;go_wp2_with fail
       refine wp_region_last (fun X=>X.cell? ⟨w.heap.size,0,none⟩=some (.string o)∧X.cell? ⟨w.heap.size,1,none⟩=some (.slice va ps.length vc)∧X.cell? ⟨b,off+k*5,none⟩=some (.string ow)∧X.cell? ⟨b,off+k*5+1,none⟩=some (.int .i64 ty)∧X.cell? ⟨b,off+k*5+2,none⟩=some (.int .i64 1)∧X.cell? ⟨b,off+k*5+3,none⟩=some (.int .i64 tt)∧X.cell? ⟨b,off+k*5+4,none⟩=some (.string da)) 1000 (by kernel_rfl) (kS.out _ (Below.refl _ wr).drew) (fun hHeld=>?_);refine wpAnyL_take (i:=0) (v:=?_) rfl (by kernel_rfl) (by kernel_rfl) (by kernel_rfl) (by kernel_rfl) (fun _ _ _ h=>h) (Or.inl ⟨by kernel_rfl,?_⟩) (by assumption) ?_;rotate_left 1
       ·(intro W hSW;obtain⟨s1,s2,s3,s4,s5,s6,s7⟩:=hSW;go_simp;try (with_reducible rfl))
       refine wpAnyL_take (i:=1) (v:=?_) rfl (by kernel_rfl) (by kernel_rfl) (by kernel_rfl) (by kernel_rfl) (fun _ _ _ h=>h) (Or.inl ⟨by kernel_rfl,?_⟩) (by assumption) ?_;rotate_left 1
       ·(intro W hSW;obtain⟨s1,s2,s3,s4,s5,s6,s7⟩:=hSW;go_simp;try (with_reducible rfl))
       refine wpAnyL_take (i:=2) (v:=?_) rfl (by kernel_rfl) (by kernel_rfl) (by kernel_rfl) (by kernel_rfl) (fun _ _ _ h=>h) (Or.inl ⟨by kernel_rfl,?_⟩) (by assumption) ?_;rotate_left 1
       ·(intro W hSW;obtain⟨s1,s2,s3,s4,s5,s6,s7⟩:=hSW;go_simp;try (with_reducible rfl))
       refine wpAnyL_take (i:=3) (v:=?_) rfl (by kernel_rfl) (by kernel_rfl) (by kernel_rfl) (by kernel_rfl) (fun _ _ _ h=>h) (Or.inl ⟨by kernel_rfl,?_⟩) (by assumption) ?_;rotate_left 1
       ·(intro W hSW;obtain⟨s1,s2,s3,s4,s5,s6,s7⟩:=hSW;go_simp;try (with_reducible rfl))
       refine wpAnyL_take (i:=4) (v:=?_) rfl (by kernel_rfl) (by kernel_rfl) (by kernel_rfl) (by kernel_rfl) (fun _ _ _ h=>h) (Or.inl ⟨by kernel_rfl,?_⟩) (by assumption) ?_;rotate_left 1
       ·(intro W hSW;obtain⟨s1,s2,s3,s4,s5,s6,s7⟩:=hSW;go_simp;try (with_reducible rfl))
       refine wpAnyL_take (i:=5) (v:=?_) rfl (by kernel_rfl) (by kernel_rfl) (by kernel_rfl) (by kernel_rfl) (fun _ _ _ h=>h) (Or.inl ⟨by kernel_rfl,?_⟩) (by assumption) ?_;rotate_left 1
       ·(intro W hSW;obtain⟨s1,s2,s3,s4,s5,s6,s7⟩:=hSW;go_simp;try (with_reducible rfl))
       refine wpAnyL_take (i:=6) (v:=?_) rfl (by kernel_rfl) (by kernel_rfl) (by kernel_rfl) (by kernel_rfl) (fun _ _ _ h=>h) (Or.inl ⟨by kernel_rfl,?_⟩) (by assumption) ?_;rotate_left 1
       ·(intro W hSW;obtain⟨s1,s2,s3,s4,s5,s6,s7⟩:=hSW;go_simp;try (with_reducible rfl))
       refine wpAnyL_take (i:=7) (v:=?_) rfl (by kernel_rfl) (by kernel_rfl) (by kernel_rfl) (by kernel_rfl) (fun _ _ _ h=>h) (Or.inl ⟨by kernel_rfl,?_⟩) (by assumption) ?_;rotate_left 1
       ·(intro W hSW;obtain⟨s1,s2,s3,s4,s5,s6,s7⟩:=hSW;go_simp;try (with_reducible rfl))
       refine wpAnyL_take (i:=8) (v:=?_) rfl (by kernel_rfl) (by kernel_rfl) (by kernel_rfl) (by kernel_rfl) (fun _ _ _ h=>h) (Or.inl ⟨by kernel_rfl,?_⟩) (by assumption) ?_;rotate_left 1
       ·(intro W hSW;obtain⟨s1,s2,s3,s4,s5,s6,s7⟩:=hSW;go_simp;try (with_reducible rfl))
       refine wpAnyL_take (i:=9) (v:=?_) rfl (by kernel_rfl) (by kernel_rfl) (by kernel_rfl) (by kernel_rfl) (fun _ _ _ h=>h) (Or.inl ⟨by kernel_rfl,?_⟩) (by assumption) ?_;rotate_left 1
       ·(intro W hSW;obtain⟨s1,s2,s3,s4,s5,s6,s7⟩:=hSW;go_simp;try (with_reducible rfl))
       refine wpAnyL_take (i:=10) (v:=?_) rfl (by kernel_rfl) (by kernel_rfl) (by kernel_rfl) (by kernel_rfl) (fun _ _ _ h=>h) (Or.inl ⟨by kernel_rfl,?_⟩) (by assumption) ?_;rotate_left 1
       ·(intro W hSW;obtain⟨s1,s2,s3,s4,s5,s6,s7⟩:=hSW;go_simp;try (with_reducible rfl))
       refine wpAnyL_take (i:=11) (v:=?_) rfl (by kernel_rfl) (by kernel_rfl) (by kernel_rfl) (by kernel_rfl) (fun _ _ _ h=>h) (Or.inl ⟨by kernel_rfl,?_⟩) (by assumption) ?_;rotate_left 1
       ·(intro W hSW;obtain⟨s1,s2,s3,s4,s5,s6,s7⟩:=hSW;go_simp;try (with_reducible rfl))
       refine wpAnyL_take (i:=12) (v:=?_) rfl (by kernel_rfl) (by kernel_rfl) (by kernel_rfl) (by kernel_rfl) (fun _ _ _ h=>h) (Or.inl ⟨by kernel_rfl,?_⟩) (by assumption) ?_;rotate_left 1
       ·(intro W hSW;obtain⟨s1,s2,s3,s4,s5,s6,s7⟩:=hSW;go_simp;try (with_reducible rfl))
       refine wpAnyL_take (i:=13) (v:=?_) rfl (by kernel_rfl) (by kernel_rfl) (by kernel_rfl) (by kernel_rfl) (fun _ _ _ h=>h) (Or.inl ⟨by kernel_rfl,?_⟩) (by assumption) ?_;rotate_left 1
       ·(intro W hSW;obtain⟨s1,s2,s3,s4,s5,s6,s7⟩:=hSW;go_simp;try (with_reducible rfl))
       refine wpAnyL_take (i:=14) (v:=?_) rfl (by kernel_rfl) (by kernel_rfl) (by kernel_rfl) (by kernel_rfl) (fun _ _ _ h=>h) (Or.inl ⟨by kernel_rfl,?_⟩) (by assumption) ?_;rotate_left 1
       ·(intro W hSW;obtain⟨s1,s2,s3,s4,s5,s6,s7⟩:=hSW;go_simp;try (with_reducible rfl))
       refine wpAnyL_take (i:=15) (v:=?_) rfl (by kernel_rfl) (by kernel_rfl) (by kernel_rfl) (by kernel_rfl) (fun _ _ _ h=>h) (Or.inl ⟨by kernel_rfl,?_⟩) (by assumption) ?_;rotate_left 1
       ·(intro W hSW;obtain⟨s1,s2,s3,s4,s5,s6,s7⟩:=hSW;go_simp;try (with_reducible rfl))
       refine wpAnyL_take (i:=16) (v:=?_) rfl (by kernel_rfl) (by kernel_rfl) (by kernel_rfl) (by kernel_rfl) (fun _ _ _ h=>h) (Or.inl ⟨by kernel_rfl,?_⟩) (by assumption) ?_;rotate_left 1
       ·(intro W hSW;obtain⟨s1,s2,s3,s4,s5,s6,s7⟩:=hSW;go_simp;try (with_reducible rfl))
       refine wpAnyL_take (i:=17) (v:=?_) rfl (by kernel_rfl) (by kernel_rfl) (by kernel_rfl) (by kernel_rfl) (fun _ _ _ h=>h) (Or.inl ⟨by kernel_rfl,?_⟩) (by assumption) ?_;rotate_left 1
       ·(intro W hSW;obtain⟨s1,s2,s3,s4,s5,s6,s7⟩:=hSW;go_simp;try (with_reducible rfl))
       refine wpAnyL_take (i:=18) (v:=?_) rfl (by kernel_rfl) (by kernel_rfl) (by kernel_rfl) (by kernel_rfl) (fun _ _ _ h=>h) (Or.inl ⟨by kernel_rfl,?_⟩) (by assumption) ?_;rotate_left 1
       ·(intro W hSW;obtain⟨s1,s2,s3,s4,s5,s6,s7⟩:=hSW;go_simp;try (with_reducible rfl))
       refine wpAnyL_one (i:=19) (by kernel_rfl) rfl (fun K hK=>?_);go_simp;refine hcc.mono ?_;rintro e w2 ⟨rfl,b2⟩;have b2':=Nm.below_two (Below.refl _ wr).drew b2;go_wp2_with fail
       refine hK.out _ _ (kS.out _ b2') (fun hHeld=>?_);clear hK K;refine wpAnyL_take (i:=20) (v:=?_) rfl (by kernel_rfl) (by kernel_rfl) (by kernel_rfl) (by kernel_rfl) (fun _ _ _ h=>h) (Or.inl ⟨by kernel_rfl,?_⟩) (by assumption) ?_;rotate_left 1
       ·(intro W hSW;obtain⟨s1,s2,s3,s4,s5,s6,s7⟩:=hSW;go_simp;try (with_reducible rfl))
       refine wpAnyL_take (i:=21) (v:=?_) rfl (by kernel_rfl) (by kernel_rfl) (by kernel_rfl) (by kernel_rfl) (fun _ _ _ h=>h) (Or.inl ⟨by kernel_rfl,?_⟩) (by assumption) ?_;rotate_left 1
       ·(intro W hSW;obtain⟨s1,s2,s3,s4,s5,s6,s7⟩:=hSW;go_simp;try (with_reducible rfl))
       refine wpAnyL_done (by kernel_rfl) ?_;obtain⟨bz,kz2⟩:=HBZ.out _ b2';clear kS b2 b2' hcc hHeld HBZ;go_simp;go_wp2;go_roundw
       case rel=>exact⟨k+1,by omega,by go_num,HA4,bz,kz2⟩
       case measure=>simp [intOf];omega
      |false=>
       have HA4:=Nm.hide (HA3.out (by rw [HBD.out,hex];rfl));rw [hex] at hcc;clear HA2 HA3 HBD hex HX cq;go_wp2_with fail
       refine wp_region_last (fun X=>X.cell? ⟨w.heap.size,0,none⟩=some (.string o)∧X.cell? ⟨w.heap.size,1,none⟩=some (.slice va ps.length vc)∧X.cell? ⟨b,off+k*5,none⟩=some (.string ow)∧X.cell? ⟨b,off+k*5+1,none⟩=some (.int .i64 ty)∧X.cell? ⟨b,off+k*5+2,none⟩=some (.int .i64 1)∧X.cell? ⟨b,off+k*5+3,none⟩=some (.int .i64 tt)∧X.cell? ⟨b,off+k*5+4,none⟩=some (.string da)) 1000 (by kernel_rfl) (kS.out _ (Below.refl _ wr).drew) (fun hHeld=>?_);refine wpAnyL_take (i:=0) (v:=?_) rfl (by kernel_rfl) (by kernel_rfl) (by kernel_rfl) (by kernel_rfl) (fun _ _ _ h=>h) (Or.inl ⟨by kernel_rfl,?_⟩) (by assumption) ?_;rotate_left 1
       ·(intro W hSW;obtain⟨s1,s2,s3,s4,s5,s6,s7⟩:=hSW;go_simp;try (with_reducible rfl))
       refine wpAnyL_take (i:=1) (v:=?_) rfl (by kernel_rfl) (by kernel_rfl) (by kernel_rfl) (by kernel_rfl) (fun _ _ _ h=>h) (Or.inl ⟨by kernel_rfl,?_⟩) (by assumption) ?_;rotate_left 1
       ·(intro W hSW;obtain⟨s1,s2,s3,s4,s5,s6,s7⟩:=hSW;go_simp;try (with_reducible rfl))
       refine wpAnyL_take (i:=2) (v:=?_) rfl (by kernel_rfl) (by kernel_rfl) (by kernel_rfl) (by kernel_rfl) (fun _ _ _ h=>h) (Or.inl ⟨by kernel_rfl,?_⟩) (by assumption) ?_;rotate_left 1
       ·(intro W hSW;obtain⟨s1,s2,s3,s4,s5,s6,s7⟩:=hSW;go_simp;try (with_reducible rfl))
       refine wpAnyL_take (i:=3) (v:=?_) rfl (by kernel_rfl) (by kernel_rfl) (by kernel_rfl) (by kernel_rfl) (fun _ _ _ h=>h) (Or.inl ⟨by kernel_rfl,?_⟩) (by assumption) ?_;rotate_left 1
       ·(intro W hSW;obtain⟨s1,s2,s3,s4,s5,s6,s7⟩:=hSW;go_simp;try (with_reducible rfl))
       refine wpAnyL_take (i:=4) (v:=?_) rfl (by kernel_rfl) (by kernel_rfl) (by kernel_rfl) (by kernel_rfl) (fun _ _ _ h=>h) (Or.inl ⟨by kernel_rfl,?_⟩) (by assumption) ?_;rotate_left 1
       ·(intro W hSW;obtain⟨s1,s2,s3,s4,s5,s6,s7⟩:=hSW;go_simp;try (with_reducible rfl))
       refine wpAnyL_take (i:=5) (v:=?_) rfl (by kernel_rfl) (by kernel_rfl) (by kernel_rfl) (by kernel_rfl) (fun _ _ _ h=>h) (Or.inl ⟨by kernel_rfl,?_⟩) (by assumption) ?_;rotate_left 1
       ·(intro W hSW;obtain⟨s1,s2,s3,s4,s5,s6,s7⟩:=hSW;go_simp;try (with_reducible rfl))
       refine wpAnyL_take (i:=6) (v:=?_) rfl (by kernel_rfl) (by kernel_rfl) (by kernel_rfl) (by kernel_rfl) (fun _ _ _ h=>h) (Or.inl ⟨by kernel_rfl,?_⟩) (by assumption) ?_;rotate_left 1
       ·(intro W hSW;obtain⟨s1,s2,s3,s4,s5,s6,s7⟩:=hSW;go_simp;try (with_reducible rfl))
       refine wpAnyL_take (i:=7) (v:=?_) rfl (by kernel_rfl) (by kernel_rfl) (by kernel_rfl) (by kernel_rfl) (fun _ _ _ h=>h) (Or.inl ⟨by kernel_rfl,?_⟩) (by assumption) ?_;rotate_left 1
       ·(intro W hSW;obtain⟨s1,s2,s3,s4,s5,s6,s7⟩:=hSW;go_simp;try (with_reducible rfl))
       refine wpAnyL_take (i:=8) (v:=?_) rfl (by kernel_rfl) (by kernel_rfl) (by kernel_rfl) (by kernel_rfl) (fun _ _ _ h=>h) (Or.inl ⟨by kernel_rfl,?_⟩) (by assumption) ?_;rotate_left 1
       ·(intro W hSW;obtain⟨s1,s2,s3,s4,s5,s6,s7⟩:=hSW;go_simp;try (with_reducible rfl))
       refine wpAnyL_take (i:=9) (v:=?_) rfl (by kernel_rfl) (by kernel_rfl) (by kernel_rfl) (by kernel_rfl) (fun _ _ _ h=>h) (Or.inl ⟨by kernel_rfl,?_⟩) (by assumption) ?_;rotate_left 1
       ·(intro W hSW;obtain⟨s1,s2,s3,s4,s5,s6,s7⟩:=hSW;go_simp;try (with_reducible rfl))
       refine wpAnyL_take (i:=10) (v:=?_) rfl (by kernel_rfl) (by kernel_rfl) (by kernel_rfl) (by kernel_rfl) (fun _ _ _ h=>h) (Or.inl ⟨by kernel_rfl,?_⟩) (by assumption) ?_;rotate_left 1
       ·(intro W hSW;obtain⟨s1,s2,s3,s4,s5,s6,s7⟩:=hSW;go_simp;try (with_reducible rfl))
       refine wpAnyL_take (i:=11) (v:=?_) rfl (by kernel_rfl) (by kernel_rfl) (by kernel_rfl) (by kernel_rfl) (fun _ _ _ h=>h) (Or.inl ⟨by kernel_rfl,?_⟩) (by assumption) ?_;rotate_left 1
       ·(intro W hSW;obtain⟨s1,s2,s3,s4,s5,s6,s7⟩:=hSW;go_simp;try (with_reducible rfl))
       refine wpAnyL_take (i:=12) (v:=?_) rfl (by kernel_rfl) (by kernel_rfl) (by kernel_rfl) (by kernel_rfl) (fun _ _ _ h=>h) (Or.inl ⟨by kernel_rfl,?_⟩) (by assumption) ?_;rotate_left 1
       ·(intro W hSW;obtain⟨s1,s2,s3,s4,s5,s6,s7⟩:=hSW;go_simp;try (with_reducible rfl))
       refine wpAnyL_take (i:=13) (v:=?_) rfl (by kernel_rfl) (by kernel_rfl) (by kernel_rfl) (by kernel_rfl) (fun _ _ _ h=>h) (Or.inl ⟨by kernel_rfl,?_⟩) (by assumption) ?_;rotate_left 1
       ·(intro W hSW;obtain⟨s1,s2,s3,s4,s5,s6,s7⟩:=hSW;go_simp;try (with_reducible rfl))
       refine wpAnyL_take (i:=14) (v:=?_) rfl (by kernel_rfl) (by kernel_rfl) (by kernel_rfl) (by kernel_rfl) (fun _ _ _ h=>h) (Or.inl ⟨by kernel_rfl,?_⟩) (by assumption) ?_;rotate_left 1
       ·(intro W hSW;obtain⟨s1,s2,s3,s4,s5,s6,s7⟩:=hSW;go_simp;try (with_reducible rfl))
       refine wpAnyL_take (i:=15) (v:=?_) rfl (by kernel_rfl) (by kernel_rfl) (by kernel_rfl) (by kernel_rfl) (fun _ _ _ h=>h) (Or.inl ⟨by kernel_rfl,?_⟩) (by assumption) ?_;rotate_left 1
       ·(intro W hSW;obtain⟨s1,s2,s3,s4,s5,s6,s7⟩:=hSW;go_simp;try (with_reducible rfl))
       refine wpAnyL_take (i:=16) (v:=?_) rfl (by kernel_rfl) (by kernel_rfl) (by kernel_rfl) (by kernel_rfl) (fun _ _ _ h=>h) (Or.inl ⟨by kernel_rfl,?_⟩) (by assumption) ?_;rotate_left 1
       ·(intro W hSW;obtain⟨s1,s2,s3,s4,s5,s6,s7⟩:=hSW;go_simp;try (with_reducible rfl))
       refine wpAnyL_take (i:=17) (v:=?_) rfl (by kernel_rfl) (by kernel_rfl) (by kernel_rfl) (by kernel_rfl) (fun _ _ _ h=>h) (Or.inl ⟨by kernel_rfl,?_⟩) (by assumption) ?_;rotate_left 1
       ·(intro W hSW;obtain⟨s1,s2,s3,s4,s5,s6,s7⟩:=hSW;go_simp;try (with_reducible rfl))
       refine wpAnyL_take (i:=18) (v:=?_) rfl (by kernel_rfl) (by kernel_rfl) (by kernel_rfl) (by kernel_rfl) (fun _ _ _ h=>h) (Or.inl ⟨by kernel_rfl,?_⟩) (by assumption) ?_;rotate_left 1
       ·(intro W hSW;obtain⟨s1,s2,s3,s4,s5,s6,s7⟩:=hSW;go_simp;try (with_reducible rfl))
       refine wpAnyL_one (i:=19) (by kernel_rfl) rfl (fun K hK=>?_);go_simp;refine hcc.mono ?_;rintro e w2 ⟨rfl,b2⟩;have b2':=Nm.below_two (Below.refl _ wr).drew b2;go_wp2_with fail
       refine hK.out _ _ (kS.out _ b2') (fun hHeld=>?_);clear hK K;refine wpAnyL_take (i:=20) (v:=?_) rfl (by kernel_rfl) (by kernel_rfl) (by kernel_rfl) (by kernel_rfl) (fun _ _ _ h=>h) (Or.inl ⟨by kernel_rfl,?_⟩) (by assumption) ?_;rotate_left 1
       ·(intro W hSW;obtain⟨s1,s2,s3,s4,s5,s6,s7⟩:=hSW;go_simp;try (with_reducible rfl))
       refine wpAnyL_take (i:=21) (v:=?_) rfl (by kernel_rfl) (by kernel_rfl) (by kernel_rfl) (by kernel_rfl) (fun _ _ _ h=>h) (Or.inl ⟨by kernel_rfl,?_⟩) (by assumption) ?_;rotate_left 1
       ·(intro W hSW;obtain⟨s1,s2,s3,s4,s5,s6,s7⟩:=hSW;go_simp;try (with_reducible rfl))
       refine wpAnyL_done (by kernel_rfl) ?_;obtain⟨bz,kz2⟩:=HBZ.out _ b2';clear kS b2 b2' hcc hHeld HBZ;go_simp;go_wp2;go_ret;rw [HA4.out];exact⟨rfl,bz⟩
     ·have n1:(cl==1)=false:=by simpa using h1
      have HA4:=Nm.hide (HA2.out (by rw [HBD.out,decide_eq_false h1];rfl));have HB2:=Nm.hide (HBZ.out wr (Below.refl _ _));clear HA2 HA3 HBD h1 hcc kS HBZ HX;go_wp2;go_quiet (fail)
      go_wp2;go_roundw
      case rel=>exact⟨k+1,by omega,by go_num,HA4,Go.below_drewN HB2.out.1 _,blk_below HB2.out.2 (Go.below_drewN (Below.refl _ _) _)⟩
      case measure=>simp [intOf];omega
    ·have hkl:k=xs.length:=by omega
     subst hkl
     have HT:Hid (R=0):=by
      show _=_
      rw [HN.out,if_neg];intro h;obtain⟨x,hx,hb⟩:=List.any_eq_true.1 h;obtain⟨j,hj,rfl⟩:=List.mem_iff_getElem.1 hx;rw [HA.out j _ hj (List.getElem?_eq_getElem hj)] at hb;cases hb
     clear HA HN HE hc;go_wp2;go_ret;rw [HT.out];exact⟨rfl,hbel⟩
set_option maxRecDepth 100000 in
set_option maxHeartbeats 3200000 in
theorem specCheckConditions_any(o:ByteArray)(v u:Value)(ps:List Zp)(xs:List Rr)(w:World)(h:ZRow w v ps)(hs:zsum ps<=1048576)(hl:ps.length<=1048576)(hf:∀ p∈ps,p.1.own.size<=1048576∧p.1.da.length<=1048576∧∀ x∈p.1.da,x.size<=1048576)(ha:o.size<=1048576)(hr:CRow w u xs.length 5 (rvVs xs))(hx:∀ r∈xs,r.own.size<=1048576∧r.da.size<=1048576):
 Calls Tryz.prog 6 #[.agg #[.string o,v],u] w fun e w'=>e=.returned (.tuple #[.int .i64 (cnR ps o xs).1,.int .i64 (cnR ps o xs).2])∧Below w.heap.size w w':=by
 obtain⟨va,vc,rfl⟩:∃ va vc,v=.slice va ps.length vc:=by obtain⟨⟨_,a,c,e,_⟩,_⟩:=h;exact⟨a,c,e⟩
 have b0:=(Below.refl w.heap.size w).alloc (Nat.le_refl _) (.cells #[.string o,.slice va ps.length vc] 32);have k0:=blk_new w #[.string o,.slice va ps.length vc] 32;have r0:=fun i=>blk_cell k0 i
 have hck:=specCheckZone_any o (.slice va ps.length vc) ps _ (h.below b0) hs hl (fun p hp=>⟨(hf p hp).1,(hf p hp).2.2⟩) (by unfold maxLen;omega);have hso:=fun W (hW:Below w.heap.size w W)=>l10ListOK_any u xs W (hr.below hW) hx
 have HCO:=Nm.hide (fun(hz:zOK ps o=true) (hlb:listB xs=true) W (hW:Below w.heap.size w W)=>l10Conditions_any o _ u ps xs W (h.below hW) hl (fun p hp=>⟨(hf p hp).1,(hf p hp).2.1⟩) (by omega) (hr.below hW) (by simp only [listB,Bool.and_eq_true,decide_eq_true_eq] at hlb;exact hlb.1) (fun r hr=>(hx r hr).1) (seD_nd hz));obtain⟨ua,uc,rfl⟩:∃ ua uc,u=.slice ua xs.length uc:=by obtain⟨_,a,c,e,_⟩:=hr;exact⟨a,c,e⟩
 obtain⟨R,HR⟩:∃ R,Hid (R=cnR ps o xs):=⟨_,rfl⟩;rw [<- HR.out];clear h hf hs hr
 cases hz:zOK ps o with
 |false=>
  rw [hz] at hck;simp only [Bool.false_eq_true,if_false] at hck;have HN:Hid (R=(0,32)):=by show _=_;rw [HR.out,cnR,if_neg (by simp [cnB,hz])]
  clear hz HR HCO hso;obtain⟨R1,R2⟩:=R;go_enter Tryz.func6,Tryz.ntmps6;go_wp2_with fail
  refine hck.mono ?_;rintro e w1 ⟨rfl,b1⟩;go_wp2;go_ret2;obtain⟨rfl,rfl⟩:=Prod.mk.inj HN.out
  exact⟨rfl,Nm.below_two b0 b1⟩
 |true=>
  rw [hz] at hck;simp only [if_true] at hck
  cases hlb:listB xs with
  |false=>
   have HN:Hid (R=(0,32)):=by show _=_;rw [HR.out,cnR,if_neg (by simp [cnB,hlb])]
   rw [hlb] at hso;clear hz HR HCO hlb;obtain⟨R1,R2⟩:=R;go_enter Tryz.func6,Tryz.ntmps6;go_wp2_with fail
   refine hck.mono ?_;rintro e w1 ⟨rfl,b1⟩;have bw1:=Nm.below_two b0 b1;go_wp2_with fail
   refine(hso _ bw1).mono ?_;rintro e w2 ⟨rfl,b2⟩;go_wp2;go_ret2;obtain⟨rfl,rfl⟩:=Prod.mk.inj HN.out
   exact⟨rfl,Nm.below_two bw1 b2⟩
  |true=>
   have HN:Hid (R=(cnS (ps.map (·.1)) o xs,0)):=by show _=_;rw [HR.out,cnR,if_pos (by simp [cnB,hlb,hz])]
   have HK:=Nm.hide (HCO.out hz hlb);rw [hlb] at hso;clear hz HR HCO hlb;obtain⟨R1,R2⟩:=R;go_enter Tryz.func6,Tryz.ntmps6;go_wp2_with fail
   refine hck.mono ?_;rintro e w1 ⟨rfl,b1⟩;have bw1:=Nm.below_two b0 b1;have k1:=blk_below k0 b1;go_wp2_with fail
   refine(hso _ bw1).mono ?_;rintro e w2 ⟨rfl,b2⟩;have bw2:=Nm.below_two bw1 b2;have k2:=blk_below k1 b2;have r2:=fun i=>blk_cell k2 i
   have hk:=HK.out w2 bw2;obtain⟨e1,e2⟩:=Prod.mk.inj HN.out;rw [<- e1] at hk;subst e2;clear e1 HN HK r0;go_wp2_with fail
   refine hk.mono ?_;rintro e w3 ⟨rfl,b3⟩;go_wp2;go_ret2;exact⟨rfl,Nm.below_two bw2 b3⟩
end Go.Proofs.YtaceiajcecaapaaGreat
