import Derived.Test.YtlddifpnkeafpaaGreatJTrD
set_option linter.unusedVariables false
set_option maxRecDepth 100000
set_option maxHeartbeats 3200000
namespace Go.Proofs.YtlddifpnkeafpaaGreat
open Go.RowKit
theorem Tryz.P5:(Tryz.prog.info? 133).map (fun i=>(i.zero,i.size,i.bytes))=some (some (.agg #[.string ByteArray.empty,.int .i64 0,.int .i64 0,.int .i64 0,.string ByteArray.empty]),5,56):=by kernel_rfl
theorem Qw(o:ByteArray)(v:Value)(ps:List Zp)(w:World)(h:gG w v ps)(hd:∀ p∈ps,p.1.da.length<=1048576):
 Calls Tryz.prog 99 #[.agg #[.string o,v]] w fun e w'=>e=.returned (.bool (decide (ps.length<=500∧jQ ps<=500)))∧Below w.heap.size w w':=by
 have iY:=(aJ w.heap.size w).alloc (aI _) (.cells #[.string o,v] 25);have EP:=h;obtain⟨⟨_,a,cap,rfl,gT,kV,_⟩,_⟩:=h;unfold maxLen at kV;obtain⟨RB,hRB⟩:∃ b,b=decide (ps.length<=500∧jQ ps<=500):=⟨_,rfl⟩;rw [<- hRB]
 by_cases ZX:500<ps.length
 ·have aD4:(500:Int)<(ps.length:Int):=by omega
  obtain rfl:RB=false:=by rw [hRB];simp;omega
  clear EP hRB;go_enter Tryz.func99,Tryz.ntmps99;go_wp2;go_ret;exact⟨rfl,iY⟩
 have aD4:(ps.length:Int)<=500:=by omega
 have HRB:=Nm.aD hRB;clear hRB;go_enter Tryz.func99,Tryz.ntmps99;go_wp2
 go_loopw [3,13] (fun t i wr=>∃ k:Nat,k<=ps.length∧i=.int .i64 k∧t=.int .i64 (jQ (ps.take k):Int)∧jQ (ps.take k)<=500∧Below w.heap.size w wr) (fun _ i _=>ps.length-(intOf i).toNat)
 ·exact⟨0,dR _,rfl,by simp [jQ],by simp [jQ],iY⟩
 obtain⟨k,hk,rfl,rfl,hle,aG⟩:=hrel
 by_cases bY:k<ps.length
 ·obtain⟨x,qF⟩:=gQ bY;obtain⟨⟨_,a',cap',hv,_,_,hc⟩,El⟩:=EP.below aG;simp only [gK] at hv;obtain⟨rfl,_,rfl⟩:=hv;obtain⟨b,off,rfl,aH⟩:=hc (by omega);obtain⟨c0,c1,c2,c3⟩:=iE aH qF;have BS:=dA qF;obtain⟨da',dc,hdv,_⟩:=El x BS;have HS:=KE ps k x qF;have oG:=wQ ps (k+1);have nV:=hd x BS;have i1:=fE k
  have i2:(k:Int)<(ps.length:Int):=by omega
  have yY:=aG.alloc aG.size (.cells #[.string x.1.own,.int .i64 x.1.ty,.int .i64 x.1.tt,x.2] 42);have aD1:((jQ (ps.take (k+1)):Nat):Int)=(jQ (ps.take k):Int)+(x.1.da.length:Int):=by omega
  have N7:(jQ (ps.take k):Int)+(x.1.da.length:Int)<=2000000:=by omega
  have gI:500<jQ (ps.take (k+1))->RB=false:=by
   intro hx;rw [HRB.out];simp;omega
  clear aH hc El EP BS qF;obtain⟨⟨o1,ty,tt,da⟩,dv⟩:=x;simp only at c0 c1 c2 c3 hdv aD1 N7 yY
  subst hdv;generalize hz:jQ (ps.take (k+1))=z1 at*;generalize jQ (ps.take k)=z0 at*
  by_cases hgt:500<z1
  ·obtain rfl:RB=false:=gI hgt;have aQ3:(500:Int)<(z0:Int)+(da.length:Int):=by omega
   clear HRB gI;go_wp2;go_ret;exact⟨rfl,yY⟩
  have aQ3:(z0:Int)+(da.length:Int)<=500:=by omega
  clear gI;go_wp2;go_roundw
  ·exact⟨k+1,by omega,by go_num,by rw [hz,aD1],by omega,yY⟩
  simp [intOf];omega
 have mK:k=ps.length:=by omega
 subst mK;rw [List.take_length] at hle;obtain rfl:RB=true:=by rw [HRB.out];simp;omega
 have i2:(ps.length:Int)<=(ps.length:Int):=by omega
 clear EP HRB;go_wp2;go_ret;exact⟨rfl,aG⟩
theorem Qx(s:Sz)(dv:Value)(w:World)(h:Nm.bP w dv s.da)(hl:s.da.length<=1048576)(ho:s.own.size<=1048576)(hx:∀ x∈s.da,x.size<=1048576):
 Calls Tryz.prog 100 #[.agg #[.string s.own,.int .i64 s.ty,.int .i64 s.tt,dv]] w fun e w'=>∃ u,e=.returned u∧w'.ownsRow w.heap.size 133 5 u (iW s).length (jC (iW s))∧(s.da=[]->u=.slice none 0 0)∧Below w.heap.size w w':=by
 obtain⟨i0,hi,iQ,iH,iI⟩:=info_parts Tryz.P5;have Dk:=xW s;have NJ:=fun(k:Nat) (d:ByteArray) (h:s.da[k]? =some d)=>YT (s:=s) h
 generalize iW s=rs at*;obtain⟨o,ty,tt,da⟩:=s;simp only at*
 have aIh:=fun W=>xG o W (by omega)
 have aK1:=fun(x:ByteArray) (hm:x∈da) W=>xG x W (by have:=hx x hm;omega)
 have iY:=(aJ w.heap.size w).alloc (aI _) (.cells #[.string o,.int .i64 ty,.int .i64 tt,dv] 42);have dI:=h.below iY;have PQ:=aK w #[.string o,.int .i64 ty,.int .i64 tt,dv] 42;obtain⟨a,cap,rfl,gT,kV,FC,hc⟩:=dI;clear h hx;unfold maxLen at kV;go_enter Tryz.func100,Tryz.ntmps100;go_wp2;generalize w.alloc (.cells #[.string o,.int .i64 ty,.int .i64 tt,.slice a da.length cap] 42)=w0 at*
 have qD:∀ W,Below w0.heap.size w0 W->∀ (k:Nat) (x:ByteArray),da[k]? =some x->∃ b off,a=some ⟨b,off,none⟩∧W.cell? ⟨b,off+k,none⟩=some (.string x):=by
  intro W hW k x hx;obtain⟨b,off,rfl,aH⟩:=hc (by intro h;rw [h] at hx;simp at hx);have h0:=aH k x hx;exact⟨b,off,rfl,(hW.cell (fD w0 _ h0)).trans h0⟩
 have IL:∀ W,Below w0.heap.size w0 W->W.cell? ⟨w.heap.size,0,none⟩=some (.string o)∧W.cell? ⟨w.heap.size,1,none⟩=some (.int .i64 ty)∧W.cell? ⟨w.heap.size,2,none⟩=some (.int .i64 tt)∧W.cell? ⟨w.heap.size,3,none⟩=some (.slice a da.length cap):=by
  intro W hW;have hb:=aB PQ hW;exact⟨(aA hb 0).trans rfl,(aA hb 1).trans rfl,(aA hb 2).trans rfl,(aA hb 3).trans rfl⟩
 clear hc PQ
 go_loopw [3,9] (fun vo vi wr=>∃ k:Nat,k<=da.length∧vi=.int .i64 k∧wr.ownsRow w0.heap.size 133 5 vo k (jC (rs.take k))∧(k=0->vo=.slice none 0 0)∧Below w0.heap.size w0 wr) (fun _ vi _=>da.length-(intOf vi).toNat)
 ·exact⟨0,dR _,rfl,⟨rfl,.inl ⟨rfl,rfl⟩⟩,fun _=>rfl,aJ _ _⟩
 obtain⟨k,hk,rfl,oO,Ac,aG⟩:=hrel
 by_cases bY:k<da.length
 ·obtain⟨x,hx⟩:=gQ bY;obtain⟨b,off,rfl,Pd⟩:=qD wr aG k x hx;have aEr:=fun W=>aK1 x (dA hx) W
  have HT:Hid (jC (rs.take k)++[.string o,.int .i64 ty,.int .i64 1,.int .i64 tt,.string x]=jC (rs.take (k+1))):=by
   show _=_
   rw [NJ k x hx,sQ];rfl
  have i1:=fE k
  have i2:(k:Int)<(da.length:Int):=by omega
  clear qD NJ hx aK1 Ac;go_wp2_with fail
  refine wp_region_held_drew (S:=fun W=>Below w0.heap.size w0 W) (by kernel_rfl) aG.drew fun aY=>?_;refine wpAnyH_take (i:=0) (v:=?_) rfl (by kernel_rfl) (by kernel_rfl) (by kernel_rfl) (fun _ _ _ h=>h) (Or.inl ⟨by rfl,?_⟩) (by assumption) ?_;rotate_left 1
  ·(intro W uA;obtain⟨z0,z1,z2,z3⟩:=IL W uA;go_simp;try (with_reducible rfl))
  refine wpAnyH_take (i:=1) (v:=?_) rfl (by kernel_rfl) (by kernel_rfl) (by kernel_rfl) (fun _ _ _ h=>h) (Or.inl ⟨by rfl,?_⟩) (by assumption) ?_;rotate_left 1
  ·(intro W uA;obtain⟨z0,z1,z2,z3⟩:=IL W uA;go_simp;try (with_reducible rfl))
  refine wpAnyH_take (i:=2) (v:=?_) rfl (by kernel_rfl) (by kernel_rfl) (by kernel_rfl) (fun _ _ _ h=>h) (Or.inl ⟨by rfl,?_⟩) (by assumption) ?_;rotate_left 1
  ·(intro W uA;obtain⟨z0,z1,z2,z3⟩:=IL W uA;go_simp;try (with_reducible rfl))
  refine wpAnyH_take (i:=4) (v:=?_) rfl (by kernel_rfl) (by kernel_rfl) (by kernel_rfl) (fun _ _ _ h=>h) (Or.inl ⟨by rfl,?_⟩) (by assumption) ?_;rotate_left 1
  ·(intro W uA;obtain⟨z0,z1,z2,z3⟩:=IL W uA;go_simp;try (with_reducible rfl))
  refine wpAnyH_take (i:=5) (v:=?_) rfl (by kernel_rfl) (by kernel_rfl) (by kernel_rfl) (fun _ _ _ h=>h) (Or.inl ⟨by rfl,?_⟩) (by assumption) ?_;rotate_left 1
  ·(intro W uA;obtain⟨z0,z1,z2,z3⟩:=IL W uA;go_simp;try (with_reducible rfl))
  refine wpAnyH_take (i:=6) (v:=?_) rfl (by kernel_rfl) (by kernel_rfl) (by kernel_rfl) (fun _ _ _ h=>h) (Or.inl ⟨by rfl,?_⟩) (by assumption) ?_;rotate_left 1
  ·(intro W uA;obtain⟨z0,z1,z2,z3⟩:=IL W uA;go_simp;try (with_reducible rfl))
  refine wpAnyH_take (i:=7) (v:=?_) rfl (by kernel_rfl) (by kernel_rfl) (by kernel_rfl) (fun _ _ _ h=>h) (Or.inl ⟨by rfl,?_⟩) (by assumption) ?_;rotate_left 1
  ·(intro W uA;obtain⟨z0,z1,z2,z3⟩:=IL W uA;go_simp;try (with_reducible rfl))
  refine wpAnyH_take (i:=8) (v:=?_) rfl (by kernel_rfl) (by kernel_rfl) (by kernel_rfl) (fun _ _ _ h=>h) (Or.inl ⟨by rfl,?_⟩) (by assumption) ?_;rotate_left 1
  ·(intro W uA;obtain⟨z0,z1,z2,z3⟩:=IL W uA;go_simp;try (with_reducible rfl))
  refine wpAnyH_ready (rs:=[3]) (by kernel_rfl) (by simp) ?_;refine AllReadyH.cons rfl (fun K hK=>?_) AllReadyH.nil;go_simp;refine(aIh _).mono ?_;rintro e w3 ⟨rfl,SX⟩;have Hd:Below w0.heap.size w0 w3:=Below.trans aY (SX.mono aY.size);have oO3:=own_below (own_below oO (aJ _ _).drew) SX;go_wp2_with fail
  refine hK.out _ _ Hd fun _=>?_;clear hK K;refine wpAnyH_ready (rs:=[9]) (by kernel_rfl) (by simp) ?_;refine AllReadyH.cons rfl (fun K hK=>?_) AllReadyH.nil;go_simp;refine(aEr _).mono ?_;rintro e w4 ⟨rfl,rG⟩;have hS4:Below w0.heap.size w0 w4:=Below.trans Hd (rG.mono Hd.size);have oO4:=own_below oO3 rG;go_wp2_with fail
  refine hK.out _ _ hS4 fun _=>?_;clear hK K oO3 Hd;refine wpAnyH_take (i:=10) (v:=?_) rfl (by kernel_rfl) (by kernel_rfl) (by kernel_rfl) (fun _ _ _ h=>h) (Or.inl ⟨by rfl,?_⟩) (by assumption) ?_;rotate_left 1
  ·(intro W uA;obtain⟨z0,z1,z2,z3⟩:=IL W uA;go_simp;try (with_reducible rfl))
  refine wpAnyH_ready (rs:=[11]) (by kernel_rfl) (by simp) ?_;refine AllReadyH.cons rfl (fun K hK=>?_) AllReadyH.nil;go_simp;refine hK.out _ _ (hS4.alloc hS4.size _) fun _=>?_;clear hK K;refine wpAnyH_ready (rs:=[12]) (by kernel_rfl) (by simp) ?_;refine AllReadyH.cons rfl (fun K hK=>?_) AllReadyH.nil;refine nD rfl (.tmp 13) (.tmp 24) 88 rfl w0.heap.size 133 i0 _ 5 56 Tryz.underlying88 hi iQ iH iI rfl (by decide) _ _ _ (by rfl) (own_below oO4 ((aJ _ _).alloc (aI _) _)) ⟨w4.heap.size,0,none⟩ 1 1 [.string o,.int .i64 ty,.int .i64 1,.int .i64 tt,.string x] (by rfl) rfl (eZ _ _ _) (by intro u hu;simp at hu;rcases hu with rfl|rfl|rfl|rfl|rfl<;>rfl) (by unfold maxLen;omega) (by omega) (by have:=hS4.size;simp;omega) ?_;intro va wa dE bU _;rw [HT.out] at dE;have b4:Below w0.heap.size w0 wa:=(hS4.alloc hS4.size _).grown bU (by have:=hS4.size;simp;omega) (fun k hk=>(oO4.lt k hk).1);refine hK.out _ _ b4 fun _=>?_;clear hK K bU oO oO4 aY hS4;refine wpAnyH_take (i:=13) (v:=?_) rfl (by kernel_rfl) (by kernel_rfl) (by kernel_rfl) (fun _ _ _ h=>h) (Or.inl ⟨by rfl,?_⟩) (by assumption) ?_;rotate_left 1
  ·(intro W uA;obtain⟨z0,z1,z2,z3⟩:=IL W uA;go_simp;try (with_reducible rfl))
  refine wpAnyH_done (by kernel_rfl) ?_ _;obtain⟨z0,z1,z2,z3⟩:=IL _ b4;go_wp2;go_roundw
  ·exact⟨k+1,by omega,by go_num,dE,fun h=>by omega,b4⟩
  simp [intOf];omega
 have mK:k=da.length:=by omega
 subst mK;have i2:(da.length:Int)<=(da.length:Int):=by omega
 clear qD IL NJ aK1;rw [List.take_of_length_le (by omega)] at oO;go_wp2;go_ret;refine⟨_,rfl,?_,fun h=>Ac (by rw [h];rfl),Nm.aC iY aG⟩;rw [Dk];exact fM oO iY.size
theorem IW(g:Nat)(a:Option Addr)(n cap:Nat)(w:World)(h:Src w g a n cap):
 Calls Tryz.prog 75 #[.pointer (some ⟨g,0,none⟩)] w fun e w'=>∃ s:ByteArray,e=.returned (.string s)∧1<=s.size∧s.size<=1000∧Src w' g a n cap∧w.grownBy w' (some g):=by
 obtain⟨i0,hi,iQ,iH,iI⟩:=info_parts Tryz.wM;obtain⟨gJ,zD⟩:=qK h;go_enter Tryz.func75,Tryz.ntmps75;go_wp2_with fail
 refine(aW g a n cap 5 _ (aZ h ((aJ _ _).alloc (aI _) _)) (by decide)).mono ?_;rintro e w1 ⟨m,rfl,hm0,hm1,M3,aAa⟩;have hm2:=hm1 (by decide);obtain⟨m,rfl⟩:=Int.eq_ofNat_of_zero_le hm0
 have IM:w1.ownsRow w.heap.size 9 1 (.slice (some ⟨w.heap.size,0,none⟩) 0 0) 0 []:=
  (World.ownsRow_made w #[] 0 (aI _) (by decide) rfl).kept aAa (.inr (by simp only [Value.ownBlock,ne_eq,mV];omega))
 have mD:w.grownBy w1 (some g):=aS (dP (World.grownBy.refl _ _) _) aAa;clear hm1 aAa h;go_wp2_with fail
 go_loopw [3,5] (fun v i wr=>∃ (k:Nat) (ls:List ByteArray),k<=m∧i=.int .i64 k∧wr.ownsRow w.heap.size 9 1 v ls.length (ls.map Value.string)∧Nm.cK ls<=64*k∧ls.length=k∧Src wr g a n cap∧w.grownBy wr (some g))
  (fun _ i _=>m-(intOf i).toNat)
 ·exact⟨0,[],dR _,rfl,IM,by simp [Nm.cK],rfl,M3,mD⟩
 obtain⟨k,ls,hk,rfl,aU,Xd,Pw,kK,qB⟩:=hrel;clear IM M3 mD;have P6:=Nm.aD Pw;clear Pw
 by_cases bY:k<m
 ·go_wp2_with (first|(go_at_call 120;refine(pQ g a n cap _ kK).mono ?_;rintro e w3 ⟨x,rfl,hx,YX,Iy⟩;have gW:=aU.kept Iy (lW aU kK (by decide));have iZ:=aS qB Iy;have YY:=iZ.size)|(at_builtin;refine wpList_append_own _ rfl (.tmp 15) (.tmp 18) 32 rfl w.heap.size 9 i0 (.string ByteArray.empty) 1 16 Tryz.underlying32 hi iQ iH iI rfl (by decide) _ _ _ rfl (gW.alloc _) ⟨w3.heap.size,0,none⟩ 1 1 [.string x] rfl rfl (cell_one_new _ _ _) (Nm.one_cell _ rfl) (by have:=P6.out;unfold maxLen;omega) (by have:=P6.out;omega) (by simp;omega) ?_;intro vb wb jR nP Iz;clear Iz;have R:=BO gW YX iZ zD gJ jR nP;clear jR nP))
  go_roundw
  ·exact⟨k+1,_,by omega,by go_num,R.1,by rw [xI];omega,by have:=P6.out;simp;omega,R.2.1,R.2.2⟩
  simp [intOf];omega
 have FE:k=m:=by omega
 subst FE;go_wp2_with fail
 refine(aW g a n cap 3 _ kK (by decide)).mono ?_;rintro e w2 ⟨q,rfl,IK,uB,wJ,EC⟩;have dO:=aU.kept EC (lW aU kK (by decide));have mM:=aS qB EC;have DY:=mM.size;have X9:Nm.cK ls<=300:=by omega
 clear uB aU kK qB EC bY
 by_cases hq:0<q
 ·go_wp2_with (at_builtin;refine wpList_append_own _ rfl (.tmp 23) (.tmp 24) 32 rfl w.heap.size 9 i0 (.string ByteArray.empty) 1 16 Tryz.underlying32 hi iQ iH iI rfl (by decide) _ _ _ rfl (dO.alloc _) ⟨w2.heap.size,0,none⟩ 1 1 [.string ⟨#[101,120,97,109,112,108,101]⟩] rfl rfl (cell_one_new _ _ _) (Nm.one_cell _ rfl) (by have:=P6.out;unfold maxLen;omega) (by have:=P6.out;omega) (by simp;omega) ?_;intro vb wb jR nP Iz;clear Iz;have R:=BO dO wJ mM zD gJ jR nP;clear jR nP)
  have hw9:Nm.cK (ls++[⟨#[101,120,97,109,112,108,101]⟩])<=400:=by
   rw [xI];have:(ByteArray.mk #[101,120,97,109,112,108,101]).size=7:=rfl;omega
  obtain⟨VH,hsC,hgC⟩:=R;generalize ls++[⟨#[101,120,97,109,112,108,101]⟩]=ls2 at VH hw9;clear dO wJ mM;refine(aW g a n cap 20 _ hsC (by decide)).mono ?_;rintro e wn ⟨p,rfl,YV,BX,hsN,hgN⟩;have Qy:=VH.kept hgN (lW VH hsC (by decide));have Kl:=aS hgC hgN;have aEs:=Kl.size;clear BX VH hsC hgC hgN
  by_cases hp:p=0
  ·subst hp;clear Qy;go_wp2_with fail
   go_loopg [3] 300 (fun gh v wr=>∃ FJ:List ByteArray,wr.ownsRow w.heap.size 9 1 v FJ.length (FJ.map Value.string)∧Nm.cK FJ+gh=300∧Nm.cK FJ<=252∧Src wr g a n cap∧w.grownBy wr (some g))
   ·exact⟨[],World.ownsRow_made wn #[] 0 aEs (by decide) rfl,by simp [Nm.cK],by simp [Nm.cK],aZ hsN ((aJ _ _).alloc (aI _) _),dP Kl _⟩
   obtain⟨FJ,gW,hgh,hw3,sO,iZ⟩:=hrel;have hl3:=Nm.bL FJ;clear hsN Kl aEs;go_wp2_with fail
   refine(bV _ FJ _ (Nm.bP.aP gW) (by omega)).mono ?_;rintro e wj ⟨rfl,hbj⟩;have vN:=vK gW hbj;have hsj:=aZ sO hbj;have hgj:=bJ iZ hbj;have hjs:=iL FJ;have VD:=fun W hq=>bV u3 FJ W hq (by omega)
   generalize ByteArray.mk (Nm.joinL FJ).toArray=J at*;clear gW sO iZ hbj
   by_cases bY:Nm.cK FJ+1<190
   ·have hJ:(J.size:Int)<190:=by omega
    clear hjs VD;go_wp2_with (first|(go_at_call 18;refine(aW g a n cap 63 _ hsj (by decide)).mono ?_;rintro e w5 ⟨r,rfl,GU,uG,PY,RH⟩;have wR:=uG (by decide);have vO:=vN.kept RH (lW vN hsj (by decide));have aK2:=aS hgj RH;clear uG)|(go_at_call 20;refine(fG g a n cap _ _ PY (by omega) (by omega)).mono ?_;rintro e w6 ⟨x,rfl,hx,Nb,Fb⟩;have oC:=vO.kept Fb (lW vO PY (by decide));have Ao:=aS aK2 Fb;have aK3:=Ao.size)|(at_builtin;refine wpList_append_own _ rfl (.tmp 34) (.tmp 40) 32 rfl w.heap.size 9 i0 (.string ByteArray.empty) 1 16 Tryz.underlying32 hi iQ iH iI rfl (by decide) _ _ _ rfl (oC.alloc _) ⟨w6.heap.size,0,none⟩ 1 1 [.string x] rfl rfl (cell_one_new _ _ _) (Nm.one_cell _ rfl) (by unfold maxLen;omega) (by omega) (by simp;omega) ?_;intro vb wb yJ tK Ym;clear Ym;have R7:=BO oC Nb Ao zD gJ yJ tK;clear yJ tK))
    have xM:=xI FJ x
    go_roundg (300-Nm.cK (FJ++[x]))
    case measure=>omega
    exact⟨_,R7.1,by omega,by omega,R7.2.1,R7.2.2⟩
   have hJ:(190:Int)<=(J.size:Int):=by omega
   have hJ2:(J.size:Int)<=253:=by omega
   go_wp2_with fail
   refine(VD _ (Nm.bP.aP vN)).mono ?_;rintro e wk ⟨rfl,UO⟩;have sZ:=vK vN UO;have hsk:=aZ hsj UO;have hgk:=bJ hgj UO;clear vN hsj hgj UO
   by_cases zR:J.size<=253∧191<=J.size
   ·have r1:(0:Int)<254-(J.size:Int):=by omega
    have r2:254-(J.size:Int)<=63:=by omega
    go_wp2_with (first|(go_at_call 20;refine(fG g a n cap _ _ hsk (by omega) (by omega)).mono ?_;rintro e w6 ⟨x,rfl,hx,Nb,Fb⟩;have oC:=sZ.kept Fb (lW sZ hsk (by decide));have Ao:=aS hgk Fb;have aK3:=Ao.size)|(at_builtin;refine wpList_append_own _ rfl (.tmp 53) (.tmp 57) 32 rfl w.heap.size 9 i0 (.string ByteArray.empty) 1 16 Tryz.underlying32 hi iQ iH iI rfl (by decide) _ _ _ rfl (oC.alloc _) ⟨w6.heap.size,0,none⟩ 1 1 [.string x] rfl rfl (cell_one_new _ _ _) (Nm.one_cell _ rfl) (by unfold maxLen;omega) (by omega) (by simp;omega) ?_;intro vb wb yJ tK Ym;clear Ym;have R7:=BO oC Nb Ao zD gJ yJ tK;clear yJ tK))
    obtain⟨ER,hs8,hg8⟩:=R7;have xM:=xI FJ x;have hj8:=iL (FJ++[x]);refine(bV _ (FJ++[x]) _ (Nm.bP.aP ER) (by omega)).mono ?_;rintro e w9 ⟨rfl,xN⟩;have tL:=vK ER xN;have CV:=aZ hs8 xN;have nA:=bJ hg8 xN;have aK4:=fun V W hq=>bV V (FJ++[x]) W hq (by omega)
    generalize ByteArray.mk (Nm.joinL (FJ++[x])).toArray=J8 at*;have hJ8:(J8.size:Int)<=255:=by omega
    have HJ8:Hid (1<=J8.size∧J8.size<=1000):=by show _∧_;omega
    clear hj8 hjs;go_wp2_with fail
    refine(aK4 _ _ (Nm.bP.aP tL)).mono ?_;rintro e P7 ⟨rfl,Ap⟩;go_wp2;go_ret;exact⟨_,rfl,HJ8.out.1,HJ8.out.2,aZ CV Ap,bJ nA Ap⟩
   have r1:(63:Int)<255-(J.size:Int)-1:=by omega
   have r2:decide (255-(J.size:Int)-1<=63)=false:=by simp;omega
   go_wp2_with fail
   refine(VD _ (Nm.bP.aP sZ)).mono ?_;rintro e w9 ⟨rfl,xN⟩;have tL:=vK sZ xN;have CV:=aZ hsk xN;have nA:=bJ hgk xN;have hJ8:(J.size:Int)<=255:=by omega
   have HJ8:Hid (1<=J.size∧J.size<=1000):=by show _∧_;omega
   clear hjs;go_wp2_with fail
   refine(VD _ (Nm.bP.aP tL)).mono ?_;rintro e P7 ⟨rfl,Ap⟩;go_wp2;go_ret;exact⟨_,rfl,HJ8.out.1,HJ8.out.2,aZ CV Ap,bJ nA Ap⟩
  have Gt:(p==0)=false:=beq_eq_false_iff_ne.2 hp
  go_wp2_with fail
  refine(bV _ ls2 _ (Nm.bP.aP Qy) (by omega)).mono ?_;rintro e wz ⟨rfl,yZ⟩;have hjz:=iL ls2;generalize ByteArray.mk (Nm.joinL ls2).toArray=J at*;have HJ8:Hid (1<=J.size∧J.size<=1000):=by show _∧_;omega
  clear hjz;go_wp2;go_ret;exact⟨_,rfl,HJ8.out.1,HJ8.out.2,aZ hsN yZ,bJ Kl yZ⟩
 have Vy:q<=0:=by omega
 have hw9:Nm.cK ls<=400:=by omega
 have VH:=dO;have hsC:=wJ;have hgC:=mM;clear dO wJ mM;go_wp2_with fail
 refine(aW g a n cap 20 _ hsC (by decide)).mono ?_;rintro e wn ⟨p,rfl,YV,BX,hsN,hgN⟩;have Qy:=VH.kept hgN (lW VH hsC (by decide));have Kl:=aS hgC hgN;have aEs:=Kl.size;clear BX VH hsC hgC hgN
 by_cases hp:p=0
 ·subst hp;clear Qy;go_wp2_with fail
  go_loopg [3] 300 (fun gh v wr=>∃ FJ:List ByteArray,wr.ownsRow w.heap.size 9 1 v FJ.length (FJ.map Value.string)∧Nm.cK FJ+gh=300∧Nm.cK FJ<=252∧Src wr g a n cap∧w.grownBy wr (some g))
  ·exact⟨[],World.ownsRow_made wn #[] 0 aEs (by decide) rfl,by simp [Nm.cK],by simp [Nm.cK],aZ hsN ((aJ _ _).alloc (aI _) _),dP Kl _⟩
  obtain⟨FJ,gW,hgh,hw3,sO,iZ⟩:=hrel;have hl3:=Nm.bL FJ;clear hsN Kl aEs;go_wp2_with fail
  refine(bV _ FJ _ (Nm.bP.aP gW) (by omega)).mono ?_;rintro e wj ⟨rfl,hbj⟩;have vN:=vK gW hbj;have hsj:=aZ sO hbj;have hgj:=bJ iZ hbj;have hjs:=iL FJ;have VD:=fun W hq=>bV u3 FJ W hq (by omega)
  generalize ByteArray.mk (Nm.joinL FJ).toArray=J at*;clear gW sO iZ hbj
  by_cases bY:Nm.cK FJ+1<190
  ·have hJ:(J.size:Int)<190:=by omega
   clear hjs VD;go_wp2_with (first|(go_at_call 18;refine(aW g a n cap 63 _ hsj (by decide)).mono ?_;rintro e w5 ⟨r,rfl,GU,uG,PY,RH⟩;have wR:=uG (by decide);have vO:=vN.kept RH (lW vN hsj (by decide));have aK2:=aS hgj RH;clear uG)|(go_at_call 20;refine(fG g a n cap _ _ PY (by omega) (by omega)).mono ?_;rintro e w6 ⟨x,rfl,hx,Nb,Fb⟩;have oC:=vO.kept Fb (lW vO PY (by decide));have Ao:=aS aK2 Fb;have aK3:=Ao.size)|(at_builtin;refine wpList_append_own _ rfl (.tmp 34) (.tmp 40) 32 rfl w.heap.size 9 i0 (.string ByteArray.empty) 1 16 Tryz.underlying32 hi iQ iH iI rfl (by decide) _ _ _ rfl (oC.alloc _) ⟨w6.heap.size,0,none⟩ 1 1 [.string x] rfl rfl (cell_one_new _ _ _) (Nm.one_cell _ rfl) (by unfold maxLen;omega) (by omega) (by simp;omega) ?_;intro vb wb yJ tK Ym;clear Ym;have R7:=BO oC Nb Ao zD gJ yJ tK;clear yJ tK))
   have xM:=xI FJ x
   go_roundg (300-Nm.cK (FJ++[x]))
   case measure=>omega
   exact⟨_,R7.1,by omega,by omega,R7.2.1,R7.2.2⟩
  have hJ:(190:Int)<=(J.size:Int):=by omega
  have hJ2:(J.size:Int)<=253:=by omega
  go_wp2_with fail
  refine(VD _ (Nm.bP.aP vN)).mono ?_;rintro e wk ⟨rfl,UO⟩;have sZ:=vK vN UO;have hsk:=aZ hsj UO;have hgk:=bJ hgj UO;clear vN hsj hgj UO
  by_cases zR:J.size<=253∧191<=J.size
  ·have r1:(0:Int)<254-(J.size:Int):=by omega
   have r2:254-(J.size:Int)<=63:=by omega
   go_wp2_with (first|(go_at_call 20;refine(fG g a n cap _ _ hsk (by omega) (by omega)).mono ?_;rintro e w6 ⟨x,rfl,hx,Nb,Fb⟩;have oC:=sZ.kept Fb (lW sZ hsk (by decide));have Ao:=aS hgk Fb;have aK3:=Ao.size)|(at_builtin;refine wpList_append_own _ rfl (.tmp 53) (.tmp 57) 32 rfl w.heap.size 9 i0 (.string ByteArray.empty) 1 16 Tryz.underlying32 hi iQ iH iI rfl (by decide) _ _ _ rfl (oC.alloc _) ⟨w6.heap.size,0,none⟩ 1 1 [.string x] rfl rfl (cell_one_new _ _ _) (Nm.one_cell _ rfl) (by unfold maxLen;omega) (by omega) (by simp;omega) ?_;intro vb wb yJ tK Ym;clear Ym;have R7:=BO oC Nb Ao zD gJ yJ tK;clear yJ tK))
   obtain⟨ER,hs8,hg8⟩:=R7;have xM:=xI FJ x;have hj8:=iL (FJ++[x]);refine(bV _ (FJ++[x]) _ (Nm.bP.aP ER) (by omega)).mono ?_;rintro e w9 ⟨rfl,xN⟩;have tL:=vK ER xN;have CV:=aZ hs8 xN;have nA:=bJ hg8 xN;have aK4:=fun V W hq=>bV V (FJ++[x]) W hq (by omega)
   generalize ByteArray.mk (Nm.joinL (FJ++[x])).toArray=J8 at*;have hJ8:(J8.size:Int)<=255:=by omega
   have HJ8:Hid (1<=J8.size∧J8.size<=1000):=by show _∧_;omega
   clear hj8 hjs;go_wp2_with fail
   refine(aK4 _ _ (Nm.bP.aP tL)).mono ?_;rintro e P7 ⟨rfl,Ap⟩;go_wp2;go_ret;exact⟨_,rfl,HJ8.out.1,HJ8.out.2,aZ CV Ap,bJ nA Ap⟩
  have r1:(63:Int)<255-(J.size:Int)-1:=by omega
  have r2:decide (255-(J.size:Int)-1<=63)=false:=by simp;omega
  go_wp2_with fail
  refine(VD _ (Nm.bP.aP sZ)).mono ?_;rintro e w9 ⟨rfl,xN⟩;have tL:=vK sZ xN;have CV:=aZ hsk xN;have nA:=bJ hgk xN;have hJ8:(J.size:Int)<=255:=by omega
  have HJ8:Hid (1<=J.size∧J.size<=1000):=by show _∧_;omega
  clear hjs;go_wp2_with fail
  refine(VD _ (Nm.bP.aP tL)).mono ?_;rintro e P7 ⟨rfl,Ap⟩;go_wp2;go_ret;exact⟨_,rfl,HJ8.out.1,HJ8.out.2,aZ CV Ap,bJ nA Ap⟩
 have Gt:(p==0)=false:=beq_eq_false_iff_ne.2 hp
 go_wp2_with fail
 refine(bV _ ls _ (Nm.bP.aP Qy) (by omega)).mono ?_;rintro e wz ⟨rfl,yZ⟩;have hjz:=iL ls;generalize ByteArray.mk (Nm.joinL ls).toArray=J at*;have HJ8:Hid (1<=J.size∧J.size<=1000):=by show _∧_;omega
 clear hjz;go_wp2;go_ret;exact⟨_,rfl,HJ8.out.1,HJ8.out.2,aZ hsN yZ,bJ Kl yZ⟩
