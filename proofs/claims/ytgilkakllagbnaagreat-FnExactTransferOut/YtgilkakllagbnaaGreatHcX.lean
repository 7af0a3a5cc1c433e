import Derived.Test.YtgilkakllagbnaaGreatHcA
import Derived.Test.YtgilkakllagbnaaGreatJDzY
import Derived.Test.YtgilkakllagbnaaGreatJRrM
import Derived.BigQuiet
namespace Go.Proofs.YtgilkakllagbnaaGreat
open Go.RowKit
set_option linter.unusedVariables false
set_option maxRecDepth 100000 in
set_option maxHeartbeats 6400000 in
theorem l11History_any(o:ByteArray)(v hv:Value)(ps:List Zp)(hs:List Hp)(w:World)(h:ZRow w v ps)(hh:HRow w hv hs)(hpl:ps.length<=1048576)(hF:FitZ ps)(ho:o.size<=1048576)(hz:zOK ps o=true):
 Calls Tryz.prog 20 #[.agg #[.string o,v],hv] w fun e w'=>e=.returned (.bool (hisB (soaOf ps) (hs.map (·.1))))∧Below w.heap.size w w':=by
 obtain⟨va,vc,rfl⟩:∃ va vc,v=.slice va ps.length vc:=by obtain⟨⟨_,a,c,e,_⟩,_⟩:=h;exact⟨a,c,e⟩
 have hso:=fun W (hW:Below w.heap.size w W)=>l11Soa_ok o _ ps W (h.below hW) hpl hF (by unfold maxLen;omega) hz
 have hsl:=fun(p:Hp) (hp:p∈hs)=>hh.sl hp
 obtain⟨⟨_,a,cap,rfl,hcap,hmx,hc⟩,-⟩:=hh;unfold maxLen at hmx;generalize soaOf ps=s at*;obtain⟨R,HR⟩:∃ R,Hid (R=hisB s (hs.map (·.1))):=⟨_,rfl⟩;rw [<- HR.out];have b0:=(Below.refl w.heap.size w).alloc (Nat.le_refl _) (.cells #[.string o,.slice va ps.length vc] 33);have k0:=blk_new w #[.string o,.slice va ps.length vc] 33;clear h hz hF hpl
 by_cases hl:hs.length<=40
 ·have i0:¬(40:Int)<(hs.length:Int):=by omega
  go_enter Tryz.func20,Tryz.ntmps20;go_wp2
  go_loopw [5] (fun i wr=>∃ k:Nat,k<=hs.length∧i=.int .i64 k∧Hid (∀ j c,j<k->(hs.map (·.1))[j]? =some c->okH s (hs.map (·.1)) j=true∧lgB c=false)∧Blk wr w.heap.size #[.string o,.slice va ps.length vc] 33∧Below w.heap.size w wr) (fun i _=>hs.length-(intOf i).toNat)
  case atStart=>exact⟨0,Nat.zero_le _,rfl,by show ∀ _,_;intro j c hj;omega,k0,b0⟩
  case round=>
   clear k0 b0;obtain⟨k,hk,rfl,HA,k0,hbel⟩:=hrel
   by_cases hlt:k<hs.length
   ·obtain⟨x,hxk⟩:∃ x,hs[k]? =some x:=⟨_,List.getElem?_eq_getElem hlt⟩;obtain⟨b,off,rfl,hcell⟩:=hc (by omega);have i1:(0:Int)<=(k:Int):=by omega
    have i2:(k:Int)<(hs.length:Int):=by omega
    have hw:IntKind.i64.wrap ((k:Int)+1)=(k:Int)+1:=Go.wrap_small _ (by omega) (by omega);have hw2:IntKind.i64.wrap (k:Int)=(k:Int):=Go.wrap_small _ (by omega) (by omega);have r0:=fun i=>blk_cell k0 i
    have HXK:=Nm.hide (cs_at hxk);obtain⟨⟨xa,xc,hx1⟩,ya,yc,hx2⟩:=hsl x (List.mem_of_getElem? hxk);go_wp2_with fail
    refine(hso _ hbel).mono ?_;rintro e w1 ⟨rfl,b1⟩;have hb1:=Nm.below_two hbel b1;have k1':=blk_below k0 b1;have bS:=hb1.alloc hb1.size (.cells #[.string s.own,.int .i64 s.ty,.int .i64 s.cl,.int .i64 s.tt,.string s.da] 56);clear r0 hso k0 hbel b1
    by_cases hnx:k+1<hs.length
    ·obtain⟨y,hyk⟩:∃ y,hs[k+1]? =some y:=⟨_,List.getElem?_eq_getElem hnx⟩;obtain⟨⟨d0,d1,d2,d3,d4⟩,-,-⟩:=hp_cells (hp_put bS hcell) hyk;have HE:=Nm.hide (nxH_next (soa:=s) hyk);have i3:(0:Int)<=(k:Int)+1:=by omega
     have i4:(k:Int)+1<(hs.length:Int):=by omega
     have i5:((k:Int)+1).toNat=k+1:=by omega
     have bA:=hb1.alloc hb1.size (.cells #[.string y.1.old.own,.int .i64 y.1.old.ty,.int .i64 y.1.old.cl,.int .i64 y.1.old.tt,.string y.1.old.da] 56);have k1:=blk_alloc k1' (.cells #[.string y.1.old.own,.int .i64 y.1.old.ty,.int .i64 y.1.old.cl,.int .i64 y.1.old.tt,.string y.1.old.da] 56);have kN:=blk_new w1 #[.string y.1.old.own,.int .i64 y.1.old.ty,.int .i64 y.1.old.cl,.int .i64 y.1.old.tt,.string y.1.old.da] 56;obtain⟨⟨c0,c1,c2,c3,c4⟩,⟨c5,c6,c7,c8,c9⟩,c10,c11⟩:=hp_cells (hp_put bA hcell) hxk;clear hxk hyk hcell hc hsl hnx k1' bS;obtain⟨⟨xo,xn,xd,xe⟩,xv,xu⟩:=x;obtain⟨⟨yo,yn,yd,ye⟩,yv,yu⟩:=y;simp only at c0 c1 c2 c3 c4 c5 c6 c7 c8 c9 c10 c11 d0 d1 d2 d3 d4 hx1 hx2 HXK HE bA k1 kN
     subst hx1 hx2;go_upto_region 9 with fail
     generalize hWq:w1.alloc (.cells #[.string yo.own,.int .i64 yo.ty,.int .i64 yo.cl,.int .i64 yo.tt,.string yo.da] 56)=Wq at*;clear hWq d0 d1 d2 d3 d4;have rN:=fun i=>blk_cell kN i
     cases hq:eqR xn yo with
     |false=>
      have HNE:Hid (eqR xn (nxH s (hs.map (·.1)) k)=false):=by show _=_;rw [HE.out];exact hq
      clear HE;have ne:((xn).own.toList==(yo).own.toList&&(xn).ty==(yo).ty&&(xn).cl==(yo).cl&&(xn).tt==(yo).tt&&(xn).da.toList==(yo).da.toList)=false:=eqR_of.symm.trans hq;have HN:Hid (R=false):=by show _=_;rw [HR.out,hisB,hg_bad HXK.out HNE.out,Bool.false_and]
      clear hq HR HNE HXK HA
      cases e1:((xn).own.toList==(yo).own.toList) with
      |false=>
       clear ne;go_quiet (fail)
       generalize hwE:World.drewN Wq _=wE;have hbE:Below w.heap.size w wE:=by rw [<- hwE];exact Go.below_drewN bA _
       clear hwE;go_wp2;go_ret;rw [HN.out]
       exact⟨rfl,hbE⟩
      |true=>
       cases e2:((xn).ty==(yo).ty) with
       |false=>
        clear ne;go_quiet (fail)
        generalize hwE:World.drewN Wq _=wE;have hbE:Below w.heap.size w wE:=by rw [<- hwE];exact Go.below_drewN bA _
        clear hwE;go_wp2;go_ret;rw [HN.out]
        exact⟨rfl,hbE⟩
       |true=>
        cases e3:((xn).cl==(yo).cl) with
        |false=>
         clear ne;go_quiet (fail)
         generalize hwE:World.drewN Wq _=wE;have hbE:Below w.heap.size w wE:=by rw [<- hwE];exact Go.below_drewN bA _
         clear hwE;go_wp2;go_ret;rw [HN.out]
         exact⟨rfl,hbE⟩
        |true=>
         cases e4:((xn).tt==(yo).tt) with
         |false=>
          clear ne;go_quiet (fail)
          generalize hwE:World.drewN Wq _=wE;have hbE:Below w.heap.size w wE:=by rw [<- hwE];exact Go.below_drewN bA _
          clear hwE;go_wp2;go_ret;rw [HN.out]
          exact⟨rfl,hbE⟩
         |true=>
          cases e5:((xn).da.toList==(yo).da.toList) with
          |false=>
           clear ne;go_quiet (fail)
           generalize hwE:World.drewN Wq _=wE;have hbE:Below w.heap.size w wE:=by rw [<- hwE];exact Go.below_drewN bA _
           clear hwE;go_wp2;go_ret;rw [HN.out]
           exact⟨rfl,hbE⟩
          |true=>
           rw [e1,e2,e3,e4,e5] at ne
           cases ne
     |true=>
      obtain rfl:=(eqR_iff xn yo).1 hq
      by_cases l1:500<xd.length
      ·have g1:(500:Int)<(xd.length:Int):=by omega
       have HN:Hid (R=false):=by show _=_;rw [HR.out];exact his_long HXK.out (by simp [lgB,l1])
       clear HR HXK HA HE l1;go_quiet (fail)
       generalize hwE:World.drewN Wq _=wE;have hbE:Below w.heap.size w wE:=by rw [<- hwE];exact Go.below_drewN bA _
       clear hwE;go_wp2;go_ret;rw [HN.out];exact⟨rfl,hbE⟩
      ·have g1:¬(500:Int)<(xd.length:Int):=by omega
       by_cases l2:500<xe.length
       ·have g2:(500:Int)<(xe.length:Int):=by omega
        have HN:Hid (R=false):=by show _=_;rw [HR.out];exact his_long HXK.out (by simp [lgB,l2])
        clear HR HXK HA HE l1 l2;go_quiet (fail)
        generalize hwE:World.drewN Wq _=wE;have hbE:Below w.heap.size w wE:=by rw [<- hwE];exact Go.below_drewN bA _
        clear hwE;go_wp2;go_ret;rw [HN.out];exact⟨rfl,hbE⟩
       ·have g2:¬(500:Int)<(xe.length:Int):=by omega
        have HA2:Hid (∀ j c,j<k+1->(hs.map (·.1))[j]? =some c->okH s (hs.map (·.1)) j=true∧lgB c=false):=by
         show ∀ _,_
         intro j c hj hc
         by_cases hjk:j=k
         ·subst hjk;rw [HXK.out] at hc;obtain rfl:=Option.some.inj hc;exact⟨by rw [okH_at HXK.out,HE.out];exact hq,by simp [lgB,l1,l2]⟩
         ·exact HA.out j c (by omega) hc
        clear hq HR HXK HA HE l1 l2;go_quiet (fail)
        generalize hwE:World.drewN Wq _=wE;have hbE:Below w.heap.size w wE:=by rw [<- hwE];exact Go.below_drewN bA _
        have k9:=blk_below k1 (w1:=wE) (by rw [<- hwE];exact Go.below_drewN (Below.refl _ _) _);clear hwE;go_wp2;go_roundw
        case rel=>exact⟨k+1,by omega,by go_num,HA2,k9,hbE⟩
        case measure=>simp [intOf];omega
    ·have HE:=Nm.hide (nxH_last (soa:=s) (ps:=hs) (k:=k) (by omega));have i4:¬(k:Int)+1<(hs.length:Int):=by omega
     have bA:=hb1.alloc hb1.size (.cells #[.string s.own,.int .i64 s.ty,.int .i64 s.cl,.int .i64 s.tt,.string s.da] 56);have k1:=blk_alloc k1' (.cells #[.string s.own,.int .i64 s.ty,.int .i64 s.cl,.int .i64 s.tt,.string s.da] 56);have kN:=blk_new w1 #[.string s.own,.int .i64 s.ty,.int .i64 s.cl,.int .i64 s.tt,.string s.da] 56;obtain⟨⟨c0,c1,c2,c3,c4⟩,⟨c5,c6,c7,c8,c9⟩,c10,c11⟩:=hp_cells (hp_put bA hcell) hxk;clear hxk hcell hc hsl hnx k1' bS;obtain⟨⟨xo,xn,xd,xe⟩,xv,xu⟩:=x;simp only at c0 c1 c2 c3 c4 c5 c6 c7 c8 c9 c10 c11 hx1 hx2 HXK bA k1 kN
     subst hx1 hx2;go_upto_region 9 with fail
     generalize hWq:w1.alloc (.cells #[.string s.own,.int .i64 s.ty,.int .i64 s.cl,.int .i64 s.tt,.string s.da] 56)=Wq at*;clear hWq;have rN:=fun i=>blk_cell kN i
     cases hq:eqR xn s with
     |false=>
      have HNE:Hid (eqR xn (nxH s (hs.map (·.1)) k)=false):=by show _=_;rw [HE.out];exact hq
      clear HE;have ne:((xn).own.toList==(s).own.toList&&(xn).ty==(s).ty&&(xn).cl==(s).cl&&(xn).tt==(s).tt&&(xn).da.toList==(s).da.toList)=false:=eqR_of.symm.trans hq;have HN:Hid (R=false):=by show _=_;rw [HR.out,hisB,hg_bad HXK.out HNE.out,Bool.false_and]
      clear hq HR HNE HXK HA
      cases e1:((xn).own.toList==(s).own.toList) with
      |false=>
       clear ne;go_quiet (fail)
       generalize hwE:World.drewN Wq _=wE;have hbE:Below w.heap.size w wE:=by rw [<- hwE];exact Go.below_drewN bA _
       clear hwE;go_wp2;go_ret;rw [HN.out]
       exact⟨rfl,hbE⟩
      |true=>
       cases e2:((xn).ty==(s).ty) with
       |false=>
        clear ne;go_quiet (fail)
        generalize hwE:World.drewN Wq _=wE;have hbE:Below w.heap.size w wE:=by rw [<- hwE];exact Go.below_drewN bA _
        clear hwE;go_wp2;go_ret;rw [HN.out]
        exact⟨rfl,hbE⟩
       |true=>
        cases e3:((xn).cl==(s).cl) with
        |false=>
         clear ne;go_quiet (fail)
         generalize hwE:World.drewN Wq _=wE;have hbE:Below w.heap.size w wE:=by rw [<- hwE];exact Go.below_drewN bA _
         clear hwE;go_wp2;go_ret;rw [HN.out]
         exact⟨rfl,hbE⟩
        |true=>
         cases e4:((xn).tt==(s).tt) with
         |false=>
          clear ne;go_quiet (fail)
          generalize hwE:World.drewN Wq _=wE;have hbE:Below w.heap.size w wE:=by rw [<- hwE];exact Go.below_drewN bA _
          clear hwE;go_wp2;go_ret;rw [HN.out]
          exact⟨rfl,hbE⟩
         |true=>
          cases e5:((xn).da.toList==(s).da.toList) with
          |false=>
           clear ne;go_quiet (fail)
           generalize hwE:World.drewN Wq _=wE;have hbE:Below w.heap.size w wE:=by rw [<- hwE];exact Go.below_drewN bA _
           clear hwE;go_wp2;go_ret;rw [HN.out]
           exact⟨rfl,hbE⟩
          |true=>
           rw [e1,e2,e3,e4,e5] at ne
           cases ne
     |true=>
      obtain rfl:=(eqR_iff xn s).1 hq
      by_cases l1:500<xd.length
      ·have g1:(500:Int)<(xd.length:Int):=by omega
       have HN:Hid (R=false):=by show _=_;rw [HR.out];exact his_long HXK.out (by simp [lgB,l1])
       clear HR HXK HA HE l1;go_quiet (fail)
       generalize hwE:World.drewN Wq _=wE;have hbE:Below w.heap.size w wE:=by rw [<- hwE];exact Go.below_drewN bA _
       clear hwE;go_wp2;go_ret;rw [HN.out];exact⟨rfl,hbE⟩
      ·have g1:¬(500:Int)<(xd.length:Int):=by omega
       by_cases l2:500<xe.length
       ·have g2:(500:Int)<(xe.length:Int):=by omega
        have HN:Hid (R=false):=by show _=_;rw [HR.out];exact his_long HXK.out (by simp [lgB,l2])
        clear HR HXK HA HE l1 l2;go_quiet (fail)
        generalize hwE:World.drewN Wq _=wE;have hbE:Below w.heap.size w wE:=by rw [<- hwE];exact Go.below_drewN bA _
        clear hwE;go_wp2;go_ret;rw [HN.out];exact⟨rfl,hbE⟩
       ·have g2:¬(500:Int)<(xe.length:Int):=by omega
        have HA2:Hid (∀ j c,j<k+1->(hs.map (·.1))[j]? =some c->okH xn (hs.map (·.1)) j=true∧lgB c=false):=by
         show ∀ _,_
         intro j c hj hc
         by_cases hjk:j=k
         ·subst hjk;rw [HXK.out] at hc;obtain rfl:=Option.some.inj hc;exact⟨by rw [okH_at HXK.out,HE.out];exact hq,by simp [lgB,l1,l2]⟩
         ·exact HA.out j c (by omega) hc
        clear hq HR HXK HA HE l1 l2;go_quiet (fail)
        generalize hwE:World.drewN Wq _=wE;have hbE:Below w.heap.size w wE:=by rw [<- hwE];exact Go.below_drewN bA _
        have k9:=blk_below k1 (w1:=wE) (by rw [<- hwE];exact Go.below_drewN (Below.refl _ _) _);clear hwE;go_wp2;go_roundw
        case rel=>exact⟨k+1,by omega,by go_num,HA2,k9,hbE⟩
        case measure=>simp [intOf];omega
   ·have hkl:k=hs.length:=by omega
    subst hkl
    have HN:Hid (R=true):=by
     show _=_
     have ha:(hs.map (·.1)).any lgB=false:=List.any_eq_false.2 fun c hc=>by
      obtain⟨j,hj,e⟩:=List.mem_iff_getElem.1 hc;have:=(HA.out j c (by simpa using hj) (by rw [List.getElem?_eq_getElem hj,e])).2;simp [this]
     rw [HR.out,hisB,ha,hg_ok (by simpa using hl) (fun i hi=>(HA.out i _ (by simpa using hi) (List.getElem?_eq_getElem hi)).1)];rfl
    have i2:¬(hs.length:Int)<(hs.length:Int):=by omega
    clear HR HA hc hsl;go_wp2;go_ret;rw [HN.out];exact⟨rfl,hbel⟩
 ·have i0:(40:Int)<(hs.length:Int):=by omega
  have HN:Hid (R=false):=by
   show _=_
   rw [HR.out,hisB,hgB,decide_eq_false (by simpa using hl),Bool.false_and,Bool.false_and]
  clear HR hc hsl;go_enter Tryz.func20,Tryz.ntmps20;go_wp2;go_ret;rw [HN.out];exact⟨rfl,b0⟩
end Go.Proofs.YtgilkakllagbnaaGreat
