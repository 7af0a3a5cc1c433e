import Derived.Test.YtgilkakllagbnaaGreatJCzI
import Derived.Test.YtgilkakllagbnaaGreatJStB
namespace Go.Proofs.YtgilkakllagbnaaGreat
open Go.RowKit
set_option linter.unusedVariables false
theorem hp_cells{w:World}{xs:List Hp}{b off k:Nat}{x:Hp}(hc:∀ (i:Nat) (y:Value),(hpVs xs)[i]? =some y->w.cell? ⟨b,off+i,none⟩=some y)(h:xs[k]? =some x):
 (w.cell? ⟨b,off+k*12,none⟩=some (.string x.1.old.own)∧w.cell? ⟨b,off+k*12+1,none⟩=some (.int .i64 x.1.old.ty)∧w.cell? ⟨b,off+k*12+2,none⟩=some (.int .i64 x.1.old.cl)∧w.cell? ⟨b,off+k*12+3,none⟩=some (.int .i64 x.1.old.tt)∧w.cell? ⟨b,off+k*12+4,none⟩=some (.string x.1.old.da))∧
 (w.cell? ⟨b,off+k*12+5,none⟩=some (.string x.1.new.own)∧w.cell? ⟨b,off+k*12+6,none⟩=some (.int .i64 x.1.new.ty)∧w.cell? ⟨b,off+k*12+7,none⟩=some (.int .i64 x.1.new.cl)∧w.cell? ⟨b,off+k*12+8,none⟩=some (.int .i64 x.1.new.tt)∧w.cell? ⟨b,off+k*12+9,none⟩=some (.string x.1.new.da))∧
 w.cell? ⟨b,off+k*12+10,none⟩=some x.2.1∧w.cell? ⟨b,off+k*12+11,none⟩=some x.2.2:=
 ⟨⟨hp_cell hc h 0 _ rfl,hp_cell hc h 1 _ rfl,hp_cell hc h 2 _ rfl,hp_cell hc h 3 _ rfl,hp_cell hc h 4 _ rfl⟩,⟨hp_cell hc h 5 _ rfl,hp_cell hc h 6 _ rfl,hp_cell hc h 7 _ rfl,hp_cell hc h 8 _ rfl,hp_cell hc h 9 _ rfl⟩,hp_cell hc h 10 _ rfl,hp_cell hc h 11 _ rfl⟩
theorem hp_put{w W:World}{xs:List Hp}{b off:Nat}(hW:Below w.heap.size w W)(hc:∀ (i:Nat) (y:Value),(hpVs xs)[i]? =some y->w.cell? ⟨b,off+i,none⟩=some y):∀ (i:Nat) (y:Value),(hpVs xs)[i]? =some y->W.cell? ⟨b,off+i,none⟩=some y:=
 fun i y hy=>(hW.cell (World.block_lt_of_cell? w _ (hc i y hy))).trans (hc i y hy)
theorem HRow.sl{w:World}{v:Value}{ps:List Hp}(h:HRow w v ps){p:Hp}(hp:p∈ps):(∃ a c,p.2.1=.slice a p.1.del.length c)∧∃ a c,p.2.2=.slice a p.1.add.length c:=by
 obtain⟨⟨_,a,c,e,_⟩,⟨_,a',c',e',_⟩⟩:=h.2 p hp;exact⟨⟨a,c,e⟩,a',c',e'⟩
theorem cs_at{ps:List Hp}{k:Nat}{x:Hp}(h:ps[k]? =some x):(ps.map (·.1))[k]? =some x.1:=by rw [List.getElem?_map,h];rfl
theorem nxH_next{soa:Rr}{ps:List Hp}{k:Nat}{y:Hp}(h:ps[k+1]? =some y):nxH soa (ps.map (·.1)) k=y.1.old:=by rw [nxH,cs_at h];rfl
theorem nxH_last{soa:Rr}{ps:List Hp}{k:Nat}(h:ps.length<=k+1):nxH soa (ps.map (·.1)) k=soa:=by
 rw [nxH,List.getElem?_eq_none (by simpa using h)];rfl
set_option maxRecDepth 100000 in
set_option maxHeartbeats 3200000 in
theorem isHistory_any(v:Value)(ps:List Hp)(s:Rr)(w:World)(h:HRow w v ps):
 Calls Tryz.prog 28 #[v,rvA s] w fun e w'=>e=.returned (.bool (hgB s (ps.map (·.1))))∧Below w.heap.size w w':=by
 have hsl:=fun(p:Hp) (hp:p∈ps)=>h.sl hp
 obtain⟨⟨_,a,cap,rfl,hcap,hmx,hc⟩,-⟩:=h;unfold maxLen at hmx;obtain⟨R,HR⟩:∃ R,Hid (R=hgB s (ps.map (·.1))):=⟨_,rfl⟩;rw [<- HR.out];have b0:=(Below.refl w.heap.size w).alloc (Nat.le_refl _) (.cells #[.string s.own,.int .i64 s.ty,.int .i64 s.cl,.int .i64 s.tt,.string s.da] 56);have k0:=blk_new w #[.string s.own,.int .i64 s.ty,.int .i64 s.cl,.int .i64 s.tt,.string s.da] 56
 by_cases hl:ps.length<=40
 ·have i0:¬(40:Int)<(ps.length:Int):=by omega
  go_enter Tryz.func28,Tryz.ntmps28;go_wp2
  go_loopw [13] (fun i wr=>∃ k:Nat,k<=ps.length∧i=.int .i64 k∧Hid (∀ j,j<k->okH s (ps.map (·.1)) j=true)∧Blk wr w.heap.size #[.string s.own,.int .i64 s.ty,.int .i64 s.cl,.int .i64 s.tt,.string s.da] 56∧Below w.heap.size w wr) (fun i _=>ps.length-(intOf i).toNat)
  case atStart=>exact⟨0,Nat.zero_le _,rfl,by show ∀ _,_;intro j hj;omega,k0,b0⟩
  case round=>
   clear k0 b0;obtain⟨k,hk,rfl,HA,k0,hbel⟩:=hrel
   by_cases hlt:k<ps.length
   ·obtain⟨x,hxk⟩:∃ x,ps[k]? =some x:=⟨_,List.getElem?_eq_getElem hlt⟩;obtain⟨b,off,rfl,hcell⟩:=hc (by omega);have hcr:=hp_put hbel hcell;obtain⟨⟨c0,c1,c2,c3,c4⟩,⟨c5,c6,c7,c8,c9⟩,c10,c11⟩:=hp_cells hcr hxk;have i1:(0:Int)<=(k:Int):=by omega
    have i2:(k:Int)<(ps.length:Int):=by omega
    have hw:IntKind.i64.wrap ((k:Int)+1)=(k:Int)+1:=Go.wrap_small _ (by omega) (by omega);have k0A:=blk_alloc k0 (.cells #[.string x.1.old.own,.int .i64 x.1.old.ty,.int .i64 x.1.old.cl,.int .i64 x.1.old.tt,.string x.1.old.da,.string x.1.new.own,.int .i64 x.1.new.ty,.int .i64 x.1.new.cl,.int .i64 x.1.new.tt,.string x.1.new.da,x.2.1,x.2.2] 58);have r0:=fun i=>blk_cell k0A i
    have bS:=(hbel.alloc hbel.size (.cells #[.string x.1.old.own,.int .i64 x.1.old.ty,.int .i64 x.1.old.cl,.int .i64 x.1.old.tt,.string x.1.old.da,.string x.1.new.own,.int .i64 x.1.new.ty,.int .i64 x.1.new.cl,.int .i64 x.1.new.tt,.string x.1.new.da,x.2.1,x.2.2] 58)).alloc (by have:=hbel.size;simp;omega) (.cells #[.string s.own,.int .i64 s.ty,.int .i64 s.cl,.int .i64 s.tt,.string s.da] 56);have HXK:=Nm.hide (cs_at hxk);obtain⟨⟨xa,xc,hx1⟩,ya,yc,hx2⟩:=hsl x (List.mem_of_getElem? hxk);have HKK:Hid (∀ W,Below wr.heap.size wr W->Blk W w.heap.size #[.string s.own,.int .i64 s.ty,.int .i64 s.cl,.int .i64 s.tt,.string s.da] 56):=fun W hW=>blk_below k0 hW
    by_cases hnx:k+1<ps.length
    ·obtain⟨y,hyk⟩:∃ y,ps[k+1]? =some y:=⟨_,List.getElem?_eq_getElem hnx⟩;obtain⟨⟨d0,d1,d2,d3,d4⟩,-,-⟩:=hp_cells (hp_put bS hcell) hyk;have HE:=Nm.hide (nxH_next (soa:=s) hyk);have i3:(0:Int)<=(k:Int)+1:=by omega
     have i4:(k:Int)+1<(ps.length:Int):=by omega
     have i5:((k:Int)+1).toNat=k+1:=by omega
     have bA:=(hbel.alloc hbel.size (.cells #[.string x.1.old.own,.int .i64 x.1.old.ty,.int .i64 x.1.old.cl,.int .i64 x.1.old.tt,.string x.1.old.da,.string x.1.new.own,.int .i64 x.1.new.ty,.int .i64 x.1.new.cl,.int .i64 x.1.new.tt,.string x.1.new.da,x.2.1,x.2.2] 58)).alloc (by have:=hbel.size;simp;omega) (.cells #[.string y.1.old.own,.int .i64 y.1.old.ty,.int .i64 y.1.old.cl,.int .i64 y.1.old.tt,.string y.1.old.da] 56);clear hxk hyk hcell hcr hc hsl hnx k0A bS;obtain⟨⟨xo,xn,xd,xe⟩,xv,xu⟩:=x;obtain⟨⟨yo,yn,yd,ye⟩,yv,yu⟩:=y;simp only at c0 c1 c2 c3 c4 c5 c6 c7 c8 c9 c10 c11 d0 d1 d2 d3 d4 hx1 hx2 HXK HE bA r0
     subst hx1 hx2
     cases hq:eqR xn yo with
     |false=>
      have HNE:Hid (eqR xn (nxH s (ps.map (·.1)) k)=false):=by show _=_;rw [HE.out];exact hq
      clear HKK HE;have ne:((xn).own.toList==(yo).own.toList&&(xn).ty==(yo).ty&&(xn).cl==(yo).cl&&(xn).tt==(yo).tt&&(xn).da.toList==(yo).da.toList)=false:=eqR_of.symm.trans hq;have HN:Hid (R=false):=by show _=_;rw [HR.out];exact hg_bad HXK.out HNE.out
      clear hq HR HNE HXK HA
      cases e1:((xn).own.toList==(yo).own.toList) with
      |false=>clear ne
              go_wp2;go_ret;rw [HN.out]
              exact⟨rfl,by assumption⟩
      |true=>
       cases e2:((xn).ty==(yo).ty) with
       |false=>clear ne
               go_wp2;go_ret;rw [HN.out]
               exact⟨rfl,by assumption⟩
       |true=>
        cases e3:((xn).cl==(yo).cl) with
        |false=>clear ne
                go_wp2;go_ret;rw [HN.out]
                exact⟨rfl,by assumption⟩
        |true=>
         cases e4:((xn).tt==(yo).tt) with
         |false=>clear ne
                 go_wp2;go_ret;rw [HN.out]
                 exact⟨rfl,by assumption⟩
         |true=>
          cases e5:((xn).da.toList==(yo).da.toList) with
          |false=>clear ne
                  go_wp2;go_ret;rw [HN.out]
                  exact⟨rfl,by assumption⟩
          |true=>
           rw [e1,e2,e3,e4,e5] at ne
           cases ne
     |true=>
      obtain rfl:=(eqR_iff xn yo).1 hq
      have HA2:Hid (∀ j,j<k+1->okH s (ps.map (·.1)) j=true):=by
       show ∀ _,_
       intro j hj
       by_cases hjk:j=k
       ·subst hjk;rw [okH_at HXK.out,HE.out];exact hq
       ·exact HA.out j (by omega)
      have k1:=HKK.out _ (((Below.refl wr.heap.size wr).alloc (Nat.le_refl _) (.cells #[.string xo.own,.int .i64 xo.ty,.int .i64 xo.cl,.int .i64 xo.tt,.string xo.da,.string xn.own,.int .i64 xn.ty,.int .i64 xn.cl,.int .i64 xn.tt,.string xn.da,.slice xa xd.length xc,.slice ya xe.length yc] 58)).alloc (by simp) (.cells #[.string xn.own,.int .i64 xn.ty,.int .i64 xn.cl,.int .i64 xn.tt,.string xn.da] 56));clear hq HR HXK HA HE HKK;go_wp2;go_roundw
      case rel=>exact⟨k+1,by omega,by go_num,HA2,k1,bA⟩
      case measure=>simp [intOf];omega
    ·have HE:=Nm.hide (nxH_last (soa:=s) (ps:=ps) (k:=k) (by omega));have i4:¬(k:Int)+1<(ps.length:Int):=by omega
     have bA:=(hbel.alloc hbel.size (.cells #[.string x.1.old.own,.int .i64 x.1.old.ty,.int .i64 x.1.old.cl,.int .i64 x.1.old.tt,.string x.1.old.da,.string x.1.new.own,.int .i64 x.1.new.ty,.int .i64 x.1.new.cl,.int .i64 x.1.new.tt,.string x.1.new.da,x.2.1,x.2.2] 58)).alloc (by have:=hbel.size;simp;omega) (.cells #[.string s.own,.int .i64 s.ty,.int .i64 s.cl,.int .i64 s.tt,.string s.da] 56);clear hxk hcell hcr hc hsl hnx k0A bS;obtain⟨⟨xo,xn,xd,xe⟩,xv,xu⟩:=x;simp only at c0 c1 c2 c3 c4 c5 c6 c7 c8 c9 c10 c11 hx1 hx2 HXK bA r0
     subst hx1 hx2
     cases hq:eqR xn s with
     |false=>
      have HNE:Hid (eqR xn (nxH s (ps.map (·.1)) k)=false):=by show _=_;rw [HE.out];exact hq
      clear HKK HE;have ne:((xn).own.toList==(s).own.toList&&(xn).ty==(s).ty&&(xn).cl==(s).cl&&(xn).tt==(s).tt&&(xn).da.toList==(s).da.toList)=false:=eqR_of.symm.trans hq;have HN:Hid (R=false):=by show _=_;rw [HR.out];exact hg_bad HXK.out HNE.out
      clear hq HR HNE HXK HA
      cases e1:((xn).own.toList==(s).own.toList) with
      |false=>clear ne
              go_wp2;go_ret;rw [HN.out]
              exact⟨rfl,by assumption⟩
      |true=>
       cases e2:((xn).ty==(s).ty) with
       |false=>clear ne
               go_wp2;go_ret;rw [HN.out]
               exact⟨rfl,by assumption⟩
       |true=>
        cases e3:((xn).cl==(s).cl) with
        |false=>clear ne
                go_wp2;go_ret;rw [HN.out]
                exact⟨rfl,by assumption⟩
        |true=>
         cases e4:((xn).tt==(s).tt) with
         |false=>clear ne
                 go_wp2;go_ret;rw [HN.out]
                 exact⟨rfl,by assumption⟩
         |true=>
          cases e5:((xn).da.toList==(s).da.toList) with
          |false=>clear ne
                  go_wp2;go_ret;rw [HN.out]
                  exact⟨rfl,by assumption⟩
          |true=>
           rw [e1,e2,e3,e4,e5] at ne
           cases ne
     |true=>
      obtain rfl:=(eqR_iff xn s).1 hq
      have HA2:Hid (∀ j,j<k+1->okH xn (ps.map (·.1)) j=true):=by
       show ∀ _,_
       intro j hj
       by_cases hjk:j=k
       ·subst hjk;rw [okH_at HXK.out,HE.out];exact hq
       ·exact HA.out j (by omega)
      have k1:=HKK.out _ (((Below.refl wr.heap.size wr).alloc (Nat.le_refl _) (.cells #[.string xo.own,.int .i64 xo.ty,.int .i64 xo.cl,.int .i64 xo.tt,.string xo.da,.string xn.own,.int .i64 xn.ty,.int .i64 xn.cl,.int .i64 xn.tt,.string xn.da,.slice xa xd.length xc,.slice ya xe.length yc] 58)).alloc (by simp) (.cells #[.string xn.own,.int .i64 xn.ty,.int .i64 xn.cl,.int .i64 xn.tt,.string xn.da] 56));clear hq HR HXK HA HE HKK;go_wp2;go_roundw
      case rel=>exact⟨k+1,by omega,by go_num,HA2,k1,bA⟩
      case measure=>simp [intOf];omega
   ·have hkl:k=ps.length:=by omega
    subst hkl;have HN:Hid (R=true):=by show _=_;rw [HR.out];exact hg_ok (by simpa using hl) (fun i hi=>HA.out i (by simpa using hi))
    have i2:¬(ps.length:Int)<(ps.length:Int):=by omega
    clear HR HA hc hsl;go_wp2;go_ret;rw [HN.out];exact⟨rfl,hbel⟩
 ·have i0:(40:Int)<(ps.length:Int):=by omega
  have HN:Hid (R=false):=by
   show _=_
   rw [HR.out,hgB,decide_eq_false (by simpa using hl),Bool.false_and]
  clear HR hc hsl;go_enter Tryz.func28,Tryz.ntmps28;go_wp2;go_ret;rw [HN.out];exact⟨rfl,b0⟩
def lgI(cs:List Cg):Int:=match cs.findIdx? lgB with
 |some k=>k
 |none=> -1
theorem lg_any(cs:List Cg):decide (lgI cs>=0)=cs.any lgB:=by
 rw [lgI]
 cases h:cs.findIdx? lgB with
 |none=>
  rw [List.findIdx?_eq_none_iff] at h;have:cs.any lgB=false:=List.any_eq_false.2 fun x hx=>by simp [h x hx]
  rw [this]
  rfl
 |some k=>
  obtain⟨hk,h1,_⟩:=List.findIdx?_eq_some_iff_getElem.1 h;have:cs.any lgB=true:=List.any_eq_true.2 ⟨_,List.getElem_mem hk,h1⟩;rw [this];simp
set_option maxRecDepth 100000 in
set_option maxHeartbeats 1600000 in
theorem indexLong_any(v:Value)(ps:List Hp)(w:World)(h:HRow w v ps):
 Calls Tryz.prog 63 #[v,.func (.func 30) #[] #[]] w fun e w'=>e=.returned (.int .i64 (lgI (ps.map (·.1))))∧Below w.heap.size w w':=by
 have hsl:=fun(p:Hp) (hp:p∈ps)=>h.sl hp
 obtain⟨⟨_,a,cap,rfl,hcap,hmx,hc⟩,-⟩:=h;unfold maxLen at hmx;go_enter Tryz.func63,Tryz.ntmps63;go_wp2
 go_loopw [8] (fun i wr=>∃ k:Nat,k<=ps.length∧i=.int .i64 k∧Hid (∀ j y,j<k->(ps.map (·.1))[j]? =some y->lgB y=false)∧Below w.heap.size w wr) (fun i _=>ps.length-(intOf i).toNat)
 case atStart=>exact⟨0,Nat.zero_le _,rfl,by show ∀ _,_;intro j y hj;omega,Below.refl _ _⟩
 case round=>
  obtain⟨k,hk,rfl,HA,hbel⟩:=hrel
  by_cases hlt:k<ps.length
  ·obtain⟨x,hxk⟩:∃ x,ps[k]? =some x:=⟨_,List.getElem?_eq_getElem hlt⟩;obtain⟨b,off,rfl,hcell⟩:=hc (by omega);obtain⟨⟨c0,c1,c2,c3,c4⟩,⟨c5,c6,c7,c8,c9⟩,c10,c11⟩:=hp_cells (hp_put hbel hcell) hxk;obtain⟨⟨xa,xc,hx1⟩,ya,yc,hx2⟩:=hsl x (List.mem_of_getElem? hxk);have HXK:=Nm.hide (cs_at hxk);have i1:(0:Int)<=(k:Int):=by omega
   have i2:(k:Int)<(ps.length:Int):=by omega
   clear hxk hcell hc hsl;obtain⟨⟨xo,xn,xd,xe⟩,xv,xu⟩:=x;simp only at c0 c1 c2 c3 c4 c5 c6 c7 c8 c9 c10 c11 hx1 hx2 HXK
   subst hx1 hx2;have hone:=isLong_any xo xn xa ya xd.length xe.length xc yc wr
   cases hok:(decide (500<xd.length)||decide (500<xe.length)) with
   |false=>
    have HA2:Hid (∀ j y,j<k+1->(ps.map (·.1))[j]? =some y->lgB y=false):=by
     show ∀ _,_
     intro j y hj hy
     by_cases hjk:j=k
     ·subst hjk;rw [HXK.out] at hy;obtain rfl:=Option.some.inj hy;exact hok
     ·exact HA.out j y (by omega) hy
    rw [hok] at hone;clear hok HA HXK;go_wp2_with fail
    refine hone.mono ?_;rintro e w1 ⟨rfl,hb1⟩;have hbel1:=Nm.below_two hbel hb1;go_wp2;go_roundw
    case rel=>exact⟨k+1,by omega,by go_num,HA2,hbel1⟩
    case measure=>simp [intOf];omega
   |true=>
    have HO:Hid (lgI (ps.map (·.1))=(k:Int)):=by
     show _=_
     have:(ps.map (·.1)).findIdx? lgB=some k:=by
      rw [List.findIdx?_eq_some_iff_getElem];have hkl:k<(ps.map (·.1)).length:=by simpa using hlt
      have e:=HXK.out;rw [List.getElem?_eq_getElem hkl] at e;refine⟨hkl,by rw [Option.some.inj e];exact hok,fun j hj=>?_⟩;rw [HA.out j _ hj (List.getElem?_eq_getElem (by omega))];decide
     rw [lgI,this]
    rw [hok] at hone;clear hok HA HXK;go_wp2_with fail
    refine hone.mono ?_;rintro e w1 ⟨rfl,hb1⟩;have hbel1:=Nm.below_two hbel hb1;go_wp2;go_ret;rw [HO.out];exact⟨rfl,hbel1⟩
  ·have hkl:k=ps.length:=by omega
   subst hkl
   have HO:Hid (lgI (ps.map (·.1))= -1):=by
    show _=_
    have:(ps.map (·.1)).findIdx? lgB=none:=by
     rw [List.findIdx?_eq_none_iff];intro y hy;obtain⟨j,hj,e⟩:=List.mem_iff_getElem.1 hy;exact HA.out j y (by simpa using hj) (by rw [List.getElem?_eq_getElem hj,e])
    rw [lgI,this]
   have i2:¬(ps.length:Int)<(ps.length:Int):=by omega
   clear HA hc hsl;go_wp2;go_ret;rw [HO.out];exact⟨rfl,hbel⟩
set_option maxRecDepth 100000 in
theorem containsLong_any(v:Value)(ps:List Hp)(w:World)(h:HRow w v ps):
 Calls Tryz.prog 29 #[v,.func (.func 30) #[] #[]] w fun e w'=>e=.returned (.bool ((ps.map (·.1)).any lgB))∧Below w.heap.size w w':=by
 have hix:=indexLong_any v ps w h;rw [<- lg_any];generalize lgI (ps.map (·.1))=K at*;go_enter Tryz.func29,Tryz.ntmps29;go_wp2_with (go_at_call 63;refine hix.mono ?_;rintro e w1 ⟨rfl,hb1⟩)
 go_ret;exact⟨rfl,hb1⟩
def cfP(ps:List Hp)(s:Int)(w:World)(u:Value):Prop:=match lastF (atH (ps.map (·.1)) s) ps.length with
 |some i=>HRow w u (ps.drop i)∧i<ps.length
 |none=>u=.slice none 0 0
set_option maxRecDepth 100000 in
set_option maxHeartbeats 3200000 in
theorem changesFrom_any(v:Value)(ps:List Hp)(s:Int)(w:World)(h:HRow w v ps)(h0:0<=s)(hf:∀ p∈ps,p.1.old.da.size<=2000000)(hl:ps.length<=1000000):
 Calls Tryz.prog 34 #[v,.int .i64 s] w fun e w'=>∃ u,e=.returned u∧cfP ps s w' u∧Below w.heap.size w w':=by
 have hH:=h;obtain⟨⟨_,a,cap,rfl,hcap,hmx,hc⟩,-⟩:=h;unfold maxLen at hmx;go_enter Tryz.func34,Tryz.ntmps34;go_wp2
 go_loopw [5] (fun i wr=>∃ k:Nat,k<=ps.length∧i=.int .i64 ((k:Int)-1)∧Hid (∀ j,k<=j->j<ps.length->atH (ps.map (·.1)) s j=false)∧Below w.heap.size w wr) (fun i _=>(intOf i+1).toNat)
 case atStart=>exact⟨ps.length,Nat.le_refl _,rfl,by show ∀ _,_;intro j h1 h2;omega,Below.refl _ _⟩
 case round=>
  obtain⟨k,hk,rfl,HA,hbel⟩:=hrel
  rcases k with _|m
  ·have HN:Hid (cfP ps s wr (.slice none 0 0)):=by
    show cfP _ _ _ _
    rw [cfP,last_none _ (fun j hj=>HA.out j (Nat.zero_le _) hj)]
   clear HA hc hf hH;have e0:((0:Nat):Int)-1= -1:=by omega
   rw [e0];clear e0;go_wp2;go_ret;exact⟨_,rfl,HN.out,hbel⟩
  ·have e0:((m+1:Nat):Int)-1=(m:Int):=by omega
   rw [e0];clear e0;have hlt:m<ps.length:=by omega
   obtain⟨x,hxk⟩:∃ x,ps[m]? =some x:=⟨_,List.getElem?_eq_getElem hlt⟩;obtain⟨b,off,rfl,hcell⟩:=hc (by omega);obtain⟨⟨c0,c1,c2,c3,c4⟩,-,-⟩:=hp_cells (hp_put hbel hcell) hxk;have hone:=soaSerial_any x.1.old wr (hf x (List.mem_of_getElem? hxk));have hat:=(atH_at (s:=s) (cs_at hxk)).trans (ss_at h0);have i1:(0:Int)<=(m:Int):=by omega
   have i2:(m:Int)<(ps.length:Int):=by omega
   clear hxk hcell hc hf;obtain⟨⟨xo,xn,xd,xe⟩,xv,xu⟩:=x;simp only at c0 c1 c2 c3 c4 hone hat
   have key:atH (ps.map (·.1)) s m=false->Hid (∀ j,m<=j->j<ps.length->atH (ps.map (·.1)) s j=false):=by
    intro hn;show ∀ _,_
    intro j h1 h2
    by_cases hj:j=m
    ·subst hj;exact hn
    ·exact HA.out j (by omega) h2
   cases hso:soB xo with
   |false=>
    have HA2:=key (by rw [hat,hso];rfl);rw [hso] at hone;generalize sdS xo=S at*;clear hat HA key hso hH;go_wp2_with fail
    refine hone.mono ?_;rintro e w1 ⟨rfl,hb1⟩;have hbel1:=Nm.below_two hbel hb1;clear hone c0 c1 c2 c3 c4;go_wp2;go_roundw
    case rel=>exact⟨m,by omega,by go_num,HA2,hbel1⟩
    case measure=>simp [intOf]
   |true=>
    by_cases hss:sdS xo=s
    ·have hyes:atH (ps.map (·.1)) s m=true:=by rw [hat,hso,decide_eq_true hss];rfl
     have hcm:¬cap=m:=by omega
     have HL:Hid (lastF (atH (ps.map (·.1)) s) ps.length=some m):=last_some hyes _ hlt (fun j h1 h2=>HA.out j (by omega) h2);rw [hso,hss] at hone;have hee:(s==s)=true:=by simp
     clear hat HA key hso hyes hss;go_wp2_with fail
     refine hone.mono ?_;rintro e w1 ⟨rfl,hb1⟩;have hbel1:=Nm.below_two hbel hb1
     have HD:Hid (cfP ps s w1 (.slice (some ⟨b,off+m*12,none⟩) (ps.length-m) (cap-m))):=by
      show cfP _ _ _ _
      rw [cfP,HL.out];exact⟨(hH.below hbel1).drop (Nat.le_of_lt hlt),hlt⟩
     clear hone c0 c1 c2 c3 c4 hH HL;go_wp2;go_ret;refine⟨_,rfl,?_,hbel1⟩;simpa [Nm.addr_add] using HD.out
    ·have HA2:=key (by rw [hat,decide_eq_false hss,Bool.and_false]);rw [hso] at hone;have hee:(sdS xo==s)=false:=by simpa using hss
     generalize sdS xo=S at*;clear hat HA key hso hH hss;go_wp2_with fail
     refine hone.mono ?_;rintro e w1 ⟨rfl,hb1⟩;have hbel1:=Nm.below_two hbel hb1;clear hone c0 c1 c2 c3 c4;go_wp2;go_roundw
     case rel=>exact⟨m,by omega,by go_num,HA2,hbel1⟩
     case measure=>simp [intOf]
end Go.Proofs.YtgilkakllagbnaaGreat
