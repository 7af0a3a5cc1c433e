import Derived.Test.YtahpiciofdfipaaGreatJBzD
import Derived.BigQuiet
import Derived.RegionTactic
namespace Go.Proofs.YtahpiciofdfipaaGreat
open Go.RowKit
set_option linter.unusedVariables false
theorem str_ne{a b:ByteArray}(h:a≠b):(a.toList != b.toList)=true:=by
 rw [bne_iff_ne,ByteArray.toList_eq,ByteArray.toList_eq];exact fun e=>h (Nm.ba_ext e)
theorem str_eq_no{a b:ByteArray}(h:a≠b):(a.toList==b.toList)=false:=by
 have:=str_ne h;rw [bne] at this;simpa using this
set_option maxRecDepth 100000 in
set_option maxHeartbeats 800000 in
theorem equalStr_any(v u:Value)(xs ys:List ByteArray)(w:World)(h:Nm.SRow w v xs)(h':Nm.SRow w u ys):
 Calls Tryz.prog 86 #[v,u] w fun e w'=>e=.returned (.bool (decide (xs=ys)))∧Below w.heap.size w w':=by
 obtain⟨a,cap,rfl,hcap,hmx,_,hc⟩:=h;obtain⟨a',cap',rfl,hcap',hmx',_,hc'⟩:=h';unfold maxLen at hmx hmx'
 by_cases hl:xs.length=ys.length
 ·have nl:((xs.length:Int) != (ys.length:Int))=false:=by rw [hl];simp
  have HL:=Nm.hide hl;clear hl;go_enter Tryz.func86,Tryz.ntmps86;go_wp2
  go_loopw [13] (fun i wr=>∃ k:Nat,k<=xs.length∧i=.int .i64 k∧xs.take k=ys.take k∧Below w.heap.size w wr) (fun i _=>xs.length-(intOf i).toNat)
  case atStart=>exact⟨0,Nat.zero_le _,rfl,rfl,Below.refl _ _⟩
  case round=>
   obtain⟨k,hk,rfl,heq,hbel⟩:=hrel;have HR:=Nm.hide (And.intro heq hbel)
   by_cases hlt:k<xs.length
   ·obtain⟨x,hx⟩:∃ x,xs[k]? =some x:=⟨_,List.getElem?_eq_getElem hlt⟩;obtain⟨y,hy⟩:∃ y,ys[k]? =some y:=⟨_,List.getElem?_eq_getElem (by have:=HL.out;omega)⟩;obtain⟨b,off,rfl,hcell⟩:=hc (List.ne_nil_of_mem (List.mem_of_getElem? hx));obtain⟨b',off',rfl,hcell'⟩:=hc' (List.ne_nil_of_mem (List.mem_of_getElem? hy));have c1:=hcell k x hx;have c2:=hcell' k y hy;have d1:=(hbel.cell (World.block_lt_of_cell? w _ c1)).trans c1;have d2:=(hbel.cell (World.block_lt_of_cell? w _ c2)).trans c2;have i1:(0:Int)<=(k:Int):=by omega
    have i2:(k:Int)<(xs.length:Int):=by omega
    have i3:(k:Int)<(ys.length:Int):=by have:=HL.out;omega
    have HX:=Nm.hide (And.intro hx hy);clear hc hc' hcell hcell' c1 c2 hx hy heq hbel
    by_cases hxy:x=y
    ·subst hxy;have e1:(x.toList != x.toList)=false:=by simp
     go_wp2;go_quiet (fail)
     go_wp2;go_roundw
     case rel=>
      obtain⟨hk1,ex⟩:=List.getElem?_eq_some_iff.1 HX.out.1;obtain⟨hk2,ey⟩:=List.getElem?_eq_some_iff.1 HX.out.2;refine⟨k+1,by omega,by go_num,by rw [List.take_succ_eq_append_getElem hk1,List.take_succ_eq_append_getElem hk2,ex,ey,HR.out.1],Go.below_drewN HR.out.2 _⟩
     case measure=>simp [intOf];omega
    ·have e1:=str_eq_no hxy;have HXY:=Nm.hide hxy;clear hxy;go_wp2;go_quiet (fail)
     go_wp2;go_ret;refine⟨?_,Go.below_drewN HR.out.2 _⟩
     rw [decide_eq_false (fun e=>HXY.out (by
      have h1:=HX.out.1;rw [e,HX.out.2] at h1
      exact(Option.some.inj h1).symm))]
     rfl
   ·have hke:k=xs.length:=by omega
    subst hke;clear hc hc' heq hbel;go_wp2;go_ret;have h1:=HR.out.1;rw [List.take_length,HL.out,List.take_length] at h1;rw [decide_eq_true h1];exact⟨rfl,HR.out.2⟩
 ·have nl:((xs.length:Int) != (ys.length:Int))=true:=by rw [bne_iff_ne];omega
  have HL:=Nm.hide hl;clear hl hc hc';go_enter Tryz.func86,Tryz.ntmps86;go_wp2;go_ret;rw [decide_eq_false (fun e=>HL.out (by rw [e]))];exact⟨rfl,Below.refl _ _⟩
set_option maxRecDepth 100000 in
set_option maxHeartbeats 1600000 in
theorem setSame_any(s t:Sz)(v u:Value)(w:World)(h:Nm.SRow w v s.da)(h':Nm.SRow w u t.da):
 Calls Tryz.prog 49 #[.agg #[.string s.own,.int .i64 s.ty,.int .i64 s.tt,v],.agg #[.string t.own,.int .i64 t.ty,.int .i64 t.tt,u]] w fun e w'=>e=.returned (.bool (eqSz s t))∧Below w.heap.size w w':=by
 have hB:=((Below.refl w.heap.size w).alloc (Nat.le_refl _) (.cells #[.string s.own,.int .i64 s.ty,.int .i64 s.tt,v] 44)).alloc (by simp) (.cells #[.string t.own,.int .i64 t.ty,.int .i64 t.tt,u] 44);have he:=equalStr_any v u s.da t.da _ (h.below hB) (h'.below hB);obtain⟨a,cap,rfl,_⟩:=h;obtain⟨a',cap',rfl,_⟩:=h';obtain⟨so,st,stt,sd⟩:=s;obtain⟨to_,tt,ttt,td⟩:=t;simp only [eqSz] at*;generalize decide (sd=td)=DD at*
 by_cases h1:so=to_
 ·subst h1;have e1:(so.toList==so.toList)=true:=by simp
  by_cases h2:st=tt
  ·subst h2;have e2:(st==st)=true:=by simp
   by_cases h3:stt=ttt
   ·subst h3;have e3:(stt==stt)=true:=by simp
    go_enter Tryz.func49,Tryz.ntmps49;go_wp2_with (go_at_call 86;refine he.mono ?_;rintro e w1 ⟨rfl,b1⟩)
    go_ret;exact⟨by simp,Nm.below_two hB b1⟩
   ·have e3:(stt==ttt)=false:=by simpa using h3
    clear he;go_enter Tryz.func49,Tryz.ntmps49;go_wp2;go_ret;exact⟨by simp [h3],hB⟩
  ·have e2:(st==tt)=false:=by simpa using h2
   clear he;go_enter Tryz.func49,Tryz.ntmps49;go_wp2;go_ret;exact⟨by simp [h2],hB⟩
 ·have e1:=str_eq_no h1;clear he;go_enter Tryz.func49,Tryz.ntmps49;go_wp2;go_ret;exact⟨by simp [h1],hB⟩
set_option maxRecDepth 100000 in
set_option maxHeartbeats 1600000 in
theorem equalSets_any(v u:Value)(qs rs:List Zp)(w:World)(h:ZRow w v qs)(h':ZRow w u rs):
 Calls Tryz.prog 47 #[v,u,.func (.func 49) #[] #[]] w fun e w'=>e=.returned (.bool (eqZs (qs.map (·.1)) (rs.map (·.1))))∧Below w.heap.size w w':=by
 obtain⟨⟨_,a,cap,rfl,hcap,hmx,hc⟩,hd⟩:=h;obtain⟨⟨_,a',cap',rfl,hcap',hmx',hc'⟩,hd'⟩:=h';unfold maxLen at hmx hmx'
 by_cases hl:qs.length=rs.length
 ·have nl:((qs.length:Int) != (rs.length:Int))=false:=by rw [hl];simp
  have HL:=Nm.hide hl;clear hl;go_enter Tryz.func47,Tryz.ntmps47;go_wp2
  go_loopw [17] (fun i wr=>∃ k:Nat,k<=qs.length∧i=.int .i64 k∧(∀ (j:Nat) (q r:Zp),j<k->qs[j]? =some q->rs[j]? =some r->q.1=r.1)∧Below w.heap.size w wr) (fun i _=>qs.length-(intOf i).toNat)
  case atStart=>exact⟨0,Nat.zero_le _,rfl,fun j _ _ hj=>absurd hj (Nat.not_lt_zero _),Below.refl _ _⟩
  case round=>
   obtain⟨k,hk,rfl,heq,hbel⟩:=hrel;have HR:=Nm.hide (And.intro heq hbel)
   by_cases hlt:k<qs.length
   ·obtain⟨q,hq⟩:∃ q,qs[k]? =some q:=⟨_,List.getElem?_eq_getElem hlt⟩;obtain⟨r,hr⟩:∃ r,rs[k]? =some r:=⟨_,List.getElem?_eq_getElem (by have:=HL.out;omega)⟩;obtain⟨b,off,rfl,hcell⟩:=hc (by omega);obtain⟨b',off',rfl,hcell'⟩:=hc' (by have:=HL.out;omega);have put:∀ {p:Addr} {z:Value},w.cell? p=some z->wr.cell? p=some z:=fun h=>(hbel.cell (World.block_lt_of_cell? w _ h)).trans h
    obtain⟨c0,c1,c2,c3⟩:=zp_cells hcell hq;obtain⟨d0,d1,d2,d3⟩:=zp_cells hcell' hr;have C0:=put c0;have C1:=put c1;have C2:=put c2;have C3:=put c3;have B1:=(Below.refl wr.heap.size wr).alloc (Nat.le_refl _) (.cells #[.string q.1.own,.int .i64 q.1.ty,.int .i64 q.1.tt,q.2] 44);have D0:=(B1.cell (p:=⟨b',off'+k*4,none⟩) (World.block_lt_of_cell? wr _ (put d0))).trans (put d0);have D1:=(B1.cell (p:=⟨b',off'+k*4+1,none⟩) (World.block_lt_of_cell? wr _ (put d1))).trans (put d1);have D2:=(B1.cell (p:=⟨b',off'+k*4+2,none⟩) (World.block_lt_of_cell? wr _ (put d2))).trans (put d2);have D3:=(B1.cell (p:=⟨b',off'+k*4+3,none⟩) (World.block_lt_of_cell? wr _ (put d3))).trans (put d3);have B2:=B1.alloc B1.size (.cells #[.string r.1.own,.int .i64 r.1.ty,.int .i64 r.1.tt,r.2] 44);have hss:=setSame_any q.1 r.1 q.2 r.2 _ (((hd q (List.mem_of_getElem? hq)).below hbel).below B2) (((hd' r (List.mem_of_getElem? hr)).below hbel).below B2);obtain⟨qa,qc,eq,_⟩:=hd q (List.mem_of_getElem? hq);obtain⟨ra,rc,er,_⟩:=hd' r (List.mem_of_getElem? hr);have HX:=Nm.hide (And.intro hq hr);have i1:(0:Int)<=(k:Int):=by omega
    have i2:(k:Int)<(qs.length:Int):=by omega
    have i3:(k:Int)<(rs.length:Int):=by have:=HL.out;omega
    have B2':=Nm.below_two hbel B2;rw [eq] at C3 hss D0 D1 D2 D3 B2';rw [er] at D3 hss B2';clear hc hc' hcell hcell' hq hr heq hbel put c0 c1 c2 c3 d0 d1 d2 d3 hd hd' B1 B2
    cases hE:eqSz q.1 r.1 with
    |true=>
     rw [hE] at hss;have HE:=Nm.hide hE;clear hE;go_wp2_with (go_at_call 49;refine hss.mono ?_;rintro e w2 ⟨rfl,b2⟩)
     go_roundw
     case rel=>
      refine⟨k+1,by omega,by go_num,fun j x y hj hx hy=>?_,Nm.below_two B2' b2⟩
      rcases Nat.lt_succ_iff_lt_or_eq.1 hj with h1|rfl
      ·exact HR.out.1 j x y h1 hx hy
      ·rw [HX.out.1] at hx;rw [HX.out.2] at hy;cases hx
       cases hy
       exact eqSz_iff.1 HE.out
     case measure=>simp [intOf];omega
    |false=>
     rw [hE] at hss;have HE:=Nm.hide hE;clear hE;go_wp2_with (go_at_call 49;refine hss.mono ?_;rintro e w2 ⟨rfl,b2⟩)
     go_ret;rw [eqZs_not (j:=k) (a:=q.1) (b:=r.1) (by simp [HX.out.1]) (by simp [HX.out.2]) HE.out];exact⟨rfl,Nm.below_two B2' b2⟩
   ·have hke:k=qs.length:=by omega
    subst hke;clear hc hc' heq hbel hd hd';go_wp2;go_ret
    rw [eqZs_all (by simp [HL.out]) (fun j x y hx hy=>by
     simp only [List.getElem?_map,Option.map_eq_some_iff] at hx hy;obtain⟨q,hq,rfl⟩:=hx;obtain⟨r,hr,rfl⟩:=hy
     exact HR.out.1 j q r (List.getElem?_eq_some_iff.1 hq).1 hq hr)]
    exact⟨rfl,HR.out.2⟩
 ·have nl:((qs.length:Int) != (rs.length:Int))=true:=by rw [bne_iff_ne];omega
  have HL:=Nm.hide hl;clear hl hc hc' hd hd';go_enter Tryz.func47,Tryz.ntmps47;go_wp2;go_ret;rw [eqZs_len (by simpa using HL.out)];exact⟨rfl,Below.refl _ _⟩
end Go.Proofs.YtahpiciofdfipaaGreat
