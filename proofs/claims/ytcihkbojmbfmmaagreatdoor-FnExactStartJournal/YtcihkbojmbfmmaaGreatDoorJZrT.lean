import Derived.Test.YtcihkbojmbfmmaaGreatDoorJSjC
import Derived.Test.YtcihkbojmbfmmaaGreatDoorJCzM
import Derived.BigQuiet
import Derived.RegionTactic
namespace Go.Proofs.YtcihkbojmbfmmaaGreatDoor
open Go.RowKit
set_option linter.unusedVariables false
set_option maxRecDepth 100000 in
set_option maxHeartbeats 3200000 in
theorem specZoneRecords_any(o:ByteArray)(v:Value)(ps:List Zp)(w:World)(h:ZRow w v ps)(hs:zsum ps<=1048576)(hl:ps.length<=1048576):
 Calls Tryz.prog 26 #[.agg #[.string o,v]] w fun e w'=>∃ u,e=.returned u∧w'.ownsRow w.heap.size 73 5 u (zoneRecs ps).length (rvVs (zoneRecs ps))∧Below w.heap.size w w':=by
 obtain⟨RS,hRS⟩:∃ R,R=zoneRecs ps:=⟨_,rfl⟩;rw [<- hRS];unfold zoneRecs at hRS;have hB0:=(Below.refl w.heap.size w).alloc (Nat.le_refl _) (.cells #[.string o,v] 31);have hbx:=blk_new w #[.string o,v] 31;have hrow:=h.below hB0;have hrowW:=h;have hsz0:(w.alloc (.cells #[.string o,v] 31)).heap.size=w.heap.size+1:=by simp
 have o0:=World.ownsRow_lit (base:=(w.alloc (.cells #[.string o,v] 31)).heap.size) (e:=73) (size:=5) (w.alloc (.cells #[.string o,v] 31)) #[] 0 (Nat.le_refl _) (by decide) rfl;obtain⟨⟨_,a,cap,rfl,hcap,hmx,_⟩,_⟩:=h;unfold maxLen at hmx
 by_cases hbig:500<ps.length
 ·have hbig':(500:Int)<(ps.length:Int):=by omega
  obtain rfl:RS=[]:=by rw [hRS,if_pos (.inl hbig)]
  clear hRS hrow;go_enter Tryz.func26,Tryz.ntmps26;go_wp2;go_ret;refine⟨_,rfl,?_,hB0.alloc hB0.size _⟩;rw [hsz0] at o0;exact own_base o0 (by omega)
 ·have hbig':(ps.length:Int)<=500:=by omega
  have hcnt:=fun W (hW:Below (w.alloc (.cells #[.string o,.slice a ps.length cap] 31)).heap.size (w.alloc (.cells #[.string o,.slice a ps.length cap] 31)) W)=>l06Count_any o (.slice a ps.length cap) ps W (hrow.below hW) hs hl
  by_cases hd:500<dsum ps
  ·have hd':(500:Int)<(dsum ps:Int):=by omega
   obtain rfl:RS=[]:=by rw [hRS,if_pos (.inr hd)]
   clear hRS hrow;generalize dsum ps=D at*;go_enter Tryz.func26,Tryz.ntmps26;go_wp2_with (go_at_call 24;refine(hcnt _ ((Below.refl _ _).alloc (Nat.le_refl _) _)).mono ?_;rintro e w1 ⟨rfl,hb1⟩)
   go_ret;refine⟨_,rfl,?_,Nm.below_two (hB0.alloc hB0.size _) hb1⟩;have o1:=own_below o0 hb1;rw [hsz0] at o1;exact own_base o1 (by omega)
  ·have hd':(dsum ps:Int)<=500:=by omega
   have hRS2:RS=recsAll ps:=by rw [hRS,if_neg (by omega)]
   clear hRS;have hdd:∀ k,dsum (ps.take k)<=500:=fun k=>by have:=dsum_take_le ps k;omega
   have hrl:=fun k=>recsAll_len (ps.take k)
   have hstep:=fun(k:Nat) (x:Zp) (h:ps[k]? =some x)=>recsAll_step h
   have hdst:=fun(k:Nat) (x:Zp) (h:ps[k]? =some x)=>dsum_step ps k x h
   have hrun:=hcnt;generalize hDP:dsum ps=D at hrun hd';go_enter Tryz.func26,Tryz.ntmps26;go_wp2_with (go_at_call 24;refine(hrun _ ((Below.refl _ _).alloc (Nat.le_refl _) _)).mono ?_;rintro e w1 ⟨rfl,hb1⟩)
   have hbx1:=blk_below (blk_alloc hbx (.cells #[] 73)) hb1;have hB1:=Nm.below_two (hB0.alloc hB0.size (.cells #[] 73)) hb1;have o1:=own_below o0 hb1;have hb01:Below (w.alloc (.cells #[.string o,.slice a ps.length cap] 31)).heap.size (w.alloc (.cells #[.string o,.slice a ps.length cap] 31)) w1:=Nm.below_two ((Below.refl _ _).alloc (Nat.le_refl _) _) hb1;have hrow1:=hrow.below hb01;rw [hsz0] at o1;clear hcnt hrun hb1 hb01 o0 hrow hbx hB0 hsz0;obtain⟨wb,hwb⟩:∃ wb,wb=w1:=⟨w1,rfl⟩;have hw1b:w.heap.size+1<=w1.heap.size:=blk_lt hbx1
   go_loopw [3,4] (fun vo vi wr=>∃ k:Nat,k<=ps.length∧vi=.int .i64 k∧wr.ownsRow (w.heap.size+1) 73 5 vo (recsAll (ps.take k)).length (rvVs (recsAll (ps.take k)))∧Below (w.heap.size+1) w1 wr) (fun _ vi _=>ps.length-(intOf vi).toNat)
   case atStart=>exact⟨0,Nat.zero_le _,rfl,o1,Below.refl _ _⟩
   case round=>
    obtain⟨k,hk,rfl,oO,hbel⟩:=hrel;clear o1;have hW:Below w.heap.size w wr:=hB1.trans (hbel.mono (by omega));have hbr:Blk wr w.heap.size #[.string o,.slice a ps.length cap] 31:=(hbel.block _ (by omega)).trans hbx1;have q1:wr.cell? ⟨w.heap.size,1,none⟩=some (.slice a ps.length cap):=(blk_cell hbr 1).trans rfl;have hwsz:w.heap.size+1<=wr.heap.size:=blk_lt hbr
    by_cases hlt:k<ps.length
    ·obtain⟨x,hxk⟩:∃ x,ps[k]? =some x:=⟨_,List.getElem?_eq_getElem hlt⟩;obtain⟨⟨_,a',cap',hv,_,_,hc⟩,hsr⟩:=hrowW.below hW;simp only [Value.slice.injEq] at hv;obtain⟨rfl,_,rfl⟩:=hv;obtain⟨b,off,rfl,hcell⟩:=hc (by omega);obtain⟨c0,c1,c2,c3⟩:=zp_cells hcell hxk;have hmem:=List.mem_of_getElem? hxk;have hxl:x.1.da.length<=1048576:=by have:=zsum_mem ps x hmem;unfold zs1 at this;omega
     have hone:=l06SetRecords_any x.1 x.2 wr (hsr x hmem) hxl;have hsp:=hstep k x hxk;have hld:=hdst k x hxk;have hd1:=hdd (k+1);have hl0:=hrl k;have hl1:=recsOf_len x.1;have hjn:=fun U W (h1:W.ownsRow (w.heap.size+1) 73 5 _ (recsAll (ps.take k)).length (rvVs (recsAll (ps.take k)))) (h2:W.ownsRow wr.heap.size 73 5 U (recsOf x.1).length (rvVs (recsOf x.1))) hB=>l06Join_any _ U (recsAll (ps.take k)) (recsOf x.1) (w.heap.size+1) wr.heap.size W h1 h2 hB (fun g hg=>(oO.lt g hg).2) (by omega)
     rw [<- hsp] at hjn;have i1:(0:Int)<=(k:Int):=by omega
     have i2:(k:Int)<(ps.length:Int):=by omega
     clear hcell hc hsr hrowW hstep hdst hrl hdd hsp hld hl0 hl1 hmem hxk;generalize recsAll (ps.take k)=R0 at*;generalize hR1:recsAll (ps.take (k+1))=R1 at*;generalize recsOf x.1=R2 at*;obtain⟨⟨o1,ty,tt,da⟩,dv⟩:=x;simp only at c0 c1 c2 c3 hone
     obtain⟨oa,oc,hov⟩:=own_sl oO;subst hov;go_wp2_with (first|(go_at_call 52;refine hone.mono ?_;rintro e w2 ⟨u,rfl,hu,hb2⟩;have oO2:=own_below oO hb2)|(go_at_call 51;refine(hjn _ _ oO2 hu (by have:=hb2.size;omega)).mono ?_;rintro e w3 ⟨u3,rfl,hu3,hb3⟩))
     go_roundw
     case rel=>exact⟨k+1,by omega,by go_num,by rw [hR1];exact hu3,(hbel.trans (hb2.mono (by omega))).trans hb3⟩
     case measure=>simp [intOf];omega
    ·have hkl:k=ps.length:=by omega
     subst hkl;have i2:(ps.length:Int)<=(ps.length:Int):=by omega
     rw [List.take_length,<- hRS2] at oO;clear hrowW hstep hdst hrl hdd hRS2;go_wp2;go_ret;exact⟨_,rfl,own_base oO (by omega),hW⟩
theorem str_ne{a b:ByteArray}(h:a≠b):(a.toList != b.toList)=true:=by
 rw [bne_iff_ne,ByteArray.toList_eq,ByteArray.toList_eq];exact fun e=>h (Nm.ba_ext e)
theorem str_eq_no{a b:ByteArray}(h:a≠b):(a.toList==b.toList)=false:=by
 have:=str_ne h;rw [bne] at this;simpa using this
set_option maxRecDepth 100000 in
set_option maxHeartbeats 800000 in
theorem equalStr_any(v u:Value)(xs ys:List ByteArray)(w:World)(h:Nm.SRow w v xs)(h':Nm.SRow w u ys):
 Calls Tryz.prog 97 #[v,u] w fun e w'=>e=.returned (.bool (decide (xs=ys)))∧Below w.heap.size w w':=by
 obtain⟨a,cap,rfl,hcap,hmx,_,hc⟩:=h;obtain⟨a',cap',rfl,hcap',hmx',_,hc'⟩:=h';unfold maxLen at hmx hmx'
 by_cases hl:xs.length=ys.length
 ·have nl:((xs.length:Int) != (ys.length:Int))=false:=by rw [hl];simp
  have HL:=Nm.hide hl;clear hl;go_enter Tryz.func97,Tryz.ntmps97;go_wp2
  go_loopw [13] (fun i wr=>∃ k:Nat,k<=xs.length∧i=.int .i64 k∧xs.take k=ys.take k∧Below w.heap.size w wr) (fun i _=>xs.length-(intOf i).toNat)
  case atStart=>exact⟨0,Nat.zero_le _,rfl,rfl,Below.refl _ _⟩
  case round=>
   obtain⟨k,hk,rfl,heq,hbel⟩:=hrel;have HR:=Nm.hide (And.intro heq hbel)
   by_cases hlt:k<xs.length
   ·obtain⟨x,hx⟩:∃ x,xs[k]? =some x:=⟨_,List.getElem?_eq_getElem hlt⟩;obtain⟨y,hy⟩:∃ y,ys[k]? =some y:=⟨_,List.getElem?_eq_getElem (by have:=HL.out;omega)⟩;obtain⟨b,off,rfl,hcell⟩:=hc (List.ne_nil_of_mem (List.mem_of_getElem? hx));obtain⟨b',off',rfl,hcell'⟩:=hc' (List.ne_nil_of_mem (List.mem_of_getElem? hy));have c1:=hcell k x hx;have c2:=hcell' k y hy;have d1:=(hbel.cell (World.block_lt_of_cell? w _ c1)).trans c1;have d2:=(hbel.cell (World.block_lt_of_cell? w _ c2)).trans c2;have i1:(0:Int)<=(k:Int):=by omega
    have i2:(k:Int)<(xs.length:Int):=by omega
    have i3:(k:Int)<(ys.length:Int):=by have:=HL.out;omega
    have HX:=Nm.hide (And.intro hx hy);clear hc hc' hcell hcell' c1 c2 hx hy heq hbel
    by_cases hxy:x=y
    ·subst hxy;have e1:(x.toList != x.toList)=false:=by simp
     go_wp2;go_quiet (fail)
     go_wp2;go_roundw
     case rel=>
      obtain⟨hk1,ex⟩:=List.getElem?_eq_some_iff.1 HX.out.1;obtain⟨hk2,ey⟩:=List.getElem?_eq_some_iff.1 HX.out.2;refine⟨k+1,by omega,by go_num,by rw [List.take_succ_eq_append_getElem hk1,List.take_succ_eq_append_getElem hk2,ex,ey,HR.out.1],Go.below_drewN HR.out.2 _⟩
     case measure=>simp [intOf];omega
    ·have e1:=str_eq_no hxy;have HXY:=Nm.hide hxy;clear hxy;go_wp2;go_quiet (fail)
     go_wp2;go_ret;refine⟨?_,Go.below_drewN HR.out.2 _⟩
     rw [decide_eq_false (fun e=>HXY.out (by
      have h1:=HX.out.1;rw [e,HX.out.2] at h1
      exact(Option.some.inj h1).symm))]
     rfl
   ·have hke:k=xs.length:=by omega
    subst hke;clear hc hc' heq hbel;go_wp2;go_ret;have h1:=HR.out.1;rw [List.take_length,HL.out,List.take_length] at h1;rw [decide_eq_true h1];exact⟨rfl,HR.out.2⟩
 ·have nl:((xs.length:Int) != (ys.length:Int))=true:=by rw [bne_iff_ne];omega
  have HL:=Nm.hide hl;clear hl hc hc';go_enter Tryz.func97,Tryz.ntmps97;go_wp2;go_ret;rw [decide_eq_false (fun e=>HL.out (by rw [e]))];exact⟨rfl,Below.refl _ _⟩
set_option maxRecDepth 100000 in
set_option maxHeartbeats 1600000 in
theorem setSame_any(s t:Sz)(v u:Value)(w:World)(h:Nm.SRow w v s.da)(h':Nm.SRow w u t.da):
 Calls Tryz.prog 61 #[.agg #[.string s.own,.int .i64 s.ty,.int .i64 s.tt,v],.agg #[.string t.own,.int .i64 t.ty,.int .i64 t.tt,u]] w fun e w'=>e=.returned (.bool (eqSz s t))∧Below w.heap.size w w':=by
 have hB:=((Below.refl w.heap.size w).alloc (Nat.le_refl _) (.cells #[.string s.own,.int .i64 s.ty,.int .i64 s.tt,v] 58)).alloc (by simp) (.cells #[.string t.own,.int .i64 t.ty,.int .i64 t.tt,u] 58);have he:=equalStr_any v u s.da t.da _ (h.below hB) (h'.below hB);obtain⟨a,cap,rfl,_⟩:=h;obtain⟨a',cap',rfl,_⟩:=h';obtain⟨so,st,stt,sd⟩:=s;obtain⟨to_,tt,ttt,td⟩:=t;simp only [eqSz] at*;generalize decide (sd=td)=DD at*
 by_cases h1:so=to_
 ·subst h1;have e1:(so.toList==so.toList)=true:=by simp
  by_cases h2:st=tt
  ·subst h2;have e2:(st==st)=true:=by simp
   by_cases h3:stt=ttt
   ·subst h3;have e3:(stt==stt)=true:=by simp
    go_enter Tryz.func61,Tryz.ntmps61;go_wp2_with (go_at_call 97;refine he.mono ?_;rintro e w1 ⟨rfl,b1⟩)
    go_ret;exact⟨by simp,Nm.below_two hB b1⟩
   ·have e3:(stt==ttt)=false:=by simpa using h3
    clear he;go_enter Tryz.func61,Tryz.ntmps61;go_wp2;go_ret;exact⟨by simp [h3],hB⟩
  ·have e2:(st==tt)=false:=by simpa using h2
   clear he;go_enter Tryz.func61,Tryz.ntmps61;go_wp2;go_ret;exact⟨by simp [h2],hB⟩
 ·have e1:=str_eq_no h1;clear he;go_enter Tryz.func61,Tryz.ntmps61;go_wp2;go_ret;exact⟨by simp [h1],hB⟩
set_option maxRecDepth 100000 in
set_option maxHeartbeats 1600000 in
theorem equalSets_any(v u:Value)(qs rs:List Zp)(w:World)(h:ZRow w v qs)(h':ZRow w u rs):
 Calls Tryz.prog 59 #[v,u,.func (.func 61) #[] #[]] w fun e w'=>e=.returned (.bool (eqZs (qs.map (·.1)) (rs.map (·.1))))∧Below w.heap.size w w':=by
 obtain⟨⟨_,a,cap,rfl,hcap,hmx,hc⟩,hd⟩:=h;obtain⟨⟨_,a',cap',rfl,hcap',hmx',hc'⟩,hd'⟩:=h';unfold maxLen at hmx hmx'
 by_cases hl:qs.length=rs.length
 ·have nl:((qs.length:Int) != (rs.length:Int))=false:=by rw [hl];simp
  have HL:=Nm.hide hl;clear hl;go_enter Tryz.func59,Tryz.ntmps59;go_wp2
  go_loopw [17] (fun i wr=>∃ k:Nat,k<=qs.length∧i=.int .i64 k∧(∀ (j:Nat) (q r:Zp),j<k->qs[j]? =some q->rs[j]? =some r->q.1=r.1)∧Below w.heap.size w wr) (fun i _=>qs.length-(intOf i).toNat)
  case atStart=>exact⟨0,Nat.zero_le _,rfl,fun j _ _ hj=>absurd hj (Nat.not_lt_zero _),Below.refl _ _⟩
  case round=>
   obtain⟨k,hk,rfl,heq,hbel⟩:=hrel;have HR:=Nm.hide (And.intro heq hbel)
   by_cases hlt:k<qs.length
   ·obtain⟨q,hq⟩:∃ q,qs[k]? =some q:=⟨_,List.getElem?_eq_getElem hlt⟩;obtain⟨r,hr⟩:∃ r,rs[k]? =some r:=⟨_,List.getElem?_eq_getElem (by have:=HL.out;omega)⟩;obtain⟨b,off,rfl,hcell⟩:=hc (by omega);obtain⟨b',off',rfl,hcell'⟩:=hc' (by have:=HL.out;omega);have put:∀ {p:Addr} {z:Value},w.cell? p=some z->wr.cell? p=some z:=fun h=>(hbel.cell (World.block_lt_of_cell? w _ h)).trans h
    obtain⟨c0,c1,c2,c3⟩:=zp_cells hcell hq;obtain⟨d0,d1,d2,d3⟩:=zp_cells hcell' hr;have C0:=put c0;have C1:=put c1;have C2:=put c2;have C3:=put c3;have B1:=(Below.refl wr.heap.size wr).alloc (Nat.le_refl _) (.cells #[.string q.1.own,.int .i64 q.1.ty,.int .i64 q.1.tt,q.2] 58);have D0:=(B1.cell (p:=⟨b',off'+k*4,none⟩) (World.block_lt_of_cell? wr _ (put d0))).trans (put d0);have D1:=(B1.cell (p:=⟨b',off'+k*4+1,none⟩) (World.block_lt_of_cell? wr _ (put d1))).trans (put d1);have D2:=(B1.cell (p:=⟨b',off'+k*4+2,none⟩) (World.block_lt_of_cell? wr _ (put d2))).trans (put d2);have D3:=(B1.cell (p:=⟨b',off'+k*4+3,none⟩) (World.block_lt_of_cell? wr _ (put d3))).trans (put d3);have B2:=B1.alloc B1.size (.cells #[.string r.1.own,.int .i64 r.1.ty,.int .i64 r.1.tt,r.2] 58);have hss:=setSame_any q.1 r.1 q.2 r.2 _ (((hd q (List.mem_of_getElem? hq)).below hbel).below B2) (((hd' r (List.mem_of_getElem? hr)).below hbel).below B2);obtain⟨qa,qc,eq,_⟩:=hd q (List.mem_of_getElem? hq);obtain⟨ra,rc,er,_⟩:=hd' r (List.mem_of_getElem? hr);have HX:=Nm.hide (And.intro hq hr);have i1:(0:Int)<=(k:Int):=by omega
    have i2:(k:Int)<(qs.length:Int):=by omega
    have i3:(k:Int)<(rs.length:Int):=by have:=HL.out;omega
    have B2':=Nm.below_two hbel B2;rw [eq] at C3 hss D0 D1 D2 D3 B2';rw [er] at D3 hss B2';clear hc hc' hcell hcell' hq hr heq hbel put c0 c1 c2 c3 d0 d1 d2 d3 hd hd' B1 B2
    cases hE:eqSz q.1 r.1 with
    |true=>
     rw [hE] at hss;have HE:=Nm.hide hE;clear hE;go_wp2_with (go_at_call 61;refine hss.mono ?_;rintro e w2 ⟨rfl,b2⟩)
     go_roundw
     case rel=>
      refine⟨k+1,by omega,by go_num,fun j x y hj hx hy=>?_,Nm.below_two B2' b2⟩
      rcases Nat.lt_succ_iff_lt_or_eq.1 hj with h1|rfl
      ·exact HR.out.1 j x y h1 hx hy
      ·rw [HX.out.1] at hx;rw [HX.out.2] at hy;cases hx
       cases hy
       exact eqSz_iff.1 HE.out
     case measure=>simp [intOf];omega
    |false=>
     rw [hE] at hss;have HE:=Nm.hide hE;clear hE;go_wp2_with (go_at_call 61;refine hss.mono ?_;rintro e w2 ⟨rfl,b2⟩)
     go_ret;rw [eqZs_not (j:=k) (a:=q.1) (b:=r.1) (by simp [HX.out.1]) (by simp [HX.out.2]) HE.out];exact⟨rfl,Nm.below_two B2' b2⟩
   ·have hke:k=qs.length:=by omega
    subst hke;clear hc hc' heq hbel hd hd';go_wp2;go_ret
    rw [eqZs_all (by simp [HL.out]) (fun j x y hx hy=>by
     simp only [List.getElem?_map,Option.map_eq_some_iff] at hx hy;obtain⟨q,hq,rfl⟩:=hx;obtain⟨r,hr,rfl⟩:=hy
     exact HR.out.1 j q r (List.getElem?_eq_some_iff.1 hq).1 hq hr)]
    exact⟨rfl,HR.out.2⟩
 ·have nl:((qs.length:Int) != (rs.length:Int))=true:=by rw [bne_iff_ne];omega
  have HL:=Nm.hide hl;clear hl hc hc' hd hd';go_enter Tryz.func59,Tryz.ntmps59;go_wp2;go_ret;rw [eqZs_len (by simpa using HL.out)];exact⟨rfl,Below.refl _ _⟩
end Go.Proofs.YtcihkbojmbfmmaaGreatDoor
