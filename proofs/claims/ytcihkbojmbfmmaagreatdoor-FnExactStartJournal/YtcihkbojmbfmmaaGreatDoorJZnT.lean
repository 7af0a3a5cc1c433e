import Derived.Test.YtcihkbojmbfmmaaGreatDoorJMath
import Derived.RegionTactic
import Derived.Test.YtcihkbojmbfmmaaGreatDoorJBmB
import Derived.Test.YtcihkbojmbfmmaaGreatDoorJTbAS
import Derived.RangeFuncNested
import Derived.Test.YtcihkbojmbfmmaaGreatDoorJRbT
import Derived.Test.YtcihkbojmbfmmaaGreatDoorCut
namespace Go.Proofs.YtcihkbojmbfmmaaGreatDoor
open Go.RowKit
set_option linter.unusedVariables false
theorem four_facts{w1:World}{g1 g2:Nat}{T:TypeId}(hne:g1≠g2){x0 x1 x2 x3 y0 y1 y2 y3:Value}(u:Value)(k1:Blk w1 g1 #[x0,x1,x2,x3] T)(k2:Blk w1 g2 #[y0,y1,y2,y3] T):
 (w1.cell? ⟨g2,3,none⟩=some y3∧w1.frozen? ⟨g2,3,none⟩=false)∧
 ((w1.setCell ⟨g2,3,none⟩ u).cell? ⟨g2,0,none⟩=some y0∧(w1.setCell ⟨g2,3,none⟩ u).cell? ⟨g2,1,none⟩=some y1∧(w1.setCell ⟨g2,3,none⟩ u).cell? ⟨g2,2,none⟩=some y2∧(w1.setCell ⟨g2,3,none⟩ u).cell? ⟨g2,3,none⟩=some u)∧
 ((w1.setCell ⟨g2,3,none⟩ u).cell? ⟨g1,0,none⟩=some x0∧(w1.setCell ⟨g2,3,none⟩ u).cell? ⟨g1,1,none⟩=some x1∧(w1.setCell ⟨g2,3,none⟩ u).cell? ⟨g1,2,none⟩=some x2∧(w1.setCell ⟨g2,3,none⟩ u).cell? ⟨g1,3,none⟩=some x3)∧
 (∀ i,(w1.setCell ⟨g2,3,none⟩ u).frozen? ⟨g1,i,none⟩=false)∧
 Blk (((((w1.setCell ⟨g2,3,none⟩ u).setCell ⟨g1,0,none⟩ y0).setCell ⟨g1,1,none⟩ y1).setCell ⟨g1,2,none⟩ y2).setCell ⟨g1,3,none⟩ u) g1 #[y0,y1,y2,u] T:=by
 have a2:=blk_set k2 3 u;have a1:Blk (w1.setCell ⟨g2,3,none⟩ u) g1 #[x0,x1,x2,x3] T:=blk_far k1 hne;exact⟨⟨(blk_cell k2 3).trans rfl,blk_frozen k2 3⟩,⟨(blk_cell a2 0).trans rfl,(blk_cell a2 1).trans rfl,(blk_cell a2 2).trans rfl,(blk_cell a2 3).trans rfl⟩,⟨(blk_cell a1 0).trans rfl,(blk_cell a1 1).trans rfl,(blk_cell a1 2).trans rfl,(blk_cell a1 3).trans rfl⟩,blk_frozen a1,blk_set (blk_set (blk_set (blk_set a1 0 y0) 1 y1) 2 y2) 3 u⟩
set_option maxRecDepth 100000 in
set_option maxHeartbeats 1600000 in
theorem toSet_any(s:Sz)(dv:Value)(w:World)(h:Nm.SRow w dv s.da)(hl:s.da.length<=1048576):
 Calls Tryz.prog 31 #[.agg #[.string s.own,.int .i64 s.ty,.int .i64 s.tt,dv]] w fun e w'=>∃ u,e=.returned (.agg #[.string s.own,.int .i64 s.ty,.int .i64 s.tt,u])∧w'.ownsRow w.heap.size 9 1 u s.da.length (s.da.map Value.string)∧Below w.heap.size w w':=by
 obtain⟨o,ty,tt,da⟩:=s;simp only at*
 have hB:=(((Below.refl w.heap.size w).alloc (Nat.le_refl _) (.cells #[.string o,.int .i64 ty,.int .i64 tt,dv] 50)).alloc (by simp) (.cells #[.string ⟨#[]⟩,.int .i64 0,.int .i64 0,.slice none 0 0] 58)).alloc (by simp;omega) (.cells #[.string o,.int .i64 ty,.int .i64 tt,.slice none 0 0] 58);have hone:=toStringS_any dv da _ (h.below hB) hl;have hz1:(w.alloc (.cells #[.string o,.int .i64 ty,.int .i64 tt,dv] 50)).heap.size=w.heap.size+1:=by simp
 have hz2:((w.alloc (.cells #[.string o,.int .i64 ty,.int .i64 tt,dv] 50)).alloc (.cells #[.string ⟨#[]⟩,.int .i64 0,.int .i64 0,.slice none 0 0] 58)).heap.size=w.heap.size+1+1:=by simp
 have hb1:=blk_alloc (blk_new (w.alloc (.cells #[.string o,.int .i64 ty,.int .i64 tt,dv] 50)) #[.string ⟨#[]⟩,.int .i64 0,.int .i64 0,.slice none 0 0] 58) (.cells #[.string o,.int .i64 ty,.int .i64 tt,.slice none 0 0] 58);have hb2:=blk_new ((w.alloc (.cells #[.string o,.int .i64 ty,.int .i64 tt,dv] 50)).alloc (.cells #[.string ⟨#[]⟩,.int .i64 0,.int .i64 0,.slice none 0 0] 58)) #[.string o,.int .i64 ty,.int .i64 tt,.slice none 0 0] 58;rw [hz1] at hb1;rw [hz2] at hb2;clear hz1 hz2;obtain⟨a,cap,rfl,_⟩:=h;go_enter Tryz.func31,Tryz.ntmps31;go_wp2_with (go_at_call 57;refine hone.mono ?_;rintro e w1 ⟨u,rfl,hown,hbel⟩;obtain⟨ua,uc,rfl⟩:=own_sl hown;have k1:=blk_below hb1 hbel;have k2:=blk_below hb2 hbel;obtain⟨⟨p0,p1⟩,⟨q0,q1,q2,q3⟩,⟨r0,r1,r2,r3⟩,rf,kz⟩:=four_facts (by omega) (.slice ua da.length uc) k1 k2;clear hone)
 have e0:=(blk_cell kz 0).trans rfl;have e1:=(blk_cell kz 1).trans rfl;have e2:=(blk_cell kz 2).trans rfl;have e3:=(blk_cell kz 3).trans rfl;refine bodyPost_ret (v:=.agg #[.string o,.int .i64 ty,.int .i64 tt,.slice ua da.length uc]) ?_ rfl ?_
 ·simp [results,Tryz.results31,go_sem,Result.andThen,e0,e1,e2,e3]
 ·simp only [World.alloc,Array.size_push] at hown;refine⟨_,rfl,own_base (own_far_lt (own_far_lt (own_far_lt (own_far_lt (own_far_lt hown (by omega)) (by omega)) (by omega)) (by omega)) (by omega)) (by omega),?_⟩;exact(((((Nm.below_two hB hbel).setCell (by simp;omega) _).setCell (by simp) _).setCell (by simp) _).setCell (by simp) _).setCell (by simp) _
def OZ(w:World)(B:Nat)(v:Value)(qs:List Zp):Prop:=w.ownsRow B 58 4 v qs.length (zpVs qs)∧∀ q∈qs,w.ownsRow B 9 1 q.2 q.1.da.length (q.1.da.map Value.string)
theorem OZ.read{w:World}{B:Nat}{v:Value}{qs:List Zp}(h:OZ w B v qs):ZRow w v qs:=⟨CRow.of_owns h.1,fun q hq=>Nm.SRow.of_owns (h.2 q hq)⟩
theorem OZ.below{w W:World}{B:Nat}{v:Value}{qs:List Zp}(h:OZ w B v qs)(hb:Below w.heap.size w W):OZ W B v qs:=⟨own_below h.1 hb,fun q hq=>own_below (h.2 q hq) hb⟩
theorem set4{cs:List Value}{k:Nat}{A:List Value}(a b c d:Value)(hl:k*4+4<=cs.length)(h:cs.take (k*4)=A):
 ((((cs.set (k*4) a).set (k*4+1) b).set (k*4+2) c).set (k*4+3) d).take ((k+1)*4)=A++[a,b,c,d]:=by
 have hs:cs=cs.take (k*4)++cs.drop (k*4):=(List.take_append_drop _ _).symm;have hdl:4<=(cs.drop (k*4)).length:=by simp;omega
 have hpl:(cs.take (k*4)).length=k*4:=by simp;omega
 rw [h] at hs hpl;obtain⟨q,hq⟩:∃ q,q=cs.drop (k*4):=⟨_,rfl⟩;rw [<- hq] at hs hdl
 match q,hdl with
 |y0::y1::y2::y3::r,_=>
  rw [hs];simp only [List.set_append,hpl,Nat.lt_irrefl,if_false,Nat.sub_self,show ¬(k*4+1<k*4) by omega,show ¬(k*4+2<k*4) by omega,show ¬(k*4+3<k*4) by omega,Nat.add_sub_cancel_left];simp only [List.set_cons_zero,List.set_cons_succ];rw [List.take_append,hpl,show(k+1)*4-k*4=4 by omega,List.take_of_length_le (by omega)];rfl
theorem Tryz.infoSet:(Tryz.prog.info? 58).map (fun i=>(i.zero,i.size,i.bytes))=some (some (.agg #[.string ByteArray.empty,.int .i64 0,.int .i64 0,.slice none 0 0]),4,56):=by kernel_rfl
theorem four_at{w:World}{B e g n cap k:Nat}{cs:List Value}(h:w.ownsRow B e 4 (.slice (some ⟨g,0,none⟩) n cap) n cs)(hk:k<n)(j:Nat)(hj:j<4):∃ y,w.cell? ⟨g,k*4+j,none⟩=some y:=by
 rw [h.cellAt (k*4+j) (by omega)];have:=h.1;exact⟨_,List.getElem?_eq_getElem (by omega)⟩
set_option maxRecDepth 100000 in
set_option maxHeartbeats 1600000 in
theorem toSetS_any(v:Value)(ps:List Zp)(w:World)(h:ZRow w v ps)(hlen:ps.length<=1048576)(hd:∀ p∈ps,p.1.da.length<=1048576):
 Calls Tryz.prog 17 #[v] w fun e w'=>∃ u qs,e=.returned u∧qs.map (·.1)=ps.map (·.1)∧OZ w' w.heap.size u qs∧Below w.heap.size w w':=by
 obtain⟨i0,hi,hz0,hz1,hz2⟩:=info_parts Tryz.infoSet;obtain⟨⟨_,a,cap,rfl,hcap,hmx,hc⟩,hrow⟩:=h;unfold maxLen at hmx;have hto:=fun(p:Zp) (hp:p∈ps) W (hW:Below w.heap.size w W)=>toSet_any p.1 p.2 W ((hrow p hp).below hW) (hd p hp)
 clear hrow hd;go_enter Tryz.func17,Tryz.ntmps17;go_wp2_with (at_make;refine wpList_make_full _ rfl (.tmp 6) (.tmp 6) 29 rfl w.heap.size 58 i0 _ 4 Tryz.underlying29 hi hz0 hz1 .i64 .i64 _ _ ps.length rfl rfl rfl rfl (by rw [hz2];omega) (by unfold maxLen;omega) (Nat.le_refl _) ?_;intro w2 hown0 hgrow0)
 generalize hcs0:(madeCells (Value.agg #[.string ByteArray.empty,.int .i64 0,.int .i64 0,.slice none 0 0]).cells (ps.length*4)).toList=cs0 at hown0;clear hcs0
 go_loopw [4] (fun i wr=>∃ (k:Nat) (cs:List Value) (qs:List Zp),k<=ps.length∧i=.int .i64 k∧wr.ownsRow w.heap.size 58 4 (.slice (some ⟨w.heap.size,0,none⟩) ps.length ps.length) ps.length cs∧Hid (cs.take (k*4)=zpVs qs)∧Hid (qs.map (·.1)=(ps.take k).map (·.1))∧Hid (∀ q∈qs,wr.ownsRow w.heap.size 9 1 q.2 q.1.da.length (q.1.da.map Value.string))∧Below w.heap.size w wr)
  (fun i _=>ps.length-(intOf i).toNat)
 case atStart=>exact⟨0,cs0,[],Nat.zero_le _,rfl,hown0,by show _=_;simp [zpVs],by show _=_;simp,by intro q hq;simp at hq,(Below.refl _ w).grown hgrow0 (Nat.le_refl _) (fun k hk=>by cases hk)⟩
 case round=>
  obtain⟨k,cs,qs,hk,rfl,hown,HT,HQ,HO,hbel⟩:=hrel;clear hown0 hgrow0
  by_cases hlt:k<ps.length
  ·obtain⟨x,hx⟩:∃ x,ps[k]? =some x:=⟨_,List.getElem?_eq_getElem hlt⟩;obtain⟨b,off,rfl,hcell⟩:=hc (by omega);obtain⟨c0,c1,c2,c3⟩:=zp_cells hcell hx;have put:∀ {O:Nat} {z:Value},w.cell? ⟨b,O,none⟩=some z->wr.cell? ⟨b,O,none⟩=some z:=fun h=>(hbel.cell (World.block_lt_of_cell? w _ h)).trans h
   replace c0:=put c0
   replace c1:=put c1
   replace c2:=put c2
   replace c3:=put c3
   have i1:(0:Int)<=(k:Int):=by omega
   have i2:(k:Int)<(ps.length:Int):=by omega
   have hone:=hto x (List.mem_of_getElem? hx) wr hbel
   have HQ2:Hid (∀ u:Value,(qs++[(x.1,u)]).map (·.1)=(ps.take (k+1)).map (·.1)):=by
    intro u;rw [List.map_append,HQ.out,List.take_add_one,hx,List.map_append];rfl
   have HT2:=fun u=>set4 (.string x.1.own) (.int .i64 x.1.ty) (.int .i64 x.1.tt) u (by have:=hown.1;omega) HT.out
   have HT3:Hid (∀ u:Value,((((cs.set (k*4) (.string x.1.own)).set (k*4+1) (.int .i64 x.1.ty)).set (k*4+2) (.int .i64 x.1.tt)).set (k*4+3) u).take ((k+1)*4)=zpVs (qs++[(x.1,u)])):=by
    intro u;rw [HT2,zpVs_app];rfl
   clear hcell hc HT HT2 HQ hto hx;obtain⟨⟨o,ty,tt,da⟩,dv⟩:=x;simp only at c0 c1 c2 c3 hone HQ2 HT3
   go_wp2_with (go_at_call 31;refine hone.mono ?_;rintro e w1 ⟨u,rfl,hu,hb1⟩;obtain⟨ua,uc,rfl⟩:=own_sl hu;have ho1:=own_below hown hb1;obtain⟨y0,hy0⟩:=four_at ho1 hlt 0 (by decide);obtain⟨y1,hy1⟩:=four_at ho1 hlt 1 (by decide);obtain⟨y2,hy2⟩:=four_at ho1 hlt 2 (by decide);obtain⟨y3,hy3⟩:=four_at ho1 hlt 3 (by decide);rw [Nat.add_zero] at hy0;have fz:=ho1.frozenAt;clear hone)
   go_roundw
   case rel=>
    refine⟨k+1,_,qs++[(⟨o,ty,tt,da⟩,.slice ua da.length uc)],by omega,by go_num,((((ho1.stored (k*4) _).1.stored (k*4+1) _).1.stored (k*4+2) _).1.stored (k*4+3) _).1,Nm.hide (HT3.out _),Nm.hide (HQ2.out _),?_,((((Nm.below_two hbel hb1).setCell (Nat.le_refl _) _).setCell (Nat.le_refl _) _).setCell (Nat.le_refl _) _).setCell (Nat.le_refl _) _⟩;intro q hq
    have hq1:w1.ownsRow w.heap.size 9 1 q.2 q.1.da.length (q.1.da.map Value.string):=by
     rcases List.mem_append.1 hq with h1|h1
     ·exact own_below (HO.out q h1) hb1
     ·simp only [List.mem_singleton] at h1;subst h1;exact own_base hu hbel.size
    have hne:=own_ne hq1 ho1 (by decide);exact own_far (own_far (own_far (own_far hq1 hne) hne) hne) hne
   case measure=>simp [intOf];omega
  ·have hkl:k=ps.length:=by omega
   have hcs:cs=zpVs qs:=by
    have e:=HT.out;have hl:=hown.1;rw [hkl,List.take_of_length_le (by omega)] at e;exact e
   have hqs:qs.map (·.1)=ps.map (·.1):=by
    have:=HQ.out
    rwa [hkl,List.take_length] at this
   have hql:qs.length=ps.length:=by have:=congrArg List.length hqs;simpa using this
   subst hcs;have i2:(ps.length:Int)<=(k:Int):=by omega
   clear hc hlt HT hto HQ;go_wp2;go_ret;refine⟨_,rfl,qs,hqs,⟨?_,HO.out⟩,hbel⟩;rw [hql];exact hown
theorem two_facts{w1:World}{g1 g2:Nat}{T:TypeId}(hne:g1≠g2){x0 x1 y0 y1:Value}(u:Value)(k1:Blk w1 g1 #[x0,x1] T)(k2:Blk w1 g2 #[y0,y1] T):
 (w1.cell? ⟨g2,1,none⟩=some y1∧w1.frozen? ⟨g2,1,none⟩=false)∧
 ((w1.setCell ⟨g2,1,none⟩ u).cell? ⟨g2,0,none⟩=some y0∧(w1.setCell ⟨g2,1,none⟩ u).cell? ⟨g2,1,none⟩=some u)∧
 ((w1.setCell ⟨g2,1,none⟩ u).cell? ⟨g1,0,none⟩=some x0∧(w1.setCell ⟨g2,1,none⟩ u).cell? ⟨g1,1,none⟩=some x1)∧
 (∀ i,(w1.setCell ⟨g2,1,none⟩ u).frozen? ⟨g1,i,none⟩=false)∧
 Blk (((w1.setCell ⟨g2,1,none⟩ u).setCell ⟨g1,0,none⟩ y0).setCell ⟨g1,1,none⟩ u) g1 #[y0,u] T:=by
 have a2:=blk_set k2 1 u;have a1:Blk (w1.setCell ⟨g2,1,none⟩ u) g1 #[x0,x1] T:=blk_far k1 hne;exact⟨⟨(blk_cell k2 1).trans rfl,blk_frozen k2 1⟩,⟨(blk_cell a2 0).trans rfl,(blk_cell a2 1).trans rfl⟩,⟨(blk_cell a1 0).trans rfl,(blk_cell a1 1).trans rfl⟩,blk_frozen a1,blk_set (blk_set a1 0 y0) 1 u⟩
set_option maxRecDepth 100000 in
set_option maxHeartbeats 1600000 in
theorem toZone_any(o:ByteArray)(v:Value)(ps:List Zp)(w:World)(h:ZRow w v ps)(hlen:ps.length<=1048576)(hd:∀ p∈ps,p.1.da.length<=1048576):
 Calls Tryz.prog 6 #[.agg #[.string o,v]] w fun e w'=>∃ u qs,e=.returned (.agg #[.string o,u])∧qs.map (·.1)=ps.map (·.1)∧OZ w' w.heap.size u qs∧Below w.heap.size w w':=by
 have hB:=(((Below.refl w.heap.size w).alloc (Nat.le_refl _) (.cells #[.string o,v] 24)).alloc (by simp) (.cells #[.string ⟨#[]⟩,.slice none 0 0] 31)).alloc (by simp;omega) (.cells #[.string o,.slice none 0 0] 31);have hone:=toSetS_any v ps _ (h.below hB) hlen hd;have hz1:(w.alloc (.cells #[.string o,v] 24)).heap.size=w.heap.size+1:=by simp
 have hz2:((w.alloc (.cells #[.string o,v] 24)).alloc (.cells #[.string ⟨#[]⟩,.slice none 0 0] 31)).heap.size=w.heap.size+1+1:=by simp
 have hb1:=blk_alloc (blk_new (w.alloc (.cells #[.string o,v] 24)) #[.string ⟨#[]⟩,.slice none 0 0] 31) (.cells #[.string o,.slice none 0 0] 31);have hb2:=blk_new ((w.alloc (.cells #[.string o,v] 24)).alloc (.cells #[.string ⟨#[]⟩,.slice none 0 0] 31)) #[.string o,.slice none 0 0] 31;rw [hz1] at hb1;rw [hz2] at hb2;clear hz1 hz2 hd;obtain⟨⟨_,a,cap,rfl,_⟩,_⟩:=h;go_enter Tryz.func6,Tryz.ntmps6;go_wp2_with (go_at_call 17;refine hone.mono ?_;rintro e w1 ⟨u,qs,rfl,hqs,hoz,hbel⟩;obtain⟨ua,uc,rfl⟩:=own_sl hoz.1;have k1:=blk_below hb1 hbel;have k2:=blk_below hb2 hbel;obtain⟨⟨p0,p1⟩,⟨q0,q1⟩,⟨r0,r1⟩,rf,kz⟩:=two_facts (by omega) (.slice ua qs.length uc) k1 k2;clear hone)
 have e0:=(blk_cell kz 0).trans rfl;have e1:=(blk_cell kz 1).trans rfl;refine bodyPost_ret (v:=.agg #[.string o,.slice ua qs.length uc]) ?_ rfl ?_
 ·simp [results,Tryz.results6,go_sem,Result.andThen,e0,e1]
 ·have hsz:(((w.alloc (.cells #[.string o,.slice a ps.length cap] 24)).alloc (.cells #[.string ⟨#[]⟩,.slice none 0 0] 31)).alloc (.cells #[.string o,.slice none 0 0] 31)).heap.size=w.heap.size+3:=by simp
  rw [hsz] at hoz;refine⟨_,qs,rfl,hqs,⟨?_,fun q hq=>?_⟩,?_⟩
  ·exact own_base (own_far_lt (own_far_lt (own_far_lt hoz.1 (by omega)) (by omega)) (by omega)) (by omega)
  ·exact own_base (own_far_lt (own_far_lt (own_far_lt (hoz.2 q hq) (by omega)) (by omega)) (by omega)) (by omega)
  ·exact(((Nm.below_two hB hbel).setCell (by simp;omega) _).setCell (by simp) _).setCell (by simp) _
theorem own_besideZ{W W1:World}{B e s m:Nat}{v:Value}{b:Option Nat}{xs:List Value}(h:W.ownsRow B e s v m xs)(hg:W.grownBy W1 b)(ha:∀ g,b=some g->v.ownBlock≠some g):W1.ownsRow B e s v m xs:=by
 refine h.kept hg ?_
 cases b with
 |none=>
  cases hv:v.ownBlock with
  |none=>exact .inl rfl
  |some k=>right;simp
 |some k=>right;exact ha k rfl
theorem own_kindsZ{W:World}{B e s m B' e' s' m':Nat}{v u:Value}{xs ys:List Value}(h:W.ownsRow B e s v m xs)(h':W.ownsRow B' e' s' u m' ys)(hne:e≠e'):∀ g,u.ownBlock=some g->v.ownBlock≠some g:=by
 intro g hu hv
 rcases h'.2 with⟨rfl,_⟩|⟨g',cap',cur',rfl,_,hh',_⟩
 ·cases hu
 ·rcases h.2 with⟨rfl,_⟩|⟨g2,cap2,cur2,rfl,_,hh,_⟩
  ·cases hv
  ·simp only [Value.ownBlock,Option.some.injEq] at hu hv;subst hu;subst hv;rw [hh] at hh';simp only [Option.some.injEq,Obj.cells.injEq] at hh';exact hne hh'.2.1
structure ZOwn (w:World) (B:Nat) (v:Value) (ps:List Zp):Prop where
 outer:w.ownsRow B 58 4 v ps.length (zpVs ps)
 inner:∀ (i:Nat) (p:Zp),ps[i]? =some p->w.ownsRow B 9 1 p.2 p.1.da.length (p.1.da.map Value.string)
 apart:∀ (i j:Nat) (p q:Zp),ps[i]? =some p->ps[j]? =some q->i≠j->∀ g,p.2.ownBlock=some g->q.2.ownBlock≠some g
theorem ZOwn.nil(w:World)(B:Nat):ZOwn w B (.slice none 0 0) []:=⟨World.ownsRow_nil _ _ _ _,by simp,by simp⟩
theorem ZOwn.below{w w':World}{B:Nat}{v:Value}{ps:List Zp}(h:ZOwn w B v ps)(hb:Below w.heap.size w w'):ZOwn w' B v ps:=
 ⟨own_below h.outer hb,fun i p hp=>own_below (h.inner i p hp) hb,h.apart⟩
theorem ZOwn.base{w:World}{B B':Nat}{v:Value}{ps:List Zp}(h:ZOwn w B v ps)(hb:B'<=B):ZOwn w B' v ps:=
 ⟨own_base h.outer hb,fun i p hp=>own_base (h.inner i p hp) hb,h.apart⟩
theorem ZOwn.beside{w w':World}{B:Nat}{v:Value}{ps:List Zp}{b:Option Nat}(h:ZOwn w B v ps)(hg:w.grownBy w' b)(hv:∀ g,b=some g->v.ownBlock≠some g)(hi:∀ g,b=some g->∀ p∈ps,p.2.ownBlock≠some g):ZOwn w' B v ps:=
 ⟨own_besideZ h.outer hg hv,fun i p hp=>own_besideZ (h.inner i p hp) hg (fun g e=>hi g e p (List.mem_of_getElem? hp)),h.apart⟩
theorem ZOwn.far{w:World}{B g i:Nat}{v y:Value}{ps:List Zp}(h:ZOwn w B v ps)(hg:g<B):ZOwn (w.setCell ⟨g,i,none⟩ y) B v ps:=
 ⟨own_far_lt h.outer hg,fun i p hp=>own_far_lt (h.inner i p hp) hg,h.apart⟩
theorem snoc_cases{α:Type}{xs:List α}{y x:α}{i:Nat}(hx:(xs++[y])[i]? =some x):(i<xs.length∧xs[i]? =some x)∨(i=xs.length∧x=y):=by
 by_cases hi:i<xs.length
 ·rw [List.getElem?_append_left hi] at hx;exact .inl ⟨hi,hx⟩
 ·rw [List.getElem?_append_right (by omega)] at hx
  have h0:i-xs.length=0:=by
   rcases Nat.eq_zero_or_pos (i-xs.length) with h|h
   ·exact h
   ·rw [List.getElem?_eq_none (by simp;omega)] at hx;cases hx
  rw [h0] at hx;simp at hx;exact .inr ⟨by omega,hx.symm⟩
theorem ZOwn.snoc{w w2:World}{B:Nat}{v v' u:Value}{s:Sz}{ps:List Zp}(h:ZOwn w B v ps)
 (hu:w.ownsRow B 9 1 u s.da.length (s.da.map Value.string)) (ha:∀ p∈ps,∀ g,p.2.ownBlock=some g->u.ownBlock≠some g)
 (ho:w2.ownsRow B 58 4 v' (ps.length+1) (zpVs ps++zpV (s,u))) (hg:w.grownBy w2 v.ownBlock):ZOwn w2 B v' (ps++[(s,u)]):=by
 have e:zpVs (ps++[(s,u)])=zpVs ps++zpV (s,u):=by simp [zpVs]
 refine⟨by rw [e];simpa using ho,fun i p hp=>?_,fun i j p q hp hq hne g hg1=>?_⟩
 ·rcases snoc_cases hp with⟨_,hp'⟩|⟨_,rfl⟩
  ·have:=h.inner i p hp';exact own_besideZ this hg (own_kindsZ this h.outer (by decide))
  ·exact own_besideZ hu hg (own_kindsZ hu h.outer (by decide))
 ·rcases snoc_cases hp with⟨hi,hp'⟩|⟨hi,rfl⟩<;>rcases snoc_cases hq with⟨hj,hq'⟩|⟨hj,rfl⟩
  ·exact h.apart i j p q hp' hq' hne g hg1
  ·exact ha p (List.mem_of_getElem? hp') g hg1
  ·intro e;exact ha q (List.mem_of_getElem? hq') g e hg1
  ·omega
theorem ZOwn.more{w w1:World}{B g cap:Nat}{u u':Value}{s:Sz}{d:ByteArray}{ps:List Zp}(h:ZOwn w B (.slice (some ⟨g,0,none⟩) (ps.length+1) cap) (ps++[(s,u)]))
 (ho:w1.ownsRow B 9 1 u' (s.da.length+1) (s.da.map Value.string++[.string d])) (hg:w.grownBy w1 u.ownBlock) (hat:u'.ownBlock=u.ownBlock∨∀ g,u'.ownBlock=some g->w.heap.size<=g):
 ZOwn (w1.setCell ⟨g,ps.length*4+3,none⟩ u') B (.slice (some ⟨g,0,none⟩) (ps.length+1) cap) (ps++[({s with da:=s.da++[d]},u')]):=by
 have hlast:(ps++[(s,u)])[ps.length]? =some (s,u):=by simp
 have hiL:=h.inner _ _ hlast
 have o1:w1.ownsRow B 58 4 (.slice (some ⟨g,0,none⟩) (ps.length+1) cap) (ps.length+1) (zpVs (ps++[(s,u)])):=by
  have:=h.outer;rw [List.length_append] at this;exact own_besideZ this hg (own_kindsZ this hiL (by decide))
 have hlt:∀ (i:Nat) (p:Zp),ps[i]? =some p->(ps++[(s,u)])[i]? =some p:=fun i p hp=>by rw [List.getElem?_append_left (List.getElem?_eq_some_iff.1 hp).1];exact hp
 have hin:∀ (i:Nat) (p:Zp),ps[i]? =some p->w1.ownsRow B 9 1 p.2 p.1.da.length (p.1.da.map Value.string):=by
  intro i p hp;have hpl:=(List.getElem?_eq_some_iff.1 hp).1;exact own_besideZ (h.inner i p (hlt i p hp)) hg (fun g' e e'=>h.apart i ps.length p (s,u) (hlt i p hp) hlast (by omega) g' e' e)
 have hapL:∀ (i:Nat) (p:Zp),ps[i]? =some p->∀ g,p.2.ownBlock=some g->u'.ownBlock≠some g:=by
  intro i p hp g' e e';have hpl:=(List.getElem?_eq_some_iff.1 hp).1
  rcases hat with h1|h1
  ·rw [h1] at e';exact h.apart i ps.length p (s,u) (hlt i p hp) hlast (by omega) g' e e'
  ·have h2:=h1 g' e';have h3:=((h.inner i p (hlt i p hp)).lt g' e).2;omega
 have e1:(zpVs (ps++[(s,u)])).set (ps.length*4+3) u'=zpVs (ps++[({s with da:=s.da++[d]},u')]):=by
  rw [zpVs_app,zpVs_app,List.set_append_right _ _ (by rw [zpVs_len];omega),zpVs_len,show ps.length*4+3-ps.length*4=3 by omega];rfl
 have hst:=o1.stored (ps.length*4+3) u';rw [e1] at hst;have far:∀ {v:Value} {n:Nat} {xs:List Value},w1.ownsRow B 9 1 v n xs->(w1.setCell ⟨g,ps.length*4+3,none⟩ u').ownsRow B 9 1 v n xs:=fun hx=>own_far hx (own_kindsZ hx o1 (by decide) g rfl)
 refine⟨by simpa using hst.1,fun i p hp=>?_,fun i j p q hp hq hne g' hg1=>?_⟩
 ·rcases snoc_cases hp with⟨_,hp'⟩|⟨_,rfl⟩
  ·exact far (hin i p hp')
  ·have:=far ho;simpa using this
 ·rcases snoc_cases hp with⟨hi,hp'⟩|⟨hi,rfl⟩<;>rcases snoc_cases hq with⟨hj,hq'⟩|⟨hj,rfl⟩
  ·exact h.apart i j p q (hlt i p hp') (hlt j q hq') hne g' hg1
  ·exact hapL i p hp' g' hg1
  ·intro e;exact hapL j q hq' g' e hg1
  ·omega
end Go.Proofs.YtcihkbojmbfmmaaGreatDoor
namespace Go.Proofs.YtcihkbojmbfmmaaGreatDoor
open Go.RowKit Go.Shelf
set_option linter.unusedVariables false
attribute [local go_sem] Oper.semAt_some
def Zst(B:Nat)(apex:ByteArray)(Zb Rb:Nat)(W:World)(ss:List Sz):Prop:=
 ∃ v ps,Blk W Zb #[.string apex,v] 31∧Blk W Rb #[.string ⟨#[]⟩,.slice none 0 0] 31∧ps.map (·.1)=ss∧ZOwn W B v ps
theorem own_nonc{W:World}{B e s n r:Nat}{v:Value}{xs:List Value}(h:W.ownsRow B e s v n xs)(hr:∃ o:Obj,W.heap[r]? =some o∧o.isCells=false):v.ownBlock≠some r:=by
 intro he
 rcases h.2 with⟨rfl,_⟩|⟨g,cap,cur,rfl,_,hh,_⟩
 ·cases he
 ·simp only [Value.ownBlock,Option.some.injEq] at he;subst he;obtain⟨o,h1,h2⟩:=hr;rw [hh] at h1;cases h1
  cases h2
theorem blk_nonc{W:World}{b r:Nat}{cs:Array Value}{T:TypeId}(h:Blk W b cs T)(hr:∃ o:Obj,W.heap[r]? =some o∧o.isCells=false):b≠r:=by
 intro he;subst he;obtain⟨o,h1,h2⟩:=hr;rw [Blk] at h;rw [h] at h1;cases h1
 cases h2
theorem grown_setC(W:World)(b i:Nat)(v:Value):W.grownBy (W.setCell ⟨b,i,none⟩ v) (some b):=
 ⟨rfl,rfl,rfl,(KeepsWalks.setCell W _ v).size,fun k _ hk=>Below.heap_setCell _ _ _ k (fun e=>hk (by rw [e]))⟩
theorem zst_own{β:Type}(B:Nat)(apex:ByteArray)(Zb Rb:Nat)(f:β->List Sz):Own (fun s W=>Zst B apex Zb Rb W (f s)):=by
 rintro s X Y row ⟨v,ps,h1,h2,h3,h4⟩ hg hrow;refine⟨v,ps,blk_grown h1 hg (fun e=>blk_nonc h1 (hrow Zb e) rfl),blk_grown h2 hg (fun e=>blk_nonc h2 (hrow Rb e) rfl),h3,h4.beside hg (fun g e=>own_nonc h4.outer (hrow g e)) (fun g e p hp=>?_)⟩;obtain⟨i,hi⟩:=List.getElem?_of_mem hp;exact own_nonc (h4.inner i p hi) (hrow g e)
theorem zst_below{B:Nat}{apex:ByteArray}{Zb Rb:Nat}{W W':World}{ss:List Sz}(h:Zst B apex Zb Rb W ss)(hb:Below W.heap.size W W'):Zst B apex Zb Rb W' ss:=by
 obtain⟨v,ps,h1,h2,h3,h4⟩:=h;exact⟨v,ps,blk_below h1 hb,blk_below h2 hb,h3,h4.below hb⟩
theorem keeps_below{W W':World}(h:Below W.heap.size W W'):KeepsOthers W W':=⟨h.size,fun k o hk _=>(h.block k (Array.getElem?_eq_some_iff.1 hk).1).trans hk⟩
theorem zst_more{B:Nat}{apex:ByteArray}{Zb Rb:Nat}{W w1:World}{tmp:Obj}{v v' u:Value}{ps:List Zp}{s:Sz}(h1:Blk W Zb #[.string apex,v] 31)(h2:Blk W Rb #[.string ⟨#[]⟩,.slice none 0 0] 31)(h4:ZOwn W B v ps)(hB:B<=Zb)(hBW:B<=W.heap.size)(hne:Zb≠Rb)
 (hu:W.ownsRow B 9 1 u s.da.length (s.da.map Value.string)) (ha:∀ p∈ps,∀ g,p.2.ownBlock=some g->u.ownBlock≠some g)
 (ho:w1.ownsRow B 58 4 v' (ps.length+1) (zpVs ps++zpV (s,u))) (hg:(W.alloc tmp).grownBy w1 v.ownBlock):
 Blk w1 Zb #[.string apex,v] 31∧Zst B apex Zb Rb (w1.setCell ⟨Zb,1,none⟩ v') (ps.map (·.1)++[s])∧KeepsOthers W (w1.setCell ⟨Zb,1,none⟩ v')∧Below B W (w1.setCell ⟨Zb,1,none⟩ v')∧∀ b cs T,Blk W b cs T->58≠T->b≠Zb->Blk (w1.setCell ⟨Zb,1,none⟩ v') b cs T:=by
 have ha1:Below W.heap.size W (W.alloc tmp):=(Below.refl _ W).alloc (Nat.le_refl _) tmp;have h1':=blk_below h1 ha1;have h2':=blk_below h2 ha1;have h4':=h4.below ha1;have hu':=own_below hu ha1;have k1:Blk w1 Zb #[.string apex,v] 31:=blk_grown h1' hg (fun e=>own_nb h4'.outer h1' (by decide) e);have k2:Blk w1 Rb #[.string ⟨#[]⟩,.slice none 0 0] 31:=blk_grown h2' hg (fun e=>own_nb h4'.outer h2' (by decide) e);have z:=h4'.snoc hu' ha ho hg;have e1:=blk_set k1 1 v';simp only [List.setIfInBounds_toArray,List.set_cons_zero,List.set_cons_succ] at e1;have hgs:=grown_setC w1 Zb 1 v';refine⟨k1,⟨v',ps++[(s,u)],e1,blk_grown k2 hgs (fun e=>by cases e;exact hne rfl),by simp,?_⟩,?_,?_,fun b cs T hb hT hbz=>?_⟩
 ·refine z.beside hgs (fun g e=>by cases e;exact own_nb z.outer k1 (by decide)) (fun g e p hp=>?_);cases e
  obtain⟨i,hi⟩:=List.getElem?_of_mem hp;exact own_nb (z.inner i p hi) k1 (by decide)
 ·refine((KeepsOthers.alloc W tmp).trans (KeepsOthers.of_grownBy hg fun j o ej hj=>?_)).trans (KeepsOthers.of_grownBy hgs fun j o ej hj=>?_)
  ·cases ho:o.isCells with
   |true=>rfl
   |false=>exact absurd ej (own_nonc h4'.outer ⟨o,hj,ho⟩)
  ·cases ho:o.isCells with
   |true=>rfl
   |false=>cases ej;exact absurd rfl (blk_nonc k1 ⟨o,hj,ho⟩)
 ·refine((((Below.refl B W).alloc hBW tmp).grown hg (by simp;omega) fun j ej=>?_)).setCell (p:=⟨Zb,1,none⟩) hB v';exact(h4'.outer.lt j ej).1
 ·exact blk_grown (blk_grown (blk_below hb ha1) hg (fun e=>own_nb h4'.outer (blk_below hb ha1) hT e)) hgs (fun e=>by cases e;exact hbz rfl)
def slA:Value->Option Addr
 |.slice a _ _=>a
 |_=>none
def slN:Value->Nat
 |.slice _ n _=>n
 |_=>0
def slC:Value->Nat
 |.slice _ _ c=>c
 |_=>0
theorem sl_eq{w:World}{v:Value}{l:List ByteArray}(h:Nm.SRow w v l):v=.slice (slA v) (slN v) (slC v):=by
 obtain⟨a,cap,rfl,_⟩:=h;rfl
theorem zoneT_snoc(os:List GOw)(o:GOw):zoneT (os++[o])=zoneT os++o.ss.map fun s=>szT (o,s):=by
 simp [zoneT,grT]
theorem zoneT_len:∀ (os:List GOw),(∀ o∈os,o.ss.length<=400000)->(zoneT os).length<=os.length*400000:=by
 refine snoc_ind ?_ ?_
 ·intro _;simp [zoneT,grT]
 ·intro l o ih h;rw [zoneT_snoc];have h1:=ih (fun q hq=>h q (by simp [hq]));have h2:=h o (by simp);simp only [List.length_append,List.length_map,List.length_singleton];omega
set_option maxRecDepth 100000 in
set_option maxHeartbeats 4000000 in
theorem zone_in(F:Fence)(n:Nat)(h1:F.fn 60)(h2:F.fn 93)(h3:F.fn 94)(h4:F.fn 124)(h5:F.fn 95)(h6:F.fn 125)(h7:F.fn 96)(hro:F.round=none)(hn:9<=n)
 (bb oo th:Nat) (rv:Value) (os:List GOw) (B:Nat) (apex:ByteArray) (w:World) (h:TrAt w B th rv os) (hd:TrS os) (hl:os.length<=400000) (hLab:LabAt w (fpT th rv os) os) (hc:w.cell? ⟨bb,oo+1,none⟩=some (ptr th))
 (hcl:∀ m W,CallsIn F m Tryz.prog 93 #[.string apex] W fun e w'=>e=.returned (.string apex)∧Below W.heap.size W w')
 (hset:∀ (o:GOw) (s:GSe) (m:Nat) (W:World),o∈os->s∈o.ss->Below w.heap.size w W->CallsIn F m Tryz.prog 96 #[ptr o.blk,.int .i64 s.ty] W fun e w'=>∃ v,e=.returned (.tuple #[.agg #[.string o.nm,.int .i64 s.ty,.int .i64 s.tt,v],.bool true])∧w'.ownsRow W.heap.size 9 1 v s.da.length (s.da.map fun p=>.string p.2)∧Below W.heap.size W w'):
 CallsIn F n Tryz.prog 60 #[.pointer (some ⟨bb,oo,none⟩),.string apex] w fun e W'=>∃ v ps,e=.returned (.agg #[.string apex,v])∧ps.map (·.1)=zoneT os∧ZOwn W' w.heap.size v ps∧Below w.heap.size w W':=by
 obtain⟨i0,hi,hz0,hz1,hz2⟩:=info_parts Tryz.infoSet;refine callsIn_of_wp_marks Tryz.func60 rfl h1 ?_ hro;simp only [Tryz.ntmps60,List.size_toArray,List.length_cons,List.length_nil,Nat.reduceAdd,Nat.reduceSub,Array.replicate_succ,Array.replicate_zero,List.push_toArray,List.append_toArray,List.nil_append,List.cons_append];have kR:=blk_new w #[.string ⟨#[]⟩,.slice none 0 0] 31;have b0:=(Below.refl w.heap.size w).alloc (Nat.le_refl _) (.cells #[.string ⟨#[]⟩,.slice none 0 0] 31);have hth:th<w.heap.size:=blk_lt h.head;have n1:1<=n:=by omega
 have hbb:bb<w.heap.size:=World.block_lt_of_cell? w _ hc;unfold ptr at hc hset;have HX:=Nm.hide (And.intro h (And.intro hd (And.intro hLab hset)));clear h hd hLab hset
 gi_wp2_with (
  gi_at_call 93
  refine(hcl _ _).mono ?_;rintro e w1 ⟨rfl,b1⟩;have b1':=Nm.below_two b0 b1;have hw1s:Hid (w.heap.size+1<=w1.heap.size):=by have:=b1.size;rw [World.size_alloc] at this;exact this
  have kR1:=blk_below kR b1;have c1:=(b1'.cell (p:=⟨bb,oo+1,none⟩) hbb).trans hc;clear kR b0 b1;have kR2:=blk_alloc kR1 (.cells #[.string apex,.slice none 0 0] 31);have kZ2:=blk_new w1 #[.string apex,.slice none 0 0] 31;have b2:=b1'.alloc b1'.size (.cells #[.string apex,.slice none 0 0] 31)
  have c2:=(b2.cell (p:=⟨bb,oo+1,none⟩) hbb).trans hc)
 refine(allL_in F (n-1) h3 hro _ _).mono ?_;rintro e w3 ⟨rfl,rfl⟩
 gi_wp2
 have kR3:=blk_alloc kR2 (.cells #[.pointer (some ⟨th,0,none⟩)] 92);have kZ3:=blk_alloc kZ2 (.cells #[.pointer (some ⟨th,0,none⟩)] 92);have kT3:=blk_new (w1.alloc (.cells #[.string apex,.slice none 0 0] 31)) #[.pointer (some ⟨th,0,none⟩)] 92;have b3:=b2.alloc b2.size (.cells #[.pointer (some ⟨th,0,none⟩)] 92);rw [World.size_alloc] at kT3;obtain⟨W0,hW0⟩:∃ W0,(w1.alloc (.cells #[.string apex,.slice none 0 0] 31)).alloc (.cells #[.pointer (some ⟨th,0,none⟩)] 92)=W0:=⟨_,rfl⟩;have hsz:W0.heap.size=w1.heap.size+2:=by rw [<- hW0];simp
 have hw1:=b1'.size;rw [hW0] at kR3 kZ3 kT3 b3 ⊢;clear hW0 kR2 kZ2 b2 c2 c1 kR1;have hza:os.attach.length=os.length:=List.length_attach
 have hR0:RwsL (fun x:{o:GOw // o∈os}=>slA x.1.lv) (fun x=>slN x.1.lv) (fun x=>slC x.1.lv) (fun x=>⟨x.1.blk,0,none⟩) w.heap.size w rv os.attach:=by
  refine rwsL_own _ _ _ _ (B:=B) (e:=178) _ ?_;have hr:=HX.out.1.rows
  have e1:(os.attach.map fun x:{o:GOw // o∈os}=>((Value.slice (slA x.1.lv) (slN x.1.lv) (slC x.1.lv)),(Value.pointer (some (⟨x.1.blk,0,none⟩:Addr)))))=owRs os:=by
   rw [owRs]
   conv=>rhs;rw [<- List.attach_map_subtype_val os]
   rw [List.map_map];refine List.map_congr_left (fun x _=>?_);simp only [Function.comp,ptr];rw [<- sl_eq (HX.out.2.2.1 x.1 x.2).row]
  rw [e1];rw [show(owRs os).length=os.attach.length by simp [owRs]] at hr;exact hr
 have kh3:W0.cell? ⟨th,1,none⟩=some rv:=(b3.cell (p:=⟨th,1,none⟩) hth).trans ((blk_cell HX.out.1.head 1).trans rfl)
 refine wpIn_rangeFunc_ownH hro n1 (gf:=124) (lb:=#[.pointer (some ⟨w1.heap.size+1,0,none⟩)]) rfl h4 (enters_of Tryz.func124 (by kernel_rfl) rfl)
  (allStopsL (fun x:{o:GOw // o∈os}=>slA x.1.lv) (fun x=>slN x.1.lv) (fun x=>slC x.1.lv) (fun x=>⟨x.1.blk,0,none⟩) F (n-1) h4 hro (by omega) (w1.heap.size+1) th w.heap.size rv os.attach (by omega) W0 (by omega) hth (by omega) ((blk_cell kT3 0).trans rfl) kh3 (hR0.below b3)) belowK_t (belowK_b (by omega)) (Below.refl _ _) (fun _=>rfl)
  (fun pre W=>Zst w.heap.size apex w1.heap.size w.heap.size W (zoneT (pre.map (·.1)))∧(Below w.heap.size w W∧w1.heap.size+2<=W.heap.size))
  (fun _ _ _=>False)
  (OwnFrom.and (Own.from (zst_own _ _ _ _ (fun pre:List {o:GOw // o∈os}=>zoneT (pre.map (·.1)))) _) (OwnFrom.and (ownFrom_below (Nat.le_refl _) (by omega)) (fun _ _ _ _ hs hg _=>Nat.le_trans hs hg.size)))
  (fun _ _ _ _ _ hs _ _=>hs)
  ⟨⟨.slice none 0 0,[],kZ3,kR3,rfl,ZOwn.nil _ _⟩,b3,by omega⟩
  (fun x a' W=>∃ Bx,w1.heap.size+1<Bx∧Blk W Bx #[.pointer (some ⟨x.1.blk,0,none⟩)] 135∧a'={tmps:=#[.pointer (some ⟨bb,oo,none⟩),.string apex,undef,undef,.pointer (some ⟨w.heap.size,0,none⟩),.pointer (some ⟨w1.heap.size,0,none⟩),undef,.pointer (some ⟨Bx,0,none⟩),undef,undef,undef,.string apex,.string apex,.agg #[.string apex,.slice none 0 0],.pointer (some ⟨bb,oo,none⟩),.pointer (some ⟨bb,oo,none⟩),.pointer (some ⟨bb,oo+1,none⟩),.pointer (some ⟨th,0,none⟩),.func (.func 124) #[] #[.pointer (some ⟨w1.heap.size+1,0,none⟩)],.slice (slA x.1.lv) (slN x.1.lv) (slC x.1.lv),.pointer (some ⟨x.1.blk,0,none⟩),undef,undef,undef,undef,undef,undef,undef,undef,undef,undef,undef,undef,undef,undef,undef,undef,undef,undef,undef,undef],defers:=[]})
  (fun x a' _ X Y row hs hg hr=>by obtain⟨Bx,h1,h2,h3⟩:=hs;exact⟨Bx,h1,blk_grown h2 hg (fun e=>blk_nonc h2 (hr Bx e).2 rfl),h3⟩)
  ?assign ?body ?done ?stop
 case assign=>
  rintro l pre x W K ⟨hz1,hB1,hs1⟩ hK;have HS:=Nm.hide hs1;clear hs1
  gi_wp2
  exact hK _ _ ((KeepsOthers.alloc _ _).from _) ((Below.refl _ W).alloc hB1.size _) ⟨zst_below hz1 ((Below.refl _ W).alloc (Nat.le_refl _) _),hB1.alloc hB1.size _,by have:=HS.out;simp;omega⟩ ⟨W.heap.size,by have:=HS.out;omega,blk_new W _ _,rfl⟩
 case body=>
  rintro l pre x a' W hl2 ⟨r,hr⟩ ⟨hzs,hB1,hs1⟩ ⟨Bx,hBx,bX,rfl⟩ hlt;have ow:=HX.out.1.owners x.1 x.2;have hxd:=HX.out.2.1.2 x.1 x.2;have cX:=(blk_cell bX 0).trans rfl;have cN:W.cell? ⟨x.1.blk,2,none⟩=some (.pointer (some ⟨x.1.hd,0,none⟩)):=(hB1.cell (p:=⟨x.1.blk,2,none⟩) (blk_lt ow.node)).trans ((blk_cell ow.node 2).trans rfl);have n2:1<=n-1-1:=by omega
  have HS:=Nm.hide (And.intro hs1 (And.intro hl2 (And.intro hlt hBx)));clear hs1 hl2 hlt hBx
  gi_wp2_with (gi_at_call 95;refine(CallsIn.inRound l (allI_in F (n-1-1-1) h5 hro _ _)).mono ?_;rintro e w' ⟨rfl,rfl⟩)
  have hsW:=hB1.size;have hrl:=(Array.getElem?_eq_some_iff.1 hr).1;have bA:=(Below.refl w.heap.size W).alloc hsW (.cells #[.pointer (some ⟨x.1.hd,0,none⟩)] 138);have bA':=(Below.refl W.heap.size W).alloc (Nat.le_refl _) (.cells #[.pointer (some ⟨x.1.hd,0,none⟩)] 138);have kN:=blk_new W #[.pointer (some ⟨x.1.hd,0,none⟩)] 138;have hr':(W.alloc (.cells #[.pointer (some ⟨x.1.hd,0,none⟩)] 138)).heap[l]? =some (.loop r):=(Below.heap_alloc W _ l hrl).trans hr;have hzb:x.1.ss.attach.length=x.1.ss.length:=List.length_attach
  have hR1:RwsI (fun s:{s:GSe // s∈x.1.ss}=>s.1.ty) (fun s=>⟨s.1.blk,0,none⟩) w.heap.size w x.1.rv x.1.ss.attach:=by
   refine rwsI_own _ _ (B:=B) (e:=185) _ ?_;have hr:=ow.rows
   have e1:(x.1.ss.attach.map fun s:{s:GSe // s∈x.1.ss}=>((Value.int .i64 s.1.ty),(Value.pointer (some (⟨s.1.blk,0,none⟩:Addr)))))=seRs x.1.ss:=by
    rw [seRs]
    conv=>rhs;rw [<- List.attach_map_subtype_val x.1.ss]
    rw [List.map_map];rfl
   rw [e1];rw [show(seRs x.1.ss).length=x.1.ss.attach.length by simp [seRs]] at hr;exact hr
  have hB2:=hB1.trans bA;have khI:(W.alloc (.cells #[.pointer (some ⟨x.1.hd,0,none⟩)] 138)).cell? ⟨x.1.hd,1,none⟩=some x.1.rv:=(hB2.cell (p:=⟨x.1.hd,1,none⟩) (blk_lt ow.head)).trans ((blk_cell ow.head 1).trans rfl)
  have HL:(zoneT (pre.map (·.1))).length<=160000000000:=by
   have h1:=zoneT_len (pre.map (·.1)) (fun o ho=>by
    obtain⟨y,_,rfl⟩:=List.mem_map.1 ho
    exact(HX.out.2.1.2 y.1 y.2).2.1)
   have:=HS.out.2.2.1;rw [List.length_map] at h1;omega
  refine wpIn_rangeFunc_ownN (l₀:=l) (r₀:=r) rfl hr' n2 (gf:=125) (lb:=#[.pointer (some ⟨W.heap.size,0,none⟩)]) rfl h6 (enters_of Tryz.func125 (by kernel_rfl) rfl)
   ((allStopsI (fun s:{s:GSe // s∈x.1.ss}=>s.1.ty) (fun s=>⟨s.1.blk,0,none⟩) F (n-1-1-1) h6 hro (by omega) W.heap.size x.1.hd w.heap.size x.1.rv x.1.ss.attach (by have:=hxd.2.1;omega) _ (by simp) (blk_lt ow.head) (by simp;omega) ((blk_cell kN 0).trans rfl) khI (hR1.below hB2)).inRound l) belowK_t (belowK_b (by simp;omega)) (Below.refl _ _) (fun _=>rfl)
   (fun pre' W'=>(Zst w.heap.size apex w1.heap.size w.heap.size W' (zoneT (pre.map (·.1))++pre'.map fun s=>szT (x.1,s.1))∧Blk W' Bx #[.pointer (some ⟨x.1.blk,0,none⟩)] 135)∧(Below w.heap.size W W'∧KeepsFrom W0.heap.size W W'))
   (fun _ _ _=>False)
   (OwnFrom.and (OwnFrom.and (Own.from (zst_own _ _ _ _ (fun pre':List {s:GSe // s∈x.1.ss}=>zoneT (pre.map (·.1))++pre'.map fun s=>szT (x.1,s.1))) _) (fun _ X Y row hs hg hr=>blk_grown hs hg (fun e=>blk_nonc hs (hr Bx e).2 rfl))) (OwnFrom.and (ownFrom_below hsW (by simp;omega)) (ownFrom_keepsFrom (by simp))))
   (fun _ _ _ _ _ hs _ _=>hs)
   ⟨⟨by simpa using zst_below hzs bA',blk_below bX bA'⟩,bA,(KeepsOthers.alloc _ _).from _⟩
   (fun s a'' _=>a''={tmps:=#[.pointer (some ⟨bb,oo,none⟩),.string apex,undef,undef,.pointer (some ⟨w.heap.size,0,none⟩),.pointer (some ⟨w1.heap.size,0,none⟩),undef,.pointer (some ⟨Bx,0,none⟩),.int .i64 s.1.ty,undef,undef,.string apex,.string apex,.agg #[.string apex,.slice none 0 0],.pointer (some ⟨bb,oo,none⟩),.pointer (some ⟨bb,oo,none⟩),.pointer (some ⟨bb,oo+1,none⟩),.pointer (some ⟨th,0,none⟩),.func (.func 124) #[] #[.pointer (some ⟨w1.heap.size+1,0,none⟩)],.slice (slA x.1.lv) (slN x.1.lv) (slC x.1.lv),.pointer (some ⟨x.1.blk,0,none⟩),.pointer (some ⟨x.1.blk,0,none⟩),.pointer (some ⟨x.1.blk,0,none⟩),.pointer (some ⟨x.1.blk,2,none⟩),.pointer (some ⟨x.1.hd,0,none⟩),.func (.func 125) #[] #[.pointer (some ⟨W.heap.size,0,none⟩)],.int .i64 s.1.ty,.pointer (some ⟨s.1.blk,0,none⟩),undef,undef,undef,undef,undef,undef,undef,undef,undef,undef,undef,undef,undef],defers:=[]})
   (fun _ _ _ _ _ _ hs _ _=>hs)
   ?assign2 ?body2 ?done2 ?stop2
  case assign2=>
   rintro l2 pre' y W' K hi hK
   gi_wp2
   exact hK _ _ (KeepsFrom.refl _ _) (Below.refl _ _) hi rfl
  case body2=>
   rintro l2 pre' s a'' W' _ _ ⟨⟨hz2,bX2⟩,hBW,hKF⟩ rfl hlt2;obtain⟨v,ps,k1,k2,e3,z4⟩:=hz2;obtain⟨va,vc,rfl⟩:=own_sl z4.outer;have hB3:=hB1.trans hBW;have cX2:=(blk_cell bX2 0).trans rfl;have hst:=HX.out.2.2.2 x.1 s.1 (n-1-1-1-1-1) W' x.2 s.2 hB3
   have hps:ps.length<=160000400000:=by
    have h1:=congrArg List.length e3;simp only [List.length_map,List.length_append] at h1;have:=hxd.2.1;omega
   have HQ:=Nm.hide (And.intro e3 (And.intro hBW (And.intro hKF (And.intro hB3 (And.intro HL hlt2)))));have hsW':=hB3.size;clear e3 hBW hKF hB3 HL hlt2 cX cN hzs bX hr hr' hrl bA bA' kN hR1 hB2 khI hzb hxd ow hB1 hsW;have n3:1<=n-1-1-1-1:=by omega
   gi_wp2_with (first
    |(gi_at_call 96
      refine(CallsIn.inRound l2 (CallsIn.inRound l hst)).mono ?_;rintro e w4 ⟨u,rfl,hu,b4⟩;obtain⟨ua,uc,rfl⟩:=own_sl hu;have b5:=b4.alloc b4.size (.cells #[.string x.1.nm,.int .i64 s.1.ty,.int .i64 s.1.tt,.slice ua s.1.da.length uc] 58);have b6:Below W'.heap.size W' ((w4.alloc (.cells #[.string x.1.nm,.int .i64 s.1.ty,.int .i64 s.1.tt,.slice ua s.1.da.length uc] 58)).alloc (.cells #[.string x.1.nm,.int .i64 s.1.ty,.int .i64 s.1.tt,.slice ua s.1.da.length uc] 58)):=b5.alloc b5.size _;have c5:=(blk_cell (blk_below k1 b5) 1).trans rfl;have z6:=(z4.below b6).outer
      have hu5:(w4.alloc (.cells #[.string x.1.nm,.int .i64 s.1.ty,.int .i64 s.1.tt,.slice ua s.1.da.length uc] 58)).ownsRow w.heap.size 9 1 (.slice ua s.1.da.length uc) (szT (x.1,s.1)).da.length ((szT (x.1,s.1)).da.map Value.string):=by
       have h9:=own_base (own_below hu ((Below.refl _ w4).alloc (Nat.le_refl _) (.cells #[.string x.1.nm,.int .i64 s.1.ty,.int .i64 s.1.tt,.slice ua s.1.da.length uc] 58))) hsW';simpa [szT,List.map_map,Function.comp_def] using h9
      have hap:∀ p∈ps,∀ g,p.2.ownBlock=some g->(Value.slice ua s.1.da.length uc).ownBlock≠some g:=fun p hp g e e'=>by
       obtain⟨i,hi⟩:=List.getElem?_of_mem hp;have h8:=((z4.inner i p hi).lt g e).2;have h9:=(hu.lt g e').1;omega
      have HU:=Nm.hide (And.intro hu5 hap)
      clear hu5 hap hu b4)
    |(gi_at_builtin
      refine wpListIn_append_own _ rfl _ _ 29 rfl w.heap.size 58 i0 (.agg #[.string ByteArray.empty,.int .i64 0,.int .i64 0,.slice none 0 0]) 4 56 Tryz.underlying29 hi hz0 hz1 hz2 rfl (by decide) _ _ _ rfl z6 ⟨w4.heap.size+1,0,none⟩ 1 1 [.string x.1.nm,.int .i64 s.1.ty,.int .i64 s.1.tt,.slice ua s.1.da.length uc] rfl rfl (by have h9:=cell_newV (w4.alloc (.cells #[.string x.1.nm,.int .i64 s.1.ty,.int .i64 s.1.tt,.slice ua s.1.da.length uc] 58)) #[.string x.1.nm,.int .i64 s.1.ty,.int .i64 s.1.tt,.slice ua s.1.da.length uc] 58;rw [World.size_alloc] at h9;exact h9) (by intro u hu;simp at hu;rcases hu with rfl|rfl|rfl|rfl<;>rfl) (by unfold maxLen;omega) (by omega) (by have:=b6.size;omega) ?_;intro v' w7 hown' hgrow _;obtain⟨g',cap',rfl⟩:=ownsRow_succ hown';have zm:=zst_more (apex:=apex) (s:=szT (x.1,s.1)) (blk_below k1 b5) (blk_below k2 b5) (z4.below b5) (by have:=hw1s.out;omega) (by have:=b5.size;omega) (by have:=hw1s.out;omega) HU.out.1 HU.out.2 hown' hgrow;obtain⟨q1,q2,q3,q4,q5⟩:=zm;have c7:=fun i=>blk_cell q1 i
      have f7:=fun i=>blk_frozen q1 i))
   obtain⟨e3,hBW,hKF,hB3,_⟩:=HQ.out;have hKb:=(keeps_below b5).trans q3;have hBb:=(b5.mono hsW').trans q4;refine⟨hKb.from _,hBb,⟨?_,q5 _ _ _ (blk_below bX2 b5) (by decide) (by have:=HS.out.2.2.2;omega)⟩,hBW.trans hBb,hKF.trans (hKb.from _)⟩;rw [e3] at q2;rw [List.map_append,<- List.append_assoc];exact q2
  case done2=>
   rintro ys' W' rfl ⟨⟨hz2,bX2⟩,hBW,hKF⟩;have HS2:=Nm.hide hKF.size
   gi_wp2
   refine⟨hKF,hBW,?_,hB1.trans hBW,by have:=HS2.out;have:=HS.out.1;omega⟩
   have e5:zoneT ((pre++[x]).map (·.1))=zoneT (pre.map (·.1))++x.1.ss.attach.map fun s=>szT (x.1,s.1):=by
    rw [List.map_append,List.map_cons,List.map_nil,zoneT_snoc];congr 1
    conv=>lhs;rw [<- List.attach_map_subtype_val x.1.ss]
    rw [List.map_map];rfl
   rw [e5];exact hz2
  case stop2=>
   rintro c pre' W' _ h;exact h.elim
 case done=>
  rintro D zs W hD rfl ⟨hzs,hB1,hs1⟩ hK;rw [List.attach_map_subtype_val] at hzs;obtain⟨v,ps,k1,k2,e3,z4⟩:=hzs;obtain⟨va,vc,rfl⟩:=own_sl z4.outer;have r1:=fun i=>blk_cell k1 i
  have r2:=fun i=>blk_cell k2 i
  have f2:=fun i=>blk_frozen k2 i
  gi_wp2
  have hDn:D≠w.heap.size:=by omega
  have k5:=blk_set (blk_set k2 0 (.string apex)) 1 (.slice va ps.length vc);simp only [List.setIfInBounds_toArray,List.set_cons_zero,List.set_cons_succ] at k5;have hK5:((W.setCell ⟨w.heap.size,0,none⟩ (.string apex)).setCell ⟨w.heap.size,1,none⟩ (.slice va ps.length vc)).heap[D]? =some (.deferred (some [])):=(heap_setCell_other _ ⟨w.heap.size,1,none⟩ D _ hDn).trans ((heap_setCell_other _ ⟨w.heap.size,0,none⟩ D _ hDn).trans hK);have b5:=(hB1.setCell (p:=⟨w.heap.size,0,none⟩) (Nat.le_refl _) (.string apex)).setCell (p:=⟨w.heap.size,1,none⟩) (Nat.le_refl _) (.slice va ps.length vc)
  have z5:=(z4.beside (grown_setC W w.heap.size 0 (.string apex)) (fun g e=>by cases e;exact own_nb z4.outer k2 (by decide)) (fun g e p hp=>by
   cases e
   obtain⟨i,hi⟩:=List.getElem?_of_mem hp
   exact own_nb (z4.inner i p hi) k2 (by decide)))
  have k2':=blk_set k2 0 (.string apex)
  have z6:=(z5.beside (grown_setC _ w.heap.size 1 (.slice va ps.length vc)) (fun g e=>by cases e;exact own_nb z5.outer k2' (by decide)) (fun g e p hp=>by
   cases e
   obtain⟨i,hi⟩:=List.getElem?_of_mem hp
   exact own_nb (z5.inner i p hi) k2' (by decide)))
  clear r1 r2 f2 k1 k2 k2' z4 z5 hK hB1;generalize (W.setCell ⟨w.heap.size,0,none⟩ (.string apex)).setCell ⟨w.heap.size,1,none⟩ (.slice va ps.length vc)=W5 at*;refine⟨by simp,.inl ⟨_,_,rfl,run_takeDeferred hK5,?_⟩⟩;have b6:=b5.trans (belowK_b (w:=w) (Nat.le_refl _) W5 D _ (.deferred none) (by omega) hK5 rfl rfl);have k6:Blk (W5.putObj D (.deferred none)) w.heap.size _ _:=blk_grown k5 (grownBy_putObj' W5 D _) (fun e=>by cases e;exact hDn rfl)
  have z7:ZOwn (W5.putObj D (.deferred none)) w.heap.size (.slice va ps.length vc) ps:=z6.beside (grownBy_putObj' W5 D _) (fun g e=>by cases e;exact own_nonc z6.outer ⟨_,hK5,rfl⟩) (fun g e p hp=>by
   cases e
   obtain⟨i,hi⟩:=List.getElem?_of_mem hp
   exact own_nonc (z6.inner i p hi) ⟨_,hK5,rfl⟩)
  refine⟨.agg #[.string apex,.slice va ps.length vc],?_,_,ps,rfl,e3,z7,b6⟩;have r:=fun i=>blk_cell k6 i
  simp [results,Tryz.results60,go_sem,Result.andThen,r]
 case stop=>
  rintro D c pre W _ _ h _;exact h.elim
theorem zone_any(bb oo th:Nat)(rv:Value)(os:List GOw)(B:Nat)(apex:ByteArray)(w:World)(h:TrAt w B th rv os)(hd:TrS os)(hl:os.length<=400000)(hLab:LabAt w (fpT th rv os) os)(hc:w.cell? ⟨bb,oo+1,none⟩=some (ptr th))(ha:apex.size<=1000000000):
 Calls Tryz.prog 60 #[.pointer (some ⟨bb,oo,none⟩),.string apex] w fun e W'=>∃ v ps,e=.returned (.agg #[.string apex,v])∧ps.map (·.1)=zoneT os∧ZOwn W' w.heap.size v ps∧Below w.heap.size w W':=
 (callsIn_wide (n:=9)).1 (zone_in Fence.wide 9 trivial trivial trivial trivial trivial trivial trivial rfl (by omega) bb oo th rv os B apex w h hd hl hLab hc
  (fun m W=>callsIn_wide.2 (clone_any apex W ha))
  (fun o s m W ho hs hW=>callsIn_wide.2 (ownerSet_any o s B W ((h.owners o ho).below hW) (by have:=(hd.2 o ho).2.1;omega) (hd.2 o ho).1 hs (by have:=((hd.2 o ho).2.2 s hs).2;omega))))
end Go.Proofs.YtcihkbojmbfmmaaGreatDoor
namespace Go.Proofs.YtcihkbojmbfmmaaGreatDoor
open Go.RowKit Go.Shelf
set_option linter.unusedVariables false
attribute [local go_sem] Oper.semAt_some
theorem infoOwP:(Tryz.prog.info? 135).map (fun i=>(i.zero,i.size,i.bytes))=some (some (.pointer none),1,8):=by kernel_rfl
def tailV:Option GOw->Value
 |none=>.slice none 0 0
 |some q=>.slice (slA q.lv) (slN q.lv) (slC q.lv)
theorem belK_mem:∀ (pre:List GOw) (q:GOw),(belK pre).1=some q->q∈pre:=by
 refine snoc_ind ?_ ?_
 ·intro q h;simp [belK] at h
 ·intro l o ih q h;rw [belK_snoc,belStep] at h
  cases ht:(belK l).1 with
  |none=>
   rw [ht] at h;simp only at h
   split at h
   ·simp at h;simp [h]
   ·simp at h
  |some t=>
   rw [ht] at h;have:=ih t ht;simp only at h
   split at h
   ·simp at h;rw [<- h];simp [this]
   ·split at h
    ·simp at h;simp [h]
    ·simp at h;rw [<- h];simp [this]
theorem belK_len:∀ (pre:List GOw),(belK pre).2.length<=pre.length:=by
 refine snoc_ind ?_ ?_
 ·simp [belK]
 ·intro l o ih;rw [belK_snoc,belStep,List.length_append,List.length_singleton]
  cases (belK l).1 with
  |none=>
   simp only
   split
   ·simp;omega
   ·simp;omega
  |some t=>
   simp only
   split
   ·simp;omega
   ·split
    ·simp;omega
    ·simp;omega
set_option maxRecDepth 100000 in
set_option maxHeartbeats 4000000 in
theorem belowTails_in(F:Fence)(n:Nat)(h1:F.fn 120)(h2:F.fn 138)(h3:F.fn 94)(h4:F.fn 124)(h5:F.fn 119)(hro:F.round=none)(hn:6<=n)
 (bb oo th:Nat) (rv:Value) (os:List GOw) (B:Nat) (w:World) (h:TrAt w B th rv os) (hl:os.length<=400000) (hLab:LabAt w (fpT th rv os) os) (hc:w.cell? ⟨bb,oo+1,none⟩=some (ptr th))
 (hun:∀ (o q:GOw) (m:Nat) (W:World),o∈os->q∈os->Below w.heap.size w W->CallsIn F m Tryz.prog 138 #[.slice (slA o.lv) (slN o.lv) (slC o.lv),.slice (slA q.lv) (slN q.lv) (slC q.lv)] W fun e w'=>e=.returned (.bool (underB o.lab q.lab))∧Below W.heap.size W w')
 (hhas:∀ (o:GOw) (m:Nat) (W:World),o∈os->Below w.heap.size w W->CallsIn F m Tryz.prog 119 #[.pointer (some ⟨o.blk,0,none⟩),.int .i64 39] W fun e w'=>e=.returned (.bool (has39 o))∧Below W.heap.size W w'):
 CallsIn F n Tryz.prog 120 #[.pointer (some ⟨bb,oo,none⟩)] w fun e W'=>∃ v,e=.returned v∧W'.ownsRow w.heap.size 135 1 v (belK os).2.length ((belK os).2.map fun o=>ptr o.blk)∧Below w.heap.size w W':=by
 have n1:1<=n:=by omega
 obtain⟨i0,hi,hz0,hz1,hz2⟩:=info_parts infoOwP;have hth:th<w.heap.size:=blk_lt h.head;have hbb:bb<w.heap.size:=World.block_lt_of_cell? w _ hc;unfold ptr at hc;have HX:=Nm.hide (And.intro h (And.intro hLab (And.intro hun hhas)));clear h hLab hun hhas;have c3:(((w.alloc (.cells #[.slice none 0 0] 170)).alloc (.cells #[.slice none 0 0] 91)).alloc (.cells #[.bool false] 4)).cell? ⟨bb,oo+1,none⟩=some (.pointer (some ⟨th,0,none⟩)):=((((Below.refl w.heap.size w).alloc (Nat.le_refl _) _).alloc (by simp) _).alloc (by simp;omega) _).cell (p:=⟨bb,oo+1,none⟩) hbb|>.trans hc
 refine callsIn_of_wp_marks Tryz.func120 rfl h1 ?_ hro;simp only [Tryz.ntmps120,List.size_toArray,List.length_cons,List.length_nil,Nat.reduceAdd,Nat.reduceSub,Array.replicate_succ,Array.replicate_zero,List.push_toArray,List.append_toArray,List.nil_append,List.cons_append]
 gi_wp2_with (gi_at_call 94;refine(allL_in F (n-1) h3 hro _ _).mono ?_;rintro e w' ⟨rfl,rfl⟩)
 have bO:=((Boxed.new w 170 (.slice none 0 0)).alloc (.cells #[.slice none 0 0] 91)).alloc (.cells #[.bool false] 4);have bT:=(Boxed.new (w.alloc (.cells #[.slice none 0 0] 170)) 91 (.slice none 0 0)).alloc (.cells #[.bool false] 4);have bF:=Boxed.new ((w.alloc (.cells #[.slice none 0 0] 170)).alloc (.cells #[.slice none 0 0] 91)) 4 (.bool false);have bI:=Boxed.new (((w.alloc (.cells #[.slice none 0 0] 170)).alloc (.cells #[.slice none 0 0] 91)).alloc (.cells #[.bool false] 4)) 92 (.pointer (some ⟨th,0,none⟩));have bO:=bO.alloc (.cells #[.pointer (some ⟨th,0,none⟩)] 92);have bT:=bT.alloc (.cells #[.pointer (some ⟨th,0,none⟩)] 92);have bF:=bF.alloc (.cells #[.pointer (some ⟨th,0,none⟩)] 92);simp only [World.size_alloc] at bT bF bI;have b3:Below w.heap.size w ((((w.alloc (.cells #[.slice none 0 0] 170)).alloc (.cells #[.slice none 0 0] 91)).alloc (.cells #[.bool false] 4)).alloc (.cells #[.pointer (some ⟨th,0,none⟩)] 92)):=((((Below.refl w.heap.size w).alloc (Nat.le_refl _) _).alloc (by simp) _).alloc (by simp;omega) _).alloc (by simp;omega) _;have hsz:((((w.alloc (.cells #[.slice none 0 0] 170)).alloc (.cells #[.slice none 0 0] 91)).alloc (.cells #[.bool false] 4)).alloc (.cells #[.pointer (some ⟨th,0,none⟩)] 92)).heap.size=w.heap.size+4:=by simp
 obtain⟨W0,hW0⟩:∃ W0,(((w.alloc (.cells #[.slice none 0 0] 170)).alloc (.cells #[.slice none 0 0] 91)).alloc (.cells #[.bool false] 4)).alloc (.cells #[.pointer (some ⟨th,0,none⟩)] 92)=W0:=⟨_,rfl⟩;rw [hW0] at bO bT bF bI b3 hsz ⊢;clear hW0 c3;have hza:os.attach.length=os.length:=List.length_attach
 have hR0:RwsL (fun x:{o:GOw // o∈os}=>slA x.1.lv) (fun x=>slN x.1.lv) (fun x=>slC x.1.lv) (fun x=>⟨x.1.blk,0,none⟩) w.heap.size w rv os.attach:=by
  refine rwsL_own _ _ _ _ (B:=B) (e:=178) _ ?_;have hr:=HX.out.1.rows
  have e1:(os.attach.map fun x:{o:GOw // o∈os}=>((Value.slice (slA x.1.lv) (slN x.1.lv) (slC x.1.lv)),(Value.pointer (some (⟨x.1.blk,0,none⟩:Addr)))))=owRs os:=by
   rw [owRs]
   conv=>rhs;rw [<- List.attach_map_subtype_val os]
   rw [List.map_map];refine List.map_congr_left (fun x _=>?_);simp only [Function.comp,ptr];rw [<- sl_eq (HX.out.2.1 x.1 x.2).row]
  rw [e1];rw [show(owRs os).length=os.attach.length by simp [owRs]] at hr;exact hr
 have kh3:W0.cell? ⟨th,1,none⟩=some rv:=(b3.cell (p:=⟨th,1,none⟩) hth).trans ((blk_cell HX.out.1.head 1).trans rfl)
 refine wpIn_rangeFunc_ownG hro n1 (gf:=124) (lb:=#[.pointer (some ⟨w.heap.size+1+1+1,0,none⟩)]) rfl h4 (enters_of Tryz.func124 (by kernel_rfl) rfl)
  (allStopsL (fun x:{o:GOw // o∈os}=>slA x.1.lv) (fun x=>slN x.1.lv) (fun x=>slC x.1.lv) (fun x=>⟨x.1.blk,0,none⟩) F (n-1) h4 hro (by omega) (w.heap.size+1+1+1) th w.heap.size rv os.attach (by omega) W0 (by omega) hth (by omega) bI.cell kh3 (hR0.below b3)) belowK_t (belowK_b (by omega)) (Below.refl _ _) (fun _=>rfl)
  (fun pre W=>((∃ v,Boxed W w.heap.size 170 v∧W.ownsRow w.heap.size 135 1 v (belK (pre.map (·.1))).2.length ((belK (pre.map (·.1))).2.map fun o=>ptr o.blk)∧True)∧(Boxed W (w.heap.size+1) 91 (tailV (belK (pre.map (·.1))).1)∧Boxed W (w.heap.size+1+1) 4 (.bool (belK (pre.map (·.1))).1.isSome)))∧Below w.heap.size w W)
  (fun _ _ _=>False)
  (OwnFrom.and (OwnFrom.and (Own.from (holdsRow_own w.heap.size w.heap.size 170 135 1 (fun pre:List {o:GOw // o∈os}=>(belK (pre.map (·.1))).2.length) (fun pre=>(belK (pre.map (·.1))).2.map fun o=>ptr o.blk) (fun pre v=>True)) _) (OwnFrom.and (Own.from (boxed_own _ _ (fun pre:List {o:GOw // o∈os}=>tailV (belK (pre.map (·.1))).1)) _) (Own.from (boxed_own _ _ (fun pre:List {o:GOw // o∈os}=>Value.bool (belK (pre.map (·.1))).1.isSome)) _))) (ownFrom_below (Nat.le_refl _) (by omega)))
  (fun _ _ _ _ _ hs _ _=>hs)
  ⟨⟨⟨_,bO,World.ownsRow_nil _ _ _ _,trivial⟩,bT,bF⟩,b3⟩
  (fun x=>{tmps:=#[.pointer (some ⟨bb,oo,none⟩),undef,.slice none 0 0,.pointer (some ⟨w.heap.size,0,none⟩),.pointer (some ⟨w.heap.size+1,0,none⟩),.pointer (some ⟨w.heap.size+1+1,0,none⟩),.slice (slA x.1.lv) (slN x.1.lv) (slC x.1.lv),.pointer (some ⟨x.1.blk,0,none⟩),.pointer (some ⟨bb,oo,none⟩),.pointer (some ⟨bb,oo,none⟩),.pointer (some ⟨bb,oo+1,none⟩),.pointer (some ⟨th,0,none⟩),.func (.func 124) #[] #[.pointer (some ⟨w.heap.size+1+1+1,0,none⟩)],.slice (slA x.1.lv) (slN x.1.lv) (slC x.1.lv),.pointer (some ⟨x.1.blk,0,none⟩),undef,undef,undef,undef,undef,undef,undef,undef,undef,undef,undef,undef,undef,undef,undef,undef],defers:=[]}) ?assign ?body ?done ?stop
 case assign=>
  intro l x W K hK
  gi_wp2
  exact hK
 case body=>
  rintro l pre x W ⟨⟨⟨v,hv,hrow,-⟩,hT,hF⟩,hB⟩ hlt;have eS:belK ((pre++[x]).map (·.1))=belStep (belK (pre.map (·.1))) x.1:=by rw [List.map_append,List.map_cons,List.map_nil,belK_snoc]
  have hln:=belK_len (pre.map (·.1));rw [List.length_map] at hln
  have hmem:∀ q,(belK (pre.map (·.1))).1=some q->q∈os:=fun q hq=>by
   obtain⟨y,_,rfl⟩:=List.mem_map.1 (belK_mem _ q hq);exact y.2
  have n2:1<=n-1-1:=by omega
  have hm:os.attach.length<=maxLen:=by unfold maxLen;omega
  have HE:=Nm.hide eS;clear eS;generalize belK (pre.map (·.1))=ST at hrow hT hF hln hmem HE;obtain⟨t,out⟩:=ST;simp only at hrow hT hF hln hmem
  have HLN:=Nm.hide (And.intro hln hlt);clear hln;have cF:=hF.cell
  cases t with
  |none=>
   simp only [tailV,Option.isSome_none] at hT hF cF;clear hmem
   cases h39:has39 x.1 with
   |true=>
    have hh:=HX.out.2.2.2 x.1 (n-1-1-1) W x.2 hB;rw [h39] at hh;have e9:belK ((pre++[x]).map (·.1))=(some x.1,out):=by rw [HE.out];simp [belStep,h39]
    have HE9:=Nm.hide e9;clear h39 e9 HE
    gi_wp2_with (
     gi_at_call 119
     refine(CallsIn.inRound l hh).mono ?_;rintro e w2 ⟨rfl,b2⟩;have hT2:Boxed w2 _ _ _:=blk_below hT b2;have hF2:Boxed w2 _ _ _:=blk_below hF b2;have hv2:Boxed w2 _ _ _:=blk_below hv b2;have hrow2:=own_below hrow b2;have cT2:=hT2.cell;have fT2:=hT2.frozen;have cF2:=hF2.cell
     have fF2:=hF2.frozen)
    have k2:=(keeps_below b2).trans ((KeepsOthers.setCell w2 ⟨w.heap.size+1,0,none⟩ (.slice (slA x.1.lv) (slN x.1.lv) (slC x.1.lv))).trans (KeepsOthers.setCell _ ⟨w.heap.size+1+1,0,none⟩ (.bool true)));have bb2:=((b2.mono hB.size).setCell (p:=⟨w.heap.size+1,0,none⟩) (by simp) (.slice (slA x.1.lv) (slN x.1.lv) (slC x.1.lv))).setCell (p:=⟨w.heap.size+1+1,0,none⟩) (by simp;omega) (.bool true);refine⟨k2.from _,bb2,?_,hB.trans bb2⟩;rw [HE9.out];have o2:=own_far (i:=0) (y:=.slice (slA x.1.lv) (slN x.1.lv) (slC x.1.lv)) hrow2 (own_nb hrow2 hT2 (by decide));have hF3:=hF2.other (show w.heap.size+1+1≠w.heap.size+1 by omega) (.slice (slA x.1.lv) (slN x.1.lv) (slC x.1.lv));have hv3:=hv2.other (show w.heap.size≠w.heap.size+1 by omega) (.slice (slA x.1.lv) (slN x.1.lv) (slC x.1.lv));have hT3:=hT2.set (.slice (slA x.1.lv) (slN x.1.lv) (slC x.1.lv))
    exact⟨⟨_,hv3.other (by omega) _,own_far o2 (own_nb o2 hF3 (by decide)),trivial⟩,hT3.other (by omega) _,hF3.set _⟩
   |false=>
    have hh:=HX.out.2.2.2 x.1 (n-1-1-1) W x.2 hB;rw [h39] at hh;have e9:belK ((pre++[x]).map (·.1))=(none,out):=by rw [HE.out];simp [belStep,h39]
    have HE9:=Nm.hide e9;clear h39 e9 HE
    gi_wp2_with (
     gi_at_call 119
     refine(CallsIn.inRound l hh).mono ?_;rintro e w2 ⟨rfl,b2⟩;have hT2:Boxed w2 _ _ _:=blk_below hT b2;have hF2:Boxed w2 _ _ _:=blk_below hF b2;have hv2:Boxed w2 _ _ _:=blk_below hv b2
     have hrow2:=own_below hrow b2)
    refine⟨(keeps_below b2).from _,b2.mono hB.size,?_,hB.trans (b2.mono hB.size)⟩;rw [HE9.out]
    exact⟨⟨_,hv2,hrow2,trivial⟩,hT2,hF2⟩
  |some q=>
   simp only [tailV,Option.isSome_some] at hT hF cF;have hq:=hmem q rfl;clear hmem;have cT:=hT.cell
   cases hu:underB x.1.lab q.lab with
   |true=>
    have hh:=HX.out.2.2.1 x.1 q (n-1-1-1) W x.2 hq hB;rw [hu] at hh;have e9:belK ((pre++[x]).map (·.1))=(some q,out++[x.1]):=by rw [HE.out];simp [belStep,hu]
    have HE9:=Nm.hide e9;clear hu e9 HE
    gi_wp2_with (first
     |(gi_at_call 138
       refine(CallsIn.inRound l hh).mono ?_;rintro e w2 ⟨rfl,b2⟩;have hT2:Boxed w2 _ _ _:=blk_below hT b2;have hF2:Boxed w2 _ _ _:=blk_below hF b2;have hv2:Boxed w2 _ _ _:=blk_below hv b2;have hrow2:=own_below hrow b2;have hs2:=b2.size
       have cv2:=hv2.cell)
     |(gi_at_builtin
       refine wpListIn_append_own _ rfl _ _ 170 rfl w.heap.size 135 i0 (.pointer none) 1 8 Tryz.underlying170 hi hz0 hz1 hz2 rfl (by decide) _ _ _ rfl (hrow2.alloc _) ⟨w2.heap.size,0,none⟩ 1 1 [.pointer (some ⟨x.1.blk,0,none⟩)] rfl rfl (cell_one_new _ _ _) (by simp [Value.oneCell']) (by unfold maxLen;have:=HLN.out;omega) (by have:=HLN.out;omega) (by have:=hB.size;simp;omega) ?_;intro v' w3 hown' hgrow _;obtain⟨g',cap',rfl⟩:=ownsRow_succ hown';have hap:=hv2.appended (by decide) hrow2 (by have:=hB.size;omega) (Nat.le_refl _) hown' hgrow;obtain⟨q1,q2,q3,q4,q5⟩:=hap;have cv3:=q1.cell
       have fv3:=q1.frozen))
    have hra:(w2.alloc (.cells #[.pointer (some ⟨x.1.blk,0,none⟩)] 135)).ownsRow w.heap.size 135 1 v out.length (out.map fun o=>ptr o.blk):=hrow2.alloc _;have hT2a:Blk (w2.alloc (.cells #[.pointer (some ⟨x.1.blk,0,none⟩)] 135)) (w.heap.size+1) #[.slice (slA q.lv) (slN q.lv) (slC q.lv)] 91:=blk_alloc hT2 _;have hF2a:Blk (w2.alloc (.cells #[.pointer (some ⟨x.1.blk,0,none⟩)] 135)) (w.heap.size+1+1) #[.bool true] 4:=blk_alloc hF2 _;have hT3:Boxed w3 (w.heap.size+1) 91 (.slice (slA q.lv) (slN q.lv) (slC q.lv)):=blk_grown hT2a hgrow (own_nb hra hT2a (by decide));have hF3:Boxed w3 (w.heap.size+1+1) 4 (.bool true):=blk_grown hF2a hgrow (own_nb hra hF2a (by decide));have kk:=(keeps_below b2).trans q4;have bk:=(b2.mono hB.size).trans q5;refine⟨kk.from _,bk,?_,hB.trans bk⟩;rw [HE9.out]
    exact⟨⟨_,q2,by simpa [ptr] using q3,trivial⟩,hT3.other (by omega) _,hF3.other (by omega) _⟩
   |false=>
    have hh:=HX.out.2.2.1 x.1 q (n-1-1-1) W x.2 hq hB;rw [hu] at hh;have hg:=fun W' (hW:Below w.heap.size w W')=>HX.out.2.2.2 x.1 (n-1-1-1) W' x.2 hW
    cases h39:has39 x.1 with
    |true=>
     rw [h39] at hg;have e9:belK ((pre++[x]).map (·.1))=(some x.1,out):=by rw [HE.out];simp [belStep,hu,h39]
     have HE9:=Nm.hide e9;clear hu h39 e9 HE
     gi_wp2_with (first
      |(gi_at_call 138
        refine(CallsIn.inRound l hh).mono ?_
        rintro e w1 ⟨rfl,b1⟩)
      |(gi_at_call 119
        refine(CallsIn.inRound l (hg _ (hB.trans (b1.mono hB.size)))).mono ?_;rintro e w2 ⟨rfl,b12⟩;have b2:=Nm.below_two b1 b12;have hT2:Boxed w2 _ _ _:=blk_below hT b2;have hF2:Boxed w2 _ _ _:=blk_below hF b2;have hv2:Boxed w2 _ _ _:=blk_below hv b2;have hrow2:=own_below hrow b2;have cT2:=hT2.cell;have fT2:=hT2.frozen;have cF2:=hF2.cell
        have fF2:=hF2.frozen))
     have k2:=(keeps_below b2).trans ((KeepsOthers.setCell w2 ⟨w.heap.size+1,0,none⟩ (.slice (slA x.1.lv) (slN x.1.lv) (slC x.1.lv))).trans (KeepsOthers.setCell _ ⟨w.heap.size+1+1,0,none⟩ (.bool true)));have bb2:=((b2.mono hB.size).setCell (p:=⟨w.heap.size+1,0,none⟩) (by simp) (.slice (slA x.1.lv) (slN x.1.lv) (slC x.1.lv))).setCell (p:=⟨w.heap.size+1+1,0,none⟩) (by simp;omega) (.bool true);refine⟨k2.from _,bb2,?_,hB.trans bb2⟩;rw [HE9.out];have o2:=own_far (i:=0) (y:=.slice (slA x.1.lv) (slN x.1.lv) (slC x.1.lv)) hrow2 (own_nb hrow2 hT2 (by decide));have hF3:=hF2.other (show w.heap.size+1+1≠w.heap.size+1 by omega) (.slice (slA x.1.lv) (slN x.1.lv) (slC x.1.lv));have hv3:=hv2.other (show w.heap.size≠w.heap.size+1 by omega) (.slice (slA x.1.lv) (slN x.1.lv) (slC x.1.lv));have hT3:=hT2.set (.slice (slA x.1.lv) (slN x.1.lv) (slC x.1.lv))
     exact⟨⟨_,hv3.other (by omega) _,own_far o2 (own_nb o2 hF3 (by decide)),trivial⟩,hT3.other (by omega) _,hF3.set _⟩
    |false=>
     rw [h39] at hg;have e9:belK ((pre++[x]).map (·.1))=(some q,out):=by rw [HE.out];simp [belStep,hu,h39]
     have HE9:=Nm.hide e9;clear hu h39 e9 HE
     gi_wp2_with (first
      |(gi_at_call 138
        refine(CallsIn.inRound l hh).mono ?_
        rintro e w1 ⟨rfl,b1⟩)
      |(gi_at_call 119
        refine(CallsIn.inRound l (hg _ (hB.trans (b1.mono hB.size)))).mono ?_;rintro e w2 ⟨rfl,b12⟩;have b2:=Nm.below_two b1 b12;have hT2:Boxed w2 _ _ _:=blk_below hT b2;have hF2:Boxed w2 _ _ _:=blk_below hF b2;have hv2:Boxed w2 _ _ _:=blk_below hv b2
        have hrow2:=own_below hrow b2))
     refine⟨(keeps_below b2).from _,b2.mono hB.size,?_,hB.trans (b2.mono hB.size)⟩;rw [HE9.out];exact⟨⟨_,hv2,hrow2,trivial⟩,hT2,hF2⟩
 case done=>
  rintro D ys W hD rfl ⟨⟨⟨v,hv,hrow,-⟩,hT,hF⟩,hB⟩ hK;rw [List.attach_map_subtype_val] at hrow;have hc:=hv.cell
  gi_wp2
  refine⟨by simp,.inl ⟨_,_,rfl,run_takeDeferred hK,?_⟩⟩;exact⟨_,results_tmp rfl _ _ _,v,rfl,ownsRow_putObj hrow _ hK rfl,hB.trans (belowK_b (w:=w) (Nat.le_refl _) W D _ _ (by omega) hK rfl rfl)⟩
 case stop=>
  rintro D c pre W _ _ h _;exact h.elim
theorem belowTails_any(bb oo th:Nat)(rv:Value)(os:List GOw)(B:Nat)(w:World)(h:TrAt w B th rv os)(hd:TrS os)(hl:os.length<=400000)(hLab:LabAt w (fpT th rv os) os)(hc:w.cell? ⟨bb,oo+1,none⟩=some (ptr th)):
 Calls Tryz.prog 120 #[.pointer (some ⟨bb,oo,none⟩)] w fun e W'=>∃ v,e=.returned v∧W'.ownsRow w.heap.size 135 1 v (belK os).2.length ((belK os).2.map fun o=>ptr o.blk)∧Below w.heap.size w W':=
 (callsIn_wide (n:=6)).1 (belowTails_in Fence.wide 6 trivial trivial trivial trivial trivial rfl (by omega) bb oo th rv os B w h hl hLab hc
  (fun o q m W ho hq hW=>callsIn_wide.2 (by
   have lo:=hLab o ho;have lq:=hLab q hq;have hu:=under_any o.lv q.lv o.lab q.lab W (lo.row.below hW) (lq.row.below hW) lo.fit.1 lo.fit.2 lq.fit.2;rw [sl_eq lo.row,sl_eq lq.row] at hu;refine hu.mono ?_;rintro e w' ⟨rfl,m',rfl⟩
   exact⟨rfl,Go.below_drewN (Below.refl _ _) _⟩))
  (fun o m W ho hW=>callsIn_wide.2 (ownerHas_any o B 39 W ((h.owners o ho).below hW) (by have:=(hd.2 o ho).2.1;omega) (hd.2 o ho).1)))
end Go.Proofs.YtcihkbojmbfmmaaGreatDoor
namespace Go.Proofs.YtcihkbojmbfmmaaGreatDoor
open Go.RowKit
set_option linter.unusedVariables false
def rsV(c i:Int):Ending:=.returned (.tuple #[.int .i64 c,.int .i64 i])
theorem outs_set{W:World}{b i:Nat}{v:Value}:Outs [b] W (W.setCell ⟨b,i,none⟩ v):=⟨rfl,rfl,rfl,by simp,fun k _ hk=>heap_setCell_other W ⟨b,i,none⟩ k _ (by simpa using hk)⟩
set_option maxRecDepth 100000 in
set_option maxHeartbeats 1600000 in
theorem checkSize_any(bb:Nat)(la:Option Addr)(ln lc:Nat)(apex:ByteArray)(w:World)(hk:Blk w bb #[.slice la ln lc,.string apex,.slice none 0 0,.slice none 0 0,.pointer none,.slice none 0 0] 97)(ha:apex.size<=maxLen):
 Calls Tryz.prog 84 #[.pointer (some ⟨bb,0,none⟩)] w fun e w'=>
  (Nm.split apex=none∧e=rsV 32 (-1)∧Below w.heap.size w w')∨(Nm.split apex≠none∧500<ln∧e=rsV 12 (-1)∧Below w.heap.size w w')∨
  (∃ xs aa ac th,Nm.split apex=some xs∧ln<=500∧e=rsV 0 0∧Outs [bb] w w'∧Blk w' bb #[.slice la ln lc,.string apex,.slice none 0 0,.slice aa xs.length ac,ptr th,.slice none 0 0] 97∧Blk w' th #[cmpLv,.slice none 0 0] 176∧w'.ownsRow w.heap.size 9 1 (.slice aa xs.length ac) xs.length (xs.map Value.string)∧w.heap.size<=th):=by
 have rk:=fun i=>blk_cell hk i
 have hs:=splitName_any apex w ha;have hbl:=blk_lt hk
 cases hsp:Nm.split apex with
 |none=>
  rw [hsp] at hs;simp only [Option.isSome_none,Option.getD_none] at hs;clear hsp;go_enter Tryz.func84,Tryz.ntmps84;go_wp2_with fail
  refine hs.mono ?_;rintro e w1 ⟨v,rfl,ho,b1⟩;clear hs;go_wp2;go_ret2
  exact .inl ⟨trivial,rfl,b1⟩
 |some xs=>
  rw [hsp] at hs;simp only [Option.isSome_some,Option.getD_some] at hs
  by_cases hln:500<ln
  ·have i1:(500:Int)<(ln:Int):=by omega
   have HL:=Nm.hide hln;clear hsp hln;go_enter Tryz.func84,Tryz.ntmps84;go_wp2_with fail
   refine hs.mono ?_;rintro e w1 ⟨v,rfl,ho,b1⟩;have rk1:=fun i=>blk_cell (blk_below hk b1) i
   clear hs rk;go_wp2;go_ret2;exact .inr (.inl ⟨by simp,HL.out,rfl,b1⟩)
  ·have i1:¬(500:Int)<(ln:Int):=by omega
   have HL:=Nm.hide hln;clear hsp hln;go_enter Tryz.func84,Tryz.ntmps84;go_wp2_with fail
   refine hs.mono ?_;rintro e w1 ⟨v,rfl,ho,b1⟩;obtain⟨aa,ac,rfl⟩:=own_sl ho;have k1:=blk_below hk b1;have rk1:=fun i=>blk_cell k1 i
   have b2:=(Below.refl w1.heap.size w1).alloc (Nat.le_refl _) (.cells #[cmpLv,.slice none 0 0] 176);have kt:=blk_new w1 #[cmpLv,.slice none 0 0] 176;have k2:=blk_below k1 b2;have rk2:=fun i=>blk_cell k2 i
   have fk2:=fun i=>blk_frozen k2 i
   have o2:=own_below ho b2;have hn:=newTableL_any (.func 109) w1;unfold ptr at hn;unfold cmpLv at kt rk2 fk2;clear hs rk;go_wp2_with (go_at_call 108;refine hn.mono ?_;rintro e w2 ⟨rfl,rfl⟩)
   go_ret2;have k3:=blk_set (blk_set k2 3 (.slice aa xs.length ac)) 4 (.pointer (some ⟨w1.heap.size,0,none⟩));simp only [List.setIfInBounds_toArray,List.set_cons_zero,List.set_cons_succ] at k3;have hne:bb≠w1.heap.size:=by have:=b1.size;omega
   refine .inr (.inr ⟨xs,aa,ac,w1.heap.size,rfl,by have:=HL.out;omega,rfl,?_,k3,?_,?_,b1.size⟩)
   ·have h9:=(Outs.below (fp:=[bb]) (Nm.below_two b1 b2)).trans (outs_set (b:=bb) (i:=3) (v:=.slice aa xs.length ac)) (fun k hk=>.inl hk);exact h9.trans (outs_set (b:=bb) (i:=4) (v:=.pointer (some ⟨w1.heap.size,0,none⟩))) (fun k hk=>.inl hk)
   ·exact blk_grown (blk_grown kt (grown_setC _ bb 3 _) (fun e=>by cases e;exact hne rfl)) (grown_setC _ bb 4 _) (fun e=>by cases e;exact hne rfl)
   ·have o3:=own_far (i:=3) (y:=.slice aa xs.length ac) o2 (own_nb o2 k2 (by decide));exact own_far o3 (own_nb o3 (blk_set k2 3 (.slice aa xs.length ac)) (by decide))
end Go.Proofs.YtcihkbojmbfmmaaGreatDoor
namespace Go.Proofs.YtcihkbojmbfmmaaGreatDoor
open Go.RowKit
set_option maxRecDepth 100000 in
set_option maxHeartbeats 400000 in
theorem implCheckData_any(t:Int)(d:ByteArray)(w:World)(hd:d.size<=2000000):
 Calls Tryz.prog 137 #[.int .i64 t,.string d] w fun e w'=>e=.returned (.int .i64 (cutCode t d))∧Below w.heap.size w w':=by
 have hcall:=cutData_any t d w hd;go_enter Tryz.func137,Tryz.ntmps137;go_wp2_with (go_at_call 159;refine hcall.mono ?_;rintro e w2 ⟨v,rfl,_,_,hbel⟩)
 go_ret;exact⟨rfl,hbel⟩
end Go.Proofs.YtcihkbojmbfmmaaGreatDoor
