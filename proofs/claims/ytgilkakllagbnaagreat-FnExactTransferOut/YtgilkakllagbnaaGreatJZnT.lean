import Derived.Test.YtgilkakllagbnaaGreatJZnM
import Derived.Test.YtgilkakllagbnaaGreatJMath
import Derived.Test.YtgilkakllagbnaaGreatJOwnT
import Derived.RegionTactic
namespace Go.Proofs.YtgilkakllagbnaaGreat
open Go.RowKit
set_option linter.unusedVariables false
theorem four_facts{w1:World}{g1 g2:Nat}{T:TypeId}(hne:g1≠g2){x0 x1 x2 x3 y0 y1 y2 y3:Value}(u:Value)(k1:Blk w1 g1 #[x0,x1,x2,x3] T)(k2:Blk w1 g2 #[y0,y1,y2,y3] T):
 (w1.cell? ⟨g2,3,none⟩=some y3∧w1.frozen? ⟨g2,3,none⟩=false)∧
 ((w1.setCell ⟨g2,3,none⟩ u).cell? ⟨g2,0,none⟩=some y0∧(w1.setCell ⟨g2,3,none⟩ u).cell? ⟨g2,1,none⟩=some y1∧(w1.setCell ⟨g2,3,none⟩ u).cell? ⟨g2,2,none⟩=some y2∧(w1.setCell ⟨g2,3,none⟩ u).cell? ⟨g2,3,none⟩=some u)∧
 ((w1.setCell ⟨g2,3,none⟩ u).cell? ⟨g1,0,none⟩=some x0∧(w1.setCell ⟨g2,3,none⟩ u).cell? ⟨g1,1,none⟩=some x1∧(w1.setCell ⟨g2,3,none⟩ u).cell? ⟨g1,2,none⟩=some x2∧(w1.setCell ⟨g2,3,none⟩ u).cell? ⟨g1,3,none⟩=some x3)∧
 (∀ i,(w1.setCell ⟨g2,3,none⟩ u).frozen? ⟨g1,i,none⟩=false)∧
 Blk (((((w1.setCell ⟨g2,3,none⟩ u).setCell ⟨g1,0,none⟩ y0).setCell ⟨g1,1,none⟩ y1).setCell ⟨g1,2,none⟩ y2).setCell ⟨g1,3,none⟩ u) g1 #[y0,y1,y2,u] T:=by
 have a2:=blk_set k2 3 u;have a1:Blk (w1.setCell ⟨g2,3,none⟩ u) g1 #[x0,x1,x2,x3] T:=blk_far k1 hne;exact⟨⟨(blk_cell k2 3).trans rfl,blk_frozen k2 3⟩,⟨(blk_cell a2 0).trans rfl,(blk_cell a2 1).trans rfl,(blk_cell a2 2).trans rfl,(blk_cell a2 3).trans rfl⟩,⟨(blk_cell a1 0).trans rfl,(blk_cell a1 1).trans rfl,(blk_cell a1 2).trans rfl,(blk_cell a1 3).trans rfl⟩,blk_frozen a1,blk_set (blk_set (blk_set (blk_set a1 0 y0) 1 y1) 2 y2) 3 u⟩
set_option maxRecDepth 100000 in
set_option maxHeartbeats 1600000 in
theorem toSet_any(s:Sz)(dv:Value)(w:World)(h:Nm.SRow w dv s.da)(hl:s.da.length<=1048576):
 Calls Tryz.prog 55 #[.agg #[.string s.own,.int .i64 s.ty,.int .i64 s.tt,dv]] w fun e w'=>∃ u,e=.returned (.agg #[.string s.own,.int .i64 s.ty,.int .i64 s.tt,u])∧w'.ownsRow w.heap.size 9 1 u s.da.length (s.da.map Value.string)∧Below w.heap.size w w':=by
 obtain⟨o,ty,tt,da⟩:=s;simp only at*
 have hB:=(((Below.refl w.heap.size w).alloc (Nat.le_refl _) (.cells #[.string o,.int .i64 ty,.int .i64 tt,dv] 80)).alloc (by simp) (.cells #[.string ⟨#[]⟩,.int .i64 0,.int .i64 0,.slice none 0 0] 90)).alloc (by simp;omega) (.cells #[.string o,.int .i64 ty,.int .i64 tt,.slice none 0 0] 90);have hone:=toStringS_any dv da _ (h.below hB) hl;have hz1:(w.alloc (.cells #[.string o,.int .i64 ty,.int .i64 tt,dv] 80)).heap.size=w.heap.size+1:=by simp
 have hz2:((w.alloc (.cells #[.string o,.int .i64 ty,.int .i64 tt,dv] 80)).alloc (.cells #[.string ⟨#[]⟩,.int .i64 0,.int .i64 0,.slice none 0 0] 90)).heap.size=w.heap.size+1+1:=by simp
 have hb1:=blk_alloc (blk_new (w.alloc (.cells #[.string o,.int .i64 ty,.int .i64 tt,dv] 80)) #[.string ⟨#[]⟩,.int .i64 0,.int .i64 0,.slice none 0 0] 90) (.cells #[.string o,.int .i64 ty,.int .i64 tt,.slice none 0 0] 90);have hb2:=blk_new ((w.alloc (.cells #[.string o,.int .i64 ty,.int .i64 tt,dv] 80)).alloc (.cells #[.string ⟨#[]⟩,.int .i64 0,.int .i64 0,.slice none 0 0] 90)) #[.string o,.int .i64 ty,.int .i64 tt,.slice none 0 0] 90;rw [hz1] at hb1;rw [hz2] at hb2;clear hz1 hz2;obtain⟨a,cap,rfl,_⟩:=h;go_enter Tryz.func55,Tryz.ntmps55;go_wp2_with (go_at_call 82;refine hone.mono ?_;rintro e w1 ⟨u,rfl,hown,hbel⟩;obtain⟨ua,uc,rfl⟩:=own_sl hown;have k1:=blk_below hb1 hbel;have k2:=blk_below hb2 hbel;obtain⟨⟨p0,p1⟩,⟨q0,q1,q2,q3⟩,⟨r0,r1,r2,r3⟩,rf,kz⟩:=four_facts (by omega) (.slice ua da.length uc) k1 k2;clear hone)
 have e0:=(blk_cell kz 0).trans rfl;have e1:=(blk_cell kz 1).trans rfl;have e2:=(blk_cell kz 2).trans rfl;have e3:=(blk_cell kz 3).trans rfl;refine bodyPost_ret (v:=.agg #[.string o,.int .i64 ty,.int .i64 tt,.slice ua da.length uc]) ?_ rfl ?_
 ·simp [results,Tryz.results55,go_sem,Result.andThen,e0,e1,e2,e3]
 ·simp only [World.alloc,Array.size_push] at hown;refine⟨_,rfl,own_base (own_far_lt (own_far_lt (own_far_lt (own_far_lt (own_far_lt hown (by omega)) (by omega)) (by omega)) (by omega)) (by omega)) (by omega),?_⟩;exact(((((Nm.below_two hB hbel).setCell (by simp;omega) _).setCell (by simp) _).setCell (by simp) _).setCell (by simp) _).setCell (by simp) _
def OZ(w:World)(B:Nat)(v:Value)(qs:List Zp):Prop:=w.ownsRow B 90 4 v qs.length (zpVs qs)∧∀ q∈qs,w.ownsRow B 9 1 q.2 q.1.da.length (q.1.da.map Value.string)
theorem OZ.read{w:World}{B:Nat}{v:Value}{qs:List Zp}(h:OZ w B v qs):ZRow w v qs:=⟨CRow.of_owns h.1,fun q hq=>Nm.SRow.of_owns (h.2 q hq)⟩
theorem OZ.below{w W:World}{B:Nat}{v:Value}{qs:List Zp}(h:OZ w B v qs)(hb:Below w.heap.size w W):OZ W B v qs:=⟨own_below h.1 hb,fun q hq=>own_below (h.2 q hq) hb⟩
theorem set4{cs:List Value}{k:Nat}{A:List Value}(a b c d:Value)(hl:k*4+4<=cs.length)(h:cs.take (k*4)=A):
 ((((cs.set (k*4) a).set (k*4+1) b).set (k*4+2) c).set (k*4+3) d).take ((k+1)*4)=A++[a,b,c,d]:=by
 have hs:cs=cs.take (k*4)++cs.drop (k*4):=(List.take_append_drop _ _).symm;have hdl:4<=(cs.drop (k*4)).length:=by simp;omega
 have hpl:(cs.take (k*4)).length=k*4:=by simp;omega
 rw [h] at hs hpl;obtain⟨q,hq⟩:∃ q,q=cs.drop (k*4):=⟨_,rfl⟩;rw [<- hq] at hs hdl
 match q,hdl with
 |y0::y1::y2::y3::r,_=>
  rw [hs];simp only [List.set_append,hpl,Nat.lt_irrefl,if_false,Nat.sub_self,show ¬(k*4+1<k*4) by omega,show ¬(k*4+2<k*4) by omega,show ¬(k*4+3<k*4) by omega,Nat.add_sub_cancel_left];simp only [List.set_cons_zero,List.set_cons_succ];rw [List.take_append,hpl,show(k+1)*4-k*4=4 by omega,List.take_of_length_le (by omega)];rfl
theorem Tryz.infoSet:(Tryz.prog.info? 90).map (fun i=>(i.zero,i.size,i.bytes))=some (some (.agg #[.string ByteArray.empty,.int .i64 0,.int .i64 0,.slice none 0 0]),4,56):=by kernel_rfl
theorem four_at{w:World}{B e g n cap k:Nat}{cs:List Value}(h:w.ownsRow B e 4 (.slice (some ⟨g,0,none⟩) n cap) n cs)(hk:k<n)(j:Nat)(hj:j<4):∃ y,w.cell? ⟨g,k*4+j,none⟩=some y:=by
 rw [h.cellAt (k*4+j) (by omega)];have:=h.1;exact⟨_,List.getElem?_eq_getElem (by omega)⟩
set_option maxRecDepth 100000 in
set_option maxHeartbeats 1600000 in
theorem toSetS_any(v:Value)(ps:List Zp)(w:World)(h:ZRow w v ps)(hlen:ps.length<=1048576)(hd:∀ p∈ps,p.1.da.length<=1048576):
 Calls Tryz.prog 23 #[v] w fun e w'=>∃ u qs,e=.returned u∧qs.map (·.1)=ps.map (·.1)∧OZ w' w.heap.size u qs∧Below w.heap.size w w':=by
 obtain⟨i0,hi,hz0,hz1,hz2⟩:=info_parts Tryz.infoSet;obtain⟨⟨_,a,cap,rfl,hcap,hmx,hc⟩,hrow⟩:=h;unfold maxLen at hmx;have hto:=fun(p:Zp) (hp:p∈ps) W (hW:Below w.heap.size w W)=>toSet_any p.1 p.2 W ((hrow p hp).below hW) (hd p hp)
 clear hrow hd;go_enter Tryz.func23,Tryz.ntmps23;go_wp2_with (at_make;refine wpList_make_full _ rfl (.tmp 6) (.tmp 6) 31 rfl w.heap.size 90 i0 _ 4 Tryz.underlying31 hi hz0 hz1 .i64 .i64 _ _ ps.length rfl rfl rfl rfl (by rw [hz2];omega) (by unfold maxLen;omega) (Nat.le_refl _) ?_;intro w2 hown0 hgrow0)
 generalize hcs0:(madeCells (Value.agg #[.string ByteArray.empty,.int .i64 0,.int .i64 0,.slice none 0 0]).cells (ps.length*4)).toList=cs0 at hown0;clear hcs0
 go_loopw [4] (fun i wr=>∃ (k:Nat) (cs:List Value) (qs:List Zp),k<=ps.length∧i=.int .i64 k∧wr.ownsRow w.heap.size 90 4 (.slice (some ⟨w.heap.size,0,none⟩) ps.length ps.length) ps.length cs∧Hid (cs.take (k*4)=zpVs qs)∧Hid (qs.map (·.1)=(ps.take k).map (·.1))∧Hid (∀ q∈qs,wr.ownsRow w.heap.size 9 1 q.2 q.1.da.length (q.1.da.map Value.string))∧Below w.heap.size w wr)
  (fun i _=>ps.length-(intOf i).toNat)
 case atStart=>exact⟨0,cs0,[],Nat.zero_le _,rfl,hown0,by show _=_;simp [zpVs],by show _=_;simp,by intro q hq;simp at hq,(Below.refl _ w).grown hgrow0 (Nat.le_refl _) (fun k hk=>by cases hk)⟩
 case round=>
  obtain⟨k,cs,qs,hk,rfl,hown,HT,HQ,HO,hbel⟩:=hrel;clear hown0 hgrow0
  by_cases hlt:k<ps.length
  ·obtain⟨x,hx⟩:∃ x,ps[k]? =some x:=⟨_,List.getElem?_eq_getElem hlt⟩;obtain⟨b,off,rfl,hcell⟩:=hc (by omega);obtain⟨c0,c1,c2,c3⟩:=zp_cells hcell hx;have put:∀ {O:Nat} {z:Value},w.cell? ⟨b,O,none⟩=some z->wr.cell? ⟨b,O,none⟩=some z:=fun h=>(hbel.cell (World.block_lt_of_cell? w _ h)).trans h
   replace c0:=put c0
   replace c1:=put c1
   replace c2:=put c2
   replace c3:=put c3
   have i1:(0:Int)<=(k:Int):=by omega
   have i2:(k:Int)<(ps.length:Int):=by omega
   have hone:=hto x (List.mem_of_getElem? hx) wr hbel
   have HQ2:Hid (∀ u:Value,(qs++[(x.1,u)]).map (·.1)=(ps.take (k+1)).map (·.1)):=by
    intro u;rw [List.map_append,HQ.out,List.take_add_one,hx,List.map_append];rfl
   have HT2:=fun u=>set4 (.string x.1.own) (.int .i64 x.1.ty) (.int .i64 x.1.tt) u (by have:=hown.1;omega) HT.out
   have HT3:Hid (∀ u:Value,((((cs.set (k*4) (.string x.1.own)).set (k*4+1) (.int .i64 x.1.ty)).set (k*4+2) (.int .i64 x.1.tt)).set (k*4+3) u).take ((k+1)*4)=zpVs (qs++[(x.1,u)])):=by
    intro u;rw [HT2,zpVs_app];rfl
   clear hcell hc HT HT2 HQ hto hx;obtain⟨⟨o,ty,tt,da⟩,dv⟩:=x;simp only at c0 c1 c2 c3 hone HQ2 HT3
   go_wp2_with (go_at_call 55;refine hone.mono ?_;rintro e w1 ⟨u,rfl,hu,hb1⟩;obtain⟨ua,uc,rfl⟩:=own_sl hu;have ho1:=own_below hown hb1;obtain⟨y0,hy0⟩:=four_at ho1 hlt 0 (by decide);obtain⟨y1,hy1⟩:=four_at ho1 hlt 1 (by decide);obtain⟨y2,hy2⟩:=four_at ho1 hlt 2 (by decide);obtain⟨y3,hy3⟩:=four_at ho1 hlt 3 (by decide);rw [Nat.add_zero] at hy0;have fz:=ho1.frozenAt;clear hone)
   go_roundw
   case rel=>
    refine⟨k+1,_,qs++[(⟨o,ty,tt,da⟩,.slice ua da.length uc)],by omega,by go_num,((((ho1.stored (k*4) _).1.stored (k*4+1) _).1.stored (k*4+2) _).1.stored (k*4+3) _).1,Nm.hide (HT3.out _),Nm.hide (HQ2.out _),?_,((((Nm.below_two hbel hb1).setCell (Nat.le_refl _) _).setCell (Nat.le_refl _) _).setCell (Nat.le_refl _) _).setCell (Nat.le_refl _) _⟩;intro q hq
    have hq1:w1.ownsRow w.heap.size 9 1 q.2 q.1.da.length (q.1.da.map Value.string):=by
     rcases List.mem_append.1 hq with h1|h1
     ·exact own_below (HO.out q h1) hb1
     ·simp only [List.mem_singleton] at h1;subst h1;exact own_base hu hbel.size
    have hne:=own_ne hq1 ho1 (by decide);exact own_far (own_far (own_far (own_far hq1 hne) hne) hne) hne
   case measure=>simp [intOf];omega
  ·have hkl:k=ps.length:=by omega
   have hcs:cs=zpVs qs:=by
    have e:=HT.out;have hl:=hown.1;rw [hkl,List.take_of_length_le (by omega)] at e;exact e
   have hqs:qs.map (·.1)=ps.map (·.1):=by
    have:=HQ.out
    rwa [hkl,List.take_length] at this
   have hql:qs.length=ps.length:=by have:=congrArg List.length hqs;simpa using this
   subst hcs;have i2:(ps.length:Int)<=(k:Int):=by omega
   clear hc hlt HT hto HQ;go_wp2;go_ret;refine⟨_,rfl,qs,hqs,⟨?_,HO.out⟩,hbel⟩;rw [hql];exact hown
theorem two_facts{w1:World}{g1 g2:Nat}{T:TypeId}(hne:g1≠g2){x0 x1 y0 y1:Value}(u:Value)(k1:Blk w1 g1 #[x0,x1] T)(k2:Blk w1 g2 #[y0,y1] T):
 (w1.cell? ⟨g2,1,none⟩=some y1∧w1.frozen? ⟨g2,1,none⟩=false)∧
 ((w1.setCell ⟨g2,1,none⟩ u).cell? ⟨g2,0,none⟩=some y0∧(w1.setCell ⟨g2,1,none⟩ u).cell? ⟨g2,1,none⟩=some u)∧
 ((w1.setCell ⟨g2,1,none⟩ u).cell? ⟨g1,0,none⟩=some x0∧(w1.setCell ⟨g2,1,none⟩ u).cell? ⟨g1,1,none⟩=some x1)∧
 (∀ i,(w1.setCell ⟨g2,1,none⟩ u).frozen? ⟨g1,i,none⟩=false)∧
 Blk (((w1.setCell ⟨g2,1,none⟩ u).setCell ⟨g1,0,none⟩ y0).setCell ⟨g1,1,none⟩ u) g1 #[y0,u] T:=by
 have a2:=blk_set k2 1 u;have a1:Blk (w1.setCell ⟨g2,1,none⟩ u) g1 #[x0,x1] T:=blk_far k1 hne;exact⟨⟨(blk_cell k2 1).trans rfl,blk_frozen k2 1⟩,⟨(blk_cell a2 0).trans rfl,(blk_cell a2 1).trans rfl⟩,⟨(blk_cell a1 0).trans rfl,(blk_cell a1 1).trans rfl⟩,blk_frozen a1,blk_set (blk_set a1 0 y0) 1 u⟩
set_option maxRecDepth 100000 in
set_option maxHeartbeats 1600000 in
theorem toZone_any(o:ByteArray)(v:Value)(ps:List Zp)(w:World)(h:ZRow w v ps)(hlen:ps.length<=1048576)(hd:∀ p∈ps,p.1.da.length<=1048576):
 Calls Tryz.prog 7 #[.agg #[.string o,v]] w fun e w'=>∃ u qs,e=.returned (.agg #[.string o,u])∧qs.map (·.1)=ps.map (·.1)∧OZ w' w.heap.size u qs∧Below w.heap.size w w':=by
 have hB:=(((Below.refl w.heap.size w).alloc (Nat.le_refl _) (.cells #[.string o,v] 24)).alloc (by simp) (.cells #[.string ⟨#[]⟩,.slice none 0 0] 33)).alloc (by simp;omega) (.cells #[.string o,.slice none 0 0] 33);have hone:=toSetS_any v ps _ (h.below hB) hlen hd;have hz1:(w.alloc (.cells #[.string o,v] 24)).heap.size=w.heap.size+1:=by simp
 have hz2:((w.alloc (.cells #[.string o,v] 24)).alloc (.cells #[.string ⟨#[]⟩,.slice none 0 0] 33)).heap.size=w.heap.size+1+1:=by simp
 have hb1:=blk_alloc (blk_new (w.alloc (.cells #[.string o,v] 24)) #[.string ⟨#[]⟩,.slice none 0 0] 33) (.cells #[.string o,.slice none 0 0] 33);have hb2:=blk_new ((w.alloc (.cells #[.string o,v] 24)).alloc (.cells #[.string ⟨#[]⟩,.slice none 0 0] 33)) #[.string o,.slice none 0 0] 33;rw [hz1] at hb1;rw [hz2] at hb2;clear hz1 hz2 hd;obtain⟨⟨_,a,cap,rfl,_⟩,_⟩:=h;go_enter Tryz.func7,Tryz.ntmps7;go_wp2_with (go_at_call 23;refine hone.mono ?_;rintro e w1 ⟨u,qs,rfl,hqs,hoz,hbel⟩;obtain⟨ua,uc,rfl⟩:=own_sl hoz.1;have k1:=blk_below hb1 hbel;have k2:=blk_below hb2 hbel;obtain⟨⟨p0,p1⟩,⟨q0,q1⟩,⟨r0,r1⟩,rf,kz⟩:=two_facts (by omega) (.slice ua qs.length uc) k1 k2;clear hone)
 have e0:=(blk_cell kz 0).trans rfl;have e1:=(blk_cell kz 1).trans rfl;refine bodyPost_ret (v:=.agg #[.string o,.slice ua qs.length uc]) ?_ rfl ?_
 ·simp [results,Tryz.results7,go_sem,Result.andThen,e0,e1]
 ·have hsz:(((w.alloc (.cells #[.string o,.slice a ps.length cap] 24)).alloc (.cells #[.string ⟨#[]⟩,.slice none 0 0] 33)).alloc (.cells #[.string o,.slice none 0 0] 33)).heap.size=w.heap.size+3:=by simp
  rw [hsz] at hoz;refine⟨_,qs,rfl,hqs,⟨?_,fun q hq=>?_⟩,?_⟩
  ·exact own_base (own_far_lt (own_far_lt (own_far_lt hoz.1 (by omega)) (by omega)) (by omega)) (by omega)
  ·exact own_base (own_far_lt (own_far_lt (own_far_lt (hoz.2 q hq) (by omega)) (by omega)) (by omega)) (by omega)
  ·exact(((Nm.below_two hB hbel).setCell (by simp;omega) _).setCell (by simp) _).setCell (by simp) _
end Go.Proofs.YtgilkakllagbnaaGreat
namespace Go.Proofs.YtgilkakllagbnaaGreat
open Go.RowKit
def cutCode(t:Int)(d:ByteArray):Int:=
 if t<0∨65535<t then 6 else if 65535<d.size then 7 else if(Dt.spans (Dt.implP t) 0 d).isSome then 0 else 7
def cutS(t:Int)(d:ByteArray):Option (List (Nat×Nat)):=if t<0∨65535<t then none else if 65535<d.size then none else Dt.spans (Dt.implP t) 0 d
def spanCells(sp:List (Nat×Nat)):List Value:=sp.flatMap fun s=>[.int .i64 (s.1:Int),.int .i64 (s.2:Int)]
theorem spanCells_append(a b:List (Nat×Nat)):spanCells (a++b)=spanCells a++spanCells b:=by simp [spanCells]
def CAt(fs:List Dt.Pc)(d:ByteArray)(sp:List (Nat×Nat))(r:List Dt.Pc)(a:Nat):Prop:=
 Dt.spans fs 0 d=(Dt.spans r a (d.extract a d.size)).map (fun t=>sp++t)
theorem cat_start(fs:List Dt.Pc)(d:ByteArray):CAt fs d [] fs 0:=by simp [CAt]
theorem cat_end{fs:List Dt.Pc}{d:ByteArray}{sp:List (Nat×Nat)}{a:Nat}(h:CAt fs d sp [] a)(h0:d.size<=a):Dt.spans fs 0 d=some sp:=by
 rw [h,Dt.spans,if_pos (by simp;omega)];simp
theorem cat_left{fs:List Dt.Pc}{d:ByteArray}{sp:List (Nat×Nat)}{a:Nat}(h:CAt fs d sp [] a)(h0:a<d.size):Dt.spans fs 0 d=none:=by
 rw [h,Dt.spans,if_neg (by simp;omega)];rfl
theorem cat_none{fs r:List Dt.Pc}{p:Dt.Pc}{d:ByteArray}{sp:List (Nat×Nat)}{a:Nat}(h:CAt fs d sp (p::r) a)(h0:Dt.sz p (d.extract a d.size)=none):Dt.spans fs 0 d=none:=by
 rw [h,Dt.spans,h0];rfl
theorem cat_step{fs r:List Dt.Pc}{p:Dt.Pc}{d:ByteArray}{sp:List (Nat×Nat)}{a n:Nat}(h:CAt fs d sp (p::r) a)(ha:a<=d.size)(h0:Dt.sz p (d.extract a d.size)=some n):
 CAt fs d (sp++if p.isN then [(a,a+n)] else []) r (a+n)∧a+n<=d.size:=by
 have hn:=Dt.sz_le h0;have hz:(d.extract a d.size).size=d.size-a:=by simp
 refine⟨?_,by omega⟩;rw [CAt,h,Dt.spans,h0,Option.map_map,Dt.ext_ext (by omega) (Nat.le_refl _)];congr 1;funext t
 cases p.isN<;>simp
theorem code_type{t:Int}{d:ByteArray}(h:t<0∨65535<t):cutCode t d=6∧cutS t d=none:=by
 rw [cutCode,cutS,if_pos h,if_pos h];exact⟨rfl,rfl⟩
theorem code_long{t:Int}{d:ByteArray}(h:¬(t<0∨65535<t))(h1:65535<d.size):cutCode t d=7∧cutS t d=none:=by
 rw [cutCode,cutS,if_neg h,if_neg h,if_pos h1,if_pos h1];exact⟨rfl,rfl⟩
theorem code_none{t:Int}{d:ByteArray}(h:¬(t<0∨65535<t))(h1:¬65535<d.size)(h2:Dt.spans (Dt.implP t) 0 d=none):cutCode t d=7∧cutS t d=none:=by
 rw [cutCode,cutS,if_neg h,if_neg h,if_neg h1,if_neg h1,h2];exact⟨rfl,rfl⟩
theorem code_some{t:Int}{d:ByteArray}{sp:List (Nat×Nat)}(h:¬(t<0∨65535<t))(h1:¬65535<d.size)(h2:Dt.spans (Dt.implP t) 0 d=some sp):cutCode t d=0∧cutS t d=some sp:=by
 rw [cutCode,cutS,if_neg h,if_neg h,if_neg h1,if_neg h1,h2];exact⟨rfl,rfl⟩
theorem implP_len(t:Int):(Dt.implP t).length<=5:=by
 unfold Dt.implP
 repeat' split
 all_goals simp
end Go.Proofs.YtgilkakllagbnaaGreat
