import Derived.Test.YtmdinnjimioffaaGreatJTrG
import Derived.RegionTactic
import Derived.BigRegion
import Derived.Deep.RegionHeld3
import Derived.Test.YtmdinnjimioffaaGreatJTrM
import Derived.Test.YtmdinnjimioffaaGreatJOrdL
import Derived.Maps.AppendAt
namespace Go.Proofs.YtmdinnjimioffaaGreat
open Go.RowKit
set_option linter.unusedVariables false
set_option maxRecDepth 100000 in
set_option maxHeartbeats 1600000 in
theorem lwRecordsV_any(v u:Value)(xs:List Rr)(w:World)(h:CRow w v xs.length 5 (rvVs xs))(h':CRow w u xs.length 5 (rvVs xs))(hlen:xs.length<=1000000):
 Calls Tryz.prog 10 #[v,u] w fun e w'=>e=.returned (.bool true)∧Below w.heap.size w w':=by
 obtain⟨_,a,cap,rfl,hcap,hmx,hc⟩:=h;obtain⟨_,a',cap',rfl,hcap',hmx',hc'⟩:=h';have hne:((xs.length:Int) != (xs.length:Int))=false:=by simp
 go_enter Tryz.func10,Tryz.ntmps10;go_wp2
 go_loopw [5] (fun i wr=>∃ k:Nat,k<=xs.length∧i=.int .i64 k∧Below w.heap.size w wr) (fun i _=>xs.length-(intOf i).toNat)
 case atStart=>exact⟨0,Nat.zero_le _,rfl,Below.refl _ _⟩
 case round=>
  obtain⟨k,hk,rfl,hbel⟩:=hrel
  by_cases hlt:k<xs.length
  ·obtain⟨x,hx⟩:∃ x,xs[k]? =some x:=⟨_,List.getElem?_eq_getElem hlt⟩;obtain⟨b,off,rfl,hcell⟩:=hc (by omega);obtain⟨b',off',rfl,hcell'⟩:=hc' (by omega);have put:∀ {B O:Nat} {z:Value},w.cell? ⟨B,O,none⟩=some z->wr.cell? ⟨B,O,none⟩=some z:=fun h=>(hbel.cell (World.block_lt_of_cell? w _ h)).trans h
   obtain⟨c0,c1,c2,c3,c4⟩:=rv_cells hcell hx;obtain⟨d0,d1,d2,d3,d4⟩:=rv_cells hcell' hx
   replace c0:=put c0
   replace c1:=put c1
   replace c2:=put c2
   replace c3:=put c3
   replace c4:=put c4
   replace d0:=put d0
   replace d1:=put d1
   replace d2:=put d2
   replace d3:=put d3
   replace d4:=put d4
   obtain⟨ns,ty,cl,tt,ds⟩:=x;simp only at c0 c1 c2 c3 c4 d0 d1 d2 d3 d4
   have i1:(0:Int)<=(k:Int):=by omega
   have i2:(k:Int)<(xs.length:Int):=by omega
   clear hc hc' hcell hcell' hx put;go_wp2;go_region
   go_wp2;go_roundw
   case rel=>exact⟨k+1,by omega,by go_num,hbel.drew⟩
   case measure=>simp [intOf];omega
  ·clear hc hc';go_wp2;go_ret;exact⟨rfl,hbel⟩
set_option maxRecDepth 100000 in
set_option maxHeartbeats 1600000 in
theorem lwStrings_any(v u:Value)(xs:List ByteArray)(w:World)(h:Nm.SRow w v xs)(h':Nm.SRow w u xs):
 Calls Tryz.prog 30 #[v,u] w fun e w'=>e=.returned (.bool true)∧Below w.heap.size w w':=by
 obtain⟨a,cap,rfl,hcap,hmx,_,hc⟩:=h;obtain⟨a',cap',rfl,hcap',hmx',_,hc'⟩:=h';have hlen:xs.length<=maxLen:=by omega
 unfold maxLen at hlen;have hne:((xs.length:Int) != (xs.length:Int))=false:=by simp
 clear hcap hmx hcap' hmx';go_enter Tryz.func30,Tryz.ntmps30;go_wp2
 go_loopw [5] (fun i wr=>∃ k:Nat,k<=xs.length∧i=.int .i64 k∧Below w.heap.size w wr) (fun i _=>xs.length-(intOf i).toNat)
 case atStart=>exact⟨0,Nat.zero_le _,rfl,Below.refl _ _⟩
 case round=>
  obtain⟨k,hk,rfl,hbel⟩:=hrel
  by_cases hlt:k<xs.length
  ·obtain⟨x,hx⟩:∃ x,xs[k]? =some x:=⟨_,List.getElem?_eq_getElem hlt⟩;obtain⟨b,off,rfl,hcell⟩:=hc (by intro e;rw [e] at hlt;simp at hlt);obtain⟨b',off',rfl,hcell'⟩:=hc' (by intro e;rw [e] at hlt;simp at hlt);have put:∀ {B O:Nat} {z:Value},w.cell? ⟨B,O,none⟩=some z->wr.cell? ⟨B,O,none⟩=some z:=fun h=>(hbel.cell (World.block_lt_of_cell? w _ h)).trans h
   have c0:=put (hcell k x hx);have d0:=put (hcell' k x hx);have i1:(0:Int)<=(k:Int):=by omega
   have i2:(k:Int)<(xs.length:Int):=by omega
   clear hc hc' hcell hcell' hx put;go_wp2;go_region
   go_wp2;go_roundw
   case rel=>exact⟨k+1,by omega,by go_num,hbel.drew⟩
   case measure=>simp [intOf];omega
  ·clear hc hc';go_wp2;go_ret;exact⟨rfl,hbel⟩
theorem zrow_same_len{w:World}{v:Value}{ps:List Zp}(h:ZRow w v ps):∃ a c,v=.slice a ps.length c∧ps.length<=maxLen:=by
 obtain⟨⟨_,a,c,e,h1,h2,_⟩,_⟩:=h;exact⟨a,c,e,by omega⟩
set_option maxRecDepth 100000 in
set_option maxHeartbeats 3200000 in
theorem lwZone_any(o:ByteArray)(v u:Value)(ps qs:List Zp)(w:World)(h:ZRow w v ps)(h':ZRow w u qs)(hs:qs.map (·.1)=ps.map (·.1)):
 Calls Tryz.prog 7 #[.agg #[.string o,v],.agg #[.string o,u]] w fun e w'=>e=.returned (.bool true)∧Below w.heap.size w w':=by
 have hql:qs.length=ps.length:=by have:=congrArg List.length hs;simpa using this
 obtain⟨va,vc,rfl,hpl⟩:=zrow_same_len h;obtain⟨ua,uc,rfl,-⟩:=zrow_same_len h';unfold maxLen at hpl;have k1:=blk_new w #[.string o,.slice va ps.length vc] 28;have b1:=(Below.refl w.heap.size w).alloc (Nat.le_refl _) (.cells #[.string o,.slice va ps.length vc] 28);have k2:=blk_alloc k1 (.cells #[.string o,.slice ua qs.length uc] 28);have kq:=blk_new (w.alloc (.cells #[.string o,.slice va ps.length vc] 28)) #[.string o,.slice ua qs.length uc] 28;rw [World.size_alloc] at kq;have b2:=b1.alloc b1.size (.cells #[.string o,.slice ua qs.length uc] 28);rw [hql] at k2 kq b2 ⊢;have HZ:Hid (∀ W,Below w.heap.size w W->ZRow W (.slice va ps.length vc) ps∧ZRow W (.slice ua ps.length uc) qs):=fun W hW=>⟨h.below hW,by rw [<- hql];exact h'.below hW⟩
 have HS:=Nm.hide hs;have hne:((ps.length:Int) != (ps.length:Int))=false:=by simp
 have hno:(o.toList != o.toList)=false:=by simp
 have r1:=fun i=>blk_cell k2 i
 have r2:=fun i=>blk_cell kq i
 clear h h' hs k1 b1 hql;go_enter Tryz.func7,Tryz.ntmps7;go_wp2
 go_loopw [5] (fun i wr=>∃ k:Nat,k<=ps.length∧i=.int .i64 k∧Below w.heap.size w wr∧Blk wr w.heap.size #[.string o,.slice va ps.length vc] 28∧Blk wr (w.heap.size+1) #[.string o,.slice ua ps.length uc] 28) (fun i _=>ps.length-(intOf i).toNat)
 case atStart=>exact⟨0,Nat.zero_le _,rfl,b2,k2,kq⟩
 case round=>
  clear k2 kq b2 r1 r2;obtain⟨k,hk,rfl,hb,ka,kb⟩:=hrel;have r1:=fun i=>blk_cell ka i
  have r2:=fun i=>blk_cell kb i
  by_cases hlt:k<ps.length
  ·obtain⟨p,hp⟩:∃ p,ps[k]? =some p:=⟨_,List.getElem?_eq_getElem hlt⟩;obtain⟨s,pv⟩:=p
   obtain⟨qv,hq⟩:∃ qv,qs[k]? =some (s,qv):=by
    have h1:=congrArg (fun l=>l[k]?) HS.out;simp only [List.getElem?_map,hp,Option.map_some] at h1
    cases hq:qs[k]? with
    |none=>rw [hq] at h1;cases h1
    |some q=>
     rw [hq] at h1;obtain⟨s',qv⟩:=q;obtain rfl:s'=s:=Option.some.inj h1;exact⟨qv,rfl⟩
   obtain⟨hz1,hz2⟩:=HZ.out wr hb;have sp:=hz1.2 _ (List.mem_of_getElem? hp);have sq:=hz2.2 _ (List.mem_of_getElem? hq);obtain⟨pa,pc,rfl⟩:∃ a c,pv=.slice a s.da.length c:=by obtain⟨a,c,e,_⟩:=sp;exact⟨a,c,e⟩
   obtain⟨qa,qc,rfl⟩:∃ a c,qv=.slice a s.da.length c:=by obtain⟨a,c,e,_⟩:=sq;exact⟨a,c,e⟩
   obtain⟨⟨_,a9,c9,e9,_,_,hc9⟩,_⟩:=hz1;simp only [Value.slice.injEq] at e9;obtain⟨rfl,_,rfl⟩:=e9;obtain⟨⟨_,a8,c8,e8,_,_,hc8⟩,_⟩:=hz2;simp only [Value.slice.injEq] at e8;obtain⟨rfl,hl8,rfl⟩:=e8;obtain⟨b,off,rfl,hcell⟩:=hc9 (by omega);obtain⟨b',off',rfl,hcell'⟩:=hc8 (by omega);obtain⟨c0,c1,c2,c3⟩:=zp_cells hcell hp;obtain⟨d0,d1,d2,d3⟩:=zp_cells hcell' hq;have bA:=((Below.refl wr.heap.size wr).alloc (Nat.le_refl _) (.cells #[.string s.own,.int .i64 s.ty,.int .i64 s.tt,(.slice pa s.da.length pc)] 65)).alloc (by simp) (.cells #[.string s.own,.int .i64 s.ty,.int .i64 s.tt,(.slice qa s.da.length qc)] 65);have kx:=blk_alloc (blk_new wr #[.string s.own,.int .i64 s.ty,.int .i64 s.tt,(.slice pa s.da.length pc)] 65) (.cells #[.string s.own,.int .i64 s.ty,.int .i64 s.tt,(.slice qa s.da.length qc)] 65);have ky:=blk_new (wr.alloc (.cells #[.string s.own,.int .i64 s.ty,.int .i64 s.tt,(.slice pa s.da.length pc)] 65)) #[.string s.own,.int .i64 s.ty,.int .i64 s.tt,(.slice qa s.da.length qc)] 65;rw [World.size_alloc] at ky;have hst:=lwStrings_any (.slice pa s.da.length pc) (.slice qa s.da.length qc) s.da _ (sp.below bA) (sq.below bA);have kaA:=blk_below ka bA;have kbA:=blk_below kb bA;have hbA:=Nm.below_two hb bA;have rx:=fun i=>blk_cell kx i
   have ry:=fun i=>blk_cell ky i
   have rb:=fun i=>blk_cell (blk_alloc kb (.cells #[.string s.own,.int .i64 s.ty,.int .i64 s.tt,(.slice pa s.da.length pc)] 65)) i
   have i1:(0:Int)<=(k:Int):=by omega
   have i2:(k:Int)<(ps.length:Int):=by omega
   have hn1:(s.own.toList != s.own.toList)=false:=by simp
   have hn2:(s.ty != s.ty)=false:=by simp
   have hn3:(s.tt != s.tt)=false:=by simp
   have e0:(wr.alloc (.cells #[.string s.own,.int .i64 s.ty,.int .i64 s.tt,(.slice pa s.da.length pc)] 65)).cell? ⟨b',off'+k*4,none⟩=some (.string s.own):=(((Below.refl wr.heap.size wr).alloc (Nat.le_refl _) _).cell (World.block_lt_of_cell? wr _ d0)).trans d0;have e1:(wr.alloc (.cells #[.string s.own,.int .i64 s.ty,.int .i64 s.tt,(.slice pa s.da.length pc)] 65)).cell? ⟨b',off'+k*4+1,none⟩=some (.int .i64 s.ty):=(((Below.refl wr.heap.size wr).alloc (Nat.le_refl _) _).cell (World.block_lt_of_cell? wr _ d1)).trans d1;have e2:(wr.alloc (.cells #[.string s.own,.int .i64 s.ty,.int .i64 s.tt,(.slice pa s.da.length pc)] 65)).cell? ⟨b',off'+k*4+2,none⟩=some (.int .i64 s.tt):=(((Below.refl wr.heap.size wr).alloc (Nat.le_refl _) _).cell (World.block_lt_of_cell? wr _ d2)).trans d2;have e3:(wr.alloc (.cells #[.string s.own,.int .i64 s.ty,.int .i64 s.tt,(.slice pa s.da.length pc)] 65)).cell? ⟨b',off'+k*4+3,none⟩=some (.slice qa s.da.length qc):=(((Below.refl wr.heap.size wr).alloc (Nat.le_refl _) _).cell (World.block_lt_of_cell? wr _ d3)).trans d3;have HC:=Nm.hide (And.intro hbA (And.intro kaA kbA));generalize s.own=ow at*;generalize s.ty=ty at*;generalize s.tt=tt at*;generalize s.da.length=dl at*;clear hc9 hc8 hcell hcell' sp sq bA kx ky hbA kaA kbA d0 d1 d2 d3 hp hq hl8;go_wp2_with fail
   refine hst.mono ?_;rintro e w2 ⟨rfl,b2⟩;have k2a:=blk_below HC.out.2.1 b2;have k2b:=blk_below HC.out.2.2 b2;have bw:=Nm.below_two HC.out.1 b2;clear hst rx ry rb e0 e1 e2 e3 c0 c1 c2 c3 HC b2;go_wp2;go_roundw
   case rel=>exact⟨k+1,by omega,by go_num,bw,k2a,k2b⟩
   case measure=>simp [intOf];omega
  ·have i2:¬(k:Int)<(ps.length:Int):=by omega
   go_wp2;go_ret;exact⟨rfl,hb⟩
theorem Tryz.infoRrq:(Tryz.prog.info? 33).map (fun i=>(i.zero,i.size,i.bytes))=some (some (.agg #[.string ByteArray.empty,.int .i64 0,.int .i64 0,.int .i64 0,.string ByteArray.empty]),5,56):=by kernel_rfl
set_option maxRecDepth 100000 in
set_option maxHeartbeats 3200000 in
theorem l06SetRecords_any(s:Sz)(dv:Value)(w:World)(h:Nm.SRow w dv s.da)(hl:s.da.length<=1048576):
 Calls Tryz.prog 72 #[.agg #[.string s.own,.int .i64 s.ty,.int .i64 s.tt,dv]] w fun e w'=>∃ u,e=.returned u∧w'.ownsRow w.heap.size 33 5 u (recsOf s).length (rvVs (recsOf s))∧Below w.heap.size w w':=by
 obtain⟨i0,hi,hz0,hz1,hz2⟩:=info_parts Tryz.infoRrq;have hrl:=recsOf_len s;have hget:=fun(k:Nat) (d:ByteArray) (h:s.da[k]? =some d)=>recsOf_get (s:=s) h
 generalize recsOf s=rs at*;obtain⟨o,ty,tt,da⟩:=s;simp only at*
 have hB0:=(Below.refl w.heap.size w).alloc (Nat.le_refl _) (.cells #[.string o,.int .i64 ty,.int .i64 tt,dv] 65);have hrow:=h.below hB0;have hbx:=blk_new w #[.string o,.int .i64 ty,.int .i64 tt,dv] 65;obtain⟨a,cap,rfl,hcap,hmx,hnl,hc⟩:=hrow;clear h;unfold maxLen at hmx;go_enter Tryz.func72,Tryz.ntmps72;go_wp2;have hsz0:(w.alloc (.cells #[.string o,.int .i64 ty,.int .i64 tt,.slice a da.length cap] 65)).heap.size=w.heap.size+1:=by simp
 generalize w.alloc (.cells #[.string o,.int .i64 ty,.int .i64 tt,.slice a da.length cap] 65)=w0 at*;have o0:=World.ownsRow_lit (base:=w0.heap.size) (e:=33) (size:=5) w0 #[] 0 (Nat.le_refl _) (by decide) rfl
 have hall:∀ W,Below w0.heap.size w0 W->∀ (k:Nat) (x:ByteArray),da[k]? =some x->∃ b off,a=some ⟨b,off,none⟩∧W.cell? ⟨b,off+k,none⟩=some (.string x):=by
  intro W hW k x hx;obtain⟨b,off,rfl,hcell⟩:=hc (by intro h;rw [h] at hx;simp at hx);have h0:=hcell k x hx;exact⟨b,off,rfl,(hW.cell (World.block_lt_of_cell? w0 _ h0)).trans h0⟩
 have hbox:∀ W,Below w0.heap.size w0 W->W.cell? ⟨w.heap.size,0,none⟩=some (.string o)∧W.cell? ⟨w.heap.size,1,none⟩=some (.int .i64 ty)∧W.cell? ⟨w.heap.size,2,none⟩=some (.int .i64 tt)∧W.cell? ⟨w.heap.size,3,none⟩=some (.slice a da.length cap):=by
  intro W hW;have hb:=blk_below hbx hW;exact⟨(blk_cell hb 0).trans rfl,(blk_cell hb 1).trans rfl,(blk_cell hb 2).trans rfl,(blk_cell hb 3).trans rfl⟩
 clear hc hbx
 go_loopw [3,4] (fun vo vi wr=>∃ k:Nat,k<=da.length∧vi=.int .i64 k∧wr.ownsRow w0.heap.size 33 5 vo k (rvVs (rs.take k))∧Below w0.heap.size w0 wr) (fun _ vi _=>da.length-(intOf vi).toNat)
 case atStart=>exact⟨0,Nat.zero_le _,rfl,by rw [<- hsz0];exact o0,(Below.refl _ _).alloc (Nat.le_refl _) _⟩
 case round=>
  obtain⟨k,hk,rfl,oO,hbel⟩:=hrel;clear o0;obtain⟨q0,q1,q2,q3⟩:=hbox wr hbel
  by_cases hlt:k<da.length
  ·obtain⟨x,hx⟩:∃ x,da[k]? =some x:=⟨_,List.getElem?_eq_getElem hlt⟩;obtain⟨b,off,rfl,_⟩:=hall wr hbel k x hx
   have hcx:∀ W,Below w0.heap.size w0 W->W.cell? ⟨w.heap.size,0,none⟩=some (.string o)∧W.cell? ⟨w.heap.size,1,none⟩=some (.int .i64 ty)∧W.cell? ⟨w.heap.size,2,none⟩=some (.int .i64 tt)∧W.cell? ⟨w.heap.size,3,none⟩=some (.slice (some ⟨b,off,none⟩) da.length cap)∧W.cell? ⟨b,off+k,none⟩=some (.string x):=by
    intro W hW;obtain⟨y0,y1,y2,y3⟩:=hbox W hW;obtain⟨b',off',he,hcc⟩:=hall W hW k x hx;cases he
    exact⟨y0,y1,y2,y3,hcc⟩
   have HT:Hid (rvVs (rs.take k)++[.string o,.int .i64 ty,.int .i64 1,.int .i64 tt,.string x]=rvVs (rs.take (k+1))):=by
    show _=_
    rw [hget k x hx,rvVs_app];rfl
   have i1:(0:Int)<=(k:Int):=by omega
   have i2:(k:Int)<(da.length:Int):=by omega
   clear hall hbox hget hx;go_wp2_with fail
   refine wp_region_held_drew (S:=fun W=>Below w0.heap.size w0 W) (by kernel_rfl) hbel.drew (fun hHeld=>?_);clear q0 q1 q2 q3;refine wpAnyH_take (i:=0) (v:=?_) rfl (by kernel_rfl) (by kernel_rfl) (by kernel_rfl) (fun _ _ _ h=>h) (Or.inl ⟨by rfl,?_⟩) (by assumption) ?_;rotate_left 1
   ·(intro W hSW;obtain⟨z0,z1,z2,z3,z4⟩:=hcx W hSW;go_simp;try (with_reducible rfl))
   refine wpAnyH_take (i:=1) (v:=?_) rfl (by kernel_rfl) (by kernel_rfl) (by kernel_rfl) (fun _ _ _ h=>h) (Or.inl ⟨by rfl,?_⟩) (by assumption) ?_;rotate_left 1
   ·(intro W hSW;obtain⟨z0,z1,z2,z3,z4⟩:=hcx W hSW;go_simp;try (with_reducible rfl))
   refine wpAnyH_take (i:=2) (v:=?_) rfl (by kernel_rfl) (by kernel_rfl) (by kernel_rfl) (fun _ _ _ h=>h) (Or.inl ⟨by rfl,?_⟩) (by assumption) ?_;rotate_left 1
   ·(intro W hSW;obtain⟨z0,z1,z2,z3,z4⟩:=hcx W hSW;go_simp;try (with_reducible rfl))
   refine wpAnyH_take (i:=3) (v:=?_) rfl (by kernel_rfl) (by kernel_rfl) (by kernel_rfl) (fun _ _ _ h=>h) (Or.inl ⟨by rfl,?_⟩) (by assumption) ?_;rotate_left 1
   ·(intro W hSW;obtain⟨z0,z1,z2,z3,z4⟩:=hcx W hSW;go_simp;try (with_reducible rfl))
   refine wpAnyH_take (i:=4) (v:=?_) rfl (by kernel_rfl) (by kernel_rfl) (by kernel_rfl) (fun _ _ _ h=>h) (Or.inl ⟨by rfl,?_⟩) (by assumption) ?_;rotate_left 1
   ·(intro W hSW;obtain⟨z0,z1,z2,z3,z4⟩:=hcx W hSW;go_simp;try (with_reducible rfl))
   refine wpAnyH_take (i:=5) (v:=?_) rfl (by kernel_rfl) (by kernel_rfl) (by kernel_rfl) (fun _ _ _ h=>h) (Or.inl ⟨by rfl,?_⟩) (by assumption) ?_;rotate_left 1
   ·(intro W hSW;obtain⟨z0,z1,z2,z3,z4⟩:=hcx W hSW;go_simp;try (with_reducible rfl))
   refine wpAnyH_take (i:=6) (v:=?_) rfl (by kernel_rfl) (by kernel_rfl) (by kernel_rfl) (fun _ _ _ h=>h) (Or.inl ⟨by rfl,?_⟩) (by assumption) ?_;rotate_left 1
   ·(intro W hSW;obtain⟨z0,z1,z2,z3,z4⟩:=hcx W hSW;go_simp;try (with_reducible rfl))
   refine wpAnyH_take (i:=7) (v:=?_) rfl (by kernel_rfl) (by kernel_rfl) (by kernel_rfl) (fun _ _ _ h=>h) (Or.inl ⟨by rfl,?_⟩) (by assumption) ?_;rotate_left 1
   ·(intro W hSW;obtain⟨z0,z1,z2,z3,z4⟩:=hcx W hSW;go_simp;try (with_reducible rfl))
   refine wpAnyH_take (i:=8) (v:=?_) rfl (by kernel_rfl) (by kernel_rfl) (by kernel_rfl) (fun _ _ _ h=>h) (Or.inl ⟨by rfl,?_⟩) (by assumption) ?_;rotate_left 1
   ·(intro W hSW;obtain⟨z0,z1,z2,z3,z4⟩:=hcx W hSW;go_simp;try (with_reducible rfl))
   refine wpAnyH_take (i:=9) (v:=?_) rfl (by kernel_rfl) (by kernel_rfl) (by kernel_rfl) (fun _ _ _ h=>h) (Or.inl ⟨by rfl,?_⟩) (by assumption) ?_;rotate_left 1
   ·(intro W hSW;obtain⟨z0,z1,z2,z3,z4⟩:=hcx W hSW;go_simp;try (with_reducible rfl))
   refine wpAnyH_take (i:=10) (v:=?_) rfl (by kernel_rfl) (by kernel_rfl) (by kernel_rfl) (fun _ _ _ h=>h) (Or.inl ⟨by rfl,?_⟩) (by assumption) ?_;rotate_left 1
   ·(intro W hSW;obtain⟨z0,z1,z2,z3,z4⟩:=hcx W hSW;go_simp;try (with_reducible rfl))
   refine wpAnyH_take (i:=11) (v:=?_) rfl (by kernel_rfl) (by kernel_rfl) (by kernel_rfl) (fun _ _ _ h=>h) (Or.inl ⟨by rfl,?_⟩) (by assumption) ?_;rotate_left 1
   ·(intro W hSW;obtain⟨z0,z1,z2,z3,z4⟩:=hcx W hSW;go_simp;try (with_reducible rfl))
   refine wpAnyH_take (i:=12) (v:=?_) rfl (by kernel_rfl) (by kernel_rfl) (by kernel_rfl) (fun _ _ _ h=>h) (Or.inl ⟨by rfl,?_⟩) (by assumption) ?_;rotate_left 1
   ·(intro W hSW;obtain⟨z0,z1,z2,z3,z4⟩:=hcx W hSW;go_simp;try (with_reducible rfl))
   refine wpAnyH_ready (rs:=[13]) (by kernel_rfl) (by simp) ?_;refine AllReadyH.cons rfl (fun K hK=>?_) AllReadyH.nil;go_simp;refine hK.out _ _ (hHeld.alloc hHeld.size _) (fun _=>?_);clear hK K;refine wpAnyH_ready (rs:=[14]) (by kernel_rfl) (by simp) ?_;refine AllReadyH.cons rfl (fun K hK=>?_) AllReadyH.nil;refine step_append_own rfl (.tmp 13) (.tmp 26) 23 rfl w0.heap.size 33 i0 _ 5 56 Tryz.underlying23 hi hz0 hz1 hz2 rfl (by decide) _ _ _ (by rfl) (own_below oO ((Below.refl _ _).drew.alloc (Nat.le_refl _) _)) ⟨wr.drew.heap.size,0,none⟩ 1 1 [.string o,.int .i64 ty,.int .i64 1,.int .i64 tt,.string x] (by rfl) rfl (cell_newV _ _ _) (by intro u hu;simp at hu;rcases hu with rfl|rfl|rfl|rfl|rfl<;>rfl) (by unfold maxLen;omega) (by omega) (by have:=hHeld.size;simp at this ⊢;omega) ?_;intro va wa hown' hgrow _;rw [HT.out] at hown';have b4:Below w0.heap.size w0 wa:=(hHeld.alloc hHeld.size _).grown hgrow (by have:=hHeld.size;simp at this ⊢;omega) (fun k hk=>(oO.lt k hk).1);refine hK.out _ _ b4 (fun _=>?_);clear hK K hgrow oO hHeld;refine wpAnyH_take (i:=15) (v:=?_) rfl (by kernel_rfl) (by kernel_rfl) (by kernel_rfl) (fun _ _ _ h=>h) (Or.inl ⟨by rfl,?_⟩) (by assumption) ?_;rotate_left 1
   ·(intro W hSW;obtain⟨z0,z1,z2,z3,z4⟩:=hcx W hSW;go_simp;try (with_reducible rfl))
   refine wpAnyH_done (by kernel_rfl) ?_ _;obtain⟨z0,z1,z2,z3,z4⟩:=hcx _ b4;go_wp2;go_roundw
   case rel=>exact⟨k+1,by omega,by go_num,hown',b4⟩
   case measure=>simp [intOf];omega
  ·have hkl:k=da.length:=by omega
   subst hkl;have i2:(da.length:Int)<=(da.length:Int):=by omega
   clear hall hbox hget;rw [List.take_of_length_le (by omega)] at oO;go_wp2;go_ret;refine⟨_,rfl,?_,Nm.below_two hB0 hbel⟩;rw [hrl];exact own_base oO hB0.size
set_option maxRecDepth 100000 in
set_option maxHeartbeats 3200000 in
theorem l06Join_any(a b:Value)(xs ys:List Rr)(B B2:Nat)(w:World)(h:w.ownsRow B 33 5 a xs.length (rvVs xs))(h':w.ownsRow B2 33 5 b ys.length (rvVs ys))(hB:B<=w.heap.size)(hlt:∀ g,a.ownBlock=some g->g<B2)(hn:xs.length+ys.length<=2000000):
 Calls Tryz.prog 71 #[a,b] w fun e w'=>∃ u,e=.returned u∧w'.ownsRow B 33 5 u (xs++ys).length (rvVs (xs++ys))∧Below B w w':=by
 obtain⟨i0,hi,hz0,hz1,hz2⟩:=info_parts Tryz.infoRrq;obtain⟨ba,bc,rfl⟩:=own_sl h';go_enter Tryz.func71,Tryz.ntmps71;go_wp2
 go_loopw [0,5] (fun vo vi wr=>∃ k:Nat,k<=ys.length∧vi=.int .i64 k∧wr.ownsRow B 33 5 vo (xs.length+k) (rvVs (xs++ys.take k))∧wr.ownsRow B2 33 5 (.slice ba ys.length bc) ys.length (rvVs ys)∧(∀ g,vo.ownBlock=some g->(Value.slice ba ys.length bc).ownBlock≠some g)∧B<=wr.heap.size∧Below B w wr) (fun _ vi _=>ys.length-(intOf vi).toNat)
 case atStart=>
  refine⟨0,Nat.zero_le _,rfl,by simpa using h,h',fun g hg e=>?_,hB,Below.refl _ _⟩;have h1:=hlt g hg;have h2:=(h'.lt g e).1;omega
 case round=>
  obtain⟨k,hk,rfl,oO,oY,hap,hBw,hbel⟩:=hrel;clear h h' hlt hB
  by_cases hlt:k<ys.length
  ·obtain⟨x,hx⟩:∃ x,ys[k]? =some x:=⟨_,List.getElem?_eq_getElem hlt⟩;obtain⟨_,ya,yc,hyv,hycap,hymx,hyc⟩:=CRow.of_owns oY;simp only [Value.slice.injEq] at hyv;obtain⟨rfl,_,rfl⟩:=hyv;obtain⟨b,off,rfl,hcell⟩:=hyc (by omega);obtain⟨c0,c1,c2,c3,c4⟩:=rv_cells hcell hx
   have HT:Hid (rvVs (xs++ys.take k)++[.string x.own,.int .i64 x.ty,.int .i64 x.cl,.int .i64 x.tt,.string x.da]=rvVs (xs++ys.take (k+1))):=by
    show _=_
    rw [List.take_add_one,hx,<- List.append_assoc,rvVs_app (xs++ys.take k)];rfl
   have i1:(0:Int)<=(k:Int):=by omega
   have i2:(k:Int)<(ys.length:Int):=by omega
   clear hcell hyc hx;obtain⟨o,ty,cl,tt,da⟩:=x;simp only at c0 c1 c2 c3 c4 HT
   obtain⟨oa,oc,hov⟩:=own_sl oO;subst hov;go_wp2_with (at_builtin;refine wpList_append_own_at _ rfl (.tmp 12) (.tmp 17) 23 rfl B 33 i0 _ 5 56 Tryz.underlying23 hi hz0 hz1 hz2 rfl (by decide) (.slice oa (xs.length+k) oc) (xs.length+k) (rvVs (xs++ys.take k)) rfl (own_below oO ((Below.refl _ _).alloc (Nat.le_refl _) _)) ⟨wr.heap.size,0,none⟩ 1 1 [.string o,.int .i64 ty,.int .i64 cl,.int .i64 tt,.string da] rfl rfl (cell_newV _ _ _) (by intro u hu;simp at hu;rcases hu with rfl|rfl|rfl|rfl|rfl<;>rfl) (by unfold maxLen;omega) (by omega) (by simp;omega) ?_;intro va wa ho9 hg9 hnl9 hat9)
   rw [HT.out] at ho9;have oY2:=own_below oY ((Below.refl _ _).alloc (Nat.le_refl _) (.cells #[.string o,.int .i64 ty,.int .i64 cl,.int .i64 tt,.string da] 33))
   have oY3:wa.ownsRow B2 33 5 (.slice (some ⟨b,off,none⟩) ys.length bc) ys.length (rvVs ys):=by
    refine oY2.kept hg9 ?_
    cases hoa:(Value.slice oa (xs.length+k) oc).ownBlock with
    |none=>right;simp [Value.ownBlock]
    |some g=>right;exact hap g hoa
   have hlty:=(oY.lt b rfl).2
   have hap2:∀ g,va.ownBlock=some g->(Value.slice (some ⟨b,off,none⟩) ys.length bc).ownBlock≠some g:=by
    intro g hg
    rcases hat9 with h9|h9
    ·exact hap g (by rw [<- h9];exact hg)
    ·rw [h9] at hg;simp only [Option.some.injEq,Value.ownBlock,ne_eq] at hg ⊢;simp at hg;omega
   have b4:Below B w wa:=(hbel.alloc hBw _).grown hg9 (by simp;omega) (fun g hg=>(oO.lt g hg).1);have hB4:B<=wa.heap.size:=by have:=hg9.size;simp at this;omega
   clear hat9 hnl9 hg9 oY oY2 oO hap;go_wp2;go_roundw
   case rel=>exact⟨k+1,by omega,by go_num,ho9,oY3,hap2,hB4,b4⟩
   case measure=>simp [intOf];omega
  ·have hkl:k=ys.length:=by omega
   subst hkl;have i2:(ys.length:Int)<=(ys.length:Int):=by omega
   rw [List.take_length] at oO;clear oY hap;go_wp2;go_ret;refine⟨_,rfl,?_,hbel⟩;rw [List.length_append];exact oO
set_option maxRecDepth 100000 in
set_option maxHeartbeats 1600000 in
theorem l06Count_any(o:ByteArray)(v:Value)(ps:List Zp)(w:World)(h:ZRow w v ps)(hs:zsum ps<=1048576)(hl:ps.length<=1048576):
 Calls Tryz.prog 70 #[.agg #[.string o,v]] w fun e w'=>e=.returned (.int .i64 (dsum ps:Int))∧Below w.heap.size w w':=by
 have hds:=dsum_le ps;have hB0:=(Below.refl w.heap.size w).alloc (Nat.le_refl _) (.cells #[.string o,v] 28);have hbx:=blk_new w #[.string o,v] 28;obtain⟨⟨_,a,cap,rfl,hcap,hmx,hc⟩,hd⟩:=h;unfold maxLen at hmx;have hb1:=(blk_cell hbx 1).trans rfl;go_enter Tryz.func70,Tryz.ntmps70;go_wp2
 go_loop [3,4] (fun t i=>∃ k:Nat,k<=ps.length∧i=.int .i64 k∧t=.int .i64 (dsum (ps.take k):Int)) (fun _ i=>ps.length-(intOf i).toNat)
 case atStart=>exact⟨0,Nat.zero_le _,rfl,by simp [dsum]⟩
 case round=>
  obtain⟨k,hk,rfl,rfl⟩:=hrel
  by_cases hlt:k<ps.length
  ·obtain⟨x,hxk⟩:∃ x,ps[k]? =some x:=⟨_,List.getElem?_eq_getElem hlt⟩;obtain⟨b,off,rfl,hcell⟩:=hc (by omega);obtain⟨c0,c1,c2,c3⟩:=zp_cells hcell hxk;have c3':=(hB0.cell (World.block_lt_of_cell? w _ c3)).trans c3;have HS:=dsum_step ps k x hxk;have hs1:=dsum_take_le ps (k+1);obtain⟨da',dc,hdv,_⟩:=hd x (List.mem_of_getElem? hxk);have i1:(0:Int)<=(k:Int):=by omega
   have i2:(k:Int)<(ps.length:Int):=by omega
   have hfin:((dsum (ps.take (k+1)):Nat):Int)=(dsum (ps.take k):Int)+(x.1.da.length:Int):=by omega
   have hbd:(dsum (ps.take k):Int)+(x.1.da.length:Int)<=1048576:=by omega
   clear hxk hcell hc hd;obtain⟨⟨o1,ty,tt,da⟩,dv⟩:=x;simp only at c3' hdv hfin hbd
   subst hdv;generalize hz:dsum (ps.take (k+1))=z1 at*;generalize dsum (ps.take k)=z0 at*;go_wp2
   go_round
   case rel=>exact⟨k+1,by omega,by go_num,by rw [hz,hfin]⟩
   case measure=>simp [intOf];omega
  ·have hkl:k=ps.length:=by omega
   subst hkl;clear hc hd;have i2:(ps.length:Int)<=(ps.length:Int):=by omega
   rw [List.take_length];go_wp2;go_ret;exact⟨rfl,hB0⟩
end Go.Proofs.YtmdinnjimioffaaGreat
