import Derived.Test.YtahpiciofdfipaaGreatCzE
import Derived.Test.YtahpiciofdfipaaGreatJFnV
import Derived.Test.YtahpiciofdfipaaGreatJSCheck
import Derived.Test.YtahpiciofdfipaaGreatJUnderM
import Derived.Test.YtahpiciofdfipaaGreatJCmpM
import Derived.BigQuiet
import Derived.Deep.CutRange
namespace Go.Proofs.YtahpiciofdfipaaGreat
open Go.RowKit
set_option linter.unusedVariables false
set_option maxRecDepth 100000 in
set_option maxHeartbeats 1600000 in
theorem l06SameSet_any(s t:Sz)(v u:Value)(w:World)(h:Nm.SRow w v s.da)(h':Nm.SRow w u t.da):
 Calls Tryz.prog 44 #[.agg #[.string s.own,.int .i64 s.ty,.int .i64 s.tt,v],.agg #[.string t.own,.int .i64 t.ty,.int .i64 t.tt,u]] w fun e w'=>e=.returned (.bool (eqSz s t))∧Below w.heap.size w w':=by
 have b1:=(Below.refl w.heap.size w).alloc (Nat.le_refl _) (.cells #[.string s.own,.int .i64 s.ty,.int .i64 s.tt,v] 44);have hB:=b1.alloc (by simp) (.cells #[.string t.own,.int .i64 t.ty,.int .i64 t.tt,u] 44);have k1:=blk_alloc (blk_new w #[.string s.own,.int .i64 s.ty,.int .i64 s.tt,v] 44) (.cells #[.string t.own,.int .i64 t.ty,.int .i64 t.tt,u] 44);have k2:=blk_new (w.alloc (.cells #[.string s.own,.int .i64 s.ty,.int .i64 s.tt,v] 44)) #[.string t.own,.int .i64 t.ty,.int .i64 t.tt,u] 44;rw [World.size_alloc] at k2;obtain⟨a,cap,rfl,hcap,hmx,_,hc⟩:=h;obtain⟨a',cap',rfl,hcap',hmx',_,hc'⟩:=h';obtain⟨so,st,stt,sd⟩:=s;obtain⟨to_,tt,ttt,td⟩:=t;unfold maxLen at hmx hmx';simp only [eqSz] at*;clear b1
 by_cases h1:so=to_
 ·subst h1;have e1:(so.toList==so.toList)=true:=by simp
  by_cases h2:st=tt
  ·subst h2;have e2:(st != st)=false:=by simp
   by_cases h3:stt=ttt
   ·subst h3;have e3:(stt != stt)=false:=by simp
    by_cases hl:sd.length=td.length
    ·have nl:((sd.length:Int) != (td.length:Int))=false:=by rw [hl];simp
     have HL:=Nm.hide hl;clear hl;go_enter Tryz.func44,Tryz.ntmps44;go_wp2
     go_loopw [5] (fun i wr=>∃ k:Nat,k<=sd.length∧i=.int .i64 k∧sd.take k=td.take k∧Below w.heap.size w wr∧Blk wr w.heap.size #[.string so,.int .i64 st,.int .i64 stt,.slice a sd.length cap] 44∧Blk wr (w.heap.size+1) #[.string so,.int .i64 st,.int .i64 stt,.slice a' td.length cap'] 44) (fun i _=>sd.length-(intOf i).toNat)
     case atStart=>exact⟨0,Nat.zero_le _,rfl,rfl,hB,k1,k2⟩
     case round=>
      obtain⟨k,hk,rfl,heq,hbel,q1,q2⟩:=hrel;have HR:=Nm.hide (And.intro heq (And.intro hbel (And.intro q1 q2)));have r1:=(blk_cell q1 3).trans rfl;have r2:=(blk_cell q2 3).trans rfl
      by_cases hlt:k<sd.length
      ·obtain⟨x,hx⟩:∃ x,sd[k]? =some x:=⟨_,List.getElem?_eq_getElem hlt⟩;obtain⟨y,hy⟩:∃ y,td[k]? =some y:=⟨_,List.getElem?_eq_getElem (by have:=HL.out;omega)⟩;obtain⟨b,off,rfl,hcell⟩:=hc (List.ne_nil_of_mem (List.mem_of_getElem? hx));obtain⟨b',off',rfl,hcell'⟩:=hc' (List.ne_nil_of_mem (List.mem_of_getElem? hy));have c1:=hcell k x hx;have c2:=hcell' k y hy;have d1:=(hbel.cell (World.block_lt_of_cell? w _ c1)).trans c1;have d2:=(hbel.cell (World.block_lt_of_cell? w _ c2)).trans c2;have i1:(0:Int)<=(k:Int):=by omega
       have i2:(k:Int)<(sd.length:Int):=by omega
       have i3:(k:Int)<(td.length:Int):=by have:=HL.out;omega
       have HX:=Nm.hide (And.intro hx hy);clear hc hc' hcell hcell' c1 c2 hx hy heq hbel k1 k2 q1 q2
       by_cases hxy:x=y
       ·subst hxy;have e9:(x.toList==x.toList)=true:=by simp
        go_wp2;go_quiet (fail)
        go_wp2;go_roundw
        case rel=>
         obtain⟨hk1,ex⟩:=List.getElem?_eq_some_iff.1 HX.out.1;obtain⟨hk2,ey⟩:=List.getElem?_eq_some_iff.1 HX.out.2;exact⟨k+1,by omega,by go_num,by rw [List.take_succ_eq_append_getElem hk1,List.take_succ_eq_append_getElem hk2,ex,ey,HR.out.1],Go.below_drewN HR.out.2.1 _,blk_below HR.out.2.2.1 (Go.below_drewN (Below.refl _ _) _),blk_below HR.out.2.2.2 (Go.below_drewN (Below.refl _ _) _)⟩
        case measure=>simp [intOf];omega
       ·have e9:=str_eq_no hxy;have HXY:=Nm.hide hxy;clear hxy;go_wp2;go_quiet (fail)
        go_wp2;go_ret;refine⟨?_,Go.below_drewN HR.out.2.1 _⟩
        have hne:sd≠td:=fun e=>HXY.out (by
         have h1:=HX.out.1;rw [e,HX.out.2] at h1
         exact(Option.some.inj h1).symm)
        simp [hne]
      ·have hke:k=sd.length:=by omega
       subst hke;clear hc hc' heq hbel k1 k2 q1 q2;go_wp2;go_ret;have h1:=HR.out.1;rw [List.take_length,HL.out,List.take_length] at h1;exact⟨by simp [h1],HR.out.2.1⟩
    ·have nl:((sd.length:Int) != (td.length:Int))=true:=by rw [bne_iff_ne];omega
     have HL:=Nm.hide hl;clear hl hc hc' k1 k2;go_enter Tryz.func44,Tryz.ntmps44;go_wp2;go_ret;have hne:sd≠td:=fun e=>HL.out (by rw [e])
     exact⟨by simp [hne],hB⟩
   ·have e3:(stt != ttt)=true:=by simpa using h3
    clear hc hc' k1 k2;go_enter Tryz.func44,Tryz.ntmps44;go_wp2;go_ret;exact⟨by simp [h3],hB⟩
  ·have e2:(st != tt)=true:=by simpa using h2
   clear hc hc' k1 k2;go_enter Tryz.func44,Tryz.ntmps44;go_wp2;go_ret;exact⟨by simp [h2],hB⟩
 ·have e1:=str_eq_no h1;clear hc hc' k1 k2;go_enter Tryz.func44,Tryz.ntmps44;go_wp2;go_ret;exact⟨by simp [h1],hB⟩
set_option maxRecDepth 100000 in
set_option maxHeartbeats 1600000 in
theorem l06SameZone_any(o:ByteArray)(v u:Value)(qs rs:List Zp)(w:World)(h:ZRow w v qs)(h':ZRow w u rs):
 Calls Tryz.prog 18 #[.agg #[.string o,v],.agg #[.string o,u]] w fun e w'=>e=.returned (.bool (eqZs (qs.map (·.1)) (rs.map (·.1))))∧Below w.heap.size w w':=by
 have b1:=(Below.refl w.heap.size w).alloc (Nat.le_refl _) (.cells #[.string o,v] 25);have hB:=b1.alloc (by simp) (.cells #[.string o,u] 25);have k1:=blk_alloc (blk_new w #[.string o,v] 25) (.cells #[.string o,u] 25);have k2:=blk_new (w.alloc (.cells #[.string o,v] 25)) #[.string o,u] 25;rw [World.size_alloc] at k2;obtain⟨⟨_,a,cap,rfl,hcap,hmx,hc⟩,hd⟩:=h;obtain⟨⟨_,a',cap',rfl,hcap',hmx',hc'⟩,hd'⟩:=h';unfold maxLen at hmx hmx';have e1:(o.toList==o.toList)=true:=by simp
 clear b1
 by_cases hl:qs.length=rs.length
 ·have nl:((qs.length:Int) != (rs.length:Int))=false:=by rw [hl];simp
  have HL:=Nm.hide hl;clear hl;go_enter Tryz.func18,Tryz.ntmps18;go_wp2
  go_loopw [5] (fun i wr=>∃ k:Nat,k<=qs.length∧i=.int .i64 k∧(∀ (j:Nat) (q r:Zp),j<k->qs[j]? =some q->rs[j]? =some r->q.1=r.1)∧Below w.heap.size w wr∧Blk wr w.heap.size #[.string o,.slice a qs.length cap] 25∧Blk wr (w.heap.size+1) #[.string o,.slice a' rs.length cap'] 25) (fun i _=>qs.length-(intOf i).toNat)
  case atStart=>exact⟨0,Nat.zero_le _,rfl,fun j _ _ hj=>absurd hj (Nat.not_lt_zero _),hB,k1,k2⟩
  case round=>
   obtain⟨k,hk,rfl,heq,hbel,q1,q2⟩:=hrel;have HR:=Nm.hide (And.intro heq (And.intro hbel (And.intro q1 q2)));have r1:=(blk_cell q1 1).trans rfl;have r2:=(blk_cell q2 1).trans rfl
   by_cases hlt:k<qs.length
   ·obtain⟨q,hq⟩:∃ q,qs[k]? =some q:=⟨_,List.getElem?_eq_getElem hlt⟩;obtain⟨r,hr⟩:∃ r,rs[k]? =some r:=⟨_,List.getElem?_eq_getElem (by have:=HL.out;omega)⟩;obtain⟨b,off,rfl,hcell⟩:=hc (by omega);obtain⟨b',off',rfl,hcell'⟩:=hc' (by have:=HL.out;omega);obtain⟨c0,c1,c2,c3⟩:=zp_cells hcell hq;obtain⟨d0,d1,d2,d3⟩:=zp_cells hcell' hr;have hdq:=hd q (List.mem_of_getElem? hq);have hdr:=hd' r (List.mem_of_getElem? hr);obtain⟨qa,qc,eq,_⟩:=hdq;obtain⟨ra,rc,er,_⟩:=hdr;rw [eq] at c3;rw [er] at d3
    have kS:Hid (∀ X,Below wr.heap.size wr X->X.cell? ⟨w.heap.size,1,none⟩=some (.slice (some ⟨b,off,none⟩) qs.length cap)∧X.cell? ⟨w.heap.size+1,1,none⟩=some (.slice (some ⟨b',off',none⟩) rs.length cap')∧X.cell? ⟨b,off+k*4,none⟩=some (.string q.1.own)∧X.cell? ⟨b,off+k*4+1,none⟩=some (.int .i64 q.1.ty)∧X.cell? ⟨b,off+k*4+2,none⟩=some (.int .i64 q.1.tt)∧X.cell? ⟨b,off+k*4+3,none⟩=some (.slice qa q.1.da.length qc)∧X.cell? ⟨b',off'+k*4,none⟩=some (.string r.1.own)∧X.cell? ⟨b',off'+k*4+1,none⟩=some (.int .i64 r.1.ty)∧X.cell? ⟨b',off'+k*4+2,none⟩=some (.int .i64 r.1.tt)∧X.cell? ⟨b',off'+k*4+3,none⟩=some (.slice ra r.1.da.length rc)):=by
     intro X hX;have hwX:=Nm.below_two hbel hX;have put:∀ {p:Addr} {z:Value},w.cell? p=some z->X.cell? p=some z:=fun h=>(hwX.cell (World.block_lt_of_cell? w _ h)).trans h
     exact⟨(blk_cell (blk_below q1 hX) 1).trans rfl,(blk_cell (blk_below q2 hX) 1).trans rfl,put c0,put c1,put c2,put c3,put d0,put d1,put d2,put d3⟩
    have hss:=fun W (hW:Below w.heap.size w W)=>l06SameSet_any q.1 r.1 q.2 r.2 W ((hd q (List.mem_of_getElem? hq)).below hW) ((hd' r (List.mem_of_getElem? hr)).below hW)
    rw [eq,er] at hss;have HX:=Nm.hide (And.intro hq (And.intro hr hss));have i1:(0:Int)<=(k:Int):=by omega
    have i2:(k:Int)<(qs.length:Int):=by omega
    have i3:(k:Int)<(rs.length:Int):=by have:=HL.out;omega
    clear hc hc' hcell hcell' hq hr heq c0 c1 c2 c3 d0 d1 d2 d3 hd hd' k1 k2 hss eq er q1 q2;go_wp2_with fail
    go_cut [38] from 27 to 38 (fun p wx=>p=.bool (!eqSz q.1 r.1)∧Below wr.heap.size wr wx)
    case first=>
     refine wp_region_last (fun X=>X.cell? ⟨w.heap.size,1,none⟩=some (.slice (some ⟨b,off,none⟩) qs.length cap)∧X.cell? ⟨w.heap.size+1,1,none⟩=some (.slice (some ⟨b',off',none⟩) rs.length cap')∧X.cell? ⟨b,off+k*4,none⟩=some (.string q.1.own)∧X.cell? ⟨b,off+k*4+1,none⟩=some (.int .i64 q.1.ty)∧X.cell? ⟨b,off+k*4+2,none⟩=some (.int .i64 q.1.tt)∧X.cell? ⟨b,off+k*4+3,none⟩=some (.slice qa q.1.da.length qc)∧X.cell? ⟨b',off'+k*4,none⟩=some (.string r.1.own)∧X.cell? ⟨b',off'+k*4+1,none⟩=some (.int .i64 r.1.ty)∧X.cell? ⟨b',off'+k*4+2,none⟩=some (.int .i64 r.1.tt)∧X.cell? ⟨b',off'+k*4+3,none⟩=some (.slice ra r.1.da.length rc)) 1000 (by kernel_rfl) (kS.out _ (Below.refl _ wr).drew) (fun hHeld=>?_);refine tkL (i:=0) (v:=?_) rfl ?_ ?_;rotate_left 1
     ·(intro W hSW;obtain⟨z0,z1,z2,z3,z4,z5,z6,z7,z8,z9⟩:=hSW;go_simp;try (with_reducible rfl))
     refine tkL (i:=1) (v:=?_) rfl ?_ ?_;rotate_left 1
     ·(intro W hSW;obtain⟨z0,z1,z2,z3,z4,z5,z6,z7,z8,z9⟩:=hSW;go_simp;try (with_reducible rfl))
     refine tkL (i:=2) (v:=?_) rfl ?_ ?_;rotate_left 1
     ·(intro W hSW;obtain⟨z0,z1,z2,z3,z4,z5,z6,z7,z8,z9⟩:=hSW;go_simp;try (with_reducible rfl))
     refine tkL (i:=3) (v:=?_) rfl ?_ ?_;rotate_left 1
     ·(intro W hSW;obtain⟨z0,z1,z2,z3,z4,z5,z6,z7,z8,z9⟩:=hSW;go_simp;try (with_reducible rfl))
     refine tkL (i:=4) (v:=?_) rfl ?_ ?_;rotate_left 1
     ·(intro W hSW;obtain⟨z0,z1,z2,z3,z4,z5,z6,z7,z8,z9⟩:=hSW;go_simp;try (with_reducible rfl))
     refine tkL (i:=5) (v:=?_) rfl ?_ ?_;rotate_left 1
     ·(intro W hSW;obtain⟨z0,z1,z2,z3,z4,z5,z6,z7,z8,z9⟩:=hSW;go_simp;try (with_reducible rfl))
     refine tkL (i:=6) (v:=?_) rfl ?_ ?_;rotate_left 1
     ·(intro W hSW;obtain⟨z0,z1,z2,z3,z4,z5,z6,z7,z8,z9⟩:=hSW;go_simp;try (with_reducible rfl))
     refine tkL (i:=7) (v:=?_) rfl ?_ ?_;rotate_left 1
     ·(intro W hSW;obtain⟨z0,z1,z2,z3,z4,z5,z6,z7,z8,z9⟩:=hSW;go_simp;try (with_reducible rfl))
     refine tkL (i:=8) (v:=?_) rfl ?_ ?_;rotate_left 1
     ·(intro W hSW;obtain⟨z0,z1,z2,z3,z4,z5,z6,z7,z8,z9⟩:=hSW;go_simp;try (with_reducible rfl))
     refine tkL (i:=9) (v:=?_) rfl ?_ ?_;rotate_left 1
     ·(intro W hSW;obtain⟨z0,z1,z2,z3,z4,z5,z6,z7,z8,z9⟩:=hSW;go_simp;try (with_reducible rfl))
     refine wpAnyL_one (i:=10) (by kernel_rfl) rfl (fun K hK=>?_);go_simp;refine(HX.out.2.2 _ hbel.drew).mono ?_;rintro e w2 ⟨rfl,b2⟩;have b2':=Nm.below_two (Below.refl _ wr).drew b2;go_wp2_with fail
     refine hK.out _ _ (kS.out _ b2') (fun hHeld=>?_);clear hK K;refine tkL (i:=11) (v:=?_) rfl ?_ ?_;rotate_left 1
     ·(intro W hSW;obtain⟨z0,z1,z2,z3,z4,z5,z6,z7,z8,z9⟩:=hSW;go_simp;try (with_reducible rfl))
     refine wpAnyL_done (by kernel_rfl) ?_;go_wp2_with fail
     go_meet
     case rel=>exact⟨rfl,b2'⟩
    case rest=>
     obtain⟨rfl,b5⟩:=hcut
     cases hE:eqSz q.1 r.1 with
     |true=>
      have HE:=Nm.hide hE;clear hE;go_wp2;go_roundw
      case rel=>
       refine⟨k+1,by omega,by go_num,fun j x y hj hx hy=>?_,Nm.below_two HR.out.2.1 b5,blk_below HR.out.2.2.1 b5,blk_below HR.out.2.2.2 b5⟩
       rcases Nat.lt_succ_iff_lt_or_eq.1 hj with h1|rfl
       ·exact HR.out.1 j x y h1 hx hy
       ·rw [HX.out.1] at hx;rw [HX.out.2.1] at hy;cases hx
        cases hy
        exact eqSz_iff.1 HE.out
      case measure=>simp [intOf];omega
     |false=>
      have HE:=Nm.hide hE;clear hE;go_wp2;go_ret;rw [eqZs_not (j:=k) (a:=q.1) (b:=r.1) (by simp [HX.out.1]) (by simp [HX.out.2.1]) HE.out];exact⟨rfl,Nm.below_two HR.out.2.1 b5⟩
   ·have hke:k=qs.length:=by omega
    subst hke;clear hc hc' heq hbel hd hd' k1 k2 q1 q2;go_wp2;go_ret
    rw [eqZs_all (by simp [HL.out]) (fun j x y hx hy=>by
     simp only [List.getElem?_map,Option.map_eq_some_iff] at hx hy;obtain⟨q,hq,rfl⟩:=hx;obtain⟨r,hr,rfl⟩:=hy
     exact HR.out.1 j q r (List.getElem?_eq_some_iff.1 hq).1 hq hr)]
    exact⟨rfl,HR.out.2.1⟩
 ·have nl:((qs.length:Int) != (rs.length:Int))=true:=by rw [bne_iff_ne];omega
  have HL:=Nm.hide hl;clear hl hc hc' hd hd' k1 k2;go_enter Tryz.func18,Tryz.ntmps18;go_wp2;go_ret;rw [eqZs_len (by simpa using HL.out)];exact⟨rfl,hB⟩
theorem zr_len(ps:List Zp):(zoneRecs ps).length<=500:=by
 unfold zoneRecs;split
 ·simp
 ·rw [recsAll_len];omega
theorem bzO_zero{list:List Rr}{o:ByteArray}(h:(bldE list o).1=0):bzO list o=o∧bzZ list o=bldZ list:=by
 rw [bzO,bzZ,if_pos h,if_pos h];exact⟨rfl,rfl⟩
set_option maxRecDepth 100000 in
set_option maxHeartbeats 3200000 in
theorem specCheckZone_any(o:ByteArray)(v:Value)(ps:List Zp)(w:World)(h:ZRow w v ps)(hs:zsum ps<=1048576)(hl:ps.length<=1048576)(hf:∀ p∈ps,p.1.own.size<=1048576∧∀ x∈p.1.da,x.size<=1048576)(ha:o.size<=maxLen):
 Calls Tryz.prog 5 #[.agg #[.string o,v]] w fun e w'=>e=.returned (.int .i64 (if zOK ps o=true then 0 else 32))∧Below w.heap.size w w':=by
 have k0:=blk_new w #[.string o,v] 25;have b0:=(Below.refl w.heap.size w).alloc (Nat.le_refl _) (.cells #[.string o,v] 25);have hct:=l06Count_any o v ps _ (h.below b0) hs hl;have hzr:=fun W (hW:Below w.heap.size w W)=>specZoneRecords_any o v ps W (h.below hW) hs hl
 have hrl:=zr_len ps;have hrf:=recs_fit hf;have hbz:=fun V W hV=>(specBuildZone_any V (zoneRecs ps) o W hV (by omega) ha (fun r hr=>by have:=(hrf r hr).1;unfold maxLen;omega)).mono (fun _ _ hp=>bz_uni hp)
 obtain⟨va,vc,rfl⟩:∃ va vc,v=.slice va ps.length vc:=by obtain⟨⟨_,a,c,e,_⟩,_⟩:=h;exact⟨a,c,e⟩
 have HH:=Nm.hide (And.intro h (And.intro hzr hbz));obtain⟨CZ,hCZ⟩:∃ CZ:Int,CZ=if zOK ps o=true then 0 else 32:=⟨_,rfl⟩
 rw [<- hCZ];have HCZ:=Nm.hide hCZ;have r0:=fun i=>blk_cell k0 i
 unfold maxLen at ha;clear h hf hs hzr hbz hrf hCZ hrl
 by_cases hbig:500<ps.length
 ·have hC:CZ=32:=by rw [HCZ.out,zOK_big (.inl hbig)];rfl
  have i1:(500:Int)<(ps.length:Int):=by omega
  subst hC;clear HCZ hct;go_enter Tryz.func5,Tryz.ntmps5;go_wp2;go_ret;exact⟨rfl,b0⟩
 ·have i1:¬(500:Int)<(ps.length:Int):=by omega
  by_cases hbig2:500<dsum ps
  ·have hC:CZ=32:=by rw [HCZ.out,zOK_big (.inr hbig2)];rfl
   have i2:(500:Int)<(dsum ps:Int):=by omega
   subst hC;clear HCZ;go_enter Tryz.func5,Tryz.ntmps5;go_wp2_with (go_at_call 15;refine hct.mono ?_;rintro e w1 ⟨rfl,b1⟩)
   go_ret;exact⟨rfl,Nm.below_two b0 b1⟩
  ·have i2:¬(500:Int)<(dsum ps:Int):=by omega
   go_enter Tryz.func5,Tryz.ntmps5;go_wp2_with (go_at_call 15;refine hct.mono ?_;rintro e w1 ⟨rfl,b1⟩)
   have k1:=blk_below k0 b1;have bw1:=Nm.below_two b0 b1
   have kS:Hid (∀ X,Below w1.heap.size w1 X->X.cell? ⟨w.heap.size,0,none⟩=some (.string o)∧X.cell? ⟨w.heap.size,1,none⟩=some (.slice va ps.length vc)):=by
    intro X hX;have kx:=blk_below k1 hX;exact⟨(blk_cell kx 0).trans rfl,(blk_cell kx 1).trans rfl⟩
   have bd:=(Below.refl w1.heap.size w1).drew;clear hct r0 k0 b0 b1 i1 i2 hbig hbig2;go_cut [3,4,5] from 15 to 23 (fun p c i wx=>∃ (g:Nat) (a:Option Addr) (cc:Nat) (qs:List Zp),p=.pointer (some ⟨g,0,none⟩)∧c=.int .i64 (bldE (zoneRecs ps) o).1∧Blk wx g #[.string (bzO (zoneRecs ps) o),.slice a qs.length cc] 25∧qs.map (·.1)=bzZ (zoneRecs ps) o∧ZRow wx (.slice a qs.length cc) qs∧Below w1.heap.size w1 wx)
   case first=>
    refine wp_region_last (fun X=>X.cell? ⟨w.heap.size,0,none⟩=some (.string o)∧X.cell? ⟨w.heap.size,1,none⟩=some (.slice va ps.length vc)) 1000 (by kernel_rfl) (kS.out _ bd) (fun hHeld=>?_);refine tkL (i:=0) (v:=?_) rfl ?_ ?_;rotate_left 1
    ·(intro W hSW;obtain⟨z0,z1⟩:=hSW;go_simp;try (with_reducible rfl))
    refine tkL (i:=2) (v:=?_) rfl ?_ ?_;rotate_left 1
    ·(intro W hSW;obtain⟨z0,z1⟩:=hSW;go_simp;try (with_reducible rfl))
    refine tkL (i:=3) (v:=?_) rfl ?_ ?_;rotate_left 1
    ·(intro W hSW;obtain⟨z0,z1⟩:=hSW;go_simp;try (with_reducible rfl))
    generalize bzO (zoneRecs ps) o=OO at*;generalize bzZ (zoneRecs ps) o=ZZ at*;generalize (bldE (zoneRecs ps) o).1=BC at*;generalize bzI (zoneRecs ps) o=BI at*;refine wpAnyL_two (i:=1) (j:=9) (by kernel_rfl) rfl rfl (fun K hK=>?_) (fun K hK=>?_)
    ·go_simp;refine(HH.out.2.1 _ (Nm.below_two bw1 bd)).mono ?_;rintro e w2 ⟨u,rfl,hown,b2⟩;obtain⟨ua,uc,rfl⟩:=own_sl hown;have b2':=Nm.below_two bd b2;go_wp2_with fail
     refine hK.out _ _ (kS.out _ b2') (fun hHeld=>?_);clear hK K;refine wpAnyL_two (i:=4) (j:=9) (by kernel_rfl) rfl rfl (fun K hK=>?_) (fun K hK=>?_)
     ·go_simp;refine(HH.out.2.2 _ _ (CRow.of_owns hown)).mono ?_;rintro e w3 ⟨a,cc,qs,rfl,hqs,hz,b3⟩;have b3':=Nm.below_two b2' b3;go_wp2_with fail
      refine hK.out _ _ (kS.out _ b3') (fun hHeld=>?_);clear hK K;refine tkL (i:=5) (v:=?_) rfl ?_ ?_;rotate_left 1
      ·(intro W hSW;obtain⟨z0,z1⟩:=hSW;go_simp;try (with_reducible rfl))
      refine tkL (i:=6) (v:=?_) rfl ?_ ?_;rotate_left 1
      ·(intro W hSW;obtain⟨z0,z1⟩:=hSW;go_simp;try (with_reducible rfl))
      refine tkL (i:=7) (v:=?_) rfl ?_ ?_;rotate_left 1
      ·(intro W hSW;obtain⟨z0,z1⟩:=hSW;go_simp;try (with_reducible rfl))
      refine tkL (i:=8) (v:=?_) rfl ?_ ?_;rotate_left 1
      ·(intro W hSW;obtain⟨z0,z1⟩:=hSW;go_simp;try (with_reducible rfl))
      refine wpAnyL_one (i:=9) (by kernel_rfl) rfl (fun K hK=>?_);go_simp;have bz:=(Below.refl w3.heap.size w3).alloc (Nat.le_refl _) (.cells #[.string ⟨#[]⟩,.slice none 0 0] 25);have kz:=blk_new w3 #[.string ⟨#[]⟩,.slice none 0 0] 25;have rz:=fun i=>blk_cell kz i
      have fz:=fun i=>blk_frozen kz i
      refine hK.out _ _ (kS.out _ (Nm.below_two b3' bz)) (fun hHeld=>?_);clear hK K;refine wpAnyL_one (i:=10) (by kernel_rfl) rfl (fun K hK=>?_);go_simp;have bn:=(Below.refl w3.heap.size w3).alloc (Nat.le_refl _) (.cells #[.string OO,.slice a qs.length cc] 25);have kn:=blk_new w3 #[.string OO,.slice a qs.length cc] 25;have en:=Nm.below_two b3' bn;refine hK.out _ _ (kS.out _ en) (fun hHeld=>?_);clear hK K;refine wpAnyL_one (i:=11) (by kernel_rfl) rfl (fun K hK=>?_);go_simp;refine hK.out _ _ (kS.out _ en) (fun hHeld=>?_);clear hK K;refine wpAnyL_one (i:=12) (by kernel_rfl) rfl (fun K hK=>?_);go_simp;refine hK.out _ _ (kS.out _ en) (fun hHeld=>?_);clear hK K;refine wpAnyL_done (by kernel_rfl) ?_;go_wp2_with fail
      go_meet
      case rel=>exact⟨w3.heap.size,a,cc,qs,rfl,rfl,kn,hqs,hz.zrow.below bn,en⟩
     ·go_simp;have bz:=(Below.refl w2.heap.size w2).alloc (Nat.le_refl _) (.cells #[.string ⟨#[]⟩,.slice none 0 0] 25);have kz:=blk_new w2 #[.string ⟨#[]⟩,.slice none 0 0] 25;have b2z:=Nm.below_two b2' bz;have hownz:=own_below hown bz;have HG:Hid (w1.heap.size<=w2.heap.size∧w2.heap.size<(w2.alloc (.cells #[.string ⟨#[]⟩,.slice none 0 0] 25)).heap.size):=⟨b2'.size,by simp⟩;refine hK.out _ _ (kS.out _ b2z) (fun hHeld=>?_);clear hK K;refine wpAnyL_one (i:=4) (by kernel_rfl) rfl (fun K hK=>?_);go_simp;refine(HH.out.2.2 _ _ (CRow.of_owns hownz)).mono ?_;rintro e w3 ⟨a,cc,qs,rfl,hqs,hz,b3⟩;have b3':=Nm.below_two b2z b3;have kz3:=blk_below kz b3;clear hown hownz kz;go_wp2_with fail
      refine hK.out _ _ (kS.out _ b3') (fun hHeld=>?_);clear hK K;refine tkL (i:=5) (v:=?_) rfl ?_ ?_;rotate_left 1
      ·(intro W hSW;obtain⟨z0,z1⟩:=hSW;go_simp;try (with_reducible rfl))
      refine tkL (i:=6) (v:=?_) rfl ?_ ?_;rotate_left 1
      ·(intro W hSW;obtain⟨z0,z1⟩:=hSW;go_simp;try (with_reducible rfl))
      refine tkL (i:=7) (v:=?_) rfl ?_ ?_;rotate_left 1
      ·(intro W hSW;obtain⟨z0,z1⟩:=hSW;go_simp;try (with_reducible rfl))
      refine tkL (i:=8) (v:=?_) rfl ?_ ?_;rotate_left 1
      ·(intro W hSW;obtain⟨z0,z1⟩:=hSW;go_simp;try (with_reducible rfl))
      refine wpAnyL_one (i:=10) (by kernel_rfl) rfl (fun K hK=>?_);have rz:=fun i=>blk_cell kz3 i
      have fz:=fun i=>blk_frozen kz3 i
      go_simp;have kn:=blk_set (blk_set kz3 0 (.string OO)) 1 (.slice a qs.length cc);simp only [List.setIfInBounds_toArray,List.set_cons_zero,List.set_cons_succ] at kn;have hzn:=(hz.far (i:=0) (y:=.string OO) (g:=w2.heap.size) HG.out.2).far (i:=1) (y:=.slice a qs.length cc) (g:=w2.heap.size) HG.out.2;have en:=(b3'.setCell (p:=⟨w2.heap.size,0,none⟩) HG.out.1 (.string OO)).setCell (p:=⟨w2.heap.size,1,none⟩) HG.out.1 (.slice a qs.length cc);clear rz fz kz3;refine hK.out _ _ (kS.out _ en) (fun hHeld=>?_);clear hK K;refine wpAnyL_one (i:=11) (by kernel_rfl) rfl (fun K hK=>?_);go_simp;refine hK.out _ _ (kS.out _ en) (fun hHeld=>?_);clear hK K;refine wpAnyL_one (i:=12) (by kernel_rfl) rfl (fun K hK=>?_);go_simp;refine hK.out _ _ (kS.out _ en) (fun hHeld=>?_);clear hK K;refine wpAnyL_done (by kernel_rfl) ?_;go_wp2_with fail
      go_meet
      case rel=>exact⟨w2.heap.size,a,cc,qs,rfl,rfl,kn,hqs,hzn.zrow,en⟩
    ·go_simp;have bz:=((Below.refl w1.heap.size w1).alloc (Nat.le_refl _) (.cells #[.string ⟨#[]⟩,.slice none 0 0] 25)).drew;have kz:=blk_drew (blk_new w1 #[.string ⟨#[]⟩,.slice none 0 0] 25)
     have hs1:(w1.alloc (.cells #[.string ⟨#[]⟩,.slice none 0 0] 25)).drew.heap.size=w1.heap.size+1:=by
      show(w1.alloc _).heap.size=_
      simp
     have HS1:=Nm.hide hs1;clear hs1;refine hK.out _ _ (kS.out _ bz) (fun hHeld=>?_);clear hK K;refine wpAnyL_one (i:=1) (by kernel_rfl) rfl (fun K hK=>?_);go_simp;refine(HH.out.2.1 _ (Nm.below_two bw1 bz)).mono ?_;rintro e w2 ⟨u,rfl,hown,b2⟩;obtain⟨ua,uc,rfl⟩:=own_sl hown;have b2':=Nm.below_two bz b2;have kz2:=blk_below kz b2;have HG:Hid (w1.heap.size<=w1.heap.size∧w1.heap.size<w2.heap.size):=⟨Nat.le_refl _,by have:=b2.size;have:=HS1.out;omega⟩;go_wp2_with fail
     refine hK.out _ _ (kS.out _ b2') (fun hHeld=>?_);clear hK K;refine wpAnyL_one (i:=4) (by kernel_rfl) rfl (fun K hK=>?_);go_simp;refine(HH.out.2.2 _ _ (CRow.of_owns hown)).mono ?_;rintro e w3 ⟨a,cc,qs,rfl,hqs,hz,b3⟩;have b3':=Nm.below_two b2' b3;have kz3:=blk_below kz2 b3;clear hown kz kz2;go_wp2_with fail
     refine hK.out _ _ (kS.out _ b3') (fun hHeld=>?_);clear hK K;refine tkL (i:=5) (v:=?_) rfl ?_ ?_;rotate_left 1
     ·(intro W hSW;obtain⟨z0,z1⟩:=hSW;go_simp;try (with_reducible rfl))
     refine tkL (i:=6) (v:=?_) rfl ?_ ?_;rotate_left 1
     ·(intro W hSW;obtain⟨z0,z1⟩:=hSW;go_simp;try (with_reducible rfl))
     refine tkL (i:=7) (v:=?_) rfl ?_ ?_;rotate_left 1
     ·(intro W hSW;obtain⟨z0,z1⟩:=hSW;go_simp;try (with_reducible rfl))
     refine tkL (i:=8) (v:=?_) rfl ?_ ?_;rotate_left 1
     ·(intro W hSW;obtain⟨z0,z1⟩:=hSW;go_simp;try (with_reducible rfl))
     refine wpAnyL_one (i:=10) (by kernel_rfl) rfl (fun K hK=>?_);have rz:=fun i=>blk_cell kz3 i
     have fz:=fun i=>blk_frozen kz3 i
     go_simp;have kn:=blk_set (blk_set kz3 0 (.string OO)) 1 (.slice a qs.length cc);simp only [List.setIfInBounds_toArray,List.set_cons_zero,List.set_cons_succ] at kn;have hzn:=(hz.far (i:=0) (y:=.string OO) (g:=w1.heap.size) HG.out.2).far (i:=1) (y:=.slice a qs.length cc) (g:=w1.heap.size) HG.out.2;have en:=(b3'.setCell (p:=⟨w1.heap.size,0,none⟩) HG.out.1 (.string OO)).setCell (p:=⟨w1.heap.size,1,none⟩) HG.out.1 (.slice a qs.length cc);clear rz fz kz3;refine hK.out _ _ (kS.out _ en) (fun hHeld=>?_);clear hK K;refine wpAnyL_one (i:=11) (by kernel_rfl) rfl (fun K hK=>?_);go_simp;refine hK.out _ _ (kS.out _ en) (fun hHeld=>?_);clear hK K;refine wpAnyL_one (i:=12) (by kernel_rfl) rfl (fun K hK=>?_);go_simp;refine hK.out _ _ (kS.out _ en) (fun hHeld=>?_);clear hK K;refine wpAnyL_done (by kernel_rfl) ?_;go_wp2_with fail
     go_meet
     case rel=>exact⟨w1.heap.size,a,cc,qs,rfl,rfl,kn,hqs,hzn.zrow,en⟩
   case rest=>
    obtain⟨g,a,cc,qs,rfl,rfl,kg,hqs,hz,b5⟩:=hcut;have kZ5:=blk_below k1 b5;have hsz:=l06SameZone_any o (.slice a qs.length cc) (.slice va ps.length vc) qs ps wc hz (HH.out.1.below (Nm.below_two bw1 b5));have rg:=fun i=>blk_cell kg i
    have rZ:=fun i=>blk_cell kZ5 i
    have bw5:=Nm.below_two bw1 b5
    by_cases hE:(bldE (zoneRecs ps) o).1=0
    ·obtain⟨e1,e2⟩:=bzO_zero hE;rw [e1] at rg;rw [hqs,e2] at hsz;have hzk:zOK ps o=eqZs (bldZ (zoneRecs ps)) (ps.map (·.1)):=by rw [zOK,decide_eq_true hE];rfl
     rw [hE]
     cases hq:eqZs (bldZ (zoneRecs ps)) (ps.map (·.1)) with
     |true=>
      have hC:CZ=0:=by rw [HCZ.out,hzk,hq];rfl
      rw [hq] at hsz;subst hC;clear HCZ hE e1 e2 hq hzk HH hqs kg kZ5 hz kS bd b5 k1;go_wp2_with (go_at_call 18;refine hsz.mono ?_;rintro e w6 ⟨rfl,b6⟩)
      go_ret
      exact⟨rfl,Nm.below_two bw5 b6⟩
     |false=>
      have hC:CZ=32:=by rw [HCZ.out,hzk,hq];rfl
      rw [hq] at hsz;subst hC;clear HCZ hE e1 e2 hq hzk HH hqs kg kZ5 hz kS bd b5 k1;go_wp2_with (go_at_call 18;refine hsz.mono ?_;rintro e w6 ⟨rfl,b6⟩)
      go_ret;exact⟨rfl,Nm.below_two bw5 b6⟩
    ·have hC:CZ=32:=by rw [HCZ.out,zOK,decide_eq_false hE];rfl
     have n0:((bldE (zoneRecs ps) o).1 != 0)=true:=by simpa using hE
     generalize (bldE (zoneRecs ps) o).1=BC at*;subst hC;clear HCZ hE HH hqs kg kZ5 hz kS bd b5 k1 hsz;go_wp2;go_ret;exact⟨rfl,bw5⟩
end Go.Proofs.YtahpiciofdfipaaGreat
