import Derived.Test.YtieobflhfcgliaaGreatPzP
import Derived.Test.YtieobflhfcgliaaGreatJPzK
import Derived.Test.YtieobflhfcgliaaGreatJCzO
import Derived.Test.YtieobflhfcgliaaGreatPzT
import Derived.Test.YtieobflhfcgliaaGreatJCzC
import Derived.Test.YtieobflhfcgliaaGreatJEqV
import Derived.Test.YtieobflhfcgliaaGreatJGrT
import Derived.Test.YtieobflhfcgliaaGreatJZnK
namespace Go.Proofs.YtieobflhfcgliaaGreat
open Go.RowKit
set_option linter.unusedVariables false
set_option maxRecDepth 100000 in
set_option maxHeartbeats 1600000 in
theorem implPatchZone_any(o:ByteArray)(v d a:Value)(ps:List Zp)(old new:Rr)(del add:List Rr)(w:World)(h:ZRow w v ps)(hd:CRow w d del.length 5 (rvVs del))(hda:CRow w a add.length 5 (rvVs add))(hs:zsum ps<=1048576)(hf:∀ p∈ps,p.1.own.size<=1048576∧∀ x∈p.1.da,x.size<=1048576)(ho:o.size<=1048576)(hfo:old.da.size<=1048576)(hfn:RFit new∧new.own.size<=1048576∧new.da.size<=1048576)(hfd:∀ x∈del,RFit x)(hfa:∀ x∈add,x.own.size<=1048576∧x.da.size<=1048576):
 Calls Tryz.prog 17 #[.agg #[.string o,v],cgV old new d a] w (PzPost (ptC ps o old new del add) (pzL ps new del add) o w):=by
 obtain⟨va,vc,rfl⟩:∃ va vc,v=.slice va ps.length vc:=by obtain⟨⟨_,a,c,e,_⟩,_⟩:=h;exact⟨a,c,e⟩
 obtain⟨da,dc,rfl⟩:∃ da dc,d=.slice da del.length dc:=by obtain⟨_,a,c,e,_⟩:=hd;exact⟨a,c,e⟩
 obtain⟨aa,ac,rfl⟩:∃ aa ac,a=.slice aa add.length ac:=by obtain⟨_,a,c,e,_⟩:=hda;exact⟨a,c,e⟩
 obtain⟨R,HR⟩:∃ R,Hid (R=ptC ps o old new del add):=⟨_,rfl⟩;rw [<- HR.out];obtain⟨W0,hW0⟩:∃ W0,W0=((w.alloc (.cells #[.string o,.slice va ps.length vc] 35)).alloc (.cells (cgL old new (.slice da del.length dc) (.slice aa add.length ac)).toArray 30)).alloc (.cells #[.string ⟨#[]⟩,.slice none 0 0] 35):=⟨_,rfl⟩
 have b0:Below w.heap.size w W0:=by
  rw [hW0];exact(((Below.refl w.heap.size w).alloc (Nat.le_refl _) _).alloc (by simp) _).alloc (by simp;omega) _
 have ky:Blk W0 w.heap.size #[.string o,.slice va ps.length vc] 35:=by
  rw [hW0];exact blk_alloc (blk_alloc (blk_new w #[.string o,.slice va ps.length vc] 35) _) _
 have kz:Blk W0 (w.heap.size+1) (cgL old new (.slice da del.length dc) (.slice aa add.length ac)).toArray 30:=by
  rw [hW0];have:=blk_new (w.alloc (.cells #[.string o,.slice va ps.length vc] 35)) (cgL old new (.slice da del.length dc) (.slice aa add.length ac)).toArray 30;rw [World.size_alloc] at this;exact blk_alloc this _
 have kc:Blk W0 (w.heap.size+2) #[.string ⟨#[]⟩,.slice none 0 0] 35:=by
  rw [hW0];have:=blk_new ((w.alloc (.cells #[.string o,.slice va ps.length vc] 35)).alloc (.cells (cgL old new (.slice da del.length dc) (.slice aa add.length ac)).toArray 30)) #[.string ⟨#[]⟩,.slice none 0 0] 35;rw [World.size_alloc,World.size_alloc] at this;exact this
 have z0:W0.heap.size=w.heap.size+3:=by rw [hW0];simp
 have hck:=implCheckZone_any o _ ps W0 (h.below b0) hs hf (by omega);have ry:=fun i=>blk_cell ky i
 cases hz:zOK ps o with
 |false=>
  have HN:Hid (R=32):=by show _=_;rw [HR.out,ptC,if_neg (by rw [hz];decide)]
  rw [hz,if_neg (by decide)] at hck;rw [hW0] at hck;clear HR;go_enter Tryz.func17,Tryz.ntmps17;go_wp2_with fail
  rw [<- hW0] at hck ⊢;clear hW0;go_at_call 27
  refine hck.mono ?_;rintro e w1 ⟨rfl,b1⟩;have bw1:=Nm.below_two b0 b1;have kc1:=blk_below kc b1;have rk:=fun i=>blk_cell kc1 i
  have fk:=fun i=>blk_frozen kc1 i
  have kX:=setAll_new [.string ⟨#[]⟩,.slice none 0 0] kc1 rfl;have HX:=Nm.hide (below_setA (Nat.le_add_right _ 2) [.string ⟨#[]⟩,.slice none 0 0] 0 _ bw1);simp only [setAll,Nat.zero_add] at kX HX;have rX:=fun i=>blk_cell kX i
  clear kX;go_wp2;rw [HN.out];refine bodyPost_ret (v:=.tuple #[.agg #[.string ⟨#[]⟩,.slice none 0 0],.int .i64 32]) ?_ rfl ⟨_,_,rfl,Pz.bad (by decide),HX.out⟩
  simp [results,Tryz.f17,go_sem,rX]
 |true=>
  have hpa:=fun W (hW:Below w.heap.size w W)=>patch_any o _ _ _ ps old new del add W (h.below hW) (hd.below hW) (hda.below hW) hz hs hf ho hfo hfn hfd hfa
  have HN:Hid (R=pzC ps o old new del add):=by show _=_;rw [HR.out,ptC,if_pos hz]
  rw [<- HN.out] at hpa;rw [hz,if_pos rfl] at hck;rw [hW0] at hck;clear HR HN;generalize pzL ps new del add=PL at*;go_enter Tryz.func17,Tryz.ntmps17;go_wp2_with fail
  rw [<- hW0] at hck ⊢;clear hW0;go_at_call 27
  refine hck.mono ?_;rintro e w1 ⟨rfl,b1⟩;have bw1:=Nm.below_two b0 b1;have ky1:=blk_below ky b1;have kz1:=blk_below kz b1;have kc1:=blk_below kc b1;have z1:=b1.size;have ry1:=fun i=>blk_cell ky1 i
  have rz1:=fun i=>blk_cell kz1 i
  clear ry hck;go_wp2_with fail
  go_at_call 41
  refine(hpa _ bw1).mono ?_;rintro e w2 ⟨oz,vz,rfl,pz,b2⟩;obtain⟨za,zn,zc,rfl⟩:=pz.sl;have kc2:=blk_below kc1 b2;have bw2:=Nm.below_two bw1 b2;have kX:=setAll_new [.string oz,.slice za zn zc] kc2 rfl;have HX:Hid (Pz R PL o (setAll w2 (w.heap.size+2) 0 [.string oz,.slice za zn zc]) w.heap.size oz (.slice za zn zc)∧Below w.heap.size w (setAll w2 (w.heap.size+2) 0 [.string oz,.slice za zn zc])):=⟨(Pz.far (Pz.far pz (by omega)) (by omega)).base (by omega),below_setA (Nat.le_add_right _ _) _ 0 _ bw2⟩;simp only [setAll,Nat.zero_add] at kX HX;have rX:=fun i=>blk_cell kX i
  have rk:=fun i=>blk_cell kc2 i
  have fk:=fun i=>blk_frozen kc2 i
  clear kX ry1 rz1;go_wp2;refine bodyPost_ret (v:=.tuple #[.agg #[.string oz,.slice za zn zc],.int .i64 R]) ?_ rfl ⟨_,_,rfl,HX.out.1,HX.out.2⟩;simp [results,Tryz.f17,go_sem,rX]
set_option maxRecDepth 100000 in
set_option maxHeartbeats 1600000 in
theorem specPatchZone_any(o:ByteArray)(v d a:Value)(ps:List Zp)(old new:Rr)(del add:List Rr)(w:World)(h:ZRow w v ps)(hd:CRow w d del.length 5 (rvVs del))(hda:CRow w a add.length 5 (rvVs add))(hs:zsum ps<=1048576)(hpl:ps.length<=1048576)(hF:FitZ ps)(ho:o.size<=1048576)(hfo:old.da.size<=1048576)(hfn:RFit new∧new.own.size<=1048576∧new.da.size<=1048576)(hfa:∀ x∈add,x.own.size<=1048576∧x.da.size<=1048576):
 Calls Tryz.prog 15 #[.agg #[.string o,v],cgV old new d a] w (PzPost (ptC ps o old new del add) (pzL ps new del add) o w):=by
 obtain⟨va,vc,rfl⟩:∃ va vc,v=.slice va ps.length vc:=by obtain⟨⟨_,a,c,e,_⟩,_⟩:=h;exact⟨a,c,e⟩
 obtain⟨da,dc,rfl⟩:∃ da dc,d=.slice da del.length dc:=by obtain⟨_,a,c,e,_⟩:=hd;exact⟨a,c,e⟩
 obtain⟨aa,ac,rfl⟩:∃ aa ac,a=.slice aa add.length ac:=by obtain⟨_,a,c,e,_⟩:=hda;exact⟨a,c,e⟩
 obtain⟨R,HR⟩:∃ R,Hid (R=ptC ps o old new del add):=⟨_,rfl⟩;rw [<- HR.out];obtain⟨W0,hW0⟩:∃ W0,W0=((w.alloc (.cells #[.string o,.slice va ps.length vc] 35)).alloc (.cells (cgL old new (.slice da del.length dc) (.slice aa add.length ac)).toArray 30)).alloc (.cells #[.string ⟨#[]⟩,.slice none 0 0] 35):=⟨_,rfl⟩
 have b0:Below w.heap.size w W0:=by
  rw [hW0];exact(((Below.refl w.heap.size w).alloc (Nat.le_refl _) _).alloc (by simp) _).alloc (by simp;omega) _
 have ky:Blk W0 w.heap.size #[.string o,.slice va ps.length vc] 35:=by
  rw [hW0];exact blk_alloc (blk_alloc (blk_new w #[.string o,.slice va ps.length vc] 35) _) _
 have kz:Blk W0 (w.heap.size+1) (cgL old new (.slice da del.length dc) (.slice aa add.length ac)).toArray 30:=by
  rw [hW0];have:=blk_new (w.alloc (.cells #[.string o,.slice va ps.length vc] 35)) (cgL old new (.slice da del.length dc) (.slice aa add.length ac)).toArray 30;rw [World.size_alloc] at this;exact blk_alloc this _
 have kc:Blk W0 (w.heap.size+2) #[.string ⟨#[]⟩,.slice none 0 0] 35:=by
  rw [hW0];have:=blk_new ((w.alloc (.cells #[.string o,.slice va ps.length vc] 35)).alloc (.cells (cgL old new (.slice da del.length dc) (.slice aa add.length ac)).toArray 30)) #[.string ⟨#[]⟩,.slice none 0 0] 35;rw [World.size_alloc,World.size_alloc] at this;exact this
 have z0:W0.heap.size=w.heap.size+3:=by rw [hW0];simp
 have hck:=specCheckZone_any o _ ps W0 (h.below b0) hs hpl (fun p hp=>⟨(hF p hp).1,(hF p hp).2.2⟩) (by unfold maxLen;omega);have rz:=fun i=>blk_cell kz i
 have ry:=fun i=>blk_cell ky i
 cases hz:zOK ps o with
 |false=>
  have HN:Hid (R=32):=by show _=_;rw [HR.out,ptC,if_neg (by rw [hz];decide)]
  rw [hz,if_neg (by decide)] at hck;rw [hW0] at hck;clear HR;go_enter Tryz.func15,Tryz.ntmps15;go_wp2_with fail
  rw [<- hW0] at hck ⊢;clear hW0;go_at_call 20
  refine hck.mono ?_;rintro e w1 ⟨rfl,b1⟩;have bw1:=Nm.below_two b0 b1;have kz1:=blk_below kz b1;have rz1:=fun i=>blk_cell kz1 i
  have kc1:=blk_below kc b1;have rk:=fun i=>blk_cell kc1 i
  have fk:=fun i=>blk_frozen kc1 i
  have kX:=setAll_new [.string ⟨#[]⟩,.slice none 0 0] kc1 rfl;have HX:=Nm.hide (below_setA (Nat.le_add_right _ 2) [.string ⟨#[]⟩,.slice none 0 0] 0 _ bw1);simp only [setAll,Nat.zero_add] at kX HX;have rX:=fun i=>blk_cell kX i
  clear kX;go_wp2;rw [HN.out];refine bodyPost_ret (v:=.tuple #[.agg #[.string ⟨#[]⟩,.slice none 0 0],.int .i64 32]) ?_ rfl ⟨_,_,rfl,Pz.bad (by decide),HX.out⟩
  simp [results,Tryz.f15,go_sem,rX]
 |true=>
  rw [hz,if_pos rfl] at hck
  cases hl:(decide (500<del.length)||decide (500<add.length)) with
  |true=>
   have HN:Hid (R=32):=by show _=_;rw [HR.out,ptC,if_pos hz,pzC,if_pos hl]
   rw [hW0] at hck;clear HR
   by_cases hdl:500<del.length
   ·have i1:(500:Int)<(del.length:Int):=by omega
    clear hl hdl;go_enter Tryz.func15,Tryz.ntmps15;go_wp2_with fail
    rw [<- hW0] at hck ⊢;clear hW0;go_at_call 20
    refine hck.mono ?_;rintro e w1 ⟨rfl,b1⟩;have bw1:=Nm.below_two b0 b1;have kz1:=blk_below kz b1;have rz1:=fun i=>blk_cell kz1 i
    have kc1:=blk_below kc b1;have rk:=fun i=>blk_cell kc1 i
    have fk:=fun i=>blk_frozen kc1 i
    have kX:=setAll_new [.string ⟨#[]⟩,.slice none 0 0] kc1 rfl;have HX:=Nm.hide (below_setA (Nat.le_add_right _ 2) [.string ⟨#[]⟩,.slice none 0 0] 0 _ bw1);simp only [setAll,Nat.zero_add] at kX HX;have rX:=fun i=>blk_cell kX i
    clear kX;go_wp2;rw [HN.out];refine bodyPost_ret (v:=.tuple #[.agg #[.string ⟨#[]⟩,.slice none 0 0],.int .i64 32]) ?_ rfl ⟨_,_,rfl,Pz.bad (by decide),HX.out⟩;simp [results,Tryz.f15,go_sem,rX]
   ·have i1:¬(500:Int)<(del.length:Int):=by omega
    have i2:(500:Int)<(add.length:Int):=by simp at hl;omega
    clear hl hdl;go_enter Tryz.func15,Tryz.ntmps15;go_wp2_with fail
    rw [<- hW0] at hck ⊢;clear hW0;go_at_call 20
    refine hck.mono ?_;rintro e w1 ⟨rfl,b1⟩;have bw1:=Nm.below_two b0 b1;have kz1:=blk_below kz b1;have rz1:=fun i=>blk_cell kz1 i
    have kc1:=blk_below kc b1;have rk:=fun i=>blk_cell kc1 i
    have fk:=fun i=>blk_frozen kc1 i
    have kX:=setAll_new [.string ⟨#[]⟩,.slice none 0 0] kc1 rfl;have HX:=Nm.hide (below_setA (Nat.le_add_right _ 2) [.string ⟨#[]⟩,.slice none 0 0] 0 _ bw1);simp only [setAll,Nat.zero_add] at kX HX;have rX:=fun i=>blk_cell kX i
    clear kX;go_wp2;rw [HN.out];refine bodyPost_ret (v:=.tuple #[.agg #[.string ⟨#[]⟩,.slice none 0 0],.int .i64 32]) ?_ rfl ⟨_,_,rfl,Pz.bad (by decide),HX.out⟩
    simp [results,Tryz.f15,go_sem,rX]
  |false=>
   have l1:del.length<=500:=by simp at hl;omega
   have l2:add.length<=500:=by simp at hl;omega
   have i1:¬(500:Int)<(del.length:Int):=by omega
   have i2:¬(500:Int)<(add.length:Int):=by omega
   have hpa:=fun W (hW:Below w.heap.size w W)=>l11Patch_any o _ _ _ ps old new del add W (h.below hW) (hd.below hW) (hda.below hW) hz hs hpl hF ho hfo hfn hfa l1 l2
   have HN:Hid (R=pzC ps o old new del add):=by show _=_;rw [HR.out,ptC,if_pos hz]
   rw [<- HN.out] at hpa;rw [hW0] at hck;clear HR HN;generalize pzL ps new del add=PL at*;go_enter Tryz.func15,Tryz.ntmps15;go_wp2_with fail
   rw [<- hW0] at hck ⊢;clear hW0;go_at_call 20
   refine hck.mono ?_;rintro e w1 ⟨rfl,b1⟩;have bw1:=Nm.below_two b0 b1;have ky1:=blk_below ky b1;have kz1:=blk_below kz b1;have kc1:=blk_below kc b1;have z1:=b1.size;have ry1:=fun i=>blk_cell ky1 i
   have rz1:=fun i=>blk_cell kz1 i
   clear ry hck;go_wp2_with fail
   go_at_call 38
   refine(hpa _ bw1).mono ?_;rintro e w2 ⟨oz,vz,rfl,pz,b2⟩;obtain⟨za,zn,zc,rfl⟩:=pz.sl;have kc2:=blk_below kc1 b2;have bw2:=Nm.below_two bw1 b2;have kX:=setAll_new [.string oz,.slice za zn zc] kc2 rfl;have HX:Hid (Pz R PL o (setAll w2 (w.heap.size+2) 0 [.string oz,.slice za zn zc]) w.heap.size oz (.slice za zn zc)∧Below w.heap.size w (setAll w2 (w.heap.size+2) 0 [.string oz,.slice za zn zc])):=⟨(Pz.far (Pz.far pz (by omega)) (by omega)).base (by omega),below_setA (Nat.le_add_right _ _) _ 0 _ bw2⟩;simp only [setAll,Nat.zero_add] at kX HX;have rX:=fun i=>blk_cell kX i
   have rk:=fun i=>blk_cell kc2 i
   have fk:=fun i=>blk_frozen kc2 i
   clear kX ry1 rz1;go_wp2;refine bodyPost_ret (v:=.tuple #[.agg #[.string oz,.slice za zn zc],.int .i64 R]) ?_ rfl ⟨_,_,rfl,HX.out.1,HX.out.2⟩;simp [results,Tryz.f15,go_sem,rX]
theorem pz_same{ps qs:List Zp}(e:qs.map (·.1)=ps.map (·.1))(o:ByteArray)(a b:Rr)(xs ys:List Rr):ptC qs o a b xs ys=ptC ps o a b xs ys∧pzL qs b xs ys=pzL ps b xs ys:=by
 exact⟨by rw [ptC,ptC,pzC,pzC,pzL,pzL,soaOf,soaOf,zoneRecs_same e,zOK_same e],by rw [pzL,pzL,zoneRecs_same e]⟩
theorem fitP_same{ps qs:List Zp}(e:qs.map (·.1)=ps.map (·.1))(h:FitZ ps):FitZ qs:=by
 intro q hq;have:q.1∈qs.map (·.1):=List.mem_map.2 ⟨q,hq,rfl⟩;rw [e] at this;obtain⟨p,hp1,hp2⟩:=List.mem_map.1 this;rw [<- hp2];exact h p hp1
def pzO(C:Int)(o:ByteArray):ByteArray:=if C=0 then o else⟨#[]⟩
def pzZ(C:Int)(L:List Rr):List Sz:=if C=0 then bldZ L else []
def PzU(O:ByteArray)(Z:List Sz)(C:Int)(w:World)(e:Ending)(w':World):Prop:=
 ∃ a c qs,e=.returned (.tuple #[.agg #[.string O,.slice a (List.length qs) c],.int .i64 C])∧List.map (·.1) qs=Z∧ZOwn w' w.heap.size (.slice a qs.length c) qs∧Below w.heap.size w w'
theorem pz_uni{C:Int}{L:List Rr}{o:ByteArray}{w w':World}{e:Ending}(h:PzPost C L o w e w'):PzU (pzO C o) (pzZ C L) C w e w':=by
 obtain⟨oz,vz,rfl,hz,hb⟩:=h
 by_cases hc:C=0
 ·obtain⟨rfl,ps,hp,ho⟩:=hz.1 hc;obtain⟨a,c,rfl⟩:=own_sl ho.outer;exact⟨a,c,ps,by rw [pzO,if_pos hc],by rw [pzZ,if_pos hc];exact hp,ho,hb⟩
 ·obtain⟨rfl,rfl⟩:=hz.2 hc;exact⟨none,0,[],by rw [pzO,if_neg hc];rfl,by rw [pzZ,if_neg hc];rfl,ZOwn.nil _ _,hb⟩
theorem pz_zl{ps qs:List Zp}{o:ByteArray}{a b:Rr}{xs ys:List Rr}(h:qs.map (·.1)=pzZ (ptC ps o a b xs ys) (pzL ps b xs ys)):zl qs<=400000∧∀ q∈qs,q.1.da.length<=1000000000:=by
 by_cases hc:ptC ps o a b xs ys=0
 ·rw [pzZ,if_pos hc] at h
  have hb:(bldE (pzL ps b xs ys) o).1=0:=by
   unfold ptC pzC at hc
   split at hc
   ·split at hc
    ·cases hc
    ·split at hc
     ·cases hc
     ·split at hc
      ·cases hc
      ·exact hc
   ·cases hc
  exact bz_zl (list:=pzL ps b xs ys) (apex:=o) (by rw [bzZ,if_pos hb];exact h)
 ·rw [pzZ,if_neg hc] at h;have:qs=[]:=List.map_eq_nil_iff.1 h;subst this;exact⟨by simp [zl],by simp⟩
section
variable {o:ByteArray}{ps:List Zp}{a b:Rr}{xs ys:List Rr}
theorem specPz_same(hs:zsum ps<=1048576)(hl:ps.length<=1048576)(hF:FitZ ps)(ho:o.size<=1048576)(hfo:a.da.size<=1048576)(hfn:RFit b∧b.own.size<=1048576∧b.da.size<=1048576)(hfa:∀ x∈ys,x.own.size<=1048576∧x.da.size<=1048576)
 (u d e:Value) (qs:List Zp) (W:World) (e1:qs.map (·.1)=ps.map (·.1)) (z1:ZRow W u qs) (hd:CRow W d xs.length 5 (rvVs xs)) (he:CRow W e ys.length 5 (rvVs ys)):
 Calls Tryz.prog 15 #[.agg #[.string o,u],cgV a b d e] W (PzU (pzO (ptC ps o a b xs ys) o) (pzZ (ptC ps o a b xs ys) (pzL ps b xs ys)) (ptC ps o a b xs ys) W):=by
 have n1:qs.length=ps.length:=by have:=congrArg List.length e1;simpa using this
 obtain⟨p1,p2⟩:=pz_same e1 o a b xs ys;rw [<- p1,<- p2];exact(specPatchZone_any o u d e qs a b xs ys W z1 hd he (by rw [zsum_same e1];exact hs) (by omega) (fitP_same e1 hF) ho hfo hfn hfa).mono (fun _ _ h=>pz_uni h)
theorem implPz_same(hs:zsum ps<=1048576)(hF:FitZ ps)(ho:o.size<=1048576)(hfo:a.da.size<=1048576)(hfn:RFit b∧b.own.size<=1048576∧b.da.size<=1048576)(hfd:∀ x∈xs,RFit x)(hfa:∀ x∈ys,x.own.size<=1048576∧x.da.size<=1048576)
 (u d e:Value) (qs:List Zp) (W:World) (e1:qs.map (·.1)=ps.map (·.1)) (z1:ZRow W u qs) (hd:CRow W d xs.length 5 (rvVs xs)) (he:CRow W e ys.length 5 (rvVs ys)):
 Calls Tryz.prog 17 #[.agg #[.string o,u],cgV a b d e] W (PzU (pzO (ptC ps o a b xs ys) o) (pzZ (ptC ps o a b xs ys) (pzL ps b xs ys)) (ptC ps o a b xs ys) W):=by
 obtain⟨p1,p2⟩:=pz_same e1 o a b xs ys;rw [<- p1,<- p2];exact(implPatchZone_any o u d e qs a b xs ys W z1 hd he (by rw [zsum_same e1];exact hs) (fun p hp=>⟨(fitP_same e1 hF p hp).1,(fitP_same e1 hF p hp).2.2⟩) ho hfo hfn hfd hfa).mono (fun _ _ h=>pz_uni h)
end
def Bks(W:World)(bl:List (Nat×Array Value×Nat)):Prop:=∀ x∈bl,Blk W x.1 x.2.1 x.2.2
section
variable {w w':World}{bl:List (Nat×Array Value×Nat)}{B N:Nat}{v:Value}{qs:List Zp}
theorem Bks.get(h:Bks w bl)(i:Nat){b:Nat}{cs:Array Value}{T:Nat}(hi:bl[i]? =some (b,cs,T)):Blk w b cs T:=h _ (List.mem_of_getElem? hi)
theorem Bks.below(h:Bks w bl)(hb:Below w.heap.size w w'):Bks w' bl:=fun x hx=>blk_below (h x hx) hb
theorem Bks.keep(h:Bks w bl)(hk:∀ x∈bl,w'.heap[x.1]? =w.heap[x.1]?):Bks w' bl:=fun x hx=>(hk x hx).trans (h x hx)
theorem Bks.cons{b:Nat}{cs:Array Value}{T:Nat}(k:Blk w b cs T)(h:Bks w bl):Bks w ((b,cs,T)::bl):=by
 intro x hx
 rcases List.mem_cons.1 hx with rfl|hx
 ·exact k
 ·exact h x hx
theorem own_kpP{B e s n:Nat}{v:Value}{xs:List Value}(h:w.ownsRow B e s v n xs)(hk:∀ g,v.ownBlock=some g->w'.heap[g]? =w.heap[g]?):w'.ownsRow B e s v n xs:=by
 refine⟨h.1,?_⟩
 rcases h.2 with h0|⟨g,cap,cur,rfl,hb1,hg,r⟩
 ·exact .inl h0
 ·exact .inr ⟨g,cap,cur,rfl,hb1,(hk g rfl).trans hg,r⟩
theorem ZOwn.keep(h:ZOwn w B v qs)(hk:∀ g∈zfp v qs,w'.heap[g]? =w.heap[g]?):ZOwn w' B v qs:=
 ⟨own_kpP h.outer (fun g hg=>hk g (by simp [zfp,hg])),fun i p hp=>own_kpP (h.inner i p hp) (fun g hg=>hk g (by
  simp only [zfp,List.mem_append,List.mem_flatMap]
  exact .inr ⟨p,List.mem_of_getElem? hp,by simp [hg]⟩)),h.apart⟩
theorem zfp_lt(h:ZOwn w B v qs):∀ b∈zfp v qs,b<w.heap.size:=by
 intro b hb;simp only [zfp,List.mem_append,List.mem_flatMap] at hb
 rcases hb with hb|⟨p,hp,hb⟩
 ·cases hv:v.ownBlock with
  |none=>rw [hv] at hb;simp at hb
  |some q=>rw [hv] at hb;simp at hb;subst hb;exact(h.outer.lt _ hv).2
 ·obtain⟨i,hi⟩:=List.getElem?_of_mem hp
  cases hv:p.2.ownBlock with
  |none=>rw [hv] at hb;simp at hb
  |some q=>rw [hv] at hb;simp at hb;subst hb;exact((h.inner i p hi).lt _ hv).2
theorem COwn.mjP{B' C':Nat}{d e:Value}{xs ys:List Rr}(h:COwn w B d e xs ys)(hC:C'<=B)(hm:Mj B' C' w w'):COwn w' B d e xs ys:=by
 obtain⟨M,h1,h2,h3,h4⟩:=h;exact⟨M,h1,own_mj h2 (fun g hg=>.inr (by have:=(h2.lt g hg).1;omega)) hm,own_mj h3 (fun g hg=>.inr (by have:=(h3.lt g hg).1;omega)) hm,h4⟩
theorem COwn.bds{d e:Value}{xs ys:List Rr}(h:COwn w B d e xs ys):(∀ g,d.ownBlock=some g->B<=g∧g<w.heap.size)∧∀ g,e.ownBlock=some g->B<=g∧g<w.heap.size:=by
 obtain⟨M,h1,h2,h3,h4⟩:=h;exact⟨fun g hg=>h2.lt g hg,fun g hg=>⟨Nat.le_trans h1 (h3.lt g hg).1,(h3.lt g hg).2⟩⟩
theorem COwn.rd{d e:Value}{xs ys:List Rr}(h:COwn w B d e xs ys):CRow w d xs.length 5 (rvVs xs)∧CRow w e ys.length 5 (rvVs ys):=by
 obtain⟨M,h1,h2,h3,h4⟩:=h;exact⟨CRow.of_owns h2,CRow.of_owns h3⟩
end
end Go.Proofs.YtieobflhfcgliaaGreat
