import Derived.Test.YtcodajnebegdiaaGreatJMakeOk
import Derived.Test.YtcodajnebegdiaaGreatJMath
import Derived.Test.YtcodajnebegdiaaGreatJTbBI
import Derived.Test.YtcodajnebegdiaaGreatJSSmall
import Derived.Test.YtcodajnebegdiaaGreatRows
import Derived.WalkSpells
import Derived.WalkLawsBesides
import Derived.RegionTactic
import Derived.ChangeAlike
import Derived.BigRegion
import Derived.Deep.RegionHeld3
namespace Go.Proofs.YtcodajnebegdiaaGreat
open Go.RowKit
set_option linter.unusedVariables false
theorem find_hit{α:Type}{P:α->Bool}:∀ {l:List α} {j:Nat} {s:α},l[j]? =some s->(∀ i x,i<j->l[i]? =some x->P x=false)->P s=true->l.find? P=some s
 |[],j,s,h,_,_=>by simp at h
 |x::l,0,s,h,_,hp=>by
  simp only [List.getElem?_cons_zero,Option.some.injEq] at h;subst h
  rw [List.find?_cons_of_pos hp]
 |x::l,j+1,s,h,hno,hp=>by
  rw [List.find?_cons_of_neg (by rw [hno 0 x (by omega) rfl];decide)];exact find_hit (by simpa using h) (fun i y hi hy=>hno (i+1) y (by omega) (by simpa using hy)) hp
theorem find_miss{α:Type}{P:α->Bool}{l:List α}(hno:∀ (i:Nat) (x:α),l[i]? =some x->P x=false):l.find? P=none:=by
 rw [List.find?_eq_none];intro x hx;obtain⟨i,hi⟩:=List.getElem?_of_mem hx;rw [hno i x hi];decide
section
variable {ps:List Zp}{q:Int}{j:Nat}{p:Zp}
theorem at_all(h:q=255∧0<ps.length):atZ (ps.map (·.1)) q=⟨3,ps.map (·.1),false,⟨#[]⟩⟩:=by rw [atZ,if_pos (by simpa using h)]
theorem at_hit1(hq:¬(q=255∧0<ps.length))(hp:ps[j]? =some p)(hno:∀ i x,i<j->ps[i]? =some x->x.1.ty≠q)(h:p.1.ty=q):atZ (ps.map (·.1)) q=⟨3,[p.1],false,⟨#[]⟩⟩:=by
 have e:(ps.map (·.1)).find? (fun s=>decide (s.ty=q))=some p.1:=find_hit (j:=j) (by rw [List.getElem?_map,hp];rfl) (fun i x hi hx=>by
  rw [List.getElem?_map,Option.map_eq_some_iff] at hx;obtain⟨y,hy,rfl⟩:=hx
  simpa using hno i y hi hy) (by simpa using h)
 rw [atZ,if_neg (by simpa using hq),e]
theorem at_hit2(hq:¬(q=255∧0<ps.length))(hn1:∀ (i:Nat) (x:Zp),ps[i]? =some x->x.1.ty≠q)(hp:ps[j]? =some p)(hno:∀ i x,i<j->ps[i]? =some x->x.1.ty≠5)(h:p.1.ty=5):atZ (ps.map (·.1)) q=⟨4,[p.1],false,hdB p.1.da⟩:=by
 have e1:(ps.map (·.1)).find? (fun s=>decide (s.ty=q))=none:=find_miss (fun i x hx=>by
  rw [List.getElem?_map,Option.map_eq_some_iff] at hx;obtain⟨y,hy,rfl⟩:=hx
  simpa using hn1 i y hy)
 have e2:(ps.map (·.1)).find? (fun s=>decide (s.ty=5))=some p.1:=find_hit (j:=j) (by rw [List.getElem?_map,hp];rfl) (fun i x hi hx=>by
  rw [List.getElem?_map,Option.map_eq_some_iff] at hx;obtain⟨y,hy,rfl⟩:=hx
  simpa using hno i y hi hy) (by simpa using h)
 rw [atZ,if_neg (by simpa using hq),e1,e2]
theorem at_miss(hq:¬(q=255∧0<ps.length))(hn1:∀ (i:Nat) (x:Zp),ps[i]? =some x->x.1.ty≠q)(hno:∀ (i:Nat) (x:Zp),ps[i]? =some x->x.1.ty≠5):atZ (ps.map (·.1)) q=stp 5:=by
 have e1:(ps.map (·.1)).find? (fun s=>decide (s.ty=q))=none:=find_miss (fun i x hx=>by
  rw [List.getElem?_map,Option.map_eq_some_iff] at hx;obtain⟨y,hy,rfl⟩:=hx
  simpa using hn1 i y hy)
 have e2:(ps.map (·.1)).find? (fun s=>decide (s.ty=5))=none:=find_miss (fun i x hx=>by
  rw [List.getElem?_map,Option.map_eq_some_iff] at hx;obtain⟨y,hy,rfl⟩:=hx
  simpa using hno i y hy)
 rw [atZ,if_neg (by simpa using hq),e1,e2]
theorem zrow_sub{w:World}{b off cap:Nat}(h:ZRow w (.slice (some ⟨b,off,none⟩) ps.length cap) ps)(hp:ps[j]? =some p):ZRow w (.slice (some ⟨b,off+j*4,none⟩) 1 (cap-j)) [p]:=by
 have hj:=(List.getElem?_eq_some_iff.1 hp).1;obtain⟨⟨_,a,c,e,h1,h2,h3⟩,hd⟩:=h;simp only [Value.slice.injEq] at e;obtain⟨rfl,-,rfl⟩:=e;obtain⟨b',off',e2,hc⟩:=h3 (by omega);simp only [Option.some.injEq,Addr.mk.injEq] at e2;obtain⟨rfl,rfl,-⟩:=e2;refine⟨⟨rfl,_,_,rfl,by simp;omega,by omega,fun _=>⟨b,off+j*4,rfl,fun i x hx=>?_⟩⟩,fun q hq=>?_⟩
 ·have hl:i<4:=by have:=(List.getElem?_eq_some_iff.1 hx).1;simpa [zpVs,zpV] using this
  have e3:(zpVs ps)[j*4+i]? =some x:=by
   rw [zpVs_at ps j i p hp hl];simpa [zpVs] using hx
  have:=hc (j*4+i) x e3
  rwa [<- Nat.add_assoc] at this
 ·simp only [List.mem_singleton] at hq;subst hq;exact hd q (List.mem_of_getElem? hp)
end
def SrP(v:Value)(ps:List Zp)(s:Stp)(w:World)(e:Ending)(w':World):Prop:=∃ u qs,e=.returned (.agg #[.int .i64 s.kd,u,.bool s.wild,.string s.tgt])∧List.map (·.1) qs=s.ss∧(∀ X,ZRow X v ps->ZRow X u qs)∧Below w.heap.size w w'
abbrev st4(k:Int)(v:Value)(b:Bool)(t:ByteArray):List Value:=[.int .i64 k,v,.bool b,.string t]
abbrev st0:Array Value:=#[.int .i64 0,.slice none 0 0,.bool false,.string ⟨#[]⟩]
theorem below_setR{B g:Nat}{w:World}(hg:B<=g):∀ (vs:List Value) (i:Nat) (W:World),Below B w W->Below B w (setAll W g i vs)
 |[],_,_,h=>h
 |y::vs,i,W,h=>below_setR hg vs (i+1) _ (h.setCell hg _)
set_option maxRecDepth 100000 in
set_option maxHeartbeats 3200000 in
theorem l07At_any(v:Value)(ps:List Zp)(q:Int)(w:World)(h:ZRow w v ps)(hl:ps.length<=1048576)(hne:∀ p∈ps,p.1.ty=5->0<p.1.da.length):
 Calls Tryz.prog 42 #[v,.int .i64 q] w (SrP v ps (atZ (ps.map (·.1)) q) w):=by
 obtain⟨va,vc,rfl⟩:∃ va vc,v=.slice va ps.length vc:=by obtain⟨⟨_,a,c,e,_⟩,_⟩:=h;exact⟨a,c,e⟩
 have hcap:ps.length<=vc:=by obtain⟨⟨_,a,c,e,h1,_⟩,_⟩:=h;simp only [Value.slice.injEq] at e;omega
 have hcm:vc<=maxLen:=by obtain⟨⟨_,a,c,e,_,h2,_⟩,_⟩:=h;simp only [Value.slice.injEq] at e;omega
 have b0:=(Below.refl w.heap.size w).alloc (Nat.le_refl _) (.cells st0 28);have k0:=blk_new w st0 28;obtain⟨S,HS⟩:∃ S,Hid (S=atZ (ps.map (·.1)) q):=⟨_,rfl⟩;rw [<- HS.out];unfold maxLen at hcm
 by_cases hq:q=255∧0<ps.length
 ·have HE:Hid (S=⟨3,ps.map (·.1),false,⟨#[]⟩⟩):=by show _=_;rw [HS.out,at_all hq]
  obtain⟨hq1,hq2⟩:=hq;subst hq1;have i1:(0:Int)<(ps.length:Int):=by omega
  have kM:=blk_new w (st4 3 (.slice va ps.length vc) false ⟨#[]⟩).toArray 28;have bM:=(Below.refl w.heap.size w).alloc (Nat.le_refl _) (.cells (st4 3 (.slice va ps.length vc) false ⟨#[]⟩).toArray 28);have rM:=fun i=>blk_cell kM i
  have rk:=fun i=>blk_cell k0 i
  have fk:=fun i=>blk_frozen k0 i
  have HX:=Nm.hide bM;clear h hne HS k0 b0 kM bM;go_enter Tryz.func42,Tryz.ntmps42;go_wp2;refine bodyPost_ret (v:=.agg #[.int .i64 3,.slice va ps.length vc,.bool false,.string ⟨#[]⟩]) ?_ rfl ⟨.slice va ps.length vc,ps,by rw [HE.out],by rw [HE.out],fun _ h=>h,HX.out⟩;simp [results,Tryz.f42,go_sem,rM]
 ·have i1:(q==255)=true->¬(0:Int)<(ps.length:Int):=fun e h0=>hq ⟨by simpa using e,by omega⟩
  have HZ:=Nm.hide (fun W (hW:Below w.heap.size w W)=>h.below hW);have HN:=Nm.hide hne;have HQ:=Nm.hide hq;clear h hne hq
  cases hqb:(q==255) with
  |true=>
   have i2:=i1 hqb;clear i1;go_enter Tryz.func42,Tryz.ntmps42;go_wp2_with fail
   generalize hgg:w.heap.size=g at*;have HGG:=Nm.hide hgg;clear hgg
   go_loopw [5] (fun i wr=>∃ (j:Nat),j<=ps.length∧i=.int .i64 j∧Below g w wr∧Blk wr g st0 28∧Hid (∀ i x,i<j->ps[i]? =some x->x.1.ty≠q)) (fun i _=>ps.length-(intOf i).toNat)
   case atStart=>exact⟨0,Nat.zero_le _,rfl,b0,k0,fun i x hi=>by omega⟩
   case round=>
    clear b0 k0;obtain⟨j,hj,rfl,bj,kj,HNO⟩:=hrel
    by_cases hlt:j<ps.length
    ·first
     |(exfalso;omega)
     |obtain⟨p,hp⟩:∃ p,ps[j]? =some p:=⟨_,List.getElem?_eq_getElem hlt⟩
      obtain⟨⟨_,a9,c9,e9,_,_,hc9⟩,hd9⟩:=HZ.out _ bj;simp only [Value.slice.injEq] at e9;obtain⟨rfl,_,rfl⟩:=e9;obtain⟨b,off,rfl,hcell⟩:=hc9 (by omega);obtain⟨d0,d1,d2,d3⟩:=zp_cells hcell hp;have n1:(0:Int)<=(j:Int):=by omega
      have n2:(j:Int)<(ps.length:Int):=by omega
      by_cases hty:p.1.ty=q
      ·have t1:(p.1.ty==q)=true:=by simpa using hty
       have n3:¬vc=j:=by omega
       have n4:(j:Int)+1<=(vc:Int):=by omega
       have n5:(j:Int)<=(j:Int)+1:=by omega
       have HE:Hid (S=⟨3,[p.1],false,⟨#[]⟩⟩):=by(show _=_;rw [HS.out,at_hit1 HQ.out hp HNO.out hty])
       have zs:=fun X (hX:ZRow X (.slice (some ⟨b,off,none⟩) ps.length vc) ps)=>zrow_sub hX hp
       have kX:=setAll_new (st4 3 (.slice (some ⟨b,off+j*4,none⟩) 1 (vc-j)) false ⟨#[]⟩) kj rfl;have HX:Hid (List.map (·.1) [p]=[p.1]∧(∀ X,ZRow X (.slice (some ⟨b,off,none⟩) ps.length vc) ps->ZRow X (.slice (some ⟨b,off+j*4,none⟩) 1 (vc-j)) [p])∧Below g w (setAll wr g 0 (st4 3 (.slice (some ⟨b,off+j*4,none⟩) 1 (vc-j)) false ⟨#[]⟩))):=⟨rfl,zs,below_setR (Nat.le_refl g) _ 0 _ bj⟩;have rk:=fun i=>blk_cell kj i
       have fk:=fun i=>blk_frozen kj i
       clear hc9 hd9 hcell hp d0 d2 d3 zs HNO HQ hty kj HZ HN;simp only [setAll,Nat.reduceAdd,Nat.zero_add] at kX HX;have rX:=fun i=>blk_cell kX i
       clear kX;go_wp2_with fail
       refine bodyPost_ret (v:=.agg #[.int .i64 3,(.slice (some ⟨b,off+j*4,none⟩) 1 (vc-j)),.bool false,.string ⟨#[]⟩]) ?_ rfl ⟨(.slice (some ⟨b,off+j*4,none⟩) 1 (vc-j)),_,by rw [HE.out],by rw [HE.out];exact HX.out.1,HX.out.2.1,by rw [HGG.out];exact HX.out.2.2⟩;simp [results,Tryz.f42,go_sem,rX]
      ·have t1:(p.1.ty==q)=false:=by simpa using hty
       have HNO2:Hid (∀ i x,i<j+1->ps[i]? =some x->x.1.ty≠q):=fun i x hi hx=>by
        (rcases Nat.lt_succ_iff_lt_or_eq.1 hi with h1|rfl
         ·exact HNO.out i x h1 hx
         ·rw [hp] at hx;cases hx;exact hty)
       clear hc9 hd9 hcell hp d0 d2 d3 HNO hty;go_wp2;go_roundw
       case rel=>exact⟨j+1,by omega,by go_num,bj,kj,HNO2⟩
       case measure=>simp [intOf];omega
    ·obtain rfl:j=ps.length:=by omega
     have i9:(ps.length:Int)<=(ps.length:Int):=by omega
     have HN1:Hid (∀ (i:Nat) (x:Zp),ps[i]? =some x->x.1.ty≠q):=fun i x hx=>HNO.out i x (List.getElem?_eq_some_iff.1 hx).1 hx
     clear HNO hlt hj;obtain⟨wo,hwo⟩:∃ wo,wo=wr:=⟨wr,rfl⟩;subst hwo;go_wp2_with fail
     go_loopw [6] (fun i wr=>∃ (j:Nat),j<=ps.length∧i=.int .i64 j∧Below g w wr∧Blk wr g st0 28∧Hid (∀ i x,i<j->ps[i]? =some x->x.1.ty≠5)) (fun i _=>ps.length-(intOf i).toNat)
     case atStart=>exact⟨0,Nat.zero_le _,rfl,bj,kj,fun i x hi=>by omega⟩
     case round=>
      clear bj kj;obtain⟨j,hj,rfl,bj,kj,HNO⟩:=hrel
      by_cases hlt:j<ps.length
      ·first
       |(exfalso;omega)
       |obtain⟨p,hp⟩:∃ p,ps[j]? =some p:=⟨_,List.getElem?_eq_getElem hlt⟩
        obtain⟨⟨_,a9,c9,e9,_,_,hc9⟩,hd9⟩:=HZ.out _ bj;simp only [Value.slice.injEq] at e9;obtain⟨rfl,_,rfl⟩:=e9;obtain⟨b,off,rfl,hcell⟩:=hc9 (by omega);obtain⟨d0,d1,d2,d3⟩:=zp_cells hcell hp;have n1:(0:Int)<=(j:Int):=by omega
        have n2:(j:Int)<(ps.length:Int):=by omega
        by_cases hty:p.1.ty=5
        ·have t1:(p.1.ty==5)=true:=by simpa using hty
         have n3:¬vc=j:=by omega
         have n4:(j:Int)+1<=(vc:Int):=by omega
         have n5:(j:Int)<=(j:Int)+1:=by omega
         have n6:IntKind.i64.wrap ((j:Int)+1)=(j:Int)+1:=Go.wrap_small _ (by omega) (by omega);have n7:(0:Int)<=(j:Int)+1:=by omega
         have HE:Hid (S=⟨4,[p.1],false,hdB p.1.da⟩):=by(show _=_;rw [HS.out,at_hit2 HQ.out HN1.out hp HNO.out hty])
         have zs:=fun X (hX:ZRow X (.slice (some ⟨b,off,none⟩) ps.length vc) ps)=>zrow_sub hX hp
         have hda:=HN.out p (List.mem_of_getElem? hp) hty
         obtain⟨x0,xr,hxr⟩:∃ x r,p.1.da=x::r:=by
          (cases hx:p.1.da with
           |nil=>rw [hx] at hda;simp at hda
           |cons x r=>exact⟨x,r,rfl⟩)
         obtain⟨da,dc,ed,hdl,hdm,-,hdc⟩:=hd9 p (List.mem_of_getElem? hp);obtain⟨db,doff,rfl,hdcell⟩:=hdc (by rw [hxr];simp);have cD:=hdcell 0 x0 (by rw [hxr];rfl);rw [Nat.add_zero] at cD;rw [ed] at d3;have m1:(0:Int)<(p.1.da.length:Int):=by omega
         have hdB0:hdB p.1.da=x0:=by rw [hxr];rfl
         rw [hdB0] at HE;have kX:=setAll_new (st4 4 (.slice (some ⟨b,off+j*4,none⟩) 1 (vc-j)) false x0) kj rfl;have HX:Hid (List.map (·.1) [p]=[p.1]∧(∀ X,ZRow X (.slice (some ⟨b,off,none⟩) ps.length vc) ps->ZRow X (.slice (some ⟨b,off+j*4,none⟩) 1 (vc-j)) [p])∧Below g w (setAll wr g 0 (st4 4 (.slice (some ⟨b,off+j*4,none⟩) 1 (vc-j)) false x0))):=⟨rfl,zs,below_setR (Nat.le_refl g) _ 0 _ bj⟩;have rk:=fun i=>blk_cell kj i
         have fk:=fun i=>blk_frozen kj i
         clear hc9 hd9 hcell hp d0 d2 zs HNO HQ hty kj HZ HN HN1 hdc hdcell hxr hdB0 ed;simp only [setAll,Nat.reduceAdd,Nat.zero_add] at kX HX;have rX:=fun i=>blk_cell kX i
         clear kX;go_upto_region 12 with fail
         refine wp_region_last (fun X=>X.cell? ⟨b,off+j*4+3,none⟩=some (.slice (some ⟨db,doff,none⟩) p.1.da.length dc)∧X.cell? ⟨db,doff,none⟩=some (.string x0)) 13 (by kernel_rfl) ⟨d3,cD⟩ (fun hHeld=>?_);refine tkL (i:=0) (v:=?_) rfl ?_ ?_;rotate_left 1
         ·(rintro W ⟨s1,s2⟩;go_simp;try (with_reducible rfl))
         refine tkL (i:=1) (v:=?_) rfl ?_ ?_;rotate_left 1
         ·(rintro W ⟨s1,s2⟩;go_simp;try (with_reducible rfl))
         refine tkL (i:=2) (v:=?_) rfl ?_ ?_;rotate_left 1
         ·(rintro W ⟨s1,s2⟩;go_simp;try (with_reducible rfl))
         refine tkL (i:=3) (v:=?_) rfl ?_ ?_;rotate_left 1
         ·(rintro W ⟨s1,s2⟩;go_simp;try (with_reducible rfl))
         refine tkL (i:=4) (v:=?_) rfl ?_ ?_;rotate_left 1
         ·(rintro W ⟨s1,s2⟩;go_simp;try (with_reducible rfl))
         refine tkL (i:=5) (v:=?_) rfl ?_ ?_;rotate_left 1
         ·(rintro W ⟨s1,s2⟩;go_simp;try (with_reducible rfl))
         refine tkL (i:=6) (v:=?_) rfl ?_ ?_;rotate_left 1
         ·(rintro W ⟨s1,s2⟩;go_simp;try (with_reducible rfl))
         refine tkL (i:=7) (v:=?_) rfl ?_ ?_;rotate_left 1
         ·(rintro W ⟨s1,s2⟩;go_simp;try (with_reducible rfl))
         refine tkL (i:=8) (v:=?_) rfl ?_ ?_;rotate_left 1
         ·(rintro W ⟨s1,s2⟩;go_simp;try (with_reducible rfl))
         refine tkL (i:=9) (v:=?_) rfl ?_ ?_;rotate_left 1
         ·(rintro W ⟨s1,s2⟩;go_simp;try (with_reducible rfl))
         refine tkL (i:=10) (v:=?_) rfl ?_ ?_;rotate_left 1
         ·(rintro W ⟨s1,s2⟩;go_simp;try (with_reducible rfl))
         refine tkL (i:=11) (v:=?_) rfl ?_ ?_;rotate_left 1
         ·(rintro W ⟨s1,s2⟩;go_simp;try (with_reducible rfl))
         refine tkL (i:=12) (v:=?_) rfl ?_ ?_;rotate_left 1
         ·(rintro W ⟨s1,s2⟩;go_simp;try (with_reducible rfl))
         refine wpAnyL_end (by kernel_rfl) rfl (by kernel_rfl) (fun K hK=>?_);go_simp;refine hK.out _ _ ?_;clear hK K;go_wp2_with fail
         refine bodyPost_ret (v:=.agg #[.int .i64 4,(.slice (some ⟨b,off+j*4,none⟩) 1 (vc-j)),.bool false,.string x0]) ?_ rfl ⟨(.slice (some ⟨b,off+j*4,none⟩) 1 (vc-j)),_,by rw [HE.out],by rw [HE.out];exact HX.out.1,HX.out.2.1,by rw [HGG.out];exact HX.out.2.2.drew⟩;simp [results,Tryz.f42,go_sem,rX]
        ·have t1:(p.1.ty==5)=false:=by simpa using hty
         have HNO2:Hid (∀ i x,i<j+1->ps[i]? =some x->x.1.ty≠5):=fun i x hi hx=>by
          (rcases Nat.lt_succ_iff_lt_or_eq.1 hi with h1|rfl
           ·exact HNO.out i x h1 hx
           ·rw [hp] at hx;cases hx;exact hty)
         clear hc9 hd9 hcell hp d0 d2 d3 HNO hty;go_wp2;go_roundw
         case rel=>exact⟨j+1,by omega,by go_num,bj,kj,HNO2⟩
         case measure=>simp [intOf];omega
      ·obtain rfl:j=ps.length:=by omega
       have HE:Hid (S=stp 5):=by(show _=_;rw [HS.out,at_miss HQ.out HN1.out (fun i x hx=>HNO.out i x (List.getElem?_eq_some_iff.1 hx).1 hx)])
       have kX:=setAll_new (st4 5 (.slice none 0 0) false ⟨#[]⟩) kj rfl;have HX:Hid (List.map (·.1) ([]:List Zp)=[]∧(∀ X,ZRow X (.slice va ps.length vc) ps->ZRow X (.slice none 0 0) [])∧Below g w (setAll wr g 0 (st4 5 (.slice none 0 0) false ⟨#[]⟩))):=⟨rfl,fun X _=>⟨⟨rfl,none,0,rfl,Nat.le_refl _,by decide,fun h=>absurd h (by simp)⟩,by simp⟩,below_setR (Nat.le_refl g) _ 0 _ bj⟩;have rk:=fun i=>blk_cell kj i
       have fk:=fun i=>blk_frozen kj i
       clear HNO HN1 HQ kj HZ HN;simp only [setAll,Nat.reduceAdd,Nat.zero_add] at kX HX;have rX:=fun i=>blk_cell kX i
       clear kX;go_wp2_with fail
       refine bodyPost_ret (v:=.agg #[.int .i64 5,(.slice none 0 0),.bool false,.string ⟨#[]⟩]) ?_ rfl ⟨(.slice none 0 0),_,by rw [HE.out],by rw [HE.out];exact HX.out.1,HX.out.2.1,by rw [HGG.out];exact HX.out.2.2⟩
       simp [results,Tryz.f42,go_sem,rX]
  |false=>
   clear i1;go_enter Tryz.func42,Tryz.ntmps42;go_wp2_with fail
   generalize hgg:w.heap.size=g at*;have HGG:=Nm.hide hgg;clear hgg
   go_loopw [5] (fun i wr=>∃ (j:Nat),j<=ps.length∧i=.int .i64 j∧Below g w wr∧Blk wr g st0 28∧Hid (∀ i x,i<j->ps[i]? =some x->x.1.ty≠q)) (fun i _=>ps.length-(intOf i).toNat)
   case atStart=>exact⟨0,Nat.zero_le _,rfl,b0,k0,fun i x hi=>by omega⟩
   case round=>
    clear b0 k0;obtain⟨j,hj,rfl,bj,kj,HNO⟩:=hrel
    by_cases hlt:j<ps.length
    ·first
     |(exfalso;omega)
     |obtain⟨p,hp⟩:∃ p,ps[j]? =some p:=⟨_,List.getElem?_eq_getElem hlt⟩
      obtain⟨⟨_,a9,c9,e9,_,_,hc9⟩,hd9⟩:=HZ.out _ bj;simp only [Value.slice.injEq] at e9;obtain⟨rfl,_,rfl⟩:=e9;obtain⟨b,off,rfl,hcell⟩:=hc9 (by omega);obtain⟨d0,d1,d2,d3⟩:=zp_cells hcell hp;have n1:(0:Int)<=(j:Int):=by omega
      have n2:(j:Int)<(ps.length:Int):=by omega
      by_cases hty:p.1.ty=q
      ·have t1:(p.1.ty==q)=true:=by simpa using hty
       have n3:¬vc=j:=by omega
       have n4:(j:Int)+1<=(vc:Int):=by omega
       have n5:(j:Int)<=(j:Int)+1:=by omega
       have HE:Hid (S=⟨3,[p.1],false,⟨#[]⟩⟩):=by(show _=_;rw [HS.out,at_hit1 HQ.out hp HNO.out hty])
       have zs:=fun X (hX:ZRow X (.slice (some ⟨b,off,none⟩) ps.length vc) ps)=>zrow_sub hX hp
       have kX:=setAll_new (st4 3 (.slice (some ⟨b,off+j*4,none⟩) 1 (vc-j)) false ⟨#[]⟩) kj rfl;have HX:Hid (List.map (·.1) [p]=[p.1]∧(∀ X,ZRow X (.slice (some ⟨b,off,none⟩) ps.length vc) ps->ZRow X (.slice (some ⟨b,off+j*4,none⟩) 1 (vc-j)) [p])∧Below g w (setAll wr g 0 (st4 3 (.slice (some ⟨b,off+j*4,none⟩) 1 (vc-j)) false ⟨#[]⟩))):=⟨rfl,zs,below_setR (Nat.le_refl g) _ 0 _ bj⟩;have rk:=fun i=>blk_cell kj i
       have fk:=fun i=>blk_frozen kj i
       clear hc9 hd9 hcell hp d0 d2 d3 zs HNO HQ hty kj HZ HN;simp only [setAll,Nat.reduceAdd,Nat.zero_add] at kX HX;have rX:=fun i=>blk_cell kX i
       clear kX;go_wp2_with fail
       refine bodyPost_ret (v:=.agg #[.int .i64 3,(.slice (some ⟨b,off+j*4,none⟩) 1 (vc-j)),.bool false,.string ⟨#[]⟩]) ?_ rfl ⟨(.slice (some ⟨b,off+j*4,none⟩) 1 (vc-j)),_,by rw [HE.out],by rw [HE.out];exact HX.out.1,HX.out.2.1,by rw [HGG.out];exact HX.out.2.2⟩;simp [results,Tryz.f42,go_sem,rX]
      ·have t1:(p.1.ty==q)=false:=by simpa using hty
       have HNO2:Hid (∀ i x,i<j+1->ps[i]? =some x->x.1.ty≠q):=fun i x hi hx=>by
        (rcases Nat.lt_succ_iff_lt_or_eq.1 hi with h1|rfl
         ·exact HNO.out i x h1 hx
         ·rw [hp] at hx;cases hx;exact hty)
       clear hc9 hd9 hcell hp d0 d2 d3 HNO hty;go_wp2;go_roundw
       case rel=>exact⟨j+1,by omega,by go_num,bj,kj,HNO2⟩
       case measure=>simp [intOf];omega
    ·obtain rfl:j=ps.length:=by omega
     have i9:(ps.length:Int)<=(ps.length:Int):=by omega
     have HN1:Hid (∀ (i:Nat) (x:Zp),ps[i]? =some x->x.1.ty≠q):=fun i x hx=>HNO.out i x (List.getElem?_eq_some_iff.1 hx).1 hx
     clear HNO hlt hj;obtain⟨wo,hwo⟩:∃ wo,wo=wr:=⟨wr,rfl⟩;subst hwo;go_wp2_with fail
     go_loopw [6] (fun i wr=>∃ (j:Nat),j<=ps.length∧i=.int .i64 j∧Below g w wr∧Blk wr g st0 28∧Hid (∀ i x,i<j->ps[i]? =some x->x.1.ty≠5)) (fun i _=>ps.length-(intOf i).toNat)
     case atStart=>exact⟨0,Nat.zero_le _,rfl,bj,kj,fun i x hi=>by omega⟩
     case round=>
      clear bj kj;obtain⟨j,hj,rfl,bj,kj,HNO⟩:=hrel
      by_cases hlt:j<ps.length
      ·first
       |(exfalso;omega)
       |obtain⟨p,hp⟩:∃ p,ps[j]? =some p:=⟨_,List.getElem?_eq_getElem hlt⟩
        obtain⟨⟨_,a9,c9,e9,_,_,hc9⟩,hd9⟩:=HZ.out _ bj;simp only [Value.slice.injEq] at e9;obtain⟨rfl,_,rfl⟩:=e9;obtain⟨b,off,rfl,hcell⟩:=hc9 (by omega);obtain⟨d0,d1,d2,d3⟩:=zp_cells hcell hp;have n1:(0:Int)<=(j:Int):=by omega
        have n2:(j:Int)<(ps.length:Int):=by omega
        by_cases hty:p.1.ty=5
        ·have t1:(p.1.ty==5)=true:=by simpa using hty
         have n3:¬vc=j:=by omega
         have n4:(j:Int)+1<=(vc:Int):=by omega
         have n5:(j:Int)<=(j:Int)+1:=by omega
         have n6:IntKind.i64.wrap ((j:Int)+1)=(j:Int)+1:=Go.wrap_small _ (by omega) (by omega);have n7:(0:Int)<=(j:Int)+1:=by omega
         have HE:Hid (S=⟨4,[p.1],false,hdB p.1.da⟩):=by(show _=_;rw [HS.out,at_hit2 HQ.out HN1.out hp HNO.out hty])
         have zs:=fun X (hX:ZRow X (.slice (some ⟨b,off,none⟩) ps.length vc) ps)=>zrow_sub hX hp
         have hda:=HN.out p (List.mem_of_getElem? hp) hty
         obtain⟨x0,xr,hxr⟩:∃ x r,p.1.da=x::r:=by
          (cases hx:p.1.da with
           |nil=>rw [hx] at hda;simp at hda
           |cons x r=>exact⟨x,r,rfl⟩)
         obtain⟨da,dc,ed,hdl,hdm,-,hdc⟩:=hd9 p (List.mem_of_getElem? hp);obtain⟨db,doff,rfl,hdcell⟩:=hdc (by rw [hxr];simp);have cD:=hdcell 0 x0 (by rw [hxr];rfl);rw [Nat.add_zero] at cD;rw [ed] at d3;have m1:(0:Int)<(p.1.da.length:Int):=by omega
         have hdB0:hdB p.1.da=x0:=by rw [hxr];rfl
         rw [hdB0] at HE;have kX:=setAll_new (st4 4 (.slice (some ⟨b,off+j*4,none⟩) 1 (vc-j)) false x0) kj rfl;have HX:Hid (List.map (·.1) [p]=[p.1]∧(∀ X,ZRow X (.slice (some ⟨b,off,none⟩) ps.length vc) ps->ZRow X (.slice (some ⟨b,off+j*4,none⟩) 1 (vc-j)) [p])∧Below g w (setAll wr g 0 (st4 4 (.slice (some ⟨b,off+j*4,none⟩) 1 (vc-j)) false x0))):=⟨rfl,zs,below_setR (Nat.le_refl g) _ 0 _ bj⟩;have rk:=fun i=>blk_cell kj i
         have fk:=fun i=>blk_frozen kj i
         clear hc9 hd9 hcell hp d0 d2 zs HNO HQ hty kj HZ HN HN1 hdc hdcell hxr hdB0 ed;simp only [setAll,Nat.reduceAdd,Nat.zero_add] at kX HX;have rX:=fun i=>blk_cell kX i
         clear kX;go_upto_region 12 with fail
         refine wp_region_last (fun X=>X.cell? ⟨b,off+j*4+3,none⟩=some (.slice (some ⟨db,doff,none⟩) p.1.da.length dc)∧X.cell? ⟨db,doff,none⟩=some (.string x0)) 13 (by kernel_rfl) ⟨d3,cD⟩ (fun hHeld=>?_);refine tkL (i:=0) (v:=?_) rfl ?_ ?_;rotate_left 1
         ·(rintro W ⟨s1,s2⟩;go_simp;try (with_reducible rfl))
         refine tkL (i:=1) (v:=?_) rfl ?_ ?_;rotate_left 1
         ·(rintro W ⟨s1,s2⟩;go_simp;try (with_reducible rfl))
         refine tkL (i:=2) (v:=?_) rfl ?_ ?_;rotate_left 1
         ·(rintro W ⟨s1,s2⟩;go_simp;try (with_reducible rfl))
         refine tkL (i:=3) (v:=?_) rfl ?_ ?_;rotate_left 1
         ·(rintro W ⟨s1,s2⟩;go_simp;try (with_reducible rfl))
         refine tkL (i:=4) (v:=?_) rfl ?_ ?_;rotate_left 1
         ·(rintro W ⟨s1,s2⟩;go_simp;try (with_reducible rfl))
         refine tkL (i:=5) (v:=?_) rfl ?_ ?_;rotate_left 1
         ·(rintro W ⟨s1,s2⟩;go_simp;try (with_reducible rfl))
         refine tkL (i:=6) (v:=?_) rfl ?_ ?_;rotate_left 1
         ·(rintro W ⟨s1,s2⟩;go_simp;try (with_reducible rfl))
         refine tkL (i:=7) (v:=?_) rfl ?_ ?_;rotate_left 1
         ·(rintro W ⟨s1,s2⟩;go_simp;try (with_reducible rfl))
         refine tkL (i:=8) (v:=?_) rfl ?_ ?_;rotate_left 1
         ·(rintro W ⟨s1,s2⟩;go_simp;try (with_reducible rfl))
         refine tkL (i:=9) (v:=?_) rfl ?_ ?_;rotate_left 1
         ·(rintro W ⟨s1,s2⟩;go_simp;try (with_reducible rfl))
         refine tkL (i:=10) (v:=?_) rfl ?_ ?_;rotate_left 1
         ·(rintro W ⟨s1,s2⟩;go_simp;try (with_reducible rfl))
         refine tkL (i:=11) (v:=?_) rfl ?_ ?_;rotate_left 1
         ·(rintro W ⟨s1,s2⟩;go_simp;try (with_reducible rfl))
         refine tkL (i:=12) (v:=?_) rfl ?_ ?_;rotate_left 1
         ·(rintro W ⟨s1,s2⟩;go_simp;try (with_reducible rfl))
         refine wpAnyL_end (by kernel_rfl) rfl (by kernel_rfl) (fun K hK=>?_);go_simp;refine hK.out _ _ ?_;clear hK K;go_wp2_with fail
         refine bodyPost_ret (v:=.agg #[.int .i64 4,(.slice (some ⟨b,off+j*4,none⟩) 1 (vc-j)),.bool false,.string x0]) ?_ rfl ⟨(.slice (some ⟨b,off+j*4,none⟩) 1 (vc-j)),_,by rw [HE.out],by rw [HE.out];exact HX.out.1,HX.out.2.1,by rw [HGG.out];exact HX.out.2.2.drew⟩;simp [results,Tryz.f42,go_sem,rX]
        ·have t1:(p.1.ty==5)=false:=by simpa using hty
         have HNO2:Hid (∀ i x,i<j+1->ps[i]? =some x->x.1.ty≠5):=fun i x hi hx=>by
          (rcases Nat.lt_succ_iff_lt_or_eq.1 hi with h1|rfl
           ·exact HNO.out i x h1 hx
           ·rw [hp] at hx;cases hx;exact hty)
         clear hc9 hd9 hcell hp d0 d2 d3 HNO hty;go_wp2;go_roundw
         case rel=>exact⟨j+1,by omega,by go_num,bj,kj,HNO2⟩
         case measure=>simp [intOf];omega
      ·obtain rfl:j=ps.length:=by omega
       have HE:Hid (S=stp 5):=by(show _=_;rw [HS.out,at_miss HQ.out HN1.out (fun i x hx=>HNO.out i x (List.getElem?_eq_some_iff.1 hx).1 hx)])
       have kX:=setAll_new (st4 5 (.slice none 0 0) false ⟨#[]⟩) kj rfl;have HX:Hid (List.map (·.1) ([]:List Zp)=[]∧(∀ X,ZRow X (.slice va ps.length vc) ps->ZRow X (.slice none 0 0) [])∧Below g w (setAll wr g 0 (st4 5 (.slice none 0 0) false ⟨#[]⟩))):=⟨rfl,fun X _=>⟨⟨rfl,none,0,rfl,Nat.le_refl _,by decide,fun h=>absurd h (by simp)⟩,by simp⟩,below_setR (Nat.le_refl g) _ 0 _ bj⟩;have rk:=fun i=>blk_cell kj i
       have fk:=fun i=>blk_frozen kj i
       clear HNO HN1 HQ kj HZ HN;simp only [setAll,Nat.reduceAdd,Nat.zero_add] at kX HX;have rX:=fun i=>blk_cell kX i
       clear kX;go_wp2_with fail
       refine bodyPost_ret (v:=.agg #[.int .i64 5,(.slice none 0 0),.bool false,.string ⟨#[]⟩]) ?_ rfl ⟨(.slice none 0 0),_,by rw [HE.out],by rw [HE.out];exact HX.out.1,HX.out.2.1,by rw [HGG.out];exact HX.out.2.2⟩;simp [results,Tryz.f42,go_sem,rX]
theorem ZOwn.zrow{w:World}{B:Nat}{v:Value}{ps:List Zp}(h:ZOwn w B v ps):ZRow w v ps:=
 ⟨CRow.of_owns h.outer,fun p hp=>by obtain⟨i,hi⟩:=List.getElem?_of_mem hp;exact Nm.SRow.of_owns (h.inner i p hi)⟩
def mapO(name:ByteArray)(p:Zp):Zp:=(ownZ name p.1,p.2)
theorem mixO_at{name:ByteArray}{k:Nat}{ps:List Zp}{p:Zp}(h:ps[k]? =some p):((ps.map (mapO name)).take k++ps.drop k)[k]? =some p:=by
 have hl:=(List.getElem?_eq_some_iff.1 h).1;rw [List.getElem?_append_right (by simp;omega),List.length_take,List.length_map,Nat.min_eq_left (by omega),Nat.sub_self,List.getElem?_drop,Nat.add_zero];exact h
theorem mixO_set{name:ByteArray}{k:Nat}{ps:List Zp}{p:Zp}(h:ps[k]? =some p):((ps.map (mapO name)).take k++ps.drop k).set k (mapO name p)=(ps.map (mapO name)).take (k+1)++ps.drop (k+1):=by
 have hl:=(List.getElem?_eq_some_iff.1 h).1;have hp:=(List.getElem?_eq_some_iff.1 h).2;have e1:ps.drop k=p::ps.drop (k+1):=by rw [List.drop_eq_getElem_cons hl,hp]
 have e2:(ps.map (mapO name)).take (k+1)=(ps.map (mapO name)).take k++[mapO name p]:=by
  rw [List.take_add_one,List.getElem?_map,h];rfl
 have e3:((ps.map (mapO name)).take k).length=k:=by simp;omega
 rw [e1,e2,List.set_append,if_neg (by omega),e3,Nat.sub_self,List.set_cons_zero,List.append_assoc];rfl
theorem mixO_len{name:ByteArray}{k:Nat}{ps:List Zp}(h:k<=ps.length):((ps.map (mapO name)).take k++ps.drop k).length=ps.length:=by simp;omega
theorem zown_one{W:World}{B:Nat}{s:Sz}{u:Value}(hu:W.ownsRow B 9 1 u s.da.length (s.da.map Value.string))(hB:B<=W.heap.size):ZOwn (W.alloc (.cells #[.string s.own,.int .i64 s.ty,.int .i64 s.tt,u] 76)) B (.slice (some ⟨W.heap.size,0,none⟩) 1 1) [(s,u)]:=by
 refine⟨World.ownsRow_lit (base:=B) (e:=76) (size:=4) W #[.string s.own,.int .i64 s.ty,.int .i64 s.tt,u] 1 hB (by decide) rfl,fun i p hp=>?_,fun i j p q hp hq hne=>?_⟩
 ·cases i with
  |zero=>
   simp only [List.getElem?_cons_zero,Option.some.injEq] at hp;subst hp
   exact hu.alloc _
  |succ i=>simp at hp
 ·cases i with
  |zero=>cases j with
   |zero=>exact absurd rfl hne
   |succ j=>simp at hq
  |succ i=>simp at hp
def ZFr(W:World)(B:Nat)(v:Value)(ps:List Zp):Prop:=∀ X:World,(∀ k,B<=k->k<W.heap.size->X.heap[k]? =W.heap[k]?)->ZRow X v ps
section
variable {W W':World}{B B':Nat}{v:Value}{ps:List Zp}
theorem own_fr{X:World}{e s n:Nat}{xs:List Value}(h:W.ownsRow B e s v n xs)(hk:∀ k,B<=k->k<W.heap.size->X.heap[k]? =W.heap[k]?):X.ownsRow B e s v n xs:=by
 refine⟨h.1,?_⟩
 rcases h.2 with h0|⟨g,cap,cur,rfl,hb1,hg,r⟩
 ·exact .inl h0
 ·exact .inr ⟨g,cap,cur,rfl,hb1,(hk g hb1 (Array.getElem?_eq_some_iff.1 hg).1).trans hg,r⟩
theorem ZOwn.fr(h:ZOwn W B v ps):ZFr W B v ps:=fun X hX=>ZOwn.zrow (B:=B) ⟨own_fr h.outer hX,fun i p hp=>own_fr (h.inner i p hp) hX,h.apart⟩
theorem ZFr.read(h:ZFr W B v ps):ZRow W v ps:=h W (fun _ _ _=>rfl)
theorem ZFr.low(h:ZFr W B v ps)(hk:∀ k,B<=k->k<W.heap.size->W'.heap[k]? =W.heap[k]?)(hs:W.heap.size<=W'.heap.size):ZFr W' B v ps:=fun X hX=>h X (fun k h1 h2=>(hX k h1 (by omega)).trans (hk k h1 h2))
theorem ZFr.below(h:ZFr W B v ps)(hb:Below W.heap.size W W'):ZFr W' B v ps:=h.low (fun k _ h2=>hb.block k h2) hb.size
theorem ZFr.base(h:ZFr W B v ps)(hb:B'<=B):ZFr W B' v ps:=fun X hX=>h X (fun k h1 h2=>hX k (by omega) h2)
theorem ZFr.nil:ZFr W B (.slice none 0 0) []:=fun X _=>⟨⟨rfl,none,0,rfl,Nat.le_refl _,by decide,fun h=>absurd h (by simp)⟩,by simp⟩
end
end Go.Proofs.YtcodajnebegdiaaGreat
namespace Go.Proofs.YtcodajnebegdiaaGreat
open Go.RowKit
def dgF:Nat->Nat->List UInt8
 |0,_=>[]
 |f+1,k=>if k=0 then [] else dgF f (k / 10)++[UInt8.ofNat (48+k % 10)]
def mkS(k:Nat):ByteArray:=if k=0 then⟨#[109,48]⟩ else⟨(109::dgF (k+1) k).toArray⟩
def MkAt(k j:Nat)(t:ByteArray):Prop:=∃ f,j<f∧dgF (k+1) k=dgF f j++t.data.toList
theorem mk_start(k:Nat):MkAt k k ⟨#[]⟩:=⟨k+1,by omega,by simp⟩
theorem mk_step{k j:Nat}{t:ByteArray}(h:MkAt k j t)(hj:0<j):MkAt k (j / 10) (⟨#[UInt8.ofNat (48+j % 10)]⟩++t):=by
 obtain⟨f,hf,e⟩:=h;obtain⟨g,rfl⟩:∃ g,f=g+1:=⟨f-1,by omega⟩;refine⟨g,by omega,?_⟩;rw [e,dgF,if_neg (by omega)];simp
theorem mk_end{k j:Nat}{t:ByteArray}(h:MkAt k j t)(hj:j=0)(hk:0<k):(⟨#[109]⟩:ByteArray)++t=mkS k:=by
 obtain⟨f,hf,e⟩:=h;obtain⟨g,rfl⟩:∃ g,f=g+1:=⟨f-1,by omega⟩;have z:dgF (g+1) j=[]:=by rw [dgF,if_pos hj]
 rw [z,List.nil_append] at e;rw [mkS,if_neg (by omega),e];apply ba_ext;simp
theorem mk_len{k j:Nat}{t:ByteArray}(h:MkAt k j t):t.size<=k+1:=by
 have hl:∀ f k,(dgF f k).length<=f:=by
  intro f
  induction f with
  |zero=>intro k;simp [dgF]
  |succ f ih=>
   intro k;rw [dgF];split
   ·simp
   ·have:=ih (k / 10);simp;omega
 obtain⟨f,hf,e⟩:=h;have:=congrArg List.length e;rw [List.length_append,size_list] at this;have:=hl (k+1) k;omega
set_option maxRecDepth 100000 in
set_option maxHeartbeats 800000 in
theorem markText_any(k:Nat)(w:World)(hk:k<=1000000000):
 Calls Tryz.prog 63 #[.int .i64 (k:Int)] w fun e w'=>e=.returned (.string (mkS k))∧Below w.heap.size w w':=by
 by_cases h0:k=0
 ·have HE:Hid (mkS k=⟨#[109,48]⟩):=by show _=_;rw [mkS,if_pos h0]
  have h0':(k:Int)<=0:=by omega
  clear h0;go_enter Tryz.func63,Tryz.ntmps63;go_wp2;go_ret;rw [HE.out];exact⟨rfl,Below.refl _ _⟩
 ·have hpos:0<k:=by omega
  have h0':(0:Int)<(k:Int):=by omega
  have hst:=mk_start k;go_enter Tryz.func63,Tryz.ntmps63;go_wp2
  go_loopw [0,3] (fun i v wr=>∃ (j:Nat) (t:ByteArray),i=.int .i64 (j:Int)∧j<=k∧v=.string t∧MkAt k j t∧Below w.heap.size w wr)
   (fun i _ _=>(intOf i).toNat)
  case atStart=>exact⟨k,_,rfl,Nat.le_refl _,rfl,hst,Below.refl _ _⟩
  case round=>
   obtain⟨j,t,rfl,hjk,rfl,hat,hbel⟩:=hrel;have hsz:=hbel.size;have hts:=mk_len hat;have hone:(ByteArray.mk #[109]).size=1:=rfl;clear hst
   by_cases hj:0<j
   ·have HN:=Nm.hide (mk_step hat hj);have hj':(0:Int)<(j:Int):=by omega
    have hcv:=fun n=>conv_one n wr
    have hn1:∀ c,(ByteArray.mk #[c]).size=1:=fun _=>rfl
    have hmod:(48+(j:Int) % 10) % 256=48+(j:Int) % 10:=by omega
    have htn:(48+(j:Int) % 10).toNat=48+j % 10:=by omega
    clear hat;go_wp2;go_roundw
    case rel=>exact⟨j / 10,_,by go_num,by omega,rfl,by simpa using HN.out,hbel.alloc hsz _⟩
    case measure=>simp [intOf];omega
   ·have HE:=Nm.hide (mk_end hat (by omega) hpos);have hj':(j:Int)<=0:=by omega
    clear hat;go_wp2;go_ret;rw [<- HE.out];exact⟨rfl,hbel⟩
end Go.Proofs.YtcodajnebegdiaaGreat
namespace Go.Proofs.YtcodajnebegdiaaGreat
open Go.RowKit
set_option linter.unusedVariables false
structure Mk (B C:Nat) (T:TypeId) (w w':World):Prop where
 os:w'.os=w.os
 tape:w'.tape=w.tape
 output:w'.output=w.output
 size:w.heap.size<=w'.heap.size
 block:∀ k,k<w.heap.size->(k<B∨C<=k)->w'.heap[k]? =w.heap[k]?
 shape:∀ (g:Nat) (cur:Array Value) (e:TypeId),w.heap[g]? =some (.cells cur e (0,0))->∃ cur':Array Value,w'.heap[g]? =some (.cells cur' e (0,0))∧cur'.size=cur.size
 other:∀ (g:Nat) (cur:Array Value) (e:TypeId),w.heap[g]? =some (.cells cur e (0,0))->e≠T->w'.heap[g]? =some (.cells cur e (0,0))
theorem Mk.refl(B C T:Nat)(w:World):Mk B C T w w:=⟨rfl,rfl,rfl,Nat.le_refl _,fun _ _ _=>rfl,fun _ cur _ h=>⟨cur,h,rfl⟩,fun _ _ _ h _=>h⟩
theorem heap_lt{w:World}{g:Nat}{x:Obj}(h:w.heap[g]? =some x):g<w.heap.size:=(Array.getElem?_eq_some_iff.1 h).1
theorem Mk.below{B C T:Nat}{w w1 w2:World}(h:Mk B C T w w1)(hb:Below w1.heap.size w1 w2):Mk B C T w w2:=by
 refine⟨hb.os.trans h.os,hb.tape.trans h.tape,hb.output.trans h.output,Nat.le_trans h.size hb.size,fun k hk hr=>(hb.block k (Nat.lt_of_lt_of_le hk h.size)).trans (h.block k hk hr),fun g cur e hg=>?_,fun g cur e hg hne=>?_⟩
 ·obtain⟨cur',h1,h2⟩:=h.shape g cur e hg;exact⟨cur',(hb.block g (heap_lt h1)).trans h1,h2⟩
 ·have h1:=h.other g cur e hg hne;exact(hb.block g (heap_lt h1)).trans h1
theorem Mk.set{B C T:Nat}{w w1:World}{g i:Nat}{cur:Array Value}(h:Mk B C T w w1)(hB:B<=g)(hC:g<C)(hg:w1.heap[g]? =some (.cells cur T (0,0)))(y:Value):Mk B C T w (w1.setCell ⟨g,i,none⟩ y):=by
 refine⟨h.os,h.tape,h.output,by simpa using h.size,fun k hk hr=>?_,fun g' cur' e hg'=>?_,fun g' cur' e hg' hne=>?_⟩
 ·rw [heap_setCell_other w1 ⟨g,i,none⟩ k _ (by simp;omega)];exact h.block k hk hr
 ·obtain⟨c1,h1,h2⟩:=h.shape g' cur' e hg'
  by_cases hgg:g'=g
  ·subst hgg;rw [h1] at hg;simp only [Option.some.injEq,Obj.cells.injEq] at hg;obtain⟨rfl,rfl,_⟩:=hg;exact⟨_,heap_setCell_same w1 g' i _ _ y h1,by simpa using h2⟩
  ·exact⟨c1,by rw [heap_setCell_other w1 ⟨g,i,none⟩ g' _ (by simpa using hgg)];exact h1,h2⟩
 ·have h1:=h.other g' cur' e hg' hne
  have hgg:g'≠g:=by
   intro e1;subst e1;rw [h1] at hg;simp only [Option.some.injEq,Obj.cells.injEq] at hg;exact hne hg.2.1
  rw [heap_setCell_other w1 ⟨g,i,none⟩ g' _ (by simpa using hgg)];exact h1
def WR(w:World)(B C:Nat)(e s:Nat)(v:Value)(n:Nat):Prop:=∃ a cap,v=.slice a n cap∧n<=cap∧(0<n->∃ (g:Nat) (cur:Array Value),a=some ⟨g,0,none⟩∧B<=g∧g<C∧w.heap[g]? =some (.cells cur e (0,0))∧n*s<=cur.size)
theorem WR.of_owns{w:World}{B e s n:Nat}{v:Value}{xs:List Value}(h:w.ownsRow B e s v n xs):WR w B w.heap.size e s v n:=by
 rcases h.2 with⟨rfl,rfl⟩|⟨g,cap,cur,rfl,hb,hg,hn,hm,hs,ht⟩
 ·exact⟨none,0,rfl,Nat.le_refl _,fun h=>by omega⟩
 ·exact⟨_,cap,rfl,hn,fun _=>⟨g,cur,rfl,hb,heap_lt hg,hg,by rw [hs];exact Nat.mul_le_mul_right _ hn⟩⟩
theorem WR.of_ownsC{w:World}{B C e s n:Nat}{v:Value}{xs:List Value}(h:w.ownsRow B e s v n xs)(hC:∀ g,v.ownBlock=some g->g<C):WR w B C e s v n:=by
 rcases h.2 with⟨rfl,rfl⟩|⟨g,cap,cur,rfl,hb,hg,hn,hm,hs,ht⟩
 ·exact⟨none,0,rfl,Nat.le_refl _,fun h=>by omega⟩
 ·exact⟨_,cap,rfl,hn,fun _=>⟨g,cur,rfl,hb,hC g rfl,hg,by rw [hs];exact Nat.mul_le_mul_right _ hn⟩⟩
theorem WR.shape{w w':World}{B C e s n:Nat}{v:Value}(h:WR w B C e s v n)(hs:∀ (g:Nat) (cur:Array Value) (e:TypeId),w.heap[g]? =some (.cells cur e (0,0))->∃ cur':Array Value,w'.heap[g]? =some (.cells cur' e (0,0))∧cur'.size=cur.size):WR w' B C e s v n:=by
 obtain⟨a,cap,rfl,hn,hr⟩:=h;refine⟨a,cap,rfl,hn,fun hp=>?_⟩;obtain⟨g,cur,rfl,hB,hC,hg,hz⟩:=hr hp;obtain⟨cur',h1,h2⟩:=hs g cur e hg;exact⟨g,cur',rfl,hB,hC,h1,by omega⟩
set_option maxRecDepth 100000 in
set_option maxHeartbeats 800000 in
theorem markStringS_mk(v:Value)(n B C k:Nat)(w:World)(h:WR w B C 9 1 v n)(hn:n<=10000000)(hk:k<=100000000):
 Calls Tryz.prog 64 #[v,.int .i64 (k:Int)] w fun e w'=>e=.returned (.int .i64 ((k+n:Nat):Int))∧Mk B C 9 w w':=by
 obtain⟨a,cap,rfl,hcap,hr⟩:=h;have hmt:=fun(j:Nat) (hj:j<=1000000000) W=>markText_any j W hj
 go_enter Tryz.func64,Tryz.ntmps64;go_wp2
 go_loopw [1,5] (fun t i wr=>∃ j:Nat,j<=n∧i=.int .i64 (j:Int)∧t=.int .i64 ((k:Int)+(j:Int))∧Mk B C 9 w wr) (fun _ i _=>n-(intOf i).toNat)
 case atStart=>exact⟨0,Nat.zero_le _,rfl,by simp,Mk.refl _ _ _ _⟩
 case round=>
  obtain⟨j,hj,rfl,rfl,hm⟩:=hrel
  by_cases hlt:j<n
  ·obtain⟨g,cur,rfl,hB,hC,hg,hz⟩:=hr (by omega);obtain⟨cur',hg',hz'⟩:=hm.shape g cur _ hg;have hone:=hmt (k+j) (by omega) wr;rw [show((k+j:Nat):Int)=(k:Int)+(j:Int) by omega] at hone;have i1:(0:Int)<=(j:Int):=by omega
   have i2:(j:Int)<(n:Int):=by omega
   have hcl:j<cur'.size:=by omega
   clear hmt hr;go_wp2_with (go_at_call 63;refine hone.mono ?_;rintro e w1 ⟨rfl,hb1⟩;have hg1:=(hb1.block g (heap_lt hg')).trans hg';have hc1:w1.cell? ⟨g,j,none⟩=some cur'[j]:=(cell_of_row _ _ _ _ _ _ hg1).trans (Array.getElem?_eq_getElem hcl);have hf1:=frozen_of_row w1 g j _ _ hg1)
   go_roundw
   case rel=>exact⟨j+1,by omega,by go_num,by congr 1<;>omega,(hm.below hb1).set hB hC hg1 _⟩
   case measure=>simp [intOf];omega
  ·have hjn:j=n:=by omega
   subst hjn;clear hr hmt;have i2:(j:Int)<=(j:Int):=by omega
   go_wp2;go_ret;exact⟨by rw [show((k+j:Nat):Int)=(k:Int)+(j:Int) by omega];rfl,hm⟩
structure Mj (B C:Nat) (w w':World):Prop where
 os:w'.os=w.os
 tape:w'.tape=w.tape
 output:w'.output=w.output
 size:w.heap.size<=w'.heap.size
 block:∀ k,k<w.heap.size->(k<B∨C<=k)->w'.heap[k]? =w.heap[k]?
 shape:∀ (g:Nat) (cur:Array Value) (e:TypeId),w.heap[g]? =some (.cells cur e (0,0))->∃ cur':Array Value,w'.heap[g]? =some (.cells cur' e (0,0))∧cur'.size=cur.size
theorem Mj.refl(B C:Nat)(w:World):Mj B C w w:=⟨rfl,rfl,rfl,Nat.le_refl _,fun _ _ _=>rfl,fun _ cur _ h=>⟨cur,h,rfl⟩⟩
theorem Mj.step{B C T:Nat}{w w1 w2:World}(h:Mj B C w w1)(h2:Mk B C T w1 w2):Mj B C w w2:=by
 refine⟨h2.os.trans h.os,h2.tape.trans h.tape,h2.output.trans h.output,Nat.le_trans h.size h2.size,fun k hk hr=>(h2.block k (Nat.lt_of_lt_of_le hk h.size) hr).trans (h.block k hk hr),fun g cur e hg=>?_⟩;obtain⟨c1,h3,h4⟩:=h.shape g cur e hg;obtain⟨c2,h5,h6⟩:=h2.shape g c1 e h3;exact⟨c2,h5,by omega⟩
theorem Mj.down{B C:Nat}{w w':World}(h:Mj B C w w'){D:Nat}(h1:D<=B)(h2:D<=w.heap.size):Below D w w':=⟨h.os,h.tape,h.output,h.size,fun k hk=>h.block k (by omega) (.inl (by omega))⟩
def zl:List Zp->Nat
 |[]=>0
 |x::xs=>x.1.da.length+3+zl xs
theorem zl_step:∀ (xs:List Zp) (k:Nat) (x:Zp),xs[k]? =some x->zl (xs.take (k+1))=zl (xs.take k)+(x.1.da.length+3):=by
 intro xs
 induction xs with
 |nil=>intro k x h;simp at h
 |cons y xs ih=>
  intro k x h
  cases k with
  |zero=>simp at h;subst h;simp [zl]
  |succ k=>
   simp at h;have:=ih k x h;simp only [List.take_succ_cons,zl];omega
theorem zl_take_le:∀ (xs:List Zp) (k:Nat),zl (xs.take k)<=zl xs:=by
 intro xs
 induction xs with
 |nil=>intro k;simp [zl]
 |cons y xs ih=>
  intro k
  cases k with
  |zero=>simp [zl]
  |succ k=>have:=ih k;simp only [List.take_succ_cons,zl];omega
theorem zl_len(xs:List Zp):xs.length<=zl xs:=by
 induction xs with
 |nil=>simp [zl]
 |cons y xs ih=>simp only [zl,List.length_cons];omega
def SV(w:World)(g:Nat)(qs:List Zp)(cur:Array Value):Prop:=Blk w g cur 76∧qs.length*4<=cur.size∧∀ (j:Nat) (q:Zp),qs[j]? =some q->cur[j*4+3]? =some q.2
theorem SV.set{w:World}{g i:Nat}{qs:List Zp}{cur:Array Value}(h:SV w g qs cur)(y:Value)(hc:i % 4≠3):SV (w.setCell ⟨g,i,none⟩ y) g qs (cur.setIfInBounds i y):=by
 refine⟨blk_set h.1 _ _,by simpa using h.2.1,fun j q hj=>?_⟩;rw [Array.getElem?_setIfInBounds_ne (by omega)];exact h.2.2 j q hj
theorem SV.below{w W:World}{g:Nat}{qs:List Zp}{cur:Array Value}(h:SV w g qs cur)(hb:Below w.heap.size w W):SV W g qs cur:=⟨blk_below h.1 hb,h.2⟩
theorem SV.mk{w W:World}{B C g:Nat}{qs:List Zp}{cur:Array Value}(h:SV w g qs cur)(hb:Mk B C 9 w W):SV W g qs cur:=⟨hb.other g cur _ h.1 (by decide),h.2⟩
set_option maxRecDepth 100000 in
set_option maxHeartbeats 1600000 in
theorem markSetS_mk(v:Value)(qs:List Zp)(B C k:Nat)(w:World)(h:OZ w B v qs)(hC:∀ g,v.ownBlock=some g->g<C)(hCD:∀ q∈qs,∀ g,q.2.ownBlock=some g->g<C)(hn:zl qs<=10000000)(hk:k<=10000000):
 Calls Tryz.prog 27 #[v,.int .i64 (k:Int)] w fun e w'=>e=.returned (.int .i64 ((k+zl qs:Nat):Int))∧Mj B C w w':=by
 have hW0:=WR.of_ownsC h.1 hC;have hql:=zl_len qs;have hD0:∀ q∈qs,WR w B C 9 1 q.2 q.1.da.length:=fun q hq=>WR.of_ownsC (h.2 q hq) (hCD q hq)
 have hSV0:0<qs.length->∃ g cap cur,v=.slice (some ⟨g,0,none⟩) qs.length cap∧B<=g∧g<C∧SV w g qs cur:=by
  intro hp
  rcases h.1.2 with⟨_,h0⟩|⟨g,cap,cur,rfl,hb,hg,hn,hm,hs,ht⟩
  ·omega
  ·refine⟨g,cap,cur,rfl,hb,hC g rfl,hg,by rw [hs];exact Nat.mul_le_mul_right _ hn,fun j q hj=>?_⟩;have hjl:j<qs.length:=(List.getElem?_eq_some_iff.1 hj).1;have e:=(zpVs_at qs j 3 q hj (by decide));rw [<- ht,List.getElem?_take_of_lt (by omega)] at e;have e2:cur.toList[j*4+3]? =some q.2:=e;simpa using e2
 have hmt:=fun(j:Nat) (hj:j<=1000000000) W=>markText_any j W hj
 have hms:=fun(q:Zp) W (hWr:WR W B C 9 1 q.2 q.1.da.length) (j:Nat) (hj:j<=100000000) (hl:q.1.da.length<=10000000)=>markStringS_mk q.2 q.1.da.length B C j W hWr hl hj
 obtain⟨a,cap,rfl⟩:=own_sl h.1;clear h hW0 hC hCD;go_enter Tryz.func27,Tryz.ntmps27;go_wp2
 go_loopw [1,5] (fun t i wr=>∃ j:Nat,j<=qs.length∧i=.int .i64 (j:Int)∧t=.int .i64 ((k:Int)+(zl (qs.take j):Int))∧Mj B C w wr∧Hid (∀ g,a=some ⟨g,0,none⟩->0<qs.length->∃ cur,SV wr g qs cur)) (fun _ i _=>qs.length-(intOf i).toNat)
 case atStart=>
  refine⟨0,Nat.zero_le _,rfl,by simp [zl],Mj.refl _ _ _,?_⟩;intro g hg hp;obtain⟨g',cap',cur,e1,_,_,hsv⟩:=hSV0 hp;subst hg;simp only [Value.slice.injEq,Option.some.injEq,Addr.mk.injEq] at e1;obtain⟨⟨rfl,_⟩,_⟩:=e1;exact⟨cur,hsv⟩
 case round=>
  obtain⟨j,hj,rfl,rfl,hm,HV⟩:=hrel
  by_cases hlt:j<qs.length
  ·obtain⟨q,hq⟩:∃ q,qs[j]? =some q:=⟨_,List.getElem?_eq_getElem hlt⟩;obtain⟨g,cap',cur0,e1,hBg,hgC,_⟩:=hSV0 (by omega);simp only [Value.slice.injEq] at e1;obtain⟨rfl,_,rfl⟩:=e1;obtain⟨cur,hsv⟩:=HV.out g rfl (by omega);have hst:=zl_step qs j q hq;have hle:=zl_take_le qs (j+1);have hone:=hmt (k+zl (qs.take j)) (by omega) wr;rw [show((k+zl (qs.take j):Nat):Int)=(k:Int)+(zl (qs.take j):Int) by omega] at hone;have hms1:=fun W hWr=>hms q W hWr (k+zl (qs.take j)+3) (by omega) (by omega)
   rw [show((k+zl (qs.take j)+3:Nat):Int)=(k:Int)+(zl (qs.take j):Int)+1+1+1 by omega] at hms1;have hwr:=(hD0 q (List.mem_of_getElem? hq)).shape hm.shape;have hdv:=hsv.2.2 j q hq;have i1:(0:Int)<=(j:Int):=by omega
   have i2:(j:Int)<(qs.length:Int):=by omega
   have hfin:((k+zl (qs.take j)+3+q.1.da.length:Nat):Int)=(k:Int)+(zl (qs.take (j+1)):Int):=by omega
   have hcs:j*4+3<cur.size:=by have:=hsv.2.1;omega
   obtain⟨qa,qc,hqv⟩:∃ qa qc,q.2=.slice qa q.1.da.length qc:=by
    obtain⟨qa,qc,e,_⟩:=hwr;exact⟨qa,qc,e⟩
   clear hmt hms hSV0 HV hq hD0;generalize zl (qs.take j)=z0 at*;generalize hz1:zl (qs.take (j+1))=z1 at*;obtain⟨⟨o,ty,tt,da⟩,dv⟩:=q;simp only at hqv hms1 hwr hdv hfin
   subst hqv;go_wp2_with (first|(go_at_call 63;refine hone.mono ?_;rintro e w1 ⟨rfl,hb1⟩;have hs1:=hsv.below hb1;have f1:=blk_frozen hs1.1;have c0:w1.cell? ⟨g,j*4,none⟩=some cur[j*4]:=(blk_cell hs1.1 _).trans (Array.getElem?_eq_getElem (by omega));have c1:w1.cell? ⟨g,j*4+1,none⟩=some cur[j*4+1]:=(blk_cell hs1.1 _).trans (Array.getElem?_eq_getElem (by omega));have c2:w1.cell? ⟨g,j*4+2,none⟩=some cur[j*4+2]:=(blk_cell hs1.1 _).trans (Array.getElem?_eq_getElem (by omega));have c3:w1.cell? ⟨g,j*4+3,none⟩=some (.slice qa da.length qc):=(blk_cell hs1.1 _).trans hdv)|(go_at_call 64;refine(hms1 _ (hwr.shape (((((Mk.refl B C 76 wr).below hb1).set hBg hgC hs1.1 _).set hBg hgC (hs1.set _ (by omega)).1 _).set hBg hgC ((hs1.set _ (by omega)).set _ (by omega)).1 _).shape)).mono ?_;rintro e w5 ⟨rfl,hk5⟩))
   have hs5:=(((hs1.set (.string (mkS (k+z0))) (i:=j*4) (by omega)).set (.int .i64 ((k:Int)+(z0:Int)+1)) (i:=j*4+1) (by omega)).set (.int .i64 ((k:Int)+(z0:Int)+1+1)) (i:=j*4+2) (by omega)).mk hk5;have hm5:=(hm.step (((((Mk.refl B C 76 wr).below hb1).set hBg hgC hs1.1 _).set hBg hgC (hs1.set _ (by omega)).1 _).set hBg hgC ((hs1.set _ (by omega)).set _ (by omega)).1 _)).step hk5;go_roundw
   case rel=>
    refine⟨j+1,by omega,by go_num,?_,hm5,?_⟩
    ·rw [hz1];congr 1<;>omega
    ·intro g' hg' hp;cases hg'
     exact⟨_,hs5⟩
   case measure=>simp [intOf];omega
  ·have hjn:j=qs.length:=by omega
   subst hjn;clear hmt hms hSV0 HV hD0;have i2:(qs.length:Int)<=(qs.length:Int):=by omega
   rw [List.take_length];go_wp2;go_ret;exact⟨by rw [show((k+zl qs:Nat):Int)=(k:Int)+(zl qs:Int) by omega];rfl,hm⟩
set_option maxRecDepth 100000 in
set_option maxHeartbeats 800000 in
theorem markZone_mk(o:ByteArray)(v:Value)(qs:List Zp)(B C k:Nat)(w:World)(h:OZ w B v qs)(hC:∀ g,v.ownBlock=some g->g<C)(hCD:∀ q∈qs,∀ g,q.2.ownBlock=some g->g<C)(hn:zl qs<=10000000)(hk:k<=10000000):
 Calls Tryz.prog 11 #[.agg #[.string o,v],.int .i64 (k:Int)] w fun e w'=>e=.returned (.int .i64 ((k+zl qs:Nat):Int))∧Mj B C w w':=by
 have hB:=(Below.refl w.heap.size w).alloc (Nat.le_refl _) (.cells #[.string o,v] 32);have hone:=markSetS_mk v qs B C k _ (h.below hB) hC hCD hn hk;obtain⟨a,cap,rfl⟩:=own_sl h.1;have hsz:(w.alloc (.cells #[.string o,.slice a qs.length cap] 32)).heap.size=w.heap.size+1:=by simp
 clear h hC hCD;go_enter Tryz.func11,Tryz.ntmps11;go_wp2_with (go_at_call 27;refine hone.mono ?_;rintro e w1 ⟨rfl,hm⟩)
 go_ret;refine⟨rfl,hm.os,hm.tape,hm.output,by have:=hm.size;omega,fun k hk hr=>(hm.block k (by omega) hr).trans (hB.block k hk),fun g cur e hg=>?_⟩;exact hm.shape g cur e ((hB.block g (heap_lt hg)).trans hg)
theorem OZ.lt{w:World}{B:Nat}{v:Value}{qs:List Zp}(h:OZ w B v qs):(∀ g,v.ownBlock=some g->g<w.heap.size)∧∀ q∈qs,∀ g,q.2.ownBlock=some g->g<w.heap.size:=
 ⟨fun g hg=>(h.1.lt g hg).2,fun q hq g hg=>((h.2 q hq).lt g hg).2⟩
theorem zsum_same{ps qs:List Zp}(h:qs.map (·.1)=ps.map (·.1)):zsum qs=zsum ps:=by
 have e:∀ xs:List Zp,zsum xs=((xs.map (·.1)).map zs1).sum:=by
  intro xs
  induction xs with
  |nil=>rfl
  |cons y xs ih=>simp only [zsum,List.map_cons,List.sum_cons,ih]
 rw [e,e,h]
theorem zl_le(ps:List Zp):zl ps<=zsum ps+3*ps.length:=by
 induction ps with
 |nil=>simp [zl]
 |cons y ps ih=>simp only [zl,zsum,zs1,List.length_cons];omega
end Go.Proofs.YtcodajnebegdiaaGreat
