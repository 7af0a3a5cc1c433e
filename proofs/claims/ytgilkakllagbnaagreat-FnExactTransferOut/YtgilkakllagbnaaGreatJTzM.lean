import Derived.Test.YtgilkakllagbnaaGreatJTiN
import Derived.Test.YtgilkakllagbnaaGreatJBzD
import Derived.Test.YtgilkakllagbnaaGreatJBzK
import Derived.Test.YtgilkakllagbnaaGreatJStI
import Derived.Test.YtgilkakllagbnaaGreatJMath
import Derived.Test.YtgilkakllagbnaaGreatJStA
import Derived.Test.YtgilkakllagbnaaGreatJZrM
import Derived.Test.YtgilkakllagbnaaGreatJStB
import Derived.Test.YtgilkakllagbnaaGreatJSer2
import Derived.Test.YtgilkakllagbnaaGreatJGoodM
import Derived.Test.YtgilkakllagbnaaGreatJTrN
import Derived.Test.YtgilkakllagbnaaGreatJRrM
import Derived.Test.YtgilkakllagbnaaGreatJTbGI
namespace Go.Proofs.YtgilkakllagbnaaGreat
open Go.RowKit
set_option linter.unusedVariables false
def soaZ(ss:List Sz)(o:ByteArray):ByteArray:=match fndZ ss o 6 with
 |some s=>s.da.headD ⟨#[]⟩
 |none=>⟨#[]⟩
theorem one_cut{r:Rr}{apex:ByteArray}(h:oneC r apex=0):cutCode r.ty r.da=0:=by
 rw [oneC] at h
 split at h
 ·cases h
 ·split at h
  ·cases h
  ·split at h
   ·cases h
   ·split at h
    ·cases h
    ·split at h
     ·cases h
     ·rename_i h2;simpa using h2
theorem grp_daS{l srt:List It}:∀ (k:Nat),∀ s∈grpK l srt k,s.da≠[]
 |0,s,hs=>by cases hs
 |k+1,s,hs=>by
  have ih:=grp_daS (l:=l) (srt:=srt) k;rw [grpK] at hs
  cases hx:srt[k]? with
  |none=>rw [hx] at hs;exact ih s hs
  |some x=>
   rw [hx] at hs;simp only at hs
   split at hs
   ·rcases List.mem_append.1 hs with h|h
    ·exact ih s h
    ·rw [List.mem_singleton.1 h];simp
   ·rw [addLast] at hs
    cases hl:(grpK l srt k).getLast? with
    |none=>rw [hl] at hs;cases hs
    |some s0=>
     rw [hl] at hs
     rcases List.mem_append.1 hs with h|h
     ·exact ih s ((List.dropLast_sublist _).subset h)
     ·rw [List.mem_singleton.1 h];simp
theorem zOK_rules{ps:List Zp}{o:ByteArray}{al:List ByteArray}(hz:zOK ps o=true)(ha:Nm.split o=some al):badOne o (zoneRecs ps) 0=none∧firstI (ru1 (itsOf (zoneRecs ps)) (Nm.foldS o)) (itsOf (zoneRecs ps))=none∧hasI (itsOf (zoneRecs ps)) (Nm.foldS o) 6=true:=by
 have h0:=(zOK_recs hz).1;rw [bldE,if_neg (by rw [ha];simp)] at h0
 split at h0
 ·exact absurd h0 (by simp)
 ·cases hb:badOne o (zoneRecs ps) 0 with
  |some c=>rw [hb] at h0;exact absurd h0 (bad_some _ _ c.1 c.2 hb)
  |none=>
   rw [hb] at h0;simp only at h0
   split at h0
   ·exact absurd h0 (by simp)
   ·split at h0
    ·rename_i h1;exact absurd h0 h1
    ·rename_i h1;have h1:(rulesI (itsOf (zoneRecs ps)) (Nm.foldS o)).1=0:=by simpa using h1
     rw [rulesI_eq] at h1;refine⟨rfl,?_⟩
     split at h1
     ·exact absurd h1 (by simp)
     ·rename_i hf;refine⟨hf,?_⟩
      split at h1
      ·exact absurd h1 (by simp)
      ·rename_i h2;simpa using h2
theorem firstI_none{p:Nat->It->Bool}{l:List It}(h:firstI p l=none){i:Nat}{x:It}(hx:l[i]? =some x):p i x=false:=by
 rw [firstI,List.find?_eq_none] at h;have hi:=(List.getElem?_eq_some_iff.1 hx).1;have:=h i (List.mem_range.2 hi);rw [hx] at this;simpa using this
theorem soa_model{ps:List Zp}{o:ByteArray}{al:List ByteArray}(hz:zOK ps o=true)(ha:Nm.split o=some al):∃ s d ds,fndZ (ps.map (·.1)) o 6=some s∧s.da=d::ds∧soaZ (ps.map (·.1)) o=d∧cutCode 6 d=0∧s∈ps.map (·.1):=by
 obtain⟨hb,-,h6⟩:=zOK_rules hz ha
 have hg:∀ y∈(zoneRecs ps).map itemOf,GoodI y:=by
  intro y hy;obtain⟨r,hr,rfl⟩:=List.mem_map.1 hy;exact good_item (one_ok (bad_none _ _ hb r hr)).1
 have e1:zoneRecs ps=(ps.map (·.1)).flatMap recsOf:=by
  rw [zoneRecs,if_neg (fun hc=>by rw [zOK_big hc] at hz;cases hz),recsAll,List.flatMap_map]
 obtain⟨y,hy,hfo,hy6⟩:=(hasI_all hg _ _).1 h6;have hgy:=hg y hy;obtain⟨r,hr,rfl⟩:=List.mem_map.1 hy;have hr':=hr;rw [e1] at hr';obtain⟨s0,hs0,hr0⟩:=List.mem_flatMap.1 hr';obtain⟨d0,-,rfl⟩:=List.mem_map.1 hr0;have hown:Nm.split s0.own=some _:=hgy.1
 have hsm:(fndZ (ps.map (·.1)) o 6).isSome=true:=by
  rw [fndZ,List.find?_isSome];refine⟨s0,hs0,?_⟩;have h1:s0.ty=6:=hy6;rw [same_cmp hown ha];simp only [h1,decide_true,Bool.true_and,decide_eq_true_eq];exact(fold_lab hown ha).1 hfo
 obtain⟨s,hs⟩:=Option.isSome_iff_exists.1 hsm;have hsM:=List.mem_of_find?_eq_some hs
 have hs6:s.ty=6:=by
  have:=List.find?_some hs;simp only [Bool.and_eq_true,decide_eq_true_eq] at this;exact this.1
 obtain⟨d,ds,hd⟩:=List.exists_cons_of_ne_nil (show s.da≠[] by have h9:=hsM;rw [<- (zOK_recs hz).2] at h9;exact grp_daS _ s h9);refine⟨s,d,ds,hs,hd,by rw [soaZ,hs];simp [hd],?_,hsM⟩
 have hrm:(⟨s.own,s.ty,1,s.tt,d⟩:Rr)∈zoneRecs ps:=by
  rw [e1];exact List.mem_flatMap.2 ⟨s,hsM,List.mem_map.2 ⟨d,by rw [hd];simp,rfl⟩⟩
 have:=one_cut (bad_none _ _ hb _ hrm);simp only at this
 rwa [hs6] at this
def cntS(ss:List Sz):Nat:=(ss.map fun s=>s.da.length).sum
theorem cnt_app(a b:List Sz):cntS (a++b)=cntS a+cntS b:=by simp [cntS]
theorem grp_cnt(l srt:List It):∀ k,k<=srt.length->cntS (grpK l srt k)=k:=by
 intro k
 induction k with
 |zero=>intro _;rfl
 |succ k ih=>
  intro hk;have ihk:=ih (by omega);rw [grpK,List.getElem?_eq_getElem (by omega)];simp only
  split
  ·rw [cnt_app,ihk];rfl
  ·rename_i hn;rw [addLast]
   cases hl:(grpK l srt k).getLast? with
   |none=>
    rw [List.getLast?_eq_none_iff] at hl;rw [hl] at ihk;have k0:k=0:=ihk.symm;subst k0
    exact absurd rfl hn
   |some s=>
    obtain⟨pre,e⟩:∃ pre,grpK l srt k=pre++[s]:=by
     obtain⟨pre,e⟩:=List.getLast?_eq_some_iff.1 hl;exact⟨pre,e⟩
    rw [e] at ihk ⊢;simp only [List.dropLast_concat];rw [cnt_app] at ihk ⊢;simp only [cntS,List.map_cons,List.map_nil,List.sum_cons,List.sum_nil,List.length_append,List.length_cons,List.length_nil] at ihk ⊢;omega
theorem recs_cnt(ps:List Zp):(recsAll ps).length=cntS (ps.map (·.1)):=by
 induction ps with
 |nil=>rfl
 |cons p ps ih=>
  rw [recsAll,List.flatMap_cons,List.length_append,<- recsAll,ih];simp [recsOf,cntS]
theorem its_len(xs:List Rr):(itsOf xs).length=xs.length:=by simp [itsOf,twI]
theorem zOK_small{ps:List Zp}{o:ByteArray}(hz:zOK ps o=true):zoneRecs ps=recsAll ps:=by
 rw [zoneRecs,if_neg];intro h;rw [zOK_big h] at hz;cases hz
theorem zOK_out{ps:List Zp}{o:ByteArray}(hz:zOK ps o=true):∀ x∈itsOf (zoneRecs ps),x.out=false:=by
 have h1:(restOf (zoneRecs ps)).length=(itsOf (zoneRecs ps)).length:=by
  have e:=(zOK_recs hz).2;have e2:=congrArg cntS e;rw [bldZ,grp_cnt _ _ _ (Nat.le_refl _),<- recs_cnt,<- zOK_small hz] at e2;rw [its_len,<- e2,srtOf,sortI,sortF_len]
 intro x hx;have h2:=(List.length_filter_eq_length_iff.1 h1) x hx;simpa using h2
theorem its_at{xs:List Rr}{i:Nat}{x:Rr}(h:xs[i]? =some x):(itsOf xs)[i]? =some (outI (dupI ((xs.map itemOf).take i) (itemOf x)) (itemOf x)):=by
 rw [itsOf,twI,List.getElem?_mapIdx,List.getElem?_map,h];rfl
theorem zOK_one{ps:List Zp}{o:ByteArray}{al:List ByteArray}(hz:zOK ps o=true)(ha:Nm.split o=some al){i j:Nat}{x y:Rr}(hi:(zoneRecs ps)[i]? =some x)(hj:(zoneRecs ps)[j]? =some y)(hx:x.ty=6)(hy:y.ty=6):i=j:=by
 have key:∀ {i j:Nat} {x y:Rr},(zoneRecs ps)[i]? =some x->(zoneRecs ps)[j]? =some y->x.ty=6->y.ty=6->¬i<j:=by
  intro i j x y hi hj hx hy hlt;obtain⟨-,h1,-⟩:=zOK_rules hz ha;have oi:=zOK_out hz _ (List.mem_of_getElem? (its_at hi));have oj:=zOK_out hz _ (List.mem_of_getElem? (its_at hj));have ri:=firstI_none h1 (its_at hi);have rj:=firstI_none h1 (its_at hj)
  have fi:Nm.foldS x.own=Nm.foldS o:=by
   rw [ru1,oi] at ri;have e6:(outI (dupI (((zoneRecs ps).map itemOf).take i) (itemOf x)) (itemOf x)).r.ty=6:=hx;rw [e6] at ri;simp at ri;exact ri.1
  have hh:hasI ((itsOf (zoneRecs ps)).take j) (Nm.foldS o) 6=true:=by
   rw [hasI,List.any_eq_true];refine⟨_,List.mem_of_getElem? (i:=i) (by rw [List.getElem?_take,if_pos hlt];exact its_at hi),?_⟩;rw [oi];simp only [Bool.not_false,Bool.true_and,Bool.and_eq_true,decide_eq_true_eq];exact⟨fi,hx⟩
  rw [ru1,oj,hh] at rj;have e6:(outI (dupI (((zoneRecs ps).map itemOf).take j) (itemOf y)) (itemOf y)).r.ty=6:=hy;rw [e6] at rj;simp at rj
 rcases Nat.lt_trichotomy i j with h|h|h
 ·exact absurd h (key hi hj hx hy)
 ·exact h
 ·exact absurd h (key hj hi hy hx)
def restR(xs:List Rr):List Rr:=xs.filter fun x=> !is6 x
theorem rest_cut{xs:List Rr}{k:Nat}{r:Rr}(hk:xs[k]? =some r)(h6:is6 r=true)(h1:∀ i x,xs[i]? =some x->is6 x=true->i=k):xs.take k++xs.drop (k+1)=restR xs:=by
 have hlt:=(List.getElem?_eq_some_iff.1 hk).1
 have e:xs=xs.take k++(r::xs.drop (k+1)):=by
  have:=(List.getElem?_eq_some_iff.1 hk).2;rw [<- this,List.getElem_cons_drop,List.take_append_drop]
 have t1:(xs.take k).filter (fun x=> !is6 x)=xs.take k:=by
  rw [List.filter_eq_self];intro x hx;obtain⟨i,hi⟩:=List.mem_iff_getElem?.1 hx;rw [List.getElem?_take] at hi
  split at hi
  ·cases h:is6 x with
   |false=>rfl
   |true=>have:=h1 i x hi h;omega
  ·cases hi
 have t2:(xs.drop (k+1)).filter (fun x=> !is6 x)=xs.drop (k+1):=by
  rw [List.filter_eq_self];intro x hx;obtain⟨i,hi⟩:=List.mem_iff_getElem?.1 hx;rw [List.getElem?_drop] at hi
  cases h:is6 x with
  |false=>rfl
  |true=>have:=h1 _ x hi h;omega
 rw [restR]
 conv=>rhs;rw [e]
 rw [List.filter_append,t1,List.filter_cons,h6,t2];rfl
theorem zOK_soaR{ps:List Zp}{o:ByteArray}{al:List ByteArray}(hz:zOK ps o=true)(ha:Nm.split o=some al):∃ (r:Rr) (k:Nat) (s:Sz) (ds:List ByteArray),(zoneRecs ps).find? is6=some r∧(zoneRecs ps)[k]? =some r∧soI (zoneRecs ps)=(k:Int)∧(zoneRecs ps).take k++(zoneRecs ps).drop (k+1)=restR (zoneRecs ps)∧fndZ (ps.map (·.1)) o 6=some s∧s.da=r.da::ds∧r=⟨s.own,s.ty,1,s.tt,r.da⟩∧cutCode 6 r.da=0∧s∈ps.map (·.1):=by
 obtain⟨s,d,ds,f1,f2,f3,f4,f5⟩:=soa_model hz ha
 have h6:s.ty=6:=by
  have:=List.find?_some f1;simp at this;exact this.1
 have hmem:(⟨s.own,s.ty,1,s.tt,d⟩:Rr)∈zoneRecs ps:=by
  rw [zOK_small hz,recsAll,List.mem_flatMap];obtain⟨p,hp,e⟩:=List.mem_map.1 f5;refine⟨p,hp,?_⟩;rw [recsOf,e];exact List.mem_map.2 ⟨d,by rw [f2];simp,rfl⟩
 obtain⟨k,hk⟩:=List.mem_iff_getElem?.1 hmem;have hi:is6 (⟨s.own,s.ty,1,s.tt,d⟩:Rr)=true:=by simp [is6,h6]
 have huni:∀ i x,(zoneRecs ps)[i]? =some x->is6 x=true->i=k:=fun i x hx h=>zOK_one hz ha hx hk (by simpa [is6] using h) h6
 obtain⟨r,hr⟩:∃ r,(zoneRecs ps).find? is6=some r:=by
  cases e:(zoneRecs ps).find? is6 with
  |some r=>exact⟨r,rfl⟩
  |none=>have:=List.find?_eq_none.1 e _ hmem;exact absurd hi (by simpa using this)
 obtain⟨k',-,hk',hsk⟩:=soI_find hr;have h6r:=List.find?_some hr;have ek:=huni k' r hk' h6r;subst ek;have er:r=⟨s.own,s.ty,1,s.tt,d⟩:=Option.some.inj (hk'.symm.trans hk);have ed:r.da=d:=by rw [er]
 refine⟨r,k',s,ds,hr,hk',hsk,rest_cut hk' h6r huni,f1,by rw [ed];exact f2,by rw [ed];exact er,by rw [ed];exact f4,f5⟩
def sdS(r:Rr):Int:=if cutCode 6 r.da=0 then serS r.da else 0
def soB(r:Rr):Bool:=is6 r&&decide (cutCode 6 r.da=0)
set_option maxRecDepth 100000 in
set_option maxHeartbeats 800000 in
theorem soaSerial_any(r:Rr)(w:World)(hd:r.da.size<=2000000):
 Calls Tryz.prog 32 #[rvA r] w fun e w'=>e=.returned (.tuple #[.int .i64 (sdS r),.bool (soB r)])∧Below w.heap.size w w':=by
 have b0:=(Below.refl w.heap.size w).alloc (Nat.le_refl _) (.cells #[.string r.own,.int .i64 r.ty,.int .i64 r.cl,.int .i64 r.tt,.string r.da] 56);have k0:=blk_new w #[.string r.own,.int .i64 r.ty,.int .i64 r.cl,.int .i64 r.tt,.string r.da] 56;have hse:=implSerial_any r.da (w.alloc (.cells #[.string r.own,.int .i64 r.ty,.int .i64 r.cl,.int .i64 r.tt,.string r.da] 56)) hd;have hso:=fun W=>isSOA_any r W
 obtain⟨N,HN⟩:∃ N,Hid (N=sdS r):=⟨_,rfl⟩;obtain⟨B,HB⟩:∃ B,Hid (B=soB r):=⟨_,rfl⟩;rw [<- HN.out,<- HB.out]
 by_cases hc:cutCode 6 r.da=0
 ·have e1:sdS r=serS r.da:=if_pos hc;have e2:soB r=is6 r:=by simp [soB,hc]
  rw [if_pos hc,if_pos hc,<- e1,<- HN.out] at hse;rw [<- e2,<- HB.out] at hso;clear e1 e2 hc
  cases B with
  |true=>
   go_enter Tryz.func32,Tryz.ntmps32;go_wp2_with (first|(go_at_call 64;refine hse.mono ?_;rintro e w1 ⟨rfl,hb1⟩;have k1:=blk_below k0 hb1;have r1:=fun i=>blk_cell k1 i)|(go_at_call 61;refine(hso _).mono ?_;rintro e w2 ⟨rfl,hb2⟩))
   go_ret2
   exact⟨rfl,Nm.below_two (Nm.below_two b0 hb1) hb2⟩
  |false=>
   go_enter Tryz.func32,Tryz.ntmps32;go_wp2_with (first|(go_at_call 64;refine hse.mono ?_;rintro e w1 ⟨rfl,hb1⟩;have k1:=blk_below k0 hb1;have r1:=fun i=>blk_cell k1 i)|(go_at_call 61;refine(hso _).mono ?_;rintro e w2 ⟨rfl,hb2⟩))
   go_ret2;exact⟨rfl,Nm.below_two (Nm.below_two b0 hb1) hb2⟩
 ·have e1:sdS r=0:=if_neg hc;have e2:soB r=false:=by simp [soB,hc]
  rw [if_neg hc,if_neg hc,<- e1,<- HN.out] at hse;rw [e2] at HB;obtain rfl:=HB.out
  cases h6:is6 r with
  |true=>
   rw [h6] at hso;clear h6 hc e1 e2;go_enter Tryz.func32,Tryz.ntmps32;go_wp2_with (first|(go_at_call 64;refine hse.mono ?_;rintro e w1 ⟨rfl,hb1⟩;have k1:=blk_below k0 hb1;have r1:=fun i=>blk_cell k1 i)|(go_at_call 61;refine(hso _).mono ?_;rintro e w2 ⟨rfl,hb2⟩))
   go_ret2
   exact⟨rfl,Nm.below_two (Nm.below_two b0 hb1) hb2⟩
  |false=>
   rw [h6] at hso;clear h6 hc e1 e2;go_enter Tryz.func32,Tryz.ntmps32;go_wp2_with (first|(go_at_call 64;refine hse.mono ?_;rintro e w1 ⟨rfl,hb1⟩;have k1:=blk_below k0 hb1;have r1:=fun i=>blk_cell k1 i)|(go_at_call 61;refine(hso _).mono ?_;rintro e w2 ⟨rfl,hb2⟩))
   go_ret2;exact⟨rfl,Nm.below_two (Nm.below_two b0 hb1) hb2⟩
def ssS(r:Rr):Int:=if soB r=true then sdS r else -1
set_option maxRecDepth 100000 in
set_option maxHeartbeats 800000 in
theorem l11SoaSerial_any(r:Rr)(w:World)(hd:r.da.size<=2000000):
 Calls Tryz.prog 54 #[rvA r] w fun e w'=>e=.returned (.int .i64 (ssS r))∧Below w.heap.size w w':=by
 have b0:=(Below.refl w.heap.size w).alloc (Nat.le_refl _) (.cells #[.string r.own,.int .i64 r.ty,.int .i64 r.cl,.int .i64 r.tt,.string r.da] 56);have k0:=blk_new w #[.string r.own,.int .i64 r.ty,.int .i64 r.cl,.int .i64 r.tt,.string r.da] 56;have hse:=specSerial_any r.da (w.alloc (.cells #[.string r.own,.int .i64 r.ty,.int .i64 r.cl,.int .i64 r.tt,.string r.da] 56)) hd;obtain⟨N,HN⟩:∃ N,Hid (N=ssS r):=⟨_,rfl⟩;rw [<- HN.out]
 by_cases hc:cutCode 6 r.da=0
 ·have e1:sdS r=serS r.da:=if_pos hc;rw [if_pos hc,if_pos hc,<- e1] at hse
  by_cases h6:r.ty=6
  ·have e2:soB r=true:=by simp [soB,is6,hc,h6]
   have HE:Hid (N=sdS r):=by show _=_;rw [HN.out,ssS,if_pos e2]
   have e6:(r.ty==6)=true:=by simp [h6]
   have e7:(r.ty != 6)=false:=by simp [h6]
   clear e1 e2 hc HN h6;generalize sdS r=S at*;go_enter Tryz.func54,Tryz.ntmps54;go_wp2_with (go_at_call 81;refine hse.mono ?_;rintro e w1 ⟨rfl,hb1⟩;have k1:=blk_below k0 hb1;have r1:=fun i=>blk_cell k1 i)
   go_ret;rw [HE.out];exact⟨rfl,Nm.below_two b0 hb1⟩
  ·have e2:soB r=false:=by simp [soB,is6,h6]
   have HE:Hid (N= -1):=by show _=_;rw [HN.out,ssS,if_neg (by rw [e2];decide)]
   have e6:(r.ty==6)=false:=by simp [h6]
   have e7:(r.ty != 6)=true:=by simp [h6]
   clear e1 e2 hc HN h6;generalize sdS r=S at*;go_enter Tryz.func54,Tryz.ntmps54;go_wp2_with (go_at_call 81;refine hse.mono ?_;rintro e w1 ⟨rfl,hb1⟩;have k1:=blk_below k0 hb1;have r1:=fun i=>blk_cell k1 i)
   go_ret;rw [HE.out];exact⟨rfl,Nm.below_two b0 hb1⟩
 ·rw [if_neg hc,if_neg hc] at hse;have e2:soB r=false:=by simp [soB,hc]
  have HE:Hid (N= -1):=by show _=_;rw [HN.out,ssS,if_neg (by rw [e2];decide)]
  by_cases h6:r.ty=6
  ·have e6:(r.ty==6)=true:=by simp [h6]
   have e7:(r.ty != 6)=false:=by simp [h6]
   clear e2 hc HN h6;go_enter Tryz.func54,Tryz.ntmps54;go_wp2_with (go_at_call 81;refine hse.mono ?_;rintro e w1 ⟨rfl,hb1⟩;have k1:=blk_below k0 hb1;have r1:=fun i=>blk_cell k1 i)
   go_ret;rw [HE.out];exact⟨rfl,Nm.below_two b0 hb1⟩
  ·have e6:(r.ty==6)=false:=by simp [h6]
   have e7:(r.ty != 6)=true:=by simp [h6]
   clear e2 hc HN h6;go_enter Tryz.func54,Tryz.ntmps54;go_wp2_with (go_at_call 81;refine hse.mono ?_;rintro e w1 ⟨rfl,hb1⟩;have k1:=blk_below k0 hb1;have r1:=fun i=>blk_cell k1 i)
   go_ret;rw [HE.out];exact⟨rfl,Nm.below_two b0 hb1⟩
abbrev cgV(a b:Rr)(d e:Value):Value:=.agg #[.string a.own,.int .i64 a.ty,.int .i64 a.cl,.int .i64 a.tt,.string a.da,.string b.own,.int .i64 b.ty,.int .i64 b.cl,.int .i64 b.tt,.string b.da,d,e]
def COwn(w:World)(B:Nat)(d e:Value)(xs ys:List Rr):Prop:=∃ M,B<=M∧w.ownsRow B 56 5 d xs.length (rvVs xs)∧w.ownsRow M 56 5 e ys.length (rvVs ys)∧∀ g,d.ownBlock=some g->g<M
theorem partSOA_rest(o:ByteArray)(v:Value)(ps:List Zp)(r:Rr)(k:Nat)(R:List Rr)(w:World)(h:ZRow w v ps)(hs:zsum ps<=1048576)(hf:∀ p∈ps,∀ x∈p.1.da,x.size<=1048576)(hrk:(zoneRecs ps)[k]? =some r)(hsk:soI (zoneRecs ps)=(k:Int))(hn:(zoneRecs ps).length<=500)(he:(zoneRecs ps).take k++(zoneRecs ps).drop (k+1)=R):
 Calls Tryz.prog 27 #[.agg #[.string o,v]] w fun e w'=>∃ (ua:Option Addr) (uc:Nat),e=.returned (.tuple #[rvA r,.slice ua R.length uc])∧w'.ownsRow w.heap.size 56 5 (.slice ua R.length uc) R.length (rvVs R)∧Below w.heap.size w w':=by
 refine(partSOA_row o v ps r k w h hs hf hrk hsk hn).mono ?_;rintro e w' ⟨ua,uc,rfl,ho,hb⟩;rw [he] at ho;obtain⟨a,c,e⟩:=own_sl ho;rw [e] at ho ⊢;exact⟨a,c,rfl,ho,hb⟩
theorem own_setA{B e s n g:Nat}{v:Value}{xs:List Value}(hg:g<B):∀ (vs:List Value) (i:Nat) (W:World),W.ownsRow B e s v n xs->(setAll W g i vs).ownsRow B e s v n xs
 |[],_,_,h=>h
 |y::vs,i,W,h=>own_setA hg vs (i+1) _ (own_far_lt h hg)
theorem below_setA{B g:Nat}{w:World}(hg:B<=g):∀ (vs:List Value) (i:Nat) (W:World),Below B w W->Below B w (setAll W g i vs)
 |[],_,_,h=>h
 |y::vs,i,W,h=>below_setA hg vs (i+1) _ (h.setCell hg _)
abbrev cgL(a b:Rr)(d e:Value):List Value:=[.string a.own,.int .i64 a.ty,.int .i64 a.cl,.int .i64 a.tt,.string a.da,.string b.own,.int .i64 b.ty,.int .i64 b.cl,.int .i64 b.tt,.string b.da,d,e]
theorem fnd_hit{ps:List Zp}{name:ByteArray}{t:Int}{j:Nat}{q:Zp}(hq:ps[j]? =some q)(hb:∀ i p,i<j->ps[i]? =some p->(decide (p.1.ty=t)&&sameS p.1.own name)=false)(h:(decide (q.1.ty=t)&&sameS q.1.own name)=true):fndZ (ps.map (·.1)) name t=some q.1:=by
 induction ps generalizing j with
 |nil=>simp at hq
 |cons p ps ih=>
  rw [fndZ,List.map_cons,List.find?_cons]
  cases j with
  |zero=>
   simp only [List.getElem?_cons_zero,Option.some.injEq] at hq;subst hq
   simp only [h]
  |succ j=>
   have h0:=hb 0 p (by omega) rfl;simp only [h0];exact ih (by simpa using hq) (fun i p' hi hp'=>hb (i+1) p' (by omega) (by simpa using hp'))
theorem fnd_miss{ps:List Zp}{name:ByteArray}{t:Int}(hb:∀ i p,i<ps.length->ps[i]? =some p->(decide (p.1.ty=t)&&sameS p.1.own name)=false):fndZ (ps.map (·.1)) name t=none:=by
 rw [fndZ,List.find?_eq_none];intro z hz;obtain⟨p,hp,rfl⟩:=List.mem_map.1 hz;obtain⟨i,hi⟩:=List.getElem?_of_mem hp;rw [hb i p (List.getElem?_eq_some_iff.1 hi).1 hi];simp
set_option maxRecDepth 100000 in
set_option maxHeartbeats 1600000 in
theorem l06Find_any(o name:ByteArray)(t:Int)(v:Value)(ps:List Zp)(w:World)(h:ZRow w v ps)(hl:ps.length<=1048576)(hf:∀ p∈ps,p.1.own.size<=1048576∧p.1.da.length<=1048576)(hn:name.size<=maxLen):
 Calls Tryz.prog 80 #[.agg #[.string o,v],.string name,.int .i64 t] w (FsP (fndZ (ps.map (·.1)) name t) w):=by
 obtain⟨va,vc,rfl⟩:∃ va vc,v=.slice va ps.length vc:=by obtain⟨⟨_,a,c,e,_⟩,_⟩:=h;exact⟨a,c,e⟩
 have b0:=(Below.refl w.heap.size w).alloc (Nat.le_refl _) (.cells #[.string o,.slice va ps.length vc] 33);have b1:=b0.alloc b0.size (.cells #[.string ⟨#[]⟩,.int .i64 0,.int .i64 0,.slice none 0 0] 90);have k0:=blk_alloc (blk_new w #[.string o,.slice va ps.length vc] 33) (.cells #[.string ⟨#[]⟩,.int .i64 0,.int .i64 0,.slice none 0 0] 90);have kS:=blk_new (w.alloc (.cells #[.string o,.slice va ps.length vc] 33)) #[.string ⟨#[]⟩,.int .i64 0,.int .i64 0,.slice none 0 0] 90;rw [World.size_alloc] at kS;have HZ:=Nm.hide (fun W (hW:Below w.heap.size w W)=>h.below hW);have HF:=Nm.hide hf;have HG:Hid (∀ W,Below w.heap.size w W->w.heap.size<=W.heap.size):=fun W hW=>hW.size
 clear h hf b0;go_enter Tryz.func80,Tryz.ntmps80;go_wp2_with fail
 generalize hgg:w.heap.size=g at*;have HGG:=Nm.hide hgg;clear hgg
 go_loopw [8] (fun i wr=>∃ (j:Nat),j<=ps.length∧i=.int .i64 j∧Below g w wr∧Blk wr g #[.string o,.slice va ps.length vc] 33∧Blk wr (g+1) #[.string ⟨#[]⟩,.int .i64 0,.int .i64 0,.slice none 0 0] 90∧∀ i p,i<j->ps[i]? =some p->(decide (p.1.ty=t)&&sameS p.1.own name)=false) (fun i _=>ps.length-(intOf i).toNat)
 case atStart=>exact⟨0,Nat.zero_le _,rfl,b1,k0,kS,fun i p hi=>by omega⟩
 case round=>
  clear b1 k0 kS;obtain⟨j,hj,rfl,hb,kz,ks,hno⟩:=hrel;have HNO:=Nm.hide hno;have hgw:=HG.out _ hb;have rz:=fun i=>blk_cell kz i
  clear hno
  by_cases hlt:j<ps.length
  ·obtain⟨q,hq⟩:∃ q,ps[j]? =some q:=⟨_,List.getElem?_eq_getElem hlt⟩;have hzr:=HZ.out _ hb;obtain⟨⟨_,a9,c9,e9,_,_,hc9⟩,hd9⟩:=hzr;simp only [Value.slice.injEq] at e9;obtain⟨rfl,_,rfl⟩:=e9;obtain⟨b,off,rfl,hcell⟩:=hc9 (by omega);obtain⟨d0,d1,d2,d3⟩:=zp_cells hcell hq;have hfq:=HF.out q (List.mem_of_getElem? hq);have hsr:=hd9 q (List.mem_of_getElem? hq);have n1:(0:Int)<=(j:Int):=by omega
   have n2:(j:Int)<(ps.length:Int):=by omega
   have hsm:=specSameName_any q.1.own name wr (by unfold maxLen;omega) hn;have HQ:=Nm.hide hq;have HSR:=Nm.hide hsr;clear hc9 hd9 hcell hq hsr;obtain⟨⟨x,ty,tt,ds⟩,u⟩:=q;simp only at d0 d1 d2 d3 hsm hfq
   obtain⟨ua,uc,hu⟩:∃ ua uc,u=.slice ua ds.length uc:=by obtain⟨a,c,e,_⟩:=HSR.out;exact⟨a,c,e⟩
   subst hu
   by_cases hty:ty=t
   ·subst hty;have t1:(ty==ty)=true:=by simp
    cases hsb:sameS x name with
    |true=>
     rw [hsb] at hsm;have HR:Hid (fndZ (ps.map (·.1)) name ty=some ⟨x,ty,tt,ds⟩):=fnd_hit HQ.out HNO.out (by simp [hsb]);clear hsb;go_wp2_with fail
     refine hsm.mono ?_;rintro e w1 ⟨rfl,b1⟩;have kz1:=blk_below kz b1;have ks1:=blk_below ks b1;have bw1:=hb.trans (b1.mono hgw);have rz1:=fun i=>blk_cell kz1 i
     have up:=fun {O:Nat} {z:Value} (hz:wr.cell? ⟨b,O,none⟩=some z)=>(b1.cell (World.block_lt_of_cell? wr _ hz)).trans hz
     have f0:=up d0;have f1:=up d1;have f2:=up d2;have f3:=up d3;have hcp:=l06CopySet_any ⟨x,ty,tt,ds⟩ (.slice ua ds.length uc) w1 (HSR.out.below b1) (by have:=hfq.2;simp only;omega);simp only at hcp
     clear rz d0 d1 d2 d3 hsm up kz;go_wp2_with fail
     refine hcp.mono ?_;rintro e w2 ⟨u2,rfl,ho2,b2⟩;obtain⟨xa,xc,rfl⟩:=own_sl ho2;have ks2:=blk_below ks1 b2;have cz:=fun i=>blk_cell ks2 i
     have fz:=fun i=>blk_frozen ks2 i
     have hg1:=HG.out _ bw1;have bw2:=bw1.trans (b2.mono hg1);rw [<- HGG.out] at bw2;obtain⟨k4,ho4,bw4⟩:=set_store (x:=x) (ty:=ty) (tt:=tt) ks2 ho2 (fun e=>by have h1:=(ho2.lt _ e).1;have h2:=blk_lt ks1;omega) bw2 (by rw [HGG.out];exact Nat.le_succ _);have rk:=fun i=>blk_cell k4 i
     have HP0:FsP (some ⟨x,ty,tt,ds⟩) w (.returned (.tuple #[.agg #[.string x,.int .i64 ty,.int .i64 tt,.slice xa ds.length xc],.bool true])) _:=⟨_,rfl,own_base ho4 (by rw [HGG.out];exact hg1),bw4⟩;rw [<- HR.out] at HP0;have HP:=Nm.hide HP0;clear HP0;clear ks ks1 ks2 kz1 rz1 hcp k4 ho4 bw4 ho2 f0 f1 f2 f3;go_wp2_with fail
     refine bodyPost_ret (v:=.tuple #[.agg #[.string x,.int .i64 ty,.int .i64 tt,.slice xa ds.length xc],.bool true]) ?_ rfl HP.out
     simp [results,Tryz.f80,go_sem,rk]
    |false=>
     rw [hsb] at hsm
     have HN:Hid (∀ i p,i<j+1->ps[i]? =some p->(decide (p.1.ty=ty)&&sameS p.1.own name)=false):=fun i p hi hp=>by
      rcases Nat.lt_or_ge i j with h1|h1
      ·exact HNO.out i p h1 hp
      ·obtain rfl:i=j:=by omega
       rw [HQ.out] at hp;obtain rfl:=Option.some.inj hp;simp [hsb]
     clear hsb;go_wp2_with (go_at_call 105;refine hsm.mono ?_;rintro e w1 ⟨rfl,b1⟩)
     go_roundw
     case rel=>exact⟨j+1,hlt,by go_num,hb.trans (b1.mono hgw),blk_below kz b1,blk_below ks b1,HN.out⟩
     case measure=>simp [intOf];omega
   ·have t1:(ty==t)=false:=by simp [hty]
    have HN:Hid (∀ i p,i<j+1->ps[i]? =some p->(decide (p.1.ty=t)&&sameS p.1.own name)=false):=fun i p hi hp=>by
     rcases Nat.lt_or_ge i j with h1|h1
     ·exact HNO.out i p h1 hp
     ·obtain rfl:i=j:=by omega
      rw [HQ.out] at hp;obtain rfl:=Option.some.inj hp;simp [hty]
    clear hty hsm;go_wp2;go_roundw
    case rel=>exact⟨j+1,hlt,by go_num,hb,kz,ks,HN.out⟩
    case measure=>simp [intOf];omega
  ·obtain rfl:j=ps.length:=by omega
   have i9:(ps.length:Int)<=(ps.length:Int):=by omega
   have HR:Hid (fndZ (ps.map (·.1)) name t=none):=fnd_miss HNO.out;have cz:=fun i=>blk_cell ks i
   have fz:=fun i=>blk_frozen ks i
   rw [<- HGG.out] at hb;obtain⟨k4,-,bw4⟩:=set_store (x:=⟨#[]⟩) (ty:=0) (tt:=0) ks (World.ownsRow_nil wr 0 9 1) (by simp [Value.ownBlock]) hb (by rw [HGG.out];exact Nat.le_succ _);have rk:=fun i=>blk_cell k4 i
   have HP0:=fsP_none bw4;rw [<- HR.out] at HP0;have HP:=Nm.hide HP0;clear HP0;clear ks k4 bw4;go_wp2_with fail
   refine bodyPost_ret (v:=.tuple #[.agg #[.string ⟨#[]⟩,.int .i64 0,.int .i64 0,.slice none 0 0],.bool false]) ?_ rfl HP.out;simp [results,Tryz.f80,go_sem,rk]
set_option maxRecDepth 100000 in
set_option maxHeartbeats 1600000 in
theorem l11Soa_any(o:ByteArray)(v:Value)(ps:List Zp)(s:Sz)(d:ByteArray)(ds:List ByteArray)(w:World)(h:ZRow w v ps)(hl:ps.length<=1048576)(hf:∀ p∈ps,p.1.own.size<=1048576∧p.1.da.length<=1048576)(ho:o.size<=maxLen)(hs:fndZ (ps.map (·.1)) o 6=some s)(hd:s.da=d::ds)(hsl:s.da.length<=1048576):
 Calls Tryz.prog 49 #[.agg #[.string o,v]] w fun e w'=>e=.returned (.agg #[.string s.own,.int .i64 s.ty,.int .i64 1,.int .i64 s.tt,.string d])∧Below w.heap.size w w':=by
 obtain⟨va,vc,rfl⟩:∃ va vc,v=.slice va ps.length vc:=by obtain⟨⟨_,a,c,e,_⟩,_⟩:=h;exact⟨a,c,e⟩
 have b0:=(Below.refl w.heap.size w).alloc (Nat.le_refl _) (.cells #[.string o,.slice va ps.length vc] 33);have b1:=b0.alloc b0.size (.cells #[.string ⟨#[]⟩,.int .i64 0,.int .i64 0,.int .i64 0,.string ⟨#[]⟩] 56);have k0:=blk_alloc (blk_new w #[.string o,.slice va ps.length vc] 33) (.cells #[.string ⟨#[]⟩,.int .i64 0,.int .i64 0,.int .i64 0,.string ⟨#[]⟩] 56);have kR:=blk_new (w.alloc (.cells #[.string o,.slice va ps.length vc] 33)) #[.string ⟨#[]⟩,.int .i64 0,.int .i64 0,.int .i64 0,.string ⟨#[]⟩] 56;rw [World.size_alloc] at kR;have hfd:=l06Find_any o o 6 (.slice va ps.length vc) ps _ (h.below b1) hl hf ho;rw [hs] at hfd;have r0:=fun i=>blk_cell k0 i
 have hre:=fun u W (hu:Nm.SRow W u s.da)=>l06SetRecords_any s u W hu hsl
 clear h hf hs;obtain⟨x,ty,tt,da⟩:=s;simp only at hd hre hsl ⊢
 subst hd;go_enter Tryz.func49,Tryz.ntmps49;go_wp2_with fail
 refine hfd.mono ?_;rintro e w1 ⟨u,rfl,hou,hb1⟩;simp only [Option.getD_some,Option.isSome_some] at hou ⊢;obtain⟨ua,uc,eu⟩:=own_sl hou;subst eu;have bw1:=Nm.below_two b1 hb1;have kR1:=blk_below kR hb1;have b2:=(Below.refl w1.heap.size w1).alloc (Nat.le_refl _) (.cells #[.string x,.int .i64 ty,.int .i64 tt,.slice ua (d::ds).length uc] 90);have kB:=blk_new w1 #[.string x,.int .i64 ty,.int .i64 tt,.slice ua (d::ds).length uc] 90;have rB:=fun i=>blk_cell kB i
 have hse:=hre _ _ ((Nm.SRow.of_owns hou).below b2);have bw2:=Nm.below_two bw1 b2;have kR2:=blk_below kR1 b2;clear hfd k0 r0 kR kR1 b0 b1 hb1 hre hou bw1;go_wp2_with fail
 refine hse.mono ?_;rintro e w3 ⟨t,rfl,hot,hb3⟩;obtain⟨ta,tc,et⟩:=own_sl hot;subst et;have bw3:=Nm.below_two bw2 hb3;have kR3:=blk_below kR2 hb3;have rz:=fun i=>blk_cell kR3 i
 have fz:=fun i=>blk_frozen kR3 i
 have hx0:(recsOf ⟨x,ty,tt,d::ds⟩)[0]? =some ⟨x,ty,1,tt,d⟩:=rfl;obtain⟨_,a9,c9,e9,_,_,hc9⟩:=CRow.of_owns hot;simp only [Value.slice.injEq] at e9;obtain⟨rfl,_,rfl⟩:=e9;obtain⟨gb,go,rfl,hcell⟩:=hc9 (by rw [recsOf_len];simp);obtain⟨d0,d1,d2,d3,d4⟩:=rv_cells hcell hx0;simp only [Nat.zero_mul,Nat.add_zero] at d0 d1 d2 d3 d4;obtain⟨k5,bw5⟩:=rr_store (r:=⟨x,ty,1,tt,d⟩) kR3 bw3 (Nat.le_succ _);simp only at k5 bw5
 have rk:=fun i=>blk_cell k5 i
 have HB:=Nm.hide bw5;have hn0:(0:Int)<(((recsOf ⟨x,ty,tt,d::ds⟩).length:Nat):Int):=by rw [recsOf_len];(simp;try omega)
 generalize (recsOf ⟨x,ty,tt,d::ds⟩).length=RL at*;clear hse kR2 kR3 k5 bw5 bw3 bw2 hb3 hot hcell hc9 kB rB b2 hx0;go_wp2_with fail
 refine bodyPost_ret (v:=.agg #[.string x,.int .i64 ty,.int .i64 1,.int .i64 tt,.string d]) ?_ rfl ⟨rfl,HB.out⟩;simp [results,Tryz.f49,go_sem,rk]
theorem cz_ssum{ls:List ByteArray}{x:ByteArray}(h:x∈ls):x.size<=ssum ls:=by
 induction ls with
 |nil=>simp at h
 |cons y ls ih=>
  rcases List.mem_cons.1 h with rfl|h
  ·simp only [ssum];omega
  ·have:=ih h;simp only [ssum];omega
theorem cz_fits{ps:List Zp}(h:zsum ps<=1048576):∀ p∈ps,p.1.own.size<=1048576∧p.1.da.length<=1048576∧∀ x∈p.1.da,x.size<=1048576:=by
 intro p hp;have h1:=zsum_mem ps p hp;unfold zs1 at h1;exact⟨by omega,by omega,fun x hx=>by have:=cz_ssum hx;omega⟩
theorem zOK_same{ps qs:List Zp}(h:qs.map (·.1)=ps.map (·.1))(o:ByteArray):zOK qs o=zOK ps o:=by
 rw [zOK,zOK,zoneRecs_same h,h]
end Go.Proofs.YtgilkakllagbnaaGreat
