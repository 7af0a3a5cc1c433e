import Derived.Test.YtieobflhfcgliaaGreatJStI
import Derived.Test.YtieobflhfcgliaaGreatJMath
import Derived.Test.YtieobflhfcgliaaGreatJZrM
import Derived.Test.YtieobflhfcgliaaGreatBzD
import Derived.Test.YtieobflhfcgliaaGreatJBzH
namespace Go.Proofs.YtieobflhfcgliaaGreat
open Go.RowKit
set_option linter.unusedVariables false
theorem isSOA_any(r:Rr)(w:World):
 Calls Tryz.prog 67 #[.agg #[.string r.own,.int .i64 r.ty,.int .i64 r.cl,.int .i64 r.tt,.string r.da]] w fun e w'=>e=.returned (.bool (is6 r))∧Below w.heap.size w w':=by
 have hB:=(Below.refl w.heap.size w).alloc (Nat.le_refl _) (.cells #[.string r.own,.int .i64 r.ty,.int .i64 r.cl,.int .i64 r.tt,.string r.da] 27);obtain⟨o,ty,cl,tt,da⟩:=r;simp only at*
 have e1:(ty==6)=decide (ty=6):=by by_cases h:ty=6<;>simp [h]
 go_enter Tryz.func67,Tryz.ntmps67;go_wp2;go_ret;exact⟨rfl,hB⟩
def soI(xs:List Rr):Int:=match xs.findIdx? (is6) with
 |some k=>k
 |none=> -1
set_option maxRecDepth 100000 in
set_option maxHeartbeats 1600000 in
theorem indexSOA_any(v:Value)(xs:List Rr)(w:World)(h:CRow w v xs.length 5 (rvVs xs)):
 Calls Tryz.prog 91 #[v,.func (.func 67) #[] #[]] w fun e w'=>e=.returned (.int .i64 (soI xs))∧Below w.heap.size w w':=by
 obtain⟨_,a,cap,rfl,hcap,hmx,hc⟩:=h;unfold maxLen at hmx;go_enter Tryz.func91,Tryz.ntmps91;go_wp2
 go_loopw [8] (fun i wr=>∃ k:Nat,k<=xs.length∧i=.int .i64 k∧Hid (∀ j y,j<k->xs[j]? =some y->is6 y=false)∧Below w.heap.size w wr) (fun i _=>xs.length-(intOf i).toNat)
 case atStart=>exact⟨0,Nat.zero_le _,rfl,by show ∀ _,_;intro j y hj;omega,Below.refl _ _⟩
 case round=>
  obtain⟨k,hk,rfl,HA,hbel⟩:=hrel
  by_cases hlt:k<xs.length
  ·obtain⟨x,hxk⟩:∃ x,xs[k]? =some x:=⟨_,List.getElem?_eq_getElem hlt⟩;obtain⟨b,off,rfl,hcell⟩:=hc (by omega);obtain⟨c0,c1,c2,c3,c4⟩:=rv_cells hcell hxk;have put:∀ {O:Nat} {z:Value},w.cell? ⟨b,O,none⟩=some z->wr.cell? ⟨b,O,none⟩=some z:=fun h=>(hbel.cell (World.block_lt_of_cell? w _ h)).trans h
   replace c0:=put c0
   replace c1:=put c1
   replace c2:=put c2
   replace c3:=put c3
   replace c4:=put c4
   have hone:=isSOA_any x wr;have i1:(0:Int)<=(k:Int):=by omega
   have i2:(k:Int)<(xs.length:Int):=by omega
   have HXK:=Nm.hide hxk
   cases hok:is6 x with
   |false=>
    have HA2:Hid (∀ j y,j<k+1->xs[j]? =some y->is6 y=false):=by
     show ∀ _,_
     intro j y hj hy
     by_cases hjk:j=k
     ·subst hjk;rw [HXK.out] at hy;obtain rfl:=Option.some.inj hy;exact hok
     ·exact HA.out j y (by omega) hy
    rw [hok] at hone;clear hok hxk hcell hc put;obtain⟨o,ty,cl,tt,da⟩:=x;simp only at*
    go_wp2_with fail
    refine hone.mono ?_;rintro e w1 ⟨rfl,hb1⟩;have hbel1:=Nm.below_two hbel hb1;go_wp2;go_roundw
    case rel=>exact⟨k+1,by omega,by go_num,HA2,hbel1⟩
    case measure=>simp [intOf];omega
   |true=>
    have HO:Hid (soI xs=(k:Int)):=by
     show _=_
     have:xs.findIdx? (is6)=some k:=by
      rw [List.findIdx?_eq_some_iff_getElem];obtain⟨hk',e⟩:=List.getElem?_eq_some_iff.1 HXK.out;refine⟨hk',by rw [e];exact hok,fun j hj=>?_⟩;have:=HA.out j xs[j] hj (List.getElem?_eq_getElem (by omega));simp only [this];decide
     rw [soI,this]
    rw [hok] at hone;clear hok hxk hcell hc put;obtain⟨o,ty,cl,tt,da⟩:=x;simp only at*
    go_wp2_with fail
    refine hone.mono ?_;rintro e w1 ⟨rfl,hb1⟩;have hbel1:=Nm.below_two hbel hb1;go_wp2;go_ret;exact⟨by rw [HO.out];rfl,hbel1⟩
  ·have hkl:k=xs.length:=by omega
   have HO:Hid (soI xs= -1):=by
    show _=_
    have:xs.findIdx? (is6)=none:=by
     rw [List.findIdx?_eq_none_iff];intro x hx;obtain⟨j,hj,e⟩:=List.getElem_of_mem hx;exact HA.out j x (by omega) (by rw [List.getElem?_eq_getElem hj,e])
    rw [soI,this]
   subst hkl;have i2:¬(xs.length:Int)<(xs.length:Int):=by omega
   clear hc;go_wp2;go_ret;exact⟨by rw [HO.out];rfl,hbel⟩
theorem soI_find{xs:List Rr}{r:Rr}(h:xs.find? is6=some r):∃ k:Nat,k<xs.length∧xs[k]? =some r∧soI xs=(k:Int):=by
 obtain⟨hp,k,hk,e,hlt⟩:=List.find?_eq_some_iff_getElem.1 h
 have hf:xs.findIdx? is6=some k:=by
  rw [List.findIdx?_eq_some_iff_getElem];exact⟨hk,by rw [e];exact hp,fun j hj=>by have:=hlt j hj;simpa using this⟩
 exact⟨k,hk,by rw [List.getElem?_eq_getElem hk,e],by rw [soI,hf]⟩
end Go.Proofs.YtieobflhfcgliaaGreat
namespace Go.Proofs.YtieobflhfcgliaaGreat
open Go.RowKit
def numL(l:List UInt8):Nat:=l.foldl (fun n c=>n*256+c.toNat) 0
theorem numL_snoc(l:List UInt8)(c:UInt8):numL (l++[c])=numL l*256+c.toNat:=by simp [numL]
theorem fold_lt:∀ (l:List UInt8) (a:Nat),l.foldl (fun n c=>n*256+c.toNat) a<(a+1)*256 ^ l.length:=by
 intro l
 induction l with
 |nil=>intro a;simp
 |cons c l ih=>
  intro a;rw [List.foldl_cons,List.length_cons,Nat.pow_succ];refine Nat.lt_of_lt_of_le (ih _) ?_;have hc:=c.toNat_lt;have h1:a*256+c.toNat+1<=(a+1)*256:=by omega
  calc (a*256+c.toNat+1)*256 ^ l.length<=((a+1)*256)*256 ^ l.length:=Nat.mul_le_mul_right _ h1
   _=(a+1)*(256 ^ l.length*256):=by rw [Nat.mul_assoc,Nat.mul_comm 256]
theorem numL_lt(l:List UInt8):numL l<256 ^ l.length:=by
 have:=fold_lt l 0;rw [Nat.zero_add,Nat.one_mul] at this;exact this
theorem numL_small{l:List UInt8}(h:l.length<=6):numL l<281474976710656:=by
 have h1:=numL_lt l;have h2:256 ^ l.length<=256 ^ 6:=Nat.pow_le_pow_right (by decide) h;have h3:(256:Nat) ^ 6=281474976710656:=by decide
 omega
end Go.Proofs.YtieobflhfcgliaaGreat
namespace Go.Proofs.YtieobflhfcgliaaGreat
open Go.RowKit
set_option linter.unusedVariables false
def eqSz(a b:Sz):Bool:=decide (a.own=b.own)&&decide (a.ty=b.ty)&&decide (a.tt=b.tt)&&decide (a.da=b.da)
theorem eqSz_iff{a b:Sz}:eqSz a b=true↔a=b:=by
 obtain⟨a1,a2,a3,a4⟩:=a;obtain⟨b1,b2,b3,b4⟩:=b;simp only [eqSz,Bool.and_eq_true,decide_eq_true_eq,Sz.mk.injEq];constructor
 ·rintro⟨⟨⟨h1,h2⟩,h3⟩,h4⟩;exact⟨h1,h2,h3,h4⟩
 ·rintro⟨h1,h2,h3,h4⟩;exact⟨⟨⟨h1,h2⟩,h3⟩,h4⟩
def eqZs:List Sz->List Sz->Bool
 |[],[]=>true
 |a::xs,b::ys=>eqSz a b&&eqZs xs ys
 |_,_=>false
theorem eqZs_iff:∀ {xs ys:List Sz},eqZs xs ys=true↔xs=ys
 |[],[]=>by simp [eqZs]
 |[],b::ys=>by simp [eqZs]
 |a::xs,[]=>by simp [eqZs]
 |a::xs,b::ys=>by
  rw [eqZs,Bool.and_eq_true,eqSz_iff,eqZs_iff];simp
theorem eqZs_all{xs ys:List Sz}(hl:xs.length=ys.length)(h:∀ (j:Nat) (a b:Sz),xs[j]? =some a->ys[j]? =some b->a=b):eqZs xs ys=true:=by
 rw [eqZs_iff];apply List.ext_getElem?;intro j
 by_cases hj:j<xs.length
 ·have h1:xs[j]? =some xs[j]:=List.getElem?_eq_getElem hj;have h2:ys[j]? =some ys[j]:=List.getElem?_eq_getElem (by omega);rw [h1,h2,h j _ _ h1 h2]
 ·rw [List.getElem?_eq_none (by omega),List.getElem?_eq_none (by omega)]
theorem eqZs_not{xs ys:List Sz}{j:Nat}{a b:Sz}(h1:xs[j]? =some a)(h2:ys[j]? =some b)(h:eqSz a b=false):eqZs xs ys=false:=by
 cases hq:eqZs xs ys with
 |false=>rfl
 |true=>
  rw [eqZs_iff] at hq;subst hq;rw [h1] at h2;obtain rfl:=Option.some.inj h2;rw [eqSz_iff.2 rfl] at h;cases h
theorem eqZs_len{xs ys:List Sz}(h:xs.length≠ys.length):eqZs xs ys=false:=by
 cases hq:eqZs xs ys with
 |false=>rfl
 |true=>rw [eqZs_iff] at hq;subst hq;exact absurd rfl h
def zOK(ps:List Zp)(o:ByteArray):Bool:=decide ((bldE (zoneRecs ps) o).1=0)&&eqZs (bldZ (zoneRecs ps)) (ps.map (·.1))
theorem bldE_nil(o:ByteArray):(bldE [] o).1≠0:=by
 rw [bldE];split
 ·decide
 ·rw [if_neg (by simp)];have h1:badOne o [] 0=none:=rfl;have h2:badI ([].map itemOf)= -1:=rfl;rw [h1];simp only
  rw [h2,if_neg (by decide)];have h3:rulesI (itsOf []) (Nm.foldS o)=(20,-1):=rfl;rw [h3];decide
theorem zOK_big{ps:List Zp}{o:ByteArray}(h:500<ps.length∨500<dsum ps):zOK ps o=false:=by
 rw [zOK,zoneRecs,if_pos h,decide_eq_false (bldE_nil o)];rfl
theorem zOK_recs{ps:List Zp}{o:ByteArray}(h:zOK ps o=true):(bldE (zoneRecs ps) o).1=0∧bldZ (zoneRecs ps)=ps.map (·.1):=by
 simp only [zOK,Bool.and_eq_true,decide_eq_true_eq] at h;exact⟨h.1,eqZs_iff.1 h.2⟩
theorem recs_fit{ps:List Zp}{N:Nat}(h:∀ p∈ps,p.1.own.size<=N∧∀ x∈p.1.da,x.size<=N):∀ r∈zoneRecs ps,r.own.size<=N∧r.da.size<=N:=by
 intro r hr;unfold zoneRecs at hr
 split at hr
 ·cases hr
 ·simp only [recsAll,recsOf,List.mem_flatMap,List.mem_map] at hr;obtain⟨p,hp,d,hd,rfl⟩:=hr;exact⟨(h p hp).1,(h p hp).2 d hd⟩
end Go.Proofs.YtieobflhfcgliaaGreat
namespace Go.Proofs.YtieobflhfcgliaaGreat
open Go.RowKit
set_option linter.unusedVariables false
def fndZ(ss:List Sz)(name:ByteArray)(t:Int):Option Sz:=ss.find? fun s=>decide (s.ty=t)&&sameS s.own name
def sz0:Sz:=⟨⟨#[]⟩,0,0,[]⟩
def soaZ(ss:List Sz)(o:ByteArray):ByteArray:=match fndZ ss o 6 with
 |some s=>s.da.headD ⟨#[]⟩
 |none=>⟨#[]⟩
theorem one_cut{r:Rr}{apex:ByteArray}(h:oneC r apex=0):cutCode r.ty r.da=0:=by
 rw [oneC] at h
 split at h
 ·cases h
 ·split at h
  ·cases h
  ·split at h
   ·cases h
   ·split at h
    ·cases h
    ·split at h
     ·cases h
     ·rename_i h2;simpa using h2
theorem grp_daS{l srt:List It}:∀ (k:Nat),∀ s∈grpK l srt k,s.da≠[]
 |0,s,hs=>by cases hs
 |k+1,s,hs=>by
  have ih:=grp_daS (l:=l) (srt:=srt) k;rw [grpK] at hs
  cases hx:srt[k]? with
  |none=>rw [hx] at hs;exact ih s hs
  |some x=>
   rw [hx] at hs;simp only at hs
   split at hs
   ·rcases List.mem_append.1 hs with h|h
    ·exact ih s h
    ·rw [List.mem_singleton.1 h];simp
   ·rw [addLast] at hs
    cases hl:(grpK l srt k).getLast? with
    |none=>rw [hl] at hs;cases hs
    |some s0=>
     rw [hl] at hs
     rcases List.mem_append.1 hs with h|h
     ·exact ih s ((List.dropLast_sublist _).subset h)
     ·rw [List.mem_singleton.1 h];simp
theorem zOK_rules{ps:List Zp}{o:ByteArray}{al:List ByteArray}(hz:zOK ps o=true)(ha:Nm.split o=some al):badOne o (zoneRecs ps) 0=none∧firstI (ru1 (itsOf (zoneRecs ps)) (Nm.foldS o)) (itsOf (zoneRecs ps))=none∧hasI (itsOf (zoneRecs ps)) (Nm.foldS o) 6=true:=by
 have h0:=(zOK_recs hz).1;rw [bldE,if_neg (by rw [ha];simp)] at h0
 split at h0
 ·exact absurd h0 (by simp)
 ·cases hb:badOne o (zoneRecs ps) 0 with
  |some c=>rw [hb] at h0;exact absurd h0 (bad_some _ _ c.1 c.2 hb)
  |none=>
   rw [hb] at h0;simp only at h0
   split at h0
   ·exact absurd h0 (by simp)
   ·split at h0
    ·rename_i h1;exact absurd h0 h1
    ·rename_i h1;have h1:(rulesI (itsOf (zoneRecs ps)) (Nm.foldS o)).1=0:=by simpa using h1
     rw [rulesI_eq] at h1;refine⟨rfl,?_⟩
     split at h1
     ·exact absurd h1 (by simp)
     ·rename_i hf;refine⟨hf,?_⟩
      split at h1
      ·exact absurd h1 (by simp)
      ·rename_i h2;simpa using h2
theorem firstI_none{p:Nat->It->Bool}{l:List It}(h:firstI p l=none){i:Nat}{x:It}(hx:l[i]? =some x):p i x=false:=by
 rw [firstI,List.find?_eq_none] at h;have hi:=(List.getElem?_eq_some_iff.1 hx).1;have:=h i (List.mem_range.2 hi);rw [hx] at this;simpa using this
theorem soa_model{ps:List Zp}{o:ByteArray}{al:List ByteArray}(hz:zOK ps o=true)(ha:Nm.split o=some al):∃ s d ds,fndZ (ps.map (·.1)) o 6=some s∧s.da=d::ds∧soaZ (ps.map (·.1)) o=d∧cutCode 6 d=0∧s∈ps.map (·.1):=by
 obtain⟨hb,-,h6⟩:=zOK_rules hz ha
 have hg:∀ y∈(zoneRecs ps).map itemOf,GoodI y:=by
  intro y hy;obtain⟨r,hr,rfl⟩:=List.mem_map.1 hy;exact good_item (one_ok (bad_none _ _ hb r hr)).1
 have e1:zoneRecs ps=(ps.map (·.1)).flatMap recsOf:=by
  rw [zoneRecs,if_neg (fun hc=>by rw [zOK_big hc] at hz;cases hz),recsAll,List.flatMap_map]
 obtain⟨y,hy,hfo,hy6⟩:=(hasI_all hg _ _).1 h6;have hgy:=hg y hy;obtain⟨r,hr,rfl⟩:=List.mem_map.1 hy;have hr':=hr;rw [e1] at hr';obtain⟨s0,hs0,hr0⟩:=List.mem_flatMap.1 hr';obtain⟨d0,-,rfl⟩:=List.mem_map.1 hr0;have hown:Nm.split s0.own=some _:=hgy.1
 have hsm:(fndZ (ps.map (·.1)) o 6).isSome=true:=by
  rw [fndZ,List.find?_isSome];refine⟨s0,hs0,?_⟩;have h1:s0.ty=6:=hy6;rw [same_cmp hown ha];simp only [h1,decide_true,Bool.true_and,decide_eq_true_eq];exact(fold_lab hown ha).1 hfo
 obtain⟨s,hs⟩:=Option.isSome_iff_exists.1 hsm;have hsM:=List.mem_of_find?_eq_some hs
 have hs6:s.ty=6:=by
  have:=List.find?_some hs;simp only [Bool.and_eq_true,decide_eq_true_eq] at this;exact this.1
 obtain⟨d,ds,hd⟩:=List.exists_cons_of_ne_nil (show s.da≠[] by have h9:=hsM;rw [<- (zOK_recs hz).2] at h9;exact grp_daS _ s h9);refine⟨s,d,ds,hs,hd,by rw [soaZ,hs];simp [hd],?_,hsM⟩
 have hrm:(⟨s.own,s.ty,1,s.tt,d⟩:Rr)∈zoneRecs ps:=by
  rw [e1];exact List.mem_flatMap.2 ⟨s,hsM,List.mem_map.2 ⟨d,by rw [hd];simp,rfl⟩⟩
 have:=one_cut (bad_none _ _ hb _ hrm);simp only at this
 rwa [hs6] at this
def cntS(ss:List Sz):Nat:=(ss.map fun s=>s.da.length).sum
theorem cnt_app(a b:List Sz):cntS (a++b)=cntS a+cntS b:=by simp [cntS]
theorem grp_cnt(l srt:List It):∀ k,k<=srt.length->cntS (grpK l srt k)=k:=by
 intro k
 induction k with
 |zero=>intro _;rfl
 |succ k ih=>
  intro hk;have ihk:=ih (by omega);rw [grpK,List.getElem?_eq_getElem (by omega)];simp only
  split
  ·rw [cnt_app,ihk];rfl
  ·rename_i hn;rw [addLast]
   cases hl:(grpK l srt k).getLast? with
   |none=>
    rw [List.getLast?_eq_none_iff] at hl;rw [hl] at ihk;have k0:k=0:=ihk.symm;subst k0
    exact absurd rfl hn
   |some s=>
    obtain⟨pre,e⟩:∃ pre,grpK l srt k=pre++[s]:=by
     obtain⟨pre,e⟩:=List.getLast?_eq_some_iff.1 hl;exact⟨pre,e⟩
    rw [e] at ihk ⊢;simp only [List.dropLast_concat];rw [cnt_app] at ihk ⊢;simp only [cntS,List.map_cons,List.map_nil,List.sum_cons,List.sum_nil,List.length_append,List.length_cons,List.length_nil] at ihk ⊢;omega
theorem recs_cnt(ps:List Zp):(recsAll ps).length=cntS (ps.map (·.1)):=by
 induction ps with
 |nil=>rfl
 |cons p ps ih=>
  rw [recsAll,List.flatMap_cons,List.length_append,<- recsAll,ih];simp [recsOf,cntS]
theorem its_len(xs:List Rr):(itsOf xs).length=xs.length:=by simp [itsOf,twI]
theorem zOK_small{ps:List Zp}{o:ByteArray}(hz:zOK ps o=true):zoneRecs ps=recsAll ps:=by
 rw [zoneRecs,if_neg];intro h;rw [zOK_big h] at hz;cases hz
theorem zOK_out{ps:List Zp}{o:ByteArray}(hz:zOK ps o=true):∀ x∈itsOf (zoneRecs ps),x.out=false:=by
 have h1:(restOf (zoneRecs ps)).length=(itsOf (zoneRecs ps)).length:=by
  have e:=(zOK_recs hz).2;have e2:=congrArg cntS e;rw [bldZ,grp_cnt _ _ _ (Nat.le_refl _),<- recs_cnt,<- zOK_small hz] at e2;rw [its_len,<- e2,srtOf,sortI,sortF_len]
 intro x hx;have h2:=(List.length_filter_eq_length_iff.1 h1) x hx;simpa using h2
theorem its_at{xs:List Rr}{i:Nat}{x:Rr}(h:xs[i]? =some x):(itsOf xs)[i]? =some (outI (dupI ((xs.map itemOf).take i) (itemOf x)) (itemOf x)):=by
 rw [itsOf,twI,List.getElem?_mapIdx,List.getElem?_map,h];rfl
theorem zOK_nodup{ps:List Zp}{o:ByteArray}(hz:zOK ps o=true):(zoneRecs ps).Nodup:=by
 rw [List.Nodup,List.pairwise_iff_getElem];intro i j hi hj hij e;have hx:(zoneRecs ps)[i]? =some (zoneRecs ps)[i]:=List.getElem?_eq_getElem hi;have hy:(zoneRecs ps)[j]? =some (zoneRecs ps)[i]:=by rw [List.getElem?_eq_getElem hj,e]
 have h2:=its_at hy;have h3:=zOK_out hz _ (List.mem_of_getElem? h2)
 have h4:dupI (((zoneRecs ps).map itemOf).take j) (itemOf (zoneRecs ps)[i])=true:=by
  rw [dupI,List.any_eq_true];refine⟨itemOf (zoneRecs ps)[i],?_,by simp [kinB]⟩;refine List.mem_of_getElem? (i:=i) ?_;rw [List.getElem?_take,if_pos hij,List.getElem?_map,hx];rfl
 rw [h4] at h3;simp [outI] at h3
theorem zOK_one{ps:List Zp}{o:ByteArray}{al:List ByteArray}(hz:zOK ps o=true)(ha:Nm.split o=some al){i j:Nat}{x y:Rr}(hi:(zoneRecs ps)[i]? =some x)(hj:(zoneRecs ps)[j]? =some y)(hx:x.ty=6)(hy:y.ty=6):i=j:=by
 have key:∀ {i j:Nat} {x y:Rr},(zoneRecs ps)[i]? =some x->(zoneRecs ps)[j]? =some y->x.ty=6->y.ty=6->¬i<j:=by
  intro i j x y hi hj hx hy hlt;obtain⟨-,h1,-⟩:=zOK_rules hz ha;have oi:=zOK_out hz _ (List.mem_of_getElem? (its_at hi));have oj:=zOK_out hz _ (List.mem_of_getElem? (its_at hj));have ri:=firstI_none h1 (its_at hi);have rj:=firstI_none h1 (its_at hj)
  have fi:Nm.foldS x.own=Nm.foldS o:=by
   rw [ru1,oi] at ri;have e6:(outI (dupI (((zoneRecs ps).map itemOf).take i) (itemOf x)) (itemOf x)).r.ty=6:=hx;rw [e6] at ri;simp at ri;exact ri.1
  have hh:hasI ((itsOf (zoneRecs ps)).take j) (Nm.foldS o) 6=true:=by
   rw [hasI,List.any_eq_true];refine⟨_,List.mem_of_getElem? (i:=i) (by rw [List.getElem?_take,if_pos hlt];exact its_at hi),?_⟩;rw [oi];simp only [Bool.not_false,Bool.true_and,Bool.and_eq_true,decide_eq_true_eq];exact⟨fi,hx⟩
  rw [ru1,oj,hh] at rj;have e6:(outI (dupI (((zoneRecs ps).map itemOf).take j) (itemOf y)) (itemOf y)).r.ty=6:=hy;rw [e6] at rj;simp at rj
 rcases Nat.lt_trichotomy i j with h|h|h
 ·exact absurd h (key hi hj hx hy)
 ·exact h
 ·exact absurd h (key hj hi hy hx)
def restR(xs:List Rr):List Rr:=xs.filter fun x=> !is6 x
theorem rest_cut{xs:List Rr}{k:Nat}{r:Rr}(hk:xs[k]? =some r)(h6:is6 r=true)(h1:∀ i x,xs[i]? =some x->is6 x=true->i=k):xs.take k++xs.drop (k+1)=restR xs:=by
 have hlt:=(List.getElem?_eq_some_iff.1 hk).1
 have e:xs=xs.take k++(r::xs.drop (k+1)):=by
  have:=(List.getElem?_eq_some_iff.1 hk).2;rw [<- this,List.getElem_cons_drop,List.take_append_drop]
 have t1:(xs.take k).filter (fun x=> !is6 x)=xs.take k:=by
  rw [List.filter_eq_self];intro x hx;obtain⟨i,hi⟩:=List.mem_iff_getElem?.1 hx;rw [List.getElem?_take] at hi
  split at hi
  ·cases h:is6 x with
   |false=>rfl
   |true=>have:=h1 i x hi h;omega
  ·cases hi
 have t2:(xs.drop (k+1)).filter (fun x=> !is6 x)=xs.drop (k+1):=by
  rw [List.filter_eq_self];intro x hx;obtain⟨i,hi⟩:=List.mem_iff_getElem?.1 hx;rw [List.getElem?_drop] at hi
  cases h:is6 x with
  |false=>rfl
  |true=>have:=h1 _ x hi h;omega
 rw [restR]
 conv=>rhs;rw [e]
 rw [List.filter_append,t1,List.filter_cons,h6,t2];rfl
theorem i64_wf{n:Int}(h1: -1<=n)(h2:n<=4294967295):(Lit.int .i64 n).wf=true:=by
 have e1:IntKind.i64.min= -9223372036854775808:=by decide
 have e2:IntKind.i64.max=9223372036854775807:=by decide
 simp only [Lit.wf,Bool.and_eq_true,decide_eq_true_eq,e1,e2];omega
theorem zOK_fits{ps:List Zp}{o:ByteArray}{al:List ByteArray}(hz:zOK ps o=true)(ha:Nm.split o=some al)(hf:∀ p∈ps,p.1.own.size<=1048576∧∀ x∈p.1.da,x.size<=1048576):∀ r∈zoneRecs ps,RFit r:=by
 intro r hr;obtain⟨hb,-,-⟩:=zOK_rules hz ha;have h1:=bad_none _ _ hb r hr;have h2:=recs_fit hf r hr;unfold RFit;rw [oneC] at h1
 split at h1
 ·cases h1
 ·split at h1
  ·cases h1
  ·rename_i hc
   split at h1
   ·cases h1
   ·rename_i ht
    split at h1
    ·cases h1
    ·rename_i hy;have hc:r.cl=1:=by simpa using hc
     simp at ht;refine⟨by have:=h2.1;unfold maxLen;omega,by have:=h2.2;unfold maxLen;omega,i64_wf (by omega) (by omega),i64_wf (by omega) (by omega),i64_wf (by omega) (by omega)⟩
theorem zOK_soaR{ps:List Zp}{o:ByteArray}{al:List ByteArray}(hz:zOK ps o=true)(ha:Nm.split o=some al):∃ (r:Rr) (k:Nat) (s:Sz) (ds:List ByteArray),(zoneRecs ps).find? is6=some r∧(zoneRecs ps)[k]? =some r∧soI (zoneRecs ps)=(k:Int)∧(zoneRecs ps).take k++(zoneRecs ps).drop (k+1)=restR (zoneRecs ps)∧fndZ (ps.map (·.1)) o 6=some s∧s.da=r.da::ds∧r=⟨s.own,s.ty,1,s.tt,r.da⟩∧cutCode 6 r.da=0∧s∈ps.map (·.1):=by
 obtain⟨s,d,ds,f1,f2,f3,f4,f5⟩:=soa_model hz ha
 have h6:s.ty=6:=by
  have:=List.find?_some f1;simp at this;exact this.1
 have hmem:(⟨s.own,s.ty,1,s.tt,d⟩:Rr)∈zoneRecs ps:=by
  rw [zOK_small hz,recsAll,List.mem_flatMap];obtain⟨p,hp,e⟩:=List.mem_map.1 f5;refine⟨p,hp,?_⟩;rw [recsOf,e];exact List.mem_map.2 ⟨d,by rw [f2];simp,rfl⟩
 obtain⟨k,hk⟩:=List.mem_iff_getElem?.1 hmem;have hi:is6 (⟨s.own,s.ty,1,s.tt,d⟩:Rr)=true:=by simp [is6,h6]
 have huni:∀ i x,(zoneRecs ps)[i]? =some x->is6 x=true->i=k:=fun i x hx h=>zOK_one hz ha hx hk (by simpa [is6] using h) h6
 obtain⟨r,hr⟩:∃ r,(zoneRecs ps).find? is6=some r:=by
  cases e:(zoneRecs ps).find? is6 with
  |some r=>exact⟨r,rfl⟩
  |none=>have:=List.find?_eq_none.1 e _ hmem;exact absurd hi (by simpa using this)
 obtain⟨k',-,hk',hsk⟩:=soI_find hr;have h6r:=List.find?_some hr;have ek:=huni k' r hk' h6r;subst ek;have er:r=⟨s.own,s.ty,1,s.tt,d⟩:=Option.some.inj (hk'.symm.trans hk);have ed:r.da=d:=by rw [er]
 refine⟨r,k',s,ds,hr,hk',hsk,rest_cut hk' h6r huni,f1,by rw [ed];exact f2,by rw [ed];exact er,by rw [ed];exact f4,f5⟩
end Go.Proofs.YtieobflhfcgliaaGreat
