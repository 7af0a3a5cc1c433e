import Derived.Test.YthdpacepbbcocaaGreatJBzD
import Derived.Test.YthdpacepbbcocaaGreatJFsM
set_option linter.unusedVariables false
set_option maxRecDepth 100000
set_option maxHeartbeats 800000
namespace Go.Proofs.YthdpacepbbcocaaGreat
open Go.RowKit
def aRs(ss:List Sz)(o:ByteArray):ByteArray:=match rO ss o 6 with
 |some s=>s.da.headD ⟨#[]⟩
 |none=>⟨#[]⟩
theorem aK9{r:Rr}{aM:ByteArray}(h:mV r aM=0):bQ r.ty r.da=0:=by
 rw [mV] at h
 split at h
 ·cases h
 split at h
 ·cases h
 split at h
 ·cases h
 split at h
 ·cases h
 split at h
 ·cases h
 rename_i h2;simpa using h2
theorem aBb{l jQ:List It}:∀ (k:Nat),∀ s∈kW l jQ k,s.da≠[]
 |0,s,hs=>by cases hs
 |k+1,s,hs=>by
  have ih:=aBb (l:=l) (jQ:=jQ) k;rw [kW] at hs
  cases hx:jQ[k]? with
  |none=>rw [hx] at hs;exact ih s hs
  |some x=>
   rw [hx] at hs;simp only at hs
   split at hs
   ·rcases jS hs with h|h
    ·exact ih s h
    rw [List.mem_singleton.1 h];simp
   rw [MV] at hs
   cases hl:(kW l jQ k).getLast? with
   |none=>rw [hl] at hs;cases hs
   |some s0=>
    rw [hl] at hs
    rcases jS hs with h|h
    ·exact ih s ((List.dropLast_sublist _).subset h)
    rw [List.mem_singleton.1 h];simp
theorem QG{ps:List Zp}{o:ByteArray}{al:List ByteArray}(hz:pI ps o=true)(ha:Nm.split o=some al):gP o (aD ps) 0=none∧bL (EA (bD (aD ps)) (Nm.cZ o)) (bD (aD ps))=none∧fH (bD (aD ps)) (Nm.cZ o) 6=true:=by
 have h0:=(oC hz).1;rw [eH,if_neg (by rw [ha];simp)] at h0
 split at h0
 ·exact absurd h0 (by simp)
 cases hb:gP o (aD ps) 0 with
 |some c=>rw [hb] at h0;exact absurd h0 (NK _ _ c.1 c.2 hb)
 |none=>
  rw [hb] at h0;simp only at h0
  split at h0
  ·exact absurd h0 (by simp)
  split at h0
  ·rename_i h1;exact absurd h0 h1
  rename_i h1;have h1:(fM (bD (aD ps)) (Nm.cZ o)).1=0:=by simpa using h1
  rw [lJ] at h1;refine⟨rfl,?_⟩
  split at h1
  ·exact absurd h1 (by simp)
  rename_i hf;refine⟨hf,?_⟩
  split at h1
  ·exact absurd h1 (by simp)
  rename_i h2;simpa using h2
theorem RZ{p:Nat->It->Bool}{l:List It}(h:bL p l=none){i:Nat}{x:It}(hx:l[i]? =some x):p i x=false:=by
 rw [bL,List.find?_eq_none] at h;have hi:=(dK hx).1;have:=h i (List.mem_range.2 hi);rw [hx] at this;simpa using this
theorem aEf{ps:List Zp}{o:ByteArray}{al:List ByteArray}(hz:pI ps o=true)(ha:Nm.split o=some al):∃ s d ds,rO (ps.map (·.1)) o 6=some s∧s.da=d::ds∧aRs (ps.map (·.1)) o=d∧bQ 6 d=0∧s∈ps.map (·.1):=by
 obtain⟨hb,-,h6⟩:=QG hz ha
 have hg:∀ y∈(aD ps).map aQ,gB y:=by
  intro y hy;obtain⟨r,hr,rfl⟩:=lS hy;exact wH (QF (xH _ _ hb r hr)).1
 have e1:aD ps=(ps.map (·.1)).flatMap fA:=by
  rw [aD,if_neg (fun hc=>by rw [yV hc] at hz;cases hz),dI,List.flatMap_map]
 obtain⟨y,hy,yN,hy6⟩:=(sJ hg _ _).1 h6;have Jp:=hg y hy;obtain⟨r,hr,rfl⟩:=lS hy;have hr':=hr;rw [e1] at hr';obtain⟨s0,hs0,OD⟩:=List.mem_flatMap.1 hr';obtain⟨d0,-,rfl⟩:=lS OD;have aU:Nm.split s0.own=some _:=Jp.1
 have xQ:(rO (ps.map (·.1)) o 6).isSome=true:=by
  rw [rO,List.find?_isSome];refine⟨s0,hs0,?_⟩;have h1:s0.ty=6:=hy6;rw [Lv aU ha];simp only [h1,decide_true,Bool.true_and,decide_eq_true_eq];exact(zZ aU ha).1 yN
 obtain⟨s,hs⟩:=Option.isSome_iff_exists.1 xQ;have hsM:=List.mem_of_find?_eq_some hs
 have hs6:s.ty=6:=by
  have:=List.find?_some hs;simp only [Bool.and_eq_true,decide_eq_true_eq] at this;exact this.1
 obtain⟨d,ds,hd⟩:=List.exists_cons_of_ne_nil (show s.da≠[] by have h9:=hsM;rw [<- (oC hz).2] at h9;exact aBb _ s h9);refine⟨s,d,ds,hs,hd,by rw [aRs,hs];simp [hd],?_,hsM⟩
 have hrm:(⟨s.own,s.ty,1,s.tt,d⟩:Rr)∈aD ps:=by
  rw [e1];exact List.mem_flatMap.2 ⟨s,hsM,List.mem_map.2 ⟨d,by rw [hd];simp,rfl⟩⟩
 have:=aK9 (xH _ _ hb _ hrm);simp only at this
 rwa [hs6] at this
def qQ(ss:List Sz):Nat:=(ss.map fun s=>s.da.length).sum
theorem Ig(a b:List Sz):qQ (a++b)=qQ a+qQ b:=by simp [qQ]
theorem aBc(l jQ:List It):∀ k,k<=jQ.length->qQ (kW l jQ k)=k:=by
 intro k
 induction k with
 |zero=>intro _;rfl
 |succ k ih=>
  intro hk;have ihk:=ih (by omega);rw [kW,bY (by omega)];simp only
  split
  ·rw [Ig,ihk];rfl
  rename_i hn;rw [MV]
  cases hl:(kW l jQ k).getLast? with
  |none=>
   rw [List.getLast?_eq_none_iff] at hl;rw [hl] at ihk;have k0:k=0:=ihk.symm;subst k0
   exact absurd rfl hn
  |some s=>
   obtain⟨pre,e⟩:∃ pre,kW l jQ k=pre++[s]:=by
    obtain⟨pre,e⟩:=List.getLast?_eq_some_iff.1 hl;exact⟨pre,e⟩
   rw [e] at ihk ⊢;simp only [List.dropLast_concat];rw [Ig] at ihk ⊢;simp only [qQ,List.map_cons,List.map_nil,List.sum_cons,List.sum_nil,nG,List.length_cons,List.length_nil] at ihk ⊢;omega
theorem aH5(ps:List Zp):(dI ps).length=qQ (ps.map (·.1)):=by
 induction ps with
 |nil=>rfl
 |cons p ps ih=>
  rw [dI,List.flatMap_cons,nG,<- dI,ih];simp [fA,qQ]
theorem Ih(xs:List Rr):(bD xs).length=xs.length:=by simp [bD,zB]
theorem Eh{ps:List Zp}{o:ByteArray}(hz:pI ps o=true):aD ps=dI ps:=by
 rw [aD,if_neg];intro h;rw [yV h] at hz;cases hz
theorem Ii{ps:List Zp}{o:ByteArray}(hz:pI ps o=true):∀ x∈bD (aD ps),x.out=false:=by
 have h1:(xB (aD ps)).length=(bD (aD ps)).length:=by
  have e:=(oC hz).2;have e2:=congrArg qQ e;rw [mW,aBc _ _ _ (aN _),<- aH5,<- Eh hz] at e2;rw [Ih,<- e2,fK,EY,tK]
 intro x hx;have h2:=(List.length_filter_eq_length_iff.1 h1) x hx;simpa using h2
theorem KR{xs:List Rr}{i:Nat}{x:Rr}(h:xs[i]? =some x):(bD xs)[i]? =some (iQ (jI ((xs.map aQ).take i) (aQ x)) (aQ x)):=by
 rw [bD,zB,List.getElem?_mapIdx,List.getElem?_map,h];rfl
theorem AL{ps:List Zp}{o:ByteArray}(hz:pI ps o=true):(aD ps).Nodup:=by
 rw [List.Nodup,List.pairwise_iff_getElem];intro i j hi hj hij e;have hx:(aD ps)[i]? =some (aD ps)[i]:=bY hi;have hy:(aD ps)[j]? =some (aD ps)[i]:=by rw [bY hj,e]
 have h2:=KR hy;have h3:=Ii hz _ (bP h2)
 have h4:jI (((aD ps).map aQ).take j) (aQ (aD ps)[i])=true:=by
  rw [jI,List.any_eq_true];refine⟨aQ (aD ps)[i],?_,by simp [lV]⟩;refine bP (i:=i) ?_;rw [List.getElem?_take,if_pos hij,List.getElem?_map,hx];rfl
 rw [h4] at h3;simp [iQ] at h3
theorem aLa{ps:List Zp}{o:ByteArray}{al:List ByteArray}(hz:pI ps o=true)(ha:Nm.split o=some al){i j:Nat}{x y:Rr}(hi:(aD ps)[i]? =some x)(hj:(aD ps)[j]? =some y)(hx:x.ty=6)(hy:y.ty=6):i=j:=by
 have key:∀ {i j:Nat} {x y:Rr},(aD ps)[i]? =some x->(aD ps)[j]? =some y->x.ty=6->y.ty=6->¬i<j:=by
  intro i j x y hi hj hx hy bV;obtain⟨-,h1,-⟩:=QG hz ha;have oi:=Ii hz _ (bP (KR hi));have oj:=Ii hz _ (bP (KR hj));have ri:=RZ h1 (KR hi);have rj:=RZ h1 (KR hj)
  have fi:Nm.cZ x.own=Nm.cZ o:=by
   rw [EA,oi] at ri;have e6:(iQ (jI (((aD ps).map aQ).take i) (aQ x)) (aQ x)).r.ty=6:=hx;rw [e6] at ri;simp at ri;exact ri.1
  have hh:fH ((bD (aD ps)).take j) (Nm.cZ o) 6=true:=by
   rw [fH,List.any_eq_true];refine⟨_,bP (i:=i) (by rw [List.getElem?_take,if_pos bV];exact KR hi),?_⟩;rw [oi];simp only [Bool.not_false,Bool.true_and,Bool.and_eq_true,decide_eq_true_eq];exact⟨fi,hx⟩
  rw [EA,oj,hh] at rj;have e6:(iQ (jI (((aD ps).map aQ).take j) (aQ y)) (aQ y)).r.ty=6:=hy;rw [e6] at rj;simp at rj
 rcases Nat.lt_trichotomy i j with h|h|h
 ·exact absurd h (key hi hj hx hy)
 ·exact h
 exact absurd h (key hj hi hy hx)
def dF(xs:List Rr):List Rr:=xs.filter fun x=> !xM x
theorem aH6{xs:List Rr}{k:Nat}{r:Rr}(hk:xs[k]? =some r)(h6:xM r=true)(h1:∀ i x,xs[i]? =some x->xM x=true->i=k):xs.take k++xs.drop (k+1)=dF xs:=by
 have bV:=(dK hk).1
 have e:xs=xs.take k++(r::xs.drop (k+1)):=by
  have:=(dK hk).2;rw [<- this,List.getElem_cons_drop,List.take_append_drop]
 have t1:(xs.take k).filter (fun x=> !xM x)=xs.take k:=by
  rw [List.filter_eq_self];intro x hx;obtain⟨i,hi⟩:=List.mem_iff_getElem?.1 hx;rw [List.getElem?_take] at hi
  split at hi
  ·cases h:xM x
   ·rfl
   have:=h1 i x hi h;omega
  cases hi
 have t2:(xs.drop (k+1)).filter (fun x=> !xM x)=xs.drop (k+1):=by
  rw [List.filter_eq_self];intro x hx;obtain⟨i,hi⟩:=List.mem_iff_getElem?.1 hx;rw [List.getElem?_drop] at hi;cases h:xM x
  ·rfl
  have:=h1 _ x hi h;omega
 rw [dF]
 conv=>rhs;rw [e]
 rw [List.filter_append,t1,List.filter_cons,h6,t2];rfl
theorem Zo{n:Int}(h1: -1<=n)(h2:n<=4294967295):(Lit.int .i64 n).wf=true:=by
 have e1:IntKind.i64.min= -9223372036854775808:=by decide
 have e2:IntKind.i64.max=9223372036854775807:=by decide
 simp only [Lit.wf,Bool.and_eq_true,decide_eq_true_eq,e1,e2];omega
theorem FV{ps:List Zp}{o:ByteArray}{al:List ByteArray}(hz:pI ps o=true)(ha:Nm.split o=some al)(hf:∀ p∈ps,p.1.own.size<=1048576∧∀ x∈p.1.da,x.size<=1048576):∀ r∈aD ps,xN r:=by
 intro r hr;obtain⟨hb,-,-⟩:=QG hz ha;have h1:=xH _ _ hb r hr;have h2:=sK hf r hr;unfold xN;rw [mV] at h1
 split at h1
 ·cases h1
 split at h1
 ·cases h1
 rename_i hc
 split at h1
 ·cases h1
 rename_i ht
 split at h1
 ·cases h1
 rename_i hy;have hc:r.cl=1:=by simpa using hc
 simp at ht;refine⟨by have:=h2.1;unfold maxLen;omega,by have:=h2.2;unfold maxLen;omega,Zo (by omega) (by omega),Zo (by omega) (by omega),Zo (by omega) (by omega)⟩
theorem FW{ps:List Zp}{o:ByteArray}{al:List ByteArray}(hz:pI ps o=true)(ha:Nm.split o=some al):∃ (r:Rr) (k:Nat) (s:Sz) (ds:List ByteArray),(aD ps).find? xM=some r∧(aD ps)[k]? =some r∧Vn (aD ps)=(k:Int)∧(aD ps).take k++(aD ps).drop (k+1)=dF (aD ps)∧rO (ps.map (·.1)) o 6=some s∧s.da=r.da::ds∧r=⟨s.own,s.ty,1,s.tt,r.da⟩∧bQ 6 r.da=0∧s∈ps.map (·.1):=by
 obtain⟨s,d,ds,f1,f2,f3,f4,f5⟩:=aEf hz ha
 have h6:s.ty=6:=by
  have:=List.find?_some f1;simp at this;exact this.1
 have wX:(⟨s.own,s.ty,1,s.tt,d⟩:Rr)∈aD ps:=by
  rw [Eh hz,dI,List.mem_flatMap];obtain⟨p,hp,e⟩:=lS f5;refine⟨p,hp,?_⟩;rw [fA,e];exact List.mem_map.2 ⟨d,by rw [f2];simp,rfl⟩
 obtain⟨k,hk⟩:=List.mem_iff_getElem?.1 wX;have hi:xM (⟨s.own,s.ty,1,s.tt,d⟩:Rr)=true:=by simp [xM,h6]
 have aRt:∀ i x,(aD ps)[i]? =some x->xM x=true->i=k:=fun i x hx h=>aLa hz ha hx hk (by simpa [xM] using h) h6
 obtain⟨r,hr⟩:∃ r,(aD ps).find? xM=some r:=by
  cases e:(aD ps).find? xM with
  |some r=>exact⟨r,rfl⟩
  |none=>have:=List.find?_eq_none.1 e _ wX;exact absurd hi (by simpa using this)
 obtain⟨k',-,sS,hsk⟩:=aGp hr;have h6r:=List.find?_some hr;have ek:=aRt k' r sS h6r;subst ek;have er:r=⟨s.own,s.ty,1,s.tt,d⟩:=gQ (sS.symm.trans hk);have ed:r.da=d:=by rw [er]
 refine⟨r,k',s,ds,hr,sS,hsk,aH6 sS h6r aRt,f1,by rw [ed];exact f2,by rw [ed];exact er,by rw [ed];exact f4,f5⟩
def CS(r:Rr):Int:=if bQ 6 r.da=0 then Hw r.da else 0
def Jq(r:Rr):Bool:=xM r&&decide (bQ 6 r.da=0)
def cbB(a b:Rr):Bool:=Jq a&&Jq b&&rJ (CS b) (CS a)
theorem JM(r:Rr)(w:World)(hd:r.da.size<=2000000):
 Calls Tryz.prog 42 #[ZX r] w fun e w'=>e=.returned (.tuple #[.int .i64 (CS r),.bool (Jq r)])∧Below w.heap.size w w':=by
 have b0:=(aK w.heap.size w).alloc (aN _) (.cells #[.string r.own,.int .i64 r.ty,.int .i64 r.cl,.int .i64 r.tt,.string r.da] 29);have k0:=aH w #[.string r.own,.int .i64 r.ty,.int .i64 r.cl,.int .i64 r.tt,.string r.da] 29;have hse:=XT r.da (w.alloc (.cells #[.string r.own,.int .i64 r.ty,.int .i64 r.cl,.int .i64 r.tt,.string r.da] 29)) hd;have Zj:=fun W=>Dh r W
 obtain⟨N,HN⟩:∃ N,Hid (N=CS r):=⟨_,rfl⟩;obtain⟨B,HB⟩:∃ B,Hid (B=Jq r):=⟨_,rfl⟩;rw [<- HN.out,<- HB.out]
 by_cases hc:bQ 6 r.da=0
 ·have e1:CS r=Hw r.da:=if_pos hc;have e2:Jq r=xM r:=by simp [Jq,hc]
  rw [if_pos hc,if_pos hc,<- e1,<- HN.out] at hse;rw [<- e2,<- HB.out] at Zj;clear e1 e2 hc
  cases B with
  |true=>
   go_enter Tryz.func42,Tryz.ntmps42;go_wp2_with (first|(go_at_call 84;refine hse.mono ?_;rintro e w1 ⟨rfl,fF⟩;have k1:=aB k0 fF;have r1:=fun i=>aA k1 i)|(go_at_call 47;refine(Zj _).mono ?_;rintro e w2 ⟨rfl,iE⟩))
   go_ret2
   exact⟨rfl,Nm.aC (Nm.aC b0 fF) iE⟩
  |false=>
   go_enter Tryz.func42,Tryz.ntmps42;go_wp2_with (first|(go_at_call 84;refine hse.mono ?_;rintro e w1 ⟨rfl,fF⟩;have k1:=aB k0 fF;have r1:=fun i=>aA k1 i)|(go_at_call 47;refine(Zj _).mono ?_;rintro e w2 ⟨rfl,iE⟩))
   go_ret2;exact⟨rfl,Nm.aC (Nm.aC b0 fF) iE⟩
 have e1:CS r=0:=if_neg hc;have e2:Jq r=false:=by simp [Jq,hc]
 rw [if_neg hc,if_neg hc,<- e1,<- HN.out] at hse;rw [e2] at HB;obtain rfl:=HB.out
 cases h6:xM r with
 |true=>
  rw [h6] at Zj;clear h6 hc e1 e2;go_enter Tryz.func42,Tryz.ntmps42;go_wp2_with (first|(go_at_call 84;refine hse.mono ?_;rintro e w1 ⟨rfl,fF⟩;have k1:=aB k0 fF;have r1:=fun i=>aA k1 i)|(go_at_call 47;refine(Zj _).mono ?_;rintro e w2 ⟨rfl,iE⟩))
  go_ret2
  exact⟨rfl,Nm.aC (Nm.aC b0 fF) iE⟩
 |false=>
  rw [h6] at Zj;clear h6 hc e1 e2;go_enter Tryz.func42,Tryz.ntmps42;go_wp2_with (first|(go_at_call 84;refine hse.mono ?_;rintro e w1 ⟨rfl,fF⟩;have k1:=aB k0 fF;have r1:=fun i=>aA k1 i)|(go_at_call 47;refine(Zj _).mono ?_;rintro e w2 ⟨rfl,iE⟩))
  go_ret2;exact⟨rfl,Nm.aC (Nm.aC b0 fF) iE⟩
theorem CU(a b:Rr)(w:World)(ha:a.da.size<=2000000)(hb:b.da.size<=2000000):
 Calls Tryz.prog 23 #[ZX a,ZX b] w fun e w'=>e=.returned (.bool (cbB a b))∧Below w.heap.size w w':=by
 have b0:=((aK w.heap.size w).alloc (aN _) (.cells #[.string a.own,.int .i64 a.ty,.int .i64 a.cl,.int .i64 a.tt,.string a.da] 29)).alloc (by simp) (.cells #[.string b.own,.int .i64 b.ty,.int .i64 b.cl,.int .i64 b.tt,.string b.da] 29);have k0:=aH (w.alloc (.cells #[.string a.own,.int .i64 a.ty,.int .i64 a.cl,.int .i64 a.tt,.string a.da] 29)) #[.string b.own,.int .i64 b.ty,.int .i64 b.cl,.int .i64 b.tt,.string b.da] 29;rw [fV] at k0;have h1:=fun W=>JM a W ha
 have h2:=fun W=>JM b W hb
 have hse:=fun W=>KE (CS b) (CS a) W
 obtain⟨R,HR⟩:∃ R,Hid (R=cbB a b):=⟨_,rfl⟩;rw [<- HR.out];have HR2:Hid (R=(Jq a&&Jq b&&rJ (CS b) (CS a))):=HR;clear HR;generalize CS a=sa at*;generalize CS b=sb at*;generalize rJ sb sa=L at*;generalize Jq a=x at*;generalize Jq b=y at*;cases x
 ·have HE:Hid (R=false):=by show _=_;rw [HR2.out];simp
  go_enter Tryz.func23,Tryz.ntmps23;go_wp2_with fail
  go_at_call 42
  refine(h1 _).mono ?_;rintro e w1 ⟨rfl,fF⟩;have k1:=aB k0 fF;have r1:=fun i=>aA k1 i
  go_wp2_with fail
  go_at_call 42
  refine(h2 _).mono ?_;rintro e w2 ⟨rfl,iE⟩;go_wp2;go_ret;rw [HE.out];exact⟨rfl,Nm.aC (Nm.aC b0 fF) iE⟩
 cases y
 ·have HE:Hid (R=false):=by show _=_;rw [HR2.out];simp
  go_enter Tryz.func23,Tryz.ntmps23;go_wp2_with fail
  go_at_call 42
  refine(h1 _).mono ?_;rintro e w1 ⟨rfl,fF⟩;have k1:=aB k0 fF;have r1:=fun i=>aA k1 i
  go_wp2_with fail
  go_at_call 42
  refine(h2 _).mono ?_;rintro e w2 ⟨rfl,iE⟩;go_wp2;go_ret;rw [HE.out];exact⟨rfl,Nm.aC (Nm.aC b0 fF) iE⟩
 have HE:Hid (R=L):=by show _=_;rw [HR2.out];simp
 go_enter Tryz.func23,Tryz.ntmps23;go_wp2_with fail
 go_at_call 42
 refine(h1 _).mono ?_;rintro e w1 ⟨rfl,fF⟩;have k1:=aB k0 fF;have r1:=fun i=>aA k1 i
 go_wp2_with fail
 go_at_call 42
 refine(h2 _).mono ?_;rintro e w2 ⟨rfl,iE⟩;go_wp2_with (go_at_call 43;refine(hse _).mono ?_;rintro e w3 ⟨rfl,hw⟩;obtain rfl:=hw.symm;clear hw)
 go_ret;rw [HE.out];exact⟨rfl,Nm.aC (Nm.aC b0 fF) iE⟩
structure Ky where
 fo:ByteArray
 ty:Int
 dt:ByteArray
 tt:Int
def QH(x:It):Ky:=⟨x.fo,x.r.ty,x.dt,x.r.tt⟩
structure Zq (S:Ky->Prop) (fo:ByteArray):Prop where
 mix:∀ a b,S a->S b->b.fo=a.fo->b.ty=a.ty->b.tt=a.tt
 soa:∀ a,S a->a.ty=6->a.fo=fo
 aRu:∀ a b,S a->S b->a.ty=6->b.ty=6->b.dt=a.dt
 has6:∃ a,S a∧a.fo=fo∧a.ty=6
 has2:∃ a,S a∧a.fo=fo∧a.ty=2
 star:∀ a,S a->yF a.fo=true->a.ty≠2∧a.ty≠39
 one:∀ a b,S a->S b->a.ty=5∨a.ty=39->b.fo=a.fo->b.ty=a.ty->b.dt=a.dt
 ali:∀ a b,S a->S b->b.fo=a.fo->b.ty=5->a.ty=5∨a.ty=47
 bel:∀ a b,S a->S b->b.ty=39->b.fo≠a.fo->fT a.fo b.fo=false
def NS(l:List It)(k:Ky):Prop:=∃ x∈l,QH x=k
theorem tV{p:Nat->It->Bool}{l:List It}:bL p l=none↔ ∀ (i:Nat) (x:It),l[i]? =some x->p i x=false:=by
 constructor
 ·intro h i x hx;have hi:=(dK hx).1;rw [bL,List.find?_eq_none] at h;have:=h i (by simpa using hi);rw [hx] at this;simpa using this
 intro h;exact lI fun i _ y hy=>h i y hy
theorem Zr{l:List It}{fo:ByteArray}:(fM l fo).1=0↔(∀ (i:Nat) (x:It),l[i]? =some x->EA l fo i x=false)∧fH l fo 6=true∧fH l fo 2=true∧(∀ (i:Nat) (x:It),l[i]? =some x->KX x=false)∧(∀ (i:Nat) (x:It),l[i]? =some x->MJ l i x=false)∧(∀ (i:Nat) (x:It),l[i]? =some x->KG l x=false)∧(∀ (i:Nat) (x:It),l[i]? =some x->PQ l x=false):=by
 rw [lJ,<- tV (p:=EA l fo),<- tV (p:=fun _ x=>KX x),<- tV (p:=MJ l),<- tV (p:=fun _ x=>KG l x),<- tV (p:=fun _ x=>PQ l x)]
 cases h1:bL (EA l fo) l with
 |some i=>simp
 |none=>
  cases h2:fH l fo 6
  ·simp
  cases h3:fH l fo 2
  ·simp
  cases h4:bL (fun _ x=>KX x) l with
  |some i=>simp
  |none=>
   cases h5:bL (MJ l) l with
   |some i=>simp
   |none=>
    cases h6:bL (fun _ x=>KG l x) l with
    |some i=>simp
    |none=>
     cases h7:bL (fun _ x=>PQ l x) l with
     |some i=>simp
     |none=>simp
theorem uD{l:List It}(hl:∀ y∈l,gB y){x:It}(hx:x∈l):∃ (i:Nat) (z:It),l[i]? =some z∧(zB l)[i]? =some z∧z.out=false∧z.fo=x.fo∧z.r.ty=x.r.ty∧z.dt=x.dt:=by
 obtain⟨i,z,hF⟩:=iU.ex (P:=fun y:It=>y.fo=x.fo∧y.r.ty=x.r.ty∧y.dt=x.dt) (l:=l) ⟨x,hx,rfl,rfl,rfl⟩;have hg:=hl z (bP hF.1)
 have hd:jI (l.take i) z=false:=by
  cases hd:jI (l.take i) z
  ·rfl
  exfalso
  rw [jI,List.any_eq_true] at hd;obtain⟨y,hy,h⟩:=hd;simp only [lV,Bool.and_eq_true,decide_eq_true_eq] at h;obtain⟨m,hm,hy⟩:=vP hy;exact hF.2.2 m y hm hy ⟨h.1.1.trans hF.2.1.1,h.1.2.trans hF.2.1.2.1,h.2.trans hF.2.1.2.2⟩
 refine⟨i,z,hF.1,?_,hg.2.2.2,hF.2.1.1,hF.2.1.2.1,hF.2.1.2.2⟩;rw [jJ hF.1,hd];simp [iQ]
theorem YI{l:List It}{i:Nat}{x:It}(h:(zB l)[i]? =some x):∃ y,l[i]? =some y∧x=iQ (jI (l.take i) y) y:=by
 have hi:=(dK h).1;rw [iM] at hi;have hy:l[i]? =some l[i]:=bY hi;rw [jJ hy] at h;exact⟨_,hy,(gQ h).symm⟩
theorem Ri{l:List It}{i j:Nat}{x y:It}(hj:j<i)(hy:l[j]? =some y)(h1:y.fo=x.fo)(h2:y.r.ty=x.r.ty)(h3:y.dt=x.dt):jI (l.take i) x=true:=by
 rw [jI,List.any_eq_true];exact⟨y,bP (i:=j) (by rw [List.getElem?_take_of_lt hj];exact hy),by simp [lV,h1,h2,h3]⟩
theorem aLb{l:List It}:sF l<0↔ ∀ x∈l,∀ y∈l,y.fo=x.fo->y.r.ty=x.r.ty->y.r.tt=x.r.tt:=by
 have e:sF l<0↔bL (fun i x=>qO (l.take i) x) l=none:=by
  rw [sF]
  cases bL (fun i x=>qO (l.take i) x) l with
  |some i=>simp
  |none=>simp
 rw [e,tV];constructor
 ·intro h
  have key:∀ x∈l,∃ z,(∃ i0,iU (fun y:It=>y.fo=x.fo∧y.r.ty=x.r.ty) l i0 z)∧z.r.tt=x.r.tt:=by
   intro x hx;obtain⟨i0,z,hF⟩:=iU.ex (P:=fun y:It=>y.fo=x.fo∧y.r.ty=x.r.ty) (l:=l) ⟨x,hx,rfl,rfl⟩;refine⟨z,⟨i0,hF⟩,?_⟩;obtain⟨i,hi⟩:=List.getElem?_of_mem hx
   rcases Nat.lt_trichotomy i0 i with h1|h1|h1
   ·have hf:=vM (l:=l) (k:=i) (p:=lV x) h1 hF.1 (by simp [lV,hF.2.1.1,hF.2.1.2]) (fun j w hj hw=>by
     cases hk:lV x w
     ·rfl
     simp only [lV,Bool.and_eq_true,decide_eq_true_eq] at hk
     exact absurd hk (hF.2.2 j w hj hw))
    have h2:=h i x hi;rw [qO,hf] at h2;simpa using h2
   ·subst h1;rw [hF.1] at hi;rw [gQ hi]
   exact absurd ⟨rfl,rfl⟩ (hF.2.2 i x h1 hi)
  intro x hx y hy h1 h2;obtain⟨z,⟨i,hz⟩,e1⟩:=key x hx;obtain⟨w,⟨j,hw⟩,e2⟩:=key y hy
  have hij:i=j:=by
   rcases Nat.lt_trichotomy i j with h3|h3|h3
   ·exact absurd ⟨hz.2.1.1.trans h1.symm,hz.2.1.2.trans h2.symm⟩ (hw.2.2 i z h3 hz.1)
   ·exact h3
   exact absurd ⟨hw.2.1.1.trans h1,hw.2.1.2.trans h2⟩ (hz.2.2 j w h3 hw.1)
  subst hij;have hzw:=hz.1;rw [hw.1] at hzw;obtain rfl:=gQ hzw;rw [<- e2,e1]
 intro h i x hx;rw [qO]
 cases hf:(l.take i).find? (lV x) with
 |none=>rfl
 |some y=>
  have hk:=List.find?_some hf;simp only [lV,Bool.and_eq_true,decide_eq_true_eq] at hk;have hy:=List.mem_of_mem_take (List.mem_of_find?_eq_some hf);simp [h x (bP hx) y hy hk.1 hk.2]
theorem aBd{l:List It}(hl:∀ y∈l,gB y)(fo:ByteArray):(sF l<0∧(fM (zB l) fo).1=0)↔Zq (NS l) fo:=by
 rw [aLb,Zr];constructor
 ·rintro⟨hm,h1,h6,h2,h3,h4,h5,h7⟩
  refine⟨?_,?_,?_,?_,?_,?_,?_,?_,?_⟩
  ·rintro _ _ ⟨x,hx,rfl⟩ ⟨y,hy,rfl⟩ e1 e2;exact hm x hx y hy e1 e2
  ·rintro _ ⟨x,hx,rfl⟩ e;obtain⟨i,z,a1,a2,a3,a4,a5,a6⟩:=uD hl hx;have:=h1 i z a2;simp only [EA,a3,a5,show x.r.ty=6 from e,Bool.not_false,Bool.true_and,decide_true,Bool.or_eq_false_iff,decide_eq_false_iff_not,ne_eq,Decidable.not_not] at this;exact a4.symm.trans this.1
  ·rintro _ _ ⟨x,hx,rfl⟩ ⟨y,hy,rfl⟩ e1 e2;obtain⟨i,z,a1,a2,a3,a4,a5,a6⟩:=uD hl hx;obtain⟨j,w,b1,b2,b3,b4,b5,b6⟩:=uD hl hy;have g1:=h1 i z a2;have g2:=h1 j w b2;simp only [EA,a3,a5,show x.r.ty=6 from e1,Bool.not_false,Bool.true_and,decide_true,Bool.or_eq_false_iff,decide_eq_false_iff_not,ne_eq,Decidable.not_not] at g1;simp only [EA,b3,b5,show y.r.ty=6 from e2,Bool.not_false,Bool.true_and,decide_true,Bool.or_eq_false_iff,decide_eq_false_iff_not,ne_eq,Decidable.not_not] at g2;show y.dt=x.dt
   rcases Nat.lt_trichotomy i j with h|h|h
   ·have:=(uN hl j fo 6).2 ⟨i,z,h,a1,g1.1,a5.trans e1⟩;rw [g2.2] at this;cases this
   ·subst h;rw [a1] at b1;obtain rfl:=gQ b1;exact b6.symm.trans a6
   have:=(uN hl i fo 6).2 ⟨j,w,h,b1,g2.1,b5.trans e2⟩;rw [g1.2] at this;cases this
  ·obtain⟨y,hy,e1,e2⟩:=(sJ hl fo 6).1 h6;exact⟨_,⟨y,hy,rfl⟩,e1,e2⟩
  ·obtain⟨y,hy,e1,e2⟩:=(sJ hl fo 2).1 h2;exact⟨_,⟨y,hy,rfl⟩,e1,e2⟩
  ·rintro _ ⟨x,hx,rfl⟩ e;obtain⟨i,z,a1,a2,a3,a4,a5,a6⟩:=uD hl hx;have:=h3 i z a2;simp only [KX,a3,a4,a5,show yF x.fo=true from e,Bool.not_false,Bool.true_and,Bool.or_eq_false_iff,decide_eq_false_iff_not] at this;exact this
  ·rintro _ _ ⟨x,hx,rfl⟩ ⟨y,hy,rfl⟩ e1 e2 e3;obtain⟨i,z,a1,a2,a3,a4,a5,a6⟩:=uD hl hx;obtain⟨j,w,b1,b2,b3,b4,b5,b6⟩:=uD hl hy
   have t1:(decide (x.r.ty=5)||decide (x.r.ty=39))=true:=by
    rcases e1 with e|e
    ·rw [show x.r.ty=5 from e];rfl
    rw [show x.r.ty=39 from e];rfl
   have t2:(decide (y.r.ty=5)||decide (y.r.ty=39))=true:=by rw [show y.r.ty=x.r.ty from e3];exact t1
   have g1:=h4 i z a2;have g2:=h4 j w b2;simp only [MJ,a3,a5,a4,t1,Bool.not_false,Bool.true_and] at g1;simp only [MJ,b3,b5,b4,t2,Bool.not_false,Bool.true_and] at g2;show y.dt=x.dt
   rcases Nat.lt_trichotomy i j with h|h|h
   ·have:=(uN hl j y.fo y.r.ty).2 ⟨i,z,h,a1,a4.trans (show x.fo=y.fo from e2.symm),a5.trans (show x.r.ty=y.r.ty from e3.symm)⟩;rw [g2] at this;cases this
   ·subst h;rw [a1] at b1;obtain rfl:=gQ b1;exact b6.symm.trans a6
   have:=(uN hl i x.fo x.r.ty).2 ⟨j,w,h,b1,b4.trans e2,b5.trans e3⟩;rw [g1] at this;cases this
  ·rintro _ _ ⟨x,hx,rfl⟩ ⟨y,hy,rfl⟩ e1 e2;obtain⟨i,z,a1,a2,a3,a4,a5,a6⟩:=uD hl hx;have:=h5 i z a2;have hh:=(sJ hl x.fo 5).2 ⟨y,hy,e1,e2⟩;simp only [KG,a3,a4,a5,hh,Bool.not_false,Bool.true_and,Bool.and_true,Bool.and_eq_false_iff,decide_eq_false_iff_not,ne_eq,Decidable.not_not] at this;exact this
  rintro _ _ ⟨x,hx,rfl⟩ ⟨y,hy,rfl⟩ e1 e2;obtain⟨i,z,a1,a2,a3,a4,a5,a6⟩:=uD hl hx;obtain⟨j,w,b1,b2,b3,b4,b5,b6⟩:=uD hl hy;have:=h7 i z a2;rw [PQ,a3,Bool.not_false,Bool.true_and,List.any_eq_false] at this;have:=this w (bP b2);simp only [Sn,b3,b5,b4,a4,show y.r.ty=39 from e1,Bool.not_false,Bool.true_and,decide_true,Bool.and_eq_true,decide_eq_true_eq,not_and,Bool.not_eq_true] at this;exact this e2
 intro h;have hk:∀ {x:It},x∈l->NS l (QH x):=fun {x} hx=>⟨x,hx,rfl⟩
 refine⟨fun x hx y hy e1 e2=>h.mix _ _ (hk hx) (hk hy) e1 e2,?_,?_,?_,?_,?_,?_,?_⟩
 ·intro i x hx;obtain⟨y,hy,rfl⟩:=YI hx;have hym:=bP hy
  cases hd:jI (l.take i) y with
  |true=>simp [EA,iQ]
  |false=>
   by_cases e6:y.r.ty=6
   ·have lT:fH ((zB l).take i) fo 6=false:=by
     cases hh:fH ((zB l).take i) fo 6
     ·rfl
     obtain⟨j,w,hj,hw,e1,e2⟩:=(uN hl i fo 6).1 hh;have:=Ri (x:=y) hj hw (e1.trans (h.soa _ (hk hym) e6).symm) (e2.trans e6.symm) (h.aRu _ _ (hk hym) (hk (bP hw)) e6 e2);rw [hd] at this;cases this
    simp [EA,iQ,lT,show y.fo=fo from h.soa _ (hk hym) e6]
   simp [EA,iQ,e6]
 ·obtain⟨_,⟨x,hx,rfl⟩,e1,e2⟩:=h.has6;exact(sJ hl fo 6).2 ⟨x,hx,e1,e2⟩
 ·obtain⟨_,⟨x,hx,rfl⟩,e1,e2⟩:=h.has2;exact(sJ hl fo 2).2 ⟨x,hx,e1,e2⟩
 ·intro i x hx;obtain⟨y,hy,rfl⟩:=YI hx;have hym:=bP hy;cases hs:yF y.fo
  ·simp [KX,iQ,hs]
  obtain⟨e1,e2⟩:=h.star _ (hk hym) hs;have e1':y.r.ty≠2:=e1;have e2':y.r.ty≠39:=e2;simp [KX,iQ,e1',e2']
 ·intro i x hx;obtain⟨y,hy,rfl⟩:=YI hx;have hym:=bP hy
  cases hd:jI (l.take i) y with
  |true=>simp [MJ,iQ]
  |false=>
   by_cases e5:y.r.ty=5∨y.r.ty=39
   ·have lT:fH ((zB l).take i) y.fo y.r.ty=false:=by
     cases hh:fH ((zB l).take i) y.fo y.r.ty
     ·rfl
     obtain⟨j,w,hj,hw,e1,e2⟩:=(uN hl i y.fo y.r.ty).1 hh;have:=Ri (x:=y) hj hw e1 e2 (h.one _ _ (hk hym) (hk (bP hw)) e5 e1 e2);rw [hd] at this;cases this
    simp [MJ,iQ,lT]
   have e5a:y.r.ty≠5:=fun e=>e5 (.inl e)
   have e5b:y.r.ty≠39:=fun e=>e5 (.inr e)
   simp [MJ,iQ,e5a,e5b]
 ·intro i x hx;obtain⟨y,hy,rfl⟩:=YI hx;have hym:=bP hy;cases hh:fH (zB l) y.fo 5
  ·simp [KG,iQ,hh]
  obtain⟨w,hw,e1,e2⟩:=(sJ hl y.fo 5).1 hh
  rcases h.ali _ _ (hk hym) (hk hw) e1 e2 with e|e
  ·simp [KG,iQ,show y.r.ty=5 from e]
  simp [KG,iQ,show y.r.ty=47 from e]
 intro i x hx;obtain⟨y,hy,rfl⟩:=YI hx;have hym:=bP hy;rw [PQ]
 have:((zB l).any fun w=>Sn (iQ (jI (l.take i) y) y) w)=false:=by
  rw [List.any_eq_false];intro w hw;obtain⟨j,hj⟩:=List.getElem?_of_mem hw;obtain⟨v,hv,rfl⟩:=YI hj;intro hb;simp only [Sn,iQ,Bool.and_eq_true] at hb;obtain⟨⟨⟨_,e1⟩,e2⟩,e3⟩:=hb;have:=h.bel _ _ (hk hym) (hk (bP hv)) (of_decide_eq_true e1) (of_decide_eq_true e2);simp only [QH] at this;rw [this] at e3;cases e3
 rw [this,Bool.and_false]
abbrev Ne:Type:=List ByteArray×Bool
theorem aH7{l jQ:List It}:∀ (k:Nat),∀ s∈kW l jQ k,s.da≠[]
 |0,s,hs=>by cases hs
 |k+1,s,hs=>by
  have ih:=aH7 (l:=l) (jQ:=jQ) k;rw [kW] at hs
  cases hx:jQ[k]? with
  |none=>rw [hx] at hs;exact ih s hs
  |some x=>
   rw [hx] at hs;simp only at hs
   split at hs
   ·rcases jS hs with h|h
    ·exact ih s h
    rw [List.mem_singleton.1 h];simp
   rw [MV] at hs
   cases hl:(kW l jQ k).getLast? with
   |none=>rw [hl] at hs;cases hs
   |some s0=>
    rw [hl] at hs
    rcases jS hs with h|h
    ·exact ih s ((List.dropLast_sublist _).subset h)
    rw [List.mem_singleton.1 h];simp
theorem aRv{xs:List Rr}{x:It}(h:x∈bD xs):x.r∈xs∧x.fo=Nm.cZ x.r.own:=by
 obtain⟨i,hi⟩:=List.getElem?_of_mem h
 cases hx:xs[i]? with
 |none=>
  have h1:=(dK hi).1;rw [Ih] at h1;rw [List.getElem?_eq_none_iff] at hx
  omega
 |some r=>
  have h2:=KR hx;rw [hi] at h2;obtain rfl:=gQ h2;exact⟨bP hx,rfl⟩
theorem aNv{l:List It}{x:It}(h:x∈l):∃ y∈l,nW l x.fo=y.r.own:=by
 rw [nW]
 cases e:l.find? (fun y=>decide (y.fo=x.fo)) with
 |some y=>exact⟨y,List.mem_of_find?_eq_some e,rfl⟩
 |none=>
  have:=List.find?_eq_none.1 e x h;simp at this
def ZS(s:Sz):Prop:=s.own.size<=1000∧∀ d∈s.da,d.size<=3200
theorem aNw{l jQ:List It}(hs:∀ x∈jQ,x∈l)(hl:∀ x∈l,ZR x.r):∀ (k:Nat),k<=jQ.length->∀ s∈kW l jQ k,ZS s:=by
 intro k
 induction k with
 |zero=>intro _ s h;simp [kW] at h
 |succ k ih=>
  intro hk;have ih':=ih (by omega);obtain⟨x,hx⟩:∃ x,jQ[k]? =some x:=⟨_,bY (by omega)⟩;have DZ:=hs x (bP hx)
  cases hn:gL jQ k x with
  |true=>
   rw [nX hx hn];intro s h
   rcases jS h with h|h
   ·exact ih' s h
   simp at h;subst h;obtain⟨y,hy,e⟩:=aNv DZ;refine⟨by show(nW l x.fo).size<=1000;rw [e];exact(hl y hy).1,fun d hd=>?_⟩;simp at hd;subst hd
   exact(hl x DZ).2
  |false=>
   have Su:0<k:=by
    rcases Nat.eq_zero_or_pos k with h|h
    ·subst h;simp [gL] at hn
    exact h
   obtain⟨qs,s,e⟩:=vZ (l:=l) (jQ:=jQ) k Su (by omega);rw [sH hx hn e];rw [e] at ih';intro t ht
   rcases jS ht with h|h
   ·exact ih' t (List.mem_append.2 (.inl h))
   simp at h;subst h;have h3:=ih' s (by simp);refine⟨h3.1,fun d hd=>?_⟩
   rcases jS hd with hd|hd
   ·exact h3.2 d hd
   simp at hd;subst hd;exact(hl x DZ).2
theorem aLc{xs:List Rr}{x:It}(h:x∈fK xs):x∈bD xs:=by
 rw [fK,EY] at h;have:=vX.1 h;exact(List.mem_filter.1 this).1
theorem aNx(xs:List Rr):(fK xs).length<=xs.length:=by
 rw [fK,EY,tK,xB];refine iL (List.length_filter_le _ _) ?_;rw [Ih];exact aN _
structure ZB (ps:List Zp) (N:Nat):Prop where
 one:∀ p∈ps,ZS p.1
 len:ps.length<=N
 cnt:qQ (ps.map (·.1))<=N
theorem aNy(N:Nat):ZB [] N:=⟨by simp,dO _,dO _⟩
theorem aH8{xs:List Rr}{ps:List Zp}{N:Nat}(h:∀ r∈xs,ZR r)(hl:xs.length<=N)(hp:ps.map (·.1)=mW xs):ZB ps N:=by
 have h1:=aNx xs;have h2:=MW (l:=bD xs) (jQ:=fK xs) (fK xs).length (aN _);have h3:=congrArg List.length hp;rw [List.length_map] at h3;refine⟨fun p VQ=>?_,?_,?_⟩
 ·have hm:p.1∈mW xs:=by rw [<- hp];exact List.mem_map_of_mem VQ
  exact aNw (fun x hx=>aLc hx) (fun x hx=>h x.r (aRv hx).1) _ (aN _) _ hm
 ·rw [h3];exact iL h2.1 (by omega)
 rw [hp,mW,aBc _ _ _ (aN _)];omega
theorem Ij:∀ {l:List ByteArray} {M:Nat},(∀ d∈l,d.size<=M)->aI0 l<=M*l.length
 |[],M,_=>dO _
 |d::l,M,h=>by
  have h1:=Ij (l:=l) (fun x hx=>h x (List.mem_cons_of_mem _ hx));have h2:=h d (List.mem_cons_self ..);simp only [aI0,List.length_cons,Nat.mul_add,Nat.mul_one];omega
theorem Ik:∀ {ps:List Zp},(∀ p∈ps,ZS p.1)->rG ps<=1000*ps.length+3201*qQ (ps.map (·.1))
 |[],_=>dO _
 |p::ps,h=>by
  have h1:=Ik (ps:=ps) (fun x hx=>h x (List.mem_cons_of_mem _ hx));have h2:=h p (List.mem_cons_self ..);have h3:=Ij h2.2;have h4:=h2.1;simp only [rG,zs1,List.length_cons,List.map_cons,qQ,List.sum_cons,Nat.mul_add] at h1 ⊢;omega
theorem ZB.sum{ps:List Zp}{N:Nat}(h:ZB ps N)(hN:N<=240):rG ps<=1048576:=by
 have h1:=Ik h.one;have h2:=h.len;have h3:=h.cnt;omega
def Vz(ps:List Zp)(o:ByteArray):Prop:=∃ L,(eH L o).1=0∧ps.map (·.1)=mW L
theorem YJ{list:List Rr}{ap:ByteArray}{w w':World}{e:Ending}{C N:Nat}(h:QE list ap w e w')(hz:∀ r∈list,ZR r)(hl:list.length<=N)(ha:ap.size<=20)(hC:C<=w.heap.size):
 Below w.heap.size w w'∧∃ (o:ByteArray) (v:Value) (ps:List Zp) (c i:Int),e=.returned (.tuple #[.agg #[.string o,v],.int .i64 c,.int .i64 i])∧o.size<=20∧Hid (ZB ps N∧(c=0->(0<ps.length∧Vz ps ap)∧o=ap)∧((eH list ap).1=0->c=0))∧dH w' C v ps:=by
 obtain⟨hb,h1,h2⟩:=h;refine⟨hb,?_⟩
 by_cases hc:(eH list ap).1=0
 ·obtain⟨v,ps,rfl,hp,ho⟩:=h1 hc;exact⟨ap,v,ps,0,0,rfl,ha,⟨aH8 hz hl hp,fun _=>⟨⟨by have h3:=congrArg List.length hp;rw [List.length_map] at h3;rw [h3];exact aBa hc,list,hc,hp⟩,rfl⟩,fun _=>rfl⟩,ho.base hC⟩
 exact⟨_,_,[],_,_,h2 hc,by decide,⟨aNy N,fun h=>absurd h hc,fun h=>absurd h hc⟩,dH.nil _ _⟩
theorem aEg{l jQ:List It}:∀ (k:Nat),k<=jQ.length->∀ s∈kW l jQ k,0<s.da.length:=by
 intro k
 induction k with
 |zero=>intro _;simp [kW]
 |succ k ih=>
  intro hk;have h2:=ih (by omega);obtain⟨x,hx⟩:∃ x,jQ[k]? =some x:=⟨_,bY (by omega)⟩
  cases hn:gL jQ k x with
  |true=>
   rw [nX hx hn];intro s hs
   rcases jS hs with h|h
   ·exact h2 s h
   simp at h;subst h;simp
  |false=>
   have Su:0<k:=by
    rcases Nat.eq_zero_or_pos k with h|h
    ·subst h;simp [gL] at hn
    exact h
   obtain⟨qs,s,e⟩:=vZ (l:=l) (jQ:=jQ) k Su (by omega);rw [sH hx hn e];rw [e] at h2;intro t ht
   rcases jS ht with h|h
   ·exact h2 t (List.mem_append.2 (.inl h))
   simp at h;subst h;simp
theorem aH9{ps:List Zp}{o:ByteArray}(hz:pI ps o=true):∀ p∈ps,0<p.1.da.length:=by
 intro p hp;have hm:p.1∈ps.map (·.1):=List.mem_map.2 ⟨p,hp,rfl⟩;rw [<- (oC hz).2,mW] at hm;exact aEg _ (aN _) _ hm
