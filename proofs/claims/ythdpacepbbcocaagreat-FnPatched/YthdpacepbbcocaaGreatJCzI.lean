import Derived.Test.YthdpacepbbcocaaGreatJCzE
import Derived.Test.YthdpacepbbcocaaGreatJTzM
import Derived.Test.YthdpacepbbcocaaGreatJFsF
set_option linter.unusedVariables false
set_option maxRecDepth 100000
set_option maxHeartbeats 1600000
namespace Go.Proofs.YthdpacepbbcocaaGreat
open Go.RowKit
theorem sM(o:ByteArray)(v:Value)(ps:List Zp)(w:World)(h:gI w v ps)(hs:rG ps<=1048576)(hf:∀ p∈ps,p.1.own.size<=1048576∧∀ x∈p.1.da,x.size<=1048576)(ha:o.size<=1000000000):
 Calls Tryz.prog 21 #[.agg #[.string o,v]] w fun e w'=>e=.returned (.int .i64 (if pI ps o=true then 0 else 32))∧Below w.heap.size w w':=by
 have k0:=aH w #[.string o,v] 25;have b0:=(aK w.heap.size w).alloc (aN _) (.cells #[.string o,v] 25);have ho:=Im o v ps _ (h.below b0) hs hf ha;obtain⟨va,vc,rfl⟩:∃ va vc,v=.slice va ps.length vc:=by obtain⟨⟨_,a,c,e,_⟩,_⟩:=h;exact⟨a,c,e⟩
 have r0:=fun i=>aA k0 i
 obtain⟨CZ,hCZ⟩:∃ CZ:Int,CZ=if pI ps o=true then 0 else 32:=⟨_,rfl⟩
 rw [<- hCZ];have Zv:=Nm.aF hCZ;clear h hf hs hCZ;go_enter Tryz.func21,Tryz.ntmps21;go_wp2_with fail
 refine ho.mono ?_;rintro e w1 ⟨b1,⟨hz,rfl⟩|⟨hz,bb,lv,th,ys,aa,ac,fC,rv,os,kv,ks,B,rfl,hP⟩⟩
 ·have hC:CZ=32:=by rw [Zv.out,hz];rfl
  clear Zv hz ho;subst hC;go_wp2;go_ret;exact⟨rfl,Nm.aC b0 b1⟩
 have hC:CZ=0:=by rw [Zv.out,hz];rfl
 clear Zv hz ho hP;subst hC;go_wp2;go_ret;exact⟨rfl,Nm.aC b0 b1⟩
theorem oF{L:List Rr}{aM:ByteArray}(h:∀ r∈L,mV r aM=0):∀ y∈L.map aQ,gB y:=by
 intro y hy;obtain⟨r,hr,rfl⟩:=lS hy;exact wH (QF (h r hr)).1
theorem lW{L:List Rr}{aM:ByteArray}:(eH L aM).1=0↔(Nm.split aM).isSome=true∧L.length<=500∧(∀ r∈L,mV r aM=0)∧Zq (NS (L.map aQ)) (Nm.cZ aM):=by
 constructor
 ·intro h;rw [eH] at h
  split at h
  ·simp at h
  rename_i h0
  split at h
  ·simp at h
  rename_i h1
  cases hb:gP aM L 0 with
  |some c=>rw [hb] at h;exact absurd h (NK _ _ c.1 c.2 hb)
  |none=>
   have ho:=xH _ _ hb;rw [hb] at h;simp only at h
   split at h
   ·simp at h
   rename_i h2
   split at h
   ·rename_i h3;exact absurd h h3
   rename_i h3
   have Sg:(Nm.split aM).isSome=true:=by
    cases hh:(Nm.split aM).isSome with
    |true=>rfl
    |false=>exact absurd hh h0
   exact⟨Sg,by omega,ho,(aBd (oF ho) _).1 ⟨by omega,by simpa [bD] using h3⟩⟩
 rintro⟨h0,h1,h2,h3⟩
 obtain⟨h4,h5⟩:=(aBd (oF h2) _).2 h3;have hb:gP aM L 0=none:=PX L 0 (fun j x _ hx=>h2 x (bP hx));rw [eH,if_neg (by rw [h0];simp),if_neg (by omega),hb];simp only
 rw [if_neg (by omega),if_neg (by rw [bD,h5];simp)]
theorem Rl{L L':List Rr}(h:∀ r,r∈L'↔r∈L):NS (L'.map aQ)=NS (L.map aQ):=by
 funext k
 simp only [NS,List.mem_map,eq_iff_iff];constructor
 ·rintro⟨_,⟨r,hr,rfl⟩,e⟩
  exact⟨_,⟨r,(h r).1 hr,rfl⟩,e⟩
 rintro⟨_,⟨r,hr,rfl⟩,e⟩
 exact⟨_,⟨r,(h r).2 hr,rfl⟩,e⟩
theorem aEi{L L':List Rr}{aM:ByteArray}(h:L'.Perm L):(eH L' aM).1=0↔(eH L aM).1=0:=by
 rw [lW,lW,Rl (fun r=>h.mem_iff),h.length_eq];constructor
 ·rintro⟨h1,h2,h3,h4⟩
  exact⟨h1,h2,fun r hr=>h3 r (h.mem_iff.2 hr),h4⟩
 rintro⟨h1,h2,h3,h4⟩
 exact⟨h1,h2,fun r hr=>h3 r (h.mem_iff.1 hr),h4⟩
def BfK(a b:Ky):Prop:=(a.fo=b.fo∧a.ty=b.ty∧Nm.iD a.dt.data.toList b.dt.data.toList<0)∨(a.fo=b.fo∧a.ty<b.ty)∨(Nm.rU a.fo b.fo<0)
theorem sO(a b:It):Bf a b↔BfK (QH a) (QH b):=FK a b
def itK(k:Ky):It:=⟨⟨k.fo,k.ty,1,k.tt,k.dt⟩,k.fo,k.dt,false⟩
theorem CE(a:Ky):¬BfK a a:=fun h=>QB (itK a) ((sO _ _).2 h)
theorem aEj(a b c:Ky)(h1:BfK a b)(h2:BfK b c):BfK a c:=(sO (itK a) (itK c)).1 (FL ((sO (itK a) (itK b)).2 h1) ((sO (itK b) (itK c)).2 h2))
theorem Zw{L:List Rr}(hl:∀ y∈L.map aQ,gB y):(fK L).Pairwise Bf:=Qm _ _ (by omega) (aA2 hl)
theorem vR{L:List Rr}(hl:∀ y∈L.map aQ,gB y){x:It}(h:x∈fK L):x∈L.map aQ:=by
 rw [fK,EY] at h;obtain⟨i,hF⟩:=(Qn hl x).1 (vX.1 h);exact hF.mem
theorem Io{L:List Rr}{fo:ByteArray}(hl:∀ y∈L.map aQ,gB y)(hp:Zq (NS (L.map aQ)) fo)(k:Ky):k∈(fK L).map QH↔NS (L.map aQ) k:=by
 constructor
 ·intro h;obtain⟨x,hx,rfl⟩:=lS h;exact⟨x,vR hl hx,rfl⟩
 rintro⟨x,hx,rfl⟩
 obtain⟨i,z,a1,a2,a3,a4,a5,a6⟩:=uD hl hx;have ht:=hp.mix _ _ ⟨x,hx,rfl⟩ ⟨z,bP a1,rfl⟩ a4 a5;refine List.mem_map.2 ⟨z,?_,?_⟩
 ·rw [fK,EY];refine vX.2 (List.mem_filter.2 ⟨bP a2,by rw [a3];rfl⟩)
 simp only [QH,a4,a5,a6] at ht ⊢;rw [ht]
theorem aId{L L':List Rr}{fo:ByteArray}(hl:∀ y∈L.map aQ,gB y)(Es:∀ y∈L'.map aQ,gB y)(hp:Zq (NS (L.map aQ)) fo)(hk:NS (L'.map aQ)=NS (L.map aQ)):(fK L').map QH=(fK L).map QH:=by
 have pw:∀ {M:List Rr},(∀ y∈M.map aQ,gB y)->((fK M).map QH).Pairwise BfK:=fun {M} hM=>by
  rw [List.pairwise_map];exact(Zw hM).imp (fun {a b} h=>(sO a b).1 h)
 refine QC CE aEj _ _ (pw Es) (pw hl) fun k=>?_;rw [Io hl hp,Io (fo:=fo) Es (by rw [hk];exact hp),hk]
def TL(l:List It)(x:It):Rr:=⟨nW l x.fo,x.r.ty,1,x.r.tt,x.r.da⟩
theorem Rm{l jQ:List It}(hm:∀ x∈jQ,∀ y∈jQ,y.fo=x.fo->y.r.ty=x.r.ty->y.r.tt=x.r.tt):∀ (k:Nat),k<=jQ.length->(kW l jQ k).flatMap fA=(jQ.take k).map (TL l)∧(∀ y,0<k->jQ[k-1]? =some y->∃ qs s,kW l jQ k=qs++[s]∧s.own=nW l y.fo∧s.ty=y.r.ty∧s.tt=y.r.tt)
 |0,_=>⟨by simp [kW],fun y h=>by omega⟩
 |k+1,hk=>by
  obtain⟨ih1,ih2⟩:=Rm (l:=l) hm k (by omega);obtain⟨x,hx⟩:∃ x,jQ[k]? =some x:=⟨_,bY (by omega)⟩;have ht:jQ.take (k+1)=jQ.take k++[x]:=by rw [List.take_add_one,hx];rfl
  cases hn:gL jQ k x with
  |true=>
   rw [nX hx hn,ht,List.flatMap_append,ih1,List.map_append];refine⟨by simp [fA,TL],fun y _ hy=>?_⟩;rw [Nat.add_sub_cancel,hx] at hy;obtain rfl:=gQ hy
   exact⟨_,_,rfl,rfl,rfl,rfl⟩
  |false=>
   have Su:0<k:=by
    rcases Nat.eq_zero_or_pos k with h|h
    ·subst h;simp [gL] at hn
    exact h
   obtain⟨j,rfl⟩:∃ j,k=j+1:=⟨k-1,by omega⟩;obtain⟨y,hy⟩:∃ y,jQ[j]? =some y:=⟨_,bY (by omega)⟩;rw [gL] at hn;simp only [hy,Bool.or_eq_false_iff,decide_eq_false_iff_not,ne_eq,Decidable.not_not] at hn;obtain⟨qs,s,e,e1,e2,e3⟩:=ih2 y Su (by rw [Nat.add_sub_cancel];exact hy);have hn':gL jQ (j+1) x=false:=by rw [gL];simp [hy,hn.1,hn.2]
   have etx:x.r.tt=y.r.tt:=hm y (bP hy) x (bP hx) hn.1.symm hn.2.symm;have e1x:s.own=nW l x.fo:=by rw [e1,hn.1]
   have e2x:s.ty=x.r.ty:=by rw [e2,hn.2]
   have e3x:s.tt=x.r.tt:=by rw [e3,etx]
   rw [sH hx hn' e,ht,List.map_append,<- ih1,e];refine⟨?_,fun z _ hz=>?_⟩
   ·rw [List.flatMap_append,List.flatMap_append,List.append_assoc];congr 1;simp [fA,TL,e1x,e2x,e3x]
   rw [Nat.add_sub_cancel,hx] at hz;obtain rfl:=gQ hz;exact⟨_,_,rfl,e1x,e2x,e3x⟩
theorem NT{L:List Rr}{x:It}(hx:x∈L.map aQ):∃ r∈L,nW (bD L) x.fo=r.own∧Nm.cZ r.own=x.fo:=by
 rw [nW]
 cases e:(bD L).find? (fun y=>decide (y.fo=x.fo)) with
 |some y=>
  have h1:y.fo=x.fo:=by have h:=List.find?_some e;simpa using h
  obtain⟨i,hi⟩:=List.getElem?_of_mem (List.mem_of_find?_eq_some e);obtain⟨z,hz,rfl⟩:=YI hi;obtain⟨r,hr,rfl⟩:=lS (bP hz)
  exact⟨r,hr,rfl,h1⟩
 |none=>
  have h1:=List.find?_eq_none.1 e;obtain⟨i,hi⟩:=List.getElem?_of_mem hx;have h2:=h1 _ (bP (jJ hi));simp [iQ] at h2
def lL(L:List Rr):List Rr:=(fK L).map (TL (bD L))
theorem IG{L:List Rr}{aM:ByteArray}(h:(eH L aM).1=0):(mW L).flatMap fA=lL L:=by
 obtain⟨_,_,h2,h3⟩:=lW.1 h;have hl:=oF h2;have:=(Rm (l:=bD L) (jQ:=fK L) (fun x hx y hy e1 e2=>h3.mix _ _ ⟨x,vR hl hx,rfl⟩ ⟨y,vR hl hy,rfl⟩ e1 e2) (fK L).length (aN _)).1;rw [mW,this,List.take_length,lL]
theorem Ei{L:List Rr}{x:It}(hx:x∈L.map aQ):QH (aQ (TL (bD L) x))=QH x:=by
 obtain⟨r,hr,e1,e2⟩:=NT hx;obtain⟨q,hq,rfl⟩:=lS hx;simp only [QH,aQ,TL] at e1 e2 ⊢;rw [e1,e2]
theorem Zx(o:ByteArray)(v:Value)(ps:List Zp)(s:Sz)(d:ByteArray)(ds:List ByteArray)(w:World)(h:gI w v ps)(hl:ps.length<=1048576)(hf:∀ p∈ps,p.1.own.size<=1048576∧p.1.da.length<=1048576)(ho:o.size<=maxLen)(hs:rO (ps.map (·.1)) o 6=some s)(hd:s.da=d::ds)(Vu:s.da.length<=1048576):
 Calls Tryz.prog 19 #[.agg #[.string o,v]] w fun e w'=>e=.returned (.agg #[.string s.own,.int .i64 s.ty,.int .i64 1,.int .i64 s.tt,.string d])∧Below w.heap.size w w':=by
 obtain⟨va,vc,rfl⟩:∃ va vc,v=.slice va ps.length vc:=by obtain⟨⟨_,a,c,e,_⟩,_⟩:=h;exact⟨a,c,e⟩
 have b0:=(aK w.heap.size w).alloc (aN _) (.cells #[.string o,.slice va ps.length vc] 25);have b1:=b0.alloc b0.size (.cells #[.string ⟨#[]⟩,.int .i64 0,.int .i64 0,.int .i64 0,.string ⟨#[]⟩] 29);have k0:=aR (aH w #[.string o,.slice va ps.length vc] 25) (.cells #[.string ⟨#[]⟩,.int .i64 0,.int .i64 0,.int .i64 0,.string ⟨#[]⟩] 29);have kR:=aH (w.alloc (.cells #[.string o,.slice va ps.length vc] 25)) #[.string ⟨#[]⟩,.int .i64 0,.int .i64 0,.int .i64 0,.string ⟨#[]⟩] 29;rw [fV] at kR;have Dk:=FY o o 6 (.slice va ps.length vc) ps _ (h.below b1) hl hf ho;rw [hs] at Dk;have r0:=fun i=>aA k0 i
 have hre:=fun u W (hu:Nm.dX W u s.da)=>yM s u W hu Vu
 clear h hf hs;obtain⟨x,ty,tt,da⟩:=s;simp only at hd hre Vu ⊢
 subst hd;go_enter Tryz.func19,Tryz.ntmps19;go_wp2_with fail
 refine Dk.mono ?_;rintro e w1 ⟨u,rfl,mF,fF⟩;simp only [Option.getD_some,Option.isSome_some] at mF ⊢;obtain⟨ua,uc,eu⟩:=aT mF;subst eu;have mO:=Nm.aC b1 fF;have Sr:=aB kR fF;have b2:=(aK w1.heap.size w1).alloc (aN _) (.cells #[.string x,.int .i64 ty,.int .i64 tt,.slice ua (d::ds).length uc] 60);have kB:=aH w1 #[.string x,.int .i64 ty,.int .i64 tt,.slice ua (d::ds).length uc] 60;have rB:=fun i=>aA kB i
 have hse:=hre _ _ ((Nm.dX.aS mF).below b2);have vO:=Nm.aC mO b2;have CP:=aB Sr b2;clear Dk k0 r0 kR Sr b0 b1 fF hre mF mO;go_wp2_with fail
 refine hse.mono ?_;rintro e w3 ⟨t,rfl,hot,DN⟩;obtain⟨ta,tc,et⟩:=aT hot;subst et;have TB:=Nm.aC vO DN;have AP:=aB CP DN;have rz:=fun i=>aA AP i
 have fz:=fun i=>aG AP i
 have KT:(fA ⟨x,ty,tt,d::ds⟩)[0]? =some ⟨x,ty,1,tt,d⟩:=rfl;obtain⟨_,a9,c9,e9,_,_,De⟩:=bS.aS hot;simp only [iG] at e9;obtain⟨rfl,_,rfl⟩:=e9;obtain⟨gb,go,rfl,aL⟩:=De (by rw [qP];simp);obtain⟨d0,d1,d2,d3,d4⟩:=gT aL KT;simp only [Nat.zero_mul,Nat.add_zero] at d0 d1 d2 d3 d4;obtain⟨k5,RO⟩:=Ll (r:=⟨x,ty,1,tt,d⟩) AP TB (Nat.le_succ _);simp only at k5 RO
 have rk:=fun i=>aA k5 i
 have HB:=Nm.aF RO;have Ty:(0:Int)<(((fA ⟨x,ty,tt,d::ds⟩).length:Nat):Int):=by rw [qP];(simp;try omega)
 generalize (fA ⟨x,ty,tt,d::ds⟩).length=RL at*;clear hse CP AP k5 RO TB vO DN hot aL De kB rB b2 KT;go_wp2_with fail
 refine gD (v:=.agg #[.string x,.int .i64 ty,.int .i64 1,.int .i64 tt,.string d]) ?_ rfl ⟨rfl,HB.out⟩;simp [results,Tryz.f19,go_sem,rk]
