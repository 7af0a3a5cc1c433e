import Derived.Test.YthdpacepbbcocaaGreatJDzE
set_option linter.unusedVariables false
set_option maxRecDepth 100000
set_option maxHeartbeats 1600000
namespace Go.Proofs.YthdpacepbbcocaaGreat
open Go.RowKit
def pzL(ps:List Zp)(new:Rr)(del add:List Rr):List Rr:=[new]++eQ (dF (aD ps)) del++add
def pzC(ps:List Zp)(o:ByteArray)(old new:Rr)(del add:List Rr):Int:=
 if decide (500<del.length)||decide (500<add.length) then 32
 else if !KU (eX ps) old|| !cbB new old then 27
 else if !heB (dF (aD ps)) del||add.any xM then 7
 else(eH (pzL ps new del add) o).1
def Pz(C:Int)(L:List Rr)(o:ByteArray)(W:World)(B:Nat)(oz:ByteArray)(vz:Value):Prop:=
 (C=0->oz=o∧∃ ps:List Zp,ps.map (·.1)=mW L∧dH W B vz ps)∧(C≠0->oz=⟨#[]⟩∧vz=.slice none 0 0)
def aIg(C:Int)(L:List Rr)(o:ByteArray)(w:World)(e:Ending)(w':World):Prop:=
 ∃ oz vz,e=.returned (.tuple #[.agg #[.string oz,vz],.int .i64 C])∧Pz C L o w' w.heap.size oz vz∧Below w.heap.size w w'
section
variable {C:Int}{L:List Rr}{o oz:ByteArray}{W W':World}{B B':Nat}{vz:Value}
theorem Pz.below(h:Pz C L o W B oz vz)(hb:Below W.heap.size W W'):Pz C L o W' B oz vz:=
 ⟨fun h0=>by obtain⟨e,ps,h1,h2⟩:=h.1 h0;exact⟨e,ps,h1,h2.below hb⟩,h.2⟩
theorem Pz.base(h:Pz C L o W B oz vz)(hb:B'<=B):Pz C L o W B' oz vz:=
 ⟨fun h0=>by obtain⟨e,ps,h1,h2⟩:=h.1 h0;exact⟨e,ps,h1,h2.base hb⟩,h.2⟩
theorem Pz.far{g i:Nat}{y:Value}(h:Pz C L o W B oz vz)(hg:g<B):Pz C L o (W.setCell ⟨g,i,none⟩ y) B oz vz:=
 ⟨fun h0=>by obtain⟨e,ps,h1,h2⟩:=h.1 h0;exact⟨e,ps,h1,h2.far hg⟩,h.2⟩
theorem Pz.bad(hC:C≠0):Pz C L o W B ⟨#[]⟩ (.slice none 0 0):=⟨fun h=>absurd h hC,fun _=>⟨rfl,rfl⟩⟩
theorem Pz.sl(h:Pz C L o W B oz vz):∃ a n c,vz=.slice a n c:=by
 by_cases h0:C=0
 ·obtain⟨_,ps,_,h2⟩:=h.1 h0;obtain⟨a,c,e⟩:=aT h2.outer;exact⟨a,_,c,e⟩
 exact⟨_,_,_,(h.2 h0).2⟩
end
theorem aLf{W:World}{g:Nat}{r:Rr}(k:bG W g #[.string r.own,.int .i64 r.ty,.int .i64 r.cl,.int .i64 r.tt,.string r.da] 29):bS W (.slice (some ⟨g,0,none⟩) 1 1) 1 5 (bK [r]):=by
 refine⟨rfl,_,_,rfl,aN _,by unfold maxLen;decide,fun _=>⟨g,0,rfl,fun i x hx=>?_⟩⟩;rw [Nat.zero_add];refine(aA k i).trans ?_;simpa [bK,Ju] using hx
theorem aR1{list:List Rr}{aM:ByteArray}{w w':World}{e:Ending}(h:QE list aM w e w'):∃ oz vz ix,e=.returned (.tuple #[.agg #[.string oz,vz],.int .i64 (eH list aM).1,.int .i64 ix])∧Pz (eH list aM).1 list aM w' w.heap.size oz vz∧Below w.heap.size w w':=by
 obtain⟨hb,h0,h1⟩:=h
 by_cases hc:(eH list aM).1=0
 ·obtain⟨v,ps,e1,e2,e3⟩:=h0 hc;exact⟨aM,v,0,by rw [hc];exact e1,⟨fun _=>⟨rfl,ps,e2,e3⟩,fun h=>absurd hc h⟩,hb⟩
 exact⟨ByteArray.empty,.slice none 0 0,_,h1 hc,Pz.bad hc,hb⟩
theorem Zz(x y:Rr)(da aa:Option Addr)(n m dc ac:Nat)(w:World):
 Calls Tryz.prog 44 #[Sy x y (.slice da n dc) (.slice aa m ac)] w fun e w'=>e=.returned (.bool (decide (500<n)||decide (500<m)))∧Below w.heap.size w w':=by
 have hB:=(aK w.heap.size w).alloc (aN _) (.cells (JN x y (.slice da n dc) (.slice aa m ac)).toArray 32)
 by_cases h:500<n
 ·have i1:(500:Int)<(n:Int):=by omega
  have e:(decide (500<n)||decide (500<m))=true:=by simp [h]
  rw [e];go_enter Tryz.func44,Tryz.ntmps44;go_wp2;go_ret;exact⟨rfl,hB⟩
 have i1:¬(500:Int)<(n:Int):=by omega
 have e:(decide (500<n)||decide (500<m))=decide ((500:Int)<(m:Int)):=by
  rw [jU h,Bool.false_or];exact decide_eq_decide.2 (by omega)
 rw [e];go_enter Tryz.func44,Tryz.ntmps44;go_wp2;go_ret;exact⟨rfl,hB⟩
theorem IJ{r:Rr}{aM:ByteArray}:mV r aM=0↔(Nm.split r.own).isSome=true∧r.cl=1∧(decide (0<=r.tt)&&decide (r.tt<=2147483647))=true∧¬(mE r.ty=true∨r.ty<0∨65535<r.ty)∧bQ r.ty r.da=0∧fT r.own aM=true:=by
 rw [mV]
 by_cases h1:(Nm.split r.own).isSome=true
 ·rw [if_neg (by rw [h1];simp)]
  by_cases h2:r.cl=1
  ·rw [if_neg (by rw [h2];simp)]
   by_cases h3:(decide (0<=r.tt)&&decide (r.tt<=2147483647))=true
   ·rw [if_neg (by rw [h3];simp)]
    by_cases h4:mE r.ty=true∨r.ty<0∨65535<r.ty
    ·rw [if_pos h4];exact⟨fun h=>absurd h (by decide),fun h=>absurd h4 h.2.2.2.1⟩
    rw [if_neg h4]
    by_cases h5:bQ r.ty r.da=0
    ·rw [if_neg (by rw [h5];simp)]
     by_cases h6:fT r.own aM=true
     ·rw [if_neg (by rw [h6];simp)];exact⟨fun _=>⟨h1,h2,h3,h4,h5,h6⟩,fun _=>rfl⟩
     rw [if_pos (by simpa using h6)];exact⟨fun h=>absurd h (by decide),fun h=>absurd h.2.2.2.2.2 h6⟩
    rw [if_pos h5];exact⟨fun h=>absurd h (by decide),fun h=>absurd h.2.2.2.2.1 h5⟩
   rw [if_pos (by simpa using h3)];exact⟨fun h=>absurd h (by decide),fun h=>absurd h.2.2.1 h3⟩
  rw [if_pos h2];exact⟨fun h=>absurd h (by decide),fun h=>absurd h.2.1 h2⟩
 rw [if_pos (by simpa using h1)];exact⟨fun h=>absurd h (by decide),fun h=>absurd h.1 h1⟩
theorem aN5{a b:Ky}(h:BfK a b)(h1:a.fo=b.fo)(h2:a.ty=b.ty)(h3:a.dt=b.dt):False:=by
 rcases h with⟨_,_,h⟩|⟨_,h⟩|h
 ·rw [h3] at h;have:=(qW b.dt.data.toList b.dt.data.toList).2 rfl;omega
 ·omega
 rw [h1,IB] at h;omega
section
variable {L:List Rr}{aM:ByteArray}
theorem YO(h:(eH L aM).1=0):∀ r∈lL L,mV r aM=0:=by
 obtain⟨_,_,h2,_⟩:=lW.1 h;have hl:=oF h2;intro r hr;obtain⟨x,hx,rfl⟩:=lS hr;have hm:=vR hl hx;obtain⟨r1,rH,e1,_⟩:=NT hm;obtain⟨r0,OD,rfl⟩:=lS hm;obtain⟨a1,a2,a3,a4,a5,a6⟩:=IJ.1 (h2 r0 OD);obtain⟨b1,b2,b3,b4,b5,b6⟩:=IJ.1 (h2 r1 rH);refine IJ.2 ⟨?_,rfl,a3,a4,a5,?_⟩
 ·show(Nm.split (nW (bD L) (aQ r0).fo)).isSome=true
  rw [e1];exact b1
 show fT (nW (bD L) (aQ r0).fo) aM=true
 rw [e1];exact b6
theorem UL(hl:∀ y∈L.map aQ,gB y):((lL L).map aQ).map QH=(fK L).map QH:=by
 rw [lL,List.map_map,List.map_map];exact List.map_congr_left (fun x hx=>Ei (vR hl hx))
theorem aEk(h:(eH L aM).1=0):NS ((lL L).map aQ)=NS (L.map aQ):=by
 obtain⟨_,_,h2,h3⟩:=lW.1 h;have hl:=oF h2;funext k
 rw [<- propext (Io hl h3 k),<- UL hl];simp only [NS,eq_iff_iff];exact⟨fun⟨x,hx,e⟩=>List.mem_map.2 ⟨x,hx,e⟩,fun h=>by obtain⟨x,hx,e⟩:=lS h;exact⟨x,hx,e⟩⟩
theorem YP(L:List Rr):(lL L).length<=L.length:=by
 rw [lL,List.length_map,fK,EY,tK,xB];refine iL (List.length_filter_le _ _) ?_;rw [bD,iM,List.length_map];exact aN _
theorem aLg(h:(eH L aM).1=0):(eH (lL L) aM).1=0:=by
 obtain⟨h0,h1,h2,h3⟩:=lW.1 h;refine lW.2 ⟨h0,iL (YP L) h1,YO h,?_⟩;rw [aEk h];exact h3
theorem NV(h:(eH L aM).1=0):((lL L).map aQ).Pairwise Bf:=by
 obtain⟨_,_,h2,_⟩:=lW.1 h;have hl:=oF h2
 have:(((lL L).map aQ).map QH).Pairwise BfK:=by
  rw [UL hl,List.pairwise_map];exact(Zw hl).imp (fun {a b} h=>(sO a b).1 h)
 rw [List.pairwise_map] at this;exact this.imp (fun {a b} h=>(sO a b).2 h)
theorem Rp(h:(eH L aM).1=0):bD (lL L)=(lL L).map aQ:=by
 have hp:=NV h;have hg:=oF (YO h);rw [bD];generalize (lL L).map aQ=l at*;apply List.ext_getElem?;intro i
 cases hx:l[i]? with
 |none=>rw [List.getElem?_eq_none];rw [iM];exact List.getElem?_eq_none_iff.1 hx
 |some x=>
  have hd:jI (l.take i) x=false:=by
   cases hd:jI (l.take i) x
   ·rfl
   exfalso
   rw [jI,List.any_eq_true] at hd;obtain⟨y,hy,h⟩:=hd;simp only [lV,Bool.and_eq_true,decide_eq_true_eq] at h;obtain⟨m,hm,hy⟩:=vP hy;obtain⟨hi,e1⟩:=dK hx;obtain⟨hj,e2⟩:=dK hy;have hb:=List.pairwise_iff_getElem.1 hp m i hj hi hm;rw [e1,e2] at hb;exact aN5 ((sO _ _).1 hb) h.1.1 h.1.2 h.2
  rw [jJ hx,hd];have:=(hg x (bP hx)).2.2.2;simp [iQ]
theorem aIh(h:(eH L aM).1=0):fK (lL L)=(lL L).map aQ:=by
 have hg:=oF (YO h);refine QC QB (fun a b c h1 h2=>FL h1 h2) _ _ (Zw hg) (NV h) fun x=>?_;rw [fK,EY,vX,xB,Rp h,List.mem_filter];constructor
 ·exact fun h=>h.1
 exact fun hx=>⟨hx,by rw [(hg x hx).2.2.2];rfl⟩
theorem YQ(h:(eH L aM).1=0):mW (lL L)=mW L:=by
 obtain⟨_,_,h2,_⟩:=lW.1 h;have hl:=oF h2;rw [mW,mW,Rp h,aIh h];have hlen:((lL L).map aQ).length=(fK L).length:=by rw [List.length_map,lL,List.length_map]
 rw [hlen]
 have iT:∀ {k:Nat} {x:It},(fK L)[k]? =some x->((lL L).map aQ)[k]? =some (aQ (TL (bD L) x)):=fun {k x} hx=>by
  rw [lL,List.map_map,List.getElem?_map,hx];rfl
 have yN:∀ {x:It},x∈fK L->(aQ (TL (bD L) x)).fo=x.fo:=fun {x} hx=>congrArg Ky.fo (Ei (vR hl hx))
 have aU:∀ {x:It},x∈fK L->nW ((lL L).map aQ) x.fo=nW (bD L) x.fo:=fun {x} hx=>by
  rw [nW]
  cases e:((lL L).map aQ).find? (fun y=>decide (y.fo=x.fo)) with
  |some y=>
   have h1:y.fo=x.fo:=by have h:=List.find?_some e;simpa using h
   obtain⟨r,hr,rfl⟩:=lS (List.mem_of_find?_eq_some e);obtain⟨z,hz,rfl⟩:=lS hr;rw [yN hz] at h1;show nW (bD L) z.fo=_
   rw [h1]
  |none=>
   have h1:=List.find?_eq_none.1 e (aQ (TL (bD L) x)) (List.mem_map_of_mem (List.mem_map_of_mem hx));simp [yN hx] at h1
 have key:∀ k,k<=(fK L).length->kW ((lL L).map aQ) ((lL L).map aQ) k=kW (bD L) (fK L) k:=by
  intro k
  induction k with
  |zero=>intro _;rfl
  |succ k ih=>
   intro hk;have ih':=ih (by omega);obtain⟨x,hx⟩:∃ x,(fK L)[k]? =some x:=⟨_,bY (by omega)⟩;have hxm:=bP hx
   have hns:gL ((lL L).map aQ) k (aQ (TL (bD L) x))=gL (fK L) k x:=by
    cases k with
    |zero=>rfl
    |succ j=>
     obtain⟨y,hy⟩:∃ y,(fK L)[j]? =some y:=⟨_,bY (by omega)⟩;rw [gL,gL,iT hy,hy];simp only [yN hxm,yN (bP hy)];rfl
   cases hn:gL (fK L) k x with
   |true=>
    rw [nX (iT hx) (hns.trans hn),nX hx hn,ih',yN hxm,aU hxm]
    rfl
   |false=>
    have Su:0<k:=by
     rcases Nat.eq_zero_or_pos k with h|h
     ·subst h;simp [gL] at hn
     exact h
    obtain⟨qs,s,e⟩:=vZ (l:=bD L) (jQ:=fK L) k Su (by omega);rw [sH hx hn e,sH (iT hx) (hns.trans hn) (ih'.trans e)];rfl
 exact key _ (aN _)
theorem YR{ps:List Zp}(h:(eH L aM).1=0)(hp:ps.map (·.1)=mW L):aD ps=lL L∧pI ps aM=true:=by
 obtain⟨_,h1,_,_⟩:=lW.1 h
 have e:dI ps=lL L:=by
  rw [<- IG h,<- hp,dI,List.flatMap_map]
 have hn:(fK L).length<=L.length:=by have:=YP L;rwa [lL,List.length_map] at this
 have hz:aD ps=lL L:=by
  rw [aD,if_neg]
  ·exact e
  intro hc;have e1:=congrArg List.length hp;have e2:=congrArg List.length e;have e3:=(MW (l:=bD L) (jQ:=fK L) (fK L).length (aN _)).1;have e4:=YP L;rw [List.length_map,mW] at e1;rw [uK] at e2;omega
 refine⟨hz,?_⟩;rw [pI,hz,nD (aLg h),YQ h,<- hp,AJ.2 rfl];rfl
end
theorem YS{α β:Type}(f:α->β):∀ (l1 l2:List α),l1.map f=l2.map f->(∀ x∈l1,∀ y∈l2,f x=f y->x=y)->l1=l2
 |[],[],_,_=>rfl
 |[],y::l2,h,_=>by simp at h
 |x::l1,[],h,_=>by simp at h
 |x::l1,y::l2,h,hi=>by
  simp only [List.map_cons,List.cons.injEq] at h;rw [hi x (List.mem_cons_self ..) y (List.mem_cons_self ..) h.1,YS f l1 l2 h.2 (fun a ha b hb=>hi a (List.mem_cons_of_mem _ ha) b (List.mem_cons_of_mem _ hb))]
theorem aIi{α β:Type}{R:β->β->Prop}(irr:∀ b,¬R b b){f:α->β}{l:List α}(h:(l.map f).Pairwise R):∀ x∈l,∀ y∈l,f x=f y->x=y:=by
 intro x hx y hy e;rw [List.pairwise_map] at h;obtain⟨i,hi⟩:=List.getElem?_of_mem hx;obtain⟨j,hj⟩:=List.getElem?_of_mem hy;obtain⟨KW,UA⟩:=dK hi;obtain⟨hj1,hj2⟩:=dK hj
 rcases Nat.lt_trichotomy i j with h1|h1|h1
 ·have:=List.pairwise_iff_getElem.1 h i j KW hj1 h1;rw [UA,hj2,e] at this;exact absurd this (irr _)
 ·subst h1;rw [hi] at hj;exact gQ hj
 have:=List.pairwise_iff_getElem.1 h j i hj1 KW h1;rw [UA,hj2,e] at this;exact absurd this (irr _)
theorem aIj{R L:List Rr}{aM:ByteArray}(h:(eH R aM).1=0)(hr:lL R=R)(hp:L.Perm R):(eH L aM).1=0∧mW L=mW R:=by
 have hL:=(aEi hp).2 h;refine⟨hL,?_⟩;obtain⟨_,_,h2,h3⟩:=lW.1 h;obtain⟨_,_,Sb,h3'⟩:=lW.1 hL;have hl:=oF h2;have Es:=oF Sb
 have yN:∀ r∈R,∀ s∈R,Nm.cZ r.own=Nm.cZ s.own->r.own=s.own:=by
  intro r rH s nJ e;have uR:=rH;have oI:=nJ;rw [<- hr] at uR oI;obtain⟨x,hx,ex⟩:=lS uR;obtain⟨y,hy,ey⟩:=lS oI;obtain⟨r1,_,a1,a2⟩:=NT (vR hl hx);obtain⟨s1,_,b1,b2⟩:=NT (vR hl hy);have e1:r.own=nW (bD R) x.fo:=by rw [<- ex];rfl
  have e2:s.own=nW (bD R) y.fo:=by rw [<- ey];rfl
  have e3:x.fo=y.fo:=by
   rw [<- a2,<- b2,<- a1,<- b1,<- e1,<- e2];exact e
  rw [e1,e2,e3]
 have xW:∀ r∈R,r.cl=1:=fun r rH=>(IJ.1 (h2 r rH)).2.1
 have hx:∀ x∈fK L,TL (bD L) x=x.r∧x.r∈R∧x=aQ x.r:=by
  intro x hxm;have hm:=vR Es hxm;obtain⟨r1,rH,e1,e2⟩:=NT hm;obtain⟨r0,OD,rfl⟩:=lS hm;have h0:=hp.mem_iff.1 OD;have h1:=hp.mem_iff.1 rH;refine⟨?_,h0,rfl⟩;have ho:r1.own=r0.own:=yN r1 h1 r0 h0 e2;rw [TL,e1,ho];have:=xW r0 h0;cases r0
  simp only [aQ] at this ⊢;rw [this]
 have e1:lL L=(fK L).map (·.r):=by
  rw [lL];exact List.map_congr_left (fun x hxm=>(hx x hxm).1)
 have key:(lL L).map (fun r=>QH (aQ r))=R.map (fun r=>QH (aQ r)):=by
  have a1:=UL Es;have a2:=UL hl;rw [List.map_map] at a1 a2;have a3:=aId hl Es h3 (Rl (fun r=>hp.mem_iff));have a4:(lL L).map (QH∘aQ)=(lL R).map (QH∘aQ):=by rw [a1,a2,a3]
  rw [hr] at a4;exact a4
 have inj:∀ x∈R,∀ y∈R,QH (aQ x)=QH (aQ y)->x=y:=by
  have pw:(R.map (fun r=>QH (aQ r))).Pairwise BfK:=by
   have:=NV h;rw [hr,List.pairwise_map] at this;rw [List.pairwise_map];exact this.imp (fun {a b} h=>(sO _ _).1 h)
  exact aIi CE pw
 have e2:lL L=R:=YS _ _ _ key (fun x hxm y hy e=>by
  rw [e1] at hxm;obtain⟨z,hz,rfl⟩:=lS hxm
  exact inj _ (hx z hz).2.1 y hy e)
 rw [<- YQ hL,e2]
theorem aEl{ps:List Zp}{o:ByteArray}{L:List Rr}(hz:pI ps o=true)(hp:L.Perm (aD ps)):(eH L o).1=0∧mW L=ps.map (·.1):=by
 obtain⟨h1,h2⟩:=oC hz
 have h3:aD ps=dI ps:=by
  rw [aD,if_neg];intro hc;rw [yV hc] at hz;cases hz
 have h4:lL (aD ps)=aD ps:=by
  rw [<- IG h1,h2,h3,dI,List.flatMap_map]
 rw [<- h2];exact aIj h1 h4 hp
structure ZT (ps:List Zp) (N:Nat):Prop where
 one:∀ p∈ps,p.1.own.size<=2000∧∀ d∈p.1.da,d.size<=3200
 len:ps.length<=N
 cnt:qQ (ps.map (·.1))<=N
theorem aN6(N:Nat):ZT [] N:=⟨by simp,dO _,dO _⟩
theorem ZB.zt{ps:List Zp}{N:Nat}(h:ZB ps N):ZT ps N:=⟨fun p hp=>⟨by have:=(h.one p hp).1;omega,(h.one p hp).2⟩,h.len,h.cnt⟩
theorem ZT.tail{p:Zp}{ps:List Zp}{N:Nat}(h:ZT (p::ps) N):ZT ps N:=
 ⟨fun q hq=>h.one q (List.mem_cons_of_mem _ hq),by have:=h.len;simp at this;omega,by have:=h.cnt;simp only [qQ,List.map_cons,List.sum_cons] at this ⊢;omega⟩
theorem IK:∀ {ps:List Zp} {p:Zp},p∈ps->p.1.da.length<=qQ (ps.map (·.1))
 |q::ps,p,h=>by
  rcases List.mem_cons.1 h with rfl|h
  ·simp only [qQ,List.map_cons,List.sum_cons];omega
  have:=IK h;simp only [qQ,List.map_cons,List.sum_cons] at this ⊢;omega
theorem aBe:∀ {ps:List Zp} {j:Nat} {p q:Zp},ps[j]? =some p->q.1.da.length<=p.1.da.length->qQ ((ps.set j q).map (·.1))<=qQ (ps.map (·.1))
 |[],j,p,q,h,_=>by simp at h
 |r::ps,0,p,q,h,hq=>by
  simp at h;subst h;simp only [List.set_cons_zero,qQ,List.map_cons,List.sum_cons]
  omega
 |r::ps,j+1,p,q,h,hq=>by
  have:=aBe (ps:=ps) (j:=j) (p:=p) (q:=q) (by simpa using h) hq;simp only [List.set_cons_succ,qQ,List.map_cons,List.sum_cons] at this ⊢;omega
theorem ZT.set{ps:List Zp}{N j:Nat}{p q:Zp}(h:ZT ps N)(hp:ps[j]? =some p)(ho:q.1.own.size<=2000)(hd:∀ d∈q.1.da,d∈p.1.da)(hl:q.1.da.length<=p.1.da.length):ZT (ps.set j q) N:=by
 refine⟨fun r hr=>?_,by rw [List.length_set];exact h.len,iL (aBe hp hl) h.cnt⟩
 rcases List.mem_or_eq_of_mem_set hr with hr|rfl
 ·exact h.one r hr
 exact⟨ho,fun d hq=>(h.one p (bP hp)).2 d (hd d hq)⟩
theorem Rq:∀ {ps:List Zp},(∀ p∈ps,p.1.own.size<=2000∧∀ d∈p.1.da,d.size<=3200)->rG ps<=2000*ps.length+3201*qQ (ps.map (·.1))
 |[],_=>dO _
 |p::ps,h=>by
  have h1:=Rq (ps:=ps) (fun x hx=>h x (List.mem_cons_of_mem _ hx));have h2:=h p (List.mem_cons_self ..);have h3:=Ij h2.2;have h4:=h2.1;simp only [rG,zs1,List.length_cons,List.map_cons,qQ,List.sum_cons,Nat.mul_add] at h1 ⊢;omega
theorem ZT.zl{ps:List Zp}{N:Nat}(h:ZT ps N)(hN:N<=200):ZL ps:=by
 have h1:=Rq h.one;have h2:=h.len;have h3:=h.cnt;refine⟨by omega,by omega,fun p hp=>⟨by have:=(h.one p hp).1;omega,by have:=IK hp;omega,fun d hd=>by have:=(h.one p hp).2 d hd;omega⟩⟩
theorem ZB.aR2{ps:List Zp}{N:Nat}{p:Zp}(h:ZB ps N)(hp:p∈ps)(hN:N<=126):ZL (ps++[p]):=by
 have h0:∀ q∈ps++[p],ZS q.1:=fun q hq=>by
  rcases jS hq with hq|hq
  ·exact h.one q hq
  rw [List.mem_singleton.1 hq];exact h.one p hp
 have h1:=Ik h0;have h2:=h.len;have h3:=h.cnt;have h4:=IK hp;have h5:qQ ((ps++[p]).map (·.1))=qQ (ps.map (·.1))+p.1.da.length:=by rw [List.map_append,Ig];simp [qQ]
 have h6:(ps++[p]).length=ps.length+1:=by simp
 rw [h5,h6] at h1;refine⟨by omega,by omega,fun q hq=>⟨by have:=(h0 q hq).1;omega,?_,fun d hd=>by have:=(h0 q hq).2 d hd;omega⟩⟩
 rcases jS hq with hq|hq
 ·have:=IK hq;omega
 rw [List.mem_singleton.1 hq];omega
theorem Rs(o:ByteArray)(v:Value)(ps:List Zp)(x r:Rr)(w:World)(h:gI w v ps)(hl:ps.length<=1048576)(hf:∀ p∈ps,p.1.own.size<=1048576∧p.1.da.length<=1048576)(ho:o.size<=maxLen)(hx:x.own.size<=maxLen)(hr:r.own.size<=maxLen):
 Calls Tryz.prog 123 #[.agg #[.string o,v],.agg #[.string x.own,.int .i64 x.ty,.int .i64 x.cl,.int .i64 x.tt,.string x.da],.agg #[.string r.own,.int .i64 r.ty,.int .i64 r.cl,.int .i64 r.tt,.string r.da]] w fun e w'=>e=.returned (.bool (JL (ps.map (·.1)) o r x))∧Below w.heap.size w w':=by
 obtain⟨va,vc,rfl⟩:∃ va vc,v=.slice va ps.length vc:=by obtain⟨⟨_,a,c,e,_⟩,_⟩:=h;exact⟨a,c,e⟩
 obtain⟨xo,xt,xc,xu,xd⟩:=x;obtain⟨ro,rt,rc,ru,rd⟩:=r;simp only at hx hr ⊢
 obtain⟨R,HR⟩:∃ R,Hid (R=JL (ps.map (·.1)) o ⟨ro,rt,rc,ru,rd⟩ ⟨xo,xt,xc,xu,xd⟩):=⟨_,rfl⟩;rw [<- HR.out];have b0:=(aK w.heap.size w).alloc (aN _) (.cells #[.string o,.slice va ps.length vc] 25);have b1:=b0.alloc b0.size (.cells #[.string xo,.int .i64 xt,.int .i64 xc,.int .i64 xu,.string xd] 29);have b2:=b1.alloc b1.size (.cells #[.string ro,.int .i64 rt,.int .i64 rc,.int .i64 ru,.string rd] 29);have kz:=aR (aR (aH w #[.string o,.slice va ps.length vc] 25) (.cells #[.string xo,.int .i64 xt,.int .i64 xc,.int .i64 xu,.string xd] 29)) (.cells #[.string ro,.int .i64 rt,.int .i64 rc,.int .i64 ru,.string rd] 29);have kx:=aR (aH (w.alloc (.cells #[.string o,.slice va ps.length vc] 25)) #[.string xo,.int .i64 xt,.int .i64 xc,.int .i64 xu,.string xd] 29) (.cells #[.string ro,.int .i64 rt,.int .i64 rc,.int .i64 ru,.string rd] 29);have kr:=aH ((w.alloc (.cells #[.string o,.slice va ps.length vc] 25)).alloc (.cells #[.string xo,.int .i64 xt,.int .i64 xc,.int .i64 xu,.string xd] 29)) #[.string ro,.int .i64 rt,.int .i64 rc,.int .i64 ru,.string rd] 29;rw [fV] at kx;rw [fV,fV] at kr;obtain⟨WA,HWA⟩:∃ WA,Hid (WA=((w.alloc (.cells #[.string o,.slice va ps.length vc] 25)).alloc (.cells #[.string xo,.int .i64 xt,.int .i64 xc,.int .i64 xu,.string xd] 29)).alloc (.cells #[.string ro,.int .i64 rt,.int .i64 rc,.int .i64 ru,.string rd] 29)):=⟨_,rfl⟩
 have HUP:Hid (∀ W,Below WA.heap.size WA W->Below w.heap.size w W∧bG W w.heap.size #[.string o,.slice va ps.length vc] 25∧bG W (w.heap.size+1) #[.string xo,.int .i64 xt,.int .i64 xc,.int .i64 xu,.string xd] 29∧bG W (w.heap.size+1+1) #[.string ro,.int .i64 rt,.int .i64 rc,.int .i64 ru,.string rd] 29∧gI W (.slice va ps.length vc) ps):=by
  intro W hW;rw [HWA.out] at hW;exact⟨Nm.aC b2 hW,aB kz hW,aB kx hW,aB kr hW,(h.below b2).below hW⟩
 have bR:Below WA.heap.size WA (((w.alloc (.cells #[.string o,.slice va ps.length vc] 25)).alloc (.cells #[.string xo,.int .i64 xt,.int .i64 xc,.int .i64 xu,.string xd] 29)).alloc (.cells #[.string ro,.int .i64 rt,.int .i64 rc,.int .i64 ru,.string rd] 29)):=by rw [HWA.out];exact aK _ _
 have HSO:=Nm.aF (fun W=>gU xo o W hx ho);have HSR:=Nm.aF (fun W=>gU xo ro W hx hr);have HFR:=Nm.aF (fun W=>lK rt rd W);have HFX:=Nm.aF (fun W=>lK xt xd W);have HFI:=Nm.aF (fun W (hW:Below WA.heap.size WA W)=>FY o xo xt (.slice va ps.length vc) ps W (HUP.out W hW).2.2.2.2 hl hf hx);clear b0 b1 b2 kz kx kr h hf;go_enter Tryz.func123,Tryz.ntmps123;have Sd:=HUP.out _ bR;have rz:=fun i=>aA Sd.2.1 i
 have rx:=fun i=>aA Sd.2.2.1 i
 have rr:=fun i=>aA Sd.2.2.2.1 i
 go_wp2_with fail
 refine(HSO.out _).mono ?_;rintro e w1 ⟨rfl,b3⟩;have bR1:Below WA.heap.size WA w1:=Nm.aC bR b3;obtain⟨G,HG⟩:∃ G,Hid (G=(jB xo o&&(decide (xt=6)||decide (xt=2)))):=⟨_,rfl⟩;obtain⟨SB,HSB⟩:∃ SB,Hid (SB=jB xo o):=⟨_,rfl⟩;rw [<- HSB.out];have aLh:=HUP.out _ bR1;have rx1:=fun i=>aA aLh.2.2.1 i
 have HR2:Hid (R=if jB xo ro=false then true else if rc=255 then G||(!decide (rt=255)&& !decide (rt=xt)) else if decide (rt=xt)=false||decide (gK rt rd=gK xt xd)=false then true else decide (xt=6)||(G&&decide (((rO (ps.map (·.1)) xo xt).getD sz0).da.length=1))):=by
  show _=_
  rw [HR.out,HG.out,JL]
  cases rO (ps.map (·.1)) xo xt with
  |some s=>rfl
  |none=>rfl
 clear HR rz rx rr Sd bR b3 HSO;go_upto_region 2 with fail
 go_cut [8] from 16 to 26 (fun c wx=>c=.bool G∧wx=w1)
 case first=>
  clear HSR HFR HFX HFI HR2;cases SB
  ·obtain rfl:G=false:=by rw [HG.out,<- HSB.out];rfl
   go_wp2_with fail
   go_meet;exact⟨rfl,rfl⟩
  by_cases h6:xt=6
  ·subst h6;obtain rfl:G=true:=by rw [HG.out,<- HSB.out];rfl
   go_wp2_with fail
   go_meet;exact⟨rfl,rfl⟩
  have n6:(xt==6)=false:=by rw [dC];exact h6
  by_cases h2:xt=2
  ·subst h2;obtain rfl:G=true:=by rw [HG.out,<- HSB.out];rfl
   go_wp2_with fail
   go_meet;exact⟨rfl,rfl⟩
  have n2:(xt==2)=false:=by rw [dC];exact h2
  obtain rfl:G=false:=by rw [HG.out,<- HSB.out,jU h6,jU h2];rfl
  go_wp2_with fail
  go_meet;exact⟨rfl,rfl⟩
 obtain⟨rfl,rfl⟩:=hcut;clear HG;have Jk:=HSR.out wc;have kx1:=fun i=>aA aLh.2.2.1 i
 have kr1:=fun i=>aA aLh.2.2.2.1 i
 clear HSR rx1;cases hS:jB xo ro
 ·rw [hS] at Jk;have hR:R=true:=by rw [HR2.out,hS];rfl
  subst hR;clear HR2;go_wp2_with fail
  refine Jk.mono ?_;rintro e w2 ⟨rfl,b4⟩;have bw:=(HUP.out _ (Nm.aC bR1 b4)).1;go_wp2;go_ret;exact⟨rfl,bw⟩
 rw [hS] at Jk;have hR:R=if rc=255 then G||(!decide (rt=255)&& !decide (rt=xt)) else if decide (rt=xt)=false||decide (gK rt rd=gK xt xd)=false then true else decide (xt=6)||(G&&decide (((rO (ps.map (·.1)) xo xt).getD sz0).da.length=1)):=by rw [HR2.out,hS];rfl
 have HR3:=Nm.aF hR;clear HR2 hS hR;go_wp2_with fail
 refine Jk.mono ?_;rintro e w2 ⟨rfl,b4⟩;have bR2:=Nm.aC bR1 b4;have aAa:=HUP.out _ bR2;have sV:=fun i=>aA aAa.2.1 i
 have kx2:=fun i=>aA aAa.2.2.1 i
 have JE:=fun i=>aA aAa.2.2.2.1 i
 have vO:=aAa.1;clear Jk kx1 kr1 b4 aLh bR1
 by_cases hc:rc=255
 ·subst hc
  have HR4:Hid (R=(G||(!(rt==255)&& !(rt==xt)))):=by
   show _=_
   rw [HR3.out,if_pos rfl];congr 1
  clear HR3 HFR HFX HFI
  cases G with
  |true=>
   obtain rfl:R=true:=HR4.out;clear HR4;go_wp2;go_ret
   exact⟨rfl,vO⟩
  |false=>
   rw [Bool.false_or] at HR4
   cases h1:(rt==255) with
   |true=>
    rw [h1] at HR4;obtain rfl:R=false:=HR4.out;have n1:(rt != 255)=false:=by rw [bne,h1];rfl
    clear HR4;go_wp2;go_ret
    exact⟨rfl,vO⟩
   |false=>
    rw [h1] at HR4;have n1:(rt != 255)=true:=by rw [bne,h1];rfl
    have n2:(rt != xt)=R:=by rw [HR4.out,bne];rfl
    clear HR4;go_wp2;go_ret;exact⟨rfl,vO⟩
 have nc:(rc==255)=false:=by rw [dC];exact hc
 rw [if_neg hc] at HR3;clear hc
 by_cases ht:rt=xt
 ·subst ht;have e1:(rt != rt)=false:=by simp
  have HR4:Hid (R=if decide (gK rt rd=gK rt xd)=false then true else decide (rt=6)||(G&&decide (((rO (ps.map (·.1)) xo rt).getD sz0).da.length=1))):=by
   show _=_
   rw [HR3.out,nD rfl];simp
  clear HR3;have kS:Hid (∀ W,Below w2.heap.size w2 W->bG W (w.heap.size+1) #[.string xo,.int .i64 rt,.int .i64 xc,.int .i64 xu,.string xd] 29∧bG W (w.heap.size+1+1) #[.string ro,.int .i64 rt,.int .i64 rc,.int .i64 ru,.string rd] 29):=fun W hW=>⟨aB aAa.2.2.1 hW,aB aAa.2.2.2.1 hW⟩
  have ZA:=HFR.out;have IP:=HFX.out;generalize gK rt rd=FR at*;generalize gK rt xd=FX at*;obtain⟨E,HE⟩:∃ E,Hid (E= !(FR.toList==FX.toList)):=⟨_,rfl⟩;go_wp2_with fail
  refine kR (fun X=>bG X (w.heap.size+1) #[.string xo,.int .i64 rt,.int .i64 xc,.int .i64 xu,.string xd] 29∧bG X (w.heap.size+1+1) #[.string ro,.int .i64 rt,.int .i64 rc,.int .i64 ru,.string rd] 29) 1000 (kS.out _ (aK _ w2).drew) fun aO=>?_;clear sV kx2 JE;refine kP 0 rfl ?_;refine kP 1 rfl ?_;refine kP 2 rfl ?_;refine kP 3 rfl ?_;refine jK (i:=4) (v:=.bool false) rfl (by kernel_rfl) (by kernel_rfl) (by kernel_rfl) (by kernel_rfl) (fun _ _ _ h=>h) (Or.inl ⟨by kernel_rfl,?_⟩) (by assumption) ?_
  ·intro w vH;go_simp
  refine kP 5 rfl ?_;refine kP 6 rfl ?_;refine kP 7 rfl ?_;refine kP 8 rfl ?_;refine kP 9 rfl ?_;refine kP 11 rfl ?_;refine kP 12 rfl ?_;refine kP 13 rfl ?_;refine kP 14 rfl ?_;refine k1 10 rfl fun K hK=>?_
  go_simp;refine(ZA _).mono ?_;rintro e w3 ⟨rfl,b5⟩;have b5':=Nm.aC (aK _ w2).drew b5;go_wp2_with fail
  refine hK.out _ _ (kS.out _ b5') fun aO=>?_;clear hK K;refine k1 15 rfl fun K hK=>?_
  go_simp;refine(IP _).mono ?_;rintro e w4 ⟨rfl,b6⟩;have b6':=Nm.aC b5' b6;go_wp2_with fail
  refine hK.out _ _ (kS.out _ b6') fun aO=>?_;clear hK K;refine kP 16 rfl ?_;refine kP 17 rfl ?_;refine kN ?_;have xS:=Nm.aC bR2 b6';obtain⟨ML,Aq,hq3,hq4,hq5⟩:=HUP.out _ xS;have ZN:=fun i=>aA Aq i
  have kx4:=fun i=>aA hq3 i
  have hfi:=HFI.out _ xS;clear ZA IP b5 b6 b5' b6' aO kS HFR HFX HFI aAa bR2 vO;rw [ba_eq]
  by_cases hE:FR=FX
  ·have HR5:Hid (R=(decide (rt=6)||(G&&decide (((rO (ps.map (·.1)) xo rt).getD sz0).da.length=1)))):=by
    show _=_
    rw [HR4.out,nD hE];simp
   rw [nD hE];clear HR4 hE;go_simp;go_wp2_with fail
   refine hfi.mono ?_;rintro e w5 ⟨u,rfl,mF,b7⟩;generalize (rO (ps.map (·.1)) xo rt).getD sz0=fs at*;obtain⟨ua,uc,rfl⟩:=aT mF;have hfl:=HR5;generalize fs.da.length=dn at*;have RO:=(HUP.out _ (Nm.aC xS b7)).1;have kx5:=fun i=>aA (aR (HUP.out _ (Nm.aC xS b7)).2.2.1 (.cells #[.string fs.own,.int .i64 fs.ty,.int .i64 fs.tt,.slice ua dn uc] 60)) i
   have ks5:=fun i=>aA (aH w5 #[.string fs.own,.int .i64 fs.ty,.int .i64 fs.tt,.slice ua dn uc] 60) i
   have bw6:=RO.alloc RO.size (.cells #[.string fs.own,.int .i64 fs.ty,.int .i64 fs.tt,.slice ua dn uc] 60);have HBW:=Nm.aF bw6;clear hfi ZN kx4 xS HR5 mF b7 ML Aq hq3 hq4 hq5 RO bw6 HUP
   by_cases h6:rt=6
   ·subst h6;obtain rfl:R=true:=by rw [hfl.out];rfl
    clear hfl;go_wp2;go_ret;exact⟨rfl,HBW.out⟩
   have n6:(rt==6)=false:=by rw [dC];exact h6
   rw [jU h6,Bool.false_or] at hfl;clear h6;cases G
   ·obtain rfl:R=false:=hfl.out;clear hfl;go_wp2;go_ret;exact⟨rfl,HBW.out⟩
   rw [Bool.true_and] at hfl
   by_cases h1:dn=1
   ·subst h1;obtain rfl:R=true:=hfl.out;clear hfl;go_wp2;go_ret;exact⟨rfl,HBW.out⟩
   obtain rfl:R=false:=by rw [hfl.out,jU h1]
   have n1:((dn:Int)==1)=false:=by rw [dC];omega
   clear hfl h1;go_wp2;go_ret;exact⟨rfl,HBW.out⟩
  have hR:R=true:=by rw [HR4.out,jU hE];simp
  subst hR;rw [jU hE];clear HR4 hE hfi;go_simp;go_wp2;go_ret;exact⟨rfl,ML⟩
 have e1:(rt != xt)=true:=by simp [ht]
 have hR:R=true:=by rw [HR3.out,jU ht];rfl
 subst hR;have kS:=HUP.out _ (Nm.aC bR2 (aK _ w2).drew);have HB2:=Nm.aF kS.1;clear HR3 HFR HFX HFI ht;go_wp2_with fail
 refine kR (fun X=>bG X (w.heap.size+1) #[.string xo,.int .i64 xt,.int .i64 xc,.int .i64 xu,.string xd] 29∧bG X (w.heap.size+1+1) #[.string ro,.int .i64 rt,.int .i64 rc,.int .i64 ru,.string rd] 29) 1000 ⟨kS.2.2.1,kS.2.2.2.1⟩ fun aO=>?_;clear sV kx2 JE kS;refine kP 0 rfl ?_;refine kP 1 rfl ?_;refine kP 2 rfl ?_;refine kP 3 rfl ?_;refine jK (i:=4) (v:=.bool true) rfl (by kernel_rfl) (by kernel_rfl) (by kernel_rfl) (by kernel_rfl) (fun _ _ _ h=>h) (Or.inl ⟨by kernel_rfl,?_⟩) (by assumption) ?_
 ·intro w vH;go_simp
 refine kP 5 rfl ?_;refine kS 6 rfl ?_;refine kS 7 rfl ?_;refine kS 8 rfl ?_;refine kS 9 rfl ?_;refine kS 10 rfl ?_;refine kS 11 rfl ?_;refine kS 12 rfl ?_;refine kS 13 rfl ?_;refine kS 14 rfl ?_;refine kS 15 rfl ?_;refine kS 16 rfl ?_;refine kP 17 rfl ?_;refine kN ?_;clear aO;go_simp;go_wp2;go_ret;exact⟨rfl,HB2.out⟩
theorem Zq.less{S T:Ky->Prop}{fo:ByteArray}(h:Zq S fo)(hs:∀ k,T k->S k)(h6:∃ a,T a∧a.fo=fo∧a.ty=6)(h2:∃ a,T a∧a.fo=fo∧a.ty=2):Zq T fo:=
 ⟨fun a b ha hb=>h.mix a b (hs a ha) (hs b hb),fun a ha=>h.soa a (hs a ha),fun a b ha hb=>h.aRu a b (hs a ha) (hs b hb),h6,h2,fun a ha=>h.star a (hs a ha),fun a b ha hb=>h.one a b (hs a ha) (hs b hb),fun a b ha hb=>h.ali a b (hs a ha) (hs b hb),fun a b ha hb=>h.bel a b (hs a ha) (hs b hb)⟩
theorem aEm{L M:List Rr}{aM:ByteArray}(h:(eH L aM).1=0)(hs:∀ r∈M,r∈L)(hl:M.length<=L.length)(h6:∃ r∈M,(aQ r).fo=Nm.cZ aM∧r.ty=6)(h2:∃ r∈M,(aQ r).fo=Nm.cZ aM∧r.ty=2):(eH M aM).1=0:=by
 obtain⟨a1,a2,a3,a4⟩:=lW.1 h;refine lW.2 ⟨a1,by omega,fun r hr=>a3 r (hs r hr),a4.less ?_ ?_ ?_⟩
 ·rintro k ⟨x,hx,rfl⟩;obtain⟨r,hr,rfl⟩:=lS hx;exact⟨_,List.mem_map.2 ⟨r,hs r hr,rfl⟩,rfl⟩
 ·obtain⟨r,hr,e1,e2⟩:=h6;exact⟨_,⟨_,List.mem_map.2 ⟨r,hr,rfl⟩,rfl⟩,e1,e2⟩
 obtain⟨r,hr,e1,e2⟩:=h2;exact⟨_,⟨_,List.mem_map.2 ⟨r,hr,rfl⟩,rfl⟩,e1,e2⟩
