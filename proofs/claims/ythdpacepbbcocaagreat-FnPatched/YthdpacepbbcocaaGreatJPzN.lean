import Derived.Test.YthdpacepbbcocaaGreatAdZ
set_option linter.unusedVariables false
set_option maxRecDepth 100000
set_option maxHeartbeats 3200000
namespace Go.Proofs.YthdpacepbbcocaaGreat
def ptC(ps:List Zp)(o:ByteArray)(old new:Rr)(del add:List Rr):Int:=if pI ps o=true then pzC ps o old new del add else 32
open Go.RowKit
def Cq(p q:Sz):Prop:=q.own=p.own∧q.ty=p.ty∧q.da.length=p.da.length∧∀ d∈q.da,d.size<=3200
def NY(ps:List Zp)(o:ByteArray):Prop:=∃ s d ds,rO (ps.map (·.1)) o 6=some s∧s.da=d::ds∧d.size<=3200
def CqL(ps qs:List Zp)(j:Nat):Prop:=qs.length=j∧∀ (i:Nat) (p q:Zp),ps[i]? =some p->qs[i]? =some q->Cq p.1 q.1
theorem aLm(ps:List Zp):CqL ps [] 0:=⟨rfl,fun i p q _ h=>by simp at h⟩
theorem Ru{ps qs:List Zp}{j:Nat}{p q:Zp}(h:CqL ps qs j)(hp:ps[j]? =some p)(hq:Cq p.1 q.1):CqL ps (qs++[q]) (j+1):=by
 obtain⟨h1,h2⟩:=h;refine⟨by simp [h1],fun i x y hx hy=>?_⟩
 by_cases hi:i<qs.length
 ·rw [List.getElem?_append_left hi] at hy;exact h2 i x y hx hy
 have hl:=(dK hy).1;simp at hl;have e:i=qs.length:=by omega
 subst e;simp at hy;subst hy;rw [h1,hp] at hx;cases hx
 exact hq
theorem aN8{p q:Zp}{ps qs:List Zp}(h:CqL (p::ps) (q::qs) (ps.length+1)):Cq p.1 q.1∧CqL ps qs ps.length:=by
 obtain⟨h1,h2⟩:=h;refine⟨h2 0 p q rfl rfl,by simpa using h1,fun i x y hx hy=>h2 (i+1) x y (by simpa using hx) (by simpa using hy)⟩
theorem Iu:∀ {ps qs:List Zp},CqL ps qs ps.length->(∀ q∈qs,∃ p∈ps,Cq p.1 q.1)∧qQ (qs.map (·.1))=qQ (ps.map (·.1))∧∀ (o:ByteArray) (t:Int) (s:Sz),rO (ps.map (·.1)) o t=some s->∃ s',rO (qs.map (·.1)) o t=some s'∧Cq s s'
 |[],qs,h=>by
  have:qs=[]:=List.length_eq_zero_iff.1 h.1;subst this
  exact⟨by simp,rfl,by simp [rO]⟩
 |p::ps,[],h=>by have:=h.1;simp at this
 |p::ps,q::qs,h=>by
  obtain⟨h1,h2⟩:=aN8 h;obtain⟨h3,h4,h5⟩:=Iu h2;refine⟨fun x hx=>?_,?_,fun o t s hs=>?_⟩
  ·rcases List.mem_cons.1 hx with rfl|hx
   ·exact⟨p,List.mem_cons_self ..,h1⟩
   obtain⟨y,hy,hc⟩:=h3 x hx;exact⟨y,List.mem_cons_of_mem _ hy,hc⟩
  ·have:=h1.2.2.1;simp only [qQ,List.map_cons,List.sum_cons] at h4 ⊢;omega
  have e:(decide (q.1.ty=t)&&jB q.1.own o)=(decide (p.1.ty=t)&&jB p.1.own o):=by rw [h1.1,h1.2.1]
  simp only [rO,List.map_cons,List.find?_cons] at hs ⊢;rw [e]
  cases hb:(decide (p.1.ty=t)&&jB p.1.own o) with
  |true=>
   rw [hb] at hs;cases hs
   exact⟨_,rfl,h1⟩
  |false=>
   rw [hb] at hs;exact h5 o t s hs
theorem aN9{ps qs:List Zp}{M:Nat}(h:CqL ps qs ps.length)(hB:ZB ps M):ZB qs M:=by
 obtain⟨h1,h2,-⟩:=Iu h;refine⟨fun q hq=>?_,by rw [h.1];exact hB.len,by rw [h2];exact hB.cnt⟩;obtain⟨p,hp,hc⟩:=h1 q hq;exact⟨by rw [hc.1];exact(hB.one p hp).1,hc.2.2.2⟩
theorem aLn{ps qs:List Zp}{o:ByteArray}(h:CqL ps qs ps.length)(hs:NY ps o):NY qs o:=by
 obtain⟨s,d,ds,f1,f2,-⟩:=hs;obtain⟨s',g1,g2⟩:=(Iu h).2.2 o 6 s f1
 cases hd:s'.da with
 |nil=>have:=g2.2.2.1;rw [hd,f2] at this;simp at this
 |cons x xs=>exact⟨s',x,xs,g1,hd,g2.2.2.2 x (by rw [hd];simp)⟩
theorem YV{ps:List Zp}{o:ByteArray}{M:Nat}(hB:ZB ps M)(hz:pI ps o=true):NY ps o:=by
 obtain⟨s,ds,f1,f2,-,f4⟩:=Ip hz;obtain⟨p,hp,ep⟩:=lS f4;exact⟨s,_,ds,f1,f2,(hB.one p hp).2 _ (by rw [ep,f2];simp)⟩
theorem aLo(d:ByteArray)(n:Int)(hd:d.size<=3200):(FU d n).1.size<=3200:=by
 by_cases h1:bQ 6 d=0
 ·by_cases h2:n<0∨4294967295<n
  ·rw [Ee h1 h2];show(0:Nat)<=3200;omega
  rw [Ef h1 h2];have h4:(⟨(Ma n).toArray⟩:ByteArray).size=4:=rfl
  show(Re d n).size<=3200
  rw [Re,jV,jV,h4,ByteArray.size_extract,ByteArray.size_extract];omega
 rw [Rf h1];show(0:Nat)<=3200;omega
theorem aLp{p:Sz}(h:∀ d∈p.da,d.size<=3200):Cq p p:=⟨rfl,rfl,rfl,h⟩
theorem aOa{p:Sz}{d0 x:ByteArray}{ds:List ByteArray}(h:∀ d∈p.da,d.size<=3200)(hd:p.da=d0::ds)(hx:x.size<=3200):Cq p {p with da:=x::ds}:=
 ⟨rfl,rfl,by rw [hd];rfl,fun y hy=>by
  rcases List.mem_cons.1 hy with rfl|hy
  ·exact hx
  exact h y (by rw [hd];exact List.mem_cons_of_mem _ hy)⟩
theorem same_iff{a b:ByteArray}(ha:(Nm.split a).isSome=true)(hb:(Nm.split b).isSome=true):jB a b=true↔Nm.cZ a=Nm.cZ b:=by
 obtain⟨xs,hx⟩:=Option.isSome_iff_exists.1 ha;obtain⟨ys,hy⟩:=Option.isSome_iff_exists.1 hb;rw [Lv hx hy,decide_eq_true_iff];exact(zZ hx hy).symm
theorem aIp{ps:List Zp}{o:ByteArray}(hz:pI ps o=true):∀ x∈aD ps,∀ y∈aD ps,QH (aQ x)=QH (aQ y)->x=y:=by
 obtain⟨h1,h2⟩:=oC hz
 have h3:aD ps=dI ps:=by
  rw [aD,if_neg];intro hc;rw [yV hc] at hz;cases hz
 have h4:lL (aD ps)=aD ps:=by
  rw [<- IG h1,h2,h3,dI,List.flatMap_map]
 have pw:((aD ps).map (fun r=>QH (aQ r))).Pairwise BfK:=by
  have:=NV h1;rw [h4,List.pairwise_map] at this;rw [List.pairwise_map];exact this.imp (fun {a b} h=>(sO _ _).1 h)
 exact aIi CE pw
theorem aLq{ps:List Zp}{o:ByteArray}(hz:pI ps o=true):(aD ps).Nodup:=by
 obtain⟨h1,h2⟩:=oC hz
 have h3:aD ps=dI ps:=by
  rw [aD,if_neg];intro hc;rw [yV hc] at hz;cases hz
 have h4:lL (aD ps)=aD ps:=by
  rw [<- IG h1,h2,h3,dI,List.flatMap_map]
 have:=NV h1;rw [h4,List.pairwise_map] at this;refine List.Pairwise.imp ?_ this;intro a b h e;subst e;exact CE _ ((sO _ _).1 h)
theorem aLr{ps:List Zp}{o:ByteArray}{r:Rr}(hz:pI ps o=true):(eH ((aD ps).filter (JL (ps.map (·.1)) o r)) o).1=0:=by
 obtain⟨hb,h2⟩:=oC hz
 have h3:aD ps=dI ps:=by
  rw [aD,if_neg];intro hc;rw [yV hc] at hz;cases hz
 obtain⟨so,-,hg,hp⟩:=lW.1 hb;have nA:∀ x∈aD ps,(Nm.split x.own).isSome=true:=fun x hx=>(QF (hg x hx)).1
 have aR9:∀ x∈aD ps,jB x.own x.own=true:=fun x hx=>(same_iff (nA x hx) (nA x hx)).2 rfl
 refine aEm hb (fun x hx=>(List.mem_filter.1 hx).1) (List.length_filter_le _ _) ?_ ?_
 ·obtain⟨_,⟨_,hw,rfl⟩,f1,f2⟩:=hp.has6;obtain⟨x,hx,rfl⟩:=lS hw;have e1:Nm.cZ x.own=Nm.cZ o:=f1;have e2:x.ty=6:=f2;have hs:=(same_iff (nA x hx) so).2 e1;refine⟨x,List.mem_filter.2 ⟨hx,?_⟩,e1,e2⟩;rw [JL];split
  ·rfl
  split
  ·rw [hs,e2];rfl
  split
  ·rfl
  rw [e2];rfl
 obtain⟨_,⟨_,hw,rfl⟩,f1,f2⟩:=hp.has2;obtain⟨x,hx,rfl⟩:=lS hw;have e1:Nm.cZ x.own=Nm.cZ o:=f1;have e2:x.ty=2:=f2;have hs:=(same_iff (nA x hx) so).2 e1
 cases hk:JL (ps.map (·.1)) o r x with
 |true=>exact⟨x,List.mem_filter.2 ⟨hx,hk⟩,e1,e2⟩
 |false=>
  rw [JL] at hk
  split at hk
  ·cases hk
  split at hk
  ·rw [hs,e2] at hk;cases hk
  rename_i hc
  split at hk
  ·cases hk
  rename_i hd;rw [Bool.or_eq_true,not_or] at hd
  have hty:r.ty=x.ty:=by
   have:=hd.1;simpa using this
  have Jn:gK r.ty r.da=gK x.ty x.da:=by
   have:=hd.2;simpa using this
  rw [hs,e2] at hk;have VE:=hx;rw [h3,dI,List.mem_flatMap] at VE;obtain⟨p0,SS,KT⟩:=VE;obtain⟨d0,hd0,ex⟩:=lS KT
  have hfs:∃ s,rO (ps.map (·.1)) x.own 2=some s:=by
   cases hf:rO (ps.map (·.1)) x.own 2 with
   |some s=>exact⟨s,rfl⟩
   |none=>
    rw [rO,List.find?_eq_none] at hf;have:=hf p0.1 (List.mem_map.2 ⟨p0,SS,rfl⟩);have q1:p0.1.own=x.own:=by rw [<- ex]
    have q2:p0.1.ty=2:=by rw [<- e2,<- ex]
    rw [q1,q2,aR9 x hx] at this;simp at this
  obtain⟨s,hs0⟩:=hfs;rw [hs0] at hk;have hlen:s.da.length≠1:=by simpa using hk
  have xQ:=List.mem_of_find?_eq_some hs0;have hsq:=List.find?_some hs0;simp only [Bool.and_eq_true,decide_eq_true_eq] at hsq;obtain⟨p,hpm,eps⟩:=lS xQ
  have aSa:∀ d∈s.da,(⟨s.own,s.ty,1,s.tt,d⟩:Rr)∈aD ps:=fun d hd=>by
   rw [h3,dI,List.mem_flatMap];exact⟨p,hpm,List.mem_map.2 ⟨d,by rw [eps];exact hd,by rw [eps]⟩⟩
  have JY:s.da.Nodup:=by
   have h5:=aLq hz;rw [h3,dI] at h5;have h6:=(List.pairwise_flatMap.1 h5).1 p hpm;rw [fA,List.pairwise_map,eps] at h6;exact h6.imp (fun {a b} h e=>h (by rw [e]))
  have dQ:s.da≠[]:=by
   rw [<- h2] at xQ;exact aH7 _ s xQ
  obtain⟨d1,d2,l,aOb⟩:∃ d1 d2 l,s.da=d1::d2::l:=by
   cases hh:s.da with
   |nil=>exact absurd hh dQ
   |cons d1 l1=>
    cases l1 with
    |nil=>rw [hh] at hlen;simp at hlen
    |cons d2 l=>exact⟨d1,d2,l,rfl⟩
  have n12:d1≠d2:=by
   rw [aOb] at JY;exact(List.pairwise_cons.1 JY).1 d2 (by simp)
  have m1:=aSa d1 (by rw [aOb];simp);have m2:=aSa d2 (by rw [aOb];simp)
  have Zj:Nm.cZ s.own=Nm.cZ o:=by
   rw [<- e1];exact(same_iff (nA _ m1) (nA x hx)).1 hsq.2
  have key:∀ d,(⟨s.own,s.ty,1,s.tt,d⟩:Rr)∈aD ps->gK 2 d≠gK 2 x.da->∃ r_1∈(aD ps).filter (JL (ps.map (·.1)) o r),(aQ r_1).fo=Nm.cZ o∧r_1.ty=2:=by
   intro d hm Dk;refine⟨_,List.mem_filter.2 ⟨hm,?_⟩,Zj,hsq.1⟩;rw [JL];split
   ·rfl
   rw [if_pos];rw [Bool.or_eq_true];refine Or.inr ?_
   exact nD (jU (by
    show ¬gK r.ty r.da=gK s.ty d
    rw [Jn,hsq.1,e2]
    exact fun e=>Dk e.symm))
  by_cases hq:gK 2 d1=gK 2 x.da
  ·refine key d2 m2 fun e=>?_;have:=aIp hz _ m1 _ m2 (by simp only [QH,aQ,hsq.1];rw [hq,e]);exact n12 (by injection this)
  exact key d1 m1 hq
theorem Bv(o:ByteArray)(v:Value)(ps:List Zp)(r:Rr)(N:Nat)(w:World)(h:gI w v ps)(hB:ZB ps N)(hN:N<=200)(hz:pI ps o=true)(ho:o.size<=20)(hr:r.own.size<=1000):
 Calls Tryz.prog 88 #[.agg #[.string o,v],.agg #[.string r.own,.int .i64 r.ty,.int .i64 r.cl,.int .i64 r.tt,.string r.da]] w (NaP o v ps N w):=by
 obtain⟨i0,hi,iJ,fP,fZ⟩:=info_parts Tryz.KC;have hlen:=YU hB;have JB:=hB.Bu (by omega);have KS:=hB.sum (by omega);have hft:=hB.fit (by omega);obtain⟨KF,HKF⟩:∃ KF,Hid (KF=JL (ps.map (·.1)) o r):=⟨_,rfl⟩;have HKO:=Nm.aF (aLr (r:=r) hz);rw [<- HKF.out] at HKO;have HZR:=Nm.aF (Ir hB);obtain⟨va,vc,rfl⟩:∃ va vc,v=.slice va ps.length vc:=by obtain⟨⟨_,a,c,e,_⟩,_⟩:=h;exact⟨a,c,e⟩
 have HK:Hid (∀ (x:Rr) W,x∈aD ps->Below w.heap.size w W->Calls Tryz.prog 123 #[.agg #[.string o,.slice va ps.length vc],.agg #[.string x.own,.int .i64 x.ty,.int .i64 x.cl,.int .i64 x.tt,.string x.da],.agg #[.string r.own,.int .i64 r.ty,.int .i64 r.cl,.int .i64 r.tt,.string r.da]] W fun e w'=>e=.returned (.bool (KF x))∧Below W.heap.size W w'):=by
  intro x W hx hW;rw [HKF.out];exact Rs o _ ps x r W (h.below hW) JB (fun p hp=>⟨(hft p hp).1,(hft p hp).2.1⟩) (by unfold maxLen;omega) (by have:=(HZR.out x hx).1;unfold maxLen;omega) (by unfold maxLen;omega)
 have bA:=(aK w.heap.size w).alloc (aN _) (.cells #[.string o,.slice va ps.length vc] 25);have bB:=bA.alloc bA.size (.cells #[.string r.own,.int .i64 r.ty,.int .i64 r.cl,.int .i64 r.tt,.string r.da] 29);have bC:=bB.alloc bB.size (.cells #[.string ByteArray.empty,.slice none 0 0] 25);have kz:=aR (aR (aH w #[.string o,.slice va ps.length vc] 25) (.cells #[.string r.own,.int .i64 r.ty,.int .i64 r.cl,.int .i64 r.tt,.string r.da] 29)) (.cells #[.string ByteArray.empty,.slice none 0 0] 25);have kr:=aR (aH (w.alloc (.cells #[.string o,.slice va ps.length vc] 25)) #[.string r.own,.int .i64 r.ty,.int .i64 r.cl,.int .i64 r.tt,.string r.da] 29) (.cells #[.string ByteArray.empty,.slice none 0 0] 25);have q1:=aH ((w.alloc (.cells #[.string o,.slice va ps.length vc] 25)).alloc (.cells #[.string r.own,.int .i64 r.ty,.int .i64 r.cl,.int .i64 r.tt,.string r.da] 29)) #[.string ByteArray.empty,.slice none 0 0] 25;rw [fV] at kr;rw [fV,fV] at q1;have o0:=World.ownsRow_lit (base:=w.heap.size+3) (e:=29) (size:=5) (((w.alloc (.cells #[.string o,.slice va ps.length vc] 25)).alloc (.cells #[.string r.own,.int .i64 r.ty,.int .i64 r.cl,.int .i64 r.tt,.string r.da] 29)).alloc (.cells #[.string ByteArray.empty,.slice none 0 0] 25)) #[] 0 (by simp) (by decide) rfl;rw [fV,fV,fV] at o0;have b1:=bC.alloc bC.size (.cells #[] 29);have uC:=aR kz (.cells #[] 29);have kr1:=aR kr (.cells #[] 29);have Sr:=aR q1 (.cells #[] 29);have Jo:=jE o _ ps _ (h.below b1) KS JB;have r0:=fun i=>aA uC i
 clear bA bB bC kz kr q1 hft KS JB h hz hB;generalize aD ps=xs at*;go_enter Tryz.func88,Tryz.ntmps88;go_wp2_with (go_at_call 32;refine Jo.mono ?_;rintro e w1 ⟨u,rfl,mF,fF⟩)
 have o1:=own_below o0 fF;have mO:=Nm.aC b1 fF;have z1:=mO.size;have sV:=aB uC fF;have JE:=aB kr1 fF;have CP:=aB Sr fF;obtain⟨ba,bc,rfl⟩:=aT mF;clear o0 b1 uC kr1 Sr r0 Jo fF
 go_loopw [5,7] (fun vo i wr=>∃ (j:Nat),j<=xs.length∧i=.int .i64 (j:Int)∧wr.ownsRow (w.heap.size+3) 29 5 vo ((xs.take j).filter KF).length (bK ((xs.take j).filter KF))∧wr.ownsRow (w.heap.size+4) 29 5 (.slice ba xs.length bc) xs.length (bK xs)∧(∀ g,vo.ownBlock=some g->(Value.slice ba xs.length bc).ownBlock≠some g)∧Below w.heap.size w wr∧bG wr w.heap.size #[.string o,.slice va ps.length vc] 25∧bG wr (w.heap.size+1) #[.string r.own,.int .i64 r.ty,.int .i64 r.cl,.int .i64 r.tt,.string r.da] 29∧bG wr (w.heap.size+1+1) #[.string ByteArray.empty,.slice none 0 0] 25) (fun _ i _=>xs.length-(intOf i).toNat)
 case atStart=>
  refine⟨0,dO _,rfl,o1,by simpa using mF,fun g hg e=>?_,mO,sV,JE,CP⟩;have h2:=(mF.lt g e).1;simp [Value.ownBlock] at hg
  simp at h2;omega
 obtain⟨j,hj,rfl,oO,oY,pW,aJ,kz,kr,q1⟩:=hrel;clear o1 mF sV JE CP mO;have hwl:=aLl (K:=KF) xs j;have hBw:=aJ.size
 by_cases bV:j<xs.length
 ·obtain⟨x,hx⟩:∃ x,xs[j]? =some x:=⟨_,bY bV⟩;have hkp:=HK.out x;have hxm:=bP hx;obtain⟨_,ya,yc,hyv,aAw,aKc,hyc⟩:=bS.aS oY;simp only [iG] at hyv;obtain⟨rfl,_,rfl⟩:=hyv;obtain⟨b,off,rfl,aL⟩:=hyc (by omega)
  have HX:Hid (∀ W,Below wr.heap.size wr W->bG W w.heap.size #[.string o,.slice va ps.length vc] 25∧bG W (w.heap.size+1) #[.string r.own,.int .i64 r.ty,.int .i64 r.cl,.int .i64 r.tt,.string r.da] 29∧W.cell? ⟨b,off+j*5,none⟩=some (.string x.own)∧W.cell? ⟨b,off+j*5+1,none⟩=some (.int .i64 x.ty)∧W.cell? ⟨b,off+j*5+2,none⟩=some (.int .i64 x.cl)∧W.cell? ⟨b,off+j*5+3,none⟩=some (.int .i64 x.tt)∧W.cell? ⟨b,off+j*5+4,none⟩=some (.string x.da)):=by
   intro W hW;have put:∀ {i:Nat} {z:Value},wr.cell? ⟨b,off+i,none⟩=some z->W.cell? ⟨b,off+i,none⟩=some z:=fun h=>(hW.cell (eB wr _ h)).trans h
   exact⟨aB kz hW,aB kr hW,gT (fun i y hy=>put (aL i y hy)) hx⟩
  have i1:(0:Int)<=(j:Int):=by omega
  have i2:(j:Int)<(xs.length:Int):=by omega
  have hwj:IntKind.i64.wrap (j:Int)=(j:Int):=Go.wrap_small _ (by omega) (by omega);clear aL hyc;go_wp2_with fail
  refine kR (fun X=>Below wr.heap.size wr X) 1000 (aK _ wr).drew fun aO=>?_;refine jK (i:=0) (v:=?_) rfl (by kernel_rfl) (by kernel_rfl) (by kernel_rfl) (by kernel_rfl) (fun _ _ _ h=>h) (Or.inl ⟨by kernel_rfl,?_⟩) (by assumption) ?_;rotate_left 1
  ·(intro W pE;obtain⟨s1,s2,c0,c1,c2,c3,c4⟩:=HX.out W pE;have Sc:=(fun i=>aA s1 i);have OQ:=(fun i=>aA s2 i);go_simp;try (with_reducible rfl))
  refine jK (i:=1) (v:=?_) rfl (by kernel_rfl) (by kernel_rfl) (by kernel_rfl) (by kernel_rfl) (fun _ _ _ h=>h) (Or.inl ⟨by kernel_rfl,?_⟩) (by assumption) ?_;rotate_left 1
  ·(intro W pE;obtain⟨s1,s2,c0,c1,c2,c3,c4⟩:=HX.out W pE;have Sc:=(fun i=>aA s1 i);have OQ:=(fun i=>aA s2 i);go_simp;try (with_reducible rfl))
  refine jK (i:=2) (v:=?_) rfl (by kernel_rfl) (by kernel_rfl) (by kernel_rfl) (by kernel_rfl) (fun _ _ _ h=>h) (Or.inl ⟨by kernel_rfl,?_⟩) (by assumption) ?_;rotate_left 1
  ·(intro W pE;obtain⟨s1,s2,c0,c1,c2,c3,c4⟩:=HX.out W pE;have Sc:=(fun i=>aA s1 i);have OQ:=(fun i=>aA s2 i);go_simp;try (with_reducible rfl))
  refine jK (i:=3) (v:=?_) rfl (by kernel_rfl) (by kernel_rfl) (by kernel_rfl) (by kernel_rfl) (fun _ _ _ h=>h) (Or.inl ⟨by kernel_rfl,?_⟩) (by assumption) ?_;rotate_left 1
  ·(intro W pE;obtain⟨s1,s2,c0,c1,c2,c3,c4⟩:=HX.out W pE;have Sc:=(fun i=>aA s1 i);have OQ:=(fun i=>aA s2 i);go_simp;try (with_reducible rfl))
  refine jK (i:=4) (v:=?_) rfl (by kernel_rfl) (by kernel_rfl) (by kernel_rfl) (by kernel_rfl) (fun _ _ _ h=>h) (Or.inl ⟨by kernel_rfl,?_⟩) (by assumption) ?_;rotate_left 1
  ·(intro W pE;obtain⟨s1,s2,c0,c1,c2,c3,c4⟩:=HX.out W pE;have Sc:=(fun i=>aA s1 i);have OQ:=(fun i=>aA s2 i);go_simp;try (with_reducible rfl))
  refine jK (i:=5) (v:=?_) rfl (by kernel_rfl) (by kernel_rfl) (by kernel_rfl) (by kernel_rfl) (fun _ _ _ h=>h) (Or.inl ⟨by kernel_rfl,?_⟩) (by assumption) ?_;rotate_left 1
  ·(intro W pE;obtain⟨s1,s2,c0,c1,c2,c3,c4⟩:=HX.out W pE;have Sc:=(fun i=>aA s1 i);have OQ:=(fun i=>aA s2 i);go_simp;try (with_reducible rfl))
  refine k1 6 rfl fun K hK=>?_
  go_simp;refine(hkp _ hxm (Nm.aC aJ aO)).mono ?_;rintro e w2 ⟨rfl,b2⟩;have UJ:=Nm.aC aO b2;go_wp2_with fail
  refine hK.out _ _ UJ fun _=>?_;clear hK K;refine kN ?_;obtain⟨s1,s2,c0,c1,c2,c3,c4⟩:=HX.out _ UJ;have DN:=Nm.aC aJ UJ;have oO2:=own_below oO UJ;have oY2:=own_below oY UJ;have AP:=aB q1 UJ;have aT6:=DN.size;have hR2:=bU AP;have HP:=Nm.aF pW;clear aO hkp b2 UJ pW oO oY q1 HX kz kr aJ hBw;go_simp;cases hk:KF x
  ·have HO:=Nm.aF oO2;rw [<- aN7 hx hk] at HO;clear oO2 hx hk c0 c1 c2 c3 c4;go_wp2;go_roundw
   case rel=>exact⟨j+1,by omega,by go_num,HO.out,oY2,HP.out,DN,s1,s2,AP⟩
   simp [intOf];omega
  have HE:=Nm.aF (aLk hx hk);clear hx hk hxm;obtain⟨oa,oc,rfl⟩:=aT oO2;obtain⟨xo,ty,cl,tt,da⟩:=x;simp only at c0 c1 c2 c3 c4
  generalize (xs.take j).filter KF=WT at*;have kk:=Nm.aF (aV s1 (aV s2 AP));clear s1 s2 AP;go_wp2_with (at_builtin;refine wpList_append_own_at _ rfl (.tmp 27) (.tmp 32) 30 rfl (w.heap.size+3) 29 i0 _ 5 56 Tryz.underlying30 hi iJ fP fZ rfl (by decide) (.slice oa WT.length oc) WT.length (bK WT) rfl (own_below oO2 ((aK _ _).alloc (aN _) _)) ⟨w2.heap.size,0,none⟩ 1 1 [.string xo,.int .i64 ty,.int .i64 cl,.int .i64 tt,.string da] rfl rfl (dU _ _ _) (by intro u hu;simp at hu;rcases hu with rfl|rfl|rfl|rfl|rfl<;>rfl) (by unfold maxLen;omega) (by omega) (by simp;omega) ?_;intro ZP wa rF iF oP oQ)
  have o9:wa.ownsRow (w.heap.size+3) 29 5 ZP (WT++[(⟨xo,ty,cl,tt,da⟩:Rr)]).length (bK (WT++[(⟨xo,ty,cl,tt,da⟩:Rr)])):=by simpa [bK,Ju] using rF
  rw [<- HE.out] at o9;have qG:=(aK _ _).alloc (aN w2.heap.size) (.cells #[.string xo,.int .i64 ty,.int .i64 cl,.int .i64 tt,.string da] 29);have oOa:=own_below oO2 qG;obtain⟨oY3,WN⟩:=UM (own_below oY2 qG) HP.out iF (by simpa using oQ);have b4:Below w.heap.size w wa:=(DN.alloc aT6 _).grown iF (by simp;omega) (fun g hg=>iL (by omega) (oO2.lt g hg).1);have kz9:=aP (aB kk.out.1 qG) iF (bW oOa (aB kk.out.1 qG) (by decide));have kR9:=aP (aB kk.out.2.2 qG) iF (bW oOa (aB kk.out.2.2 qG) (by decide));have kr9:=aP (aB kk.out.2.1 qG) iF (fun e=>by have:=(oOa.lt _ e).1;omega);clear oQ oP iF oY2 oO2 rF c0 c1 c2 c3 c4 oOa qG;go_wp2;go_roundw
  case rel=>exact⟨j+1,by omega,by go_num,o9,oY3,WN,b4,kz9,kr9,kR9⟩
  simp [intOf];omega
 have nS:j=xs.length:=by omega
 subst nS;rw [List.take_length] at oO hwl;clear oY pW;obtain⟨oa,oc,rfl⟩:=aT oO;have aOc:∀ y∈xs.filter KF,ZR y:=fun y hy=>HZR.out y (List.mem_filter.1 hy).1
 have vY:=kH (.slice oa (xs.filter KF).length oc) (xs.filter KF) o wr (bS.aS oO) (by omega) (by unfold maxLen;omega) (fun y hy=>by have:=(aOc y hy).1;unfold maxLen;omega);have rz:=fun i=>aA kz i
 have HL:Hid ((xs.filter KF).length<=N):=by show _<=_;omega
 have HZ2:=Nm.aF aOc;clear oO aOc;generalize xs.filter KF=WT at*;go_wp2_with fail
 refine vY.mono ?_;rintro e w2 ⟨iE,h2,-⟩;obtain⟨v',ps',rfl,VQ,hz'⟩:=h2 HKO.out;obtain⟨za,zc,rfl⟩:=aT hz'.outer;have HB':=Nm.aF (aLj HKO.out VQ HZ2.out HL.out);have bA:=(aK w2.heap.size w2).alloc (aN _) (.cells #[.string o,.slice za ps'.length zc] 25);have kn:=aH w2 #[.string o,.slice za ps'.length zc] 25;have AP:=aB (aB q1 iE) bA;have zA:=(hz'.base hBw).below bA;have rn:=fun i=>aA kn i
 have fR:=fun i=>aG AP i
 have rR:=fun i=>aA AP i
 have kE:=aI (aI AP 0 (.string o)) 1 (.slice za ps'.length zc);have zE:=dH.dL (x:=.slice za ps'.length zc) (i:=1) (dH.dL (x:=.string o) (i:=0) zA AP (by decide) (by decide)) (aI AP 0 (.string o)) (by decide) (by decide);have bw:Below w.heap.size w _:=((Nm.aC (Nm.aC aJ iE) bA).setCell (p:=⟨w.heap.size+1+1,0,none⟩) (by show w.heap.size<=w.heap.size+1+1;omega) (.string o)).setCell (p:=⟨w.heap.size+1+1,1,none⟩) (by show w.heap.size<=w.heap.size+1+1;omega) (.slice za ps'.length zc);have rE:=fun i=>aA kE i
 have HE:=Nm.aF (aV zE bw);clear zE bw zA hz' VQ iE h2 q1 vY AP kn aJ;go_wp2;refine gD (v:=.agg #[.string o,.slice za ps'.length zc]) ?_ rfl ?_
 rotate_left
 ·exact⟨_,_,rfl,.inr HE.out.1,HB',HE.out.2⟩
 simp [results,Tryz.results88,go_sem,Result.andThen,rE]
theorem Rv{W:World}{b:Nat}{x0 x1:Value}{c i:Int}{R:Ending->World->Prop}{a:Act}(h:bG W b #[x0,x1] 25)
 (h4:a.tmps[4]? =some (.pointer (some ⟨b,0,none⟩))) (h5:a.tmps[5]? =some (.int .i64 c)) (h6:a.tmps[6]? =some (.int .i64 i)) (hd:a.defers=[])
 (hR:R (.returned (.tuple #[.agg #[x0,x1],.int .i64 c,.int .i64 i])) W):bodyPost Tryz.prog Tryz.f48 R .ret a W:=by
 refine gD ?_ hd hR;have r:=fun i=>aA h i
 simp [results,Tryz.results48,go_sem,Result.andThen,r,h4,h5,h6]
theorem NZ(v:Value)(list:List Rr)(aM:ByteArray)(w:World)(h:bS w v list.length 5 (bK list))(ha:aM.size<=1000000000)(ho:∀ r∈list,r.own.size<=1000000000∧r.da.size<=2000000):
 Calls Tryz.prog 48 #[v,.string aM] w (QE list aM w):=by
 obtain⟨la,lc,rfl⟩:∃ la lc,v=.slice la list.length lc:=by
  obtain⟨_,a,cap,e,_⟩:=h;exact⟨a,cap,e⟩
 have aOd:0<list.length->∀ b,jH (.slice la list.length lc)=some b->b<w.heap.size:=by
  intro h0 b hb;obtain⟨_,a,cap,e,h1,h2,h3⟩:=h;cases e
  obtain⟨b',off,rfl,hc⟩:=h3 h0;have MU:b'=b:=by simpa [jH] using hb
  subst MU;have hn:0<(bK list).length:=by rw [pU];omega
  exact eB w _ (hc 0 _ (bY hn))
 have kR:=aH w #[.string ⟨#[]⟩,.slice none 0 0] 25;have b0:=(aK w.heap.size w).alloc (aN _) (.cells #[.string ⟨#[]⟩,.slice none 0 0] 25);have kB:=aH (w.alloc (.cells #[.string ⟨#[]⟩,.slice none 0 0] 25)) #[.slice la list.length lc,.string aM,.slice none 0 0,.slice none 0 0,.pointer none,.slice none 0 0] 122;have b1:=b0.alloc b0.size (.cells #[.slice la list.length lc,.string aM,.slice none 0 0,.slice none 0 0,.pointer none,.slice none 0 0] 122);have Sr:=aR kR (.cells #[.slice la list.length lc,.string aM,.slice none 0 0,.slice none 0 0,.pointer none,.slice none 0 0] 122);rw [fV] at kB;have ZI:=Ec (w.heap.size+1) la lc list aM _ kB (h.below b1) (fun h0 e=>by have:=aOd h0 _ e;omega) (fun h0 b hb=>by have:=aOd h0 b hb;simp;omega) (by unfold maxLen;omega) ho
 have HZ:Hid (∀ th ys aa ac fC rv os kv ks B W,P3 list aM (w.heap.size+1) (.slice la list.length lc) th ys aa ac fC rv os kv ks B W->Calls Tryz.prog 79 #[.pointer (some ⟨w.heap.size+1,3,none⟩),.string aM] W fun e W'=>∃ v ps,e=.returned (.agg #[.string aM,v])∧ps.map (·.1)=mW list∧dH W' W.heap.size v ps∧Below W.heap.size W W'):=by
  intro th ys aa ac fC rv os kv ks B W hP;have hl5:=hP.hl;have hol:=hP.st.inv.len.1;rw [List.length_map] at hol;rw [aA4 hP.st.inv hP.NL.1 hP.mix];exact Qp (w.heap.size+1) 3 th rv os B aM W hP.st.tr (hP.st.inv.trs (by rw [List.length_map];omega)) (by omega) hP.st.lab ((aA hP.kb 4).trans rfl) ha
 have HB:=Nm.aF b1;clear h aOd kR b0 b1 kB ho;unfold AC at ZI;obtain⟨E,hE⟩:∃ E,E=eH list aM:=⟨_,rfl⟩;rw [<- hE] at ZI;have HE:=Nm.aF hE;clear hE;obtain⟨C,I⟩:=E;simp only at ZI
 by_cases hC:C=0
 ·subst hC;go_enter Tryz.func48,Tryz.ntmps48;go_wp2_with fail
  refine ZI.mono ?_;rintro e w2 ⟨rfl,mF,hp⟩;obtain⟨th,ys,aa,ac,fC,rv,os,kv,ks,B,hP⟩:=hp trivial;have hz:=HZ.out th ys aa ac fC rv os kv ks B w2 hP;have CP:=nZ Sr mF (fun hm=>by have:=List.mem_singleton.1 hm;omega);have DU:w.heap.size+2<=w2.heap.size:=by have:=mF.size;simp at this;omega
  have HW2:=Nm.aF DU;have HOU:=Nm.aF mF;clear ZI mF hp hP HZ DU Sr
  go_wp2_with (
   go_at_call 79
   refine hz.mono ?_;rintro e w3 ⟨zv,ps,rfl,RI,NF,b3⟩;obtain⟨za,zc,rfl⟩:=aT NF.outer;have AP:=aB CP b3;have rR3:=fun i=>aA AP i
   have fR3:=fun i=>aG AP i)
  have k5:=aI (aI AP 0 (.string aM)) 1 (.slice za ps.length zc);simp only [List.setIfInBounds_toArray,List.set_cons_zero,List.set_cons_succ] at k5;refine Rv k5 rfl rfl rfl rfl ⟨?_,fun _=>⟨_,ps,rfl,RI,?_⟩,fun h=>absurd (by rw [<- HE.out]) h⟩
  ·have hb:Below w.heap.size w w3:=by
    have h1:=HB.out;have h2:=HOU.out;refine⟨b3.os.trans (h2.os.trans h1.os),b3.tape.trans (h2.tape.trans h1.tape),b3.output.trans (h2.output.trans h1.output),by have:=HW2.out;have:=b3.size;omega,fun k hk=>?_⟩;have hk2:k<w2.heap.size:=by have:=HW2.out;omega
    rw [b3.block k hk2,h2.block k (by simp;omega) (fun hm=>by have:=List.mem_singleton.1 hm;omega)];exact h1.block k hk
   exact(hb.setCell (p:=⟨w.heap.size,0,none⟩) (aN _) (.string aM)).setCell (p:=⟨w.heap.size,1,none⟩) (aN _) (.slice za ps.length zc)
  have hw:=HW2.out;exact((NF.far (i:=0) (y:=.string aM) (g:=w.heap.size) (by omega)).far (i:=1) (y:=.slice za ps.length zc) (g:=w.heap.size) (by omega)).base (by omega)
 have n0:(C != 0)=true:=by simpa using hC
 have H0:=Nm.aF hC;clear hC HZ;go_enter Tryz.func48,Tryz.ntmps48;go_wp2_with fail
 refine ZI.mono ?_;rintro e w2 ⟨rfl,mF,hp⟩;have CP:=nZ Sr mF (fun hm=>by have:=List.mem_singleton.1 hm;omega);have rR2:=fun i=>aA CP i
 have fR2:=fun i=>aG CP i
 have DU:w.heap.size+2<=w2.heap.size:=by have:=mF.size;simp at this;omega
 have HW2:=Nm.aF DU;have HOU:=Nm.aF mF;clear ZI mF hp DU Sr;go_wp2;have k5:=aI (aI CP 0 (.string ⟨#[]⟩)) 1 (.slice none 0 0);simp only [List.setIfInBounds_toArray,List.set_cons_zero,List.set_cons_succ] at k5;refine Rv k5 rfl rfl rfl rfl ⟨?_,fun h=>absurd (by rw [<- HE.out] at h;exact h) H0.out,fun _=>by rw [<- HE.out];rfl⟩
 have hb:Below w.heap.size w w2:=by
  have h1:=HB.out;have h2:=HOU.out;refine⟨h2.os.trans h1.os,h2.tape.trans h1.tape,h2.output.trans h1.output,by have:=HW2.out;omega,fun k hk=>?_⟩;rw [h2.block k (by simp;omega) (fun hm=>by have:=List.mem_singleton.1 hm;omega)];exact h1.block k hk
 exact(hb.setCell (p:=⟨w.heap.size,0,none⟩) (aN _) (.string ⟨#[]⟩)).setCell (p:=⟨w.heap.size,1,none⟩) (aN _) (.slice none 0 0)
