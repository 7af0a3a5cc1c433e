import Derived.Test.YtlddifpnkeafpaaGreatJLoA
import Derived.Test.YtlddifpnkeafpaaGreatJLoS
import Derived.Test.YtlddifpnkeafpaaGreatJCzC
import Derived.Test.YtlddifpnkeafpaaGreatNzT
set_option linter.unusedVariables false
set_option maxRecDepth 100000
set_option maxHeartbeats 12800000
namespace Go.Proofs.YtlddifpnkeafpaaGreat
open Go.RowKit
structure LkF (ps:List Zp) (o name:ByteArray) (q:Int) (N:List ByteArray) (iK:ByteArray) (R:Stp):Prop where
 ws:R.wild=true->∀ x∈R.ss,x.own=name∧Ih N name=false
 ns:R.wild=false->∀ x∈R.ss,lS (ps.map (·.1)) x.own x.ty=some x
 k8:R.kd=8->Ih N name=false∧Ih N (xB iK)=false
 k2:R.kd=2->∃ s,R.ss=[s]∧cZ name s.own=true∧s.ty=2∧eQ s.own o=false
 k3:R.kd=3->0<R.ss.length∧(q=255∨∃ s,R.ss=[s]∧s.ty=q)
 k6:R.kd=6->∃ s,R.ss=[s]∧cZ name s.own=true∧Ih N name=false∧(Nm.split R.tgt).isSome=true
 k4:R.kd=4->∃ s,R.ss=[s]∧s.da[0]? =some R.tgt∧q≠5
 kk:R.kd=1∨R.kd=5->R.ss=[]
 kl:1<=R.kd∧R.kd<=8
def LkE(q:Int)(R:Stp):Prop:=(R.kd=3∧0<R.ss.length∧(q=255∨∃ s,R.ss=[s]∧s.ty=q))∨(R.kd=4∧(∃ s,R.ss=[s]∧s.da[0]? =some R.tgt)∧q≠5)∨(R.kd=5∧R.ss=[])
variable {W:World}{o:ByteArray}{ps:List Zp}{q:Int}
theorem LkE.wld{R:Stp}{name:ByteArray}(h:LkE q R):LkE q (Ct name R):=by
 rcases h with⟨h1,h2,h3⟩|⟨h1,⟨s,h2,h3⟩,h4⟩|⟨h1,h2⟩
 ·refine .inl ⟨h1,by simpa [Ct] using h2,?_⟩
  rcases h3 with h3|⟨s,h3,h4⟩
  ·exact .inl h3
  exact .inr ⟨MF name s,by simp [Ct,h3],h4⟩
 ·exact .inr (.inl ⟨h1,⟨MF name s,by simp [Ct,h2],h3⟩,h4⟩)
 exact .inr (.inr ⟨h1,by simp [Ct,h2]⟩)
theorem V8{ss:List Sz}(hd:∀ s∈ss,0<s.da.length):(∀ x∈(FZ ss q).ss,x∈ss)∧(FZ ss q).wild=false∧LkE q (FZ ss q):=by
 rw [FZ]
 by_cases hq:q=255∧0<ss.length
 ·rw [if_pos hq];exact⟨fun x h=>h,rfl,.inl ⟨rfl,hq.2,.inl hq.1⟩⟩
 rw [if_neg hq]
 cases h1:ss.find? (fun s=>decide (s.ty=q)) with
 |some s=>
  have hs:=List.mem_of_find?_eq_some h1;have ht:=List.find?_some h1
  exact⟨fun x h=>by simp at h;subst h;exact hs,rfl,.inl ⟨rfl,by simp,.inr ⟨s,rfl,of_decide_eq_true ht⟩⟩⟩
 |none=>
  cases h2:ss.find? (fun s=>decide (s.ty=5)) with
  |some s=>
   have hs:=List.mem_of_find?_eq_some h2;have ht:=List.find?_some h2;refine⟨fun x h=>by simp at h;subst h;exact hs,rfl,.inr (.inl ⟨rfl,⟨s,rfl,?_⟩,fun e=>?_⟩)⟩
   ·have:=hd s hs;show s.da[0]? =some (MU s.da)
    cases e:s.da with
    |nil=>rw [e] at this;simp at this
    |cons x l=>rfl
   rw [List.find?_eq_none] at h1;have:=h1 s hs;rw [e] at this
   exact this ht
  |none=>exact⟨fun x h=>by simp at h,rfl,.inr (.inr ⟨rfl,rfl⟩)⟩
section
variable {ps:List Zp}{o name iK:ByteArray}{q:Int}{N:List ByteArray}{R:Stp}
theorem LkE.all(h:LkE q R)(ws:R.wild=true->∀ x∈R.ss,x.own=name∧Ih N name=false)(ns:R.wild=false->∀ x∈R.ss,lS (ps.map (·.1)) x.own x.ty=some x):LkF ps o name q N iK R:=by
 rcases h with⟨h1,h2,h3⟩|⟨h1,⟨s,h2,h3⟩,h4⟩|⟨h1,h2⟩
 ·exact⟨ws,ns,by omega,by omega,fun _=>⟨h2,h3⟩,by omega,by omega,by omega,by omega⟩
 ·exact⟨ws,ns,by omega,by omega,by omega,by omega,fun _=>⟨s,h2,h3,h4⟩,by omega,by omega⟩
 exact⟨ws,ns,by omega,by omega,by omega,by omega,by omega,fun _=>h2,by omega⟩
theorem aMt{a b c x:ByteArray}(h:zZ a b c=(x,0)):(Nm.split x).isSome=true:=by
 rw [zZ] at h
 split at h
 ·rename_i xs ys zs hx hy hz
  split at h
  ·have h0:(lT (xs.take (xs.length-ys.length)++zs)).2=0:=by rw [h]
   obtain⟨h1,h2⟩:=aA4 h0;rw [h1] at h;obtain rfl:=(Prod.mk.inj h).1
   have hg:Gl (xs.take (xs.length-ys.length)++zs):=⟨fun y hy=>by
    rcases iU hy with h3|h3
    ·exact(iP hx).1 y (List.mem_of_mem_take h3)
    exact(iP hz).1 y h3,h2⟩
   have:=hg.jo;rw [mJ] at this;rw [this];rfl
  simp at h
 simp at h
theorem aJy(hz:AO ps o=true)(hn:(Nm.split name).isSome=true):(tX ps o name).iK.size<=255:=by
 cases hu:cZ name o
 ·rw [tX,if_neg (by rw [hu];simp)];decide
 exact(U8 hz hn hu).2.2.2.1
theorem aJz(hz:AO ps o=true)(hn:(Nm.split name).isSome=true):LkF ps o name q (UD ps o) (tX ps o name).iK (Nf ps o name q):=by
 obtain⟨al,ha⟩:=(QV hz).2;obtain⟨lab,hl⟩:=Option.isSome_iff_exists.1 hn
 have hfn:∀ s∈ps.map (·.1),lS (ps.map (·.1)) s.own s.ty=some s:=by
  intro s hs;obtain⟨p,hp,rfl⟩:=kJ hs;obtain⟨i,hi⟩:=List.getElem?_of_mem hp;obtain⟨xs,hx,_⟩:=QW hz ha p hp;exact aGn hz hi (aCl (by rw [hx];rfl))
 have aQb:∀ s∈ps.map (·.1),0<s.da.length:=by
  intro s hs;obtain⟨p,hp,rfl⟩:=kJ hs;exact Vi hz p hp
 have aMu:∀ x,(∀ s∈oH (ps.map (·.1)) x,0<s.da.length)∧∀ s∈oH (ps.map (·.1)) x,lS (ps.map (·.1)) s.own s.ty=some s:=fun x=>⟨fun s hs=>aQb s (List.mem_filter.1 hs).1,fun s hs=>hfn s (List.mem_filter.1 hs).1⟩
 cases hu:cZ name o
 ·have hk:(tX ps o name).kd=0:=by rw [tX,if_neg (by rw [hu];simp)];rfl
  rw [Nf,aGa hk];exact⟨by simp,by simp,by simp,by simp,by simp,by simp,by simp,fun _=>rfl,by simp⟩
 obtain⟨n1,n2,n3,n4,n5,n6⟩:=U8 hz hn hu;have WJ:=Mh hz hn hu
 by_cases hc:(tX ps o name).cut=⟨#[]⟩
 ·obtain⟨m1,m2⟩:=n6 hc
  cases ht:wZ ps o name with
  |true=>
   rw [Nf,U3 (m1 ht)];obtain⟨a1,a2,a3⟩:=V8 (q:=q) (aMu name).1
   exact a3.all (fun h=>by rw [a2] at h;cases h) (fun _ x hx=>(aMu name).2 x (a1 x hx))
  |false=>
   have h1:=m2 ht;rw [ht] at WJ n3
   have bY:∃ k,0<k∧k<=lab.length∧(tX ps o name).iK=mJ (lab.drop k):=by
    rw [bZ hl ha] at hu;obtain⟨k,c1,c2,c3,c4,c5⟩:=KY (wZ ps o) lab (Lu hz ha hl hu);rw [vQ hl] at c5;refine⟨k,c5 ht,c1,?_⟩;rw [tX,if_pos (by rw [bZ hl ha];exact hu),hl];simp only [Option.getD_some];rw [c2]
   cases hf:lS (ps.map (·.1)) (tX ps o name).iK 39 with
   |some s=>
    rw [Nf,aGc h1 hf];have hs:=List.mem_of_find?_eq_some hf;have h2:=List.find?_some hf;simp only [Bool.and_eq_true,decide_eq_true_eq] at h2
    have Cj:cZ name s.own=true:=by
     obtain⟨p,hp,rfl⟩:=kJ hs;obtain⟨xs,hx,_⟩:=QW hz ha p hp;obtain⟨k,k0,k1,k2⟩:=bY;have gk:=(iP hl).drop k;rw [k2,nC hx gk.jo] at h2;rw [k2,bZ hl gk.jo] at n2;rw [bZ hl hx];obtain⟨u1,u2⟩:=dJ.1 n2;have h3:=of_decide_eq_true h2.2;exact dJ.2 ⟨by rw [nG h3];exact u1,by rw [nG h3,bQ h3];exact u2⟩
    rw [AP];split
    ·rename_i hr;refine⟨by simp,fun _ x hx=>?_,by simp,by simp,by simp,fun _=>⟨s,rfl,Cj,WJ,?_⟩,by simp,by simp,by simp⟩
     ·simp at hx;subst hx;exact hfn _ hs
     exact aMt (Prod.ext rfl hr)
    refine⟨by simp,fun _ x hx=>?_,by simp,by simp,by simp,by simp,by simp,by simp,by simp⟩;simp at hx;subst hx
    exact hfn _ hs
   |none=>
    rw [Nf,aGd h1 hf];split
    ·obtain⟨a1,a2,a3⟩:=V8 (q:=q) (aMu (xB (tX ps o name).iK)).1;refine a3.wld.all (fun _ x hx=>?_) (fun h=>by cases h);obtain⟨y,_,rfl⟩:=kJ hx;exact⟨rfl,WJ⟩
    rename_i MR;refine⟨by simp,by simp,fun _=>⟨WJ,?_⟩,by simp,by simp,by simp,by simp,by simp,by simp⟩;obtain⟨k,k0,k1,k2⟩:=bY;have gs:=Mg (iP hl) k0 k1;have hsj:xB (tX ps o name).iK=mJ (JQ::lab.drop k):=by rw [k2,H7]
    have hue:cZ (xB (tX ps o name).iK) o=true:=by
     have h6:wZ ps o (tX ps o name).iK=true:=by
      have:=Mh hz (name:=(tX ps o name).iK);obtain⟨j,c1,c2,c3,-,-⟩:=KY (wZ ps o) lab (Lu hz ha hl (by rw [<- bZ hl ha];exact hu))
      have e:(tX ps o name).iK=mJ (lab.drop j):=by
       rw [tX,if_pos hu,hl];simp only [Option.getD_some];rw [c2]
      rw [e];exact c3
     rw [wZ,Bool.and_eq_true] at h6;have h7:=h6.1;rw [k2,bZ ((iP hl).drop k).jo ha] at h7;rw [hsj,bZ gs.jo ha];obtain⟨u1,u2⟩:=dJ.1 h7;refine dJ.2 ⟨by simp at u1 ⊢;omega,?_⟩;rw [show(JQ::lab.drop k).length-al.length=((lab.drop k).length-al.length)+1 by simp at u1 ⊢;omega,List.drop_succ_cons];exact u2
    rw [Mh hz (by rw [hsj,gs.jo];rfl) hue];simpa using MR
 rw [Nf,aGb (n5 hc)]
 have dM:∀ s:Sz,pF o name s=true->s.own≠⟨#[]⟩:=by
  intro s h e;rw [pF,Bool.and_eq_true] at h;rw [e,cZ] at h;have:Nm.split (⟨#[]⟩:ByteArray)=none:=by decide
  rw [this] at h;simp at h
 have hcz:(tX ps o name).cut=uY (ps.map (·.1)) o name:=by rw [tX,if_pos hu]
 rw [hcz] at hc ⊢
 rcases EK o name dM (ps.map (·.1)) with⟨h1,-⟩|⟨s,h1,h2,h3,-⟩
 ·exact absurd h1 hc
 rw [pF] at h3;simp only [Bool.and_eq_true,decide_eq_true_eq,Bool.not_eq_true'] at h3;have hf:=hfn s h1;rw [h3.1.1] at hf;rw [h2,hf];refine⟨by simp,fun _ x hx=>?_,by simp,fun _=>⟨s,rfl,h3.2,h3.1.1,h3.1.2⟩,by simp,by simp,by simp,by simp,by simp⟩;simp at hx;subst hx;exact hfn _ h1
end
theorem aJ0(hz:AO ps o=true):∃ al,Nm.split o=some al:=by
 have h0:=(qR hz).1;rw [iX] at h0
 cases hq:Nm.split o with
 |some al=>exact⟨al,rfl⟩
 |none=>rw [hq] at h0;simp at h0
def SmP(r:Stp×Int)(w:World)(e:Ending)(w':World):Prop:=∃ v ps,e=.returned (.tuple #[.agg #[.int .i64 r.1.kd,v,.bool r.1.wild,.string r.1.tgt],.int .i64 r.2])∧List.map (·.1) ps=r.1.ss∧yS w' w.heap.size v ps∧Below w.heap.size w w'
theorem UH(o name:ByteArray)(q:Int)(v:Value)(ps:List Zp)(w:World)(h:gG w v ps)(hs:wP ps<=1048576)(hl:ps.length<=1048576)(hf:∀ p∈ps,p.1.own.size<=1048576∧p.1.da.length<=1048576∧∀ x∈p.1.da,x.size<=1048576)(ha:o.size<=maxLen)(hn:name.size<=maxLen):
 Calls Tryz.prog 5 #[.agg #[.string o,v],.string name,.int .i64 q] w (SmP (V6 ps o name q) w):=by
 obtain⟨va,vc,rfl⟩:=mX h;have b0:=((aJ w.heap.size w).alloc (aI _) (.cells #[.string o,.slice va ps.length vc] 25)).alloc (by simp) (.cells H9 29);have k0:=bD (aK w #[.string o,.slice va ps.length vc] 25) (.cells H9 29);have kS:=aK (w.alloc (.cells #[.string o,.slice va ps.length vc] 25)) H9 29;rw [jO] at kS;have SQ:=QZ o (.slice va ps.length vc) ps _ (h.below b0) hs hl (fun p hp=>⟨(hf p hp).1,(hf p hp).2.2⟩) ha;have MM:=fun W=>iM name W hn
 have HST:Hid (∀ lab,Nm.split name=some lab->AO ps o=true->∀ W,Below w.heap.size w W->Calls Tryz.prog 22 #[.agg #[.string o,.slice va ps.length vc],.string name,.int .i64 q] W (SfP (Nf ps o name q) W)):=fun lab IQ hz W hW=>by
  obtain⟨al,XI⟩:=aJ0 hz;exact Vm o name lab q _ ps W (h.below hW) hl hf IQ ha (fun hu=>Lu hz XI IQ (by rw [<- bZ IQ XI];exact hu)) (Vi hz)
 obtain⟨R,HR⟩:∃ R,Hid (R=V6 ps o name q):=⟨_,rfl⟩;rw [<- HR.out];obtain⟨W0,FH⟩:∃ W0,(w.alloc (.cells #[.string o,.slice va ps.length vc] 25)).alloc (.cells H9 29)=W0:=⟨_,rfl⟩;rw [FH] at b0 k0 kS SQ;have r0:=aA k0
 clear h hf hs;cases hz:AO ps o
 ·rw [hz] at SQ;simp only [Bool.false_eq_true,if_false] at SQ;have KO:R=(NZ 0,32):=by rw [HR.out,V6,if_neg (fun hh=>by rw [hh.1] at hz;cases hz)]
  subst KO;clear hz HST HR;go_enter Tryz.func5,Tryz.ntmps5;go_wp2_with fail
  refine SQ.mono ?_;rintro e WB ⟨rfl,fJ⟩;have bB:=Nm.aC b0 fJ;have kB:=aB kS fJ;clear kS k0 r0 SQ fJ b0;have kX:=dH (uZ 0 (.slice none 0 0) false ⟨#[]⟩) kB rfl;have HX:Hid (yS (bG WB (w.heap.size+1) 0 (uZ 0 (.slice none 0 0) false ⟨#[]⟩)) w.heap.size (.slice none 0 0) []∧Below w.heap.size w (bG WB (w.heap.size+1) 0 (uZ 0 (.slice none 0 0) false ⟨#[]⟩))):=⟨yS.nil,fI (by omega) _ 0 _ bB⟩;simp only [bG,Nat.reduceAdd,Nat.zero_add] at kX HX;have rX:=aA kX
  have rk:=aA kB
  have fk:=aF kB
  clear kX kB bB;go_wp2_with fail
  refine eB (v:=.tuple #[.agg #[.int .i64 0,.slice none 0 0,.bool false,.string ⟨#[]⟩],.int .i64 32]) ?_ rfl ⟨_,[],rfl,rfl,HX.out.1,HX.out.2⟩;simp [results,Tryz.f5,go_sem,rX]
 rw [hz] at SQ;simp only [if_true] at SQ
 cases xM:Nm.split name with
 |none=>
  rw [xM] at MM;simp only [Option.isSome_none] at MM;have KO:R=(NZ 0,32):=by rw [HR.out,V6,if_neg (fun hh=>by have:=hh.2.1;rw [xM] at this;cases this)]
  subst KO;clear hz HST HR xM;go_enter Tryz.func5,Tryz.ntmps5;go_wp2_with fail
  refine SQ.mono ?_;rintro e w1 ⟨rfl,fJ⟩;go_wp2_with fail
  refine(MM _).mono ?_;rintro e WB ⟨rfl,jW⟩;have c2:=Nm.aC fJ jW;have bB:=Nm.aC b0 c2;have kB:=aB kS c2;clear kS k0 r0 SQ fJ jW b0 c2;have kX:=dH (uZ 0 (.slice none 0 0) false ⟨#[]⟩) kB rfl;have HX:Hid (yS (bG WB (w.heap.size+1) 0 (uZ 0 (.slice none 0 0) false ⟨#[]⟩)) w.heap.size (.slice none 0 0) []∧Below w.heap.size w (bG WB (w.heap.size+1) 0 (uZ 0 (.slice none 0 0) false ⟨#[]⟩))):=⟨yS.nil,fI (by omega) _ 0 _ bB⟩;simp only [bG,Nat.reduceAdd,Nat.zero_add] at kX HX;have rX:=aA kX
  have rk:=aA kB
  have fk:=aF kB
  clear kX kB bB;go_wp2_with fail
  refine eB (v:=.tuple #[.agg #[.int .i64 0,.slice none 0 0,.bool false,.string ⟨#[]⟩],.int .i64 32]) ?_ rfl ⟨_,[],rfl,rfl,HX.out.1,HX.out.2⟩
  simp [results,Tryz.f5,go_sem,rX]
 |some lab=>
  rw [xM] at MM;simp only [Option.isSome_some] at MM
  by_cases uB:q<1
  ·have KO:R=(NZ 0,32):=by rw [HR.out,V6,if_neg (fun hh=>by have:=hh.2.2.1;omega)]
   subst KO;clear hz HST HR xM;go_enter Tryz.func5,Tryz.ntmps5;go_wp2_with fail
   refine SQ.mono ?_;rintro e w1 ⟨rfl,fJ⟩;go_wp2_with fail
   refine(MM _).mono ?_;rintro e WB ⟨rfl,jW⟩;have c2:=Nm.aC fJ jW;have bB:=Nm.aC b0 c2;have kB:=aB kS c2;clear kS k0 r0 SQ fJ jW b0 c2;have kX:=dH (uZ 0 (.slice none 0 0) false ⟨#[]⟩) kB rfl;have HX:Hid (yS (bG WB (w.heap.size+1) 0 (uZ 0 (.slice none 0 0) false ⟨#[]⟩)) w.heap.size (.slice none 0 0) []∧Below w.heap.size w (bG WB (w.heap.size+1) 0 (uZ 0 (.slice none 0 0) false ⟨#[]⟩))):=⟨yS.nil,fI (by omega) _ 0 _ bB⟩;simp only [bG,Nat.reduceAdd,Nat.zero_add] at kX HX;have rX:=aA kX
   have rk:=aA kB
   have fk:=aF kB
   clear kX kB bB;go_wp2_with fail
   refine eB (v:=.tuple #[.agg #[.int .i64 0,.slice none 0 0,.bool false,.string ⟨#[]⟩],.int .i64 32]) ?_ rfl ⟨_,[],rfl,rfl,HX.out.1,HX.out.2⟩;simp [results,Tryz.f5,go_sem,rX]
  by_cases zT:65535<q
  ·have KO:R=(NZ 0,32):=by rw [HR.out,V6,if_neg (fun hh=>by have:=hh.2.2.2;omega)]
   subst KO;clear hz HST HR xM;go_enter Tryz.func5,Tryz.ntmps5;go_wp2_with fail
   refine SQ.mono ?_;rintro e w1 ⟨rfl,fJ⟩;go_wp2_with fail
   refine(MM _).mono ?_;rintro e WB ⟨rfl,jW⟩;have c2:=Nm.aC fJ jW;have bB:=Nm.aC b0 c2;have kB:=aB kS c2;clear kS k0 r0 SQ fJ jW b0 c2;have kX:=dH (uZ 0 (.slice none 0 0) false ⟨#[]⟩) kB rfl;have HX:Hid (yS (bG WB (w.heap.size+1) 0 (uZ 0 (.slice none 0 0) false ⟨#[]⟩)) w.heap.size (.slice none 0 0) []∧Below w.heap.size w (bG WB (w.heap.size+1) 0 (uZ 0 (.slice none 0 0) false ⟨#[]⟩))):=⟨yS.nil,fI (by omega) _ 0 _ bB⟩;simp only [bG,Nat.reduceAdd,Nat.zero_add] at kX HX;have rX:=aA kX
   have rk:=aA kB
   have fk:=aF kB
   clear kX kB bB;go_wp2_with fail
   refine eB (v:=.tuple #[.agg #[.int .i64 0,.slice none 0 0,.bool false,.string ⟨#[]⟩],.int .i64 32]) ?_ rfl ⟨_,[],rfl,rfl,HX.out.1,HX.out.2⟩;simp [results,Tryz.f5,go_sem,rX]
  have Em:R=(Nf ps o name q,0):=by rw [HR.out,V6,if_pos ⟨hz,by rw [xM];rfl,by omega,by omega⟩]
  have mI:=HST.out lab xM hz;subst Em;generalize Nf ps o name q=N at*;clear hz HST HR xM;go_enter Tryz.func5,Tryz.ntmps5;go_wp2_with fail
  refine SQ.mono ?_;rintro e w1 ⟨rfl,fJ⟩;go_wp2_with fail
  refine(MM _).mono ?_;rintro e w2 ⟨rfl,jW⟩;have c2:=Nm.aC fJ jW;have kH:=Nm.aC b0 c2;have EZ:=aB kS c2;have WN:=aB k0 c2;have rZ2:=aA WN
  have sR:w.heap.size+1<w2.heap.size:=cO EZ;clear kS k0 r0 SQ fJ jW b0 c2 MM;go_wp2_with fail
  refine(mI _ kH).mono ?_;rintro e w3 ⟨v3,Du,rfl,e3,z3,b3⟩;obtain⟨ea,ec,rfl⟩:∃ a c,v3=.slice a Du.length c:=by(obtain⟨⟨_,a,c,e,_⟩,_⟩:=z3.read;exact⟨a,c,e⟩)
  have uC:=Nm.aC kH b3;have UE:=aB EZ b3;have kX:=dH (uZ N.kd (.slice ea Du.length ec) N.wild N.tgt) UE rfl;have HX:Hid (List.map (·.1) Du=N.ss∧yS (bG w3 (w.heap.size+1) 0 (uZ N.kd (.slice ea Du.length ec) N.wild N.tgt)) w.heap.size (.slice ea Du.length ec) Du∧Below w.heap.size w (bG w3 (w.heap.size+1) 0 (uZ N.kd (.slice ea Du.length ec) N.wild N.tgt))):=⟨e3,(yS.I6 (by omega) _ 0 _ z3).base (by omega),fI (by omega) _ 0 _ uC⟩;simp only [bG,Nat.reduceAdd,Nat.zero_add] at kX HX;have rX:=aA kX
  have rk:=aA UE
  have fk:=aF UE
  clear kX UE EZ WN e3 z3 b3 kH uC mI;go_wp2_with fail
  refine eB (v:=.tuple #[.agg #[.int .i64 N.kd,.slice ea Du.length ec,.bool N.wild,.string N.tgt],.int .i64 0]) ?_ rfl ⟨_,_,rfl,HX.out.1,HX.out.2.1,HX.out.2.2⟩;simp [results,Tryz.f5,go_sem,rX]
def SlP(r:Stp×Int)(w:World)(e:Ending)(w':World):Prop:=∃ v ps,e=.returned (.tuple #[.agg #[.int .i64 r.1.kd,v,.bool r.1.wild,.string r.1.tgt],.int .i64 r.2])∧List.map (·.1) ps=r.1.ss∧dF w' w.heap.size v ps∧Below w.heap.size w w'
theorem aJ1{name:ByteArray}{bb:Nat}{lv:Value}{th:Nat}{ys:List ByteArray}{aa:Option Addr}{ac:Nat}{eD rv:Value}{os:List dG}{kv:Value}{ks:List Ld}{B:Nat}{lab:List ByteArray}(la:Option Addr)(lc:Nat)(hP:P3 (aR ps) o bb lv th ys aa ac eD rv os kv ks B W)(hz:AO ps o=true)(hn:Nm.split name=some lab)(dI:Nm.bP W (.slice la lab.length lc) lab)(hf:∀ p∈ps,∀ x∈p.1.da,x.size<=1048576):
 Calls Tryz.prog 24 #[.pointer (some ⟨bb,3,none⟩),.slice la lab.length lc,.int .i64 q] W (SoP (Nf ps o name q) W):=by
 have uO:ps.map (·.1)=eH os:=by rw [<- (qR hz).2,QF hP.st.inv hP.vZ.1 hP.mix]
 have hT:=aF2 hP.st.inv hP.vZ.1 hP.vZ.2 hP.ap hz uO;have Nc:=hP.st.inv.len.1;have hl5:=hP.hl;rw [List.length_map] at Nc;rw [<- hT.look uO hn hP.d39 q];refine aG1 bb 3 th rv os B la lc lab o name aa ac ys q W hT hP.st.tr (by omega) (hP.st.inv.trs (by rw [List.length_map];omega)) hP.st.lab dI (iP hn) (vQ hn) ((aA hP.kb 4).trans rfl) ((aA hP.kb 3).trans rfl) hP.av (by have:=(iP hP.ap).2;have:=Nm.bL ys;omega) (cO hP.kb) (fun c hc s hs=>⟨hP.full c hc s hs,?_⟩) hP.d39;have h0:=hP.full c hc s hs
 obtain⟨p,r,MN⟩:∃ p r,s.da=p::r:=by
  cases hx:s.da with
  |nil=>rw [hx] at h0;simp at h0
  |cons p r=>exact⟨p,r,rfl⟩
 have hm:mO (c,s)∈ps.map (·.1):=by rw [uO];exact List.mem_map.2 ⟨(c,s),fT.2 ⟨hc,hs⟩,rfl⟩
 obtain⟨z,iH,iI⟩:=kJ hm;have:=hf z iH p.2 (by rw [iI];simp [mO,MN]);have e:MU (mO (c,s)).da=p.2:=by simp [MU,mO,MN]
 rw [e];omega
theorem UI(o name:ByteArray)(q:Int)(v:Value)(ps:List Zp)(w:World)(h:gG w v ps)(hs:wP ps<=1048576)(hf:∀ p∈ps,p.1.own.size<=1048576∧∀ x∈p.1.da,x.size<=1048576)(ha:o.size<=1000000000)(hn:name.size<=1000000000):
 Calls Tryz.prog 6 #[.agg #[.string o,v],.string name,.int .i64 q] w (SlP (V6 ps o name q) w):=by
 obtain⟨va,vc,rfl⟩:=mX h;have b0:=((aJ w.heap.size w).alloc (aI _) (.cells #[.string o,.slice va ps.length vc] 25)).alloc (by simp) (.cells yU 29);have k0:=bD (aK w #[.string o,.slice va ps.length vc] 25) (.cells yU 29);have kS:=aK (w.alloc (.cells #[.string o,.slice va ps.length vc] 25)) yU 29;rw [jO] at kS;have Ga:=Fz o name q (.slice va ps.length vc) ps _ (h.below b0) hs hf ha hn;have r0:=aA k0
 obtain⟨R,hR⟩:∃ R,R=V6 ps o name q:=⟨_,rfl⟩;have HR:=Nm.aD hR;rw [<- hR];have HF:=Nm.aD (fun p hp=>(hf p hp).2);clear h hf hs hR;obtain⟨W0,FH⟩:∃ W0,(w.alloc (.cells #[.string o,.slice va ps.length vc] 25)).alloc (.cells yU 29)=W0:=⟨_,rfl⟩;rw [FH] at b0 k0 kS Ga r0;go_enter Tryz.func6,Tryz.ntmps6;go_wp2_with fail
 refine Ga.mono ?_;rintro e w1 ⟨fJ,⟨hz,rfl⟩|⟨hz,bb,lv,th,ys,aa,ac,eD,rv,os,kv,ks,B,la,lc,lab,rfl,xM,hP,dI⟩⟩
 ·have KO:R=(NZ 0,32):=by rw [HR.out,V6,if_neg hz]
  have gP:=Nm.aC b0 fJ;have EY:=aB kS fJ;have kX:=dH (QY 0 (.slice none 0 0) false ⟨#[]⟩) EY rfl;have HX:Hid (dF (bG w1 (w.heap.size+1) 0 (QY 0 (.slice none 0 0) false ⟨#[]⟩)) w.heap.size (.slice none 0 0) []∧Below w.heap.size w (bG w1 (w.heap.size+1) 0 (QY 0 (.slice none 0 0) false ⟨#[]⟩))):=⟨dF.nil _ _,vB (by omega) _ 0 _ gP⟩;simp only [bG,Nat.reduceAdd,Nat.zero_add] at kX HX;have rX:=aA kX
  have rk:=aA EY
  have fk:=aF EY
  clear HR hz Ga k0 kS b0 fJ r0 kX EY HF;subst KO;go_wp2_with fail
  refine eB (v:=.tuple #[.agg #[.int .i64 0,.slice none 0 0,.bool false,.string ⟨#[]⟩],.int .i64 32]) ?_ rfl ⟨_,[],rfl,rfl,HX.out.1,HX.out.2⟩;simp [results,Tryz.f6,go_sem,rX]
 have Em:R=(Nf ps o name q,0):=by rw [HR.out,V6,if_pos hz]
 have gP:=Nm.aC b0 fJ;have EY:=aB kS fJ;have FW:=aJ1 (q:=q) la lc hP hz.1 xM dI HF.out;clear HR hz Ga k0 kS b0 fJ r0 HF xM hP dI;subst Em;generalize Nf ps o name q=N at*;go_wp2_with fail
 refine FW.mono ?_;rintro e w3 ⟨u,qs,rfl,e3,z3,b3⟩;obtain⟨ua,uc,rfl⟩:=aT z3.outer;have UE:=aB EY b3;have uC:=Nm.aC gP b3;have bY:w.heap.size+1<w1.heap.size:=cO EY;have kX:=dH (QY N.kd (.slice ua qs.length uc) N.wild N.tgt) UE rfl;have HX:Hid (List.map (·.1) qs=N.ss∧dF (bG w3 (w.heap.size+1) 0 (QY N.kd (.slice ua qs.length uc) N.wild N.tgt)) w.heap.size (.slice ua qs.length uc) qs∧Below w.heap.size w (bG w3 (w.heap.size+1) 0 (QY N.kd (.slice ua qs.length uc) N.wild N.tgt))):=⟨e3,(dF.set4 bY _ 0 _ z3).base (by omega),vB (by omega) _ 0 _ uC⟩;simp only [bG,Nat.reduceAdd,Nat.zero_add] at kX HX;have rX:=aA kX
 have rk:=aA UE
 have fk:=aF UE
 clear kX UE EY e3 z3 FW b3;go_wp2_with fail
 refine eB (v:=.tuple #[.agg #[.int .i64 N.kd,.slice ua qs.length uc,.bool N.wild,.string N.tgt],.int .i64 0]) ?_ rfl ⟨_,_,rfl,HX.out.1,HX.out.2.1,HX.out.2.2⟩;simp [results,Tryz.f6,go_sem,rX]
theorem aG8{bb:Nat}{lv:Value}{th:Nat}{ys:List ByteArray}{aa:Option Addr}{ac:Nat}{eD rv:Value}{os:List dG}{kv:Value}{ks:List Ld}{B:Nat}(hP:P3 (aR ps) o bb lv th ys aa ac eD rv os kv ks B W)(hz:AO ps o=true):
 Calls Tryz.prog 26 #[.pointer (some ⟨bb,3,none⟩)] W fun e W'=>∃ v,e=.returned v∧W'.ownsRow W.heap.size 9 1 v (zNm ps o).length ((zNm ps o).map fun x=>Value.string (mJ x))∧Below W.heap.size W W':=by
 have uO:ps.map (·.1)=eH os:=by rw [<- (qR hz).2,QF hP.st.inv hP.vZ.1 hP.mix]
 have hT:=aF2 hP.st.inv hP.vZ.1 hP.vZ.2 hP.ap hz uO;have Nc:=hP.st.inv.len.1;have hl5:=hP.hl;rw [List.length_map] at Nc;rw [aGj hT uO];exact aCs bb 3 th rv os B aa ac ys W hP.st.tr (by omega) hP.st.lab (fun q hq=>⟨iP (hT.nm q hq),(dJ.1 (hT.und q hq)).1⟩) ((aA hP.kb 4).trans rfl) ((aA hP.kb 3).trans rfl)
theorem RD(o:ByteArray)(v:Value)(ps:List Zp)(w:World)(h:gG w v ps)(hs:wP ps<=1048576)(hf:∀ p∈ps,p.1.own.size<=1048576∧∀ x∈p.1.da,x.size<=1048576)(ha:o.size<=1000000000):
 Calls Tryz.prog 7 #[.agg #[.string o,v]] w (ZnP (znR ps o) w):=by
 obtain⟨va,vc,rfl⟩:=mX h;have b0:=(aJ w.heap.size w).alloc (aI _) (.cells #[.string o,.slice va ps.length vc] 25);have k0:=aK w #[.string o,.slice va ps.length vc] 25;have Ga:=xD o (.slice va ps.length vc) ps _ (h.below b0) hs hf ha;have r0:=aA k0
 obtain⟨R,hR⟩:∃ R,R=znR ps o:=⟨_,rfl⟩;have HR:=Nm.aD hR;rw [<- hR];clear h hf hs hR;go_enter Tryz.func7,Tryz.ntmps7;go_wp2_with fail
 refine Ga.mono ?_;rintro e w1 ⟨fJ,⟨hz,rfl⟩|⟨hz,bb,lv,th,ys,aa,ac,eD,rv,os,kv,ks,B,rfl,hP⟩⟩
 ·have KO:R=([],32):=by rw [HR.out,znR,hz];rfl
  have gP:=Nm.aC b0 fJ;clear HR hz Ga k0 b0 fJ r0;subst KO;go_wp2;go_ret2;exact aGi gP
 have gP:=Nm.aC b0 fJ;have Em:R=(zNm ps o,0):=by rw [HR.out,znR,if_pos hz]
 have WJ:=aG8 hP hz;clear HR hz Ga k0 b0 fJ r0 hP;subst Em;generalize zNm ps o=N at*;go_wp2_with fail
 refine WJ.mono ?_;rintro e w2 ⟨u,rfl,qV,b2⟩;have HP:Hid (ZnP (N,0) w (.returned (.tuple #[u,.int .i64 0])) w2):=⟨_,rfl,fM qV gP.size,Nm.aC gP b2⟩;obtain⟨ua,uc,eu⟩:=aT qV;subst eu;clear qV b2 gP WJ;go_wp2;go_ret2;exact HP.out
theorem Dc{w:World}{v:Value}(h:gG w v ps):∃ a c,v=.slice a ps.length c∧ps.length<=maxLen:=by obtain⟨⟨_,a,c,e,h1,h2,_⟩,_⟩:=h;exact⟨a,c,e,by omega⟩
theorem JW{ss:List Sz}(h:ps.map (·.1)=ss):ps.length=ss.length:=by rw [<- h,List.length_map]
theorem RF{qs:List Zp}{s:Sz}(h:qs.map (·.1)=[s]):∃ u,qs=[(s,u)]:=by
 cases qs with
 |nil=>cases h
 |cons q l=>
  cases l with
  |nil=>
   simp only [List.map_cons,List.map_nil,List.cons.injEq,and_true] at h
   exact⟨q.2,by rw [<- h]⟩
  |cons _ _=>cases h
theorem JX{a:Option Addr}{c:Nat}{s:Sz}{u:Value}(h:gG W (.slice a 1 c) [(s,u)]):∃ b off,a=some ⟨b,off,none⟩∧W.cell? ⟨b,off,none⟩=some (.string s.own)∧W.cell? ⟨b,off+1,none⟩=some (.int .i64 s.ty)∧W.cell? ⟨b,off+3,none⟩=some u∧Nm.bP W u s.da:=by
 obtain⟨⟨_,a9,c9,e9,_,_,CR⟩,NV⟩:=h;simp only [gK] at e9;obtain⟨rfl,_,rfl⟩:=e9;obtain⟨b,off,rfl,aH⟩:=CR (by simp);obtain⟨d0,d1,d2,d3⟩:=iE (k:=0) aH rfl;simp only [Nat.zero_mul,Nat.add_zero] at d0 d1 d2 d3;exact⟨b,off,rfl,d0,d1,d3,NV (s,u) (by simp)⟩
structure LkS (w:World) (zb sb nb:Nat) (o tgt iK cut:ByteArray) (v sv nv tv:Value) (kd nk:Int) (wild:Bool) (ps qs:List Zp) (N:List ByteArray) (W:World):Prop where
 b:Below w.heap.size w W
 k:bW W zb #[.string o,v] 25
 z:gG W v ps
 s:bW W sb #[.int .i64 kd,sv,.bool wild,.string tgt] 29
 r:gG W sv qs
 n:Nm.bP W nv N
 d:bW W nb #[.int .i64 nk,.string iK,.string cut,tv] 38
theorem LkS.below{w:World}{zb sb nb:Nat}{tgt iK cut:ByteArray}{v sv nv tv:Value}{kd nk:Int}{wild:Bool}{qs:List Zp}{N:List ByteArray}{W1:World}(h:LkS w zb sb nb o tgt iK cut v sv nv tv kd nk wild ps qs N W)(hb:Below W.heap.size W W1):LkS w zb sb nb o tgt iK cut v sv nv tv kd nk wild ps qs N W1:=
 ⟨Nm.aC h.b hb,aB h.k hb,h.z.below hb,aB h.s hb,h.r.below hb,h.n.below hb,aB h.d hb⟩
theorem Mm(a:Option Addr)(n cap:Nat)(w:World)(hn:n<=maxLen)(HD:n<=1048576->Calls Tryz.prog 4 #[.slice a n cap] w (DlP w)):
 Calls Tryz.prog 3 #[.slice a n cap] w fun e w'=>e=.returned (.bool true)∧Below w.heap.size w w':=by
 unfold maxLen at hn
 by_cases hl:1048576<n
 ·have J6:(1048576:Int)<(n:Int):=by omega
  clear HD;go_enter Tryz.func3,Tryz.ntmps3;go_wp2;go_ret;exact⟨rfl,aJ _ _⟩
 have J6:¬(1048576:Int)<(n:Int):=by omega
 have hd:=HD (by omega);clear HD hl;go_enter Tryz.func3,Tryz.ntmps3;go_wp2_with fail
 refine hd.mono ?_;rintro e w1 ⟨o,name,q,v,ps,rfl,ho,WJ,yX,hz,b1⟩;obtain⟨va,vc,rfl,-⟩:=Dc hz;have Wh:∀ p∈ps,p.1.own.size<=1048576∧∀ x∈p.1.da,x.size<=1048576:=fun p hp=>⟨(yX.2.2 p hp).1,(yX.2.2 p hp).2.2⟩
 have bA:=(aJ w1.heap.size w1).alloc (aI _) (.cells #[.string o,.slice va ps.length vc] 25);have ka0:=aK w1 #[.string o,.slice va ps.length vc] 25;have zA:=hz.below bA;have gP:=Nm.aC b1 bA;have lC:=UH o name q (.slice va ps.length vc) ps _ zA yX.1 yX.2.1 yX.2.2 (by unfold maxLen;omega) (by unfold maxLen;omega);have HIM:=Nm.aD (fun W (hW:gG W (.slice va ps.length vc) ps)=>UI o name q (.slice va ps.length vc) ps W hW yX.1 Wh (by omega) (by omega));have HZN:=Nm.aD (fun W (hW:gG W (.slice va ps.length vc) ps)=>RD o (.slice va ps.length vc) ps W hW yX.1 Wh (by omega));have HFN:=Nm.aD (fun W (hW:gG W (.slice va ps.length vc) ps)=>UG o name (.slice va ps.length vc) ps W hW yX.1 Wh (by omega) (by omega));have HFS:=Nm.aD (fun(x:ByteArray) (t:Int) (hx:x.size<=1048576) W (hW:gG W (.slice va ps.length vc) ps)=>WY o x t (.slice va ps.length vc) ps W hW yX.1 Wh (by omega) (by omega));have HOW:=Nm.aD (fun s (hs:s∈ps.map (·.1))=>by obtain⟨p,hp,rfl⟩:=kJ hs;exact(Wh p hp).1:∀ s∈ps.map (·.1),s.own.size<=1048576);have rA:=aA ka0
 clear yX Wh bA b1 hd hz;have hnn:∀ x:Int,(x != x)=false:=fun x=>by simp
 have HC:Hid ((Fy ps o name q∧V6 ps o name q=(Nf ps o name q,0))∨V6 ps o name q=(NZ 0,32)):=by
  by_cases MM:Fy ps o name q
  ·exact .inl ⟨MM,if_pos MM⟩
  exact .inr (if_neg MM)
 generalize V6 ps o name q=RR at*;obtain⟨⟨kd,ss,wild,tgt⟩,co⟩:=RR;go_wp2_with fail
 refine lC.mono ?_;rintro e w2 ⟨v2,q2,rfl,zT,iI,b2⟩;obtain⟨a2,c2,rfl,-⟩:=Dc iI.read;simp only at zT ⊢
 rw [JW zT];have bB:=b2.alloc b2.size (.cells #[.int .i64 kd,.slice a2 ss.length c2,.bool wild,.string tgt] 29);have kH:=Nm.aC gP bB;have V9:=aB ka0 bB;have zB:=zA.below bB;have rB:=aA V9
 have Ij:=aK w2 #[.int .i64 kd,.slice a2 ss.length c2,.bool wild,.string tgt] 29;have him:=HIM.out _ zB;clear lC iI zT b2 bB ka0 rA zA HIM gP;go_wp2_with fail
 refine him.mono ?_;rintro e w3 ⟨v3,qs,rfl,hq3,hz3,b3⟩;obtain⟨a3,c3,rfl,hlm⟩:=Dc hz3.AU;simp only at hq3 ⊢
 have bC:=b3.alloc b3.size (.cells #[.int .i64 kd,.slice a3 qs.length c3,.bool wild,.string tgt] 29);have bC':=(aJ w3.heap.size w3).alloc (aI _) (.cells #[.int .i64 kd,.slice a3 qs.length c3,.bool wild,.string tgt] 29);have uC:=Nm.aC kH bC;have UE:=aB Ij bC;have kC:=aB V9 bC;have zC:=zB.below bC;have sC:=hz3.AU.below bC';have kT:=aK w3 #[.int .i64 kd,.slice a3 qs.length c3,.bool wild,.string tgt] 29;have s2:=aA UE
 have s3:=aA kT
 have rC:=aA kC
 rw [<- JW hq3] at s2;have HQ:=Nm.aD hq3;have hwn:(wild != wild)=false:=by cases wild<;>rfl
 unfold maxLen at hlm
 rcases HC.out with⟨⟨hz,gI,-,-⟩,hR⟩|hR
 rotate_left
 ·obtain rfl:=(Prod.mk.inj hR).2;clear him hz3 hq3 b3 bC bC' rB Ij kH UE V9 zB HZN HFN HFS HOW HC hR zC kC kT;go_wp2;go_ret;exact⟨rfl,uC⟩
 obtain⟨Em,rfl⟩:=Prod.mk.inj hR;have F:=aJz (q:=q) hz gI;rw [<- Em] at F;have hcz:=aJy hz gI
 have Dq:Hid (∀ W,gG W (.slice va ps.length vc) ps->Calls Tryz.prog 7 #[.agg #[.string o,.slice va ps.length vc]] W fun e w'=>∃ u,e=.returned (.tuple #[u,.int .i64 0])∧Nm.bP w' u (UD ps o)∧Below W.heap.size W w'):=fun W hW=>by
  refine(HZN.out W hW).mono ?_;rintro e w' ⟨u,h1,h2,h3⟩;rw [show znR ps o=(zNm ps o,0) by rw [znR,if_pos hz]] at h1 h2;exact⟨u,h1,Nm.bP.aP (by rw [UD,List.length_map,List.map_map];exact h2),h3⟩
 have Qm:ndR ps o name=(tX ps o name,0):=by rw [ndR,if_pos ⟨hz,gI⟩]
 rw [Qm] at HFN;have HNS:Hid (∀ x∈UD ps o,x.size<=maxLen):=fun x hx=>by have:=(aMc hz hx).1;unfold maxLen;omega
 have HNM:Hid (name.size<=1048576):=by show _<=_;omega
 have HFR:Hid (∀ x t,fsR ps o x t=lS (ps.map (·.1)) x t):=fun x t=>by rw [fsR,if_pos hz]
 generalize tX ps o name=nd at*;generalize UD ps o=N at*;obtain⟨nk,iK,cut,nty⟩:=nd;have HF:=Nm.aD F;simp only at hcz
 have hnz:=Dq.out _ zC;clear him hz3 hq3 b3 bC bC' rB Ij kH UE V9 zB Dq HC F hR Em hz gI Qm HZN;go_wp2_with fail
 generalize w3.alloc (.cells #[.int .i64 kd,.slice a3 qs.length c3,.bool wild,.string tgt] 29)=W3 at*;generalize w3.heap.size=sb at*;generalize w1.heap.size=zb at*;refine hnz.mono ?_;rintro e w4 ⟨u,rfl,hu,b4⟩;have nN:=Nm.aC uC b4;have k4:=aB kC b4;have z4:=zC.below b4;have t4:=aB kT b4;have r4:=sC.below b4;have ham:=VU u N name w4 hu HNS.out (by unfold maxLen;omega);clear hnz b4 uC kC zC kT sC s2 s3 rC;go_wp2_with fail
 refine ham.mono ?_;rintro e w5 ⟨rfl,b5⟩;have WH:=Nm.aC nN b5;have k5:=aB k4 b5;have z5:=z4.below b5;have t5:=aB t4 b5;have r5:=r4.below b5;have u5:=hu.below b5;have hfn:=HFN.out _ z5;have rz:=aA k5
 clear ham b5 nN k4 z4 t4 r4 hu HFN;go_wp2_with fail
 refine hfn.mono ?_;rintro e w6 ⟨tv,rfl,htv,b6⟩;obtain⟨ta,tc,rfl⟩:=aT htv;simp only
 have J3:=b6.alloc b6.size (.cells #[.int .i64 nk,.string iK,.string cut,.slice ta nty.length tc] 38)
 have S6:LkS w zb sb w6.heap.size o tgt iK cut (.slice va ps.length vc) (.slice a3 qs.length c3) u (.slice ta nty.length tc) kd nk wild ps qs N _:=
  ⟨Nm.aC WH J3,aB k5 J3,z5.below J3,aB t5 J3,r5.below J3,u5.below J3,aK w6 _ _⟩
 clear hfn htv b6 J3 WH k5 z5 t5 r5 u5 rz;go_wp2_with fail
 generalize w6.alloc (.cells #[.int .i64 nk,.string iK,.string cut,.slice ta nty.length tc] 38)=W6 at*;generalize w6.heap.size=nb at*
 have HX:Hid (∀ (j:Nat) (p:Zp),qs[j]? =some p->p.1.own.size<=1048576∧(wild=true->p.1.own=name∧Ih N name=false)∧(wild=false->fsR ps o p.1.own p.1.ty=some p.1)):=fun j p hp=>by
  have hm:p.1∈ss:=by rw [<- HQ.out];exact List.mem_map.2 ⟨p,dA hp,rfl⟩
  cases wild with
  |true=>
   obtain⟨h1,h2⟩:=HF.out.ws rfl p.1 hm
   exact⟨by rw [h1];exact HNM.out,fun _=>⟨h1,h2⟩,fun h=>by cases h⟩
  |false=>
   have h1:=HF.out.ns rfl p.1 hm;exact⟨HOW.out _ (List.mem_of_find?_eq_some h1),fun h=>(by cases h),fun _=>by rw [HFR.out];exact h1⟩
 obtain⟨T,HT⟩:∃ T,Hid (Ih N name=T):=⟨_,rfl⟩;have HAM:Hid (∀ (x:ByteArray),x.size<=maxLen->∀ W,LkS w zb sb nb o tgt iK cut (.slice va ps.length vc) (.slice a3 qs.length c3) u (.slice ta nty.length tc) kd nk wild ps qs N W->Calls Tryz.prog 8 #[u,.string x] W fun e w'=>e=.returned (.bool (Ih N x))∧Below W.heap.size W w'):=fun x hx W S=>VU u N x W S.n HNS.out hx
 rw [HT.out];clear HNS HFR HOW
 go_loopw [15] (fun iv W=>∃ j:Nat,j<=qs.length∧iv=.int .i64 j∧LkS w zb sb nb o tgt iK cut (.slice va ps.length vc) (.slice a3 qs.length c3) u (.slice ta nty.length tc) kd nk wild ps qs N W) (fun iv _=>qs.length-(intOf iv).toNat)
 ·exact⟨0,dR _,rfl,S6⟩
 clear S6;obtain⟨j,hj,rfl,S⟩:=hrel;have rs:=aA S.s
 by_cases bY:j<qs.length
 ·obtain⟨p,hp⟩:=gQ bY;obtain⟨⟨_,a9,c9,e9,_,_,CR⟩,NV⟩:=S.r;simp only [gK] at e9;obtain⟨rfl,_,rfl⟩:=e9;obtain⟨b,off,rfl,aH⟩:=CR (by omega);obtain⟨d0,d1,d2,d3⟩:=iE aH hp;obtain⟨X8,hxw,hxn⟩:=HX.out j p hp;have hpd:=NV p (dA hp);have n1:=fE j
  have n2:(j:Int)<(qs.length:Int):=by omega
  obtain⟨⟨x,ty,tt,ds⟩,uu⟩:=p;simp only at d0 d1 d2 d3 hpd X8 hxw hxn
  obtain⟨ua,uc,hu⟩:∃ ua uc,uu=.slice ua ds.length uc:=by obtain⟨a,c,e,_⟩:=hpd;exact⟨a,c,e⟩
  subst hu;have bx:=(aJ wr.heap.size wr).alloc (aI _) (.cells #[.string x,.int .i64 ty,.int .i64 tt,.slice ua ds.length uc] 42);have Sx:=S.below bx;have kx:=aK wr #[.string x,.int .i64 ty,.int .i64 tt,.slice ua ds.length uc] 42;have hpx:=hpd.below bx;have rx:=aA kx
  have rsx:=aA Sx.s
  have rzx:=aA Sx.k
  have hfs:=HFS.out x ty X8 _ Sx.z;clear CR NV aH hp bx S hpd HF HAM
  cases wild with
  |true=>
   obtain⟨rfl,hT⟩:=hxw rfl;have OH:T=false:=by rw [<- HT.out];exact hT
   subst OH;generalize fsR ps o x ty=r at*;clear hxn hxw hT hpx HX;go_wp2_with fail
   refine hfs.mono ?_;rintro e w2 ⟨v2,rfl,ES,b2⟩;obtain⟨a2,c2,rfl⟩:=aT ES;have J3:=b2.alloc b2.size (.cells #[.string (r.getD Ck).own,.int .i64 (r.getD Ck).ty,.int .i64 (r.getD Ck).tt,.slice a2 (r.getD Ck).da.length c2] 42);have S2:=Sx.below J3;have rs2:=aA S2.s
   clear hfs ES b2 J3 Sx kx rx rsx rzx rs d0 d1 d2 d3;go_wp2;go_roundw
   ·exact⟨j+1,bY,by go_num,S2⟩
   simp [intOf];omega
  |false=>
   rw [hxn rfl] at hfs;clear hxn hxw HX;go_wp2_with fail
   refine hfs.mono ?_;rintro e w2 ⟨v2,rfl,ES,b2⟩;simp only [Option.getD_some,Option.isSome_some] at ES ⊢;obtain⟨a2,c2,rfl⟩:=aT ES;have J3:=b2.alloc b2.size (.cells #[.string x,.int .i64 ty,.int .i64 tt,.slice a2 ds.length c2] 42);have aQc:=(aJ w2.heap.size w2).alloc (aI _) (.cells #[.string x,.int .i64 ty,.int .i64 tt,.slice a2 ds.length c2] 42);have S2:=Sx.below J3;have kx2:=aB kx J3;have rs2:=aA S2.s
   have rx2:=aA kx2
   have kw2:=aK w2 #[.string x,.int .i64 ty,.int .i64 tt,.slice a2 ds.length c2] 42;have rw2:=aA kw2
   have hls:=Ep _ _ ds _ ((Nm.bP.aP ES).below aQc) (hpx.below J3);have htt:(tt != tt)=false:=hnn tt;clear hfs ES b2 J3 aQc Sx kx rx rsx rzx rs d0 d1 d2 d3 hpx;go_wp2_with fail
   refine hls.mono ?_;rintro e w3 ⟨rfl,b3⟩;have S3:=S2.below b3;have rx3:=aA (aB kx2 b3)
   have rw3:=aA (aB kw2 b3)
   clear hls b3 S2 kx2 rs2 rx2 kw2 rw2;go_wp2;go_roundw
   ·exact⟨j+1,bY,by go_num,S3⟩
   simp [intOf];omega
 have n2:¬(j:Int)<(qs.length:Int):=by omega
 clear HFS bY HNM;have mK:=HF.out.kl
 by_cases e8:kd=8
 ·subst e8;obtain⟨h1,h2⟩:=HF.out.k8 rfl;rw [HT.out] at h1;subst h1
  have hm:=HAM.out (xB iK) (by
   have:(xB iK).size=2+iK.size:=by simp [xB];rfl
   unfold maxLen;omega) wr S
  rw [h2] at hm;have rn:=aA S.d
  clear HF HAM HX HQ h2 mK;go_wp2_with fail
  refine hm.mono ?_;rintro e w2 ⟨rfl,b2⟩;have S2:=S.below b2;clear hm b2 S rs rn;go_wp2;go_ret;exact⟨rfl,S2.b⟩
 have c8:(kd==8)=false:=beq_eq_false_iff_ne.2 e8
 by_cases e2:kd=2
 ·subst e2;obtain⟨s,hs,hu,ht,xZ⟩:=HF.out.k2 rfl;have hq:=HQ.out;rw [show ss=[s] from hs] at hq;have hL1:qs.length=1:=by rw [JW hq];rfl
  obtain⟨uu,rfl⟩:=RF hq;have qA:=(HX.out 0 _ rfl).1;rw [hL1] at S rs n2;obtain⟨b,off,rfl,-⟩:=JX S.r
  have HST:Hid (∀ W,LkS w zb sb nb o tgt iK cut (.slice va ps.length vc) (.slice (some ⟨b,off,none⟩) 1 c3) u (.slice ta nty.length tc) 2 nk wild ps [(s,uu)] N W->W.cell? ⟨sb,1,none⟩=some (.slice (some ⟨b,off,none⟩) 1 c3)∧W.cell? ⟨b,off,none⟩=some (.string s.own)∧W.cell? ⟨b,off+1,none⟩=some (.int .i64 2)∧W.cell? ⟨zb,0,none⟩=some (.string o)):=fun W hW=>by
   obtain⟨b',off',e,q1,q2,-⟩:=JX hW.r;simp only [mV,Addr.mk.injEq,and_true] at e;obtain⟨rfl,rfl⟩:=e;rw [ht] at q2;exact⟨(aA hW.s 1).trans rfl,q1,q2,(aA hW.k 0).trans rfl⟩
  have Cj:=fun W=>iA name s.own W (by unfold maxLen;omega) (by unfold maxLen;simp only at qA;omega)
  have xK:=fun W=>gM s.own o W (by unfold maxLen;simp only at qA;omega) (by unfold maxLen;omega)
  rw [hu] at Cj;rw [xZ] at xK;have S1:=S.below (aJ _ _).drew;have MJ:=HST.out _ S1;clear HF HAM HX HQ mK hs ht xZ hu qA hq e8 hj HT;generalize s.own=x at*;go_wp2_with fail
  refine kR (fun X=>X.cell? ⟨sb,1,none⟩=some (.slice (some ⟨b,off,none⟩) 1 c3)∧X.cell? ⟨b,off,none⟩=some (.string x)∧X.cell? ⟨b,off+1,none⟩=some (.int .i64 2)∧X.cell? ⟨zb,0,none⟩=some (.string o)) 1000 MJ fun aY=>?_;refine kB 0 rfl ?_;refine kB 1 rfl ?_;refine kB 2 rfl ?_;refine kB 3 rfl ?_;refine kB 4 rfl ?_;refine kB 5 rfl ?_;refine kB 6 rfl ?_;refine kB 7 rfl ?_;refine kB 8 rfl ?_;refine kB 9 rfl ?_;refine kB 10 rfl ?_;refine k1 11 rfl fun K hK=>?_
  go_simp;refine(Cj _).mono ?_;rintro e w2 ⟨rfl,b2⟩;have S2:=S1.below b2;have Yd:=HST.out _ S2;clear b2 S1 MJ Cj;go_wp2_with fail
  refine hK.out _ _ Yd fun aY=>?_;clear hK K;refine kB 12 rfl ?_;refine kB 13 rfl ?_;refine kB 14 rfl ?_;refine kB 15 rfl ?_;refine kB 16 rfl ?_;refine kB 17 rfl ?_;refine kB 18 rfl ?_;refine kB 19 rfl ?_;refine kB 20 rfl ?_;refine kB 21 rfl ?_;refine kB 22 rfl ?_;refine kB 23 rfl ?_;refine kB 24 rfl ?_;refine kB 25 rfl ?_;refine kB 26 rfl ?_;refine kB 27 rfl ?_;refine kB 28 rfl ?_;refine k1 29 rfl fun K hK=>?_
  go_simp;refine(xK _).mono ?_;rintro e w3 ⟨rfl,b3⟩;have S3:=S2.below b3;have Hd:=HST.out _ S3;clear b3 S2 Yd xK;go_wp2_with fail
  refine hK.out _ _ Hd fun aY=>?_;clear hK K;refine kB 30 rfl ?_;refine kB 31 rfl ?_;refine kB 32 rfl ?_;refine kN ?_;have bR:=S3.b;clear aY Hd S3 HST
  try go_simp
  go_wp2;go_ret;exact⟨rfl,bR⟩
 have c2:(kd==2)=false:=beq_eq_false_iff_ne.2 e2
 by_cases e3:kd=3
 ·subst e3;obtain⟨h0,h1⟩:=HF.out.k3 rfl;have hl0:(0:Int)<(qs.length:Int):=by rw [JW HQ.out];exact Int.ofNat_lt.2 h0
  have bR:=S.b
  by_cases hq:q=255
  ·subst hq;clear HF HAM HX HQ mK h0 h1 S;go_wp2;go_ret;exact⟨rfl,bR⟩
  have cq:(q==255)=false:=beq_eq_false_iff_ne.2 hq
  obtain⟨s,hs,ht⟩:=h1.resolve_left hq;have uB:=HQ.out;rw [show ss=[s] from hs] at uB;have hL1:qs.length=1:=by rw [JW uB];rfl
  obtain⟨uu,rfl⟩:=RF uB;rw [hL1] at S rs n2;obtain⟨b,off,rfl,-,q2,-⟩:=JX S.r;rw [ht] at q2;clear HF HAM HX HQ mK h0 h1 S hs ht uB;go_wp2;go_ret;exact⟨rfl,bR⟩
 have c3':(kd==3)=false:=beq_eq_false_iff_ne.2 e3
 by_cases e6:kd=6
 ·subst e6;obtain⟨s,hs,hu,hT,MM⟩:=HF.out.k6 rfl;rw [HT.out] at hT;subst hT;have hq:=HQ.out;rw [show ss=[s] from hs] at hq;have hL1:qs.length=1:=by rw [JW hq];rfl
  obtain⟨uu,rfl⟩:=RF hq;have qA:=(HX.out 0 _ rfl).1;rw [hL1] at S rs n2;obtain⟨b,off,rfl,q1,-⟩:=JX S.r;have Cj:=fun W=>iA name s.own W (by unfold maxLen;omega) (by unfold maxLen;simp only at qA;omega)
  rw [hu] at Cj
  have htz:tgt.size<=255:=by
   obtain⟨zs,hz⟩:=Option.isSome_iff_exists.1 MM;exact(Nm.dK hz).2
  have gI:=fun W=>iM tgt W (by unfold maxLen;omega)
  rw [show(Nm.split tgt).isSome=true from MM] at gI;clear HF HAM HX HQ mK hs MM hu qA hq e8 hj HT htz;generalize s.own=x at*;go_wp2_with fail
  refine(Cj _).mono ?_;rintro e w2 ⟨rfl,b2⟩;have S2:=S.below b2;have rs2:=aA S2.s
  clear b2 S rs q1 Cj;go_wp2_with fail
  refine(gI _).mono ?_;rintro e w3 ⟨rfl,b3⟩;have S3:=S2.below b3;have bR:=S3.b;clear b3 S2 rs2 gI S3;go_wp2;go_ret;exact⟨rfl,bR⟩
 have c6:(kd==6)=false:=beq_eq_false_iff_ne.2 e6
 by_cases e4:kd=4
 ·subst e4;obtain⟨s,hs,hd,h5⟩:=HF.out.k4 rfl;have hq:=HQ.out;rw [show ss=[s] from hs] at hq;have hL1:qs.length=1:=by rw [JW hq];rfl
  obtain⟨uu,rfl⟩:=RF hq;have cq:(q != 5)=true:=by simp [h5]
  rw [hL1] at S rs n2;have S1:=S.below (aJ _ _).drew;obtain⟨b,off,rfl,q1,q2,q3,q4⟩:=JX S1.r;obtain⟨da,dc,rfl,_,_,_,hdc⟩:=q4;have nV:0<s.da.length:=(dL hd).1;obtain⟨db,Fv,rfl,JR⟩:=hdc (by intro e;rw [e] at nV;simp at nV);have d0:=JR 0 _ hd;rw [Nat.add_zero] at d0;have MJ:wr.drew.cell? ⟨sb,1,none⟩=some (.slice (some ⟨b,off,none⟩) 1 c3)∧wr.drew.cell? ⟨b,off+3,none⟩=some (.slice (some ⟨db,Fv,none⟩) s.da.length dc)∧wr.drew.cell? ⟨db,Fv,none⟩=some (.string tgt)∧wr.drew.cell? ⟨sb,3,none⟩=some (.string tgt):=⟨(aA S1.s 1).trans rfl,q3,d0,(aA S1.s 3).trans rfl⟩;have bR:=S1.b;clear HF HAM HX HQ mK hs hd hq e8 hj HT q1 q2 q3 S S1 hdc JR d0;generalize s.da.length=dl at*;go_wp2_with fail
  refine kR (fun X=>X.cell? ⟨sb,1,none⟩=some (.slice (some ⟨b,off,none⟩) 1 c3)∧X.cell? ⟨b,off+3,none⟩=some (.slice (some ⟨db,Fv,none⟩) dl dc)∧X.cell? ⟨db,Fv,none⟩=some (.string tgt)∧X.cell? ⟨sb,3,none⟩=some (.string tgt)) 1000 MJ fun aY=>?_;refine kB 0 rfl ?_;refine kB 1 rfl ?_;refine kB 2 rfl ?_;refine kB 3 rfl ?_;refine kB 4 rfl ?_;refine kB 5 rfl ?_;refine kB 6 rfl ?_;refine kB 7 rfl ?_;refine kB 8 rfl ?_;refine kB 9 rfl ?_;refine kB 10 rfl ?_;refine kB 11 rfl ?_;refine kB 12 rfl ?_;refine kB 13 rfl ?_;refine kB 14 rfl ?_;refine kB 15 rfl ?_;refine kB 16 rfl ?_;refine kB 17 rfl ?_;refine kB 18 rfl ?_;refine kB 19 rfl ?_;refine kB 20 rfl ?_;refine kN ?_;clear aY MJ
  try go_simp
  go_wp2;go_ret;exact⟨rfl,bR⟩
 have c4:(kd==4)=false:=beq_eq_false_iff_ne.2 e4
 have bR:=S.b
 by_cases h15:kd=1∨kd=5
 ·have hs:ss=[]:=HF.out.kk h15;have hL0:qs.length=0:=by rw [JW HQ.out,hs];rfl
  rw [hL0] at rs n2;clear HF HAM HX HQ mK hs h15 S hj;go_wp2;go_ret;exact⟨rfl,bR⟩
 have e7:kd=7:=by simp only at mK;omega
 subst e7;clear HF HAM HX HQ mK h15 S hj
 by_cases IK:qs.length=0
 ·rw [IK] at rs n2;go_wp2;go_ret;exact⟨rfl,bR⟩
 have cq:((qs.length:Int)==0)=false:=by rw [fC];omega
 go_wp2;go_ret;exact⟨rfl,bR⟩
