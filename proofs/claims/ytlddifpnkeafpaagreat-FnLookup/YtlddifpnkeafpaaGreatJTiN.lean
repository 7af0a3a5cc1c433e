import Derived.Test.YtlddifpnkeafpaaGreatJBzA
import Derived.Test.YtlddifpnkeafpaaGreatJZbLb
set_option linter.unusedVariables false
set_option maxRecDepth 100000
set_option maxHeartbeats 800000
namespace Go.Proofs.YtlddifpnkeafpaaGreat
open Go.RowKit
variable {a b lab ls:List ByteArray}{l:List It}{o:ByteArray}{os:List dG}{ps:List Zp}{t:Int}{w:World}{xs ys:List Sz}
theorem rJ.nm(h:rJ l os)(hl:∀ y∈l,iN y){o:dG}(ho:o∈os):Nm.split o.nm=some o.lab:=by
 obtain⟨i,x,hF,h1,h2⟩:=h.own o ho;rw [h1,h2];exact(hl x hF.mem).1
def Ci(a b:Sz):Bool:=decide (a.own=b.own)&&decide (a.ty=b.ty)&&decide (a.tt=b.tt)&&decide (a.da=b.da)
theorem QP{a b:Sz}:Ci a b=true↔a=b:=by
 obtain⟨a1,a2,a3,a4⟩:=a;obtain⟨b1,b2,b3,b4⟩:=b;simp only [Ci,Bool.and_eq_true,decide_eq_true_eq,Sz.mk.injEq];constructor
 ·rintro⟨⟨⟨h1,h2⟩,h3⟩,h4⟩;exact⟨h1,h2,h3,h4⟩
 rintro⟨h1,h2,h3,h4⟩;exact⟨⟨⟨h1,h2⟩,h3⟩,h4⟩
def FP:List Sz->List Sz->Bool
 |[],[]=>true
 |a::xs,b::ys=>Ci a b&&FP xs ys
 |_,_=>false
theorem JH:∀ {xs ys:List Sz},FP xs ys=true↔xs=ys
 |[],[]=>by simp [FP]
 |[],b::ys=>by simp [FP]
 |a::xs,[]=>by simp [FP]
 |a::xs,b::ys=>by
  rw [FP,Bool.and_eq_true,QP,JH];simp
theorem Ue(hl:xs.length=ys.length)(h:∀ (j:Nat) (a b:Sz),xs[j]? =some a->ys[j]? =some b->a=b):FP xs ys=true:=by
 rw [JH];apply List.ext_getElem?;intro j
 by_cases hj:j<xs.length
 ·have h1:xs[j]? =some xs[j]:=gF hj;have h2:ys[j]? =some ys[j]:=gF (by omega);rw [h1,h2,h j _ _ h1 h2]
 rw [List.getElem?_eq_none (by omega),List.getElem?_eq_none (by omega)]
theorem Uf{j:Nat}{a b:Sz}(h1:xs[j]? =some a)(h2:ys[j]? =some b)(h:Ci a b=false):FP xs ys=false:=by
 cases hq:FP xs ys
 ·rfl
 rw [JH] at hq;subst hq;rw [h1] at h2;obtain rfl:=jI h2;rw [QP.2 rfl] at h;cases h
theorem Ug(h:xs.length≠ys.length):FP xs ys=false:=by
 cases hq:FP xs ys
 ·rfl
 rw [JH] at hq;subst hq;exact absurd rfl h
def AO(ps:List Zp)(o:ByteArray):Bool:=decide ((iX (aR ps) o).1=0)&&FP (zI (aR ps)) (ps.map (·.1))
theorem aF1(o:ByteArray):(iX [] o).1≠0:=by
 rw [iX];split
 ·decide
 rw [if_neg (by simp)];have h1:gB o [] 0=none:=rfl;have h2:vY ([].map bH)= -1:=rfl;rw [h1];simp only
 rw [h2,if_neg (by decide)];have h3:fZ (bK []) (Nm.dV o)=(20,-1):=rfl;rw [h3];decide
theorem Lr(h:500<ps.length∨500<jQ ps):AO ps o=false:=by
 rw [AO,aR,if_pos h,oF (aF1 o)];rfl
theorem qR(h:AO ps o=true):(iX (aR ps) o).1=0∧zI (aR ps)=ps.map (·.1):=by
 simp only [AO,Bool.and_eq_true,decide_eq_true_eq] at h;exact⟨h.1,JH.1 h.2⟩
theorem Uh{N:Nat}(h:∀ p∈ps,p.1.own.size<=N∧∀ x∈p.1.da,x.size<=N):∀ r∈aR ps,r.own.size<=N∧r.da.size<=N:=by
 intro r hr;unfold aR at hr
 split at hr
 ·cases hr
 simp only [gD,iW,List.mem_flatMap,List.mem_map] at hr;obtain⟨p,hp,d,hd,rfl⟩:=hr;exact⟨(h p hp).1,(h p hp).2 d hd⟩
theorem pE(h:Nm.aN a b=0):aQ a b=true:=by
 rw [JA h (b:=b) (b':=b) ((lM _ _).2 rfl),aQ];simp [(lM b b).2 rfl]
def mJ(ls:List ByteArray):ByteArray:=⟨(Nm.joinL ls).toArray⟩
theorem vQ{s:ByteArray}(h:Nm.split s=some ls):mJ ls=s:=by
 rw [mJ,(Nm.jB h).1]
def Gl(ls:List ByteArray):Prop:=(∀ x∈ls,1<=x.size∧x.size<=63)∧Nm.cK ls<=254
theorem iP{s:ByteArray}(h:Nm.split s=some ls):Gl ls:=⟨(Nm.jB h).2,by have:=Nm.dK h;omega⟩
theorem Gl.drop(h:Gl ls)(k:Nat):Gl (ls.drop k):=⟨Iu h.1 k,jN (Nm.pG ls k) h.2⟩
theorem Gl.jo(h:Gl ls):Nm.split (mJ ls)=some ls:=qI h.1 h.2
theorem Gl.tail{x:ByteArray}(h:Gl (x::ls)):Gl ls:=h.drop 1
theorem QQ(h:Gl ls):(mJ ls).size<=255:=by
 have h1:=h.2;have h2:=Nm.mW ls;simp [mJ,ByteArray.size]
 omega
theorem aLp(ha:Gl a)(hb:Gl b)(h:mJ a=mJ b):a=b:=by
 have h1:=ha.jo;rw [h,hb.jo] at h1;exact(jI h1).symm
theorem dJ:aQ a b=true↔b.length<=a.length∧Nm.aN (a.drop (a.length-b.length)) b=0:=by
 rw [aQ];simp
theorem NU(h:aQ a b=true){k:Nat}(hk:k+b.length<=a.length):aQ (a.drop k) b=true:=by
 obtain⟨h1,h2⟩:=dJ.1 h;refine dJ.2 ⟨by simp;omega,?_⟩;rw [List.drop_drop,List.length_drop,show k+(a.length-k-b.length)=a.length-b.length by omega];exact h2
theorem R6{al:List ByteArray}(hz:AO ps o=true)(ha:Nm.split o=some al):∃ p∈ps,∃ xs,Nm.split p.1.own=some xs∧Nm.aN xs al=0:=by
 have h0:=(qR hz).1;rw [iX,if_neg (by rw [ha];simp)] at h0
 split at h0
 ·exact absurd h0 (by simp)
 cases hb:gB o (aR ps) 0 with
 |some c=>rw [hb] at h0;exact absurd h0 (QN _ _ c.1 c.2 hb)
 |none=>
  rw [hb] at h0;simp only at h0
  split at h0
  ·exact absurd h0 (by simp)
  split at h0
  ·rename_i h1;exact absurd h0 h1
  rename_i h1;have h1:(fZ (bK (aR ps)) (Nm.dV o)).1=0:=by simpa using h1
  have hg:∀ y∈(aR ps).map bH,iN y:=by
   intro y hy;obtain⟨r,hr,rfl⟩:=kJ hy;exact CP (Ce (CQ _ _ hb r hr)).1
  have h6:gZ (bK (aR ps)) (Nm.dV o) 6=true:=by
   rw [fZ] at h1
   split at h1
   ·exact absurd h1 (by simp)
   split at h1
   ·exact absurd h1 (by simp)
   rename_i h2;simpa using h2
  obtain⟨y,hy,e1,-⟩:=(Bj hg _ _).1 h6;have VM:=hg y hy;obtain⟨r,hr,rfl⟩:=kJ hy;rw [aR] at hr
  split at hr
  ·cases hr
  obtain⟨p,hp,hr⟩:=List.mem_flatMap.1 hr;obtain⟨d,-,rfl⟩:=kJ hr;have hs:Nm.split p.1.own=some _:=VM.1;exact⟨p,hp,_,hs,(CJ hs ha).1 e1⟩
structure TZ (os:List dG) (o:ByteArray) (al:List ByteArray):Prop where
 nm:∀ q∈os,Nm.split q.nm=some q.lab
 und:∀ q∈os,aQ q.lab al=true
 one:∀ q∈os,∀ r∈os,Nm.aN q.lab r.lab=0->q=r
 iT:Jz os∧∀ q∈os,VE q.ss
 full:∀ q∈os,∃ s,s∈q.ss
 ap:Nm.split o=some al
 top:∃ q∈os,Nm.aN q.lab al=0
theorem aF2{al:List ByteArray}(hT:rJ l os)(hl:∀ y∈l,iN y)(hu:∀ y∈l,cZ y.r.own o=true)(ha:Nm.split o=some al)(hz:AO ps o=true)(uO:ps.map (·.1)=eH os):TZ os o al:=by
 have WJ:=fun q (hq:q∈os)=>hT.nm hl hq
 refine⟨WJ,fun q hq=>?_,fun q hq r hr e=>hT.one hq hr e,⟨hT.sorted.1,fun q hq=>(hT.sorted.2 q hq).1⟩,fun q hq=>?_,ha,?_⟩
 ·obtain⟨i,x,hF,h1,h2⟩:=hT.own q hq;have:=hu x hF.mem;rw [<- h1,bZ (WJ q hq) ha] at this;exact this
 ·obtain⟨i,x,hF,h1,h2⟩:=hT.own q hq;obtain⟨q2,zT,h3,s,hs,-⟩:=hT.cov x hF.mem;have h4:Nm.aN (gN x) q.lab=0:=hF.2.1;have h5:Nm.aN (gN x) q2.lab=0:=h3;have e:=hT.one hq zT (by rw [dB (iC h4)];exact h5);rw [e];exact⟨s,hs⟩
 obtain⟨p,hp,xs,h1,h2⟩:=R6 hz ha;have hm:p.1∈eH os:=by rw [<- uO];exact List.mem_map_of_mem hp
 obtain⟨g,hg,e⟩:=kJ hm;have mD:=(fT.1 hg).1;refine⟨g.1,mD,?_⟩;have h3:=WJ g.1 mD;rw [<- e] at h1;have h4:Nm.split g.1.nm=some xs:=h1;rw [h3] at h4;rw [jI h4];exact h2
def wZ(ps:List Zp)(o name:ByteArray):Bool:=cZ name o&&ps.any fun p=>cZ p.1.own name
theorem QR(o name:ByteArray)(v:Value)(ps:List Zp)(w:World)(h:gG w v ps)(hf:∀ p∈ps,p.1.own.size<=1048576)(hn:name.size<=maxLen)(ho:o.size<=maxLen):
 Calls Tryz.prog 50 #[.agg #[.string o,v],.string name] w fun e w'=>e=.returned (.bool (wZ ps o name))∧Below w.heap.size w w':=by
 obtain⟨va,vc,rfl⟩:=mX h;have b0:=(aJ w.heap.size w).alloc (aI _) (.cells #[.string o,.slice va ps.length vc] 25);have k0:=aK w #[.string o,.slice va ps.length vc] 25;have FQ:=iA name o (w.alloc (.cells #[.string o,.slice va ps.length vc] 25)) hn ho;have HU:=Nm.aD (fun(x:ByteArray) (hx:x.size<=1048576) W=>iA x name W (by unfold maxLen;omega) hn);have HZ:=Nm.aD (fun W (hW:Below w.heap.size w W)=>h.below hW);have HF:=Nm.aD hf;have r0:=aA k0
 have RG:ps.length<=maxLen:=by obtain⟨⟨_,a,c,e,h1,h2,_⟩,_⟩:=h;simp only [gK] at e;omega
 unfold maxLen at RG;obtain⟨R,hR⟩:∃ R,R=wZ ps o name:=⟨_,rfl⟩;rw [<- hR];rw [wZ] at hR;clear h hf;cases xR:cZ name o
 ·rw [xR] at FQ hR;have HR:Hid (R=false):=hR;clear xR hR;go_enter Tryz.func50,Tryz.ntmps50;go_wp2_with fail
  refine FQ.mono ?_;rintro e w1 ⟨rfl,b1⟩;go_wp2;go_ret;exact⟨by rw [HR.out];rfl,Nm.aC b0 b1⟩
 rw [xR] at FQ hR;have HR:Hid (R=ps.any fun p=>cZ p.1.own name):=by show _=_;rw [hR];rfl
 clear xR hR;go_enter Tryz.func50,Tryz.ntmps50;go_wp2_with fail
 refine FQ.mono ?_;rintro e w1 ⟨rfl,b1⟩;have k1:=aB k0 b1;have gP:=Nm.aC b0 b1;clear FQ k0 r0 b0 b1;go_wp2
 go_loopw [5] (fun i wr=>∃ (j:Nat),j<=ps.length∧i=.int .i64 j∧Below w.heap.size w wr∧bW wr w.heap.size #[.string o,.slice va ps.length vc] 25∧∀ i p,i<j->ps[i]? =some p->cZ p.1.own name=false) (fun i _=>ps.length-(intOf i).toNat)
 ·exact⟨0,dR _,rfl,gP,k1,fun i p hi=>by omega⟩
 clear k1 gP;obtain⟨j,hj,rfl,hb,kz,gI⟩:=hrel;have EW:=Nm.aD gI;have rz:=aA kz
 clear gI
 by_cases bY:j<ps.length
 ·obtain⟨q,hq⟩:=gQ bY;obtain⟨⟨_,a9,c9,e9,_,_,CR⟩,NV⟩:=HZ.out _ hb;simp only [gK] at e9;obtain⟨rfl,_,rfl⟩:=e9;obtain⟨b,off,rfl,aH⟩:=CR (by omega);obtain⟨d0,d1,d2,d3⟩:=iE aH hq;have hqm:=dA hq;have Cj:=HU.out q.1.own (HF.out q hqm) wr;have n1:=fE j
  have n2:(j:Int)<(ps.length:Int):=by omega
  have HQ:=Nm.aD (aV hq hqm);clear CR NV aH hq hqm d1 d2 d3
  cases xR:cZ q.1.own name with
  |true=>
   rw [xR] at Cj;have HT:Hid (R=true):=by show _=_;rw [HR.out,List.any_eq_true];exact⟨q,HQ.out.2,xR⟩
   clear xR;go_wp2_with fail
   refine Cj.mono ?_;rintro e w2 ⟨rfl,b2⟩;go_wp2;go_ret
   exact⟨by rw [HT.out];rfl,Nm.aC hb b2⟩
  |false=>
   rw [xR] at Cj
   have HN:Hid (∀ i p,i<j+1->ps[i]? =some p->cZ p.1.own name=false):=fun i p hi hp=>by
    rcases Nat.lt_or_ge i j with h1|h1
    ·exact EW.out i p h1 hp
    obtain rfl:i=j:=by omega
    rw [HQ.out.1] at hp;obtain rfl:=jI hp;exact xR
   clear xR;go_wp2_with (go_at_call 12;refine Cj.mono ?_;rintro e w2 ⟨rfl,b2⟩)
   go_roundw
   ·exact⟨j+1,bY,by go_num,Nm.aC hb b2,aB kz b2,HN.out⟩
   simp [intOf];omega
 obtain rfl:j=ps.length:=by omega
 have HT:Hid (R=false):=by
  show _=_
  rw [HR.out,List.any_eq_false];intro p hp;obtain⟨i,hi⟩:=List.getElem?_of_mem hp;rw [EW.out i p (dL hi).1 hi];decide
 go_wp2;go_ret;exact⟨by rw [HT.out];rfl,hb⟩
def lS(ss:List Sz)(name:ByteArray)(t:Int):Option Sz:=ss.find? fun s=>decide (s.ty=t)&&eQ s.own name
theorem G8{name:ByteArray}(hn:Nm.split name=some lab)(WJ:∀ o∈os,Nm.split o.nm=some o.lab):∀ g∈NM os,(decide ((mO g).ty=t)&&eQ (mO g).own name)=(decide (g.2.ty=t)&&decide (Nm.aN g.1.lab lab=0)):=by
 intro g hg;obtain⟨h1,h2⟩:=fT.1 hg;simp only [mO];rw [nC (WJ g.1 h1) hn];congr 1
theorem aJc(hT:rJ l os)(hl:∀ y∈l,iN y){name:ByteArray}(hn:Nm.split name=some lab){o:dG}{s:nY}(ho:o∈os)(hs:s∈o.ss)(h1:Nm.aN o.lab lab=0)(h2:s.ty=t):lS (eH os) name t=some (mO (o,s)):=by
 have WJ:=fun o ho=>hT.nm hl (o:=o) ho
 rw [lS,eH,List.find?_map]
 have e:(NM os).find? ((fun s=>decide (s.ty=t)&&eQ s.own name)∘mO)=some (o,s):=by
  obtain⟨i,g,hF⟩:=iJ.ex (P:=fun g:dG×nY=>g.2.ty=t∧Nm.aN g.1.lab lab=0) (l:=NM os) ⟨(o,s),fT.2 ⟨ho,hs⟩,h2,h1⟩;have hg:=fT.1 hF.mem;have e1:g.1=o:=hT.one hg.1 ho (by rw [bQ (iC h1)|>.symm];exact hF.2.1.2);have e2:g.2=s:=(hT.sorted.2 o ho).1.one (by rw [<- e1];exact hg.2) hs (by rw [hF.2.1.1,h2]);have e3:g=(o,s):=by rw [<- e1,<- e2]
  rw [<- e3];refine hF.find _ fun y hy=>?_
  show(decide ((mO y).ty=t)&&eQ (mO y).own name)=true↔_
  rw [G8 hn WJ y hy];simp
 rw [e];rfl
theorem aF3{name:ByteArray}(hn:Nm.split name=some lab)(WJ:∀ o∈os,Nm.split o.nm=some o.lab)(h:∀ o∈os,Nm.aN o.lab lab=0->∀ s∈o.ss,s.ty≠t):lS (eH os) name t=none:=by
 rw [lS,List.find?_eq_none];intro z hz;obtain⟨g,hg,rfl⟩:=kJ hz;have hg':=fT.1 hg;rw [G8 hn WJ g hg];simp only [Bool.and_eq_true,decide_eq_true_eq,not_and];intro h1 h2;exact h g.1 hg'.1 h2 g.2 hg'.2 h1
def Ck:Sz:=⟨⟨#[]⟩,0,0,[]⟩
def G9(r:Option Sz)(w:World)(e:Ending)(w':World):Prop:=∃ v,e=.returned (.tuple #[.agg #[.string (r.getD Ck).own,.int .i64 (r.getD Ck).ty,.int .i64 (r.getD Ck).tt,v],.bool r.isSome])∧w'.ownsRow w.heap.size 9 1 v (r.getD Ck).da.length ((r.getD Ck).da.map Value.string)∧Below w.heap.size w w'
theorem JI{w':World}(h:Below w.heap.size w w'):G9 none w (.returned (.tuple #[.agg #[.string ⟨#[]⟩,.int .i64 0,.int .i64 0,.slice none 0 0],.bool false])) w':=
 ⟨_,rfl,World.ownsRow_nil _ _ _ _,h⟩
theorem pY{w2:World}{b B n:Nat}{x:ByteArray}{ty tt:Int}{v:Value}{xs:List Value}(k:bW w2 b #[.string ⟨#[]⟩,.int .i64 0,.int .i64 0,.slice none 0 0] 42)(ho:w2.ownsRow B 9 1 v n xs)(dM:v.ownBlock≠some b)(hb:Below w.heap.size w w2)(EM:w.heap.size<=b):
 bW ((((w2.setCell ⟨b,0,none⟩ (.string x)).setCell ⟨b,1,none⟩ (.int .i64 ty)).setCell ⟨b,2,none⟩ (.int .i64 tt)).setCell ⟨b,3,none⟩ v) b #[.string x,.int .i64 ty,.int .i64 tt,v] 42∧
 ((((w2.setCell ⟨b,0,none⟩ (.string x)).setCell ⟨b,1,none⟩ (.int .i64 ty)).setCell ⟨b,2,none⟩ (.int .i64 tt)).setCell ⟨b,3,none⟩ v).ownsRow B 9 1 v n xs∧
 Below w.heap.size w ((((w2.setCell ⟨b,0,none⟩ (.string x)).setCell ⟨b,1,none⟩ (.int .i64 ty)).setCell ⟨b,2,none⟩ (.int .i64 tt)).setCell ⟨b,3,none⟩ v):=by
 have k4:=aM (aM (aM (aM k 0 (.string x)) 1 (.int .i64 ty)) 2 (.int .i64 tt)) 3 v;simp only [List.setIfInBounds_toArray,List.set_cons_zero,List.set_cons_succ] at k4;have BQ:=dY (y:=v) (i:=3) (g:=b) (dY (y:=.int .i64 tt) (i:=2) (g:=b) (dY (y:=.int .i64 ty) (i:=1) (g:=b) (dY (y:=.string x) (i:=0) (g:=b) ho dM) dM) dM) dM;exact⟨k4,BQ,(((hb.setCell (p:=⟨b,0,none⟩) EM (.string x)).setCell (p:=⟨b,1,none⟩) EM (.int .i64 ty)).setCell (p:=⟨b,2,none⟩) EM (.int .i64 tt)).setCell (p:=⟨b,3,none⟩) EM v⟩
def bzO(list:List Rr)(aL:ByteArray):ByteArray:=if(iX list aL).1=0 then aL else ByteArray.empty
def bzZ(list:List Rr)(aL:ByteArray):List Sz:=if(iX list aL).1=0 then zI list else []
def bzI(list:List Rr)(aL:ByteArray):Int:=if(iX list aL).1=0 then 0 else(iX list aL).2
theorem aLq{list:List Rr}{aL:ByteArray}{w':World}{e:Ending}(h:Lp list aL w e w'):∃ a c ps,e=.returned (.tuple #[.agg #[.string (bzO list aL),.slice a ps.length c],.int .i64 (iX list aL).1,.int .i64 (bzI list aL)])∧ps.map (·.1)=bzZ list aL∧dF w' w.heap.size (.slice a ps.length c) ps∧Below w.heap.size w w':=by
 obtain⟨hb,h0,h1⟩:=h
 by_cases hc:(iX list aL).1=0
 ·obtain⟨v,ps,rfl,hp,hz⟩:=h0 hc;obtain⟨a,c,rfl⟩:=aT hz.outer;exact⟨a,c,ps,by rw [bzO,bzI,if_pos hc,if_pos hc,hc],by rw [bzZ,if_pos hc];exact hp,hz,hb⟩
 exact⟨none,0,[],by rw [h1 hc,bzO,bzI,if_neg hc,if_neg hc];rfl,by rw [bzZ,if_neg hc];rfl,dF.nil _ _,hb⟩
