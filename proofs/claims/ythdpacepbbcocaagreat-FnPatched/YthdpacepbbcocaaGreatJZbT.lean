import Derived.Test.YthdpacepbbcocaaGreatJStI
set_option linter.unusedVariables false
set_option maxRecDepth 100000
set_option maxHeartbeats 3200000
namespace Go.Proofs.YthdpacepbbcocaaGreat
open Go.RowKit
def IR(l:List It)(x:It)(k:Nat)(f:Int):Prop:=
 (f= -1∧∀ (j:Nat) (y:It),j<k->l[j]? =some y->lV x y=false)∨∃ (j:Nat) (y:It),f=(j:Int)∧j<k∧l[j]? =some y∧lV x y=true∧∀ (i:Nat) (z:It),i<j->l[i]? =some z->lV x z=false
def PU(l:List It)(i:Nat)(b:Int):Prop:=
 (b= -1∧∀ (j:Nat) (y:It),j<i->l[j]? =some y->qO (l.take j) y=false)∨∃ (j:Nat) (y:It),b=(j:Int)∧j<i∧l[j]? =some y∧qO (l.take j) y=true∧∀ (k:Nat) (z:It),k<j->l[k]? =some z->qO (l.take k) z=false
theorem IR.skip{l:List It}{x y:It}{k:Nat}{f:Int}(h:IR l x k f)(hy:l[k]? =some y)(hn:lV x y=false):IR l x (k+1) f:=by
 rcases h with⟨e,h⟩|⟨j,z,e,hj,hz,hk,h⟩
 ·refine .inl ⟨e,fun j z hj hz=>?_⟩
  by_cases hjk:j=k
  ·subst hjk;rw [hy] at hz;obtain rfl:=gQ hz;exact hn
  exact h j z (by omega) hz
 exact .inr ⟨j,z,e,by omega,hz,hk,h⟩
theorem IR.first{l:List It}{x y:It}{k:Nat}(h:IR l x k (-1))(hy:l[k]? =some y)(hn:lV x y=true):IR l x (k+1) (k:Int):=by
 rcases h with⟨e,h⟩|⟨j,z,e,_⟩
 ·exact .inr ⟨k,y,rfl,by omega,hy,hn,h⟩
 omega
theorem IR.more{l:List It}{x:It}{k:Nat}{j:Nat}(h:IR l x k (j:Int)):IR l x (k+1) (j:Int):=by
 rcases h with⟨e,_⟩|⟨j',z,e,hj,hz,hk,h⟩
 ·omega
 exact .inr ⟨j',z,e,by omega,hz,hk,h⟩
theorem PU.skip{l:List It}{i:Nat}{b:Int}{x:It}(h:PU l i b)(hx:l[i]? =some x)(hn:b= -1->qO (l.take i) x=false):PU l (i+1) b:=by
 rcases h with⟨e,h⟩|⟨j,z,e,hj,hz,hk,h⟩
 ·refine .inl ⟨e,fun j z hj hz=>?_⟩
  by_cases hjk:j=i
  ·subst hjk;rw [hx] at hz;obtain rfl:=gQ hz;exact hn e
  exact h j z (by omega) hz
 exact .inr ⟨j,z,e,by omega,hz,hk,h⟩
theorem PU.first{l:List It}{i:Nat}{x:It}(h:PU l i (-1))(hx:l[i]? =some x)(hn:qO (l.take i) x=true):PU l (i+1) (i:Int):=by
 rcases h with⟨e,h⟩|⟨j,z,e,_⟩
 ·exact .inr ⟨i,x,rfl,by omega,hx,hn,h⟩
 omega
theorem PU.whole{l:List It}{b:Int}(h:PU l l.length b):b=sF l:=by
 unfold sF
 rcases h with⟨rfl,h⟩|⟨j,y,rfl,hj,hy,hm,h⟩
 ·rw [lI (fun i hi y hy=>h i y hi hy)]
 rw [mM (fun i hi z hz=>h i z hi hz) hy hm]
theorem aNc{l:List It}{x:It}{k:Nat}(h:IR l x k (-1)):qO (l.take k) x=false:=by
 rcases h with⟨_,h⟩|⟨j,z,e,_⟩
 ·rw [qO,MI h]
 omega
theorem aNd{l:List It}{x y:It}{k j:Nat}(h:IR l x k (j:Int))(hy:l[j]? =some y):qO (l.take k) x=decide (y.r.tt≠x.r.tt):=by
 rcases h with⟨e,_⟩|⟨j',z,e,hj,hz,hk,h⟩
 ·omega
 obtain rfl:j=j':=by omega
 rw [hy] at hz;obtain rfl:=gQ hz;rw [qO,vM hj hy hk h]
theorem Vt{w:World}{B T g cap k:Nat}{l:List It}{n:Nat}{x:It}(h:w.ownsRow B T 8 (.slice (some ⟨g,0,none⟩) n cap) n (fD l))(hl:l.length=n)(hx:l[k]? =some x):
 w.cell? ⟨g,k*8+1,none⟩=some (.int .i64 x.r.ty)∧w.cell? ⟨g,k*8+3,none⟩=some (.int .i64 x.r.tt)∧w.cell? ⟨g,k*8+5,none⟩=some (.string x.fo)∧w.cell? ⟨g,k*8+6,none⟩=some (.string x.dt)∧w.cell? ⟨g,k*8+7,none⟩=some (.bool x.out):=by
 have hk:=(dK hx).1;have c:=fun j (hj:j<8)=>(h.cellAt (k*8+j) (by omega)).trans (vL l k j x hx hj)
 exact⟨(c 1 (by decide)).trans rfl,(c 3 (by decide)).trans rfl,(c 5 (by decide)).trans rfl,(c 6 (by decide)).trans rfl,(c 7 (by decide)).trans rfl⟩
theorem xA{w:World}{B e s n:Nat}{v:Value}{xs:List Value}(h:w.ownsRow B e s v n xs)(k:Nat):(w.drewN k).ownsRow B e s v n xs:=own_below h (Go.below_drewN (aK _ _) _)
theorem aKj(x y:It):lV x y=((y.fo.toList==x.fo.toList)&&(y.r.ty==x.r.ty)):=by
 rw [lV,ba_eq]
 by_cases h:y.r.ty=x.r.ty<;>simp [h]
theorem Hd(v:Value)(l:List It)(B:Nat)(w:World)(h:w.ownsRow B 102 8 v l.length (fD l))(hB:B<=w.heap.size)(hl:l.length<=1000000):
 Calls Tryz.prog 64 #[v] w fun e w'=>e=.returned (.int .i64 (sF l))∧w'.ownsRow B 102 8 v l.length (fD (zB l))∧Below B w w':=by
 obtain⟨a,cap,rfl⟩:=aT h;go_enter Tryz.func64,Tryz.ntmps64;go_wp2
 go_loopw [3,4] (fun vb vi wr=>∃ (i:Nat) (b:Int),i<=l.length∧vi=.int .i64 i∧vb=.int .i64 b∧ -1<=b∧PU l i b∧wr.ownsRow B 102 8 (.slice a l.length cap) l.length (fD (pY l i 0))∧Below B w wr) (fun _ vi _=>l.length-(intOf vi).toNat)
 case atStart=>exact⟨0,-1,dO _,rfl,rfl,by omega,.inl ⟨rfl,fun j y hj=>by omega⟩,by rw [Ur];exact h,aK _ _⟩
 obtain⟨i,b,hi,rfl,rfl,fF,aKk,aU,aJ⟩:=hrel;have HBAD:=Nm.aF aKk;clear h aKk
 by_cases bV:i<l.length
 ·obtain⟨x,hx⟩:∃ x,l[i]? =some x:=⟨_,bY bV⟩;have HX:=Nm.aF hx;clear hx;have i0:(i:Int)<(l.length:Int):=by omega
  have i00:(0:Int)<=(i:Int):=by omega
  obtain⟨g,rfl⟩:∃ g,a=some ⟨g,0,none⟩:=by
   rcases aU.2 with⟨_,h0⟩|⟨g,cap',cur,e,_⟩
   ·omega
   simp only [iG] at e;exact⟨g,e.1⟩
  go_wp2
  go_loopw [5,6] (fun vf vk wr2=>∃ (k:Nat) (f:Int),k<=i∧vk=.int .i64 k∧vf=.int .i64 f∧ -1<=f∧f<i∧Hid (IR l x k f)∧wr2.ownsRow B 102 8 (.slice (some ⟨g,0,none⟩) l.length cap) l.length (fD (pY l i k))∧Below B w wr2) (fun _ vk _=>i-(intOf vk).toNat)
  case atStart=>exact⟨0,-1,dO _,rfl,rfl,by omega,by omega,.inl ⟨rfl,fun j y hj=>by omega⟩,aU,aJ⟩
  clear aU aJ;obtain⟨k,f,hk,rfl,rfl,hf1,OG,HF,aU,aJ⟩:=hrel;have hgB:=(aU.lt g rfl).1;have hfz:=aU.frozenAt;obtain⟨x1,x3,x5,x6,x7⟩:=Vt aU (uJ l i k) (yH HX.out)
  by_cases hki:k<i
  ·obtain⟨y,hy⟩:∃ y,l[k]? =some y:=⟨_,bY (by omega)⟩;obtain⟨y1,y3,y5,y6,y7⟩:=Vt aU (uJ l i k) (uA hy hki);simp only [iQ] at x1 x3 x5 x6 x7 y1 y3 y5 y6 y7;have HY:=Nm.aF hy;have HK:=Nm.aF (aKj x y);have hd:=ba_eq y.dt x.dt;have k0:(0:Int)<=(k:Int):=by omega
   have k1:(k:Int)<(l.length:Int):=by omega
   have k2:(k:Int)<(i:Int):=by omega
   clear hy y3 y7 x3;cases hO:(y.fo.toList==x.fo.toList)
   ·have HN:Hid (lV x y=false):=by show _=_;rw [HK.out,hO];rfl
    have HM:Hid (pY l i (k+1)=pY l i k):=PO HX.out HY.out (by rw [HN.out];rfl);have nO:(y.fo.toList != x.fo.toList)=true:=by rw [bne,hO];rfl
    clear HK hd;go_wp2;go_quiet (fail)
    go_wp2;go_roundw
    case rel=>exact⟨k+1,f,by omega,by go_num,rfl,hf1,OG,HF.out.skip HY.out HN.out,by rw [HM.out];exact xA aU _,Go.below_drewN aJ _⟩
    simp [intOf];omega
   have nO:(y.fo.toList != x.fo.toList)=false:=by rw [bne,hO];rfl
   cases hT:(y.r.ty==x.r.ty)
   ·have HN:Hid (lV x y=false):=by show _=_;rw [HK.out,hO,hT];rfl
    have HM:Hid (pY l i (k+1)=pY l i k):=PO HX.out HY.out (by rw [HN.out];rfl);have nT:(y.r.ty != x.r.ty)=true:=by rw [bne,hT];rfl
    clear HK hd;go_wp2;go_quiet (fail)
    go_wp2;go_roundw
    case rel=>exact⟨k+1,f,by omega,by go_num,rfl,hf1,OG,HF.out.skip HY.out HN.out,by rw [HM.out];exact xA aU _,Go.below_drewN aJ _⟩
    simp [intOf];omega
   have HN:Hid (lV x y=true):=by show _=_;rw [HK.out,hO,hT];rfl
   have nT:(y.r.ty != x.r.ty)=false:=by rw [bne,hT];rfl
   clear HK nO nT
   by_cases hD:y.dt=x.dt
   ·have HM:Hid ((pY l i k).set i {x with out:=true}=pY l i (k+1)):=aF4 HX.out HY.out (by rw [HN.out,nD hD];rfl)
    have HS:Hid ((fD (pY l i k)).set (i*8+7) (.bool true)=fD (pY l i (k+1))):=by
     show _=_
     rw [aF5 _ i _ (yH HX.out),<- HM.out];rfl
    rw [nD hD] at hd;have oG:=fun q=>(xA aU q).stored (i*8+7) (.bool true)
    rw [HS.out] at oG;have HST:=Nm.aF oG;clear hD HM HS oG
    by_cases hf:f= -1
    ·subst hf;have HF2:Hid (IR l x (k+1) (k:Int)):=HF.out.first HY.out HN.out
     clear HF;go_wp2;go_quiet (fail)
     go_wp2;go_quiet (fail)
     go_wp2;go_roundw
     case rel=>exact⟨k+1,k,by omega,by go_num,rfl,by omega,by omega,HF2,(HST.out _).1,(Go.below_drewN aJ _).setCell hgB _⟩
     simp [intOf];omega
    obtain⟨fn,rfl⟩:∃ fn:Nat,f=(fn:Int):=⟨f.toNat,by omega⟩;have HF2:Hid (IR l x (k+1) (fn:Int)):=HF.out.more;have f0:¬(fn:Int)<0:=by omega
    clear HF hf;go_wp2;go_quiet (fail)
    go_wp2;go_quiet (fail)
    go_wp2;go_roundw
    case rel=>exact⟨k+1,fn,by omega,by go_num,rfl,by omega,by omega,HF2,(HST.out _).1,(Go.below_drewN aJ _).setCell hgB _⟩
    simp [intOf];omega
   have HM:Hid (pY l i (k+1)=pY l i k):=PO HX.out HY.out (by rw [HN.out,jU hD];rfl);rw [jU hD] at hd;clear hD
   by_cases hf:f= -1
   ·subst hf;have HF2:Hid (IR l x (k+1) (k:Int)):=HF.out.first HY.out HN.out
    clear HF;go_wp2;go_quiet (fail)
    go_wp2;go_quiet (fail)
    go_wp2;go_roundw
    case rel=>exact⟨k+1,k,by omega,by go_num,rfl,by omega,by omega,HF2,by rw [HM.out];exact xA aU _,Go.below_drewN aJ _⟩
    simp [intOf];omega
   obtain⟨fn,rfl⟩:∃ fn:Nat,f=(fn:Int):=⟨f.toNat,by omega⟩;have HF2:Hid (IR l x (k+1) (fn:Int)):=HF.out.more;have f0:¬(fn:Int)<0:=by omega
   clear HF hf;go_wp2;go_quiet (fail)
   go_wp2;go_quiet (fail)
   go_wp2;go_roundw
   case rel=>exact⟨k+1,fn,by omega,by go_num,rfl,by omega,by omega,HF2,by rw [HM.out];exact xA aU _,Go.below_drewN aJ _⟩
   simp [intOf];omega
  obtain rfl:k=i:=by omega
  have ki:(k:Int)<=(k:Int):=by omega
  have HM:Hid (pY l k k=pY l (k+1) 0):=aCh (by omega);simp only [iQ] at x1 x3 x5 x6 x7
  by_cases ZY:b= -1
  ·subst ZY;have db:decide ((-1:Int)<0)=true:=rfl
   by_cases hf:f= -1
   ·subst hf;have HB2:Hid (PU l (k+1) (-1)):=HBAD.out.skip HX.out (fun _=>aNc HF.out);have df:decide ((0:Int)<= -1)=false:=rfl;clear HBAD HF;go_wp2;go_quiet (fail)
    go_wp2;go_roundw
    case rel=>exact⟨k+1,-1,by omega,by go_num,rfl,by omega,HB2.out,by rw [<- HM.out];exact xA aU _,Go.below_drewN aJ _⟩
    simp [intOf];omega
   obtain⟨fn,rfl⟩:∃ fn:Nat,f=(fn:Int):=⟨f.toNat,by omega⟩;obtain⟨y,hy⟩:∃ y,l[fn]? =some y:=⟨_,bY (by omega)⟩;obtain⟨y1,y3,y5,y6,y7⟩:=Vt aU (uJ l k k) (uA hy (by omega));simp only [iQ] at y1 y3 y5 y6 y7;have HMX:=Nm.aF (aNd HF.out hy);have df:decide ((0:Int)<=(fn:Int))=true:=by simp
   have f1:(0:Int)<=(fn:Int):=by omega
   have f2:(fn:Int)<(l.length:Int):=by omega
   clear hy HF y1 y5 y6 y7 x1 x5 x6 x7 hf
   by_cases ht:y.r.tt=x.r.tt
   ·have HB2:Hid (PU l (k+1) (-1)):=HBAD.out.skip HX.out (fun _=>by rw [HMX.out];simp [ht]);have nt:(y.r.tt != x.r.tt)=false:=by simp [ht]
    clear HBAD HMX ht;go_wp2;go_quiet (fail)
    go_wp2;go_roundw
    case rel=>exact⟨k+1,-1,by omega,by go_num,rfl,by omega,HB2.out,by rw [<- HM.out];exact xA aU _,Go.below_drewN aJ _⟩
    simp [intOf];omega
   have HB2:Hid (PU l (k+1) (k:Int)):=HBAD.out.first HX.out (by rw [HMX.out];simp [ht])
   have nt:(y.r.tt != x.r.tt)=true:=by simp [ht]
   clear HBAD HMX ht;go_wp2;go_quiet (fail)
   go_wp2;go_roundw
   case rel=>exact⟨k+1,k,by omega,by go_num,rfl,by omega,HB2.out,by rw [<- HM.out];exact xA aU _,Go.below_drewN aJ _⟩
   simp [intOf];omega
  obtain⟨bn,rfl⟩:∃ bn:Nat,b=(bn:Int):=⟨b.toNat,by omega⟩;have HB2:Hid (PU l (k+1) (bn:Int)):=HBAD.out.skip HX.out (fun h=>absurd h ZY);have db:decide ((bn:Int)<0)=false:=by simp
  have db2:¬(bn:Int)<0:=by omega
  clear HBAD HF ZY;go_wp2;go_quiet (fail)
  go_wp2;go_roundw
  case rel=>exact⟨k+1,bn,by omega,by go_num,rfl,by omega,HB2.out,by rw [<- HM.out];exact xA aU _,Go.below_drewN aJ _⟩
  simp [intOf];omega
 have DC:i=l.length:=by omega
 subst DC;have i2:(l.length:Int)<=(l.length:Int):=by omega
 rw [aF3] at aU;have HE:=Nm.aF HBAD.out.whole;go_wp2;go_ret;exact⟨by rw [HE.out];rfl,aU,aJ⟩
theorem Tryz.Oh:(Tryz.prog.info? 102).map (fun i=>(i.zero,i.size,i.bytes))=some (some (.agg #[.string ByteArray.empty,.int .i64 0,.int .i64 0,.int .i64 0,.string ByteArray.empty,.string ByteArray.empty,.string ByteArray.empty,.bool false]),8,96):=by kernel_rfl
theorem Oi:∀ (n:Nat) (v:Value) (l:List It) (w:World),bS w v l.length 8 (fD l)->l.length<=n->l.length<=1000000->(∀ x∈l,x.fo.size<=maxLen)->
 Calls Tryz.prog 66 #[v] w fun e w'=>∃ u,e=.returned u∧bS w' u l.length 8 (fD (jL n l))∧Below w.heap.size w w':=by
 obtain⟨i0,hi,iJ,fP,fZ⟩:=info_parts Tryz.Oh;intro n
 induction n with
 |zero=>
  intro v l w h hn hl yN;have hr:=h;obtain⟨_,a,cap,rfl,gY,kK,hc⟩:=h;have hz:l.length=0:=by omega
  have i1:(l.length:Int)<2:=by omega
  clear hc;go_enter Tryz.func66,Tryz.ntmps66;go_wp2;go_ret
  exact⟨_,rfl,hr,aK _ _⟩
 |succ n ih=>
  intro v l w h hn hl yN
  by_cases hs:l.length<2
  ·have hr:=h;rw [yJ hs];obtain⟨_,a,cap,rfl,gY,kK,hc⟩:=h;have i1:(l.length:Int)<2:=by omega
   clear hc ih;go_enter Tryz.func66,Tryz.ntmps66;go_wp2;go_ret;exact⟨_,rfl,hr,aK _ _⟩
  have hr:=h;obtain⟨_,a,cap,rfl,gY,kK,hc⟩:=h;obtain⟨b,off,rfl,_⟩:=hc (by omega);clear hc;have i1:¬(l.length:Int)<2:=by omega
  obtain⟨hf,hhf⟩:∃ hf,hf=l.length / 2:=⟨_,rfl⟩;have hh1:0<hf:=by omega
  have hh2:hf<l.length:=by omega
  have hq:(l.length:Int) / 2=(hf:Int):=by omega
  have hra:=aJ3 hr (Nat.le_of_lt hh2);have hrb:=aJ4 hr hh2;have hla:(l.take hf).length=hf:=by rw [List.length_take];omega
  have GI:(l.drop hf).length=l.length-hf:=List.length_drop;have ha:=ih _ (l.take hf) w hra (by omega) (by omega) (fun x hx=>yN x (List.mem_of_mem_take hx));have hb:=fun W hW=>ih _ (l.drop hf) W (hrb.below hW) (by omega) (by omega) (fun x hx=>yN x (List.mem_of_mem_drop hx))
  have HSF:Hid (jL (n+1) l=List.merge (jL n (l.take hf)) (jL n (l.drop hf)) sD):=by show _=_;rw [hhf];exact PP hs
  rw [hla] at ha;rw [GI] at hb;unfold maxLen at kK;have mD:¬cap=hf:=by omega
  clear ih hr hra hrb hhf hs;go_enter Tryz.func66,Tryz.ntmps66;go_wp2_with fail
  refine ha.mono ?_;rintro e w1 ⟨u1,rfl,hA,b1⟩;obtain⟨u1a,u1c,hu1⟩:∃ a c,u1=.slice a hf c:=by obtain⟨_,a,c,e,_⟩:=hA;exact⟨a,c,e⟩
  subst hu1;go_wp2_with fail
  refine(hb w1 b1).mono ?_;rintro e w2 ⟨u2,rfl,hB,b2⟩;obtain⟨u2a,u2c,hu2⟩:∃ a c,u2=.slice a (l.length-hf) c:=by obtain⟨_,a,c,e,_⟩:=hB;exact⟨a,c,e⟩
  subst hu2;have hA2:=hA.below b2;have B2:=Nm.aC b1 b2;have hAl:(jL n (l.take hf)).length=hf:=by rw [tK,hla]
  have hBl:(jL n (l.drop hf)).length=l.length-hf:=by rw [tK,GI]
  have hAf:∀ x∈jL n (l.take hf),x.fo.size<=maxLen:=fun x hx=>yN x (List.mem_of_mem_take (vX.1 hx))
  have hBf:∀ x∈jL n (l.drop hf),x.fo.size<=maxLen:=fun x hx=>yN x (List.mem_of_mem_drop (vX.1 hx))
  clear ha hb hA b1 b2 hla GI;generalize jL n (l.take hf)=LA at*;generalize jL n (l.drop hf)=LB at*;obtain⟨M,hM⟩:∃ M,List.merge LA LB sD=M:=⟨_,rfl⟩;have HM:=Nm.aF hM;have aTe:Hid (jL (n+1) l=M):=HSF.out.trans hM;obtain⟨lb,GI⟩:∃ lb,l.length-hf=lb:=⟨_,rfl⟩;rw [GI] at hBl hB;have aPk:(l.length:Nat)=hf+lb:=by omega
  have o0:=World.ownsRow_lit (base:=w2.heap.size) (e:=102) (size:=8) w2 #[] 0 (aN _) (by decide) rfl;have HH:=Nm.aF (aV hA2 (aV hB (aV hAf hBf)));have HL:=Nm.aF (aV hAl hBl);have HLN:=Nm.aF aPk;clear hA2 hB hAf hBf hM HSF hq hAl hBl mD;go_wp2;clear GI aPk
  go_loopw [5,6,7] (fun vo vi vk wr=>∃ (i k:Nat) (O:List It),i<=hf∧k<=lb∧vi=.int .i64 i∧vk=.int .i64 k∧Hid (O++List.merge (LA.drop i) (LB.drop k) sD=M∧O.length=i+k)∧wr.ownsRow w2.heap.size 102 8 vo (i+k) (fD O)∧Below w2.heap.size w2 wr) (fun _ vi vk _=>(hf-(intOf vi).toNat)+(lb-(intOf vk).toNat))
  case atStart=>exact⟨0,0,[],by omega,by omega,rfl,rfl,⟨HM.out,rfl⟩,o0,(aK _ _).alloc (aN _) _⟩
  clear o0;obtain⟨i,k,O,KW,KV,rfl,rfl,HO,oO,aJ⟩:=hrel;have hln:=HLN.out;obtain⟨oa,oc,hov⟩:=aT oO;subst hov;have n1:(0:Int)<=(i:Int):=by omega
  have n2:(0:Int)<=(k:Int):=by omega
  by_cases DC:i<hf
  ·obtain⟨x,hx⟩:∃ x,LA[i]? =some x:=⟨_,bY (by have:=HL.out.1;omega)⟩
   have PV:∀ W,Below w2.heap.size w2 W->∃ ab ao,u1a=some ⟨ab,ao,none⟩∧∀ (j:Nat) (z:Value),(fD LA)[j]? =some z->W.cell? ⟨ab,ao+j,none⟩=some z:=by
    intro W hW;obtain⟨_,a',c',e',_,_,hc⟩:=HH.out.1.below hW;simp only [iG] at e';obtain⟨rfl,_,rfl⟩:=e';exact hc (by omega)
   have i1:(i:Int)<(hf:Int):=by omega
   by_cases nS:k<lb
   ·obtain⟨y,hy⟩:∃ y,LB[k]? =some y:=⟨_,bY (by have:=HL.out.2;omega)⟩
    have KN:∀ W,Below w2.heap.size w2 W->∃ bb bo,u2a=some ⟨bb,bo,none⟩∧∀ (j:Nat) (z:Value),(fD LB)[j]? =some z->W.cell? ⟨bb,bo+j,none⟩=some z:=by
     intro W hW;obtain⟨_,a',c',e',_,_,hc⟩:=HH.out.2.1.below hW;simp only [iG] at e';obtain⟨rfl,_,rfl⟩:=e';exact hc (by omega)
    have k1:(k:Int)<(lb:Int):=by omega
    have k2:((k:Int)==(lb:Int))=false:=by simp;omega
    obtain⟨ab,ao,rfl,hcA⟩:=PV wr aJ;obtain⟨bb,bo,rfl,hcB⟩:=KN wr aJ
    have hS:∀ W,Below wr.heap.size wr W->(W.cell? ⟨ab,ao+i*8,none⟩=some (.string x.r.own)∧W.cell? ⟨ab,ao+i*8+1,none⟩=some (.int .i64 x.r.ty)∧W.cell? ⟨ab,ao+i*8+2,none⟩=some (.int .i64 x.r.cl)∧W.cell? ⟨ab,ao+i*8+3,none⟩=some (.int .i64 x.r.tt)∧W.cell? ⟨ab,ao+i*8+4,none⟩=some (.string x.r.da)∧W.cell? ⟨ab,ao+i*8+5,none⟩=some (.string x.fo)∧W.cell? ⟨ab,ao+i*8+6,none⟩=some (.string x.dt)∧W.cell? ⟨ab,ao+i*8+7,none⟩=some (.bool x.out))∧(W.cell? ⟨bb,bo+k*8,none⟩=some (.string y.r.own)∧W.cell? ⟨bb,bo+k*8+1,none⟩=some (.int .i64 y.r.ty)∧W.cell? ⟨bb,bo+k*8+2,none⟩=some (.int .i64 y.r.cl)∧W.cell? ⟨bb,bo+k*8+3,none⟩=some (.int .i64 y.r.tt)∧W.cell? ⟨bb,bo+k*8+4,none⟩=some (.string y.r.da)∧W.cell? ⟨bb,bo+k*8+5,none⟩=some (.string y.fo)∧W.cell? ⟨bb,bo+k*8+6,none⟩=some (.string y.dt)∧W.cell? ⟨bb,bo+k*8+7,none⟩=some (.bool y.out))∧Below wr.heap.size wr W:=by
     intro W hW;obtain⟨ab',ao',e1,aTf⟩:=PV W (Nm.aC aJ hW);obtain⟨bb',bo',e2,aTg⟩:=KN W (Nm.aC aJ hW);cases e1
     cases e2
     obtain⟨c0,c1,c2,c3,c4,c5,c6,c7⟩:=fI aTf hx;obtain⟨d0,d1,d2,d3,d4,d5,d6,d7⟩:=fI aTg hy;exact⟨⟨c0,c1,c2,c3,c4,c5,c6,c7⟩,⟨d0,d1,d2,d3,d4,d5,d6,d7⟩,hW⟩
    have GV:=hS _ (aK _ _).drew;have hbf:=fun W=>Ar x y W (HH.out.2.2.1 x (bP hx)) (HH.out.2.2.2 y (bP hy))
    simp only [DK] at hbf;have hiy:=fun W (hW:Below wr.heap.size wr W)=>(hbf W).mono (R':=fun e w'=>e=.returned (.bool (sD x y))∧Below wr.heap.size wr w') (by rintro e w' ⟨he,hb⟩;exact⟨he,hW.trans (hb.mono hW.size)⟩)
    have hOB:∀ W,Below wr.heap.size wr W->W.ownsRow w2.heap.size 102 8 (.slice oa (i+k) oc) (i+k) (fD O):=fun W hW=>own_below oO hW
    have hwk:IntKind.i64.wrap (k:Int)=(k:Int):=Go.wrap_small _ (by omega) (by omega);have hwi:IntKind.i64.wrap (i:Int)=(i:Int):=Go.wrap_small _ (by omega) (by omega);clear hbf hcA hcB
    cases hP:sD x y with
    |true=>
     have HO2:Hid ((O++[x])++List.merge (LA.drop (i+1)) (LB.drop k) sD=M∧(O++[x]).length=i+1+k):=by
      refine⟨?_,by have:=HO.out.2;simp;omega⟩;rw [<- HO.out.1,aCk hx hy hP,List.append_assoc];rfl
     rw [hP] at hiy;clear hx hy PV KN hP HO;go_wp2;go_region_held3 (fun W=>(W.cell? ⟨ab,ao+i*8,none⟩=some (.string x.r.own)∧W.cell? ⟨ab,ao+i*8+1,none⟩=some (.int .i64 x.r.ty)∧W.cell? ⟨ab,ao+i*8+2,none⟩=some (.int .i64 x.r.cl)∧W.cell? ⟨ab,ao+i*8+3,none⟩=some (.int .i64 x.r.tt)∧W.cell? ⟨ab,ao+i*8+4,none⟩=some (.string x.r.da)∧W.cell? ⟨ab,ao+i*8+5,none⟩=some (.string x.fo)∧W.cell? ⟨ab,ao+i*8+6,none⟩=some (.string x.dt)∧W.cell? ⟨ab,ao+i*8+7,none⟩=some (.bool x.out))∧(W.cell? ⟨bb,bo+k*8,none⟩=some (.string y.r.own)∧W.cell? ⟨bb,bo+k*8+1,none⟩=some (.int .i64 y.r.ty)∧W.cell? ⟨bb,bo+k*8+2,none⟩=some (.int .i64 y.r.cl)∧W.cell? ⟨bb,bo+k*8+3,none⟩=some (.int .i64 y.r.tt)∧W.cell? ⟨bb,bo+k*8+4,none⟩=some (.string y.r.da)∧W.cell? ⟨bb,bo+k*8+5,none⟩=some (.string y.fo)∧W.cell? ⟨bb,bo+k*8+6,none⟩=some (.string y.dt)∧W.cell? ⟨bb,bo+k*8+7,none⟩=some (.bool y.out))∧Below wr.heap.size wr W) (first|with_reducible assumption|with_reducible exact GV) ((first|(go_at_call 102;refine(hiy _ GV.2.2).mono ?_;rintro e w3 ⟨rfl,DN⟩;have ZG:=hS _ DN)))
     have He:=Nm.aC aJ ZG.2.2;have oO':w3.ownsRow w2.heap.size 102 8 (.slice oa (i+k) oc) (i+k) (fD O):=hOB _ ZG.2.2;obtain⟨⟨c0,c1,c2,c3,c4,c5,c6,c7⟩,⟨d0,d1,d2,d3,d4,d5,d6,d7⟩,_⟩:=ZG;clear hS GV hiy;go_wp2_with (at_builtin;refine wpList_append_own _ rfl (.tmp 56) (.tmp 61) 97 rfl w2.heap.size 102 i0 _ 8 96 Tryz.underlying97 hi iJ fP fZ rfl (by decide) _ _ _ rfl (own_below oO' ((aK _ _).alloc (aN _) _)) ⟨w3.heap.size,0,none⟩ 1 1 (DK x) rfl rfl (dU _ _ _) (by intro u hu;simp [DK] at hu;rcases hu with rfl|rfl|rfl|rfl|rfl|rfl|rfl|rfl<;>rfl) (by unfold maxLen;omega) (by omega) (by have:=He.size;simp;omega) ?_;intro va wa rF iF oP)
     rw [show fD O++DK x=fD (O++[x]) from(vW O x).symm] at rF;go_wp2;go_roundw
     case rel=>exact⟨i+1,k,O++[x],by omega,by omega,by go_num,rfl,HO2,by rw [show i+1+k=i+k+1 by omega];exact rF,(He.alloc He.size _).grown iF (by have:=He.size;simp;omega) (fun g hg=>(oO'.lt g hg).1)⟩
     simp [intOf];omega
    |false=>
     have HO2:Hid ((O++[y])++List.merge (LA.drop i) (LB.drop (k+1)) sD=M∧(O++[y]).length=i+(k+1)):=by
      refine⟨?_,by have:=HO.out.2;simp;omega⟩;rw [<- HO.out.1,aCl hx hy hP,List.append_assoc];rfl
     rw [hP] at hiy;clear hx hy PV KN hP HO;go_wp2;go_region_held3 (fun W=>(W.cell? ⟨ab,ao+i*8,none⟩=some (.string x.r.own)∧W.cell? ⟨ab,ao+i*8+1,none⟩=some (.int .i64 x.r.ty)∧W.cell? ⟨ab,ao+i*8+2,none⟩=some (.int .i64 x.r.cl)∧W.cell? ⟨ab,ao+i*8+3,none⟩=some (.int .i64 x.r.tt)∧W.cell? ⟨ab,ao+i*8+4,none⟩=some (.string x.r.da)∧W.cell? ⟨ab,ao+i*8+5,none⟩=some (.string x.fo)∧W.cell? ⟨ab,ao+i*8+6,none⟩=some (.string x.dt)∧W.cell? ⟨ab,ao+i*8+7,none⟩=some (.bool x.out))∧(W.cell? ⟨bb,bo+k*8,none⟩=some (.string y.r.own)∧W.cell? ⟨bb,bo+k*8+1,none⟩=some (.int .i64 y.r.ty)∧W.cell? ⟨bb,bo+k*8+2,none⟩=some (.int .i64 y.r.cl)∧W.cell? ⟨bb,bo+k*8+3,none⟩=some (.int .i64 y.r.tt)∧W.cell? ⟨bb,bo+k*8+4,none⟩=some (.string y.r.da)∧W.cell? ⟨bb,bo+k*8+5,none⟩=some (.string y.fo)∧W.cell? ⟨bb,bo+k*8+6,none⟩=some (.string y.dt)∧W.cell? ⟨bb,bo+k*8+7,none⟩=some (.bool y.out))∧Below wr.heap.size wr W) (first|with_reducible assumption|with_reducible exact GV) ((first|(go_at_call 102;refine(hiy _ GV.2.2).mono ?_;rintro e w3 ⟨rfl,DN⟩;have ZG:=hS _ DN)))
     have He:=Nm.aC aJ ZG.2.2;have oO':w3.ownsRow w2.heap.size 102 8 (.slice oa (i+k) oc) (i+k) (fD O):=hOB _ ZG.2.2;obtain⟨⟨c0,c1,c2,c3,c4,c5,c6,c7⟩,⟨d0,d1,d2,d3,d4,d5,d6,d7⟩,_⟩:=ZG;clear hS GV hiy;go_wp2_with (at_builtin;refine wpList_append_own _ rfl (.tmp 65) (.tmp 70) 97 rfl w2.heap.size 102 i0 _ 8 96 Tryz.underlying97 hi iJ fP fZ rfl (by decide) _ _ _ rfl (own_below oO' ((aK _ _).alloc (aN _) _)) ⟨w3.heap.size,0,none⟩ 1 1 (DK y) rfl rfl (dU _ _ _) (by intro u hu;simp [DK] at hu;rcases hu with rfl|rfl|rfl|rfl|rfl|rfl|rfl|rfl<;>rfl) (by unfold maxLen;omega) (by omega) (by have:=He.size;simp;omega) ?_;intro va wa rF iF oP)
     rw [show fD O++DK y=fD (O++[y]) from(vW O y).symm] at rF;go_wp2;go_roundw
     case rel=>exact⟨i,k+1,O++[y],by omega,by omega,rfl,by go_num,HO2,by rw [show i+(k+1)=i+k+1 by omega];exact rF,(He.alloc He.size _).grown iF (by have:=He.size;simp;omega) (fun g hg=>(oO'.lt g hg).1)⟩
     simp [intOf];omega
   obtain rfl:k=lb:=by omega
   have k1:((k:Int)==(k:Int))=true:=by simp
   have HO2:Hid ((O++[x])++List.merge (LA.drop (i+1)) (LB.drop k) sD=M∧(O++[x]).length=i+1+k):=by
    refine⟨?_,by have:=HO.out.2;simp;omega⟩;have hk:=HL.out.2;rw [<- HO.out.1,<- hk,Us hx,List.append_assoc];rfl
   obtain⟨ab,ao,rfl,hcA⟩:=PV wr aJ;obtain⟨c0,c1,c2,c3,c4,c5,c6,c7⟩:=fI hcA hx;clear hx hcA PV HO;go_wp2;go_quiet (fail)
   generalize Bh:World.drewN wr _=wE;have He:Below w2.heap.size w2 wE:=by rw [<- Bh];exact Go.below_drewN aJ _
   have oO':wE.ownsRow w2.heap.size 102 8 (.slice oa (i+k) oc) (i+k) (fD O):=by rw [<- Bh];exact xA oO _
   have Oj:∀ p,wE.cell? p=wr.cell? p:=by intro p;rw [<- Bh];simp
   have c0E:=(Oj _).trans c0;have c1E:=(Oj _).trans c1;have c2E:=(Oj _).trans c2;have c3E:=(Oj _).trans c3;have c4E:=(Oj _).trans c4;have c5E:=(Oj _).trans c5;have c6E:=(Oj _).trans c6;have c7E:=(Oj _).trans c7;clear Bh;go_wp2_with (at_builtin;refine wpList_append_own _ rfl (.tmp 56) (.tmp 61) 97 rfl w2.heap.size 102 i0 _ 8 96 Tryz.underlying97 hi iJ fP fZ rfl (by decide) _ _ _ rfl (own_below oO' ((aK _ _).alloc (aN _) _)) ⟨wE.heap.size,0,none⟩ 1 1 (DK x) rfl rfl (dU _ _ _) (by intro u hu;simp [DK] at hu;rcases hu with rfl|rfl|rfl|rfl|rfl|rfl|rfl|rfl<;>rfl) (by unfold maxLen;omega) (by omega) (by have:=He.size;simp;omega) ?_;intro va wa rF iF oP)
   rw [show fD O++DK x=fD (O++[x]) from(vW O x).symm] at rF;go_wp2;go_roundw
   case rel=>exact⟨i+1,k,O++[x],by omega,by omega,by go_num,rfl,HO2,by rw [show i+1+k=i+k+1 by omega];exact rF,(He.alloc He.size _).grown iF (by have:=He.size;simp;omega) (fun g hg=>(oO'.lt g hg).1)⟩
   simp [intOf];omega
  obtain rfl:i=hf:=by omega
  have i1:(i:Int)<=(i:Int):=by omega
  by_cases nS:k<lb
  ·obtain⟨y,hy⟩:∃ y,LB[k]? =some y:=⟨_,bY (by have:=HL.out.2;omega)⟩
   have KN:∀ W,Below w2.heap.size w2 W->∃ bb bo,u2a=some ⟨bb,bo,none⟩∧∀ (j:Nat) (z:Value),(fD LB)[j]? =some z->W.cell? ⟨bb,bo+j,none⟩=some z:=by
    intro W hW;obtain⟨_,a',c',e',_,_,hc⟩:=HH.out.2.1.below hW;simp only [iG] at e';obtain⟨rfl,_,rfl⟩:=e';exact hc (by omega)
   have k1:(k:Int)<(lb:Int):=by omega
   have k2:((k:Int)==(lb:Int))=false:=by simp;omega
   have i2:decide ((i:Int)<(i:Int))=false:=by simp
   have HO2:Hid ((O++[y])++List.merge (LA.drop i) (LB.drop (k+1)) sD=M∧(O++[y]).length=i+(k+1)):=by
    refine⟨?_,by have:=HO.out.2;simp;omega⟩;have hk:=HL.out.1;rw [<- HO.out.1,<- hk,Gi hy,List.append_assoc];rfl
   obtain⟨bb,bo,rfl,hcB⟩:=KN wr aJ;obtain⟨c0,c1,c2,c3,c4,c5,c6,c7⟩:=fI hcB hy;clear hy hcB KN HO;go_wp2;go_quiet (fail)
   generalize Bh:World.drewN wr _=wE;have He:Below w2.heap.size w2 wE:=by rw [<- Bh];exact Go.below_drewN aJ _
   have oO':wE.ownsRow w2.heap.size 102 8 (.slice oa (i+k) oc) (i+k) (fD O):=by rw [<- Bh];exact xA oO _
   have Oj:∀ p,wE.cell? p=wr.cell? p:=by intro p;rw [<- Bh];simp
   have c0E:=(Oj _).trans c0;have c1E:=(Oj _).trans c1;have c2E:=(Oj _).trans c2;have c3E:=(Oj _).trans c3;have c4E:=(Oj _).trans c4;have c5E:=(Oj _).trans c5;have c6E:=(Oj _).trans c6;have c7E:=(Oj _).trans c7;clear Bh;go_wp2_with (at_builtin;refine wpList_append_own _ rfl (.tmp 65) (.tmp 70) 97 rfl w2.heap.size 102 i0 _ 8 96 Tryz.underlying97 hi iJ fP fZ rfl (by decide) _ _ _ rfl (own_below oO' ((aK _ _).alloc (aN _) _)) ⟨wE.heap.size,0,none⟩ 1 1 (DK y) rfl rfl (dU _ _ _) (by intro u hu;simp [DK] at hu;rcases hu with rfl|rfl|rfl|rfl|rfl|rfl|rfl|rfl<;>rfl) (by unfold maxLen;omega) (by omega) (by have:=He.size;simp;omega) ?_;intro va wa rF iF oP)
   rw [show fD O++DK y=fD (O++[y]) from(vW O y).symm] at rF;go_wp2;go_roundw
   case rel=>exact⟨i,k+1,O++[y],by omega,by omega,rfl,by go_num,HO2,by rw [show i+(k+1)=i+k+1 by omega];exact rF,(He.alloc He.size _).grown iF (by have:=He.size;simp;omega) (fun g hg=>(oO'.lt g hg).1)⟩
   simp [intOf];omega
  obtain rfl:k=lb:=by omega
  have k1:(k:Int)<=(k:Int):=by omega
  have HE:Hid (O=M):=by
   show _=_
   have h1:=HL.out.1;have h2:=HL.out.2;have:=HO.out.1;rw [List.drop_of_length_le (by omega),List.drop_of_length_le (by omega)] at this;simpa using this
  go_wp2;go_ret;refine⟨_,rfl,?_,Nm.aC B2 aJ⟩;rw [aTe.out,<- HE.out,hln];exact bS.aS oO
