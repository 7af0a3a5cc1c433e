import Derived.Test.YtlddifpnkeafpaaGreatJTrE
set_option linter.unusedVariables false
set_option maxRecDepth 100000
set_option maxHeartbeats 3200000
namespace Go.Proofs.YtlddifpnkeafpaaGreat
open Go.RowKit
def LU(l:List It)(x:It)(k:Nat)(f:Int):Prop:=
 (f= -1∧∀ (j:Nat) (y:It),j<k->l[j]? =some y->tF x y=false)∨∃ (j:Nat) (y:It),f=(j:Int)∧j<k∧l[j]? =some y∧tF x y=true∧∀ (i:Nat) (z:It),i<j->l[i]? =some z->tF x z=false
def TR(l:List It)(i:Nat)(b:Int):Prop:=
 (b= -1∧∀ (j:Nat) (y:It),j<i->l[j]? =some y->uS (l.take j) y=false)∨∃ (j:Nat) (y:It),b=(j:Int)∧j<i∧l[j]? =some y∧uS (l.take j) y=true∧∀ (k:Nat) (z:It),k<j->l[k]? =some z->uS (l.take k) z=false
variable {k:Nat}{l:List It}{x y:It}
theorem LU.skip{f:Int}(h:LU l x k f)(hy:l[k]? =some y)(hn:tF x y=false):LU l x (k+1) f:=by
 rcases h with⟨e,h⟩|⟨j,z,e,hj,hz,hk,h⟩
 ·refine .inl ⟨e,fun j z hj hz=>?_⟩
  by_cases hjk:j=k
  ·subst hjk;rw [hy] at hz;obtain rfl:=jI hz;exact hn
  exact h j z (by omega) hz
 exact .inr ⟨j,z,e,by omega,hz,hk,h⟩
theorem LU.first(h:LU l x k (-1))(hy:l[k]? =some y)(hn:tF x y=true):LU l x (k+1) (k:Int):=by
 rcases h with⟨e,h⟩|⟨j,z,e,_⟩
 ·exact .inr ⟨k,y,rfl,by omega,hy,hn,h⟩
 omega
theorem LU.more{j:Nat}(h:LU l x k (j:Int)):LU l x (k+1) (j:Int):=by
 rcases h with⟨e,_⟩|⟨j',z,e,hj,hz,hk,h⟩
 ·omega
 exact .inr ⟨j',z,e,by omega,hz,hk,h⟩
theorem TR.skip{i:Nat}{b:Int}(h:TR l i b)(hx:l[i]? =some x)(hn:b= -1->uS (l.take i) x=false):TR l (i+1) b:=by
 rcases h with⟨e,h⟩|⟨j,z,e,hj,hz,hk,h⟩
 ·refine .inl ⟨e,fun j z hj hz=>?_⟩
  by_cases hjk:j=i
  ·subst hjk;rw [hx] at hz;obtain rfl:=jI hz;exact hn e
  exact h j z (by omega) hz
 exact .inr ⟨j,z,e,by omega,hz,hk,h⟩
theorem TR.first{i:Nat}(h:TR l i (-1))(hx:l[i]? =some x)(hn:uS (l.take i) x=true):TR l (i+1) (i:Int):=by
 rcases h with⟨e,h⟩|⟨j,z,e,_⟩
 ·exact .inr ⟨i,x,rfl,by omega,hx,hn,h⟩
 omega
theorem TR.whole{b:Int}(h:TR l l.length b):b=vY l:=by
 unfold vY
 rcases h with⟨rfl,h⟩|⟨j,y,rfl,hj,hy,hm,h⟩
 ·rw [nM (fun i hi y hy=>h i y hi hy)]
 rw [nL (fun i hi z hz=>h i z hi hz) hy hm]
theorem aLb(h:LU l x k (-1)):uS (l.take k) x=false:=by
 rcases h with⟨_,h⟩|⟨j,z,e,_⟩
 ·rw [uS,PW h]
 omega
theorem aLc{j:Nat}(h:LU l x k (j:Int))(hy:l[j]? =some y):uS (l.take k) x=decide (y.r.tt≠x.r.tt):=by
 rcases h with⟨e,_⟩|⟨j',z,e,hj,hz,hk,h⟩
 ·omega
 obtain rfl:j=j':=by omega
 rw [hy] at hz;obtain rfl:=jI hz;rw [uS,ED hj hy hk h]
theorem Zm{w:World}{B T g cap:Nat}{n:Nat}(h:w.ownsRow B T 8 (.slice (some ⟨g,0,none⟩) n cap) n (fK l))(hl:l.length=n)(hx:l[k]? =some x):
 w.cell? ⟨g,k*8+1,none⟩=some (.int .i64 x.r.ty)∧w.cell? ⟨g,k*8+3,none⟩=some (.int .i64 x.r.tt)∧w.cell? ⟨g,k*8+5,none⟩=some (.string x.fo)∧w.cell? ⟨g,k*8+6,none⟩=some (.string x.dt)∧w.cell? ⟨g,k*8+7,none⟩=some (.bool x.out):=by
 have hk:=(dL hx).1;have c:=fun j (hj:j<8)=>(h.cellAt (k*8+j) (by omega)).trans (wT l k j x hx hj)
 exact⟨(c 1 (by decide)).trans rfl,(c 3 (by decide)).trans rfl,(c 5 (by decide)).trans rfl,(c 6 (by decide)).trans rfl,(c 7 (by decide)).trans rfl⟩
theorem yO{w:World}{B e s n:Nat}{v:Value}{xs:List Value}(h:w.ownsRow B e s v n xs)(k:Nat):(w.drewN k).ownsRow B e s v n xs:=own_below h (Go.below_drewN (aJ _ _) _)
theorem aI2(x y:It):tF x y=((y.fo.toList==x.fo.toList)&&(y.r.ty==x.r.ty)):=by
 rw [tF,ba_eq]
 by_cases h:y.r.ty=x.r.ty<;>simp [h]
theorem Lc(v:Value)(l:List It)(B:Nat)(w:World)(h:w.ownsRow B 141 8 v l.length (fK l))(hB:B<=w.heap.size)(hl:l.length<=1000000):
 Calls Tryz.prog 82 #[v] w fun e w'=>e=.returned (.int .i64 (vY l))∧w'.ownsRow B 141 8 v l.length (fK (FX l))∧Below B w w':=by
 obtain⟨a,cap,rfl⟩:=aT h;go_enter Tryz.func82,Tryz.ntmps82;go_wp2
 go_loopw [3,4] (fun vb vi wr=>∃ (i:Nat) (b:Int),i<=l.length∧vi=.int .i64 i∧vb=.int .i64 b∧ -1<=b∧TR l i b∧wr.ownsRow B 141 8 (.slice a l.length cap) l.length (fK (qL l i 0))∧Below B w wr) (fun _ vi _=>l.length-(intOf vi).toNat)
 ·exact⟨0,-1,dR _,rfl,rfl,by omega,.inl ⟨rfl,fun j y hj=>by omega⟩,by rw [Ya];exact h,aJ _ _⟩
 obtain⟨i,b,hi,rfl,rfl,fJ,Bb,aU,aG⟩:=hrel;have HBAD:=Nm.aD Bb;clear h Bb
 by_cases bY:i<l.length
 ·obtain⟨x,hx⟩:=gQ bY;have HX:=Nm.aD hx;clear hx;have i0:(i:Int)<(l.length:Int):=by omega
  have i00:=fE i
  obtain⟨g,rfl⟩:∃ g,a=some ⟨g,0,none⟩:=by
   rcases aU.2 with⟨_,h0⟩|⟨g,cap',cur,e,_⟩
   ·omega
   simp only [gK] at e;exact⟨g,e.1⟩
  go_wp2
  go_loopw [5,6] (fun vf vk wr2=>∃ (k:Nat) (f:Int),k<=i∧vk=.int .i64 k∧vf=.int .i64 f∧ -1<=f∧f<i∧Hid (LU l x k f)∧wr2.ownsRow B 141 8 (.slice (some ⟨g,0,none⟩) l.length cap) l.length (fK (qL l i k))∧Below B w wr2) (fun _ vk _=>i-(intOf vk).toNat)
  ·exact⟨0,-1,dR _,rfl,rfl,by omega,by omega,.inl ⟨rfl,fun j y hj=>by omega⟩,aU,aG⟩
  clear aU aG;obtain⟨k,f,hk,rfl,rfl,hf1,Gx,HF,aU,aG⟩:=hrel;have hgB:=(aU.lt g rfl).1;have Xf:=aU.frozenAt;obtain⟨x1,x3,x5,x6,x7⟩:=Zm aU (vM l i k) (zW HX.out)
  by_cases hki:k<i
  ·obtain⟨y,hy⟩:∃ y,l[k]? =some y:=⟨_,gF (by omega)⟩;obtain⟨y1,y3,y5,y6,y7⟩:=Zm aU (vM l i k) (vD hy hki);simp only [qG] at x1 x3 x5 x6 x7 y1 y3 y5 y6 y7;have HY:=Nm.aD hy;have HK:=Nm.aD (aI2 x y);have hd:=ba_eq y.dt x.dt;have k0:=fE k
   have k1:(k:Int)<(l.length:Int):=by omega
   have k2:(k:Int)<(i:Int):=by omega
   clear hy y3 y7 x3;cases hO:(y.fo.toList==x.fo.toList)
   ·have HN:Hid (tF x y=false):=by show _=_;rw [HK.out,hO];rfl
    have HM:Hid (qL l i (k+1)=qL l i k):=TA HX.out HY.out (by rw [HN.out];rfl);have nO:(y.fo.toList != x.fo.toList)=true:=by rw [bne,hO];rfl
    clear HK hd;go_wp2;go_quiet (fail)
    go_wp2;go_roundw
    ·exact⟨k+1,f,by omega,by go_num,rfl,hf1,Gx,HF.out.skip HY.out HN.out,by rw [HM.out];exact yO aU _,Go.below_drewN aG _⟩
    simp [intOf];omega
   have nO:(y.fo.toList != x.fo.toList)=false:=by rw [bne,hO];rfl
   cases hT:(y.r.ty==x.r.ty)
   ·have HN:Hid (tF x y=false):=by show _=_;rw [HK.out,hO,hT];rfl
    have HM:Hid (qL l i (k+1)=qL l i k):=TA HX.out HY.out (by rw [HN.out];rfl);have nT:(y.r.ty != x.r.ty)=true:=by rw [bne,hT];rfl
    clear HK hd;go_wp2;go_quiet (fail)
    go_wp2;go_roundw
    ·exact⟨k+1,f,by omega,by go_num,rfl,hf1,Gx,HF.out.skip HY.out HN.out,by rw [HM.out];exact yO aU _,Go.below_drewN aG _⟩
    simp [intOf];omega
   have HN:Hid (tF x y=true):=by show _=_;rw [HK.out,hO,hT];rfl
   have nT:(y.r.ty != x.r.ty)=false:=by rw [bne,hT];rfl
   clear HK nO nT
   by_cases hD:y.dt=x.dt
   ·have HM:Hid ((qL l i k).set i {x with out:=true}=qL l i (k+1)):=aEb HX.out HY.out (by rw [HN.out,oI hD];rfl)
    have HS:Hid ((fK (qL l i k)).set (i*8+7) (.bool true)=fK (qL l i (k+1))):=by
     show _=_
     rw [aEc _ i _ (zW HX.out),<- HM.out];rfl
    rw [oI hD] at hd;have mI:=fun q=>(yO aU q).stored (i*8+7) (.bool true)
    rw [HS.out] at mI;have HST:=Nm.aD mI;clear hD HM HS mI
    by_cases hf:f= -1
    ·subst hf;have HF2:Hid (LU l x (k+1) (k:Int)):=HF.out.first HY.out HN.out
     clear HF;go_wp2;go_quiet (fail)
     go_wp2;go_quiet (fail)
     go_wp2;go_roundw
     ·exact⟨k+1,k,by omega,by go_num,rfl,by omega,by omega,HF2,(HST.out _).1,(Go.below_drewN aG _).setCell hgB _⟩
     simp [intOf];omega
    obtain⟨fn,rfl⟩:∃ fn:Nat,f=(fn:Int):=⟨f.toNat,by omega⟩;have HF2:Hid (LU l x (k+1) (fn:Int)):=HF.out.more;clear HF hf;go_wp2;go_quiet (fail)
    go_wp2;go_quiet (fail)
    go_wp2;go_roundw
    ·exact⟨k+1,fn,by omega,by go_num,rfl,by omega,by omega,HF2,(HST.out _).1,(Go.below_drewN aG _).setCell hgB _⟩
    simp [intOf];omega
   have HM:Hid (qL l i (k+1)=qL l i k):=TA HX.out HY.out (by rw [HN.out,oF hD];rfl);rw [oF hD] at hd;clear hD
   by_cases hf:f= -1
   ·subst hf;have HF2:Hid (LU l x (k+1) (k:Int)):=HF.out.first HY.out HN.out
    clear HF;go_wp2;go_quiet (fail)
    go_wp2;go_quiet (fail)
    go_wp2;go_roundw
    ·exact⟨k+1,k,by omega,by go_num,rfl,by omega,by omega,HF2,by rw [HM.out];exact yO aU _,Go.below_drewN aG _⟩
    simp [intOf];omega
   obtain⟨fn,rfl⟩:∃ fn:Nat,f=(fn:Int):=⟨f.toNat,by omega⟩;have HF2:Hid (LU l x (k+1) (fn:Int)):=HF.out.more;clear HF hf;go_wp2;go_quiet (fail)
   go_wp2;go_quiet (fail)
   go_wp2;go_roundw
   ·exact⟨k+1,fn,by omega,by go_num,rfl,by omega,by omega,HF2,by rw [HM.out];exact yO aU _,Go.below_drewN aG _⟩
   simp [intOf];omega
  obtain rfl:k=i:=by omega
  have HM:Hid (qL l k k=qL l (k+1) 0):=aAp (by omega);simp only [qG] at x1 x3 x5 x6 x7
  by_cases XT:b= -1
  ·subst XT;have db:decide ((-1:Int)<0)=true:=rfl
   by_cases hf:f= -1
   ·subst hf;have HB2:Hid (TR l (k+1) (-1)):=HBAD.out.skip HX.out (fun _=>aLb HF.out);have df:decide ((0:Int)<= -1)=false:=rfl;clear HBAD HF;go_wp2;go_quiet (fail)
    go_wp2;go_roundw
    ·exact⟨k+1,-1,by omega,by go_num,rfl,by omega,HB2.out,by rw [<- HM.out];exact yO aU _,Go.below_drewN aG _⟩
    simp [intOf];omega
   obtain⟨fn,rfl⟩:∃ fn:Nat,f=(fn:Int):=⟨f.toNat,by omega⟩;obtain⟨y,hy⟩:∃ y,l[fn]? =some y:=⟨_,gF (by omega)⟩;obtain⟨y1,y3,y5,y6,y7⟩:=Zm aU (vM l k k) (vD hy (by omega));simp only [qG] at y1 y3 y5 y6 y7;have HMX:=Nm.aD (aLc HF.out hy);have df:decide ((0:Int)<=(fn:Int))=true:=by simp
   have f1:=fE fn
   have f2:(fn:Int)<(l.length:Int):=by omega
   clear hy HF y1 y5 y6 y7 x1 x5 x6 x7 hf
   by_cases ht:y.r.tt=x.r.tt
   ·have HB2:Hid (TR l (k+1) (-1)):=HBAD.out.skip HX.out (fun _=>by rw [HMX.out];simp [ht]);have nt:(y.r.tt != x.r.tt)=false:=by simp [ht]
    clear HBAD HMX ht;go_wp2;go_quiet (fail)
    go_wp2;go_roundw
    ·exact⟨k+1,-1,by omega,by go_num,rfl,by omega,HB2.out,by rw [<- HM.out];exact yO aU _,Go.below_drewN aG _⟩
    simp [intOf];omega
   have HB2:Hid (TR l (k+1) (k:Int)):=HBAD.out.first HX.out (by rw [HMX.out];simp [ht])
   have nt:(y.r.tt != x.r.tt)=true:=by simp [ht]
   clear HBAD HMX ht;go_wp2;go_quiet (fail)
   go_wp2;go_roundw
   ·exact⟨k+1,k,by omega,by go_num,rfl,by omega,HB2.out,by rw [<- HM.out];exact yO aU _,Go.below_drewN aG _⟩
   simp [intOf];omega
  obtain⟨bn,rfl⟩:∃ bn:Nat,b=(bn:Int):=⟨b.toNat,by omega⟩;have HB2:Hid (TR l (k+1) (bn:Int)):=HBAD.out.skip HX.out (fun h=>absurd h XT);have db:decide ((bn:Int)<0)=false:=by simp
  clear HBAD HF XT;go_wp2;go_quiet (fail)
  go_wp2;go_roundw
  ·exact⟨k+1,bn,by omega,by go_num,rfl,by omega,HB2.out,by rw [<- HM.out];exact yO aU _,Go.below_drewN aG _⟩
  simp [intOf];omega
 have EA:i=l.length:=by omega
 subst EA;rw [aEa] at aU;have HE:=Nm.aD HBAD.out.whole;go_wp2;go_ret;exact⟨by rw [HE.out];rfl,aU,aG⟩
