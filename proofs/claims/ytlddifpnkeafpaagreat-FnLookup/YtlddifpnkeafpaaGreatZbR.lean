import Derived.Test.YtlddifpnkeafpaaGreatJTrD
set_option linter.unusedVariables false
set_option maxRecDepth 100000
set_option maxHeartbeats 6400000
namespace Go.Proofs.YtlddifpnkeafpaaGreat
open Go.RowKit
variable {fo:ByteArray}{i:Nat}{l:List It}
theorem aN9(h:dC (XM l fo) l=some i):fZ l fo=(20,(i:Int)):=by rw [pR,h]
theorem aRi(h:dC (XM l fo) l=none)(h2:gZ l fo 6=false):fZ l fo=(20,-1):=by rw [pR,h,h2];rfl
theorem aRj(h:dC (XM l fo) l=none)(h2:gZ l fo 6=true)(h3:gZ l fo 2=false):fZ l fo=(21,-1):=by rw [pR,h,h2,h3];rfl
def Rok(l:List It)(fo:ByteArray):Prop:=dC (XM l fo) l=none∧gZ l fo 6=true∧gZ l fo 2=true
theorem aOa(h:Rok l fo)(h4:dC (fun _ x=>XN x) l=some i):fZ l fo=(26,(i:Int)):=by
 rw [pR,h.1,h.2.1,h.2.2,h4];rfl
theorem aOb(h:Rok l fo)(h4:dC (fun _ x=>XN x) l=none)(h5:dC (Ej l) l=some i):fZ l fo=(23,(i:Int)):=by
 rw [pR,h.1,h.2.1,h.2.2,h4,h5];rfl
theorem aRk(h:Rok l fo)(h4:dC (fun _ x=>XN x) l=none)(h5:dC (Ej l) l=none)(h6:dC (fun _ x=>XO l x) l=some i):fZ l fo=(23,(i:Int)):=by
 rw [pR,h.1,h.2.1,h.2.2,h4,h5,h6];rfl
theorem aRl(h:Rok l fo)(h4:dC (fun _ x=>XN x) l=none)(h5:dC (Ej l) l=none)(h6:dC (fun _ x=>XO l x) l=none)(h7:dC (fun _ x=>Dm l x) l=some i):fZ l fo=(25,(i:Int)):=by
 rw [pR,h.1,h.2.1,h.2.2,h4,h5,h6,h7];rfl
theorem aRm(h:Rok l fo)(h4:dC (fun _ x=>XN x) l=none)(h5:dC (Ej l) l=none)(h6:dC (fun _ x=>XO l x) l=none)(h7:dC (fun _ x=>Dm l x) l=none):fZ l fo=(0,0):=by
 rw [pR,h.1,h.2.1,h.2.2,h4,h5,h6,h7];rfl
theorem Ll(v:Value)(l:List It)(aL:ByteArray)(w:World)(h:dZ w v l.length 8 (fK l))(hl:l.length<=1000000)(ha:aL.size<=maxLen)(FL:∀ x∈l,x.fo.size<=maxLen):
 Calls Tryz.prog 83 #[v,.string aL] w fun e w'=>e=.returned (.tuple #[.int .i64 (fZ l (Nm.dV aL)).1,.int .i64 (fZ l (Nm.dV aL)).2])∧Below w.heap.size w w':=by
 have hF:=mE aL w ha;obtain⟨fo,hfe⟩:∃ fo,Nm.dV aL=fo:=⟨_,rfl⟩;rw [hfe] at hF ⊢;clear hfe;have B_:=Nm.aD h;obtain⟨_,a,cap,rfl,gT,kV,hc⟩:=h;unfold maxLen at kV;clear hc;go_enter Tryz.func83,Tryz.ntmps83;go_wp2_with (go_at_call 31;refine hF.mono ?_;rintro e w1 ⟨rfl,aG⟩)
 have HR:=Nm.aD (B_.out.below aG);clear hF B_
 go_loop [7] (fun i=>∃ k:Nat,k<=l.length∧i=.int .i64 k∧Hid (∀ (j:Nat) (y:It),j<k->l[j]? =some y->XM l fo j y=false)) (fun i=>l.length-(intOf i).toNat)
 ·exact⟨0,dR _,rfl,by show ∀ _,_;intro j y hj;omega⟩
 obtain⟨k,hk,rfl,HA⟩:=hrel
 by_cases bY:k<l.length
 ·obtain⟨x,qF⟩:=gQ bY;have hH:=yI (.slice a l.length cap) l k fo 6 w1 HR.out (by omega) hl
  have OI:Hid (XM l fo k x=(!x.out&&(x.r.ty==6)&&(!(x.fo.toList==fo.toList)||gZ (l.take k) fo 6))):=by
   show _=_
   rw [XM,ba_eq]
   by_cases h:x.r.ty=6<;>simp [h]
  obtain⟨_,a',cap',e',_,_,hc⟩:=HR.out;simp only [gK] at e';obtain⟨rfl,_,rfl⟩:=e';obtain⟨b,off,rfl,aH⟩:=hc (by omega);obtain⟨c0,c1,c2,c3,c4,c5,c6,c7⟩:=fQ aH qF;have HX:=Nm.aD qF;have i1:=fE k
  have i2:(k:Int)<(l.length:Int):=by omega
  clear aH hc qF c0 c2 c3 c4 c6;generalize gZ (l.take k) fo 6=HAS at*
  cases hO:x.out with
  |true=>
   have HN:Hid (XM l fo k x=false):=by show _=_;rw [OI.out,hO];rfl
   rw [hO] at c7;go_wp2
   go_round
   ·exact⟨k+1,by omega,by go_num,gU HA.out HX.out HN.out⟩
   simp [intOf];omega
  |false=>
   rw [hO] at c7;cases hT:(x.r.ty==6)
   ·have HN:Hid (XM l fo k x=false):=by show _=_;rw [OI.out,hO,hT];rfl
    go_wp2
    go_round
    ·exact⟨k+1,by omega,by go_num,gU HA.out HX.out HN.out⟩
    simp [intOf];omega
   cases hE:(x.fo.toList==fo.toList)
   ·have nE:(x.fo.toList != fo.toList)=true:=by rw [bne,hE];rfl
    have HE:Hid (fZ l fo=(20,(k:Int))):=aN9 (nL (fun i hi y hy=>HA.out i y hi hy) HX.out (by rw [OI.out,hO,hT,hE];rfl));go_wp2;go_ret2;exact⟨by rw [HE.out];rfl,aG⟩
   have nE:(x.fo.toList != fo.toList)=false:=by rw [bne,hE];rfl
   cases HAS
   ·have HN:Hid (XM l fo k x=false):=by show _=_;rw [OI.out,hO,hT,hE];rfl
    go_wp2_with (go_at_call 126;refine hH.mono ?_;rintro e wq ⟨rfl,LZ⟩;obtain rfl:=LZ.symm)
    go_round
    ·exact⟨k+1,by omega,by go_num,gU HA.out HX.out HN.out⟩
    simp [intOf];omega
   have HE:Hid (fZ l fo=(20,(k:Int))):=aN9 (nL (fun i hi y hy=>HA.out i y hi hy) HX.out (by rw [OI.out,hO,hT,hE];rfl));go_wp2_with (go_at_call 126;refine hH.mono ?_;rintro e wq ⟨rfl,LZ⟩;obtain rfl:=LZ.symm)
   go_ret2;exact⟨by rw [HE.out];rfl,aG⟩
 obtain rfl:k=l.length:=by omega
 have H1:Hid (dC (XM l fo) l=none):=nM (fun i hi y hy=>HA.out i y hi hy);have h6:=yI (.slice a l.length cap) l l.length fo 6 w1 HR.out (by omega) hl;have h2:=yI (.slice a l.length cap) l l.length fo 2 w1 HR.out (by omega) hl;rw [List.take_length] at h6 h2;clear HA;cases hS6:gZ l fo 6
 ·have HE:Hid (fZ l fo=(20,-1)):=aRi H1.out hS6;rw [hS6] at h6;clear hS6 h2;go_wp2_with (go_at_call 126;refine h6.mono ?_;rintro e wq ⟨rfl,LZ⟩;obtain rfl:=LZ.symm)
  go_ret2;exact⟨by rw [HE.out];rfl,aG⟩
 rw [hS6] at h6;cases Yd:gZ l fo 2
 ·have HE:Hid (fZ l fo=(21,-1)):=aRj H1.out hS6 Yd;rw [Yd] at h2;clear hS6 Yd;go_wp2_with fail
  refine h6.mono ?_;rintro e wq ⟨rfl,LZ⟩;obtain rfl:=LZ.symm;go_wp2_with fail
  refine h2.mono ?_;rintro e wq ⟨rfl,LZ⟩;obtain rfl:=LZ.symm;go_wp2;go_ret2;exact⟨by rw [HE.out];rfl,aG⟩
 have Jn:Hid (Rok l fo):=⟨H1.out,hS6,Yd⟩;rw [Yd] at h2;clear hS6 Yd H1;go_wp2_with fail
 refine h6.mono ?_;rintro e wq ⟨rfl,LZ⟩;obtain rfl:=LZ.symm;go_wp2_with fail
 refine h2.mono ?_;rintro e wq ⟨rfl,LZ⟩;obtain rfl:=LZ.symm;clear h6 h2;go_wp2
 go_loop [8] (fun i=>∃ k:Nat,k<=l.length∧i=.int .i64 k∧Hid (∀ (j:Nat) (y:It),j<k->l[j]? =some y->XN y=false)) (fun i=>l.length-(intOf i).toNat)
 ·exact⟨0,dR _,rfl,by show ∀ _,_;intro j y hj;omega⟩
 clear hk bY;obtain⟨k,hk,rfl,HA⟩:=hrel
 by_cases bY:k<l.length
 ·obtain⟨x,qF⟩:=gQ bY;have hS:=ZW x.fo w1 (FL x (dA qF))
  have OI:Hid (XN x=(!x.out&&II x.fo&&((x.r.ty==2)||(x.r.ty==39)))):=by
   show _=_
   rw [XN]
   by_cases h:x.r.ty=2<;>by_cases h':x.r.ty=39<;>simp [h,h']
  obtain⟨_,a',cap',e',_,_,hc⟩:=HR.out;simp only [gK] at e';obtain⟨rfl,_,rfl⟩:=e';obtain⟨b,off,rfl,aH⟩:=hc (by omega);obtain⟨c0,c1,c2,c3,c4,c5,c6,c7⟩:=fQ aH qF;have HX:=Nm.aD qF;have i1:=fE k
  have i2:(k:Int)<(l.length:Int):=by omega
  clear aH hc qF c0 c2 c3 c4 c6;generalize II x.fo=HAS at*
  cases hO:x.out with
  |true=>
   have HN:Hid (XN x=false):=by show _=_;rw [OI.out,hO];rfl
   rw [hO] at c7;go_wp2
   go_round
   ·exact⟨k+1,by omega,by go_num,gU (p:=fun _ y=>XN y) HA.out HX.out HN.out⟩
   simp [intOf];omega
  |false=>
   rw [hO] at c7;cases HAS
   ·have HN:Hid (XN x=false):=by show _=_;rw [OI.out,hO];rfl
    go_wp2_with (go_at_call 127;refine hS.mono ?_;rintro e wq ⟨rfl,LZ⟩;obtain rfl:=LZ.symm)
    go_round
    ·exact⟨k+1,by omega,by go_num,gU (p:=fun _ y=>XN y) HA.out HX.out HN.out⟩
    simp [intOf];omega
   cases hT:(x.r.ty==2) with
   |true=>
    have HE:Hid (fZ l fo=(26,(k:Int))):=aOa Jn.out (nL (fun i hi y hy=>HA.out i y hi hy) HX.out (by rw [OI.out,hO,hT];rfl));go_wp2_with (go_at_call 127;refine hS.mono ?_;rintro e wq ⟨rfl,LZ⟩;obtain rfl:=LZ.symm)
    go_ret2
    exact⟨by rw [HE.out];rfl,aG⟩
   |false=>
    cases OH:(x.r.ty==39) with
    |true=>
     have HE:Hid (fZ l fo=(26,(k:Int))):=aOa Jn.out (nL (fun i hi y hy=>HA.out i y hi hy) HX.out (by rw [OI.out,hO,hT,OH];rfl));go_wp2_with (go_at_call 127;refine hS.mono ?_;rintro e wq ⟨rfl,LZ⟩;obtain rfl:=LZ.symm)
     go_ret2
     exact⟨by rw [HE.out];rfl,aG⟩
    |false=>
     have HN:Hid (XN x=false):=by show _=_;rw [OI.out,hO,hT,OH];rfl
     go_wp2_with (go_at_call 127;refine hS.mono ?_;rintro e wq ⟨rfl,LZ⟩;obtain rfl:=LZ.symm)
     go_round
     ·exact⟨k+1,by omega,by go_num,gU (p:=fun _ y=>XN y) HA.out HX.out HN.out⟩
     simp [intOf];omega
 obtain rfl:k=l.length:=by omega
 have H2:Hid (dC (fun _ x=>XN x) l=none):=nM (fun i hi y hy=>HA.out i y hi hy);clear HA;go_wp2
 go_loop [10] (fun i=>∃ k:Nat,k<=l.length∧i=.int .i64 k∧Hid (∀ (j:Nat) (y:It),j<k->l[j]? =some y->Ej l j y=false)) (fun i=>l.length-(intOf i).toNat)
 ·exact⟨0,dR _,rfl,by show ∀ _,_;intro j y hj;omega⟩
 clear hk bY;obtain⟨k,hk,rfl,HA⟩:=hrel
 by_cases bY:k<l.length
 ·obtain⟨x,qF⟩:=gQ bY;have hH:=yI (.slice a l.length cap) l k x.fo x.r.ty w1 HR.out (by omega) hl
  have OI:Hid (Ej l k x=(!x.out&&((x.r.ty==5)||(x.r.ty==39))&&gZ (l.take k) x.fo x.r.ty)):=by
   show _=_
   rw [Ej]
   by_cases h:x.r.ty=5<;>by_cases h':x.r.ty=39<;>simp [h,h']
  obtain⟨_,a',cap',e',_,_,hc⟩:=HR.out;simp only [gK] at e';obtain⟨rfl,_,rfl⟩:=e';obtain⟨b,off,rfl,aH⟩:=hc (by omega);obtain⟨c0,c1,c2,c3,c4,c5,c6,c7⟩:=fQ aH qF;have HX:=Nm.aD qF;have i1:=fE k
  have i2:(k:Int)<(l.length:Int):=by omega
  clear aH hc qF c0 c2 c3 c4 c6;generalize gZ (l.take k) x.fo x.r.ty=HAS at*
  cases hO:x.out with
  |true=>
   have HN:Hid (Ej l k x=false):=by show _=_;rw [OI.out,hO];rfl
   rw [hO] at c7;go_wp2
   go_round
   ·exact⟨k+1,by omega,by go_num,gU HA.out HX.out HN.out⟩
   simp [intOf];omega
  |false=>
   rw [hO] at c7
   cases hT:(x.r.ty==5) with
   |true=>
    cases HAS
    ·have HN:Hid (Ej l k x=false):=by show _=_;rw [OI.out,hO,hT];rfl
     go_wp2_with (go_at_call 126;refine hH.mono ?_;rintro e wq ⟨rfl,LZ⟩;obtain rfl:=LZ.symm)
     go_round
     ·exact⟨k+1,by omega,by go_num,gU HA.out HX.out HN.out⟩
     simp [intOf];omega
    have HE:Hid (fZ l fo=(23,(k:Int))):=aOb Jn.out H2.out (nL (fun i hi y hy=>HA.out i y hi hy) HX.out (by rw [OI.out,hO,hT];rfl));go_wp2_with (go_at_call 126;refine hH.mono ?_;rintro e wq ⟨rfl,LZ⟩;obtain rfl:=LZ.symm)
    go_ret2
    exact⟨by rw [HE.out];rfl,aG⟩
   |false=>
    cases OH:(x.r.ty==39) with
    |true=>
     cases HAS
     ·have HN:Hid (Ej l k x=false):=by show _=_;rw [OI.out,hO,hT,OH];rfl
      go_wp2_with (go_at_call 126;refine hH.mono ?_;rintro e wq ⟨rfl,LZ⟩;obtain rfl:=LZ.symm)
      go_round
      ·exact⟨k+1,by omega,by go_num,gU HA.out HX.out HN.out⟩
      simp [intOf];omega
     have HE:Hid (fZ l fo=(23,(k:Int))):=aOb Jn.out H2.out (nL (fun i hi y hy=>HA.out i y hi hy) HX.out (by rw [OI.out,hO,hT,OH];rfl));go_wp2_with (go_at_call 126;refine hH.mono ?_;rintro e wq ⟨rfl,LZ⟩;obtain rfl:=LZ.symm)
     go_ret2
     exact⟨by rw [HE.out];rfl,aG⟩
    |false=>
     have HN:Hid (Ej l k x=false):=by show _=_;rw [OI.out,hO,hT,OH];rfl
     go_wp2
     go_round
     ·exact⟨k+1,by omega,by go_num,gU HA.out HX.out HN.out⟩
     simp [intOf];omega
 obtain rfl:k=l.length:=by omega
 have H3:Hid (dC (Ej l) l=none):=nM (fun i hi y hy=>HA.out i y hi hy);clear HA;go_wp2
 go_loop [12] (fun i=>∃ k:Nat,k<=l.length∧i=.int .i64 k∧Hid (∀ (j:Nat) (y:It),j<k->l[j]? =some y->XO l y=false)) (fun i=>l.length-(intOf i).toNat)
 ·exact⟨0,dR _,rfl,by show ∀ _,_;intro j y hj;omega⟩
 clear hk bY;obtain⟨k,hk,rfl,HA⟩:=hrel
 by_cases bY:k<l.length
 ·obtain⟨x,qF⟩:=gQ bY;have hH:=yI (.slice a l.length cap) l l.length x.fo 5 w1 HR.out (by omega) hl;rw [List.take_length] at hH
  have OI:Hid (XO l x=(!x.out&&(x.r.ty != 5)&&(x.r.ty != 47)&&gZ l x.fo 5)):=by
   show _=_
   have e5:(x.r.ty != 5)=decide (x.r.ty≠5):=by by_cases h:x.r.ty=5<;>simp [h]
   have e47:(x.r.ty != 47)=decide (x.r.ty≠47):=by by_cases h:x.r.ty=47<;>simp [h]
   rw [XO,e5,e47]
  obtain⟨_,a',cap',e',_,_,hc⟩:=HR.out;simp only [gK] at e';obtain⟨rfl,_,rfl⟩:=e';obtain⟨b,off,rfl,aH⟩:=hc (by omega);obtain⟨c0,c1,c2,c3,c4,c5,c6,c7⟩:=fQ aH qF;have HX:=Nm.aD qF;have i1:=fE k
  have i2:(k:Int)<(l.length:Int):=by omega
  clear aH hc qF c0 c2 c3 c4 c6;generalize gZ l x.fo 5=HAS at*
  cases hO:x.out with
  |true=>
   have HN:Hid (XO l x=false):=by show _=_;rw [OI.out,hO];rfl
   rw [hO] at c7;go_wp2
   go_round
   ·exact⟨k+1,by omega,by go_num,gU (p:=fun _ y=>(XO l) y) HA.out HX.out HN.out⟩
   simp [intOf];omega
  |false=>
   rw [hO] at c7;cases hT:(x.r.ty != 5)
   ·have HN:Hid (XO l x=false):=by show _=_;rw [OI.out,hO,hT];rfl
    go_wp2
    go_round
    ·exact⟨k+1,by omega,by go_num,gU (p:=fun _ y=>(XO l) y) HA.out HX.out HN.out⟩
    simp [intOf];omega
   cases OH:(x.r.ty != 47)
   ·have HN:Hid (XO l x=false):=by show _=_;rw [OI.out,hO,hT,OH];rfl
    go_wp2
    go_round
    ·exact⟨k+1,by omega,by go_num,gU (p:=fun _ y=>(XO l) y) HA.out HX.out HN.out⟩
    simp [intOf];omega
   cases HAS
   ·have HN:Hid (XO l x=false):=by show _=_;rw [OI.out,hO,hT,OH];rfl
    go_wp2_with (go_at_call 126;refine hH.mono ?_;rintro e wq ⟨rfl,LZ⟩;obtain rfl:=LZ.symm)
    go_round
    ·exact⟨k+1,by omega,by go_num,gU (p:=fun _ y=>(XO l) y) HA.out HX.out HN.out⟩
    simp [intOf];omega
   have HE:Hid (fZ l fo=(23,(k:Int))):=aRk Jn.out H2.out H3.out (nL (fun i hi y hy=>HA.out i y hi hy) HX.out (by rw [OI.out,hO,hT,OH];rfl));go_wp2_with (go_at_call 126;refine hH.mono ?_;rintro e wq ⟨rfl,LZ⟩;obtain rfl:=LZ.symm)
   go_ret2;exact⟨by rw [HE.out];rfl,aG⟩
 obtain rfl:k=l.length:=by omega
 have H4:Hid (dC (fun _ x=>XO l x) l=none):=nM (fun i hi y hy=>HA.out i y hi hy);clear HA;go_wp2
 go_loopw [14] (fun i wr=>∃ k:Nat,k<=l.length∧i=.int .i64 k∧Hid (∀ (j:Nat) (y:It),j<k->l[j]? =some y->Dm l y=false)∧Below w1.heap.size w1 wr) (fun i _=>l.length-(intOf i).toNat)
 ·exact⟨0,dR _,rfl,by show ∀ _,_;intro j y hj;omega,aJ _ _⟩
 clear hk bY;obtain⟨k,hk,rfl,HA,fJ⟩:=hrel
 by_cases bY:k<l.length
 ·obtain⟨x,qF⟩:=gQ bY;have Br:=FL x (dA qF);have i1:=fE k
  have i2:(k:Int)<(l.length:Int):=by omega
  have HX:=Nm.aD qF;clear qF
  cases hO:x.out with
  |true=>
   have HN:Hid (Dm l x=false):=by show _=_;rw [Dm,hO];rfl
   obtain⟨_,a',cap',e',_,_,hc⟩:=HR.out.below fJ;simp only [gK] at e';obtain⟨rfl,_,rfl⟩:=e';obtain⟨b,off,rfl,aH⟩:=hc (by omega);obtain⟨c0,c1,c2,c3,c4,c5,c6,c7⟩:=fQ aH HX.out;rw [hO] at c7;clear aH hc c0 c1 c2 c3 c4 c5 c6;go_wp2
   go_loopw [15] (fun i wr2=>i=.int .i64 0∧wr2=wr) (fun _ _=>0)
   ·exact⟨rfl,rfl⟩
   obtain⟨rfl,rfl⟩:=hrel;have ip:(0:Int)<(l.length:Int):=by omega
   go_wp2;go_roundw
   ·exact⟨k+1,by omega,by go_num,gU (p:=fun _ y=>Dm l y) HA.out HX.out HN.out,fJ⟩
   simp [intOf];omega
  |false=>
   go_wp2
   go_loopw [15] (fun i wr2=>∃ m:Nat,m<=l.length∧i=.int .i64 m∧Hid ((l.take m).any (be5 x)=false)∧Below w1.heap.size w1 wr2) (fun i _=>l.length-(intOf i).toNat)
   ·exact⟨0,dR _,rfl,rfl,fJ⟩
   clear fJ;obtain⟨m,hm,rfl,HM,fJ⟩:=hrel;obtain⟨_,a',cap',e',_,_,hc⟩:=HR.out.below fJ;simp only [gK] at e';obtain⟨rfl,_,rfl⟩:=e';obtain⟨b,off,rfl,aH⟩:=hc (by omega);obtain⟨c0,c1,c2,c3,c4,c5,c6,c7⟩:=fQ aH HX.out;rw [hO] at c7;clear c0 c1 c2 c3 c4 c6
   by_cases Fe:m<l.length
   ·obtain⟨y,hy⟩:=gQ Fe;obtain⟨d0,d1,d2,d3,d4,d5,d6,d7⟩:=fQ aH hy;have hU:=fun W=>iA x.fo y.fo W Br (FL y (dA hy))
    have OI:Hid (be5 x y=(!y.out&&(y.r.ty==39)&& !(y.fo.toList==x.fo.toList)&&cZ x.fo y.fo)):=by
     show _=_
     rw [be5,ba_eq]
     by_cases h:y.r.ty=39<;>simp [h]
    have HY:=Nm.aD hy;have j1:=fE m
    have j2:(m:Int)<(l.length:Int):=by omega
    clear d0 d2 d3 d4 d6 aH hc hy;generalize cZ x.fo y.fo=IU at*
    cases Tx:y.out with
    |true=>
     have HN:Hid (be5 x y=false):=by show _=_;rw [OI.out,Tx];rfl
     rw [Tx] at d7;go_wp2;go_quiet (fail)
     go_wp2;go_roundw
     ·exact⟨m+1,by omega,by go_num,PT HM.out HY.out HN.out,Go.below_drewN fJ _⟩
     simp [intOf];omega
    |false=>
     rw [Tx] at d7;cases hT:(y.r.ty==39)
     ·have HN:Hid (be5 x y=false):=by show _=_;rw [OI.out,Tx,hT];rfl
      go_wp2;go_quiet (fail)
      go_wp2;go_roundw
      ·exact⟨m+1,by omega,by go_num,PT HM.out HY.out HN.out,Go.below_drewN fJ _⟩
      simp [intOf];omega
     cases hE:(y.fo.toList==x.fo.toList) with
     |true=>
      have HN:Hid (be5 x y=false):=by show _=_;rw [OI.out,Tx,hT,hE];rfl
      have nE:(y.fo.toList != x.fo.toList)=false:=by rw [bne,hE];rfl
      go_wp2;go_quiet (fail)
      go_wp2;go_roundw
      ·exact⟨m+1,by omega,by go_num,PT HM.out HY.out HN.out,Go.below_drewN fJ _⟩
      simp [intOf];omega
     |false=>
      have nE:(y.fo.toList != x.fo.toList)=true:=by rw [bne,hE];rfl
      have hS:∀ W,Below w1.heap.size w1 W->(W.cell? ⟨b,off+m*8+7,none⟩=some (.bool false)∧W.cell? ⟨b,off+m*8+1,none⟩=some (.int .i64 y.r.ty)∧W.cell? ⟨b,off+m*8+5,none⟩=some (.string y.fo)∧W.cell? ⟨b,off+k*8+5,none⟩=some (.string x.fo))∧Below w1.heap.size w1 W:=by
       intro W hW;obtain⟨_,a',cap',e',_,_,hc⟩:=HR.out.below hW;simp only [gK] at e';obtain⟨e1,_,_⟩:=e';obtain⟨b',off',e2,aH⟩:=hc (by omega);rw [<- e1] at e2;cases e2
       obtain⟨d0,d1,d2,d3,d4,d5,d6,d7⟩:=fQ aH HY.out;obtain⟨c0,c1,c2,c3,c4,c5,c6,c7⟩:=fQ aH HX.out;rw [Tx] at d7;exact⟨⟨d7,d1,d5,c5⟩,hW⟩
      have FV:=hS _ fJ.drew;have hiy:=fun W (hW:Below w1.heap.size w1 W)=>(hU W).mono (R':=fun e w'=>e=.returned (.bool IU)∧Below w1.heap.size w1 w') (by rintro e w' ⟨he,hb⟩;exact⟨he,hW.trans (hb.mono hW.size)⟩)
      have hwk:IntKind.i64.wrap (k:Int)=(k:Int):=Go.wrap_small _ (by omega) (by omega);have hwm:IntKind.i64.wrap (m:Int)=(m:Int):=Go.wrap_small _ (by omega) (by omega);clear hU;cases IU
      ·have HN:Hid (be5 x y=false):=by show _=_;rw [OI.out,Tx,hT,hE];rfl
       go_wp2;go_region_held3 (fun W=>(W.cell? ⟨b,off+m*8+7,none⟩=some (.bool false)∧W.cell? ⟨b,off+m*8+1,none⟩=some (.int .i64 y.r.ty)∧W.cell? ⟨b,off+m*8+5,none⟩=some (.string y.fo)∧W.cell? ⟨b,off+k*8+5,none⟩=some (.string x.fo))∧Below w1.heap.size w1 W) (first|with_reducible assumption|with_reducible exact FV) ((first|(go_at_call 12;refine(hiy _ FV.2).mono ?_;rintro e w3 ⟨rfl,SX⟩;have MJ:=hS _ SX)))
       go_wp2;go_roundw
       ·exact⟨m+1,by omega,by go_num,PT HM.out HY.out HN.out,MJ.2⟩
       simp [intOf];omega
      have HE:Hid (fZ l fo=(25,(k:Int))):=aRl Jn.out H2.out H3.out H4.out (nL (fun i hi y hy=>HA.out i y hi hy) HX.out (by
       have e1:be5 x y=true:=by rw [OI.out,Tx,hT,hE];rfl
       rw [Dm,hO]
       show(true&&_)=true
       rw [Bool.true_and,List.any_eq_true]
       exact⟨y,dA HY.out,e1⟩))
      go_wp2;go_region_held3 (fun W=>(W.cell? ⟨b,off+m*8+7,none⟩=some (.bool false)∧W.cell? ⟨b,off+m*8+1,none⟩=some (.int .i64 y.r.ty)∧W.cell? ⟨b,off+m*8+5,none⟩=some (.string y.fo)∧W.cell? ⟨b,off+k*8+5,none⟩=some (.string x.fo))∧Below w1.heap.size w1 W) (first|with_reducible assumption|with_reducible exact FV) ((first|(go_at_call 12;refine(hiy _ FV.2).mono ?_;rintro e w3 ⟨rfl,SX⟩;have MJ:=hS _ SX)))
      go_wp2;go_ret2;exact⟨by rw [HE.out];rfl,Nm.aC aG MJ.2⟩
   obtain rfl:m=l.length:=by omega
   have HN:Hid (Dm l x=false):=by
    show _=_
    have:=HM.out;rw [List.take_length] at this;rw [Dm,hO,show(l.any fun y=>be5 x y)=l.any (be5 x) from rfl,this];rfl
   have j2:(l.length:Int)<=(l.length:Int):=by omega
   clear aH hc;go_wp2;go_roundw
   ·exact⟨k+1,by omega,by go_num,gU (p:=fun _ y=>Dm l y) HA.out HX.out HN.out,fJ⟩
   simp [intOf];omega
 obtain rfl:k=l.length:=by omega
 have HE:Hid (fZ l fo=(0,0)):=aRm Jn.out H2.out H3.out H4.out (nM (fun i hi y hy=>HA.out i y hi hy));go_wp2;go_ret2;exact⟨by rw [HE.out];rfl,Nm.aC aG fJ⟩
