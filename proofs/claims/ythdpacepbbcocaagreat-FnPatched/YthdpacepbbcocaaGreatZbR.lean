import Derived.Test.YthdpacepbbcocaaGreatJTrD
set_option linter.unusedVariables false
set_option maxRecDepth 100000
set_option maxHeartbeats 6400000
namespace Go.Proofs.YthdpacepbbcocaaGreat
open Go.RowKit
theorem aQc{l:List It}{fo:ByteArray}{i:Nat}(h:bL (EA l fo) l=some i):fM l fo=(20,(i:Int)):=by rw [lJ,h]
theorem aTt{l:List It}{fo:ByteArray}(h:bL (EA l fo) l=none)(h2:fH l fo 6=false):fM l fo=(20,-1):=by rw [lJ,h,h2];rfl
theorem aTu{l:List It}{fo:ByteArray}(h:bL (EA l fo) l=none)(h2:fH l fo 6=true)(h3:fH l fo 2=false):fM l fo=(21,-1):=by rw [lJ,h,h2,h3];rfl
def Rok(l:List It)(fo:ByteArray):Prop:=bL (EA l fo) l=none∧fH l fo 6=true∧fH l fo 2=true
theorem aQd{l:List It}{fo:ByteArray}{i:Nat}(h:Rok l fo)(h4:bL (fun _ x=>KX x) l=some i):fM l fo=(26,(i:Int)):=by
 rw [lJ,h.1,h.2.1,h.2.2,h4];rfl
theorem aQe{l:List It}{fo:ByteArray}{i:Nat}(h:Rok l fo)(h4:bL (fun _ x=>KX x) l=none)(h5:bL (MJ l) l=some i):fM l fo=(23,(i:Int)):=by
 rw [lJ,h.1,h.2.1,h.2.2,h4,h5];rfl
theorem aTv{l:List It}{fo:ByteArray}{i:Nat}(h:Rok l fo)(h4:bL (fun _ x=>KX x) l=none)(h5:bL (MJ l) l=none)(h6:bL (fun _ x=>KG l x) l=some i):fM l fo=(23,(i:Int)):=by
 rw [lJ,h.1,h.2.1,h.2.2,h4,h5,h6];rfl
theorem aTw{l:List It}{fo:ByteArray}{i:Nat}(h:Rok l fo)(h4:bL (fun _ x=>KX x) l=none)(h5:bL (MJ l) l=none)(h6:bL (fun _ x=>KG l x) l=none)(h7:bL (fun _ x=>PQ l x) l=some i):fM l fo=(25,(i:Int)):=by
 rw [lJ,h.1,h.2.1,h.2.2,h4,h5,h6,h7];rfl
theorem aTx{l:List It}{fo:ByteArray}(h:Rok l fo)(h4:bL (fun _ x=>KX x) l=none)(h5:bL (MJ l) l=none)(h6:bL (fun _ x=>KG l x) l=none)(h7:bL (fun _ x=>PQ l x) l=none):fM l fo=(0,0):=by
 rw [lJ,h.1,h.2.1,h.2.2,h4,h5,h6,h7];rfl
theorem Ib(v:Value)(l:List It)(aM:ByteArray)(w:World)(h:bS w v l.length 8 (fD l))(hl:l.length<=1000000)(ha:aM.size<=maxLen)(yN:∀ x∈l,x.fo.size<=maxLen):
 Calls Tryz.prog 65 #[v,.string aM] w fun e w'=>e=.returned (.tuple #[.int .i64 (fM l (Nm.cZ aM)).1,.int .i64 (fM l (Nm.cZ aM)).2])∧Below w.heap.size w w':=by
 have hF:=lH aM w ha;obtain⟨fo,hfe⟩:∃ fo,Nm.cZ aM=fo:=⟨_,rfl⟩;rw [hfe] at hF ⊢;clear hfe;have Yo:=Nm.aF h;obtain⟨_,a,cap,rfl,gY,kK,hc⟩:=h;unfold maxLen at kK;clear hc;go_enter Tryz.func65,Tryz.ntmps65;go_wp2_with (go_at_call 62;refine hF.mono ?_;rintro e w1 ⟨rfl,aJ⟩)
 have HR:=Nm.aF (Yo.out.below aJ);clear hF Yo
 go_loop [7] (fun i=>∃ k:Nat,k<=l.length∧i=.int .i64 k∧Hid (∀ (j:Nat) (y:It),j<k->l[j]? =some y->EA l fo j y=false)) (fun i=>l.length-(intOf i).toNat)
 case atStart=>exact⟨0,dO _,rfl,by show ∀ _,_;intro j y hj;omega⟩
 obtain⟨k,hk,rfl,HA⟩:=hrel
 by_cases bV:k<l.length
 ·obtain⟨x,nI⟩:∃ x,l[k]? =some x:=⟨_,bY bV⟩;have hH:=wU (.slice a l.length cap) l k fo 6 w1 HR.out (by omega) hl
  have KZ:Hid (EA l fo k x=(!x.out&&(x.r.ty==6)&&(!(x.fo.toList==fo.toList)||fH (l.take k) fo 6))):=by
   show _=_
   rw [EA,ba_eq]
   by_cases h:x.r.ty=6<;>simp [h]
  obtain⟨_,a',cap',e',_,_,hc⟩:=HR.out;simp only [iG] at e';obtain⟨rfl,_,rfl⟩:=e';obtain⟨b,off,rfl,aL⟩:=hc (by omega);obtain⟨c0,c1,c2,c3,c4,c5,c6,c7⟩:=fI aL nI;have HX:=Nm.aF nI;have i1:(0:Int)<=(k:Int):=by omega
  have i2:(k:Int)<(l.length:Int):=by omega
  clear aL hc nI c0 c2 c3 c4 c6;generalize fH (l.take k) fo 6=HAS at*
  cases hO:x.out with
  |true=>
   have HN:Hid (EA l fo k x=false):=by show _=_;rw [KZ.out,hO];rfl
   rw [hO] at c7;go_wp2
   go_round
   case rel=>exact⟨k+1,by omega,by go_num,gG HA.out HX.out HN.out⟩
   simp [intOf];omega
  |false=>
   rw [hO] at c7;cases hT:(x.r.ty==6)
   ·have HN:Hid (EA l fo k x=false):=by show _=_;rw [KZ.out,hO,hT];rfl
    go_wp2
    go_round
    case rel=>exact⟨k+1,by omega,by go_num,gG HA.out HX.out HN.out⟩
    simp [intOf];omega
   cases hE:(x.fo.toList==fo.toList)
   ·have nE:(x.fo.toList != fo.toList)=true:=by rw [bne,hE];rfl
    have HE:Hid (fM l fo=(20,(k:Int))):=aQc (mM (fun i hi y hy=>HA.out i y hi hy) HX.out (by rw [KZ.out,hO,hT,hE];rfl));go_wp2;go_ret2;exact⟨by rw [HE.out];rfl,aJ⟩
   have nE:(x.fo.toList != fo.toList)=false:=by rw [bne,hE];rfl
   cases HAS
   ·have HN:Hid (EA l fo k x=false):=by show _=_;rw [KZ.out,hO,hT,hE];rfl
    go_wp2_with (go_at_call 100;refine hH.mono ?_;rintro e wq ⟨rfl,IV⟩;obtain rfl:=IV.symm)
    go_round
    case rel=>exact⟨k+1,by omega,by go_num,gG HA.out HX.out HN.out⟩
    simp [intOf];omega
   have HE:Hid (fM l fo=(20,(k:Int))):=aQc (mM (fun i hi y hy=>HA.out i y hi hy) HX.out (by rw [KZ.out,hO,hT,hE];rfl));go_wp2_with (go_at_call 100;refine hH.mono ?_;rintro e wq ⟨rfl,IV⟩;obtain rfl:=IV.symm)
   go_ret2;exact⟨by rw [HE.out];rfl,aJ⟩
 obtain rfl:k=l.length:=by omega
 have H1:Hid (bL (EA l fo) l=none):=lI (fun i hi y hy=>HA.out i y hi hy);have h6:=wU (.slice a l.length cap) l l.length fo 6 w1 HR.out (by omega) hl;have h2:=wU (.slice a l.length cap) l l.length fo 2 w1 HR.out (by omega) hl;rw [List.take_length] at h6 h2;have i3:(l.length:Int)<=(l.length:Int):=by omega
 clear HA;cases hS6:fH l fo 6
 ·have HE:Hid (fM l fo=(20,-1)):=aTt H1.out hS6;rw [hS6] at h6;clear hS6 h2;go_wp2_with (go_at_call 100;refine h6.mono ?_;rintro e wq ⟨rfl,IV⟩;obtain rfl:=IV.symm)
  go_ret2;exact⟨by rw [HE.out];rfl,aJ⟩
 rw [hS6] at h6;cases hS2:fH l fo 2
 ·have HE:Hid (fM l fo=(21,-1)):=aTu H1.out hS6 hS2;rw [hS2] at h2;clear hS6 hS2;go_wp2_with fail
  refine h6.mono ?_;rintro e wq ⟨rfl,IV⟩;obtain rfl:=IV.symm;go_wp2_with fail
  refine h2.mono ?_;rintro e wq ⟨rfl,IV⟩;obtain rfl:=IV.symm;go_wp2;go_ret2;exact⟨by rw [HE.out];rfl,aJ⟩
 have Ez:Hid (Rok l fo):=⟨H1.out,hS6,hS2⟩;rw [hS2] at h2;clear hS6 hS2 H1;go_wp2_with fail
 refine h6.mono ?_;rintro e wq ⟨rfl,IV⟩;obtain rfl:=IV.symm;go_wp2_with fail
 refine h2.mono ?_;rintro e wq ⟨rfl,IV⟩;obtain rfl:=IV.symm;clear h6 h2;go_wp2
 go_loop [8] (fun i=>∃ k:Nat,k<=l.length∧i=.int .i64 k∧Hid (∀ (j:Nat) (y:It),j<k->l[j]? =some y->KX y=false)) (fun i=>l.length-(intOf i).toNat)
 case atStart=>exact⟨0,dO _,rfl,by show ∀ _,_;intro j y hj;omega⟩
 clear hk bV i3;obtain⟨k,hk,rfl,HA⟩:=hrel
 by_cases bV:k<l.length
 ·obtain⟨x,nI⟩:∃ x,l[k]? =some x:=⟨_,bY bV⟩;have hS:=WF x.fo w1 (yN x (bP nI))
  have KZ:Hid (KX x=(!x.out&&yF x.fo&&((x.r.ty==2)||(x.r.ty==39)))):=by
   show _=_
   rw [KX]
   by_cases h:x.r.ty=2<;>by_cases h':x.r.ty=39<;>simp [h,h']
  obtain⟨_,a',cap',e',_,_,hc⟩:=HR.out;simp only [iG] at e';obtain⟨rfl,_,rfl⟩:=e';obtain⟨b,off,rfl,aL⟩:=hc (by omega);obtain⟨c0,c1,c2,c3,c4,c5,c6,c7⟩:=fI aL nI;have HX:=Nm.aF nI;have i1:(0:Int)<=(k:Int):=by omega
  have i2:(k:Int)<(l.length:Int):=by omega
  clear aL hc nI c0 c2 c3 c4 c6;generalize yF x.fo=HAS at*
  cases hO:x.out with
  |true=>
   have HN:Hid (KX x=false):=by show _=_;rw [KZ.out,hO];rfl
   rw [hO] at c7;go_wp2
   go_round
   case rel=>exact⟨k+1,by omega,by go_num,gG (p:=fun _ y=>KX y) HA.out HX.out HN.out⟩
   simp [intOf];omega
  |false=>
   rw [hO] at c7;cases HAS
   ·have HN:Hid (KX x=false):=by show _=_;rw [KZ.out,hO];rfl
    go_wp2_with (go_at_call 101;refine hS.mono ?_;rintro e wq ⟨rfl,IV⟩;obtain rfl:=IV.symm)
    go_round
    case rel=>exact⟨k+1,by omega,by go_num,gG (p:=fun _ y=>KX y) HA.out HX.out HN.out⟩
    simp [intOf];omega
   cases hT:(x.r.ty==2) with
   |true=>
    have HE:Hid (fM l fo=(26,(k:Int))):=aQd Ez.out (mM (fun i hi y hy=>HA.out i y hi hy) HX.out (by rw [KZ.out,hO,hT];rfl));go_wp2_with (go_at_call 101;refine hS.mono ?_;rintro e wq ⟨rfl,IV⟩;obtain rfl:=IV.symm)
    go_ret2
    exact⟨by rw [HE.out];rfl,aJ⟩
   |false=>
    cases OM:(x.r.ty==39) with
    |true=>
     have HE:Hid (fM l fo=(26,(k:Int))):=aQd Ez.out (mM (fun i hi y hy=>HA.out i y hi hy) HX.out (by rw [KZ.out,hO,hT,OM];rfl));go_wp2_with (go_at_call 101;refine hS.mono ?_;rintro e wq ⟨rfl,IV⟩;obtain rfl:=IV.symm)
     go_ret2
     exact⟨by rw [HE.out];rfl,aJ⟩
    |false=>
     have HN:Hid (KX x=false):=by show _=_;rw [KZ.out,hO,hT,OM];rfl
     go_wp2_with (go_at_call 101;refine hS.mono ?_;rintro e wq ⟨rfl,IV⟩;obtain rfl:=IV.symm)
     go_round
     case rel=>exact⟨k+1,by omega,by go_num,gG (p:=fun _ y=>KX y) HA.out HX.out HN.out⟩
     simp [intOf];omega
 obtain rfl:k=l.length:=by omega
 have H2:Hid (bL (fun _ x=>KX x) l=none):=lI (fun i hi y hy=>HA.out i y hi hy);have i3:(l.length:Int)<=(l.length:Int):=by omega
 clear HA;go_wp2
 go_loop [10] (fun i=>∃ k:Nat,k<=l.length∧i=.int .i64 k∧Hid (∀ (j:Nat) (y:It),j<k->l[j]? =some y->MJ l j y=false)) (fun i=>l.length-(intOf i).toNat)
 case atStart=>exact⟨0,dO _,rfl,by show ∀ _,_;intro j y hj;omega⟩
 clear hk bV i3;obtain⟨k,hk,rfl,HA⟩:=hrel
 by_cases bV:k<l.length
 ·obtain⟨x,nI⟩:∃ x,l[k]? =some x:=⟨_,bY bV⟩;have hH:=wU (.slice a l.length cap) l k x.fo x.r.ty w1 HR.out (by omega) hl
  have KZ:Hid (MJ l k x=(!x.out&&((x.r.ty==5)||(x.r.ty==39))&&fH (l.take k) x.fo x.r.ty)):=by
   show _=_
   rw [MJ]
   by_cases h:x.r.ty=5<;>by_cases h':x.r.ty=39<;>simp [h,h']
  obtain⟨_,a',cap',e',_,_,hc⟩:=HR.out;simp only [iG] at e';obtain⟨rfl,_,rfl⟩:=e';obtain⟨b,off,rfl,aL⟩:=hc (by omega);obtain⟨c0,c1,c2,c3,c4,c5,c6,c7⟩:=fI aL nI;have HX:=Nm.aF nI;have i1:(0:Int)<=(k:Int):=by omega
  have i2:(k:Int)<(l.length:Int):=by omega
  clear aL hc nI c0 c2 c3 c4 c6;generalize fH (l.take k) x.fo x.r.ty=HAS at*
  cases hO:x.out with
  |true=>
   have HN:Hid (MJ l k x=false):=by show _=_;rw [KZ.out,hO];rfl
   rw [hO] at c7;go_wp2
   go_round
   case rel=>exact⟨k+1,by omega,by go_num,gG HA.out HX.out HN.out⟩
   simp [intOf];omega
  |false=>
   rw [hO] at c7
   cases hT:(x.r.ty==5) with
   |true=>
    cases HAS
    ·have HN:Hid (MJ l k x=false):=by show _=_;rw [KZ.out,hO,hT];rfl
     go_wp2_with (go_at_call 100;refine hH.mono ?_;rintro e wq ⟨rfl,IV⟩;obtain rfl:=IV.symm)
     go_round
     case rel=>exact⟨k+1,by omega,by go_num,gG HA.out HX.out HN.out⟩
     simp [intOf];omega
    have HE:Hid (fM l fo=(23,(k:Int))):=aQe Ez.out H2.out (mM (fun i hi y hy=>HA.out i y hi hy) HX.out (by rw [KZ.out,hO,hT];rfl));go_wp2_with (go_at_call 100;refine hH.mono ?_;rintro e wq ⟨rfl,IV⟩;obtain rfl:=IV.symm)
    go_ret2
    exact⟨by rw [HE.out];rfl,aJ⟩
   |false=>
    cases OM:(x.r.ty==39) with
    |true=>
     cases HAS
     ·have HN:Hid (MJ l k x=false):=by show _=_;rw [KZ.out,hO,hT,OM];rfl
      go_wp2_with (go_at_call 100;refine hH.mono ?_;rintro e wq ⟨rfl,IV⟩;obtain rfl:=IV.symm)
      go_round
      case rel=>exact⟨k+1,by omega,by go_num,gG HA.out HX.out HN.out⟩
      simp [intOf];omega
     have HE:Hid (fM l fo=(23,(k:Int))):=aQe Ez.out H2.out (mM (fun i hi y hy=>HA.out i y hi hy) HX.out (by rw [KZ.out,hO,hT,OM];rfl));go_wp2_with (go_at_call 100;refine hH.mono ?_;rintro e wq ⟨rfl,IV⟩;obtain rfl:=IV.symm)
     go_ret2
     exact⟨by rw [HE.out];rfl,aJ⟩
    |false=>
     have HN:Hid (MJ l k x=false):=by show _=_;rw [KZ.out,hO,hT,OM];rfl
     go_wp2
     go_round
     case rel=>exact⟨k+1,by omega,by go_num,gG HA.out HX.out HN.out⟩
     simp [intOf];omega
 obtain rfl:k=l.length:=by omega
 have H3:Hid (bL (MJ l) l=none):=lI (fun i hi y hy=>HA.out i y hi hy);have i3:(l.length:Int)<=(l.length:Int):=by omega
 clear HA;go_wp2
 go_loop [12] (fun i=>∃ k:Nat,k<=l.length∧i=.int .i64 k∧Hid (∀ (j:Nat) (y:It),j<k->l[j]? =some y->KG l y=false)) (fun i=>l.length-(intOf i).toNat)
 case atStart=>exact⟨0,dO _,rfl,by show ∀ _,_;intro j y hj;omega⟩
 clear hk bV i3;obtain⟨k,hk,rfl,HA⟩:=hrel
 by_cases bV:k<l.length
 ·obtain⟨x,nI⟩:∃ x,l[k]? =some x:=⟨_,bY bV⟩;have hH:=wU (.slice a l.length cap) l l.length x.fo 5 w1 HR.out (by omega) hl;rw [List.take_length] at hH
  have KZ:Hid (KG l x=(!x.out&&(x.r.ty != 5)&&(x.r.ty != 47)&&fH l x.fo 5)):=by
   show _=_
   have e5:(x.r.ty != 5)=decide (x.r.ty≠5):=by by_cases h:x.r.ty=5<;>simp [h]
   have e47:(x.r.ty != 47)=decide (x.r.ty≠47):=by by_cases h:x.r.ty=47<;>simp [h]
   rw [KG,e5,e47]
  obtain⟨_,a',cap',e',_,_,hc⟩:=HR.out;simp only [iG] at e';obtain⟨rfl,_,rfl⟩:=e';obtain⟨b,off,rfl,aL⟩:=hc (by omega);obtain⟨c0,c1,c2,c3,c4,c5,c6,c7⟩:=fI aL nI;have HX:=Nm.aF nI;have i1:(0:Int)<=(k:Int):=by omega
  have i2:(k:Int)<(l.length:Int):=by omega
  clear aL hc nI c0 c2 c3 c4 c6;generalize fH l x.fo 5=HAS at*
  cases hO:x.out with
  |true=>
   have HN:Hid (KG l x=false):=by show _=_;rw [KZ.out,hO];rfl
   rw [hO] at c7;go_wp2
   go_round
   case rel=>exact⟨k+1,by omega,by go_num,gG (p:=fun _ y=>(KG l) y) HA.out HX.out HN.out⟩
   simp [intOf];omega
  |false=>
   rw [hO] at c7;cases hT:(x.r.ty != 5)
   ·have HN:Hid (KG l x=false):=by show _=_;rw [KZ.out,hO,hT];rfl
    go_wp2
    go_round
    case rel=>exact⟨k+1,by omega,by go_num,gG (p:=fun _ y=>(KG l) y) HA.out HX.out HN.out⟩
    simp [intOf];omega
   cases OM:(x.r.ty != 47)
   ·have HN:Hid (KG l x=false):=by show _=_;rw [KZ.out,hO,hT,OM];rfl
    go_wp2
    go_round
    case rel=>exact⟨k+1,by omega,by go_num,gG (p:=fun _ y=>(KG l) y) HA.out HX.out HN.out⟩
    simp [intOf];omega
   cases HAS
   ·have HN:Hid (KG l x=false):=by show _=_;rw [KZ.out,hO,hT,OM];rfl
    go_wp2_with (go_at_call 100;refine hH.mono ?_;rintro e wq ⟨rfl,IV⟩;obtain rfl:=IV.symm)
    go_round
    case rel=>exact⟨k+1,by omega,by go_num,gG (p:=fun _ y=>(KG l) y) HA.out HX.out HN.out⟩
    simp [intOf];omega
   have HE:Hid (fM l fo=(23,(k:Int))):=aTv Ez.out H2.out H3.out (mM (fun i hi y hy=>HA.out i y hi hy) HX.out (by rw [KZ.out,hO,hT,OM];rfl));go_wp2_with (go_at_call 100;refine hH.mono ?_;rintro e wq ⟨rfl,IV⟩;obtain rfl:=IV.symm)
   go_ret2;exact⟨by rw [HE.out];rfl,aJ⟩
 obtain rfl:k=l.length:=by omega
 have H4:Hid (bL (fun _ x=>KG l x) l=none):=lI (fun i hi y hy=>HA.out i y hi hy);have i3:(l.length:Int)<=(l.length:Int):=by omega
 clear HA;go_wp2
 go_loopw [14] (fun i wr=>∃ k:Nat,k<=l.length∧i=.int .i64 k∧Hid (∀ (j:Nat) (y:It),j<k->l[j]? =some y->PQ l y=false)∧Below w1.heap.size w1 wr) (fun i _=>l.length-(intOf i).toNat)
 case atStart=>exact⟨0,dO _,rfl,by show ∀ _,_;intro j y hj;omega,aK _ _⟩
 clear hk bV i3;obtain⟨k,hk,rfl,HA,fF⟩:=hrel
 by_cases bV:k<l.length
 ·obtain⟨x,nI⟩:∃ x,l[k]? =some x:=⟨_,bY bV⟩;have IP:=yN x (bP nI);have i1:(0:Int)<=(k:Int):=by omega
  have i2:(k:Int)<(l.length:Int):=by omega
  have HX:=Nm.aF nI;clear nI
  cases hO:x.out with
  |true=>
   have HN:Hid (PQ l x=false):=by show _=_;rw [PQ,hO];rfl
   obtain⟨_,a',cap',e',_,_,hc⟩:=HR.out.below fF;simp only [iG] at e';obtain⟨rfl,_,rfl⟩:=e';obtain⟨b,off,rfl,aL⟩:=hc (by omega);obtain⟨c0,c1,c2,c3,c4,c5,c6,c7⟩:=fI aL HX.out;rw [hO] at c7;clear aL hc c0 c1 c2 c3 c4 c5 c6;go_wp2
   go_loopw [15] (fun i wr2=>i=.int .i64 0∧wr2=wr) (fun _ _=>0)
   case atStart=>exact⟨rfl,rfl⟩
   obtain⟨rfl,rfl⟩:=hrel;have ip:(0:Int)<(l.length:Int):=by omega
   go_wp2;go_roundw
   case rel=>exact⟨k+1,by omega,by go_num,gG (p:=fun _ y=>PQ l y) HA.out HX.out HN.out,fF⟩
   simp [intOf];omega
  |false=>
   go_wp2
   go_loopw [15] (fun i wr2=>∃ m:Nat,m<=l.length∧i=.int .i64 m∧Hid ((l.take m).any (Sn x)=false)∧Below w1.heap.size w1 wr2) (fun i _=>l.length-(intOf i).toNat)
   case atStart=>exact⟨0,dO _,rfl,rfl,fF⟩
   clear fF;obtain⟨m,hm,rfl,HM,fF⟩:=hrel;obtain⟨_,a',cap',e',_,_,hc⟩:=HR.out.below fF;simp only [iG] at e';obtain⟨rfl,_,rfl⟩:=e';obtain⟨b,off,rfl,aL⟩:=hc (by omega);obtain⟨c0,c1,c2,c3,c4,c5,c6,c7⟩:=fI aL HX.out;rw [hO] at c7;clear c0 c1 c2 c3 c4 c6
   by_cases hml:m<l.length
   ·obtain⟨y,hy⟩:∃ y,l[m]? =some y:=⟨_,bY hml⟩;obtain⟨d0,d1,d2,d3,d4,d5,d6,d7⟩:=fI aL hy;have hU:=fun W=>CL x.fo y.fo W IP (yN y (bP hy))
    have KZ:Hid (Sn x y=(!y.out&&(y.r.ty==39)&& !(y.fo.toList==x.fo.toList)&&fT x.fo y.fo)):=by
     show _=_
     rw [Sn,ba_eq]
     by_cases h:y.r.ty=39<;>simp [h]
    have HY:=Nm.aF hy;have j1:(0:Int)<=(m:Int):=by omega
    have j2:(m:Int)<(l.length:Int):=by omega
    clear d0 d2 d3 d4 d6 aL hc hy;generalize fT x.fo y.fo=IU at*
    cases Qv:y.out with
    |true=>
     have HN:Hid (Sn x y=false):=by show _=_;rw [KZ.out,Qv];rfl
     rw [Qv] at d7;go_wp2;go_quiet (fail)
     go_wp2;go_roundw
     case rel=>exact⟨m+1,by omega,by go_num,MK HM.out HY.out HN.out,Go.below_drewN fF _⟩
     simp [intOf];omega
    |false=>
     rw [Qv] at d7;cases hT:(y.r.ty==39)
     ·have HN:Hid (Sn x y=false):=by show _=_;rw [KZ.out,Qv,hT];rfl
      go_wp2;go_quiet (fail)
      go_wp2;go_roundw
      case rel=>exact⟨m+1,by omega,by go_num,MK HM.out HY.out HN.out,Go.below_drewN fF _⟩
      simp [intOf];omega
     cases hE:(y.fo.toList==x.fo.toList) with
     |true=>
      have HN:Hid (Sn x y=false):=by show _=_;rw [KZ.out,Qv,hT,hE];rfl
      have nE:(y.fo.toList != x.fo.toList)=false:=by rw [bne,hE];rfl
      go_wp2;go_quiet (fail)
      go_wp2;go_roundw
      case rel=>exact⟨m+1,by omega,by go_num,MK HM.out HY.out HN.out,Go.below_drewN fF _⟩
      simp [intOf];omega
     |false=>
      have nE:(y.fo.toList != x.fo.toList)=true:=by rw [bne,hE];rfl
      have hS:∀ W,Below w1.heap.size w1 W->(W.cell? ⟨b,off+m*8+7,none⟩=some (.bool false)∧W.cell? ⟨b,off+m*8+1,none⟩=some (.int .i64 y.r.ty)∧W.cell? ⟨b,off+m*8+5,none⟩=some (.string y.fo)∧W.cell? ⟨b,off+k*8+5,none⟩=some (.string x.fo))∧Below w1.heap.size w1 W:=by
       intro W hW;obtain⟨_,a',cap',e',_,_,hc⟩:=HR.out.below hW;simp only [iG] at e';obtain⟨e1,_,_⟩:=e';obtain⟨b',off',e2,aL⟩:=hc (by omega);rw [<- e1] at e2;cases e2
       obtain⟨d0,d1,d2,d3,d4,d5,d6,d7⟩:=fI aL HY.out;obtain⟨c0,c1,c2,c3,c4,c5,c6,c7⟩:=fI aL HX.out;rw [Qv] at d7;exact⟨⟨d7,d1,d5,c5⟩,hW⟩
      have GV:=hS _ fF.drew;have hiy:=fun W (hW:Below w1.heap.size w1 W)=>(hU W).mono (R':=fun e w'=>e=.returned (.bool IU)∧Below w1.heap.size w1 w') (by rintro e w' ⟨he,hb⟩;exact⟨he,hW.trans (hb.mono hW.size)⟩)
      have hwk:IntKind.i64.wrap (k:Int)=(k:Int):=Go.wrap_small _ (by omega) (by omega);have hwm:IntKind.i64.wrap (m:Int)=(m:Int):=Go.wrap_small _ (by omega) (by omega);clear hU;cases IU
      ·have HN:Hid (Sn x y=false):=by show _=_;rw [KZ.out,Qv,hT,hE];rfl
       go_wp2;go_region_held3 (fun W=>(W.cell? ⟨b,off+m*8+7,none⟩=some (.bool false)∧W.cell? ⟨b,off+m*8+1,none⟩=some (.int .i64 y.r.ty)∧W.cell? ⟨b,off+m*8+5,none⟩=some (.string y.fo)∧W.cell? ⟨b,off+k*8+5,none⟩=some (.string x.fo))∧Below w1.heap.size w1 W) (first|with_reducible assumption|with_reducible exact GV) ((first|(go_at_call 96;refine(hiy _ GV.2).mono ?_;rintro e w3 ⟨rfl,DN⟩;have ZG:=hS _ DN)))
       go_wp2;go_roundw
       case rel=>exact⟨m+1,by omega,by go_num,MK HM.out HY.out HN.out,ZG.2⟩
       simp [intOf];omega
      have HE:Hid (fM l fo=(25,(k:Int))):=aTw Ez.out H2.out H3.out H4.out (mM (fun i hi y hy=>HA.out i y hi hy) HX.out (by
       have e1:Sn x y=true:=by rw [KZ.out,Qv,hT,hE];rfl
       rw [PQ,hO]
       show(true&&_)=true
       rw [Bool.true_and,List.any_eq_true]
       exact⟨y,bP HY.out,e1⟩))
      go_wp2;go_region_held3 (fun W=>(W.cell? ⟨b,off+m*8+7,none⟩=some (.bool false)∧W.cell? ⟨b,off+m*8+1,none⟩=some (.int .i64 y.r.ty)∧W.cell? ⟨b,off+m*8+5,none⟩=some (.string y.fo)∧W.cell? ⟨b,off+k*8+5,none⟩=some (.string x.fo))∧Below w1.heap.size w1 W) (first|with_reducible assumption|with_reducible exact GV) ((first|(go_at_call 96;refine(hiy _ GV.2).mono ?_;rintro e w3 ⟨rfl,DN⟩;have ZG:=hS _ DN)))
      go_wp2;go_ret2;exact⟨by rw [HE.out];rfl,Nm.aC aJ ZG.2⟩
   obtain rfl:m=l.length:=by omega
   have HN:Hid (PQ l x=false):=by
    show _=_
    have:=HM.out;rw [List.take_length] at this;rw [PQ,hO,show(l.any fun y=>Sn x y)=l.any (Sn x) from rfl,this];rfl
   have j2:(l.length:Int)<=(l.length:Int):=by omega
   clear aL hc;go_wp2;go_roundw
   case rel=>exact⟨k+1,by omega,by go_num,gG (p:=fun _ y=>PQ l y) HA.out HX.out HN.out,fF⟩
   simp [intOf];omega
 obtain rfl:k=l.length:=by omega
 have HE:Hid (fM l fo=(0,0)):=aTx Ez.out H2.out H3.out H4.out (lI (fun i hi y hy=>HA.out i y hi hy));have i3:(l.length:Int)<=(l.length:Int):=by omega
 go_wp2;go_ret2;exact⟨by rw [HE.out];rfl,Nm.aC aJ fF⟩
