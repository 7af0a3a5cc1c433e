import Derived.Test.YtmdinnjimioffaaGreatJZtM
import Derived.Test.YtmdinnjimioffaaGreatJSameM
namespace Go.Proofs.YtmdinnjimioffaaGreat
open Go.RowKit
set_option linter.unusedVariables false
def FstI(l:List It)(x:It)(k:Nat)(f:Int):Prop:=
 (f= -1∧∀ (j:Nat) (y:It),j<k->l[j]? =some y->kinB x y=false)∨∃ (j:Nat) (y:It),f=(j:Int)∧j<k∧l[j]? =some y∧kinB x y=true∧∀ (i:Nat) (z:It),i<j->l[i]? =some z->kinB x z=false
def BadI(l:List It)(i:Nat)(b:Int):Prop:=
 (b= -1∧∀ (j:Nat) (y:It),j<i->l[j]? =some y->mixI (l.take j) y=false)∨∃ (j:Nat) (y:It),b=(j:Int)∧j<i∧l[j]? =some y∧mixI (l.take j) y=true∧∀ (k:Nat) (z:It),k<j->l[k]? =some z->mixI (l.take k) z=false
theorem FstI.skip{l:List It}{x y:It}{k:Nat}{f:Int}(h:FstI l x k f)(hy:l[k]? =some y)(hn:kinB x y=false):FstI l x (k+1) f:=by
 rcases h with⟨e,h⟩|⟨j,z,e,hj,hz,hk,h⟩
 ·refine .inl ⟨e,fun j z hj hz=>?_⟩
  by_cases hjk:j=k
  ·subst hjk;rw [hy] at hz;obtain rfl:=Option.some.inj hz;exact hn
  ·exact h j z (by omega) hz
 ·exact .inr ⟨j,z,e,by omega,hz,hk,h⟩
theorem FstI.first{l:List It}{x y:It}{k:Nat}(h:FstI l x k (-1))(hy:l[k]? =some y)(hn:kinB x y=true):FstI l x (k+1) (k:Int):=by
 rcases h with⟨e,h⟩|⟨j,z,e,_⟩
 ·exact .inr ⟨k,y,rfl,by omega,hy,hn,h⟩
 ·omega
theorem FstI.more{l:List It}{x:It}{k:Nat}{j:Nat}(h:FstI l x k (j:Int)):FstI l x (k+1) (j:Int):=by
 rcases h with⟨e,_⟩|⟨j',z,e,hj,hz,hk,h⟩
 ·omega
 ·exact .inr ⟨j',z,e,by omega,hz,hk,h⟩
theorem BadI.skip{l:List It}{i:Nat}{b:Int}{x:It}(h:BadI l i b)(hx:l[i]? =some x)(hn:b= -1->mixI (l.take i) x=false):BadI l (i+1) b:=by
 rcases h with⟨e,h⟩|⟨j,z,e,hj,hz,hk,h⟩
 ·refine .inl ⟨e,fun j z hj hz=>?_⟩
  by_cases hjk:j=i
  ·subst hjk;rw [hx] at hz;obtain rfl:=Option.some.inj hz;exact hn e
  ·exact h j z (by omega) hz
 ·exact .inr ⟨j,z,e,by omega,hz,hk,h⟩
theorem BadI.first{l:List It}{i:Nat}{x:It}(h:BadI l i (-1))(hx:l[i]? =some x)(hn:mixI (l.take i) x=true):BadI l (i+1) (i:Int):=by
 rcases h with⟨e,h⟩|⟨j,z,e,_⟩
 ·exact .inr ⟨i,x,rfl,by omega,hx,hn,h⟩
 ·omega
theorem BadI.whole{l:List It}{b:Int}(h:BadI l l.length b):b=badI l:=by
 unfold badI
 rcases h with⟨rfl,h⟩|⟨j,y,rfl,hj,hy,hm,h⟩
 ·rw [firstI_no (fun i hi y hy=>h i y hi hy)]
 ·rw [firstI_at (fun i hi z hz=>h i z hi hz) hy hm]
theorem mix_no{l:List It}{x:It}{k:Nat}(h:FstI l x k (-1)):mixI (l.take k) x=false:=by
 rcases h with⟨_,h⟩|⟨j,z,e,_⟩
 ·rw [mixI,find_take_no h]
 ·omega
theorem mix_at{l:List It}{x y:It}{k j:Nat}(h:FstI l x k (j:Int))(hy:l[j]? =some y):mixI (l.take k) x=decide (y.r.tt≠x.r.tt):=by
 rcases h with⟨e,_⟩|⟨j',z,e,hj,hz,hk,h⟩
 ·omega
 ·obtain rfl:j=j':=by omega
  rw [hy] at hz;obtain rfl:=Option.some.inj hz;rw [mixI,find_take_at hj hy hk h]
theorem own_it{w:World}{B T g cap k:Nat}{l:List It}{n:Nat}{x:It}(h:w.ownsRow B T 8 (.slice (some ⟨g,0,none⟩) n cap) n (itCs l))(hl:l.length=n)(hx:l[k]? =some x):
 w.cell? ⟨g,k*8+1,none⟩=some (.int .i64 x.r.ty)∧w.cell? ⟨g,k*8+3,none⟩=some (.int .i64 x.r.tt)∧w.cell? ⟨g,k*8+5,none⟩=some (.string x.fo)∧w.cell? ⟨g,k*8+6,none⟩=some (.string x.dt)∧w.cell? ⟨g,k*8+7,none⟩=some (.bool x.out):=by
 have hk:=(List.getElem?_eq_some_iff.1 hx).1;have c:=fun j (hj:j<8)=>(h.cellAt (k*8+j) (by omega)).trans (itCs_at l k j x hx hj)
 exact⟨(c 1 (by decide)).trans rfl,(c 3 (by decide)).trans rfl,(c 5 (by decide)).trans rfl,(c 6 (by decide)).trans rfl,(c 7 (by decide)).trans rfl⟩
theorem own_dN{w:World}{B e s n:Nat}{v:Value}{xs:List Value}(h:w.ownsRow B e s v n xs)(k:Nat):(w.drewN k).ownsRow B e s v n xs:=own_below h (Go.below_drewN (Below.refl _ _) _)
theorem kin_str(x y:It):kinB x y=((y.fo.toList==x.fo.toList)&&(y.r.ty==x.r.ty)):=by
 rw [kinB,ba_eq]
 by_cases h:y.r.ty=x.r.ty<;>simp [h]
set_option maxRecDepth 100000 in
set_option maxHeartbeats 3200000 in
theorem l06Twice_any(v:Value)(l:List It)(B:Nat)(w:World)(h:w.ownsRow B 58 8 v l.length (itCs l))(hB:B<=w.heap.size)(hl:l.length<=1000000):
 Calls Tryz.prog 24 #[v] w fun e w'=>e=.returned (.int .i64 (badI l))∧w'.ownsRow B 58 8 v l.length (itCs (twI l))∧Below B w w':=by
 obtain⟨a,cap,rfl⟩:=own_sl h;go_enter Tryz.func24,Tryz.ntmps24;go_wp2
 go_loopw [3,4] (fun vb vi wr=>∃ (i:Nat) (b:Int),i<=l.length∧vi=.int .i64 i∧vb=.int .i64 b∧ -1<=b∧BadI l i b∧wr.ownsRow B 58 8 (.slice a l.length cap) l.length (itCs (midI l i 0))∧Below B w wr) (fun _ vi _=>l.length-(intOf vi).toNat)
 case atStart=>exact⟨0,-1,Nat.zero_le _,rfl,rfl,by omega,.inl ⟨rfl,fun j y hj=>by omega⟩,by rw [midI_start];exact h,Below.refl _ _⟩
 case round=>
  obtain⟨i,b,hi,rfl,rfl,hb1,hbad,hown,hbel⟩:=hrel;have HBAD:=Nm.hide hbad;clear h hbad
  by_cases hlt:i<l.length
  ·obtain⟨x,hx⟩:∃ x,l[i]? =some x:=⟨_,List.getElem?_eq_getElem hlt⟩;have HX:=Nm.hide hx;clear hx;have i0:(i:Int)<(l.length:Int):=by omega
   have i00:(0:Int)<=(i:Int):=by omega
   obtain⟨g,rfl⟩:∃ g,a=some ⟨g,0,none⟩:=by
    rcases hown.2 with⟨_,h0⟩|⟨g,cap',cur,e,_⟩
    ·omega
    ·simp only [Value.slice.injEq] at e;exact⟨g,e.1⟩
   go_wp2
   go_loopw [5,6] (fun vf vk wr2=>∃ (k:Nat) (f:Int),k<=i∧vk=.int .i64 k∧vf=.int .i64 f∧ -1<=f∧f<i∧Hid (FstI l x k f)∧wr2.ownsRow B 58 8 (.slice (some ⟨g,0,none⟩) l.length cap) l.length (itCs (midI l i k))∧Below B w wr2) (fun _ vk _=>i-(intOf vk).toNat)
   case atStart=>exact⟨0,-1,Nat.zero_le _,rfl,rfl,by omega,by omega,.inl ⟨rfl,fun j y hj=>by omega⟩,hown,hbel⟩
   case round=>
    clear hown hbel;obtain⟨k,f,hk,rfl,rfl,hf1,hf2,HF,hown,hbel⟩:=hrel;have hgB:=(hown.lt g rfl).1;have hfz:=hown.frozenAt;obtain⟨x1,x3,x5,x6,x7⟩:=own_it hown (midI_len l i k) (midI_at HX.out)
    by_cases hki:k<i
    ·obtain⟨y,hy⟩:∃ y,l[k]? =some y:=⟨_,List.getElem?_eq_getElem (by omega)⟩;obtain⟨y1,y3,y5,y6,y7⟩:=own_it hown (midI_len l i k) (midI_lo hy hki);simp only [outI] at x1 x3 x5 x6 x7 y1 y3 y5 y6 y7;have HY:=Nm.hide hy;have HK:=Nm.hide (kin_str x y);have hd:=ba_eq y.dt x.dt;have k0:(0:Int)<=(k:Int):=by omega
     have k1:(k:Int)<(l.length:Int):=by omega
     have k2:(k:Int)<(i:Int):=by omega
     clear hy y3 y7 x3
     cases hO:(y.fo.toList==x.fo.toList) with
     |false=>
      have HN:Hid (kinB x y=false):=by show _=_;rw [HK.out,hO];rfl
      have HM:Hid (midI l i (k+1)=midI l i k):=midI_same HX.out HY.out (by rw [HN.out];rfl);have nO:(y.fo.toList != x.fo.toList)=true:=by rw [bne,hO];rfl
      clear HK hd;go_wp2;go_quiet (fail)
      go_wp2;go_roundw
      case rel=>exact⟨k+1,f,by omega,by go_num,rfl,hf1,hf2,HF.out.skip HY.out HN.out,by rw [HM.out];exact own_dN hown _,Go.below_drewN hbel _⟩
      case measure=>simp [intOf];omega
     |true=>
      have nO:(y.fo.toList != x.fo.toList)=false:=by rw [bne,hO];rfl
      cases hT:(y.r.ty==x.r.ty) with
      |false=>
       have HN:Hid (kinB x y=false):=by show _=_;rw [HK.out,hO,hT];rfl
       have HM:Hid (midI l i (k+1)=midI l i k):=midI_same HX.out HY.out (by rw [HN.out];rfl);have nT:(y.r.ty != x.r.ty)=true:=by rw [bne,hT];rfl
       clear HK hd;go_wp2;go_quiet (fail)
       go_wp2;go_roundw
       case rel=>exact⟨k+1,f,by omega,by go_num,rfl,hf1,hf2,HF.out.skip HY.out HN.out,by rw [HM.out];exact own_dN hown _,Go.below_drewN hbel _⟩
       case measure=>simp [intOf];omega
      |true=>
       have HN:Hid (kinB x y=true):=by show _=_;rw [HK.out,hO,hT];rfl
       have nT:(y.r.ty != x.r.ty)=false:=by rw [bne,hT];rfl
       clear HK nO nT
       by_cases hD:y.dt=x.dt
       ·have HM:Hid ((midI l i k).set i {x with out:=true}=midI l i (k+1)):=midI_out HX.out HY.out (by rw [HN.out,decide_eq_true hD];rfl)
        have HS:Hid ((itCs (midI l i k)).set (i*8+7) (.bool true)=itCs (midI l i (k+1))):=by
         show _=_
         rw [itCs_set _ i _ (midI_at HX.out),<- HM.out];rfl
        rw [decide_eq_true hD] at hd;have hst:=fun q=>(own_dN hown q).stored (i*8+7) (.bool true)
        rw [HS.out] at hst;have HST:=Nm.hide hst;clear hD HM HS hst
        by_cases hf:f= -1
        ·subst hf;have HF2:Hid (FstI l x (k+1) (k:Int)):=HF.out.first HY.out HN.out
         clear HF;go_wp2;go_quiet (fail)
         go_wp2;go_quiet (fail)
         go_wp2;go_roundw
         case rel=>exact⟨k+1,k,by omega,by go_num,rfl,by omega,by omega,HF2,(HST.out _).1,(Go.below_drewN hbel _).setCell hgB _⟩
         case measure=>simp [intOf];omega
        ·obtain⟨fn,rfl⟩:∃ fn:Nat,f=(fn:Int):=⟨f.toNat,by omega⟩;have HF2:Hid (FstI l x (k+1) (fn:Int)):=HF.out.more;have f0:¬(fn:Int)<0:=by omega
         clear HF hf;go_wp2;go_quiet (fail)
         go_wp2;go_quiet (fail)
         go_wp2;go_roundw
         case rel=>exact⟨k+1,fn,by omega,by go_num,rfl,by omega,by omega,HF2,(HST.out _).1,(Go.below_drewN hbel _).setCell hgB _⟩
         case measure=>simp [intOf];omega
       ·have HM:Hid (midI l i (k+1)=midI l i k):=midI_same HX.out HY.out (by rw [HN.out,decide_eq_false hD];rfl);rw [decide_eq_false hD] at hd;clear hD
        by_cases hf:f= -1
        ·subst hf;have HF2:Hid (FstI l x (k+1) (k:Int)):=HF.out.first HY.out HN.out
         clear HF;go_wp2;go_quiet (fail)
         go_wp2;go_quiet (fail)
         go_wp2;go_roundw
         case rel=>exact⟨k+1,k,by omega,by go_num,rfl,by omega,by omega,HF2,by rw [HM.out];exact own_dN hown _,Go.below_drewN hbel _⟩
         case measure=>simp [intOf];omega
        ·obtain⟨fn,rfl⟩:∃ fn:Nat,f=(fn:Int):=⟨f.toNat,by omega⟩;have HF2:Hid (FstI l x (k+1) (fn:Int)):=HF.out.more;have f0:¬(fn:Int)<0:=by omega
         clear HF hf;go_wp2;go_quiet (fail)
         go_wp2;go_quiet (fail)
         go_wp2;go_roundw
         case rel=>exact⟨k+1,fn,by omega,by go_num,rfl,by omega,by omega,HF2,by rw [HM.out];exact own_dN hown _,Go.below_drewN hbel _⟩
         case measure=>simp [intOf];omega
    ·obtain rfl:k=i:=by omega
     have ki:(k:Int)<=(k:Int):=by omega
     have HM:Hid (midI l k k=midI l (k+1) 0):=midI_next (by omega);simp only [outI] at x1 x3 x5 x6 x7
     by_cases hb0:b= -1
     ·subst hb0;have db:decide ((-1:Int)<0)=true:=rfl
      by_cases hf:f= -1
      ·subst hf;have HB2:Hid (BadI l (k+1) (-1)):=HBAD.out.skip HX.out (fun _=>mix_no HF.out);have df:decide ((0:Int)<= -1)=false:=rfl;clear HBAD HF;go_wp2;go_quiet (fail)
       go_wp2;go_roundw
       case rel=>exact⟨k+1,-1,by omega,by go_num,rfl,by omega,HB2.out,by rw [<- HM.out];exact own_dN hown _,Go.below_drewN hbel _⟩
       case measure=>simp [intOf];omega
      ·obtain⟨fn,rfl⟩:∃ fn:Nat,f=(fn:Int):=⟨f.toNat,by omega⟩;obtain⟨y,hy⟩:∃ y,l[fn]? =some y:=⟨_,List.getElem?_eq_getElem (by omega)⟩;obtain⟨y1,y3,y5,y6,y7⟩:=own_it hown (midI_len l k k) (midI_lo hy (by omega));simp only [outI] at y1 y3 y5 y6 y7;have HMX:=Nm.hide (mix_at HF.out hy);have df:decide ((0:Int)<=(fn:Int))=true:=by simp
       have f1:(0:Int)<=(fn:Int):=by omega
       have f2:(fn:Int)<(l.length:Int):=by omega
       clear hy HF y1 y5 y6 y7 x1 x5 x6 x7 hf
       by_cases ht:y.r.tt=x.r.tt
       ·have HB2:Hid (BadI l (k+1) (-1)):=HBAD.out.skip HX.out (fun _=>by rw [HMX.out];simp [ht]);have nt:(y.r.tt != x.r.tt)=false:=by simp [ht]
        clear HBAD HMX ht;go_wp2;go_quiet (fail)
        go_wp2;go_roundw
        case rel=>exact⟨k+1,-1,by omega,by go_num,rfl,by omega,HB2.out,by rw [<- HM.out];exact own_dN hown _,Go.below_drewN hbel _⟩
        case measure=>simp [intOf];omega
       ·have HB2:Hid (BadI l (k+1) (k:Int)):=HBAD.out.first HX.out (by rw [HMX.out];simp [ht])
        have nt:(y.r.tt != x.r.tt)=true:=by simp [ht]
        clear HBAD HMX ht;go_wp2;go_quiet (fail)
        go_wp2;go_roundw
        case rel=>exact⟨k+1,k,by omega,by go_num,rfl,by omega,HB2.out,by rw [<- HM.out];exact own_dN hown _,Go.below_drewN hbel _⟩
        case measure=>simp [intOf];omega
     ·obtain⟨bn,rfl⟩:∃ bn:Nat,b=(bn:Int):=⟨b.toNat,by omega⟩;have HB2:Hid (BadI l (k+1) (bn:Int)):=HBAD.out.skip HX.out (fun h=>absurd h hb0);have db:decide ((bn:Int)<0)=false:=by simp
      have db2:¬(bn:Int)<0:=by omega
      clear HBAD HF hb0;go_wp2;go_quiet (fail)
      go_wp2;go_roundw
      case rel=>exact⟨k+1,bn,by omega,by go_num,rfl,by omega,HB2.out,by rw [<- HM.out];exact own_dN hown _,Go.below_drewN hbel _⟩
      case measure=>simp [intOf];omega
  ·have hil:i=l.length:=by omega
   subst hil;have i2:(l.length:Int)<=(l.length:Int):=by omega
   rw [midI_end] at hown;have HE:=Nm.hide HBAD.out.whole;go_wp2;go_ret;exact⟨by rw [HE.out];rfl,hown,hbel⟩
end Go.Proofs.YtmdinnjimioffaaGreat
