import Derived.Test.YthdpacepbbcocaaGreatJStR
import Derived.Test.YthdpacepbbcocaaGreatJRrC
import Derived.Test.YthdpacepbbcocaaGreatData3
set_option maxRecDepth 100000
set_option maxHeartbeats 40000000
namespace Go.Proofs.YthdpacepbbcocaaGreat
open Go.RowKit
def Uf(f:ByteArray):Prop:=f.size<=100∧∀ k,(h:k<f.size)->f[k]=110∨f[k]=98∨f[k]=116∨f[k]=115∨f[k]=99∨f[k]=109∨f[k]=42
theorem MG(f d0:ByteArray)(w:World)(hf:Uf f)(hd:d0.size<=65535):
 Calls Tryz.prog 99 #[.string f,.string d0] w fun e w'=>∃ v,e=.returned (.tuple #[v,.bool (Dt.parts (f.data.toList.map Dt.sQ) d0).isSome])∧
  (∀ ps,Dt.parts (f.data.toList.map Dt.sQ) d0=some ps->w'.ownsRow w.heap.size 9 1 v ps.length (ps.map Value.string))∧Below w.heap.size w w':=by
 obtain⟨i0,hi,iJ,fP,fZ⟩:=info_parts Tryz.AU;obtain⟨hf1,OG⟩:=hf;have oG:=Dt.aBs (f.data.toList.map Dt.sQ) d0;go_enter Tryz.func99,Tryz.ntmps99;go_wp2
 go_loopw [6,1,7] (fun v x i wr=>∃ (k:Nat) (ps:List ByteArray) (d:ByteArray),k<=f.size∧i=.int .i64 k∧x=.string d∧d.size<=d0.size∧ps.length=k∧Dt.PAt (f.data.toList.map Dt.sQ) d0 ps ((f.data.toList.map Dt.sQ).drop k) d∧wr.ownsRow w.heap.size 9 1 v ps.length (ps.map Value.string)∧Below w.heap.size w wr)
  (fun _ _ i _=>f.size-(intOf i).toNat)
 case atStart=>exact⟨0,[],d0,dO _,rfl,rfl,aN _,rfl,by simpa using oG,World.ownsRow_made w #[] 0 (aN _) (by decide) rfl,(aK _ _).alloc (aN _) _⟩
 obtain⟨k,ps,d,hk,rfl,rfl,hdz,pG,iT,aU,aJ⟩:=hrel;have pQ:=aJ.size;have hpb:ps.length<=100:=by omega
 have Ug:=Nm.aF pG;clear oG pG
 by_cases bV:k<f.size
 ·have KD:(k:Int)<(f.size:Int):=by omega
  rw [Dt.aE9 bV] at iT
  rcases OG k bV with hc|hc|hc|hc|hc|hc|hc
  ·skip
   rw [hc] at iT;have hv:f[k].toNat=110:=by rw [hc];rfl
   have q1:((f[k].toNat:Int)==110)=true:=by rw [beq_iff_eq];omega
   have q8:((f[k].toNat:Int) != 109)=true:=by rw [bne_iff_ne];omega
   have q9:((f[k].toNat:Int) != 42)=true:=by rw [bne_iff_ne];omega
   clear hv hc OG;have aX:=Ad d
   by_cases h0:(Dt.dG d).size=0
   ·have HN:=Nm.aF (Dt.uG iT (by show Dt.sz .nm d=none;rw [Dt.sz,if_pos h0]));obtain⟨e1,e2⟩:=mI h0;clear iT;go_wp2_with (go_at_call 126;refine(aX _).mono ?_;rintro e w2 ⟨rfl,hw⟩;obtain rfl:wr=w2:=hw.symm;clear hw)
    go_ret2;rw [HN.out];exact⟨_,rfl,(fun ps h=>by cases h),aJ⟩
   have HN:=Nm.aF (Dt.wN iT (n:=(Dt.dG d).size) (by show Dt.sz .nm d=some _;rw [Dt.sz,if_neg h0]) (Dt.Lp d h0));obtain⟨e1,e2⟩:=jM (s:=Dt.dG d) (by omega);have hle:=Dt.TP d;have aJm:((Dt.dG d).size:Int)<=(d.size:Int):=by omega
   clear iT h0;generalize Dt.dG d=P at*;go_wp2_with (first|(go_at_call 126;refine(aX _).mono ?_;rintro e w2 ⟨rfl,hw⟩;obtain rfl:wr=w2:=hw.symm;clear hw)|(at_builtin;refine wpList_append_own _ rfl (.tmp 96) (.tmp 98) 58 rfl w.heap.size 9 i0 (.string ByteArray.empty) 1 16 Tryz.underlying58 hi iJ fP fZ rfl (by decide) _ _ _ rfl (aU.alloc _) ⟨wr.heap.size,0,none⟩ 1 1 [.string P] rfl rfl (iR _ _ _) (Nm.one_cell _ rfl) (by unfold maxLen;omega) (by omega) (by simp;omega) ?_))
   intro v' w1 dD bZ _;have R:=nK pQ aU aJ _ dD bZ;clear dD bZ aU aJ;go_wp2;go_roundw
   case rel=>exact⟨k+1,_,_,by omega,by go_num,rfl,by simp<;>omega,by have:=Ug.out;simp;omega,HN.out,R.1,R.2⟩
   simp [intOf];omega
  ·skip
   rw [hc] at iT;have hv:f[k].toNat=98:=by rw [hc];rfl
   have q1:((f[k].toNat:Int)==110)=false:=by rw [dC];omega
   have q2:((f[k].toNat:Int)==98)=true:=by rw [beq_iff_eq];omega
   have q8:((f[k].toNat:Int) != 109)=true:=by rw [bne_iff_ne];omega
   have q9:((f[k].toNat:Int) != 42)=true:=by rw [bne_iff_ne];omega
   clear hv hc OG
   by_cases h0:d.size=0
   ·have HN:=Nm.aF (Dt.uG iT (by show Dt.sz (.bs 1) d=none;rw [Dt.sz,if_neg (by omega)]));obtain⟨e1,e2⟩:=mI h0;clear iT;go_wp2;go_ret2;rw [HN.out];exact⟨_,rfl,(fun ps h=>by cases h),aJ⟩
   have nJ:(d.extract 0 1).size=1:=by simp;omega
   have HN:=Nm.aF (Dt.wN iT (n:=1) (x:=d.extract 0 1) (by show Dt.sz (.bs 1) d=some _;rw [Dt.sz,if_pos (by omega)]) rfl);rw [nJ] at HN;obtain⟨e1,e2⟩:=jM (s:=d) (by omega);obtain⟨e3,e4⟩:=jM (s:=d.extract 0 1) (by omega);have aJm:(1:Int)<=(d.size:Int):=by omega
   have hle:1<=d.size:=by omega
   clear iT h0;go_wp2_with (first|(fail)|(at_builtin;refine wpList_append_own _ rfl (.tmp 96) (.tmp 98) 58 rfl w.heap.size 9 i0 (.string ByteArray.empty) 1 16 Tryz.underlying58 hi iJ fP fZ rfl (by decide) _ _ _ rfl (aU.alloc _) ⟨wr.heap.size,0,none⟩ 1 1 [.string (d.extract 0 1)] rfl rfl (iR _ _ _) (Nm.one_cell _ rfl) (by unfold maxLen;omega) (by omega) (by simp;omega) ?_))
   intro v' w1 dD bZ _;have R:=nK pQ aU aJ _ dD bZ;clear dD bZ aU aJ;go_wp2;go_roundw
   case rel=>exact⟨k+1,_,_,by omega,by go_num,rfl,by simp<;>omega,by have:=Ug.out;simp;omega,HN.out,R.1,R.2⟩
   simp [intOf];omega
  ·skip
   rw [hc] at iT;have hv:f[k].toNat=116:=by rw [hc];rfl
   have q1:((f[k].toNat:Int)==110)=false:=by rw [dC];omega
   have q2:((f[k].toNat:Int)==98)=false:=by rw [dC];omega
   have q3:((f[k].toNat:Int)==116)=true:=by rw [beq_iff_eq];omega
   have q8:((f[k].toNat:Int) != 109)=true:=by rw [bne_iff_ne];omega
   have q9:((f[k].toNat:Int) != 42)=true:=by rw [bne_iff_ne];omega
   clear hv hc OG;have aX:=fun w=>EP d w (by unfold maxLen;omega)
   by_cases h0:(Dt.fG d).size=0
   ·have HN:=Nm.aF (Dt.uG iT (by show Dt.sz .tx d=none;rw [Dt.sz,if_pos h0]));obtain⟨e1,e2⟩:=mI h0;clear iT;go_wp2_with (go_at_call 127;refine(aX _).mono ?_;rintro e w2 ⟨rfl,hw⟩;obtain rfl:wr=w2:=hw.symm;clear hw)
    go_ret2;rw [HN.out];exact⟨_,rfl,(fun ps h=>by cases h),aJ⟩
   have HN:=Nm.aF (Dt.wN iT (n:=(Dt.fG d).size) (by show Dt.sz .tx d=some _;rw [Dt.sz,if_neg h0]) (Dt.Fb d));obtain⟨e1,e2⟩:=jM (s:=Dt.fG d) (by omega);have hle:=Dt.sZ d;have aJm:((Dt.fG d).size:Int)<=(d.size:Int):=by omega
   clear iT h0;generalize Dt.fG d=P at*;go_wp2_with (first|(go_at_call 127;refine(aX _).mono ?_;rintro e w2 ⟨rfl,hw⟩;obtain rfl:wr=w2:=hw.symm;clear hw)|(at_builtin;refine wpList_append_own _ rfl (.tmp 96) (.tmp 98) 58 rfl w.heap.size 9 i0 (.string ByteArray.empty) 1 16 Tryz.underlying58 hi iJ fP fZ rfl (by decide) _ _ _ rfl (aU.alloc _) ⟨wr.heap.size,0,none⟩ 1 1 [.string P] rfl rfl (iR _ _ _) (Nm.one_cell _ rfl) (by unfold maxLen;omega) (by omega) (by simp;omega) ?_))
   intro v' w1 dD bZ _;have R:=nK pQ aU aJ _ dD bZ;clear dD bZ aU aJ;go_wp2;go_roundw
   case rel=>exact⟨k+1,_,_,by omega,by go_num,rfl,by simp<;>omega,by have:=Ug.out;simp;omega,HN.out,R.1,R.2⟩
   simp [intOf];omega
  ·skip
   rw [hc] at iT;have hv:f[k].toNat=115:=by rw [hc];rfl
   have q1:((f[k].toNat:Int)==110)=false:=by rw [dC];omega
   have q2:((f[k].toNat:Int)==98)=false:=by rw [dC];omega
   have q3:((f[k].toNat:Int)==116)=false:=by rw [dC];omega
   have q4:((f[k].toNat:Int)==115)=true:=by rw [beq_iff_eq];omega
   have q8:((f[k].toNat:Int) != 109)=true:=by rw [bne_iff_ne];omega
   have q9:((f[k].toNat:Int) != 42)=true:=by rw [bne_iff_ne];omega
   clear hv hc OG;have aOv:=Dt.aBt d;go_wp2
   go_loop [8] (fun v=>∃ p,v=.string p∧Dt.TAt d p) (fun v=>match v with|.string p=>d.size-p.size|_=>0)
   case atStart=>exact⟨_,rfl,aOv⟩
   obtain⟨p,rfl,ht⟩:=hrel;clear aOv;have aOw:=ht.1;have hple':(p.size:Int)<=(d.size:Int):=by omega
   have aX:=fun w=>EP (d.extract p.size d.size) w (by unfold maxLen;simp;omega)
   by_cases h0:(Dt.fG (d.extract p.size d.size)).size=0
   ·obtain⟨e1,e2⟩:=mI h0;have PE:=Dt.aJb ht h0
    by_cases SS:p.size=0
    ·have HN:=Nm.aF (Dt.uG iT (by show Dt.sz .txs d=none;rw [Dt.sz,if_pos (by omega)]));obtain⟨e3,e4⟩:=mI SS;clear iT ht h0 PE SS;go_wp2_with (go_at_call 127;refine(aX _).mono ?_;rintro e w2 ⟨rfl,hw⟩;obtain rfl:wr=w2:=hw.symm;clear hw)
     go_ret2;rw [HN.out];exact⟨_,rfl,(fun ps h=>by cases h),aJ⟩
    have HN:=Nm.aF (Dt.wN iT (n:=p.size) (by show Dt.sz .txs d=some _;rw [Dt.sz,if_neg (by omega),PE]) ht.2.1);obtain⟨e3,e4⟩:=jM (s:=p) (by omega);clear iT ht h0 PE SS;go_wp2_with (first|(go_at_call 127;refine(aX _).mono ?_;rintro e w2 ⟨rfl,hw⟩;obtain rfl:wr=w2:=hw.symm;clear hw)|(at_builtin;refine wpList_append_own _ rfl (.tmp 96) (.tmp 98) 58 rfl w.heap.size 9 i0 (.string ByteArray.empty) 1 16 Tryz.underlying58 hi iJ fP fZ rfl (by decide) _ _ _ rfl (aU.alloc _) ⟨wr.heap.size,0,none⟩ 1 1 [.string p] rfl rfl (iR _ _ _) (Nm.one_cell _ rfl) (by unfold maxLen;omega) (by omega) (by simp;omega) ?_))
    intro v' w1 dD bZ _;have R:=nK pQ aU aJ _ dD bZ;clear dD bZ aU aJ;go_wp2;go_roundw
    case rel=>exact⟨k+1,_,_,by omega,by go_num,rfl,by simp<;>omega,by have:=Ug.out;simp;omega,HN.out,R.1,R.2⟩
    simp [intOf];omega
   obtain⟨e1,e2⟩:=jM (s:=Dt.fG (d.extract p.size d.size)) (by omega);have HT:=Nm.aF (Dt.aFa ht h0);have hle:=Dt.sZ (d.extract p.size d.size);have aSv:(d.extract p.size d.size).size=d.size-p.size:=by simp
   rw [aSv] at hle;clear ht iT;generalize Dt.fG (d.extract p.size d.size)=T at*;go_wp2_with (go_at_call 127;refine(aX _).mono ?_;rintro e w2 ⟨rfl,hw⟩;obtain rfl:wr=w2:=hw.symm;clear hw)
   go_round
   case rel=>exact⟨_,rfl,HT.out⟩
   simp;omega
  ·skip
   rw [hc] at iT;have hv:f[k].toNat=99:=by rw [hc];rfl
   have q1:((f[k].toNat:Int)==110)=false:=by rw [dC];omega
   have q2:((f[k].toNat:Int)==98)=false:=by rw [dC];omega
   have q3:((f[k].toNat:Int)==116)=false:=by rw [dC];omega
   have q4:((f[k].toNat:Int)==115)=false:=by rw [dC];omega
   have q5:((f[k].toNat:Int)==99)=true:=by rw [beq_iff_eq];omega
   have q8:((f[k].toNat:Int) != 109)=true:=by rw [bne_iff_ne];omega
   have q9:((f[k].toNat:Int) != 42)=true:=by rw [bne_iff_ne];omega
   clear hv hc OG;have aX:=fun w=>EP d w (by unfold maxLen;omega)
   have htl:=Dt.sZ d
   by_cases h0:(Dt.fG d).size<2
   ·have HN:=Nm.aF (Dt.uG iT (by show Dt.sz .SK d=none;rw [Dt.sz,Dt.OZ (.inl h0)];rfl));have Sg:((Dt.fG d).size:Int)<2:=by omega
    clear iT;go_wp2_with (go_at_call 127;refine(aX _).mono ?_;rintro e w2 ⟨rfl,hw⟩;obtain rfl:wr=w2:=hw.symm;clear hw)
    go_ret2;rw [HN.out];exact⟨_,rfl,(fun ps h=>by cases h),aJ⟩
   have Sg:(2:Int)<=((Dt.fG d).size:Int):=by omega
   by_cases h1:16<(Dt.fG d).size
   ·have HN:=Nm.aF (Dt.uG iT (by show Dt.sz .SK d=none;rw [Dt.sz,Dt.OZ (.inr h1)];rfl));have YZ:(16:Int)<((Dt.fG d).size:Int):=by omega
    clear iT;go_wp2_with (go_at_call 127;refine(aX _).mono ?_;rintro e w2 ⟨rfl,hw⟩;obtain rfl:wr=w2:=hw.symm;clear hw)
    go_ret2;rw [HN.out];exact⟨_,rfl,(fun ps h=>by cases h),aJ⟩
   have YZ:((Dt.fG d).size:Int)<=16:=by omega
   have htb:=fun j (h2:1<=j) (h3:j<(Dt.fG d).size)=>Dt.aJc (d:=d) (k:=j) h2 h3
   have htg:=Dt.aFb (d:=d) (by omega) (by omega);have hb:Hid (∀ b,Dt.OT d=b->Dt.sz .SK d=if b then some d.size else none):=by show ∀ b,_;intro b hb;rw [Dt.sz,hb]
   generalize Dt.fG d=P at*;go_wp2_with (go_at_call 127;refine(aX _).mono ?_;rintro e w2 ⟨rfl,hw⟩;obtain rfl:wr=w2:=hw.symm;clear hw)
   go_loop [9] (fun v=>∃ j:Nat,1<=j∧j<=P.size∧v=.int .i64 j∧∀ i,1<=i->i<j->(hi:i<P.size)->Dt.jG P[i]=true) (fun v=>P.size-(intOf v).toNat)
   case atStart=>exact⟨1,by omega,by omega,rfl,fun i h1 h2=>by omega⟩
   obtain⟨j,hj1,hj2,rfl,hj⟩:=hrel
   by_cases LU:j<P.size
   ·have aSw:(j:Int)<(P.size:Int):=by omega
    have hal:=Fj P[j];cases hA:Dt.jG P[j]
    ·have HN:=Nm.aF (Dt.uG iT (by show Dt.sz .SK d=none;rw [hb.out _ (htb j hj1 LU hA)];rfl));rw [hA] at hal;clear iT htb htg hb hj hA;go_wp2_with (go_at_call 128;refine(hal _).mono ?_;rintro e w2 ⟨rfl,hw⟩;obtain rfl:wr=w2:=hw.symm;clear hw)
     go_ret2;rw [HN.out];exact⟨_,rfl,(fun ps h=>by cases h),aJ⟩
    have HJ:Hid (∀ i,1<=i->i<j+1->(hi:i<P.size)->Dt.jG P[i]=true):=by
     show ∀ i,_
     intro i h1 h2 h3
     by_cases e:i=j
     ·subst e;exact hA
     exact hj i h1 (by omega) h3
    rw [hA] at hal;clear iT htb htg hb hj hA;go_wp2_with (go_at_call 128;refine(hal _).mono ?_;rintro e w2 ⟨rfl,hw⟩;obtain rfl:wr=w2:=hw.symm;clear hw)
    go_round
    case rel=>exact⟨j+1,by omega,by omega,by go_num,HJ.out⟩
    simp [intOf];omega
   have aSw:(P.size:Int)<=(j:Int):=by omega
   have htt:=htg (fun i h1 h2=>hj i h1 (by omega) h2);have HN:=Nm.aF (Dt.wN iT (n:=d.size) (by show Dt.sz .SK d=some _;rw [hb.out _ htt];rfl) (Dt.GG d));rw [Dt.VI] at HN;obtain⟨e1,e2⟩:=jM (s:=d) (by omega);clear iT htb htg hb hj htt;go_wp2_with (first|(fail)|(at_builtin;refine wpList_append_own _ rfl (.tmp 96) (.tmp 98) 58 rfl w.heap.size 9 i0 (.string ByteArray.empty) 1 16 Tryz.underlying58 hi iJ fP fZ rfl (by decide) _ _ _ rfl (aU.alloc _) ⟨wr.heap.size,0,none⟩ 1 1 [.string d] rfl rfl (iR _ _ _) (Nm.one_cell _ rfl) (by unfold maxLen;omega) (by omega) (by simp;omega) ?_))
   intro v' w1 dD bZ _;have R:=nK pQ aU aJ _ dD bZ;clear dD bZ aU aJ;go_wp2;go_roundw
   case rel=>exact⟨k+1,_,_,by omega,by go_num,rfl,by simp<;>omega,by have:=Ug.out;simp;omega,HN.out,R.1,R.2⟩
   simp [intOf];omega
  ·skip
   rw [hc] at iT;have hv:f[k].toNat=109:=by rw [hc];rfl
   have q1:((f[k].toNat:Int)==110)=false:=by rw [dC];omega
   have q2:((f[k].toNat:Int)==98)=false:=by rw [dC];omega
   have q3:((f[k].toNat:Int)==116)=false:=by rw [dC];omega
   have q4:((f[k].toNat:Int)==115)=false:=by rw [dC];omega
   have q5:((f[k].toNat:Int)==99)=false:=by rw [dC];omega
   have q6:((f[k].toNat:Int)==109)=true:=by rw [beq_iff_eq];omega
   have q8:((f[k].toNat:Int) != 109)=false:=by rw [bne_eq_false_iff_eq];omega
   have q9:((f[k].toNat:Int) != 42)=true:=by rw [bne_iff_ne];omega
   clear hv hc OG;have aX:=fun w=>Ue d w (by unfold maxLen;omega)
   cases hM:Em d
   ·have HN:=Nm.aF (Dt.uG iT (by show Dt.sz .mp d=none;rw [Dt.sz,hM];rfl));rw [hM] at aX;clear iT hM;go_wp2_with (go_at_call 129;refine(aX _).mono ?_;rintro e w2 ⟨rfl,hw⟩;obtain rfl:wr=w2:=hw.symm;clear hw)
    go_ret2;rw [HN.out];exact⟨_,rfl,(fun ps h=>by cases h),aJ⟩
   have HN:=Nm.aF (Dt.wN iT (n:=d.size) (by show Dt.sz .mp d=some _;rw [Dt.sz,hM];rfl) (Dt.GG d));rw [Dt.VI] at HN;rw [hM] at aX;clear iT hM
   by_cases h0:d.size=0
   ·obtain⟨e1,e2⟩:=mI h0;clear h0;go_wp2_with (first|(go_at_call 129;refine(aX _).mono ?_;rintro e w2 ⟨rfl,hw⟩;obtain rfl:wr=w2:=hw.symm;clear hw)|(at_builtin;refine wpList_append_own _ rfl (.tmp 96) (.tmp 98) 58 rfl w.heap.size 9 i0 (.string ByteArray.empty) 1 16 Tryz.underlying58 hi iJ fP fZ rfl (by decide) _ _ _ rfl (aU.alloc _) ⟨wr.heap.size,0,none⟩ 1 1 [.string d] rfl rfl (iR _ _ _) (Nm.one_cell _ rfl) (by unfold maxLen;omega) (by omega) (by simp;omega) ?_))
    intro v' w1 dD bZ _;have R:=nK pQ aU aJ _ dD bZ;clear dD bZ aU aJ;go_wp2;go_roundw
    case rel=>exact⟨k+1,_,_,by omega,by go_num,rfl,by simp<;>omega,by have:=Ug.out;simp;omega,HN.out,R.1,R.2⟩
    simp [intOf];omega
   obtain⟨e1,e2⟩:=jM (s:=d) (by omega);clear h0;go_wp2_with (first|(go_at_call 129;refine(aX _).mono ?_;rintro e w2 ⟨rfl,hw⟩;obtain rfl:wr=w2:=hw.symm;clear hw)|(at_builtin;refine wpList_append_own _ rfl (.tmp 96) (.tmp 98) 58 rfl w.heap.size 9 i0 (.string ByteArray.empty) 1 16 Tryz.underlying58 hi iJ fP fZ rfl (by decide) _ _ _ rfl (aU.alloc _) ⟨wr.heap.size,0,none⟩ 1 1 [.string d] rfl rfl (iR _ _ _) (Nm.one_cell _ rfl) (by unfold maxLen;omega) (by omega) (by simp;omega) ?_))
   intro v' w1 dD bZ _;have R:=nK pQ aU aJ _ dD bZ;clear dD bZ aU aJ;go_wp2;go_roundw
   case rel=>exact⟨k+1,_,_,by omega,by go_num,rfl,by simp<;>omega,by have:=Ug.out;simp;omega,HN.out,R.1,R.2⟩
   simp [intOf];omega
  skip
  rw [hc] at iT;have hv:f[k].toNat=42:=by rw [hc];rfl
  have q1:((f[k].toNat:Int)==110)=false:=by rw [dC];omega
  have q2:((f[k].toNat:Int)==98)=false:=by rw [dC];omega
  have q3:((f[k].toNat:Int)==116)=false:=by rw [dC];omega
  have q4:((f[k].toNat:Int)==115)=false:=by rw [dC];omega
  have q5:((f[k].toNat:Int)==99)=false:=by rw [dC];omega
  have q6:((f[k].toNat:Int)==109)=false:=by rw [dC];omega
  have q7:((f[k].toNat:Int)==42)=true:=by rw [beq_iff_eq];omega
  have q8:((f[k].toNat:Int) != 109)=true:=by rw [bne_iff_ne];omega
  have q9:((f[k].toNat:Int) != 42)=false:=by rw [bne_eq_false_iff_eq];omega
  clear hv hc OG;have HN:=Nm.aF (Dt.wN iT (n:=d.size) (by show Dt.sz .rs d=some _;rw [Dt.sz]) (Dt.GG d));rw [Dt.VI] at HN;clear iT
  by_cases h0:d.size=0
  ·obtain⟨e1,e2⟩:=mI h0;clear h0;go_wp2_with (first|(fail)|(at_builtin;refine wpList_append_own _ rfl (.tmp 96) (.tmp 98) 58 rfl w.heap.size 9 i0 (.string ByteArray.empty) 1 16 Tryz.underlying58 hi iJ fP fZ rfl (by decide) _ _ _ rfl (aU.alloc _) ⟨wr.heap.size,0,none⟩ 1 1 [.string d] rfl rfl (iR _ _ _) (Nm.one_cell _ rfl) (by unfold maxLen;omega) (by omega) (by simp;omega) ?_))
   intro v' w1 dD bZ _;have R:=nK pQ aU aJ _ dD bZ;clear dD bZ aU aJ;go_wp2;go_roundw
   case rel=>exact⟨k+1,_,_,by omega,by go_num,rfl,by simp<;>omega,by have:=Ug.out;simp;omega,HN.out,R.1,R.2⟩
   simp [intOf];omega
  obtain⟨e1,e2⟩:=jM (s:=d) (by omega);clear h0;go_wp2_with (first|(fail)|(at_builtin;refine wpList_append_own _ rfl (.tmp 96) (.tmp 98) 58 rfl w.heap.size 9 i0 (.string ByteArray.empty) 1 16 Tryz.underlying58 hi iJ fP fZ rfl (by decide) _ _ _ rfl (aU.alloc _) ⟨wr.heap.size,0,none⟩ 1 1 [.string d] rfl rfl (iR _ _ _) (Nm.one_cell _ rfl) (by unfold maxLen;omega) (by omega) (by simp;omega) ?_))
  intro v' w1 dD bZ _;have R:=nK pQ aU aJ _ dD bZ;clear dD bZ aU aJ;go_wp2;go_roundw
  case rel=>exact⟨k+1,_,_,by omega,by go_num,rfl,by simp<;>omega,by have:=Ug.out;simp;omega,HN.out,R.1,R.2⟩
  simp [intOf];omega
 have KD:(f.size:Int)<=(k:Int):=by omega
 have Mh:(f.data.toList.map Dt.sQ).drop k=[]:=List.drop_eq_nil_of_le (by simp;omega);rw [Mh] at iT;clear OG Mh
 by_cases h0:d.size=0
 ·have HN:=Nm.aF (Dt.aJa iT h0);obtain⟨e1,e2⟩:=mI h0;clear iT h0;go_wp2;go_ret2;rw [HN.out];exact⟨_,rfl,(fun qs h=>by cases h;exact aU),aJ⟩
 have HN:=Nm.aF (Dt.aE8 iT h0);obtain⟨e1,e2⟩:=jM (s:=d) (by omega);clear iT h0;go_wp2;go_ret2;rw [HN.out];exact⟨_,rfl,(fun ps h=>by cases h),aJ⟩
