import Derived.Test.YtlddifpnkeafpaaGreatJOrdK
set_option linter.unusedVariables false
set_option maxRecDepth 100000
set_option maxHeartbeats 40000000
namespace Go.Proofs.YtlddifpnkeafpaaGreat
open Go.RowKit
theorem Xx(s0:ByteArray)(w:World)(hs:s0.size<=maxLen):
 Calls Tryz.prog 157 #[.string s0] w fun e w'=>e=.returned (.bool (Iq s0))∧w'=w:=by
 unfold maxLen at hs;go_enter Tryz.func157,Tryz.ntmps157;go_wp2
 go_loop [3,0] (fun v u=>∃ (last:Int) (s:ByteArray),-1<=last∧last<256∧v=.int .i64 last∧u=.string s∧s.size<=s0.size∧Iq s0=DR (s.size+1) last s)
  (fun _ u=>match u with|.string s=>s.size|_=>0)
 ·exact⟨-1,s0,by omega,by omega,rfl,rfl,aI _,rfl⟩
 obtain⟨last,s,hl0,GD,rfl,rfl,hz,hn⟩:=hrel
 by_cases h0:s.size=0
 ·have HN:=Nm.aD (hn.trans (J9 h0))
  have he:s=ByteArray.empty:=by
   apply ByteArray.ext;exact Array.eq_empty_of_size_eq_zero h0
  subst he;clear hn;go_wp2;go_ret;rw [HN.out];exact⟨rfl,rfl⟩
 obtain⟨e1,e2⟩:=iR (s:=s) (by omega)
 by_cases h1:s.size=1
 ·have HN:=Nm.aD (hn.trans (J_ h1));clear hn;go_wp2;go_ret;rw [HN.out];exact⟨rfl,rfl⟩
 have h2:2<=s.size:=by omega
 have PG:(s[0].toNat:Int)<256:=by have:=s[0].toNat_lt;omega
 have mQ:(s[1].toNat:Int)<256:=by have:=s[1].toNat_lt;omega
 have i1:(1:Int)<(s.size:Int):=by omega
 by_cases ha:last<(s[0].toNat:Int)
 ·by_cases hb:1<=s[1].toNat
  ·have hb':(1:Int)<=(s[1].toNat:Int):=by omega
   by_cases Pd:s[1].toNat<=32
   ·have aKp:(s[1].toNat:Int)<=32:=by omega
    by_cases hd:s[1].toNat+2<=s.size
    ·have Eb:(s[1].toNat:Int)+2<=(s.size:Int):=by omega
     have hi:s[1].toNat+1<s.size:=by omega
     have ML:(s[1].toNat:Int)+1<(s.size:Int):=by omega
     by_cases h3:s[s[1].toNat+1].toNat=0
     ·have HN:=Nm.aD (hn.trans (Ns h2 ⟨ha,hb,Pd,hd⟩ h3));have h3':((s[s[1].toNat+1].toNat:Int)==0)=true:=by rw [beq_iff_eq];omega
      clear hn;go_wp2;go_ret;rw [HN.out];exact⟨rfl,rfl⟩
     have HN:=Nm.aD (hn.trans (Nt h2 ⟨ha,hb,Pd,hd⟩ h3));have h3':((s[s[1].toNat+1].toNat:Int)==0)=false:=by rw [fC];omega
     have hes:(s.extract (s[1].toNat+2) s.size).size=s.size-(s[1].toNat+2):=by simp
     clear hn;go_wp2
     go_round
     ·exact⟨_,_,by omega,by omega,rfl,rfl,by omega,HN.out⟩
     simp only [hes];omega
    have HN:=Nm.aD (hn.trans (GG h2 (by omega)));have Eb:(s.size:Int)<(s[1].toNat:Int)+2:=by omega
    clear hn;go_wp2;go_ret;rw [HN.out];exact⟨rfl,rfl⟩
   have HN:=Nm.aD (hn.trans (GG h2 (by omega)));have aKp:(32:Int)<(s[1].toNat:Int):=by omega
   clear hn;go_wp2;go_ret;rw [HN.out];exact⟨rfl,rfl⟩
  have HN:=Nm.aD (hn.trans (GG h2 (by omega)));have hb':(s[1].toNat:Int)<1:=by omega
  clear hn;go_wp2;go_ret;rw [HN.out];exact⟨rfl,rfl⟩
 have HN:=Nm.aD (hn.trans (GG h2 (by omega)));have ha':(s[0].toNat:Int)<=last:=by omega
 clear hn;go_wp2;go_ret;rw [HN.out];exact⟨rfl,rfl⟩
def Xy(f:ByteArray):Prop:=f.size<=100∧∀ k,(h:k<f.size)->f[k]=110∨f[k]=98∨f[k]=116∨f[k]=115∨f[k]=99∨f[k]=109∨f[k]=42
theorem PU(f d0:ByteArray)(w:World)(hf:Xy f)(hd:d0.size<=65535):
 Calls Tryz.prog 125 #[.string f,.string d0] w fun e w'=>∃ v,e=.returned (.tuple #[v,.bool (Dt.parts (f.data.toList.map Dt.uF) d0).isSome])∧
  (∀ ps,Dt.parts (f.data.toList.map Dt.uF) d0=some ps->w'.ownsRow w.heap.size 9 1 v ps.length (ps.map Value.string))∧Below w.heap.size w w':=by
 obtain⟨i0,hi,iQ,iH,iI⟩:=info_parts Tryz.wM;obtain⟨hf1,Gx⟩:=hf;have mI:=Dt.X_ (f.data.toList.map Dt.uF) d0;go_enter Tryz.func125,Tryz.ntmps125;go_wp2
 go_loopw [6,1,7] (fun v x i wr=>∃ (k:Nat) (ps:List ByteArray) (d:ByteArray),k<=f.size∧i=.int .i64 k∧x=.string d∧d.size<=d0.size∧ps.length=k∧Dt.PAt (f.data.toList.map Dt.uF) d0 ps ((f.data.toList.map Dt.uF).drop k) d∧wr.ownsRow w.heap.size 9 1 v ps.length (ps.map Value.string)∧Below w.heap.size w wr)
  (fun _ _ i _=>f.size-(intOf i).toNat)
 ·exact⟨0,[],d0,dR _,rfl,rfl,aI _,rfl,by simpa using mI,World.ownsRow_made w #[] 0 (aI _) (by decide) rfl,(aJ _ _).alloc (aI _) _⟩
 obtain⟨k,ps,d,hk,rfl,rfl,hdz,nZ,jH,aU,aG⟩:=hrel;have qA:=aG.size;have hpb:ps.length<=100:=by omega
 have HPL:=Nm.aD nZ;clear mI nZ
 by_cases bY:k<f.size
 ·have SE:(k:Int)<(f.size:Int):=by omega
  rw [Dt.aC8 bY] at jH
  rcases Gx k bY with hc|hc|hc|hc|hc|hc|hc
  ·skip
   rw [hc] at jH;have hv:f[k].toNat=110:=by rw [hc];rfl
   have q1:((f[k].toNat:Int)==110)=true:=by rw [beq_iff_eq];omega
   have q8:((f[k].toNat:Int) != 109)=true:=by rw [bne_iff_ne];omega
   have q9:((f[k].toNat:Int) != 42)=true:=by rw [bne_iff_ne];omega
   clear hv hc Gx;have aX:=Ed d
   by_cases h0:(Dt.dQ d).size=0
   ·have HN:=Nm.aD (Dt.vJ jH (by show Dt.sz .nm d=none;rw [Dt.sz,if_pos h0]));obtain⟨e1,e2⟩:=nJ h0;clear jH;go_wp2_with (go_at_call 154;refine(aX _).mono ?_;rintro e w2 ⟨rfl,hw⟩;obtain rfl:wr=w2:=hw.symm;clear hw)
    go_ret2;rw [HN.out];exact⟨_,rfl,(fun ps h=>by cases h),aG⟩
   have HN:=Nm.aD (Dt.yA jH (n:=(Dt.dQ d).size) (by show Dt.sz .nm d=some _;rw [Dt.sz,if_neg h0]) (Dt.Ow d h0));obtain⟨e1,e2⟩:=iR (s:=Dt.dQ d) (by omega);have hle:=Dt.K3 d;have aH6:((Dt.dQ d).size:Int)<=(d.size:Int):=by omega
   clear jH h0;generalize Dt.dQ d=P at*;go_wp2_with (first|(go_at_call 154;refine(aX _).mono ?_;rintro e w2 ⟨rfl,hw⟩;obtain rfl:wr=w2:=hw.symm;clear hw)|(at_builtin;refine wpList_append_own _ rfl (.tmp 96) (.tmp 98) 32 rfl w.heap.size 9 i0 (.string ByteArray.empty) 1 16 Tryz.underlying32 hi iQ iH iI rfl (by decide) _ _ _ rfl (aU.alloc _) ⟨wr.heap.size,0,none⟩ 1 1 [.string P] rfl rfl (lZ _ _ _) (Nm.one_cell _ rfl) (by unfold maxLen;omega) (by omega) (by simp;omega) ?_))
   intro v' w1 dE bU _;have R:=lY qA aU aG _ dE bU;clear dE bU aU aG;go_wp2;go_roundw
   ·exact⟨k+1,_,_,by omega,by go_num,rfl,by simp<;>omega,by have:=HPL.out;simp;omega,HN.out,R.1,R.2⟩
   simp [intOf];omega
  ·skip
   rw [hc] at jH;have hv:f[k].toNat=98:=by rw [hc];rfl
   have q1:((f[k].toNat:Int)==110)=false:=by rw [fC];omega
   have q2:((f[k].toNat:Int)==98)=true:=by rw [beq_iff_eq];omega
   have q8:((f[k].toNat:Int) != 109)=true:=by rw [bne_iff_ne];omega
   have q9:((f[k].toNat:Int) != 42)=true:=by rw [bne_iff_ne];omega
   clear hv hc Gx
   by_cases h0:d.size=0
   ·have HN:=Nm.aD (Dt.vJ jH (by show Dt.sz (.bs 1) d=none;rw [Dt.sz,if_neg (by omega)]));obtain⟨e1,e2⟩:=nJ h0;clear jH;go_wp2;go_ret2;rw [HN.out];exact⟨_,rfl,(fun ps h=>by cases h),aG⟩
   have oG:(d.extract 0 1).size=1:=by simp;omega
   have HN:=Nm.aD (Dt.yA jH (n:=1) (x:=d.extract 0 1) (by show Dt.sz (.bs 1) d=some _;rw [Dt.sz,if_pos (by omega)]) rfl);rw [oG] at HN;obtain⟨e1,e2⟩:=iR (s:=d) (by omega);obtain⟨e3,e4⟩:=iR (s:=d.extract 0 1) (by omega);have aH6:(1:Int)<=(d.size:Int):=by omega
   have hle:1<=d.size:=by omega
   clear jH h0;go_wp2_with (first|(fail)|(at_builtin;refine wpList_append_own _ rfl (.tmp 96) (.tmp 98) 32 rfl w.heap.size 9 i0 (.string ByteArray.empty) 1 16 Tryz.underlying32 hi iQ iH iI rfl (by decide) _ _ _ rfl (aU.alloc _) ⟨wr.heap.size,0,none⟩ 1 1 [.string (d.extract 0 1)] rfl rfl (lZ _ _ _) (Nm.one_cell _ rfl) (by unfold maxLen;omega) (by omega) (by simp;omega) ?_))
   intro v' w1 dE bU _;have R:=lY qA aU aG _ dE bU;clear dE bU aU aG;go_wp2;go_roundw
   ·exact⟨k+1,_,_,by omega,by go_num,rfl,by simp<;>omega,by have:=HPL.out;simp;omega,HN.out,R.1,R.2⟩
   simp [intOf];omega
  ·skip
   rw [hc] at jH;have hv:f[k].toNat=116:=by rw [hc];rfl
   have q1:((f[k].toNat:Int)==110)=false:=by rw [fC];omega
   have q2:((f[k].toNat:Int)==98)=false:=by rw [fC];omega
   have q3:((f[k].toNat:Int)==116)=true:=by rw [beq_iff_eq];omega
   have q8:((f[k].toNat:Int) != 109)=true:=by rw [bne_iff_ne];omega
   have q9:((f[k].toNat:Int) != 42)=true:=by rw [bne_iff_ne];omega
   clear hv hc Gx;have aX:=fun w=>IA d w (by unfold maxLen;omega)
   by_cases h0:(Dt.fP d).size=0
   ·have HN:=Nm.aD (Dt.vJ jH (by show Dt.sz .tx d=none;rw [Dt.sz,if_pos h0]));obtain⟨e1,e2⟩:=nJ h0;clear jH;go_wp2_with (go_at_call 155;refine(aX _).mono ?_;rintro e w2 ⟨rfl,hw⟩;obtain rfl:wr=w2:=hw.symm;clear hw)
    go_ret2;rw [HN.out];exact⟨_,rfl,(fun ps h=>by cases h),aG⟩
   have HN:=Nm.aD (Dt.yA jH (n:=(Dt.fP d).size) (by show Dt.sz .tx d=some _;rw [Dt.sz,if_neg h0]) (Dt.Je d));obtain⟨e1,e2⟩:=iR (s:=Dt.fP d) (by omega);have hle:=Dt.uL d;have aH6:((Dt.fP d).size:Int)<=(d.size:Int):=by omega
   clear jH h0;generalize Dt.fP d=P at*;go_wp2_with (first|(go_at_call 155;refine(aX _).mono ?_;rintro e w2 ⟨rfl,hw⟩;obtain rfl:wr=w2:=hw.symm;clear hw)|(at_builtin;refine wpList_append_own _ rfl (.tmp 96) (.tmp 98) 32 rfl w.heap.size 9 i0 (.string ByteArray.empty) 1 16 Tryz.underlying32 hi iQ iH iI rfl (by decide) _ _ _ rfl (aU.alloc _) ⟨wr.heap.size,0,none⟩ 1 1 [.string P] rfl rfl (lZ _ _ _) (Nm.one_cell _ rfl) (by unfold maxLen;omega) (by omega) (by simp;omega) ?_))
   intro v' w1 dE bU _;have R:=lY qA aU aG _ dE bU;clear dE bU aU aG;go_wp2;go_roundw
   ·exact⟨k+1,_,_,by omega,by go_num,rfl,by simp<;>omega,by have:=HPL.out;simp;omega,HN.out,R.1,R.2⟩
   simp [intOf];omega
  ·skip
   rw [hc] at jH;have hv:f[k].toNat=115:=by rw [hc];rfl
   have q1:((f[k].toNat:Int)==110)=false:=by rw [fC];omega
   have q2:((f[k].toNat:Int)==98)=false:=by rw [fC];omega
   have q3:((f[k].toNat:Int)==116)=false:=by rw [fC];omega
   have q4:((f[k].toNat:Int)==115)=true:=by rw [beq_iff_eq];omega
   have q8:((f[k].toNat:Int) != 109)=true:=by rw [bne_iff_ne];omega
   have q9:((f[k].toNat:Int) != 42)=true:=by rw [bne_iff_ne];omega
   clear hv hc Gx;have aNa:=Dt.Y0 d;go_wp2
   go_loop [8] (fun v=>∃ p,v=.string p∧Dt.TAt d p) (fun v=>match v with|.string p=>d.size-p.size|_=>0)
   ·exact⟨_,rfl,aNa⟩
   obtain⟨p,rfl,ht⟩:=hrel;clear aNa;have aNb:=ht.1;have hple':(p.size:Int)<=(d.size:Int):=by omega
   have aX:=fun w=>IA (d.extract p.size d.size) w (by unfold maxLen;simp;omega)
   by_cases h0:(Dt.fP (d.extract p.size d.size)).size=0
   ·obtain⟨e1,e2⟩:=nJ h0;have FW:=Dt.aHt ht h0
    by_cases YV:p.size=0
    ·have HN:=Nm.aD (Dt.vJ jH (by show Dt.sz .txs d=none;rw [Dt.sz,if_pos (by omega)]));obtain⟨e3,e4⟩:=nJ YV;clear jH ht h0 FW YV;go_wp2_with (go_at_call 155;refine(aX _).mono ?_;rintro e w2 ⟨rfl,hw⟩;obtain rfl:wr=w2:=hw.symm;clear hw)
     go_ret2;rw [HN.out];exact⟨_,rfl,(fun ps h=>by cases h),aG⟩
    have HN:=Nm.aD (Dt.yA jH (n:=p.size) (by show Dt.sz .txs d=some _;rw [Dt.sz,if_neg (by omega),FW]) ht.2.1);obtain⟨e3,e4⟩:=iR (s:=p) (by omega);clear jH ht h0 FW YV;go_wp2_with (first|(go_at_call 155;refine(aX _).mono ?_;rintro e w2 ⟨rfl,hw⟩;obtain rfl:wr=w2:=hw.symm;clear hw)|(at_builtin;refine wpList_append_own _ rfl (.tmp 96) (.tmp 98) 32 rfl w.heap.size 9 i0 (.string ByteArray.empty) 1 16 Tryz.underlying32 hi iQ iH iI rfl (by decide) _ _ _ rfl (aU.alloc _) ⟨wr.heap.size,0,none⟩ 1 1 [.string p] rfl rfl (lZ _ _ _) (Nm.one_cell _ rfl) (by unfold maxLen;omega) (by omega) (by simp;omega) ?_))
    intro v' w1 dE bU _;have R:=lY qA aU aG _ dE bU;clear dE bU aU aG;go_wp2;go_roundw
    ·exact⟨k+1,_,_,by omega,by go_num,rfl,by simp<;>omega,by have:=HPL.out;simp;omega,HN.out,R.1,R.2⟩
    simp [intOf];omega
   obtain⟨e1,e2⟩:=iR (s:=Dt.fP (d.extract p.size d.size)) (by omega);have HT:=Nm.aD (Dt.aC9 ht h0);have hle:=Dt.uL (d.extract p.size d.size);have aQv:(d.extract p.size d.size).size=d.size-p.size:=by simp
   rw [aQv] at hle;clear ht jH;generalize Dt.fP (d.extract p.size d.size)=T at*;go_wp2_with (go_at_call 155;refine(aX _).mono ?_;rintro e w2 ⟨rfl,hw⟩;obtain rfl:wr=w2:=hw.symm;clear hw)
   go_round
   ·exact⟨_,rfl,HT.out⟩
   simp;omega
  ·skip
   rw [hc] at jH;have hv:f[k].toNat=99:=by rw [hc];rfl
   have q1:((f[k].toNat:Int)==110)=false:=by rw [fC];omega
   have q2:((f[k].toNat:Int)==98)=false:=by rw [fC];omega
   have q3:((f[k].toNat:Int)==116)=false:=by rw [fC];omega
   have q4:((f[k].toNat:Int)==115)=false:=by rw [fC];omega
   have q5:((f[k].toNat:Int)==99)=true:=by rw [beq_iff_eq];omega
   have q8:((f[k].toNat:Int) != 109)=true:=by rw [bne_iff_ne];omega
   have q9:((f[k].toNat:Int) != 42)=true:=by rw [bne_iff_ne];omega
   clear hv hc Gx;have aX:=fun w=>IA d w (by unfold maxLen;omega)
   have htl:=Dt.uL d
   by_cases h0:(Dt.fP d).size<2
   ·have HN:=Nm.aD (Dt.vJ jH (by show Dt.sz .VX d=none;rw [Dt.sz,Dt.SC (.inl h0)];rfl));have K8:((Dt.fP d).size:Int)<2:=by omega
    clear jH;go_wp2_with (go_at_call 155;refine(aX _).mono ?_;rintro e w2 ⟨rfl,hw⟩;obtain rfl:wr=w2:=hw.symm;clear hw)
    go_ret2;rw [HN.out];exact⟨_,rfl,(fun ps h=>by cases h),aG⟩
   have K8:(2:Int)<=((Dt.fP d).size:Int):=by omega
   by_cases h1:16<(Dt.fP d).size
   ·have HN:=Nm.aD (Dt.vJ jH (by show Dt.sz .VX d=none;rw [Dt.sz,Dt.SC (.inr h1)];rfl));have ZG:(16:Int)<((Dt.fP d).size:Int):=by omega
    clear jH;go_wp2_with (go_at_call 155;refine(aX _).mono ?_;rintro e w2 ⟨rfl,hw⟩;obtain rfl:wr=w2:=hw.symm;clear hw)
    go_ret2;rw [HN.out];exact⟨_,rfl,(fun ps h=>by cases h),aG⟩
   have ZG:((Dt.fP d).size:Int)<=16:=by omega
   have htb:=fun j (h2:1<=j) (h3:j<(Dt.fP d).size)=>Dt.aHu (d:=d) (k:=j) h2 h3
   have htg:=Dt.aDa (d:=d) (by omega) (by omega);have hb:Hid (∀ b,Dt.RO d=b->Dt.sz .VX d=if b then some d.size else none):=by show ∀ b,_;intro b hb;rw [Dt.sz,hb]
   generalize Dt.fP d=P at*;go_wp2_with (go_at_call 155;refine(aX _).mono ?_;rintro e w2 ⟨rfl,hw⟩;obtain rfl:wr=w2:=hw.symm;clear hw)
   go_loop [9] (fun v=>∃ j:Nat,1<=j∧j<=P.size∧v=.int .i64 j∧∀ i,1<=i->i<j->(hi:i<P.size)->Dt.jU P[i]=true) (fun v=>P.size-(intOf v).toNat)
   ·exact⟨1,by omega,by omega,rfl,fun i h1 h2=>by omega⟩
   obtain⟨j,hj1,hj2,rfl,hj⟩:=hrel
   by_cases NG:j<P.size
   ·have aQw:(j:Int)<(P.size:Int):=by omega
    have XI:=Ji P[j];cases hA:Dt.jU P[j]
    ·have HN:=Nm.aD (Dt.vJ jH (by show Dt.sz .VX d=none;rw [hb.out _ (htb j hj1 NG hA)];rfl));rw [hA] at XI;clear jH htb htg hb hj hA;go_wp2_with (go_at_call 156;refine(XI _).mono ?_;rintro e w2 ⟨rfl,hw⟩;obtain rfl:wr=w2:=hw.symm;clear hw)
     go_ret2;rw [HN.out];exact⟨_,rfl,(fun ps h=>by cases h),aG⟩
    have HJ:Hid (∀ i,1<=i->i<j+1->(hi:i<P.size)->Dt.jU P[i]=true):=by
     show ∀ i,_
     intro i h1 h2 h3
     by_cases e:i=j
     ·subst e;exact hA
     exact hj i h1 (by omega) h3
    rw [hA] at XI;clear jH htb htg hb hj hA;go_wp2_with (go_at_call 156;refine(XI _).mono ?_;rintro e w2 ⟨rfl,hw⟩;obtain rfl:wr=w2:=hw.symm;clear hw)
    go_round
    ·exact⟨j+1,by omega,by omega,by go_num,HJ.out⟩
    simp [intOf];omega
   have aQw:(P.size:Int)<=(j:Int):=by omega
   have htt:=htg (fun i h1 h2=>hj i h1 (by omega) h2);have HN:=Nm.aD (Dt.yA jH (n:=d.size) (by show Dt.sz .VX d=some _;rw [hb.out _ htt];rfl) (Dt.KG d));rw [Dt.ZC] at HN;obtain⟨e1,e2⟩:=iR (s:=d) (by omega);clear jH htb htg hb hj htt;go_wp2_with (first|(fail)|(at_builtin;refine wpList_append_own _ rfl (.tmp 96) (.tmp 98) 32 rfl w.heap.size 9 i0 (.string ByteArray.empty) 1 16 Tryz.underlying32 hi iQ iH iI rfl (by decide) _ _ _ rfl (aU.alloc _) ⟨wr.heap.size,0,none⟩ 1 1 [.string d] rfl rfl (lZ _ _ _) (Nm.one_cell _ rfl) (by unfold maxLen;omega) (by omega) (by simp;omega) ?_))
   intro v' w1 dE bU _;have R:=lY qA aU aG _ dE bU;clear dE bU aU aG;go_wp2;go_roundw
   ·exact⟨k+1,_,_,by omega,by go_num,rfl,by simp<;>omega,by have:=HPL.out;simp;omega,HN.out,R.1,R.2⟩
   simp [intOf];omega
  ·skip
   rw [hc] at jH;have hv:f[k].toNat=109:=by rw [hc];rfl
   have q1:((f[k].toNat:Int)==110)=false:=by rw [fC];omega
   have q2:((f[k].toNat:Int)==98)=false:=by rw [fC];omega
   have q3:((f[k].toNat:Int)==116)=false:=by rw [fC];omega
   have q4:((f[k].toNat:Int)==115)=false:=by rw [fC];omega
   have q5:((f[k].toNat:Int)==99)=false:=by rw [fC];omega
   have q6:((f[k].toNat:Int)==109)=true:=by rw [beq_iff_eq];omega
   have q8:((f[k].toNat:Int) != 109)=false:=by rw [bne_eq_false_iff_eq];omega
   have q9:((f[k].toNat:Int) != 42)=true:=by rw [bne_iff_ne];omega
   clear hv hc Gx;have aX:=fun w=>Xx d w (by unfold maxLen;omega)
   cases hM:Iq d
   ·have HN:=Nm.aD (Dt.vJ jH (by show Dt.sz .mp d=none;rw [Dt.sz,hM];rfl));rw [hM] at aX;clear jH hM;go_wp2_with (go_at_call 157;refine(aX _).mono ?_;rintro e w2 ⟨rfl,hw⟩;obtain rfl:wr=w2:=hw.symm;clear hw)
    go_ret2;rw [HN.out];exact⟨_,rfl,(fun ps h=>by cases h),aG⟩
   have HN:=Nm.aD (Dt.yA jH (n:=d.size) (by show Dt.sz .mp d=some _;rw [Dt.sz,hM];rfl) (Dt.KG d));rw [Dt.ZC] at HN;rw [hM] at aX;clear jH hM
   by_cases h0:d.size=0
   ·obtain⟨e1,e2⟩:=nJ h0;clear h0;go_wp2_with (first|(go_at_call 157;refine(aX _).mono ?_;rintro e w2 ⟨rfl,hw⟩;obtain rfl:wr=w2:=hw.symm;clear hw)|(at_builtin;refine wpList_append_own _ rfl (.tmp 96) (.tmp 98) 32 rfl w.heap.size 9 i0 (.string ByteArray.empty) 1 16 Tryz.underlying32 hi iQ iH iI rfl (by decide) _ _ _ rfl (aU.alloc _) ⟨wr.heap.size,0,none⟩ 1 1 [.string d] rfl rfl (lZ _ _ _) (Nm.one_cell _ rfl) (by unfold maxLen;omega) (by omega) (by simp;omega) ?_))
    intro v' w1 dE bU _;have R:=lY qA aU aG _ dE bU;clear dE bU aU aG;go_wp2;go_roundw
    ·exact⟨k+1,_,_,by omega,by go_num,rfl,by simp<;>omega,by have:=HPL.out;simp;omega,HN.out,R.1,R.2⟩
    simp [intOf];omega
   obtain⟨e1,e2⟩:=iR (s:=d) (by omega);clear h0;go_wp2_with (first|(go_at_call 157;refine(aX _).mono ?_;rintro e w2 ⟨rfl,hw⟩;obtain rfl:wr=w2:=hw.symm;clear hw)|(at_builtin;refine wpList_append_own _ rfl (.tmp 96) (.tmp 98) 32 rfl w.heap.size 9 i0 (.string ByteArray.empty) 1 16 Tryz.underlying32 hi iQ iH iI rfl (by decide) _ _ _ rfl (aU.alloc _) ⟨wr.heap.size,0,none⟩ 1 1 [.string d] rfl rfl (lZ _ _ _) (Nm.one_cell _ rfl) (by unfold maxLen;omega) (by omega) (by simp;omega) ?_))
   intro v' w1 dE bU _;have R:=lY qA aU aG _ dE bU;clear dE bU aU aG;go_wp2;go_roundw
   ·exact⟨k+1,_,_,by omega,by go_num,rfl,by simp<;>omega,by have:=HPL.out;simp;omega,HN.out,R.1,R.2⟩
   simp [intOf];omega
  skip
  rw [hc] at jH;have hv:f[k].toNat=42:=by rw [hc];rfl
  have q1:((f[k].toNat:Int)==110)=false:=by rw [fC];omega
  have q2:((f[k].toNat:Int)==98)=false:=by rw [fC];omega
  have q3:((f[k].toNat:Int)==116)=false:=by rw [fC];omega
  have q4:((f[k].toNat:Int)==115)=false:=by rw [fC];omega
  have q5:((f[k].toNat:Int)==99)=false:=by rw [fC];omega
  have q6:((f[k].toNat:Int)==109)=false:=by rw [fC];omega
  have q7:((f[k].toNat:Int)==42)=true:=by rw [beq_iff_eq];omega
  have q8:((f[k].toNat:Int) != 109)=true:=by rw [bne_iff_ne];omega
  have q9:((f[k].toNat:Int) != 42)=false:=by rw [bne_eq_false_iff_eq];omega
  clear hv hc Gx;have HN:=Nm.aD (Dt.yA jH (n:=d.size) (by show Dt.sz .rs d=some _;rw [Dt.sz]) (Dt.KG d));rw [Dt.ZC] at HN;clear jH
  by_cases h0:d.size=0
  ·obtain⟨e1,e2⟩:=nJ h0;clear h0;go_wp2_with (first|(fail)|(at_builtin;refine wpList_append_own _ rfl (.tmp 96) (.tmp 98) 32 rfl w.heap.size 9 i0 (.string ByteArray.empty) 1 16 Tryz.underlying32 hi iQ iH iI rfl (by decide) _ _ _ rfl (aU.alloc _) ⟨wr.heap.size,0,none⟩ 1 1 [.string d] rfl rfl (lZ _ _ _) (Nm.one_cell _ rfl) (by unfold maxLen;omega) (by omega) (by simp;omega) ?_))
   intro v' w1 dE bU _;have R:=lY qA aU aG _ dE bU;clear dE bU aU aG;go_wp2;go_roundw
   ·exact⟨k+1,_,_,by omega,by go_num,rfl,by simp<;>omega,by have:=HPL.out;simp;omega,HN.out,R.1,R.2⟩
   simp [intOf];omega
  obtain⟨e1,e2⟩:=iR (s:=d) (by omega);clear h0;go_wp2_with (first|(fail)|(at_builtin;refine wpList_append_own _ rfl (.tmp 96) (.tmp 98) 32 rfl w.heap.size 9 i0 (.string ByteArray.empty) 1 16 Tryz.underlying32 hi iQ iH iI rfl (by decide) _ _ _ rfl (aU.alloc _) ⟨wr.heap.size,0,none⟩ 1 1 [.string d] rfl rfl (lZ _ _ _) (Nm.one_cell _ rfl) (by unfold maxLen;omega) (by omega) (by simp;omega) ?_))
  intro v' w1 dE bU _;have R:=lY qA aU aG _ dE bU;clear dE bU aU aG;go_wp2;go_roundw
  ·exact⟨k+1,_,_,by omega,by go_num,rfl,by simp<;>omega,by have:=HPL.out;simp;omega,HN.out,R.1,R.2⟩
  simp [intOf];omega
 have SE:(f.size:Int)<=(k:Int):=by omega
 have Ac:(f.data.toList.map Dt.uF).drop k=[]:=List.drop_eq_nil_of_le (by simp;omega);rw [Ac] at jH;clear Gx Ac
 by_cases h0:d.size=0
 ·have HN:=Nm.aD (Dt.aHs jH h0);obtain⟨e1,e2⟩:=nJ h0;clear jH h0;go_wp2;go_ret2;rw [HN.out];exact⟨_,rfl,(fun qs h=>by cases h;exact aU),aG⟩
 have HN:=Nm.aD (Dt.aC7 jH h0);obtain⟨e1,e2⟩:=iR (s:=d) (by omega);clear jH h0;go_wp2;go_ret2;rw [HN.out];exact⟨_,rfl,(fun ps h=>by cases h),aG⟩
