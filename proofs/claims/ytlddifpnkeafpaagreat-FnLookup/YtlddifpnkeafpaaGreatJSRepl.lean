import Derived.Test.YtlddifpnkeafpaaGreatJTbGI
import Derived.Test.YtlddifpnkeafpaaGreatZbT
set_option linter.unusedVariables false
set_option maxRecDepth 100000
set_option maxHeartbeats 3200000
namespace Go.Proofs.YtlddifpnkeafpaaGreat
open Go.RowKit
theorem MC(a b c:ByteArray)(w:World)(ha:a.size<=maxLen)(hb:b.size<=maxLen)(hc:c.size<=maxLen):
 Calls Tryz.prog 48 #[.string a,.string b,.string c] w fun e w'=>e=.returned (.tuple #[.string (zZ a b c).1,.int .i64 (zZ a b c).2])∧Below w.heap.size w w':=by
 have WA:=gL a w ha;have rW:=fun W=>gL b W hb
 have hsc:=fun W=>gL c W hc
 by_cases Bb:Nm.split a=none∨Nm.split b=none∨Nm.split c=none
 ·have HA:=Nm.aD (aEv Bb)
  have hg:((Nm.split a).isSome=false)∨((Nm.split a).isSome=true∧(Nm.split b).isSome=false)∨((Nm.split a).isSome=true∧(Nm.split b).isSome=true∧(Nm.split c).isSome=false):=by
   cases h1:Nm.split a<;>cases h2:Nm.split b<;>cases h3:Nm.split c<;>simp_all
  clear Bb;generalize Nm.split a=sa at*;generalize Nm.split b=sb at*;generalize Nm.split c=sc at*
  rcases hg with h1|⟨h1,h2⟩|⟨h1,h2,h3⟩
  all_goals
   go_enter Tryz.func48,Tryz.ntmps48;go_wp2_with fail
   refine WA.mono ?_;rintro e w1 ⟨v,rfl,aU,aG⟩;go_wp2_with fail
   refine(rW _).mono ?_;rintro e w2 ⟨v2,rfl,dO,gX⟩;go_wp2_with fail
   refine(hsc _).mono ?_;rintro e w3 ⟨v3,rfl,gW,qC⟩;have rG:=Nm.aC (Nm.aC aG gX) qC;clear aU dO gW;go_wp2;go_ret2;rw [HA.out];exact⟨rfl,rG⟩
 obtain⟨xs,IE⟩:∃ xs,Nm.split a=some xs:=Option.ne_none_iff_exists'.1 (fun h=>Bb (.inl h));obtain⟨ys,LM⟩:∃ ys,Nm.split b=some ys:=Option.ne_none_iff_exists'.1 (fun h=>Bb (.inr (.inl h)));obtain⟨zs,hqc⟩:∃ zs,Nm.split c=some zs:=Option.ne_none_iff_exists'.1 (fun h=>Bb (.inr (.inr h)));have hza:=Nm.dK IE;have Eh:=Nm.dK LM;have hzc:=Nm.dK hqc;have hla:=Nm.bL xs;have EM:=Nm.bL ys;have hlc:=Nm.bL zs;have Ty:=fun W=>iA a b W ha hb
 rw [bZ IE LM] at Ty;have aFy:=aA3 IE LM hqc;have Tz:=He IE LM hqc;rw [IE] at WA;rw [LM] at rW;rw [hqc] at hsc;clear Bb IE LM hqc;obtain⟨i0,hi,iQ,iH,iI⟩:=info_parts Tryz.wM
 by_cases gI:¬(aQ xs ys=true∧xs.length≠ys.length)
 ·have HA:=Nm.aD (aFy gI);clear aFy Tz;cases hu:aQ xs ys
  ·rw [hu] at Ty;clear gI;go_enter Tryz.func48,Tryz.ntmps48;go_wp2_with fail
   refine WA.mono ?_;rintro e w1 ⟨v,rfl,aU,aG⟩;go_wp2_with fail
   refine(rW _).mono ?_;rintro e w2 ⟨v2,rfl,dO,gX⟩;go_wp2_with fail
   refine(hsc _).mono ?_;rintro e w3 ⟨v3,rfl,gW,qC⟩;have rG:=Nm.aC (Nm.aC aG gX) qC;clear aU dO gW;go_wp2_with fail
   refine(Ty _).mono ?_;rintro e w4 ⟨rfl,EO⟩;go_wp2;go_ret2;rw [HA.out];exact⟨rfl,Nm.aC rG EO⟩
  rw [hu] at Ty
  have heq:((xs.length:Int)==(ys.length:Int))=true:=by
   have:xs.length=ys.length:=Classical.byContradiction (fun h=>gI ⟨hu,h⟩);simp [this]
  clear gI;go_enter Tryz.func48,Tryz.ntmps48;go_wp2_with fail
  refine WA.mono ?_;rintro e w1 ⟨v,rfl,aU,aG⟩;go_wp2_with fail
  refine(rW _).mono ?_;rintro e w2 ⟨v2,rfl,dO,gX⟩;go_wp2_with fail
  refine(hsc _).mono ?_;rintro e w3 ⟨v3,rfl,gW,qC⟩;have rG:=Nm.aC (Nm.aC aG gX) qC;obtain⟨a1,Qb,rfl,ZP,aH2,PE,mQ⟩:=Nm.bP.aP aU;obtain⟨a2,aH3,rfl,PN,aAe,GR,vI⟩:=Nm.bP.aP dO;simp only [Option.getD_some] at*;clear aU dO gW mQ vI PE GR;go_wp2_with fail
  refine(Ty _).mono ?_;rintro e w4 ⟨rfl,EO⟩;go_wp2;go_ret2;rw [HA.out];exact⟨rfl,Nm.aC rG EO⟩
 have aFz:aQ xs ys=true∧xs.length≠ys.length:=Classical.byContradiction gI;have HA:=Nm.aD (Tz aFz);have hu:=aFz.1
 have bY:ys.length<xs.length:=by
  have h1:=aFz.1;have h2:=aFz.2;rw [aQ] at h1;simp at h1;omega
 rw [hu] at Ty;have heq:((xs.length:Int)==(ys.length:Int))=false:=by rw [fC];omega
 obtain⟨d,Gv⟩:∃ d,d=xs.length-ys.length:=⟨_,rfl⟩;rw [<- Gv] at HA;have hq:(xs.length:Int)-(ys.length:Int)=(d:Int):=by omega
 have nV:d<=xs.length:=by omega
 have hwt:=Nm.jT xs d;have hwa:=Nm.mP (xs.take d) zs;have hmk:=fun V W h=>TI V (xs.take d++zs) W h
 generalize lT (xs.take d++zs)=M at*;clear aFy Tz gI aFz hu Gv;go_enter Tryz.func48,Tryz.ntmps48;go_wp2_with fail
 refine WA.mono ?_;rintro e w1 ⟨v,rfl,aU,aG⟩;go_wp2_with fail
 refine(rW _).mono ?_;rintro e w2 ⟨v2,rfl,dO,gX⟩;go_wp2_with fail
 refine(hsc _).mono ?_;rintro e w3 ⟨v3,rfl,gW,qC⟩;have rG:=Nm.aC (Nm.aC aG gX) qC;have r1:=((Nm.bP.aP aU).below gX).below qC;have r2:=(Nm.bP.aP dO).below qC;have r3:=Nm.bP.aP gW;simp only [Option.getD_some] at r1 r2 r3;have r1':=r1;have r3':=r3;obtain⟨a1,Qb,rfl,ZP,aH2,PE,mQ⟩:=r1;obtain⟨a2,aH3,rfl,PN,aAe,GR,vI⟩:=r2;obtain⟨a3,FO,rfl,hcap3,hmx3,aEu,hc3⟩:=r3;clear aU dO gW PE GR aEu mQ vI hc3;go_wp2_with fail
 refine(Ty _).mono ?_;rintro e w4 ⟨rfl,EO⟩;have aRn:=r1'.below EO;have aRo:=r3'.below EO;obtain⟨_,_,e1,_,_,_,mQ⟩:=aRn;simp only [gK] at e1;obtain⟨rfl,_,rfl⟩:=e1;obtain⟨_,_,e3,_,_,_,hc3⟩:=aRo;simp only [gK] at e3;obtain⟨rfl,_,rfl⟩:=e3;have hb5:=Nm.aC rG EO;clear r1' r3' Ty aG gX qC EO rG;go_wp2
 go_loopw [14,15] (fun v i wr=>∃ k:Nat,k<=d∧i=.int .i64 k∧wr.ownsRow w4.heap.size 9 1 v (xs.take k).length ((xs.take k).map Value.string)∧Below w4.heap.size w4 wr)
  (fun _ i _=>d-(intOf i).toNat)
 ·exact⟨0,dR _,rfl,World.ownsRow_made w4 #[] 0 (aI _) (by decide) rfl,(aJ _ _).alloc (aI _) _⟩
 obtain⟨k,hk,rfl,sZ,BM⟩:=hrel;have aHz:=BM.size;have Pw:(xs.take k).length=k:=by simp;omega
 by_cases hkd:k<d
 ·obtain⟨x,hx⟩:∃ x,xs[k]? =some x:=⟨_,gF (by omega)⟩;obtain⟨b1,Qc,rfl,aH⟩:=mQ (by intro h;rw [h] at bY;simp at bY);have vS:wr.cell? ⟨b1,Qc+k,none⟩=some (.string x):=(BM.cell (fD w4 _ (aH k x hx))).trans (aH k x hx);have HT:=Nm.aD (Nm.jJ hx);have P6:=Nm.aD Pw;clear hx aH mQ hc3 Pw hmk;go_wp2_with (at_builtin;refine wpList_append_own _ rfl (.tmp 63) (.tmp 68) 32 rfl w4.heap.size 9 i0 (.string ByteArray.empty) 1 16 Tryz.underlying32 hi iQ iH iI rfl (by decide) _ _ _ rfl (sZ.alloc _) ⟨wr.heap.size,0,none⟩ 1 1 [.string x] rfl rfl (cell_one_new _ _ _) (Nm.one_cell _ rfl) (by have:=P6.out;unfold maxLen;omega) (by have:=P6.out;omega) (by simp;omega) ?_;intro v' w5 dE bU Jj;clear Jj;have R:=lY aHz sZ BM _ dE bU;clear dE bU)
  go_roundw
  ·exact⟨k+1,by omega,by go_num,by rw [HT.out];exact R.1,R.2⟩
  simp [intOf];omega
 have FE:k=d:=by omega
 subst FE;clear mQ;go_wp2
 go_loopw [14,16] (fun v i wi=>∃ j:Nat,j<=zs.length∧i=.int .i64 j∧wi.ownsRow w4.heap.size 9 1 v (xs.take k++zs.take j).length ((xs.take k++zs.take j).map Value.string)∧Below w4.heap.size w4 wi)
  (fun _ i _=>zs.length-(intOf i).toNat)
 ·exact⟨0,dR _,rfl,by simpa using sZ,BM⟩
 obtain⟨j,hj,rfl,vN,Q9⟩:=hrel;have aRp:=Q9.size;have hlj:(xs.take k++zs.take j).length=k+j:=by simp;omega
 clear sZ BM aHz
 by_cases hjz:j<zs.length
 ·obtain⟨x,hx⟩:=gQ hjz;obtain⟨b3,aRq,rfl,aH⟩:=hc3 (by intro h;rw [h] at hjz;simp at hjz);have vS:wr.cell? ⟨b3,aRq+j,none⟩=some (.string x):=(Q9.cell (fD w4 _ (aH j x hx))).trans (aH j x hx);have HT:=Nm.aD (Nm.jJ hx);have P6:=Nm.aD hlj;clear hx aH hc3 hlj hmk Pw;go_wp2_with (at_builtin;refine wpList_append_own _ rfl (.tmp 76) (.tmp 81) 32 rfl w4.heap.size 9 i0 (.string ByteArray.empty) 1 16 Tryz.underlying32 hi iQ iH iI rfl (by decide) _ _ _ rfl (vN.alloc _) ⟨wr.heap.size,0,none⟩ 1 1 [.string x] rfl rfl (cell_one_new _ _ _) (Nm.one_cell _ rfl) (by have:=P6.out;unfold maxLen;omega) (by have:=P6.out;omega) (by simp;omega) ?_;intro v' w5 dE bU Jj;clear Jj;have R:=lY aRp vN Q9 _ dE bU;clear dE bU)
  go_roundw
  ·exact⟨j+1,by omega,by go_num,by rw [HT.out,<- List.append_assoc];exact R.1,R.2⟩
  simp [intOf];omega
 have hje:j=zs.length:=by omega
 subst hje;rw [List.take_length] at vN;have hr:=Nm.bP.aP vN;clear vN hc3 hlj Pw;go_wp2_with fail
 refine(hmk _ _ hr).mono ?_;rintro e w6 ⟨rfl,aOc⟩;go_wp2;go_ret2;rw [HA.out];exact⟨rfl,Nm.aC hb5 (Nm.aC Q9 aOc)⟩
theorem Tryz.Ua:(Tryz.prog.info? 141).map (fun i=>(i.zero,i.size,i.bytes))=some (some (.agg #[.string ByteArray.empty,.int .i64 0,.int .i64 0,.int .i64 0,.string ByteArray.empty,.string ByteArray.empty,.string ByteArray.empty,.bool false]),8,96):=by kernel_rfl
theorem Ub:∀ (n:Nat) (v:Value) (l:List It) (w:World),dZ w v l.length 8 (fK l)->l.length<=n->l.length<=1000000->(∀ x∈l,x.fo.size<=maxLen)->
 Calls Tryz.prog 84 #[v] w fun e w'=>∃ u,e=.returned u∧dZ w' u l.length 8 (fK (jX n l))∧Below w.heap.size w w':=by
 obtain⟨i0,hi,iQ,iH,iI⟩:=info_parts Tryz.Ua;intro n
 induction n with
 |zero=>
  intro v l w h hn hl FL;have hr:=h;obtain⟨_,a,cap,rfl,gT,kV,hc⟩:=h;have hz:l.length=0:=by omega
  have i1:(l.length:Int)<2:=by omega
  clear hc;go_enter Tryz.func84,Tryz.ntmps84;go_wp2;go_ret
  exact⟨_,rfl,hr,aJ _ _⟩
 |succ n ih=>
  intro v l w h hn hl FL
  by_cases hs:l.length<2
  ·have hr:=h;rw [zY hs];obtain⟨_,a,cap,rfl,gT,kV,hc⟩:=h;have i1:(l.length:Int)<2:=by omega
   clear hc ih;go_enter Tryz.func84,Tryz.ntmps84;go_wp2;go_ret;exact⟨_,rfl,hr,aJ _ _⟩
  have hr:=h;obtain⟨_,a,cap,rfl,gT,kV,hc⟩:=h;obtain⟨b,off,rfl,_⟩:=hc (by omega);clear hc;have i1:¬(l.length:Int)<2:=by omega
  obtain⟨hf,hhf⟩:∃ hf,hf=l.length / 2:=⟨_,rfl⟩;have hh1:0<hf:=by omega
  have hh2:hf<l.length:=by omega
  have hq:(l.length:Int) / 2=(hf:Int):=by omega
  have hra:=aIj hr (Nat.le_of_lt hh2);have hrb:=aIk hr hh2;have hla:(l.take hf).length=hf:=by rw [List.length_take];omega
  have EM:(l.drop hf).length=l.length-hf:=List.length_drop;have ha:=ih _ (l.take hf) w hra (by omega) (by omega) (fun x hx=>FL x (List.mem_of_mem_take hx));have hb:=fun W hW=>ih _ (l.drop hf) W (hrb.below hW) (by omega) (by omega) (fun x hx=>FL x (List.mem_of_mem_drop hx))
  have HSF:Hid (jX (n+1) l=List.merge (jX n (l.take hf)) (jX n (l.drop hf)) tC):=by show _=_;rw [hhf];exact TF hs
  rw [hla] at ha;rw [EM] at hb;unfold maxLen at kV;have vI:¬cap=hf:=by omega
  clear ih hr hra hrb hhf hs;go_enter Tryz.func84,Tryz.ntmps84;go_wp2_with fail
  refine ha.mono ?_;rintro e w1 ⟨u1,rfl,hA,b1⟩;obtain⟨u1a,u1c,hu1⟩:∃ a c,u1=.slice a hf c:=by obtain⟨_,a,c,e,_⟩:=hA;exact⟨a,c,e⟩
  subst hu1;go_wp2_with fail
  refine(hb w1 b1).mono ?_;rintro e w2 ⟨u2,rfl,hB,b2⟩;obtain⟨u2a,u2c,hu2⟩:∃ a c,u2=.slice a (l.length-hf) c:=by obtain⟨_,a,c,e,_⟩:=hB;exact⟨a,c,e⟩
  subst hu2;have hA2:=hA.below b2;have B2:=Nm.aC b1 b2;have hAl:(jX n (l.take hf)).length=hf:=by rw [BZ,hla]
  have hBl:(jX n (l.drop hf)).length=l.length-hf:=by rw [BZ,EM]
  have hAf:∀ x∈jX n (l.take hf),x.fo.size<=maxLen:=fun x hx=>FL x (List.mem_of_mem_take (KN.1 hx))
  have hBf:∀ x∈jX n (l.drop hf),x.fo.size<=maxLen:=fun x hx=>FL x (List.mem_of_mem_drop (KN.1 hx))
  clear ha hb hA b1 b2 hla EM;generalize jX n (l.take hf)=LA at*;generalize jX n (l.drop hf)=LB at*;obtain⟨M,hM⟩:∃ M,List.merge LA LB tC=M:=⟨_,rfl⟩;have HM:=Nm.aD hM;have aRr:Hid (jX (n+1) l=M):=HSF.out.trans hM;obtain⟨lb,EM⟩:∃ lb,l.length-hf=lb:=⟨_,rfl⟩;rw [EM] at hBl hB;have aOd:(l.length:Nat)=hf+lb:=by omega
  have o0:=World.ownsRow_lit (base:=w2.heap.size) (e:=141) (size:=8) w2 #[] 0 (aI _) (by decide) rfl;have HH:=Nm.aD (aV hA2 (aV hB (aV hAf hBf)));have HL:=Nm.aD (aV hAl hBl);have HLN:=Nm.aD aOd;clear hA2 hB hAf hBf hM HSF hq hAl hBl vI;go_wp2;clear EM aOd
  go_loopw [5,6,7] (fun vo vi vk wr=>∃ (i k:Nat) (O:List It),i<=hf∧k<=lb∧vi=.int .i64 i∧vk=.int .i64 k∧Hid (O++List.merge (LA.drop i) (LB.drop k) tC=M∧O.length=i+k)∧wr.ownsRow w2.heap.size 141 8 vo (i+k) (fK O)∧Below w2.heap.size w2 wr) (fun _ vi vk _=>(hf-(intOf vi).toNat)+(lb-(intOf vk).toNat))
  ·exact⟨0,0,[],by omega,by omega,rfl,rfl,⟨HM.out,rfl⟩,o0,(aJ _ _).alloc (aI _) _⟩
  clear o0;obtain⟨i,k,O,hi1,LJ,rfl,rfl,HO,oO,aG⟩:=hrel;have Zi:=HLN.out;obtain⟨oa,oc,qY⟩:=aT oO;subst qY;have n1:=fE i
  have n2:=fE k
  by_cases EA:i<hf
  ·obtain⟨x,hx⟩:∃ x,LA[i]? =some x:=⟨_,gF (by have:=HL.out.1;omega)⟩
   have TU:∀ W,Below w2.heap.size w2 W->∃ ab ao,u1a=some ⟨ab,ao,none⟩∧∀ (j:Nat) (z:Value),(fK LA)[j]? =some z->W.cell? ⟨ab,ao+j,none⟩=some z:=by
    intro W hW;obtain⟨_,a',c',e',_,_,hc⟩:=HH.out.1.below hW;simp only [gK] at e';obtain⟨rfl,_,rfl⟩:=e';exact hc (by omega)
   have i1:(i:Int)<(hf:Int):=by omega
   by_cases mK:k<lb
   ·obtain⟨y,hy⟩:∃ y,LB[k]? =some y:=⟨_,gF (by have:=HL.out.2;omega)⟩
    have NT:∀ W,Below w2.heap.size w2 W->∃ bb bo,u2a=some ⟨bb,bo,none⟩∧∀ (j:Nat) (z:Value),(fK LB)[j]? =some z->W.cell? ⟨bb,bo+j,none⟩=some z:=by
     intro W hW;obtain⟨_,a',c',e',_,_,hc⟩:=HH.out.2.1.below hW;simp only [gK] at e';obtain⟨rfl,_,rfl⟩:=e';exact hc (by omega)
    have k1:(k:Int)<(lb:Int):=by omega
    have k2:((k:Int)==(lb:Int))=false:=by simp;omega
    obtain⟨ab,ao,rfl,hcA⟩:=TU wr aG;obtain⟨bb,bo,rfl,hcB⟩:=NT wr aG
    have hS:∀ W,Below wr.heap.size wr W->(W.cell? ⟨ab,ao+i*8,none⟩=some (.string x.r.own)∧W.cell? ⟨ab,ao+i*8+1,none⟩=some (.int .i64 x.r.ty)∧W.cell? ⟨ab,ao+i*8+2,none⟩=some (.int .i64 x.r.cl)∧W.cell? ⟨ab,ao+i*8+3,none⟩=some (.int .i64 x.r.tt)∧W.cell? ⟨ab,ao+i*8+4,none⟩=some (.string x.r.da)∧W.cell? ⟨ab,ao+i*8+5,none⟩=some (.string x.fo)∧W.cell? ⟨ab,ao+i*8+6,none⟩=some (.string x.dt)∧W.cell? ⟨ab,ao+i*8+7,none⟩=some (.bool x.out))∧(W.cell? ⟨bb,bo+k*8,none⟩=some (.string y.r.own)∧W.cell? ⟨bb,bo+k*8+1,none⟩=some (.int .i64 y.r.ty)∧W.cell? ⟨bb,bo+k*8+2,none⟩=some (.int .i64 y.r.cl)∧W.cell? ⟨bb,bo+k*8+3,none⟩=some (.int .i64 y.r.tt)∧W.cell? ⟨bb,bo+k*8+4,none⟩=some (.string y.r.da)∧W.cell? ⟨bb,bo+k*8+5,none⟩=some (.string y.fo)∧W.cell? ⟨bb,bo+k*8+6,none⟩=some (.string y.dt)∧W.cell? ⟨bb,bo+k*8+7,none⟩=some (.bool y.out))∧Below wr.heap.size wr W:=by
     intro W hW;obtain⟨ab',ao',e1,aRs⟩:=TU W (Nm.aC aG hW);obtain⟨bb',bo',e2,aRt⟩:=NT W (Nm.aC aG hW);cases e1
     cases e2
     obtain⟨c0,c1,c2,c3,c4,c5,c6,c7⟩:=fQ aRs hx;obtain⟨d0,d1,d2,d3,d4,d5,d6,d7⟩:=fQ aRt hy;exact⟨⟨c0,c1,c2,c3,c4,c5,c6,c7⟩,⟨d0,d1,d2,d3,d4,d5,d6,d7⟩,hW⟩
    have FV:=hS _ (aJ _ _).drew;have hbf:=fun W=>Eo x y W (HH.out.2.2.1 x (dA hx)) (HH.out.2.2.2 y (dA hy))
    simp only [FI] at hbf;have hiy:=fun W (hW:Below wr.heap.size wr W)=>(hbf W).mono (R':=fun e w'=>e=.returned (.bool (tC x y))∧Below wr.heap.size wr w') (by rintro e w' ⟨he,hb⟩;exact⟨he,hW.trans (hb.mono hW.size)⟩)
    have hOB:∀ W,Below wr.heap.size wr W->W.ownsRow w2.heap.size 141 8 (.slice oa (i+k) oc) (i+k) (fK O):=fun W hW=>own_below oO hW
    have hwk:IntKind.i64.wrap (k:Int)=(k:Int):=Go.wrap_small _ (by omega) (by omega);have C8:IntKind.i64.wrap (i:Int)=(i:Int):=Go.wrap_small _ (by omega) (by omega);clear hbf hcA hcB
    cases hP:tC x y with
    |true=>
     have HO2:Hid ((O++[x])++List.merge (LA.drop (i+1)) (LB.drop k) tC=M∧(O++[x]).length=i+1+k):=by
      refine⟨?_,by have:=HO.out.2;simp;omega⟩;rw [<- HO.out.1,aA0 hx hy hP,List.append_assoc];rfl
     rw [hP] at hiy;clear hx hy TU NT hP HO;go_wp2;go_region_held3 (fun W=>(W.cell? ⟨ab,ao+i*8,none⟩=some (.string x.r.own)∧W.cell? ⟨ab,ao+i*8+1,none⟩=some (.int .i64 x.r.ty)∧W.cell? ⟨ab,ao+i*8+2,none⟩=some (.int .i64 x.r.cl)∧W.cell? ⟨ab,ao+i*8+3,none⟩=some (.int .i64 x.r.tt)∧W.cell? ⟨ab,ao+i*8+4,none⟩=some (.string x.r.da)∧W.cell? ⟨ab,ao+i*8+5,none⟩=some (.string x.fo)∧W.cell? ⟨ab,ao+i*8+6,none⟩=some (.string x.dt)∧W.cell? ⟨ab,ao+i*8+7,none⟩=some (.bool x.out))∧(W.cell? ⟨bb,bo+k*8,none⟩=some (.string y.r.own)∧W.cell? ⟨bb,bo+k*8+1,none⟩=some (.int .i64 y.r.ty)∧W.cell? ⟨bb,bo+k*8+2,none⟩=some (.int .i64 y.r.cl)∧W.cell? ⟨bb,bo+k*8+3,none⟩=some (.int .i64 y.r.tt)∧W.cell? ⟨bb,bo+k*8+4,none⟩=some (.string y.r.da)∧W.cell? ⟨bb,bo+k*8+5,none⟩=some (.string y.fo)∧W.cell? ⟨bb,bo+k*8+6,none⟩=some (.string y.dt)∧W.cell? ⟨bb,bo+k*8+7,none⟩=some (.bool y.out))∧Below wr.heap.size wr W) (first|with_reducible assumption|with_reducible exact FV) ((first|(go_at_call 128;refine(hiy _ FV.2.2).mono ?_;rintro e w3 ⟨rfl,SX⟩;have MJ:=hS _ SX)))
     have Lm:=Nm.aC aG MJ.2.2;have oO':w3.ownsRow w2.heap.size 141 8 (.slice oa (i+k) oc) (i+k) (fK O):=hOB _ MJ.2.2;obtain⟨⟨c0,c1,c2,c3,c4,c5,c6,c7⟩,⟨d0,d1,d2,d3,d4,d5,d6,d7⟩,_⟩:=MJ;clear hS FV hiy;go_wp2_with (at_builtin;refine wpList_append_own _ rfl (.tmp 56) (.tmp 61) 137 rfl w2.heap.size 141 i0 _ 8 96 Tryz.underlying137 hi iQ iH iI rfl (by decide) _ _ _ rfl (own_below oO' ((aJ _ _).alloc (aI _) _)) ⟨w3.heap.size,0,none⟩ 1 1 (FI x) rfl rfl (eZ _ _ _) (by intro u hu;simp [FI] at hu;rcases hu with rfl|rfl|rfl|rfl|rfl|rfl|rfl|rfl<;>rfl) (by unfold maxLen;omega) (by omega) (by have:=Lm.size;simp;omega) ?_;intro va wa yV nA BK)
     rw [show fK O++FI x=fK (O++[x]) from(xJ O x).symm] at yV;go_wp2;go_roundw
     ·exact⟨i+1,k,O++[x],by omega,by omega,by go_num,rfl,HO2,by rw [show i+1+k=i+k+1 by omega];exact yV,(Lm.alloc Lm.size _).grown nA (by have:=Lm.size;simp;omega) (fun g hg=>(oO'.lt g hg).1)⟩
     simp [intOf];omega
    |false=>
     have HO2:Hid ((O++[y])++List.merge (LA.drop i) (LB.drop (k+1)) tC=M∧(O++[y]).length=i+(k+1)):=by
      refine⟨?_,by have:=HO.out.2;simp;omega⟩;rw [<- HO.out.1,aA1 hx hy hP,List.append_assoc];rfl
     rw [hP] at hiy;clear hx hy TU NT hP HO;go_wp2;go_region_held3 (fun W=>(W.cell? ⟨ab,ao+i*8,none⟩=some (.string x.r.own)∧W.cell? ⟨ab,ao+i*8+1,none⟩=some (.int .i64 x.r.ty)∧W.cell? ⟨ab,ao+i*8+2,none⟩=some (.int .i64 x.r.cl)∧W.cell? ⟨ab,ao+i*8+3,none⟩=some (.int .i64 x.r.tt)∧W.cell? ⟨ab,ao+i*8+4,none⟩=some (.string x.r.da)∧W.cell? ⟨ab,ao+i*8+5,none⟩=some (.string x.fo)∧W.cell? ⟨ab,ao+i*8+6,none⟩=some (.string x.dt)∧W.cell? ⟨ab,ao+i*8+7,none⟩=some (.bool x.out))∧(W.cell? ⟨bb,bo+k*8,none⟩=some (.string y.r.own)∧W.cell? ⟨bb,bo+k*8+1,none⟩=some (.int .i64 y.r.ty)∧W.cell? ⟨bb,bo+k*8+2,none⟩=some (.int .i64 y.r.cl)∧W.cell? ⟨bb,bo+k*8+3,none⟩=some (.int .i64 y.r.tt)∧W.cell? ⟨bb,bo+k*8+4,none⟩=some (.string y.r.da)∧W.cell? ⟨bb,bo+k*8+5,none⟩=some (.string y.fo)∧W.cell? ⟨bb,bo+k*8+6,none⟩=some (.string y.dt)∧W.cell? ⟨bb,bo+k*8+7,none⟩=some (.bool y.out))∧Below wr.heap.size wr W) (first|with_reducible assumption|with_reducible exact FV) ((first|(go_at_call 128;refine(hiy _ FV.2.2).mono ?_;rintro e w3 ⟨rfl,SX⟩;have MJ:=hS _ SX)))
     have Lm:=Nm.aC aG MJ.2.2;have oO':w3.ownsRow w2.heap.size 141 8 (.slice oa (i+k) oc) (i+k) (fK O):=hOB _ MJ.2.2;obtain⟨⟨c0,c1,c2,c3,c4,c5,c6,c7⟩,⟨d0,d1,d2,d3,d4,d5,d6,d7⟩,_⟩:=MJ;clear hS FV hiy;go_wp2_with (at_builtin;refine wpList_append_own _ rfl (.tmp 65) (.tmp 70) 137 rfl w2.heap.size 141 i0 _ 8 96 Tryz.underlying137 hi iQ iH iI rfl (by decide) _ _ _ rfl (own_below oO' ((aJ _ _).alloc (aI _) _)) ⟨w3.heap.size,0,none⟩ 1 1 (FI y) rfl rfl (eZ _ _ _) (by intro u hu;simp [FI] at hu;rcases hu with rfl|rfl|rfl|rfl|rfl|rfl|rfl|rfl<;>rfl) (by unfold maxLen;omega) (by omega) (by have:=Lm.size;simp;omega) ?_;intro va wa yV nA BK)
     rw [show fK O++FI y=fK (O++[y]) from(xJ O y).symm] at yV;go_wp2;go_roundw
     ·exact⟨i,k+1,O++[y],by omega,by omega,rfl,by go_num,HO2,by rw [show i+(k+1)=i+k+1 by omega];exact yV,(Lm.alloc Lm.size _).grown nA (by have:=Lm.size;simp;omega) (fun g hg=>(oO'.lt g hg).1)⟩
     simp [intOf];omega
   obtain rfl:k=lb:=by omega
   have k1:((k:Int)==(k:Int))=true:=by simp
   have HO2:Hid ((O++[x])++List.merge (LA.drop (i+1)) (LB.drop k) tC=M∧(O++[x]).length=i+1+k):=by
    refine⟨?_,by have:=HO.out.2;simp;omega⟩;have hk:=HL.out.2;rw [<- HO.out.1,<- hk,Yn hx,List.append_assoc];rfl
   obtain⟨ab,ao,rfl,hcA⟩:=TU wr aG;obtain⟨c0,c1,c2,c3,c4,c5,c6,c7⟩:=fQ hcA hx;clear hx hcA TU HO;go_wp2;go_quiet (fail)
   generalize Fp:World.drewN wr _=wE;have Lm:Below w2.heap.size w2 wE:=by rw [<- Fp];exact Go.below_drewN aG _
   have oO':wE.ownsRow w2.heap.size 141 8 (.slice oa (i+k) oc) (i+k) (fK O):=by rw [<- Fp];exact yO oO _
   have hcE:∀ p,wE.cell? p=wr.cell? p:=by intro p;rw [<- Fp];simp
   clear Fp;go_wp2_with (at_builtin;refine wpList_append_own _ rfl (.tmp 56) (.tmp 61) 137 rfl w2.heap.size 141 i0 _ 8 96 Tryz.underlying137 hi iQ iH iI rfl (by decide) _ _ _ rfl (own_below oO' ((aJ _ _).alloc (aI _) _)) ⟨wE.heap.size,0,none⟩ 1 1 (FI x) rfl rfl (eZ _ _ _) (by intro u hu;simp [FI] at hu;rcases hu with rfl|rfl|rfl|rfl|rfl|rfl|rfl|rfl<;>rfl) (by unfold maxLen;omega) (by omega) (by have:=Lm.size;simp;omega) ?_;intro va wa yV nA BK)
   rw [show fK O++FI x=fK (O++[x]) from(xJ O x).symm] at yV;go_wp2;go_roundw
   ·exact⟨i+1,k,O++[x],by omega,by omega,by go_num,rfl,HO2,by rw [show i+1+k=i+k+1 by omega];exact yV,(Lm.alloc Lm.size _).grown nA (by have:=Lm.size;simp;omega) (fun g hg=>(oO'.lt g hg).1)⟩
   simp [intOf];omega
  obtain rfl:i=hf:=by omega
  have i1:(i:Int)<=(i:Int):=by omega
  by_cases mK:k<lb
  ·obtain⟨y,hy⟩:∃ y,LB[k]? =some y:=⟨_,gF (by have:=HL.out.2;omega)⟩
   have NT:∀ W,Below w2.heap.size w2 W->∃ bb bo,u2a=some ⟨bb,bo,none⟩∧∀ (j:Nat) (z:Value),(fK LB)[j]? =some z->W.cell? ⟨bb,bo+j,none⟩=some z:=by
    intro W hW;obtain⟨_,a',c',e',_,_,hc⟩:=HH.out.2.1.below hW;simp only [gK] at e';obtain⟨rfl,_,rfl⟩:=e';exact hc (by omega)
   have k1:(k:Int)<(lb:Int):=by omega
   have k2:((k:Int)==(lb:Int))=false:=by simp;omega
   have i2:decide ((i:Int)<(i:Int))=false:=by simp
   have HO2:Hid ((O++[y])++List.merge (LA.drop i) (LB.drop (k+1)) tC=M∧(O++[y]).length=i+(k+1)):=by
    refine⟨?_,by have:=HO.out.2;simp;omega⟩;have hk:=HL.out.1;rw [<- HO.out.1,<- hk,Km hy,List.append_assoc];rfl
   obtain⟨bb,bo,rfl,hcB⟩:=NT wr aG;obtain⟨c0,c1,c2,c3,c4,c5,c6,c7⟩:=fQ hcB hy;clear hy hcB NT HO;go_wp2;go_quiet (fail)
   generalize Fp:World.drewN wr _=wE;have Lm:Below w2.heap.size w2 wE:=by rw [<- Fp];exact Go.below_drewN aG _
   have oO':wE.ownsRow w2.heap.size 141 8 (.slice oa (i+k) oc) (i+k) (fK O):=by rw [<- Fp];exact yO oO _
   have hcE:∀ p,wE.cell? p=wr.cell? p:=by intro p;rw [<- Fp];simp
   clear Fp;go_wp2_with (at_builtin;refine wpList_append_own _ rfl (.tmp 65) (.tmp 70) 137 rfl w2.heap.size 141 i0 _ 8 96 Tryz.underlying137 hi iQ iH iI rfl (by decide) _ _ _ rfl (own_below oO' ((aJ _ _).alloc (aI _) _)) ⟨wE.heap.size,0,none⟩ 1 1 (FI y) rfl rfl (eZ _ _ _) (by intro u hu;simp [FI] at hu;rcases hu with rfl|rfl|rfl|rfl|rfl|rfl|rfl|rfl<;>rfl) (by unfold maxLen;omega) (by omega) (by have:=Lm.size;simp;omega) ?_;intro va wa yV nA BK)
   rw [show fK O++FI y=fK (O++[y]) from(xJ O y).symm] at yV;go_wp2;go_roundw
   ·exact⟨i,k+1,O++[y],by omega,by omega,rfl,by go_num,HO2,by rw [show i+(k+1)=i+k+1 by omega];exact yV,(Lm.alloc Lm.size _).grown nA (by have:=Lm.size;simp;omega) (fun g hg=>(oO'.lt g hg).1)⟩
   simp [intOf];omega
  obtain rfl:k=lb:=by omega
  have k1:(k:Int)<=(k:Int):=by omega
  have HE:Hid (O=M):=by
   show _=_
   have h1:=HL.out.1;have h2:=HL.out.2;have:=HO.out.1;rw [List.drop_of_length_le (by omega),List.drop_of_length_le (by omega)] at this;simpa using this
  go_wp2;go_ret;refine⟨_,rfl,?_,Nm.aC B2 aG⟩;rw [aRr.out,<- HE.out,Zi];exact dZ.aP oO
