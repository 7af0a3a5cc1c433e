import Derived.Test.YthdpacepbbcocaaGreatZbR
import Derived.Test.YthdpacepbbcocaaGreatJZbLb
set_option linter.unusedVariables false
set_option maxRecDepth 100000
set_option maxHeartbeats 6400000
namespace Go.Proofs.YthdpacepbbcocaaGreat
open Go.RowKit
def QE(list:List Rr)(aM:ByteArray)(w:World)(e:Ending)(w':World):Prop:=
 Below w.heap.size w w'∧((eH list aM).1=0->∃ v ps,e=.returned (.tuple #[.agg #[.string aM,v],.int .i64 0,.int .i64 0])∧ps.map (·.1)=mW list∧dH w' w.heap.size v ps)∧
  ((eH list aM).1≠0->e=.returned (.tuple #[.agg #[.string ByteArray.empty,.slice none 0 0],.int .i64 (eH list aM).1,.int .i64 (eH list aM).2]))
theorem YC{list:List Rr}{aM:ByteArray}{w w':World}{c i:Int}(hb:Below w.heap.size w w')(h:eH list aM=(c,i))(hc:c≠0):QE list aM w (.returned (.tuple #[.agg #[.string ByteArray.empty,.slice none 0 0],.int .i64 c,.int .i64 i])) w':=
 ⟨hb,fun h0=>absurd (by rw [h] at h0;exact h0) hc,fun _=>by rw [h]⟩
theorem IC{W:World}{b:Nat}{x0 x1:Value}{c i:Int}{R:Ending->World->Prop}{a:Act}(h:bG W b #[x0,x1] 25)
 (h4:a.tmps[4]? =some (.pointer (some ⟨b,0,none⟩))) (h5:a.tmps[5]? =some (.int .i64 c)) (h6:a.tmps[6]? =some (.int .i64 i)) (hd:a.defers=[])
 (hR:R (.returned (.tuple #[.agg #[x0,x1],.int .i64 c,.int .i64 i])) W):bodyPost Tryz.prog Tryz.f28 R .ret a W:=by
 refine gD ?_ hd hR;have r:=fun i=>aA h i
 simp [results,Tryz.results28,go_sem,Result.andThen,r,h4,h5,h6]
theorem aA9(s:ByteArray)(h:s.size<=maxLen):(Nm.cZ s).size<=maxLen:=by
 unfold Nm.cZ;split
 ·rw [Nm.qH];exact h
 unfold maxLen;simp
theorem kH(v:Value)(list:List Rr)(aM:ByteArray)(w:World)(h:bS w v list.length 5 (bK list))(hl:list.length<=1048576)(ha:aM.size<=maxLen)(ho:∀ r∈list,r.own.size<=maxLen):
 Calls Tryz.prog 28 #[v,.string aM] w (QE list aM w):=by
 obtain⟨i0,hi,iJ,fP,fZ⟩:=info_parts Tryz.Oh;have hN:=fun W=>ER aM W ha
 have xL:=(aK w.heap.size w).alloc (aN _) (.cells #[.string ByteArray.empty,.slice none 0 0] 25);have KV:=aH w #[.string ByteArray.empty,.slice none 0 0] 25;have eF:=h.below xL;obtain⟨_,a,cap,rfl,gY,kK,_⟩:=h;unfold maxLen at kK;have hE:eH list aM=_:=rfl;have HE:=Nm.aF hE;unfold eH at hE;cases nA:(Nm.split aM).isSome
 ·have HR:Hid (eH list aM=(32,-1)):=by show _=_;rw [eH,if_pos nA]
  simp only [nA] at hN;have hN':=hN (w.alloc (.cells #[.string ByteArray.empty,.slice none 0 0] 25));clear hE HE eF;go_enter Tryz.func28,Tryz.ntmps28;go_wp2_with fail
  refine hN'.mono ?_;rintro e w1 ⟨rfl,b1⟩;have k1:=aB KV b1;have r1:=fun i=>aA k1 i
  have f1:=fun i=>aG k1 i
  have X:=Nm.aF (aV (dJ [.string ByteArray.empty,.slice none 0 0] k1 rfl) (Nm.aC xL b1));simp only [cO,Nat.zero_add] at X;go_wp2;refine IC X.out.1 rfl rfl rfl rfl ?_;exact YC ((X.out.2.setCell (aN _) _).setCell (aN _) _) HR.out (by decide)
 simp only [nA] at hN;have hN':=hN (w.alloc (.cells #[.string ByteArray.empty,.slice none 0 0] 25))
 by_cases WH:500<list.length
 ·have HR:Hid (eH list aM=(12,-1)):=by show _=_;rw [eH,if_neg (by simp [nA]),if_pos WH]
  have JD:(500:Int)<(list.length:Int):=by omega
  clear hE HE eF hN;go_enter Tryz.func28,Tryz.ntmps28;go_wp2_with fail
  refine hN'.mono ?_;rintro e w1 ⟨rfl,b1⟩;have k1:=aB KV b1;have r1:=fun i=>aA k1 i
  have f1:=fun i=>aG k1 i
  have X:=Nm.aF (aV (dJ [.string ByteArray.empty,.slice none 0 0] k1 rfl) (Nm.aC xL b1));simp only [cO,Nat.zero_add] at X;go_wp2;refine IC X.out.1 rfl rfl rfl rfl ?_;exact YC ((X.out.2.setCell (aN _) _).setCell (aN _) _) HR.out (by decide)
 have JD:(list.length:Int)<=500:=by omega
 have HR:Hid (eH list aM=match gP aM list 0 with
  |some (c,i)=>(c,(i:Int))
  |none=>if 0<=sF (list.map aQ) then(24,sF (list.map aQ)) else if(fM (bD list) (Nm.cZ aM)).1≠0 then fM (bD list) (Nm.cZ aM) else(0,0)):=by show _=_;rw [eH,if_neg (by simp [nA]),if_neg WH];rfl
 clear hE HE hN hl;go_enter Tryz.func28,Tryz.ntmps28;go_wp2_with fail
 refine hN'.mono ?_;rintro e w1 ⟨rfl,b1⟩;have k1:=aB KV b1;have B1:=Nm.aC xL b1;have Df:=eF.below b1;have aO3:w.heap.size<w1.heap.size:=bU k1;have o0:=World.ownsRow_lit (base:=w1.heap.size) (e:=102) (size:=8) w1 #[] 0 (aN _) (by decide) rfl;have Yo:=Nm.aF (aV Df k1);clear hN' xL KV eF b1 Df k1;go_wp2
 go_loopw [7,8] (fun vl vi wr=>∃ k:Nat,k<=list.length∧vi=.int .i64 k∧Hid (∀ (j:Nat) (r:Rr),j<k->list[j]? =some r->mV r aM=0)∧wr.ownsRow w1.heap.size 102 8 vl k (fD ((list.take k).map aQ))∧Below w1.heap.size w1 wr) (fun _ vi _=>list.length-(intOf vi).toNat)
 case atStart=>exact⟨0,dO _,rfl,by show ∀ _,_;intro j r hj;omega,o0,(aK _ _).alloc (aN _) _⟩
 clear o0;obtain⟨k,hk,rfl,HA,oL,aJ⟩:=hrel
 by_cases bV:k<list.length
 ·obtain⟨r,hr⟩:∃ r,list[k]? =some r:=⟨_,bY bV⟩;have jW:=Ux r aM wr (ho r (bP hr)) ha
  have hS:∀ W,Below w1.heap.size w1 W->(∃ b off,a=some ⟨b,off,none⟩∧W.cell? ⟨b,off+k*5,none⟩=some (.string r.own)∧W.cell? ⟨b,off+k*5+1,none⟩=some (.int .i64 r.ty)∧W.cell? ⟨b,off+k*5+2,none⟩=some (.int .i64 r.cl)∧W.cell? ⟨b,off+k*5+3,none⟩=some (.int .i64 r.tt)∧W.cell? ⟨b,off+k*5+4,none⟩=some (.string r.da)):=by
   intro W hW;obtain⟨_,a',c',e',_,_,hc⟩:=Yo.out.1.below hW;simp only [iG] at e';obtain⟨rfl,_,rfl⟩:=e';obtain⟨b,off,rfl,aL⟩:=hc (by omega);exact⟨b,off,rfl,gT aL hr⟩
  obtain⟨b,off,rfl,c0,c1,c2,c3,c4⟩:=hS wr aJ;have n1:(0:Int)<=(k:Int):=by omega
  have n2:(k:Int)<(list.length:Int):=by omega
  have HX:=Nm.aF hr;clear hr
  by_cases VU:mV r aM=0
  ·have Tg:∀ W,Below w1.heap.size w1 W->(W.cell? ⟨b,off+k*5,none⟩=some (.string r.own)∧W.cell? ⟨b,off+k*5+1,none⟩=some (.int .i64 r.ty)∧W.cell? ⟨b,off+k*5+2,none⟩=some (.int .i64 r.cl)∧W.cell? ⟨b,off+k*5+3,none⟩=some (.int .i64 r.tt)∧W.cell? ⟨b,off+k*5+4,none⟩=some (.string r.da)):=by
    intro W hW;obtain⟨b',off',e,hh⟩:=hS W hW;cases e
    exact hh
   have iK:(mV r aM != 0)=false:=by simp [VU]
   have HA2:Hid (∀ (j:Nat) (x:Rr),j<k+1->list[j]? =some x->mV x aM=0):=by
    intro j x hj hx
    by_cases hjk:j=k
    ·subst hjk;rw [HX.out] at hx;obtain rfl:=gQ hx;exact VU
    exact HA.out j x (by omega) hx
   have HT:Hid (fD ((list.take k).map aQ)++DK (aQ r)=fD ((list.take (k+1)).map aQ)):=by
    show _=_
    obtain⟨sS,e⟩:=dK HX.out;rw [List.take_succ_eq_append_getElem sS,e,List.map_append,<- vW];rfl
   have hfn:=fun W=>lH r.own W (ho r (bP HX.out))
   have Dk:=fun W=>lK r.ty r.da W
   rw [aQ] at HT;generalize Nm.cZ r.own=FN at*;generalize gK r.ty r.da=FD at*;clear hS HA;obtain⟨la,lc,hlv⟩:=aT oL;subst hlv;rw [VU] at jW;clear VU iK;go_wp2_with fail
   refine jW.mono ?_;rintro e w2 ⟨rfl,b2⟩;go_wp2;refine kR (fun W=>W.cell? ⟨b,off+k*5,none⟩=some (.string r.own)∧W.cell? ⟨b,off+k*5+1,none⟩=some (.int .i64 r.ty)∧W.cell? ⟨b,off+k*5+2,none⟩=some (.int .i64 r.cl)∧W.cell? ⟨b,off+k*5+3,none⟩=some (.int .i64 r.tt)∧W.cell? ⟨b,off+k*5+4,none⟩=some (.string r.da)) 1000 (Tg _ (Nm.aC aJ b2.drew)) fun aO=>?_;refine kB 0 rfl ?_;refine kB 1 rfl ?_;refine kB 2 rfl ?_;refine kB 3 rfl ?_;refine kB 4 rfl ?_;refine kB 5 rfl ?_;refine kB 6 rfl ?_;refine kB 7 rfl ?_;refine kB 8 rfl ?_;refine kB 9 rfl ?_;refine kB 11 rfl ?_;refine kB 12 rfl ?_;refine kB 13 rfl ?_;refine kB 14 rfl ?_;refine kB 15 rfl ?_;refine kB 16 rfl ?_;refine kB 17 rfl ?_;refine kB 18 rfl ?_;refine kB 19 rfl ?_;refine kB 20 rfl ?_;refine k1 10 rfl fun K hK=>?_
   go_simp;refine(hfn _).mono ?_;rintro e w3 ⟨rfl,b3⟩;go_wp2_with fail
   have b23:Below wr.heap.size wr w3:=Nm.aC b2.drew b3;refine hK.out _ _ (Tg _ (Nm.aC aJ b23)) fun _=>?_;clear hK K;refine k1 21 rfl fun K hK=>?_
   go_simp;refine(Dk _).mono ?_;rintro e w4 ⟨rfl,b4⟩;go_wp2_with fail
   have b24:Below wr.heap.size wr w4:=Nm.aC b23 b4;refine hK.out _ _ (Tg _ (Nm.aC aJ b24)) fun aO=>?_;clear hK K;refine kB 22 rfl ?_;refine k1 23 rfl fun K hK=>?_
   go_simp;refine hK.out _ _ (Tg _ (Nm.aC aJ (b24.alloc b24.size _))) fun _=>?_;clear hK K;refine k1 24 rfl fun K hK=>?_
   refine iX rfl (.tmp 45) (.tmp 68) 97 rfl w1.heap.size 102 i0 _ 8 96 Tryz.underlying97 hi iJ fP fZ rfl (by decide) _ _ _ (by rfl) (own_below (own_below oL b24) ((aK _ _).alloc (aN _) _)) ⟨w4.heap.size,0,none⟩ 1 1 [.string r.own,.int .i64 r.ty,.int .i64 r.cl,.int .i64 r.tt,.string r.da,.string FN,.string FD,.bool false] (by rfl) rfl (dU _ _ _) (by intro u hu;simp at hu;rcases hu with rfl|rfl|rfl|rfl|rfl|rfl|rfl|rfl<;>rfl) (by unfold maxLen;omega) (by omega) (by have:=aJ.size;have:=b24.size;simp;omega) ?_;intro va wa rF iF oP;have b9:Below w1.heap.size w1 wa:=((Nm.aC aJ b24).alloc (Nm.aC aJ b24).size _).grown iF (by have:=aJ.size;have:=b24.size;simp;omega) (fun g hg=>(oL.lt g hg).1);rw [show(fD ((list.take k).map aQ)++[.string r.own,.int .i64 r.ty,.int .i64 r.cl,.int .i64 r.tt,.string r.da,.string FN,.string FD,.bool false])=fD ((list.take (k+1)).map aQ) from HT.out] at rF;refine hK.out _ _ (Tg _ b9) fun _=>?_;clear hK K;refine kB 25 rfl ?_;refine kN ?_;go_wp2;go_roundw
   case rel=>exact⟨k+1,by omega,by go_num,HA2,rF,b9⟩
   simp [intOf];omega
  have HB:Hid (eH list aM=(mV r aM,(k:Int))):=by
   show _=_
   rw [HR.out,PW list k 0 r HA.out HX.out VU];simp
  have iK:(mV r aM != 0)=true:=by simpa using VU
  have HC:=Nm.aF VU;clear VU hS HA;generalize mV r aM=C at*;go_wp2_with fail
  refine jW.mono ?_;rintro e w2 ⟨rfl,b2⟩;have k2:=aB (aB Yo.out.2 aJ) b2;have r2:=fun i=>aA k2 i
  have f2:=fun i=>aG k2 i
  have B2:=Nm.aC (Nm.aC B1 aJ) b2;have X:=Nm.aF (aV (dJ [.string ByteArray.empty,.slice none 0 0] k2 rfl) B2);simp only [cO,Nat.zero_add] at X;go_wp2;refine IC X.out.1 rfl rfl rfl rfl ?_;exact YC ((X.out.2.setCell (aN _) _).setCell (aN _) _) HB.out HC.out
 obtain rfl:k=list.length:=by omega
 have n3:(list.length:Int)<=(list.length:Int):=by omega
 rw [List.take_length] at oL;have DC:(list.map aQ).length=list.length:=List.length_map ..
 have HR2:Hid (eH list aM=if 0<=sF (list.map aQ) then(24,sF (list.map aQ)) else if(fM (bD list) (Nm.cZ aM)).1≠0 then fM (bD list) (Nm.cZ aM) else(0,0)):=by
  show _=_
  rw [HR.out,PX list 0 HA.out]
 have htw:=Hd _ (list.map aQ) w1.heap.size wr (by rw [DC];exact oL) aJ.size (by omega);rw [DC] at htw
 have hru:=fun W v (h:bS W v (bD list).length 8 (fD (bD list)))=>Ib v (bD list) aM W h (by rw [bD,iM,DC];omega) ha (by
  intro x hx;obtain⟨i,hi⟩:=List.getElem?_of_mem hx;have bV:=(dK hi).1;rw [bD,iM] at bV;have h2:=jJ (bY bV);rw [bD,h2] at hi;obtain rfl:=gQ hi;simp only [iQ,List.getElem_map,aQ]
  exact aA9 _ (ho _ (List.getElem_mem _)))
 have aNq:(bD list).length=list.length:=by rw [bD,iM,DC]
 rw [aNq] at hru;rw [show zB (list.map aQ)=bD list from rfl] at htw;clear HA HR DC;generalize sF (list.map aQ)=BD at*;obtain⟨la,lc,hlv⟩:=aT oL;subst hlv;go_wp2_with fail
 refine htw.mono ?_;rintro e w2 ⟨rfl,o2,b2⟩;have k2:bG w2 w.heap.size #[.string ByteArray.empty,.slice none 0 0] 25:=((aJ.trans b2).block _ aO3).trans Yo.out.2;have B2:Below w.heap.size w w2:=B1.trans ((aJ.trans b2).mono (by omega));have r2:=fun i=>aA k2 i
 have f2:=fun i=>aG k2 i
 clear htw oL
 by_cases ZI:0<=BD
 ·have HB:Hid (eH list aM=(24,BD)):=by show _=_;rw [HR2.out,if_pos ZI]
  have X:=Nm.aF (aV (dJ [.string ByteArray.empty,.slice none 0 0] k2 rfl) B2);simp only [cO,Nat.zero_add] at X;clear hru HR2;go_wp2;refine IC X.out.1 rfl rfl rfl rfl ?_;exact YC ((X.out.2.setCell (aN _) _).setCell (aN _) _) HB.out (by decide)
 have aTz:BD<0:=by omega
 have aNr:=hru w2 _ (bS.aS o2);clear hru;generalize hRU:fM (bD list) (Nm.cZ aM)=RU at*;obtain⟨rc,ri⟩:=RU;simp only at aNr HR2
 clear hRU;go_wp2_with fail
 refine aNr.mono ?_;rintro e w3 ⟨rfl,b3⟩;have k3:=aB k2 b3;have B3:=Nm.aC B2 b3;have o3:=own_below o2 b3;have r3:=fun i=>aA k3 i
 have f3:=fun i=>aG k3 i
 clear r2 f2 k2 B2 o2 aNr
 by_cases hrc:rc=0
 ·subst hrc;have HB:Hid ((eH list aM).1=0):=by show _=_;rw [HR2.out,if_neg (by omega),if_neg (by simp)]
  have nrc:((0:Int) != 0)=false:=rfl
  have aRm:∀ x∈bD list,x.fo.size<=maxLen:=by
   intro x hx;obtain⟨i,hi⟩:=List.getElem?_of_mem hx;have bV:=(dK hi).1;rw [bD,iM] at bV;have h2:=jJ (bY bV);rw [bD,h2] at hi;obtain rfl:=gQ hi;simp only [iQ,List.getElem_map,aQ];exact aA9 _ (ho _ (List.getElem_mem _))
  have aRn:Hid (jL (xB list).length (xB list)=fK list):=rfl;have HBZ:Hid (kW (bD list) (fK list) (fK list).length=mW list):=rfl;have HRS:Hid ((bD list).filter (fun x=> !x.out)=xB list):=rfl;have HC3:=Nm.aF (bS.aS o3);have o0:=World.ownsRow_lit (base:=w3.heap.size) (e:=102) (size:=8) w3 #[] 0 (aN _) (by decide) rfl;have HK3:=Nm.aF (aV k3 B3);have VW:w.heap.size<w3.heap.size:=bU k3;have HFO:=Nm.aF aRm;have Bp:=Nm.aF aNq;clear HR2 ZI aTz k3 B3 o3 r3 f3 aRm Yo b2 b3 aJ aNq;generalize bD list=its at*;go_wp2
  go_loopw [13,14] (fun vr vi wr=>∃ (k:Nat) (R:List It),k<=list.length∧vi=.int .i64 k∧Hid ((its.take k).filter (fun x=> !x.out)=R∧R.length<=k)∧wr.ownsRow w3.heap.size 102 8 vr R.length (fD R)∧Below w3.heap.size w3 wr) (fun _ vi _=>list.length-(intOf vi).toNat)
  case atStart=>exact⟨0,[],dO _,rfl,⟨by simp,aN _⟩,o0,(aK _ _).alloc (aN _) _⟩
  clear o0;obtain⟨k,R,hk,rfl,HRR,oR,aJ⟩:=hrel;obtain⟨ra,rcp,hrv⟩:=aT oR;subst hrv
  by_cases bV:k<list.length
  ·obtain⟨x,hx⟩:∃ x,its[k]? =some x:=⟨_,bY (by have:=Bp.out;omega)⟩;obtain⟨_,a',c',e',_,_,hc⟩:=HC3.out.below aJ;simp only [iG] at e';obtain⟨rfl,_,rfl⟩:=e';obtain⟨b,off,rfl,aL⟩:=hc (by omega);obtain⟨c0,c1,c2,c3,c4,c5,c6,c7⟩:=fI aL hx;have n1:(0:Int)<=(k:Int):=by omega
   have n2:(k:Int)<(list.length:Int):=by omega
   have HTK:Hid (its.take (k+1)=its.take k++[x]):=by
    show _=_
    obtain⟨sS,e⟩:=dK hx;rw [List.take_succ_eq_append_getElem sS,e]
   clear aL hc hx
   cases hO:x.out with
   |true=>
    rw [hO] at c7;go_wp2;go_roundw
    case rel=>exact⟨k+1,R,by omega,by go_num,⟨by rw [HTK.out,List.filter_append,HRR.out.1];simp [hO],by have:=HRR.out.2;omega⟩,oR,aJ⟩
    simp [intOf];omega
   |false=>
    have HX:Hid (fD R++DK x=fD (R++[x])):=(vW R x).symm;have hRk:=HRR.out.2;have HRk:=Nm.aF hRk;rw [hO] at c7;go_wp2_with (at_builtin;refine wpList_append_own _ rfl (.tmp 100) (.tmp 105) 97 rfl w3.heap.size 102 i0 _ 8 96 Tryz.underlying97 hi iJ fP fZ rfl (by decide) _ _ _ rfl (own_below oR ((aK _ _).alloc (aN _) _)) ⟨wr.heap.size,0,none⟩ 1 1 [.string x.r.own,.int .i64 x.r.ty,.int .i64 x.r.cl,.int .i64 x.r.tt,.string x.r.da,.string x.fo,.string x.dt,.bool false] rfl rfl (dU _ _ _) (by intro u hu;simp at hu;rcases hu with rfl|rfl|rfl|rfl|rfl|rfl|rfl|rfl<;>rfl) (by unfold maxLen;omega) (by omega) (by have:=aJ.size;simp;omega) ?_;intro va wa rF iF oP)
    rw [show(fD R++[.string x.r.own,.int .i64 x.r.ty,.int .i64 x.r.cl,.int .i64 x.r.tt,.string x.r.da,.string x.fo,.string x.dt,.bool false])=fD (R++[x]) from by rw [<- HX.out,DK,hO]] at rF;go_wp2;go_roundw
    case rel=>exact⟨k+1,R++[x],by omega,by go_num,⟨by rw [HTK.out,List.filter_append,HRR.out.1];simp [hO],by have:=HRk.out;simp;omega⟩,by simpa using rF,(aJ.alloc aJ.size _).grown iF (by have:=aJ.size;simp;omega) (fun g hg=>(oR.lt g hg).1)⟩
    simp [intOf];omega
  obtain rfl:k=list.length:=by omega
  have n3:(list.length:Int)<=(list.length:Int):=by omega
  have HRL:Hid (R=xB list):=by
   show _=_
   have h1:=HRR.out.1;rw [List.take_of_length_le (by rw [Bp.out];omega),HRS.out] at h1;exact h1.symm
  have Gn:=HRR.out.2;have Zj:=Oi R.length _ R wr (bS.aS oR) (aN _) (by omega) (fun x hx=>HFO.out x (by rw [HRL.out,<- HRS.out] at hx;exact(List.mem_filter.1 hx).1));have HSL:Hid ((jL R.length R).length=R.length):=tK _ _;have HSE:Hid (jL R.length R=fK list):=by show _=_;rw [HRL.out];exact aRn.out
  have HLE:=Nm.aF Gn;clear HRR HRS aRn HRL Gn;generalize jL R.length R=S at*;go_wp2_with fail
  refine Zj.mono ?_;rintro e w5 ⟨u5,rfl,hS5,b5⟩;obtain⟨ua,uc,hu5⟩:∃ a c,u5=.slice a R.length c:=by obtain⟨_,a,c,e,_⟩:=hS5;exact⟨a,c,e⟩
  subst hu5;have b35:Below w3.heap.size w3 w5:=Nm.aC aJ b5;have k5:bG w5 w.heap.size #[.string ByteArray.empty,.slice none 0 0] 25:=(b35.block _ VW).trans HK3.out.1;have B5:Below w.heap.size w w5:=HK3.out.2.trans (b35.mono (by omega));have aT0:w.heap.size<w5.heap.size:=bU k5;have HC5:=Nm.aF (aV (HC3.out.below b35) (aV hS5 (aV k5 B5)));have X:=Nm.aF (aV (aH w5 #[.string aM,.slice none 0 0] 25) ((aK w5.heap.size w5).alloc (aN _) (.cells #[.string aM,.slice none 0 0] 25)));clear Zj oR aJ b5 b35 k5 B5 hS5 HK3 HC3;go_wp2;refine XG (Pr:=fun W=>bG W w5.heap.size #[.string aM,.slice none 0 0] 25∧Below w5.heap.size w5 W) (G:=fun W=>Code.wp _ _ _ _ W) X.out ?_;rintro w6 ⟨kz6,b6⟩;clear X;refine aEb its S aM _ _ list.length R.length _ _ _ w5 w6 (by have:=HLE.out;omega) (by omega) HSL Bp (aV HC5.out.1 HC5.out.2.1) kz6 b6 _ _ _ _ _ _ _ _ _ _ _ _ _ _ _ _ _ _ _ _ _ _ _ _ _ _ _ _ _ _ _ _ _ _ _ _ _ _ _ _ _ _ _ _ _ _ _ _ _ _ _ _ _ _ _ _ _ _ _ _ _ _ _ _ _ _ _ _ _ _ _ _ _ _ _ _ _ _ _ _ _ _ _ _ _ _ _ _ _ _ _ _ _ _ _ _ _ _ _ _ _ _ _ _ _ _ _ _ _ _ _ _ _ _ _ _ _ _ _ _ _ _ _ _ _ _ _ _ _ _ _ _ _ _ _ _ _ _ _ _ _ _ _ _ _ _ _ _ _ _ _ _ _ _ _ _ _ _ _ _ _ _ _ _ _ _ _ _ _ _ _ _ _ _ _ _ _ _ _ _ _ _ _ ?_;rintro u16 u17 u18 aQf aQg aQh aQi aQj aQk aQl aQm aQn aQo aQp aQq aQr aQs aQt aQu aQv aQw aQx aQy aQz aQ0 aQ1 aQ2 aQ3 aQ4 aQ5 aQ6 aQ7 aQ8 aQ9 aRa aRb aRc aRd aRe aRf aRg aRh Yp Yq Yr Yt Yu Yv Yw Yx Yy Yz Za Zc Zd Ze Zf Zg Zh aRi aRj aRk aRl Pi Pj Pk Pm Pn Po Pp Pq Ps Pt Pv Pw Px Py Qa w7 ⟨vs,ps,kz,hZ,hG,aJ⟩;obtain⟨va,vc,hvs⟩:=aT hZ.outer;subst hvs;have kq:=(aJ.block _ aT0).trans HC5.out.2.2.1;have rz:=fun i=>aA kz i
  have rq:=fun i=>aA (show bG w7 w.heap.size _ _ from kq) i
  have fq:=fun i=>aG (show bG w7 w.heap.size _ _ from kq) i
  have BW:Below w.heap.size w w7:=HC5.out.2.2.2.trans (aJ.mono (by omega));have X:=Nm.aF (aV (dJ [.string aM,.slice va ps.length vc] (show bG w7 w.heap.size _ _ from kq) rfl) (aV ((BW.setCell (p:=⟨w.heap.size,0,none⟩) (aN _) (.string aM)).setCell (p:=⟨w.heap.size,1,none⟩) (aN _) (.slice va ps.length vc)) ((hZ.far (g:=w.heap.size) (i:=0) (y:=.string aM) (by omega)).far (g:=w.heap.size) (i:=1) (y:=.slice va ps.length vc) (by omega))));simp only [cO,Nat.zero_add] at X
  have HZB:Hid (ps.map (·.1)=mW list):=by
   show _=_
   rw [hG,<- HBZ.out,<- HSE.out]
  clear kq hZ hG;go_wp2;refine IC X.out.1 rfl rfl rfl rfl ?_;exact⟨X.out.2.1,fun _=>⟨_,ps,rfl,HZB.out,X.out.2.2.base (by omega)⟩,fun h=>absurd HB.out h⟩
 have HB:Hid (eH list aM=(rc,ri)):=by show _=_;rw [HR2.out,if_neg (by omega),if_pos hrc]
 have HRC:=Nm.aF hrc;have nrc:(rc != 0)=true:=by simpa using hrc
 have X:=Nm.aF (aV (dJ [.string ByteArray.empty,.slice none 0 0] k3 rfl) B3);simp only [cO,Nat.zero_add] at X;clear hrc;go_wp2;refine IC X.out.1 rfl rfl rfl rfl ?_;exact YC ((X.out.2.setCell (aN _) _).setCell (aN _) _) HB.out HRC.out
