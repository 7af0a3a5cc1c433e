import Derived.Test.YthdpacepbbcocaaGreatJAls
import Derived.BigQuiet
set_option linter.unusedVariables false
set_option maxRecDepth 100000
set_option maxHeartbeats 3200000
namespace Go.Proofs.YthdpacepbbcocaaGreat
open Go.RowKit
theorem aFl(v tgt cp:Value)(rs:List (Value×Value))(cf:Nat->Int)(w:World)(h:bS w v rs.length 2 (eD rs))(hl:rs.length<=1000000)
 (hf:∀ (i:Nat) (p:Value×Value),rs[i]? =some p->∀ W,Below w.heap.size w W->Calls Tryz.prog 191 #[.agg #[p.1,p.2],tgt,cp] W fun e w'=>e=.returned (.int .i64 (cf i))∧Below W.heap.size W w')
 (hm:∀ a b,a<=b->b<rs.length->cf b<0->cf a<0):
 Calls Tryz.prog 190 #[v,tgt,.func (.func 191) #[] #[cp]] w fun e w'=>∃ k:Nat,EH rs.length cf k∧e=.returned (.tuple #[.int .i64 (k:Int),.bool (decide (k<rs.length)&&decide (cf k=0))])∧Below w.heap.size w w':=by
 obtain⟨_,a,cap,rfl,gY,kK,hc⟩:=h;unfold maxLen at kK;have HM:=Nm.aF hm;clear hm;go_enter Tryz.func190,Tryz.ntmps190;go_wp2
 go_loopw [9,10] (fun vi vj wr=>∃ i j:Nat,i<=j∧j<=rs.length∧vi=.int .i64 i∧vj=.int .i64 j∧Hid ((∀ q,q<i->cf q<0)∧(∀ q,j<=q->q<rs.length->0<=cf q))∧Below w.heap.size w wr) (fun vi vj _=>(intOf vj).toNat-(intOf vi).toNat)
 case atStart=>exact⟨0,rs.length,dO _,aN _,rfl,rfl,⟨fun q hq=>by omega,fun q h1 h2=>by omega⟩,aK _ _⟩
 obtain⟨i,j,hij,LU,rfl,rfl,HI,aJ⟩:=hrel
 by_cases bV:i<j
 ·obtain⟨m,hm⟩:∃ m,m=(i+j) / 2:=⟨_,rfl⟩;have Cm:i<=m:=by omega
  have hm2:m<j:=by omega
  have g1:((i:Int)+(j:Int)) / 2=(m:Int):=by omega
  obtain⟨p,hp⟩:∃ p,rs[m]? =some p:=⟨_,bY (by omega)⟩;have Kz:=eY rs m 0 p hp (by decide);have JC:=eY rs m 1 p hp (by decide);obtain⟨b,off,rfl,aL⟩:=hc (by omega);have put:∀ {B O:Nat} {z:Value},w.cell? ⟨B,O,none⟩=some z->wr.cell? ⟨B,O,none⟩=some z:=fun h=>(aJ.cell (eB w _ h)).trans h
  have c0:wr.cell? ⟨b,off+m*2,none⟩=some p.1:=put (aL _ _ Kz);have c1:wr.cell? ⟨b,off+m*2+1,none⟩=some p.2:=put (aL _ _ JC);have xW:=hf m p hp wr aJ;have n1:(0:Int)<=(m:Int):=by omega
  have n2:(m:Int)<(rs.length:Int):=by omega
  have n3:(i:Int)<(j:Int):=by omega
  have n4:(j:Int)<=1000000:=by omega
  clear aL hc Kz JC hp put hf hm
  by_cases CY:cf m<0
  ·have HI2:Hid ((∀ q,q<m+1->cf q<0)∧(∀ q,j<=q->q<rs.length->0<=cf q)):=⟨fun q hq=>HM.out q m (by omega) (by omega) CY,HI.out.2⟩;clear HI;go_wp2_with fail
   refine xW.mono ?_;rintro e w1 ⟨rfl,b1⟩;go_wp2;go_roundw
   case rel=>exact⟨m+1,j,by omega,LU,by go_num,rfl,HI2,Nm.aC aJ b1⟩
   simp [intOf];omega
  have HI2:Hid ((∀ q,q<i->cf q<0)∧(∀ q,m<=q->q<rs.length->0<=cf q)):=⟨HI.out.1,fun q h1 h2=>by
   rcases Int.lt_or_le (cf q) 0 with h|h
   ·exact absurd (HM.out m q h1 h2 h) CY
   exact h⟩
  have n5:0<=cf m:=by omega
  clear HI CY;go_wp2_with fail
  refine xW.mono ?_;rintro e w1 ⟨rfl,b1⟩;go_wp2;go_roundw
  case rel=>exact⟨i,m,Cm,by omega,rfl,rfl,HI2,Nm.aC aJ b1⟩
  simp [intOf];omega
 obtain rfl:i=j:=by omega
 have HF:Hid (EH rs.length cf i):=⟨LU,HI.out⟩;have n3:¬(i:Int)<(i:Int):=by omega
 clear HI HM
 by_cases DC:i<rs.length
 ·obtain⟨p,hp⟩:∃ p,rs[i]? =some p:=⟨_,bY DC⟩;have Kz:=eY rs i 0 p hp (by decide);have JC:=eY rs i 1 p hp (by decide);obtain⟨b,off,rfl,aL⟩:=hc (by omega);have put:∀ {B O:Nat} {z:Value},w.cell? ⟨B,O,none⟩=some z->wr.cell? ⟨B,O,none⟩=some z:=fun h=>(aJ.cell (eB w _ h)).trans h
  have c0:wr.cell? ⟨b,off+i*2,none⟩=some p.1:=put (aL _ _ Kz);have c1:wr.cell? ⟨b,off+i*2+1,none⟩=some p.2:=put (aL _ _ JC);have xW:=hf i p hp wr aJ;have n1:(0:Int)<=(i:Int):=by omega
  have n2:(i:Int)<(rs.length:Int):=by omega
  have HIL:=Nm.aF DC;clear aL hc Kz JC hp put hf DC;have e0:(cf i==0)=decide (cf i=0):=by by_cases h:cf i=0<;>simp [h]
  have HE0:=Nm.aF e0;clear e0;go_wp2_with fail
  refine xW.mono ?_;rintro e w1 ⟨rfl,b1⟩;go_wp2;go_ret2;refine⟨i,HF.out,?_,Nm.aC aJ b1⟩;rw [nD HIL.out,Bool.true_and,<- HE0.out];rfl
 have hie:i=rs.length:=by omega
 have n2:(rs.length:Int)<=(i:Int):=by omega
 have HIL:=Nm.aF DC;clear hc hf DC hie;go_wp2;go_ret2;refine⟨i,HF.out,?_,aJ⟩;rw [jU HIL.out,Bool.false_and];rfl
theorem BJ(g:Nat)(jY rv key:Value)(rs:List (Value×Value))(cf:Nat->Int)(w:World)(hg:bG w g #[jY,rv] 194)(h:bS w rv rs.length 2 (eD rs))(hl:rs.length<=1000000)
 (hf:∀ (tb i:Nat) (p:Value×Value),rs[i]? =some p->∀ W,Below w.heap.size w W->bG W tb #[.pointer (some ⟨g,0,none⟩)] 154->Calls Tryz.prog 191 #[.agg #[p.1,p.2],key,.pointer (some ⟨tb,0,none⟩)] W fun e w'=>e=.returned (.int .i64 (cf i))∧Below W.heap.size W w')
 (hm:∀ a b,a<=b->b<rs.length->cf b<0->cf a<0):
 Calls Tryz.prog 174 #[.pointer (some ⟨g,0,none⟩),key] w fun e w'=>∃ k:Nat,EH rs.length cf k∧e=.returned (.tuple #[.int .i64 (k:Int),.bool (decide (k<rs.length)&&decide (cf k=0))])∧Below w.heap.size w w':=by
 have jF:=(aK w.heap.size w).alloc (aN _) (.cells #[.pointer (some ⟨g,0,none⟩)] 154);have kb:=aH w #[.pointer (some ⟨g,0,none⟩)] 154;have hs:=aFl rv key (.pointer (some ⟨w.heap.size,0,none⟩)) rs cf _ (h.below jF) hl (fun i p hp W hW=>hf w.heap.size i p hp W (Nm.aC jF hW) (aB kb hW)) hm;have kg:=aB hg jF;have rg:=fun i=>aA kg i
 have hmf:∀ (fn:Fn) (first cap:Array Value) (w:World),(Instr.makeFunc fn first cap).run Tryz.prog w=.ok (.func fn first cap) w:=fun _ _ _ _=>rfl
 obtain⟨_,a,cap,rfl,_⟩:=h;clear hf hm;go_enter Tryz.func174,Tryz.ntmps174;go_wp2_with fail
 refine hs.mono ?_;rintro e w1 ⟨k,hk,rfl,b1⟩;have HK:=Nm.aF hk;obtain⟨OK,hOK⟩:∃ OK,(decide (k<rs.length)&&decide (cf k=0))=OK:=⟨_,rfl⟩;rw [hOK];have Ez:=Nm.aF hOK;clear hOK hk hs;go_wp2;go_ret2;exact⟨k,HK.out,by rw [Ez.out];rfl,Nm.aC jF b1⟩
theorem aFm(v tgt cp:Value)(rs:List (Value×Value))(cf:Nat->Int)(w:World)(h:bS w v rs.length 2 (eD rs))(hl:rs.length<=1000000)
 (hf:∀ (i:Nat) (p:Value×Value),rs[i]? =some p->∀ W,Below w.heap.size w W->Calls Tryz.prog 196 #[.agg #[p.1,p.2],tgt,cp] W fun e w'=>e=.returned (.int .i64 (cf i))∧Below W.heap.size W w')
 (hm:∀ a b,a<=b->b<rs.length->cf b<0->cf a<0):
 Calls Tryz.prog 195 #[v,tgt,.func (.func 196) #[] #[cp]] w fun e w'=>∃ k:Nat,EH rs.length cf k∧e=.returned (.tuple #[.int .i64 (k:Int),.bool (decide (k<rs.length)&&decide (cf k=0))])∧Below w.heap.size w w':=by
 obtain⟨_,a,cap,rfl,gY,kK,hc⟩:=h;unfold maxLen at kK;have HM:=Nm.aF hm;clear hm;go_enter Tryz.func195,Tryz.ntmps195;go_wp2
 go_loopw [9,10] (fun vi vj wr=>∃ i j:Nat,i<=j∧j<=rs.length∧vi=.int .i64 i∧vj=.int .i64 j∧Hid ((∀ q,q<i->cf q<0)∧(∀ q,j<=q->q<rs.length->0<=cf q))∧Below w.heap.size w wr) (fun vi vj _=>(intOf vj).toNat-(intOf vi).toNat)
 case atStart=>exact⟨0,rs.length,dO _,aN _,rfl,rfl,⟨fun q hq=>by omega,fun q h1 h2=>by omega⟩,aK _ _⟩
 obtain⟨i,j,hij,LU,rfl,rfl,HI,aJ⟩:=hrel
 by_cases bV:i<j
 ·obtain⟨m,hm⟩:∃ m,m=(i+j) / 2:=⟨_,rfl⟩;have Cm:i<=m:=by omega
  have hm2:m<j:=by omega
  have g1:((i:Int)+(j:Int)) / 2=(m:Int):=by omega
  obtain⟨p,hp⟩:∃ p,rs[m]? =some p:=⟨_,bY (by omega)⟩;have Kz:=eY rs m 0 p hp (by decide);have JC:=eY rs m 1 p hp (by decide);obtain⟨b,off,rfl,aL⟩:=hc (by omega);have put:∀ {B O:Nat} {z:Value},w.cell? ⟨B,O,none⟩=some z->wr.cell? ⟨B,O,none⟩=some z:=fun h=>(aJ.cell (eB w _ h)).trans h
  have c0:wr.cell? ⟨b,off+m*2,none⟩=some p.1:=put (aL _ _ Kz);have c1:wr.cell? ⟨b,off+m*2+1,none⟩=some p.2:=put (aL _ _ JC);have xW:=hf m p hp wr aJ;have n1:(0:Int)<=(m:Int):=by omega
  have n2:(m:Int)<(rs.length:Int):=by omega
  have n3:(i:Int)<(j:Int):=by omega
  have n4:(j:Int)<=1000000:=by omega
  clear aL hc Kz JC hp put hf hm
  by_cases CY:cf m<0
  ·have HI2:Hid ((∀ q,q<m+1->cf q<0)∧(∀ q,j<=q->q<rs.length->0<=cf q)):=⟨fun q hq=>HM.out q m (by omega) (by omega) CY,HI.out.2⟩;clear HI;go_wp2_with fail
   refine xW.mono ?_;rintro e w1 ⟨rfl,b1⟩;go_wp2;go_roundw
   case rel=>exact⟨m+1,j,by omega,LU,by go_num,rfl,HI2,Nm.aC aJ b1⟩
   simp [intOf];omega
  have HI2:Hid ((∀ q,q<i->cf q<0)∧(∀ q,m<=q->q<rs.length->0<=cf q)):=⟨HI.out.1,fun q h1 h2=>by
   rcases Int.lt_or_le (cf q) 0 with h|h
   ·exact absurd (HM.out m q h1 h2 h) CY
   exact h⟩
  have n5:0<=cf m:=by omega
  clear HI CY;go_wp2_with fail
  refine xW.mono ?_;rintro e w1 ⟨rfl,b1⟩;go_wp2;go_roundw
  case rel=>exact⟨i,m,Cm,by omega,rfl,rfl,HI2,Nm.aC aJ b1⟩
  simp [intOf];omega
 obtain rfl:i=j:=by omega
 have HF:Hid (EH rs.length cf i):=⟨LU,HI.out⟩;have n3:¬(i:Int)<(i:Int):=by omega
 clear HI HM
 by_cases DC:i<rs.length
 ·obtain⟨p,hp⟩:∃ p,rs[i]? =some p:=⟨_,bY DC⟩;have Kz:=eY rs i 0 p hp (by decide);have JC:=eY rs i 1 p hp (by decide);obtain⟨b,off,rfl,aL⟩:=hc (by omega);have put:∀ {B O:Nat} {z:Value},w.cell? ⟨B,O,none⟩=some z->wr.cell? ⟨B,O,none⟩=some z:=fun h=>(aJ.cell (eB w _ h)).trans h
  have c0:wr.cell? ⟨b,off+i*2,none⟩=some p.1:=put (aL _ _ Kz);have c1:wr.cell? ⟨b,off+i*2+1,none⟩=some p.2:=put (aL _ _ JC);have xW:=hf i p hp wr aJ;have n1:(0:Int)<=(i:Int):=by omega
  have n2:(i:Int)<(rs.length:Int):=by omega
  have HIL:=Nm.aF DC;clear aL hc Kz JC hp put hf DC;have e0:(cf i==0)=decide (cf i=0):=by by_cases h:cf i=0<;>simp [h]
  have HE0:=Nm.aF e0;clear e0;go_wp2_with fail
  refine xW.mono ?_;rintro e w1 ⟨rfl,b1⟩;go_wp2;go_ret2;refine⟨i,HF.out,?_,Nm.aC aJ b1⟩;rw [nD HIL.out,Bool.true_and,<- HE0.out];rfl
 have hie:i=rs.length:=by omega
 have n2:(rs.length:Int)<=(i:Int):=by omega
 have HIL:=Nm.aF DC;clear hc hf DC hie;go_wp2;go_ret2;refine⟨i,HF.out,?_,aJ⟩;rw [jU HIL.out,Bool.false_and];rfl
theorem BK(g:Nat)(jY rv key:Value)(rs:List (Value×Value))(cf:Nat->Int)(w:World)(hg:bG w g #[jY,rv] 187)(h:bS w rv rs.length 2 (eD rs))(hl:rs.length<=1000000)
 (hf:∀ (tb i:Nat) (p:Value×Value),rs[i]? =some p->∀ W,Below w.heap.size w W->bG W tb #[.pointer (some ⟨g,0,none⟩)] 117->Calls Tryz.prog 196 #[.agg #[p.1,p.2],key,.pointer (some ⟨tb,0,none⟩)] W fun e w'=>e=.returned (.int .i64 (cf i))∧Below W.heap.size W w')
 (hm:∀ a b,a<=b->b<rs.length->cf b<0->cf a<0):
 Calls Tryz.prog 182 #[.pointer (some ⟨g,0,none⟩),key] w fun e w'=>∃ k:Nat,EH rs.length cf k∧e=.returned (.tuple #[.int .i64 (k:Int),.bool (decide (k<rs.length)&&decide (cf k=0))])∧Below w.heap.size w w':=by
 have jF:=(aK w.heap.size w).alloc (aN _) (.cells #[.pointer (some ⟨g,0,none⟩)] 117);have kb:=aH w #[.pointer (some ⟨g,0,none⟩)] 117;have hs:=aFm rv key (.pointer (some ⟨w.heap.size,0,none⟩)) rs cf _ (h.below jF) hl (fun i p hp W hW=>hf w.heap.size i p hp W (Nm.aC jF hW) (aB kb hW)) hm;have kg:=aB hg jF;have rg:=fun i=>aA kg i
 have hmf:∀ (fn:Fn) (first cap:Array Value) (w:World),(Instr.makeFunc fn first cap).run Tryz.prog w=.ok (.func fn first cap) w:=fun _ _ _ _=>rfl
 obtain⟨_,a,cap,rfl,_⟩:=h;clear hf hm;go_enter Tryz.func182,Tryz.ntmps182;go_wp2_with fail
 refine hs.mono ?_;rintro e w1 ⟨k,hk,rfl,b1⟩;have HK:=Nm.aF hk;obtain⟨OK,hOK⟩:∃ OK,(decide (k<rs.length)&&decide (cf k=0))=OK:=⟨_,rfl⟩;rw [hOK];have Ez:=Nm.aF hOK;clear hOK hk hs;go_wp2;go_ret2;exact⟨k,HK.out,by rw [Ez.out];rfl,Nm.aC jF b1⟩
