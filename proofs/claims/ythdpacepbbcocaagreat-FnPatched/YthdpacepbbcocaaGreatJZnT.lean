import Derived.Test.YthdpacepbbcocaaGreatJStR
import Derived.Test.YthdpacepbbcocaaGreatJRrC
import Derived.Test.YthdpacepbbcocaaGreatJTbPI
set_option linter.unusedVariables false
set_option maxRecDepth 100000
set_option maxHeartbeats 1600000
namespace Go.Proofs.YthdpacepbbcocaaGreat
open Go.RowKit
theorem Tryz.Fw:(Tryz.prog.info? 60).map (fun i=>(i.zero,i.size,i.bytes))=some (some (.agg #[.string ByteArray.empty,.int .i64 0,.int .i64 0,.slice none 0 0]),4,56):=by kernel_rfl
def bQ(t:Int)(d:ByteArray):Int:=
 if t<0∨65535<t then 6 else if 65535<d.size then 7 else if(Dt.spans (Dt.lM t) 0 d).isSome then 0 else 7
def zS(t:Int)(d:ByteArray):Option (List (Nat×Nat)):=if t<0∨65535<t then none else if 65535<d.size then none else Dt.spans (Dt.lM t) 0 d
def spanCells(sp:List (Nat×Nat)):List Value:=sp.flatMap fun s=>[.int .i64 (s.1:Int),.int .i64 (s.2:Int)]
theorem PG(a b:List (Nat×Nat)):spanCells (a++b)=spanCells a++spanCells b:=by simp [spanCells]
def CAt(fs:List Dt.Pc)(d:ByteArray)(sp:List (Nat×Nat))(r:List Dt.Pc)(a:Nat):Prop:=
 Dt.spans fs 0 d=(Dt.spans r a (d.extract a d.size)).map (fun t=>sp++t)
theorem aB3(fs:List Dt.Pc)(d:ByteArray):CAt fs d [] fs 0:=by simp [CAt]
theorem aJn{fs:List Dt.Pc}{d:ByteArray}{sp:List (Nat×Nat)}{a:Nat}(h:CAt fs d sp [] a)(h0:d.size<=a):Dt.spans fs 0 d=some sp:=by
 rw [h,Dt.spans,if_pos (by simp;omega)];simp
theorem aFn{fs:List Dt.Pc}{d:ByteArray}{sp:List (Nat×Nat)}{a:Nat}(h:CAt fs d sp [] a)(h0:a<d.size):Dt.spans fs 0 d=none:=by
 rw [h,Dt.spans,if_neg (by simp;omega)];rfl
theorem wO{fs r:List Dt.Pc}{p:Dt.Pc}{d:ByteArray}{sp:List (Nat×Nat)}{a:Nat}(h:CAt fs d sp (p::r) a)(h0:Dt.sz p (d.extract a d.size)=none):Dt.spans fs 0 d=none:=by
 rw [h,Dt.spans,h0];rfl
theorem wP{fs r:List Dt.Pc}{p:Dt.Pc}{d:ByteArray}{sp:List (Nat×Nat)}{a n:Nat}(h:CAt fs d sp (p::r) a)(ha:a<=d.size)(h0:Dt.sz p (d.extract a d.size)=some n):
 CAt fs d (sp++if p.JV then [(a,a+n)] else []) r (a+n)∧a+n<=d.size:=by
 have hn:=Dt.Kk h0;have hz:(d.extract a d.size).size=d.size-a:=by simp
 refine⟨?_,by omega⟩;rw [CAt,h,Dt.spans,h0,Option.map_map,Dt.LK (by omega) (aN _)];congr 1;funext t
 cases p.JV<;>simp
theorem GQ{t:Int}{d:ByteArray}(h:t<0∨65535<t):bQ t d=6∧zS t d=none:=by
 rw [bQ,zS,if_pos h,if_pos h];exact⟨rfl,rfl⟩
theorem GR{t:Int}{d:ByteArray}(h:¬(t<0∨65535<t))(h1:65535<d.size):bQ t d=7∧zS t d=none:=by
 rw [bQ,zS,if_neg h,if_neg h,if_pos h1,if_pos h1];exact⟨rfl,rfl⟩
theorem PH{t:Int}{d:ByteArray}(h:¬(t<0∨65535<t))(h1:¬65535<d.size)(h2:Dt.spans (Dt.lM t) 0 d=none):bQ t d=7∧zS t d=none:=by
 rw [bQ,zS,if_neg h,if_neg h,if_neg h1,if_neg h1,h2];exact⟨rfl,rfl⟩
theorem GU{t:Int}{d:ByteArray}{sp:List (Nat×Nat)}(h:¬(t<0∨65535<t))(h1:¬65535<d.size)(h2:Dt.spans (Dt.lM t) 0 d=some sp):bQ t d=0∧zS t d=some sp:=by
 rw [bQ,zS,if_neg h,if_neg h,if_neg h1,if_neg h1,h2];exact⟨rfl,rfl⟩
theorem Ct(t:Int):(Dt.lM t).length<=5:=by
 unfold Dt.lM
 repeat' split
 all_goals simp
theorem cB(v:Value)(ls:List ByteArray)(w:World)(h:Nm.dX w v ls)(hlen:Nm.dP ls<=1000000000):
 Calls Tryz.prog 69 #[v] w fun e w'=>e=.returned (.string ⟨(Nm.joinL ls).toArray⟩)∧Below w.heap.size w w':=by
 obtain⟨a,cap,rfl,gY,kK,TV,hc⟩:=h;have hll:=Nm.gJ ls;go_enter Tryz.func69,Tryz.ntmps69;go_wp2
 go_loopw [3,4] (fun t i wr=>∃ (k:Nat) (s:ByteArray),k<=ls.length∧i=.int .i64 k∧t=.string s∧Hid (s.data.toList=Nm.vF (ls.take k))∧Below w.heap.size w wr)
  (fun _ i _=>ls.length-(intOf i).toNat)
 case atStart=>exact⟨0,_,dO _,rfl,rfl,rfl,aK _ _⟩
 obtain⟨k,s,hk,rfl,rfl,HS,aJ⟩:=hrel;have hw:=Nm.AV ls k;have pQ:=aJ.size;have Af:s.size=Nm.dP (ls.take k):=by rw [<- aBq,HS.out,Nm.QK]
 have hss':s.size<=1000000000:=by omega
 by_cases bV:k<ls.length
 ·obtain⟨x,hx⟩:∃ x,ls[k]? =some x:=⟨_,bY bV⟩;obtain⟨b,off,rfl,aL⟩:=hc (by intro h;rw [h] at bV;simp at bV);have QZ:b<wr.heap.size:=sP (eB w _ (aL k x hx)) pQ;have yB:wr.cell? ⟨b,off+k,none⟩=some (.string x):=(aJ.cell (eB w _ (aL k x hx))).trans (aL k x hx);have HP:Hid (Nm.vF (ls.take (k+1))=Nm.vF (ls.take k)++(UInt8.ofNat x.size::x.data.toList)):=Nm.aBi hx
  have CJ:s.size+(1+x.size)<=1000000000:=by
   have h1:=Nm.Cc hx;have h2:=Nm.AV ls (k+1);omega
  have TR:=fun n=>ZW n wr
  clear hx aL hc TV Af hw;go_wp2;go_region
  all_goals
   go_wp2;go_roundw
   case rel=>exact⟨k+1,_,by omega,by go_num,rfl,by show _=_;rw [HP.out,<- HS.out];simp [aEx],(aJ.alloc pQ _).drew⟩
   simp [intOf];omega
 have nS:k=ls.length:=by omega
 subst nS;rw [List.take_length] at HS;clear hc TV hw bV Af;have jW:(ByteArray.mk #[0]).size=1:=rfl;go_wp2;go_ret;exact⟨aI8 (kI (by simp [Nm.joinL,HS.out])),aJ⟩
theorem aB4{ls:List ByteArray}{k:Nat}{x:ByteArray}(h:ls[k]? =some x):
 ((ls.take k).map (fun y=>Value.string (Nm.small y))++(ls.drop k).map Value.string).set k (.string (Nm.small x))=(ls.take (k+1)).map (fun y=>Value.string (Nm.small y))++(ls.drop (k+1)).map Value.string:=by
 have hk:k<ls.length:=(dK h).1;have hx:ls[k]=x:=(dK h).2;have hl:((ls.take k).map (fun y=>Value.string (Nm.small y))).length=k:=by simp;omega
 rw [Nm.mH h,List.set_append_right _ _ (by omega),hl,List.drop_eq_getElem_cons hk,hx];simp
theorem lH(s:ByteArray)(w:World)(hs:s.size<=maxLen):
 Calls Tryz.prog 62 #[.string s] w fun e w'=>e=.returned (.string (Nm.cZ s))∧Below w.heap.size w w':=by
 have nA:=jZ s w hs
 cases hq:Nm.split s with
 |none=>
  have HA:=Nm.aF (Nm.JU hq);rw [hq] at nA;clear hq;go_enter Tryz.func62,Tryz.ntmps62;go_wp2_with fail
  refine nA.mono ?_;rintro e w1 ⟨v,rfl,aU,aJ⟩;go_wp2;go_ret;rw [HA.out]
  exact⟨rfl,aJ⟩
 |some ls=>
  have hz:=Nm.gW hq;have HA:=Nm.aF (Nm.nM hq);have HJ:=Nm.aF (Nm.uE hq);have Lx:=(Nm.kJ hq).2;have hll:=Nm.gJ ls;rw [hq] at nA;clear hq;go_enter Tryz.func62,Tryz.ntmps62;go_wp2_with fail
  refine nA.mono ?_;rintro e w1 ⟨v,rfl,aU,aJ⟩;simp only [Option.getD_some] at aU;clear nA
  by_cases hn:ls=[]
  ·subst hn;have eF:=Nm.dX.aS aU;obtain⟨a,cap,rfl,gY,kK,TV,hc⟩:=eF;have hr:=Nm.dX.aS aU;clear aU hc TV;go_wp2
   go_loop [5] (fun i=>i=.int .i64 0) (fun _=>0)
   case atStart=>rfl
   subst hrel;go_wp2_with (go_at_call 69;refine(cB _ [] _ hr (by simp [Nm.dP])).mono ?_;rintro e w2 ⟨rfl,lQ⟩)
   go_ret;rw [HA.out,<- HJ.out];exact⟨rfl,Nm.aC aJ lQ⟩
  have hlp:0<ls.length:=List.length_pos_iff.2 hn
  obtain⟨g,cap,cur,rfl,hg⟩:∃ g cap cur,v=.slice (some ⟨g,0,none⟩) ls.length cap∧w.heap.size<=g∧ls.length<=cap∧cap<=maxLen∧w1.heap[g]? =some (.cells cur 9 (0,0)):=by
   rcases aU.2 with⟨rfl,h0⟩|⟨g,cap,cur,rfl,hb,hg,YX,hm,_⟩
   ·omega
   exact⟨g,cap,cur,rfl,hb,YX,hm,hg⟩
  obtain⟨hwg,YX,hm,_⟩:=hg;unfold maxLen at hm;go_wp2
  go_loopw [5] (fun i wr=>∃ k:Nat,k<=ls.length∧i=.int .i64 k∧wr.ownsRow w.heap.size 9 1 (.slice (some ⟨g,0,none⟩) ls.length cap) ls.length ((ls.take k).map (fun y=>Value.string (Nm.small y))++(ls.drop k).map Value.string)∧Below w.heap.size w wr)
   (fun i _=>ls.length-(intOf i).toNat)
  case atStart=>exact⟨0,dO _,rfl,by simpa using aU,aJ⟩
  obtain⟨k,hk,rfl,yC,VY⟩:=hrel;have aMp:=VY.size;clear aU aJ
  by_cases bV:k<ls.length
  ·obtain⟨x,hx⟩:∃ x,ls[k]? =some x:=⟨_,bY bV⟩;have Jf:=Lx x (bP hx)
   have yB:wr.cell? ⟨g,k,none⟩=some (.string x):=by
    rw [yC.cellAt k (by omega),List.getElem?_append_right (by simp;omega)];simp [Nat.min_eq_left hk,hx]
   have aSx:=Nm.aF (aB4 hx);go_wp2_with (go_at_call 97;refine(MC x _ (by omega)).mono ?_;rintro e w3 ⟨rfl,ET⟩;have kD:=yC.kept (w':=w3) (row:=none) ⟨ET.os,ET.tape,ET.output,ET.size,fun k hk _=>ET.block k hk⟩ (.inr (by simp [Value.ownBlock]));have oG:=kD.stored k (.string (Nm.small x));rw [aSx.out] at oG;have hfz:=kD.frozenAt k;have hc3:w3.cell? ⟨g,k,none⟩=some (.string x):=(ET.cell (eB wr _ yB)).trans yB;have HR:=Nm.aF oG;have HB:Hid (Below w.heap.size w (w3.setCell ⟨g,k,none⟩ (.string (Nm.small x)))):=(VY.trans (ET.mono aMp)).setCell hwg _;clear oG kD)
   go_roundw
   case rel=>exact⟨k+1,by omega,by go_num,HR.out.1,HB.out⟩
   simp [intOf];omega
  have nS:k=ls.length:=by omega
  subst nS
  have hr:Nm.dX wr (.slice (some ⟨g,0,none⟩) ls.length cap) (ls.map Nm.small):=by
   apply Nm.dX.aS (B:=w.heap.size) (e:=9);simpa [Function.comp_def] using yC
  have hws:=Nm.AZ ls;clear yC bV;go_wp2_with (go_at_call 69;refine(cB _ (ls.map Nm.small) _ hr (by omega)).mono ?_;rintro e w2 ⟨rfl,lQ⟩)
  go_ret;rw [HA.out,<- HJ.out];exact⟨rfl,Nm.aC VY lQ⟩
theorem aJo(g B:Nat)(jY rv key:Value)(rs:List (Value×Value))(cf:Nat->Int)(k:Nat)(p:Value×Value)(w:World)(hg:bG w g #[jY,rv] 194)(h:w.ownsRow B 196 2 rv rs.length (eD rs))(hl:rs.length<=1000000)
 (hf:∀ (tb i:Nat) (p:Value×Value),rs[i]? =some p->∀ W,Below w.heap.size w W->bG W tb #[.pointer (some ⟨g,0,none⟩)] 154->Calls Tryz.prog 191 #[.agg #[p.1,p.2],key,.pointer (some ⟨tb,0,none⟩)] W fun e w'=>e=.returned (.int .i64 (cf i))∧Below W.heap.size W w')
 (hm:∀ a b,a<=b->b<rs.length->cf b<0->cf a<0) (hk:EH rs.length cf k) (hp:rs[k]? =some p) (h0:cf k=0):
 Calls Tryz.prog 150 #[.pointer (some ⟨g,0,none⟩),key] w fun e w'=>e=.returned (.tuple #[p.2,.bool true])∧Below w.heap.size w w':=by
 have pG:=BJ g jY rv key rs cf w hg (bS.aS h) hl hf hm;have nS:=(dK hp).1;have JC:=eY rs k 1 p hp (by decide);obtain⟨_,a,cap,rfl,gY,kK,hc⟩:=bS.aS h;obtain⟨b,off,rfl,aL⟩:=hc (by omega);have c1:=aL _ _ JC;have HK:=Nm.aF hk;have H0:=Nm.aF (aV nS h0);unfold maxLen at kK;have n1:(0:Int)<=(k:Int):=by omega
 have n2:(k:Int)<(rs.length:Int):=by omega
 clear hf hm hk hp h0 h aL hc JC;go_enter Tryz.func150,Tryz.ntmps150;go_wp2_with fail
 refine pG.mono ?_;rintro e w1 ⟨k',sS,rfl,b1⟩;obtain rfl:=EH.unique HK.out sS;rw [nD H0.out.1,nD H0.out.2];have kg:=aB hg b1;have rg:=fun i=>aA kg i
 have d1:w1.cell? ⟨b,off+k*2+1,none⟩=some p.2:=(b1.cell (eB w _ c1)).trans c1;have tt:(true&&true)=true:=rfl;clear pG sS c1 H0;go_wp2;go_ret2;exact⟨rfl,b1⟩
theorem aFo(g B:Nat)(jY rv key:Value)(rs:List (Value×Value))(cf:Nat->Int)(k:Nat)(w:World)(hg:bG w g #[jY,rv] 194)(h:w.ownsRow B 196 2 rv rs.length (eD rs))(hl:rs.length<=1000000)
 (hf:∀ (tb i:Nat) (p:Value×Value),rs[i]? =some p->∀ W,Below w.heap.size w W->bG W tb #[.pointer (some ⟨g,0,none⟩)] 154->Calls Tryz.prog 191 #[.agg #[p.1,p.2],key,.pointer (some ⟨tb,0,none⟩)] W fun e w'=>e=.returned (.int .i64 (cf i))∧Below W.heap.size W w')
 (hm:∀ a b,a<=b->b<rs.length->cf b<0->cf a<0) (hk:EH rs.length cf k) (h0:¬(k<rs.length∧cf k=0)):
 Calls Tryz.prog 150 #[.pointer (some ⟨g,0,none⟩),key] w fun e w'=>e=.returned (.tuple #[.pointer none,.bool false])∧Below w.heap.size w w':=by
 have pG:=BJ g jY rv key rs cf w hg (bS.aS h) hl hf hm;have HK:=Nm.aF hk
 have H0:Hid ((decide (k<rs.length)&&decide (cf k=0))=false):=by
  show _=_
  rw [Bool.and_eq_false_iff]
  by_cases hx:k<rs.length
  ·exact .inr (jU (fun h=>h0 ⟨hx,h⟩))
  exact .inl (jU hx)
 clear hf hm hk h0 h;go_enter Tryz.func150,Tryz.ntmps150;go_wp2_with fail
 refine pG.mono ?_;rintro e w1 ⟨k',sS,rfl,b1⟩;obtain rfl:=EH.unique HK.out sS;rw [H0.out];clear pG sS H0;go_wp2;go_ret2;exact⟨rfl,b1⟩
theorem aJp(g B:Nat)(jY rv key:Value)(rs:List (Value×Value))(cf:Nat->Int)(k:Nat)(p:Value×Value)(w:World)(hg:bG w g #[jY,rv] 187)(h:w.ownsRow B 189 2 rv rs.length (eD rs))(hl:rs.length<=1000000)
 (hf:∀ (tb i:Nat) (p:Value×Value),rs[i]? =some p->∀ W,Below w.heap.size w W->bG W tb #[.pointer (some ⟨g,0,none⟩)] 117->Calls Tryz.prog 196 #[.agg #[p.1,p.2],key,.pointer (some ⟨tb,0,none⟩)] W fun e w'=>e=.returned (.int .i64 (cf i))∧Below W.heap.size W w')
 (hm:∀ a b,a<=b->b<rs.length->cf b<0->cf a<0) (hk:EH rs.length cf k) (hp:rs[k]? =some p) (h0:cf k=0):
 Calls Tryz.prog 172 #[.pointer (some ⟨g,0,none⟩),key] w fun e w'=>e=.returned (.tuple #[p.2,.bool true])∧Below w.heap.size w w':=by
 have pG:=BK g jY rv key rs cf w hg (bS.aS h) hl hf hm;have nS:=(dK hp).1;have JC:=eY rs k 1 p hp (by decide);obtain⟨_,a,cap,rfl,gY,kK,hc⟩:=bS.aS h;obtain⟨b,off,rfl,aL⟩:=hc (by omega);have c1:=aL _ _ JC;have HK:=Nm.aF hk;have H0:=Nm.aF (aV nS h0);unfold maxLen at kK;have n1:(0:Int)<=(k:Int):=by omega
 have n2:(k:Int)<(rs.length:Int):=by omega
 clear hf hm hk hp h0 h aL hc JC;go_enter Tryz.func172,Tryz.ntmps172;go_wp2_with fail
 refine pG.mono ?_;rintro e w1 ⟨k',sS,rfl,b1⟩;obtain rfl:=EH.unique HK.out sS;rw [nD H0.out.1,nD H0.out.2];have kg:=aB hg b1;have rg:=fun i=>aA kg i
 have d1:w1.cell? ⟨b,off+k*2+1,none⟩=some p.2:=(b1.cell (eB w _ c1)).trans c1;have tt:(true&&true)=true:=rfl;clear pG sS c1 H0;go_wp2;go_ret2;exact⟨rfl,b1⟩
theorem aFp(g B:Nat)(jY rv key:Value)(rs:List (Value×Value))(cf:Nat->Int)(k:Nat)(w:World)(hg:bG w g #[jY,rv] 187)(h:w.ownsRow B 189 2 rv rs.length (eD rs))(hl:rs.length<=1000000)
 (hf:∀ (tb i:Nat) (p:Value×Value),rs[i]? =some p->∀ W,Below w.heap.size w W->bG W tb #[.pointer (some ⟨g,0,none⟩)] 117->Calls Tryz.prog 196 #[.agg #[p.1,p.2],key,.pointer (some ⟨tb,0,none⟩)] W fun e w'=>e=.returned (.int .i64 (cf i))∧Below W.heap.size W w')
 (hm:∀ a b,a<=b->b<rs.length->cf b<0->cf a<0) (hk:EH rs.length cf k) (h0:¬(k<rs.length∧cf k=0)):
 Calls Tryz.prog 172 #[.pointer (some ⟨g,0,none⟩),key] w fun e w'=>e=.returned (.tuple #[.pointer none,.bool false])∧Below w.heap.size w w':=by
 have pG:=BK g jY rv key rs cf w hg (bS.aS h) hl hf hm;have HK:=Nm.aF hk
 have H0:Hid ((decide (k<rs.length)&&decide (cf k=0))=false):=by
  show _=_
  rw [Bool.and_eq_false_iff]
  by_cases hx:k<rs.length
  ·exact .inr (jU (fun h=>h0 ⟨hx,h⟩))
  exact .inl (jU hx)
 clear hf hm hk h0 h;go_enter Tryz.func172,Tryz.ntmps172;go_wp2_with fail
 refine pG.mono ?_;rintro e w1 ⟨k',sS,rfl,b1⟩;obtain rfl:=EH.unique HK.out sS;rw [H0.out];clear pG sS H0;go_wp2;go_ret2;exact⟨rfl,b1⟩
def mE(t:Int):Bool:=t==0||t==41||(decide (249<=t)&&decide (t<=255))
theorem Uh(t:Int)(w:World):Calls Tryz.prog 159 #[.int .i64 t] w fun e w'=>e=.returned (.bool (mE t))∧w'=w:=by
 by_cases h0:t=0
 ·subst h0;go_enter Tryz.func159,Tryz.ntmps159;go_wp2;go_ret;exact⟨rfl,rfl⟩
 have e0:(t==0)=false:=by rw [dC];exact h0
 by_cases h1:t=41
 ·subst h1;go_enter Tryz.func159,Tryz.ntmps159;go_wp2;go_ret;exact⟨rfl,rfl⟩
 have e1:(t==41)=false:=by rw [dC];exact h1
 by_cases h2:249<=t
 ·by_cases h3:t<=255
  ·have HM:Hid (mE t=true):=by show _=_;simp [mE,h2,h3]
   go_enter Tryz.func159,Tryz.ntmps159;go_wp2;go_ret;rw [HM.out];exact⟨rfl,rfl⟩
  have h3':255<t:=by omega
  have HM:Hid (mE t=false):=by show _=_;simp [mE,h0,h1];omega
  go_enter Tryz.func159,Tryz.ntmps159;go_wp2;go_ret;rw [HM.out];exact⟨rfl,rfl⟩
 have Sb:t<249:=by omega
 have HM:Hid (mE t=false):=by show _=_;simp [mE,h0,h1];omega
 go_enter Tryz.func159,Tryz.ntmps159;go_wp2;go_ret;rw [HM.out];exact⟨rfl,rfl⟩
theorem Mi(t:Int)(w:World):Calls Tryz.prog 95 #[.int .i64 t] w fun e w'=>e=.returned (.bool (mE t))∧w'=w:=by
 by_cases h0:t=0
 ·subst h0;go_enter Tryz.func95,Tryz.ntmps95;go_wp2;go_ret;exact⟨rfl,rfl⟩
 have e0:(t==0)=false:=by rw [dC];exact h0
 by_cases h1:t=41
 ·subst h1;go_enter Tryz.func95,Tryz.ntmps95;go_wp2;go_ret;exact⟨rfl,rfl⟩
 have e1:(t==41)=false:=by rw [dC];exact h1
 by_cases h2:249<=t
 ·by_cases h3:t<=255
  ·have HM:Hid (mE t=true):=by show _=_;simp [mE,h2,h3]
   go_enter Tryz.func95,Tryz.ntmps95;go_wp2;go_ret;rw [HM.out];exact⟨rfl,rfl⟩
  have h3':255<t:=by omega
  have HM:Hid (mE t=false):=by show _=_;simp [mE,h0,h1];omega
  go_enter Tryz.func95,Tryz.ntmps95;go_wp2;go_ret;rw [HM.out];exact⟨rfl,rfl⟩
 have Sb:t<249:=by omega
 have HM:Hid (mE t=false):=by show _=_;simp [mE,h0,h1];omega
 go_enter Tryz.func95,Tryz.ntmps95;go_wp2;go_ret;rw [HM.out];exact⟨rfl,rfl⟩
theorem gU(a b:ByteArray)(w:World)(ha:a.size<=maxLen)(hb:b.size<=maxLen):
 Calls Tryz.prog 72 #[.string a,.string b] w fun e w'=>e=.returned (.bool (jB a b))∧Below w.heap.size w w':=by
 have Fx:=lH a w ha;have BL:=fun W=>lH b W hb
 cases OH:Nm.split a with
 |none=>
  have HA:=Nm.aF (aBn (b:=b) OH);rw [Nm.JU OH] at Fx;have he:(ByteArray.empty).toList.isEmpty=true:=Nm.UQ rfl;clear OH;go_enter Tryz.func72,Tryz.ntmps72;go_wp2_with fail
  refine Fx.mono ?_;rintro e w1 ⟨rfl,aJ⟩;go_wp2;go_ret;rw [HA.out]
  exact⟨rfl,aJ⟩
 |some xs=>
  rw [Nm.nM OH] at Fx;have he:=aBo OH
  cases TW:Nm.split b with
  |none=>
   have HA:=Nm.aF (Tt (a:=a) TW);rw [Nm.JU TW] at BL
   have dQ:((Nm.small a).toList==(ByteArray.empty).toList)=false:=by
    rw [dC];intro e;rw [e] at he;rw [Nm.UQ rfl] at he;simp at he
   clear OH TW;generalize Nm.small a=x at*;go_enter Tryz.func72,Tryz.ntmps72;go_wp2_with fail
   refine Fx.mono ?_;rintro e w1 ⟨rfl,aJ⟩;go_wp2_with fail
   refine(BL _).mono ?_;rintro e w2 ⟨rfl,lQ⟩;go_wp2;go_ret;rw [HA.out]
   exact⟨rfl,Nm.aC aJ lQ⟩
  |some ys=>
   have HA:=Nm.aF (OX OH TW);have HE:=Nm.aF (aEv a b);rw [Nm.nM TW] at BL;clear OH TW;generalize Nm.small a=x at*;generalize Nm.small b=y at*;go_enter Tryz.func72,Tryz.ntmps72;go_wp2_with fail
   refine Fx.mono ?_;rintro e w1 ⟨rfl,aJ⟩;go_wp2_with fail
   refine(BL _).mono ?_;rintro e w2 ⟨rfl,lQ⟩;go_wp2;go_ret;rw [HA.out,<- HE.out];exact⟨rfl,Nm.aC aJ lQ⟩
theorem iO{W W1:World}{B e s m:Nat}{v:Value}{b:Option Nat}{xs:List Value}(h:W.ownsRow B e s v m xs)(hg:W.grownBy W1 b)(ha:∀ g,b=some g->v.ownBlock≠some g):W1.ownsRow B e s v m xs:=by
 refine h.kept hg ?_
 cases b with
 |none=>
  cases hv:v.ownBlock with
  |none=>exact .inl rfl
  |some k=>right;simp
 |some k=>right;exact ha k rfl
theorem jO{W:World}{B e s m B' e' s' m':Nat}{v u:Value}{xs ys:List Value}(h:W.ownsRow B e s v m xs)(h':W.ownsRow B' e' s' u m' ys)(dQ:e≠e'):∀ g,u.ownBlock=some g->v.ownBlock≠some g:=by
 intro g hu hv
 rcases h'.2 with⟨rfl,_⟩|⟨g',cap',cur',rfl,_,hh',_⟩
 ·cases hu
 rcases h.2 with⟨rfl,_⟩|⟨g2,aMg,aOn,rfl,_,hh,_⟩
 ·cases hv
 simp only [Value.ownBlock,mP] at hu hv;subst hu;subst hv;rw [hh] at hh';simp only [mP,Obj.cells.injEq] at hh';exact dQ hh'.2.1
structure dH (w:World) (B:Nat) (v:Value) (ps:List Zp):Prop where
 outer:w.ownsRow B 60 4 v ps.length (pM ps)
 inner:∀ (i:Nat) (p:Zp),ps[i]? =some p->w.ownsRow B 9 1 p.2 p.1.da.length (p.1.da.map Value.string)
 apart:∀ (i j:Nat) (p q:Zp),ps[i]? =some p->ps[j]? =some q->i≠j->∀ g,p.2.ownBlock=some g->q.2.ownBlock≠some g
theorem dH.nil(w:World)(B:Nat):dH w B (.slice none 0 0) []:=⟨World.ownsRow_nil _ _ _ _,by simp,by simp⟩
theorem dH.below{w w':World}{B:Nat}{v:Value}{ps:List Zp}(h:dH w B v ps)(hb:Below w.heap.size w w'):dH w' B v ps:=
 ⟨own_below h.outer hb,fun i p hp=>own_below (h.inner i p hp) hb,h.apart⟩
theorem dH.base{w:World}{B B':Nat}{v:Value}{ps:List Zp}(h:dH w B v ps)(hb:B'<=B):dH w B' v ps:=
 ⟨fQ h.outer hb,fun i p hp=>fQ (h.inner i p hp) hb,h.apart⟩
theorem dH.beside{w w':World}{B:Nat}{v:Value}{ps:List Zp}{b:Option Nat}(h:dH w B v ps)(hg:w.grownBy w' b)(hv:∀ g,b=some g->v.ownBlock≠some g)(hi:∀ g,b=some g->∀ p∈ps,p.2.ownBlock≠some g):dH w' B v ps:=
 ⟨iO h.outer hg hv,fun i p hp=>iO (h.inner i p hp) hg (fun g e=>hi g e p (bP hp)),h.apart⟩
theorem dH.far{w:World}{B g i:Nat}{v y:Value}{ps:List Zp}(h:dH w B v ps)(hg:g<B):dH (w.setCell ⟨g,i,none⟩ y) B v ps:=
 ⟨nL h.outer hg,fun i p hp=>nL (h.inner i p hp) hg,h.apart⟩
theorem qL{α:Type}{xs:List α}{y x:α}{i:Nat}(hx:(xs++[y])[i]? =some x):(i<xs.length∧xs[i]? =some x)∨(i=xs.length∧x=y):=by
 by_cases hi:i<xs.length
 ·rw [List.getElem?_append_left hi] at hx;exact .inl ⟨hi,hx⟩
 rw [List.getElem?_append_right (by omega)] at hx
 have h0:i-xs.length=0:=by
  rcases Nat.eq_zero_or_pos (i-xs.length) with h|h
  ·exact h
  rw [List.getElem?_eq_none (by simp;omega)] at hx;cases hx
 rw [h0] at hx;simp at hx;exact .inr ⟨by omega,hx.symm⟩
theorem dH.snoc{w w2:World}{B:Nat}{v v' u:Value}{s:Sz}{ps:List Zp}(h:dH w B v ps)
 (hu:w.ownsRow B 9 1 u s.da.length (s.da.map Value.string)) (ha:∀ p∈ps,∀ g,p.2.ownBlock=some g->u.ownBlock≠some g)
 (ho:w2.ownsRow B 60 4 v' (ps.length+1) (pM ps++Sj (s,u))) (hg:w.grownBy w2 v.ownBlock):dH w2 B v' (ps++[(s,u)]):=by
 have e:pM (ps++[(s,u)])=pM ps++Sj (s,u):=by simp [pM]
 refine⟨by rw [e];simpa using ho,fun i p hp=>?_,fun i j p q hp hq dQ g rP=>?_⟩
 ·rcases qL hp with⟨_,VQ⟩|⟨_,rfl⟩
  ·have:=h.inner i p VQ;exact iO this hg (jO this h.outer (by decide))
  exact iO hu hg (jO hu h.outer (by decide))
 rcases qL hp with⟨hi,VQ⟩|⟨hi,rfl⟩<;>rcases qL hq with⟨hj,hq'⟩|⟨hj,rfl⟩
 ·exact h.apart i j p q VQ hq' dQ g rP
 ·exact ha p (bP VQ) g rP
 ·intro e;exact ha q (bP hq') g e rP
 omega
theorem dH.more{w w1:World}{B g cap:Nat}{u u':Value}{s:Sz}{d:ByteArray}{ps:List Zp}(h:dH w B (.slice (some ⟨g,0,none⟩) (ps.length+1) cap) (ps++[(s,u)]))
 (ho:w1.ownsRow B 9 1 u' (s.da.length+1) (s.da.map Value.string++[.string d])) (hg:w.grownBy w1 u.ownBlock) (iT:u'.ownBlock=u.ownBlock∨∀ g,u'.ownBlock=some g->w.heap.size<=g):
 dH (w1.setCell ⟨g,ps.length*4+3,none⟩ u') B (.slice (some ⟨g,0,none⟩) (ps.length+1) cap) (ps++[({s with da:=s.da++[d]},u')]):=by
 have EU:(ps++[(s,u)])[ps.length]? =some (s,u):=by simp
 have hiL:=h.inner _ _ EU
 have o1:w1.ownsRow B 60 4 (.slice (some ⟨g,0,none⟩) (ps.length+1) cap) (ps.length+1) (pM (ps++[(s,u)])):=by
  have:=h.outer;rw [nG] at this;exact iO this hg (jO this hiL (by decide))
 have bV:∀ (i:Nat) (p:Zp),ps[i]? =some p->(ps++[(s,u)])[i]? =some p:=fun i p hp=>by rw [List.getElem?_append_left (dK hp).1];exact hp
 have mK:∀ (i:Nat) (p:Zp),ps[i]? =some p->w1.ownsRow B 9 1 p.2 p.1.da.length (p.1.da.map Value.string):=by
  intro i p hp;have pG:=(dK hp).1;exact iO (h.inner i p (bV i p hp)) hg (fun g' e e'=>h.apart i ps.length p (s,u) (bV i p hp) EU (by omega) g' e' e)
 have aOx:∀ (i:Nat) (p:Zp),ps[i]? =some p->∀ g,p.2.ownBlock=some g->u'.ownBlock≠some g:=by
  intro i p hp g' e e';have pG:=(dK hp).1
  rcases iT with h1|h1
  ·rw [h1] at e';exact h.apart i ps.length p (s,u) (bV i p hp) EU (by omega) g' e e'
  have h2:=h1 g' e';have h3:=((h.inner i p (bV i p hp)).lt g' e).2;omega
 have e1:(pM (ps++[(s,u)])).set (ps.length*4+3) u'=pM (ps++[({s with da:=s.da++[d]},u')]):=by
  rw [zN,zN,List.set_append_right _ _ (by rw [LW];omega),LW,show ps.length*4+3-ps.length*4=3 by omega];rfl
 have oG:=o1.stored (ps.length*4+3) u';rw [e1] at oG;have far:∀ {v:Value} {n:Nat} {xs:List Value},w1.ownsRow B 9 1 v n xs->(w1.setCell ⟨g,ps.length*4+3,none⟩ u').ownsRow B 9 1 v n xs:=fun hx=>eU hx (jO hx o1 (by decide) g rfl)
 refine⟨by simpa using oG.1,fun i p hp=>?_,fun i j p q hp hq dQ g' rP=>?_⟩
 ·rcases qL hp with⟨_,VQ⟩|⟨_,rfl⟩
  ·exact far (mK i p VQ)
  have:=far ho;simpa using this
 rcases qL hp with⟨hi,VQ⟩|⟨hi,rfl⟩<;>rcases qL hq with⟨hj,hq'⟩|⟨hj,rfl⟩
 ·exact h.apart i j p q (bV i p VQ) (bV j q hq') dQ g' rP
 ·exact aOx i p VQ g' rP
 ·intro e;exact aOx j q hq' g' e rP
 omega
def aMq:List Nat:=[1,2,5,6,12,13,15,16,28,33,35,39,47,257,1,2,15,28,99,65280]
theorem aJq{t:Nat}(h:t∈aMq):1<=t∧t<65536:=by
 simp [aMq] at h
 omega
theorem yD(c:UInt8)(B:ByteArray)(h:B.size<=256):1<=((⟨#[c]⟩:ByteArray)++B).size∧((⟨#[c]⟩:ByteArray)++B).size<=257:=by
 rw [jV];have:(⟨#[c]⟩:ByteArray).size=1:=rfl;omega
theorem TZ(B:ByteArray)(k:Nat)(h:B.size<=256):(B.extract 0 k).size<=256:=by
 rw [ByteArray.size_extract];omega
theorem BM(g:Nat)(a:Option Addr)(n cap:Nat)(w:World)(h:Src w g a n cap):
 Calls Tryz.prog 124 #[.pointer (some ⟨g,0,none⟩),.int .i64 255] w fun e w'=>∃ s:ByteArray,e=.returned (.string s)∧1<=s.size∧s.size<=257∧Src w' g a n cap∧w.grownBy w' (some g):=by
 have TR:=fun(x:Int) (W:World)=>EK x W
 have nJ:∀ c:UInt8,(ByteArray.mk #[c]).size=1:=fun _=>rfl
 go_enter Tryz.func124,Tryz.ntmps124;go_wp2_with fail
 refine(aY g a n cap 9 _ h (by decide)).mono ?_;rintro e w1 ⟨r1,rfl,h10,h11,aOy,rP⟩;have h12:=h11 (by decide);go_wp2_with fail
 refine(aY g a n cap 25 _ aOy (by decide)).mono ?_;rintro e w2 ⟨r2,rfl,h20,h21,aOz,oN⟩;have aO0:=aZ rP oN;clear h h11 h21
 by_cases h2:r2=0
 ·subst h2;go_wp2_with fail
  refine(aY g a n cap 256 _ aOz (by decide)).mono ?_;rintro e w3 ⟨r,rfl,OD,rH,hsN,iA⟩;have uR:=rH (by decide);have hgN:=aZ aO0 iA;clear rH
  go_wp2_with first
   |(
    go_at_call 57
    refine(gN g a n cap r _ hsN (by omega) (by omega)).mono ?_;rintro e w4 ⟨T0,rfl,hT0,VX,QY⟩
    have aMr:=aZ hgN QY)
   |(
    go_at_call 11
    refine(aY g a n cap 2 _ VX (by decide)).mono ?_;rintro e w5 ⟨r3,rfl,h30,h31,Fy,PI⟩
    have Fz:=aZ aMr PI)
  ·go_ret;refine⟨_,rfl,(yD _ _ (TZ _ _ (by decide))).1,(yD _ _ (TZ _ _ (by decide))).2,bH Fy ((aK _ _).alloc (aN _) _),dR Fz _⟩
  go_ret;refine⟨_,rfl,(yD _ _ (by omega)).1,(yD _ _ (by omega)).2,bH Fy ((aK _ _).alloc (aN _) _),dR Fz _⟩
 have Sb:(r2==0)=false:=by rw [dC];exact h2
 have hsN:=aOz;have hgN:=aO0;have OD:=h10;have uR:r1<256:=by omega
 go_wp2_with first
  |(
   go_at_call 57
   refine(gN g a n cap r1 _ hsN (by omega) (by omega)).mono ?_;rintro e w4 ⟨T0,rfl,hT0,VX,QY⟩
   have aMr:=aZ hgN QY)
  |(
   go_at_call 11
   refine(aY g a n cap 2 _ VX (by decide)).mono ?_;rintro e w5 ⟨r3,rfl,h30,h31,Fy,PI⟩
   have Fz:=aZ aMr PI)
 ·go_ret;refine⟨_,rfl,(yD _ _ (TZ _ _ (by decide))).1,(yD _ _ (TZ _ _ (by decide))).2,bH Fy ((aK _ _).alloc (aN _) _),dR Fz _⟩
 go_ret;refine⟨_,rfl,(yD _ _ (by omega)).1,(yD _ _ (by omega)).2,bH Fy ((aK _ _).alloc (aN _) _),dR Fz _⟩
