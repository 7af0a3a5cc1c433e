import Derived.Test.YthdpacepbbcocaaGreatJICheck
set_option linter.unusedVariables false
set_option maxRecDepth 100000
set_option maxHeartbeats 3200000
namespace Go.Proofs.YthdpacepbbcocaaGreat
open Go.RowKit
theorem aD5{d:ByteArray}(h:22<=d.size):(d.extract (d.size-20) (d.size-16)).data.toList=[d[d.size-20],d[d.size-20+1],d[d.size-20+2],d[d.size-20+3]]:=by
 have hl:(d.extract (d.size-20) (d.size-16)).data.toList.length=4:=by simp;omega
 refine List.ext_getElem (by simpa using hl) ?_;intro i h1 h2;have hi:i<4:=by simpa using h2
 have e:(d.extract (d.size-20) (d.size-16)).data.toList[i]=d[d.size-20+i]:=by
  have:=ByteArray.getElem_extract (b:=d) (start:=d.size-20) (stop:=d.size-16) (i:=i) (h:=by simpa using h1);exact this
 rw [e]
 rcases i with _|_|_|_|i
 ·rfl
 ·rfl
 ·rfl
 ·rfl
 omega
def Hw(d:ByteArray):Int:=if h:22<=d.size then(aOt d[d.size-20] d[d.size-20+1] d[d.size-20+2] d[d.size-20+3]:Int) else 0
theorem aA7{d:ByteArray}(h:22<=d.size):((IL (d.extract (d.size-20) (d.size-16)).data.toList:Nat):Int)=Hw d:=by
 rw [aD5 h,Hw,dif_pos h];simp [IL,aOt]
theorem FP(d:ByteArray)(w:World)(hd:d.size<=2000000):
 Calls Tryz.prog 36 #[.string d] w fun e w'=>e=.returned (.tuple #[.int .i64 (if bQ 6 d=0 then Hw d else 0),.int .i64 (if bQ 6 d=0 then 0 else 7)])∧Below w.heap.size w w':=by
 have aX:=fun w=>nC 6 d w
 by_cases hq:bQ 6 d=0
 ·have hz:=WK hq;have HN:=Nm.aF (aA7 hz.1);rw [hq] at aX;simp only [hq,if_true];have aKw:=fun w=>Uc (d.extract (d.size-20) (d.size-16)) w (by simp;omega)
  have h1:(20:Int)<=(d.size:Int):=by omega
  have h2:(16:Int)<=(d.size:Int):=by omega
  have h3:20<=d.size:=by omega
  have h4:16<=d.size:=by omega
  generalize IL (d.extract (d.size-20) (d.size-16)).data.toList=N at*;go_enter Tryz.func36,Tryz.ntmps36;go_wp2_with (first|(go_at_call 74;refine(aX _).mono ?_;rintro e w1 ⟨rfl,fF⟩)|(go_at_call 75;refine(aKw _).mono ?_;rintro e w2 ⟨rfl,hw⟩;obtain rfl:w1=w2:=hw.symm;clear hw))
  go_ret2;rw [<- HN.out];exact⟨rfl,fF⟩
 simp only [hq,if_false];have hb:(bQ 6 d != 0)=true:=by rw [bne_iff_ne];exact hq
 generalize bQ 6 d=c at*;clear hq;go_enter Tryz.func36,Tryz.ntmps36;go_wp2_with (go_at_call 74;refine(aX _).mono ?_;rintro e w1 ⟨rfl,fF⟩)
 go_ret2;exact⟨rfl,fF⟩
theorem XT(d:ByteArray)(w:World)(hd:d.size<=2000000):
 Calls Tryz.prog 84 #[.string d] w fun e w'=>e=.returned (.tuple #[.int .i64 (if bQ 6 d=0 then Hw d else 0),.int .i64 (if bQ 6 d=0 then 0 else 7)])∧Below w.heap.size w w':=by
 have aX:=fun w=>yO 6 d w hd
 by_cases hq:bQ 6 d=0
 ·have hz:=WK hq;have HN:=Nm.aF (aA7 hz.1);rw [hq] at aX;simp only [hq,if_true];have aKw:=fun w=>Mc (d.extract (d.size-20) (d.size-20+4)) w (by simp;omega)
  rw [show d.size-20+4=d.size-16 by omega] at aKw;have h1:(20:Int)<=(d.size:Int):=by omega
  have h3:20<=d.size:=by omega
  have h4:(d.size:Int)-20+4<=(d.size:Int):=by omega
  have e16:d.size-20+4=d.size-16:=by omega
  generalize IL (d.extract (d.size-20) (d.size-16)).data.toList=N at*;go_enter Tryz.func84,Tryz.ntmps84;go_wp2_with (first|(go_at_call 119;refine(aX _).mono ?_;rintro e w1 ⟨rfl,fF⟩)|(go_at_call 120;refine(aKw _).mono ?_;rintro e w2 ⟨rfl,hw⟩;obtain rfl:w1=w2:=hw.symm;clear hw))
  go_ret2;rw [<- HN.out];exact⟨rfl,fF⟩
 simp only [hq,if_false];have hb:(bQ 6 d != 0)=true:=by rw [bne_iff_ne];exact hq
 generalize bQ 6 d=c at*;clear hq;go_enter Tryz.func84,Tryz.ntmps84;go_wp2_with (go_at_call 119;refine(aX _).mono ?_;rintro e w1 ⟨rfl,fF⟩)
 go_ret2;exact⟨rfl,fF⟩
theorem XU(bb:Nat)(code:Int)(v:Value)(ls:List Ld)(f:Ld->Bool)(w:World)(hk:w.cell? ⟨bb,5,none⟩=some v)(h:bS w v ls.length 4 (zX ls))(hl:ls.length<=1000000)
 (hf:∀ x∈ls,∀ W,Below w.heap.size w W->Calls Tryz.prog 142 #[.agg #[.int .i64 (x.at_:Int),.int .i64 x.ty,.pointer (some ⟨x.ob,0,none⟩),.pointer (some ⟨x.sb,0,none⟩)]] W fun e w'=>e=.returned (.bool (f x))∧Below W.heap.size W w'):
 Calls Tryz.prog 136 #[.pointer (some ⟨bb,0,none⟩),.int .i64 code,.func (.func 142) #[] #[]] w fun e w'=>e=.returned (zY f code ls)∧Below w.heap.size w w':=by
 obtain⟨_,a,cap,rfl,gY,kK,hc⟩:=h;unfold maxLen at kK;have HF:=Nm.aF hf;clear hf;go_enter Tryz.func136,Tryz.ntmps136;go_wp2
 go_loopw [15] (fun i wr=>∃ k:Nat,k<=ls.length∧i=.int .i64 k∧(∀ j x,j<k->ls[j]? =some x->f x=false)∧Below w.heap.size w wr) (fun i _=>ls.length-(intOf i).toNat)
 case atStart=>exact⟨0,dO _,rfl,fun j x hj=>absurd hj (Nat.not_lt_zero _),aK _ _⟩
 obtain⟨k,sS,rfl,lT,aJ⟩:=hrel;have HR:=Nm.aF (aV lT aJ)
 by_cases bV:k<ls.length
 ·obtain⟨x,hx⟩:∃ x,ls[k]? =some x:=⟨_,bY bV⟩;obtain⟨b,off,rfl,aL⟩:=hc (by omega);have put:∀ {O:Nat} {z:Value},w.cell? ⟨b,O,none⟩=some z->wr.cell? ⟨b,O,none⟩=some z:=fun h=>(aJ.cell (eB w _ h)).trans h
  have d0:=put (aL (k*4) _ (qY ls k 0 x hx (by decide)));have d1:=put (aL (k*4+1) _ (qY ls k 1 x hx (by decide)));have d2:=put (aL (k*4+2) _ (qY ls k 2 x hx (by decide)));have d3:=put (aL (k*4+3) _ (qY ls k 3 x hx (by decide)));simp only [<- Nat.add_assoc] at d1 d2 d3;have IP:=HF.out x (bP hx) (wr.alloc (.cells #[.int .i64 (x.at_:Int),.int .i64 x.ty,.pointer (some ⟨x.ob,0,none⟩),.pointer (some ⟨x.sb,0,none⟩)] 171)) (aJ.alloc aJ.size _);have kb:=aH wr #[.int .i64 (x.at_:Int),.int .i64 x.ty,.pointer (some ⟨x.ob,0,none⟩),.pointer (some ⟨x.sb,0,none⟩)] 171;have fF:=aJ.alloc aJ.size (.cells #[.int .i64 (x.at_:Int),.int .i64 x.ty,.pointer (some ⟨x.ob,0,none⟩),.pointer (some ⟨x.sb,0,none⟩)] 171);have HX:=Nm.aF hx;have i1:(0:Int)<=(k:Int):=by omega
  have i2:(k:Int)<(ls.length:Int):=by omega
  clear hc aL hx lT aJ put hk;simp only [fV] at IP;go_wp2_with fail
  refine IP.mono ?_;rintro e w2 ⟨rfl,b2⟩;have ZH:=aB kb (by simpa using b2);have rb2:=fun i=>aA ZH i
  have Bi:=Nm.aC fF (by simpa using b2);clear IP d0 d1 d2 d3
  cases UF:f x with
  |true=>
   have HV:=Nm.aF UF;clear UF;go_wp2;go_region
   all_goals go_wp2
   all_goals go_ret2
   all_goals exact⟨by rw [XF HR.out.1 HX.out HV.out];rfl,Bi.drew⟩
  |false=>
   have HV:=Nm.aF UF;clear UF;go_wp2;go_roundw
   case rel=>
    refine⟨k+1,by omega,by go_num,fun j y hj hy=>?_,Bi⟩
    rcases Nat.lt_succ_iff_lt_or_eq.1 hj with h1|rfl
    ·exact HR.out.1 j y h1 hy
    rw [HX.out] at hy;cases hy;exact HV.out
   simp [intOf];omega
 have DJ:k=ls.length:=by omega
 subst DJ;clear hc lT aJ;go_wp2;go_ret2;exact⟨by rw [XC HR.out.1];rfl,HR.out.2⟩
theorem XV(bb:Nat)(cq:Nat)(code:Int)(v:Value)(ls:List Ld)(f:Ld->Bool)(w:World)(hk:w.cell? ⟨bb,5,none⟩=some v)(h:bS w v ls.length 4 (zX ls))(hl:ls.length<=1000000)
 (hf:∀ x∈ls,∀ W,Below w.heap.size w W->Calls Tryz.prog 145 #[.agg #[.int .i64 (x.at_:Int),.int .i64 x.ty,.pointer (some ⟨x.ob,0,none⟩),.pointer (some ⟨x.sb,0,none⟩)],.pointer (some ⟨cq,0,none⟩)] W fun e w'=>e=.returned (.bool (f x))∧Below W.heap.size W w'):
 Calls Tryz.prog 136 #[.pointer (some ⟨bb,0,none⟩),.int .i64 code,.func (.func 145) #[] #[.pointer (some ⟨cq,0,none⟩)]] w fun e w'=>e=.returned (zY f code ls)∧Below w.heap.size w w':=by
 obtain⟨_,a,cap,rfl,gY,kK,hc⟩:=h;unfold maxLen at kK;have HF:=Nm.aF hf;clear hf;go_enter Tryz.func136,Tryz.ntmps136;go_wp2
 go_loopw [15] (fun i wr=>∃ k:Nat,k<=ls.length∧i=.int .i64 k∧(∀ j x,j<k->ls[j]? =some x->f x=false)∧Below w.heap.size w wr) (fun i _=>ls.length-(intOf i).toNat)
 case atStart=>exact⟨0,dO _,rfl,fun j x hj=>absurd hj (Nat.not_lt_zero _),aK _ _⟩
 obtain⟨k,sS,rfl,lT,aJ⟩:=hrel;have HR:=Nm.aF (aV lT aJ)
 by_cases bV:k<ls.length
 ·obtain⟨x,hx⟩:∃ x,ls[k]? =some x:=⟨_,bY bV⟩;obtain⟨b,off,rfl,aL⟩:=hc (by omega);have put:∀ {O:Nat} {z:Value},w.cell? ⟨b,O,none⟩=some z->wr.cell? ⟨b,O,none⟩=some z:=fun h=>(aJ.cell (eB w _ h)).trans h
  have d0:=put (aL (k*4) _ (qY ls k 0 x hx (by decide)));have d1:=put (aL (k*4+1) _ (qY ls k 1 x hx (by decide)));have d2:=put (aL (k*4+2) _ (qY ls k 2 x hx (by decide)));have d3:=put (aL (k*4+3) _ (qY ls k 3 x hx (by decide)));simp only [<- Nat.add_assoc] at d1 d2 d3;have IP:=HF.out x (bP hx) (wr.alloc (.cells #[.int .i64 (x.at_:Int),.int .i64 x.ty,.pointer (some ⟨x.ob,0,none⟩),.pointer (some ⟨x.sb,0,none⟩)] 171)) (aJ.alloc aJ.size _);have kb:=aH wr #[.int .i64 (x.at_:Int),.int .i64 x.ty,.pointer (some ⟨x.ob,0,none⟩),.pointer (some ⟨x.sb,0,none⟩)] 171;have fF:=aJ.alloc aJ.size (.cells #[.int .i64 (x.at_:Int),.int .i64 x.ty,.pointer (some ⟨x.ob,0,none⟩),.pointer (some ⟨x.sb,0,none⟩)] 171);have HX:=Nm.aF hx;have i1:(0:Int)<=(k:Int):=by omega
  have i2:(k:Int)<(ls.length:Int):=by omega
  clear hc aL hx lT aJ put hk;simp only [fV] at IP;go_wp2_with fail
  refine IP.mono ?_;rintro e w2 ⟨rfl,b2⟩;have ZH:=aB kb (by simpa using b2);have rb2:=fun i=>aA ZH i
  have Bi:=Nm.aC fF (by simpa using b2);clear IP d0 d1 d2 d3
  cases UF:f x with
  |true=>
   have HV:=Nm.aF UF;clear UF;go_wp2;go_region
   all_goals go_wp2
   all_goals go_ret2
   all_goals exact⟨by rw [XF HR.out.1 HX.out HV.out];rfl,Bi.drew⟩
  |false=>
   have HV:=Nm.aF UF;clear UF;go_wp2;go_roundw
   case rel=>
    refine⟨k+1,by omega,by go_num,fun j y hj hy=>?_,Bi⟩
    rcases Nat.lt_succ_iff_lt_or_eq.1 hj with h1|rfl
    ·exact HR.out.1 j y h1 hy
    rw [HX.out] at hy;cases hy;exact HV.out
   simp [intOf];omega
 have DJ:k=ls.length:=by omega
 subst DJ;clear hc lT aJ;go_wp2;go_ret2;exact⟨by rw [XC HR.out.1];rfl,HR.out.2⟩
def InC(w wr:World)(g:Nat)(a:Option Addr)(n cap gr m rc:Nat)(ls:List ByteArray)(gb:Nat)(l:List UInt8):Prop:=
 wr.ownsRow w.heap.size 9 1 (.slice (some ⟨gr,0,none⟩) m rc) m (ls.map Value.string)∧Src wr g a n cap∧w.grownBy wr (some g)∧EJ wr gb l∧gr≠gb∧w.heap.size<=gb
theorem Hy{w:World}{g n gb:Nat}{a:Option Addr}(h:qJ w g a n)(hb:w.heap.size<=gb):n=0∨∀ b off,a=some ⟨b,off,none⟩->b≠gb:=by
 rcases Nat.eq_zero_or_pos n with hn|hn
 ·exact .inl hn
 refine .inr fun b off e=>?_
 rcases h with h0|⟨b',off',e',_,hc⟩
 ·omega
 rw [e] at e';simp only [mP,Addr.mk.injEq,and_true] at e';obtain⟨rfl,rfl⟩:=e';obtain⟨c,iK,_⟩:=hc 0 (by omega);have:b<w.heap.size:=eB w _ iK;omega
theorem aHm{w wr w1:World}{g n cap gr m rc gb:Nat}{a:Option Addr}{ls:List ByteArray}{l:List UInt8}(hg:g<w.heap.size)(h:InC w wr g a n cap gr m rc ls gb l)(hs:Src w1 g a n cap)(nH:wr.grownBy w1 (some g)):InC w w1 g a n cap gr m rc ls gb l:=by
 obtain⟨h1,h2,h3,h4,h5,h6⟩:=h;exact⟨h1.kept nH (lD h1 h2 (by decide)),hs,aZ h3 nH,Uy h4 nH (by omega),h5,h6⟩
theorem aKx{w wr:World}{g n cap gr m rc gb k:Nat}{a:Option Addr}{ls:List ByteArray}{l:List UInt8}(hg:g<w.heap.size)(iB:qJ w g a n)(h:InC w wr g a n cap gr m rc ls gb l)(hk:k<l.length)(z:Int)(iJ:0<=z)(fP:z<256):
 ∃ l',l'.length=l.length∧InC w (wr.setCell ⟨gb,k,none⟩ (.int .u8 z)) g a n cap gr m rc ls gb l':=by
 obtain⟨h1,h2,h3,h4,h5,h6⟩:=h;obtain⟨d,rfl⟩:=QX iJ fP;refine⟨l.set k d,by simp,h1.kept (row:=some gb) ⟨rfl,rfl,rfl,by simp,fun q _ hq=>heap_setCell_other wr ⟨gb,k,none⟩ q _ (fun e=>hq (by simp [e]))⟩ (.inr (by simpa [Value.ownBlock] using h5)),BS h2 (by omega) (Hy iB h6),PR h3 h6,h4.set hk,h5,h6⟩
theorem Qs{ls:List ByteArray}{k:Nat}{x y:ByteArray}(h:ls[k]? =some x)(he:y.size=x.size):Nm.dP (ls.set k y)=Nm.dP ls:=by
 have hk:k<ls.length:=(dK h).1;have hx:ls[k]=x:=(dK h).2
 have e1:ls=ls.take k++(x::ls.drop (k+1)):=by
  rw [<- hx,<- List.drop_eq_getElem_cons hk,List.take_append_drop]
 have e2:ls.set k y=ls.take k++(y::ls.drop (k+1)):=by
  rw [List.set_eq_take_append_cons_drop,if_pos hk]
 rw [e2,Nm.qV]
 conv=>rhs;rw [e1,Nm.qV]
 simp [Nm.dP,he]
theorem Yi{w wr:World}{g n cap gr m rc gb k:Nat}{a:Option Addr}{ls:List ByteArray}{l:List UInt8}(hg:g<w.heap.size)(iB:qJ w g a n)(h:InC w wr g a n cap gr m rc ls gb l)(hw:w.heap.size<=gr)(y:ByteArray):
 (wr.setCell ⟨gr,k,none⟩ (.string y)).ownsRow w.heap.size 9 1 (.slice (some ⟨gr,0,none⟩) m rc) m ((ls.set k y).map Value.string)∧Src (wr.setCell ⟨gr,k,none⟩ (.string y)) g a n cap∧w.grownBy (wr.setCell ⟨gr,k,none⟩ (.string y)) (some g):=by
 obtain⟨h1,h2,h3,h4,h5,h6⟩:=h;refine⟨?_,BS h2 (by omega) (Hy iB hw),PR h3 hw⟩;have:=(h1.stored k (.string y)).1;rw [List.map_set];exact this
theorem aD6{w wr W:World}{g n cap gr m rc:Nat}{a:Option Addr}{ls:List ByteArray}{l:List UInt8}(h1:wr.ownsRow w.heap.size 9 1 (.slice (some ⟨gr,0,none⟩) m rc) m (ls.map Value.string))(h2:Src wr g a n cap)(h3:w.grownBy wr (some g))(hb:Below wr.heap.size wr W)(hr:EJ W wr.heap.size l):
 InC w W g a n cap gr m rc ls wr.heap.size l:=by
 have bV:=h1.lt gr rfl;exact⟨h1.kept (row:=none) ⟨hb.os,hb.tape,hb.output,hb.size,fun k hk _=>hb.block k hk⟩ (.inr (by simp [Value.ownBlock])),bH h2 hb,bM h3 hb,hr,by omega,h3.size⟩
theorem yR(g:Nat)(a:Option Addr)(n cap:Nat)(nm:ByteArray)(w:World)(h:Src w g a n cap)(hz:nm.size<=maxLen):
 Calls Tryz.prog 30 #[.pointer (some ⟨g,0,none⟩),.string nm] w fun e w'=>∃ s:ByteArray,e=.returned (.string s)∧s.size<=255∧Src w' g a n cap∧w.grownBy w' (some g):=by
 obtain⟨iB,BG⟩:=uH h;have nA:=jZ nm w hz
 have hws:Nm.dP ((Nm.split nm).getD [])<=254:=by
  cases hq:Nm.split nm with
  |none=>simp [Nm.dP]
  |some ls=>have:=Nm.gW hq;simp;omega
 generalize (Nm.split nm).getD []=ls at*;generalize (Nm.split nm).isSome=ok at*;go_enter Tryz.func30,Tryz.ntmps30;go_wp2_with fail
 refine nA.mono ?_;rintro e w1 ⟨v,rfl,aU,aJ⟩;have nJ:=bH h aJ;have rP:=bM (World.grownBy.refl w (some g)) aJ;clear nA h aJ
 by_cases hn:ls=[]
 ·subst hn;have hr:=Nm.dX.aS (ls:=[]) aU;have hr':=hr;obtain⟨ra,rcap,rfl,gY,kK,TV,hc⟩:=hr';clear aU hc TV;go_wp2
  go_loop [7] (fun i=>i=.int .i64 0) (fun _=>0)
  case atStart=>rfl
  subst hrel;go_wp2_with (go_at_call 69;refine(cB _ [] _ hr (by simp [Nm.dP])).mono ?_;rintro e w2 ⟨rfl,lQ⟩)
  go_ret;exact⟨_,rfl,by rw [iH];simp [Nm.dP],bH nJ lQ,bM rP lQ⟩
 have hlp:0<ls.length:=List.length_pos_iff.2 hn
 obtain⟨gr,rc,cur,rfl,hg⟩:∃ g cap cur,v=.slice (some ⟨g,0,none⟩) ls.length cap∧w.heap.size<=g∧ls.length<=cap∧cap<=maxLen∧w1.heap[g]? =some (.cells cur 9 (0,0)):=by
  rcases aU.2 with⟨rfl,h0⟩|⟨g,cap,cur,rfl,hb,hg,YX,hm,_⟩
  ·omega
  exact⟨g,cap,cur,rfl,hb,YX,hm,hg⟩
 obtain⟨hwg,YX,hm,_⟩:=hg;unfold maxLen at hm;generalize hm0:ls.length=m at*;go_wp2
 go_loopw [7] (fun i wr=>∃ (k:Nat) (ls2:List ByteArray),k<=m∧i=.int .i64 k∧ls2.length=m∧Nm.dP ls2<=254∧wr.ownsRow w.heap.size 9 1 (.slice (some ⟨gr,0,none⟩) m rc) m (ls2.map Value.string)∧Src wr g a n cap∧w.grownBy wr (some g))
  (fun i _=>m-(intOf i).toNat)
 case atStart=>exact⟨0,ls,dO _,rfl,hm0,hws,aU,nJ,rP⟩
 obtain⟨k,ls2,hk,rfl,EI,DU,dW,oI,oN⟩:=hrel;clear aU nJ rP hws hm0 hn;have wM:=oN.size
 by_cases bV:k<m
 ·obtain⟨x,hx⟩:∃ x,ls2[k]? =some x:=⟨_,bY (by omega)⟩
  have Jf:x.size<=254:=by
   have:=Qs (y:=x) hx rfl;have h1:=Nm.Cc hx;have h2:=Nm.AV ls2 (k+1);omega
  have yB:wr.cell? ⟨gr,k,none⟩=some (.string x):=by
   rw [dW.cellAt k (by omega)];simp [hx]
  obtain⟨cp,W,QN,aP4,JZ,eF,SQ⟩:=Ck x wr;have aP5:=aP4 (by unfold maxLen;omega);unfold maxLen at aP5;have aP6:=aD6 dW oI oN SQ eF;have DZ:x.data.toList.length=x.size:=by simp
  clear aP4 eF SQ dW oI oN;go_wp2
  go_loopw [9] (fun i w2=>∃ (j:Nat) (l:List UInt8),j<=x.size∧i=.int .i64 j∧l.length=x.size∧InC w w2 g a n cap gr m rc ls2 wr.heap.size l)
   (fun i _=>x.size-(intOf i).toNat)
  case atStart=>exact⟨0,_,dO _,rfl,DZ,aP6⟩
  rename World=>w2
  obtain⟨j,l,hj,rfl,hll,mK⟩:=hrel;clear aP6 JZ yB
  by_cases hjt:j<x.size
  ·obtain⟨c,hc⟩:∃ c,l[j]? =some c:=⟨_,bY (by omega)⟩;obtain⟨Mg,Ac⟩:=mK.2.2.2.1 j c hc;have hc255:(c.toNat:Int)<256:=by have:=c.toNat_lt;omega
   by_cases h97:97<=c.toNat
   ·by_cases aTk:c.toNat<=122
    ·have d1:decide ((97:Int)<=(c.toNat:Int))=true:=by simp;omega
     have d2:decide ((c.toNat:Int)<=122)=true:=by simp;omega
     have d3:(97:Int)<=(c.toNat:Int):=by omega
     have d4:(c.toNat:Int)<=122:=by omega
     clear h97 aTk;go_wp2_with fail
     refine(aY g a n cap 3 _ mK.2.1 (by decide)).mono ?_;rintro e w3 ⟨r,rfl,OD,rH,qD,iA⟩;have aKy:=aHm BG mK qD iA;obtain⟨aTl,aTm⟩:=aKy.2.2.2.1 j c hc;clear Mg Ac rH qD iA
     by_cases hr:r=0
     ·subst hr;obtain⟨l',Es,aP7⟩:=aKx BG iB aKy (k:=j) (by omega) ((c.toNat:Int)-32) (by omega) (by omega);have HI:=Nm.aF aP7;clear aP7 aKy mK hc;go_wp2;go_roundw
      case rel=>exact⟨j+1,l',by omega,by go_num,by omega,HI.out⟩
      simp [intOf];omega
     have hr':(r==0)=false:=by rw [dC];exact hr
     clear aTl aTm;go_wp2;go_roundw
     case rel=>exact⟨j+1,l,by omega,by go_num,hll,aKy⟩
     simp [intOf];omega
    have d1:decide ((97:Int)<=(c.toNat:Int))=true:=by simp;omega
    have d2:decide ((c.toNat:Int)<=122)=false:=by simp;omega
    have d3:(97:Int)<=(c.toNat:Int):=by omega
    have d4:(122:Int)<(c.toNat:Int):=by omega
    go_wp2;go_roundw
    case rel=>exact⟨j+1,l,by omega,by go_num,hll,mK⟩
    simp [intOf];omega
   have d1:decide ((97:Int)<=(c.toNat:Int))=false:=by simp;omega
   have d3:(c.toNat:Int)<97:=by omega
   go_wp2;go_roundw
   case rel=>exact⟨j+1,l,by omega,by go_num,hll,mK⟩
   simp [intOf];omega
  have hje:j=x.size:=by omega
  subst hje;have TR:=aCo (cap:=cp) (k:=x.size) mK.2.2.2.1 (by omega);have hys:=Fs (l.take x.size);generalize ByteArray.mk (l.take x.size).toArray=y at*;have Lu:y.size=x.size:=by rw [hys,List.length_take];omega
  have hcr:w2.cell? ⟨gr,k,none⟩=some (.string x):=by
   rw [mK.1.cellAt k (by omega)];simp [hx]
  have ZA:=mK.1.frozenAt k;have HI:=Nm.aF (Yi (k:=k) BG iB mK hwg y);have hwy:=Qs hx Lu;clear mK hys hjt;go_wp2;go_roundw
  case rel=>exact⟨k+1,_,by omega,by go_num,by simpa using EI,by omega,HI.out.1,HI.out.2.1,HI.out.2.2⟩
  simp [intOf];omega
 have nS:k=m:=by omega
 subst nS;go_wp2_with (go_at_call 69;refine(cB _ ls2 _ (Nm.dX.aS (by rw [EI];exact dW)) (by omega)).mono ?_;rintro e w3 ⟨rfl,DN⟩)
 go_ret;exact⟨_,rfl,by rw [iH];omega,bH oI DN,bM oN DN⟩
structure Dr (w0:World) (g:Nat) (a:Option Addr) (n cap:Nat) (w:World):Prop where
 s:Src w g a n cap
 gr:w0.grownBy w (some g)
 lt:g<w0.heap.size
 code:qJ w0 g a n
theorem Dr.start{w:World}{g n cap:Nat}{a:Option Addr}(h:Src w g a n cap):Dr w g a n cap w:=⟨h,World.grownBy.refl _ _,(uH h).2,(uH h).1⟩
theorem Dr.step{w0 w w1:World}{g n cap:Nat}{a:Option Addr}(d:Dr w0 g a n cap w)(h:Src w1 g a n cap)(hg:w.grownBy w1 (some g)):Dr w0 g a n cap w1:=⟨h,aZ d.gr hg,d.lt,d.code⟩
theorem Dr.below{w0 w w1:World}{g n cap:Nat}{a:Option Addr}(d:Dr w0 g a n cap w)(h:Below w.heap.size w w1):Dr w0 g a n cap w1:=⟨bH d.s h,bM d.gr h,d.lt,d.code⟩
theorem Dr.alloc{w0 w:World}{g n cap:Nat}{a:Option Addr}(d:Dr w0 g a n cap w)(o:Obj):Dr w0 g a n cap (w.alloc o):=d.below ((aK _ _).alloc (aN _) _)
theorem Dr.row{w0 w w1:World}{g n cap:Nat}{a:Option Addr}{row:Option Nat}(d:Dr w0 g a n cap w)(hg:w.grownBy w1 row)(hr:∀ k,row=some k->w0.heap.size<=k):Dr w0 g a n cap w1:=⟨GN d.s hg hr d.lt d.code,zQ d.gr hg hr,d.lt,d.code⟩
theorem Dr.keep{w0 w w1:World}{g n cap e sz m:Nat}{a:Option Addr}{v:Value}{xs:List Value}(d:Dr w0 g a n cap w)(h:w.ownsRow w0.heap.size e sz v m xs)(hg:w.grownBy w1 (some g)):w1.ownsRow w0.heap.size e sz v m xs:=by
 refine h.kept hg ?_
 cases hv:v.ownBlock with
 |none=>exact .inl rfl
 |some k=>
  have h1:=(h.lt k hv).1;have h2:=d.lt;right;simp only [ne_eq,mP];omega
theorem Dr.size{w0 w:World}{g n cap:Nat}{a:Option Addr}(d:Dr w0 g a n cap w):w0.heap.size<=w.heap.size:=d.gr.size
def ZR(r:Rr):Prop:=r.own.size<=1000∧r.da.size<=3200
theorem BX{xs:List Rr}{y:Rr}(h:∀ r∈xs,ZR r)(hy:ZR y):∀ r∈xs++[y],ZR r:=by
 intro r hr
 rcases jS hr with hr|hr
 ·exact h r hr
 simp at hr;subst hr;exact hy
theorem Yj{w0:World}{g n cap:Nat}{a:Option Addr}(v:Value)(xs:List Rr)(o:ByteArray)(t:Int)(d:ByteArray)(w:World)(D:Dr w0 g a n cap w)(hr:w.ownsRow w0.heap.size 29 5 v xs.length (bK xs))(hl:xs.length<=10000)(hx:∀ r∈xs,ZR r)(ho:o.size<=1000)(hd:d.size<=3200):
 Calls Tryz.prog 56 #[.pointer (some ⟨g,0,none⟩),v,.string o,.int .i64 t,.string d] w fun e w'=>∃ u y,e=.returned u∧ZR y∧w'.ownsRow w0.heap.size 29 5 u (xs++[y]).length (bK (xs++[y]))∧Dr w0 g a n cap w':=by
 obtain⟨i0,hi,iJ,fP,fZ⟩:=info_parts Tryz.GM;have HSM:=Nm.aF (fun(x:Rr) (hx:x.own.size<=1000) W=>gU x.own o W (by unfold maxLen;omega) (by unfold maxLen;omega));have HX:=Nm.aF hx;obtain⟨va,vc,rfl⟩:=aT hr;obtain⟨_,va',vc',ee,gY,kK,hc⟩:=bS.aS hr;simp only [iG] at ee;obtain⟨rfl,_,rfl⟩:=ee;have HR:=Nm.aF hr;have HD:=Nm.aF D;clear hx hr D;go_enter Tryz.func56,Tryz.ntmps56;go_wp2
 go_loopw [11,12] (fun tv iv wr=>∃ (k:Nat) (tt:Int),k<=xs.length∧iv=.int .i64 k∧tv=.int .i64 tt∧Below w.heap.size w wr) (fun _ i _=>xs.length-(intOf i).toNat)
 case atStart=>exact⟨0,3600,dO _,rfl,rfl,aK _ _⟩
 obtain⟨k,tt,hk,rfl,rfl,hb⟩:=hrel
 by_cases bV:k<xs.length
 ·obtain⟨x,nI⟩:∃ x,xs[k]? =some x:=⟨_,bY bV⟩;obtain⟨b,off,rfl,aL⟩:=hc (by omega);obtain⟨c0,c1,c2,c3,c4⟩:=gT aL nI;have put:∀ {O:Nat} {z:Value},w.cell? ⟨b,O,none⟩=some z->wr.cell? ⟨b,O,none⟩=some z:=fun h=>(hb.cell (eB w _ h)).trans h
  replace c0:=put c0
  replace c1:=put c1
  replace c3:=put c3
  have xQ:=HSM.out x (HX.out x (bP nI)).1 wr;have i1:(0:Int)<=(k:Int):=by omega
  have i2:(k:Int)<(xs.length:Int):=by omega
  clear c2 c4 aL nI put hc;obtain⟨ow,ty,cl,tx,da⟩:=x;simp only at c0 c1 c3 xQ
  by_cases e1:ty=t
  ·have n1:(ty==t)=true:=by simp [e1]
   cases BL:jB ow o with
   |true=>
    rw [BL] at xQ;clear BL e1;go_wp2_with fail
    refine xQ.mono ?_;rintro e w2 ⟨rfl,b2⟩;have d3:=(b2.cell (eB wr _ c3)).trans c3;have iE:=Nm.aC hb b2;clear xQ c0 c1 c3 hb b2;go_wp2;go_roundw
    case rel=>exact⟨k+1,tx,bV,by go_num,rfl,iE⟩
    simp [intOf];omega
   |false=>
    rw [BL] at xQ;clear BL e1;go_wp2_with fail
    refine xQ.mono ?_;rintro e w2 ⟨rfl,b2⟩;have iE:=Nm.aC hb b2;clear xQ c0 c1 c3 hb b2;go_wp2;go_roundw
    case rel=>exact⟨k+1,tt,bV,by go_num,rfl,iE⟩
    simp [intOf];omega
  have n1:(ty==t)=false:=by simpa using e1
  clear e1 xQ c0 c3;go_wp2;go_roundw
  case rel=>exact⟨k+1,tt,bV,by go_num,rfl,hb⟩
  simp [intOf];omega
 have nS:k=xs.length:=by omega
 subst nS;have D1:=HD.out.below hb;have rH:=own_below HR.out hb;have i3:¬(xs.length:Int)<(xs.length:Int):=by omega
 clear hc HR HD HSM HX hb hk bV;go_wp2_with fail
 refine(aY g a n cap 12 _ D1.s (by decide)).mono ?_;rintro e w2 ⟨q,rfl,hq0,ML,oI,oN⟩;have D2:=D1.step oI oN;have uR:=D1.keep rH oN;clear D1 rH oI oN ML
 by_cases hq:q=0
 ·subst hq;go_wp2_with fail
  refine(yR g a n cap o _ D2.s (by unfold maxLen;omega)).mono ?_;rintro e w3 ⟨s,rfl,hs,qD,iA⟩;have D3:=D2.step qD iA;have hr3:=D2.keep uR iA;have nJ:s.size<=1000:=by omega
  clear D2 uR qD iA;have hz:=(D3).size;go_wp2_with (at_builtin;refine wpList_append_own _ rfl (.tmp 46) (.tmp 52) 30 rfl w0.heap.size 29 i0 _ 5 56 Tryz.underlying30 hi iJ fP fZ rfl (by decide) _ _ _ rfl ((hr3).alloc _) ⟨(w3).heap.size,0,none⟩ 1 1 [.string s,.int .i64 t,.int .i64 1,.int .i64 tt,.string d] rfl rfl (dU w3 #[.string s,.int .i64 t,.int .i64 1,.int .i64 tt,.string d] 29) (by intro u hu;simp at hu;rcases hu with rfl|rfl|rfl|rfl|rfl<;>rfl) (by unfold maxLen;omega) (by omega) (by simp;omega) ?_)
  intro v9 w9 gZ gV _;have D9:=((D3).alloc (.cells #[.string s,.int .i64 t,.int .i64 1,.int .i64 tt,.string d] 29)).row gV (fun k hk=>((hr3).lt k hk).1);clear gV hz;go_wp2;go_ret;refine⟨_,⟨s,t,1,tt,d⟩,rfl,⟨nJ,hd⟩,?_,D9⟩;rw [jX,nG];exact gZ
 have n2:(q==0)=false:=by rw [dC];exact hq
 have hz:=(D2).size;go_wp2_with (at_builtin;refine wpList_append_own _ rfl (.tmp 46) (.tmp 52) 30 rfl w0.heap.size 29 i0 _ 5 56 Tryz.underlying30 hi iJ fP fZ rfl (by decide) _ _ _ rfl ((uR).alloc _) ⟨(w2).heap.size,0,none⟩ 1 1 [.string o,.int .i64 t,.int .i64 1,.int .i64 tt,.string d] rfl rfl (dU w2 #[.string o,.int .i64 t,.int .i64 1,.int .i64 tt,.string d] 29) (by intro u hu;simp at hu;rcases hu with rfl|rfl|rfl|rfl|rfl<;>rfl) (by unfold maxLen;omega) (by omega) (by simp;omega) ?_)
 intro v9 w9 gZ gV _;have D9:=((D2).alloc (.cells #[.string o,.int .i64 t,.int .i64 1,.int .i64 tt,.string d] 29)).row gV (fun k hk=>((uR).lt k hk).1);clear gV hz;go_wp2;go_ret;refine⟨_,⟨o,t,1,tt,d⟩,rfl,⟨ho,hd⟩,?_,D9⟩;rw [jX,nG];exact gZ
section
variable {w0 w:World}{g n cap:Nat}{a:Option Addr}
theorem Dr.cell(d:Dr w0 g a n cap w){b o:Nat}{x:Value}(h:w0.cell? ⟨b,o,none⟩=some x)(dQ:b≠g):w.cell? ⟨b,o,none⟩=some x:=d.gr.cell h (by simp;exact dQ)
theorem Dr.set(d:Dr w0 g a n cap w){b i:Nat}(h:w0.heap.size<=b)(x:Value):Dr w0 g a n cap (w.setCell ⟨b,i,none⟩ x):=
 d.row (row:=some b) ⟨rfl,rfl,rfl,by simp,fun k _ hk=>heap_setCell_other w ⟨b,i,none⟩ k x (fun e=>hk (by simp [e]))⟩ (fun k hk=>by simp at hk;omega)
end
theorem XW{w:World}{B C e f s r m k:Nat}{v u:Value}{xs ys:List Value}(h:w.ownsRow B e s v m xs)(h':w.ownsRow C f r u k ys)(dQ:e≠f):∀ q,v.ownBlock=some q->u.ownBlock≠some q:=by
 intro q hq hq'
 rcases h.2 with⟨rfl,_⟩|⟨q1,c1,cur1,rfl,_,g1,_⟩
 ·simp [Value.ownBlock] at hq
 rcases h'.2 with⟨rfl,_⟩|⟨q2,c2,aOn,rfl,_,g2,_⟩
 ·simp [Value.ownBlock] at hq'
 simp only [Value.ownBlock,mP] at hq hq';subst hq;subst hq';rw [g1] at g2;simp at g2;exact dQ g2.2
theorem dH.other{w w':World}{B C f r m:Nat}{v u:Value}{ps:List Zp}{ys:List Value}(h:dH w B v ps)(ho:w.ownsRow C f r u m ys)(h1:f≠60)(h2:f≠9)(hg:w.grownBy w' u.ownBlock):dH w' B v ps:=
 h.beside hg (fun q hq=>XW ho h.outer h1 q hq) (fun q hq p hp=>by
  obtain⟨i,hi⟩:=List.getElem?_of_mem hp
  exact XW ho (h.inner i p hi) h2 q hq)
theorem dH.dL{w:World}{B c i:Nat}{v x:Value}{ps:List Zp}{cs:Array Value}{T:TypeId}(h:dH w B v ps)(hk:bG w c cs T)(h1:60≠T)(h2:9≠T):dH (w.setCell ⟨c,i,none⟩ x) B v ps:=
 h.beside (b:=some c) ⟨rfl,rfl,rfl,by simp,fun k _ hk=>heap_setCell_other w ⟨c,i,none⟩ k x (fun e=>hk (by simp [e]))⟩ (fun q hq=>by cases hq;exact bW h.outer hk h1) (fun q hq p hp=>by
  cases hq
  obtain⟨j,hj⟩:=List.getElem?_of_mem hp
  exact bW (h.inner j p hj) hk h2)
theorem NG{w:World}{B e s m c i:Nat}{v x:Value}{xs:List Value}{cs:Array Value}{T:TypeId}(h:w.ownsRow B e s v m xs)(hk:bG w c cs T)(dQ:e≠T):(w.setCell ⟨c,i,none⟩ x).ownsRow B e s v m xs:=
 h.kept (row:=some c) ⟨rfl,rfl,rfl,by simp,fun k _ hk=>heap_setCell_other w ⟨c,i,none⟩ k x (fun e=>hk (by simp [e]))⟩ (.inr (bW h hk dQ))
theorem aTn(v n:Nat):(⟨(WI v n).toArray⟩:ByteArray).size=n:=by rw [aGh,Qb]
theorem rC(v n:Nat)(w:World)(hv:v<=4611686018427387904)(hn1:1<=n)(hn:n<=8):
 Calls Tryz.prog 91 #[.int .i64 (v:Int),.int .i64 (n:Int)] w fun e w'=>∃ s:ByteArray,e=.returned (.string s)∧s.size=n∧Below w.heap.size w w':=
 (Qc v n w hv hn1 hn).mono fun e w' ⟨h1,h2⟩=>⟨_,h1,aTn v n,h2⟩
def DX(ap b:ByteArray):ByteArray:=tL [⟨#[110,115,49]⟩] ap++tL [⟨#[97,100,109,105,110]⟩] ap++b
theorem BZ(ap:ByteArray)(sr lo:Nat)(tt:Int)(w:World)(ha:ap.size<=1000)(hs:sr<=4294967296)(hlo:lo<=4294967296):
 Calls Tryz.prog 52 #[.string ap,.int .i64 (sr:Int),.int .i64 tt,.int .i64 (lo:Int)] w fun e w'=>∃ b:ByteArray,e=.returned (.agg #[.string ap,.int .i64 6,.int .i64 1,.int .i64 tt,.string (DX ap b)])∧b.size=20∧Below w.heap.size w w':=by
 have ZG:∀ (W:World) (p:Nat),p=W.heap.size->Calls Tryz.prog 55 #[.slice (some ⟨p,0,none⟩) 1 1,.string ap] (W.alloc (.cells #[.string ⟨#[110,115,49]⟩] 9)) fun e w'=>∃ s:ByteArray,e=.returned (.string s)∧s=tL [⟨#[110,115,49]⟩] ap∧Below W.heap.size W w':=fun W p hp=>by
  subst hp;exact(yL _ _ ap _ (Dc W ⟨#[110,115,49]⟩) (by decide) (by omega)).mono fun e w' ⟨h1,h3⟩=>⟨_,h1,rfl,Nm.aC ((aK _ _).alloc (aN _) _) h3⟩
 have hS2:∀ (W:World) (p:Nat),p=W.heap.size->Calls Tryz.prog 55 #[.slice (some ⟨p,0,none⟩) 1 1,.string ap] (W.alloc (.cells #[.string ⟨#[97,100,109,105,110]⟩] 9)) fun e w'=>∃ s:ByteArray,e=.returned (.string s)∧s=tL [⟨#[97,100,109,105,110]⟩] ap∧Below W.heap.size W w':=fun W p hp=>by
  subst hp;exact(yL _ _ ap _ (Dc W ⟨#[97,100,109,105,110]⟩) (by decide) (by omega)).mono fun e w' ⟨h1,h3⟩=>⟨_,h1,rfl,Nm.aC ((aK _ _).alloc (aN _) _) h3⟩
 have hP1:=fun W=>rC sr 4 W (by omega) (by decide) (by decide)
 have hP2:=fun W=>rC 7200 4 W (by decide) (by decide) (by decide)
 have hP3:=fun W=>rC 900 4 W (by decide) (by decide) (by decide)
 have hP4:=fun W=>rC 86400 4 W (by decide) (by decide) (by decide)
 have hP5:=fun W=>rC lo 4 W (by omega) (by decide) (by decide)
 have b0:=(aK w.heap.size w).alloc (aN _) (.cells #[.string ByteArray.empty,.int .i64 0,.int .i64 0,.int .i64 0,.string ByteArray.empty] 29);have k0:=aH w #[.string ByteArray.empty,.int .i64 0,.int .i64 0,.int .i64 0,.string ByteArray.empty] 29;go_enter Tryz.func52,Tryz.ntmps52;go_wp2_with fail
 refine(ZG _ _ (by simp)).mono ?_;rintro e w1 ⟨s1,rfl,z1,b1⟩;have Z1:=Nm.aF z1;have y1:s1.size<=2000:=by rw [z1,sG,show Nm.dP [(⟨#[110,115,49]⟩:ByteArray)]=4 from rfl];omega
 clear z1;have mO:=Nm.aC b0 b1;have k1:=aB k0 b1;go_wp2_with fail
 refine(hS2 _ _ (by simp)).mono ?_;rintro e w2 ⟨s2,rfl,z2,b2⟩;have Z2:=Nm.aF z2;have y2:s2.size<=2000:=by rw [z2,sG,show Nm.dP [(⟨#[97,100,109,105,110]⟩:ByteArray)]=6 from rfl];omega
 clear z2;have vO:=Nm.aC mO b2;have k2:=aB k1 b2;go_wp2_with fail
 refine(hP1 _).mono ?_;rintro e w3 ⟨s3,rfl,z3,b3⟩;have Z3:=Nm.aF z3;have y3:s3.size<=2000:=by omega
 clear z3;have TB:=Nm.aC vO b3;have k3:=aB k2 b3;go_wp2_with fail
 refine(hP2 _).mono ?_;rintro e w4 ⟨s4,rfl,z4,b4⟩;have Z4:=Nm.aF z4;have y4:s4.size<=2000:=by omega
 clear z4;have xS:=Nm.aC TB b4;have k4:=aB k3 b4;go_wp2_with fail
 refine(hP3 _).mono ?_;rintro e w5 ⟨s5,rfl,z5,b5⟩;have Z5:=Nm.aF z5;have y5:s5.size<=2000:=by omega
 clear z5;have RO:=Nm.aC xS b5;have k5:=aB k4 b5;go_wp2_with fail
 refine(hP4 _).mono ?_;rintro e w6 ⟨s6,rfl,z6,b6⟩;have Z6:=Nm.aF z6;have y6:s6.size<=2000:=by omega
 clear z6;have bw6:=Nm.aC RO b6;have k6:=aB k5 b6;go_wp2_with fail
 refine(hP5 _).mono ?_;rintro e w7 ⟨s7,rfl,z7,b7⟩;have Z7:=Nm.aF z7;have y7:s7.size<=2000:=by omega
 clear z7;have bw7:=Nm.aC bw6 b7;have k7:=aB k6 b7;have fz:=fun i=>aG k7 i
 have rz:=fun i=>aA k7 i
 have HD:Hid ((s3++s4++s5++s6++s7).size=20):=by
  show _=_
  simp only [jV];have h3:=Z3.out;have h4:=Z4.out;have h5:=Z5.out;have h6:=Z6.out;have h7:=Z7.out;omega
 have HV:Hid (s1++s2++s3++s4++s5++s6++s7=DX ap (s3++s4++s5++s6++s7)):=by
  show _=_
  rw [DX,<- Z1.out,<- Z2.out];simp only [ByteArray.append_assoc]
 have kE:=dJ [.string ap,.int .i64 6,.int .i64 1,.int .i64 tt,.string (s1++s2++s3++s4++s5++s6++s7)] k7 rfl;have eE:cO w7 w.heap.size 0 [.string ap,.int .i64 6,.int .i64 1,.int .i64 tt,.string (s1++s2++s3++s4++s5++s6++s7)]=(((((w7).setCell ⟨w.heap.size,0,none⟩ (.string ap)).setCell ⟨w.heap.size,1,none⟩ (.int .i64 6)).setCell ⟨w.heap.size,2,none⟩ (.int .i64 1)).setCell ⟨w.heap.size,3,none⟩ (.int .i64 tt)).setCell ⟨w.heap.size,4,none⟩ (.string (s1++s2++s3++s4++s5++s6++s7)):=rfl
 have bE:Below w.heap.size w (cO w7 w.heap.size 0 [.string ap,.int .i64 6,.int .i64 1,.int .i64 tt,.string (s1++s2++s3++s4++s5++s6++s7)]):=by
  rw [eE];exact((((bw7.setCell (aN _) _).setCell (aN _) _).setCell (aN _) _).setCell (aN _) _).setCell (aN _) _
 have HE:=Nm.aF (aV eE (aV bE (fun i=>aA kE i)));clear eE bE kE mO vO TB xS RO bw6 bw7 k0 k1 k2 k3 k4 k5 k6 k7 b0 b1 b2 b3 b4 b5 b6 b7;go_wp2;obtain⟨eE,bE,rE⟩:=HE.out;rw [<- eE];refine gD (v:=.agg #[.string ap,.int .i64 6,.int .i64 1,.int .i64 tt,.string (s1++s2++s3++s4++s5++s6++s7)]) ?_ rfl ⟨s3++s4++s5++s6++s7,by rw [<- HV.out],HD.out,bE⟩;simp [results,Tryz.results52,go_sem,Result.andThen,rE]
def uO(w:World)(B:Nat)(v:Value)(ps:List Zp):Prop:=w.ownsRow B 60 4 v ps.length (pM ps)∧∀ p∈ps,w.ownsRow B 9 1 p.2 p.1.da.length (p.1.da.map Value.string)
def XX(w:World)(B:Nat)(v:Value)(ps:List Zp):Prop:=∀ W:World,(∀ b,B<=b->b<w.heap.size->(∀ cs,w.heap[b]? ≠some (.cells cs 25 (0,0)))->W.heap[b]? =w.heap[b]?)->gI W v ps
section
variable {w:World}{B:Nat}{v:Value}{ps:List Zp}
theorem dH.has(h:dH w B v ps):uO w B v ps:=⟨h.outer,fun p hp=>by obtain⟨i,hi⟩:=List.getElem?_of_mem hp;exact h.inner i p hi⟩
theorem uO.dL{c i:Nat}{x:Value}{cs:Array Value}{T:TypeId}(h:uO w B v ps)(hk:bG w c cs T)(h1:60≠T)(h2:9≠T):uO (w.setCell ⟨c,i,none⟩ x) B v ps:=
 ⟨eU h.1 (bW h.1 hk h1),fun p hp=>eU (h.2 p hp) (bW (h.2 p hp) hk h2)⟩
theorem uO.put{g cap j i:Nat}{p q:Zp}{y:Value}(h:uO w B (.slice (some ⟨g,0,none⟩) ps.length cap) ps)(hp:ps[j]? =some p)(hi:i<4)(hz:(Sj p).set i y=Sj q)(hq:∀ X:World,X.ownsRow B 9 1 p.2 p.1.da.length (p.1.da.map Value.string)->X.ownsRow B 9 1 q.2 q.1.da.length (q.1.da.map Value.string)):uO (w.setCell ⟨g,j*4+i,none⟩ y) B (.slice (some ⟨g,0,none⟩) ps.length cap) (ps.set j q):=by
 have hj:=(dK hp).1
 have e1:(pM ps).set (j*4+i) y=pM (ps.set j q):=by
  obtain⟨e2,e3⟩:ps=ps.take j++[p]++ps.drop (j+1)∧ps.set j q=ps.take j++[q]++ps.drop (j+1):=by
   have Ew:=dK hp;constructor
   ·conv=>lhs;rw [<- List.take_append_drop j ps,List.drop_eq_getElem_cons Ew.1,Ew.2]
    simp
   rw [List.set_eq_take_append_cons_drop,if_pos hj];simp
  have hl:(pM (ps.take j)).length=j*4:=by rw [LW,List.length_take];omega
  rw [e3]
  conv=>lhs;rw [e2]
  have hp4:(Sj p).length=4:=rfl;rw [zN,zN,zN,zN,List.append_assoc,List.append_assoc,List.set_append_right _ _ (by omega),hl,show j*4+i-j*4=i by omega];congr 1;have s1:pM [p]=Sj p:=by simp [pM]
  have s2:pM [q]=Sj q:=by simp [pM]
  rw [s1,s2,List.set_append_left _ _ (by omega),hz]
 have oG:=(h.1.stored (j*4+i) y).1;rw [e1] at oG;have far:∀ {r:Zp},r∈ps->(w.setCell ⟨g,j*4+i,none⟩ y).ownsRow B 9 1 r.2 r.1.da.length (r.1.da.map Value.string):=fun {r} hr=>eU (h.2 r hr) (jO (h.2 r hr) h.1 (by decide) g rfl)
 refine⟨by rw [List.length_set];exact oG,fun r hr=>?_⟩
 rcases List.mem_or_eq_of_mem_set hr with hr|rfl
 ·exact far hr
 exact hq _ (far (bP hp))
theorem uO.app{w1:World}{v1:Value}{p:Zp}(h:uO w B v ps)(hp:p∈ps)(ho:w1.ownsRow B 60 4 v1 (ps.length+1) (pM ps++Sj p))(hg:w.grownBy w1 v.ownBlock):uO w1 B v1 (ps++[p]):=by
 have e:pM (ps++[p])=pM ps++Sj p:=by simp [pM]
 have far:∀ {r:Zp},r∈ps->w1.ownsRow B 9 1 r.2 r.1.da.length (r.1.da.map Value.string):=fun {r} hr=>iO (h.2 r hr) hg (jO (h.2 r hr) h.1 (by decide))
 refine⟨by rw [e,nG];exact ho,fun r hr=>?_⟩
 rcases jS hr with hr|hr
 ·exact far hr
 rw [List.mem_singleton.1 hr];exact far hp
theorem Hz{W:World}{e s n:Nat}{xs:List Value}(h:w.ownsRow B e s v n xs)(hW:∀ q,v.ownBlock=some q->W.heap[q]? =w.heap[q]?):W.ownsRow B e s v n xs:=by
 refine⟨h.1,?_⟩
 rcases h.2 with h0|⟨g',cap,cur,rfl,hb,hh,r⟩
 ·exact .inl h0
 refine .inr ⟨g',cap,cur,rfl,hb,?_,r⟩;rw [hW g' rfl];exact hh
theorem uO.kx(h:uO w B v ps):XX w B v ps:=fun W hW=>⟨bS.aS (Hz h.1 fun q hq=>hW q (h.1.lt q hq).1 (h.1.lt q hq).2 fun cs hc=>bW h.1 hc (by decide) hq),fun p hp=>Nm.dX.aS (Hz (h.2 p hp) fun q hq=>hW q ((h.2 p hp).lt q hq).1 ((h.2 p hp).lt q hq).2 fun cs hc=>bW (h.2 p hp) hc (by decide) hq)⟩
theorem XX.BQ(h:XX w B v ps):gI w v ps:=h w fun _ _ _ _=>rfl
theorem XX.base{C:Nat}(h:XX w B v ps)(hC:C<=B):XX w C v ps:=fun W hW=>h W fun b h1=>hW b (by omega)
theorem XX.below{w1:World}(h:XX w B v ps)(hb:Below w.heap.size w w1):XX w1 B v ps:=fun X hX=>h X fun q h1 h2 h3=>(hX q h1 (sP h2 hb.size) fun cs hc=>h3 cs ((hb.block q h2).symm.trans hc)).trans (hb.block q h2)
theorem XX.dL{c i:Nat}{x:Value}{cs:Array Value}(h:XX w B v ps)(hk:bG w c cs 25):XX (w.setCell ⟨c,i,none⟩ x) B v ps:=fun X hX=>h X fun q h1 h2 h3=>by
 have dQ:q≠c:=fun e=>h3 cs (by rw [e];exact hk)
 have h4:=heap_setCell_other w ⟨c,i,none⟩ q x dQ;exact(hX q h1 (by simpa using h2) fun ds hc=>h3 ds (h4.symm.trans hc)).trans h4
end
theorem aD7{w:World}{b off cap:Nat}{p:Zp}{qs:List Zp}(h:gI w (.slice (some ⟨b,off,none⟩) (p::qs).length cap) (p::qs)):gI w (.slice (some ⟨b,off+4,none⟩) qs.length (cap-1)) qs:=by
 obtain⟨⟨_,a,c,e,h1,h2,h3⟩,hd⟩:=h;simp only [iG] at e;obtain⟨rfl,-,rfl⟩:=e;obtain⟨b',off',e2,hc⟩:=h3 (by simp);simp only [mP,Addr.mk.injEq] at e2;obtain⟨rfl,rfl,-⟩:=e2;refine⟨⟨LW qs,_,_,rfl,by simp at h1;omega,by omega,fun _=>⟨b,off+4,rfl,fun i x hx=>?_⟩⟩,fun q hq=>hd q (List.mem_cons_of_mem _ hq)⟩;have:=hc (4+i) x (by rw [GJ,List.getElem?_append_right (by show 4<=_;omega)];simpa [Sj] using hx)
 rwa [<- Nat.add_assoc] at this
theorem Ia(a:Option Addr)(n cap:Nat)(w:World)(hn:n<=1048576):
 Calls Tryz.prog 12 #[.slice a n cap,.int .i64 60] w fun e w'=>∃ k:Nat,e=.returned (.int .i64 (k:Int))∧k<=30∧w'=w:=by
 have hq:((n:Int).tdiv 60)=((n / 60:Nat):Int):=by rw [Int.tdiv_eq_ediv_of_nonneg (by omega)];rfl
 by_cases h:30<n / 60
 ·have h':(30:Int)<((n / 60:Nat):Int):=by omega
  go_enter Tryz.func12,Tryz.ntmps12;go_wp2;go_ret;exact⟨30,rfl,aN _,rfl⟩
 have h':¬(30:Int)<((n / 60:Nat):Int):=by omega
 go_enter Tryz.func12,Tryz.ntmps12;go_wp2;go_ret;exact⟨n / 60,rfl,by omega,rfl⟩
