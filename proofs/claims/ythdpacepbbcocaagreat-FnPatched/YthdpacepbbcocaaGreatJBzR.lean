import Derived.Test.YthdpacepbbcocaaGreatJICheck
set_option linter.unusedVariables false
set_option maxRecDepth 100000
set_option maxHeartbeats 1600000
namespace Go.Proofs.YthdpacepbbcocaaGreat
open Go.RowKit
def recC(r:Rr)(xs ys:List ByteArray):Int:=
 if r.cl≠1 then 19 else if(decide (0<=r.tt)&&decide (r.tt<=2147483647))=false then 18
 else if(decide (0<=r.ty)&&decide (r.ty<=65535))=false then 6 else if mE r.ty=true then 6 else if bQ r.ty r.da≠0 then 7 else if dZ xs ys=false then 22 else 0
theorem TD(r:Rr)(bb:Nat)(v u:Value)(xs ys:List ByteArray)(w:World)(hd:r.da.size<=2000000)(hv:Nm.dX w v xs)(hu:Nm.dX w u ys)(hk:w.cell? ⟨bb,3,none⟩=some u)(Lx:∀ x∈xs,x.size<=1000000000)(hlx:xs.length<=1000000000)(hly:ys.length<=1000000000):
 Calls Tryz.prog 134 #[.pointer (some ⟨bb,0,none⟩),.agg #[.string r.own,.int .i64 r.ty,.int .i64 r.cl,.int .i64 r.tt,.string r.da],v] w fun e w'=>e=.returned (.int .i64 (recC r xs ys))∧Below w.heap.size w w':=by
 have jF:=(aK w.heap.size w).alloc (aN _) (.cells #[.string r.own,.int .i64 r.ty,.int .i64 r.cl,.int .i64 r.tt,.string r.da] 29);have hR0:=RB.new w r 29;have h1:=fun W=>BF r.tt 2147483647 W
 have h2:=fun W=>BF r.ty 65535 W
 have h3:=fun W=>Uh r.ty W
 have h4:=fun W=>yO r.ty r.da W hd
 have h5:=fun W (hW:Below w.heap.size w W)=>Da v u xs ys W (hv.below hW) (hu.below hW) Lx hlx hly
 have hkk:=fun W (hW:Below w.heap.size w W)=>(hW.cell (p:=⟨bb,3,none⟩) (eB w _ hk)).trans hk
 have ev:=hv;obtain⟨va,vc,rfl,_⟩:=ev;have eu:=hu;obtain⟨ua,uc,rfl,_⟩:=eu;obtain⟨Q,hQ⟩:∃ Q,Q=recC r xs ys:=⟨_,rfl⟩;rw [<- hQ];unfold recC at hQ;generalize bQ r.ty r.da=CC at*;generalize dZ xs ys=UB at*;generalize (decide (0<=r.tt)&&decide (r.tt<=2147483647))=TT at*;generalize (decide (0<=r.ty)&&decide (r.ty<=65535))=TY at*;have hmb:∀ b,mE r.ty=b->True:=fun _ _=>trivial
 generalize mE r.ty=MB at*;clear hmb hv hu hk;obtain⟨o,ty,cl,tt,da⟩:=r;simp only [RB] at*;obtain⟨c0,c1,c2,c3,c4⟩:=hR0
 by_cases xW:cl=1
 ·rw [if_neg (by simpa using xW)] at hQ;subst xW;have ncl:((1:Int) != 1)=false:=rfl;cases TT
  ·simp only [if_true] at hQ;subst hQ;clear h2 h3 h4 h5 hkk;go_enter Tryz.func134,Tryz.ntmps134;go_wp2_with fail
   refine(h1 _).mono ?_;rintro e w1 ⟨rfl,rfl⟩;go_wp2;go_ret;exact⟨rfl,jF⟩
  simp only [Bool.true_eq_false,if_false] at hQ;cases TY
  ·simp only [if_true] at hQ;subst hQ;clear h3 h4 h5 hkk;go_enter Tryz.func134,Tryz.ntmps134;go_wp2_with fail
   refine(h1 _).mono ?_;rintro e w1 ⟨rfl,rfl⟩;go_wp2_with fail
   refine(h2 _).mono ?_;rintro e w1 ⟨rfl,rfl⟩;go_wp2;go_ret;exact⟨rfl,jF⟩
  simp only [Bool.true_eq_false,if_false] at hQ
  cases MB with
  |true=>
   simp only [if_true] at hQ;subst hQ;clear h4 h5 hkk;go_enter Tryz.func134,Tryz.ntmps134;go_wp2_with fail
   refine(h1 _).mono ?_;rintro e w1 ⟨rfl,rfl⟩;go_wp2_with fail
   refine(h2 _).mono ?_;rintro e w1 ⟨rfl,rfl⟩;go_wp2_with fail
   refine(h3 _).mono ?_;rintro e w1 ⟨rfl,rfl⟩;go_wp2;go_ret
   exact⟨rfl,jF⟩
  |false=>
   simp only [Bool.false_eq_true,if_false] at hQ
   by_cases Mg:CC=0
   ·rw [if_neg (by simpa using Mg)] at hQ;subst Mg;have HQ:=Nm.aF hQ;clear hQ;go_enter Tryz.func134,Tryz.ntmps134;go_wp2_with fail
    refine(h1 _).mono ?_;rintro e w1 ⟨rfl,rfl⟩;go_wp2_with fail
    refine(h2 _).mono ?_;rintro e w1 ⟨rfl,rfl⟩;go_wp2_with fail
    refine(h3 _).mono ?_;rintro e w1 ⟨rfl,rfl⟩;go_wp2_with fail
    refine(h4 _).mono ?_;rintro e w2 ⟨rfl,b2⟩;have iE:=Nm.aC jF b2;have k2:=hkk w2 iE;clear hkk;go_wp2_with fail
    refine(h5 _ iE).mono ?_;rintro e w3 ⟨rfl,m,rfl⟩
    cases UB with
    |true=>
     go_wp2;go_ret
     exact⟨by rw [HQ.out];rfl,Go.below_drewN iE _⟩
    |false=>
     go_wp2;go_ret;exact⟨by rw [HQ.out];rfl,Go.below_drewN iE _⟩
   rw [if_pos (by simpa using Mg)] at hQ;subst hQ;have ncc:(CC != 0)=true:=by simpa using Mg
   clear h5 hkk;go_enter Tryz.func134,Tryz.ntmps134;go_wp2_with fail
   refine(h1 _).mono ?_;rintro e w1 ⟨rfl,rfl⟩;go_wp2_with fail
   refine(h2 _).mono ?_;rintro e w1 ⟨rfl,rfl⟩;go_wp2_with fail
   refine(h3 _).mono ?_;rintro e w1 ⟨rfl,rfl⟩;go_wp2_with fail
   refine(h4 _).mono ?_;rintro e w2 ⟨rfl,b2⟩;go_wp2;go_ret;exact⟨rfl,Nm.aC jF b2⟩
 rw [if_pos (by simpa using xW)] at hQ;subst hQ;have ncl:(cl != 1)=true:=by simpa using xW
 clear h1 h2 h3 h4 h5 hkk;go_enter Tryz.func134,Tryz.ntmps134;go_wp2;go_ret;exact⟨rfl,jF⟩
theorem Hm(bb:Nat)(cq:Nat)(code:Int)(v:Value)(ls:List Ld)(f:Ld->Bool)(w:World)(hk:w.cell? ⟨bb,5,none⟩=some v)(h:bS w v ls.length 4 (zX ls))(hl:ls.length<=1000000)
 (hf:∀ x∈ls,∀ W,Below w.heap.size w W->Calls Tryz.prog 137 #[.agg #[.int .i64 (x.at_:Int),.int .i64 x.ty,.pointer (some ⟨x.ob,0,none⟩),.pointer (some ⟨x.sb,0,none⟩)],.pointer (some ⟨cq,0,none⟩)] W fun e w'=>e=.returned (.bool (f x))∧Below W.heap.size W w'):
 Calls Tryz.prog 136 #[.pointer (some ⟨bb,0,none⟩),.int .i64 code,.func (.func 137) #[] #[.pointer (some ⟨cq,0,none⟩)]] w fun e w'=>e=.returned (zY f code ls)∧Below w.heap.size w w':=by
 obtain⟨_,a,cap,rfl,gY,kK,hc⟩:=h;unfold maxLen at kK;have HF:=Nm.aF hf;clear hf;go_enter Tryz.func136,Tryz.ntmps136;go_wp2
 go_loopw [15] (fun i wr=>∃ k:Nat,k<=ls.length∧i=.int .i64 k∧(∀ j x,j<k->ls[j]? =some x->f x=false)∧Below w.heap.size w wr) (fun i _=>ls.length-(intOf i).toNat)
 case atStart=>exact⟨0,dO _,rfl,fun j x hj=>absurd hj (Nat.not_lt_zero _),aK _ _⟩
 obtain⟨k,sS,rfl,lT,aJ⟩:=hrel;have HR:=Nm.aF (aV lT aJ)
 by_cases bV:k<ls.length
 ·obtain⟨x,hx⟩:∃ x,ls[k]? =some x:=⟨_,bY bV⟩;obtain⟨b,off,rfl,aL⟩:=hc (by omega);have put:∀ {O:Nat} {z:Value},w.cell? ⟨b,O,none⟩=some z->wr.cell? ⟨b,O,none⟩=some z:=fun h=>(aJ.cell (eB w _ h)).trans h
  have d0:=put (aL (k*4) _ (qY ls k 0 x hx (by decide)));have d1:=put (aL (k*4+1) _ (qY ls k 1 x hx (by decide)));have d2:=put (aL (k*4+2) _ (qY ls k 2 x hx (by decide)));have d3:=put (aL (k*4+3) _ (qY ls k 3 x hx (by decide)));simp only [<- Nat.add_assoc] at d1 d2 d3;have IP:=HF.out x (bP hx) (wr.alloc (.cells #[.int .i64 (x.at_:Int),.int .i64 x.ty,.pointer (some ⟨x.ob,0,none⟩),.pointer (some ⟨x.sb,0,none⟩)] 171)) (aJ.alloc aJ.size _);have kb:=aH wr #[.int .i64 (x.at_:Int),.int .i64 x.ty,.pointer (some ⟨x.ob,0,none⟩),.pointer (some ⟨x.sb,0,none⟩)] 171;have fF:=aJ.alloc aJ.size (.cells #[.int .i64 (x.at_:Int),.int .i64 x.ty,.pointer (some ⟨x.ob,0,none⟩),.pointer (some ⟨x.sb,0,none⟩)] 171);have HX:=Nm.aF hx;have i1:(0:Int)<=(k:Int):=by omega
  have i2:(k:Int)<(ls.length:Int):=by omega
  clear hc aL hx lT aJ put hk;simp only [fV] at IP;go_wp2_with fail
  refine IP.mono ?_;rintro e w2 ⟨rfl,b2⟩;have ZH:=aB kb (by simpa using b2);have rb2:=fun i=>aA ZH i
  have Bi:=Nm.aC fF (by simpa using b2);clear IP d0 d1 d2 d3
  cases UF:f x with
  |true=>
   have HV:=Nm.aF UF;clear UF;go_wp2;go_region
   all_goals go_wp2
   all_goals go_ret2
   all_goals exact⟨by rw [XF HR.out.1 HX.out HV.out];rfl,Bi.drew⟩
  |false=>
   have HV:=Nm.aF UF;clear UF;go_wp2;go_roundw
   case rel=>
    refine⟨k+1,by omega,by go_num,fun j y hj hy=>?_,Bi⟩
    rcases Nat.lt_succ_iff_lt_or_eq.1 hj with h1|rfl
    ·exact HR.out.1 j y h1 hy
    rw [HX.out] at hy;cases hy;exact HV.out
   simp [intOf];omega
 have DJ:k=ls.length:=by omega
 subst DJ;clear hc lT aJ;go_wp2;go_ret2;exact⟨by rw [XC HR.out.1];rfl,HR.out.2⟩
theorem Bj(bb:Nat)(code:Int)(v:Value)(ls:List Ld)(f:Ld->Bool)(w:World)(hk:w.cell? ⟨bb,5,none⟩=some v)(h:bS w v ls.length 4 (zX ls))(hl:ls.length<=1000000)
 (hf:∀ x∈ls,∀ W,Below w.heap.size w W->Calls Tryz.prog 139 #[.agg #[.int .i64 (x.at_:Int),.int .i64 x.ty,.pointer (some ⟨x.ob,0,none⟩),.pointer (some ⟨x.sb,0,none⟩)]] W fun e w'=>e=.returned (.bool (f x))∧Below W.heap.size W w'):
 Calls Tryz.prog 136 #[.pointer (some ⟨bb,0,none⟩),.int .i64 code,.func (.func 139) #[] #[]] w fun e w'=>e=.returned (zY f code ls)∧Below w.heap.size w w':=by
 obtain⟨_,a,cap,rfl,gY,kK,hc⟩:=h;unfold maxLen at kK;have HF:=Nm.aF hf;clear hf;go_enter Tryz.func136,Tryz.ntmps136;go_wp2
 go_loopw [15] (fun i wr=>∃ k:Nat,k<=ls.length∧i=.int .i64 k∧(∀ j x,j<k->ls[j]? =some x->f x=false)∧Below w.heap.size w wr) (fun i _=>ls.length-(intOf i).toNat)
 case atStart=>exact⟨0,dO _,rfl,fun j x hj=>absurd hj (Nat.not_lt_zero _),aK _ _⟩
 obtain⟨k,sS,rfl,lT,aJ⟩:=hrel;have HR:=Nm.aF (aV lT aJ)
 by_cases bV:k<ls.length
 ·obtain⟨x,hx⟩:∃ x,ls[k]? =some x:=⟨_,bY bV⟩;obtain⟨b,off,rfl,aL⟩:=hc (by omega);have put:∀ {O:Nat} {z:Value},w.cell? ⟨b,O,none⟩=some z->wr.cell? ⟨b,O,none⟩=some z:=fun h=>(aJ.cell (eB w _ h)).trans h
  have d0:=put (aL (k*4) _ (qY ls k 0 x hx (by decide)));have d1:=put (aL (k*4+1) _ (qY ls k 1 x hx (by decide)));have d2:=put (aL (k*4+2) _ (qY ls k 2 x hx (by decide)));have d3:=put (aL (k*4+3) _ (qY ls k 3 x hx (by decide)));simp only [<- Nat.add_assoc] at d1 d2 d3;have IP:=HF.out x (bP hx) (wr.alloc (.cells #[.int .i64 (x.at_:Int),.int .i64 x.ty,.pointer (some ⟨x.ob,0,none⟩),.pointer (some ⟨x.sb,0,none⟩)] 171)) (aJ.alloc aJ.size _);have kb:=aH wr #[.int .i64 (x.at_:Int),.int .i64 x.ty,.pointer (some ⟨x.ob,0,none⟩),.pointer (some ⟨x.sb,0,none⟩)] 171;have fF:=aJ.alloc aJ.size (.cells #[.int .i64 (x.at_:Int),.int .i64 x.ty,.pointer (some ⟨x.ob,0,none⟩),.pointer (some ⟨x.sb,0,none⟩)] 171);have HX:=Nm.aF hx;have i1:(0:Int)<=(k:Int):=by omega
  have i2:(k:Int)<(ls.length:Int):=by omega
  clear hc aL hx lT aJ put hk;simp only [fV] at IP;go_wp2_with fail
  refine IP.mono ?_;rintro e w2 ⟨rfl,b2⟩;have ZH:=aB kb (by simpa using b2);have rb2:=fun i=>aA ZH i
  have Bi:=Nm.aC fF (by simpa using b2);clear IP d0 d1 d2 d3
  cases UF:f x with
  |true=>
   have HV:=Nm.aF UF;clear UF;go_wp2;go_region
   all_goals go_wp2
   all_goals go_ret2
   all_goals exact⟨by rw [XF HR.out.1 HX.out HV.out];rfl,Bi.drew⟩
  |false=>
   have HV:=Nm.aF UF;clear UF;go_wp2;go_roundw
   case rel=>
    refine⟨k+1,by omega,by go_num,fun j y hj hy=>?_,Bi⟩
    rcases Nat.lt_succ_iff_lt_or_eq.1 hj with h1|rfl
    ·exact HR.out.1 j y h1 hy
    rw [HX.out] at hy;cases hy;exact HV.out
   simp [intOf];omega
 have DJ:k=ls.length:=by omega
 subst DJ;clear hc lT aJ;go_wp2;go_ret2;exact⟨by rw [XC HR.out.1];rfl,HR.out.2⟩
theorem TE(bb:Nat)(code:Int)(v:Value)(ls:List Ld)(f:Ld->Bool)(w:World)(hk:w.cell? ⟨bb,5,none⟩=some v)(h:bS w v ls.length 4 (zX ls))(hl:ls.length<=1000000)
 (hf:∀ x∈ls,∀ W,Below w.heap.size w W->Calls Tryz.prog 141 #[.agg #[.int .i64 (x.at_:Int),.int .i64 x.ty,.pointer (some ⟨x.ob,0,none⟩),.pointer (some ⟨x.sb,0,none⟩)]] W fun e w'=>e=.returned (.bool (f x))∧Below W.heap.size W w'):
 Calls Tryz.prog 136 #[.pointer (some ⟨bb,0,none⟩),.int .i64 code,.func (.func 141) #[] #[]] w fun e w'=>e=.returned (zY f code ls)∧Below w.heap.size w w':=by
 obtain⟨_,a,cap,rfl,gY,kK,hc⟩:=h;unfold maxLen at kK;have HF:=Nm.aF hf;clear hf;go_enter Tryz.func136,Tryz.ntmps136;go_wp2
 go_loopw [15] (fun i wr=>∃ k:Nat,k<=ls.length∧i=.int .i64 k∧(∀ j x,j<k->ls[j]? =some x->f x=false)∧Below w.heap.size w wr) (fun i _=>ls.length-(intOf i).toNat)
 case atStart=>exact⟨0,dO _,rfl,fun j x hj=>absurd hj (Nat.not_lt_zero _),aK _ _⟩
 obtain⟨k,sS,rfl,lT,aJ⟩:=hrel;have HR:=Nm.aF (aV lT aJ)
 by_cases bV:k<ls.length
 ·obtain⟨x,hx⟩:∃ x,ls[k]? =some x:=⟨_,bY bV⟩;obtain⟨b,off,rfl,aL⟩:=hc (by omega);have put:∀ {O:Nat} {z:Value},w.cell? ⟨b,O,none⟩=some z->wr.cell? ⟨b,O,none⟩=some z:=fun h=>(aJ.cell (eB w _ h)).trans h
  have d0:=put (aL (k*4) _ (qY ls k 0 x hx (by decide)));have d1:=put (aL (k*4+1) _ (qY ls k 1 x hx (by decide)));have d2:=put (aL (k*4+2) _ (qY ls k 2 x hx (by decide)));have d3:=put (aL (k*4+3) _ (qY ls k 3 x hx (by decide)));simp only [<- Nat.add_assoc] at d1 d2 d3;have IP:=HF.out x (bP hx) (wr.alloc (.cells #[.int .i64 (x.at_:Int),.int .i64 x.ty,.pointer (some ⟨x.ob,0,none⟩),.pointer (some ⟨x.sb,0,none⟩)] 171)) (aJ.alloc aJ.size _);have kb:=aH wr #[.int .i64 (x.at_:Int),.int .i64 x.ty,.pointer (some ⟨x.ob,0,none⟩),.pointer (some ⟨x.sb,0,none⟩)] 171;have fF:=aJ.alloc aJ.size (.cells #[.int .i64 (x.at_:Int),.int .i64 x.ty,.pointer (some ⟨x.ob,0,none⟩),.pointer (some ⟨x.sb,0,none⟩)] 171);have HX:=Nm.aF hx;have i1:(0:Int)<=(k:Int):=by omega
  have i2:(k:Int)<(ls.length:Int):=by omega
  clear hc aL hx lT aJ put hk;simp only [fV] at IP;go_wp2_with fail
  refine IP.mono ?_;rintro e w2 ⟨rfl,b2⟩;have ZH:=aB kb (by simpa using b2);have rb2:=fun i=>aA ZH i
  have Bi:=Nm.aC fF (by simpa using b2);clear IP d0 d1 d2 d3
  cases UF:f x with
  |true=>
   have HV:=Nm.aF UF;clear UF;go_wp2;go_region
   all_goals go_wp2
   all_goals go_ret2
   all_goals exact⟨by rw [XF HR.out.1 HX.out HV.out];rfl,Bi.drew⟩
  |false=>
   have HV:=Nm.aF UF;clear UF;go_wp2;go_roundw
   case rel=>
    refine⟨k+1,by omega,by go_num,fun j y hj hy=>?_,Bi⟩
    rcases Nat.lt_succ_iff_lt_or_eq.1 hj with h1|rfl
    ·exact HR.out.1 j y h1 hy
    rw [HX.out] at hy;cases hy;exact HV.out
   simp [intOf];omega
 have DJ:k=ls.length:=by omega
 subst DJ;clear hc lT aJ;go_wp2;go_ret2;exact⟨by rw [XC HR.out.1];rfl,HR.out.2⟩
