import Derived.Test.YtlddifpnkeafpaaGreatJTrH
import Derived.Test.YtlddifpnkeafpaaGreatZbT
set_option linter.unusedVariables false
set_option maxRecDepth 1000000
set_option maxHeartbeats 16000000
namespace Go.Proofs.YtlddifpnkeafpaaGreat
open Go.RowKit
theorem Le(bb:Nat)(cq:Nat)(code:Int)(v:Value)(ls:List Ld)(f:Ld->Bool)(w:World)(hk:w.cell? ⟨bb,5,none⟩=some v)(h:dZ w v ls.length 4 (CF ls))(hl:ls.length<=1000000)
 (hf:∀ x∈ls,∀ W,Below w.heap.size w W->Calls Tryz.prog 139 #[.agg #[.int .i64 (x.at_:Int),.int .i64 x.ty,.pointer (some ⟨x.ob,0,none⟩),.pointer (some ⟨x.sb,0,none⟩)],.pointer (some ⟨cq,0,none⟩)] W fun e w'=>e=.returned (.bool (f x))∧Below W.heap.size W w'):
 Calls Tryz.prog 138 #[.pointer (some ⟨bb,0,none⟩),.int .i64 code,.func (.func 139) #[] #[.pointer (some ⟨cq,0,none⟩)]] w fun e w'=>e=.returned (CG f code ls)∧Below w.heap.size w w':=by
 obtain⟨_,a,cap,rfl,gT,kV,hc⟩:=h;unfold maxLen at kV;have HF:=Nm.aD hf;clear hf;go_enter Tryz.func138,Tryz.ntmps138;go_wp2
 go_loopw [15] (fun i wr=>∃ k:Nat,k<=ls.length∧i=.int .i64 k∧(∀ j x,j<k->ls[j]? =some x->f x=false)∧Below w.heap.size w wr) (fun i _=>ls.length-(intOf i).toNat)
 ·exact⟨0,dR _,rfl,fun j x hj=>absurd hj (Nat.not_lt_zero _),aJ _ _⟩
 obtain⟨k,vT,rfl,gI,aG⟩:=hrel;have HR:=Nm.aD (aV gI aG)
 by_cases bY:k<ls.length
 ·obtain⟨x,hx⟩:=gQ bY;obtain⟨b,off,rfl,aH⟩:=hc (by omega);have put:∀ {O:Nat} {z:Value},w.cell? ⟨b,O,none⟩=some z->wr.cell? ⟨b,O,none⟩=some z:=fun h=>(aG.cell (fD w _ h)).trans h
  have d0:=put (aH (k*4) _ (sD ls k 0 x hx (by decide)));have d1:=put (aH (k*4+1) _ (sD ls k 1 x hx (by decide)));have d2:=put (aH (k*4+2) _ (sD ls k 2 x hx (by decide)));have d3:=put (aH (k*4+3) _ (sD ls k 3 x hx (by decide)));simp only [<- Nat.add_assoc] at d1 d2 d3;have Br:=HF.out x (dA hx) (wr.alloc (.cells #[.int .i64 (x.at_:Int),.int .i64 x.ty,.pointer (some ⟨x.ob,0,none⟩),.pointer (some ⟨x.sb,0,none⟩)] 201)) (aG.alloc aG.size _);have kb:=aK wr #[.int .i64 (x.at_:Int),.int .i64 x.ty,.pointer (some ⟨x.ob,0,none⟩),.pointer (some ⟨x.sb,0,none⟩)] 201;have fJ:=aG.alloc aG.size (.cells #[.int .i64 (x.at_:Int),.int .i64 x.ty,.pointer (some ⟨x.ob,0,none⟩),.pointer (some ⟨x.sb,0,none⟩)] 201);have HX:=Nm.aD hx;have i1:=fE k
  have i2:(k:Int)<(ls.length:Int):=by omega
  clear hc aH hx gI aG put hk;simp only [jO] at Br;go_wp2_with fail
  refine Br.mono ?_;rintro e w2 ⟨rfl,b2⟩;have kb2:=aB kb (by simpa using b2);have rb2:=aA kb2
  have VN:=Nm.aC fJ (by simpa using b2);clear Br d0 d1 d2 d3
  cases XZ:f x with
  |true=>
   have HV:=Nm.aD XZ;clear XZ;go_wp2;go_region
   all_goals go_wp2
   all_goals go_ret2
   all_goals exact⟨by rw [Az HR.out.1 HX.out HV.out];rfl,VN.drew⟩
  |false=>
   have HV:=Nm.aD XZ;clear XZ;go_wp2;go_roundw
   case rel=>
    refine⟨k+1,by omega,by go_num,fun j y hj hy=>?_,VN⟩
    rcases Nat.lt_succ_iff_lt_or_eq.1 hj with h1|rfl
    ·exact HR.out.1 j y h1 hy
    rw [HX.out] at hy;cases hy;exact HV.out
   simp [intOf];omega
 have FE:k=ls.length:=by omega
 subst FE;clear hc gI aG;go_wp2;go_ret2;exact⟨by rw [Ay HR.out.1];rfl,HR.out.2⟩
def aLd(f:Ld->Bool)(HB:Bool)(ls:List Ld):Value:=match ls.find? f with
 |some x=>.tuple #[.int .i64 20,.int .i64 (x.at_:Int)]
 |none=>if HB=true then .tuple #[.int .i64 0,.int .i64 0] else .tuple #[.int .i64 20,.int .i64 (-1)]
theorem Lf(bb:Nat)(v:Value)(ls:List Ld)(f:Ld->Bool)(na:Option Addr)(nl nc:Nat)(HB:Bool)(w:World)(hk:w.cell? ⟨bb,5,none⟩=some v)(h:dZ w v ls.length 4 (CF ls))(hl:ls.length<=1000000)(hk3:w.cell? ⟨bb,3,none⟩=some (.slice na nl nc))
 (hf:∀ x∈ls,∀ cq W,Below w.heap.size w W->W.cell? ⟨cq,0,none⟩=some (.slice na nl nc)->Calls Tryz.prog 139 #[.agg #[.int .i64 (x.at_:Int),.int .i64 x.ty,.pointer (some ⟨x.ob,0,none⟩),.pointer (some ⟨x.sb,0,none⟩)],.pointer (some ⟨cq,0,none⟩)] W fun e w'=>e=.returned (.bool (f x))∧Below W.heap.size W w')
 (hh:∀ W,Below w.heap.size w W->Calls Tryz.prog 140 #[.pointer (some ⟨bb,3,none⟩),.slice na nl nc,.int .i64 6] W fun e w'=>e=.returned (.bool HB)∧Below W.heap.size W w'):
 Calls Tryz.prog 104 #[.pointer (some ⟨bb,0,none⟩)] w fun e w'=>e=.returned (aLd f HB ls)∧Below w.heap.size w w':=by
 have iY:=(aJ w.heap.size w).alloc (aI _) (.cells #[.slice na nl nc] 63);have kb:=aK w #[.slice na nl nc] 63;have hw:=Le bb w.heap.size 20 v ls f _ ((iY.cell (p:=⟨bb,5,none⟩) (fD w _ hk)).trans hk) (h.below iY) hl (fun x hx W hW=>hf x hx w.heap.size W (Nm.aC iY hW) ((aA (aB kb hW) 0).trans rfl));have HH:=Nm.aD hh;clear hf hh h hk;unfold aLd;unfold CG at hw
 cases hx:ls.find? f with
 |some x=>
  rw [hx] at hw;simp only at hw ⊢
  clear hx;go_enter Tryz.func104,Tryz.ntmps104;go_wp2_with fail
  refine hw.mono ?_;rintro e w1 ⟨rfl,b1⟩;have fJ:=Nm.aC iY b1;have k1:=(aA (aB kb b1) 0).trans rfl;clear hw kb b1;go_wp2;go_region
  all_goals go_wp2
  all_goals go_ret2
  all_goals exact⟨rfl,fJ.drew⟩
 |none=>
  rw [hx] at hw;simp only at hw ⊢
  clear hx;go_enter Tryz.func104,Tryz.ntmps104;go_wp2_with fail
  refine hw.mono ?_;rintro e w1 ⟨rfl,b1⟩;have fJ:=Nm.aC iY b1;have k1:=(aA (aB kb b1) 0).trans rfl;have hd:=HH.out w1.drew fJ.drew;clear hw kb b1;go_wp2;go_region_with (go_at_call 140;refine hd.mono ?_;rintro e w2 ⟨rfl,b2⟩)
  all_goals (cases HB<;>(go_wp2;go_ret2;exact⟨rfl,Nm.aC fJ ((aJ _ w1).drew.trans b2)⟩))
theorem Sa(bb:Nat)(na:Option Addr)(nl nc:Nat)(HB:Bool)(w:World)(hk:w.cell? ⟨bb,3,none⟩=some (.slice na nl nc))
 (hh:∀ W,Below w.heap.size w W->Calls Tryz.prog 140 #[.pointer (some ⟨bb,3,none⟩),.slice na nl nc,.int .i64 2] W fun e w'=>e=.returned (.bool HB)∧Below W.heap.size W w'):
 Calls Tryz.prog 105 #[.pointer (some ⟨bb,0,none⟩)] w fun e w'=>e=.returned (if HB=true then .tuple #[.int .i64 0,.int .i64 0] else .tuple #[.int .i64 21,.int .i64 (-1)])∧Below w.heap.size w w':=by
 have kd:w.drew.cell? ⟨bb,3,none⟩=some (.slice na nl nc):=hk;have hd:=hh w.drew (aJ _ w).drew;clear hh;go_enter Tryz.func105,Tryz.ntmps105;go_wp2;go_region_with (go_at_call 140;refine hd.mono ?_;rintro e w1 ⟨rfl,b1⟩)
 all_goals (cases HB<;>(go_wp2;go_ret2;exact⟨rfl,Nm.aC (aJ _ w).drew b1⟩))
theorem Bu(bb:Nat)(cq:Nat)(code:Int)(v:Value)(ls:List Ld)(f:Ld->Bool)(w:World)(hk:w.cell? ⟨bb,5,none⟩=some v)(h:dZ w v ls.length 4 (CF ls))(hl:ls.length<=1000000)
 (hf:∀ x∈ls,∀ W,Below w.heap.size w W->Calls Tryz.prog 146 #[.agg #[.int .i64 (x.at_:Int),.int .i64 x.ty,.pointer (some ⟨x.ob,0,none⟩),.pointer (some ⟨x.sb,0,none⟩)],.pointer (some ⟨cq,0,none⟩)] W fun e w'=>e=.returned (.bool (f x))∧Below W.heap.size W w'):
 Calls Tryz.prog 138 #[.pointer (some ⟨bb,0,none⟩),.int .i64 code,.func (.func 146) #[] #[.pointer (some ⟨cq,0,none⟩)]] w fun e w'=>e=.returned (CG f code ls)∧Below w.heap.size w w':=by
 obtain⟨_,a,cap,rfl,gT,kV,hc⟩:=h;unfold maxLen at kV;have HF:=Nm.aD hf;clear hf;go_enter Tryz.func138,Tryz.ntmps138;go_wp2
 go_loopw [15] (fun i wr=>∃ k:Nat,k<=ls.length∧i=.int .i64 k∧(∀ j x,j<k->ls[j]? =some x->f x=false)∧Below w.heap.size w wr) (fun i _=>ls.length-(intOf i).toNat)
 ·exact⟨0,dR _,rfl,fun j x hj=>absurd hj (Nat.not_lt_zero _),aJ _ _⟩
 obtain⟨k,vT,rfl,gI,aG⟩:=hrel;have HR:=Nm.aD (aV gI aG)
 by_cases bY:k<ls.length
 ·obtain⟨x,hx⟩:=gQ bY;obtain⟨b,off,rfl,aH⟩:=hc (by omega);have put:∀ {O:Nat} {z:Value},w.cell? ⟨b,O,none⟩=some z->wr.cell? ⟨b,O,none⟩=some z:=fun h=>(aG.cell (fD w _ h)).trans h
  have d0:=put (aH (k*4) _ (sD ls k 0 x hx (by decide)));have d1:=put (aH (k*4+1) _ (sD ls k 1 x hx (by decide)));have d2:=put (aH (k*4+2) _ (sD ls k 2 x hx (by decide)));have d3:=put (aH (k*4+3) _ (sD ls k 3 x hx (by decide)));simp only [<- Nat.add_assoc] at d1 d2 d3;have Br:=HF.out x (dA hx) (wr.alloc (.cells #[.int .i64 (x.at_:Int),.int .i64 x.ty,.pointer (some ⟨x.ob,0,none⟩),.pointer (some ⟨x.sb,0,none⟩)] 201)) (aG.alloc aG.size _);have kb:=aK wr #[.int .i64 (x.at_:Int),.int .i64 x.ty,.pointer (some ⟨x.ob,0,none⟩),.pointer (some ⟨x.sb,0,none⟩)] 201;have fJ:=aG.alloc aG.size (.cells #[.int .i64 (x.at_:Int),.int .i64 x.ty,.pointer (some ⟨x.ob,0,none⟩),.pointer (some ⟨x.sb,0,none⟩)] 201);have HX:=Nm.aD hx;have i1:=fE k
  have i2:(k:Int)<(ls.length:Int):=by omega
  clear hc aH hx gI aG put hk;simp only [jO] at Br;go_wp2_with fail
  refine Br.mono ?_;rintro e w2 ⟨rfl,b2⟩;have kb2:=aB kb (by simpa using b2);have rb2:=aA kb2
  have VN:=Nm.aC fJ (by simpa using b2);clear Br d0 d1 d2 d3
  cases XZ:f x with
  |true=>
   have HV:=Nm.aD XZ;clear XZ;go_wp2;go_region
   all_goals go_wp2
   all_goals go_ret2
   all_goals exact⟨by rw [Az HR.out.1 HX.out HV.out];rfl,VN.drew⟩
  |false=>
   have HV:=Nm.aD XZ;clear XZ;go_wp2;go_roundw
   case rel=>
    refine⟨k+1,by omega,by go_num,fun j y hj hy=>?_,VN⟩
    rcases Nat.lt_succ_iff_lt_or_eq.1 hj with h1|rfl
    ·exact HR.out.1 j y h1 hy
    rw [HX.out] at hy;cases hy;exact HV.out
   simp [intOf];omega
 have FE:k=ls.length:=by omega
 subst FE;clear hc gI aG;go_wp2;go_ret2;exact⟨by rw [Ay HR.out.1];rfl,HR.out.2⟩
theorem aFi{w:World}{B e s n:Nat}{v:Value}{xs:List Value}(h:w.ownsRow B e s v n xs)(hn:0<n):∃ g c,v=.slice (some ⟨g,0,none⟩) n c:=by
 rcases h.2 with⟨_,h0⟩|⟨g,c,_,e,_⟩
 ·omega
 exact⟨g,c,e⟩
theorem WQ{P:Program}{t ty e:TypeId}{i:TypeInfo}(ht:P.underlying t=some (.slice e))(hi:P.info? e=some i)(ad:Option Addr)(n c:Nat)(hn:n<=c)(w:World):
 (Builtin.append_ #[t,t] ty #[.slice ad n c,.slice none 0 0]).run P w=.ok (.slice ad n c) w:=by
 have hs:Go.Src P i.size t (.slice none 0 0) 0 [] w:=Go.Src.ofNil w ht 0
 cases ad with
 |none=>simp [Builtin.append_,run_underlying ht,sizeOf,typeInfo,hi,hs.len,hn,hs.cells]
 |some a=>simp [Builtin.append_,run_underlying ht,sizeOf,typeInfo,hi,hs.len,hn,hs.cells,storeCells]
theorem NN{P:Program}{ops:Array Oper}{rest:List Oper}{o:Oper}{a:Act}{Q:Exit->Act->World->Prop}(w:World)(W9:o.guard=none)(s x:Operand)(t:TypeId)
 (ho:o.op=.call {callee:=.builtin .append,args:=#[s,x],argTypes:=#[t,t]}) (e:TypeId) (i:TypeInfo) (ht:P.underlying t=some (.slice e)) (hi:P.info? e=some i) (ad:Option Addr) (n c:Nat)
 (hs:a.eval s=.slice ad n c) (hx:a.eval x=.slice none 0 0) (hn:n<=c) (h:wpList P ops Q rest (a.put o.dst (.slice ad n c)) w):wpList P ops Q (o::rest) a w:=by
 refine wpList_plain W9 fun K hK=>?_
 have hr:=WQ (P:=P) (ty:=o.type) ht hi ad n c hn w;unfold Oper.wp execOp;simp only [ho,resolve,invoke,builtin,Sem.run_bind,Sem.run_pure,Result.andThen_ok,List.map_toArray,List.map_cons,List.map_nil,hs,hx,hr];exact hK _ _ h
theorem LW(o:ByteArray)(v:Value)(ps:List Zp)(w:World)(h:gG w v ps)(hs:wP ps<=1048576)(hf:∀ p∈ps,∀ x∈p.1.da,x.size<=1048576):
 Calls Tryz.prog 62 #[.agg #[.string o,v]] w fun e w'=>∃ u,e=.returned u∧w'.ownsRow w.heap.size 133 5 u (aR ps).length (jC (aR ps))∧Below w.heap.size w w':=by
 obtain⟨i0,hi,iQ,iH,iI⟩:=info_parts Tryz.P5
 have nZ:∀ p∈ps,p.1.own.size<=1048576∧p.1.da.length<=1048576:=by
  intro p hp;have:=Oe ps p hp;unfold zs1 at this;omega
 obtain⟨RS,Xu⟩:∃ R,R=aR ps:=⟨_,rfl⟩;rw [<- Xu];unfold aR at Xu;have iY:=(aJ w.heap.size w).alloc (aI _) (.cells #[.string o,v] 25);have PQ:=aK w #[.string o,v] 25;have EP:=h;have xK:=Qw o v ps _ (h.below iY) (fun p hp=>(nZ p hp).2);obtain⟨⟨_,a,cap,rfl,gT,kV,_⟩,_⟩:=h;unfold maxLen at kV
 by_cases Lg:ps.length<=500∧jQ ps<=500
 ·rw [oI Lg] at xK;have aD5:RS=gD ps:=by rw [Xu,if_neg (by omega)]
  obtain⟨oG,oU⟩:=Lg;clear Xu;have Gv:∀ k,jQ (ps.take k)<=500:=fun k=>by have:=wQ ps k;omega
  have Dk:=fun k=>zM (ps.take k)
  have zL:=fun(k:Nat) (x:Zp) (h:ps[k]? =some x)=>OZ h
  have Xv:=fun(k:Nat) (x:Zp) (h:ps[k]? =some x)=>KE ps k x h
  go_enter Tryz.func62,Tryz.ntmps62;go_wp2_with (go_at_call 99;refine xK.mono ?_;rintro e w1 ⟨rfl,fJ⟩;have q1:w1.cell? ⟨w.heap.size,1,none⟩=some (.slice a ps.length cap):=(aA (aB PQ fJ) 1).trans rfl)
  have yY:=Nm.aC iY fJ;clear xK iY PQ fJ q1
  go_loopw [3,12] (fun vo vi wr=>∃ k:Nat,k<=ps.length∧vi=.int .i64 k∧wr.ownsRow w.heap.size 133 5 vo (gD (ps.take k)).length (jC (gD (ps.take k)))∧Below w.heap.size w wr) (fun _ vi _=>ps.length-(intOf vi).toNat)
  ·exact⟨0,dR _,rfl,⟨rfl,.inl ⟨rfl,rfl⟩⟩,yY⟩
  obtain⟨k,hk,rfl,oO,aG⟩:=hrel;clear yY
  by_cases bY:k<ps.length
  ·obtain⟨x,qF⟩:=gQ bY;obtain⟨⟨_,a',cap',hv,_,_,hc⟩,El⟩:=EP.below aG;simp only [gK] at hv;obtain⟨rfl,_,rfl⟩:=hv;obtain⟨b,off,rfl,aH⟩:=hc (by omega);obtain⟨c0,c1,c2,c3⟩:=iE aH qF;have BS:=dA qF;obtain⟨dva,dvc,hdv⟩:∃ a c,x.2=.slice a x.1.da.length c:=by obtain⟨a,c,e,_⟩:=El x BS;exact⟨a,c,e⟩
   have hBa:=(aJ wr.heap.size wr).alloc (aI _) (.cells #[.string x.1.own,.int .i64 x.1.ty,.int .i64 x.1.tt,x.2] 42);have lN:=Qx x.1 x.2 _ ((El x BS).below hBa) (nZ x BS).2 (nZ x BS).1 (hf x BS);have X9:Below w.heap.size w (wr.alloc (.cells #[.string x.1.own,.int .i64 x.1.ty,.int .i64 x.1.tt,x.2] 42)):=aG.alloc aG.size _;have oO1:=own_below oO hBa;have lC:=zL k x qF;have hld:=Xv k x qF;have EN:=Gv (k+1);have hl0:=Dk k;have GD:=xW x.1;have i1:=fE k
   have i2:(k:Int)<(ps.length:Int):=by omega
   have hlen:(gD (ps.take k)).length+(iW x.1).length<=500:=by omega
   have HT:Hid (jC (gD (ps.take k))++jC (iW x.1)=jC (gD (ps.take (k+1)))):=by show _=_;rw [lC,sQ]
   have HL:Hid ((gD (ps.take k)).length+(iW x.1).length=(gD (ps.take (k+1))).length):=by show _=_;rw [lC,oJ]
   have h1c:=aHm (iW x.1);have aNx:=aCx (iW x.1);have aLe:x.1.da=[]->iW x.1=[]:=by intro h;simp [iW,h]
   clear aH hc El zL Xv Dk Gv lC hld hl0 BS qF;generalize gD (ps.take k)=R0 at*;generalize Em:gD (ps.take (k+1))=R1 at*;generalize iW x.1=R2 at*
   by_cases MN:x.1.da=[]
   ·have hR2:=aLe MN;subst hR2;have O8:Calls Tryz.prog 100 #[.agg #[.string x.1.own,.int .i64 x.1.ty,.int .i64 x.1.tt,x.2]] (wr.alloc (.cells #[.string x.1.own,.int .i64 x.1.ty,.int .i64 x.1.tt,x.2] 42)) fun e w'=>e=.returned (.slice none 0 0)∧Below (wr.alloc (.cells #[.string x.1.own,.int .i64 x.1.ty,.int .i64 x.1.tt,x.2] 42)).heap.size (wr.alloc (.cells #[.string x.1.own,.int .i64 x.1.ty,.int .i64 x.1.tt,x.2] 42)) w':=lN.mono (by rintro e w' ⟨u,rfl,_,hn,hb⟩;exact⟨by rw [hn MN],hb⟩)
    clear lN MN aLe;obtain⟨⟨o1,ty,tt,da⟩,dv⟩:=x;simp only at c0 c1 c2 c3 O8 X9 oO1 hdv
    subst hdv;obtain⟨oa,oc,qY⟩:=aT oO;subst qY
    have hoc:R0.length<=oc:=by
     rcases oO.2 with⟨h0,h1⟩|⟨g,c,_,h0,_,_,h1,_⟩
     ·rw [h1];exact dR _
     simp only [gK] at h0;omega
    go_wp2_with (first|(go_at_call 100;refine O8.mono ?_;rintro e w2 ⟨rfl,jW⟩;have oO2:=own_below oO1 jW;have zH:=Nm.aC X9 jW)|(at_builtin;refine NN _ rfl (.tmp 16) (.tmp 18) 88 rfl 133 i0 Tryz.underlying88 hi oa R0.length oc rfl rfl hoc ?_))
    have eT:=HT.out;rw [show jC ([]:List Rr)=[] from rfl,List.append_nil] at eT;have yV:=oO2;rw [eT] at yV;have hL:=HL.out;simp at hL;go_roundw
    ·exact⟨k+1,by omega,by go_num,by rw [Em,<- hL];exact yV,zH⟩
    simp [intOf];omega
   have hm:0<R2.length:=by
    rw [GD]
    cases hq:x.1.da with
    |nil=>exact absurd hq MN
    |cons _ _=>simp
   clear aLe MN GD;obtain⟨⟨o1,ty,tt,da⟩,dv⟩:=x;simp only at c0 c1 c2 c3 lN X9 oO1 hdv
   subst hdv;obtain⟨oa,oc,qY⟩:=aT oO;subst qY;go_wp2_with (first|(go_at_call 100;refine lN.mono ?_;rintro e w2 ⟨u,rfl,hu,_,jW⟩;obtain⟨ug,uc,hg⟩:=aFi hu hm;subst hg;have oO2:=own_below oO1 jW;have zH:=Nm.aC X9 jW)|(at_builtin;refine wpList_append_own _ rfl (.tmp 16) (.tmp 18) 88 rfl w.heap.size 133 i0 _ 5 56 Tryz.underlying88 hi iQ iH iI rfl (by decide) (.slice oa R0.length oc) R0.length (jC R0) rfl oO2 ⟨ug,0,none⟩ R2.length uc (jC R2) rfl aNx (fun j y hy=>by rw [Nm.addr_add,Nat.zero_add,hu.cellAt j (by have:=(dL hy).1;omega)];exact hy) h1c (by unfold maxLen;omega) (by omega) zH.size ?_;intro va wa yV nA BK))
   rw [HT.out,HL.out] at yV;have b9:Below w.heap.size w wa:=zH.grown nA zH.size (fun g hg=>(oO2.lt g hg).1);go_wp2;go_roundw
   ·exact⟨k+1,by omega,by go_num,by rw [Em];exact yV,b9⟩
   simp [intOf];omega
  have mK:k=ps.length:=by omega
  subst mK;have i2:(ps.length:Int)<=(ps.length:Int):=by omega
  rw [List.take_length,<- aD5] at oO;clear EP zL Xv Dk Gv aD5 nZ hf;go_wp2;go_ret;exact⟨_,rfl,oO,aG⟩
 rw [oF Lg] at xK;obtain rfl:RS=[]:=by rw [Xu,if_pos (by omega)]
 clear Xu EP Lg;go_enter Tryz.func62,Tryz.ntmps62;go_wp2_with (go_at_call 99;refine xK.mono ?_;rintro e w1 ⟨rfl,fJ⟩)
 go_ret;exact⟨_,rfl,⟨rfl,.inl ⟨rfl,rfl⟩⟩,Nm.aC iY fJ⟩
def NP:Code->List Code
 |.loop c=>[c]
 |.seq a b=>NP a++NP b
 |.block _ c=>NP c
 |.scope c=>NP c
 |.cond _ a b=>NP a++NP b
 |_=>[]
noncomputable def aNy:List Code:=((Tryz.f41).body.map NP).getD []
noncomputable def aNz:Code:=(aNy[2]?).getD .skip
def aFj:Code->Code
 |.seq _ b=>b
 |c=>c
def aN0:Code->Code
 |.seq a _=>a
 |c=>c
def inZ:Code->Code
 |.block _ c=>c
 |.cond _ a _=>a
 |c=>c
noncomputable def bzB:Code:=aFj (inZ (aN0 (aFj aNz)))
noncomputable def bzM:Code:=aFj (aFj bzB)
noncomputable def bzN:Code:=inZ (aFj (aN0 bzB))
theorem wrap64_sm{n:Nat}(h:n<=1000000):wrap64 (n:Int)=(n:Int):=by unfold wrap64;omega
theorem Bv{Pr G:World->Prop}{W:World}(h:Pr W)(k:∀ W,Pr W->G W):G W:=k W h
theorem Tryz.aFk:(Tryz.prog.info? 42).map (fun i=>(i.zero,i.size,i.bytes))=some (some (.agg #[.string ByteArray.empty,.int .i64 0,.int .i64 0,.slice none 0 0]),4,56):=by kernel_rfl
theorem QI{W:World}{B e s n b:Nat}{v:Value}{xs:List Value}{cs:Array Value}{T:TypeId}(h:W.ownsRow B e s v n xs)(hb:bW W b cs T)(dM:e≠T):v.ownBlock≠some b:=by
 intro he
 rcases h.2 with⟨rfl,_⟩|⟨g,cap,cur,rfl,_,hh,_⟩
 ·cases he
 simp only [Value.ownBlock,mV] at he;subst he;rw [bW,hh] at hb;simp only [mV,Obj.cells.injEq] at hb;exact dM hb.2.1
theorem KU(aL da:ByteArray)(zb rb:Nat)(vs2:Value)(JF:List Zp)(s:Sz)(ux:Option Addr)(uc:Nat)(r0 r1 r2 r3:Value)(aLf:JF.length<=500)(hsl:s.da.length<=500)(Q0:Exit->Act->World->Prop)(wz:World)
 (uI:bW wz zb #[.string aL,vs2] 25) (VA:bW wz rb #[r0,r1,r2,r3,.string da] 133) (Dp:dF wz (zb+1) vs2 (JF++[(s,.slice ux s.da.length uc)]))
 (s0 s1 s2 s3 s4 s5 s6 s7 s8 s9 s10 s11 s12 s13 s14 s16 s19 s20 s21 s22 s23 s24 s25 s26 s27 s28 s29 s30 s31 s32 s33 s34 s35 s36 s37 s38 s39 s40 s41 s42 s43 s44 s45 s46 s47 s48 s49 s50 s51 s52 s53 s54 s55 s56 s57 s58 s59 s60 s61 s62 s63 s64 s65 s66 s67 s68 s69 s70 s71 s72 s73 s74 s75 s76 s77 s78 s79 s80 s81 s82 s83 s84 s85 s86 s87 s88 s89 s90 s91 s92 s93 s94 s95 s96 s97 s98 s99 Sb Sc Sd Sg Si Sj Sl Sm Sn Sq Sr Zn Zo Zq Zr Zt Zu Zv Zw Zy Zz a_ b_ d9 d_ f_ g_ h_ j3 j4 j5 j6 j_ l6 l7 l8 l_ m_ n_ o7 o8 o9 o_ p8 p9 p_ r_ t_ v_ w_ aBe aBf aBg aBh aBi aBj aBk aBl aBm aBn aBo aBp aBq aBr aBs aBt aBu x8 x9 x_ y9 aBv aBw aBx aBy aBz aB0 aB1 aB2 aB3 aB4 aB5 aB6 aB7 aB8 aB9 Su:Value)
 (Sw:∀ (Sy Ta Tc Td Te Tf Tg Ti Tj Tk Tm Tn Tp Tq Tt:Value) (w':World),(∃ u',bW w' zb #[.string aL,vs2] 25∧dF w' (zb+1) vs2 (JF++[(({s with da:=s.da++[da]}:Sz),u')])∧Below (zb+1) wz w')->Q0 .normal ⟨(s0::s1::s2::s3::s4::s5::s6::s7::s8::s9::s10::s11::s12::s13::s14::.pointer (some ⟨zb,0,none⟩)::s16::.pointer (some ⟨rb,0,none⟩)::.int .i64 (JF.length:Int)::s19::s20::s21::s22::s23::s24::s25::s26::s27::s28::s29::s30::s31::s32::s33::s34::s35::s36::s37::s38::s39::s40::s41::s42::s43::s44::s45::s46::s47::s48::s49::s50::s51::s52::s53::s54::s55::s56::s57::s58::s59::s60::s61::s62::s63::s64::s65::s66::s67::s68::s69::s70::s71::s72::s73::s74::s75::s76::s77::s78::s79::s80::s81::s82::s83::s84::s85::s86::s87::s88::s89::s90::s91::s92::s93::s94::s95::s96::s97::s98::s99::Sb::Sc::Sd::Sg::Si::Sj::Sl::Sm::Sn::Sq::Sr::Zn::Zo::Zq::Zr::Zt::Zu::Zv::Zw::Zy::Zz::a_::b_::d9::d_::f_::g_::h_::j3::j4::j5::j6::j_::l6::l7::l8::l_::m_::n_::o7::o8::o9::o_::p8::p9::p_::r_::t_::v_::w_::aBe::aBf::aBg::aBh::aBi::aBj::aBk::aBl::aBm::aBn::aBo::aBp::aBq::aBr::aBs::aBt::aBu::x8::x9::x_::y9::Sy::Ta::Tc::Td::Te::Tf::Tg::Ti::Tj::Tk::Tm::Tn::Tp::Tq::Tt::Su::[]).toArray,[]⟩ w'):
 Code.wp Tryz.prog bzM Q0 ⟨(s0::s1::s2::s3::s4::s5::s6::s7::s8::s9::s10::s11::s12::s13::s14::.pointer (some ⟨zb,0,none⟩)::s16::.pointer (some ⟨rb,0,none⟩)::.int .i64 (JF.length:Int)::s19::s20::s21::s22::s23::s24::s25::s26::s27::s28::s29::s30::s31::s32::s33::s34::s35::s36::s37::s38::s39::s40::s41::s42::s43::s44::s45::s46::s47::s48::s49::s50::s51::s52::s53::s54::s55::s56::s57::s58::s59::s60::s61::s62::s63::s64::s65::s66::s67::s68::s69::s70::s71::s72::s73::s74::s75::s76::s77::s78::s79::s80::s81::s82::s83::s84::s85::s86::s87::s88::s89::s90::s91::s92::s93::s94::s95::s96::s97::s98::s99::Sb::Sc::Sd::Sg::Si::Sj::Sl::Sm::Sn::Sq::Sr::Zn::Zo::Zq::Zr::Zt::Zu::Zv::Zw::Zy::Zz::a_::b_::d9::d_::f_::g_::h_::j3::j4::j5::j6::j_::l6::l7::l8::l_::m_::n_::o7::o8::o9::o_::p8::p9::p_::r_::t_::v_::w_::aBe::aBf::aBg::aBh::aBi::aBj::aBk::aBl::aBm::aBn::aBo::aBp::aBq::aBr::aBs::aBt::aBu::x8::x9::x_::y9::aBv::aBw::aBx::aBy::aBz::aB0::aB1::aB2::aB3::aB4::aB5::aB6::aB7::aB8::aB9::Su::[]).toArray,[]⟩ wz:=by
 obtain⟨s0,hs,NF,NK,M8⟩:=info_parts Tryz.wM
 obtain⟨g,gc,rfl⟩:∃ g gc,vs2=.slice (some ⟨g,0,none⟩) (JF.length+1) gc:=by
  rcases Dp.outer.2 with⟨_,h0⟩|⟨g,gc,cur,e,_⟩
  ·simp at h0
  exact⟨g,gc,by rw [e];simp⟩
 have BR:(JF++[(s,Value.slice ux s.da.length uc)])[JF.length]? =some (s,Value.slice ux s.da.length uc):=by simp
 have kY:wz.ownsRow (zb+1) 9 1 (.slice ux s.da.length uc) s.da.length (s.da.map Value.string):=Dp.inner _ _ BR;have qV:=Dp.outer;rw [oJ,List.length_singleton] at qV;have hcu:wz.cell? ⟨g,JF.length*4+3,none⟩=some (.slice ux s.da.length uc):=(qV.cellAt (JF.length*4+3) (by omega)).trans ((lH _ _ 3 _ BR (by decide)).trans rfl);have rz2:=aA uI
 have rr2:=aA VA
 have nZ:JF.length<=500:=by
  exact aLf
 have m1:(0:Int)<=(JF.length:Int):=Int.natCast_nonneg _;have m2:(JF.length:Int)<(JF.length:Int)+1:=Int.lt_add_one_of_le (Int.le_refl _);have hlz:=cO uI
 conv=>arg 2;whnf
 refine wp_region_noPanic ?_;refine kR (fun W=>W.cell? ⟨zb,1,none⟩=some (.slice (some ⟨g,0,none⟩) (JF.length+1) gc)∧W.cell? ⟨g,JF.length*4+3,none⟩=some (.slice ux s.da.length uc)∧W.cell? ⟨rb,4,none⟩=some (.string da)∧True) 15 ⟨rz2 1,hcu,rr2 4,trivial⟩ fun aY=>?_;refine kB 0 rfl ?_;refine kB 1 rfl ?_;refine kB 2 rfl ?_;refine kB 3 rfl ?_;refine kB 4 rfl ?_;refine kB 5 rfl ?_;refine kB 6 rfl ?_;refine kB 7 rfl ?_;refine kB 8 rfl ?_;refine kB 9 rfl ?_;refine kB 10 rfl ?_;refine k1 11 rfl fun K hK=>?_
 go_simp;refine hK.out _ _ ⟨(aA (aB uI ((aJ _ _).drew.alloc (aI _) _)) 1),((((aJ _ _).drew.alloc (aI _) _).cell (fD wz _ hcu)).trans hcu),(aA (aB VA ((aJ _ _).drew.alloc (aI _) _)) 4),trivial⟩ fun _=>?_;clear hK K;refine k1 12 rfl fun K hK=>?_
 refine yC rfl (.tmp 179) (.tmp 182) 32 rfl (zb+1) 9 s0 _ 1 16 Tryz.underlying32 hs NF NK M8 rfl (by decide) _ _ _ (by rfl) (own_below kY ((aJ _ _).drew.alloc (aI _) _)) ⟨wz.heap.size,0,none⟩ 1 1 [.string da] (by rfl) rfl (eZ _ _ _) (by intro u hu;simp at hu;rcases hu with rfl;rfl) (by unfold maxLen;omega) (by omega) (by simp;omega) ?_;intro va wa yV nA BK DX;have yZ:Below wz.heap.size wz (wz.drew.alloc (.cells #[.string da] 9)):=(aJ _ _).drew.alloc (aI _) _;have hZ3:=(Dp.below yZ).more yV nA (by rcases DX with h|h;exact .inl h;right;intro g' e;rw [h] at e;simp at e;simp;omega);have uD:=aO (aB uI yZ) nA (QI (own_below kY yZ) (aB uI yZ) (by decide));have kr3:=aO (aB VA yZ) nA (QI (own_below kY yZ) (aB VA yZ) (by decide));have aFl:=iF (own_below qV yZ) nA (jZ (own_below qV yZ) (own_below kY yZ) (by decide));have aN1:wa.cell? ⟨g,JF.length*4+3,none⟩=some (.slice ux s.da.length uc):=(aFl.cellAt (JF.length*4+3) (by omega)).trans ((lH _ _ 3 _ BR (by decide)).trans rfl);have hfu3:=aFl.frozenAt (JF.length*4+3);have hgB:=(aFl.lt g rfl).1;have SX:Below (zb+1) wz wa:=(yZ.mono (by omega)).grown nA (by simp;omega) (fun g hg=>(kY.lt g hg).1);have XL:=QI aFl uD (by decide);obtain⟨xa,xc,rfl⟩:=aT yV;have NQ:bW (wa.setCell ⟨g,JF.length*4+3,none⟩ (.slice xa (s.da.length+1) xc)) zb #[.string aL,.slice (some ⟨g,0,none⟩) (JF.length+1) gc] 25:=eU uD (fun e=>XL (by rw [e];rfl));refine hK.out _ _ ⟨(aA uD 1),aN1,(aA kr3 4),trivial⟩ fun _=>?_;clear hK K;refine k1 13 rfl fun K hK=>?_
 go_simp;refine hK.out _ _ ⟨(aA uD 1),aN1,(aA kr3 4),trivial⟩ fun _=>?_;clear hK K;refine kB 14 rfl ?_;refine iB (by kernel_rfl) rfl (by kernel_rfl) fun K hK=>?_;go_simp;refine hK.out _ _ (NoPanic.normal ?_);clear hK K DX BK nA yV kr3 uD aFl qV kY;have HF:=Nm.aD (aV NQ (aV hZ3 (SX.setCell (p:=⟨g,JF.length*4+3,none⟩) hgB (.slice xa (s.da.length+1) xc))));clear NQ hZ3 SX
 first
  |exact⟨_,HF.out.1,HF.out.2.1,HF.out.2.2⟩
  |(refine Sw _ _ _ _ _ _ _ _ _ _ _ _ _ _ _ _ ?_;exact⟨_,HF.out.1,HF.out.2.1,HF.out.2.2⟩)
def zTs:List Nat:=[16,13,33,35,257,99]
def Tu(c:UInt8):Nat:=if c=110 then 1000 else if c=115 then 771 else 300
def wtZ(cs:List UInt8):Nat:=(cs.map Tu).sum
theorem yP(cs:List UInt8)(c:UInt8):wtZ (cs++[c])=wtZ cs+Tu c:=by simp [wtZ]
theorem aFm(cs:List UInt8)(k:Nat):wtZ (cs.take k)<=wtZ cs:=by
 have e:wtZ cs=wtZ (cs.take k)+wtZ (cs.drop k):=by
  simp only [wtZ];rw [<- List.sum_append,<- List.map_append,List.take_append_drop]
 omega
theorem aN2{t:Nat}(h:t∈zTs):wtZ (Dt.nW t).data.toList<=3100∧∀ c∈(Dt.nW t).data.toList,c≠109:=by
 simp only [zTs,List.mem_cons,List.not_mem_nil,or_false] at h
 rcases h with rfl|rfl|rfl|rfl|rfl|rfl<;>decide
theorem Lh(t:Nat)(ht:t∈zTs)(g:Nat)(a:Option Addr)(n cap:Nat)(w:World)(h:Src w g a n cap):
 Calls Tryz.prog 153 #[.pointer (some ⟨g,0,none⟩),.int .i64 (t:Int)] w fun e w'=>∃ d:ByteArray,e=.returned (.string d)∧d.size<=3100∧Src w' g a n cap∧w.grownBy w' (some g):=by
 have IR:=GZ t;obtain⟨hf1,Gx⟩:=XR t;obtain⟨hwt,gI⟩:=aN2 ht;generalize Dt.nW t=f at*;go_enter Tryz.func153,Tryz.ntmps153;go_wp2_with (go_at_call 124;refine(IR _).mono ?_;rintro e wx ⟨rfl,hwx⟩;obtain rfl:=hwx.symm;clear hwx)
 go_loopw [6,7] (fun o i wr=>∃ (k:Nat) (D:ByteArray),k<=f.size∧i=.int .i64 k∧o=.string D∧D.size<=wtZ (f.data.toList.take k)∧Src wr g a n cap∧w.grownBy wr (some g)) (fun _ i _=>f.size-(intOf i).toNat)
 ·exact⟨0,⟨#[]⟩,dR _,rfl,rfl,dR _,h,World.grownBy.refl _ _⟩
 obtain⟨k,D,hk,rfl,rfl,qA,kK,qB⟩:=hrel;clear h IR;have hwk:wtZ (f.data.toList.take k)<=3100:=jN (aFm _ k) hwt
 by_cases bY:k<f.size
 ·have SE:(k:Int)<(f.size:Int):=by omega
  have HT:Hid (f.data.toList.take (k+1)=f.data.toList.take k++[f[k]]):=by
   show _=_
   rw [List.take_add_one,Nm.lF bY];rfl
  have hnk:f[k]≠109:=gI _ (by
   have:=Nm.lF bY
   exact dA this)
  clear gI
  rcases Gx k bY with hc|hc|hc|hc|hc|hc|hc
  ·skip
   have hv:f[k].toNat=110:=by rw [hc];rfl
   have q0:((f[k].toNat:Int)==110)=true:=by rw [beq_iff_eq];omega
   have hw:Tu f[k]=1000:=by rw [hc];rfl
   clear Gx hnk
   go_wp2_with (
    go_at_call 75
    refine(IW g a n cap _ kK).mono ?_;rintro e w3 ⟨x,rfl,NK,M8,Kr,iZ⟩;have Kt:=aS qB iZ
    have Ip:D.size+x.size<=9223372036854775807:=by omega)
   go_roundw
   ·exact⟨k+1,D++x,by omega,by go_num,rfl,by rw [HT.out,yP,kU];omega,Kr,Kt⟩
   simp [intOf];omega
  ·skip
   have hv:f[k].toNat=98:=by rw [hc];rfl
   have q0:((f[k].toNat:Int)==110)=false:=by rw [fC];omega
   have q1:((f[k].toNat:Int)==98)=true:=by rw [beq_iff_eq];omega
   have hw:Tu f[k]=300:=by rw [hc];rfl
   clear Gx hnk;go_wp2_with fail
   refine(aW g a n cap 3 _ kK (by decide)).mono ?_;rintro e w3 ⟨r,rfl,GU,uG,sO,iZ⟩;have y_:=aS qB iZ
   by_cases hz:r=0
   ·subst hz
    go_wp2_with (
     go_at_call 20
     refine(fG g a n cap 1 _ sO (by decide) (by decide)).mono ?_;rintro e w4 ⟨x,rfl,hx,Kr,LH⟩;have Kt:=aS y_ LH
     have Ip:D.size+x.size<=9223372036854775807:=by omega)
    go_roundw
    ·exact⟨k+1,D++x,by omega,by go_num,rfl,by rw [HT.out,yP,kU];omega,Kr,Kt⟩
    simp [intOf];omega
   have hz':(r==0)=false:=beq_eq_false_iff_ne.2 hz
   have Kr:=sO;have Kt:=y_;have NK:(⟨#[0]⟩:ByteArray).size=1:=rfl;have Ip:D.size+1<=9223372036854775807:=by omega
   go_wp2;go_roundw
   ·exact⟨k+1,D++(⟨#[0]⟩:ByteArray),by omega,by go_num,rfl,by rw [HT.out,yP,kU];omega,Kr,Kt⟩
   simp [intOf];omega
  ·skip
   have hv:f[k].toNat=116:=by rw [hc];rfl
   have q0:((f[k].toNat:Int)==110)=false:=by rw [fC];omega
   have q1:((f[k].toNat:Int)==98)=false:=by rw [fC];omega
   have q2:((f[k].toNat:Int)==116)=true:=by rw [beq_iff_eq];omega
   have hw:Tu f[k]=300:=by rw [hc];rfl
   clear Gx hnk
   go_wp2_with (
    go_at_call 179
    refine(EH g a n cap _ kK).mono ?_;rintro e w3 ⟨x,rfl,NK,M8,Kr,iZ⟩;have Kt:=aS qB iZ
    have Ip:D.size+x.size<=9223372036854775807:=by omega)
   go_roundw
   ·exact⟨k+1,D++x,by omega,by go_num,rfl,by rw [HT.out,yP,kU];omega,Kr,Kt⟩
   simp [intOf];omega
  ·skip
   have hv:f[k].toNat=115:=by rw [hc];rfl
   have q0:((f[k].toNat:Int)==110)=false:=by rw [fC];omega
   have q1:((f[k].toNat:Int)==98)=false:=by rw [fC];omega
   have q2:((f[k].toNat:Int)==116)=false:=by rw [fC];omega
   have q3:((f[k].toNat:Int)==115)=true:=by rw [beq_iff_eq];omega
   have hw:Tu f[k]=771:=by rw [hc];rfl
   clear Gx hnk;go_wp2_with fail
   refine(aW g a n cap 3 _ kK (by decide)).mono ?_;rintro e w3 ⟨r,rfl,GU,uG,sO,iZ⟩;have wR:=uG (by decide);obtain⟨r,rfl⟩:=Int.eq_ofNat_of_zero_le GU;have y_:=aS qB iZ;clear uG iZ;go_wp2
   go_loopw [6,9] (fun o i wr=>∃ (j:Nat) (y:ByteArray),j<=1+r∧i=.int .i64 j∧o=.string (D++y)∧y.size<=257*j∧Src wr g a n cap∧w.grownBy wr (some g)) (fun _ i _=>1+r-(intOf i).toNat)
   ·exact⟨0,ByteArray.empty,by omega,rfl,by simp,by decide,sO,y_⟩
   obtain⟨j,y,hj,rfl,rfl,hy,PY,RH⟩:=hrel;clear sO y_
   by_cases hlj:j<1+r
   ·have hlj':(j:Int)<1+(r:Int):=by omega
    go_wp2_with (
     go_at_call 179
     refine(EH g a n cap _ PY).mono ?_;rintro e w6 ⟨x,rfl,NK,M8,Nb,Fb⟩;have aRc:=aS RH Fb
     have Ip:(D++y).size+x.size<=9223372036854775807:=by rw [kU];omega)
    go_roundw
    ·exact⟨j+1,y++x,by omega,by go_num,by rw [ByteArray.append_assoc],by rw [kU];omega,Nb,aRc⟩
    simp [intOf];omega
   obtain rfl:j=1+r:=by omega
   have Kr:=PY;have Kt:=RH;go_wp2;go_roundw
   ·exact⟨k+1,D++y,by omega,by go_num,rfl,by rw [HT.out,yP,kU];omega,Kr,Kt⟩
   simp [intOf];omega
  ·skip
   have hv:f[k].toNat=99:=by rw [hc];rfl
   have q0:((f[k].toNat:Int)==110)=false:=by rw [fC];omega
   have q1:((f[k].toNat:Int)==98)=false:=by rw [fC];omega
   have q2:((f[k].toNat:Int)==116)=false:=by rw [fC];omega
   have q3:((f[k].toNat:Int)==115)=false:=by rw [fC];omega
   have q4:((f[k].toNat:Int)==99)=true:=by rw [beq_iff_eq];omega
   have hw:Tu f[k]=300:=by rw [hc];rfl
   clear Gx hnk
   go_wp2_with (
    go_at_call 179
    refine(EH g a n cap _ kK).mono ?_;rintro e w3 ⟨x,rfl,NK,M8,Kr,iZ⟩;have Kt:=aS qB iZ;have aI3:(1:Int)<=(x.size:Int):=by omega
    have hxe:(x.extract 1 x.size).size=x.size-1:=by simp
    have hd5:(⟨#[5]⟩:ByteArray).size=1:=rfl
    have hdi:(⟨#[105,115,115,117,101]⟩:ByteArray).size=5:=rfl)
   go_roundw
   ·exact⟨k+1,D++(⟨#[5]⟩++(⟨#[105,115,115,117,101]⟩++x.extract 1 x.size)),by omega,by go_num,by rw [ByteArray.append_assoc,ByteArray.append_assoc],by rw [HT.out,yP,kU,kU,kU];omega,Kr,Kt⟩
   simp [intOf];omega
  ·exact absurd hc hnk
  skip
  have hv:f[k].toNat=42:=by rw [hc];rfl
  have q0:((f[k].toNat:Int)==110)=false:=by rw [fC];omega
  have q1:((f[k].toNat:Int)==98)=false:=by rw [fC];omega
  have q2:((f[k].toNat:Int)==116)=false:=by rw [fC];omega
  have q3:((f[k].toNat:Int)==115)=false:=by rw [fC];omega
  have q4:((f[k].toNat:Int)==99)=false:=by rw [fC];omega
  have q5:((f[k].toNat:Int)==109)=false:=by rw [fC];omega
  have q6:((f[k].toNat:Int)==42)=true:=by rw [beq_iff_eq];omega
  have hw:Tu f[k]=300:=by rw [hc];rfl
  clear Gx hnk
  go_wp2_with first
   |(
    go_at_call 18
    refine(aW g a n cap 12 _ kK (by decide)).mono ?_;rintro e w3 ⟨r,rfl,GU,uG,sO,iZ⟩;have wR:=uG (by decide)
    have y_:=aS qB iZ)
   |(
    go_at_call 20
    refine(fG g a n cap r _ sO (by omega) (by omega)).mono ?_;rintro e w4 ⟨x,rfl,hx,Kr,LH⟩;have Kt:=aS y_ LH
    have Ip:D.size+x.size<=9223372036854775807:=by omega)
  go_roundw
  ·exact⟨k+1,D++x,by omega,by go_num,rfl,by rw [HT.out,yP,kU];omega,Kr,Kt⟩
  simp [intOf];omega
 obtain rfl:k=f.size:=by omega
 have qD:f.data.toList.take f.size=f.data.toList:=List.take_of_length_le (by simp);rw [qD] at qA;go_wp2;go_ret;exact⟨_,rfl,by omega,kK,qB⟩
