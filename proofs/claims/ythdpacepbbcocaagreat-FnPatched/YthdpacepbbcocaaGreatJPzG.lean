import Derived.Test.YthdpacepbbcocaaGreatJBzR
import Derived.Test.YthdpacepbbcocaaGreatJBzC
set_option linter.unusedVariables false
set_option maxRecDepth 100000
set_option maxHeartbeats 3200000
namespace Go.Proofs.YthdpacepbbcocaaGreat
open Go.RowKit
theorem qF{P:Program}{ops:Array Oper}{rest:List Oper}{o:Oper}{a:Act}{w:World}{Q:Exit->Act->World->Prop}(Ce:o.guard=none)(s x:Operand)(t t2:TypeId)
 (ho:o.op=.call {callee:=.builtin .append,args:=#[s,x],argTypes:=#[t,t2]}) (v u v':Value) (w':World) (hs:a.eval s=v) (hx:a.eval x=u)
 (hr:(Builtin.append_ #[t,t2] o.type #[v,u]).run P w=.ok v' w') (h:wpList P ops Q rest (a.put o.dst v') w'):wpList P ops Q (o::rest) a w:=
 wpList_plain Ce fun _ hK=>by
  unfold Oper.wp execOp;simp only [ho,resolve,invoke,builtin,Sem.run_bind,Sem.run_pure,Result.andThen_ok,List.map_toArray,List.map_cons,List.map_nil,hs,hx,hr];exact hK _ _ h
theorem aKv(l:List Rr):∀ u∈bK l,u.oneCell'=true:=by
 intro u hu;rw [bK] at hu;obtain⟨r,_,hr⟩:=List.mem_flatMap.1 hu;simp [Ju] at hr
 rcases hr with rfl|rfl|rfl|rfl|rfl<;>rfl
theorem XR{w:World}{B n:Nat}{v u:Value}{l r:List Rr}(aU:w.ownsRow B 29 5 v n (bK l))(hv:v.ownBlock≠none)(hs:bS w u r.length 5 (bK r))(hn:n<=1000000)(hr:r.length<=1000000)(hB:B<=w.heap.size):
 ∃ v' w',(Builtin.append_ #[30,30] 30 #[v,u]).run Tryz.prog w=.ok v' w'∧w'.ownsRow B 29 5 v' (n+r.length) (bK (l++r))∧w.grownBy w' v.ownBlock∧v'.ownBlock≠none:=by
 obtain⟨j0,hj,k0,k1,k2⟩:=info_parts Tryz.KC;obtain⟨hlen,a,cap,rfl,gY,kK,hc⟩:=hs
 cases a with
 |none=>
  have hn:r.length=0:=by
   rcases Nat.eq_zero_or_pos r.length with h|h
   ·exact h
   obtain⟨b,off,e,_⟩:=hc h;cases e
  have hl0:r=[]:=List.eq_nil_of_length_eq_zero hn;subst hl0
  rcases aU.2 with⟨rfl,rfl⟩|⟨g,cap',cur,rfl,ZU,hg,YX,zM,oZ,aGc⟩
  ·exact absurd rfl hv
  refine⟨_,_,run_append_room_src (P:=Tryz.prog) w 30 30 30 29 j0 Tryz.underlying30 hj g 0 n cap' (.slice none 0 cap) 0 [] (Src.ofNil _ Tryz.underlying30 cap) (by omega) (by simp) (by simp),?_,⟨rfl,rfl,rfl,aN _,fun _ _ _=>rfl⟩,by simp [Value.ownBlock]⟩;rw [List.append_nil]
  exact aU
 |some x=>
  obtain⟨v',w',h1,h2,h3,h4⟩:=run_append_own (P:=Tryz.prog) w B 30 30 29 j0 _ 5 56 Tryz.underlying30 hj k0 k1 k2 rfl (by decide) v n (bK l) aU x r.length cap (bK r) hlen (by
   intro j u hu
   have hp:0<r.length:=by
    rcases Nat.eq_zero_or_pos r.length with h|h
    ·have:r=[]:=List.eq_nil_of_length_eq_zero h;subst this;simp [bK] at hu
    exact h
   obtain⟨b,off,e,aL⟩:=hc hp;simp only [mP] at e;subst e;rw [Nm.addr_add]
   exact aL j u hu) (aKv r) (by unfold maxLen;omega) (by omega) hB
  refine⟨v',w',h1,by rw [show bK (l++r)=bK l++bK r from by simp [bK]];exact h2,h3,?_⟩;intro e
  rcases h2.2 with⟨rfl,hz⟩|⟨g,cap',cur,rfl,_⟩
  ·have:=(h4.1 rfl).1;rw [this] at hv;exact hv rfl
  cases e
theorem aD4(n:Nat)(hn:0<n)(hn2:n<=1000000)(w:World):
 Calls Tryz.prog 86 #[.slice none 0 0,.int .i64 (n:Int)] w fun e w'=>∃ v,e=.returned v∧w'.ownsRow w.heap.size 29 5 v 0 []∧v.ownBlock≠none∧Below w.heap.size w w':=by
 obtain⟨j0,hj,k0,k1,k2⟩:=info_parts Tryz.KC;obtain⟨Z0,hZ0⟩:∃ Z0,Z0=Value.agg #[.string ByteArray.empty,.int .i64 0,.int .i64 0,.int .i64 0,.string ByteArray.empty]:=⟨_,rfl⟩;rw [<- hZ0] at k0;have hr:=Lib.run_append_nil_zeros (P:=Tryz.prog) w 30 3 30 29 j0 Z0 .i64 .i64 Tryz.underlying30 Tryz.underlying3 hj k0 n hn (by omega) (by omega) (by rw [k2];omega);have i1:¬(n:Int)<0:=by omega
 have i2:(0:Int)<(n:Int):=by omega
 have hge:=grownCap_ge w n 0 29;have zM:grownCap w n 0 29<=maxLen:=grownCap_le_maxLen w n 0 29 (by unfold maxLen;omega);have KS:Z0.cells.size=5:=by rw [hZ0];rfl
 have aU:(w.drew.alloc (.cells (Builtin.zeroCells Z0.cells n++Builtin.zeroCells Z0.cells (grownCap w n 0 29-n)) 29)).ownsRow w.heap.size 29 5 (.slice (some ⟨w.heap.size,0,none⟩) 0 (grownCap w n 0 29)) 0 []:=by
  refine⟨rfl,.inr ⟨w.heap.size,_,_,rfl,aN _,heap_alloc_new w.drew _,dO _,zM,?_,by simp⟩⟩;simp only [Array.size_append,size_zeroCells,KS];omega
 have hB:Below w.heap.size w (w.drew.alloc (.cells (Builtin.zeroCells Z0.cells n++Builtin.zeroCells Z0.cells (grownCap w n 0 29-n)) 29)):=(aK w.heap.size w).drew.alloc (aN _) _;generalize Builtin.zeroCells Z0.cells n++Builtin.zeroCells Z0.cells (grownCap w n 0 29-n)=Z at*;generalize grownCap w n 0 29=C at*;clear hZ0 KS k0;go_enter Tryz.func86,Tryz.ntmps86;go_wp2_with (refine qF rfl (.tmp 20) (.tmp 21) 30 3 rfl _ _ _ _ rfl rfl hr ?_)
 go_ret;exact⟨_,rfl,aU,by simp [Value.ownBlock],hB⟩
theorem Qq(v1 v2 v3:Value)(l1 l2 l3:List Rr)(b:Nat)(w:World)(VU:w.cell? ⟨b,0,none⟩=some v1)(iK:w.cell? ⟨b,1,none⟩=some v2)(mD:w.cell? ⟨b,2,none⟩=some v3)(h1:bS w v1 l1.length 5 (bK l1))(h2:bS w v2 l2.length 5 (bK l2))(h3:bS w v3 l3.length 5 (bK l3))(hp:0<l1.length)(CX:l1.length<=10000)(EI:l2.length<=10000)(hl3:l3.length<=10000):
 Calls Tryz.prog 49 #[.slice (some ⟨b,0,none⟩) 3 3] w fun e w'=>∃ v,e=.returned v∧w'.ownsRow w.heap.size 29 5 v (l1++l2++l3).length (bK (l1++l2++l3))∧Below w.heap.size w w':=by
 obtain⟨a1,c1,rfl⟩:∃ a1 c1,v1=.slice a1 l1.length c1:=by obtain⟨_,a,c,e,_⟩:=h1;exact⟨a,c,e⟩
 obtain⟨a2,c2,rfl⟩:∃ a2 c2,v2=.slice a2 l2.length c2:=by obtain⟨_,a,c,e,_⟩:=h2;exact⟨a,c,e⟩
 obtain⟨a3,c3,rfl⟩:∃ a3 c3,v3=.slice a3 l3.length c3:=by obtain⟨_,a,c,e,_⟩:=h3;exact⟨a,c,e⟩
 obtain⟨M,hM⟩:∃ M,M=l1.length+l2.length:=⟨_,rfl⟩;obtain⟨N,hN⟩:∃ N,N=M+l3.length:=⟨_,rfl⟩;have hw0:IntKind.i64.wrap (l1.length:Int)=(l1.length:Int):=Go.wrap_small _ (by omega) (by omega);have CJ:IntKind.i64.wrap ((l1.length:Int)+(l2.length:Int))=(M:Int):=by rw [Go.wrap_small _ (by omega) (by omega)];omega
 have DU:IntKind.i64.wrap ((M:Int)+(l3.length:Int))=(N:Int):=by rw [Go.wrap_small _ (by omega) (by omega)];omega
 have nH:=fun W=>aD4 N (by omega) (by omega) W
 have n1:¬(l1.length:Int)<0:=by omega
 have n2:¬(M:Int)<0:=by omega
 have n3:¬(N:Int)<0:=by omega
 have Me:=eB w _ VU;have HN:=Nm.aF hN;have HM:=Nm.aF hM;have hMs:M<=20000:=by omega
 clear hN hM;go_enter Tryz.func49,Tryz.ntmps49;go_wp2
 go_loopw [3,5,11] (fun s _ i wr=>w=wr∧((s=.int .i64 0∧i=.int .i64 0)∨(s=.int .i64 (l1.length:Int)∧i=.int .i64 1)∨(s=.int .i64 (M:Int)∧i=.int .i64 2)∨(s=.int .i64 (N:Int)∧i=.int .i64 3))) (fun _ _ i _=>3-(intOf i).toNat)
 case atStart=>exact⟨rfl,.inl ⟨rfl,rfl⟩⟩
 obtain⟨rfl,hr⟩:=hrel
 rcases hr with⟨rfl,rfl⟩|⟨rfl,rfl⟩|⟨rfl,rfl⟩|⟨rfl,rfl⟩
 ·go_wp2;go_roundw
  case rel=>exact⟨by trivial,.inr (.inl ⟨rfl,rfl⟩)⟩
  simp [intOf]
 ·go_wp2;go_roundw
  case rel=>exact⟨by trivial,.inr (.inr (.inl ⟨rfl,rfl⟩))⟩
  simp [intOf]
 ·go_wp2;go_roundw
  case rel=>exact⟨by trivial,.inr (.inr (.inr ⟨rfl,rfl⟩))⟩
  simp [intOf]
 go_wp2_with fail
 refine(nH _).mono ?_;rintro e w1 ⟨v0,rfl,ho,hob,fF⟩;obtain⟨ax,cx,rfl⟩:=aT ho;clear nH hw0 CJ DU n1 n2 n3;go_wp2
 go_loopw [6,8,27] (fun v _ i wr=>Below w.heap.size w wr∧v.ownBlock≠none∧((i=.int .i64 0∧wr.ownsRow w.heap.size 29 5 v 0 (bK []))∨(i=.int .i64 1∧wr.ownsRow w.heap.size 29 5 v l1.length (bK l1))∨(i=.int .i64 2∧wr.ownsRow w.heap.size 29 5 v M (bK (l1++l2)))∨(i=.int .i64 3∧wr.ownsRow w.heap.size 29 5 v N (bK (l1++l2++l3))))) (fun _ _ i _=>3-(intOf i).toNat)
 case atStart=>exact⟨fF,hob,.inl ⟨rfl,ho⟩⟩
 clear ho hob fF;obtain⟨aJ,hob,hr⟩:=hrel;have hsw:=aJ.size;have d0:=(aJ.cell (p:=⟨b,0,none⟩) Me).trans VU;have d1:=(aJ.cell (p:=⟨b,1,none⟩) Me).trans iK;have d2:=(aJ.cell (p:=⟨b,2,none⟩) Me).trans mD
 rcases hr with⟨rfl,ho⟩|⟨rfl,ho⟩|⟨rfl,ho⟩|⟨rfl,ho⟩
 ·obtain⟨ax,cx,rfl⟩:=aT ho;obtain⟨v',w',JZ,CW,hg,aHk⟩:=XR ho hob (h1.below aJ) (by omega) (by omega) hsw;have JD:=aJ.grown hg hsw (fun q hq=>(ho.lt q hq).1);rw [List.nil_append,Nat.zero_add] at CW;obtain⟨ay,cy,rfl⟩:=aT CW;clear h1 h2 h3 VU iK mD hg;go_wp2_with (refine qF rfl (.tmp 31) (.tmp 32) 30 30 rfl _ _ _ _ rfl rfl JZ ?_)
  go_roundw
  case rel=>exact⟨JD,aHk,.inr (.inl ⟨rfl,CW⟩)⟩
  simp [intOf]
 ·obtain⟨ax,cx,rfl⟩:=aT ho;obtain⟨v',w',JZ,CW,hg,aHk⟩:=XR ho hob (h2.below aJ) (by omega) (by omega) hsw;have JD:=aJ.grown hg hsw (fun q hq=>(ho.lt q hq).1);rw [<- HM.out] at CW;obtain⟨ay,cy,rfl⟩:=aT CW;clear h1 h2 h3 VU iK mD hg;go_wp2_with (refine qF rfl (.tmp 31) (.tmp 32) 30 30 rfl _ _ _ _ rfl rfl JZ ?_)
  go_roundw
  case rel=>exact⟨JD,aHk,.inr (.inr (.inl ⟨rfl,CW⟩))⟩
  simp [intOf]
 ·obtain⟨ax,cx,rfl⟩:=aT ho;obtain⟨v',w',JZ,CW,hg,aHk⟩:=XR ho hob (h3.below aJ) (by omega) (by omega) hsw;have JD:=aJ.grown hg hsw (fun q hq=>(ho.lt q hq).1);rw [<- HN.out] at CW;obtain⟨ay,cy,rfl⟩:=aT CW;clear h1 h2 h3 VU iK mD hg;go_wp2_with (refine qF rfl (.tmp 31) (.tmp 32) 30 30 rfl _ _ _ _ rfl rfl JZ ?_)
  go_roundw
  case rel=>exact⟨JD,aHk,.inr (.inr (.inr ⟨rfl,CW⟩))⟩
  simp [intOf]
 obtain⟨ax,cx,rfl⟩:=aT ho;clear h1 h2 h3 VU iK mD;go_wp2;go_ret;refine⟨_,rfl,?_,aJ⟩;have e:(l1++l2++l3).length=N:=by rw [nG,nG,HN.out,HM.out]
 rw [e];exact ho
theorem aNi(xs:List Rr):decide (Vn xs>=0)=xs.any xM:=by
 rw [Vn]
 cases h:xs.findIdx? xM with
 |none=>
  rw [List.findIdx?_eq_none_iff] at h;have:xs.any xM=false:=List.any_eq_false.2 fun x hx=>by simp [h x hx]
  rw [this]
  rfl
 |some k=>
  obtain⟨hk,h1,_⟩:=List.findIdx?_eq_some_iff_getElem.1 h;have:xs.any xM=true:=List.any_eq_true.2 ⟨_,List.getElem_mem hk,h1⟩;rw [this];simp
theorem TG(v:Value)(xs:List Rr)(w:World)(h:bS w v xs.length 5 (bK xs)):
 Calls Tryz.prog 46 #[v,.func (.func 47) #[] #[]] w fun e w'=>e=.returned (.bool (xs.any xM))∧Below w.heap.size w w':=by
 have hix:=MS v xs w h;rw [<- aNi];generalize Vn xs=K at*;go_enter Tryz.func46,Tryz.ntmps46;go_wp2_with (go_at_call 81;refine hix.mono ?_;rintro e w1 ⟨rfl,fF⟩)
 go_ret;exact⟨rfl,fF⟩
def aNj(f:Ld->Bool)(HB:Bool)(ls:List Ld):Value:=match ls.find? f with
 |some x=>.tuple #[.int .i64 20,.int .i64 (x.at_:Int)]
 |none=>if HB=true then .tuple #[.int .i64 0,.int .i64 0] else .tuple #[.int .i64 20,.int .i64 (-1)]
theorem Hu(bb:Nat)(v:Value)(ls:List Ld)(f:Ld->Bool)(na:Option Addr)(nl nc:Nat)(HB:Bool)(w:World)(hk:w.cell? ⟨bb,5,none⟩=some v)(h:bS w v ls.length 4 (zX ls))(hl:ls.length<=1000000)(hk3:w.cell? ⟨bb,3,none⟩=some (.slice na nl nc))
 (hf:∀ x∈ls,∀ cq W,Below w.heap.size w W->W.cell? ⟨cq,0,none⟩=some (.slice na nl nc)->Calls Tryz.prog 137 #[.agg #[.int .i64 (x.at_:Int),.int .i64 x.ty,.pointer (some ⟨x.ob,0,none⟩),.pointer (some ⟨x.sb,0,none⟩)],.pointer (some ⟨cq,0,none⟩)] W fun e w'=>e=.returned (.bool (f x))∧Below W.heap.size W w')
 (hh:∀ W,Below w.heap.size w W->Calls Tryz.prog 138 #[.pointer (some ⟨bb,3,none⟩),.slice na nl nc,.int .i64 6] W fun e w'=>e=.returned (.bool HB)∧Below W.heap.size W w'):
 Calls Tryz.prog 108 #[.pointer (some ⟨bb,0,none⟩)] w fun e w'=>e=.returned (aNj f HB ls)∧Below w.heap.size w w':=by
 have jF:=(aK w.heap.size w).alloc (aN _) (.cells #[.slice na nl nc] 116);have kb:=aH w #[.slice na nl nc] 116;have hw:=Hm bb w.heap.size 20 v ls f _ ((jF.cell (p:=⟨bb,5,none⟩) (eB w _ hk)).trans hk) (h.below jF) hl (fun x hx W hW=>hf x hx w.heap.size W (Nm.aC jF hW) ((aA (aB kb hW) 0).trans rfl));have HH:=Nm.aF hh;clear hf hh h hk;unfold aNj;unfold zY at hw
 cases hx:ls.find? f with
 |some x=>
  rw [hx] at hw;simp only at hw ⊢
  clear hx;go_enter Tryz.func108,Tryz.ntmps108;go_wp2_with fail
  refine hw.mono ?_;rintro e w1 ⟨rfl,b1⟩;have fF:=Nm.aC jF b1;have k1:=(aA (aB kb b1) 0).trans rfl;clear hw kb b1;go_wp2;go_region
  all_goals go_wp2
  all_goals go_ret2
  all_goals exact⟨rfl,fF.drew⟩
 |none=>
  rw [hx] at hw;simp only at hw ⊢
  clear hx;go_enter Tryz.func108,Tryz.ntmps108;go_wp2_with fail
  refine hw.mono ?_;rintro e w1 ⟨rfl,b1⟩;have fF:=Nm.aC jF b1;have k1:=(aA (aB kb b1) 0).trans rfl;have hd:=HH.out w1.drew fF.drew;clear hw kb b1;go_wp2;go_region_with (go_at_call 138;refine hd.mono ?_;rintro e w2 ⟨rfl,b2⟩)
  all_goals (cases HB<;>(go_wp2;go_ret2;exact⟨rfl,Nm.aC fF ((aK _ w1).drew.trans b2)⟩))
theorem Qr(x:Ld)(tt hv:Value)(fi:Nat)(T:TypeId)(w:World)(hk:bG w x.sb #[tt,.int .i64 (fi:Int),hv] T):
 Calls Tryz.prog 141 #[.agg #[.int .i64 (x.at_:Int),.int .i64 x.ty,.pointer (some ⟨x.ob,0,none⟩),.pointer (some ⟨x.sb,0,none⟩)]] w fun e w'=>e=.returned (.bool ((x.ty==5||x.ty==39)&&((x.at_:Int) != (fi:Int))))∧Below w.heap.size w w':=by
 have jF:=(aK w.heap.size w).alloc (aN _) (.cells #[.int .i64 (x.at_:Int),.int .i64 x.ty,.pointer (some ⟨x.ob,0,none⟩),.pointer (some ⟨x.sb,0,none⟩)] 171);have kb:=aH w #[.int .i64 (x.at_:Int),.int .i64 x.ty,.pointer (some ⟨x.ob,0,none⟩),.pointer (some ⟨x.sb,0,none⟩)] 171;have r0:=(aA kb 0).trans rfl;have r1:=(aA kb 1).trans rfl;have r3:=(aA kb 3).trans rfl;have ko:=(aA (aB hk jF) 1).trans rfl;obtain⟨at_,ty,ob,sb⟩:=x;simp only at*
 clear hk kb;generalize hE:((at_:Int) != (fi:Int))=EQ at*;have HE:=Nm.aF hE
 by_cases h2:ty=5
 ·subst h2;have e2:((5:Int)==5)=true:=rfl;go_enter Tryz.func141,Tryz.ntmps141;go_wp2;go_quiet (fail)
  go_wp2;go_ret;exact⟨by simp,Go.below_drewN jF _⟩
 have e2:(ty==5)=false:=by simpa using h2
 by_cases h3:ty=39
 ·subst h3;go_enter Tryz.func141,Tryz.ntmps141;go_wp2;go_quiet (fail)
  go_wp2;go_ret;exact⟨by simp,Go.below_drewN jF _⟩
 have e3:(ty==39)=false:=by simpa using h3
 go_enter Tryz.func141,Tryz.ntmps141;go_wp2;go_quiet (fail)
 go_wp2;go_ret;exact⟨by simp [e2,e3],Go.below_drewN jF _⟩
theorem aHl(x:Ld)(cq:Nat)(tt hv nm ov:Value)(fi:Nat)(T To:TypeId)(la:Option Addr)(ln lc:Nat)(aa:Option Addr)(an ac:Nat)(w:World)(hk:bG w x.sb #[tt,.int .i64 (fi:Int),hv] T)(ho:bG w x.ob #[nm,.slice la ln lc,ov] To)(hq:w.cell? ⟨cq,0,none⟩=some (.slice aa an ac)):
 Calls Tryz.prog 137 #[.agg #[.int .i64 (x.at_:Int),.int .i64 x.ty,.pointer (some ⟨x.ob,0,none⟩),.pointer (some ⟨x.sb,0,none⟩)],.pointer (some ⟨cq,0,none⟩)] w fun e w'=>e=.returned (.bool (x.ty==6&&(decide (an<ln)||((x.at_:Int) != (fi:Int)))))∧Below w.heap.size w w':=by
 have jF:=(aK w.heap.size w).alloc (aN _) (.cells #[.int .i64 (x.at_:Int),.int .i64 x.ty,.pointer (some ⟨x.ob,0,none⟩),.pointer (some ⟨x.sb,0,none⟩)] 171);have kb:=aH w #[.int .i64 (x.at_:Int),.int .i64 x.ty,.pointer (some ⟨x.ob,0,none⟩),.pointer (some ⟨x.sb,0,none⟩)] 171;have r0:=(aA kb 0).trans rfl;have r1:=(aA kb 1).trans rfl;have r2:=(aA kb 2).trans rfl;have r3:=(aA kb 3).trans rfl;have ko:=(aA (aB hk jF) 1).trans rfl;have kp:=(aA (aB ho jF) 1).trans rfl;have kq:=(jF.cell (p:=⟨cq,0,none⟩) (eB w _ hq)).trans hq;obtain⟨at_,ty,ob,sb⟩:=x;simp only at*
 clear hk kb ho hq;generalize hE:((at_:Int) != (fi:Int))=EQ at*;have HE:=Nm.aF hE
 by_cases h2:ty=6
 ·subst h2;have e2:((6:Int)==6)=true:=rfl
  by_cases h3:an<ln
  ·have e3:(an:Int)<(ln:Int):=by omega
   go_enter Tryz.func137,Tryz.ntmps137;go_wp2;go_quiet (fail)
   go_wp2;go_ret;exact⟨by simp [h3],Go.below_drewN jF _⟩
  have e3:¬(an:Int)<(ln:Int):=by omega
  go_enter Tryz.func137,Tryz.ntmps137;go_wp2;go_quiet (fail)
  go_wp2;go_ret;exact⟨by simp [h3],Go.below_drewN jF _⟩
 have e2:(ty==6)=false:=by simpa using h2
 go_enter Tryz.func137,Tryz.ntmps137;go_wp2;go_quiet (fail)
 go_wp2;go_ret;exact⟨by simp [e2],Go.below_drewN jF _⟩
