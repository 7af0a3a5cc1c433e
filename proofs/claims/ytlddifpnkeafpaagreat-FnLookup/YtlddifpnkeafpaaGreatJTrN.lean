import Derived.Test.YtlddifpnkeafpaaGreatJOrdK
import Derived.Test.YtlddifpnkeafpaaGreatJTbPS
set_option linter.unusedVariables false
set_option maxRecDepth 100000
set_option maxHeartbeats 3200000
namespace Go.Proofs.YtlddifpnkeafpaaGreat
open Go.RowKit
theorem Ee(fn:Fn)(w:World):Calls Tryz.prog 135 #[.func fn #[] #[]] w fun e w'=>e=.returned (ptr w.heap.size)∧w'=w.alloc (.cells #[.func fn #[] #[],.slice none 0 0] 163):=by
 go_enter Tryz.func135,Tryz.ntmps135;go_wp2;go_ret;exact⟨rfl,rfl⟩
theorem Ef(fn:Fn)(w:World):Calls Tryz.prog 166 #[.func fn #[] #[]] w fun e w'=>e=.returned (ptr w.heap.size)∧w'=w.alloc (.cells #[.func fn #[] #[],.slice none 0 0] 193):=by
 go_enter Tryz.func166,Tryz.ntmps166;go_wp2;go_ret;exact⟨rfl,rfl⟩
theorem Eg(fn:Fn)(w:World):Calls Tryz.prog 170 #[.func fn #[] #[]] w fun e w'=>e=.returned (ptr w.heap.size)∧w'=w.alloc (.cells #[.func fn #[] #[],.slice none 0 0] 234):=by
 go_enter Tryz.func170,Tryz.ntmps170;go_wp2;go_ret;exact⟨rfl,rfl⟩
def aM3(own:ByteArray)(lv:Value)(ux:Addr)(W w':World):Prop:=∃ hd ob,ux=⟨ob,0,none⟩∧W.heap.size<=hd∧W.heap.size<=ob∧hd≠ob∧bW w' hd #[UW,.slice none 0 0] 193∧bW w' ob #[.string own,lv,ptr hd] 128
def aM4(tt:Int)(at_:Nat)(ux:Addr)(W w':World):Prop:=∃ hd sb,ux=⟨sb,0,none⟩∧W.heap.size<=hd∧W.heap.size<=sb∧hd≠sb∧bW w' hd #[Gp,.slice none 0 0] 234∧bW w' sb #[.int .i64 tt,.int .i64 (at_:Int),ptr hd] 177
theorem yG{w w':World}(h:Below w.heap.size w w'):w.grownBy w' none:=⟨h.os,h.tape,h.output,h.size,fun k hk _=>h.block k hk⟩
theorem aDu(rb lb:Nat)(own:ByteArray)(r1 r2 r3 r4:Value)(la:Option Addr)(ln lc:Nat)(w:World)(kr:bW w rb #[.string own,r1,r2,r3,r4] 133)(kl:bW w lb #[.slice la ln lc] 63)(hs:own.size<=1000000000):
 Calls Tryz.prog 165 #[ptr rb,ptr lb] w fun e w'=>∃ ux:Addr,e=.returned (.pointer (some ux))∧w.grownBy w' none∧aM3 own (.slice la ln lc) ux w w':=by
 have hnt:=Ef (.func 167) w;have yY:=(aJ w.heap.size w).alloc (aI _) (.cells #[.func (.func 167) #[] #[],.slice none 0 0] 193);have kh:=aK w #[.func (.func 167) #[] #[],.slice none 0 0] 193;have sI:=fun W=>xG own W hs
 unfold ptr;go_enter Tryz.func165,Tryz.ntmps165;go_wp2_with fail
 refine hnt.mono ?_;rintro e w1 ⟨rfl,KC⟩;rw [<- KC] at yY kh;unfold ptr;have hS:∀ W,Below w1.heap.size w1 W->W.cell? ⟨rb,0,none⟩=some (.string own)∧W.cell? ⟨lb,0,none⟩=some (.slice la ln lc):=fun W hW=>⟨aA (aB (aB kr yY) hW) 0,aA (aB (aB kl yY) hW) 0⟩
 have aM5:w1.heap.size=w.heap.size+1:=by rw [KC];simp
 clear hnt KC;go_wp2;refine kR (fun W=>W.cell? ⟨rb,0,none⟩=some (.string own)∧W.cell? ⟨lb,0,none⟩=some (.slice la ln lc)) 1000 (hS _ (aJ _ _).drew) fun aY=>?_;refine kB 0 rfl ?_;refine kB 1 rfl ?_;refine kB 3 rfl ?_;refine kB 4 rfl ?_;refine k1 2 rfl fun K hK=>?_
 go_simp;refine(sI _).mono ?_;rintro e w2 ⟨rfl,b2⟩;go_wp2_with fail
 have L_:Below w1.heap.size w1 w2:=Nm.aC (aJ _ _).drew b2;refine hK.out _ _ (hS _ L_) fun _=>?_;clear hK K sI;refine kB 5 rfl ?_;refine k1 6 rfl fun K hK=>?_
 go_simp;refine hK.out _ _ (hS _ (L_.alloc L_.size _)) fun _=>?_;clear hK K;refine kB 7 rfl ?_;refine kN ?_;have kh2:=bD (aB kh L_) (.cells #[.string own,.slice la ln lc,.pointer (some ⟨w.heap.size,0,none⟩)] 128);have ko:=aK w2 #[.string own,.slice la ln lc,.pointer (some ⟨w.heap.size,0,none⟩)] 128;have bF:=(Nm.aC yY L_).alloc (Nm.aC yY L_).size (.cells #[.string own,.slice la ln lc,.pointer (some ⟨w.heap.size,0,none⟩)] 128);have DY:=L_.size;have HX:=Nm.aD (aV kh2 (aV ko bF));clear kh2 ko bF L_ b2 hS kh yY kr kl;go_wp2;go_ret;exact⟨⟨w2.heap.size,0,none⟩,rfl,yG HX.out.2.2,w.heap.size,w2.heap.size,rfl,aI _,by omega,by omega,HX.out.1,HX.out.2.1⟩
theorem aDv(rb ab at_:Nat)(tt:Int)(r0 r1 r2 r4:Value)(w:World)(kr:bW w rb #[r0,r1,r2,.int .i64 tt,r4] 133)(ka:bW w ab #[.int .i64 (at_:Int)] 3):
 Calls Tryz.prog 169 #[ptr rb,ptr ab] w fun e w'=>∃ ux:Addr,e=.returned (.pointer (some ux))∧w.grownBy w' none∧aM4 tt at_ ux w w':=by
 have hnt:=fun W=>Eg (.func 171) W
 have hS:∀ W,Below w.heap.size w W->W.cell? ⟨rb,3,none⟩=some (.int .i64 tt)∧W.cell? ⟨ab,0,none⟩=some (.int .i64 (at_:Int)):=fun W hW=>⟨aA (aB kr hW) 3,aA (aB ka hW) 0⟩
 unfold ptr;go_enter Tryz.func169,Tryz.ntmps169;go_wp2;refine kR (fun W=>W.cell? ⟨rb,3,none⟩=some (.int .i64 tt)∧W.cell? ⟨ab,0,none⟩=some (.int .i64 (at_:Int))) 1000 (hS _ (aJ _ _).drew) fun aY=>?_;refine kB 0 rfl ?_;refine kB 1 rfl ?_;refine kB 2 rfl ?_;refine k1 3 rfl fun K hK=>?_
 go_simp;refine(hnt _).mono ?_;rintro e w1 ⟨rfl,KC⟩;have yY:Below w.heap.size w w1:=by rw [KC];exact(aJ w.heap.size w).drew.alloc (aI _) _
 have kh:bW w1 w.heap.size #[.func (.func 171) #[] #[],.slice none 0 0] 234:=by rw [KC];exact aK w.drew _ _
 have HZ1:Hid (w1.heap.size=w.heap.size+1):=by show _=_;rw [KC];simp
 clear KC;unfold ptr;go_wp2_with fail
 refine hK.out _ _ (hS _ yY) fun _=>?_;clear hK K hnt;refine kB 4 rfl ?_;refine k1 5 rfl fun K hK=>?_
 go_simp;refine hK.out _ _ (hS _ (yY.alloc yY.size _)) fun _=>?_;clear hK K;refine kB 6 rfl ?_;refine kN ?_;have kh2:=bD kh (.cells #[.int .i64 tt,.int .i64 (at_:Int),.pointer (some ⟨w.heap.size,0,none⟩)] 177);have ko:=aK w1 #[.int .i64 tt,.int .i64 (at_:Int),.pointer (some ⟨w.heap.size,0,none⟩)] 177;have bF:=yY.alloc yY.size (.cells #[.int .i64 tt,.int .i64 (at_:Int),.pointer (some ⟨w.heap.size,0,none⟩)] 177);have HX:=Nm.aD (aV kh2 (aV ko bF));clear kh2 ko bF hS kh yY kr ka;go_wp2;go_ret;exact⟨⟨w1.heap.size,0,none⟩,rfl,yG HX.out.2.2,w.heap.size,w1.heap.size,rfl,aI _,by have:=HZ1.out;omega,by have:=HZ1.out;omega,HX.out.1,HX.out.2.1⟩
theorem aDw(nb rb:Nat)(b0:Bool)(da:ByteArray)(r0 r1 r2 r3:Value)(w:World)(kn:bW w nb #[.bool b0] 4)(kr:bW w rb #[r0,r1,r2,r3,.string da] 133)(hs:da.size<=1000000000):
 Calls Tryz.prog 174 #[ptr nb,ptr rb] w fun e w'=>∃ ux:ByteArray,e=.returned (.string ux)∧w.grownBy w' (some nb)∧ux=da∧bW w' nb #[.bool true] 4:=by
 have sI:=fun W=>xG da W hs
 have dM:nb≠rb:=by
  intro e;subst e;rw [bW,kn] at kr;simp only [mV,Obj.cells.injEq] at kr;exact absurd kr.2.1 (by decide)
 have rn:=aA kn
 have fn:=aF kn
 have kn2:=aM kn 0 (.bool true);have VA:=eU (v:=.bool true) (i:=0) kr (Ne.symm dM);have c2:=aA VA
 have hg:w.grownBy (w.setCell ⟨nb,0,none⟩ (.bool true)) (some nb):=⟨rfl,rfl,rfl,by simp,fun k _ hk=>heap_setCell_other w ⟨nb,0,none⟩ k _ (fun e=>hk (by rw [e]))⟩;unfold ptr;go_enter Tryz.func174,Tryz.ntmps174;go_wp2_with fail
 refine(sI _).mono ?_;rintro e w1 ⟨rfl,b1⟩;have kn3:=aB kn2 b1;have HX:=Nm.aD (aV (V_ hg b1) kn3);clear hg kn3 kn2 VA c2 b1;go_wp2;go_ret;exact⟨da,rfl,HX.out.1,rfl,HX.out.2⟩
theorem Pq(g B:Nat)(lK rv key fv:Value)(rs:List (Value×Value))(cf:Nat->Int)(k:Nat)(p:Value×Value)(w:World)(hg:bW w g #[lK,rv] 193)(h:w.ownsRow B 195 2 rv rs.length (eO rs))(hl:rs.length<=1000000)
 (hf:∀ (tb i:Nat) (p:Value×Value),rs[i]? =some p->∀ W,Below w.heap.size w W->bW W tb #[.pointer (some ⟨g,0,none⟩)] 126->Calls Tryz.prog 177 #[.agg #[p.1,p.2],key,.pointer (some ⟨tb,0,none⟩)] W fun e w'=>e=.returned (.int .i64 (cf i))∧Below W.heap.size W w')
 (hm:∀ a b,a<=b->b<rs.length->cf b<0->cf a<0) (hk:FU rs.length cf k) (hp:rs[k]? =some p) (h0:cf k=0):
 Calls Tryz.prog 168 #[.pointer (some ⟨g,0,none⟩),key,fv] w fun e w'=>e=.returned p.2∧Below w.heap.size w w':=by
 have nZ:=EB g lK rv key rs cf w hg (dZ.aP h) hl hf hm;have mK:=(dL hp).1;have MI:=eY rs k 1 p hp (by decide);obtain⟨_,a,cap,rfl,gT,kV,hc⟩:=dZ.aP h;obtain⟨b,off,rfl,aH⟩:=hc (by omega);have c1:=aH _ _ MI;have HK:=Nm.aD hk;have H0:=Nm.aD (aV mK h0);unfold maxLen at kV;have n1:=fE k
 have n2:(k:Int)<(rs.length:Int):=by omega
 clear hf hm hk hp h0 h aH hc MI;go_enter Tryz.func168,Tryz.ntmps168;go_wp2_with fail
 refine nZ.mono ?_;rintro e w1 ⟨k',vT,rfl,b1⟩;obtain rfl:=FU.unique HK.out vT;rw [oI H0.out.1,oI H0.out.2];have kg:=aB hg b1;have rg:=aA kg
 have d1:w1.cell? ⟨b,off+k*2+1,none⟩=some p.2:=(b1.cell (fD w _ c1)).trans c1;have tt:(true&&true)=true:=rfl;clear nZ vT c1 H0;go_wp2;go_ret;exact⟨rfl,b1⟩
theorem Jo(g B:Nat)(lK rv:Value)(kx:Int)(caps:Array Value)(rs:List (Value×Value))(cf:Nat->Int)(k:Nat)(w:World)(ob:Option Nat)(P:Addr->World->World->Prop)(hg:bW w g #[lK,rv] 193)(h:w.ownsRow B 195 2 rv rs.length (eO rs))(hl:rs.length<=500000)
 (hf:∀ (tb i:Nat) (p:Value×Value),rs[i]? =some p->∀ W,Below w.heap.size w W->bW W tb #[.pointer (some ⟨g,0,none⟩)] 126->Calls Tryz.prog 177 #[.agg #[p.1,p.2],(Value.int .i64 kx),.pointer (some ⟨tb,0,none⟩)] W fun e w'=>e=.returned (.int .i64 (cf i))∧Below W.heap.size W w')
 (hm:∀ a b,a<=b->b<rs.length->cf b<0->cf a<0) (hk:FU rs.length cf k) (h0:¬(k<rs.length∧cf k=0))
 (h1:∀ p∈rs,p.1.oneCell'=true∧p.2.oneCell'=true) (hB:B<=w.heap.size)
 (Xi:∀ W,Below w.heap.size w W->Calls Tryz.prog 169 caps W fun e w'=>∃ ux:Addr,e=.returned (Value.pointer (some ux))∧W.grownBy w' ob∧P ux W w') (hob:ob≠some g) (hrv:∀ x,rv.ownBlock=some x->ob≠some x):
 Calls Tryz.prog 168 #[.pointer (some ⟨g,0,none⟩),(Value.int .i64 kx),.func (.func 169) #[] caps] w fun e w'=>∃ (ux:Addr) (W w1:World) (rv':Value),e=.returned (Value.pointer (some ux))∧Below w.heap.size w W∧W.grownBy w1 ob∧P ux W w1∧bW w' g #[lK,rv'] 193∧w'.ownsRow B 195 2 rv' (rs.length+1) (eO (rs.take k++[((Value.int .i64 kx),(Value.pointer (some ux)))]++rs.drop k))∧Kp2 g rv.ownBlock w1 w'∧(rv'.ownBlock=rv.ownBlock∨∀ x,rv'.ownBlock=some x->w1.heap.size<=x):=by
 have nZ:=EB g lK rv (Value.int .i64 kx) rs cf w hg (dZ.aP h) (by omega) hf hm;obtain⟨a,cap,rfl⟩:=aT h;have HK:=Nm.aD hk
 have H0:Hid ((decide (k<rs.length)&&decide (cf k=0))=false):=by
  show _=_
  rw [Bool.and_eq_false_iff]
  by_cases hx:k<rs.length
  ·exact .inr (oF (fun h=>h0 ⟨hx,h⟩))
  exact .inl (oF hx)
 clear hf hm hk h0;go_enter Tryz.func168,Tryz.ntmps168;go_wp2_with fail
 refine nZ.mono ?_;rintro e w1 ⟨k',vT,rfl,b1⟩;obtain rfl:=FU.unique HK.out vT;rw [H0.out];have kg:=aB hg b1;have h2:=own_below h b1;have Ps:=Xi w1.drew b1.drew;have hkn:k<=rs.length:=HK.out.1;have Mv:=cO hg;clear nZ vT Xi H0 HK;go_wp2;refine kR (fun W=>W.cell? ⟨g,1,none⟩=some (.slice a rs.length cap)) 14 (aA kg 1) fun aY=>?_;refine kB 0 rfl ?_;refine kB 1 rfl ?_;refine kB 2 rfl ?_;refine kB 3 rfl ?_;refine kB 4 rfl ?_;refine kB 5 rfl ?_;refine kB 6 rfl ?_;refine kB 7 rfl ?_;refine k1 8 rfl fun K hK=>?_
 go_simp;refine Ps.mono ?_;rintro e w2 ⟨ux,rfl,qB,hP⟩;go_wp2_with fail
 have XJ:bW w2 g #[lK,.slice a rs.length cap] 193:=aO (fO kg) qB (fun e=>hob e)
 have M4:w2.ownsRow B 195 2 (.slice a rs.length cap) rs.length (eO rs):=h2.drew.kept qB (by
  cases hv:(Value.slice a rs.length cap).ownBlock with
  |none=>exact .inl rfl
  |some x=>right;intro e;exact hrv x hv e.symm)
 refine hK.out _ _ (aA XJ 1) fun _=>?_;clear hK K Ps;refine kB 9 rfl ?_;have jW:Below w2.heap.size w2 (w2.alloc (.cells #[(Value.int .i64 kx),(Value.pointer (some ux))] 195)):=(aJ _ _).alloc (aI _) _;have kg3:=aB XJ jW;refine k1 10 rfl fun K hK=>?_
 go_simp;refine hK.out _ _ (aA kg3 1) fun _=>?_;clear hK K;have hwB:B<=w2.heap.size:=by have:=b1.size;have:=qB.size;simp at this;omega
 have Pt:=Om (.slice a rs.length cap) rs.length k (eO rs) (Value.int .i64 kx) (Value.pointer (some ux)) w2.heap.size 1 B _ (own_below M4 jW) hkn (aK w2 #[(Value.int .i64 kx),(Value.pointer (some ux))] 195) (fun e=>by have:=(M4.lt _ e).2;omega) (RX h1) rfl rfl (by omega) (by simp;omega);refine k1 11 rfl fun K hK=>?_
 go_simp;refine Pt.mono ?_;rintro e w3 ⟨rv',rfl,XK,iZ,Pv⟩;go_wp2_with fail
 rw [RQ] at XK
 obtain⟨g',cap',rfl⟩:∃ g' cap',rv'=.slice (some ⟨g',0,none⟩) (rs.length+1) cap':=by
  rcases XK.2 with⟨_,h0⟩|⟨g',cap',cur,e,_⟩
  ·omega
  exact⟨g',cap',e⟩
 have AQ:(Value.slice a rs.length cap).ownBlock≠some g:=by
  intro e
  rcases M4.2 with⟨h0,_⟩|⟨q,c,cur,e1,_,hh,_⟩
  ·simp only [gK] at h0;rw [h0.1] at e;cases e
  simp only [gK] at e1;rw [e1.1] at e;simp only [Value.ownBlock,mV] at e;subst e;rw [bW,hh] at XJ;simp only [mV,Obj.cells.injEq] at XJ;exact absurd XJ.2.1 (by decide)
 have PO:=aO kg3 iZ AQ;have rg4:=aA PO
 have fg4:=aF PO
 refine hK.out _ _ (aA PO 1) fun _=>?_;clear hK K Pt;refine k1 12 rfl fun K hK=>?_
 go_simp;refine hK.out _ _ (aA PO 1) fun _=>?_;clear hK K;refine kB 13 rfl ?_;refine iB (by kernel_rfl) rfl (by kernel_rfl) fun K hK=>?_;go_simp;refine hK.out _ _ ?_;clear hK K
 have hgn:g'≠g:=by
  intro e;subst e
  rcases XK.2 with⟨h0,_⟩|⟨q,c,cur,e1,_,hh,_⟩
  ·cases h0
  simp only [gK,mV,Addr.mk.injEq] at e1;obtain⟨⟨rfl,_⟩,_⟩:=e1;rw [bW,hh] at PO;simp only [mV,Obj.cells.injEq] at PO;exact absurd PO.2.1 (by decide)
 have BQ:=dY (y:=.slice (some ⟨g',0,none⟩) (rs.length+1) cap') (i:=1) (g:=g) XK (by simp [Value.ownBlock];exact hgn);have kg5:=aM PO 1 (.slice (some ⟨g',0,none⟩) (rs.length+1) cap');have hlen:(rs.take k++[((Value.int .i64 kx),(Value.pointer (some ux)))]++rs.drop k).length=rs.length+1:=by simp;omega
 have qF:(rs.take k++[((Value.int .i64 kx),(Value.pointer (some ux)))]++rs.drop k)[k]? =some ((Value.int .i64 kx),(Value.pointer (some ux))):=by
  have Pw:(rs.take k).length=k:=by rw [List.length_take];omega
  rw [List.append_assoc,List.getElem?_append_right (by omega),Pw];simp
 have c1:(w3.setCell ⟨g,1,none⟩ (.slice (some ⟨g',0,none⟩) (rs.length+1) cap')).cell? ⟨g',k*2+1,none⟩=some (Value.pointer (some ux)):=(BQ.cellAt (k*2+1) (by omega)).trans ((eY _ k 1 _ qF (by decide)).trans rfl);have c2:(w3.setCell ⟨g,1,none⟩ (.slice (some ⟨g',0,none⟩) (rs.length+1) cap')).cell? ⟨g,1,none⟩=some (.slice (some ⟨g',0,none⟩) (rs.length+1) cap'):=(aA kg5 1).trans (by simp);have n1:=fE k
 have n2:(k:Int)<(rs.length:Int)+1:=by omega
 have hKP:Kp2 g (Value.slice a rs.length cap).ownBlock w2 (w3.setCell ⟨g,1,none⟩ (.slice (some ⟨g',0,none⟩) (rs.length+1) cap')):=by
  refine⟨iZ.os,iZ.tape,iZ.output,?_,fun q hq dM Px=>?_⟩
  ·have:=iZ.size;simp at this ⊢;omega
  rw [heap_setCell_other w3 ⟨g,1,none⟩ q _ (by simpa using dM),iZ.block q (by simp;omega) (fun e=>Px e.symm)];exact jW.block q hq
 have HX:=Nm.aD (aV b1 (aV qB (aV hP (aV kg5 (aV BQ (aV hKP Pv))))));clear b1 qB hP kg5 BQ hKP Pv XK iZ PO kg3 XJ kg M4 h2 h hg jW rg4 fg4 qF;go_wp2;go_ret
 exact⟨ux,w1.drew,w2,_,rfl,HX.out.1.drew,HX.out.2.1,HX.out.2.2.1,HX.out.2.2.2.1,HX.out.2.2.2.2.1,HX.out.2.2.2.2.2.1,by
  rcases HX.out.2.2.2.2.2.2 with h|h
  ·exact .inl h
  exact .inr (fun x e=>by have:=h x e;simp at this;omega)⟩
theorem aDx(v tgt cp:Value)(rs:List (Value×Value))(cf:Nat->Int)(w:World)(h:dZ w v rs.length 2 (eO rs))(hl:rs.length<=1000000)
 (hf:∀ (i:Nat) (p:Value×Value),rs[i]? =some p->∀ W,Below w.heap.size w W->Calls Tryz.prog 134 #[.agg #[p.1,p.2],tgt,cp] W fun e w'=>e=.returned (.int .i64 (cf i))∧Below W.heap.size W w')
 (hm:∀ a b,a<=b->b<rs.length->cf b<0->cf a<0):
 Calls Tryz.prog 133 #[v,tgt,.func (.func 134) #[] #[cp]] w fun e w'=>∃ k:Nat,FU rs.length cf k∧e=.returned (.tuple #[.int .i64 (k:Int),.bool (decide (k<rs.length)&&decide (cf k=0))])∧Below w.heap.size w w':=by
 obtain⟨_,a,cap,rfl,gT,kV,hc⟩:=h;unfold maxLen at kV;have HM:=Nm.aD hm;clear hm;go_enter Tryz.func133,Tryz.ntmps133;go_wp2
 go_loopw [9,10] (fun vi vj wr=>∃ i j:Nat,i<=j∧j<=rs.length∧vi=.int .i64 i∧vj=.int .i64 j∧Hid ((∀ q,q<i->cf q<0)∧(∀ q,j<=q->q<rs.length->0<=cf q))∧Below w.heap.size w wr) (fun vi vj _=>(intOf vj).toNat-(intOf vi).toNat)
 ·exact⟨0,rs.length,dR _,aI _,rfl,rfl,⟨fun q hq=>by omega,fun q h1 h2=>by omega⟩,aJ _ _⟩
 obtain⟨i,j,hij,NG,rfl,rfl,HI,aG⟩:=hrel
 by_cases bY:i<j
 ·obtain⟨m,hm⟩:∃ m,m=(i+j) / 2:=⟨_,rfl⟩;have hm1:i<=m:=by omega
  have hm2:m<j:=by omega
  have g1:((i:Int)+(j:Int)) / 2=(m:Int):=by omega
  obtain⟨p,hp⟩:∃ p,rs[m]? =some p:=⟨_,gF (by omega)⟩;have Pm:=eY rs m 0 p hp (by decide);have MI:=eY rs m 1 p hp (by decide);obtain⟨b,off,rfl,aH⟩:=hc (by omega);have put:∀ {B O:Nat} {z:Value},w.cell? ⟨B,O,none⟩=some z->wr.cell? ⟨B,O,none⟩=some z:=fun h=>(aG.cell (fD w _ h)).trans h
  have c0:wr.cell? ⟨b,off+m*2,none⟩=some p.1:=put (aH _ _ Pm);have c1:wr.cell? ⟨b,off+m*2+1,none⟩=some p.2:=put (aH _ _ MI);have sI:=hf m p hp wr aG;have n1:=fE m
  have n2:(m:Int)<(rs.length:Int):=by omega
  have n3:(i:Int)<(j:Int):=by omega
  have n4:(j:Int)<=1000000:=by omega
  clear aH hc Pm MI hp put hf hm
  by_cases NI:cf m<0
  ·have HI2:Hid ((∀ q,q<m+1->cf q<0)∧(∀ q,j<=q->q<rs.length->0<=cf q)):=⟨fun q hq=>HM.out q m (by omega) (by omega) NI,HI.out.2⟩;clear HI;go_wp2_with fail
   refine sI.mono ?_;rintro e w1 ⟨rfl,b1⟩;go_wp2;go_roundw
   ·exact⟨m+1,j,by omega,NG,by go_num,rfl,HI2,Nm.aC aG b1⟩
   simp [intOf];omega
  have HI2:Hid ((∀ q,q<i->cf q<0)∧(∀ q,m<=q->q<rs.length->0<=cf q)):=⟨HI.out.1,fun q h1 h2=>by
   rcases Int.lt_or_le (cf q) 0 with h|h
   ·exact absurd (HM.out m q h1 h2 h) NI
   exact h⟩
  have n5:0<=cf m:=by omega
  clear HI NI;go_wp2_with fail
  refine sI.mono ?_;rintro e w1 ⟨rfl,b1⟩;go_wp2;go_roundw
  ·exact⟨i,m,hm1,by omega,rfl,rfl,HI2,Nm.aC aG b1⟩
  simp [intOf];omega
 obtain rfl:i=j:=by omega
 have HF:Hid (FU rs.length cf i):=⟨NG,HI.out⟩;have n3:¬(i:Int)<(i:Int):=by omega
 clear HI HM
 by_cases EA:i<rs.length
 ·obtain⟨p,hp⟩:=gQ EA;have Pm:=eY rs i 0 p hp (by decide);have MI:=eY rs i 1 p hp (by decide);obtain⟨b,off,rfl,aH⟩:=hc (by omega);have put:∀ {B O:Nat} {z:Value},w.cell? ⟨B,O,none⟩=some z->wr.cell? ⟨B,O,none⟩=some z:=fun h=>(aG.cell (fD w _ h)).trans h
  have c0:wr.cell? ⟨b,off+i*2,none⟩=some p.1:=put (aH _ _ Pm);have c1:wr.cell? ⟨b,off+i*2+1,none⟩=some p.2:=put (aH _ _ MI);have sI:=hf i p hp wr aG;have n1:=fE i
  have n2:(i:Int)<(rs.length:Int):=by omega
  have HIL:=Nm.aD EA;clear aH hc Pm MI hp put hf EA;have e0:(cf i==0)=decide (cf i=0):=by by_cases h:cf i=0<;>simp [h]
  have HE0:=Nm.aD e0;clear e0;go_wp2_with fail
  refine sI.mono ?_;rintro e w1 ⟨rfl,b1⟩;go_wp2;go_ret2;refine⟨i,HF.out,?_,Nm.aC aG b1⟩;rw [oI HIL.out,Bool.true_and,<- HE0.out];rfl
 have hie:i=rs.length:=by omega
 have n2:(rs.length:Int)<=(i:Int):=by omega
 have HIL:=Nm.aD EA;clear hc hf EA hie;go_wp2;go_ret2;refine⟨i,HF.out,?_,aG⟩;rw [oF HIL.out,Bool.false_and];rfl
theorem yH(g:Nat)(lK rv key:Value)(rs:List (Value×Value))(cf:Nat->Int)(w:World)(hg:bW w g #[lK,rv] 163)(h:dZ w rv rs.length 2 (eO rs))(hl:rs.length<=1000000)
 (hf:∀ (tb i:Nat) (p:Value×Value),rs[i]? =some p->∀ W,Below w.heap.size w W->bW W tb #[.pointer (some ⟨g,0,none⟩)] 100->Calls Tryz.prog 134 #[.agg #[p.1,p.2],key,.pointer (some ⟨tb,0,none⟩)] W fun e w'=>e=.returned (.int .i64 (cf i))∧Below W.heap.size W w')
 (hm:∀ a b,a<=b->b<rs.length->cf b<0->cf a<0):
 Calls Tryz.prog 98 #[.pointer (some ⟨g,0,none⟩),key] w fun e w'=>∃ k:Nat,FU rs.length cf k∧e=.returned (.tuple #[.int .i64 (k:Int),.bool (decide (k<rs.length)&&decide (cf k=0))])∧Below w.heap.size w w':=by
 have iY:=(aJ w.heap.size w).alloc (aI _) (.cells #[.pointer (some ⟨g,0,none⟩)] 100);have kb:=aK w #[.pointer (some ⟨g,0,none⟩)] 100;have hs:=aDx rv key (.pointer (some ⟨w.heap.size,0,none⟩)) rs cf _ (h.below iY) hl (fun i p hp W hW=>hf w.heap.size i p hp W (Nm.aC iY hW) (aB kb hW)) hm;have kg:=aB hg iY;have rg:=aA kg
 have hmf:∀ (fn:Fn) (first cap:Array Value) (w:World),(Instr.makeFunc fn first cap).run Tryz.prog w=.ok (.func fn first cap) w:=fun _ _ _ _=>rfl
 obtain⟨_,a,cap,rfl,_⟩:=h;clear hf hm;go_enter Tryz.func98,Tryz.ntmps98;go_wp2_with fail
 refine hs.mono ?_;rintro e w1 ⟨k,hk,rfl,b1⟩;have HK:=Nm.aD hk;obtain⟨OK,hOK⟩:∃ OK,(decide (k<rs.length)&&decide (cf k=0))=OK:=⟨_,rfl⟩;rw [hOK];have Jn:=Nm.aD hOK;clear hOK hk hs;go_wp2;go_ret2;exact⟨k,HK.out,by rw [Jn.out];rfl,Nm.aC iY b1⟩
theorem Py(g B:Nat)(lK rv key fv:Value)(rs:List (Value×Value))(cf:Nat->Int)(k:Nat)(p:Value×Value)(w:World)(hg:bW w g #[lK,rv] 163)(h:w.ownsRow B 165 2 rv rs.length (eO rs))(hl:rs.length<=1000000)
 (hf:∀ (tb i:Nat) (p:Value×Value),rs[i]? =some p->∀ W,Below w.heap.size w W->bW W tb #[.pointer (some ⟨g,0,none⟩)] 100->Calls Tryz.prog 134 #[.agg #[p.1,p.2],key,.pointer (some ⟨tb,0,none⟩)] W fun e w'=>e=.returned (.int .i64 (cf i))∧Below W.heap.size W w')
 (hm:∀ a b,a<=b->b<rs.length->cf b<0->cf a<0) (hk:FU rs.length cf k) (hp:rs[k]? =some p) (h0:cf k=0):
 Calls Tryz.prog 164 #[.pointer (some ⟨g,0,none⟩),key,fv] w fun e w'=>e=.returned p.2∧Below w.heap.size w w':=by
 have nZ:=yH g lK rv key rs cf w hg (dZ.aP h) hl hf hm;have mK:=(dL hp).1;have MI:=eY rs k 1 p hp (by decide);obtain⟨_,a,cap,rfl,gT,kV,hc⟩:=dZ.aP h;obtain⟨b,off,rfl,aH⟩:=hc (by omega);have c1:=aH _ _ MI;have HK:=Nm.aD hk;have H0:=Nm.aD (aV mK h0);unfold maxLen at kV;have n1:=fE k
 have n2:(k:Int)<(rs.length:Int):=by omega
 clear hf hm hk hp h0 h aH hc MI;go_enter Tryz.func164,Tryz.ntmps164;go_wp2_with fail
 refine nZ.mono ?_;rintro e w1 ⟨k',vT,rfl,b1⟩;obtain rfl:=FU.unique HK.out vT;rw [oI H0.out.1,oI H0.out.2];have kg:=aB hg b1;have rg:=aA kg
 have d1:w1.cell? ⟨b,off+k*2+1,none⟩=some p.2:=(b1.cell (fD w _ c1)).trans c1;have tt:(true&&true)=true:=rfl;clear nZ vT c1 H0;go_wp2;go_ret;exact⟨rfl,b1⟩
theorem Jp(g B:Nat)(lK rv:Value)(ka:Option Addr)(kn kc:Nat)(caps:Array Value)(rs:List (Value×Value))(cf:Nat->Int)(k:Nat)(w:World)(ob:Option Nat)(P:Addr->World->World->Prop)(hg:bW w g #[lK,rv] 163)(h:w.ownsRow B 165 2 rv rs.length (eO rs))(hl:rs.length<=500000)
 (hf:∀ (tb i:Nat) (p:Value×Value),rs[i]? =some p->∀ W,Below w.heap.size w W->bW W tb #[.pointer (some ⟨g,0,none⟩)] 100->Calls Tryz.prog 134 #[.agg #[p.1,p.2],(Value.slice ka kn kc),.pointer (some ⟨tb,0,none⟩)] W fun e w'=>e=.returned (.int .i64 (cf i))∧Below W.heap.size W w')
 (hm:∀ a b,a<=b->b<rs.length->cf b<0->cf a<0) (hk:FU rs.length cf k) (h0:¬(k<rs.length∧cf k=0))
 (h1:∀ p∈rs,p.1.oneCell'=true∧p.2.oneCell'=true) (hB:B<=w.heap.size)
 (Xi:∀ W,Below w.heap.size w W->Calls Tryz.prog 165 caps W fun e w'=>∃ ux:Addr,e=.returned (Value.pointer (some ux))∧W.grownBy w' ob∧P ux W w') (hob:ob≠some g) (hrv:∀ x,rv.ownBlock=some x->ob≠some x):
 Calls Tryz.prog 164 #[.pointer (some ⟨g,0,none⟩),(Value.slice ka kn kc),.func (.func 165) #[] caps] w fun e w'=>∃ (ux:Addr) (W w1:World) (rv':Value),e=.returned (Value.pointer (some ux))∧Below w.heap.size w W∧W.grownBy w1 ob∧P ux W w1∧bW w' g #[lK,rv'] 163∧w'.ownsRow B 165 2 rv' (rs.length+1) (eO (rs.take k++[((Value.slice ka kn kc),(Value.pointer (some ux)))]++rs.drop k))∧Kp2 g rv.ownBlock w1 w'∧(rv'.ownBlock=rv.ownBlock∨∀ x,rv'.ownBlock=some x->w1.heap.size<=x):=by
 have nZ:=yH g lK rv (Value.slice ka kn kc) rs cf w hg (dZ.aP h) (by omega) hf hm;obtain⟨a,cap,rfl⟩:=aT h;have HK:=Nm.aD hk
 have H0:Hid ((decide (k<rs.length)&&decide (cf k=0))=false):=by
  show _=_
  rw [Bool.and_eq_false_iff]
  by_cases hx:k<rs.length
  ·exact .inr (oF (fun h=>h0 ⟨hx,h⟩))
  exact .inl (oF hx)
 clear hf hm hk h0;go_enter Tryz.func164,Tryz.ntmps164;go_wp2_with fail
 refine nZ.mono ?_;rintro e w1 ⟨k',vT,rfl,b1⟩;obtain rfl:=FU.unique HK.out vT;rw [H0.out];have kg:=aB hg b1;have h2:=own_below h b1;have Ps:=Xi w1.drew b1.drew;have hkn:k<=rs.length:=HK.out.1;have Mv:=cO hg;clear nZ vT Xi H0 HK;go_wp2;refine kR (fun W=>W.cell? ⟨g,1,none⟩=some (.slice a rs.length cap)) 14 (aA kg 1) fun aY=>?_;refine kB 0 rfl ?_;refine kB 1 rfl ?_;refine kB 2 rfl ?_;refine kB 3 rfl ?_;refine kB 4 rfl ?_;refine kB 5 rfl ?_;refine kB 6 rfl ?_;refine kB 7 rfl ?_;refine k1 8 rfl fun K hK=>?_
 go_simp;refine Ps.mono ?_;rintro e w2 ⟨ux,rfl,qB,hP⟩;go_wp2_with fail
 have XJ:bW w2 g #[lK,.slice a rs.length cap] 163:=aO (fO kg) qB (fun e=>hob e)
 have M4:w2.ownsRow B 165 2 (.slice a rs.length cap) rs.length (eO rs):=h2.drew.kept qB (by
  cases hv:(Value.slice a rs.length cap).ownBlock with
  |none=>exact .inl rfl
  |some x=>right;intro e;exact hrv x hv e.symm)
 refine hK.out _ _ (aA XJ 1) fun _=>?_;clear hK K Ps;refine kB 9 rfl ?_;have jW:Below w2.heap.size w2 (w2.alloc (.cells #[(Value.slice ka kn kc),(Value.pointer (some ux))] 165)):=(aJ _ _).alloc (aI _) _;have kg3:=aB XJ jW;refine k1 10 rfl fun K hK=>?_
 go_simp;refine hK.out _ _ (aA kg3 1) fun _=>?_;clear hK K;have hwB:B<=w2.heap.size:=by have:=b1.size;have:=qB.size;simp at this;omega
 have Pt:=Pn (.slice a rs.length cap) rs.length k (eO rs) (Value.slice ka kn kc) (Value.pointer (some ux)) w2.heap.size 1 B _ (own_below M4 jW) hkn (aK w2 #[(Value.slice ka kn kc),(Value.pointer (some ux))] 165) (fun e=>by have:=(M4.lt _ e).2;omega) (RX h1) rfl rfl (by omega) (by simp;omega);refine k1 11 rfl fun K hK=>?_
 go_simp;refine Pt.mono ?_;rintro e w3 ⟨rv',rfl,XK,iZ,Pv⟩;go_wp2_with fail
 rw [RQ] at XK
 obtain⟨g',cap',rfl⟩:∃ g' cap',rv'=.slice (some ⟨g',0,none⟩) (rs.length+1) cap':=by
  rcases XK.2 with⟨_,h0⟩|⟨g',cap',cur,e,_⟩
  ·omega
  exact⟨g',cap',e⟩
 have AQ:(Value.slice a rs.length cap).ownBlock≠some g:=by
  intro e
  rcases M4.2 with⟨h0,_⟩|⟨q,c,cur,e1,_,hh,_⟩
  ·simp only [gK] at h0;rw [h0.1] at e;cases e
  simp only [gK] at e1;rw [e1.1] at e;simp only [Value.ownBlock,mV] at e;subst e;rw [bW,hh] at XJ;simp only [mV,Obj.cells.injEq] at XJ;exact absurd XJ.2.1 (by decide)
 have PO:=aO kg3 iZ AQ;have rg4:=aA PO
 have fg4:=aF PO
 refine hK.out _ _ (aA PO 1) fun _=>?_;clear hK K Pt;refine k1 12 rfl fun K hK=>?_
 go_simp;refine hK.out _ _ (aA PO 1) fun _=>?_;clear hK K;refine kB 13 rfl ?_;refine iB (by kernel_rfl) rfl (by kernel_rfl) fun K hK=>?_;go_simp;refine hK.out _ _ ?_;clear hK K
 have hgn:g'≠g:=by
  intro e;subst e
  rcases XK.2 with⟨h0,_⟩|⟨q,c,cur,e1,_,hh,_⟩
  ·cases h0
  simp only [gK,mV,Addr.mk.injEq] at e1;obtain⟨⟨rfl,_⟩,_⟩:=e1;rw [bW,hh] at PO;simp only [mV,Obj.cells.injEq] at PO;exact absurd PO.2.1 (by decide)
 have BQ:=dY (y:=.slice (some ⟨g',0,none⟩) (rs.length+1) cap') (i:=1) (g:=g) XK (by simp [Value.ownBlock];exact hgn);have kg5:=aM PO 1 (.slice (some ⟨g',0,none⟩) (rs.length+1) cap');have hlen:(rs.take k++[((Value.slice ka kn kc),(Value.pointer (some ux)))]++rs.drop k).length=rs.length+1:=by simp;omega
 have qF:(rs.take k++[((Value.slice ka kn kc),(Value.pointer (some ux)))]++rs.drop k)[k]? =some ((Value.slice ka kn kc),(Value.pointer (some ux))):=by
  have Pw:(rs.take k).length=k:=by rw [List.length_take];omega
  rw [List.append_assoc,List.getElem?_append_right (by omega),Pw];simp
 have c1:(w3.setCell ⟨g,1,none⟩ (.slice (some ⟨g',0,none⟩) (rs.length+1) cap')).cell? ⟨g',k*2+1,none⟩=some (Value.pointer (some ux)):=(BQ.cellAt (k*2+1) (by omega)).trans ((eY _ k 1 _ qF (by decide)).trans rfl);have c2:(w3.setCell ⟨g,1,none⟩ (.slice (some ⟨g',0,none⟩) (rs.length+1) cap')).cell? ⟨g,1,none⟩=some (.slice (some ⟨g',0,none⟩) (rs.length+1) cap'):=(aA kg5 1).trans (by simp);have n1:=fE k
 have n2:(k:Int)<(rs.length:Int)+1:=by omega
 have hKP:Kp2 g (Value.slice a rs.length cap).ownBlock w2 (w3.setCell ⟨g,1,none⟩ (.slice (some ⟨g',0,none⟩) (rs.length+1) cap')):=by
  refine⟨iZ.os,iZ.tape,iZ.output,?_,fun q hq dM Px=>?_⟩
  ·have:=iZ.size;simp at this ⊢;omega
  rw [heap_setCell_other w3 ⟨g,1,none⟩ q _ (by simpa using dM),iZ.block q (by simp;omega) (fun e=>Px e.symm)];exact jW.block q hq
 have HX:=Nm.aD (aV b1 (aV qB (aV hP (aV kg5 (aV BQ (aV hKP Pv))))));clear b1 qB hP kg5 BQ hKP Pv XK iZ PO kg3 XJ kg M4 h2 h hg jW rg4 fg4 qF;go_wp2;go_ret
 exact⟨ux,w1.drew,w2,_,rfl,HX.out.1.drew,HX.out.2.1,HX.out.2.2.1,HX.out.2.2.2.1,HX.out.2.2.2.2.1,HX.out.2.2.2.2.2.1,by
  rcases HX.out.2.2.2.2.2.2 with h|h
  ·exact .inl h
  exact .inr (fun x e=>by have:=h x e;simp at this;omega)⟩
