import Derived.Test.YtlddifpnkeafpaaGreatJOrdL
import Derived.Test.YtlddifpnkeafpaaGreatJCmpD
import Derived.RangeFuncNested
import Derived.RangeFuncBound
import Derived.Shelf.RegionOpen
import Derived.OwnWalkIn
import Derived.LoopNIn
import Derived.LoopIn
set_option linter.unusedVariables false
set_option maxRecDepth 100000
set_option maxHeartbeats 3200000
namespace Go.Proofs.YtlddifpnkeafpaaGreat
variable {a:Nat}{d:ByteArray}{fs:List Dt.Pc}{sp:List (Nat×Nat)}{t:Int}
section
open Go.RowKit
theorem aDo(v tgt cp:Value)(rs:List (Value×Value))(cf:Nat->Int)(w:World)(h:dZ w v rs.length 2 (eO rs))(hl:rs.length<=1000000)
 (hf:∀ (i:Nat) (p:Value×Value),rs[i]? =some p->∀ W,Below w.heap.size w W->Calls Tryz.prog 200 #[.agg #[p.1,p.2],tgt,cp] W fun e w'=>e=.returned (.int .i64 (cf i))∧Below W.heap.size W w')
 (hm:∀ a b,a<=b->b<rs.length->cf b<0->cf a<0):
 Calls Tryz.prog 199 #[v,tgt,.func (.func 200) #[] #[cp]] w fun e w'=>∃ k:Nat,FU rs.length cf k∧e=.returned (.tuple #[.int .i64 (k:Int),.bool (decide (k<rs.length)&&decide (cf k=0))])∧Below w.heap.size w w':=by
 obtain⟨_,a,cap,rfl,gT,kV,hc⟩:=h;unfold maxLen at kV;have HM:=Nm.aD hm;clear hm;go_enter Tryz.func199,Tryz.ntmps199;go_wp2
 go_loopw [9,10] (fun vi vj wr=>∃ i j:Nat,i<=j∧j<=rs.length∧vi=.int .i64 i∧vj=.int .i64 j∧Hid ((∀ q,q<i->cf q<0)∧(∀ q,j<=q->q<rs.length->0<=cf q))∧Below w.heap.size w wr) (fun vi vj _=>(intOf vj).toNat-(intOf vi).toNat)
 ·exact⟨0,rs.length,dR _,aI _,rfl,rfl,⟨fun q hq=>by omega,fun q h1 h2=>by omega⟩,aJ _ _⟩
 obtain⟨i,j,hij,NG,rfl,rfl,HI,aG⟩:=hrel
 by_cases bY:i<j
 ·obtain⟨m,hm⟩:∃ m,m=(i+j) / 2:=⟨_,rfl⟩;have hm1:i<=m:=by omega
  have hm2:m<j:=by omega
  have g1:((i:Int)+(j:Int)) / 2=(m:Int):=by omega
  obtain⟨p,hp⟩:∃ p,rs[m]? =some p:=⟨_,gF (by omega)⟩;have Pm:=eY rs m 0 p hp (by decide);have MI:=eY rs m 1 p hp (by decide);obtain⟨b,off,rfl,aH⟩:=hc (by omega);have put:∀ {B O:Nat} {z:Value},w.cell? ⟨B,O,none⟩=some z->wr.cell? ⟨B,O,none⟩=some z:=fun h=>(aG.cell (fD w _ h)).trans h
  have c0:wr.cell? ⟨b,off+m*2,none⟩=some p.1:=put (aH _ _ Pm);have c1:wr.cell? ⟨b,off+m*2+1,none⟩=some p.2:=put (aH _ _ MI);have sI:=hf m p hp wr aG;have n1:=fE m
  have n2:(m:Int)<(rs.length:Int):=by omega
  have n3:(i:Int)<(j:Int):=by omega
  have n4:(j:Int)<=1000000:=by omega
  clear aH hc Pm MI hp put hf hm
  by_cases NI:cf m<0
  ·have HI2:Hid ((∀ q,q<m+1->cf q<0)∧(∀ q,j<=q->q<rs.length->0<=cf q)):=⟨fun q hq=>HM.out q m (by omega) (by omega) NI,HI.out.2⟩;clear HI;go_wp2_with fail
   refine sI.mono ?_;rintro e w1 ⟨rfl,b1⟩;go_wp2;go_roundw
   ·exact⟨m+1,j,by omega,NG,by go_num,rfl,HI2,Nm.aC aG b1⟩
   simp [intOf];omega
  have HI2:Hid ((∀ q,q<i->cf q<0)∧(∀ q,m<=q->q<rs.length->0<=cf q)):=⟨HI.out.1,fun q h1 h2=>by
   rcases Int.lt_or_le (cf q) 0 with h|h
   ·exact absurd (HM.out m q h1 h2 h) NI
   exact h⟩
  have n5:0<=cf m:=by omega
  clear HI NI;go_wp2_with fail
  refine sI.mono ?_;rintro e w1 ⟨rfl,b1⟩;go_wp2;go_roundw
  ·exact⟨i,m,hm1,by omega,rfl,rfl,HI2,Nm.aC aG b1⟩
  simp [intOf];omega
 obtain rfl:i=j:=by omega
 have HF:Hid (FU rs.length cf i):=⟨NG,HI.out⟩;have n3:¬(i:Int)<(i:Int):=by omega
 clear HI HM
 by_cases EA:i<rs.length
 ·obtain⟨p,hp⟩:=gQ EA;have Pm:=eY rs i 0 p hp (by decide);have MI:=eY rs i 1 p hp (by decide);obtain⟨b,off,rfl,aH⟩:=hc (by omega);have put:∀ {B O:Nat} {z:Value},w.cell? ⟨B,O,none⟩=some z->wr.cell? ⟨B,O,none⟩=some z:=fun h=>(aG.cell (fD w _ h)).trans h
  have c0:wr.cell? ⟨b,off+i*2,none⟩=some p.1:=put (aH _ _ Pm);have c1:wr.cell? ⟨b,off+i*2+1,none⟩=some p.2:=put (aH _ _ MI);have sI:=hf i p hp wr aG;have n1:=fE i
  have n2:(i:Int)<(rs.length:Int):=by omega
  have HIL:=Nm.aD EA;clear aH hc Pm MI hp put hf EA;have e0:(cf i==0)=decide (cf i=0):=by by_cases h:cf i=0<;>simp [h]
  have HE0:=Nm.aD e0;clear e0;go_wp2_with fail
  refine sI.mono ?_;rintro e w1 ⟨rfl,b1⟩;go_wp2;go_ret2;refine⟨i,HF.out,?_,Nm.aC aG b1⟩;rw [oI HIL.out,Bool.true_and,<- HE0.out];rfl
 have hie:i=rs.length:=by omega
 have n2:(rs.length:Int)<=(i:Int):=by omega
 have HIL:=Nm.aD EA;clear hc hf EA hie;go_wp2;go_ret2;refine⟨i,HF.out,?_,aG⟩;rw [oF HIL.out,Bool.false_and];rfl
theorem ZO(g:Nat)(lK rv key:Value)(rs:List (Value×Value))(cf:Nat->Int)(w:World)(hg:bW w g #[lK,rv] 234)(h:dZ w rv rs.length 2 (eO rs))(hl:rs.length<=1000000)
 (hf:∀ (tb i:Nat) (p:Value×Value),rs[i]? =some p->∀ W,Below w.heap.size w W->bW W tb #[.pointer (some ⟨g,0,none⟩)] 175->Calls Tryz.prog 200 #[.agg #[p.1,p.2],key,.pointer (some ⟨tb,0,none⟩)] W fun e w'=>e=.returned (.int .i64 (cf i))∧Below W.heap.size W w')
 (hm:∀ a b,a<=b->b<rs.length->cf b<0->cf a<0):
 Calls Tryz.prog 188 #[.pointer (some ⟨g,0,none⟩),key] w fun e w'=>∃ k:Nat,FU rs.length cf k∧e=.returned (.tuple #[.int .i64 (k:Int),.bool (decide (k<rs.length)&&decide (cf k=0))])∧Below w.heap.size w w':=by
 have iY:=(aJ w.heap.size w).alloc (aI _) (.cells #[.pointer (some ⟨g,0,none⟩)] 175);have kb:=aK w #[.pointer (some ⟨g,0,none⟩)] 175;have hs:=aDo rv key (.pointer (some ⟨w.heap.size,0,none⟩)) rs cf _ (h.below iY) hl (fun i p hp W hW=>hf w.heap.size i p hp W (Nm.aC iY hW) (aB kb hW)) hm;have kg:=aB hg iY;have rg:=aA kg
 have hmf:∀ (fn:Fn) (first cap:Array Value) (w:World),(Instr.makeFunc fn first cap).run Tryz.prog w=.ok (.func fn first cap) w:=fun _ _ _ _=>rfl
 obtain⟨_,a,cap,rfl,_⟩:=h;clear hf hm;go_enter Tryz.func188,Tryz.ntmps188;go_wp2_with fail
 refine hs.mono ?_;rintro e w1 ⟨k,hk,rfl,b1⟩;have HK:=Nm.aD hk;obtain⟨OK,hOK⟩:∃ OK,(decide (k<rs.length)&&decide (cf k=0))=OK:=⟨_,rfl⟩;rw [hOK];have Jn:=Nm.aD hOK;clear hOK hk hs;go_wp2;go_ret2;exact⟨k,HK.out,by rw [Jn.out];rfl,Nm.aC iY b1⟩
theorem aDp(v tgt cp:Value)(rs:List (Value×Value))(cf:Nat->Int)(w:World)(h:dZ w v rs.length 2 (eO rs))(hl:rs.length<=1000000)
 (hf:∀ (i:Nat) (p:Value×Value),rs[i]? =some p->∀ W,Below w.heap.size w W->Calls Tryz.prog 177 #[.agg #[p.1,p.2],tgt,cp] W fun e w'=>e=.returned (.int .i64 (cf i))∧Below W.heap.size W w')
 (hm:∀ a b,a<=b->b<rs.length->cf b<0->cf a<0):
 Calls Tryz.prog 176 #[v,tgt,.func (.func 177) #[] #[cp]] w fun e w'=>∃ k:Nat,FU rs.length cf k∧e=.returned (.tuple #[.int .i64 (k:Int),.bool (decide (k<rs.length)&&decide (cf k=0))])∧Below w.heap.size w w':=by
 obtain⟨_,a,cap,rfl,gT,kV,hc⟩:=h;unfold maxLen at kV;have HM:=Nm.aD hm;clear hm;go_enter Tryz.func176,Tryz.ntmps176;go_wp2
 go_loopw [9,10] (fun vi vj wr=>∃ i j:Nat,i<=j∧j<=rs.length∧vi=.int .i64 i∧vj=.int .i64 j∧Hid ((∀ q,q<i->cf q<0)∧(∀ q,j<=q->q<rs.length->0<=cf q))∧Below w.heap.size w wr) (fun vi vj _=>(intOf vj).toNat-(intOf vi).toNat)
 ·exact⟨0,rs.length,dR _,aI _,rfl,rfl,⟨fun q hq=>by omega,fun q h1 h2=>by omega⟩,aJ _ _⟩
 obtain⟨i,j,hij,NG,rfl,rfl,HI,aG⟩:=hrel
 by_cases bY:i<j
 ·obtain⟨m,hm⟩:∃ m,m=(i+j) / 2:=⟨_,rfl⟩;have hm1:i<=m:=by omega
  have hm2:m<j:=by omega
  have g1:((i:Int)+(j:Int)) / 2=(m:Int):=by omega
  obtain⟨p,hp⟩:∃ p,rs[m]? =some p:=⟨_,gF (by omega)⟩;have Pm:=eY rs m 0 p hp (by decide);have MI:=eY rs m 1 p hp (by decide);obtain⟨b,off,rfl,aH⟩:=hc (by omega);have put:∀ {B O:Nat} {z:Value},w.cell? ⟨B,O,none⟩=some z->wr.cell? ⟨B,O,none⟩=some z:=fun h=>(aG.cell (fD w _ h)).trans h
  have c0:wr.cell? ⟨b,off+m*2,none⟩=some p.1:=put (aH _ _ Pm);have c1:wr.cell? ⟨b,off+m*2+1,none⟩=some p.2:=put (aH _ _ MI);have sI:=hf m p hp wr aG;have n1:=fE m
  have n2:(m:Int)<(rs.length:Int):=by omega
  have n3:(i:Int)<(j:Int):=by omega
  have n4:(j:Int)<=1000000:=by omega
  clear aH hc Pm MI hp put hf hm
  by_cases NI:cf m<0
  ·have HI2:Hid ((∀ q,q<m+1->cf q<0)∧(∀ q,j<=q->q<rs.length->0<=cf q)):=⟨fun q hq=>HM.out q m (by omega) (by omega) NI,HI.out.2⟩;clear HI;go_wp2_with fail
   refine sI.mono ?_;rintro e w1 ⟨rfl,b1⟩;go_wp2;go_roundw
   ·exact⟨m+1,j,by omega,NG,by go_num,rfl,HI2,Nm.aC aG b1⟩
   simp [intOf];omega
  have HI2:Hid ((∀ q,q<i->cf q<0)∧(∀ q,m<=q->q<rs.length->0<=cf q)):=⟨HI.out.1,fun q h1 h2=>by
   rcases Int.lt_or_le (cf q) 0 with h|h
   ·exact absurd (HM.out m q h1 h2 h) NI
   exact h⟩
  have n5:0<=cf m:=by omega
  clear HI NI;go_wp2_with fail
  refine sI.mono ?_;rintro e w1 ⟨rfl,b1⟩;go_wp2;go_roundw
  ·exact⟨i,m,hm1,by omega,rfl,rfl,HI2,Nm.aC aG b1⟩
  simp [intOf];omega
 obtain rfl:i=j:=by omega
 have HF:Hid (FU rs.length cf i):=⟨NG,HI.out⟩;have n3:¬(i:Int)<(i:Int):=by omega
 clear HI HM
 by_cases EA:i<rs.length
 ·obtain⟨p,hp⟩:=gQ EA;have Pm:=eY rs i 0 p hp (by decide);have MI:=eY rs i 1 p hp (by decide);obtain⟨b,off,rfl,aH⟩:=hc (by omega);have put:∀ {B O:Nat} {z:Value},w.cell? ⟨B,O,none⟩=some z->wr.cell? ⟨B,O,none⟩=some z:=fun h=>(aG.cell (fD w _ h)).trans h
  have c0:wr.cell? ⟨b,off+i*2,none⟩=some p.1:=put (aH _ _ Pm);have c1:wr.cell? ⟨b,off+i*2+1,none⟩=some p.2:=put (aH _ _ MI);have sI:=hf i p hp wr aG;have n1:=fE i
  have n2:(i:Int)<(rs.length:Int):=by omega
  have HIL:=Nm.aD EA;clear aH hc Pm MI hp put hf EA;have e0:(cf i==0)=decide (cf i=0):=by by_cases h:cf i=0<;>simp [h]
  have HE0:=Nm.aD e0;clear e0;go_wp2_with fail
  refine sI.mono ?_;rintro e w1 ⟨rfl,b1⟩;go_wp2;go_ret2;refine⟨i,HF.out,?_,Nm.aC aG b1⟩;rw [oI HIL.out,Bool.true_and,<- HE0.out];rfl
 have hie:i=rs.length:=by omega
 have n2:(rs.length:Int)<=(i:Int):=by omega
 have HIL:=Nm.aD EA;clear hc hf EA hie;go_wp2;go_ret2;refine⟨i,HF.out,?_,aG⟩;rw [oF HIL.out,Bool.false_and];rfl
theorem EB(g:Nat)(lK rv key:Value)(rs:List (Value×Value))(cf:Nat->Int)(w:World)(hg:bW w g #[lK,rv] 193)(h:dZ w rv rs.length 2 (eO rs))(hl:rs.length<=1000000)
 (hf:∀ (tb i:Nat) (p:Value×Value),rs[i]? =some p->∀ W,Below w.heap.size w W->bW W tb #[.pointer (some ⟨g,0,none⟩)] 126->Calls Tryz.prog 177 #[.agg #[p.1,p.2],key,.pointer (some ⟨tb,0,none⟩)] W fun e w'=>e=.returned (.int .i64 (cf i))∧Below W.heap.size W w')
 (hm:∀ a b,a<=b->b<rs.length->cf b<0->cf a<0):
 Calls Tryz.prog 149 #[.pointer (some ⟨g,0,none⟩),key] w fun e w'=>∃ k:Nat,FU rs.length cf k∧e=.returned (.tuple #[.int .i64 (k:Int),.bool (decide (k<rs.length)&&decide (cf k=0))])∧Below w.heap.size w w':=by
 have iY:=(aJ w.heap.size w).alloc (aI _) (.cells #[.pointer (some ⟨g,0,none⟩)] 126);have kb:=aK w #[.pointer (some ⟨g,0,none⟩)] 126;have hs:=aDp rv key (.pointer (some ⟨w.heap.size,0,none⟩)) rs cf _ (h.below iY) hl (fun i p hp W hW=>hf w.heap.size i p hp W (Nm.aC iY hW) (aB kb hW)) hm;have kg:=aB hg iY;have rg:=aA kg
 have hmf:∀ (fn:Fn) (first cap:Array Value) (w:World),(Instr.makeFunc fn first cap).run Tryz.prog w=.ok (.func fn first cap) w:=fun _ _ _ _=>rfl
 obtain⟨_,a,cap,rfl,_⟩:=h;clear hf hm;go_enter Tryz.func149,Tryz.ntmps149;go_wp2_with fail
 refine hs.mono ?_;rintro e w1 ⟨k,hk,rfl,b1⟩;have HK:=Nm.aD hk;obtain⟨OK,hOK⟩:∃ OK,(decide (k<rs.length)&&decide (cf k=0))=OK:=⟨_,rfl⟩;rw [hOK];have Jn:=Nm.aD hOK;clear hOK hk hs;go_wp2;go_ret2;exact⟨k,HK.out,by rw [Jn.out];rfl,Nm.aC iY b1⟩
theorem Tryz.aDq:(Tryz.prog.info? 165).map (fun i=>(i.zero,i.size,i.bytes))=some (some (.agg #[.slice none 0 0,.pointer none]),2,32):=by kernel_rfl
theorem Gr{w:World}{b:Nat}{cs:Array Value}{T:TypeId}(h:bW w b cs T):w.shape? b=some (T,cs.size):=by
 unfold bW at h;simp [World.shape?,h]
def aQo(B:Nat)(v:Value)(n i:Nat)(xs:List Value)(x0 x1:Value)(w:World)(e:Ending)(w':World):Prop:=
 ∃ u,e=.returned u∧w'.ownsRow B 165 2 u (n+1) (xs.take (i*2)++[x0,x1]++xs.drop (i*2))∧w.grownBy w' v.ownBlock∧(u.ownBlock=v.ownBlock∨∀ g,u.ownBlock=some g->w.heap.size<=g)
theorem Pn(v:Value)(n i:Nat)(xs:List Value)(x0 x1:Value)(vb vc B:Nat)(w:World)(h:w.ownsRow B 165 2 v n xs)(hi:i<=n)(hv:bW w vb #[x0,x1] 165)(hvb:v.ownBlock≠some vb)
 (h1:∀ u∈xs,u.oneCell'=true) (h0:x0.oneCell'=true) (K8:x1.oneCell'=true) (hn:n<=1000000) (hB:B<=w.heap.size):
 Calls Tryz.prog 184 #[v,.int .i64 (i:Int),.slice (some ⟨vb,0,none⟩) 1 vc] w (aQo B v n i xs x0 x1 w):=by
 obtain⟨i0,Oo,iQ,iH,iI⟩:=info_parts Tryz.aDq;have DN:xs.length=n*2:=h.1
 have OB:∀ (j:Nat) (u:Value),[x0,x1][j]? =some u->w.cell? ((⟨vb,0,none⟩:Addr).add j)=some u:=by
  intro j u hj;rw [Nm.addr_add,Nat.zero_add,aA hv j];simpa using hj
 have lN:∀ u∈[x0,x1],u.oneCell'=true:=by
  intro u hu;simp at hu
  rcases hu with rfl|rfl
  ·exact h0
  exact K8
 by_cases kY:i=n
 ·subst kY
  have hHX:Hid (xs.take (i*2)++[x0,x1]++xs.drop (i*2)=xs++[x0,x1]):=by
   show _=_
   rw [List.take_of_length_le (by omega),List.drop_of_length_le (by omega),List.append_nil]
  rcases h.2 with⟨rfl,hn0⟩|⟨g,cap,cur,rfl,Dj,hg,Nh,oN,rT,Gi⟩
  ·have aC4:i=0:=hn0;subst aC4;have Oq:((0:Nat):Int)=0:=rfl;rw [Oq];go_enter Tryz.func184,Tryz.ntmps184;go_wp2_with (at_builtin;refine wpList_append_own_at _ rfl (.tmp 23) (.tmp 24) 161 rfl B 165 i0 _ 2 32 Tryz.underlying161 Oo iQ iH iI rfl (by decide) _ _ _ rfl h ⟨vb,0,none⟩ 1 vc [x0,x1] rfl rfl OB lN (by unfold maxLen;omega) (by omega) hB ?_;intro va wa yV nA BK DX)
   go_ret;exact⟨va,rfl,by rw [hHX.out];exact yV,nA,by rcases DX with h|h;exact .inl h;right;intro g e;rw [h] at e;simp at e;omega⟩
  unfold maxLen at oN
  by_cases hci:cap=i
  all_goals
   go_enter Tryz.func184,Tryz.ntmps184;go_wp2_with (at_builtin;refine wpList_append_own_at _ rfl (.tmp 23) (.tmp 24) 161 rfl B 165 i0 _ 2 32 Tryz.underlying161 Oo iQ iH iI rfl (by decide) _ _ _ rfl h ⟨vb,0,none⟩ 1 vc [x0,x1] rfl rfl OB lN (by unfold maxLen;omega) (by omega) hB ?_;intro va wa yV nA BK DX)
   go_ret;exact⟨va,rfl,by rw [hHX.out];exact yV,nA,by rcases DX with h|h;exact .inl h;right;intro g e;rw [h] at e;simp at e;omega⟩
 have bY:i<n:=by omega
 rcases h.2 with⟨rfl,hn0⟩|⟨g,cap,cur,rfl,Dj,hg,Nh,oN,rT,Gi⟩
 ·omega
 have UT:bW w g cur 165:=hg;have hgv:vb≠g:=fun e=>hvb (by rw [e];rfl)
 have DY:(Tryz.prog.info? 165).map (·.size)=some 2:=by rw [Oo];simp [iH]
 have zQ:∀ (W:World),bW W g cur 165->∀ (j:Nat) (u:Value),(xs.drop (i*2))[j]? =some u->W.cell? ((⟨g,i*2,none⟩:Addr).add j)=some u:=by
  intro W hW j u hj;rw [Nm.addr_add,aA hW];rw [List.getElem?_drop] at hj;have NG:=(dL hj).1;rw [<- Gi,List.getElem?_take_of_lt (by omega)] at hj;simpa using hj
 have nV:(xs.drop (i*2)).length=(n-i)*2:=by rw [List.length_drop,DN];omega
 have h1d:∀ u∈xs.drop (i*2),u.oneCell'=true:=fun u hu=>h1 u (List.mem_of_mem_drop hu)
 unfold maxLen at oN;have z1:¬((i:Int)=(n:Int)):=by omega
 have z2:=fE i
 have z3:(i:Int)<=(n:Int):=by omega
 have z4:¬cap=i:=by omega
 have z6:((i:Int)+1).toNat=i+1:=by omega
 by_cases zR:n+1<=cap
 ·have qY:∀ lb cb,(callFunc 194 #[.slice (some ⟨vb,0,none⟩) 1 vc,.slice (some ⟨g,(i+1)*2,none⟩) lb cb]).run Tryz.prog w=.ok (.value (.bool false)) w:=fun lb cb=>by
   rw [run_callFunc_extern Tryz.func194 (by kernel_rfl) (by kernel_rfl) (by kernel_rfl) (e:=Extern.SlicesOverlaps.overlaps #[161,161] #[4]) (by kernel_rfl),
    Lib.run_overlaps_apart w 161 4 165 Tryz.underlying161 2 (fun w=>by rw [sizeOf];simp [typeInfo,Oo,iH]) ⟨vb,0,none⟩ ⟨g,(i+1)*2,none⟩ 1 vc lb cb hgv 165 165 2 cur.size (Gr hv) (Gr UT) (by omega) (frozen_of_row w vb 0 _ _ hv) (frozen_of_row w vb 2 _ _ hv)]
   rfl
  have z5:¬cap=i+1:=by omega
  obtain⟨c1,mQ⟩:∃ c1,c1=cur.toList.take ((i+1)*2)++xs.drop (i*2)++cur.toList.drop ((i+1)*2+(xs.drop (i*2)).length):=⟨_,rfl⟩;obtain⟨GD,qD⟩:=YJ x0 x1 (by rw [Array.length_toList,rT]) Gi bY zR c1 mQ;obtain⟨c2,vI⟩:∃ c2,c2=c1.take (i*2)++[x0,x1]++c1.drop (i*2+[x0,x1].length):=⟨_,rfl⟩;obtain⟨BA,GV⟩:=qD c2 vI
  have aC5:∀ ty dc sc,(Builtin.copy_ #[161,161] ty #[.slice (some ⟨g,(i+1)*2,none⟩) (n-i) dc,.slice (some ⟨g,i*2,none⟩) (n+1-i) sc]).run Tryz.prog w.drew=.ok (goInt (Nat.min (n+1-i) (n-i))) (w.drew.setRow g c1.toArray):=fun ty dc sc=>by
   rw [mQ];exact gH w.drew _ _ ty 165 g ((i+1)*2) _ dc ⟨g,i*2,none⟩ _ sc cur 165 (xs.drop (i*2)) 2 Tryz.underlying161 DY UT (by rw [nV];simp only [Nat.min_def];split<;>omega) (zQ _ UT) (by rw [nV,rT];omega) h1d
  have LJ:bW (w.drew.setRow g c1.toArray) g c1.toArray 165:=jL (fO UT) _
  have aC6:∀ ty dc,(Builtin.copy_ #[161,161] ty #[.slice (some ⟨g,i*2,none⟩) (n+1-i) dc,.slice (some ⟨vb,0,none⟩) 1 vc]).run Tryz.prog (w.drew.setRow g c1.toArray)=.ok (goInt (Nat.min 1 (n+1-i))) ((w.drew.setRow g c1.toArray).setRow g c2.toArray):=fun ty dc=>by
   rw [vI]
   exact gH (w.drew.setRow g c1.toArray) _ _ ty 165 g (i*2) _ dc ⟨vb,0,none⟩ 1 vc c1.toArray 165 [x0,x1] 2 Tryz.underlying161 DY LJ (by simp only [Nat.min_def,List.length_cons,List.length_nil];split<;>omega) (fun j u hj=>by
    rw [World.cell?_of_block (w:=w.drew) (by rw [Nm.addr_add];exact setRow_other w.drew g vb _ hgv)]
    exact OB j u hj) (by simp only [List.size_toArray,GD,List.length_cons,List.length_nil];omega) lN
  have X:=Nm.aD (aV (uK (n:=n+1) (cap:=cap) (s:=2) (jL LJ c2.toArray) Dj (by omega) oN (by simp [BA]) (show c2.toArray.toList.take ((n+1)*2)=xs.take (i*2)++[x0,x1]++xs.drop (i*2) from GV)) (AZ (g:=g) ((⟨rfl,rfl,rfl,aI _,fun _ _ _=>rfl⟩:w.grownBy w.drew (some g))) (AZ (pM w.drew g c1.toArray) (pM _ g c2.toArray))));clear mQ vI qD GV GD BA zQ Gi;go_enter Tryz.func184,Tryz.ntmps184;go_wp2;go_region
  all_goals
   go_wp2;go_ret;exact⟨.slice (some ⟨g,0,none⟩) (n+1) cap,rfl,X.out.1,X.out.2,.inl rfl⟩
 have YZ:cap=n:=by omega
 obtain⟨GC,K9⟩:∃ GC,GC=grownCap w (i+(n+1-i)) cap 165:=⟨_,rfl⟩;have K6:n+1<=GC:=by rw [K9];have:=grownCap_ge w (i+(n+1-i)) cap 165;omega
 have hgm:GC<=maxLen:=by rw [K9];exact grownCap_le_maxLen w _ cap 165 (by unfold maxLen;omega)
 obtain⟨Z,hZ⟩:∃ Z:List Value,Z=(Builtin.zeroCells (Value.agg #[.slice none 0 0,.pointer none]).cells (n+1-i)++Builtin.zeroCells (Value.agg #[.slice none 0 0,.pointer none]).cells (GC-(n+1))).toList:=⟨_,rfl⟩
 have yX:(xs.take (i*2)++Z).length=GC*2:=by
  have uO:(Value.agg #[.slice none 0 0,.pointer none]).cells.size=2:=rfl;have e1:(Builtin.zeroCells (Value.agg #[.slice none 0 0,.pointer none]).cells (n+1-i)).toList.length=(n+1-i)*2:=by rw [Array.length_toList,size_zeroCells,uO]
  have e2:(Builtin.zeroCells (Value.agg #[.slice none 0 0,.pointer none]).cells (GC-(n+1))).toList.length=(GC-(n+1))*2:=by rw [Array.length_toList,size_zeroCells,uO]
  rw [hZ,oJ,List.length_take,Array.toList_append,oJ,e1,e2,DN];omega
 have xZ:∀ ty,(Builtin.append_ #[161,3] ty #[.slice (some ⟨g,0,none⟩) i cap,.int .i64 (((n:Int)+1-(i:Int)))]).run Tryz.prog w=.ok (.slice (some ⟨w.heap.size,0,none⟩) (n+1) GC) (w.drew.alloc (.cells (xs.take (i*2)++Z).toArray 165)):=by
  intro ty
  have hfc:(Builtin.firstCells i0.size i (.slice (some ⟨g,0,none⟩) i cap)).run Tryz.prog w.drew=.ok (xs.take (i*2)).toArray w.drew:=by
   have hl:=run_loadCells_list (P:=Tryz.prog) w.drew ⟨g,0,none⟩ (xs.take (i*2)) (fun j u hj=>by
    rw [Nm.addr_add,aA (fO UT),Nat.zero_add];rw [List.getElem?_take] at hj
    split at hj
    ·rename_i hji;rw [<- Gi,List.getElem?_take_of_lt (by omega)] at hj;simpa using hj
    cases hj)
   rw [List.length_take,DN,Nat.min_eq_left (by omega)] at hl;simp [Builtin.firstCells,iH,hl]
  have hr:=Lib.run_append_grow_zeros (P:=Tryz.prog) w 161 3 ty 165 i0 _ .i64 .i64 Tryz.underlying161 Tryz.underlying3 Oo iQ (some ⟨g,0,none⟩) i cap (xs.take (i*2)) hfc (n+1-i) (by omega) (by omega) (by omega) (by omega) (by rw [iI];omega) (by rw [iI];exact growslice_fits (by omega) (by omega));rw [show((n+1-i:Nat):Int)=(n:Int)+1-(i:Int) by omega] at hr;rw [hr,<- K9,hZ];congr 1
  ·rw [show i+(n+1-i)=n+1 by omega]
  rw [show i+(n+1-i)=n+1 by omega];congr 2;rw [Array.append_assoc];apply Array.toList_inj.1;simp
 have hkW:bW (w.drew.alloc (.cells (xs.take (i*2)++Z).toArray 165)) w.heap.size (xs.take (i*2)++Z).toArray 165:=aK w.drew _ _;have UU:Below w.heap.size w (w.drew.alloc (.cells (xs.take (i*2)++Z).toArray 165)):=(aJ _ _).drew.alloc (aI _) _;obtain⟨c1,mQ⟩:∃ c1,c1=(xs.take (i*2)++Z).take (i*2)++[x0,x1]++(xs.take (i*2)++Z).drop (i*2+[x0,x1].length):=⟨_,rfl⟩;obtain⟨GD,qD⟩:=YK x0 x1 DN bY K6 yX c1 mQ;obtain⟨c2,vI⟩:∃ c2,c2=c1.take ((i+1)*2)++xs.drop (i*2)++c1.drop ((i+1)*2+(xs.drop (i*2)).length):=⟨_,rfl⟩;obtain⟨BA,GV⟩:=qD c2 vI;generalize FH:w.drew.alloc (.cells (xs.take (i*2)++Z).toArray 165)=W0 at*;have Ot:bW W0 g cur 165:=aB UT UU;have Ou:bW W0 vb #[x0,x1] 165:=aB hv UU;have zD:=cO UT
 have aC5:∀ ty dc,(Builtin.copy_ #[161,161] ty #[.slice (some ⟨w.heap.size,i*2,none⟩) (n+1-i) dc,.slice (some ⟨vb,0,none⟩) 1 vc]).run Tryz.prog W0=.ok (goInt (Nat.min 1 (n+1-i))) (W0.setRow w.heap.size c1.toArray):=fun ty dc=>by
  rw [mQ]
  exact gH W0 _ _ ty 165 w.heap.size (i*2) _ dc ⟨vb,0,none⟩ 1 vc _ 165 [x0,x1] 2 Tryz.underlying161 DY hkW (by simp only [Nat.min_def,List.length_cons,List.length_nil];split<;>omega) (fun j u hj=>by
   rw [Nm.addr_add,aA Ou,Nat.zero_add]
   simpa using hj) (by simp only [List.size_toArray,yX,List.length_cons,List.length_nil];omega) lN
 have LJ:bW (W0.setRow w.heap.size c1.toArray) w.heap.size c1.toArray 165:=jL hkW _
 have mD:bW (W0.setRow w.heap.size c1.toArray).drew g cur 165:=by
  unfold bW
  show(W0.setRow w.heap.size c1.toArray).heap[g]? =_
  rw [setRow_other W0 _ g _ (by omega)];exact Ot
 have aC6:∀ ty dc sc,(Builtin.copy_ #[161,161] ty #[.slice (some ⟨w.heap.size,(i+1)*2,none⟩) (n-i) dc,.slice (some ⟨g,i*2,none⟩) (n-i) sc]).run Tryz.prog (W0.setRow w.heap.size c1.toArray).drew=.ok (goInt (Nat.min (n-i) (n-i))) ((W0.setRow w.heap.size c1.toArray).drew.setRow w.heap.size c2.toArray):=fun ty dc sc=>by
  rw [vI];exact gH (W0.setRow w.heap.size c1.toArray).drew _ _ ty 165 w.heap.size ((i+1)*2) _ dc ⟨g,i*2,none⟩ _ sc c1.toArray 165 (xs.drop (i*2)) 2 Tryz.underlying161 DY (fO LJ) (by rw [nV];simp only [Nat.min_def];split<;>omega) (zQ _ mD) (by rw [nV];simp only [List.size_toArray,GD];omega) h1d
 have X:=Nm.aD (aV (uK (B:=B) (n:=n+1) (cap:=GC) (s:=2) (jL (fO LJ) c2.toArray) hB K6 hgm (by simp [BA]) (show c2.toArray.toList.take ((n+1)*2)=xs.take (i*2)++[x0,x1]++xs.drop (i*2) from GV)) (show w.grownBy ((W0.setRow w.heap.size c1.toArray).drew.setRow w.heap.size c2.toArray) (some g) from by
  refine⟨UU.os,UU.tape,UU.output,?_,fun k hk dM=>?_⟩
  ·rw [setRow_size];show w.heap.size<=(W0.setRow w.heap.size c1.toArray).heap.size
   rw [setRow_size];exact UU.size
  rw [setRow_other _ _ k _ (by omega)]
  show(W0.setRow w.heap.size c1.toArray).heap[k]? =_
  rw [setRow_other _ _ k _ (by omega)]
  exact UU.block k hk))
 have y1:¬GC=i:=by omega
 have y2:¬GC=i+1:=by omega
 have y3:¬n+1<=cap:=by omega
 have y4:(cap:Int)<(n:Int)+1:=by omega
 have y5:IntKind.i64.wrap ((i:Int)+1)=(i:Int)+1:=by rw [IntKind.wrap_i64];omega
 have y6:(0:Int)<=(i:Int)+1:=by omega
 have y7:(i:Int)+1<=(n:Int)+1:=by omega
 unfold maxLen at hgm;clear mQ vI qD GV GD BA zQ Gi K9 hZ yX FH mD LJ hkW UU Ot Ou zR YZ;go_enter Tryz.func184,Tryz.ntmps184;go_wp2_with (at_builtin;refine vV rfl (.tmp 34) (.tmp 39) 161 3 rfl _ _ _ _ rfl rfl (xZ _) ?_;clear xZ)
 go_region
 all_goals
  go_wp2;go_ret;exact⟨.slice (some ⟨w.heap.size,0,none⟩) (n+1) GC,rfl,X.out.1,X.out.2,.inr (fun g' e=>by simp [Value.ownBlock] at e;omega)⟩
def fH(t:Int)(d:ByteArray):Int:=
 if t<0∨65535<t then 6 else if 65535<d.size then 7 else if(Dt.spans (Dt.nX t) 0 d).isSome then 0 else 7
def BP(t:Int)(d:ByteArray):Option (List (Nat×Nat)):=if t<0∨65535<t then none else if 65535<d.size then none else Dt.spans (Dt.nX t) 0 d
def spanCells(sp:List (Nat×Nat)):List Value:=sp.flatMap fun s=>[.int .i64 (s.1:Int),.int .i64 (s.2:Int)]
theorem SK(a b:List (Nat×Nat)):spanCells (a++b)=spanCells a++spanCells b:=by simp [spanCells]
def CAt(fs:List Dt.Pc)(d:ByteArray)(sp:List (Nat×Nat))(r:List Dt.Pc)(a:Nat):Prop:=
 Dt.spans fs 0 d=(Dt.spans r a (d.extract a d.size)).map (fun t=>sp++t)
theorem aAb(fs:List Dt.Pc)(d:ByteArray):CAt fs d [] fs 0:=by simp [CAt]
theorem aH1(h:CAt fs d sp [] a)(h0:d.size<=a):Dt.spans fs 0 d=some sp:=by
 rw [h,Dt.spans,if_pos (by simp;omega)];simp
theorem aDr(h:CAt fs d sp [] a)(h0:a<d.size):Dt.spans fs 0 d=none:=by
 rw [h,Dt.spans,if_neg (by simp;omega)];rfl
theorem yD{r:List Dt.Pc}{p:Dt.Pc}(h:CAt fs d sp (p::r) a)(h0:Dt.sz p (d.extract a d.size)=none):Dt.spans fs 0 d=none:=by
 rw [h,Dt.spans,h0];rfl
theorem yF{r:List Dt.Pc}{p:Dt.Pc}{n:Nat}(h:CAt fs d sp (p::r) a)(ha:a<=d.size)(h0:Dt.sz p (d.extract a d.size)=some n):
 CAt fs d (sp++if p.NB then [(a,a+n)] else []) r (a+n)∧a+n<=d.size:=by
 have hn:=Dt.Ny h0;have hz:(d.extract a d.size).size=d.size-a:=by simp
 refine⟨?_,by omega⟩;rw [CAt,h,Dt.spans,h0,Option.map_map,Dt.PH (by omega) (aI _)];congr 1;funext t
 cases p.NB<;>simp
theorem KH(h:t<0∨65535<t):fH t d=6∧BP t d=none:=by
 rw [fH,BP,if_pos h,if_pos h];exact⟨rfl,rfl⟩
theorem KI(h:¬(t<0∨65535<t))(h1:65535<d.size):fH t d=7∧BP t d=none:=by
 rw [fH,BP,if_neg h,if_neg h,if_pos h1,if_pos h1];exact⟨rfl,rfl⟩
theorem SN(h:¬(t<0∨65535<t))(h1:¬65535<d.size)(h2:Dt.spans (Dt.nX t) 0 d=none):fH t d=7∧BP t d=none:=by
 rw [fH,BP,if_neg h,if_neg h,if_neg h1,if_neg h1,h2];exact⟨rfl,rfl⟩
theorem KJ(h:¬(t<0∨65535<t))(h1:¬65535<d.size)(h2:Dt.spans (Dt.nX t) 0 d=some sp):fH t d=0∧BP t d=some sp:=by
 rw [fH,BP,if_neg h,if_neg h,if_neg h1,if_neg h1,h2];exact⟨rfl,rfl⟩
theorem Gs(t:Int):(Dt.nX t).length<=5:=by
 unfold Dt.nX
 repeat' split
 all_goals simp
open Go.Shelf
attribute [local go_sem] Oper.semAt_some
theorem all1S_in{α:Type}(kf vf:α->ByteArray)(F:Fence)(n:Nat)(h7:F.fn 178)(sJ:F.round=none)(hn:1<=n)(l tb g n₀ b off cap:Nat)(lK:Value)(zs:List α)(hl:zs.length<=1000000)(gT:zs.length<=cap∧cap<=maxLen)(hb:b<n₀)(J Jx:List α->World->Prop)
 (hJ:∀ s W W',J s W->W.grownBy W' none->J s W')
 (hY:∀ pre x W,J pre W->pre.length<zs.length->YieldAt F (n-1) Tryz.prog l #[(Value.string (kf x)),(Value.string (vf x))] W fun e W'=>
  (e=.returned (.bool true)∧J (pre++[x]) W'∧Below n₀ W W')∨(e=.returned (.bool false)∧Jx (pre++[x]) W'))
 (W:World) (kb:W.cell? ⟨tb,0,none⟩=some (.pointer (some ⟨g,0,none⟩))) (kg:W.cell? ⟨g,1,none⟩=some (.slice (some ⟨b,off,none⟩) zs.length cap))
 (hc:∀ (i:Nat) (x:α),zs[i]? =some x->W.cell? ⟨b,off+i*2,none⟩=some (Value.string (kf x))∧W.cell? ⟨b,off+i*2+1,none⟩=some (Value.string (vf x))) (hn₀:n₀<=W.heap.size) (h0:J [] W):
 CallsIn F n Tryz.prog 178 #[.func (.yield l) #[] #[],.pointer (some ⟨tb,0,none⟩)] W fun e W'=>(∃ v,e=.returned v)∧
  ((∃ ys,ys=zs∧J ys W')∨(∃ pre,pre<+:zs∧Jx pre W')):=by
 obtain⟨ZP,PN⟩:=gT;unfold maxLen at PN;refine callsIn_of_wp Tryz.func178 rfl h7 ?_ sJ;simp only [Tryz.ntmps178,List.size_toArray,List.length_cons,List.length_nil,Nat.reduceAdd,Nat.reduceSub,Array.replicate_succ,Array.replicate_zero,List.push_toArray,List.append_toArray,List.nil_append,List.cons_append]
 gi_wp2
 gi_loopw [10] (fun i wr=>∃ k:Nat,k<=zs.length∧i=.int .i64 k∧J (zs.take k) wr∧Below n₀ W wr)
  (fun i _=>zs.length-(intOf i).toNat)
 ·exact⟨0,dR _,rfl,by simpa using h0,aJ _ _⟩
 obtain⟨k,hk,rfl,Po,Pp⟩:=hrel
 by_cases bY:k<zs.length
 ·obtain⟨x,hx⟩:=gQ bY;obtain⟨c0,c1⟩:=hc k x hx;have d0:wr.cell? ⟨b,off+k*2,none⟩=some (Value.string (kf x)):=(Pp.cell (p:=⟨b,off+k*2,none⟩) hb).trans c0;have d1:wr.cell? ⟨b,off+k*2+1,none⟩=some (Value.string (vf x)):=(Pp.cell (p:=⟨b,off+k*2+1,none⟩) hb).trans c1;have XI:∀ o:Obj,wr.grownBy (wr.alloc o) none:=fun o=>⟨rfl,rfl,rfl,by simp,fun q hq _=>heap_alloc_old wr _ hq⟩
  obtain⟨fn,tmps,assign,body,hy,hR⟩:=hY _ x (wr.alloc (.cells #[(Value.string (kf x)),(Value.string (vf x))] 236)) (hJ _ _ _ Po (XI _)) (by rw [List.length_take];omega);have n1:=fE k
  have n2:(k:Int)<(zs.length:Int):=by omega
  have WE:Below n₀ W (wr.alloc (.cells #[(Value.string (kf x)),(Value.string (vf x))] 236)):=Pp.alloc (jN hn₀ Pp.size) _
  have HT:Hid (zs.take (k+1)=zs.take k++[x]):=by
   obtain⟨vT,e⟩:=dL hx;show _=_
   rw [List.take_succ_eq_append_getElem vT,e]
  clear hc c0 c1 hx
  gi_wp2
  refine hR.mono ?_;rintro e W3 (⟨rfl,hJ3,hk3⟩|⟨rfl,aDs⟩)
  ·gi_wp2
   go_roundw
   ·exact⟨k+1,by omega,by go_num,by rw [HT.out];exact hJ3,WE.trans hk3⟩
   simp [intOf];omega
  gi_wp2
  refine eB (results_none rfl _ _ _) rfl ?_;exact⟨⟨_,rfl⟩,.inr ⟨_,by rw [<- HT.out];exact List.take_prefix _ _,aDs⟩⟩
 obtain rfl:k=zs.length:=by omega
 have n2:(zs.length:Int)<=(zs.length:Int):=by omega
 rw [List.take_length] at Po;clear hc
 gi_wp2
 go_end0
 exact⟨⟨_,rfl⟩,.inl ⟨_,rfl,Po⟩⟩
end
open Go.RowKit Go.Shelf
attribute [local go_sem] Oper.semAt_some
theorem aDt{α:Type}(kf:α->Int)(vf:α->Addr)(F:Fence)(n:Nat)(h7:F.fn 131)(sJ:F.round=none)(hn:1<=n)(l tb g n₀ b off cap:Nat)(lK:Value)(zs:List α)(hl:zs.length<=1000000)(gT:zs.length<=cap∧cap<=maxLen)(hb:b<n₀)(J Jx:List α->World->Prop)
 (hJ:∀ s W W',J s W->W.grownBy W' none->J s W')
 (hY:∀ pre x W,J pre W->pre.length<zs.length->YieldAt F (n-1) Tryz.prog l #[(Value.int .i64 (kf x)),(Value.pointer (some (vf x)))] W fun e W'=>
  (e=.returned (.bool true)∧J (pre++[x]) W'∧Below n₀ W W')∨(e=.returned (.bool false)∧Jx (pre++[x]) W'))
 (W:World) (kb:W.cell? ⟨tb,0,none⟩=some (.pointer (some ⟨g,0,none⟩))) (kg:W.cell? ⟨g,1,none⟩=some (.slice (some ⟨b,off,none⟩) zs.length cap))
 (hc:∀ (i:Nat) (x:α),zs[i]? =some x->W.cell? ⟨b,off+i*2,none⟩=some (Value.int .i64 (kf x))∧W.cell? ⟨b,off+i*2+1,none⟩=some (Value.pointer (some (vf x)))) (hn₀:n₀<=W.heap.size) (h0:J [] W):
 CallsIn F n Tryz.prog 131 #[.func (.yield l) #[] #[],.pointer (some ⟨tb,0,none⟩)] W fun e W'=>(∃ v,e=.returned v)∧
  ((∃ ys,ys=zs∧J ys W')∨(∃ pre,pre<+:zs∧Jx pre W')):=by
 obtain⟨ZP,PN⟩:=gT;unfold maxLen at PN;refine callsIn_of_wp Tryz.func131 rfl h7 ?_ sJ;simp only [Tryz.ntmps131,List.size_toArray,List.length_cons,List.length_nil,Nat.reduceAdd,Nat.reduceSub,Array.replicate_succ,Array.replicate_zero,List.push_toArray,List.append_toArray,List.nil_append,List.cons_append]
 gi_wp2
 gi_loopw [10] (fun i wr=>∃ k:Nat,k<=zs.length∧i=.int .i64 k∧J (zs.take k) wr∧Below n₀ W wr)
  (fun i _=>zs.length-(intOf i).toNat)
 ·exact⟨0,dR _,rfl,by simpa using h0,aJ _ _⟩
 obtain⟨k,hk,rfl,Po,Pp⟩:=hrel
 by_cases bY:k<zs.length
 ·obtain⟨x,hx⟩:=gQ bY;obtain⟨c0,c1⟩:=hc k x hx;have d0:wr.cell? ⟨b,off+k*2,none⟩=some (Value.int .i64 (kf x)):=(Pp.cell (p:=⟨b,off+k*2,none⟩) hb).trans c0;have d1:wr.cell? ⟨b,off+k*2+1,none⟩=some (Value.pointer (some (vf x))):=(Pp.cell (p:=⟨b,off+k*2+1,none⟩) hb).trans c1;have XI:∀ o:Obj,wr.grownBy (wr.alloc o) none:=fun o=>⟨rfl,rfl,rfl,by simp,fun q hq _=>heap_alloc_old wr _ hq⟩
  obtain⟨fn,tmps,assign,body,hy,hR⟩:=hY _ x (wr.alloc (.cells #[(Value.int .i64 (kf x)),(Value.pointer (some (vf x)))] 195)) (hJ _ _ _ Po (XI _)) (by rw [List.length_take];omega);have n1:=fE k
  have n2:(k:Int)<(zs.length:Int):=by omega
  have WE:Below n₀ W (wr.alloc (.cells #[(Value.int .i64 (kf x)),(Value.pointer (some (vf x)))] 195)):=Pp.alloc (jN hn₀ Pp.size) _
  have HT:Hid (zs.take (k+1)=zs.take k++[x]):=by
   obtain⟨vT,e⟩:=dL hx;show _=_
   rw [List.take_succ_eq_append_getElem vT,e]
  clear hc c0 c1 hx
  gi_wp2
  refine hR.mono ?_;rintro e W3 (⟨rfl,hJ3,hk3⟩|⟨rfl,aDs⟩)
  ·gi_wp2
   go_roundw
   ·exact⟨k+1,by omega,by go_num,by rw [HT.out];exact hJ3,WE.trans hk3⟩
   simp [intOf];omega
  gi_wp2
  refine eB (results_none rfl _ _ _) rfl ?_;exact⟨⟨_,rfl⟩,.inr ⟨_,by rw [<- HT.out];exact List.take_prefix _ _,aDs⟩⟩
 obtain rfl:k=zs.length:=by omega
 have n2:(zs.length:Int)<=(zs.length:Int):=by omega
 rw [List.take_length] at Po;clear hc
 gi_wp2
 go_end0
 exact⟨⟨_,rfl⟩,.inl ⟨_,rfl,Po⟩⟩
