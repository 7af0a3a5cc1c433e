import Derived.Test.YtlddifpnkeafpaaGreatJOrdK
import Derived.Test.YtlddifpnkeafpaaGreatJTbPS
set_option linter.unusedVariables false
set_option maxRecDepth 100000
set_option maxHeartbeats 3200000
namespace Go.Proofs.YtlddifpnkeafpaaGreat
open Go.RowKit
theorem Tryz.aD0:(Tryz.prog.info? 236).map (fun i=>(i.zero,i.size,i.bytes))=some (some (.agg #[.string ByteArray.empty,.string ByteArray.empty]),2,32):=by kernel_rfl
theorem Gu{w:World}{b:Nat}{cs:Array Value}{T:TypeId}(h:bW w b cs T):w.shape? b=some (T,cs.size):=by
 unfold bW at h;simp [World.shape?,h]
def aQq(B:Nat)(v:Value)(n i:Nat)(xs:List Value)(x0 x1:Value)(w:World)(e:Ending)(w':World):Prop:=
 ∃ u,e=.returned u∧w'.ownsRow B 236 2 u (n+1) (xs.take (i*2)++[x0,x1]++xs.drop (i*2))∧w.grownBy w' v.ownBlock∧(u.ownBlock=v.ownBlock∨∀ g,u.ownBlock=some g->w.heap.size<=g)
theorem Qd(v:Value)(n i:Nat)(xs:List Value)(x0 x1:Value)(vb vc B:Nat)(w:World)(h:w.ownsRow B 236 2 v n xs)(hi:i<=n)(hv:bW w vb #[x0,x1] 236)(hvb:v.ownBlock≠some vb)
 (h1:∀ u∈xs,u.oneCell'=true) (h0:x0.oneCell'=true) (K8:x1.oneCell'=true) (hn:n<=1000000) (hB:B<=w.heap.size):
 Calls Tryz.prog 189 #[v,.int .i64 (i:Int),.slice (some ⟨vb,0,none⟩) 1 vc] w (aQq B v n i xs x0 x1 w):=by
 obtain⟨i0,Oo,iQ,iH,iI⟩:=info_parts Tryz.aD0;have DN:xs.length=n*2:=h.1
 have OB:∀ (j:Nat) (u:Value),[x0,x1][j]? =some u->w.cell? ((⟨vb,0,none⟩:Addr).add j)=some u:=by
  intro j u hj;rw [Nm.addr_add,Nat.zero_add,aA hv j];simpa using hj
 have lN:∀ u∈[x0,x1],u.oneCell'=true:=by
  intro u hu;simp at hu
  rcases hu with rfl|rfl
  ·exact h0
  exact K8
 by_cases kY:i=n
 ·subst kY
  have hHX:Hid (xs.take (i*2)++[x0,x1]++xs.drop (i*2)=xs++[x0,x1]):=by
   show _=_
   rw [List.take_of_length_le (by omega),List.drop_of_length_le (by omega),List.append_nil]
  rcases h.2 with⟨rfl,hn0⟩|⟨g,cap,cur,rfl,Dj,hg,Nh,oN,rT,Gi⟩
  ·have aC4:i=0:=hn0;subst aC4;have Oq:((0:Nat):Int)=0:=rfl;rw [Oq];go_enter Tryz.func189,Tryz.ntmps189;go_wp2_with (at_builtin;refine wpList_append_own_at _ rfl (.tmp 23) (.tmp 24) 232 rfl B 236 i0 _ 2 32 Tryz.underlying232 Oo iQ iH iI rfl (by decide) _ _ _ rfl h ⟨vb,0,none⟩ 1 vc [x0,x1] rfl rfl OB lN (by unfold maxLen;omega) (by omega) hB ?_;intro va wa yV nA BK DX)
   go_ret;exact⟨va,rfl,by rw [hHX.out];exact yV,nA,by rcases DX with h|h;exact .inl h;right;intro g e;rw [h] at e;simp at e;omega⟩
  unfold maxLen at oN
  by_cases hci:cap=i
  all_goals
   go_enter Tryz.func189,Tryz.ntmps189;go_wp2_with (at_builtin;refine wpList_append_own_at _ rfl (.tmp 23) (.tmp 24) 232 rfl B 236 i0 _ 2 32 Tryz.underlying232 Oo iQ iH iI rfl (by decide) _ _ _ rfl h ⟨vb,0,none⟩ 1 vc [x0,x1] rfl rfl OB lN (by unfold maxLen;omega) (by omega) hB ?_;intro va wa yV nA BK DX)
   go_ret;exact⟨va,rfl,by rw [hHX.out];exact yV,nA,by rcases DX with h|h;exact .inl h;right;intro g e;rw [h] at e;simp at e;omega⟩
 have bY:i<n:=by omega
 rcases h.2 with⟨rfl,hn0⟩|⟨g,cap,cur,rfl,Dj,hg,Nh,oN,rT,Gi⟩
 ·omega
 have UT:bW w g cur 236:=hg;have hgv:vb≠g:=fun e=>hvb (by rw [e];rfl)
 have DY:(Tryz.prog.info? 236).map (·.size)=some 2:=by rw [Oo];simp [iH]
 have zQ:∀ (W:World),bW W g cur 236->∀ (j:Nat) (u:Value),(xs.drop (i*2))[j]? =some u->W.cell? ((⟨g,i*2,none⟩:Addr).add j)=some u:=by
  intro W hW j u hj;rw [Nm.addr_add,aA hW];rw [List.getElem?_drop] at hj;have NG:=(dL hj).1;rw [<- Gi,List.getElem?_take_of_lt (by omega)] at hj;simpa using hj
 have nV:(xs.drop (i*2)).length=(n-i)*2:=by rw [List.length_drop,DN];omega
 have h1d:∀ u∈xs.drop (i*2),u.oneCell'=true:=fun u hu=>h1 u (List.mem_of_mem_drop hu)
 unfold maxLen at oN;have z1:¬((i:Int)=(n:Int)):=by omega
 have z2:=fE i
 have z3:(i:Int)<=(n:Int):=by omega
 have z4:¬cap=i:=by omega
 have z6:((i:Int)+1).toNat=i+1:=by omega
 by_cases zR:n+1<=cap
 ·have qY:∀ lb cb,(callFunc 201 #[.slice (some ⟨vb,0,none⟩) 1 vc,.slice (some ⟨g,(i+1)*2,none⟩) lb cb]).run Tryz.prog w=.ok (.value (.bool false)) w:=fun lb cb=>by
   rw [run_callFunc_extern Tryz.func201 (by kernel_rfl) (by kernel_rfl) (by kernel_rfl) (e:=Extern.SlicesOverlaps.overlaps #[232,232] #[4]) (by kernel_rfl),
    Lib.run_overlaps_apart w 232 4 236 Tryz.underlying232 2 (fun w=>by rw [sizeOf];simp [typeInfo,Oo,iH]) ⟨vb,0,none⟩ ⟨g,(i+1)*2,none⟩ 1 vc lb cb hgv 236 236 2 cur.size (Gu hv) (Gu UT) (by omega) (frozen_of_row w vb 0 _ _ hv) (frozen_of_row w vb 2 _ _ hv)]
   rfl
  have z5:¬cap=i+1:=by omega
  obtain⟨c1,mQ⟩:∃ c1,c1=cur.toList.take ((i+1)*2)++xs.drop (i*2)++cur.toList.drop ((i+1)*2+(xs.drop (i*2)).length):=⟨_,rfl⟩;obtain⟨GD,qD⟩:=YJ x0 x1 (by rw [Array.length_toList,rT]) Gi bY zR c1 mQ;obtain⟨c2,vI⟩:∃ c2,c2=c1.take (i*2)++[x0,x1]++c1.drop (i*2+[x0,x1].length):=⟨_,rfl⟩;obtain⟨BA,GV⟩:=qD c2 vI
  have aC5:∀ ty dc sc,(Builtin.copy_ #[232,232] ty #[.slice (some ⟨g,(i+1)*2,none⟩) (n-i) dc,.slice (some ⟨g,i*2,none⟩) (n+1-i) sc]).run Tryz.prog w.drew=.ok (goInt (Nat.min (n+1-i) (n-i))) (w.drew.setRow g c1.toArray):=fun ty dc sc=>by
   rw [mQ];exact gH w.drew _ _ ty 236 g ((i+1)*2) _ dc ⟨g,i*2,none⟩ _ sc cur 236 (xs.drop (i*2)) 2 Tryz.underlying232 DY UT (by rw [nV];simp only [Nat.min_def];split<;>omega) (zQ _ UT) (by rw [nV,rT];omega) h1d
  have LJ:bW (w.drew.setRow g c1.toArray) g c1.toArray 236:=jL (fO UT) _
  have aC6:∀ ty dc,(Builtin.copy_ #[232,232] ty #[.slice (some ⟨g,i*2,none⟩) (n+1-i) dc,.slice (some ⟨vb,0,none⟩) 1 vc]).run Tryz.prog (w.drew.setRow g c1.toArray)=.ok (goInt (Nat.min 1 (n+1-i))) ((w.drew.setRow g c1.toArray).setRow g c2.toArray):=fun ty dc=>by
   rw [vI]
   exact gH (w.drew.setRow g c1.toArray) _ _ ty 236 g (i*2) _ dc ⟨vb,0,none⟩ 1 vc c1.toArray 236 [x0,x1] 2 Tryz.underlying232 DY LJ (by simp only [Nat.min_def,List.length_cons,List.length_nil];split<;>omega) (fun j u hj=>by
    rw [World.cell?_of_block (w:=w.drew) (by rw [Nm.addr_add];exact setRow_other w.drew g vb _ hgv)]
    exact OB j u hj) (by simp only [List.size_toArray,GD,List.length_cons,List.length_nil];omega) lN
  have X:=Nm.aD (aV (uK (n:=n+1) (cap:=cap) (s:=2) (jL LJ c2.toArray) Dj (by omega) oN (by simp [BA]) (show c2.toArray.toList.take ((n+1)*2)=xs.take (i*2)++[x0,x1]++xs.drop (i*2) from GV)) (AZ (g:=g) ((⟨rfl,rfl,rfl,aI _,fun _ _ _=>rfl⟩:w.grownBy w.drew (some g))) (AZ (pM w.drew g c1.toArray) (pM _ g c2.toArray))));clear mQ vI qD GV GD BA zQ Gi;go_enter Tryz.func189,Tryz.ntmps189;go_wp2;go_region
  all_goals
   go_wp2;go_ret;exact⟨.slice (some ⟨g,0,none⟩) (n+1) cap,rfl,X.out.1,X.out.2,.inl rfl⟩
 have YZ:cap=n:=by omega
 obtain⟨GC,K9⟩:∃ GC,GC=grownCap w (i+(n+1-i)) cap 236:=⟨_,rfl⟩;have K6:n+1<=GC:=by rw [K9];have:=grownCap_ge w (i+(n+1-i)) cap 236;omega
 have hgm:GC<=maxLen:=by rw [K9];exact grownCap_le_maxLen w _ cap 236 (by unfold maxLen;omega)
 obtain⟨Z,hZ⟩:∃ Z:List Value,Z=(Builtin.zeroCells (Value.agg #[.string ByteArray.empty,.string ByteArray.empty]).cells (n+1-i)++Builtin.zeroCells (Value.agg #[.string ByteArray.empty,.string ByteArray.empty]).cells (GC-(n+1))).toList:=⟨_,rfl⟩
 have yX:(xs.take (i*2)++Z).length=GC*2:=by
  have uO:(Value.agg #[.string ByteArray.empty,.string ByteArray.empty]).cells.size=2:=rfl;have e1:(Builtin.zeroCells (Value.agg #[.string ByteArray.empty,.string ByteArray.empty]).cells (n+1-i)).toList.length=(n+1-i)*2:=by rw [Array.length_toList,size_zeroCells,uO]
  have e2:(Builtin.zeroCells (Value.agg #[.string ByteArray.empty,.string ByteArray.empty]).cells (GC-(n+1))).toList.length=(GC-(n+1))*2:=by rw [Array.length_toList,size_zeroCells,uO]
  rw [hZ,oJ,List.length_take,Array.toList_append,oJ,e1,e2,DN];omega
 have xZ:∀ ty,(Builtin.append_ #[232,3] ty #[.slice (some ⟨g,0,none⟩) i cap,.int .i64 (((n:Int)+1-(i:Int)))]).run Tryz.prog w=.ok (.slice (some ⟨w.heap.size,0,none⟩) (n+1) GC) (w.drew.alloc (.cells (xs.take (i*2)++Z).toArray 236)):=by
  intro ty
  have hfc:(Builtin.firstCells i0.size i (.slice (some ⟨g,0,none⟩) i cap)).run Tryz.prog w.drew=.ok (xs.take (i*2)).toArray w.drew:=by
   have hl:=run_loadCells_list (P:=Tryz.prog) w.drew ⟨g,0,none⟩ (xs.take (i*2)) (fun j u hj=>by
    rw [Nm.addr_add,aA (fO UT),Nat.zero_add];rw [List.getElem?_take] at hj
    split at hj
    ·rename_i hji;rw [<- Gi,List.getElem?_take_of_lt (by omega)] at hj;simpa using hj
    cases hj)
   rw [List.length_take,DN,Nat.min_eq_left (by omega)] at hl;simp [Builtin.firstCells,iH,hl]
  have hr:=Lib.run_append_grow_zeros (P:=Tryz.prog) w 232 3 ty 236 i0 _ .i64 .i64 Tryz.underlying232 Tryz.underlying3 Oo iQ (some ⟨g,0,none⟩) i cap (xs.take (i*2)) hfc (n+1-i) (by omega) (by omega) (by omega) (by omega) (by rw [iI];omega) (by rw [iI];exact growslice_fits (by omega) (by omega));rw [show((n+1-i:Nat):Int)=(n:Int)+1-(i:Int) by omega] at hr;rw [hr,<- K9,hZ];congr 1
  ·rw [show i+(n+1-i)=n+1 by omega]
  rw [show i+(n+1-i)=n+1 by omega];congr 2;rw [Array.append_assoc];apply Array.toList_inj.1;simp
 have hkW:bW (w.drew.alloc (.cells (xs.take (i*2)++Z).toArray 236)) w.heap.size (xs.take (i*2)++Z).toArray 236:=aK w.drew _ _;have UU:Below w.heap.size w (w.drew.alloc (.cells (xs.take (i*2)++Z).toArray 236)):=(aJ _ _).drew.alloc (aI _) _;obtain⟨c1,mQ⟩:∃ c1,c1=(xs.take (i*2)++Z).take (i*2)++[x0,x1]++(xs.take (i*2)++Z).drop (i*2+[x0,x1].length):=⟨_,rfl⟩;obtain⟨GD,qD⟩:=YK x0 x1 DN bY K6 yX c1 mQ;obtain⟨c2,vI⟩:∃ c2,c2=c1.take ((i+1)*2)++xs.drop (i*2)++c1.drop ((i+1)*2+(xs.drop (i*2)).length):=⟨_,rfl⟩;obtain⟨BA,GV⟩:=qD c2 vI;generalize FH:w.drew.alloc (.cells (xs.take (i*2)++Z).toArray 236)=W0 at*;have Ot:bW W0 g cur 236:=aB UT UU;have Ou:bW W0 vb #[x0,x1] 236:=aB hv UU;have zD:=cO UT
 have aC5:∀ ty dc,(Builtin.copy_ #[232,232] ty #[.slice (some ⟨w.heap.size,i*2,none⟩) (n+1-i) dc,.slice (some ⟨vb,0,none⟩) 1 vc]).run Tryz.prog W0=.ok (goInt (Nat.min 1 (n+1-i))) (W0.setRow w.heap.size c1.toArray):=fun ty dc=>by
  rw [mQ]
  exact gH W0 _ _ ty 236 w.heap.size (i*2) _ dc ⟨vb,0,none⟩ 1 vc _ 236 [x0,x1] 2 Tryz.underlying232 DY hkW (by simp only [Nat.min_def,List.length_cons,List.length_nil];split<;>omega) (fun j u hj=>by
   rw [Nm.addr_add,aA Ou,Nat.zero_add]
   simpa using hj) (by simp only [List.size_toArray,yX,List.length_cons,List.length_nil];omega) lN
 have LJ:bW (W0.setRow w.heap.size c1.toArray) w.heap.size c1.toArray 236:=jL hkW _
 have mD:bW (W0.setRow w.heap.size c1.toArray).drew g cur 236:=by
  unfold bW
  show(W0.setRow w.heap.size c1.toArray).heap[g]? =_
  rw [setRow_other W0 _ g _ (by omega)];exact Ot
 have aC6:∀ ty dc sc,(Builtin.copy_ #[232,232] ty #[.slice (some ⟨w.heap.size,(i+1)*2,none⟩) (n-i) dc,.slice (some ⟨g,i*2,none⟩) (n-i) sc]).run Tryz.prog (W0.setRow w.heap.size c1.toArray).drew=.ok (goInt (Nat.min (n-i) (n-i))) ((W0.setRow w.heap.size c1.toArray).drew.setRow w.heap.size c2.toArray):=fun ty dc sc=>by
  rw [vI];exact gH (W0.setRow w.heap.size c1.toArray).drew _ _ ty 236 w.heap.size ((i+1)*2) _ dc ⟨g,i*2,none⟩ _ sc c1.toArray 236 (xs.drop (i*2)) 2 Tryz.underlying232 DY (fO LJ) (by rw [nV];simp only [Nat.min_def];split<;>omega) (zQ _ mD) (by rw [nV];simp only [List.size_toArray,GD];omega) h1d
 have X:=Nm.aD (aV (uK (B:=B) (n:=n+1) (cap:=GC) (s:=2) (jL (fO LJ) c2.toArray) hB K6 hgm (by simp [BA]) (show c2.toArray.toList.take ((n+1)*2)=xs.take (i*2)++[x0,x1]++xs.drop (i*2) from GV)) (show w.grownBy ((W0.setRow w.heap.size c1.toArray).drew.setRow w.heap.size c2.toArray) (some g) from by
  refine⟨UU.os,UU.tape,UU.output,?_,fun k hk dM=>?_⟩
  ·rw [setRow_size];show w.heap.size<=(W0.setRow w.heap.size c1.toArray).heap.size
   rw [setRow_size];exact UU.size
  rw [setRow_other _ _ k _ (by omega)]
  show(W0.setRow w.heap.size c1.toArray).heap[k]? =_
  rw [setRow_other _ _ k _ (by omega)]
  exact UU.block k hk))
 have y1:¬GC=i:=by omega
 have y2:¬GC=i+1:=by omega
 have y3:¬n+1<=cap:=by omega
 have y4:(cap:Int)<(n:Int)+1:=by omega
 have y5:IntKind.i64.wrap ((i:Int)+1)=(i:Int)+1:=by rw [IntKind.wrap_i64];omega
 have y6:(0:Int)<=(i:Int)+1:=by omega
 have y7:(i:Int)+1<=(n:Int)+1:=by omega
 unfold maxLen at hgm;clear mQ vI qD GV GD BA zQ Gi K9 hZ yX FH mD LJ hkW UU Ot Ou zR YZ;go_enter Tryz.func189,Tryz.ntmps189;go_wp2_with (at_builtin;refine vV rfl (.tmp 34) (.tmp 39) 232 3 rfl _ _ _ _ rfl rfl (xZ _) ?_;clear xZ)
 go_region
 all_goals
  go_wp2;go_ret;exact⟨.slice (some ⟨w.heap.size,0,none⟩) (n+1) GC,rfl,X.out.1,X.out.2,.inr (fun g' e=>by simp [Value.ownBlock] at e;omega)⟩
theorem Qe(g B:Nat)(lK rv key fv:Value)(rs:List (Value×Value))(cf:Nat->Int)(k:Nat)(p:Value×Value)(w:World)(hg:bW w g #[lK,rv] 234)(h:w.ownsRow B 236 2 rv rs.length (eO rs))(hl:rs.length<=1000000)
 (hf:∀ (tb i:Nat) (p:Value×Value),rs[i]? =some p->∀ W,Below w.heap.size w W->bW W tb #[.pointer (some ⟨g,0,none⟩)] 175->Calls Tryz.prog 200 #[.agg #[p.1,p.2],key,.pointer (some ⟨tb,0,none⟩)] W fun e w'=>e=.returned (.int .i64 (cf i))∧Below W.heap.size W w')
 (hm:∀ a b,a<=b->b<rs.length->cf b<0->cf a<0) (hk:FU rs.length cf k) (hp:rs[k]? =some p) (h0:cf k=0):
 Calls Tryz.prog 172 #[.pointer (some ⟨g,0,none⟩),key,fv] w fun e w'=>e=.returned p.2∧Below w.heap.size w w':=by
 have nZ:=ZO g lK rv key rs cf w hg (dZ.aP h) hl hf hm;have mK:=(dL hp).1;have MI:=eY rs k 1 p hp (by decide);obtain⟨_,a,cap,rfl,gT,kV,hc⟩:=dZ.aP h;obtain⟨b,off,rfl,aH⟩:=hc (by omega);have c1:=aH _ _ MI;have HK:=Nm.aD hk;have H0:=Nm.aD (aV mK h0);unfold maxLen at kV;have n1:=fE k
 have n2:(k:Int)<(rs.length:Int):=by omega
 clear hf hm hk hp h0 h aH hc MI;go_enter Tryz.func172,Tryz.ntmps172;go_wp2_with fail
 refine nZ.mono ?_;rintro e w1 ⟨k',vT,rfl,b1⟩;obtain rfl:=FU.unique HK.out vT;rw [oI H0.out.1,oI H0.out.2];have kg:=aB hg b1;have rg:=aA kg
 have d1:w1.cell? ⟨b,off+k*2+1,none⟩=some p.2:=(b1.cell (fD w _ c1)).trans c1;have tt:(true&&true)=true:=rfl;clear nZ vT c1 H0;go_wp2;go_ret;exact⟨rfl,b1⟩
theorem Ju(g B:Nat)(lK rv:Value)(kx:ByteArray)(caps:Array Value)(rs:List (Value×Value))(cf:Nat->Int)(k:Nat)(w:World)(ob:Option Nat)(P:ByteArray->World->World->Prop)(hg:bW w g #[lK,rv] 234)(h:w.ownsRow B 236 2 rv rs.length (eO rs))(hl:rs.length<=500000)
 (hf:∀ (tb i:Nat) (p:Value×Value),rs[i]? =some p->∀ W,Below w.heap.size w W->bW W tb #[.pointer (some ⟨g,0,none⟩)] 175->Calls Tryz.prog 200 #[.agg #[p.1,p.2],(Value.string kx),.pointer (some ⟨tb,0,none⟩)] W fun e w'=>e=.returned (.int .i64 (cf i))∧Below W.heap.size W w')
 (hm:∀ a b,a<=b->b<rs.length->cf b<0->cf a<0) (hk:FU rs.length cf k) (h0:¬(k<rs.length∧cf k=0))
 (h1:∀ p∈rs,p.1.oneCell'=true∧p.2.oneCell'=true) (hB:B<=w.heap.size)
 (Xi:∀ W,Below w.heap.size w W->Calls Tryz.prog 174 caps W fun e w'=>∃ ux:ByteArray,e=.returned (Value.string ux)∧W.grownBy w' ob∧P ux W w') (hob:ob≠some g) (hrv:∀ x,rv.ownBlock=some x->ob≠some x):
 Calls Tryz.prog 172 #[.pointer (some ⟨g,0,none⟩),(Value.string kx),.func (.func 174) #[] caps] w fun e w'=>∃ (ux:ByteArray) (W w1:World) (rv':Value),e=.returned (Value.string ux)∧Below w.heap.size w W∧W.grownBy w1 ob∧P ux W w1∧bW w' g #[lK,rv'] 234∧w'.ownsRow B 236 2 rv' (rs.length+1) (eO (rs.take k++[((Value.string kx),(Value.string ux))]++rs.drop k))∧Kp2 g rv.ownBlock w1 w'∧(rv'.ownBlock=rv.ownBlock∨∀ x,rv'.ownBlock=some x->w1.heap.size<=x):=by
 have nZ:=ZO g lK rv (Value.string kx) rs cf w hg (dZ.aP h) (by omega) hf hm;obtain⟨a,cap,rfl⟩:=aT h;have HK:=Nm.aD hk
 have H0:Hid ((decide (k<rs.length)&&decide (cf k=0))=false):=by
  show _=_
  rw [Bool.and_eq_false_iff]
  by_cases hx:k<rs.length
  ·exact .inr (oF (fun h=>h0 ⟨hx,h⟩))
  exact .inl (oF hx)
 clear hf hm hk h0;go_enter Tryz.func172,Tryz.ntmps172;go_wp2_with fail
 refine nZ.mono ?_;rintro e w1 ⟨k',vT,rfl,b1⟩;obtain rfl:=FU.unique HK.out vT;rw [H0.out];have kg:=aB hg b1;have h2:=own_below h b1;have Ps:=Xi w1.drew b1.drew;have hkn:k<=rs.length:=HK.out.1;have Mv:=cO hg;clear nZ vT Xi H0 HK;go_wp2;refine kR (fun W=>W.cell? ⟨g,1,none⟩=some (.slice a rs.length cap)) 14 (aA kg 1) fun aY=>?_;refine kB 0 rfl ?_;refine kB 1 rfl ?_;refine kB 2 rfl ?_;refine kB 3 rfl ?_;refine kB 4 rfl ?_;refine kB 5 rfl ?_;refine kB 6 rfl ?_;refine kB 7 rfl ?_;refine k1 8 rfl fun K hK=>?_
 go_simp;refine Ps.mono ?_;rintro e w2 ⟨ux,rfl,qB,hP⟩;go_wp2_with fail
 have XJ:bW w2 g #[lK,.slice a rs.length cap] 234:=aO (fO kg) qB (fun e=>hob e)
 have M4:w2.ownsRow B 236 2 (.slice a rs.length cap) rs.length (eO rs):=h2.drew.kept qB (by
  cases hv:(Value.slice a rs.length cap).ownBlock with
  |none=>exact .inl rfl
  |some x=>right;intro e;exact hrv x hv e.symm)
 refine hK.out _ _ (aA XJ 1) fun _=>?_;clear hK K Ps;refine kB 9 rfl ?_;have jW:Below w2.heap.size w2 (w2.alloc (.cells #[(Value.string kx),(Value.string ux)] 236)):=(aJ _ _).alloc (aI _) _;have kg3:=aB XJ jW;refine k1 10 rfl fun K hK=>?_
 go_simp;refine hK.out _ _ (aA kg3 1) fun _=>?_;clear hK K;have hwB:B<=w2.heap.size:=by have:=b1.size;have:=qB.size;simp at this;omega
 have Pt:=Qd (.slice a rs.length cap) rs.length k (eO rs) (Value.string kx) (Value.string ux) w2.heap.size 1 B _ (own_below M4 jW) hkn (aK w2 #[(Value.string kx),(Value.string ux)] 236) (fun e=>by have:=(M4.lt _ e).2;omega) (RX h1) rfl rfl (by omega) (by simp;omega);refine k1 11 rfl fun K hK=>?_
 go_simp;refine Pt.mono ?_;rintro e w3 ⟨rv',rfl,XK,iZ,Pv⟩;go_wp2_with fail
 rw [RQ] at XK
 obtain⟨g',cap',rfl⟩:∃ g' cap',rv'=.slice (some ⟨g',0,none⟩) (rs.length+1) cap':=by
  rcases XK.2 with⟨_,h0⟩|⟨g',cap',cur,e,_⟩
  ·omega
  exact⟨g',cap',e⟩
 have AQ:(Value.slice a rs.length cap).ownBlock≠some g:=by
  intro e
  rcases M4.2 with⟨h0,_⟩|⟨q,c,cur,e1,_,hh,_⟩
  ·simp only [gK] at h0;rw [h0.1] at e;cases e
  simp only [gK] at e1;rw [e1.1] at e;simp only [Value.ownBlock,mV] at e;subst e;rw [bW,hh] at XJ;simp only [mV,Obj.cells.injEq] at XJ;exact absurd XJ.2.1 (by decide)
 have PO:=aO kg3 iZ AQ;have rg4:=aA PO
 have fg4:=aF PO
 refine hK.out _ _ (aA PO 1) fun _=>?_;clear hK K Pt;refine k1 12 rfl fun K hK=>?_
 go_simp;refine hK.out _ _ (aA PO 1) fun _=>?_;clear hK K;refine kB 13 rfl ?_;refine iB (by kernel_rfl) rfl (by kernel_rfl) fun K hK=>?_;go_simp;refine hK.out _ _ ?_;clear hK K
 have hgn:g'≠g:=by
  intro e;subst e
  rcases XK.2 with⟨h0,_⟩|⟨q,c,cur,e1,_,hh,_⟩
  ·cases h0
  simp only [gK,mV,Addr.mk.injEq] at e1;obtain⟨⟨rfl,_⟩,_⟩:=e1;rw [bW,hh] at PO;simp only [mV,Obj.cells.injEq] at PO;exact absurd PO.2.1 (by decide)
 have BQ:=dY (y:=.slice (some ⟨g',0,none⟩) (rs.length+1) cap') (i:=1) (g:=g) XK (by simp [Value.ownBlock];exact hgn);have kg5:=aM PO 1 (.slice (some ⟨g',0,none⟩) (rs.length+1) cap');have hlen:(rs.take k++[((Value.string kx),(Value.string ux))]++rs.drop k).length=rs.length+1:=by simp;omega
 have qF:(rs.take k++[((Value.string kx),(Value.string ux))]++rs.drop k)[k]? =some ((Value.string kx),(Value.string ux)):=by
  have Pw:(rs.take k).length=k:=by rw [List.length_take];omega
  rw [List.append_assoc,List.getElem?_append_right (by omega),Pw];simp
 have c1:(w3.setCell ⟨g,1,none⟩ (.slice (some ⟨g',0,none⟩) (rs.length+1) cap')).cell? ⟨g',k*2+1,none⟩=some (Value.string ux):=(BQ.cellAt (k*2+1) (by omega)).trans ((eY _ k 1 _ qF (by decide)).trans rfl);have c2:(w3.setCell ⟨g,1,none⟩ (.slice (some ⟨g',0,none⟩) (rs.length+1) cap')).cell? ⟨g,1,none⟩=some (.slice (some ⟨g',0,none⟩) (rs.length+1) cap'):=(aA kg5 1).trans (by simp);have n1:=fE k
 have n2:(k:Int)<(rs.length:Int)+1:=by omega
 have hKP:Kp2 g (Value.slice a rs.length cap).ownBlock w2 (w3.setCell ⟨g,1,none⟩ (.slice (some ⟨g',0,none⟩) (rs.length+1) cap')):=by
  refine⟨iZ.os,iZ.tape,iZ.output,?_,fun q hq dM Px=>?_⟩
  ·have:=iZ.size;simp at this ⊢;omega
  rw [heap_setCell_other w3 ⟨g,1,none⟩ q _ (by simpa using dM),iZ.block q (by simp;omega) (fun e=>Px e.symm)];exact jW.block q hq
 have HX:=Nm.aD (aV b1 (aV qB (aV hP (aV kg5 (aV BQ (aV hKP Pv))))));clear b1 qB hP kg5 BQ hKP Pv XK iZ PO kg3 XJ kg M4 h2 h hg jW rg4 fg4 qF;go_wp2;go_ret
 exact⟨ux,w1.drew,w2,_,rfl,HX.out.1.drew,HX.out.2.1,HX.out.2.2.1,HX.out.2.2.2.1,HX.out.2.2.2.2.1,HX.out.2.2.2.2.2.1,by
  rcases HX.out.2.2.2.2.2.2 with h|h
  ·exact .inl h
  exact .inr (fun x e=>by have:=h x e;simp at this;omega)⟩
theorem Tryz.M_:(Tryz.prog.info? 133).map (fun i=>(i.zero,i.size,i.bytes))=some (some (.agg #[.string ByteArray.empty,.int .i64 0,.int .i64 0,.int .i64 0,.string ByteArray.empty]),5,56):=by kernel_rfl
theorem PP(s:Sz)(dv:Value)(w:World)(h:Nm.bP w dv s.da)(hl:s.da.length<=1048576):
 Calls Tryz.prog 87 #[.agg #[.string s.own,.int .i64 s.ty,.int .i64 s.tt,dv]] w fun e w'=>∃ u,e=.returned u∧w'.ownsRow w.heap.size 133 5 u (iW s).length (jC (iW s))∧Below w.heap.size w w':=by
 obtain⟨i0,hi,iQ,iH,iI⟩:=info_parts Tryz.M_;have Dk:=xW s;have NJ:=fun(k:Nat) (d:ByteArray) (h:s.da[k]? =some d)=>YT (s:=s) h
 generalize iW s=rs at*;obtain⟨o,ty,tt,da⟩:=s;simp only at*
 have iY:=(aJ w.heap.size w).alloc (aI _) (.cells #[.string o,.int .i64 ty,.int .i64 tt,dv] 42);have dI:=h.below iY;have PQ:=aK w #[.string o,.int .i64 ty,.int .i64 tt,dv] 42;obtain⟨a,cap,rfl,gT,kV,FC,hc⟩:=dI;clear h;unfold maxLen at kV;go_enter Tryz.func87,Tryz.ntmps87;go_wp2;have aAh:(w.alloc (.cells #[.string o,.int .i64 ty,.int .i64 tt,.slice a da.length cap] 42)).heap.size=w.heap.size+1:=by simp
 generalize w.alloc (.cells #[.string o,.int .i64 ty,.int .i64 tt,.slice a da.length cap] 42)=w0 at*;have o0:=World.ownsRow_lit (base:=w0.heap.size) (e:=133) (size:=5) w0 #[] 0 (aI _) (by decide) rfl
 have qD:∀ W,Below w0.heap.size w0 W->∀ (k:Nat) (x:ByteArray),da[k]? =some x->∃ b off,a=some ⟨b,off,none⟩∧W.cell? ⟨b,off+k,none⟩=some (.string x):=by
  intro W hW k x hx;obtain⟨b,off,rfl,aH⟩:=hc (by intro h;rw [h] at hx;simp at hx);have h0:=aH k x hx;exact⟨b,off,rfl,(hW.cell (fD w0 _ h0)).trans h0⟩
 have IL:∀ W,Below w0.heap.size w0 W->W.cell? ⟨w.heap.size,0,none⟩=some (.string o)∧W.cell? ⟨w.heap.size,1,none⟩=some (.int .i64 ty)∧W.cell? ⟨w.heap.size,2,none⟩=some (.int .i64 tt)∧W.cell? ⟨w.heap.size,3,none⟩=some (.slice a da.length cap):=by
  intro W hW;have hb:=aB PQ hW;exact⟨(aA hb 0).trans rfl,(aA hb 1).trans rfl,(aA hb 2).trans rfl,(aA hb 3).trans rfl⟩
 clear hc PQ
 go_loopw [3,4] (fun vo vi wr=>∃ k:Nat,k<=da.length∧vi=.int .i64 k∧wr.ownsRow w0.heap.size 133 5 vo k (jC (rs.take k))∧Below w0.heap.size w0 wr) (fun _ vi _=>da.length-(intOf vi).toNat)
 ·exact⟨0,dR _,rfl,by rw [<- aAh];exact o0,(aJ _ _).alloc (aI _) _⟩
 obtain⟨k,hk,rfl,oO,aG⟩:=hrel;clear o0;obtain⟨q0,q1,q2,q3⟩:=IL wr aG
 by_cases bY:k<da.length
 ·obtain⟨x,hx⟩:=gQ bY;obtain⟨b,off,rfl,_⟩:=qD wr aG k x hx
  have vS:∀ W,Below w0.heap.size w0 W->W.cell? ⟨w.heap.size,0,none⟩=some (.string o)∧W.cell? ⟨w.heap.size,1,none⟩=some (.int .i64 ty)∧W.cell? ⟨w.heap.size,2,none⟩=some (.int .i64 tt)∧W.cell? ⟨w.heap.size,3,none⟩=some (.slice (some ⟨b,off,none⟩) da.length cap)∧W.cell? ⟨b,off+k,none⟩=some (.string x):=by
   intro W hW;obtain⟨y0,y1,y2,y3⟩:=IL W hW;obtain⟨b',off',he,Pd⟩:=qD W hW k x hx;cases he
   exact⟨y0,y1,y2,y3,Pd⟩
  have HT:Hid (jC (rs.take k)++[.string o,.int .i64 ty,.int .i64 1,.int .i64 tt,.string x]=jC (rs.take (k+1))):=by
   show _=_
   rw [NJ k x hx,sQ];rfl
  have i1:=fE k
  have i2:(k:Int)<(da.length:Int):=by omega
  clear qD IL NJ hx;go_wp2_with fail
  refine wp_region_held_drew (S:=fun W=>Below w0.heap.size w0 W) (by kernel_rfl) aG.drew fun aY=>?_;clear q0 q1 q2 q3;refine wpAnyH_take (i:=0) (v:=?_) rfl (by kernel_rfl) (by kernel_rfl) (by kernel_rfl) (fun _ _ _ h=>h) (Or.inl ⟨by rfl,?_⟩) (by assumption) ?_;rotate_left 1
  ·(intro W uA;obtain⟨z0,z1,z2,z3,z4⟩:=vS W uA;go_simp;try (with_reducible rfl))
  refine wpAnyH_take (i:=1) (v:=?_) rfl (by kernel_rfl) (by kernel_rfl) (by kernel_rfl) (fun _ _ _ h=>h) (Or.inl ⟨by rfl,?_⟩) (by assumption) ?_;rotate_left 1
  ·(intro W uA;obtain⟨z0,z1,z2,z3,z4⟩:=vS W uA;go_simp;try (with_reducible rfl))
  refine wpAnyH_take (i:=2) (v:=?_) rfl (by kernel_rfl) (by kernel_rfl) (by kernel_rfl) (fun _ _ _ h=>h) (Or.inl ⟨by rfl,?_⟩) (by assumption) ?_;rotate_left 1
  ·(intro W uA;obtain⟨z0,z1,z2,z3,z4⟩:=vS W uA;go_simp;try (with_reducible rfl))
  refine wpAnyH_take (i:=3) (v:=?_) rfl (by kernel_rfl) (by kernel_rfl) (by kernel_rfl) (fun _ _ _ h=>h) (Or.inl ⟨by rfl,?_⟩) (by assumption) ?_;rotate_left 1
  ·(intro W uA;obtain⟨z0,z1,z2,z3,z4⟩:=vS W uA;go_simp;try (with_reducible rfl))
  refine wpAnyH_take (i:=4) (v:=?_) rfl (by kernel_rfl) (by kernel_rfl) (by kernel_rfl) (fun _ _ _ h=>h) (Or.inl ⟨by rfl,?_⟩) (by assumption) ?_;rotate_left 1
  ·(intro W uA;obtain⟨z0,z1,z2,z3,z4⟩:=vS W uA;go_simp;try (with_reducible rfl))
  refine wpAnyH_take (i:=5) (v:=?_) rfl (by kernel_rfl) (by kernel_rfl) (by kernel_rfl) (fun _ _ _ h=>h) (Or.inl ⟨by rfl,?_⟩) (by assumption) ?_;rotate_left 1
  ·(intro W uA;obtain⟨z0,z1,z2,z3,z4⟩:=vS W uA;go_simp;try (with_reducible rfl))
  refine wpAnyH_take (i:=6) (v:=?_) rfl (by kernel_rfl) (by kernel_rfl) (by kernel_rfl) (fun _ _ _ h=>h) (Or.inl ⟨by rfl,?_⟩) (by assumption) ?_;rotate_left 1
  ·(intro W uA;obtain⟨z0,z1,z2,z3,z4⟩:=vS W uA;go_simp;try (with_reducible rfl))
  refine wpAnyH_take (i:=7) (v:=?_) rfl (by kernel_rfl) (by kernel_rfl) (by kernel_rfl) (fun _ _ _ h=>h) (Or.inl ⟨by rfl,?_⟩) (by assumption) ?_;rotate_left 1
  ·(intro W uA;obtain⟨z0,z1,z2,z3,z4⟩:=vS W uA;go_simp;try (with_reducible rfl))
  refine wpAnyH_take (i:=8) (v:=?_) rfl (by kernel_rfl) (by kernel_rfl) (by kernel_rfl) (fun _ _ _ h=>h) (Or.inl ⟨by rfl,?_⟩) (by assumption) ?_;rotate_left 1
  ·(intro W uA;obtain⟨z0,z1,z2,z3,z4⟩:=vS W uA;go_simp;try (with_reducible rfl))
  refine wpAnyH_take (i:=9) (v:=?_) rfl (by kernel_rfl) (by kernel_rfl) (by kernel_rfl) (fun _ _ _ h=>h) (Or.inl ⟨by rfl,?_⟩) (by assumption) ?_;rotate_left 1
  ·(intro W uA;obtain⟨z0,z1,z2,z3,z4⟩:=vS W uA;go_simp;try (with_reducible rfl))
  refine wpAnyH_take (i:=10) (v:=?_) rfl (by kernel_rfl) (by kernel_rfl) (by kernel_rfl) (fun _ _ _ h=>h) (Or.inl ⟨by rfl,?_⟩) (by assumption) ?_;rotate_left 1
  ·(intro W uA;obtain⟨z0,z1,z2,z3,z4⟩:=vS W uA;go_simp;try (with_reducible rfl))
  refine wpAnyH_take (i:=11) (v:=?_) rfl (by kernel_rfl) (by kernel_rfl) (by kernel_rfl) (fun _ _ _ h=>h) (Or.inl ⟨by rfl,?_⟩) (by assumption) ?_;rotate_left 1
  ·(intro W uA;obtain⟨z0,z1,z2,z3,z4⟩:=vS W uA;go_simp;try (with_reducible rfl))
  refine wpAnyH_take (i:=12) (v:=?_) rfl (by kernel_rfl) (by kernel_rfl) (by kernel_rfl) (fun _ _ _ h=>h) (Or.inl ⟨by rfl,?_⟩) (by assumption) ?_;rotate_left 1
  ·(intro W uA;obtain⟨z0,z1,z2,z3,z4⟩:=vS W uA;go_simp;try (with_reducible rfl))
  refine wpAnyH_ready (rs:=[13]) (by kernel_rfl) (by simp) ?_;refine AllReadyH.cons rfl (fun K hK=>?_) AllReadyH.nil;go_simp;refine hK.out _ _ (aY.alloc aY.size _) fun _=>?_;clear hK K;refine wpAnyH_ready (rs:=[14]) (by kernel_rfl) (by simp) ?_;refine AllReadyH.cons rfl (fun K hK=>?_) AllReadyH.nil;refine nD rfl (.tmp 13) (.tmp 26) 88 rfl w0.heap.size 133 i0 _ 5 56 Tryz.underlying88 hi iQ iH iI rfl (by decide) _ _ _ (by rfl) (own_below oO ((aJ _ _).drew.alloc (aI _) _)) ⟨wr.drew.heap.size,0,none⟩ 1 1 [.string o,.int .i64 ty,.int .i64 1,.int .i64 tt,.string x] (by rfl) rfl (eZ _ _ _) (by intro u hu;simp at hu;rcases hu with rfl|rfl|rfl|rfl|rfl<;>rfl) (by unfold maxLen;omega) (by omega) (by have:=aY.size;simp at this ⊢;omega) ?_;intro va wa dE bU _;rw [HT.out] at dE;have b4:Below w0.heap.size w0 wa:=(aY.alloc aY.size _).grown bU (by have:=aY.size;simp at this ⊢;omega) (fun k hk=>(oO.lt k hk).1);refine hK.out _ _ b4 fun _=>?_;clear hK K bU oO aY;refine wpAnyH_take (i:=15) (v:=?_) rfl (by kernel_rfl) (by kernel_rfl) (by kernel_rfl) (fun _ _ _ h=>h) (Or.inl ⟨by rfl,?_⟩) (by assumption) ?_;rotate_left 1
  ·(intro W uA;obtain⟨z0,z1,z2,z3,z4⟩:=vS W uA;go_simp;try (with_reducible rfl))
  refine wpAnyH_done (by kernel_rfl) ?_ _;obtain⟨z0,z1,z2,z3,z4⟩:=vS _ b4;go_wp2;go_roundw
  ·exact⟨k+1,by omega,by go_num,dE,b4⟩
  simp [intOf];omega
 have mK:k=da.length:=by omega
 subst mK;have i2:(da.length:Int)<=(da.length:Int):=by omega
 clear qD IL NJ;rw [List.take_of_length_le (by omega)] at oO;go_wp2;go_ret;refine⟨_,rfl,?_,Nm.aC iY aG⟩;rw [Dk];exact fM oO iY.size
theorem Qf(a b:Value)(xs ys:List Rr)(B B2:Nat)(w:World)(h:w.ownsRow B 133 5 a xs.length (jC xs))(h':w.ownsRow B2 133 5 b ys.length (jC ys))(hB:B<=w.heap.size)(bY:∀ g,a.ownBlock=some g->g<B2)(hn:xs.length+ys.length<=2000000):
 Calls Tryz.prog 86 #[a,b] w fun e w'=>∃ u,e=.returned u∧w'.ownsRow B 133 5 u (xs++ys).length (jC (xs++ys))∧Below B w w':=by
 obtain⟨i0,hi,iQ,iH,iI⟩:=info_parts Tryz.M_;obtain⟨ba,bc,rfl⟩:=aT h';go_enter Tryz.func86,Tryz.ntmps86;go_wp2
 go_loopw [0,5] (fun vo vi wr=>∃ k:Nat,k<=ys.length∧vi=.int .i64 k∧wr.ownsRow B 133 5 vo (xs.length+k) (jC (xs++ys.take k))∧wr.ownsRow B2 133 5 (.slice ba ys.length bc) ys.length (jC ys)∧(∀ g,vo.ownBlock=some g->(Value.slice ba ys.length bc).ownBlock≠some g)∧B<=wr.heap.size∧Below B w wr) (fun _ vi _=>ys.length-(intOf vi).toNat)
 case atStart=>
  refine⟨0,dR _,rfl,by simpa using h,h',fun g hg e=>?_,hB,aJ _ _⟩;have h1:=bY g hg;have h2:=(h'.lt g e).1;omega
 obtain⟨k,hk,rfl,oO,oY,xZ,hBw,aG⟩:=hrel;clear h h' bY hB
 by_cases bY:k<ys.length
 ·obtain⟨x,hx⟩:=gQ bY;obtain⟨_,ya,yc,hyv,hycap,hymx,hyc⟩:=dZ.aP oY;simp only [gK] at hyv;obtain⟨rfl,_,rfl⟩:=hyv;obtain⟨b,off,rfl,aH⟩:=hyc (by omega);obtain⟨c0,c1,c2,c3,c4⟩:=BF aH hx
  have HT:Hid (jC (xs++ys.take k)++[.string x.own,.int .i64 x.ty,.int .i64 x.cl,.int .i64 x.tt,.string x.da]=jC (xs++ys.take (k+1))):=by
   show _=_
   rw [List.take_add_one,hx,<- List.append_assoc,sQ (xs++ys.take k)];rfl
  have i1:=fE k
  have i2:(k:Int)<(ys.length:Int):=by omega
  clear aH hyc hx;obtain⟨o,ty,cl,tt,da⟩:=x;simp only at c0 c1 c2 c3 c4 HT
  obtain⟨oa,oc,qY⟩:=aT oO;subst qY;go_wp2_with (at_builtin;refine wpList_append_own_at _ rfl (.tmp 12) (.tmp 17) 88 rfl B 133 i0 _ 5 56 Tryz.underlying88 hi iQ iH iI rfl (by decide) (.slice oa (xs.length+k) oc) (xs.length+k) (jC (xs++ys.take k)) rfl (own_below oO ((aJ _ _).alloc (aI _) _)) ⟨wr.heap.size,0,none⟩ 1 1 [.string o,.int .i64 ty,.int .i64 cl,.int .i64 tt,.string da] rfl rfl (eZ _ _ _) (by intro u hu;simp at hu;rcases hu with rfl|rfl|rfl|rfl|rfl<;>rfl) (by unfold maxLen;omega) (by omega) (by simp;omega) ?_;intro va wa yV nA BK DX)
  rw [HT.out] at yV;have oY2:=own_below oY ((aJ _ _).alloc (aI _) (.cells #[.string o,.int .i64 ty,.int .i64 cl,.int .i64 tt,.string da] 133))
  have oY3:wa.ownsRow B2 133 5 (.slice (some ⟨b,off,none⟩) ys.length bc) ys.length (jC ys):=by
   refine oY2.kept nA ?_
   cases hoa:(Value.slice oa (xs.length+k) oc).ownBlock with
   |none=>right;simp [Value.ownBlock]
   |some g=>right;exact xZ g hoa
  have hlty:=(oY.lt b rfl).2
  have aQr:∀ g,va.ownBlock=some g->(Value.slice (some ⟨b,off,none⟩) ys.length bc).ownBlock≠some g:=by
   intro g hg
   rcases DX with h9|h9
   ·exact xZ g (by rw [<- h9];exact hg)
   rw [h9] at hg;simp only [mV,Value.ownBlock,ne_eq] at hg ⊢;simp at hg;omega
  have b4:Below B w wa:=(aG.alloc hBw _).grown nA (by simp;omega) (fun g hg=>(oO.lt g hg).1);have hB4:B<=wa.heap.size:=by have:=nA.size;simp at this;omega
  clear DX BK nA oY oY2 oO xZ;go_wp2;go_roundw
  ·exact⟨k+1,by omega,by go_num,yV,oY3,aQr,hB4,b4⟩
  simp [intOf];omega
 have mK:k=ys.length:=by omega
 subst mK;have i2:(ys.length:Int)<=(ys.length:Int):=by omega
 rw [List.take_length] at oO;clear oY xZ;go_wp2;go_ret;refine⟨_,rfl,?_,aG⟩;rw [oJ];exact oO
theorem PR(o:ByteArray)(v:Value)(ps:List Zp)(w:World)(h:gG w v ps)(hs:wP ps<=1048576)(hl:ps.length<=1048576):
 Calls Tryz.prog 40 #[.agg #[.string o,v]] w fun e w'=>e=.returned (.int .i64 (jQ ps:Int))∧Below w.heap.size w w':=by
 have hds:=aHl ps;have iY:=(aJ w.heap.size w).alloc (aI _) (.cells #[.string o,v] 25);have PQ:=aK w #[.string o,v] 25;obtain⟨⟨_,a,cap,rfl,gT,kV,hc⟩,hd⟩:=h;unfold maxLen at kV;have fJ:=(aA PQ 1).trans rfl;go_enter Tryz.func40,Tryz.ntmps40;go_wp2
 go_loop [3,4] (fun t i=>∃ k:Nat,k<=ps.length∧i=.int .i64 k∧t=.int .i64 (jQ (ps.take k):Int)) (fun _ i=>ps.length-(intOf i).toNat)
 ·exact⟨0,dR _,rfl,by simp [jQ]⟩
 obtain⟨k,hk,rfl,rfl⟩:=hrel
 by_cases bY:k<ps.length
 ·obtain⟨x,qF⟩:=gQ bY;obtain⟨b,off,rfl,aH⟩:=hc (by omega);obtain⟨c0,c1,c2,c3⟩:=iE aH qF;have c3':=(iY.cell (fD w _ c3)).trans c3;have HS:=KE ps k x qF;have oG:=wQ ps (k+1);obtain⟨da',dc,hdv,_⟩:=hd x (dA qF);have i1:=fE k
  have i2:(k:Int)<(ps.length:Int):=by omega
  have aD1:((jQ (ps.take (k+1)):Nat):Int)=(jQ (ps.take k):Int)+(x.1.da.length:Int):=by omega
  have N7:(jQ (ps.take k):Int)+(x.1.da.length:Int)<=1048576:=by omega
  clear qF aH hc hd;obtain⟨⟨o1,ty,tt,da⟩,dv⟩:=x;simp only at c3' hdv aD1 N7
  subst hdv;generalize hz:jQ (ps.take (k+1))=z1 at*;generalize jQ (ps.take k)=z0 at*;go_wp2
  go_round
  ·exact⟨k+1,by omega,by go_num,by rw [hz,aD1]⟩
  simp [intOf];omega
 have mK:k=ps.length:=by omega
 subst mK;clear hc hd;have i2:(ps.length:Int)<=(ps.length:Int):=by omega
 rw [List.take_length];go_wp2;go_ret;exact⟨rfl,iY⟩
