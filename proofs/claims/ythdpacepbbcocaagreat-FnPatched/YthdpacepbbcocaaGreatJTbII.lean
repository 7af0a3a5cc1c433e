import Derived.Test.YthdpacepbbcocaaGreatJTbPI
set_option linter.unusedVariables false
set_option maxRecDepth 100000
set_option maxHeartbeats 3200000
namespace Go.Proofs.YthdpacepbbcocaaGreat
open Go.RowKit
theorem Tryz.aFu:(Tryz.prog.info? 196).map (fun i=>(i.zero,i.size,i.bytes))=some (some (.agg #[.int .i64 0,.pointer none]),2,16):=by kernel_rfl
theorem Cv{w:World}{b:Nat}{cs:Array Value}{T:TypeId}(h:bG w b cs T):w.shape? b=some (T,cs.size):=by
 unfold bG at h;simp [World.shape?,h]
def aSy(B:Nat)(v:Value)(n i:Nat)(xs:List Value)(x0 x1:Value)(w:World)(e:Ending)(w':World):Prop:=
 ∃ u,e=.returned u∧w'.ownsRow B 196 2 u (n+1) (xs.take (i*2)++[x0,x1]++xs.drop (i*2))∧w.grownBy w' v.ownBlock∧(u.ownBlock=v.ownBlock∨∀ g,u.ownBlock=some g->w.heap.size<=g)
theorem Mm(v:Value)(n i:Nat)(xs:List Value)(x0 x1:Value)(vb vc B:Nat)(w:World)(h:w.ownsRow B 196 2 v n xs)(hi:i<=n)(hv:bG w vb #[x0,x1] 196)(hvb:v.ownBlock≠some vb)
 (h1:∀ u∈xs,u.oneCell'=true) (h0:x0.oneCell'=true) (Sg:x1.oneCell'=true) (hn:n<=1000000) (hB:B<=w.heap.size):
 Calls Tryz.prog 185 #[v,.int .i64 (i:Int),.slice (some ⟨vb,0,none⟩) 1 vc] w (aSy B v n i xs x0 x1 w):=by
 obtain⟨i0,Je,iJ,fP,fZ⟩:=info_parts Tryz.aFu;have DZ:xs.length=n*2:=h.1
 have TR:∀ (j:Nat) (u:Value),[x0,x1][j]? =some u->w.cell? ((⟨vb,0,none⟩:Addr).add j)=some u:=by
  intro j u hj;rw [Nm.addr_add,Nat.zero_add,aA hv j];simpa using hj
 have jW:∀ u∈[x0,x1],u.oneCell'=true:=by
  intro u hu;simp at hu
  rcases hu with rfl|rfl
  ·exact h0
  exact Sg
 by_cases mK:i=n
 ·subst mK
  have hHX:Hid (xs.take (i*2)++[x0,x1]++xs.drop (i*2)=xs++[x0,x1]):=by
   show _=_
   rw [List.take_of_length_le (by omega),List.drop_of_length_le (by omega),List.append_nil]
  rcases h.2 with⟨rfl,Ty⟩|⟨g,cap,cur,rfl,ZU,hg,YX,zM,oZ,QQ⟩
  ·have aE1:i=0:=Ty;subst aE1;have Ku:((0:Nat):Int)=0:=rfl;rw [Ku];go_enter Tryz.func185,Tryz.ntmps185;go_wp2_with (at_builtin;refine wpList_append_own_at _ rfl (.tmp 23) (.tmp 24) 192 rfl B 196 i0 _ 2 16 Tryz.underlying192 Je iJ fP fZ rfl (by decide) _ _ _ rfl h ⟨vb,0,none⟩ 1 vc [x0,x1] rfl rfl TR jW (by unfold maxLen;omega) (by omega) hB ?_;intro va wa rF iF oP oQ)
   go_ret;exact⟨va,rfl,by rw [hHX.out];exact rF,iF,by rcases oQ with h|h;exact .inl h;right;intro g e;rw [h] at e;simp at e;omega⟩
  unfold maxLen at zM
  by_cases hci:cap=i
  all_goals
   go_enter Tryz.func185,Tryz.ntmps185;go_wp2_with (at_builtin;refine wpList_append_own_at _ rfl (.tmp 23) (.tmp 24) 192 rfl B 196 i0 _ 2 16 Tryz.underlying192 Je iJ fP fZ rfl (by decide) _ _ _ rfl h ⟨vb,0,none⟩ 1 vc [x0,x1] rfl rfl TR jW (by unfold maxLen;omega) (by omega) hB ?_;intro va wa rF iF oP oQ)
   go_ret;exact⟨va,rfl,by rw [hHX.out];exact rF,iF,by rcases oQ with h|h;exact .inl h;right;intro g e;rw [h] at e;simp at e;omega⟩
 have bV:i<n:=by omega
 rcases h.2 with⟨rfl,Ty⟩|⟨g,cap,cur,rfl,ZU,hg,YX,zM,oZ,QQ⟩
 ·omega
 have QR:bG w g cur 196:=hg;have hgv:vb≠g:=fun e=>hvb (by rw [e];rfl)
 have wM:(Tryz.prog.info? 196).map (·.size)=some 2:=by rw [Je];simp [fP]
 have xY:∀ (W:World),bG W g cur 196->∀ (j:Nat) (u:Value),(xs.drop (i*2))[j]? =some u->W.cell? ((⟨g,i*2,none⟩:Addr).add j)=some u:=by
  intro W hW j u hj;rw [Nm.addr_add,aA hW];rw [List.getElem?_drop] at hj;have LU:=(dK hj).1;rw [<- QQ,List.getElem?_take_of_lt (by omega)] at hj;simpa using hj
 have pF:(xs.drop (i*2)).length=(n-i)*2:=by rw [List.length_drop,DZ];omega
 have h1d:∀ u∈xs.drop (i*2),u.oneCell'=true:=fun u hu=>h1 u (List.mem_of_mem_drop hu)
 unfold maxLen at zM;have z1:¬((i:Int)=(n:Int)):=by omega
 have z2:(0:Int)<=(i:Int):=by omega
 have z3:(i:Int)<=(n:Int):=by omega
 have z4:¬cap=i:=by omega
 have z6:((i:Int)+1).toNat=i+1:=by omega
 by_cases xZ:n+1<=cap
 ·have hov:∀ lb cb,(callFunc 199 #[.slice (some ⟨vb,0,none⟩) 1 vc,.slice (some ⟨g,(i+1)*2,none⟩) lb cb]).run Tryz.prog w=.ok (.value (.bool false)) w:=fun lb cb=>by
   rw [run_callFunc_extern Tryz.func199 (by kernel_rfl) (by kernel_rfl) (by kernel_rfl) (e:=Extern.SlicesOverlaps.overlaps #[192,192] #[4]) (by kernel_rfl),
    Lib.run_overlaps_apart w 192 4 196 Tryz.underlying192 2 (fun w=>by rw [sizeOf];simp [typeInfo,Je,fP]) ⟨vb,0,none⟩ ⟨g,(i+1)*2,none⟩ 1 vc lb cb hgv 196 196 2 cur.size (Cv hv) (Cv QR) (by omega) (frozen_of_row w vb 0 _ _ hv) (frozen_of_row w vb 2 _ _ hv)]
   rfl
  have z5:¬cap=i+1:=by omega
  obtain⟨c1,iK⟩:∃ c1,c1=cur.toList.take ((i+1)*2)++xs.drop (i*2)++cur.toList.drop ((i+1)*2+(xs.drop (i*2)).length):=⟨_,rfl⟩;obtain⟨CX,pJ⟩:=VC x0 x1 (by rw [Array.length_toList,oZ]) QQ bV xZ c1 iK;obtain⟨c2,mD⟩:∃ c2,c2=c1.take (i*2)++[x0,x1]++c1.drop (i*2+[x0,x1].length):=⟨_,rfl⟩;obtain⟨EI,EL⟩:=pJ c2 mD
  have aE2:∀ ty dc sc,(Builtin.copy_ #[192,192] ty #[.slice (some ⟨g,(i+1)*2,none⟩) (n-i) dc,.slice (some ⟨g,i*2,none⟩) (n+1-i) sc]).run Tryz.prog w.drew=.ok (goInt (Nat.min (n+1-i) (n-i))) (w.drew.setRow g c1.toArray):=fun ty dc sc=>by
   rw [iK];exact fU w.drew _ _ ty 196 g ((i+1)*2) _ dc ⟨g,i*2,none⟩ _ sc cur 196 (xs.drop (i*2)) 2 Tryz.underlying192 wM QR (by rw [pF];simp only [Nat.min_def];split<;>omega) (xY _ QR) (by rw [pF,oZ];omega) h1d
  have KV:bG (w.drew.setRow g c1.toArray) g c1.toArray 196:=iY (dS QR) _
  have aE3:∀ ty dc,(Builtin.copy_ #[192,192] ty #[.slice (some ⟨g,i*2,none⟩) (n+1-i) dc,.slice (some ⟨vb,0,none⟩) 1 vc]).run Tryz.prog (w.drew.setRow g c1.toArray)=.ok (goInt (Nat.min 1 (n+1-i))) ((w.drew.setRow g c1.toArray).setRow g c2.toArray):=fun ty dc=>by
   rw [mD]
   exact fU (w.drew.setRow g c1.toArray) _ _ ty 196 g (i*2) _ dc ⟨vb,0,none⟩ 1 vc c1.toArray 196 [x0,x1] 2 Tryz.underlying192 wM KV (by simp only [Nat.min_def,List.length_cons,List.length_nil];split<;>omega) (fun j u hj=>by
    rw [World.cell?_of_block (w:=w.drew) (by rw [Nm.addr_add];exact setRow_other w.drew g vb _ hgv)]
    exact TR j u hj) (by simp only [List.size_toArray,CX,List.length_cons,List.length_nil];omega) jW
  have X:=Nm.aF (aV (tC (n:=n+1) (cap:=cap) (s:=2) (iY KV c2.toArray) ZU (by omega) zM (by simp [EI]) (show c2.toArray.toList.take ((n+1)*2)=xs.take (i*2)++[x0,x1]++xs.drop (i*2) from EL)) (zG (g:=g) ((⟨rfl,rfl,rfl,aN _,fun _ _ _=>rfl⟩:w.grownBy w.drew (some g))) (zG (oM w.drew g c1.toArray) (oM _ g c2.toArray))));clear iK mD pJ EL CX EI xY QQ;go_enter Tryz.func185,Tryz.ntmps185;go_wp2;go_region
  all_goals
   go_wp2;go_ret;exact⟨.slice (some ⟨g,0,none⟩) (n+1) cap,rfl,X.out.1,X.out.2,.inl rfl⟩
 have hcn:cap=n:=by omega
 obtain⟨GC,hGC⟩:∃ GC,GC=grownCap w (i+(n+1-i)) cap 196:=⟨_,rfl⟩;have hge:n+1<=GC:=by rw [hGC];have:=grownCap_ge w (i+(n+1-i)) cap 196;omega
 have hgm:GC<=maxLen:=by rw [hGC];exact grownCap_le_maxLen w _ cap 196 (by unfold maxLen;omega)
 obtain⟨Z,hZ⟩:∃ Z:List Value,Z=(Builtin.zeroCells (Value.agg #[.int .i64 0,.pointer none]).cells (n+1-i)++Builtin.zeroCells (Value.agg #[.int .i64 0,.pointer none]).cells (GC-(n+1))).toList:=⟨_,rfl⟩
 have JB:(xs.take (i*2)++Z).length=GC*2:=by
  have KS:(Value.agg #[.int .i64 0,.pointer none]).cells.size=2:=rfl;have e1:(Builtin.zeroCells (Value.agg #[.int .i64 0,.pointer none]).cells (n+1-i)).toList.length=(n+1-i)*2:=by rw [Array.length_toList,size_zeroCells,KS]
  have e2:(Builtin.zeroCells (Value.agg #[.int .i64 0,.pointer none]).cells (GC-(n+1))).toList.length=(GC-(n+1))*2:=by rw [Array.length_toList,size_zeroCells,KS]
  rw [hZ,nG,List.length_take,Array.toList_append,nG,e1,e2,DZ];omega
 have pW:∀ ty,(Builtin.append_ #[192,3] ty #[.slice (some ⟨g,0,none⟩) i cap,.int .i64 (((n:Int)+1-(i:Int)))]).run Tryz.prog w=.ok (.slice (some ⟨w.heap.size,0,none⟩) (n+1) GC) (w.drew.alloc (.cells (xs.take (i*2)++Z).toArray 196)):=by
  intro ty
  have hfc:(Builtin.firstCells i0.size i (.slice (some ⟨g,0,none⟩) i cap)).run Tryz.prog w.drew=.ok (xs.take (i*2)).toArray w.drew:=by
   have hl:=run_loadCells_list (P:=Tryz.prog) w.drew ⟨g,0,none⟩ (xs.take (i*2)) (fun j u hj=>by
    rw [Nm.addr_add,aA (dS QR),Nat.zero_add];rw [List.getElem?_take] at hj
    split at hj
    ·rename_i hji;rw [<- QQ,List.getElem?_take_of_lt (by omega)] at hj;simpa using hj
    cases hj)
   rw [List.length_take,DZ,Nat.min_eq_left (by omega)] at hl;simp [Builtin.firstCells,fP,hl]
  have hr:=Lib.run_append_grow_zeros (P:=Tryz.prog) w 192 3 ty 196 i0 _ .i64 .i64 Tryz.underlying192 Tryz.underlying3 Je iJ (some ⟨g,0,none⟩) i cap (xs.take (i*2)) hfc (n+1-i) (by omega) (by omega) (by omega) (by omega) (by rw [fZ];omega) (by rw [fZ];exact growslice_fits (by omega) (by omega));rw [show((n+1-i:Nat):Int)=(n:Int)+1-(i:Int) by omega] at hr;rw [hr,<- hGC,hZ];congr 1
  ·rw [show i+(n+1-i)=n+1 by omega]
  rw [show i+(n+1-i)=n+1 by omega];congr 2;rw [Array.append_assoc];apply Array.toList_inj.1;simp
 have hkW:bG (w.drew.alloc (.cells (xs.take (i*2)++Z).toArray 196)) w.heap.size (xs.take (i*2)++Z).toArray 196:=aH w.drew _ _;have QS:Below w.heap.size w (w.drew.alloc (.cells (xs.take (i*2)++Z).toArray 196)):=(aK _ _).drew.alloc (aN _) _;obtain⟨c1,iK⟩:∃ c1,c1=(xs.take (i*2)++Z).take (i*2)++[x0,x1]++(xs.take (i*2)++Z).drop (i*2+[x0,x1].length):=⟨_,rfl⟩;obtain⟨CX,pJ⟩:=VD x0 x1 DZ bV hge JB c1 iK;obtain⟨c2,mD⟩:∃ c2,c2=c1.take ((i+1)*2)++xs.drop (i*2)++c1.drop ((i+1)*2+(xs.drop (i*2)).length):=⟨_,rfl⟩;obtain⟨EI,EL⟩:=pJ c2 mD;generalize lF:w.drew.alloc (.cells (xs.take (i*2)++Z).toArray 196)=W0 at*;have Kv:bG W0 g cur 196:=aB QR QS;have Kw:bG W0 vb #[x0,x1] 196:=aB hv QS;have BG:=bU QR;have aOs:=bU hv
 have aE2:∀ ty dc,(Builtin.copy_ #[192,192] ty #[.slice (some ⟨w.heap.size,i*2,none⟩) (n+1-i) dc,.slice (some ⟨vb,0,none⟩) 1 vc]).run Tryz.prog W0=.ok (goInt (Nat.min 1 (n+1-i))) (W0.setRow w.heap.size c1.toArray):=fun ty dc=>by
  rw [iK]
  exact fU W0 _ _ ty 196 w.heap.size (i*2) _ dc ⟨vb,0,none⟩ 1 vc _ 196 [x0,x1] 2 Tryz.underlying192 wM hkW (by simp only [Nat.min_def,List.length_cons,List.length_nil];split<;>omega) (fun j u hj=>by
   rw [Nm.addr_add,aA Kw,Nat.zero_add]
   simpa using hj) (by simp only [List.size_toArray,JB,List.length_cons,List.length_nil];omega) jW
 have KV:bG (W0.setRow w.heap.size c1.toArray) w.heap.size c1.toArray 196:=iY hkW _
 have rP:bG (W0.setRow w.heap.size c1.toArray).drew g cur 196:=by
  unfold bG
  show(W0.setRow w.heap.size c1.toArray).heap[g]? =_
  rw [setRow_other W0 _ g _ (by omega)];exact Kv
 have aE3:∀ ty dc sc,(Builtin.copy_ #[192,192] ty #[.slice (some ⟨w.heap.size,(i+1)*2,none⟩) (n-i) dc,.slice (some ⟨g,i*2,none⟩) (n-i) sc]).run Tryz.prog (W0.setRow w.heap.size c1.toArray).drew=.ok (goInt (Nat.min (n-i) (n-i))) ((W0.setRow w.heap.size c1.toArray).drew.setRow w.heap.size c2.toArray):=fun ty dc sc=>by
  rw [mD];exact fU (W0.setRow w.heap.size c1.toArray).drew _ _ ty 196 w.heap.size ((i+1)*2) _ dc ⟨g,i*2,none⟩ _ sc c1.toArray 196 (xs.drop (i*2)) 2 Tryz.underlying192 wM (dS KV) (by rw [pF];simp only [Nat.min_def];split<;>omega) (xY _ rP) (by rw [pF];simp only [List.size_toArray,CX];omega) h1d
 have X:=Nm.aF (aV (tC (B:=B) (n:=n+1) (cap:=GC) (s:=2) (iY (dS KV) c2.toArray) hB hge hgm (by simp [EI]) (show c2.toArray.toList.take ((n+1)*2)=xs.take (i*2)++[x0,x1]++xs.drop (i*2) from EL)) (show w.grownBy ((W0.setRow w.heap.size c1.toArray).drew.setRow w.heap.size c2.toArray) (some g) from by
  refine⟨QS.os,QS.tape,QS.output,?_,fun k hk dQ=>?_⟩
  ·rw [setRow_size];show w.heap.size<=(W0.setRow w.heap.size c1.toArray).heap.size
   rw [setRow_size];exact QS.size
  rw [setRow_other _ _ k _ (by omega)]
  show(W0.setRow w.heap.size c1.toArray).heap[k]? =_
  rw [setRow_other _ _ k _ (by omega)]
  exact QS.block k hk))
 have y1:¬GC=i:=by omega
 have y2:¬GC=i+1:=by omega
 have y3:¬n+1<=cap:=by omega
 have y4:(cap:Int)<(n:Int)+1:=by omega
 have y5:IntKind.i64.wrap ((i:Int)+1)=(i:Int)+1:=by rw [IntKind.wrap_i64];omega
 have y6:(0:Int)<=(i:Int)+1:=by omega
 have y7:(i:Int)+1<=(n:Int)+1:=by omega
 unfold maxLen at hgm;clear iK mD pJ EL CX EI xY QQ hGC hZ JB lF rP KV hkW QS Kv Kw xZ hcn;go_enter Tryz.func185,Tryz.ntmps185;go_wp2_with (at_builtin;refine uT rfl (.tmp 34) (.tmp 39) 192 3 rfl _ _ _ _ rfl rfl (pW _) ?_;clear pW)
 go_region
 all_goals
  go_wp2;go_ret;exact⟨.slice (some ⟨w.heap.size,0,none⟩) (n+1) GC,rfl,X.out.1,X.out.2,.inr (fun g' e=>by simp [Value.ownBlock] at e;omega)⟩
theorem Mo(g B:Nat)(jY rv key fv:Value)(rs:List (Value×Value))(cf:Nat->Int)(k:Nat)(p:Value×Value)(w:World)(hg:bG w g #[jY,rv] 194)(h:w.ownsRow B 196 2 rv rs.length (eD rs))(hl:rs.length<=1000000)
 (hf:∀ (tb i:Nat) (p:Value×Value),rs[i]? =some p->∀ W,Below w.heap.size w W->bG W tb #[.pointer (some ⟨g,0,none⟩)] 154->Calls Tryz.prog 191 #[.agg #[p.1,p.2],key,.pointer (some ⟨tb,0,none⟩)] W fun e w'=>e=.returned (.int .i64 (cf i))∧Below W.heap.size W w')
 (hm:∀ a b,a<=b->b<rs.length->cf b<0->cf a<0) (hk:EH rs.length cf k) (hp:rs[k]? =some p) (h0:cf k=0):
 Calls Tryz.prog 165 #[.pointer (some ⟨g,0,none⟩),key,fv] w fun e w'=>e=.returned p.2∧Below w.heap.size w w':=by
 have pG:=BJ g jY rv key rs cf w hg (bS.aS h) hl hf hm;have nS:=(dK hp).1;have JC:=eY rs k 1 p hp (by decide);obtain⟨_,a,cap,rfl,gY,kK,hc⟩:=bS.aS h;obtain⟨b,off,rfl,aL⟩:=hc (by omega);have c1:=aL _ _ JC;have HK:=Nm.aF hk;have H0:=Nm.aF (aV nS h0);unfold maxLen at kK;have n1:(0:Int)<=(k:Int):=by omega
 have n2:(k:Int)<(rs.length:Int):=by omega
 clear hf hm hk hp h0 h aL hc JC;go_enter Tryz.func165,Tryz.ntmps165;go_wp2_with fail
 refine pG.mono ?_;rintro e w1 ⟨k',sS,rfl,b1⟩;obtain rfl:=EH.unique HK.out sS;rw [nD H0.out.1,nD H0.out.2];have kg:=aB hg b1;have rg:=fun i=>aA kg i
 have d1:w1.cell? ⟨b,off+k*2+1,none⟩=some p.2:=(b1.cell (eB w _ c1)).trans c1;have tt:(true&&true)=true:=rfl;clear pG sS c1 H0;go_wp2;go_ret;exact⟨rfl,b1⟩
theorem Ga(g B:Nat)(jY rv:Value)(kx:Int)(caps:Array Value)(rs:List (Value×Value))(cf:Nat->Int)(k:Nat)(w:World)(ob:Option Nat)(P:Addr->World->World->Prop)(hg:bG w g #[jY,rv] 194)(h:w.ownsRow B 196 2 rv rs.length (eD rs))(hl:rs.length<=500000)
 (hf:∀ (tb i:Nat) (p:Value×Value),rs[i]? =some p->∀ W,Below w.heap.size w W->bG W tb #[.pointer (some ⟨g,0,none⟩)] 154->Calls Tryz.prog 191 #[.agg #[p.1,p.2],(Value.int .i64 kx),.pointer (some ⟨tb,0,none⟩)] W fun e w'=>e=.returned (.int .i64 (cf i))∧Below W.heap.size W w')
 (hm:∀ a b,a<=b->b<rs.length->cf b<0->cf a<0) (hk:EH rs.length cf k) (h0:¬(k<rs.length∧cf k=0))
 (h1:∀ p∈rs,p.1.oneCell'=true∧p.2.oneCell'=true) (hB:B<=w.heap.size)
 (ZA:∀ W,Below w.heap.size w W->Calls Tryz.prog 166 caps W fun e w'=>∃ ux:Addr,e=.returned (Value.pointer (some ux))∧W.grownBy w' ob∧P ux W w') (hob:ob≠some g) (hrv:∀ x,rv.ownBlock=some x->ob≠some x):
 Calls Tryz.prog 165 #[.pointer (some ⟨g,0,none⟩),(Value.int .i64 kx),.func (.func 166) #[] caps] w fun e w'=>∃ (ux:Addr) (W w1:World) (rv':Value),e=.returned (Value.pointer (some ux))∧Below w.heap.size w W∧W.grownBy w1 ob∧P ux W w1∧bG w' g #[jY,rv'] 194∧w'.ownsRow B 196 2 rv' (rs.length+1) (eD (rs.take k++[((Value.int .i64 kx),(Value.pointer (some ux)))]++rs.drop k))∧Kp2 g rv.ownBlock w1 w'∧(rv'.ownBlock=rv.ownBlock∨∀ x,rv'.ownBlock=some x->w1.heap.size<=x):=by
 have pG:=BJ g jY rv (Value.int .i64 kx) rs cf w hg (bS.aS h) (by omega) hf hm;obtain⟨a,cap,rfl⟩:=aT h;have HK:=Nm.aF hk
 have H0:Hid ((decide (k<rs.length)&&decide (cf k=0))=false):=by
  show _=_
  rw [Bool.and_eq_false_iff]
  by_cases hx:k<rs.length
  ·exact .inr (jU (fun h=>h0 ⟨hx,h⟩))
  exact .inl (jU hx)
 clear hf hm hk h0;go_enter Tryz.func165,Tryz.ntmps165;go_wp2_with fail
 refine pG.mono ?_;rintro e w1 ⟨k',sS,rfl,b1⟩;obtain rfl:=EH.unique HK.out sS;rw [H0.out];have kg:=aB hg b1;have h2:=own_below h b1;have Lc:=ZA w1.drew b1.drew;have hkn:k<=rs.length:=HK.out.1;have hgw:=bU hg;clear pG sS ZA H0 HK;go_wp2;refine kR (fun W=>W.cell? ⟨g,1,none⟩=some (.slice a rs.length cap)) 14 (aA kg 1) fun aO=>?_;refine kB 0 rfl ?_;refine kB 1 rfl ?_;refine kB 2 rfl ?_;refine kB 3 rfl ?_;refine kB 4 rfl ?_;refine kB 5 rfl ?_;refine kB 6 rfl ?_;refine kB 7 rfl ?_;refine k1 8 rfl fun K hK=>?_
 go_simp;refine Lc.mono ?_;rintro e w2 ⟨ux,rfl,nH,hP⟩;go_wp2_with fail
 have ZC:bG w2 g #[jY,.slice a rs.length cap] 194:=aP (dS kg) nH (fun e=>hob e)
 have hrr:w2.ownsRow B 196 2 (.slice a rs.length cap) rs.length (eD rs):=h2.drew.kept nH (by
  cases hv:(Value.slice a rs.length cap).ownBlock with
  |none=>exact .inl rfl
  |some x=>right;intro e;exact hrv x hv e.symm)
 refine hK.out _ _ (aA ZC 1) fun _=>?_;clear hK K Lc;refine kB 9 rfl ?_;have iE:Below w2.heap.size w2 (w2.alloc (.cells #[(Value.int .i64 kx),(Value.pointer (some ux))] 196)):=(aK _ _).alloc (aN _) _;have kg3:=aB ZC iE;refine k1 10 rfl fun K hK=>?_
 go_simp;refine hK.out _ _ (aA kg3 1) fun _=>?_;clear hK K;have hwB:B<=w2.heap.size:=by have:=b1.size;have:=nH.size;simp at this;omega
 have Le:=Mm (.slice a rs.length cap) rs.length k (eD rs) (Value.int .i64 kx) (Value.pointer (some ux)) w2.heap.size 1 B _ (own_below hrr iE) hkn (aH w2 #[(Value.int .i64 kx),(Value.pointer (some ux))] 196) (fun e=>by have:=(hrr.lt _ e).2;omega) (OV h1) rfl rfl (by omega) (by simp;omega);refine k1 11 rfl fun K hK=>?_
 go_simp;refine Le.mono ?_;rintro e w3 ⟨rv',rfl,Aa,iA,Lf⟩;go_wp2_with fail
 rw [OU] at Aa
 obtain⟨g',cap',rfl⟩:∃ g' cap',rv'=.slice (some ⟨g',0,none⟩) (rs.length+1) cap':=by
  rcases Aa.2 with⟨_,h0⟩|⟨g',cap',cur,e,_⟩
  ·omega
  exact⟨g',cap',e⟩
 have Ab:(Value.slice a rs.length cap).ownBlock≠some g:=by
  intro e
  rcases hrr.2 with⟨h0,_⟩|⟨q,c,cur,e1,_,hh,_⟩
  ·simp only [iG] at h0;rw [h0.1] at e;cases e
  simp only [iG] at e1;rw [e1.1] at e;simp only [Value.ownBlock,mP] at e;subst e;rw [bG,hh] at ZC;simp only [mP,Obj.cells.injEq] at ZC;exact absurd ZC.2.1 (by decide)
 have LV:=aP kg3 iA Ab;have rg4:=fun i=>aA LV i
 have fg4:=fun i=>aG LV i
 refine hK.out _ _ (aA LV 1) fun _=>?_;clear hK K Le;refine k1 12 rfl fun K hK=>?_
 go_simp;refine hK.out _ _ (aA LV 1) fun _=>?_;clear hK K;refine kB 13 rfl ?_;refine jN (by kernel_rfl) rfl (by kernel_rfl) fun K hK=>?_;go_simp;refine hK.out _ _ ?_;clear hK K
 have hgn:g'≠g:=by
  intro e;subst e
  rcases Aa.2 with⟨h0,_⟩|⟨q,c,cur,e1,_,hh,_⟩
  ·cases h0
  simp only [iG,mP,Addr.mk.injEq] at e1;obtain⟨⟨rfl,_⟩,_⟩:=e1;rw [bG,hh] at LV;simp only [mP,Obj.cells.injEq] at LV;exact absurd LV.2.1 (by decide)
 have Cr:=eU (y:=.slice (some ⟨g',0,none⟩) (rs.length+1) cap') (i:=1) (g:=g) Aa (by simp [Value.ownBlock];exact hgn);have kg5:=aI LV 1 (.slice (some ⟨g',0,none⟩) (rs.length+1) cap');have hlen:(rs.take k++[((Value.int .i64 kx),(Value.pointer (some ux)))]++rs.drop k).length=rs.length+1:=by simp;omega
 have nI:(rs.take k++[((Value.int .i64 kx),(Value.pointer (some ux)))]++rs.drop k)[k]? =some ((Value.int .i64 kx),(Value.pointer (some ux))):=by
  have hlk:(rs.take k).length=k:=by rw [List.length_take];omega
  rw [List.append_assoc,List.getElem?_append_right (by omega),hlk];simp
 have c1:(w3.setCell ⟨g,1,none⟩ (.slice (some ⟨g',0,none⟩) (rs.length+1) cap')).cell? ⟨g',k*2+1,none⟩=some (Value.pointer (some ux)):=(Cr.cellAt (k*2+1) (by omega)).trans ((eY _ k 1 _ nI (by decide)).trans rfl);have c2:(w3.setCell ⟨g,1,none⟩ (.slice (some ⟨g',0,none⟩) (rs.length+1) cap')).cell? ⟨g,1,none⟩=some (.slice (some ⟨g',0,none⟩) (rs.length+1) cap'):=(aA kg5 1).trans (by simp);have n1:(0:Int)<=(k:Int):=by omega
 have n2:(k:Int)<(rs.length:Int)+1:=by omega
 have hKP:Kp2 g (Value.slice a rs.length cap).ownBlock w2 (w3.setCell ⟨g,1,none⟩ (.slice (some ⟨g',0,none⟩) (rs.length+1) cap')):=by
  refine⟨iA.os,iA.tape,iA.output,?_,fun q hq dQ Lg=>?_⟩
  ·have:=iA.size;simp at this ⊢;omega
  rw [heap_setCell_other w3 ⟨g,1,none⟩ q _ (by simpa using dQ),iA.block q (by simp;omega) (fun e=>Lg e.symm)];exact iE.block q hq
 have HX:=Nm.aF (aV b1 (aV nH (aV hP (aV kg5 (aV Cr (aV hKP Lf))))));clear b1 nH hP kg5 Cr hKP Lf Aa iA LV kg3 ZC kg hrr h2 h hg iE rg4 fg4 nI;go_wp2;go_ret
 exact⟨ux,w1.drew,w2,_,rfl,HX.out.1.drew,HX.out.2.1,HX.out.2.2.1,HX.out.2.2.2.1,HX.out.2.2.2.2.1,HX.out.2.2.2.2.2.1,by
  rcases HX.out.2.2.2.2.2.2 with h|h
  ·exact .inl h
  exact .inr (fun x e=>by have:=h x e;simp at this;omega)⟩
theorem Tryz.aFv:(Tryz.prog.info? 189).map (fun i=>(i.zero,i.size,i.bytes))=some (some (.agg #[.slice none 0 0,.pointer none]),2,32):=by kernel_rfl
theorem Cw{w:World}{b:Nat}{cs:Array Value}{T:TypeId}(h:bG w b cs T):w.shape? b=some (T,cs.size):=by
 unfold bG at h;simp [World.shape?,h]
def aSz(B:Nat)(v:Value)(n i:Nat)(xs:List Value)(x0 x1:Value)(w:World)(e:Ending)(w':World):Prop:=
 ∃ u,e=.returned u∧w'.ownsRow B 189 2 u (n+1) (xs.take (i*2)++[x0,x1]++xs.drop (i*2))∧w.grownBy w' v.ownBlock∧(u.ownBlock=v.ownBlock∨∀ g,u.ownBlock=some g->w.heap.size<=g)
theorem Mq(v:Value)(n i:Nat)(xs:List Value)(x0 x1:Value)(vb vc B:Nat)(w:World)(h:w.ownsRow B 189 2 v n xs)(hi:i<=n)(hv:bG w vb #[x0,x1] 189)(hvb:v.ownBlock≠some vb)
 (h1:∀ u∈xs,u.oneCell'=true) (h0:x0.oneCell'=true) (Sg:x1.oneCell'=true) (hn:n<=1000000) (hB:B<=w.heap.size):
 Calls Tryz.prog 183 #[v,.int .i64 (i:Int),.slice (some ⟨vb,0,none⟩) 1 vc] w (aSz B v n i xs x0 x1 w):=by
 obtain⟨i0,Je,iJ,fP,fZ⟩:=info_parts Tryz.aFv;have DZ:xs.length=n*2:=h.1
 have TR:∀ (j:Nat) (u:Value),[x0,x1][j]? =some u->w.cell? ((⟨vb,0,none⟩:Addr).add j)=some u:=by
  intro j u hj;rw [Nm.addr_add,Nat.zero_add,aA hv j];simpa using hj
 have jW:∀ u∈[x0,x1],u.oneCell'=true:=by
  intro u hu;simp at hu
  rcases hu with rfl|rfl
  ·exact h0
  exact Sg
 by_cases mK:i=n
 ·subst mK
  have hHX:Hid (xs.take (i*2)++[x0,x1]++xs.drop (i*2)=xs++[x0,x1]):=by
   show _=_
   rw [List.take_of_length_le (by omega),List.drop_of_length_le (by omega),List.append_nil]
  rcases h.2 with⟨rfl,Ty⟩|⟨g,cap,cur,rfl,ZU,hg,YX,zM,oZ,QQ⟩
  ·have aE1:i=0:=Ty;subst aE1;have Ku:((0:Nat):Int)=0:=rfl;rw [Ku];go_enter Tryz.func183,Tryz.ntmps183;go_wp2_with (at_builtin;refine wpList_append_own_at _ rfl (.tmp 23) (.tmp 24) 185 rfl B 189 i0 _ 2 32 Tryz.underlying185 Je iJ fP fZ rfl (by decide) _ _ _ rfl h ⟨vb,0,none⟩ 1 vc [x0,x1] rfl rfl TR jW (by unfold maxLen;omega) (by omega) hB ?_;intro va wa rF iF oP oQ)
   go_ret;exact⟨va,rfl,by rw [hHX.out];exact rF,iF,by rcases oQ with h|h;exact .inl h;right;intro g e;rw [h] at e;simp at e;omega⟩
  unfold maxLen at zM
  by_cases hci:cap=i
  all_goals
   go_enter Tryz.func183,Tryz.ntmps183;go_wp2_with (at_builtin;refine wpList_append_own_at _ rfl (.tmp 23) (.tmp 24) 185 rfl B 189 i0 _ 2 32 Tryz.underlying185 Je iJ fP fZ rfl (by decide) _ _ _ rfl h ⟨vb,0,none⟩ 1 vc [x0,x1] rfl rfl TR jW (by unfold maxLen;omega) (by omega) hB ?_;intro va wa rF iF oP oQ)
   go_ret;exact⟨va,rfl,by rw [hHX.out];exact rF,iF,by rcases oQ with h|h;exact .inl h;right;intro g e;rw [h] at e;simp at e;omega⟩
 have bV:i<n:=by omega
 rcases h.2 with⟨rfl,Ty⟩|⟨g,cap,cur,rfl,ZU,hg,YX,zM,oZ,QQ⟩
 ·omega
 have QR:bG w g cur 189:=hg;have hgv:vb≠g:=fun e=>hvb (by rw [e];rfl)
 have wM:(Tryz.prog.info? 189).map (·.size)=some 2:=by rw [Je];simp [fP]
 have xY:∀ (W:World),bG W g cur 189->∀ (j:Nat) (u:Value),(xs.drop (i*2))[j]? =some u->W.cell? ((⟨g,i*2,none⟩:Addr).add j)=some u:=by
  intro W hW j u hj;rw [Nm.addr_add,aA hW];rw [List.getElem?_drop] at hj;have LU:=(dK hj).1;rw [<- QQ,List.getElem?_take_of_lt (by omega)] at hj;simpa using hj
 have pF:(xs.drop (i*2)).length=(n-i)*2:=by rw [List.length_drop,DZ];omega
 have h1d:∀ u∈xs.drop (i*2),u.oneCell'=true:=fun u hu=>h1 u (List.mem_of_mem_drop hu)
 unfold maxLen at zM;have z1:¬((i:Int)=(n:Int)):=by omega
 have z2:(0:Int)<=(i:Int):=by omega
 have z3:(i:Int)<=(n:Int):=by omega
 have z4:¬cap=i:=by omega
 have z6:((i:Int)+1).toNat=i+1:=by omega
 by_cases xZ:n+1<=cap
 ·have hov:∀ lb cb,(callFunc 197 #[.slice (some ⟨vb,0,none⟩) 1 vc,.slice (some ⟨g,(i+1)*2,none⟩) lb cb]).run Tryz.prog w=.ok (.value (.bool false)) w:=fun lb cb=>by
   rw [run_callFunc_extern Tryz.func197 (by kernel_rfl) (by kernel_rfl) (by kernel_rfl) (e:=Extern.SlicesOverlaps.overlaps #[185,185] #[4]) (by kernel_rfl),
    Lib.run_overlaps_apart w 185 4 189 Tryz.underlying185 2 (fun w=>by rw [sizeOf];simp [typeInfo,Je,fP]) ⟨vb,0,none⟩ ⟨g,(i+1)*2,none⟩ 1 vc lb cb hgv 189 189 2 cur.size (Cw hv) (Cw QR) (by omega) (frozen_of_row w vb 0 _ _ hv) (frozen_of_row w vb 2 _ _ hv)]
   rfl
  have z5:¬cap=i+1:=by omega
  obtain⟨c1,iK⟩:∃ c1,c1=cur.toList.take ((i+1)*2)++xs.drop (i*2)++cur.toList.drop ((i+1)*2+(xs.drop (i*2)).length):=⟨_,rfl⟩;obtain⟨CX,pJ⟩:=VC x0 x1 (by rw [Array.length_toList,oZ]) QQ bV xZ c1 iK;obtain⟨c2,mD⟩:∃ c2,c2=c1.take (i*2)++[x0,x1]++c1.drop (i*2+[x0,x1].length):=⟨_,rfl⟩;obtain⟨EI,EL⟩:=pJ c2 mD
  have aE2:∀ ty dc sc,(Builtin.copy_ #[185,185] ty #[.slice (some ⟨g,(i+1)*2,none⟩) (n-i) dc,.slice (some ⟨g,i*2,none⟩) (n+1-i) sc]).run Tryz.prog w.drew=.ok (goInt (Nat.min (n+1-i) (n-i))) (w.drew.setRow g c1.toArray):=fun ty dc sc=>by
   rw [iK];exact fU w.drew _ _ ty 189 g ((i+1)*2) _ dc ⟨g,i*2,none⟩ _ sc cur 189 (xs.drop (i*2)) 2 Tryz.underlying185 wM QR (by rw [pF];simp only [Nat.min_def];split<;>omega) (xY _ QR) (by rw [pF,oZ];omega) h1d
  have KV:bG (w.drew.setRow g c1.toArray) g c1.toArray 189:=iY (dS QR) _
  have aE3:∀ ty dc,(Builtin.copy_ #[185,185] ty #[.slice (some ⟨g,i*2,none⟩) (n+1-i) dc,.slice (some ⟨vb,0,none⟩) 1 vc]).run Tryz.prog (w.drew.setRow g c1.toArray)=.ok (goInt (Nat.min 1 (n+1-i))) ((w.drew.setRow g c1.toArray).setRow g c2.toArray):=fun ty dc=>by
   rw [mD]
   exact fU (w.drew.setRow g c1.toArray) _ _ ty 189 g (i*2) _ dc ⟨vb,0,none⟩ 1 vc c1.toArray 189 [x0,x1] 2 Tryz.underlying185 wM KV (by simp only [Nat.min_def,List.length_cons,List.length_nil];split<;>omega) (fun j u hj=>by
    rw [World.cell?_of_block (w:=w.drew) (by rw [Nm.addr_add];exact setRow_other w.drew g vb _ hgv)]
    exact TR j u hj) (by simp only [List.size_toArray,CX,List.length_cons,List.length_nil];omega) jW
  have X:=Nm.aF (aV (tC (n:=n+1) (cap:=cap) (s:=2) (iY KV c2.toArray) ZU (by omega) zM (by simp [EI]) (show c2.toArray.toList.take ((n+1)*2)=xs.take (i*2)++[x0,x1]++xs.drop (i*2) from EL)) (zG (g:=g) ((⟨rfl,rfl,rfl,aN _,fun _ _ _=>rfl⟩:w.grownBy w.drew (some g))) (zG (oM w.drew g c1.toArray) (oM _ g c2.toArray))));clear iK mD pJ EL CX EI xY QQ;go_enter Tryz.func183,Tryz.ntmps183;go_wp2;go_region
  all_goals
   go_wp2;go_ret;exact⟨.slice (some ⟨g,0,none⟩) (n+1) cap,rfl,X.out.1,X.out.2,.inl rfl⟩
 have hcn:cap=n:=by omega
 obtain⟨GC,hGC⟩:∃ GC,GC=grownCap w (i+(n+1-i)) cap 189:=⟨_,rfl⟩;have hge:n+1<=GC:=by rw [hGC];have:=grownCap_ge w (i+(n+1-i)) cap 189;omega
 have hgm:GC<=maxLen:=by rw [hGC];exact grownCap_le_maxLen w _ cap 189 (by unfold maxLen;omega)
 obtain⟨Z,hZ⟩:∃ Z:List Value,Z=(Builtin.zeroCells (Value.agg #[.slice none 0 0,.pointer none]).cells (n+1-i)++Builtin.zeroCells (Value.agg #[.slice none 0 0,.pointer none]).cells (GC-(n+1))).toList:=⟨_,rfl⟩
 have JB:(xs.take (i*2)++Z).length=GC*2:=by
  have KS:(Value.agg #[.slice none 0 0,.pointer none]).cells.size=2:=rfl;have e1:(Builtin.zeroCells (Value.agg #[.slice none 0 0,.pointer none]).cells (n+1-i)).toList.length=(n+1-i)*2:=by rw [Array.length_toList,size_zeroCells,KS]
  have e2:(Builtin.zeroCells (Value.agg #[.slice none 0 0,.pointer none]).cells (GC-(n+1))).toList.length=(GC-(n+1))*2:=by rw [Array.length_toList,size_zeroCells,KS]
  rw [hZ,nG,List.length_take,Array.toList_append,nG,e1,e2,DZ];omega
 have pW:∀ ty,(Builtin.append_ #[185,3] ty #[.slice (some ⟨g,0,none⟩) i cap,.int .i64 (((n:Int)+1-(i:Int)))]).run Tryz.prog w=.ok (.slice (some ⟨w.heap.size,0,none⟩) (n+1) GC) (w.drew.alloc (.cells (xs.take (i*2)++Z).toArray 189)):=by
  intro ty
  have hfc:(Builtin.firstCells i0.size i (.slice (some ⟨g,0,none⟩) i cap)).run Tryz.prog w.drew=.ok (xs.take (i*2)).toArray w.drew:=by
   have hl:=run_loadCells_list (P:=Tryz.prog) w.drew ⟨g,0,none⟩ (xs.take (i*2)) (fun j u hj=>by
    rw [Nm.addr_add,aA (dS QR),Nat.zero_add];rw [List.getElem?_take] at hj
    split at hj
    ·rename_i hji;rw [<- QQ,List.getElem?_take_of_lt (by omega)] at hj;simpa using hj
    cases hj)
   rw [List.length_take,DZ,Nat.min_eq_left (by omega)] at hl;simp [Builtin.firstCells,fP,hl]
  have hr:=Lib.run_append_grow_zeros (P:=Tryz.prog) w 185 3 ty 189 i0 _ .i64 .i64 Tryz.underlying185 Tryz.underlying3 Je iJ (some ⟨g,0,none⟩) i cap (xs.take (i*2)) hfc (n+1-i) (by omega) (by omega) (by omega) (by omega) (by rw [fZ];omega) (by rw [fZ];exact growslice_fits (by omega) (by omega));rw [show((n+1-i:Nat):Int)=(n:Int)+1-(i:Int) by omega] at hr;rw [hr,<- hGC,hZ];congr 1
  ·rw [show i+(n+1-i)=n+1 by omega]
  rw [show i+(n+1-i)=n+1 by omega];congr 2;rw [Array.append_assoc];apply Array.toList_inj.1;simp
 have hkW:bG (w.drew.alloc (.cells (xs.take (i*2)++Z).toArray 189)) w.heap.size (xs.take (i*2)++Z).toArray 189:=aH w.drew _ _;have QS:Below w.heap.size w (w.drew.alloc (.cells (xs.take (i*2)++Z).toArray 189)):=(aK _ _).drew.alloc (aN _) _;obtain⟨c1,iK⟩:∃ c1,c1=(xs.take (i*2)++Z).take (i*2)++[x0,x1]++(xs.take (i*2)++Z).drop (i*2+[x0,x1].length):=⟨_,rfl⟩;obtain⟨CX,pJ⟩:=VD x0 x1 DZ bV hge JB c1 iK;obtain⟨c2,mD⟩:∃ c2,c2=c1.take ((i+1)*2)++xs.drop (i*2)++c1.drop ((i+1)*2+(xs.drop (i*2)).length):=⟨_,rfl⟩;obtain⟨EI,EL⟩:=pJ c2 mD;generalize lF:w.drew.alloc (.cells (xs.take (i*2)++Z).toArray 189)=W0 at*;have Kv:bG W0 g cur 189:=aB QR QS;have Kw:bG W0 vb #[x0,x1] 189:=aB hv QS;have BG:=bU QR;have aOs:=bU hv
 have aE2:∀ ty dc,(Builtin.copy_ #[185,185] ty #[.slice (some ⟨w.heap.size,i*2,none⟩) (n+1-i) dc,.slice (some ⟨vb,0,none⟩) 1 vc]).run Tryz.prog W0=.ok (goInt (Nat.min 1 (n+1-i))) (W0.setRow w.heap.size c1.toArray):=fun ty dc=>by
  rw [iK]
  exact fU W0 _ _ ty 189 w.heap.size (i*2) _ dc ⟨vb,0,none⟩ 1 vc _ 189 [x0,x1] 2 Tryz.underlying185 wM hkW (by simp only [Nat.min_def,List.length_cons,List.length_nil];split<;>omega) (fun j u hj=>by
   rw [Nm.addr_add,aA Kw,Nat.zero_add]
   simpa using hj) (by simp only [List.size_toArray,JB,List.length_cons,List.length_nil];omega) jW
 have KV:bG (W0.setRow w.heap.size c1.toArray) w.heap.size c1.toArray 189:=iY hkW _
 have rP:bG (W0.setRow w.heap.size c1.toArray).drew g cur 189:=by
  unfold bG
  show(W0.setRow w.heap.size c1.toArray).heap[g]? =_
  rw [setRow_other W0 _ g _ (by omega)];exact Kv
 have aE3:∀ ty dc sc,(Builtin.copy_ #[185,185] ty #[.slice (some ⟨w.heap.size,(i+1)*2,none⟩) (n-i) dc,.slice (some ⟨g,i*2,none⟩) (n-i) sc]).run Tryz.prog (W0.setRow w.heap.size c1.toArray).drew=.ok (goInt (Nat.min (n-i) (n-i))) ((W0.setRow w.heap.size c1.toArray).drew.setRow w.heap.size c2.toArray):=fun ty dc sc=>by
  rw [mD];exact fU (W0.setRow w.heap.size c1.toArray).drew _ _ ty 189 w.heap.size ((i+1)*2) _ dc ⟨g,i*2,none⟩ _ sc c1.toArray 189 (xs.drop (i*2)) 2 Tryz.underlying185 wM (dS KV) (by rw [pF];simp only [Nat.min_def];split<;>omega) (xY _ rP) (by rw [pF];simp only [List.size_toArray,CX];omega) h1d
 have X:=Nm.aF (aV (tC (B:=B) (n:=n+1) (cap:=GC) (s:=2) (iY (dS KV) c2.toArray) hB hge hgm (by simp [EI]) (show c2.toArray.toList.take ((n+1)*2)=xs.take (i*2)++[x0,x1]++xs.drop (i*2) from EL)) (show w.grownBy ((W0.setRow w.heap.size c1.toArray).drew.setRow w.heap.size c2.toArray) (some g) from by
  refine⟨QS.os,QS.tape,QS.output,?_,fun k hk dQ=>?_⟩
  ·rw [setRow_size];show w.heap.size<=(W0.setRow w.heap.size c1.toArray).heap.size
   rw [setRow_size];exact QS.size
  rw [setRow_other _ _ k _ (by omega)]
  show(W0.setRow w.heap.size c1.toArray).heap[k]? =_
  rw [setRow_other _ _ k _ (by omega)]
  exact QS.block k hk))
 have y1:¬GC=i:=by omega
 have y2:¬GC=i+1:=by omega
 have y3:¬n+1<=cap:=by omega
 have y4:(cap:Int)<(n:Int)+1:=by omega
 have y5:IntKind.i64.wrap ((i:Int)+1)=(i:Int)+1:=by rw [IntKind.wrap_i64];omega
 have y6:(0:Int)<=(i:Int)+1:=by omega
 have y7:(i:Int)+1<=(n:Int)+1:=by omega
 unfold maxLen at hgm;clear iK mD pJ EL CX EI xY QQ hGC hZ JB lF rP KV hkW QS Kv Kw xZ hcn;go_enter Tryz.func183,Tryz.ntmps183;go_wp2_with (at_builtin;refine uT rfl (.tmp 34) (.tmp 39) 185 3 rfl _ _ _ _ rfl rfl (pW _) ?_;clear pW)
 go_region
 all_goals
  go_wp2;go_ret;exact⟨.slice (some ⟨w.heap.size,0,none⟩) (n+1) GC,rfl,X.out.1,X.out.2,.inr (fun g' e=>by simp [Value.ownBlock] at e;omega)⟩
theorem Mr(g B:Nat)(jY rv key fv:Value)(rs:List (Value×Value))(cf:Nat->Int)(k:Nat)(p:Value×Value)(w:World)(hg:bG w g #[jY,rv] 187)(h:w.ownsRow B 189 2 rv rs.length (eD rs))(hl:rs.length<=1000000)
 (hf:∀ (tb i:Nat) (p:Value×Value),rs[i]? =some p->∀ W,Below w.heap.size w W->bG W tb #[.pointer (some ⟨g,0,none⟩)] 117->Calls Tryz.prog 196 #[.agg #[p.1,p.2],key,.pointer (some ⟨tb,0,none⟩)] W fun e w'=>e=.returned (.int .i64 (cf i))∧Below W.heap.size W w')
 (hm:∀ a b,a<=b->b<rs.length->cf b<0->cf a<0) (hk:EH rs.length cf k) (hp:rs[k]? =some p) (h0:cf k=0):
 Calls Tryz.prog 161 #[.pointer (some ⟨g,0,none⟩),key,fv] w fun e w'=>e=.returned p.2∧Below w.heap.size w w':=by
 have pG:=BK g jY rv key rs cf w hg (bS.aS h) hl hf hm;have nS:=(dK hp).1;have JC:=eY rs k 1 p hp (by decide);obtain⟨_,a,cap,rfl,gY,kK,hc⟩:=bS.aS h;obtain⟨b,off,rfl,aL⟩:=hc (by omega);have c1:=aL _ _ JC;have HK:=Nm.aF hk;have H0:=Nm.aF (aV nS h0);unfold maxLen at kK;have n1:(0:Int)<=(k:Int):=by omega
 have n2:(k:Int)<(rs.length:Int):=by omega
 clear hf hm hk hp h0 h aL hc JC;go_enter Tryz.func161,Tryz.ntmps161;go_wp2_with fail
 refine pG.mono ?_;rintro e w1 ⟨k',sS,rfl,b1⟩;obtain rfl:=EH.unique HK.out sS;rw [nD H0.out.1,nD H0.out.2];have kg:=aB hg b1;have rg:=fun i=>aA kg i
 have d1:w1.cell? ⟨b,off+k*2+1,none⟩=some p.2:=(b1.cell (eB w _ c1)).trans c1;have tt:(true&&true)=true:=rfl;clear pG sS c1 H0;go_wp2;go_ret;exact⟨rfl,b1⟩
theorem Gb(g B:Nat)(jY rv:Value)(ka:Option Addr)(kn kc:Nat)(caps:Array Value)(rs:List (Value×Value))(cf:Nat->Int)(k:Nat)(w:World)(ob:Option Nat)(P:Addr->World->World->Prop)(hg:bG w g #[jY,rv] 187)(h:w.ownsRow B 189 2 rv rs.length (eD rs))(hl:rs.length<=500000)
 (hf:∀ (tb i:Nat) (p:Value×Value),rs[i]? =some p->∀ W,Below w.heap.size w W->bG W tb #[.pointer (some ⟨g,0,none⟩)] 117->Calls Tryz.prog 196 #[.agg #[p.1,p.2],(Value.slice ka kn kc),.pointer (some ⟨tb,0,none⟩)] W fun e w'=>e=.returned (.int .i64 (cf i))∧Below W.heap.size W w')
 (hm:∀ a b,a<=b->b<rs.length->cf b<0->cf a<0) (hk:EH rs.length cf k) (h0:¬(k<rs.length∧cf k=0))
 (h1:∀ p∈rs,p.1.oneCell'=true∧p.2.oneCell'=true) (hB:B<=w.heap.size)
 (ZA:∀ W,Below w.heap.size w W->Calls Tryz.prog 162 caps W fun e w'=>∃ ux:Addr,e=.returned (Value.pointer (some ux))∧W.grownBy w' ob∧P ux W w') (hob:ob≠some g) (hrv:∀ x,rv.ownBlock=some x->ob≠some x):
 Calls Tryz.prog 161 #[.pointer (some ⟨g,0,none⟩),(Value.slice ka kn kc),.func (.func 162) #[] caps] w fun e w'=>∃ (ux:Addr) (W w1:World) (rv':Value),e=.returned (Value.pointer (some ux))∧Below w.heap.size w W∧W.grownBy w1 ob∧P ux W w1∧bG w' g #[jY,rv'] 187∧w'.ownsRow B 189 2 rv' (rs.length+1) (eD (rs.take k++[((Value.slice ka kn kc),(Value.pointer (some ux)))]++rs.drop k))∧Kp2 g rv.ownBlock w1 w'∧(rv'.ownBlock=rv.ownBlock∨∀ x,rv'.ownBlock=some x->w1.heap.size<=x):=by
 have pG:=BK g jY rv (Value.slice ka kn kc) rs cf w hg (bS.aS h) (by omega) hf hm;obtain⟨a,cap,rfl⟩:=aT h;have HK:=Nm.aF hk
 have H0:Hid ((decide (k<rs.length)&&decide (cf k=0))=false):=by
  show _=_
  rw [Bool.and_eq_false_iff]
  by_cases hx:k<rs.length
  ·exact .inr (jU (fun h=>h0 ⟨hx,h⟩))
  exact .inl (jU hx)
 clear hf hm hk h0;go_enter Tryz.func161,Tryz.ntmps161;go_wp2_with fail
 refine pG.mono ?_;rintro e w1 ⟨k',sS,rfl,b1⟩;obtain rfl:=EH.unique HK.out sS;rw [H0.out];have kg:=aB hg b1;have h2:=own_below h b1;have Lc:=ZA w1.drew b1.drew;have hkn:k<=rs.length:=HK.out.1;have hgw:=bU hg;clear pG sS ZA H0 HK;go_wp2;refine kR (fun W=>W.cell? ⟨g,1,none⟩=some (.slice a rs.length cap)) 14 (aA kg 1) fun aO=>?_;refine kB 0 rfl ?_;refine kB 1 rfl ?_;refine kB 2 rfl ?_;refine kB 3 rfl ?_;refine kB 4 rfl ?_;refine kB 5 rfl ?_;refine kB 6 rfl ?_;refine kB 7 rfl ?_;refine k1 8 rfl fun K hK=>?_
 go_simp;refine Lc.mono ?_;rintro e w2 ⟨ux,rfl,nH,hP⟩;go_wp2_with fail
 have ZC:bG w2 g #[jY,.slice a rs.length cap] 187:=aP (dS kg) nH (fun e=>hob e)
 have hrr:w2.ownsRow B 189 2 (.slice a rs.length cap) rs.length (eD rs):=h2.drew.kept nH (by
  cases hv:(Value.slice a rs.length cap).ownBlock with
  |none=>exact .inl rfl
  |some x=>right;intro e;exact hrv x hv e.symm)
 refine hK.out _ _ (aA ZC 1) fun _=>?_;clear hK K Lc;refine kB 9 rfl ?_;have iE:Below w2.heap.size w2 (w2.alloc (.cells #[(Value.slice ka kn kc),(Value.pointer (some ux))] 189)):=(aK _ _).alloc (aN _) _;have kg3:=aB ZC iE;refine k1 10 rfl fun K hK=>?_
 go_simp;refine hK.out _ _ (aA kg3 1) fun _=>?_;clear hK K;have hwB:B<=w2.heap.size:=by have:=b1.size;have:=nH.size;simp at this;omega
 have Le:=Mq (.slice a rs.length cap) rs.length k (eD rs) (Value.slice ka kn kc) (Value.pointer (some ux)) w2.heap.size 1 B _ (own_below hrr iE) hkn (aH w2 #[(Value.slice ka kn kc),(Value.pointer (some ux))] 189) (fun e=>by have:=(hrr.lt _ e).2;omega) (OV h1) rfl rfl (by omega) (by simp;omega);refine k1 11 rfl fun K hK=>?_
 go_simp;refine Le.mono ?_;rintro e w3 ⟨rv',rfl,Aa,iA,Lf⟩;go_wp2_with fail
 rw [OU] at Aa
 obtain⟨g',cap',rfl⟩:∃ g' cap',rv'=.slice (some ⟨g',0,none⟩) (rs.length+1) cap':=by
  rcases Aa.2 with⟨_,h0⟩|⟨g',cap',cur,e,_⟩
  ·omega
  exact⟨g',cap',e⟩
 have Ab:(Value.slice a rs.length cap).ownBlock≠some g:=by
  intro e
  rcases hrr.2 with⟨h0,_⟩|⟨q,c,cur,e1,_,hh,_⟩
  ·simp only [iG] at h0;rw [h0.1] at e;cases e
  simp only [iG] at e1;rw [e1.1] at e;simp only [Value.ownBlock,mP] at e;subst e;rw [bG,hh] at ZC;simp only [mP,Obj.cells.injEq] at ZC;exact absurd ZC.2.1 (by decide)
 have LV:=aP kg3 iA Ab;have rg4:=fun i=>aA LV i
 have fg4:=fun i=>aG LV i
 refine hK.out _ _ (aA LV 1) fun _=>?_;clear hK K Le;refine k1 12 rfl fun K hK=>?_
 go_simp;refine hK.out _ _ (aA LV 1) fun _=>?_;clear hK K;refine kB 13 rfl ?_;refine jN (by kernel_rfl) rfl (by kernel_rfl) fun K hK=>?_;go_simp;refine hK.out _ _ ?_;clear hK K
 have hgn:g'≠g:=by
  intro e;subst e
  rcases Aa.2 with⟨h0,_⟩|⟨q,c,cur,e1,_,hh,_⟩
  ·cases h0
  simp only [iG,mP,Addr.mk.injEq] at e1;obtain⟨⟨rfl,_⟩,_⟩:=e1;rw [bG,hh] at LV;simp only [mP,Obj.cells.injEq] at LV;exact absurd LV.2.1 (by decide)
 have Cr:=eU (y:=.slice (some ⟨g',0,none⟩) (rs.length+1) cap') (i:=1) (g:=g) Aa (by simp [Value.ownBlock];exact hgn);have kg5:=aI LV 1 (.slice (some ⟨g',0,none⟩) (rs.length+1) cap');have hlen:(rs.take k++[((Value.slice ka kn kc),(Value.pointer (some ux)))]++rs.drop k).length=rs.length+1:=by simp;omega
 have nI:(rs.take k++[((Value.slice ka kn kc),(Value.pointer (some ux)))]++rs.drop k)[k]? =some ((Value.slice ka kn kc),(Value.pointer (some ux))):=by
  have hlk:(rs.take k).length=k:=by rw [List.length_take];omega
  rw [List.append_assoc,List.getElem?_append_right (by omega),hlk];simp
 have c1:(w3.setCell ⟨g,1,none⟩ (.slice (some ⟨g',0,none⟩) (rs.length+1) cap')).cell? ⟨g',k*2+1,none⟩=some (Value.pointer (some ux)):=(Cr.cellAt (k*2+1) (by omega)).trans ((eY _ k 1 _ nI (by decide)).trans rfl);have c2:(w3.setCell ⟨g,1,none⟩ (.slice (some ⟨g',0,none⟩) (rs.length+1) cap')).cell? ⟨g,1,none⟩=some (.slice (some ⟨g',0,none⟩) (rs.length+1) cap'):=(aA kg5 1).trans (by simp);have n1:(0:Int)<=(k:Int):=by omega
 have n2:(k:Int)<(rs.length:Int)+1:=by omega
 have hKP:Kp2 g (Value.slice a rs.length cap).ownBlock w2 (w3.setCell ⟨g,1,none⟩ (.slice (some ⟨g',0,none⟩) (rs.length+1) cap')):=by
  refine⟨iA.os,iA.tape,iA.output,?_,fun q hq dQ Lg=>?_⟩
  ·have:=iA.size;simp at this ⊢;omega
  rw [heap_setCell_other w3 ⟨g,1,none⟩ q _ (by simpa using dQ),iA.block q (by simp;omega) (fun e=>Lg e.symm)];exact iE.block q hq
 have HX:=Nm.aF (aV b1 (aV nH (aV hP (aV kg5 (aV Cr (aV hKP Lf))))));clear b1 nH hP kg5 Cr hKP Lf Aa iA LV kg3 ZC kg hrr h2 h hg iE rg4 fg4 nI;go_wp2;go_ret
 exact⟨ux,w1.drew,w2,_,rfl,HX.out.1.drew,HX.out.2.1,HX.out.2.2.1,HX.out.2.2.2.1,HX.out.2.2.2.2.1,HX.out.2.2.2.2.2.1,by
  rcases HX.out.2.2.2.2.2.2 with h|h
  ·exact .inl h
  exact .inr (fun x e=>by have:=h x e;simp at this;omega)⟩
