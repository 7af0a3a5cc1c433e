import Derived.DeepKeys4
import Derived.Test.YthdpacepbbcocaaGreatJAls
import Derived.RangeFuncNested
import Derived.RangeFuncBound
import Derived.Shelf.RegionOpen
import Derived.OwnWalkIn
import Derived.LoopNIn
import Derived.LoopIn
set_option linter.unusedVariables false
set_option maxRecDepth 100000
set_option maxHeartbeats 3200000
namespace Go.Proofs.YthdpacepbbcocaaGreat
open Go Go.Maps Go.MapKept Go.ChangeMaps
abbrev ZX(r:Rr):Value:=.agg #[.string r.own,.int .i64 r.ty,.int .i64 r.cl,.int .i64 r.tt,.string r.da]
def xN(r:Rr):Prop:=r.own.size<=maxLen∧r.da.size<=maxLen∧(Lit.int .i64 r.ty).wf=true∧(Lit.int .i64 r.cl).wf=true∧(Lit.int .i64 r.tt).wf=true
theorem Ex{a b:Rr}(h:ZX a=ZX b):a=b:=by
 cases a;cases b
 simp [ZX] at h
 obtain⟨rfl,rfl,rfl,rfl,rfl⟩:=h;rfl
def KU(a b:Rr):Bool:=a.own.data.toList==b.own.data.toList&&a.ty==b.ty&&a.cl==b.cl&&a.tt==b.tt&&a.da.data.toList==b.da.data.toList
theorem xX(a b:Rr):KU a b=true↔a=b:=by
 have hb:∀ x y:ByteArray,x.data.toList=y.data.toList->x=y:=by
  intro x y h;cases x;cases y
  simp at h;rw [h]
 cases a;cases b
 simp only [KU,Bool.and_eq_true,beq_iff_eq,Rr.mk.injEq];constructor
 ·rintro⟨⟨⟨⟨h1,h2⟩,h3⟩,h4⟩,h5⟩
  exact⟨hb _ _ h1,h2,h3,h4,hb _ _ h5⟩
 rintro⟨rfl,rfl,rfl,rfl,rfl⟩
 exact⟨⟨⟨⟨rfl,rfl⟩,rfl⟩,rfl⟩,rfl⟩
def zK(xs:List Rr)(x:Rr):Bool:=xs.any (fun y=>KU y x)
theorem wK(xs:List Rr)(x:Rr):zK xs x=true↔x∈xs:=by
 rw [zK,List.any_eq_true];exact⟨fun⟨y,h1,h2⟩=>(xX y x).1 h2▸h1,fun h=>⟨x,h,(xX x x).2 rfl⟩⟩
theorem aAl{xs:List Rr}{x:Rr}(h:x∉xs):zK xs x=false:=by
 cases e:zK xs x
 ·rfl
 exact absurd ((wK xs x).1 e) h
theorem Tw:laidOutB Tryz.prog=true:=by kernel_rfl
theorem Tx:Keyed Tryz.prog 29:=Keyed.of_law (deep_law_laid Tw (m:=3) (by omega) (of_decide_eq_true (by kernel_rfl)) (by kernel_rfl) (by kernel_rfl))
theorem OY{r:Rr}(h:xN r):∃ l,keyOf Tryz.prog 29 (ZX r)=some l:=by
 obtain⟨h1,h2,h3,h4,h5⟩:=h;have hk:Tryz.prog.keyType 29=true:=by kernel_rfl
 have hc:Tryz.prog.cellsOf 29=5:=by kernel_rfl
 have hs:Tryz.prog.cellsOf 9=1:=by kernel_rfl
 have hi:Tryz.prog.cellsOf 2=1:=by kernel_rfl
 have hu:=Tryz.underlying29;have us:=Tryz.underlying9;have ui:=Tryz.underlying2
 obtain⟨m,hm⟩:∃ m,Tryz.prog.types.size=m+1:=⟨Tryz.prog.types.size-1,by
  have:0<Tryz.prog.types.size:=of_decide_eq_true (by kernel_rfl)
  omega⟩
 have hf:(ZX r).formed Tryz.prog 29=true:=by simp [Value.formed,hu,hc]
 have hl:∃ ls,Tryz.prog.keyLits (Tryz.prog.types.size+1) 29 (ZX r).cells.toList=some ls:=by
  rw [hm];simp [Program.keyLits,hu,hc,us,ui,hs,hi,Value.cells,h1,h2,h3,h4,h5]
 obtain⟨ls,hls⟩:=hl;unfold keyOf;rw [hu];simp only
 rw [hk,hf,hls];exact⟨_,rfl⟩
def rmV(p:Rr×Nat):Value×Value:=(ZX p.1,.int .i64 (p.2:Int))
def zL(w:World)(r:Nat)(L:List (Rr×Nat)):Prop:=∃ es clock,w.heap[r]? =some (.map es clock)∧es.toList.map (fun e=>(e.key,e.val))=L.map rmV∧(∀ p∈L,xN p.1)∧(L.map (·.1)).Nodup
theorem aBr(w:World):zL (w.alloc (.map #[] 0)) w.heap.size []:=
 ⟨#[],0,by show(w.heap.push _)[w.heap.size]? =_;simp,rfl,by simp,by simp⟩
theorem LQ(w:World)(r:Nat)(o:Obj):w.grownBy (setBlock w r o) (some r):=
 ⟨rfl,rfl,rfl,by simp [setBlock],fun k hk dQ=>by simp only [setBlock];rw [Array.getElem?_setIfInBounds_ne (fun e=>dQ (by rw [e]))]⟩
section
variable {w:World}{r:Nat}{L:List (Rr×Nat)}{t e:TypeId}
theorem wL{es:Array MapEntry}(h:es.toList.map (fun e=>(e.key,e.val))=L.map rmV){x:MapEntry}(hx:x∈es.toList):∃ p∈L,x.key=ZX p.1∧x.val=.int .i64 (p.2:Int):=by
 have:(x.key,x.val)∈es.toList.map (fun e=>(e.key,e.val)):=List.mem_map.2 ⟨x,hx,rfl⟩;rw [h] at this;obtain⟨p,hp,he⟩:=lS this;simp only [rmV,Prod.mk.injEq] at he;exact⟨p,hp,he.1.symm,he.2.symm⟩
theorem zL.lt(h:zL w r L):r<w.heap.size:=by
 obtain⟨es,clock,hb,_⟩:=h;obtain⟨bV,_⟩:=Array.getElem?_eq_some_iff.1 hb;exact bV
theorem zL.kept{w':World}(h:zL w r L)(hb:w'.heap[r]? =w.heap[r]?):zL w' r L:=by
 obtain⟨es,clock,h1,h2⟩:=h;exact⟨es,clock,hb.trans h1,h2⟩
theorem zL.put(h:zL w r L)(ht:Tryz.prog.underlying t=some (.map 29 e)){x:Rr}(hx:xN x)(n:Nat)(hn:∀ p∈L,p.1≠x):
 ∃ w',(Instr.mapUpdate t (.map (some r)) (ZX x) (.int .i64 (n:Int))).run Tryz.prog w=.ok () w'∧zL w' r (L++[(x,n)])∧w.grownBy w' (some r):=by
 have K:=Tx;obtain⟨kl,Ey⟩:=OY hx;have bV:=h.lt;obtain⟨es,clock,hb,Si,hwf,JY⟩:=h
 rcases K.find w Ey es.toList (fun y hy=>by obtain⟨p,hp,h1,_⟩:=wL Si hy;rw [h1];exact OY (hwf p hp)) with⟨h1,h2⟩|⟨j,e0,h1,h2,h3⟩
 ·refine⟨setBlock w r (.map (es.push ⟨ZX x,.int .i64 (n:Int),clock⟩) (clock+1)),?_,⟨es.push ⟨ZX x,.int .i64 (n:Int),clock⟩,clock+1,?_,?_,?_,?_⟩,LQ _ _ _⟩
  ·simp [Instr.mapUpdate,run_underlying ht,MapKept.run_getObj_map hb,K.check w false Ey,h1,MapKept.run_setObj_map _ hb,Result.andThen,setBlock]
  ·simp [setBlock,bV]
  ·rw [Array.toList_push,List.map_append,Si,List.map_append];rfl
  ·intro p hp
   rcases jS hp with hp|hp
   ·exact hwf p hp
   simp at hp;subst hp;exact hx
  rw [List.map_append,List.nodup_append];refine⟨JY,by simp,?_⟩;intro a ha b iE;simp at iE;subst iE;obtain⟨p,hp,rfl⟩:=lS ha;exact hn p hp
 exfalso
 obtain⟨p,hp,h4,_⟩:=wL Si (bP h2);rw [h3] at h4;exact hn p hp (Ex h4).symm
theorem zL.get(h:zL w r L)(ht:Tryz.prog.underlying t=some (.map 29 e))(hz:(zeroValue e).run Tryz.prog w=.ok (.int .i64 0) w){x:Rr}(hx:xN x):
 ∃ n:Int,(Instr.lookup t (.map (some r)) (ZX x) true).run Tryz.prog w=.ok (.tuple #[.int .i64 n,.bool (zK (L.map (·.1)) x)]) w:=by
 have K:=Tx;obtain⟨kl,Ey⟩:=OY hx;obtain⟨es,clock,hb,Si,hwf,JY⟩:=h
 rcases K.find w Ey es.toList (fun y hy=>by obtain⟨p,hp,h1,_⟩:=wL Si hy;rw [h1];exact OY (hwf p hp)) with⟨h1,h2⟩|⟨j,e0,h1,h2,h3⟩
 ·have lT:x∉L.map (·.1):=by
   intro VE;obtain⟨p,hp,hpx⟩:=lS VE;have:rmV p∈L.map rmV:=List.mem_map.2 ⟨p,hp,rfl⟩;rw [<- Si] at this;obtain⟨y,hy,hye⟩:=lS this;simp only [rmV,Prod.mk.injEq] at hye;exact h2 y hy (by rw [hye.1,hpx])
  refine⟨0,?_⟩;rw [aAl lT];simp [Instr.lookup,run_underlying ht,MapKept.run_getObj_map hb,K.check w _ Ey,h1,hz,Result.andThen]
 obtain⟨p,hp,h4,h5⟩:=wL Si (bP h2);rw [h3] at h4;have aSs:x∈L.map (·.1):=List.mem_map.2 ⟨p,hp,(Ex h4).symm⟩;refine⟨(p.2:Int),?_⟩;rw [(wK _ _).2 aSs];simp [Instr.lookup,run_underlying ht,MapKept.run_getObj_map hb,K.check w _ Ey,h1,Result.andThen,h5]
end
open Go.RowKit
theorem aMj(W:World)(n:Int)(h0:0<=n)(h1:n<=1000000):(Instr.makeMap 129 (some (.int .i64 n))).run Tryz.prog W=.ok (.map (some W.heap.size)) (W.alloc (.map #[] 0)):=by
 simp [Instr.makeMap,go_sem,Result.andThen]
theorem aAm(W:World):(zeroValue 3).run Tryz.prog W=.ok (.int .i64 0) W:=by kernel_rfl
theorem VF(v:Value)(xs:List Rr)(w:World)(h:bS w v xs.length 5 (bK xs))(hf:∀ x∈xs,xN x)(JY:xs.Nodup)(hn:xs.length<=1000000):
 Calls Tryz.prog 83 #[v] w fun e w'=>∃ r L,e=.returned (.map (some r))∧w.heap.size<=r∧zL w' r L∧L.map (·.1)=xs∧Below w.heap.size w w':=by
 obtain⟨_,a,cap,rfl,gY,kK,hc⟩:=h;have HC:=Nm.aF hc;have HND:=Nm.aF JY;have HF:=Nm.aF hf;have hmk:=aMj w (xs.length:Int) (by omega) (by omega);have hm0:=aBr w;have ZY:Below w.heap.size w (w.alloc (.map #[] 0)):=(aK _ _).alloc (aN _) _;clear hc JY hf;go_enter Tryz.func83,Tryz.ntmps83;go_wp2
 go_loopw [4,5,11] (fun _ _ i wr=>∃ (j:Nat) (L:List (Rr×Nat)),j<=xs.length∧i=.int .i64 (j:Int)∧zL wr w.heap.size L∧Hid (L.map (·.1)=xs.take j)∧Below w.heap.size w wr) (fun _ _ i _=>xs.length-(intOf i).toNat)
 case atStart=>exact⟨0,[],dO _,rfl,hm0,rfl,ZY⟩
 obtain⟨j,L,hj,rfl,hm,HL,hb⟩:=hrel;clear hm0 ZY hmk
 by_cases bV:j<xs.length
 ·obtain⟨x,hx⟩:∃ x,xs[j]? =some x:=⟨_,bY bV⟩;obtain⟨b,off,rfl,aL⟩:=HC.out (by omega);have put:∀ {i:Nat} {z:Value},w.cell? ⟨b,off+i,none⟩=some z->wr.cell? ⟨b,off+i,none⟩=some z:=fun h=>(hb.cell (eB w _ h)).trans h
  obtain⟨c0,c1,c2,c3,c4⟩:=gT (fun i y hy=>put (aL i y hy)) hx;have Cm:zL (wr.alloc (.cells #[.string x.own,.int .i64 x.ty,.int .i64 x.cl,.int .i64 x.tt,.string x.da] 29)) w.heap.size L:=hm.kept (heap_alloc_old _ _ hm.lt)
  have lT:∀ p∈L,p.1≠x:=by
   intro p hp e;have h1:x∈xs.take j:=by rw [<- HL.out,<- e];exact List.mem_map.2 ⟨p,hp,rfl⟩
   obtain⟨i,hi⟩:=List.mem_iff_getElem?.1 h1;rw [List.getElem?_take] at hi
   split at hi
   ·have h2:=(List.getElem?_inj (by omega) HND.out).1 (hi.trans hx.symm);omega
   cases hi
  obtain⟨w2,JZ,hm2,oN⟩:=Cm.put Tryz.underlying129 (HF.out x (bP hx)) j lT;have iE:Below w.heap.size w w2:=(hb.alloc hb.size _).grown oN (by simp;have:=hb.size;omega) (fun k hk=>by cases hk;exact aN _)
  have HL2:Hid ((L++[(x,j)]).map (·.1)=xs.take (j+1)):=by
   show _=_
   rw [List.map_append,HL.out,List.take_add_one,hx];rfl
  have i1:(0:Int)<=(j:Int):=by omega
  have i2:(j:Int)<(xs.length:Int):=by omega
  clear lT put aL Cm hx hm HL oN;go_wp2;go_roundw
  case rel=>exact⟨j+1,L++[(x,j)],by omega,by go_num,hm2,HL2,iE⟩
  simp [intOf];omega
 have KA:j=xs.length:=by omega
 subst KA;have HE:Hid (L.map (·.1)=xs):=by show _=_;rw [HL.out,List.take_length]
 clear HL;go_wp2;go_ret;exact⟨_,L,rfl,aN _,hm,HE.out,hb⟩
def eQ(xs ys:List Rr):List Rr:=xs.filter (fun x=> !zK ys x)
theorem aAn{xs ys:List Rr}{j:Nat}{x:Rr}(h:xs[j]? =some x)(hb:zK ys x=true):eQ (xs.take (j+1)) ys=eQ (xs.take j) ys:=by
 rw [eQ,List.take_add_one,h,List.filter_append];simp [eQ,hb]
theorem aEz{xs ys:List Rr}{j:Nat}{x:Rr}(h:xs[j]? =some x)(hb:zK ys x=false):eQ (xs.take (j+1)) ys=eQ (xs.take j) ys++[x]:=by
 rw [eQ,List.take_add_one,h,List.filter_append];simp [eQ,hb]
theorem aAo(xs ys:List Rr)(j:Nat):(eQ (xs.take j) ys).length<=j:=by
 have h1:=List.length_filter_le (fun x=> !zK ys x) (xs.take j);have h2:=List.length_take_le j xs;unfold eQ;omega
theorem Tryz.KC:(Tryz.prog.info? 29).map (fun i=>(i.zero,i.size,i.bytes))=some (some (.agg #[.string ByteArray.empty,.int .i64 0,.int .i64 0,.int .i64 0,.string ByteArray.empty]),5,56):=by kernel_rfl
theorem Cn(w:World)(o da:ByteArray)(ty cl tt:Int)(b:Nat)(hb:b=w.heap.size):∀ (j:Nat) (u:Value),[Value.string o,.int .i64 ty,.int .i64 cl,.int .i64 tt,.string da][j]? =some u->(w.alloc (.cells #[.string o,.int .i64 ty,.int .i64 cl,.int .i64 tt,.string da] 29)).cell? ((⟨b,0,none⟩:Addr).add j)=some u:=by
 subst hb;intro j u hj;rw [Nm.addr_add,Nat.zero_add];exact(aA (aH w #[.string o,.int .i64 ty,.int .i64 cl,.int .i64 tt,.string da] 29) j).trans (by simpa using hj)
theorem QP(v u:Value)(xs ys:List Rr)(w:World)(h:bS w v xs.length 5 (bK xs))(h':bS w u ys.length 5 (bK ys))(hf:∀ x∈xs,xN x)(hf':∀ x∈ys,xN x)(JY:ys.Nodup)(hn:xs.length<=1000000)(hn':ys.length<=1000000):
 Calls Tryz.prog 41 #[v,u] w fun e w'=>∃ z,e=.returned z∧w'.ownsRow w.heap.size 29 5 z (eQ xs ys).length (bK (eQ xs ys))∧Below w.heap.size w w':=by
 have pG:=VF u ys w h' hf' JY hn';obtain⟨i0,hi,iJ,fP,fZ⟩:=info_parts Tryz.KC;obtain⟨_,a,cap,rfl,gY,kK,hc⟩:=h;have HC:=Nm.aF hc;have HF:=Nm.aF hf;clear hc hf hf' JY h';go_enter Tryz.func41,Tryz.ntmps41;go_wp2_with (go_at_call 83;refine pG.mono ?_;rintro e w1 ⟨r,L,rfl,hr,hm,hL,fF⟩)
 have HL:=Nm.aF hL;clear hL pG
 go_loopw [6,8,9,10,15] (fun o _ _ _ i wr=>∃ (j:Nat),j<=xs.length∧i=.int .i64 (j:Int)∧wr.ownsRow w1.heap.size 29 5 o (eQ (xs.take j) ys).length (bK (eQ (xs.take j) ys))∧Below w1.heap.size w1 wr) (fun _ _ _ _ i _=>xs.length-(intOf i).toNat)
 case atStart=>exact⟨0,dO _,rfl,World.ownsRow_nil _ _ _ _,aK _ _⟩
 obtain⟨j,hj,rfl,aU,hb⟩:=hrel;have hwl:=aAo xs ys j;have pQ:=hb.size
 by_cases bV:j<xs.length
 ·obtain⟨x,hx⟩:∃ x,xs[j]? =some x:=⟨_,bY bV⟩;obtain⟨b,off,rfl,aL⟩:=HC.out (by omega);have aI9:=Nm.aC fF hb;have put:∀ {i:Nat} {z:Value},w.cell? ⟨b,off+i,none⟩=some z->wr.cell? ⟨b,off+i,none⟩=some z:=fun h=>(aI9.cell (eB w _ h)).trans h
  obtain⟨c0,c1,c2,c3,c4⟩:=gT (fun i y hy=>put (aL i y hy)) hx;have Cm:zL (wr.alloc (.cells #[.string x.own,.int .i64 x.ty,.int .i64 x.cl,.int .i64 x.tt,.string x.da] 29)) r L:=hm.kept ((heap_alloc_old _ _ (by have:=hm.lt;omega)).trans (hb.block r hm.lt));obtain⟨n,xO⟩:=Cm.get Tryz.underlying129 (aAm _) (HF.out x (bP hx));rw [HL.out] at xO;have i1:(0:Int)<=(j:Int):=by omega
  have i2:(j:Int)<(xs.length:Int):=by omega
  have hbA:=hb.alloc pQ (.cells #[.string x.own,.int .i64 x.ty,.int .i64 x.cl,.int .i64 x.tt,.string x.da] 29);have aLy:=aU.alloc (.cells #[.string x.own,.int .i64 x.ty,.int .i64 x.cl,.int .i64 x.tt,.string x.da] 29)
  cases hh:zK ys x with
  |true=>
   rw [hh] at xO;have e:=aAn hx hh;have dW:=aLy;rw [<- e] at dW;clear e put aL Cm hx hh;go_wp2;go_roundw
   case rel=>exact⟨j+1,by omega,by go_num,dW,hbA⟩
   simp [intOf];omega
  |false=>
   rw [hh] at xO;have HE:=Nm.aF (aEz hx hh);clear put aL Cm hx hh;obtain⟨oa,oc,rfl⟩:=aT aU;generalize eQ (xs.take j) ys=WT at*;go_wp2_with (at_builtin;refine wpList_append_own _ rfl (.tmp 27) (.tmp 29) 30 rfl w1.heap.size 29 i0 _ 5 56 Tryz.underlying30 hi iJ fP fZ rfl (by decide) _ _ _ rfl (aLy.alloc _) ⟨wr.heap.size+1,0,none⟩ 1 1 [.string x.own,.int .i64 x.ty,.int .i64 x.cl,.int .i64 x.tt,.string x.da] rfl rfl (Cn _ _ _ _ _ _ _ (by simp)) (by intro u hu;simp at hu;rcases hu with rfl|rfl|rfl|rfl|rfl<;>rfl) (by unfold maxLen;omega) (by omega) (by simp;omega) ?_;intro va wa gZ gV oP;clear oP)
   have tF:Below w1.heap.size w1 wa:=(hbA.alloc hbA.size _).grown gV (by simp;omega) (fun k hk=>(aU.lt k hk).1);have o9:wa.ownsRow w1.heap.size 29 5 va (WT++[x]).length (bK (WT++[x])):=by simpa [bK,Ju] using gZ
   rw [<- HE.out] at o9;clear gZ gV;go_wp2;go_roundw
   case rel=>exact⟨j+1,by omega,by go_num,o9,tF⟩
   simp [intOf];omega
 have KA:j=xs.length:=by omega
 subst KA;rw [List.take_length] at aU;have dW:=fQ aU (B':=w.heap.size) fF.size;obtain⟨oa,oc,rfl⟩:=aT aU;go_wp2;go_ret;exact⟨_,rfl,dW,Nm.aC fF hb⟩
theorem Tryz.aE0:(Tryz.prog.info? 243).map (fun i=>(i.zero,i.size,i.bytes))=some (some (.agg #[.string ByteArray.empty,.string ByteArray.empty]),2,32):=by kernel_rfl
theorem Co{w:World}{b:Nat}{cs:Array Value}{T:TypeId}(h:bG w b cs T):w.shape? b=some (T,cs.size):=by
 unfold bG at h;simp [World.shape?,h]
def aSt(B:Nat)(v:Value)(n i:Nat)(xs:List Value)(x0 x1:Value)(w:World)(e:Ending)(w':World):Prop:=
 ∃ u,e=.returned u∧w'.ownsRow B 243 2 u (n+1) (xs.take (i*2)++[x0,x1]++xs.drop (i*2))∧w.grownBy w' v.ownBlock∧(u.ownBlock=v.ownBlock∨∀ g,u.ownBlock=some g->w.heap.size<=g)
theorem Kt(v:Value)(n i:Nat)(xs:List Value)(x0 x1:Value)(vb vc B:Nat)(w:World)(h:w.ownsRow B 243 2 v n xs)(hi:i<=n)(hv:bG w vb #[x0,x1] 243)(hvb:v.ownBlock≠some vb)
 (h1:∀ u∈xs,u.oneCell'=true) (h0:x0.oneCell'=true) (Sg:x1.oneCell'=true) (hn:n<=1000000) (hB:B<=w.heap.size):
 Calls Tryz.prog 188 #[v,.int .i64 (i:Int),.slice (some ⟨vb,0,none⟩) 1 vc] w (aSt B v n i xs x0 x1 w):=by
 obtain⟨i0,Je,iJ,fP,fZ⟩:=info_parts Tryz.aE0;have DZ:xs.length=n*2:=h.1
 have TR:∀ (j:Nat) (u:Value),[x0,x1][j]? =some u->w.cell? ((⟨vb,0,none⟩:Addr).add j)=some u:=by
  intro j u hj;rw [Nm.addr_add,Nat.zero_add,aA hv j];simpa using hj
 have jW:∀ u∈[x0,x1],u.oneCell'=true:=by
  intro u hu;simp at hu
  rcases hu with rfl|rfl
  ·exact h0
  exact Sg
 by_cases mK:i=n
 ·subst mK
  have hHX:Hid (xs.take (i*2)++[x0,x1]++xs.drop (i*2)=xs++[x0,x1]):=by
   show _=_
   rw [List.take_of_length_le (by omega),List.drop_of_length_le (by omega),List.append_nil]
  rcases h.2 with⟨rfl,Ty⟩|⟨g,cap,cur,rfl,ZU,hg,YX,zM,oZ,QQ⟩
  ·have aE1:i=0:=Ty;subst aE1;have Ku:((0:Nat):Int)=0:=rfl;rw [Ku];go_enter Tryz.func188,Tryz.ntmps188;go_wp2_with (at_builtin;refine wpList_append_own_at _ rfl (.tmp 23) (.tmp 24) 238 rfl B 243 i0 _ 2 32 Tryz.underlying238 Je iJ fP fZ rfl (by decide) _ _ _ rfl h ⟨vb,0,none⟩ 1 vc [x0,x1] rfl rfl TR jW (by unfold maxLen;omega) (by omega) hB ?_;intro va wa rF iF oP oQ)
   go_ret;exact⟨va,rfl,by rw [hHX.out];exact rF,iF,by rcases oQ with h|h;exact .inl h;right;intro g e;rw [h] at e;simp at e;omega⟩
  unfold maxLen at zM
  by_cases hci:cap=i
  all_goals
   go_enter Tryz.func188,Tryz.ntmps188;go_wp2_with (at_builtin;refine wpList_append_own_at _ rfl (.tmp 23) (.tmp 24) 238 rfl B 243 i0 _ 2 32 Tryz.underlying238 Je iJ fP fZ rfl (by decide) _ _ _ rfl h ⟨vb,0,none⟩ 1 vc [x0,x1] rfl rfl TR jW (by unfold maxLen;omega) (by omega) hB ?_;intro va wa rF iF oP oQ)
   go_ret;exact⟨va,rfl,by rw [hHX.out];exact rF,iF,by rcases oQ with h|h;exact .inl h;right;intro g e;rw [h] at e;simp at e;omega⟩
 have bV:i<n:=by omega
 rcases h.2 with⟨rfl,Ty⟩|⟨g,cap,cur,rfl,ZU,hg,YX,zM,oZ,QQ⟩
 ·omega
 have QR:bG w g cur 243:=hg;have hgv:vb≠g:=fun e=>hvb (by rw [e];rfl)
 have wM:(Tryz.prog.info? 243).map (·.size)=some 2:=by rw [Je];simp [fP]
 have xY:∀ (W:World),bG W g cur 243->∀ (j:Nat) (u:Value),(xs.drop (i*2))[j]? =some u->W.cell? ((⟨g,i*2,none⟩:Addr).add j)=some u:=by
  intro W hW j u hj;rw [Nm.addr_add,aA hW];rw [List.getElem?_drop] at hj;have LU:=(dK hj).1;rw [<- QQ,List.getElem?_take_of_lt (by omega)] at hj;simpa using hj
 have pF:(xs.drop (i*2)).length=(n-i)*2:=by rw [List.length_drop,DZ];omega
 have h1d:∀ u∈xs.drop (i*2),u.oneCell'=true:=fun u hu=>h1 u (List.mem_of_mem_drop hu)
 unfold maxLen at zM;have z1:¬((i:Int)=(n:Int)):=by omega
 have z2:(0:Int)<=(i:Int):=by omega
 have z3:(i:Int)<=(n:Int):=by omega
 have z4:¬cap=i:=by omega
 have z6:((i:Int)+1).toNat=i+1:=by omega
 by_cases xZ:n+1<=cap
 ·have hov:∀ lb cb,(callFunc 204 #[.slice (some ⟨vb,0,none⟩) 1 vc,.slice (some ⟨g,(i+1)*2,none⟩) lb cb]).run Tryz.prog w=.ok (.value (.bool false)) w:=fun lb cb=>by
   rw [run_callFunc_extern Tryz.func204 (by kernel_rfl) (by kernel_rfl) (by kernel_rfl) (e:=Extern.SlicesOverlaps.overlaps #[238,238] #[4]) (by kernel_rfl),
    Lib.run_overlaps_apart w 238 4 243 Tryz.underlying238 2 (fun w=>by rw [sizeOf];simp [typeInfo,Je,fP]) ⟨vb,0,none⟩ ⟨g,(i+1)*2,none⟩ 1 vc lb cb hgv 243 243 2 cur.size (Co hv) (Co QR) (by omega) (frozen_of_row w vb 0 _ _ hv) (frozen_of_row w vb 2 _ _ hv)]
   rfl
  have z5:¬cap=i+1:=by omega
  obtain⟨c1,iK⟩:∃ c1,c1=cur.toList.take ((i+1)*2)++xs.drop (i*2)++cur.toList.drop ((i+1)*2+(xs.drop (i*2)).length):=⟨_,rfl⟩;obtain⟨CX,pJ⟩:=VC x0 x1 (by rw [Array.length_toList,oZ]) QQ bV xZ c1 iK;obtain⟨c2,mD⟩:∃ c2,c2=c1.take (i*2)++[x0,x1]++c1.drop (i*2+[x0,x1].length):=⟨_,rfl⟩;obtain⟨EI,EL⟩:=pJ c2 mD
  have aE2:∀ ty dc sc,(Builtin.copy_ #[238,238] ty #[.slice (some ⟨g,(i+1)*2,none⟩) (n-i) dc,.slice (some ⟨g,i*2,none⟩) (n+1-i) sc]).run Tryz.prog w.drew=.ok (goInt (Nat.min (n+1-i) (n-i))) (w.drew.setRow g c1.toArray):=fun ty dc sc=>by
   rw [iK];exact fU w.drew _ _ ty 243 g ((i+1)*2) _ dc ⟨g,i*2,none⟩ _ sc cur 243 (xs.drop (i*2)) 2 Tryz.underlying238 wM QR (by rw [pF];simp only [Nat.min_def];split<;>omega) (xY _ QR) (by rw [pF,oZ];omega) h1d
  have KV:bG (w.drew.setRow g c1.toArray) g c1.toArray 243:=iY (dS QR) _
  have aE3:∀ ty dc,(Builtin.copy_ #[238,238] ty #[.slice (some ⟨g,i*2,none⟩) (n+1-i) dc,.slice (some ⟨vb,0,none⟩) 1 vc]).run Tryz.prog (w.drew.setRow g c1.toArray)=.ok (goInt (Nat.min 1 (n+1-i))) ((w.drew.setRow g c1.toArray).setRow g c2.toArray):=fun ty dc=>by
   rw [mD]
   exact fU (w.drew.setRow g c1.toArray) _ _ ty 243 g (i*2) _ dc ⟨vb,0,none⟩ 1 vc c1.toArray 243 [x0,x1] 2 Tryz.underlying238 wM KV (by simp only [Nat.min_def,List.length_cons,List.length_nil];split<;>omega) (fun j u hj=>by
    rw [World.cell?_of_block (w:=w.drew) (by rw [Nm.addr_add];exact setRow_other w.drew g vb _ hgv)]
    exact TR j u hj) (by simp only [List.size_toArray,CX,List.length_cons,List.length_nil];omega) jW
  have X:=Nm.aF (aV (tC (n:=n+1) (cap:=cap) (s:=2) (iY KV c2.toArray) ZU (by omega) zM (by simp [EI]) (show c2.toArray.toList.take ((n+1)*2)=xs.take (i*2)++[x0,x1]++xs.drop (i*2) from EL)) (zG (g:=g) ((⟨rfl,rfl,rfl,aN _,fun _ _ _=>rfl⟩:w.grownBy w.drew (some g))) (zG (oM w.drew g c1.toArray) (oM _ g c2.toArray))));clear iK mD pJ EL CX EI xY QQ;go_enter Tryz.func188,Tryz.ntmps188;go_wp2;go_region
  all_goals
   go_wp2;go_ret;exact⟨.slice (some ⟨g,0,none⟩) (n+1) cap,rfl,X.out.1,X.out.2,.inl rfl⟩
 have hcn:cap=n:=by omega
 obtain⟨GC,hGC⟩:∃ GC,GC=grownCap w (i+(n+1-i)) cap 243:=⟨_,rfl⟩;have hge:n+1<=GC:=by rw [hGC];have:=grownCap_ge w (i+(n+1-i)) cap 243;omega
 have hgm:GC<=maxLen:=by rw [hGC];exact grownCap_le_maxLen w _ cap 243 (by unfold maxLen;omega)
 obtain⟨Z,hZ⟩:∃ Z:List Value,Z=(Builtin.zeroCells (Value.agg #[.string ByteArray.empty,.string ByteArray.empty]).cells (n+1-i)++Builtin.zeroCells (Value.agg #[.string ByteArray.empty,.string ByteArray.empty]).cells (GC-(n+1))).toList:=⟨_,rfl⟩
 have JB:(xs.take (i*2)++Z).length=GC*2:=by
  have KS:(Value.agg #[.string ByteArray.empty,.string ByteArray.empty]).cells.size=2:=rfl;have e1:(Builtin.zeroCells (Value.agg #[.string ByteArray.empty,.string ByteArray.empty]).cells (n+1-i)).toList.length=(n+1-i)*2:=by rw [Array.length_toList,size_zeroCells,KS]
  have e2:(Builtin.zeroCells (Value.agg #[.string ByteArray.empty,.string ByteArray.empty]).cells (GC-(n+1))).toList.length=(GC-(n+1))*2:=by rw [Array.length_toList,size_zeroCells,KS]
  rw [hZ,nG,List.length_take,Array.toList_append,nG,e1,e2,DZ];omega
 have pW:∀ ty,(Builtin.append_ #[238,3] ty #[.slice (some ⟨g,0,none⟩) i cap,.int .i64 (((n:Int)+1-(i:Int)))]).run Tryz.prog w=.ok (.slice (some ⟨w.heap.size,0,none⟩) (n+1) GC) (w.drew.alloc (.cells (xs.take (i*2)++Z).toArray 243)):=by
  intro ty
  have hfc:(Builtin.firstCells i0.size i (.slice (some ⟨g,0,none⟩) i cap)).run Tryz.prog w.drew=.ok (xs.take (i*2)).toArray w.drew:=by
   have hl:=run_loadCells_list (P:=Tryz.prog) w.drew ⟨g,0,none⟩ (xs.take (i*2)) (fun j u hj=>by
    rw [Nm.addr_add,aA (dS QR),Nat.zero_add];rw [List.getElem?_take] at hj
    split at hj
    ·rename_i hji;rw [<- QQ,List.getElem?_take_of_lt (by omega)] at hj;simpa using hj
    cases hj)
   rw [List.length_take,DZ,Nat.min_eq_left (by omega)] at hl;simp [Builtin.firstCells,fP,hl]
  have hr:=Lib.run_append_grow_zeros (P:=Tryz.prog) w 238 3 ty 243 i0 _ .i64 .i64 Tryz.underlying238 Tryz.underlying3 Je iJ (some ⟨g,0,none⟩) i cap (xs.take (i*2)) hfc (n+1-i) (by omega) (by omega) (by omega) (by omega) (by rw [fZ];omega) (by rw [fZ];exact growslice_fits (by omega) (by omega));rw [show((n+1-i:Nat):Int)=(n:Int)+1-(i:Int) by omega] at hr;rw [hr,<- hGC,hZ];congr 1
  ·rw [show i+(n+1-i)=n+1 by omega]
  rw [show i+(n+1-i)=n+1 by omega];congr 2;rw [Array.append_assoc];apply Array.toList_inj.1;simp
 have hkW:bG (w.drew.alloc (.cells (xs.take (i*2)++Z).toArray 243)) w.heap.size (xs.take (i*2)++Z).toArray 243:=aH w.drew _ _;have QS:Below w.heap.size w (w.drew.alloc (.cells (xs.take (i*2)++Z).toArray 243)):=(aK _ _).drew.alloc (aN _) _;obtain⟨c1,iK⟩:∃ c1,c1=(xs.take (i*2)++Z).take (i*2)++[x0,x1]++(xs.take (i*2)++Z).drop (i*2+[x0,x1].length):=⟨_,rfl⟩;obtain⟨CX,pJ⟩:=VD x0 x1 DZ bV hge JB c1 iK;obtain⟨c2,mD⟩:∃ c2,c2=c1.take ((i+1)*2)++xs.drop (i*2)++c1.drop ((i+1)*2+(xs.drop (i*2)).length):=⟨_,rfl⟩;obtain⟨EI,EL⟩:=pJ c2 mD;generalize lF:w.drew.alloc (.cells (xs.take (i*2)++Z).toArray 243)=W0 at*;have Kv:bG W0 g cur 243:=aB QR QS;have Kw:bG W0 vb #[x0,x1] 243:=aB hv QS;have BG:=bU QR;have aOs:=bU hv
 have aE2:∀ ty dc,(Builtin.copy_ #[238,238] ty #[.slice (some ⟨w.heap.size,i*2,none⟩) (n+1-i) dc,.slice (some ⟨vb,0,none⟩) 1 vc]).run Tryz.prog W0=.ok (goInt (Nat.min 1 (n+1-i))) (W0.setRow w.heap.size c1.toArray):=fun ty dc=>by
  rw [iK]
  exact fU W0 _ _ ty 243 w.heap.size (i*2) _ dc ⟨vb,0,none⟩ 1 vc _ 243 [x0,x1] 2 Tryz.underlying238 wM hkW (by simp only [Nat.min_def,List.length_cons,List.length_nil];split<;>omega) (fun j u hj=>by
   rw [Nm.addr_add,aA Kw,Nat.zero_add]
   simpa using hj) (by simp only [List.size_toArray,JB,List.length_cons,List.length_nil];omega) jW
 have KV:bG (W0.setRow w.heap.size c1.toArray) w.heap.size c1.toArray 243:=iY hkW _
 have rP:bG (W0.setRow w.heap.size c1.toArray).drew g cur 243:=by
  unfold bG
  show(W0.setRow w.heap.size c1.toArray).heap[g]? =_
  rw [setRow_other W0 _ g _ (by omega)];exact Kv
 have aE3:∀ ty dc sc,(Builtin.copy_ #[238,238] ty #[.slice (some ⟨w.heap.size,(i+1)*2,none⟩) (n-i) dc,.slice (some ⟨g,i*2,none⟩) (n-i) sc]).run Tryz.prog (W0.setRow w.heap.size c1.toArray).drew=.ok (goInt (Nat.min (n-i) (n-i))) ((W0.setRow w.heap.size c1.toArray).drew.setRow w.heap.size c2.toArray):=fun ty dc sc=>by
  rw [mD];exact fU (W0.setRow w.heap.size c1.toArray).drew _ _ ty 243 w.heap.size ((i+1)*2) _ dc ⟨g,i*2,none⟩ _ sc c1.toArray 243 (xs.drop (i*2)) 2 Tryz.underlying238 wM (dS KV) (by rw [pF];simp only [Nat.min_def];split<;>omega) (xY _ rP) (by rw [pF];simp only [List.size_toArray,CX];omega) h1d
 have X:=Nm.aF (aV (tC (B:=B) (n:=n+1) (cap:=GC) (s:=2) (iY (dS KV) c2.toArray) hB hge hgm (by simp [EI]) (show c2.toArray.toList.take ((n+1)*2)=xs.take (i*2)++[x0,x1]++xs.drop (i*2) from EL)) (show w.grownBy ((W0.setRow w.heap.size c1.toArray).drew.setRow w.heap.size c2.toArray) (some g) from by
  refine⟨QS.os,QS.tape,QS.output,?_,fun k hk dQ=>?_⟩
  ·rw [setRow_size];show w.heap.size<=(W0.setRow w.heap.size c1.toArray).heap.size
   rw [setRow_size];exact QS.size
  rw [setRow_other _ _ k _ (by omega)]
  show(W0.setRow w.heap.size c1.toArray).heap[k]? =_
  rw [setRow_other _ _ k _ (by omega)]
  exact QS.block k hk))
 have y1:¬GC=i:=by omega
 have y2:¬GC=i+1:=by omega
 have y3:¬n+1<=cap:=by omega
 have y4:(cap:Int)<(n:Int)+1:=by omega
 have y5:IntKind.i64.wrap ((i:Int)+1)=(i:Int)+1:=by rw [IntKind.wrap_i64];omega
 have y6:(0:Int)<=(i:Int)+1:=by omega
 have y7:(i:Int)+1<=(n:Int)+1:=by omega
 unfold maxLen at hgm;clear iK mD pJ EL CX EI xY QQ hGC hZ JB lF rP KV hkW QS Kv Kw xZ hcn;go_enter Tryz.func188,Tryz.ntmps188;go_wp2_with (at_builtin;refine uT rfl (.tmp 34) (.tmp 39) 238 3 rfl _ _ _ _ rfl rfl (pW _) ?_;clear pW)
 go_region
 all_goals
  go_wp2;go_ret;exact⟨.slice (some ⟨w.heap.size,0,none⟩) (n+1) GC,rfl,X.out.1,X.out.2,.inr (fun g' e=>by simp [Value.ownBlock] at e;omega)⟩
theorem aE4(v tgt cp:Value)(rs:List (Value×Value))(cf:Nat->Int)(w:World)(h:bS w v rs.length 2 (eD rs))(hl:rs.length<=1000000)
 (hf:∀ (i:Nat) (p:Value×Value),rs[i]? =some p->∀ W,Below w.heap.size w W->Calls Tryz.prog 203 #[.agg #[p.1,p.2],tgt,cp] W fun e w'=>e=.returned (.int .i64 (cf i))∧Below W.heap.size W w')
 (hm:∀ a b,a<=b->b<rs.length->cf b<0->cf a<0):
 Calls Tryz.prog 202 #[v,tgt,.func (.func 203) #[] #[cp]] w fun e w'=>∃ k:Nat,EH rs.length cf k∧e=.returned (.tuple #[.int .i64 (k:Int),.bool (decide (k<rs.length)&&decide (cf k=0))])∧Below w.heap.size w w':=by
 obtain⟨_,a,cap,rfl,gY,kK,hc⟩:=h;unfold maxLen at kK;have HM:=Nm.aF hm;clear hm;go_enter Tryz.func202,Tryz.ntmps202;go_wp2
 go_loopw [9,10] (fun vi vj wr=>∃ i j:Nat,i<=j∧j<=rs.length∧vi=.int .i64 i∧vj=.int .i64 j∧Hid ((∀ q,q<i->cf q<0)∧(∀ q,j<=q->q<rs.length->0<=cf q))∧Below w.heap.size w wr) (fun vi vj _=>(intOf vj).toNat-(intOf vi).toNat)
 case atStart=>exact⟨0,rs.length,dO _,aN _,rfl,rfl,⟨fun q hq=>by omega,fun q h1 h2=>by omega⟩,aK _ _⟩
 obtain⟨i,j,hij,LU,rfl,rfl,HI,aJ⟩:=hrel
 by_cases bV:i<j
 ·obtain⟨m,hm⟩:∃ m,m=(i+j) / 2:=⟨_,rfl⟩;have Cm:i<=m:=by omega
  have hm2:m<j:=by omega
  have g1:((i:Int)+(j:Int)) / 2=(m:Int):=by omega
  obtain⟨p,hp⟩:∃ p,rs[m]? =some p:=⟨_,bY (by omega)⟩;have Kz:=eY rs m 0 p hp (by decide);have JC:=eY rs m 1 p hp (by decide);obtain⟨b,off,rfl,aL⟩:=hc (by omega);have put:∀ {B O:Nat} {z:Value},w.cell? ⟨B,O,none⟩=some z->wr.cell? ⟨B,O,none⟩=some z:=fun h=>(aJ.cell (eB w _ h)).trans h
  have c0:wr.cell? ⟨b,off+m*2,none⟩=some p.1:=put (aL _ _ Kz);have c1:wr.cell? ⟨b,off+m*2+1,none⟩=some p.2:=put (aL _ _ JC);have xW:=hf m p hp wr aJ;have n1:(0:Int)<=(m:Int):=by omega
  have n2:(m:Int)<(rs.length:Int):=by omega
  have n3:(i:Int)<(j:Int):=by omega
  have n4:(j:Int)<=1000000:=by omega
  clear aL hc Kz JC hp put hf hm
  by_cases CY:cf m<0
  ·have HI2:Hid ((∀ q,q<m+1->cf q<0)∧(∀ q,j<=q->q<rs.length->0<=cf q)):=⟨fun q hq=>HM.out q m (by omega) (by omega) CY,HI.out.2⟩;clear HI;go_wp2_with fail
   refine xW.mono ?_;rintro e w1 ⟨rfl,b1⟩;go_wp2;go_roundw
   case rel=>exact⟨m+1,j,by omega,LU,by go_num,rfl,HI2,Nm.aC aJ b1⟩
   simp [intOf];omega
  have HI2:Hid ((∀ q,q<i->cf q<0)∧(∀ q,m<=q->q<rs.length->0<=cf q)):=⟨HI.out.1,fun q h1 h2=>by
   rcases Int.lt_or_le (cf q) 0 with h|h
   ·exact absurd (HM.out m q h1 h2 h) CY
   exact h⟩
  have n5:0<=cf m:=by omega
  clear HI CY;go_wp2_with fail
  refine xW.mono ?_;rintro e w1 ⟨rfl,b1⟩;go_wp2;go_roundw
  case rel=>exact⟨i,m,Cm,by omega,rfl,rfl,HI2,Nm.aC aJ b1⟩
  simp [intOf];omega
 obtain rfl:i=j:=by omega
 have HF:Hid (EH rs.length cf i):=⟨LU,HI.out⟩;have n3:¬(i:Int)<(i:Int):=by omega
 clear HI HM
 by_cases DC:i<rs.length
 ·obtain⟨p,hp⟩:∃ p,rs[i]? =some p:=⟨_,bY DC⟩;have Kz:=eY rs i 0 p hp (by decide);have JC:=eY rs i 1 p hp (by decide);obtain⟨b,off,rfl,aL⟩:=hc (by omega);have put:∀ {B O:Nat} {z:Value},w.cell? ⟨B,O,none⟩=some z->wr.cell? ⟨B,O,none⟩=some z:=fun h=>(aJ.cell (eB w _ h)).trans h
  have c0:wr.cell? ⟨b,off+i*2,none⟩=some p.1:=put (aL _ _ Kz);have c1:wr.cell? ⟨b,off+i*2+1,none⟩=some p.2:=put (aL _ _ JC);have xW:=hf i p hp wr aJ;have n1:(0:Int)<=(i:Int):=by omega
  have n2:(i:Int)<(rs.length:Int):=by omega
  have HIL:=Nm.aF DC;clear aL hc Kz JC hp put hf DC;have e0:(cf i==0)=decide (cf i=0):=by by_cases h:cf i=0<;>simp [h]
  have HE0:=Nm.aF e0;clear e0;go_wp2_with fail
  refine xW.mono ?_;rintro e w1 ⟨rfl,b1⟩;go_wp2;go_ret2;refine⟨i,HF.out,?_,Nm.aC aJ b1⟩;rw [nD HIL.out,Bool.true_and,<- HE0.out];rfl
 have hie:i=rs.length:=by omega
 have n2:(rs.length:Int)<=(i:Int):=by omega
 have HIL:=Nm.aF DC;clear hc hf DC hie;go_wp2;go_ret2;refine⟨i,HF.out,?_,aJ⟩;rw [jU HIL.out,Bool.false_and];rfl
theorem VG(g:Nat)(jY rv key:Value)(rs:List (Value×Value))(cf:Nat->Int)(w:World)(hg:bG w g #[jY,rv] 240)(h:bS w rv rs.length 2 (eD rs))(hl:rs.length<=1000000)
 (hf:∀ (tb i:Nat) (p:Value×Value),rs[i]? =some p->∀ W,Below w.heap.size w W->bG W tb #[.pointer (some ⟨g,0,none⟩)] 174->Calls Tryz.prog 203 #[.agg #[p.1,p.2],key,.pointer (some ⟨tb,0,none⟩)] W fun e w'=>e=.returned (.int .i64 (cf i))∧Below W.heap.size W w')
 (hm:∀ a b,a<=b->b<rs.length->cf b<0->cf a<0):
 Calls Tryz.prog 187 #[.pointer (some ⟨g,0,none⟩),key] w fun e w'=>∃ k:Nat,EH rs.length cf k∧e=.returned (.tuple #[.int .i64 (k:Int),.bool (decide (k<rs.length)&&decide (cf k=0))])∧Below w.heap.size w w':=by
 have jF:=(aK w.heap.size w).alloc (aN _) (.cells #[.pointer (some ⟨g,0,none⟩)] 174);have kb:=aH w #[.pointer (some ⟨g,0,none⟩)] 174;have hs:=aE4 rv key (.pointer (some ⟨w.heap.size,0,none⟩)) rs cf _ (h.below jF) hl (fun i p hp W hW=>hf w.heap.size i p hp W (Nm.aC jF hW) (aB kb hW)) hm;have kg:=aB hg jF;have rg:=fun i=>aA kg i
 have hmf:∀ (fn:Fn) (first cap:Array Value) (w:World),(Instr.makeFunc fn first cap).run Tryz.prog w=.ok (.func fn first cap) w:=fun _ _ _ _=>rfl
 obtain⟨_,a,cap,rfl,_⟩:=h;clear hf hm;go_enter Tryz.func187,Tryz.ntmps187;go_wp2_with fail
 refine hs.mono ?_;rintro e w1 ⟨k,hk,rfl,b1⟩;have HK:=Nm.aF hk;obtain⟨OK,hOK⟩:∃ OK,(decide (k<rs.length)&&decide (cf k=0))=OK:=⟨_,rfl⟩;rw [hOK];have Ez:=Nm.aF hOK;clear hOK hk hs;go_wp2;go_ret2;exact⟨k,HK.out,by rw [Ez.out];rfl,Nm.aC jF b1⟩
theorem Lb(g B:Nat)(jY rv key fv:Value)(rs:List (Value×Value))(cf:Nat->Int)(k:Nat)(p:Value×Value)(w:World)(hg:bG w g #[jY,rv] 240)(h:w.ownsRow B 243 2 rv rs.length (eD rs))(hl:rs.length<=1000000)
 (hf:∀ (tb i:Nat) (p:Value×Value),rs[i]? =some p->∀ W,Below w.heap.size w W->bG W tb #[.pointer (some ⟨g,0,none⟩)] 174->Calls Tryz.prog 203 #[.agg #[p.1,p.2],key,.pointer (some ⟨tb,0,none⟩)] W fun e w'=>e=.returned (.int .i64 (cf i))∧Below W.heap.size W w')
 (hm:∀ a b,a<=b->b<rs.length->cf b<0->cf a<0) (hk:EH rs.length cf k) (hp:rs[k]? =some p) (h0:cf k=0):
 Calls Tryz.prog 169 #[.pointer (some ⟨g,0,none⟩),key,fv] w fun e w'=>e=.returned p.2∧Below w.heap.size w w':=by
 have pG:=VG g jY rv key rs cf w hg (bS.aS h) hl hf hm;have nS:=(dK hp).1;have JC:=eY rs k 1 p hp (by decide);obtain⟨_,a,cap,rfl,gY,kK,hc⟩:=bS.aS h;obtain⟨b,off,rfl,aL⟩:=hc (by omega);have c1:=aL _ _ JC;have HK:=Nm.aF hk;have H0:=Nm.aF (aV nS h0);unfold maxLen at kK;have n1:(0:Int)<=(k:Int):=by omega
 have n2:(k:Int)<(rs.length:Int):=by omega
 clear hf hm hk hp h0 h aL hc JC;go_enter Tryz.func169,Tryz.ntmps169;go_wp2_with fail
 refine pG.mono ?_;rintro e w1 ⟨k',sS,rfl,b1⟩;obtain rfl:=EH.unique HK.out sS;rw [nD H0.out.1,nD H0.out.2];have kg:=aB hg b1;have rg:=fun i=>aA kg i
 have d1:w1.cell? ⟨b,off+k*2+1,none⟩=some p.2:=(b1.cell (eB w _ c1)).trans c1;have tt:(true&&true)=true:=rfl;clear pG sS c1 H0;go_wp2;go_ret;exact⟨rfl,b1⟩
theorem Fa(g B:Nat)(jY rv:Value)(kx:ByteArray)(caps:Array Value)(rs:List (Value×Value))(cf:Nat->Int)(k:Nat)(w:World)(ob:Option Nat)(P:ByteArray->World->World->Prop)(hg:bG w g #[jY,rv] 240)(h:w.ownsRow B 243 2 rv rs.length (eD rs))(hl:rs.length<=500000)
 (hf:∀ (tb i:Nat) (p:Value×Value),rs[i]? =some p->∀ W,Below w.heap.size w W->bG W tb #[.pointer (some ⟨g,0,none⟩)] 174->Calls Tryz.prog 203 #[.agg #[p.1,p.2],(Value.string kx),.pointer (some ⟨tb,0,none⟩)] W fun e w'=>e=.returned (.int .i64 (cf i))∧Below W.heap.size W w')
 (hm:∀ a b,a<=b->b<rs.length->cf b<0->cf a<0) (hk:EH rs.length cf k) (h0:¬(k<rs.length∧cf k=0))
 (h1:∀ p∈rs,p.1.oneCell'=true∧p.2.oneCell'=true) (hB:B<=w.heap.size)
 (ZA:∀ W,Below w.heap.size w W->Calls Tryz.prog 171 caps W fun e w'=>∃ ux:ByteArray,e=.returned (Value.string ux)∧W.grownBy w' ob∧P ux W w') (hob:ob≠some g) (hrv:∀ x,rv.ownBlock=some x->ob≠some x):
 Calls Tryz.prog 169 #[.pointer (some ⟨g,0,none⟩),(Value.string kx),.func (.func 171) #[] caps] w fun e w'=>∃ (ux:ByteArray) (W w1:World) (rv':Value),e=.returned (Value.string ux)∧Below w.heap.size w W∧W.grownBy w1 ob∧P ux W w1∧bG w' g #[jY,rv'] 240∧w'.ownsRow B 243 2 rv' (rs.length+1) (eD (rs.take k++[((Value.string kx),(Value.string ux))]++rs.drop k))∧Kp2 g rv.ownBlock w1 w'∧(rv'.ownBlock=rv.ownBlock∨∀ x,rv'.ownBlock=some x->w1.heap.size<=x):=by
 have pG:=VG g jY rv (Value.string kx) rs cf w hg (bS.aS h) (by omega) hf hm;obtain⟨a,cap,rfl⟩:=aT h;have HK:=Nm.aF hk
 have H0:Hid ((decide (k<rs.length)&&decide (cf k=0))=false):=by
  show _=_
  rw [Bool.and_eq_false_iff]
  by_cases hx:k<rs.length
  ·exact .inr (jU (fun h=>h0 ⟨hx,h⟩))
  exact .inl (jU hx)
 clear hf hm hk h0;go_enter Tryz.func169,Tryz.ntmps169;go_wp2_with fail
 refine pG.mono ?_;rintro e w1 ⟨k',sS,rfl,b1⟩;obtain rfl:=EH.unique HK.out sS;rw [H0.out];have kg:=aB hg b1;have h2:=own_below h b1;have Lc:=ZA w1.drew b1.drew;have hkn:k<=rs.length:=HK.out.1;have hgw:=bU hg;clear pG sS ZA H0 HK;go_wp2;refine kR (fun W=>W.cell? ⟨g,1,none⟩=some (.slice a rs.length cap)) 14 (aA kg 1) fun aO=>?_;refine kB 0 rfl ?_;refine kB 1 rfl ?_;refine kB 2 rfl ?_;refine kB 3 rfl ?_;refine kB 4 rfl ?_;refine kB 5 rfl ?_;refine kB 6 rfl ?_;refine kB 7 rfl ?_;refine k1 8 rfl fun K hK=>?_
 go_simp;refine Lc.mono ?_;rintro e w2 ⟨ux,rfl,nH,hP⟩;go_wp2_with fail
 have ZC:bG w2 g #[jY,.slice a rs.length cap] 240:=aP (dS kg) nH (fun e=>hob e)
 have hrr:w2.ownsRow B 243 2 (.slice a rs.length cap) rs.length (eD rs):=h2.drew.kept nH (by
  cases hv:(Value.slice a rs.length cap).ownBlock with
  |none=>exact .inl rfl
  |some x=>right;intro e;exact hrv x hv e.symm)
 refine hK.out _ _ (aA ZC 1) fun _=>?_;clear hK K Lc;refine kB 9 rfl ?_;have iE:Below w2.heap.size w2 (w2.alloc (.cells #[(Value.string kx),(Value.string ux)] 243)):=(aK _ _).alloc (aN _) _;have kg3:=aB ZC iE;refine k1 10 rfl fun K hK=>?_
 go_simp;refine hK.out _ _ (aA kg3 1) fun _=>?_;clear hK K;have hwB:B<=w2.heap.size:=by have:=b1.size;have:=nH.size;simp at this;omega
 have Le:=Kt (.slice a rs.length cap) rs.length k (eD rs) (Value.string kx) (Value.string ux) w2.heap.size 1 B _ (own_below hrr iE) hkn (aH w2 #[(Value.string kx),(Value.string ux)] 243) (fun e=>by have:=(hrr.lt _ e).2;omega) (OV h1) rfl rfl (by omega) (by simp;omega);refine k1 11 rfl fun K hK=>?_
 go_simp;refine Le.mono ?_;rintro e w3 ⟨rv',rfl,Aa,iA,Lf⟩;go_wp2_with fail
 rw [OU] at Aa
 obtain⟨g',cap',rfl⟩:∃ g' cap',rv'=.slice (some ⟨g',0,none⟩) (rs.length+1) cap':=by
  rcases Aa.2 with⟨_,h0⟩|⟨g',cap',cur,e,_⟩
  ·omega
  exact⟨g',cap',e⟩
 have Ab:(Value.slice a rs.length cap).ownBlock≠some g:=by
  intro e
  rcases hrr.2 with⟨h0,_⟩|⟨q,c,cur,e1,_,hh,_⟩
  ·simp only [iG] at h0;rw [h0.1] at e;cases e
  simp only [iG] at e1;rw [e1.1] at e;simp only [Value.ownBlock,mP] at e;subst e;rw [bG,hh] at ZC;simp only [mP,Obj.cells.injEq] at ZC;exact absurd ZC.2.1 (by decide)
 have LV:=aP kg3 iA Ab;have rg4:=fun i=>aA LV i
 have fg4:=fun i=>aG LV i
 refine hK.out _ _ (aA LV 1) fun _=>?_;clear hK K Le;refine k1 12 rfl fun K hK=>?_
 go_simp;refine hK.out _ _ (aA LV 1) fun _=>?_;clear hK K;refine kB 13 rfl ?_;refine jN (by kernel_rfl) rfl (by kernel_rfl) fun K hK=>?_;go_simp;refine hK.out _ _ ?_;clear hK K
 have hgn:g'≠g:=by
  intro e;subst e
  rcases Aa.2 with⟨h0,_⟩|⟨q,c,cur,e1,_,hh,_⟩
  ·cases h0
  simp only [iG,mP,Addr.mk.injEq] at e1;obtain⟨⟨rfl,_⟩,_⟩:=e1;rw [bG,hh] at LV;simp only [mP,Obj.cells.injEq] at LV;exact absurd LV.2.1 (by decide)
 have Cr:=eU (y:=.slice (some ⟨g',0,none⟩) (rs.length+1) cap') (i:=1) (g:=g) Aa (by simp [Value.ownBlock];exact hgn);have kg5:=aI LV 1 (.slice (some ⟨g',0,none⟩) (rs.length+1) cap');have hlen:(rs.take k++[((Value.string kx),(Value.string ux))]++rs.drop k).length=rs.length+1:=by simp;omega
 have nI:(rs.take k++[((Value.string kx),(Value.string ux))]++rs.drop k)[k]? =some ((Value.string kx),(Value.string ux)):=by
  have hlk:(rs.take k).length=k:=by rw [List.length_take];omega
  rw [List.append_assoc,List.getElem?_append_right (by omega),hlk];simp
 have c1:(w3.setCell ⟨g,1,none⟩ (.slice (some ⟨g',0,none⟩) (rs.length+1) cap')).cell? ⟨g',k*2+1,none⟩=some (Value.string ux):=(Cr.cellAt (k*2+1) (by omega)).trans ((eY _ k 1 _ nI (by decide)).trans rfl);have c2:(w3.setCell ⟨g,1,none⟩ (.slice (some ⟨g',0,none⟩) (rs.length+1) cap')).cell? ⟨g,1,none⟩=some (.slice (some ⟨g',0,none⟩) (rs.length+1) cap'):=(aA kg5 1).trans (by simp);have n1:(0:Int)<=(k:Int):=by omega
 have n2:(k:Int)<(rs.length:Int)+1:=by omega
 have hKP:Kp2 g (Value.slice a rs.length cap).ownBlock w2 (w3.setCell ⟨g,1,none⟩ (.slice (some ⟨g',0,none⟩) (rs.length+1) cap')):=by
  refine⟨iA.os,iA.tape,iA.output,?_,fun q hq dQ Lg=>?_⟩
  ·have:=iA.size;simp at this ⊢;omega
  rw [heap_setCell_other w3 ⟨g,1,none⟩ q _ (by simpa using dQ),iA.block q (by simp;omega) (fun e=>Lg e.symm)];exact iE.block q hq
 have HX:=Nm.aF (aV b1 (aV nH (aV hP (aV kg5 (aV Cr (aV hKP Lf))))));clear b1 nH hP kg5 Cr hKP Lf Aa iA LV kg3 ZC kg hrr h2 h hg iE rg4 fg4 nI;go_wp2;go_ret
 exact⟨ux,w1.drew,w2,_,rfl,HX.out.1.drew,HX.out.2.1,HX.out.2.2.1,HX.out.2.2.2.1,HX.out.2.2.2.2.1,HX.out.2.2.2.2.2.1,by
  rcases HX.out.2.2.2.2.2.2 with h|h
  ·exact .inl h
  exact .inr (fun x e=>by have:=h x e;simp at this;omega)⟩
open Go.Shelf
attribute [local go_sem] Oper.semAt_some
theorem all1S_in{α:Type}(kf vf:α->ByteArray)(F:Fence)(n:Nat)(h7:F.fn 192)(xK:F.round=none)(hn:1<=n)(l tb g n₀ b off cap:Nat)(jY:Value)(zs:List α)(hl:zs.length<=1000000)(gY:zs.length<=cap∧cap<=maxLen)(hb:b<n₀)(J Jx:List α->World->Prop)
 (hJ:∀ s W W',J s W->W.grownBy W' none->J s W')
 (hY:∀ pre x W,J pre W->pre.length<zs.length->YieldAt F (n-1) Tryz.prog l #[(Value.string (kf x)),(Value.string (vf x))] W fun e W'=>
  (e=.returned (.bool true)∧J (pre++[x]) W'∧Below n₀ W W')∨(e=.returned (.bool false)∧Jx (pre++[x]) W'))
 (W:World) (kb:W.cell? ⟨tb,0,none⟩=some (.pointer (some ⟨g,0,none⟩))) (kg:W.cell? ⟨g,1,none⟩=some (.slice (some ⟨b,off,none⟩) zs.length cap))
 (hc:∀ (i:Nat) (x:α),zs[i]? =some x->W.cell? ⟨b,off+i*2,none⟩=some (Value.string (kf x))∧W.cell? ⟨b,off+i*2+1,none⟩=some (Value.string (vf x))) (hn₀:n₀<=W.heap.size) (h0:J [] W):
 CallsIn F n Tryz.prog 192 #[.func (.yield l) #[] #[],.pointer (some ⟨tb,0,none⟩)] W fun e W'=>(∃ v,e=.returned v)∧
  ((∃ ys,ys=zs∧J ys W')∨(∃ pre,pre<+:zs∧Jx pre W')):=by
 obtain⟨Lh,VH⟩:=gY;unfold maxLen at VH;refine callsIn_of_wp Tryz.func192 rfl h7 ?_ xK;simp only [Tryz.ntmps192,List.size_toArray,List.length_cons,List.length_nil,Nat.reduceAdd,Nat.reduceSub,Array.replicate_succ,Array.replicate_zero,List.push_toArray,List.append_toArray,List.nil_append,List.cons_append]
 gi_wp2
 gi_loopw [10] (fun i wr=>∃ k:Nat,k<=zs.length∧i=.int .i64 k∧J (zs.take k) wr∧Below n₀ W wr)
  (fun i _=>zs.length-(intOf i).toNat)
 case atStart=>exact⟨0,dO _,rfl,by simpa using h0,aK _ _⟩
 obtain⟨k,hk,rfl,Li,Lj⟩:=hrel
 by_cases bV:k<zs.length
 ·obtain⟨x,hx⟩:∃ x,zs[k]? =some x:=⟨_,bY bV⟩;obtain⟨c0,c1⟩:=hc k x hx;have d0:wr.cell? ⟨b,off+k*2,none⟩=some (Value.string (kf x)):=(Lj.cell (p:=⟨b,off+k*2,none⟩) hb).trans c0;have d1:wr.cell? ⟨b,off+k*2+1,none⟩=some (Value.string (vf x)):=(Lj.cell (p:=⟨b,off+k*2+1,none⟩) hb).trans c1;have hal:∀ o:Obj,wr.grownBy (wr.alloc o) none:=fun o=>⟨rfl,rfl,rfl,by simp,fun q hq _=>heap_alloc_old wr _ hq⟩
  obtain⟨fn,tmps,assign,body,hy,hR⟩:=hY _ x (wr.alloc (.cells #[(Value.string (kf x)),(Value.string (vf x))] 243)) (hJ _ _ _ Li (hal _)) (by rw [List.length_take];omega);have n1:(0:Int)<=(k:Int):=by omega
  have n2:(k:Int)<(zs.length:Int):=by omega
  have SQ:Below n₀ W (wr.alloc (.cells #[(Value.string (kf x)),(Value.string (vf x))] 243)):=Lj.alloc (iL hn₀ Lj.size) _
  have HT:Hid (zs.take (k+1)=zs.take k++[x]):=by
   obtain⟨sS,e⟩:=dK hx;show _=_
   rw [List.take_succ_eq_append_getElem sS,e]
  clear hc c0 c1 hx
  gi_wp2
  refine hR.mono ?_;rintro e W3 (⟨rfl,hJ3,hk3⟩|⟨rfl,aE5⟩)
  ·gi_wp2
   go_roundw
   case rel=>exact⟨k+1,by omega,by go_num,by rw [HT.out];exact hJ3,SQ.trans hk3⟩
   simp [intOf];omega
  gi_wp2
  refine gD (results_none rfl _ _ _) rfl ?_;exact⟨⟨_,rfl⟩,.inr ⟨_,by rw [<- HT.out];exact List.take_prefix _ _,aE5⟩⟩
 obtain rfl:k=zs.length:=by omega
 have n2:(zs.length:Int)<=(zs.length:Int):=by omega
 rw [List.take_length] at Li;clear hc
 gi_wp2
 go_end0
 exact⟨⟨_,rfl⟩,.inl ⟨_,rfl,Li⟩⟩
end Go.Proofs.YthdpacepbbcocaaGreat
namespace Go.Proofs.YthdpacepbbcocaaGreat
open Go.RowKit Go.Shelf
attribute [local go_sem] Oper.semAt_some
theorem aE6{α:Type}(ka:α->Option Addr)(kn kc:α->Nat)(vf:α->Addr)(F:Fence)(n:Nat)(h7:F.fn 148)(xK:F.round=none)(hn:1<=n)(l tb g n₀ b off cap:Nat)(jY:Value)(zs:List α)(hl:zs.length<=1000000)(gY:zs.length<=cap∧cap<=maxLen)(hb:b<n₀)(J Jx:List α->World->Prop)
 (hJ:∀ s W W',J s W->W.grownBy W' none->J s W')
 (hY:∀ pre x W,J pre W->pre.length<zs.length->YieldAt F (n-1) Tryz.prog l #[(Value.slice (ka x) (kn x) (kc x)),(Value.pointer (some (vf x)))] W fun e W'=>
  (e=.returned (.bool true)∧J (pre++[x]) W'∧Below n₀ W W')∨(e=.returned (.bool false)∧Jx (pre++[x]) W'))
 (W:World) (kb:W.cell? ⟨tb,0,none⟩=some (.pointer (some ⟨g,0,none⟩))) (kg:W.cell? ⟨g,1,none⟩=some (.slice (some ⟨b,off,none⟩) zs.length cap))
 (hc:∀ (i:Nat) (x:α),zs[i]? =some x->W.cell? ⟨b,off+i*2,none⟩=some (Value.slice (ka x) (kn x) (kc x))∧W.cell? ⟨b,off+i*2+1,none⟩=some (Value.pointer (some (vf x)))) (hn₀:n₀<=W.heap.size) (h0:J [] W):
 CallsIn F n Tryz.prog 148 #[.func (.yield l) #[] #[],.pointer (some ⟨tb,0,none⟩)] W fun e W'=>(∃ v,e=.returned v)∧
  ((∃ ys,ys=zs∧J ys W')∨(∃ pre,pre<+:zs∧Jx pre W')):=by
 obtain⟨Lh,VH⟩:=gY;unfold maxLen at VH;refine callsIn_of_wp Tryz.func148 rfl h7 ?_ xK;simp only [Tryz.ntmps148,List.size_toArray,List.length_cons,List.length_nil,Nat.reduceAdd,Nat.reduceSub,Array.replicate_succ,Array.replicate_zero,List.push_toArray,List.append_toArray,List.nil_append,List.cons_append]
 gi_wp2
 gi_loopw [10] (fun i wr=>∃ k:Nat,k<=zs.length∧i=.int .i64 k∧J (zs.take k) wr∧Below n₀ W wr)
  (fun i _=>zs.length-(intOf i).toNat)
 case atStart=>exact⟨0,dO _,rfl,by simpa using h0,aK _ _⟩
 obtain⟨k,hk,rfl,Li,Lj⟩:=hrel
 by_cases bV:k<zs.length
 ·obtain⟨x,hx⟩:∃ x,zs[k]? =some x:=⟨_,bY bV⟩;obtain⟨c0,c1⟩:=hc k x hx;have d0:wr.cell? ⟨b,off+k*2,none⟩=some (Value.slice (ka x) (kn x) (kc x)):=(Lj.cell (p:=⟨b,off+k*2,none⟩) hb).trans c0;have d1:wr.cell? ⟨b,off+k*2+1,none⟩=some (Value.pointer (some (vf x))):=(Lj.cell (p:=⟨b,off+k*2+1,none⟩) hb).trans c1;have hal:∀ o:Obj,wr.grownBy (wr.alloc o) none:=fun o=>⟨rfl,rfl,rfl,by simp,fun q hq _=>heap_alloc_old wr _ hq⟩
  obtain⟨fn,tmps,assign,body,hy,hR⟩:=hY _ x (wr.alloc (.cells #[(Value.slice (ka x) (kn x) (kc x)),(Value.pointer (some (vf x)))] 189)) (hJ _ _ _ Li (hal _)) (by rw [List.length_take];omega);have n1:(0:Int)<=(k:Int):=by omega
  have n2:(k:Int)<(zs.length:Int):=by omega
  have SQ:Below n₀ W (wr.alloc (.cells #[(Value.slice (ka x) (kn x) (kc x)),(Value.pointer (some (vf x)))] 189)):=Lj.alloc (iL hn₀ Lj.size) _
  have HT:Hid (zs.take (k+1)=zs.take k++[x]):=by
   obtain⟨sS,e⟩:=dK hx;show _=_
   rw [List.take_succ_eq_append_getElem sS,e]
  clear hc c0 c1 hx
  gi_wp2
  refine hR.mono ?_;rintro e W3 (⟨rfl,hJ3,hk3⟩|⟨rfl,aE5⟩)
  ·gi_wp2
   go_roundw
   case rel=>exact⟨k+1,by omega,by go_num,by rw [HT.out];exact hJ3,SQ.trans hk3⟩
   simp [intOf];omega
  gi_wp2
  refine gD (results_none rfl _ _ _) rfl ?_;exact⟨⟨_,rfl⟩,.inr ⟨_,by rw [<- HT.out];exact List.take_prefix _ _,aE5⟩⟩
 obtain rfl:k=zs.length:=by omega
 have n2:(zs.length:Int)<=(zs.length:Int):=by omega
 rw [List.take_length] at Li;clear hc
 gi_wp2
 go_end0
 exact⟨⟨_,rfl⟩,.inl ⟨_,rfl,Li⟩⟩
end Go.Proofs.YthdpacepbbcocaaGreat
namespace Go.Proofs.YthdpacepbbcocaaGreat
open Go.RowKit Go.Shelf
attribute [local go_sem] Oper.semAt_some
theorem aE7{α:Type}(kf:α->Int)(vf:α->Addr)(F:Fence)(n:Nat)(h7:F.fn 149)(xK:F.round=none)(hn:1<=n)(l tb g n₀ b off cap:Nat)(jY:Value)(zs:List α)(hl:zs.length<=1000000)(gY:zs.length<=cap∧cap<=maxLen)(hb:b<n₀)(J Jx:List α->World->Prop)
 (hJ:∀ s W W',J s W->W.grownBy W' none->J s W')
 (hY:∀ pre x W,J pre W->pre.length<zs.length->YieldAt F (n-1) Tryz.prog l #[(Value.int .i64 (kf x)),(Value.pointer (some (vf x)))] W fun e W'=>
  (e=.returned (.bool true)∧J (pre++[x]) W'∧Below n₀ W W')∨(e=.returned (.bool false)∧Jx (pre++[x]) W'))
 (W:World) (kb:W.cell? ⟨tb,0,none⟩=some (.pointer (some ⟨g,0,none⟩))) (kg:W.cell? ⟨g,1,none⟩=some (.slice (some ⟨b,off,none⟩) zs.length cap))
 (hc:∀ (i:Nat) (x:α),zs[i]? =some x->W.cell? ⟨b,off+i*2,none⟩=some (Value.int .i64 (kf x))∧W.cell? ⟨b,off+i*2+1,none⟩=some (Value.pointer (some (vf x)))) (hn₀:n₀<=W.heap.size) (h0:J [] W):
 CallsIn F n Tryz.prog 149 #[.func (.yield l) #[] #[],.pointer (some ⟨tb,0,none⟩)] W fun e W'=>(∃ v,e=.returned v)∧
  ((∃ ys,ys=zs∧J ys W')∨(∃ pre,pre<+:zs∧Jx pre W')):=by
 obtain⟨Lh,VH⟩:=gY;unfold maxLen at VH;refine callsIn_of_wp Tryz.func149 rfl h7 ?_ xK;simp only [Tryz.ntmps149,List.size_toArray,List.length_cons,List.length_nil,Nat.reduceAdd,Nat.reduceSub,Array.replicate_succ,Array.replicate_zero,List.push_toArray,List.append_toArray,List.nil_append,List.cons_append]
 gi_wp2
 gi_loopw [10] (fun i wr=>∃ k:Nat,k<=zs.length∧i=.int .i64 k∧J (zs.take k) wr∧Below n₀ W wr)
  (fun i _=>zs.length-(intOf i).toNat)
 case atStart=>exact⟨0,dO _,rfl,by simpa using h0,aK _ _⟩
 obtain⟨k,hk,rfl,Li,Lj⟩:=hrel
 by_cases bV:k<zs.length
 ·obtain⟨x,hx⟩:∃ x,zs[k]? =some x:=⟨_,bY bV⟩;obtain⟨c0,c1⟩:=hc k x hx;have d0:wr.cell? ⟨b,off+k*2,none⟩=some (Value.int .i64 (kf x)):=(Lj.cell (p:=⟨b,off+k*2,none⟩) hb).trans c0;have d1:wr.cell? ⟨b,off+k*2+1,none⟩=some (Value.pointer (some (vf x))):=(Lj.cell (p:=⟨b,off+k*2+1,none⟩) hb).trans c1;have hal:∀ o:Obj,wr.grownBy (wr.alloc o) none:=fun o=>⟨rfl,rfl,rfl,by simp,fun q hq _=>heap_alloc_old wr _ hq⟩
  obtain⟨fn,tmps,assign,body,hy,hR⟩:=hY _ x (wr.alloc (.cells #[(Value.int .i64 (kf x)),(Value.pointer (some (vf x)))] 196)) (hJ _ _ _ Li (hal _)) (by rw [List.length_take];omega);have n1:(0:Int)<=(k:Int):=by omega
  have n2:(k:Int)<(zs.length:Int):=by omega
  have SQ:Below n₀ W (wr.alloc (.cells #[(Value.int .i64 (kf x)),(Value.pointer (some (vf x)))] 196)):=Lj.alloc (iL hn₀ Lj.size) _
  have HT:Hid (zs.take (k+1)=zs.take k++[x]):=by
   obtain⟨sS,e⟩:=dK hx;show _=_
   rw [List.take_succ_eq_append_getElem sS,e]
  clear hc c0 c1 hx
  gi_wp2
  refine hR.mono ?_;rintro e W3 (⟨rfl,hJ3,hk3⟩|⟨rfl,aE5⟩)
  ·gi_wp2
   go_roundw
   case rel=>exact⟨k+1,by omega,by go_num,by rw [HT.out];exact hJ3,SQ.trans hk3⟩
   simp [intOf];omega
  gi_wp2
  refine gD (results_none rfl _ _ _) rfl ?_;exact⟨⟨_,rfl⟩,.inr ⟨_,by rw [<- HT.out];exact List.take_prefix _ _,aE5⟩⟩
 obtain rfl:k=zs.length:=by omega
 have n2:(zs.length:Int)<=(zs.length:Int):=by omega
 rw [List.take_length] at Li;clear hc
 gi_wp2
 go_end0
 exact⟨⟨_,rfl⟩,.inl ⟨_,rfl,Li⟩⟩
