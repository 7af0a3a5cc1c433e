import Derived.Test.YtlddifpnkeafpaaGreatJAls
import Derived.Lib.Bytealg
import Derived.BigQuiet
import Derived.Deep.RegionHeld3
set_option linter.unusedVariables false
set_option maxRecDepth 100000
set_option maxHeartbeats 3200000
namespace Go.Proofs.YtlddifpnkeafpaaGreat
open Go.RowKit
theorem aHq:∀ (a b:List UInt8),Go.Lib.compareBytes a b=Nm.iV a b:=by
 intro a
 induction a with
 |nil=>
  intro b
  cases b with
  |nil=>rfl
  |cons y b=>rfl
 |cons x a ih=>
  intro b
  cases b with
  |nil=>rfl
  |cons y b=>
   rw [Go.Lib.compareBytes]
   by_cases h:x=y
   ·subst h;rw [if_neg (by simp),if_neg (by simp),Nm.xE,ih]
   rw [Nm.wN a b h];have hn:x.toNat≠y.toNat:=fun e=>h (UInt8.toNat_inj.1 e)
   by_cases hl:x<y
   ·have J6:(x.toNat:Int)<(y.toNat:Int):=by have:=UInt8.lt_iff_toNat_lt.1 hl;omega
    rw [if_pos hl,Nm.pJ J6]
   have J6:(y.toNat:Int)<(x.toNat:Int):=by
    have:¬x.toNat<y.toNat:=fun e=>hl (UInt8.lt_iff_toNat_lt.2 e)
    omega
   have BA:y<x:=UInt8.lt_iff_toNat_lt.2 (by omega);rw [if_neg hl,if_pos BA,Nm.pK J6]
theorem Dz(a b:ByteArray)(w:World):(callFunc 198 #[.string a,.string b]).run Tryz.prog w=.ok (.value (.int .i64 (Nm.iV a.data.toList b.data.toList))) w:=by
 have h:=run_callFunc_extern (P:=Tryz.prog) (f:=198) (fn:=Tryz.f198) (e:=Extern.BytealgCompare.compare) Tryz.func198 (by kernel_rfl) (by kernel_rfl) (by kernel_rfl) (by kernel_rfl) #[.string a,.string b] w;rw [h,Go.Lib.run_compareString,aHq];rfl
theorem Ja(a b:ByteArray)(w:World):
 Calls Tryz.prog 171 #[.string a,.string b] w fun e w'=>e=.returned (.int .i64 (Nm.iV a.data.toList b.data.toList))∧w'=w:=by
 have hx:=Dz a b;generalize Nm.iV a.data.toList b.data.toList=r at*;go_enter Tryz.func171,Tryz.ntmps171;go_wp2_with (go_at_call 187;go_in)
 go_ret;exact⟨rfl,rfl⟩
theorem UR(a b:UInt8)(w:World):
 Calls Tryz.prog 159 #[.int .u8 a.toNat,.int .u8 b.toNat] w fun e w'=>e=.returned (.int .i64 (Nm.pI a.toNat b.toNat))∧w'=w:=by
 have ha:((a.toNat:Int) != (a.toNat:Int))=false:=by simp
 have hb:((b.toNat:Int) != (b.toNat:Int))=false:=by simp
 by_cases h1:(a.toNat:Int)<(b.toNat:Int)
 ·have HC:=Nm.aD (Nm.pJ h1);have d1:decide ((a.toNat:Int)<(b.toNat:Int))=true:=by simpa using h1
  go_enter Tryz.func159,Tryz.ntmps159;go_wp2;go_ret;rw [HC.out];exact⟨rfl,rfl⟩
 have d1:decide ((a.toNat:Int)<(b.toNat:Int))=false:=by simpa using h1
 by_cases h2:(b.toNat:Int)<(a.toNat:Int)
 ·have HC:=Nm.aD (Nm.pK h2);have d2:decide ((b.toNat:Int)<(a.toNat:Int))=true:=by simpa using h2
  go_enter Tryz.func159,Tryz.ntmps159;go_wp2;go_ret;rw [HC.out];exact⟨rfl,rfl⟩
 have HC:=Nm.aD (Nm.vC (show(a.toNat:Int)=(b.toNat:Int) by omega));have d2:decide ((b.toNat:Int)<(a.toNat:Int))=false:=by simpa using h2
 go_enter Tryz.func159,Tryz.ntmps159;go_wp2;go_ret;rw [HC.out];exact⟨rfl,rfl⟩
theorem DW(a b:Int)(w:World):
 Calls Tryz.prog 130 #[.int .i64 a,.int .i64 b] w fun e w'=>e=.returned (.int .i64 (Nm.pI a b))∧w'=w:=by
 have ha:(a != a)=false:=by simp
 have hb:(b != b)=false:=by simp
 by_cases h1:a<b
 ·have HC:=Nm.aD (Nm.pJ h1);go_enter Tryz.func130,Tryz.ntmps130;go_wp2;go_ret;rw [HC.out];exact⟨rfl,rfl⟩
 by_cases h2:b<a
 ·have HC:=Nm.aD (Nm.pK h2);go_enter Tryz.func130,Tryz.ntmps130;go_wp2;go_ret;rw [HC.out];exact⟨rfl,rfl⟩
 have HC:=Nm.aD (Nm.vC (show a=b by omega));go_enter Tryz.func130,Tryz.ntmps130;go_wp2;go_ret;rw [HC.out];exact⟨rfl,rfl⟩
theorem zP(a b:ByteArray)(w:World)(ha:a.size<=1000000000):
 Calls Tryz.prog 129 #[.string a,.string b] w fun e w'=>e=.returned (.int .i64 (Nm.jP a b))∧∃ m,w'=w.drewN m:=by
 go_enter Tryz.func129,Tryz.ntmps129;go_wp2
 go_loopw [5] (fun i wr=>∃ k:Nat,k<=a.size∧k<=b.size∧i=.int .i64 k∧Hid ((Nm.eX a.data.toList).take k=(Nm.eX b.data.toList).take k)∧∃ m,Hid (wr=w.drewN m))
  (fun i _=>a.size-(intOf i).toNat)
 ·exact⟨0,dR _,dR _,rfl,by show _=_;simp,0,rfl⟩
 obtain⟨k,hka,hkb,rfl,HT,m,HW⟩:=hrel
 by_cases h1:k<a.size∧k<b.size
 ·obtain⟨h1,h2⟩:=h1;have d1:decide ((k:Int)<(a.size:Int))=true:=by simp;omega
  have d2:decide ((k:Int)<(b.size:Int))=true:=by simp;omega
  have i1:(k:Int)<(a.size:Int):=by omega
  have i2:(k:Int)<(b.size:Int):=by omega
  by_cases he:Nm.low a[k]=Nm.low b[k]
  ·have HN:Hid ((Nm.eX a.data.toList).take (k+1)=(Nm.eX b.data.toList).take (k+1)):=Nm.Io HT.out (Nm.JZ h1) (Nm.JZ h2) he;have hc:(Nm.pI (Nm.low a[k]).toNat (Nm.low b[k]).toNat != 0)=false:=by rw [Nm.vC (by rw [he])];rfl
   clear he;go_wp2;go_quiet (first|(go_at_call 160;exact Calls.quiet_of_same (wO _ _))|(go_at_call 159;exact Calls.quiet_of_same (UR _ _ _)))
   go_wp2;go_roundw
   ·exact⟨k+1,by omega,by omega,by go_num,HN,_,by show _=_;rw [HW.out,World.drewN_drewN]⟩
   simp [intOf];omega
  have HO:Hid (Nm.jP a b=Nm.pI (Nm.low a[k]).toNat (Nm.low b[k]).toNat):=Nm.aKj k _ _ _ _ HT.out (Nm.JZ h1) (Nm.JZ h2) he
  have hc:(Nm.pI (Nm.low a[k]).toNat (Nm.low b[k]).toNat != 0)=true:=by
   rw [bne_iff_ne];exact Nm.aHf (fun e=>he (UInt8.toNat_inj.1 (by omega)))
  clear he;go_wp2;go_quiet (first|(go_at_call 160;exact Calls.quiet_of_same (wO _ _))|(go_at_call 159;exact Calls.quiet_of_same (UR _ _ _)))
  go_wp2;go_ret;rw [HO.out];exact⟨rfl,_,by rw [HW.out,World.drewN_drewN]⟩
 have HO:Hid (Nm.jP a b=Nm.pI a.size b.size):=by
  show _=_
  have:=Nm.aHg k _ _ HT.out (by rw [Nm.nI];omega) (by rw [Nm.nI];omega) (by rw [Nm.nI,Nm.nI];omega);rw [Nm.nI,Nm.nI] at this;exact this
 by_cases h2:k<a.size
 ·have g2:b.size<=k:=by omega
  have d2:decide (k<b.size)=false:=by simp;omega
  clear h1;go_wp2_with fail
  refine(DW _ _ _).mono ?_;rintro e w3 ⟨rfl,rfl⟩;go_wp2;go_ret;rw [HO.out];exact⟨rfl,_,HW.out⟩
 have g2:a.size<=k:=by omega
 have d2:decide (k<a.size)=false:=by simp;omega
 clear h1;go_wp2_with fail
 refine(DW _ _ _).mono ?_;rintro e w3 ⟨rfl,rfl⟩;go_wp2;go_ret;rw [HO.out];exact⟨rfl,_,HW.out⟩
theorem Tryz.aC3:(Tryz.prog.info? 195).map (fun i=>(i.zero,i.size,i.bytes))=some (some (.agg #[.int .i64 0,.pointer none]),2,16):=by kernel_rfl
theorem Gh{w:World}{b:Nat}{cs:Array Value}{T:TypeId}(h:bW w b cs T):w.shape? b=some (T,cs.size):=by
 unfold bW at h;simp [World.shape?,h]
def aQm(B:Nat)(v:Value)(n i:Nat)(xs:List Value)(x0 x1:Value)(w:World)(e:Ending)(w':World):Prop:=
 ∃ u,e=.returned u∧w'.ownsRow B 195 2 u (n+1) (xs.take (i*2)++[x0,x1]++xs.drop (i*2))∧w.grownBy w' v.ownBlock∧(u.ownBlock=v.ownBlock∨∀ g,u.ownBlock=some g->w.heap.size<=g)
theorem Om(v:Value)(n i:Nat)(xs:List Value)(x0 x1:Value)(vb vc B:Nat)(w:World)(h:w.ownsRow B 195 2 v n xs)(hi:i<=n)(hv:bW w vb #[x0,x1] 195)(hvb:v.ownBlock≠some vb)
 (h1:∀ u∈xs,u.oneCell'=true) (h0:x0.oneCell'=true) (K8:x1.oneCell'=true) (hn:n<=1000000) (hB:B<=w.heap.size):
 Calls Tryz.prog 186 #[v,.int .i64 (i:Int),.slice (some ⟨vb,0,none⟩) 1 vc] w (aQm B v n i xs x0 x1 w):=by
 obtain⟨i0,Oo,iQ,iH,iI⟩:=info_parts Tryz.aC3;have DN:xs.length=n*2:=h.1
 have OB:∀ (j:Nat) (u:Value),[x0,x1][j]? =some u->w.cell? ((⟨vb,0,none⟩:Addr).add j)=some u:=by
  intro j u hj;rw [Nm.addr_add,Nat.zero_add,aA hv j];simpa using hj
 have lN:∀ u∈[x0,x1],u.oneCell'=true:=by
  intro u hu;simp at hu
  rcases hu with rfl|rfl
  ·exact h0
  exact K8
 by_cases kY:i=n
 ·subst kY
  have hHX:Hid (xs.take (i*2)++[x0,x1]++xs.drop (i*2)=xs++[x0,x1]):=by
   show _=_
   rw [List.take_of_length_le (by omega),List.drop_of_length_le (by omega),List.append_nil]
  rcases h.2 with⟨rfl,hn0⟩|⟨g,cap,cur,rfl,Dj,hg,Nh,oN,rT,Gi⟩
  ·have aC4:i=0:=hn0;subst aC4;have Oq:((0:Nat):Int)=0:=rfl;rw [Oq];go_enter Tryz.func186,Tryz.ntmps186;go_wp2_with (at_builtin;refine wpList_append_own_at _ rfl (.tmp 23) (.tmp 24) 191 rfl B 195 i0 _ 2 16 Tryz.underlying191 Oo iQ iH iI rfl (by decide) _ _ _ rfl h ⟨vb,0,none⟩ 1 vc [x0,x1] rfl rfl OB lN (by unfold maxLen;omega) (by omega) hB ?_;intro va wa yV nA BK DX)
   go_ret;exact⟨va,rfl,by rw [hHX.out];exact yV,nA,by rcases DX with h|h;exact .inl h;right;intro g e;rw [h] at e;simp at e;omega⟩
  unfold maxLen at oN
  by_cases hci:cap=i
  all_goals
   go_enter Tryz.func186,Tryz.ntmps186;go_wp2_with (at_builtin;refine wpList_append_own_at _ rfl (.tmp 23) (.tmp 24) 191 rfl B 195 i0 _ 2 16 Tryz.underlying191 Oo iQ iH iI rfl (by decide) _ _ _ rfl h ⟨vb,0,none⟩ 1 vc [x0,x1] rfl rfl OB lN (by unfold maxLen;omega) (by omega) hB ?_;intro va wa yV nA BK DX)
   go_ret;exact⟨va,rfl,by rw [hHX.out];exact yV,nA,by rcases DX with h|h;exact .inl h;right;intro g e;rw [h] at e;simp at e;omega⟩
 have bY:i<n:=by omega
 rcases h.2 with⟨rfl,hn0⟩|⟨g,cap,cur,rfl,Dj,hg,Nh,oN,rT,Gi⟩
 ·omega
 have UT:bW w g cur 195:=hg;have hgv:vb≠g:=fun e=>hvb (by rw [e];rfl)
 have DY:(Tryz.prog.info? 195).map (·.size)=some 2:=by rw [Oo];simp [iH]
 have zQ:∀ (W:World),bW W g cur 195->∀ (j:Nat) (u:Value),(xs.drop (i*2))[j]? =some u->W.cell? ((⟨g,i*2,none⟩:Addr).add j)=some u:=by
  intro W hW j u hj;rw [Nm.addr_add,aA hW];rw [List.getElem?_drop] at hj;have NG:=(dL hj).1;rw [<- Gi,List.getElem?_take_of_lt (by omega)] at hj;simpa using hj
 have nV:(xs.drop (i*2)).length=(n-i)*2:=by rw [List.length_drop,DN];omega
 have h1d:∀ u∈xs.drop (i*2),u.oneCell'=true:=fun u hu=>h1 u (List.mem_of_mem_drop hu)
 unfold maxLen at oN;have z1:¬((i:Int)=(n:Int)):=by omega
 have z2:=fE i
 have z3:(i:Int)<=(n:Int):=by omega
 have z4:¬cap=i:=by omega
 have z6:((i:Int)+1).toNat=i+1:=by omega
 by_cases zR:n+1<=cap
 ·have qY:∀ lb cb,(callFunc 196 #[.slice (some ⟨vb,0,none⟩) 1 vc,.slice (some ⟨g,(i+1)*2,none⟩) lb cb]).run Tryz.prog w=.ok (.value (.bool false)) w:=fun lb cb=>by
   rw [run_callFunc_extern Tryz.func196 (by kernel_rfl) (by kernel_rfl) (by kernel_rfl) (e:=Extern.SlicesOverlaps.overlaps #[191,191] #[4]) (by kernel_rfl),
    Lib.run_overlaps_apart w 191 4 195 Tryz.underlying191 2 (fun w=>by rw [sizeOf];simp [typeInfo,Oo,iH]) ⟨vb,0,none⟩ ⟨g,(i+1)*2,none⟩ 1 vc lb cb hgv 195 195 2 cur.size (Gh hv) (Gh UT) (by omega) (frozen_of_row w vb 0 _ _ hv) (frozen_of_row w vb 2 _ _ hv)]
   rfl
  have z5:¬cap=i+1:=by omega
  obtain⟨c1,mQ⟩:∃ c1,c1=cur.toList.take ((i+1)*2)++xs.drop (i*2)++cur.toList.drop ((i+1)*2+(xs.drop (i*2)).length):=⟨_,rfl⟩;obtain⟨GD,qD⟩:=YJ x0 x1 (by rw [Array.length_toList,rT]) Gi bY zR c1 mQ;obtain⟨c2,vI⟩:∃ c2,c2=c1.take (i*2)++[x0,x1]++c1.drop (i*2+[x0,x1].length):=⟨_,rfl⟩;obtain⟨BA,GV⟩:=qD c2 vI
  have aC5:∀ ty dc sc,(Builtin.copy_ #[191,191] ty #[.slice (some ⟨g,(i+1)*2,none⟩) (n-i) dc,.slice (some ⟨g,i*2,none⟩) (n+1-i) sc]).run Tryz.prog w.drew=.ok (goInt (Nat.min (n+1-i) (n-i))) (w.drew.setRow g c1.toArray):=fun ty dc sc=>by
   rw [mQ];exact gH w.drew _ _ ty 195 g ((i+1)*2) _ dc ⟨g,i*2,none⟩ _ sc cur 195 (xs.drop (i*2)) 2 Tryz.underlying191 DY UT (by rw [nV];simp only [Nat.min_def];split<;>omega) (zQ _ UT) (by rw [nV,rT];omega) h1d
  have LJ:bW (w.drew.setRow g c1.toArray) g c1.toArray 195:=jL (fO UT) _
  have aC6:∀ ty dc,(Builtin.copy_ #[191,191] ty #[.slice (some ⟨g,i*2,none⟩) (n+1-i) dc,.slice (some ⟨vb,0,none⟩) 1 vc]).run Tryz.prog (w.drew.setRow g c1.toArray)=.ok (goInt (Nat.min 1 (n+1-i))) ((w.drew.setRow g c1.toArray).setRow g c2.toArray):=fun ty dc=>by
   rw [vI]
   exact gH (w.drew.setRow g c1.toArray) _ _ ty 195 g (i*2) _ dc ⟨vb,0,none⟩ 1 vc c1.toArray 195 [x0,x1] 2 Tryz.underlying191 DY LJ (by simp only [Nat.min_def,List.length_cons,List.length_nil];split<;>omega) (fun j u hj=>by
    rw [World.cell?_of_block (w:=w.drew) (by rw [Nm.addr_add];exact setRow_other w.drew g vb _ hgv)]
    exact OB j u hj) (by simp only [List.size_toArray,GD,List.length_cons,List.length_nil];omega) lN
  have X:=Nm.aD (aV (uK (n:=n+1) (cap:=cap) (s:=2) (jL LJ c2.toArray) Dj (by omega) oN (by simp [BA]) (show c2.toArray.toList.take ((n+1)*2)=xs.take (i*2)++[x0,x1]++xs.drop (i*2) from GV)) (AZ (g:=g) ((⟨rfl,rfl,rfl,aI _,fun _ _ _=>rfl⟩:w.grownBy w.drew (some g))) (AZ (pM w.drew g c1.toArray) (pM _ g c2.toArray))));clear mQ vI qD GV GD BA zQ Gi;go_enter Tryz.func186,Tryz.ntmps186;go_wp2;go_region
  all_goals
   go_wp2;go_ret;exact⟨.slice (some ⟨g,0,none⟩) (n+1) cap,rfl,X.out.1,X.out.2,.inl rfl⟩
 have YZ:cap=n:=by omega
 obtain⟨GC,K9⟩:∃ GC,GC=grownCap w (i+(n+1-i)) cap 195:=⟨_,rfl⟩;have K6:n+1<=GC:=by rw [K9];have:=grownCap_ge w (i+(n+1-i)) cap 195;omega
 have hgm:GC<=maxLen:=by rw [K9];exact grownCap_le_maxLen w _ cap 195 (by unfold maxLen;omega)
 obtain⟨Z,hZ⟩:∃ Z:List Value,Z=(Builtin.zeroCells (Value.agg #[.int .i64 0,.pointer none]).cells (n+1-i)++Builtin.zeroCells (Value.agg #[.int .i64 0,.pointer none]).cells (GC-(n+1))).toList:=⟨_,rfl⟩
 have yX:(xs.take (i*2)++Z).length=GC*2:=by
  have uO:(Value.agg #[.int .i64 0,.pointer none]).cells.size=2:=rfl;have e1:(Builtin.zeroCells (Value.agg #[.int .i64 0,.pointer none]).cells (n+1-i)).toList.length=(n+1-i)*2:=by rw [Array.length_toList,size_zeroCells,uO]
  have e2:(Builtin.zeroCells (Value.agg #[.int .i64 0,.pointer none]).cells (GC-(n+1))).toList.length=(GC-(n+1))*2:=by rw [Array.length_toList,size_zeroCells,uO]
  rw [hZ,oJ,List.length_take,Array.toList_append,oJ,e1,e2,DN];omega
 have xZ:∀ ty,(Builtin.append_ #[191,3] ty #[.slice (some ⟨g,0,none⟩) i cap,.int .i64 (((n:Int)+1-(i:Int)))]).run Tryz.prog w=.ok (.slice (some ⟨w.heap.size,0,none⟩) (n+1) GC) (w.drew.alloc (.cells (xs.take (i*2)++Z).toArray 195)):=by
  intro ty
  have hfc:(Builtin.firstCells i0.size i (.slice (some ⟨g,0,none⟩) i cap)).run Tryz.prog w.drew=.ok (xs.take (i*2)).toArray w.drew:=by
   have hl:=run_loadCells_list (P:=Tryz.prog) w.drew ⟨g,0,none⟩ (xs.take (i*2)) (fun j u hj=>by
    rw [Nm.addr_add,aA (fO UT),Nat.zero_add];rw [List.getElem?_take] at hj
    split at hj
    ·rename_i hji;rw [<- Gi,List.getElem?_take_of_lt (by omega)] at hj;simpa using hj
    cases hj)
   rw [List.length_take,DN,Nat.min_eq_left (by omega)] at hl;simp [Builtin.firstCells,iH,hl]
  have hr:=Lib.run_append_grow_zeros (P:=Tryz.prog) w 191 3 ty 195 i0 _ .i64 .i64 Tryz.underlying191 Tryz.underlying3 Oo iQ (some ⟨g,0,none⟩) i cap (xs.take (i*2)) hfc (n+1-i) (by omega) (by omega) (by omega) (by omega) (by rw [iI];omega) (by rw [iI];exact growslice_fits (by omega) (by omega));rw [show((n+1-i:Nat):Int)=(n:Int)+1-(i:Int) by omega] at hr;rw [hr,<- K9,hZ];congr 1
  ·rw [show i+(n+1-i)=n+1 by omega]
  rw [show i+(n+1-i)=n+1 by omega];congr 2;rw [Array.append_assoc];apply Array.toList_inj.1;simp
 have hkW:bW (w.drew.alloc (.cells (xs.take (i*2)++Z).toArray 195)) w.heap.size (xs.take (i*2)++Z).toArray 195:=aK w.drew _ _;have UU:Below w.heap.size w (w.drew.alloc (.cells (xs.take (i*2)++Z).toArray 195)):=(aJ _ _).drew.alloc (aI _) _;obtain⟨c1,mQ⟩:∃ c1,c1=(xs.take (i*2)++Z).take (i*2)++[x0,x1]++(xs.take (i*2)++Z).drop (i*2+[x0,x1].length):=⟨_,rfl⟩;obtain⟨GD,qD⟩:=YK x0 x1 DN bY K6 yX c1 mQ;obtain⟨c2,vI⟩:∃ c2,c2=c1.take ((i+1)*2)++xs.drop (i*2)++c1.drop ((i+1)*2+(xs.drop (i*2)).length):=⟨_,rfl⟩;obtain⟨BA,GV⟩:=qD c2 vI;generalize FH:w.drew.alloc (.cells (xs.take (i*2)++Z).toArray 195)=W0 at*;have Ot:bW W0 g cur 195:=aB UT UU;have Ou:bW W0 vb #[x0,x1] 195:=aB hv UU;have zD:=cO UT
 have aC5:∀ ty dc,(Builtin.copy_ #[191,191] ty #[.slice (some ⟨w.heap.size,i*2,none⟩) (n+1-i) dc,.slice (some ⟨vb,0,none⟩) 1 vc]).run Tryz.prog W0=.ok (goInt (Nat.min 1 (n+1-i))) (W0.setRow w.heap.size c1.toArray):=fun ty dc=>by
  rw [mQ]
  exact gH W0 _ _ ty 195 w.heap.size (i*2) _ dc ⟨vb,0,none⟩ 1 vc _ 195 [x0,x1] 2 Tryz.underlying191 DY hkW (by simp only [Nat.min_def,List.length_cons,List.length_nil];split<;>omega) (fun j u hj=>by
   rw [Nm.addr_add,aA Ou,Nat.zero_add]
   simpa using hj) (by simp only [List.size_toArray,yX,List.length_cons,List.length_nil];omega) lN
 have LJ:bW (W0.setRow w.heap.size c1.toArray) w.heap.size c1.toArray 195:=jL hkW _
 have mD:bW (W0.setRow w.heap.size c1.toArray).drew g cur 195:=by
  unfold bW
  show(W0.setRow w.heap.size c1.toArray).heap[g]? =_
  rw [setRow_other W0 _ g _ (by omega)];exact Ot
 have aC6:∀ ty dc sc,(Builtin.copy_ #[191,191] ty #[.slice (some ⟨w.heap.size,(i+1)*2,none⟩) (n-i) dc,.slice (some ⟨g,i*2,none⟩) (n-i) sc]).run Tryz.prog (W0.setRow w.heap.size c1.toArray).drew=.ok (goInt (Nat.min (n-i) (n-i))) ((W0.setRow w.heap.size c1.toArray).drew.setRow w.heap.size c2.toArray):=fun ty dc sc=>by
  rw [vI];exact gH (W0.setRow w.heap.size c1.toArray).drew _ _ ty 195 w.heap.size ((i+1)*2) _ dc ⟨g,i*2,none⟩ _ sc c1.toArray 195 (xs.drop (i*2)) 2 Tryz.underlying191 DY (fO LJ) (by rw [nV];simp only [Nat.min_def];split<;>omega) (zQ _ mD) (by rw [nV];simp only [List.size_toArray,GD];omega) h1d
 have X:=Nm.aD (aV (uK (B:=B) (n:=n+1) (cap:=GC) (s:=2) (jL (fO LJ) c2.toArray) hB K6 hgm (by simp [BA]) (show c2.toArray.toList.take ((n+1)*2)=xs.take (i*2)++[x0,x1]++xs.drop (i*2) from GV)) (show w.grownBy ((W0.setRow w.heap.size c1.toArray).drew.setRow w.heap.size c2.toArray) (some g) from by
  refine⟨UU.os,UU.tape,UU.output,?_,fun k hk dM=>?_⟩
  ·rw [setRow_size];show w.heap.size<=(W0.setRow w.heap.size c1.toArray).heap.size
   rw [setRow_size];exact UU.size
  rw [setRow_other _ _ k _ (by omega)]
  show(W0.setRow w.heap.size c1.toArray).heap[k]? =_
  rw [setRow_other _ _ k _ (by omega)]
  exact UU.block k hk))
 have y1:¬GC=i:=by omega
 have y2:¬GC=i+1:=by omega
 have y3:¬n+1<=cap:=by omega
 have y4:(cap:Int)<(n:Int)+1:=by omega
 have y5:IntKind.i64.wrap ((i:Int)+1)=(i:Int)+1:=by rw [IntKind.wrap_i64];omega
 have y6:(0:Int)<=(i:Int)+1:=by omega
 have y7:(i:Int)+1<=(n:Int)+1:=by omega
 unfold maxLen at hgm;clear mQ vI qD GV GD BA zQ Gi K9 hZ yX FH mD LJ hkW UU Ot Ou zR YZ;go_enter Tryz.func186,Tryz.ntmps186;go_wp2_with (at_builtin;refine vV rfl (.tmp 34) (.tmp 39) 191 3 rfl _ _ _ _ rfl rfl (xZ _) ?_;clear xZ)
 go_region
 all_goals
  go_wp2;go_ret;exact⟨.slice (some ⟨w.heap.size,0,none⟩) (n+1) GC,rfl,X.out.1,X.out.2,.inr (fun g' e=>by simp [Value.ownBlock] at e;omega)⟩
variable {d d0:ByteArray}{i n:Nat}{ps:List ByteArray}
namespace Dt
theorem ext_get{s:ByteArray}{e:Nat}(h:i<e)(he:e<=s.size):(s.extract i e)[0]'(by simp;omega)=s[i]:=by
 rw [ByteArray.getElem_extract];simp
theorem PH{s:ByteArray}{e:Nat}(h:i+n<=e)(he:e<=s.size):(s.extract i e).extract n (s.extract i e).size=s.extract (i+n) e:=by
 rw [ByteArray.extract_extract];congr 1;simp
 omega
theorem DZ:∀ (f:Nat) (s:ByteArray) (i:Nat),(fU f s i).size≠0->
 ∃ e,i<e∧e<=255∧e<=s.size∧fU f s i=s.extract 0 e∧∀ g,e-i<g->(Nm.jK g (s.extract i e)).isSome=true:=by
 intro f
 induction f with
 |zero=>intro s i h;simp [fU] at h
 |succ f ih=>
  intro s i h;rw [fU] at h ⊢
  by_cases h1:i<s.size∧i<255
  ·rw [dif_pos h1] at h ⊢
   by_cases h2:s[i].toNat=0
   ·rw [if_pos h2];refine⟨i+1,by omega,by omega,by omega,rfl,?_⟩;intro g hg;obtain⟨g,rfl⟩:∃ k,g=k+1:=⟨g-1,by omega⟩;rw [Nm.xS g _ (by simp;omega) (by rw [ext_get (by omega) (by omega)];exact h2) (by simp;omega)];rfl
   rw [if_neg h2] at h ⊢
   by_cases h3:63<s[i].toNat
   ·rw [if_pos h3] at h;simp at h
   rw [if_neg h3] at h ⊢;obtain⟨e,e1,e2,e3,e4,e5⟩:=ih s _ h;refine⟨e,by omega,e2,e3,e4,?_⟩;intro g hg;obtain⟨g,rfl⟩:∃ k,g=k+1:=⟨g-1,by omega⟩;have hp:0<(s.extract i e).size:=by simp;omega
   have h0:(s.extract i e)[0]=s[i]:=ext_get (by omega) e3;rw [Nm.rP g _ hp (by rw [h0];exact h2) (by rw [h0];omega) (by rw [h0];simp;omega),h0,PH (by omega) e3];have:=e5 g (by omega);rw [show i+(s[i].toNat+1)=i+s[i].toNat+1 by omega];simpa using this
  rw [dif_neg h1] at h;simp at h
theorem UV{s:ByteArray}(h:(dQ s).size≠0):(Nm.split (dQ s)).isSome=true:=by
 obtain⟨e,e1,e2,e3,e4,e5⟩:=DZ 256 s 0 h;have e6:dQ s=s.extract 0 e:=e4;rw [e6,Nm.rQ _ (by simp;omega)];exact e5 256 (by omega)
theorem KG(s:ByteArray):s.extract 0 s.size=s:=by simp
theorem Jb:∀ (g:Nat) (f:Nat) (s:ByteArray) (i:Nat),s.size<=255->255<f+i->i<=s.size->(Nm.jK g (s.extract i s.size)).isSome=true->fU f s i=s:=by
 intro g
 induction g with
 |zero=>intro f s i _ _ _ h;simp [Nm.jK] at h
 |succ g ih=>
  intro f s i hs hf hi h
  by_cases hp:i<s.size
  ·obtain⟨f,rfl⟩:∃ k,f=k+1:=⟨f-1,by omega⟩;have hz:(s.extract i s.size).size=s.size-i:=by simp
   have hq:0<(s.extract i s.size).size:=by omega
   have h0:(s.extract i s.size)[0]=s[i]:=ext_get hp (aI _);rw [fU,dif_pos ⟨hp,by omega⟩]
   by_cases h2:s[i].toNat=0
   ·rw [if_pos h2]
    by_cases h3:(s.extract i s.size).size=1
    ·rw [show i+1=s.size by omega];exact KG s
    rw [Nm.zK g _ hq (by rw [h0];exact h2) h3] at h;simp at h
   rw [if_neg h2]
   by_cases h3:63<s[i].toNat∨s.size-i<s[i].toNat+1
   ·rw [Nm.DF g _ hq (by rw [h0];exact h2) (by rw [h0,hz];exact h3)] at h;simp at h
   rw [if_neg (by omega)];rw [Nm.rP g _ hq (by rw [h0];exact h2) (by rw [h0];omega) (by rw [h0,hz];omega),h0,PH (by omega) (aI _)] at h;refine ih f s _ hs (by omega) (by omega) ?_;rw [show i+(s[i].toNat+1)=i+s[i].toNat+1 by omega] at h;simpa using h
  rw [Nm.sP _ _ (by simp;omega)] at h;simp at h
theorem GX(s:ByteArray):(Nm.split s).isSome=true↔(dQ s).size≠0∧(dQ s).size=s.size:=by
 constructor
 ·intro h
  by_cases hl:s.size<=255
  ·rw [Nm.rQ s hl] at h;have e:dQ s=s:=Jb 256 256 s 0 hl (by omega) (by omega) (by simpa using h);rw [e];refine⟨?_,rfl⟩;intro h0;rw [Nm.sP _ _ h0] at h;simp at h
  rw [Nm.DI s (by omega)] at h;simp at h
 rintro⟨h0,h⟩
 obtain⟨e,e1,e2,e3,e4,e5⟩:=DZ 256 s 0 h0;have e6:dQ s=s.extract 0 e:=e4;have e7:e=s.size:=by rw [e6] at h;simp at h;omega
 have e8:dQ s=s:=by rw [e6,e7];exact KG s
 have:=UV h0
 rwa [e8] at this
def oP(ps:List ByteArray):List UInt8:=(ps.map (fun x=>x.data.toList)).flatten
def GY:List Pc->List ByteArray->List UInt8
 |p::r,x::xs=>(if p.NB then Nm.eX x.data.toList else x.data.toList)++GY r xs
 |_,_=>[]
theorem aHr(d:ByteArray)(n:Nat)(h:n<=d.size):(d.extract 0 n).data.toList++(d.extract n d.size).data.toList=d.data.toList:=by
 have e1:(d.extract 0 n).data.toList=d.data.toList.take n:=by simp
 have e2:(d.extract n d.size).data.toList=d.data.toList.drop n:=by
  simp only [ByteArray.data_extract,Array.toList_extract];rw [List.extract_eq_take_drop,List.take_of_length_le (by simp)]
 rw [e1,e2,List.take_append_drop]
theorem Gj:∀ (fs:List Pc) (d:ByteArray) (ps:List ByteArray),parts fs d=some ps->fs.length=ps.length∧oP ps=d.data.toList∧
 ∀ (i:Nat) (p:Pc) (x:ByteArray),fs[i]? =some p->ps[i]? =some x->p.NB=true->(Nm.split x).isSome=true:=by
 intro fs
 induction fs with
 |nil=>
  intro d ps h;rw [parts] at h
  split at h
  ·rename_i h0;simp at h;subst h;refine⟨rfl,?_,?_⟩
   ·have:d.data.toList.length=0:=by simpa using h0
    rw [List.length_eq_zero_iff.1 this];rfl
   intro i p x h;simp at h
  simp at h
 |cons p r ih=>
  intro d ps h;rw [parts] at h
  cases hs:sz p d with
  |none=>rw [hs] at h;simp at h
  |some n=>
   rw [hs] at h;have hn:=Ny hs
   cases hr:parts r (d.extract n d.size) with
   |none=>simp [hr] at h
   |some l=>
    simp [hr] at h
    obtain⟨i1,i2,i3⟩:=ih _ _ hr;subst h;refine⟨by simp [i1],?_,?_⟩
    ·have:oP (d.extract 0 n::l)=(d.extract 0 n).data.toList++oP l:=by simp [oP]
     rw [this,i2,aHr d n hn]
    intro i q x hq hx hN
    cases i with
    |zero=>
     simp at hq hx;subst hq;subst hx;cases p using Pc.elim<;>simp [Pc.NB] at hN
     simp only [sz] at hs
     split at hs
     ·simp at hs
     rename_i h0;simp at hs;obtain⟨e,e1,e2,e3,e4,e5⟩:=DZ 256 d 0 h0;have e6:dQ d=d.extract 0 e:=e4;have e7:e=n:=by rw [e6] at hs;simp at hs;omega
     rw [<- e7,<- e6]
     exact UV h0
    |succ i=>
     simp at hq hx;exact i3 i q x hq hx hN
def wH(s:Nat×Nat)(l:List UInt8):List UInt8:=l.take s.1++(Nm.eX ((l.drop s.1).take (s.2-s.1))++l.drop s.2)
def oQ(sp:List (Nat×Nat))(l:List UInt8):List UInt8:=sp.foldl (fun l s=>wH s l) l
theorem Jc:∀ (fs:List Pc) (ps:List ByteArray) (pre:List UInt8),fs.length=ps.length->oQ (spansOf fs ps pre.length) (pre++oP ps)=pre++GY fs ps:=by
 intro fs
 induction fs with
 |nil=>
  intro ps pre h;have:ps=[]:=List.length_eq_zero_iff.1 (by simpa using h.symm);subst this
  simp [spansOf,oQ,GY,oP]
 |cons p r ih=>
  intro ps pre h
  cases ps with
  |nil=>simp at h
  |cons x xs=>
   have hl:r.length=xs.length:=by simpa using h
   have hx:x.data.toList.length=x.size:=by simp
   have hc:oP (x::xs)=x.data.toList++oP xs:=by simp [oP]
   rw [spansOf,hc,GY]
   cases hN:p.NB with
   |true=>
    simp only [if_true]
    have e1:wH (pre.length,pre.length+x.size) (pre++(x.data.toList++oP xs))=(pre++Nm.eX x.data.toList)++oP xs:=by
     have k1:(pre++(x.data.toList++oP xs)).take pre.length=pre:=List.take_left' rfl;have k2:(pre++(x.data.toList++oP xs)).drop pre.length=x.data.toList++oP xs:=List.drop_left' rfl;have k3:(x.data.toList++oP xs).take x.size=x.data.toList:=List.take_left' hx
     have k4:(pre++(x.data.toList++oP xs)).drop (pre.length+x.size)=oP xs:=by
      rw [<- List.append_assoc];exact List.drop_left' (by rw [oJ,hx])
     simp only [wH];rw [k1,k2,Nat.add_sub_cancel_left,k3,k4,List.append_assoc]
    have e2:oQ ((pre.length,pre.length+x.size)::spansOf r xs (pre.length+x.size)) (pre++(x.data.toList++oP xs))=oQ (spansOf r xs (pre.length+x.size)) ((pre++Nm.eX x.data.toList)++oP xs):=by
     rw [<- e1];rfl
    have e3:pre.length+x.size=(pre++Nm.eX x.data.toList).length:=by simp [Nm.eX]
    rw [e2,e3,ih xs _ hl]
    simp
   |false=>
    simp only [if_false,Bool.false_eq_true];have e3:pre.length+x.size=(pre++x.data.toList).length:=by simp
    rw [e3,<- List.append_assoc,ih xs _ hl];simp
def Jd(t:Int)(d:ByteArray):ByteArray:=
 match spans (nX t) 0 d with
 |none=>ByteArray.empty
 |some sp=>⟨(oQ sp d.data.toList).toArray⟩
theorem Ov{t:Int}(h:parts (qH t) d=some ps):Jd t d=⟨(GY (qH t) ps).toArray⟩:=by
 obtain⟨h1,h2,h3⟩:=Gj _ _ _ h;rw [Jd,<- vH,oM,h];have:=Jc (qH t) ps [] h1;simp only [List.length_nil,List.nil_append] at this;rw [h2] at this;simp only [Option.map_some,this]
def PAt(fs:List Pc)(d0:ByteArray)(ps:List ByteArray)(r:List Pc)(d:ByteArray):Prop:=
 parts fs d0=(parts r d).map (fun t=>ps++t)
theorem X_(fs:List Pc)(d0:ByteArray):PAt fs d0 [] fs d0:=by simp [PAt]
theorem aHs{fs:List Pc}(h:PAt fs d0 ps [] d)(h0:d.size=0):parts fs d0=some ps:=by
 rw [h,parts,if_pos h0];simp
theorem aC7{fs:List Pc}(h:PAt fs d0 ps [] d)(h0:d.size≠0):parts fs d0=none:=by
 rw [h,parts,if_neg h0];rfl
theorem vJ{fs r:List Pc}{p:Pc}(h:PAt fs d0 ps (p::r) d)(h0:sz p d=none):parts fs d0=none:=by
 rw [h,parts,h0];rfl
theorem yA{fs r:List Pc}{p:Pc}{x:ByteArray}(h:PAt fs d0 ps (p::r) d)(h0:sz p d=some n)(hx:d.extract 0 n=x):PAt fs d0 (ps++[x]) r (d.extract x.size d.size):=by
 have hn:=Ny h0;have e:x.size=n:=by rw [<- hx];simp;omega
 rw [PAt,h,parts,h0,Option.map_map,hx,e];congr 1;funext t;simp
theorem aC8{f:ByteArray}{k:Nat}(hk:k<f.size):(f.data.toList.map uF).drop k=uF f[k]::(f.data.toList.map uF).drop (k+1):=by
 have hl:k<(f.data.toList.map uF).length:=by simpa using hk
 rw [List.drop_eq_getElem_cons hl];simp
 rfl
theorem Ow(d:ByteArray)(h:(dQ d).size≠0):d.extract 0 (dQ d).size=dQ d:=by
 obtain⟨e,e1,e2,e3,e4,e5⟩:=DZ 256 d 0 h;have e6:dQ d=d.extract 0 e:=e4;have e7:(dQ d).size=e:=by rw [e6];simp;omega
 rw [e7,e6]
theorem Je(d:ByteArray):d.extract 0 (fP d).size=fP d:=by
 by_cases h:0<d.size
 ·by_cases h1:d[0].toNat+1<=d.size
  ·have e:fP d=d.extract 0 (d[0].toNat+1):=by rw [fP,dif_pos h,if_pos h1]
   have e7:(fP d).size=d[0].toNat+1:=by rw [e];simp;omega
   rw [e7,e]
  have e:fP d=ByteArray.empty:=by rw [fP,dif_pos h,if_neg h1]
  rw [e];simp
 have e:fP d=ByteArray.empty:=by rw [fP,dif_neg h]
 rw [e];simp
theorem ZC(d:ByteArray):d.extract d.size d.size=ByteArray.empty:=by
 apply Nm.lL;simp
def TAt(d p:ByteArray):Prop:=p.size<=d.size∧d.extract 0 p.size=p∧DT d=p.size+DT (d.extract p.size d.size)
theorem Y0(d:ByteArray):TAt d ⟨#[]⟩:=by
 have e:(⟨#[]⟩:ByteArray).size=0:=rfl;refine⟨by omega,?_,?_⟩
 ·rw [e];apply Nm.lL;simp
 rw [e];simp
theorem aHt{p:ByteArray}(h:TAt d p)(h0:(fP (d.extract p.size d.size)).size=0):DT d=p.size:=by
 rw [h.2.2,YM h0];rfl
theorem aC9{p:ByteArray}(h:TAt d p)(h0:(fP (d.extract p.size d.size)).size≠0):TAt d (p++fP (d.extract p.size d.size)):=by
 obtain⟨h1,h2,h3⟩:=h;have ht:=uL (d.extract p.size d.size);have hte:=Je (d.extract p.size d.size);generalize hT:fP (d.extract p.size d.size)=T at*;have hz:(p++T).size=p.size+T.size:=by simp
 have hd:(d.extract p.size d.size).size=d.size-p.size:=by simp
 refine⟨by omega,?_,?_⟩
 ·apply Nm.lL;rw [hz];have e1:(p++T).data.toList=p.data.toList++T.data.toList:=by simp
  rw [e1,<- hte]
  conv=>rhs;arg 1;rw [<- h2]
  simp only [ByteArray.data_extract,Array.toList_extract,List.extract_eq_take_drop];simp
  rw [List.take_add];congr 1;rw [List.take_take,Nat.min_eq_left (by omega)]
 rw [hz,h3,Nv (by rw [hT];exact h0),hT];have e:(d.extract p.size d.size).extract T.size (d.extract p.size d.size).size=d.extract (p.size+T.size) d.size:=PH (by omega) (aI _);rw [e];omega
theorem SC(h:(fP d).size<2∨16<(fP d).size):RO d=false:=by
 rw [RO]
 rcases h with h|h
 ·simp;omega
 simp;omega
theorem aHu{k:Nat}(hk:1<=k)(hl:k<(fP d).size)(h:jU (fP d)[k]=false):RO d=false:=by
 rw [RO,Bool.and_eq_false_iff];right;rw [List.all_eq_false];refine⟨(fP d)[k],?_,by simp [h]⟩
 have:((fP d).data.toList.drop 1)[k-1]? =some (fP d)[k]:=by
  rw [List.getElem?_drop,show 1+(k-1)=k by omega];exact Nm.lF hl
 exact dA this
theorem aDa(h2:2<=(fP d).size)(h16:(fP d).size<=16)(h:∀ j,1<=j->(hj:j<(fP d).size)->jU (fP d)[j]=true):RO d=true:=by
 rw [RO];simp only [h2,h16,decide_true,Bool.true_and,List.all_eq_true];intro c hc;obtain⟨i,hi⟩:=List.getElem?_of_mem hc;rw [List.getElem?_drop] at hi
 have hl:1+i<(fP d).size:=by
  have:=(dL hi).1;simpa using this
 rw [Nm.lF hl] at hi;simp at hi;rw [<- hi];exact h _ (by omega) hl
end Dt
def Ox(c:UInt8):Bool:=decide (48<=c.toNat)&&decide (c.toNat<=57)
def Oy(c:UInt8):Bool:=decide (97<=(Nm.low c).toNat)&&decide ((Nm.low c).toNat<=122)
theorem aDb(c:UInt8):Dt.jU c=(Ox c||Oy c):=by
 unfold Dt.jU Ox Oy Nm.low;have hc:=c.toNat_lt
 by_cases h:65<=c.toNat∧c.toNat<=90
 ·rw [if_pos h];have e:(UInt8.ofNat (c.toNat+32)).toNat=c.toNat+32:=by simp;omega
  rw [e,Bool.eq_iff_iff];simp
  omega
 rw [if_neg h,Bool.eq_iff_iff];simp
 omega
theorem Jf(c:UInt8)(w:World):
 Calls Tryz.prog 241 #[.int .u8 c.toNat] w fun e w'=>e=.returned (.bool (Ox c))∧w'=w:=by
 by_cases h1:48<=c.toNat
 ·have d1:decide ((48:Int)<=(c.toNat:Int))=true:=by simp;omega
  have HE:Hid (Ox c=decide ((c.toNat:Int)<=57)):=by
   show _=_
   rw [Ox,oI h1,Bool.true_and,Bool.eq_iff_iff]
   simp;omega
  go_enter Tryz.func241,Tryz.ntmps241;go_wp2;go_ret;rw [HE.out];exact⟨rfl,rfl⟩
 have d1:decide ((48:Int)<=(c.toNat:Int))=false:=by simp;omega
 have HE:Hid (Ox c=false):=by
  show _=_
  rw [Ox,oF h1];rfl
 go_enter Tryz.func241,Tryz.ntmps241;go_wp2;go_ret;rw [HE.out];exact⟨rfl,rfl⟩
theorem Jg(c:UInt8)(w:World):
 Calls Tryz.prog 242 #[.int .u8 c.toNat] w fun e w'=>e=.returned (.bool (Oy c))∧w'=w:=by
 have aX:=wO c
 by_cases h1:97<=(Nm.low c).toNat
 ·have HE:Hid (Oy c=decide (((Nm.low c).toNat:Int)<=122)):=by
   show _=_
   rw [Oy,oI h1,Bool.true_and,Bool.eq_iff_iff]
   simp;omega
  have d1:decide ((97:Int)<=((Nm.low c).toNat:Int))=true:=by simp;omega
  go_enter Tryz.func242,Tryz.ntmps242;go_wp2_with (go_at_call 160;refine(aX _).mono ?_;rintro e w1 ⟨rfl,rfl⟩)
  go_ret;rw [HE.out];exact⟨rfl,rfl⟩
 have d1:decide ((97:Int)<=((Nm.low c).toNat:Int))=false:=by simp;omega
 have HE:Hid (Oy c=false):=by
  show _=_
  rw [Oy,oF h1];rfl
 go_enter Tryz.func242,Tryz.ntmps242;go_wp2_with (go_at_call 160;refine(aX _).mono ?_;rintro e w1 ⟨rfl,rfl⟩)
 go_ret;rw [HE.out];exact⟨rfl,rfl⟩
def Jh(t:ByteArray):Bool:=t.data.toList.all Dt.jU&&(decide (0<t.size)&&decide (t.size<=15))
theorem aDc{t:ByteArray}{j:Nat}(hj:j<t.size)(h:Dt.jU t[j]=false):Jh t=false:=by
 rw [Jh,Bool.and_eq_false_iff];left;rw [List.all_eq_false];exact⟨t[j],dA (Nm.lF hj),by simp [h]⟩
theorem Y1{t:ByteArray}(h:∀ j,(hj:j<t.size)->Dt.jU t[j]=true):Jh t=(decide (0<t.size)&&decide (t.size<=15)):=by
 rw [Jh]
 have:t.data.toList.all Dt.jU=true:=by
  rw [List.all_eq_true];intro c hc;obtain⟨i,hi⟩:=List.getElem?_of_mem hc
  have hl:i<t.size:=by
   have:=(dL hi).1;simpa using this
  rw [Nm.lF hl] at hi;simp at hi;rw [<- hi];exact h _ hl
 rw [this,Bool.true_and]
theorem Y2(t:ByteArray)(w:World)(ht:t.size<=1000000000):
 Calls Tryz.prog 240 #[.string t] w fun e w'=>e=.returned (.bool (Jh t))∧w'=w:=by
 go_enter Tryz.func240,Tryz.ntmps240;go_wp2
 go_loop [6] (fun v=>∃ j:Nat,j<=t.size∧v=.int .i64 j∧∀ i,i<j->(hi:i<t.size)->Dt.jU t[i]=true) (fun v=>t.size-(intOf v).toNat)
 ·exact⟨0,by omega,rfl,fun i h=>by omega⟩
 obtain⟨j,hj,rfl,ha⟩:=hrel
 by_cases bY:j<t.size
 ·have SE:(j:Int)<(t.size:Int):=by omega
  have hd:=Jf t[j];have hl:=Jg t[j];have hor:=aDb t[j]
  cases hA:Ox t[j] with
  |true=>
   have HJ:Hid (∀ i,i<j+1->(hi:i<t.size)->Dt.jU t[i]=true):=by
    show ∀ i,_
    intro i h2 h3
    by_cases e:i=j
    ·subst e;rw [hor,hA];rfl
    exact ha i (by omega) h3
   rw [hA] at hd;clear ha hor hA;go_wp2_with (first|(go_at_call 241;refine(hd _).mono ?_;rintro e w2 ⟨rfl,hw⟩;obtain rfl:w=w2:=hw.symm;clear hw)|(go_at_call 242;refine(hl _).mono ?_;rintro e w2 ⟨rfl,hw⟩;obtain rfl:w=w2:=hw.symm;clear hw))
   go_round
   ·exact⟨j+1,by omega,by go_num,HJ.out⟩
   simp [intOf];omega
  |false=>
   rw [hA] at hd
   cases hB:Oy t[j] with
   |true=>
    have HJ:Hid (∀ i,i<j+1->(hi:i<t.size)->Dt.jU t[i]=true):=by
     show ∀ i,_
     intro i h2 h3
     by_cases e:i=j
     ·subst e;rw [hor,hB];simp
     exact ha i (by omega) h3
    rw [hB] at hl;clear ha hor hA hB;go_wp2_with (first|(go_at_call 241;refine(hd _).mono ?_;rintro e w2 ⟨rfl,hw⟩;obtain rfl:w=w2:=hw.symm;clear hw)|(go_at_call 242;refine(hl _).mono ?_;rintro e w2 ⟨rfl,hw⟩;obtain rfl:w=w2:=hw.symm;clear hw))
    go_round
    ·exact⟨j+1,by omega,by go_num,HJ.out⟩
    simp [intOf];omega
   |false=>
    have HT:=Nm.aD (aDc bY (by rw [hor,hA,hB];rfl));rw [hB] at hl;clear ha hor hA hB;go_wp2_with (first|(go_at_call 241;refine(hd _).mono ?_;rintro e w2 ⟨rfl,hw⟩;obtain rfl:w=w2:=hw.symm;clear hw)|(go_at_call 242;refine(hl _).mono ?_;rintro e w2 ⟨rfl,hw⟩;obtain rfl:w=w2:=hw.symm;clear hw))
    go_ret;rw [HT.out];exact⟨rfl,rfl⟩
 have SE:(t.size:Int)<=(j:Int):=by omega
 have HT:=Nm.aD (Y1 (fun i h=>ha i (by omega) h));clear ha
 by_cases h0:0<t.size
 ·have K8:(0:Int)<(t.size:Int):=by omega
  have HU:Hid (Jh t=decide ((t.size:Int)<=15)):=by
   show _=_
   rw [HT.out,oI h0,Bool.true_and,Bool.eq_iff_iff]
   simp;omega
  clear HT;go_wp2;go_ret;rw [HU.out];exact⟨rfl,rfl⟩
 have K8:(t.size:Int)<=0:=by omega
 have HU:Hid (Jh t=false):=by
  show _=_
  rw [HT.out,oF h0,Bool.false_and]
 clear HT;go_wp2;go_ret;rw [HU.out];exact⟨rfl,rfl⟩
theorem aKo(hn:(Dt.fP d).size=n)(_:n≠0):Jh (d.extract 1 n)=Dt.RO d:=by
 have hle:=Dt.uL d;have he:=Dt.Je d;rw [hn] at he
 have e1:(d.extract 1 n).data.toList=(Dt.fP d).data.toList.drop 1:=by
  rw [<- he];simp only [ByteArray.data_extract,Array.toList_extract,List.extract_eq_take_drop];simp
  rw [<- List.drop_one,<- List.drop_one,List.drop_take]
 have e2:(d.extract 1 n).size=n-1:=by simp;omega
 rw [Jh,Dt.RO,e1,e2,hn,Bool.eq_iff_iff];simp
 constructor
 ·rintro⟨h1,h2,h3⟩;exact⟨⟨by omega,by omega⟩,h1⟩
 rintro⟨⟨h1,h2⟩,h3⟩;exact⟨h3,by omega,by omega⟩
def szV(o:Option Nat):Value:=.tuple #[.int .i64 ((o.getD 0:Nat):Int),.bool o.isSome]
theorem ZF{s:ByteArray}(h:Dt.dQ s=Dt.fU 256 s i)(h1:Dt.fU 256 s i=ByteArray.empty):szV (Dt.sz .nm s)=.tuple #[.int .i64 0,.bool false]:=by
 have:(Dt.dQ s).size=0:=by rw [h,h1];rfl
 rw [Dt.sz,if_pos this];rfl
theorem aDd{s:ByteArray}(h:Dt.dQ s=Dt.fU 256 s i)(h1:i<s.size)(h2:i<255)(h0:s[i].toNat=0):szV (Dt.sz .nm s)=.tuple #[.int .i64 ((i:Int)+1),.bool true]:=by
 have e:Dt.fU 256 s i=s.extract 0 (i+1):=by rw [Dt.fU,dif_pos ⟨h1,h2⟩,if_pos h0]
 have e1:(Dt.dQ s).size=i+1:=by rw [h,e];simp;omega
 rw [Dt.sz,if_neg (by omega),e1];rfl
theorem aDe{s:ByteArray}(h:Dt.dQ s=Dt.fU 256 s i)(h1:i<s.size)(h2:i<255)(h0:s[i].toNat≠0)(h3:s[i].toNat<=63):Dt.dQ s=Dt.fU 256 s (i+(1+s[i].toNat)):=by
 rw [h,Dt.fU,dif_pos ⟨h1,h2⟩,if_neg h0,if_neg (by omega),show i+s[i].toNat+1=i+(1+s[i].toNat) by omega];exact Dt.OQ _ _ _ _ (by omega) (by omega)
theorem aHv{s:ByteArray}(h1:i<s.size)(h2:i<255)(h0:63<s[i].toNat):Dt.fU 256 s i=ByteArray.empty:=by
 rw [Dt.fU,dif_pos ⟨h1,h2⟩,if_neg (by omega),if_pos h0]
theorem K_{s:ByteArray}(h:¬(i<s.size∧i<255)):Dt.fU 256 s i=ByteArray.empty:=by
 rw [Dt.fU,dif_neg h]
theorem PI(s:ByteArray)(w:World):
 Calls Tryz.prog 113 #[.string s] w fun e w'=>e=.returned (szV (Dt.sz .nm s))∧w'=w:=by
 have H0:Dt.dQ s=Dt.fU 256 s 0:=rfl;go_enter Tryz.func113,Tryz.ntmps113;go_wp2
 go_loop [4] (fun v=>∃ i:Nat,i<255∧v=.int .i64 i∧Dt.dQ s=Dt.fU 256 s i) (fun v=>400-(intOf v).toNat)
 ·exact⟨0,by omega,rfl,H0⟩
 obtain⟨i,hi,rfl,hn⟩:=hrel;clear H0
 by_cases h1:i<s.size
 ·have ZG:(i:Int)<(s.size:Int):=by omega
  have hc:(s[i].toNat:Int)<256:=by have:=s[i].toNat_lt;omega
  by_cases h3:s[i].toNat=0
  ·have HN:=Nm.aD (aDd hn h1 hi h3);have h3':((s[i].toNat:Int)==0)=true:=by rw [beq_iff_eq];omega
   clear hn h3;go_wp2;go_ret2;rw [HN.out];exact⟨rfl,rfl⟩
  have h3':((s[i].toNat:Int)==0)=false:=by rw [fC];omega
  have h3'':(0:Int)<(s[i].toNat:Int):=by omega
  by_cases h4:63<s[i].toNat
  ·have HN:=Nm.aD (ZF hn (aHv h1 hi h4));have Mt:(63:Int)<(s[i].toNat:Int):=by omega
   clear hn h3;go_wp2_with (go_at_call 148;go_in)
   go_ret2;rw [HN.out];exact⟨rfl,rfl⟩
  have Mt:(s[i].toNat:Int)<=63:=by omega
  have mI:=aDe hn h1 hi h3 (by omega)
  by_cases h5:255<=i+(1+s[i].toNat)
  ·have HN:=Nm.aD (ZF mI (K_ (by omega)));have h5':(255:Int)<=(i:Int)+(1+(s[i].toNat:Int)):=by omega
   clear hn h3 mI;go_wp2_with (go_at_call 148;go_in)
   go_ret2;rw [HN.out];exact⟨rfl,rfl⟩
  have HN:=Nm.aD mI;have h5':(i:Int)+(1+(s[i].toNat:Int))<255:=by omega
  clear hn h3 mI;go_wp2_with (go_at_call 148;go_in)
  go_round
  ·exact⟨i+(1+s[i].toNat),by omega,by go_num,HN.out⟩
  simp [intOf];omega
 have HN:=Nm.aD (ZF hn (K_ (by omega)));have ZG:(s.size:Int)<=(i:Int):=by omega
 clear hn;go_wp2;go_ret2;rw [HN.out];exact⟨rfl,rfl⟩
theorem Tryz.aHw:(Tryz.prog.info? 5).map (fun i=>(i.zero,i.size,i.bytes))=some (some (.int .u8 0),1,1):=by kernel_rfl
theorem aDf(c:Nat)(W:World):(convert 22 9 (.slice (some ⟨c,0,none⟩) 0 0)).run Tryz.prog W=.ok (.string ByteArray.empty) W:=by
 exact run_convert_bytes_back W 22 9 5 ⟨c,0,none⟩ 0 [] Tryz.underlying22 Tryz.underlying5 Tryz.underlying9 (by intro j hj;simp at hj)
theorem PK(s:ByteArray)(w:World)(hs:s.size<=1000000000):
 Calls Tryz.prog 73 #[.string s] w fun e w'=>e=.returned (.string (Nm.small s))∧Below w.heap.size w w':=by
 obtain⟨j0,hj,k0,k1,k2⟩:=info_parts Tryz.aHw
 by_cases hz:s.size=0
 ·have hc:=fun W=>aDf w.heap.size W
  have HE:Hid (Nm.small s=ByteArray.empty):=by
   show _=_
   apply Nm.lL;rw [Nm.eF,List.length_eq_zero_iff.1 (show s.data.toList.length=0 by simpa using hz)];rfl
  go_enter Tryz.func73,Tryz.ntmps73;go_wp2
  go_loop [3,4] (fun v i=>v=.slice (some ⟨w.heap.size,0,none⟩) 0 0∧i=.int .i64 0) (fun _ _=>0)
  ·exact⟨rfl,rfl⟩
  obtain⟨rfl,rfl⟩:=hrel;go_wp2;go_ret;rw [HE.out];exact⟨rfl,(aJ _ _).alloc (aI _) _⟩
 go_enter Tryz.func73,Tryz.ntmps73;go_wp2
 go_loopw [3,4] (fun v i wr=>∃ k:Nat,k<=s.size∧i=.int .i64 k∧wr.ownsRow w.heap.size 5 1 v k (Nm.LF (Nm.eX (s.data.toList.take k)))∧Below w.heap.size w wr)
  (fun _ i _=>s.size-(intOf i).toNat)
 ·exact⟨0,dR _,rfl,World.ownsRow_made w #[] 0 (aI _) (by decide) rfl,(aJ _ _).alloc (aI _) _⟩
 obtain⟨k,hk,rfl,aU,aG⟩:=hrel;have qA:=aG.size
 by_cases bY:k<s.size
 ·have HS:=Nm.aD (Nm.Nk (Nm.lF bY));have sI:(s[k].toNat:Int)<256:=by have:=s[k].toNat_lt;omega
  by_cases hup:65<=s[k].toNat∧s[k].toNat<=90
  ·have HL:=Nm.aD (Nm.Im hup);have d1:decide ((65:Int)<=(s[k].toNat:Int))=true:=by simp;omega
   have d2:decide ((s[k].toNat:Int)<=90)=true:=by simp;omega
   have fJ:(s[k].toNat:Int)<=90:=by omega
   clear hup;go_wp2_with (at_builtin;refine wpList_append_own _ rfl (.tmp 24) (.tmp 26) 22 rfl w.heap.size 5 j0 (.int .u8 0) 1 1 Tryz.underlying22 hj k0 k1 k2 rfl (by decide) _ _ _ rfl (aU.alloc _) ⟨wr.heap.size,0,none⟩ 1 1 [.int .u8 ((s[k].toNat:Int)+32)] rfl rfl (cell_one_new _ _ _) (Nm.one_cell _ rfl) (by unfold maxLen;omega) (by omega) (by simp;omega) ?_;intro vb wb dO sS GR;clear GR;rw [<- HL.out] at dO;have R2:=Nm.GA (x:=[Nm.low s[k]]) (by simp;omega) (aU.alloc _) (aG.alloc qA _) dO sS;clear dO sS)
   go_roundw
   ·exact⟨k+1,by omega,by go_num,by rw [HS.out];exact R2.1,R2.2⟩
   simp [intOf];omega
  have HL:=Nm.aD (Nm.MX hup)
  by_cases hlo:65<=s[k].toNat
  ·have d1:decide ((65:Int)<=(s[k].toNat:Int))=true:=by simp;omega
   have d2:decide ((s[k].toNat:Int)<=90)=false:=by simp;omega
   clear hup;go_wp2_with (at_builtin;refine wpList_append_own _ rfl (.tmp 24) (.tmp 26) 22 rfl w.heap.size 5 j0 (.int .u8 0) 1 1 Tryz.underlying22 hj k0 k1 k2 rfl (by decide) _ _ _ rfl (aU.alloc _) ⟨wr.heap.size,0,none⟩ 1 1 [.int .u8 (s[k].toNat:Int)] rfl rfl (cell_one_new _ _ _) (Nm.one_cell _ rfl) (by unfold maxLen;omega) (by omega) (by simp;omega) ?_;intro vb wb dO sS GR;clear GR;have R2:=Nm.GA (x:=[s[k]]) (by simp;omega) (aU.alloc _) (aG.alloc qA _) dO sS;clear dO sS)
   go_roundw
   ·exact⟨k+1,by omega,by go_num,by rw [HS.out,HL.out];exact R2.1,R2.2⟩
   simp [intOf];omega
  have d1:decide ((65:Int)<=(s[k].toNat:Int))=false:=by simp;omega
  clear hup;go_wp2_with (at_builtin;refine wpList_append_own _ rfl (.tmp 24) (.tmp 26) 22 rfl w.heap.size 5 j0 (.int .u8 0) 1 1 Tryz.underlying22 hj k0 k1 k2 rfl (by decide) _ _ _ rfl (aU.alloc _) ⟨wr.heap.size,0,none⟩ 1 1 [.int .u8 (s[k].toNat:Int)] rfl rfl (cell_one_new _ _ _) (Nm.one_cell _ rfl) (by unfold maxLen;omega) (by omega) (by simp;omega) ?_;intro vb wb dO sS GR;clear GR;have R2:=Nm.GA (x:=[s[k]]) (by simp;omega) (aU.alloc _) (aG.alloc qA _) dO sS;clear dO sS)
  go_roundw
  ·exact⟨k+1,by omega,by go_num,by rw [HS.out,HL.out];exact R2.1,R2.2⟩
  simp [intOf];omega
 have mK:k=s.size:=by omega
 subst mK;obtain⟨g,cp,rfl,OB⟩:=Nm.OP (P:=Tryz.prog) Tryz.underlying22 Tryz.underlying5 Tryz.underlying9 aU (by omega);rw [List.take_of_length_le (by simp)] at OB;have he:(⟨(Nm.eX s.data.toList).toArray⟩:ByteArray)=Nm.small s:=rfl;rw [he] at OB;clear aU bY he;go_wp2;go_ret;exact⟨rfl,aG⟩
