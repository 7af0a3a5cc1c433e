import Derived.Test.YtlddifpnkeafpaaGreatJFoldD
import Derived.Test.YtlddifpnkeafpaaGreatJTbGI
set_option linter.unusedVariables false
set_option maxHeartbeats 3200000
set_option maxRecDepth 100000
namespace Go.Proofs.YtlddifpnkeafpaaGreat
variable {B C b c cap e g i k m n:Nat}{T:TypeId}{a:Option Addr}{aL ap:ByteArray}{cs:Array Value}{iT l:List It}{p:Zp}{v x:Value}{w w0 w1:World}{xs:List Value}
section
open Go.RowKit
theorem NL(o:dG)(B:Nat)(ty:Int)(w:World)(h:yB w B o)(hl:o.ss.length<=500000)(hd:VE o.ss):
 Calls Tryz.prog 114 #[ptr o.hd,.int .i64 ty] w fun e w'=>Below w.heap.size w w'∧
  ((gY (eP ty) o.ss=true∧∃ s,o.ss[posOf (eP ty) o.ss]? =some s∧s.ty=ty∧e=.returned (.tuple #[ptr s.dS,.bool true]))∨(gY (eP ty) o.ss=false∧e=.returned (.tuple #[.pointer none,.bool false]))):=by
 have nV:(lQ o.ss).length=o.ss.length:=by simp [lQ]
 have XF:∀ (tb i:Nat) (p:Value×Value),(lQ o.ss)[i]? =some p->∀ W,Below w.heap.size w W->bW W tb #[.pointer (some ⟨o.hd,0,none⟩)] 126->Calls Tryz.prog 177 #[.agg #[p.1,p.2],.int .i64 ty,.pointer (some ⟨tb,0,none⟩)] W fun e w'=>e=.returned (.int .i64 (pO (eP ty) o.ss i))∧Below W.heap.size W w':=by
  intro tb i p hp W hW kb;simp only [lQ,List.getElem?_map,Option.map_eq_some_iff] at hp;obtain⟨q,hq,rfl⟩:=hp;rw [jV hq];exact VB tb o.hd o.rv (ptr q.dS) q.ty ty W kb (aB h.head hW)
 have mF:=lI (f:=eP ty) hd (fun a b Pe hb=>by
  rw [eP,vL] at hb ⊢
  omega)
 have zG:=rV o.ss mF
 cases kY:gY (eP ty) o.ss with
 |true=>
  obtain⟨x,hx,NF⟩:=uP kY;have hx':(lQ o.ss)[posOf (eP ty) o.ss]? =some (.int .i64 x.ty,ptr x.dS):=by simp [lQ,hx]
  refine(aIi o.hd B UW o.rv (.int .i64 ty) (lQ o.ss) (pO (eP ty) o.ss) (posOf (eP ty) o.ss) _ w h.head h.rows (by omega) XF (by rw [nV];exact mF) (by rw [nV];exact zG) hx' (by rw [jV hx];exact NF)).mono ?_;rintro e w' ⟨rfl,hb⟩
  exact⟨hb,.inl ⟨rfl,x,hx,SY NF,rfl⟩⟩
 |false=>
  refine(aEt o.hd B UW o.rv (.int .i64 ty) (lQ o.ss) (pO (eP ty) o.ss) (posOf (eP ty) o.ss) w h.head h.rows (by omega) XF (by rw [nV];exact mF) (by rw [nV];exact zG) (by rw [nV];exact IB kY)).mono ?_;rintro e w' ⟨rfl,hb⟩;exact⟨hb,.inr ⟨rfl,rfl⟩⟩
theorem wW(o:dG)(B:Nat)(ty:Int)(w:World)(h:yB w B o)(hl:o.ss.length<=500000)(hd:VE o.ss):
 Calls Tryz.prog 95 #[ptr o.dS,.int .i64 ty] w fun e w'=>e=.returned (.bool (gY (eP ty) o.ss))∧Below w.heap.size w w':=by
 have hg:=NL o B ty w h hl hd;have rn:=aA h.node
 unfold ptr at*;go_enter Tryz.func95,Tryz.ntmps95;go_wp2_with fail
 refine hg.mono ?_;rintro e w' ⟨hb,⟨kY,s,_,_,rfl⟩|⟨kY,rfl⟩⟩
 ·have HIN:=Nm.aD kY;clear kY hg;go_wp2;go_ret;exact⟨by rw [HIN.out];rfl,hb⟩
 have HIN:=Nm.aD kY;clear kY hg;go_wp2;go_ret;exact⟨by rw [HIN.out];rfl,hb⟩
theorem tN(th:Nat)(rv:Value)(os:List dG)(B:Nat)(nv:Value)(lab:List ByteArray)(w:World)(h:nQ w B th rv os)(hl:os.length<=500000)(hd:Jz os)(jD:mU w (jF th rv os) os)(hn:Nm.bP w nv lab)(FC:lab.length<=1000000000):
 Calls Tryz.prog 70 #[ptr th,nv] w fun e w'=>Below w.heap.size w w'∧
  ((gY (dX lab) os=true∧∃ o,os[posOf (dX lab) os]? =some o∧Nm.aN o.lab lab=0∧e=.returned (.tuple #[ptr o.dS,.bool true]))∨(gY (dX lab) os=false∧e=.returned (.tuple #[.pointer none,.bool false]))):=by
 have nV:(jS os).length=os.length:=by simp [jS]
 have XF:∀ (tb i:Nat) (p:Value×Value),(jS os)[i]? =some p->∀ W,Below w.heap.size w W->bW W tb #[.pointer (some ⟨th,0,none⟩)] 100->Calls Tryz.prog 134 #[.agg #[p.1,p.2],nv,.pointer (some ⟨tb,0,none⟩)] W fun e w'=>e=.returned (.int .i64 (pO (dX lab) os i))∧Below W.heap.size W w':=by
  intro tb i p hp W hW kb;simp only [jS,List.getElem?_map,Option.map_eq_some_iff] at hp;obtain⟨q,hq,rfl⟩:=hp;rw [jV hq];have zT:=jD q (dA hq);exact IG tb th rv (ptr q.dS) q.lv nv q.lab lab W kb (aB h.head hW) (zT.row.below hW) (hn.below hW) zT.fit.1 zT.fit.2 FC
 have mF:=lI (f:=dX lab) hd (fun a b Pe hb=>mG Pe hb);have zG:=rV os mF
 cases kY:gY (dX lab) os with
 |true=>
  obtain⟨x,hx,NF⟩:=uP kY;have hx':(jS os)[posOf (dX lab) os]? =some (x.lv,ptr x.dS):=by simp [jS,hx]
  refine(aH8 th B wI rv nv (jS os) (pO (dX lab) os) (posOf (dX lab) os) _ w h.head h.rows (by omega) XF (by rw [nV];exact mF) (by rw [nV];exact zG) hx' (by rw [jV hx];exact NF)).mono ?_;rintro e w' ⟨rfl,hb⟩
  exact⟨hb,.inl ⟨rfl,x,hx,NF,rfl⟩⟩
 |false=>
  refine(aD9 th B wI rv nv (jS os) (pO (dX lab) os) (posOf (dX lab) os) w h.head h.rows (by omega) XF (by rw [nV];exact mF) (by rw [nV];exact zG) (by rw [nV];exact IB kY)).mono ?_;rintro e w' ⟨rfl,hb⟩;exact⟨hb,.inr ⟨rfl,rfl⟩⟩
def EI(lab:List ByteArray)(ty:Int)(os:List dG):Bool:=match os[posOf (dX lab) os]? with
 |some o=>gY (dX lab) os&&gY (eP ty) o.ss
 |none=>false
theorem Rh(bb oo th:Nat)(rv:Value)(os:List dG)(B:Nat)(na:Option Addr)(nl nc:Nat)(lab:List ByteArray)(ty:Int)(w:World)(h:nQ w B th rv os)(hl:os.length<=500000)(hd:Yk os)(jD:mU w (jF th rv os) os)(hn:Nm.bP w (.slice na nl nc) lab)(FC:lab.length<=1000000000)(hc:w.cell? ⟨bb,oo+1,none⟩=some (ptr th)):
 Calls Tryz.prog 140 #[.pointer (some ⟨bb,oo,none⟩),.slice na nl nc,.int .i64 ty] w fun e w'=>e=.returned (.bool (EI lab ty os))∧Below w.heap.size w w':=by
 have hg:=tN th rv os B (.slice na nl nc) lab w h hl hd.1 jD hn FC;have hh:=fun o (ho:o∈os) W (hW:Below w.heap.size w W)=>wW o B ty W ((h.below hW).jG o ho) (by have:=(hd.2 o ho).2.1;omega) (hd.2 o ho).1
 unfold ptr at hc hg hh;have HH:=Nm.aD hh;clear hh h hd jD hn;go_enter Tryz.func140,Tryz.ntmps140;go_wp2_with fail
 refine hg.mono ?_;rintro e w1 ⟨hb,⟨kY,o,ho,_,rfl⟩|⟨kY,rfl⟩⟩
 ·have hh:=HH.out o (dA ho) w1 hb;have HE:Hid (EI lab ty os=gY (eP ty) o.ss):=by show _=_;rw [EI,ho,kY];rfl
  generalize gY (eP ty) o.ss=IS at*;clear hg kY ho;go_wp2_with fail
  refine hh.mono ?_;rintro e w2 ⟨rfl,b2⟩;go_wp2;go_ret;exact⟨by rw [HE.out];rfl,Nm.aC hb b2⟩
 have HE:Hid (EI lab ty os=false):=by
  show _=_
  rw [EI]
  cases os[posOf (dX lab) os]? with
  |none=>rfl
  |some o=>rw [kY];rfl
 clear hg kY;go_wp2;go_ret;exact⟨by rw [HE.out];rfl,hb⟩
def bH(r:Rr):It:=⟨r,Nm.dV r.own,oV r.ty r.da,false⟩
def gB(aL:ByteArray):List Rr->Nat->Option (Int×Nat)
 |[],_=>none
 |r::rs,i=>if pW r aL=0 then gB aL rs (i+1) else some (pW r aL,i)
theorem TJ:∀ (l:List Rr) (k i:Nat) (r:Rr),(∀ (j:Nat) (x:Rr),j<k->l[j]? =some x->pW x aL=0)->l[k]? =some r->pW r aL≠0->gB aL l i=some (pW r aL,i+k):=by
 intro l
 induction l with
 |nil=>intro k i r _ h;simp at h
 |cons x l ih=>
  intro k i r gI hr hp
  cases k with
  |zero=>
   simp at hr;subst hr
   rw [gB,if_neg hp];rfl
  |succ k=>
   simp at hr;rw [gB,if_pos (gI 0 x (by omega) rfl),ih k (i+1) r (fun j y hj hy=>gI (j+1) y (by omega) (by simpa using hy)) hr hp];congr 2;omega
theorem Hg:∀ (l:List Rr) (i:Nat),(∀ (j:Nat) (x:Rr),j<l.length->l[j]? =some x->pW x aL=0)->gB aL l i=none:=by
 intro l
 induction l with
 |nil=>intro i _;rfl
 |cons x l ih=>
  intro i gI;rw [gB,if_pos (gI 0 x (by simp) rfl)];exact ih (i+1) (fun j y hj hy=>gI (j+1) y (by simp;omega) (by simpa using hy))
def XV(acc:List Sz)(d:ByteArray):List Sz:=match acc.getLast? with
 |some s=>acc.dropLast++[{s with da:=s.da++[d]}]
 |none=>[]
def jM(iT:List It)(k:Nat)(x:It):Bool:=match k with
 |0=>true
 |k+1=>match iT[k]? with
  |some y=>decide (y.fo≠x.fo)||decide (y.r.ty≠x.r.ty)
  |none=>true
def nS(l iT:List It):Nat->List Sz
 |0=>[]
 |k+1=>match iT[k]? with
  |some x=>if jM iT k x then nS l iT k++[⟨vX l x.fo,x.r.ty,x.r.tt,[x.r.da]⟩] else XV (nS l iT k) x.r.da
  |none=>nS l iT k
theorem tO{x:It}(h:iT[k]? =some x)(hn:jM iT k x=true):nS l iT (k+1)=nS l iT k++[⟨vX l x.fo,x.r.ty,x.r.tt,[x.r.da]⟩]:=by
 rw [nS,h];simp [hn]
theorem yM{x:It}{qs:List Sz}{s:Sz}(h:iT[k]? =some x)(hn:jM iT k x=false)(hg:nS l iT k=qs++[s]):nS l iT (k+1)=qs++[{s with da:=s.da++[x.r.da]}]:=by
 rw [nS,h];simp [hn,hg,XV]
theorem xP:∀ (k:Nat),0<k->k<=iT.length->∃ qs s,nS l iT k=qs++[s]:=by
 intro k
 induction k with
 |zero=>intro h;omega
 |succ k ih=>
  intro _ hk;obtain⟨x,hx⟩:∃ x,iT[k]? =some x:=⟨_,gF (by omega)⟩
  cases hn:jM iT k x with
  |true=>exact⟨_,_,tO hx hn⟩
  |false=>
   have Ke:0<k:=by
    rcases Nat.eq_zero_or_pos k with h|h
    ·subst h;simp [jM] at hn
    exact h
   obtain⟨qs,s,e⟩:=ih Ke (by omega);exact⟨_,_,yM hx hn e⟩
theorem Aw:∀ (k:Nat),k<=iT.length->(nS l iT k).length<=k∧∀ s∈nS l iT k,s.da.length<=k:=by
 intro k
 induction k with
 |zero=>intro _;exact⟨aI _,by simp [nS]⟩
 |succ k ih=>
  intro hk;obtain⟨h1,h2⟩:=ih (by omega);obtain⟨x,hx⟩:∃ x,iT[k]? =some x:=⟨_,gF (by omega)⟩
  cases hn:jM iT k x with
  |true=>
   rw [tO hx hn];refine⟨by simp;omega,fun s hs=>?_⟩
   rcases iU hs with h|h
   ·have:=h2 s h;omega
   simp at h;subst h;simp
  |false=>
   have Ke:0<k:=by
    rcases Nat.eq_zero_or_pos k with h|h
    ·subst h;simp [jM] at hn
    exact h
   obtain⟨qs,s,e⟩:=xP (l:=l) (iT:=iT) k Ke (by omega);rw [yM hx hn e];rw [e] at h1 h2;refine⟨by simp at h1 ⊢;omega,fun t ht=>?_⟩
   rcases iU ht with h|h
   ·have:=h2 t (List.mem_append.2 (.inl h));omega
   simp at h;subst h;have:=h2 s (by simp)
   simp;omega
def bK(list:List Rr):List It:=FX (list.map bH)
def IY(list:List Rr):List It:=(bK list).filter fun x=> !x.out
def lU(list:List Rr):List It:=VI (IY list)
def zI(list:List Rr):List Sz:=nS (bK list) (lU list) (lU list).length
def iX(list:List Rr)(aL:ByteArray):Int×Int:=
 if(Nm.split aL).isSome=false then(32,-1) else if 500<list.length then(12,-1) else
 match gB aL list 0 with
 |some (c,i)=>(c,i)
 |none=>if 0<=vY (list.map bH) then(24,vY (list.map bH)) else if(fZ (bK list) (Nm.dV aL)).1≠0 then fZ (bK list) (Nm.dV aL) else(0,0)
open Go.Shelf
attribute [local go_sem] Oper.semAt_some
theorem Ri:(Tryz.prog.info? 9).map (fun i=>(i.zero,i.size,i.bytes))=some (some (.string ByteArray.empty),1,16):=by kernel_rfl
theorem Rj(F:Fence)(n:Nat)(h3:F.fn 115)(h4:F.fn 150)(h5:F.fn 178)(sJ:F.round=none)(hn:3<=n)
 (g:Nat) (sv:Value) (zs:List (ByteArray×ByteArray)) (hl:zs.length<=1000000) (w:World) (hg:g<w.heap.size) (kg:w.cell? ⟨g,1,none⟩=some sv) (hR:Yb (fun p:ByteArray×ByteArray=>p.1) (fun p=>p.2) w.heap.size w sv zs):
 CallsIn F n Tryz.prog 115 #[.pointer (some ⟨g,0,none⟩)] w fun e W'=>∃ v,e=.returned v∧W'.ownsRow w.heap.size 9 1 v zs.length (zs.map fun p=>.string p.2)∧Below w.heap.size w W':=by
 have h1:1<=n:=by omega
 obtain⟨i0,hi,iQ,iH,iI⟩:=info_parts Ri;refine callsIn_of_wp_marks Tryz.func115 rfl h3 ?_ sJ;simp only [Tryz.ntmps115,List.size_toArray,List.length_cons,List.length_nil,Nat.reduceAdd,Nat.reduceSub,Array.replicate_succ,Array.replicate_zero,List.push_toArray,List.append_toArray,List.nil_append,List.cons_append]
 gi_wp2_with (gi_at_call 150;refine(aH9 F (n-1) h4 sJ _ _).mono ?_;rintro e w' ⟨rfl,rfl⟩)
 have bO:=Boxed.new w 32 (.slice none 0 0);have bN:=Boxed.new (w.alloc (.cells #[.slice none 0 0] 32)) 175 (.pointer (some ⟨g,0,none⟩));rw [jO] at bN;have iY:Below w.heap.size w ((w.alloc (.cells #[.slice none 0 0] 32)).alloc (.cells #[.pointer (some ⟨g,0,none⟩)] 175)):=((aJ _ w).alloc (aI _) _).alloc (by simp) _;have XJ:=(iY.cell (p:=⟨g,1,none⟩) hg).trans kg
 refine wpIn_rangeFunc_ownG sJ h1 (gf:=178) (lb:=#[.pointer (some ⟨w.heap.size+1,0,none⟩)]) rfl h5 (enters_of Tryz.func178 (by kernel_rfl) rfl)
  (aAr (fun p:ByteArray×ByteArray=>p.1) (fun p=>p.2) F (n-1) h5 sJ (by omega) (w.heap.size+1) g w.heap.size sv zs hl _ (by simp) hg (by simp;omega) bN.cell XJ (hR.below iY)) belowK_t (belowK_b (by simp;omega)) (aJ _ _) (fun _=>rfl)
  (fun pre W=>(∃ v,Boxed W w.heap.size 32 v∧W.ownsRow w.heap.size 9 1 v pre.length (pre.map fun p=>.string p.2)∧True)∧Below w.heap.size w W)
  (fun _ _ _=>False)
  (OwnFrom.and (Own.from (holdsRow_own w.heap.size w.heap.size 32 9 1 (fun pre:List (ByteArray×ByteArray)=>pre.length) (fun pre=>pre.map fun p=>.string p.2) (fun pre v=>True)) _) (ownFrom_below (aI _) (by simp;omega)))
  (fun _ _ _ _ _ hs _ _=>hs)
  ⟨⟨_,bO.alloc _,World.ownsRow_nil _ _ _ _,trivial⟩,iY⟩
  (fun x=>{tmps:=#[.pointer (some ⟨g,0,none⟩),undef,.slice none 0 0,.pointer (some ⟨w.heap.size,0,none⟩),undef,.string x.2,.pointer (some ⟨g,0,none⟩),.func (.func 178) #[] #[.pointer (some ⟨w.heap.size+1,0,none⟩)],.string x.1,.string x.2,undef,undef,undef,undef,undef],defers:=[]}) ?assign ?body ?done ?stop
 case assign=>
  intro l x W K hK
  gi_wp2
  exact hK
 case body=>
  rintro l pre x W ⟨⟨v,hv,dI,-⟩,hB⟩ bY;have hc:=hv.cell;have hm:zs.length<=maxLen:=by unfold maxLen;omega
  gi_wp2_with (gi_at_builtin;refine wpListIn_append_own _ rfl _ _ 32 rfl w.heap.size 9 i0 (.string ByteArray.empty) 1 16 Tryz.underlying32 hi iQ iH iI rfl (by decide) _ _ _ rfl (dI.alloc _) ⟨W.heap.size,0,none⟩ 1 1 [.string x.2] rfl rfl (cell_one_new _ _ _) (by simp [Value.oneCell']) (by omega) (by omega) (by have:=hB.size;simp;omega) ?_;intro v' w1 dE bU _;obtain⟨g',cap',rfl⟩:=ownsRow_succ dE;obtain⟨hv1,ES,wR,hk2,jW⟩:=hv.appended (by decide) dI hB.size (aI _) dE bU;have mQ:=hv1.cell;have hf1:=hv1.frozen)
  exact⟨hk2.from _,jW,⟨_,ES,by simpa using wR,trivial⟩,hB.trans jW⟩
 case done=>
  rintro D ys W hD rfl ⟨⟨v,hv,dI,-⟩,hB⟩ hK;have hc:=hv.cell
  gi_wp2
  refine⟨by simp,.inl ⟨_,_,rfl,run_takeDeferred hK,?_⟩⟩;exact⟨_,results_tmp rfl _ _ _,v,rfl,ownsRow_putObj dI _ hK rfl,hB.trans (belowK_b (w:=w) (aI _) W D _ _ (by simp at hD;omega) hK rfl rfl)⟩
 rintro D c pre W _ _ h _;exact h.elim
theorem Ku(g:Nat)(sv:Value)(zs:List (ByteArray×ByteArray))(hl:zs.length<=1000000)(w:World)(hg:g<w.heap.size)(kg:w.cell? ⟨g,1,none⟩=some sv)(hR:Yb (fun p:ByteArray×ByteArray=>p.1) (fun p=>p.2) w.heap.size w sv zs):
 Calls Tryz.prog 115 #[.pointer (some ⟨g,0,none⟩)] w fun e W'=>∃ v,e=.returned v∧W'.ownsRow w.heap.size 9 1 v zs.length (zs.map fun p=>.string p.2)∧Below w.heap.size w W':=
 (callsIn_wide (n:=3)).1 (Rj _ 3 trivial trivial trivial rfl (by omega) g sv zs hl w hg kg hR)
end
open Go.RowKit
theorem VE.one{l:List nY}(h:VE l){a b:nY}(ha:a∈l)(hb:b∈l)(e:a.ty=b.ty):a=b:=by
 induction l with
 |nil=>cases ha
 |cons x l ih=>
  have hx:=List.pairwise_cons.1 h
  rcases List.mem_cons.1 ha with rfl|ha'
  ·rcases List.mem_cons.1 hb with rfl|hb'
   ·rfl
   have:=hx.1 b hb';omega
  rcases List.mem_cons.1 hb with rfl|hb'
  ·have:=hx.1 a ha';omega
  exact ih hx.2 ha' hb'
theorem VE.found{l:List nY}(h:VE l){s:nY}(hs:s∈l):gY (eP s.ty) l=true∧l[posOf (eP s.ty) l]? =some s:=by
 have mF:=lI (f:=eP s.ty) h (fun a b Pe hb=>by
  rw [eP,vL] at hb ⊢
  omega)
 have zG:=rV l mF;obtain⟨k,hk⟩:=List.mem_iff_getElem?.1 hs;have mK:=(dL hk).1
 have hz:eP s.ty s=0:=by
  rcases Int.lt_trichotomy (eP s.ty s) 0 with h1|h1|h1
  ·rw [eP,vL] at h1;omega
  ·exact h1
  rw [eP,Nm.pI] at h1;simp at h1
 have hF:FU l.length (pO (eP s.ty) l) k:=by
  refine⟨Nat.le_of_lt mK,fun i hi=>?_,fun i h1 h2=>?_⟩
  ·have ML:l[i]? =some l[i]:=gF (by omega);rw [jV ML,eP,vL];have:=List.pairwise_iff_getElem.1 h i k (by omega) mK hi;rw [(dL hk).2] at this;exact this
  have ML:l[i]? =some l[i]:=gF h2;rw [jV ML]
  rcases Int.lt_or_le (eP s.ty l[i]) 0 with h3|h3
  ·rw [eP,vL] at h3
   rcases Nat.lt_or_eq_of_le h1 with h4|rfl
   ·have:=List.pairwise_iff_getElem.1 h k i mK h2 h4;rw [(dL hk).2] at this;omega
   rw [(dL hk).2] at h3;omega
  exact h3
 have e:=FU.unique zG hF;rw [gY,e,jV hk,hz];exact⟨by simp [mK],hk⟩
theorem yB.below{w':World}{o:dG}(h:yB w B o)(hb:Below w.heap.size w w'):yB w' B o:=h.keep fun b hm=>hb.block b (h.lt b hm)
theorem wX(o:dG)(s:nY)(B:Nat)(w:World)(h:yB w B o)(hl:o.ss.length<=500000)(hd:VE o.ss)(hs:s∈o.ss)(hsl:s.da.length<=1000000):
 Calls Tryz.prog 72 #[ptr o.dS,.int .i64 s.ty] w fun e w'=>∃ v,e=.returned (.tuple #[.agg #[.string o.nm,.int .i64 s.ty,.int .i64 s.tt,v],.bool true])∧w'.ownsRow w.heap.size 9 1 v s.da.length (s.da.map fun p=>.string p.2)∧Below w.heap.size w w':=by
 have iY:=(aJ w.heap.size w).alloc (aI _) (.cells #[.string ⟨#[]⟩,.int .i64 0,.int .i64 0,.slice none 0 0] 42);have kZ:=aK w #[.string ⟨#[]⟩,.int .i64 0,.int .i64 0,.slice none 0 0] 42;have h1:=h.below iY
 have hg:=(NL o B s.ty _ h1 hl hd).mono (R':=fun e w'=>Below (w.heap.size+1) (w.alloc (.cells #[.string ⟨#[]⟩,.int .i64 0,.int .i64 0,.slice none 0 0] 42)) w'∧e=.returned (.tuple #[ptr s.dS,.bool true])) (by
  rintro e w' ⟨hb,⟨_,s',h1,h2,rfl⟩|⟨gI,_⟩⟩
  ·obtain rfl:=hd.one (dA h1) hs h2;exact⟨by simpa using hb,rfl⟩
  rw [(hd.found hs).1] at gI;cases gI)
 have hv:=fun W (hW:Below w.heap.size w W)=>Ku s.hd s.rv s.da hsl W (vF (cO (h.sets s hs).head) hW.size) ((aA (aB (h.sets s hs).head hW) 1).trans rfl) ((aEd (fun p:ByteArray×ByteArray=>p.1) (fun p=>p.2) s.da (by have:=own_below (h.sets s hs).rows hW;rw [show(zF s.da).length=s.da.length by simp [zF]] at this;exact this)))
 have rn:=aA h1.node
 have kn:=h.node;have ks:=(h.sets s hs).node;have HV:=Nm.aD hv;unfold ptr at hg rn kn ks ⊢;clear h h1 hd hs hv;go_enter Tryz.func72,Tryz.ntmps72;go_wp2_with fail
 refine hg.mono ?_;rintro e w1 ⟨fJ,rfl⟩;have gP:Below w.heap.size w w1:=iY.trans (fJ.mono (Nat.le_succ _));have kn1:=aB kn gP;have O7:=aB ks gP;have KQ:bW w1 w.heap.size _ _:=aB kZ (by simpa using fJ);clear hg rn kn ks fJ;go_wp2_with fail
 refine Oi (S:=fun W=>W.cell? ⟨o.dS,0,none⟩=some (.string o.nm)∧W.cell? ⟨s.dS,0,none⟩=some (.int .i64 s.tt)∧W.cell? ⟨s.dS,2,none⟩=some (.pointer (some ⟨s.hd,0,none⟩))) (Ls:=[15,16]) rfl ⟨(aA (fO kn1) 0).trans rfl,(aA (fO O7) 0).trans rfl,(aA (fO O7) 2).trans rfl⟩ fun hH=>?_;refine gV (i:=0) (v:=?_) rfl (by kernel_rfl) (by kernel_rfl) (by kernel_rfl) (by kernel_rfl) (fun _ _ _ h=>h) (Or.inl ⟨by rfl,?_⟩) (by assumption) ?_;rotate_left 1
 ·(intro w LG;obtain⟨t2,t3,t4⟩:=LG;go_simp;try (with_reducible rfl))
 refine gV (i:=1) (v:=?_) rfl (by kernel_rfl) (by kernel_rfl) (by kernel_rfl) (by kernel_rfl) (fun _ _ _ h=>h) (Or.inl ⟨by rfl,?_⟩) (by assumption) ?_;rotate_left 1
 ·(intro w LG;obtain⟨t2,t3,t4⟩:=LG;go_simp;try (with_reducible rfl))
 refine gV (i:=2) (v:=?_) rfl (by kernel_rfl) (by kernel_rfl) (by kernel_rfl) (by kernel_rfl) (fun _ _ _ h=>h) (Or.inl ⟨by rfl,?_⟩) (by assumption) ?_;rotate_left 1
 ·(intro w LG;obtain⟨t2,t3,t4⟩:=LG;go_simp;try (with_reducible rfl))
 refine gV (i:=3) (v:=?_) rfl (by kernel_rfl) (by kernel_rfl) (by kernel_rfl) (by kernel_rfl) (fun _ _ _ h=>h) (Or.inl ⟨by rfl,?_⟩) (by assumption) ?_;rotate_left 1
 ·(intro w LG;obtain⟨t2,t3,t4⟩:=LG;go_simp;try (with_reducible rfl))
 refine gV (i:=4) (v:=?_) rfl (by kernel_rfl) (by kernel_rfl) (by kernel_rfl) (by kernel_rfl) (fun _ _ _ h=>h) (Or.inl ⟨by rfl,?_⟩) (by assumption) ?_;rotate_left 1
 ·(intro w LG;obtain⟨t2,t3,t4⟩:=LG;go_simp;try (with_reducible rfl))
 refine gV (i:=5) (v:=?_) rfl (by kernel_rfl) (by kernel_rfl) (by kernel_rfl) (by kernel_rfl) (fun _ _ _ h=>h) (Or.inl ⟨by rfl,?_⟩) (by assumption) ?_;rotate_left 1
 ·(intro w LG;obtain⟨t2,t3,t4⟩:=LG;go_simp;try (with_reducible rfl))
 refine gV (i:=6) (v:=?_) rfl (by kernel_rfl) (by kernel_rfl) (by kernel_rfl) (by kernel_rfl) (fun _ _ _ h=>h) (Or.inl ⟨by rfl,?_⟩) (by assumption) ?_;rotate_left 1
 ·(intro w LG;obtain⟨t2,t3,t4⟩:=LG;go_simp;try (with_reducible rfl))
 refine gV (i:=7) (v:=?_) rfl (by kernel_rfl) (by kernel_rfl) (by kernel_rfl) (by kernel_rfl) (fun _ _ _ h=>h) (Or.inl ⟨by rfl,?_⟩) (by assumption) ?_;rotate_left 1
 ·(intro w LG;obtain⟨t2,t3,t4⟩:=LG;go_simp;try (with_reducible rfl))
 refine gV (i:=8) (v:=?_) rfl (by kernel_rfl) (by kernel_rfl) (by kernel_rfl) (by kernel_rfl) (fun _ _ _ h=>h) (Or.inl ⟨by rfl,?_⟩) (by assumption) ?_;rotate_left 1
 ·(intro w LG;obtain⟨t2,t3,t4⟩:=LG;go_simp;try (with_reducible rfl))
 refine gV (i:=9) (v:=?_) rfl (by kernel_rfl) (by kernel_rfl) (by kernel_rfl) (by kernel_rfl) (fun _ _ _ h=>h) (Or.inl ⟨by rfl,?_⟩) (by assumption) ?_;rotate_left 1
 ·(intro w LG;obtain⟨t2,t3,t4⟩:=LG;go_simp;try (with_reducible rfl))
 refine gV (i:=10) (v:=?_) rfl (by kernel_rfl) (by kernel_rfl) (by kernel_rfl) (by kernel_rfl) (fun _ _ _ h=>h) (Or.inl ⟨by rfl,?_⟩) (by assumption) ?_;rotate_left 1
 ·(intro w LG;obtain⟨t2,t3,t4⟩:=LG;go_simp;try (with_reducible rfl))
 refine gV (i:=11) (v:=?_) rfl (by kernel_rfl) (by kernel_rfl) (by kernel_rfl) (by kernel_rfl) (fun _ _ _ h=>h) (Or.inl ⟨by rfl,?_⟩) (by assumption) ?_;rotate_left 1
 ·(intro w LG;obtain⟨t2,t3,t4⟩:=LG;go_simp;try (with_reducible rfl))
 refine gV (i:=12) (v:=?_) rfl (by kernel_rfl) (by kernel_rfl) (by kernel_rfl) (by kernel_rfl) (fun _ _ _ h=>h) (Or.inl ⟨by rfl,?_⟩) (by assumption) ?_;rotate_left 1
 ·(intro w LG;obtain⟨t2,t3,t4⟩:=LG;go_simp;try (with_reducible rfl))
 refine Xc (i:=13) (by kernel_rfl) rfl fun K hK'=>?_;go_simp;have bd:=(aJ w1.heap.size w1).drew;refine(HV.out _ (gP.drew)).mono ?_;rintro e w3 ⟨v,rfl,XK,d3⟩;have d3':=bd.trans d3;have kn3:=aB kn1 d3';have ks3:=aB O7 d3';have kZ3:=aB KQ d3';have uC:=Nm.aC gP d3';obtain⟨va,vc,rfl⟩:=aT XK;have HLT:Hid (w.heap.size<w1.heap.size):=cO KQ;clear kn1 O7 KQ hH;go_wp2_with fail
 refine hK'.out _ _ ⟨(aA kn3 0).trans rfl,(aA ks3 0).trans rfl,(aA ks3 2).trans rfl⟩ fun hH=>?_;clear hK' K;refine gV (i:=14) (v:=?_) rfl (by kernel_rfl) (by kernel_rfl) (by kernel_rfl) (by kernel_rfl) (fun _ _ _ h=>h) (Or.inl ⟨by rfl,?_⟩) (by assumption) ?_;rotate_left 1
 ·(intro w LG;obtain⟨t2,t3,t4⟩:=LG;go_simp;try (with_reducible rfl))
 refine UQ (i:=15) (by kernel_rfl) rfl (by kernel_rfl) fun K hK'=>?_;have rz:=aA kZ3
 have fz:=aF kZ3
 go_simp;refine hK'.out _ _ ?_;clear hK' K;refine UQ (i:=16) (by kernel_rfl) rfl (by kernel_rfl) fun K hK'=>?_;go_simp;refine hK'.out _ _ ?_;clear hK' K;refine Oh (by kernel_rfl) ?_;have IZ:(Value.slice va s.da.length vc).ownBlock≠some w.heap.size:=fun e=>by have:=(XK.lt _ e).1;have:=HLT.out;simp at*;omega
 have k4:=aM (aM (aM (aM kZ3 0 (.string o.nm)) 1 (.int .i64 s.ty)) 2 (.int .i64 s.tt)) 3 (.slice va s.da.length vc);simp only [List.setIfInBounds_toArray,List.set_cons_zero,List.set_cons_succ] at k4;have BQ:=dY (y:=.slice va s.da.length vc) (i:=3) (g:=w.heap.size) (dY (y:=.int .i64 s.tt) (i:=2) (g:=w.heap.size) (dY (y:=.int .i64 s.ty) (i:=1) (g:=w.heap.size) (dY (y:=.string o.nm) (i:=0) (g:=w.heap.size) XK IZ) IZ) IZ) IZ;have nN:=(((uC.setCell (p:=⟨w.heap.size,0,none⟩) (aI _) (.string o.nm)).setCell (p:=⟨w.heap.size,1,none⟩) (aI _) (.int .i64 s.ty)).setCell (p:=⟨w.heap.size,2,none⟩) (aI _) (.int .i64 s.tt)).setCell (p:=⟨w.heap.size,3,none⟩) (aI _) (.slice va s.da.length vc);have rk:=aA k4
 clear rz fz hH;go_wp2_with fail
 refine eB (v:=.tuple #[.agg #[.string o.nm,.int .i64 s.ty,.int .i64 s.tt,.slice va s.da.length vc],.bool true]) ?_ rfl ⟨_,rfl,fM BQ gP.size,nN⟩;simp [results,Tryz.f72,go_sem,rk]
structure Ld where
 at_:Nat
 ty:Int
 ob:Nat
 sb:Nat
def ldC(x:Ld):List Value:=[.int .i64 (x.at_:Int),.int .i64 x.ty,.pointer (some ⟨x.ob,0,none⟩),.pointer (some ⟨x.sb,0,none⟩)]
def CF(l:List Ld):List Value:=l.flatMap ldC
theorem sD:∀ (l:List Ld) (k j:Nat) (x:Ld),l[k]? =some x->j<4->(CF l)[k*4+j]? =(ldC x)[j]? :=by
 intro l
 induction l with
 |nil=>intro k j x h;simp at h
 |cons y l ih=>
  intro k j x h hj;have e:CF (y::l)=ldC y++CF l:=by simp [CF]
  have hy:(ldC y).length=4:=rfl;rw [e]
  cases k with
  |zero=>
   simp at h;subst h;rw [List.getElem?_append_left (by omega)]
   simp
  |succ k=>
   simp at h;rw [List.getElem?_append_right (by omega),hy,show(k+1)*4+j-4=k*4+j by omega];exact ih k j x h hj
def CG(f:Ld->Bool)(code:Int)(l:List Ld):Value:=match l.find? f with
 |some x=>.tuple #[.int .i64 code,.int .i64 (x.at_:Int)]
 |none=>.tuple #[.int .i64 0,.int .i64 0]
theorem Ay{f:Ld->Bool}{code:Int}{l:List Ld}(h:∀ j x,j<l.length->l[j]? =some x->f x=false):CG f code l=.tuple #[.int .i64 0,.int .i64 0]:=by
 have:l.find? f=none:=by
  rw [List.find?_eq_none];intro x hx;obtain⟨j,hj⟩:=List.mem_iff_getElem?.1 hx;rw [h j x (dL hj).1 hj];simp
 rw [CG,this]
theorem Az{f:Ld->Bool}{code:Int}:∀ {l:List Ld} {k:Nat} {x:Ld},(∀ j y,j<k->l[j]? =some y->f y=false)->l[k]? =some x->f x=true->CG f code l=.tuple #[.int .i64 code,.int .i64 (x.at_:Int)]:=by
 intro l
 induction l with
 |nil=>intro k x _ h;simp at h
 |cons y l ih=>
  intro k x gI hx hf
  cases k with
  |zero=>
   simp at hx;subst hx
   rw [CG,List.find?_cons_of_pos hf]
  |succ k=>
   have hy:f y=false:=gI 0 y (by omega) rfl;have:=ih (k:=k) (x:=x) (fun j z hj hz=>gI (j+1) z (by omega) (by simpa using hz)) (by simpa using hx) hf;rw [CG] at this ⊢;rw [List.find?_cons_of_neg (by simp [hy])];exact this
theorem QA(t:Int)(d:ByteArray)(w:World)(hd:d.size<=2000000):
 Calls Tryz.prog 163 #[.int .i64 t,.string d] w fun e w'=>e=.returned (.int .i64 (fH t d))∧Below w.heap.size w w':=by
 have aX:=VG t d w hd;go_enter Tryz.func163,Tryz.ntmps163;go_wp2_with (go_at_call 183;refine aX.mono ?_;rintro e w2 ⟨v,rfl,_,_,aG⟩)
 go_ret;exact⟨rfl,aG⟩
structure Dr (w0:World) (g:Nat) (a:Option Addr) (n cap:Nat) (w:World):Prop where
 s:Src w g a n cap
 gr:w0.grownBy w (some g)
 lt:g<w0.heap.size
 code:qX w0 g a n
theorem Dr.start(h:Src w g a n cap):Dr w g a n cap w:=⟨h,World.grownBy.refl _ _,(qK h).2,(qK h).1⟩
theorem Dr.step(d:Dr w0 g a n cap w)(h:Src w1 g a n cap)(hg:w.grownBy w1 (some g)):Dr w0 g a n cap w1:=⟨h,aS d.gr hg,d.lt,d.code⟩
theorem Dr.below(d:Dr w0 g a n cap w)(h:Below w.heap.size w w1):Dr w0 g a n cap w1:=⟨aZ d.s h,bJ d.gr h,d.lt,d.code⟩
theorem Dr.alloc(d:Dr w0 g a n cap w)(o:Obj):Dr w0 g a n cap (w.alloc o):=d.below ((aJ _ _).alloc (aI _) _)
theorem Dr.row{row:Option Nat}(d:Dr w0 g a n cap w)(hg:w.grownBy w1 row)(hr:∀ k,row=some k->w0.heap.size<=k):Dr w0 g a n cap w1:=⟨KF d.s hg hr d.lt d.code,BJ d.gr hg hr,d.lt,d.code⟩
theorem Dr.keep{sz:Nat}(d:Dr w0 g a n cap w)(h:w.ownsRow w0.heap.size e sz v m xs)(hg:w.grownBy w1 (some g)):w1.ownsRow w0.heap.size e sz v m xs:=by
 refine h.kept hg ?_
 cases hv:v.ownBlock with
 |none=>exact .inl rfl
 |some k=>
  have h1:=(h.lt k hv).1;have h2:=d.lt;right;simp only [ne_eq,mV];omega
theorem Dr.size(d:Dr w0 g a n cap w):w0.heap.size<=w.heap.size:=d.gr.size
def ZR(r:Rr):Prop:=r.own.size<=1000∧r.da.size<=3200
theorem XW{xs:List Rr}{y:Rr}(h:∀ r∈xs,ZR r)(hy:ZR y):∀ r∈xs++[y],ZR r:=by
 intro r hr
 rcases iU hr with hr|hr
 ·exact h r hr
 simp at hr;subst hr;exact hy
theorem Yt(v:Value)(xs:List Rr)(o:ByteArray)(t:Int)(d:ByteArray)(w:World)(D:Dr w0 g a n cap w)(hr:w.ownsRow w0.heap.size 133 5 v xs.length (jC xs))(hl:xs.length<=10000)(hx:∀ r∈xs,ZR r)(ho:o.size<=1000)(hd:d.size<=3200):
 Calls Tryz.prog 118 #[.pointer (some ⟨g,0,none⟩),v,.string o,.int .i64 t,.string d] w fun e w'=>∃ u y,e=.returned u∧ZR y∧w'.ownsRow w0.heap.size 133 5 u (xs++[y]).length (jC (xs++[y]))∧Dr w0 g a n cap w':=by
 obtain⟨i0,hi,iQ,iH,iI⟩:=info_parts Tryz.XH;have HSM:=Nm.aD (fun(x:Rr) (hx:x.own.size<=1000) W=>gM x.own o W (by unfold maxLen;omega) (by unfold maxLen;omega));have HX:=Nm.aD hx;obtain⟨va,vc,rfl⟩:=aT hr;obtain⟨_,va',vc',ee,gT,kV,hc⟩:=dZ.aP hr;simp only [gK] at ee;obtain⟨rfl,_,rfl⟩:=ee;have HR:=Nm.aD hr;have HD:=Nm.aD D;clear hx hr D;go_enter Tryz.func118,Tryz.ntmps118;go_wp2
 go_loopw [11,12] (fun tv iv wr=>∃ (k:Nat) (tt:Int),k<=xs.length∧iv=.int .i64 k∧tv=.int .i64 tt∧Below w.heap.size w wr) (fun _ i _=>xs.length-(intOf i).toNat)
 ·exact⟨0,3600,dR _,rfl,rfl,aJ _ _⟩
 obtain⟨k,tt,hk,rfl,rfl,hb⟩:=hrel
 by_cases bY:k<xs.length
 ·obtain⟨x,qF⟩:=gQ bY;obtain⟨b,off,rfl,aH⟩:=hc (by omega);obtain⟨c0,c1,c2,c3,c4⟩:=BF aH qF;have put:∀ {O:Nat} {z:Value},w.cell? ⟨b,O,none⟩=some z->wr.cell? ⟨b,O,none⟩=some z:=fun h=>(hb.cell (fD w _ h)).trans h
  replace c0:=put c0
  replace c1:=put c1
  replace c3:=put c3
  have xK:=HSM.out x (HX.out x (dA qF)).1 wr;have i1:=fE k
  have i2:(k:Int)<(xs.length:Int):=by omega
  clear c2 c4 aH qF put hc;obtain⟨ow,ty,cl,tx,da⟩:=x;simp only at c0 c1 c3 xK
  by_cases e1:ty=t
  ·have n1:(ty==t)=true:=by simp [e1]
   cases rW:eQ ow o with
   |true=>
    rw [rW] at xK;clear rW e1;go_wp2_with fail
    refine xK.mono ?_;rintro e w2 ⟨rfl,b2⟩;have d3:=(b2.cell (fD wr _ c3)).trans c3;have jW:=Nm.aC hb b2;clear xK c0 c1 c3 hb b2;go_wp2;go_roundw
    ·exact⟨k+1,tx,bY,by go_num,rfl,jW⟩
    simp [intOf];omega
   |false=>
    rw [rW] at xK;clear rW e1;go_wp2_with fail
    refine xK.mono ?_;rintro e w2 ⟨rfl,b2⟩;have jW:=Nm.aC hb b2;clear xK c0 c1 c3 hb b2;go_wp2;go_roundw
    ·exact⟨k+1,tt,bY,by go_num,rfl,jW⟩
    simp [intOf];omega
  have n1:(ty==t)=false:=by simpa using e1
  clear e1 xK c0 c3;go_wp2;go_roundw
  ·exact⟨k+1,tt,bY,by go_num,rfl,hb⟩
  simp [intOf];omega
 have mK:k=xs.length:=by omega
 subst mK;have D1:=HD.out.below hb;have uG:=own_below HR.out hb;have i3:¬(xs.length:Int)<(xs.length:Int):=by omega
 clear hc HR HD HSM HX hb hk bY;go_wp2_with fail
 refine(aW g a n cap 12 _ D1.s (by decide)).mono ?_;rintro e w2 ⟨q,rfl,IK,uB,oU,mM⟩;have D2:=D1.step oU mM;have wR:=D1.keep uG mM;clear D1 uG oU mM uB
 by_cases hq:q=0
 ·subst hq;go_wp2_with fail
  refine(IX g a n cap o _ D2.s (by unfold maxLen;omega)).mono ?_;rintro e w3 ⟨s,rfl,hs,sO,iZ⟩;have D3:=D2.step sO iZ;have hr3:=D2.keep wR iZ;have oG:s.size<=1000:=by omega
  clear D2 wR sO iZ;have hz:=(D3).size;go_wp2_with (at_builtin;refine wpList_append_own _ rfl (.tmp 46) (.tmp 52) 88 rfl w0.heap.size 133 i0 _ 5 56 Tryz.underlying88 hi iQ iH iI rfl (by decide) _ _ _ rfl ((hr3).alloc _) ⟨(w3).heap.size,0,none⟩ 1 1 [.string s,.int .i64 t,.int .i64 1,.int .i64 tt,.string d] rfl rfl (eZ w3 #[.string s,.int .i64 t,.int .i64 1,.int .i64 tt,.string d] 133) (by intro u hu;simp at hu;rcases hu with rfl|rfl|rfl|rfl|rfl<;>rfl) (by unfold maxLen;omega) (by omega) (by simp;omega) ?_)
  intro v9 w9 tL mH _;have D9:=((D3).alloc (.cells #[.string s,.int .i64 t,.int .i64 1,.int .i64 tt,.string d] 133)).row mH (fun k hk=>((hr3).lt k hk).1);clear mH hz;go_wp2;go_ret;refine⟨_,⟨s,t,1,tt,d⟩,rfl,⟨oG,hd⟩,?_,D9⟩;rw [sQ,oJ];exact tL
 have n2:(q==0)=false:=beq_eq_false_iff_ne.2 hq
 have hz:=(D2).size;go_wp2_with (at_builtin;refine wpList_append_own _ rfl (.tmp 46) (.tmp 52) 88 rfl w0.heap.size 133 i0 _ 5 56 Tryz.underlying88 hi iQ iH iI rfl (by decide) _ _ _ rfl ((wR).alloc _) ⟨(w2).heap.size,0,none⟩ 1 1 [.string o,.int .i64 t,.int .i64 1,.int .i64 tt,.string d] rfl rfl (eZ w2 #[.string o,.int .i64 t,.int .i64 1,.int .i64 tt,.string d] 133) (by intro u hu;simp at hu;rcases hu with rfl|rfl|rfl|rfl|rfl<;>rfl) (by unfold maxLen;omega) (by omega) (by simp;omega) ?_)
 intro v9 w9 tL mH _;have D9:=((D2).alloc (.cells #[.string o,.int .i64 t,.int .i64 1,.int .i64 tt,.string d] 133)).row mH (fun k hk=>((wR).lt k hk).1);clear mH hz;go_wp2;go_ret;refine⟨_,⟨o,t,1,tt,d⟩,rfl,⟨ho,hd⟩,?_,D9⟩;rw [sQ,oJ];exact tL
theorem Kv(a:Option Addr)(n cap:Nat)(w:World)(hn:n<=1048576):
 Calls Tryz.prog 34 #[.slice a n cap,.int .i64 60] w fun e w'=>∃ k:Nat,e=.returned (.int .i64 (k:Int))∧k<=30∧w'=w:=by
 have hq:((n:Int).tdiv 60)=((n / 60:Nat):Int):=by rw [Int.tdiv_eq_ediv_of_nonneg (by omega)];rfl
 by_cases h:30<n / 60
 ·have h':(30:Int)<((n / 60:Nat):Int):=by omega
  go_enter Tryz.func34,Tryz.ntmps34;go_wp2;go_ret;exact⟨30,rfl,aI _,rfl⟩
 have h':¬(30:Int)<((n / 60:Nat):Int):=by omega
 go_enter Tryz.func34,Tryz.ntmps34;go_wp2;go_ret;exact⟨n / 60,rfl,by omega,rfl⟩
section
variable {w0 w:World}{g n cap:Nat}{a:Option Addr}
theorem Dr.cell(d:Dr w0 g a n cap w){o:Nat}(h:w0.cell? ⟨b,o,none⟩=some x)(dM:b≠g):w.cell? ⟨b,o,none⟩=some x:=d.gr.cell h (by simp;exact dM)
theorem Dr.set(d:Dr w0 g a n cap w)(h:w0.heap.size<=b)(x:Value):Dr w0 g a n cap (w.setCell ⟨b,i,none⟩ x):=
 d.row (row:=some b) ⟨rfl,rfl,rfl,by simp,fun k _ hk=>heap_setCell_other w ⟨b,i,none⟩ k x (fun e=>hk (by simp [e]))⟩ (fun k hk=>by simp at hk;omega)
end
theorem Ba{f s r:Nat}{u:Value}{ys:List Value}(h:w.ownsRow B e s v m xs)(h':w.ownsRow C f r u k ys)(dM:e≠f):∀ q,v.ownBlock=some q->u.ownBlock≠some q:=by
 intro q hq Vy
 rcases h.2 with⟨rfl,_⟩|⟨q1,c1,cur1,rfl,_,g1,_⟩
 ·simp [Value.ownBlock] at hq
 rcases h'.2 with⟨rfl,_⟩|⟨q2,c2,aQp,rfl,_,g2,_⟩
 ·simp [Value.ownBlock] at Vy
 simp only [Value.ownBlock,mV] at hq Vy;subst hq;subst Vy;rw [g1] at g2;simp at g2;exact dM g2.2
theorem dF.other{w':World}{f r:Nat}{u:Value}{ps:List Zp}{ys:List Value}(h:dF w B v ps)(ho:w.ownsRow C f r u m ys)(h1:f≠42)(h2:f≠9)(hg:w.grownBy w' u.ownBlock):dF w' B v ps:=
 h.beside hg (fun q hq=>Ba ho h.outer h1 q hq) (fun q hq p hp=>by
  obtain⟨i,hi⟩:=List.getElem?_of_mem hp
  exact Ba ho (h.inner i p hi) h2 q hq)
theorem dF.dS{ps:List Zp}(h:dF w B v ps)(hk:bW w c cs T)(h1:42≠T)(h2:9≠T):dF (w.setCell ⟨c,i,none⟩ x) B v ps:=
 h.beside (b:=some c) ⟨rfl,rfl,rfl,by simp,fun k _ hk=>heap_setCell_other w ⟨c,i,none⟩ k x (fun e=>hk (by simp [e]))⟩ (fun q hq=>by cases hq;exact dD h.outer hk h1) (fun q hq p hp=>by
  cases hq
  obtain⟨j,hj⟩:=List.getElem?_of_mem hp
  exact dD (h.inner j p hj) hk h2)
theorem Rk{s:Nat}(h:w.ownsRow B e s v m xs)(hk:bW w c cs T)(dM:e≠T):(w.setCell ⟨c,i,none⟩ x).ownsRow B e s v m xs:=
 h.kept (row:=some c) ⟨rfl,rfl,rfl,by simp,fun k _ hk=>heap_setCell_other w ⟨c,i,none⟩ k x (fun e=>hk (by simp [e]))⟩ (.inr (dD h hk dM))
def lV(w:World)(B:Nat)(v:Value)(ps:List Zp):Prop:=w.ownsRow B 42 4 v ps.length (lG ps)∧∀ p∈ps,w.ownsRow B 9 1 p.2 p.1.da.length (p.1.da.map Value.string)
def ZKp(w:World)(B:Nat)(v:Value)(ps:List Zp):Prop:=∀ W:World,(∀ b,B<=b->b<w.heap.size->W.heap[b]? =w.heap[b]?)->gG W v ps
def ZKx(w:World)(B:Nat)(v:Value)(ps:List Zp):Prop:=∀ W:World,(∀ b,B<=b->b<w.heap.size->(∀ cs,w.heap[b]? ≠some (.cells cs 25 (0,0)))->W.heap[b]? =w.heap[b]?)->gG W v ps
section
variable {w:World}{B:Nat}{v:Value}{ps:List Zp}
theorem dF.has(h:dF w B v ps):lV w B v ps:=⟨h.outer,fun p hp=>by obtain⟨i,hi⟩:=List.getElem?_of_mem hp;exact h.inner i p hi⟩
theorem lV.dS(h:lV w B v ps)(hk:bW w c cs T)(h1:42≠T)(h2:9≠T):lV (w.setCell ⟨c,i,none⟩ x) B v ps:=
 ⟨dY h.1 (dD h.1 hk h1),fun p hp=>dY (h.2 p hp) (dD (h.2 p hp) hk h2)⟩
theorem lV.below(h:lV w B v ps)(hb:Below w.heap.size w w1):lV w1 B v ps:=⟨own_below h.1 hb,fun p hp=>own_below (h.2 p hp) hb⟩
theorem lV.put{j:Nat}{q:Zp}{y:Value}(h:lV w B (.slice (some ⟨g,0,none⟩) ps.length cap) ps)(hp:ps[j]? =some p)(hi:i<4)(hz:(YR p).set i y=YR q)(hq:∀ X:World,X.ownsRow B 9 1 p.2 p.1.da.length (p.1.da.map Value.string)->X.ownsRow B 9 1 q.2 q.1.da.length (q.1.da.map Value.string)):lV (w.setCell ⟨g,j*4+i,none⟩ y) B (.slice (some ⟨g,0,none⟩) ps.length cap) (ps.set j q):=by
 have hj:=(dL hp).1
 have e1:(lG ps).set (j*4+i) y=lG (ps.set j q):=by
  obtain⟨e2,e3⟩:ps=ps.take j++[p]++ps.drop (j+1)∧ps.set j q=ps.take j++[q]++ps.drop (j+1):=by
   have OE:=dL hp;constructor
   ·conv=>lhs;rw [<- List.take_append_drop j ps,List.drop_eq_getElem_cons OE.1,OE.2]
    simp
   rw [List.set_eq_take_append_cons_drop,if_pos hj];simp
  have hl:(lG (ps.take j)).length=j*4:=by rw [GJ,List.length_take];omega
  rw [e3]
  conv=>lhs;rw [e2]
  have hp4:(YR p).length=4:=rfl;rw [qJ,qJ,qJ,qJ,List.append_assoc,List.append_assoc,List.set_append_right _ _ (by omega),hl,show j*4+i-j*4=i by omega];congr 1;have s1:lG [p]=YR p:=by simp [lG]
  have s2:lG [q]=YR q:=by simp [lG]
  rw [s1,s2,List.set_append_left _ _ (by omega),hz]
 have mI:=(h.1.stored (j*4+i) y).1;rw [e1] at mI;have far:∀ {r:Zp},r∈ps->(w.setCell ⟨g,j*4+i,none⟩ y).ownsRow B 9 1 r.2 r.1.da.length (r.1.da.map Value.string):=fun {r} hr=>dY (h.2 r hr) (jZ (h.2 r hr) h.1 (by decide) g rfl)
 refine⟨by rw [List.length_set];exact mI,fun r hr=>?_⟩
 rcases List.mem_or_eq_of_mem_set hr with hr|rfl
 ·exact far hr
 exact hq _ (far (dA hp))
theorem lV.app{v1:Value}(h:lV w B v ps)(hp:p∈ps)(ho:w1.ownsRow B 42 4 v1 (ps.length+1) (lG ps++YR p))(hg:w.grownBy w1 v.ownBlock):lV w1 B v1 (ps++[p]):=by
 have e:lG (ps++[p])=lG ps++YR p:=by simp [lG]
 have far:∀ {r:Zp},r∈ps->w1.ownsRow B 9 1 r.2 r.1.da.length (r.1.da.map Value.string):=fun {r} hr=>iF (h.2 r hr) hg (jZ (h.2 r hr) h.1 (by decide))
 refine⟨by rw [e,oJ];exact ho,fun r hr=>?_⟩
 rcases iU hr with hr|hr
 ·exact far hr
 rw [List.mem_singleton.1 hr];exact far hp
theorem Rl{W:World}{s:Nat}(h:w.ownsRow B e s v n xs)(hW:∀ b,B<=b->b<w.heap.size->W.heap[b]? =w.heap[b]?):W.ownsRow B e s v n xs:=by
 refine⟨h.1,?_⟩
 rcases h.2 with h0|⟨g',cap,cur,rfl,hb,hh,r⟩
 ·exact .inl h0
 refine .inr ⟨g',cap,cur,rfl,hb,?_,r⟩;rw [hW g' hb (Array.getElem?_eq_some_iff.1 hh).1];exact hh
theorem aEz{W:World}{s:Nat}(h:w.ownsRow B e s v n xs)(hW:∀ q,v.ownBlock=some q->W.heap[q]? =w.heap[q]?):W.ownsRow B e s v n xs:=by
 refine⟨h.1,?_⟩
 rcases h.2 with h0|⟨g',cap,cur,rfl,hb,hh,r⟩
 ·exact .inl h0
 refine .inr ⟨g',cap,cur,rfl,hb,?_,r⟩;rw [hW g' rfl];exact hh
theorem lV.kx(h:lV w B v ps):ZKx w B v ps:=fun W hW=>⟨dZ.aP (aEz h.1 fun q hq=>hW q (h.1.lt q hq).1 (h.1.lt q hq).2 fun cs hc=>dD h.1 hc (by decide) hq),fun p hp=>Nm.bP.aP (aEz (h.2 p hp) fun q hq=>hW q ((h.2 p hp).lt q hq).1 ((h.2 p hp).lt q hq).2 fun cs hc=>dD (h.2 p hp) hc (by decide) hq)⟩
theorem ZKx.kp(h:ZKx w B v ps):ZKp w B v ps:=fun W hW=>h W fun b h1 h2 _=>hW b h1 h2
theorem ZKx.base(h:ZKx w B v ps)(hC:C<=B):ZKx w C v ps:=fun W hW=>h W fun b h1=>hW b (by omega)
theorem lV.kp(h:lV w B v ps):ZKp w B v ps:=fun W hW=>⟨dZ.aP (Rl h.1 hW),fun p hp=>Nm.bP.aP (Rl (h.2 p hp) hW)⟩
theorem ZKp.AU(h:ZKp w B v ps):gG w v ps:=h w (fun _ _ _=>rfl)
theorem ZKp.base(h:ZKp w B v ps)(hC:C<=B):ZKp w C v ps:=fun W hW=>h W (fun b h1=>hW b (by omega))
theorem ZKp.far{y:Value}(h:ZKp w B v ps)(hg:g<B):ZKp (w.setCell ⟨g,i,none⟩ y) B v ps:=fun W hW=>h W (fun b h1 h2=>(hW b h1 (by simpa using h2)).trans (heap_setCell_other w ⟨g,i,none⟩ b y (by intro e;simp at e;omega)))
end
theorem aA6{off:Nat}{qs:List Zp}(h:gG w (.slice (some ⟨b,off,none⟩) (p::qs).length cap) (p::qs)):gG w (.slice (some ⟨b,off+4,none⟩) qs.length (cap-1)) qs:=by
 obtain⟨⟨_,a,c,e,h1,h2,h3⟩,hd⟩:=h;simp only [gK] at e;obtain⟨rfl,-,rfl⟩:=e;obtain⟨b',off',e2,hc⟩:=h3 (by simp);simp only [mV,Addr.mk.injEq] at e2;obtain⟨rfl,rfl,-⟩:=e2;refine⟨⟨GJ qs,_,_,rfl,by simp at h1;omega,by omega,fun _=>⟨b,off+4,rfl,fun i x hx=>?_⟩⟩,fun q hq=>hd q (List.mem_cons_of_mem _ hq)⟩;have:=hc (4+i) x (by rw [KD,List.getElem?_append_right (by show 4<=_;omega)];simpa [YR] using hx)
 rwa [<- Nat.add_assoc] at this
def LQ(ap b:ByteArray):List Rr:=[⟨ap,6,1,3600,TC ap b⟩,⟨ap,2,1,3600,uQ [⟨#[110,115,49]⟩] ap⟩]
def apB(ap:ByteArray):Bool:=(Nm.split ap).isSome&&cZ ap ap&& !II (Nm.dV ap)&&(Nm.split (uQ [⟨#[110,115,49]⟩] ap)).isSome&&(Nm.split (uQ [⟨#[97,100,109,105,110]⟩] ap)).isSome
theorem aE0(h:ap∈LP):apB ap=true:=by
 simp only [LP,List.mem_cons,List.not_mem_nil,or_false] at h
 rcases h with rfl|rfl|rfl|rfl<;>decide+kernel
theorem aE1:∀ (l:List UInt8) (cs:List UInt8) (xs:List ByteArray),LOK cs xs->LOK (cs++List.replicate l.length 98) (xs++l.map fun c=>⟨#[c]⟩)
 |[],cs,xs,h=>by simpa using h
 |c::l,cs,xs,h=>by
  have h1:=aE1 l (cs++[98]) (xs++[⟨#[c]⟩]) (h.snoc (fun e=>absurd e (by decide)) (fun _=>rfl));simpa [List.replicate_succ] using h1
theorem Rm:∀ (l:List UInt8),bA (Dt.oP (l.map fun c=>(⟨#[c]⟩:ByteArray)))=⟨l.toArray⟩
 |[]=>rfl
 |c::l=>by
  rw [List.map_cons,CE,Rm l];apply Nm.lL;simp
theorem aIq{b:ByteArray}(xZ:ap∈LP)(hb:b.size=20):fH 6 (TC ap b)=0:=by
 have h:=aE0 xZ;have hs:=XP xZ;simp only [apB,Bool.and_eq_true] at h;obtain⟨⟨_,h1⟩,h2⟩:=h
 have hl:LOK (Dt.nW (6:Nat)).data.toList ([uQ [⟨#[110,115,49]⟩] ap,uQ [⟨#[97,100,109,105,110]⟩] ap]++b.data.toList.map fun c=>(⟨#[c]⟩:ByteArray)):=by
  have h3:=aE1 b.data.toList [110,110] [uQ [⟨#[110,115,49]⟩] ap,uQ [⟨#[97,100,109,105,110]⟩] ap] ⟨⟨fun _=>h1,fun e=>absurd e (by decide)⟩,⟨fun _=>h2,fun e=>absurd e (by decide)⟩,trivial⟩;have h4:b.data.toList.length=20:=by simpa using hb
  rw [h4] at h3;exact h3
 have e:bA (Dt.oP ([uQ [⟨#[110,115,49]⟩] ap,uQ [⟨#[97,100,109,105,110]⟩] ap]++b.data.toList.map fun c=>(⟨#[c]⟩:ByteArray)))=TC ap b:=by
  rw [List.cons_append,List.cons_append,List.nil_append,CE,CE,Rm,TC,ByteArray.append_assoc]
 have h5:=Au (t:=6) (by decide) (by decide) hl (by
  rw [e,TC,kU,kU,wU,wU,show Nm.cK [(⟨#[110,115,49]⟩:ByteArray)]=4 from rfl,show Nm.cK [(⟨#[97,100,109,105,110]⟩:ByteArray)]=6 from rfl]
  omega)
 rw [e] at h5;exact h5
theorem aK7(xZ:ap∈LP):fH 2 (uQ [⟨#[110,115,49]⟩] ap)=0:=by
 have h:=aE0 xZ;have hs:=XP xZ;simp only [apB,Bool.and_eq_true] at h
 have h5:=Au (t:=2) (xs:=[uQ [⟨#[110,115,49]⟩] ap]) (by decide) (by decide) ⟨⟨fun _=>h.1.2,fun e=>absurd e (by decide)⟩,trivial⟩ (by
  rw [CE,show bA (Dt.oP [])=⟨#[]⟩ from rfl,kU,wU,show Nm.cK [(⟨#[110,115,49]⟩:ByteArray)]=4 from rfl,show(⟨#[]⟩:ByteArray).size=0 from rfl]
  omega)
 have e:bA (Dt.oP [uQ [⟨#[110,115,49]⟩] ap])=uQ [⟨#[110,115,49]⟩] ap:=by
  rw [CE];apply Nm.lL;simp [bA,Dt.oP]
 rw [e] at h5;exact h5
theorem aA7{a b:Rr}{fo d e:ByteArray}(ha:a.ty=6)(hb:b.ty=2)(hs:II fo=false):fZ [⟨a,fo,d,false⟩,⟨b,fo,e,false⟩] fo=(0,0):=by
 have f1:dC (fun i x=> !x.out&&decide (x.r.ty=6)&&(decide (x.fo≠fo)||gZ ([(⟨a,fo,d,false⟩:It),⟨b,fo,e,false⟩].take i) fo 6)) [⟨a,fo,d,false⟩,⟨b,fo,e,false⟩]=none:=by
  refine nM fun i hi y hy=>?_
  match i,hy with
  |0,hy=>simp at hy;subst hy;simp [gZ]
  |1,hy=>simp at hy;subst hy;simp [hb]
  |i+2,hy=>simp at hy
 have g:∀ p:Nat->It->Bool,(p 0 ⟨a,fo,d,false⟩=false)->(p 1 ⟨b,fo,e,false⟩=false)->dC p [⟨a,fo,d,false⟩,⟨b,fo,e,false⟩]=none:=by
  intro p h0 h1;refine nM fun i hi y hy=>?_
  match i,hy with
  |0,hy=>simp at hy;subst hy;exact h0
  |1,hy=>simp at hy;subst hy;exact h1
  |i+2,hy=>simp at hy
 have h6:gZ [(⟨a,fo,d,false⟩:It),⟨b,fo,e,false⟩] fo 6=true:=by simp [gZ,ha]
 have h2:gZ [(⟨a,fo,d,false⟩:It),⟨b,fo,e,false⟩] fo 2=true:=by simp [gZ,ha,hb]
 rw [fZ,f1];simp only [h6,h2,Bool.not_true,Bool.false_eq_true,if_false];rw [g _ (by simp [hs]) (by simp [hs]),g _ (by simp [ha]) (by simp [hb]),g _ (by simp [gZ,ha,hb]) (by simp [gZ,ha,hb]),g _ (by simp [ha,hb]) (by simp [ha,hb])]
theorem aIr{b:ByteArray}(xZ:ap∈LP)(hb:b.size=20):iX (LQ ap b) ap=(0,0):=by
 have h:=aE0 xZ;simp only [apB,Bool.and_eq_true,Bool.not_eq_true'] at h;obtain⟨⟨⟨⟨s1,s2⟩,s3⟩,s4⟩,s5⟩:=h;have k6:=aIq xZ hb;have k2:=aK7 xZ
 have lN:gB ap (LQ ap b) 0=none:=by
  rw [LQ,gB,if_pos (by simp [pW,s1,s2,k6,oW]),gB,if_pos (by simp [pW,s1,s2,k2,oW]),gB]
 have Bb:vY ((LQ ap b).map bH)= -1:=by
  rw [vY,nM];intro i hi y hy
  match i,hy with
  |0,hy=>simp [uS]
  |1,hy=>
   simp [LQ] at hy
   subst hy
   simp [LQ,uS,tF,bH]
  |i+2,hy=>simp [LQ] at hy
 have WK:bK (LQ ap b)=[⟨⟨ap,6,1,3600,TC ap b⟩,Nm.dV ap,oV 6 (TC ap b),false⟩,⟨⟨ap,2,1,3600,uQ [⟨#[110,115,49]⟩] ap⟩,Nm.dV ap,oV 2 (uQ [⟨#[110,115,49]⟩] ap),false⟩]:=by
  rw [bK,FX];simp [LQ,qG,bH,pU,tF]
 rw [iX,if_neg (by rw [s1];decide),if_neg (by simp [LQ]),lN];simp only [Bb];rw [if_neg (by decide),WK,aA7 rfl rfl s3];rfl
theorem aE2:∀ (l:List Rr) (i:Nat) (c:Int) (j:Nat),gB aL l i=some (c,j)->c≠0
 |[],i,c,j,h=>by simp [gB] at h
 |r::l,i,c,j,h=>by
  rw [gB] at h
  split at h
  ·exact aE2 l (i+1) c j h
  rename_i hn;simp at h;rw [<- h.1];exact hn
theorem aIs{list:List Rr}(h:(iX list ap).1=0):0<(zI list).length:=by
 have h6:gZ (bK list) (Nm.dV ap) 6=true:=by
  rw [iX] at h
  split at h
  ·exact absurd h (by simp)
  split at h
  ·exact absurd h (by simp)
  split at h
  ·rename_i c i hc;exact absurd h (aE2 _ _ c i hc)
  split at h
  ·exact absurd h (by simp)
  split at h
  ·rename_i hr;exact absurd h hr
  rename_i hr;have wR:(fZ (bK list) (Nm.dV ap)).1=0:=Classical.byContradiction hr;rw [fZ] at wR
  split at wR
  ·exact absurd wR (by simp)
  cases e:gZ (bK list) (Nm.dV ap) 6 with
  |true=>rfl
  |false=>
   rw [e] at wR;exact absurd wR (by simp)
 rw [gZ,List.any_eq_true] at h6;obtain⟨x,hx,hp⟩:=h6;simp only [Bool.and_eq_true,Bool.not_eq_true'] at hp;have hm:x∈IY list:=List.mem_filter.2 ⟨hx,by simp [hp.1.1]⟩
 have hs:0<(lU list).length:=by
  rw [lU,VI,BZ];exact List.length_pos_of_mem hm
 obtain⟨qs,s,e⟩:=xP (l:=bK list) (iT:=lU list) _ hs (aI _);rw [zI,e];simp
