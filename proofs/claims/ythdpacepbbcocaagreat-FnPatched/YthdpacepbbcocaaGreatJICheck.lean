import Derived.Test.YthdpacepbbcocaaGreatJFoldD
import Derived.Test.YthdpacepbbcocaaGreatJZbT
import Derived.Test.YthdpacepbbcocaaGreatJStA
import Derived.Laws.AppendOwnNone
set_option linter.unusedVariables false
set_option maxRecDepth 1000000
set_option maxHeartbeats 16000000
namespace Go.Proofs.YthdpacepbbcocaaGreat
open Go.RowKit
theorem yO(t:Int)(d:ByteArray)(w:World)(hd:d.size<=2000000):
 Calls Tryz.prog 119 #[.int .i64 t,.string d] w fun e w'=>e=.returned (.int .i64 (bQ t d))∧Below w.heap.size w w':=by
 have aX:=RP t d w hd;go_enter Tryz.func119,Tryz.ntmps119;go_wp2_with (go_at_call 152;refine aX.mono ?_;rintro e w2 ⟨v,rfl,_,_,aJ⟩)
 go_ret;exact⟨rfl,aJ⟩
theorem XA(o:eZ)(B:Nat)(ty:Int)(w:World)(h:BN w B o)(hl:o.ss.length<=500000)(hd:Ji o.ss):
 Calls Tryz.prog 150 #[ptr o.hd,.int .i64 ty] w fun e w'=>Below w.heap.size w w'∧
  ((kL (fE ty) o.ss=true∧∃ s,o.ss[posOf (fE ty) o.ss]? =some s∧s.ty=ty∧e=.returned (.tuple #[ptr s.dL,.bool true]))∨(kL (fE ty) o.ss=false∧e=.returned (.tuple #[.pointer none,.bool false]))):=by
 have pF:(mQ o.ss).length=o.ss.length:=by simp [mQ]
 have Ac:∀ (tb i:Nat) (p:Value×Value),(mQ o.ss)[i]? =some p->∀ W,Below w.heap.size w W->bG W tb #[.pointer (some ⟨o.hd,0,none⟩)] 154->Calls Tryz.prog 191 #[.agg #[p.1,p.2],.int .i64 ty,.pointer (some ⟨tb,0,none⟩)] W fun e w'=>e=.returned (.int .i64 (qI (fE ty) o.ss i))∧Below W.heap.size W w':=by
  intro tb i p hp W hW kb;simp only [mQ,List.getElem?_map,Option.map_eq_some_iff] at hp;obtain⟨q,hq,rfl⟩:=hp;rw [lC hq];exact RD tb o.hd o.rv (ptr q.dL) q.ty ty W kb (aB h.head hW)
 have pX:=oU (f:=fE ty) hd (fun a b hab hb=>by
  rw [fE,uI] at hb ⊢
  omega)
 have BP:=vT o.ss pX
 cases mK:kL (fE ty) o.ss with
 |true=>
  obtain⟨x,hx,KT⟩:=zO mK;have hx':(mQ o.ss)[posOf (fE ty) o.ss]? =some (.int .i64 x.ty,ptr x.dL):=by simp [mQ,hx]
  refine(aJo o.hd B RA o.rv (.int .i64 ty) (mQ o.ss) (qI (fE ty) o.ss) (posOf (fE ty) o.ss) _ w h.head h.rows (by omega) Ac (by rw [pF];exact pX) (by rw [pF];exact BP) hx' (by rw [lC hx];exact KT)).mono ?_;rintro e w' ⟨rfl,hb⟩
  exact⟨hb,.inl ⟨rfl,x,hx,PM KT,rfl⟩⟩
 |false=>
  refine(aFo o.hd B RA o.rv (.int .i64 ty) (mQ o.ss) (qI (fE ty) o.ss) (posOf (fE ty) o.ss) w h.head h.rows (by omega) Ac (by rw [pF];exact pX) (by rw [pF];exact BP) (by rw [pF];exact EM mK)).mono ?_;rintro e w' ⟨rfl,hb⟩;exact⟨hb,.inr ⟨rfl,rfl⟩⟩
theorem BU(o:eZ)(B:Nat)(ty:Int)(w:World)(h:BN w B o)(hl:o.ss.length<=500000)(hd:Ji o.ss):
 Calls Tryz.prog 143 #[ptr o.dL,.int .i64 ty] w fun e w'=>e=.returned (.bool (kL (fE ty) o.ss))∧Below w.heap.size w w':=by
 have hg:=XA o B ty w h hl hd;have rn:=fun i=>aA h.node i
 unfold ptr at*;go_enter Tryz.func143,Tryz.ntmps143;go_wp2_with fail
 refine hg.mono ?_;rintro e w' ⟨hb,⟨mK,s,_,_,rfl⟩|⟨mK,rfl⟩⟩
 ·have HIN:=Nm.aF mK;clear mK hg;go_wp2;go_ret;exact⟨by rw [HIN.out];rfl,hb⟩
 have HIN:=Nm.aF mK;clear mK hg;go_wp2;go_ret;exact⟨by rw [HIN.out];rfl,hb⟩
theorem Hf(th:Nat)(rv:Value)(os:List eZ)(B:Nat)(nv:Value)(lab:List ByteArray)(w:World)(h:uU w B th rv os)(hl:os.length<=500000)(hd:OwS os)(xR:CK w (jP th rv os) os)(hn:Nm.dX w nv lab)(TV:lab.length<=1000000000):
 Calls Tryz.prog 172 #[ptr th,nv] w fun e w'=>Below w.heap.size w w'∧
  ((kL (iP lab) os=true∧∃ o,os[posOf (iP lab) os]? =some o∧Nm.bJ o.lab lab=0∧e=.returned (.tuple #[ptr o.dL,.bool true]))∨(kL (iP lab) os=false∧e=.returned (.tuple #[.pointer none,.bool false]))):=by
 have pF:(mR os).length=os.length:=by simp [mR]
 have Ac:∀ (tb i:Nat) (p:Value×Value),(mR os)[i]? =some p->∀ W,Below w.heap.size w W->bG W tb #[.pointer (some ⟨th,0,none⟩)] 117->Calls Tryz.prog 196 #[.agg #[p.1,p.2],nv,.pointer (some ⟨tb,0,none⟩)] W fun e w'=>e=.returned (.int .i64 (qI (iP lab) os i))∧Below W.heap.size W w':=by
  intro tb i p hp W hW kb;simp only [mR,List.getElem?_map,Option.map_eq_some_iff] at hp;obtain⟨q,hq,rfl⟩:=hp;rw [lC hq];have Aq:=xR q (bP hq);exact RF tb th rv (ptr q.dL) q.lv nv q.lab lab W kb (aB h.head hW) (Aq.row.below hW) (hn.below hW) Aq.fit.1 Aq.fit.2 TV
 have pX:=oU (f:=iP lab) hd (fun a b hab hb=>wT hab hb);have BP:=vT os pX
 cases mK:kL (iP lab) os with
 |true=>
  obtain⟨x,hx,KT⟩:=zO mK;have hx':(mR os)[posOf (iP lab) os]? =some (x.lv,ptr x.dL):=by simp [mR,hx]
  refine(aJp th B wQ rv nv (mR os) (qI (iP lab) os) (posOf (iP lab) os) _ w h.head h.rows (by omega) Ac (by rw [pF];exact pX) (by rw [pF];exact BP) hx' (by rw [lC hx];exact KT)).mono ?_;rintro e w' ⟨rfl,hb⟩
  exact⟨hb,.inl ⟨rfl,x,hx,KT,rfl⟩⟩
 |false=>
  refine(aFp th B wQ rv nv (mR os) (qI (iP lab) os) (posOf (iP lab) os) w h.head h.rows (by omega) Ac (by rw [pF];exact pX) (by rw [pF];exact BP) (by rw [pF];exact EM mK)).mono ?_;rintro e w' ⟨rfl,hb⟩;exact⟨hb,.inr ⟨rfl,rfl⟩⟩
def XB(lab:List ByteArray)(ty:Int)(os:List eZ):Bool:=match os[posOf (iP lab) os]? with
 |some o=>kL (iP lab) os&&kL (fE ty) o.ss
 |none=>false
theorem Ol(bb oo th:Nat)(rv:Value)(os:List eZ)(B:Nat)(na:Option Addr)(nl nc:Nat)(lab:List ByteArray)(ty:Int)(w:World)(h:uU w B th rv os)(hl:os.length<=500000)(hd:TrS os)(xR:CK w (jP th rv os) os)(hn:Nm.dX w (.slice na nl nc) lab)(TV:lab.length<=1000000000)(hc:w.cell? ⟨bb,oo+1,none⟩=some (ptr th)):
 Calls Tryz.prog 138 #[.pointer (some ⟨bb,oo,none⟩),.slice na nl nc,.int .i64 ty] w fun e w'=>e=.returned (.bool (XB lab ty os))∧Below w.heap.size w w':=by
 have hg:=Hf th rv os B (.slice na nl nc) lab w h hl hd.1 xR hn TV;have hh:=fun o (ho:o∈os) W (hW:Below w.heap.size w W)=>BU o B ty W ((h.below hW).mU o ho) (by have:=(hd.2 o ho).2.1;omega) (hd.2 o ho).1
 unfold ptr at hc hg hh;have HH:=Nm.aF hh;clear hh h hd xR hn;go_enter Tryz.func138,Tryz.ntmps138;go_wp2_with fail
 refine hg.mono ?_;rintro e w1 ⟨hb,⟨mK,o,ho,_,rfl⟩|⟨mK,rfl⟩⟩
 ·have hh:=HH.out o (bP ho) w1 hb;have HE:Hid (XB lab ty os=kL (fE ty) o.ss):=by show _=_;rw [XB,ho,mK];rfl
  generalize kL (fE ty) o.ss=IS at*;clear hg mK ho;go_wp2_with fail
  refine hh.mono ?_;rintro e w2 ⟨rfl,b2⟩;go_wp2;go_ret;exact⟨by rw [HE.out];rfl,Nm.aC hb b2⟩
 have HE:Hid (XB lab ty os=false):=by
  show _=_
  rw [XB]
  cases os[posOf (iP lab) os]? with
  |none=>rfl
  |some o=>rw [mK];rfl
 clear hg mK;go_wp2;go_ret;exact⟨by rw [HE.out];rfl,hb⟩
def aQ(r:Rr):It:=⟨r,Nm.cZ r.own,gK r.ty r.da,false⟩
def gP(aM:ByteArray):List Rr->Nat->Option (Int×Nat)
 |[],_=>none
 |r::rs,i=>if mV r aM=0 then gP aM rs (i+1) else some (mV r aM,i)
theorem PW{aM:ByteArray}:∀ (l:List Rr) (k i:Nat) (r:Rr),(∀ (j:Nat) (x:Rr),j<k->l[j]? =some x->mV x aM=0)->l[k]? =some r->mV r aM≠0->gP aM l i=some (mV r aM,i+k):=by
 intro l
 induction l with
 |nil=>intro k i r _ h;simp at h
 |cons x l ih=>
  intro k i r lT hr hp
  cases k with
  |zero=>
   simp at hr;subst hr
   rw [gP,if_neg hp];rfl
  |succ k=>
   simp at hr;rw [gP,if_pos (lT 0 x (by omega) rfl),ih k (i+1) r (fun j y hj hy=>lT (j+1) y (by omega) (by simpa using hy)) hr hp];congr 2;omega
theorem PX{aM:ByteArray}:∀ (l:List Rr) (i:Nat),(∀ (j:Nat) (x:Rr),j<l.length->l[j]? =some x->mV x aM=0)->gP aM l i=none:=by
 intro l
 induction l with
 |nil=>intro i _;rfl
 |cons x l ih=>
  intro i lT;rw [gP,if_pos (lT 0 x (by simp) rfl)];exact ih (i+1) (fun j y hj hy=>lT (j+1) y (by simp;omega) (by simpa using hy))
def MV(acc:List Sz)(d:ByteArray):List Sz:=match acc.getLast? with
 |some s=>acc.dropLast++[{s with da:=s.da++[d]}]
 |none=>[]
def gL(jQ:List It)(k:Nat)(x:It):Bool:=match k with
 |0=>true
 |k+1=>match jQ[k]? with
  |some y=>decide (y.fo≠x.fo)||decide (y.r.ty≠x.r.ty)
  |none=>true
def kW(l jQ:List It):Nat->List Sz
 |0=>[]
 |k+1=>match jQ[k]? with
  |some x=>if gL jQ k x then kW l jQ k++[⟨nW l x.fo,x.r.ty,x.r.tt,[x.r.da]⟩] else MV (kW l jQ k) x.r.da
  |none=>kW l jQ k
theorem nX{l jQ:List It}{k:Nat}{x:It}(h:jQ[k]? =some x)(hn:gL jQ k x=true):kW l jQ (k+1)=kW l jQ k++[⟨nW l x.fo,x.r.ty,x.r.tt,[x.r.da]⟩]:=by
 rw [kW,h];simp [hn]
theorem sH{l jQ:List It}{k:Nat}{x:It}{qs:List Sz}{s:Sz}(h:jQ[k]? =some x)(hn:gL jQ k x=false)(hg:kW l jQ k=qs++[s]):kW l jQ (k+1)=qs++[{s with da:=s.da++[x.r.da]}]:=by
 rw [kW,h];simp [hn,hg,MV]
theorem vZ{l jQ:List It}:∀ (k:Nat),0<k->k<=jQ.length->∃ qs s,kW l jQ k=qs++[s]:=by
 intro k
 induction k with
 |zero=>intro h;omega
 |succ k ih=>
  intro _ hk;obtain⟨x,hx⟩:∃ x,jQ[k]? =some x:=⟨_,bY (by omega)⟩
  cases hn:gL jQ k x with
  |true=>exact⟨_,_,nX hx hn⟩
  |false=>
   have Su:0<k:=by
    rcases Nat.eq_zero_or_pos k with h|h
    ·subst h;simp [gL] at hn
    exact h
   obtain⟨qs,s,e⟩:=ih Su (by omega);exact⟨_,_,sH hx hn e⟩
theorem MW{l jQ:List It}:∀ (k:Nat),k<=jQ.length->(kW l jQ k).length<=k∧∀ s∈kW l jQ k,s.da.length<=k:=by
 intro k
 induction k with
 |zero=>intro _;exact⟨aN _,by simp [kW]⟩
 |succ k ih=>
  intro hk;obtain⟨h1,h2⟩:=ih (by omega);obtain⟨x,hx⟩:∃ x,jQ[k]? =some x:=⟨_,bY (by omega)⟩
  cases hn:gL jQ k x with
  |true=>
   rw [nX hx hn];refine⟨by simp;omega,fun s hs=>?_⟩
   rcases jS hs with h|h
   ·have:=h2 s h;omega
   simp at h;subst h;simp
  |false=>
   have Su:0<k:=by
    rcases Nat.eq_zero_or_pos k with h|h
    ·subst h;simp [gL] at hn
    exact h
   obtain⟨qs,s,e⟩:=vZ (l:=l) (jQ:=jQ) k Su (by omega);rw [sH hx hn e];rw [e] at h1 h2;refine⟨by simp at h1 ⊢;omega,fun t ht=>?_⟩
   rcases jS ht with h|h
   ·have:=h2 t (List.mem_append.2 (.inl h));omega
   simp at h;subst h;have:=h2 s (by simp)
   simp;omega
def bD(list:List Rr):List It:=zB (list.map aQ)
def xB(list:List Rr):List It:=(bD list).filter fun x=> !x.out
def fK(list:List Rr):List It:=EY (xB list)
def mW(list:List Rr):List Sz:=kW (bD list) (fK list) (fK list).length
def eH(list:List Rr)(aM:ByteArray):Int×Int:=
 if(Nm.split aM).isSome=false then(32,-1) else if 500<list.length then(12,-1) else
 match gP aM list 0 with
 |some (c,i)=>(c,i)
 |none=>if 0<=sF (list.map aQ) then(24,sF (list.map aQ)) else if(fM (bD list) (Nm.cZ aM)).1≠0 then fM (bD list) (Nm.cZ aM) else(0,0)
open Go.Shelf
attribute [local go_sem] Oper.semAt_some
theorem aG0:(Tryz.prog.info? 9).map (fun i=>(i.zero,i.size,i.bytes))=some (some (.string ByteArray.empty),1,16):=by kernel_rfl
theorem Om(F:Fence)(n:Nat)(h3:F.fn 151)(h4:F.fn 175)(h5:F.fn 192)(xK:F.round=none)(hn:3<=n)
 (g:Nat) (sv:Value) (zs:List (ByteArray×ByteArray)) (hl:zs.length<=1000000) (w:World) (hg:g<w.heap.size) (kg:w.cell? ⟨g,1,none⟩=some sv) (hR:Va (fun p:ByteArray×ByteArray=>p.1) (fun p=>p.2) w.heap.size w sv zs):
 CallsIn F n Tryz.prog 151 #[.pointer (some ⟨g,0,none⟩)] w fun e W'=>∃ v,e=.returned v∧W'.ownsRow w.heap.size 9 1 v zs.length (zs.map fun p=>.string p.2)∧Below w.heap.size w W':=by
 have h1:1<=n:=by omega
 obtain⟨i0,hi,iJ,fP,fZ⟩:=info_parts aG0;refine callsIn_of_wp_marks Tryz.func151 rfl h3 ?_ xK;simp only [Tryz.ntmps151,List.size_toArray,List.length_cons,List.length_nil,Nat.reduceAdd,Nat.reduceSub,Array.replicate_succ,Array.replicate_zero,List.push_toArray,List.append_toArray,List.nil_append,List.cons_append]
 gi_wp2_with (gi_at_call 175;refine(aKa F (n-1) h4 xK _ _).mono ?_;rintro e w' ⟨rfl,rfl⟩)
 have bO:=Boxed.new w 58 (.slice none 0 0);have bN:=Boxed.new (w.alloc (.cells #[.slice none 0 0] 58)) 174 (.pointer (some ⟨g,0,none⟩));rw [fV] at bN;have jF:Below w.heap.size w ((w.alloc (.cells #[.slice none 0 0] 58)).alloc (.cells #[.pointer (some ⟨g,0,none⟩)] 174)):=((aK _ w).alloc (aN _) _).alloc (by simp) _;have ZC:=(jF.cell (p:=⟨g,1,none⟩) hg).trans kg
 refine wpIn_rangeFunc_ownG xK h1 (gf:=192) (lb:=#[.pointer (some ⟨w.heap.size+1,0,none⟩)]) rfl h5 (enters_of Tryz.func192 (by kernel_rfl) rfl)
  (aCq (fun p:ByteArray×ByteArray=>p.1) (fun p=>p.2) F (n-1) h5 xK (by omega) (w.heap.size+1) g w.heap.size sv zs hl _ (by simp) hg (by simp;omega) bN.cell ZC (hR.below jF)) belowK_t (belowK_b (by simp;omega)) (aK _ _) (fun _=>rfl)
  (fun pre W=>(∃ v,Boxed W w.heap.size 58 v∧W.ownsRow w.heap.size 9 1 v pre.length (pre.map fun p=>.string p.2)∧True)∧Below w.heap.size w W)
  (fun _ _ _=>False)
  (OwnFrom.and (Own.from (holdsRow_own w.heap.size w.heap.size 58 9 1 (fun pre:List (ByteArray×ByteArray)=>pre.length) (fun pre=>pre.map fun p=>.string p.2) (fun pre v=>True)) _) (ownFrom_below (aN _) (by simp;omega)))
  (fun _ _ _ _ _ hs _ _=>hs)
  ⟨⟨_,bO.alloc _,World.ownsRow_nil _ _ _ _,trivial⟩,jF⟩
  (fun x=>{tmps:=#[.pointer (some ⟨g,0,none⟩),undef,.slice none 0 0,.pointer (some ⟨w.heap.size,0,none⟩),undef,.string x.2,.pointer (some ⟨g,0,none⟩),.func (.func 192) #[] #[.pointer (some ⟨w.heap.size+1,0,none⟩)],.string x.1,.string x.2,undef,undef,undef,undef,undef],defers:=[]}) ?assign ?body ?done ?stop
 case assign=>
  intro l x W K hK
  gi_wp2
  exact hK
 case body=>
  rintro l pre x W ⟨⟨v,hv,eF,-⟩,hB⟩ bV;have hc:=hv.cell;have hm:zs.length<=maxLen:=by unfold maxLen;omega
  gi_wp2_with (gi_at_builtin;refine wpListIn_append_own _ rfl _ _ 58 rfl w.heap.size 9 i0 (.string ByteArray.empty) 1 16 Tryz.underlying58 hi iJ fP fZ rfl (by decide) _ _ _ rfl (eF.alloc _) ⟨W.heap.size,0,none⟩ 1 1 [.string x.2] rfl rfl (cell_one_new _ _ _) (by simp [Value.oneCell']) (by omega) (by omega) (by have:=hB.size;simp;omega) ?_;intro v' w1 dD bZ _;obtain⟨g',cap',rfl⟩:=ownsRow_succ dD;obtain⟨hv1,FI,uR,hk2,iE⟩:=hv.appended (by decide) eF hB.size (aN _) dD bZ;have iK:=hv1.cell;have hf1:=hv1.frozen)
  exact⟨hk2.from _,iE,⟨_,FI,by simpa using uR,trivial⟩,hB.trans iE⟩
 case done=>
  rintro D ys W hD rfl ⟨⟨v,hv,eF,-⟩,hB⟩ hK;have hc:=hv.cell
  gi_wp2
  refine⟨by simp,.inl ⟨_,_,rfl,run_takeDeferred hK,?_⟩⟩;exact⟨_,results_tmp rfl _ _ _,v,rfl,ownsRow_putObj eF _ hK rfl,hB.trans (belowK_b (w:=w) (aN _) W D _ _ (by simp at hD;omega) hK rfl rfl)⟩
 rintro D c pre W _ _ h _;exact h.elim
theorem Hg(g:Nat)(sv:Value)(zs:List (ByteArray×ByteArray))(hl:zs.length<=1000000)(w:World)(hg:g<w.heap.size)(kg:w.cell? ⟨g,1,none⟩=some sv)(hR:Va (fun p:ByteArray×ByteArray=>p.1) (fun p=>p.2) w.heap.size w sv zs):
 Calls Tryz.prog 151 #[.pointer (some ⟨g,0,none⟩)] w fun e W'=>∃ v,e=.returned v∧W'.ownsRow w.heap.size 9 1 v zs.length (zs.map fun p=>.string p.2)∧Below w.heap.size w W':=
 (callsIn_wide (n:=3)).1 (Om _ 3 trivial trivial trivial rfl (by omega) g sv zs hl w hg kg hR)
end Go.Proofs.YthdpacepbbcocaaGreat
namespace Go.Proofs.YthdpacepbbcocaaGreat
open Go.RowKit
theorem Ji.one{l:List tZ}(h:Ji l){a b:tZ}(ha:a∈l)(hb:b∈l)(e:a.ty=b.ty):a=b:=by
 induction l with
 |nil=>cases ha
 |cons x l ih=>
  have hx:=List.pairwise_cons.1 h
  rcases List.mem_cons.1 ha with rfl|Sl
  ·rcases List.mem_cons.1 hb with rfl|JD
   ·rfl
   have:=hx.1 b JD;omega
  rcases List.mem_cons.1 hb with rfl|JD
  ·have:=hx.1 a Sl;omega
  exact ih hx.2 Sl JD
theorem Ji.found{l:List tZ}(h:Ji l){s:tZ}(hs:s∈l):kL (fE s.ty) l=true∧l[posOf (fE s.ty) l]? =some s:=by
 have pX:=oU (f:=fE s.ty) h (fun a b hab hb=>by
  rw [fE,uI] at hb ⊢
  omega)
 have BP:=vT l pX;obtain⟨k,hk⟩:=List.mem_iff_getElem?.1 hs;have nS:=(dK hk).1
 have hz:fE s.ty s=0:=by
  rcases Int.lt_trichotomy (fE s.ty s) 0 with h1|h1|h1
  ·rw [fE,uI] at h1;omega
  ·exact h1
  rw [fE,Nm.pK] at h1;simp at h1
 have hF:EH l.length (qI (fE s.ty) l) k:=by
  refine⟨Nat.le_of_lt nS,fun i hi=>?_,fun i h1 h2=>?_⟩
  ·have Jg:l[i]? =some l[i]:=bY (by omega);rw [lC Jg,fE,uI];have:=List.pairwise_iff_getElem.1 h i k (by omega) nS hi;rw [(dK hk).2] at this;exact this
  have Jg:l[i]? =some l[i]:=bY h2;rw [lC Jg]
  rcases Int.lt_or_le (fE s.ty l[i]) 0 with h3|h3
  ·rw [fE,uI] at h3
   rcases Nat.lt_or_eq_of_le h1 with h4|rfl
   ·have:=List.pairwise_iff_getElem.1 h k i nS h2 h4;rw [(dK hk).2] at this;omega
   rw [(dK hk).2] at h3;omega
  exact h3
 have e:=EH.unique BP hF;rw [kL,e,lC hk,hz];exact⟨by simp [nS],hk⟩
theorem BN.below{w w':World}{B:Nat}{o:eZ}(h:BN w B o)(hb:Below w.heap.size w w'):BN w' B o:=h.keep fun b hm=>hb.block b (h.lt b hm)
theorem Hl(o:eZ)(s:tZ)(B:Nat)(w:World)(h:BN w B o)(hl:o.ss.length<=500000)(hd:Ji o.ss)(hs:s∈o.ss)(Vu:s.da.length<=1000000):
 Calls Tryz.prog 117 #[ptr o.dL,.int .i64 s.ty] w fun e w'=>∃ v,e=.returned (.tuple #[.agg #[.string o.nm,.int .i64 s.ty,.int .i64 s.tt,v],.bool true])∧w'.ownsRow w.heap.size 9 1 v s.da.length (s.da.map fun p=>.string p.2)∧Below w.heap.size w w':=by
 have jF:=(aK w.heap.size w).alloc (aN _) (.cells #[.string ⟨#[]⟩,.int .i64 0,.int .i64 0,.slice none 0 0] 60);have kZ:=aH w #[.string ⟨#[]⟩,.int .i64 0,.int .i64 0,.slice none 0 0] 60;have h1:=h.below jF
 have hg:=(XA o B s.ty _ h1 hl hd).mono (R':=fun e w'=>Below (w.heap.size+1) (w.alloc (.cells #[.string ⟨#[]⟩,.int .i64 0,.int .i64 0,.slice none 0 0] 60)) w'∧e=.returned (.tuple #[ptr s.dL,.bool true])) (by
  rintro e w' ⟨hb,⟨_,s',h1,h2,rfl⟩|⟨lT,_⟩⟩
  ·obtain rfl:=hd.one (bP h1) hs h2;exact⟨by simpa using hb,rfl⟩
  rw [(hd.found hs).1] at lT;cases lT)
 have hv:=fun W (hW:Below w.heap.size w W)=>Hg s.hd s.rv s.da Vu W (sP (bU (h.sets s hs).head) hW.size) ((aA (aB (h.sets s hs).head hW) 1).trans rfl) ((aGf (fun p:ByteArray×ByteArray=>p.1) (fun p=>p.2) s.da (by have:=own_below (h.sets s hs).rows hW;rw [show(xP s.da).length=s.da.length by simp [xP]] at this;exact this)))
 have rn:=fun i=>aA h1.node i
 have kn:=h.node;have ks:=(h.sets s hs).node;have HV:=Nm.aF hv;unfold ptr at hg rn kn ks ⊢;clear h h1 hd hs hv;go_enter Tryz.func117,Tryz.ntmps117;go_wp2_with fail
 refine hg.mono ?_;rintro e w1 ⟨fF,rfl⟩;have mO:Below w.heap.size w w1:=jF.trans (fF.mono (Nat.le_succ _));have kn1:=aB kn mO;have ks1:=aB ks mO;have kZ1:bG w1 w.heap.size _ _:=aB kZ (by simpa using fF);clear hg rn kn ks fF;go_wp2_with fail
 refine EE (S:=fun W=>W.cell? ⟨o.dL,0,none⟩=some (.string o.nm)∧W.cell? ⟨s.dL,0,none⟩=some (.int .i64 s.tt)∧W.cell? ⟨s.dL,2,none⟩=some (.pointer (some ⟨s.hd,0,none⟩))) (Ls:=[15,16]) rfl ⟨(aA (dS kn1) 0).trans rfl,(aA (dS ks1) 0).trans rfl,(aA (dS ks1) 2).trans rfl⟩ fun hH=>?_;refine cK (i:=0) (v:=?_) rfl (by kernel_rfl) (by kernel_rfl) (by kernel_rfl) (by kernel_rfl) (fun _ _ _ h=>h) (Or.inl ⟨by rfl,?_⟩) (by assumption) ?_;rotate_left 1
 ·(intro w vH;obtain⟨t2,t3,t4⟩:=vH;go_simp;try (with_reducible rfl))
 refine cK (i:=1) (v:=?_) rfl (by kernel_rfl) (by kernel_rfl) (by kernel_rfl) (by kernel_rfl) (fun _ _ _ h=>h) (Or.inl ⟨by rfl,?_⟩) (by assumption) ?_;rotate_left 1
 ·(intro w vH;obtain⟨t2,t3,t4⟩:=vH;go_simp;try (with_reducible rfl))
 refine cK (i:=2) (v:=?_) rfl (by kernel_rfl) (by kernel_rfl) (by kernel_rfl) (by kernel_rfl) (fun _ _ _ h=>h) (Or.inl ⟨by rfl,?_⟩) (by assumption) ?_;rotate_left 1
 ·(intro w vH;obtain⟨t2,t3,t4⟩:=vH;go_simp;try (with_reducible rfl))
 refine cK (i:=3) (v:=?_) rfl (by kernel_rfl) (by kernel_rfl) (by kernel_rfl) (by kernel_rfl) (fun _ _ _ h=>h) (Or.inl ⟨by rfl,?_⟩) (by assumption) ?_;rotate_left 1
 ·(intro w vH;obtain⟨t2,t3,t4⟩:=vH;go_simp;try (with_reducible rfl))
 refine cK (i:=4) (v:=?_) rfl (by kernel_rfl) (by kernel_rfl) (by kernel_rfl) (by kernel_rfl) (fun _ _ _ h=>h) (Or.inl ⟨by rfl,?_⟩) (by assumption) ?_;rotate_left 1
 ·(intro w vH;obtain⟨t2,t3,t4⟩:=vH;go_simp;try (with_reducible rfl))
 refine cK (i:=5) (v:=?_) rfl (by kernel_rfl) (by kernel_rfl) (by kernel_rfl) (by kernel_rfl) (fun _ _ _ h=>h) (Or.inl ⟨by rfl,?_⟩) (by assumption) ?_;rotate_left 1
 ·(intro w vH;obtain⟨t2,t3,t4⟩:=vH;go_simp;try (with_reducible rfl))
 refine cK (i:=6) (v:=?_) rfl (by kernel_rfl) (by kernel_rfl) (by kernel_rfl) (by kernel_rfl) (fun _ _ _ h=>h) (Or.inl ⟨by rfl,?_⟩) (by assumption) ?_;rotate_left 1
 ·(intro w vH;obtain⟨t2,t3,t4⟩:=vH;go_simp;try (with_reducible rfl))
 refine cK (i:=7) (v:=?_) rfl (by kernel_rfl) (by kernel_rfl) (by kernel_rfl) (by kernel_rfl) (fun _ _ _ h=>h) (Or.inl ⟨by rfl,?_⟩) (by assumption) ?_;rotate_left 1
 ·(intro w vH;obtain⟨t2,t3,t4⟩:=vH;go_simp;try (with_reducible rfl))
 refine cK (i:=8) (v:=?_) rfl (by kernel_rfl) (by kernel_rfl) (by kernel_rfl) (by kernel_rfl) (fun _ _ _ h=>h) (Or.inl ⟨by rfl,?_⟩) (by assumption) ?_;rotate_left 1
 ·(intro w vH;obtain⟨t2,t3,t4⟩:=vH;go_simp;try (with_reducible rfl))
 refine cK (i:=9) (v:=?_) rfl (by kernel_rfl) (by kernel_rfl) (by kernel_rfl) (by kernel_rfl) (fun _ _ _ h=>h) (Or.inl ⟨by rfl,?_⟩) (by assumption) ?_;rotate_left 1
 ·(intro w vH;obtain⟨t2,t3,t4⟩:=vH;go_simp;try (with_reducible rfl))
 refine cK (i:=10) (v:=?_) rfl (by kernel_rfl) (by kernel_rfl) (by kernel_rfl) (by kernel_rfl) (fun _ _ _ h=>h) (Or.inl ⟨by rfl,?_⟩) (by assumption) ?_;rotate_left 1
 ·(intro w vH;obtain⟨t2,t3,t4⟩:=vH;go_simp;try (with_reducible rfl))
 refine cK (i:=11) (v:=?_) rfl (by kernel_rfl) (by kernel_rfl) (by kernel_rfl) (by kernel_rfl) (fun _ _ _ h=>h) (Or.inl ⟨by rfl,?_⟩) (by assumption) ?_;rotate_left 1
 ·(intro w vH;obtain⟨t2,t3,t4⟩:=vH;go_simp;try (with_reducible rfl))
 refine cK (i:=12) (v:=?_) rfl (by kernel_rfl) (by kernel_rfl) (by kernel_rfl) (by kernel_rfl) (fun _ _ _ h=>h) (Or.inl ⟨by rfl,?_⟩) (by assumption) ?_;rotate_left 1
 ·(intro w vH;obtain⟨t2,t3,t4⟩:=vH;go_simp;try (with_reducible rfl))
 refine JR (i:=13) (by kernel_rfl) rfl fun K hK'=>?_;go_simp;have bd:=(aK w1.heap.size w1).drew;refine(HV.out _ (mO.drew)).mono ?_;rintro e w3 ⟨v,rfl,Aa,d3⟩;have d3':=bd.trans d3;have kn3:=aB kn1 d3';have ks3:=aB ks1 d3';have kZ3:=aB kZ1 d3';have TB:=Nm.aC mO d3';obtain⟨va,vc,rfl⟩:=aT Aa;have HLT:Hid (w.heap.size<w1.heap.size):=bU kZ1;clear kn1 ks1 kZ1 hH;go_wp2_with fail
 refine hK'.out _ _ ⟨(aA kn3 0).trans rfl,(aA ks3 0).trans rfl,(aA ks3 2).trans rfl⟩ fun hH=>?_;clear hK' K;refine cK (i:=14) (v:=?_) rfl (by kernel_rfl) (by kernel_rfl) (by kernel_rfl) (by kernel_rfl) (fun _ _ _ h=>h) (Or.inl ⟨by rfl,?_⟩) (by assumption) ?_;rotate_left 1
 ·(intro w vH;obtain⟨t2,t3,t4⟩:=vH;go_simp;try (with_reducible rfl))
 refine QM (i:=15) (by kernel_rfl) rfl (by kernel_rfl) fun K hK'=>?_;have rz:=fun i=>aA kZ3 i
 have fz:=fun i=>aG kZ3 i
 go_simp;refine hK'.out _ _ ?_;clear hK' K;refine QM (i:=16) (by kernel_rfl) rfl (by kernel_rfl) fun K hK'=>?_;go_simp;refine hK'.out _ _ ?_;clear hK' K;refine ED (by kernel_rfl) ?_;have FJ:(Value.slice va s.da.length vc).ownBlock≠some w.heap.size:=fun e=>by have:=(Aa.lt _ e).1;have:=HLT.out;simp at*;omega
 have k4:=aI (aI (aI (aI kZ3 0 (.string o.nm)) 1 (.int .i64 s.ty)) 2 (.int .i64 s.tt)) 3 (.slice va s.da.length vc);simp only [List.setIfInBounds_toArray,List.set_cons_zero,List.set_cons_succ] at k4;have Cr:=eU (y:=.slice va s.da.length vc) (i:=3) (g:=w.heap.size) (eU (y:=.int .i64 s.tt) (i:=2) (g:=w.heap.size) (eU (y:=.int .i64 s.ty) (i:=1) (g:=w.heap.size) (eU (y:=.string o.nm) (i:=0) (g:=w.heap.size) Aa FJ) FJ) FJ) FJ;have xS:=(((TB.setCell (p:=⟨w.heap.size,0,none⟩) (aN _) (.string o.nm)).setCell (p:=⟨w.heap.size,1,none⟩) (aN _) (.int .i64 s.ty)).setCell (p:=⟨w.heap.size,2,none⟩) (aN _) (.int .i64 s.tt)).setCell (p:=⟨w.heap.size,3,none⟩) (aN _) (.slice va s.da.length vc);have rk:=fun i=>aA k4 i
 clear rz fz hH;go_wp2_with fail
 refine gD (v:=.tuple #[.agg #[.string o.nm,.int .i64 s.ty,.int .i64 s.tt,.slice va s.da.length vc],.bool true]) ?_ rfl ⟨_,rfl,fQ Cr mO.size,xS⟩;simp [results,Tryz.f117,go_sem,rk]
structure Ld where
 at_:Nat
 ty:Int
 ob:Nat
 sb:Nat
def ldC(x:Ld):List Value:=[.int .i64 (x.at_:Int),.int .i64 x.ty,.pointer (some ⟨x.ob,0,none⟩),.pointer (some ⟨x.sb,0,none⟩)]
def zX(l:List Ld):List Value:=l.flatMap ldC
theorem qY:∀ (l:List Ld) (k j:Nat) (x:Ld),l[k]? =some x->j<4->(zX l)[k*4+j]? =(ldC x)[j]? :=by
 intro l
 induction l with
 |nil=>intro k j x h;simp at h
 |cons y l ih=>
  intro k j x h hj;have e:zX (y::l)=ldC y++zX l:=by simp [zX]
  have hy:(ldC y).length=4:=rfl;rw [e]
  cases k with
  |zero=>
   simp at h;subst h;rw [List.getElem?_append_left (by omega)]
   simp
  |succ k=>
   simp at h;rw [List.getElem?_append_right (by omega),hy,show(k+1)*4+j-4=k*4+j by omega];exact ih k j x h hj
def zY(f:Ld->Bool)(code:Int)(l:List Ld):Value:=match l.find? f with
 |some x=>.tuple #[.int .i64 code,.int .i64 (x.at_:Int)]
 |none=>.tuple #[.int .i64 0,.int .i64 0]
theorem XC{f:Ld->Bool}{code:Int}{l:List Ld}(h:∀ j x,j<l.length->l[j]? =some x->f x=false):zY f code l=.tuple #[.int .i64 0,.int .i64 0]:=by
 have:l.find? f=none:=by
  rw [List.find?_eq_none];intro x hx;obtain⟨j,hj⟩:=List.mem_iff_getElem?.1 hx;rw [h j x (dK hj).1 hj];simp
 rw [zY,this]
theorem XF{f:Ld->Bool}{code:Int}:∀ {l:List Ld} {k:Nat} {x:Ld},(∀ j y,j<k->l[j]? =some y->f y=false)->l[k]? =some x->f x=true->zY f code l=.tuple #[.int .i64 code,.int .i64 (x.at_:Int)]:=by
 intro l
 induction l with
 |nil=>intro k x _ h;simp at h
 |cons y l ih=>
  intro k x lT hx hf
  cases k with
  |zero=>
   simp at hx;subst hx
   rw [zY,List.find?_cons_of_pos hf]
  |succ k=>
   have hy:f y=false:=lT 0 y (by omega) rfl;have:=ih (k:=k) (x:=x) (fun j z hj hz=>lT (j+1) z (by omega) (by simpa using hz)) (by simpa using hx) hf;rw [zY] at this ⊢;rw [List.find?_cons_of_neg (by simp [hy])];exact this
def KO:Code->List Code
 |.loop c=>[c]
 |.seq a b=>KO a++KO b
 |.block _ c=>KO c
 |.scope c=>KO c
 |.cond _ a b=>KO a++KO b
 |_=>[]
noncomputable def aPl:List Code:=((Tryz.f28).body.map KO).getD []
noncomputable def aPm:Code:=(aPl[2]?).getD .skip
def aG1:Code->Code
 |.seq _ b=>b
 |c=>c
def aPn:Code->Code
 |.seq a _=>a
 |c=>c
def inZ:Code->Code
 |.block _ c=>c
 |.cond _ a _=>a
 |c=>c
noncomputable def bzB:Code:=aG1 (inZ (aPn (aG1 aPm)))
noncomputable def bzM:Code:=aG1 (aG1 bzB)
noncomputable def bzN:Code:=inZ (aG1 (aPn bzB))
theorem aC0{n:Nat}(h:n<=1000000):wrap64 (n:Int)=(n:Int):=by unfold wrap64;omega
theorem XG{Pr G:World->Prop}{W:World}(h:Pr W)(k:∀ W,Pr W->G W):G W:=k W h
theorem Tryz.aG2:(Tryz.prog.info? 60).map (fun i=>(i.zero,i.size,i.bytes))=some (some (.agg #[.string ByteArray.empty,.int .i64 0,.int .i64 0,.slice none 0 0]),4,56):=by kernel_rfl
theorem MX{W:World}{B e s n b:Nat}{v:Value}{xs:List Value}{cs:Array Value}{T:TypeId}(h:W.ownsRow B e s v n xs)(hb:bG W b cs T)(dQ:e≠T):v.ownBlock≠some b:=by
 intro he
 rcases h.2 with⟨rfl,_⟩|⟨g,cap,cur,rfl,_,hh,_⟩
 ·cases he
 simp only [Value.ownBlock,mP] at he;subst he;rw [bG,hh] at hb;simp only [mP,Obj.cells.injEq] at hb;exact dQ hb.2.1
theorem IA(aM da:ByteArray)(zb rb:Nat)(vs2:Value)(DV:List Zp)(s:Sz)(ux:Option Addr)(uc:Nat)(r0 r1 r2 r3:Value)(aNe:DV.length<=500)(Vu:s.da.length<=500)(Q0:Exit->Act->World->Prop)(wz:World)
 (sV:bG wz zb #[.string aM,vs2] 25) (JE:bG wz rb #[r0,r1,r2,r3,.string da] 29) (ZM:dH wz (zb+1) vs2 (DV++[(s,.slice ux s.da.length uc)]))
 (s0 s1 s2 s3 s4 s5 s6 s7 s8 s9 s10 s11 s12 s13 s14 s16 s19 s20 s21 s22 s23 s24 s25 s26 s27 s28 s29 s30 s31 s32 s33 s34 s35 s36 s37 s38 s39 s40 s41 s42 s43 s44 s45 s46 s47 s48 s49 s50 s51 s52 s53 s54 s55 s56 s57 s58 s59 s60 s61 s62 s63 s64 s65 s66 s67 s68 s69 s70 s71 s72 s73 s74 s75 s76 s77 s78 s79 s80 s81 s82 s83 s84 s85 s86 s87 s88 s89 s90 s91 s92 s93 s94 s95 s96 s97 s98 s99 Oo Oq Ot Ou Ov Ow Ox Oy Pb Pd Pe Vv Vw Vx Vy We Wh Wi Wj Wl Wm Wn Wo Wp Wq Ws Wt Wu Wv Ww Wx Wy Wz Xa Xb Xc Xd Xe Xf Xg Xh Xi Xj Xk Xl Xm Xn Xo Xp Xq aC1 aC2 aC3 aC4 aC5 aC6 aC7 aC8 aC9 aDa aDb aDc aDd aDe aDf aDg aDh Xr Xt Xu Xv aDi aDj aDk aDl aDm aDn aDo aDp aDq aDr aDs aDt aDu aDv aDw Pf:Value)
 (Pg:∀ (Pi Pj Pk Pm Pn Po Pp Pq Ps Pt Pv Pw Px Py Qa:Value) (w':World),(∃ u',bG w' zb #[.string aM,vs2] 25∧dH w' (zb+1) vs2 (DV++[(({s with da:=s.da++[da]}:Sz),u')])∧Below (zb+1) wz w')->Q0 .normal ⟨(s0::s1::s2::s3::s4::s5::s6::s7::s8::s9::s10::s11::s12::s13::s14::.pointer (some ⟨zb,0,none⟩)::s16::.pointer (some ⟨rb,0,none⟩)::.int .i64 (DV.length:Int)::s19::s20::s21::s22::s23::s24::s25::s26::s27::s28::s29::s30::s31::s32::s33::s34::s35::s36::s37::s38::s39::s40::s41::s42::s43::s44::s45::s46::s47::s48::s49::s50::s51::s52::s53::s54::s55::s56::s57::s58::s59::s60::s61::s62::s63::s64::s65::s66::s67::s68::s69::s70::s71::s72::s73::s74::s75::s76::s77::s78::s79::s80::s81::s82::s83::s84::s85::s86::s87::s88::s89::s90::s91::s92::s93::s94::s95::s96::s97::s98::s99::Oo::Oq::Ot::Ou::Ov::Ow::Ox::Oy::Pb::Pd::Pe::Vv::Vw::Vx::Vy::We::Wh::Wi::Wj::Wl::Wm::Wn::Wo::Wp::Wq::Ws::Wt::Wu::Wv::Ww::Wx::Wy::Wz::Xa::Xb::Xc::Xd::Xe::Xf::Xg::Xh::Xi::Xj::Xk::Xl::Xm::Xn::Xo::Xp::Xq::aC1::aC2::aC3::aC4::aC5::aC6::aC7::aC8::aC9::aDa::aDb::aDc::aDd::aDe::aDf::aDg::aDh::Xr::Xt::Xu::Xv::Pi::Pj::Pk::Pm::Pn::Po::Pp::Pq::Ps::Pt::Pv::Pw::Px::Py::Qa::Pf::[]).toArray,[]⟩ w'):
 Code.wp Tryz.prog bzM Q0 ⟨(s0::s1::s2::s3::s4::s5::s6::s7::s8::s9::s10::s11::s12::s13::s14::.pointer (some ⟨zb,0,none⟩)::s16::.pointer (some ⟨rb,0,none⟩)::.int .i64 (DV.length:Int)::s19::s20::s21::s22::s23::s24::s25::s26::s27::s28::s29::s30::s31::s32::s33::s34::s35::s36::s37::s38::s39::s40::s41::s42::s43::s44::s45::s46::s47::s48::s49::s50::s51::s52::s53::s54::s55::s56::s57::s58::s59::s60::s61::s62::s63::s64::s65::s66::s67::s68::s69::s70::s71::s72::s73::s74::s75::s76::s77::s78::s79::s80::s81::s82::s83::s84::s85::s86::s87::s88::s89::s90::s91::s92::s93::s94::s95::s96::s97::s98::s99::Oo::Oq::Ot::Ou::Ov::Ow::Ox::Oy::Pb::Pd::Pe::Vv::Vw::Vx::Vy::We::Wh::Wi::Wj::Wl::Wm::Wn::Wo::Wp::Wq::Ws::Wt::Wu::Wv::Ww::Wx::Wy::Wz::Xa::Xb::Xc::Xd::Xe::Xf::Xg::Xh::Xi::Xj::Xk::Xl::Xm::Xn::Xo::Xp::Xq::aC1::aC2::aC3::aC4::aC5::aC6::aC7::aC8::aC9::aDa::aDb::aDc::aDd::aDe::aDf::aDg::aDh::Xr::Xt::Xu::Xv::aDi::aDj::aDk::aDl::aDm::aDn::aDo::aDp::aDq::aDr::aDs::aDt::aDu::aDv::aDw::Pf::[]).toArray,[]⟩ wz:=by
 obtain⟨s0,hs,KT,FC,VE⟩:=info_parts Tryz.AU
 obtain⟨g,gc,rfl⟩:∃ g gc,vs2=.slice (some ⟨g,0,none⟩) (DV.length+1) gc:=by
  rcases ZM.outer.2 with⟨_,h0⟩|⟨g,gc,cur,e,_⟩
  ·simp at h0
  exact⟨g,gc,by rw [e];simp⟩
 have EU:(DV++[(s,Value.slice ux s.da.length uc)])[DV.length]? =some (s,Value.slice ux s.da.length uc):=by simp
 have mK:wz.ownsRow (zb+1) 9 1 (.slice ux s.da.length uc) s.da.length (s.da.map Value.string):=ZM.inner _ _ EU;have mF:=ZM.outer;rw [nG,List.length_singleton] at mF;have hcu:wz.cell? ⟨g,DV.length*4+3,none⟩=some (.slice ux s.da.length uc):=(mF.cellAt (DV.length*4+3) (by omega)).trans ((mZ _ _ 3 _ EU (by decide)).trans rfl);have hfu:=mF.frozenAt (DV.length*4+3);have rz2:=fun i=>aA sV i
 have rr2:=fun i=>aA JE i
 have pG:DV.length<=500:=by
  exact aNe
 have hwp:=aC0 (n:=DV.length) (iL pG (by decide));have m1:(0:Int)<=(DV.length:Int):=Int.natCast_nonneg _;have m2:(DV.length:Int)<(DV.length:Int)+1:=Int.lt_add_one_of_le (Int.le_refl _);have hlz:=bU sV
 conv=>arg 2;whnf
 refine wp_region_noPanic ?_;refine kR (fun W=>W.cell? ⟨zb,1,none⟩=some (.slice (some ⟨g,0,none⟩) (DV.length+1) gc)∧W.cell? ⟨g,DV.length*4+3,none⟩=some (.slice ux s.da.length uc)∧W.cell? ⟨rb,4,none⟩=some (.string da)∧True) 15 ⟨rz2 1,hcu,rr2 4,trivial⟩ fun aO=>?_;refine kB 0 rfl ?_;refine kB 1 rfl ?_;refine kB 2 rfl ?_;refine kB 3 rfl ?_;refine kB 4 rfl ?_;refine kB 5 rfl ?_;refine kB 6 rfl ?_;refine kB 7 rfl ?_;refine kB 8 rfl ?_;refine kB 9 rfl ?_;refine kB 10 rfl ?_;refine k1 11 rfl fun K hK=>?_
 go_simp;refine hK.out _ _ ⟨(aA (aB sV ((aK _ _).drew.alloc (aN _) _)) 1),((((aK _ _).drew.alloc (aN _) _).cell (eB wz _ hcu)).trans hcu),(aA (aB JE ((aK _ _).drew.alloc (aN _) _)) 4),trivial⟩ fun _=>?_;clear hK K;refine k1 12 rfl fun K hK=>?_
 refine wJ rfl (.tmp 179) (.tmp 182) 58 rfl (zb+1) 9 s0 _ 1 16 Tryz.underlying58 hs KT FC VE rfl (by decide) _ _ _ (by rfl) (own_below mK ((aK _ _).drew.alloc (aN _) _)) ⟨wz.heap.size,0,none⟩ 1 1 [.string da] (by rfl) rfl (dU _ _ _) (by intro u hu;simp at hu;rcases hu with rfl;rfl) (by unfold maxLen;omega) (by omega) (by simp;omega) ?_;intro va wa rF iF oP oQ;have vY:Below wz.heap.size wz (wz.drew.alloc (.cells #[.string da] 9)):=(aK _ _).drew.alloc (aN _) _;have hZ3:=(ZM.below vY).more rF iF (by rcases oQ with h|h;exact .inl h;right;intro g' e;rw [h] at e;simp at e;simp;omega);have yP:=aP (aB sV vY) iF (MX (own_below mK vY) (aB sV vY) (by decide));have kr3:=aP (aB JE vY) iF (MX (own_below mK vY) (aB JE vY) (by decide));have Vp:=iO (own_below mF vY) iF (jO (own_below mF vY) (own_below mK vY) (by decide));have aPo:wa.cell? ⟨g,DV.length*4+3,none⟩=some (.slice ux s.da.length uc):=(Vp.cellAt (DV.length*4+3) (by omega)).trans ((mZ _ _ 3 _ EU (by decide)).trans rfl);have hfu3:=Vp.frozenAt (DV.length*4+3);have hgB:=(Vp.lt g rfl).1;have DN:Below (zb+1) wz wa:=(vY.mono (by omega)).grown iF (by simp;omega) (fun g hg=>(mK.lt g hg).1);have Vi:=MX Vp yP (by decide);obtain⟨xa,xc,rfl⟩:=aT rF;have ZN:bG (wa.setCell ⟨g,DV.length*4+3,none⟩ (.slice xa (s.da.length+1) xc)) zb #[.string aM,.slice (some ⟨g,0,none⟩) (DV.length+1) gc] 25:=aW yP (fun e=>Vi (by rw [e];rfl));refine hK.out _ _ ⟨(aA yP 1),aPo,(aA kr3 4),trivial⟩ fun _=>?_;clear hK K;refine k1 13 rfl fun K hK=>?_
 go_simp;refine hK.out _ _ ⟨(aA yP 1),aPo,(aA kr3 4),trivial⟩ fun _=>?_;clear hK K;refine kB 14 rfl ?_;refine jN (by kernel_rfl) rfl (by kernel_rfl) fun K hK=>?_;go_simp;refine hK.out _ _ (NoPanic.normal ?_);clear hK K oQ oP iF rF kr3 yP Vp mF mK;have HF:=Nm.aF (aV ZN (aV hZ3 (DN.setCell (p:=⟨g,DV.length*4+3,none⟩) hgB (.slice xa (s.da.length+1) xc))));clear ZN hZ3 DN
 first
  |exact⟨_,HF.out.1,HF.out.2.1,HF.out.2.2⟩
  |(refine Pg _ _ _ _ _ _ _ _ _ _ _ _ _ _ _ _ ?_;exact⟨_,HF.out.1,HF.out.2.1,HF.out.2.2⟩)
theorem XH{w w1:World}{a:Option Addr}{n:Nat}(h:KM w a n)(hb:Below w.heap.size w w1):KM w1 a n:=by
 rcases h with h|⟨b,off,e,hc⟩
 ·exact .inl h
 refine .inr ⟨b,off,e,fun j hj=>?_⟩;obtain⟨c,iK,mD⟩:=hc j hj;exact⟨c,(hb.cell (eB w _ iK)).trans iK,mD⟩
theorem aKl{w w1:World}{a:Option Addr}{n:Nat}(h:KM w a n)(hb:Below w.heap.size w w1):qJ w1 w.heap.size a n:=by
 rcases h with h|⟨b,off,e,hc⟩
 ·exact .inl h
 rcases Nat.eq_zero_or_pos n with hn|hn
 ·exact .inl hn
 refine .inr ⟨b,off,e,?_,fun j hj=>?_⟩
 ·obtain⟨c,iK,_⟩:=hc 0 hn;have:b<w.heap.size:=eB w _ iK;omega
 obtain⟨c,iK,mD⟩:=hc j hj;exact⟨c,(hb.cell (eB w _ iK)).trans iK,mD⟩
theorem aG3{w:World}{a:Option Addr}{n cap:Nat}(h:KM w a n)(hn:n<=1048576)(st:Int):
 Src (w.alloc (.cells #[.slice a n cap,.int .i64 0,.int .u64 st] 41 (0,0))) w.heap.size a n cap:=
 ⟨0,st,heap_alloc_new w _,Int.le_refl _,Int.natCast_nonneg _,hn,aKl h ((aK _ _).alloc (aN _) _)⟩
theorem Qb(v n:Nat):(WI v n).length=n:=by simp [WI]
theorem aDx{v n j:Nat}(h:j<n):Nm.QL ((WI v n).take (j+1))=Nm.QL ((WI v n).take j)++[.int .u8 ((v:Int) / 2 ^ (8*(n-1-j)) % 256)]:=by
 have hx:(WI v n)[j]? =some (UInt8.ofNat (v / 2 ^ (8*(n-1-j)))):=by simp [WI,h]
 have e:((UInt8.ofNat (v / 2 ^ (8*(n-1-j)))).toNat:Int)=(v:Int) / 2 ^ (8*(n-1-j)) % 256:=by
  rw [UInt8.toNat_ofNat',Int.natCast_emod,Int.natCast_ediv,Int.natCast_pow];rfl
 rw [List.take_add_one,hx,Nm.JP,<- e];rfl
theorem Qc(v n:Nat)(w:World)(hv:v<=4611686018427387904)(hn1:1<=n)(hn:n<=8):
 Calls Tryz.prog 91 #[.int .i64 (v:Int),.int .i64 (n:Int)] w fun e w'=>e=.returned (.string ⟨(WI v n).toArray⟩)∧Below w.heap.size w w':=by
 obtain⟨j0,hj,k0,k1,k2⟩:=info_parts Tryz.aMi;have i3:(n:Int)<=8:=by omega
 have i4:(1:Int)<=(n:Int):=by omega
 have xK:=World.ownsRow_made (base:=w.heap.size) (size:=1) (e:=5) w #[] 0 (aN _) (by decide) rfl;have hBs:=(aK w.heap.size w).alloc (aN _) (.cells #[] 5);go_enter Tryz.func91,Tryz.ntmps91;go_wp2
 go_loopw [5,6] (fun u i wr=>∃ j:Nat,j<=n∧i=.int .i64 ((n:Int)-1-(j:Int))∧wr.ownsRow w.heap.size 5 1 u j (Nm.QL ((WI v n).take j))∧Below w.heap.size w wr) (fun _ i _=>(intOf i+1).toNat)
 case atStart=>exact⟨0,by omega,by congr 1;omega,xK,hBs⟩
 clear xK hBs;obtain⟨j,hj8,rfl,aU,aJ⟩:=hrel;obtain⟨xa,xc,rfl⟩:=aT aU;have hBr:=aJ.size
 by_cases bV:j<n
 ·obtain⟨i,hi⟩:∃ i:Nat,(n:Int)-1-(j:Int)=(i:Int):=⟨n-1-j,by omega⟩;have hi7:i<=7:=by omega
  rw [hi];have i1:(0:Int)<=(i:Int):=by omega
  have i2:(i:Int)<=7:=by omega
  have HT:=Nm.aF (show Nm.QL ((WI v n).take (j+1))=Nm.QL ((WI v n).take j)++[.int .u8 ((v:Int) / 2 ^ (8*i) % 256)] by
   have h7:n-1-j=i:=by omega
   rw [aDx bV,h7])
  have HI:=Nm.aF hi;clear hi;go_wp2_with (at_builtin;refine wpList_append_own _ rfl (.tmp 14) (.tmp 21) 22 rfl w.heap.size 5 j0 (.int .u8 0) 1 1 Tryz.underlying22 hj k0 k1 k2 rfl (by decide) _ _ _ rfl (aU.alloc _) ⟨wr.heap.size,0,none⟩ 1 1 [.int .u8 ((v:Int) / 2 ^ (8*i) % 256)] rfl rfl (cell_one_new _ _ _) (Nm.one_cell _ rfl) (by unfold maxLen;omega) (by omega) (by simp;omega) ?_;intro vb wb MR aG4 aTh;clear aTh)
  rw [<- HT.out] at MR;have eF:∀ q,Value.ownBlock (.slice xa j xc)=some q->w.heap.size<=q:=fun q hq=>(aU.lt q hq).1
  have hB8:Below w.heap.size w wb:=(aJ.alloc hBr _).grown aG4 (by rw [fV];omega) eF;obtain⟨za,zc,rfl⟩:=aT MR;clear aG4 aU aJ;have hi:=HI.out;go_roundw
  case rel=>exact⟨j+1,by omega,by go_num,MR,hB8⟩
  simp [intOf]
 obtain rfl:j=n:=by omega
 rw [List.take_of_length_le (by rw [Qb];omega)] at aU;have HC:=Nm.LG (P:=Tryz.prog) (src:=22) (dst:=9) Tryz.underlying22 Tryz.underlying5 Tryz.underlying9 aU (by omega);obtain⟨g,cap,hv',TR⟩:=HC;cases hv'
 have CY:¬(0:Int)<=(j:Int)-1-(j:Int):=by omega
 go_wp2;go_ret;exact⟨rfl,aJ⟩
theorem Dm{w:World}{ad:Addr}{n cap:Nat}{xs:List ByteArray}(h:Nm.dX w (.slice (some ad) n cap) xs):∀ j u,(xs.map Value.string)[j]? =some u->w.cell? (ad.add j)=some u:=by
 obtain⟨a',cap',e,h1,h2,h3,h4⟩:=h;simp only [iG] at e;obtain⟨rfl,_,rfl⟩:=e;intro j u hj;have dQ:xs≠[]:=by intro h;rw [h] at hj;simp at hj
 obtain⟨b,off,e2,hc⟩:=h4 dQ;simp only [mP] at e2;subst e2;rw [List.getElem?_map] at hj
 cases hx:xs[j]? with
 |none=>rw [hx] at hj;simp at hj
 |some x=>
  rw [hx] at hj;simp at hj;rw [Nm.addr_add,<- hj];exact hc j x hx
theorem MZ(xs:List ByteArray):∀ u∈xs.map Value.string,u.oneCell'=true:=by
 intro u hu;obtain⟨x,_,rfl⟩:=lS hu;rfl
