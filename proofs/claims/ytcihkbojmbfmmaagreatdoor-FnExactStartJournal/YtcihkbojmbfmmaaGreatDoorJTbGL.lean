import Derived.Test.YtcihkbojmbfmmaaGreatDoorJTbIL
import Derived.Test.YtcihkbojmbfmmaaGreatDoorJMath
import Derived.Test.YtcihkbojmbfmmaaGreatDoorJTrL
import Derived.Deep.QuietTactic
import Derived.BigQuiet
import Derived.Test.YtcihkbojmbfmmaaGreatDoorRows
import Derived.WalkSpells
import Derived.WalkLawsBesides
import Derived.Test.YtcihkbojmbfmmaaGreatDoorJSSmall
import Derived.Deep.RegionHeld3
namespace Go.Proofs.YtcihkbojmbfmmaaGreatDoor
open Go.RowKit
set_option linter.unusedVariables false
set_option maxRecDepth 100000 in
set_option maxHeartbeats 1600000 in
theorem getL_in(g B:Nat)(cmpv rv key:Value)(rs:List (Value×Value))(cf:Nat->Int)(k:Nat)(p:Value×Value)(w:World)(hg:Blk w g #[cmpv,rv] 176)(h:w.ownsRow B 178 2 rv rs.length (rowCs rs))(hl:rs.length<=1000000)
 (hf:∀ (tb i:Nat) (p:Value×Value),rs[i]? =some p->∀ W,Below w.heap.size w W->Blk W tb #[.pointer (some ⟨g,0,none⟩)] 92->Calls Tryz.prog 177 #[.agg #[p.1,p.2],key,.pointer (some ⟨tb,0,none⟩)] W fun e w'=>e=.returned (.int .i64 (cf i))∧Below W.heap.size W w')
 (hm:∀ a b,a<=b->b<rs.length->cf b<0->cf a<0) (hk:Fnd rs.length cf k) (hp:rs[k]? =some p) (h0:cf k=0):
 Calls Tryz.prog 150 #[.pointer (some ⟨g,0,none⟩),key] w fun e w'=>e=.returned (.tuple #[p.2,.bool true])∧Below w.heap.size w w':=by
 have hpl:=placeL_any g cmpv rv key rs cf w hg (CRow.of_owns h) hl hf hm;have hkl:=(List.getElem?_eq_some_iff.1 hp).1;have at1:=rowCs_at rs k 1 p hp (by decide);obtain⟨_,a,cap,rfl,hcap,hmx,hc⟩:=CRow.of_owns h;obtain⟨b,off,rfl,hcell⟩:=hc (by omega);have c1:=hcell _ _ at1;have HK:=Nm.hide hk;have H0:=Nm.hide (And.intro hkl h0);unfold maxLen at hmx;have n1:(0:Int)<=(k:Int):=by omega
 have n2:(k:Int)<(rs.length:Int):=by omega
 clear hf hm hk hp h0 h hcell hc at1;go_enter Tryz.func150,Tryz.ntmps150;go_wp2_with fail
 refine hpl.mono ?_;rintro e w1 ⟨k',hk',rfl,b1⟩;obtain rfl:=Fnd.unique HK.out hk';rw [decide_eq_true H0.out.1,decide_eq_true H0.out.2];have kg:=blk_below hg b1;have rg:=fun i=>blk_cell kg i
 have d1:w1.cell? ⟨b,off+k*2+1,none⟩=some p.2:=(b1.cell (World.block_lt_of_cell? w _ c1)).trans c1;have tt:(true&&true)=true:=rfl;clear hpl hk' c1 H0;go_wp2;go_ret2;exact⟨rfl,b1⟩
set_option maxRecDepth 100000 in
set_option maxHeartbeats 1600000 in
theorem getL_out(g B:Nat)(cmpv rv key:Value)(rs:List (Value×Value))(cf:Nat->Int)(k:Nat)(w:World)(hg:Blk w g #[cmpv,rv] 176)(h:w.ownsRow B 178 2 rv rs.length (rowCs rs))(hl:rs.length<=1000000)
 (hf:∀ (tb i:Nat) (p:Value×Value),rs[i]? =some p->∀ W,Below w.heap.size w W->Blk W tb #[.pointer (some ⟨g,0,none⟩)] 92->Calls Tryz.prog 177 #[.agg #[p.1,p.2],key,.pointer (some ⟨tb,0,none⟩)] W fun e w'=>e=.returned (.int .i64 (cf i))∧Below W.heap.size W w')
 (hm:∀ a b,a<=b->b<rs.length->cf b<0->cf a<0) (hk:Fnd rs.length cf k) (h0:¬(k<rs.length∧cf k=0)):
 Calls Tryz.prog 150 #[.pointer (some ⟨g,0,none⟩),key] w fun e w'=>e=.returned (.tuple #[.pointer none,.bool false])∧Below w.heap.size w w':=by
 have hpl:=placeL_any g cmpv rv key rs cf w hg (CRow.of_owns h) hl hf hm;have HK:=Nm.hide hk
 have H0:Hid ((decide (k<rs.length)&&decide (cf k=0))=false):=by
  show _=_
  rw [Bool.and_eq_false_iff]
  by_cases hx:k<rs.length
  ·exact .inr (decide_eq_false (fun h=>h0 ⟨hx,h⟩))
  ·exact .inl (decide_eq_false hx)
 clear hf hm hk h0 h;go_enter Tryz.func150,Tryz.ntmps150;go_wp2_with fail
 refine hpl.mono ?_;rintro e w1 ⟨k',hk',rfl,b1⟩;obtain rfl:=Fnd.unique HK.out hk';rw [H0.out];clear hpl hk' H0;go_wp2;go_ret2;exact⟨rfl,b1⟩
theorem getSet_any(o:GOw)(B:Nat)(ty:Int)(w:World)(h:OwAt w B o)(hl:o.ss.length<=500000)(hd:SeS o.ss):
 Calls Tryz.prog 126 #[ptr o.hd,.int .i64 ty] w fun e w'=>Below w.heap.size w w'∧
  ((isIn (sCmp ty) o.ss=true∧∃ s,o.ss[posOf (sCmp ty) o.ss]? =some s∧s.ty=ty∧e=.returned (.tuple #[ptr s.blk,.bool true]))∨(isIn (sCmp ty) o.ss=false∧e=.returned (.tuple #[.pointer none,.bool false]))):=by
 have hdl:(seRs o.ss).length=o.ss.length:=by simp [seRs]
 have hcf:∀ (tb i:Nat) (p:Value×Value),(seRs o.ss)[i]? =some p->∀ W,Below w.heap.size w W->Blk W tb #[.pointer (some ⟨o.hd,0,none⟩)] 138->Calls Tryz.prog 169 #[.agg #[p.1,p.2],.int .i64 ty,.pointer (some ⟨tb,0,none⟩)] W fun e w'=>e=.returned (.int .i64 (cfOf (sCmp ty) o.ss i))∧Below W.heap.size W w':=by
  intro tb i p hp W hW kb;simp only [seRs,List.getElem?_map,Option.map_eq_some_iff] at hp;obtain⟨q,hq,rfl⟩:=hp;rw [cfOf_at hq];exact place1I_any tb o.hd o.rv (ptr q.blk) q.ty ty W kb (blk_below h.head hW)
 have hmono:=mono_of_pair (f:=sCmp ty) hd (fun a b hab hb=>by
  rw [sCmp,cmpI_neg] at hb ⊢
  omega)
 have hfnd:=posOf_fnd o.ss hmono
 cases hin:isIn (sCmp ty) o.ss with
 |true=>
  obtain⟨x,hx,hx0⟩:=isIn_some hin;have hx':(seRs o.ss)[posOf (sCmp ty) o.ss]? =some (.int .i64 x.ty,ptr x.blk):=by simp [seRs,hx]
  refine(getI_in o.hd B cmpIv o.rv (.int .i64 ty) (seRs o.ss) (cfOf (sCmp ty) o.ss) (posOf (sCmp ty) o.ss) _ w h.head h.rows (by omega) hcf (by rw [hdl];exact hmono) (by rw [hdl];exact hfnd) hx' (by rw [cfOf_at hx];exact hx0)).mono ?_;rintro e w' ⟨rfl,hb⟩
  exact⟨hb,.inl ⟨rfl,x,hx,cmpI_zero hx0,rfl⟩⟩
 |false=>
  refine(getI_out o.hd B cmpIv o.rv (.int .i64 ty) (seRs o.ss) (cfOf (sCmp ty) o.ss) (posOf (sCmp ty) o.ss) w h.head h.rows (by omega) hcf (by rw [hdl];exact hmono) (by rw [hdl];exact hfnd) (by rw [hdl];exact isIn_not hin)).mono ?_;rintro e w' ⟨rfl,hb⟩;exact⟨hb,.inr ⟨rfl,rfl⟩⟩
set_option maxHeartbeats 800000 in
theorem ownerHas_any(o:GOw)(B:Nat)(ty:Int)(w:World)(h:OwAt w B o)(hl:o.ss.length<=500000)(hd:SeS o.ss):
 Calls Tryz.prog 119 #[ptr o.blk,.int .i64 ty] w fun e w'=>e=.returned (.bool (isIn (sCmp ty) o.ss))∧Below w.heap.size w w':=by
 have hg:=getSet_any o B ty w h hl hd;have rn:=fun i=>blk_cell h.node i
 unfold ptr at*;go_enter Tryz.func119,Tryz.ntmps119;go_wp2_with fail
 refine hg.mono ?_;rintro e w' ⟨hb,⟨hin,s,_,_,rfl⟩|⟨hin,rfl⟩⟩
 ·have HIN:=Nm.hide hin;clear hin hg;go_wp2;go_ret;exact⟨by rw [HIN.out];rfl,hb⟩
 ·have HIN:=Nm.hide hin;clear hin hg;go_wp2;go_ret;exact⟨by rw [HIN.out];rfl,hb⟩
theorem getOwner_any(th:Nat)(rv:Value)(os:List GOw)(B:Nat)(nv:Value)(lab:List ByteArray)(w:World)(h:TrAt w B th rv os)(hl:os.length<=500000)(hd:OwS os)(hLab:LabAt w (fpT th rv os) os)(hn:Nm.SRow w nv lab)(hnl:lab.length<=1000000000):
 Calls Tryz.prog 150 #[ptr th,nv] w fun e w'=>Below w.heap.size w w'∧
  ((isIn (oCmp lab) os=true∧∃ o,os[posOf (oCmp lab) os]? =some o∧Nm.cmpLs o.lab lab=0∧e=.returned (.tuple #[ptr o.blk,.bool true]))∨(isIn (oCmp lab) os=false∧e=.returned (.tuple #[.pointer none,.bool false]))):=by
 have hdl:(owRs os).length=os.length:=by simp [owRs]
 have hcf:∀ (tb i:Nat) (p:Value×Value),(owRs os)[i]? =some p->∀ W,Below w.heap.size w W->Blk W tb #[.pointer (some ⟨th,0,none⟩)] 92->Calls Tryz.prog 177 #[.agg #[p.1,p.2],nv,.pointer (some ⟨tb,0,none⟩)] W fun e w'=>e=.returned (.int .i64 (cfOf (oCmp lab) os i))∧Below W.heap.size W w':=by
  intro tb i p hp W hW kb;simp only [owRs,List.getElem?_map,Option.map_eq_some_iff] at hp;obtain⟨q,hq,rfl⟩:=hp;rw [cfOf_at hq];have hq2:=hLab q (List.mem_of_getElem? hq);exact place1L_any tb th rv (ptr q.blk) q.lv nv q.lab lab W kb (blk_below h.head hW) (hq2.row.below hW) (hn.below hW) hq2.fit.1 hq2.fit.2 hnl
 have hmono:=mono_of_pair (f:=oCmp lab) hd (fun a b hab hb=>cmpLs_lt_trans hab hb);have hfnd:=posOf_fnd os hmono
 cases hin:isIn (oCmp lab) os with
 |true=>
  obtain⟨x,hx,hx0⟩:=isIn_some hin;have hx':(owRs os)[posOf (oCmp lab) os]? =some (x.lv,ptr x.blk):=by simp [owRs,hx]
  refine(getL_in th B cmpLv rv nv (owRs os) (cfOf (oCmp lab) os) (posOf (oCmp lab) os) _ w h.head h.rows (by omega) hcf (by rw [hdl];exact hmono) (by rw [hdl];exact hfnd) hx' (by rw [cfOf_at hx];exact hx0)).mono ?_;rintro e w' ⟨rfl,hb⟩
  exact⟨hb,.inl ⟨rfl,x,hx,hx0,rfl⟩⟩
 |false=>
  refine(getL_out th B cmpLv rv nv (owRs os) (cfOf (oCmp lab) os) (posOf (oCmp lab) os) w h.head h.rows (by omega) hcf (by rw [hdl];exact hmono) (by rw [hdl];exact hfnd) (by rw [hdl];exact isIn_not hin)).mono ?_;rintro e w' ⟨rfl,hb⟩;exact⟨hb,.inr ⟨rfl,rfl⟩⟩
def hasT(lab:List ByteArray)(ty:Int)(os:List GOw):Bool:=match os[posOf (oCmp lab) os]? with
 |some o=>isIn (oCmp lab) os&&isIn (sCmp ty) o.ss
 |none=>false
set_option maxHeartbeats 800000 in
theorem treeHas_any(bb oo th:Nat)(rv:Value)(os:List GOw)(B:Nat)(na:Option Addr)(nl nc:Nat)(lab:List ByteArray)(ty:Int)(w:World)(h:TrAt w B th rv os)(hl:os.length<=500000)(hd:TrS os)(hLab:LabAt w (fpT th rv os) os)(hn:Nm.SRow w (.slice na nl nc) lab)(hnl:lab.length<=1000000000)(hc:w.cell? ⟨bb,oo+1,none⟩=some (ptr th)):
 Calls Tryz.prog 114 #[.pointer (some ⟨bb,oo,none⟩),.slice na nl nc,.int .i64 ty] w fun e w'=>e=.returned (.bool (hasT lab ty os))∧Below w.heap.size w w':=by
 have hg:=getOwner_any th rv os B (.slice na nl nc) lab w h hl hd.1 hLab hn hnl;have hh:=fun o (ho:o∈os) W (hW:Below w.heap.size w W)=>ownerHas_any o B ty W ((h.below hW).owners o ho) (by have:=(hd.2 o ho).2.1;omega) (hd.2 o ho).1
 unfold ptr at hc hg hh;have HH:=Nm.hide hh;clear hh h hd hLab hn;go_enter Tryz.func114,Tryz.ntmps114;go_wp2_with fail
 refine hg.mono ?_;rintro e w1 ⟨hb,⟨hin,o,ho,_,rfl⟩|⟨hin,rfl⟩⟩
 ·have hh:=HH.out o (List.mem_of_getElem? ho) w1 hb;have HE:Hid (hasT lab ty os=isIn (sCmp ty) o.ss):=by show _=_;rw [hasT,ho,hin];rfl
  generalize isIn (sCmp ty) o.ss=IS at*;clear hg hin ho;go_wp2_with fail
  refine hh.mono ?_;rintro e w2 ⟨rfl,b2⟩;go_wp2;go_ret;exact⟨by rw [HE.out];rfl,Nm.below_two hb b2⟩
 ·have HE:Hid (hasT lab ty os=false):=by
   show _=_
   rw [hasT]
   cases os[posOf (oCmp lab) os]? with
   |none=>rfl
   |some o=>rw [hin];rfl
  clear hg hin;go_wp2;go_ret;exact⟨by rw [HE.out];rfl,hb⟩
structure It where
 r:Rr
 fo:ByteArray
 dt:ByteArray
 out:Bool
def itC(x:It):List Value:=[.string x.r.own,.int .i64 x.r.ty,.int .i64 x.r.cl,.int .i64 x.r.tt,.string x.r.da,.string x.fo,.string x.dt,.bool x.out]
def itCs(l:List It):List Value:=l.flatMap itC
theorem itCs_snoc(l:List It)(x:It):itCs (l++[x])=itCs l++itC x:=by simp [itCs]
theorem itCs_len(l:List It):(itCs l).length=l.length*8:=by
 induction l with
 |nil=>rfl
 |cons x l ih=>
  have e:itCs (x::l)=itC x++itCs l:=by simp [itCs]
  rw [e,List.length_append,ih];simp [itC]
  omega
theorem itCs_at:∀ (xs:List It) (k j:Nat) (x:It),xs[k]? =some x->j<8->(itCs xs)[k*8+j]? =(itC x)[j]? :=by
 intro xs
 induction xs with
 |nil=>intro k j x h;simp at h
 |cons y xs ih=>
  intro k j x h hj;have e:itCs (y::xs)=itC y++itCs xs:=by simp [itCs]
  have hl:(itC y).length=8:=rfl
  cases k with
  |zero=>
   simp at h;subst h
   rw [e,Nat.zero_mul,Nat.zero_add,List.getElem?_append_left (by omega)]
  |succ k=>
   simp at h;rw [e,List.getElem?_append_right (by omega),hl,show(k+1)*8+j-8=k*8+j by omega];exact ih k j x h hj
def hasI(l:List It)(fo:ByteArray)(t:Int):Bool:=l.any fun x=> !x.out&&decide (x.fo=fo)&&decide (x.r.ty=t)
def firstI(p:Nat->It->Bool)(l:List It):Option Nat:=(List.range l.length).find? fun i=>match l[i]? with
 |some x=>p i x
 |none=>false
theorem firstI_at{p:Nat->It->Bool}{l:List It}{k:Nat}{x:It}(hno:∀ i,i<k->∀ y,l[i]? =some y->p i y=false)(hk:l[k]? =some x)(hp:p k x=true):firstI p l=some k:=by
 have hlt:=(List.getElem?_eq_some_iff.1 hk).1;rw [firstI,List.find?_eq_some_iff_getElem];refine⟨by rw [hk];exact hp,k,by simpa using hlt,by simp,fun j hj=>?_⟩;have hjl:j<l.length:=by omega
 simp only [List.getElem_range];rw [List.getElem?_eq_getElem hjl];simp [hno j hj _ (List.getElem?_eq_getElem hjl)]
theorem firstI_no{p:Nat->It->Bool}{l:List It}(hno:∀ i,i<l.length->∀ y,l[i]? =some y->p i y=false):firstI p l=none:=by
 rw [firstI,List.find?_eq_none];intro i hi;simp at hi;rw [List.getElem?_eq_getElem hi];simp [hno i hi _ (List.getElem?_eq_getElem hi)]
def starB(s:ByteArray):Bool:=decide (1<s.size)&&decide (s.extract 0 2=⟨#[1,42]⟩)
def rulesI(l:List It)(fo:ByteArray):Int×Int:=
 match firstI (fun i x=> !x.out&&decide (x.r.ty=6)&&(decide (x.fo≠fo)||hasI (l.take i) fo 6)) l with
 |some i=>(20,i)
 |none=>if !hasI l fo 6 then(20,-1) else if !hasI l fo 2 then(21,-1) else
  match firstI (fun _ x=> !x.out&&starB x.fo&&(decide (x.r.ty=2)||decide (x.r.ty=39))) l with
  |some i=>(26,i)
  |none=>match firstI (fun i x=> !x.out&&(decide (x.r.ty=5)||decide (x.r.ty=39))&&hasI (l.take i) x.fo x.r.ty) l with
   |some i=>(23,i)
   |none=>match firstI (fun _ x=> !x.out&&decide (x.r.ty≠5)&&decide (x.r.ty≠47)&&hasI l x.fo 5) l with
    |some i=>(23,i)
    |none=>match firstI (fun _ x=> !x.out&&l.any fun y=> !y.out&&decide (y.r.ty=39)&&decide (y.fo≠x.fo)&&isUnderS x.fo y.fo) l with
     |some i=>(25,i)
     |none=>(0,0)
theorem it_cells{w:World}{xs:List It}{b off k:Nat}{x:It}(hc:∀ (i:Nat) (y:Value),(itCs xs)[i]? =some y->w.cell? ⟨b,off+i,none⟩=some y)(h:xs[k]? =some x):
 w.cell? ⟨b,off+k*8,none⟩=some (.string x.r.own)∧w.cell? ⟨b,off+k*8+1,none⟩=some (.int .i64 x.r.ty)∧w.cell? ⟨b,off+k*8+2,none⟩=some (.int .i64 x.r.cl)∧w.cell? ⟨b,off+k*8+3,none⟩=some (.int .i64 x.r.tt)∧w.cell? ⟨b,off+k*8+4,none⟩=some (.string x.r.da)∧w.cell? ⟨b,off+k*8+5,none⟩=some (.string x.fo)∧w.cell? ⟨b,off+k*8+6,none⟩=some (.string x.dt)∧w.cell? ⟨b,off+k*8+7,none⟩=some (.bool x.out):=
 ⟨hc (k*8) _ ((itCs_at xs k 0 x h (by decide)).trans rfl),hc (k*8+1) _ ((itCs_at xs k 1 x h (by decide)).trans rfl),hc (k*8+2) _ ((itCs_at xs k 2 x h (by decide)).trans rfl),hc (k*8+3) _ ((itCs_at xs k 3 x h (by decide)).trans rfl),hc (k*8+4) _ ((itCs_at xs k 4 x h (by decide)).trans rfl),hc (k*8+5) _ ((itCs_at xs k 5 x h (by decide)).trans rfl),hc (k*8+6) _ ((itCs_at xs k 6 x h (by decide)).trans rfl),hc (k*8+7) _ ((itCs_at xs k 7 x h (by decide)).trans rfl)⟩
theorem hasI_take{l:List It}{k:Nat}{x:It}(fo:ByteArray)(t:Int)(h:l[k]? =some x):hasI (l.take (k+1)) fo t=(hasI (l.take k) fo t||(!x.out&&decide (x.fo=fo)&&decide (x.r.ty=t))):=by
 obtain⟨hi,e⟩:=List.getElem?_eq_some_iff.1 h;rw [List.take_succ_eq_append_getElem hi,e];simp [hasI]
theorem ba_eq(a b:ByteArray):(a.toList==b.toList)=decide (a=b):=by
 by_cases h:a=b
 ·subst h;simp
 ·rw [decide_eq_false h,beq_eq_false_iff_ne];intro e;apply h;rw [ByteArray.toList_eq,ByteArray.toList_eq] at e;cases a;cases b
  congr 1;exact Array.toList_inj.1 e
set_option maxRecDepth 100000 in
set_option maxHeartbeats 1600000 in
theorem l06Has_any(v:Value)(l:List It)(n:Nat)(fo:ByteArray)(t:Int)(w:World)(h:CRow w v l.length 8 (itCs l))(hn:n<=l.length)(hl:l.length<=1000000):
 Calls Tryz.prog 79 #[v,.int .i64 (n:Int),.string fo,.int .i64 t] w fun e w'=>e=.returned (.bool (hasI (l.take n) fo t))∧w'=w:=by
 obtain⟨_,a,cap,rfl,hcap,hmx,hc⟩:=h;unfold maxLen at hmx;go_enter Tryz.func79,Tryz.ntmps79;go_wp2
 go_loop [9] (fun i=>∃ k:Nat,k<=n∧i=.int .i64 k∧Hid (hasI (l.take k) fo t=false)) (fun i=>n-(intOf i).toNat)
 case atStart=>exact⟨0,Nat.zero_le _,rfl,rfl⟩
 case round=>
  obtain⟨k,hk,rfl,HA⟩:=hrel
  by_cases hlt:k<n
  ·obtain⟨x,hxk⟩:∃ x,l[k]? =some x:=⟨_,List.getElem?_eq_getElem (by omega)⟩;obtain⟨b,off,rfl,hcell⟩:=hc (by omega);obtain⟨c0,c1,c2,c3,c4,c5,c6,c7⟩:=it_cells hcell hxk;have i1:(0:Int)<=(k:Int):=by omega
   have i2:(k:Int)<(l.length:Int):=by omega
   have i3:(k:Int)<(n:Int):=by omega
   have hst:=hasI_take fo t hxk;have e0:=ba_eq x.fo fo;have e1:(x.r.ty==t)=decide (x.r.ty=t):=by by_cases h:x.r.ty=t<;>simp [h]
   rw [HA.out,Bool.false_or,<- e0,<- e1] at hst;have HST:=Nm.hide hst;clear hc hcell hxk hst e0 e1 HA;obtain⟨⟨o,ty,cl,tt,da⟩,f1,d1,ou⟩:=x;simp only at*
   have hend:hasI (l.take (k+1)) fo t=true->hasI (l.take n) fo t=true:=by
    intro h1
    have e:l.take n=l.take (k+1)++(l.drop (k+1)).take (n-(k+1)):=by
     conv=>lhs;rw [show n=(k+1)+(n-(k+1)) by omega]
     rw [List.take_add]
    rw [e];simp only [hasI,List.any_append,Bool.or_eq_true] at h1 ⊢;exact .inl h1
   have HEND:=Nm.hide hend;clear hend
   cases hO:ou with
   |true=>
    subst hO;have HN:Hid (hasI (l.take (k+1)) fo t=false):=by show _=_;rw [HST.out];rfl
    clear HST HEND;go_wp2
    go_round
    case rel=>exact⟨k+1,by omega,by go_num,HN⟩
    case measure=>simp [intOf];omega
   |false=>
    subst hO
    cases hF:(f1.toList==fo.toList) with
    |false=>
     have HN:Hid (hasI (l.take (k+1)) fo t=false):=by show _=_;rw [HST.out,hF];rfl
     clear HST HEND;go_wp2
     go_round
     case rel=>exact⟨k+1,by omega,by go_num,HN⟩
     case measure=>simp [intOf];omega
    |true=>
     cases hT:(ty==t) with
     |false=>
      have HN:Hid (hasI (l.take (k+1)) fo t=false):=by show _=_;rw [HST.out,hF,hT];rfl
      clear HST HEND;go_wp2
      go_round
      case rel=>exact⟨k+1,by omega,by go_num,HN⟩
      case measure=>simp [intOf];omega
     |true=>
      have HN:Hid (hasI (l.take n) fo t=true):=HEND.out (by rw [HST.out,hF,hT];rfl);clear HST HEND;go_wp2;go_ret;exact⟨by rw [HN.out];rfl,rfl⟩
  ·obtain rfl:k=n:=by omega
   have i3:(k:Int)<=(k:Int):=by omega
   clear hc;go_wp2;go_ret;exact⟨by rw [HA.out];rfl,rfl⟩
def ownI(l:List It)(fo:ByteArray):ByteArray:=match l.find? (fun x=>decide (x.fo=fo)) with
 |some x=>x.r.own
 |none=>fo
set_option maxRecDepth 100000 in
set_option maxHeartbeats 1600000 in
theorem l06Owner_any(v:Value)(l:List It)(fo:ByteArray)(w:World)(h:CRow w v l.length 8 (itCs l))(hl:l.length<=1000000):
 Calls Tryz.prog 50 #[v,.string fo] w fun e w'=>e=.returned (.string (ownI l fo))∧w'=w:=by
 obtain⟨_,a,cap,rfl,hcap,hmx,hc⟩:=h;unfold maxLen at hmx;go_enter Tryz.func50,Tryz.ntmps50;go_wp2
 go_loop [5] (fun i=>∃ k:Nat,k<=l.length∧i=.int .i64 k∧Hid (∀ j y,j<k->l[j]? =some y->decide (y.fo=fo)=false)) (fun i=>l.length-(intOf i).toNat)
 case atStart=>exact⟨0,Nat.zero_le _,rfl,by show ∀ _,_;intro j y hj;omega⟩
 case round=>
  obtain⟨k,hk,rfl,HA⟩:=hrel
  by_cases hlt:k<l.length
  ·obtain⟨x,hxk⟩:∃ x,l[k]? =some x:=⟨_,List.getElem?_eq_getElem hlt⟩;obtain⟨b,off,rfl,hcell⟩:=hc (by omega);obtain⟨c0,c1,c2,c3,c4,c5,c6,c7⟩:=it_cells hcell hxk;have i1:(0:Int)<=(k:Int):=by omega
   have i2:(k:Int)<(l.length:Int):=by omega
   have e0:=ba_eq x.fo fo;have HXK:=Nm.hide hxk;clear hc hcell hxk
   cases hF:decide (x.fo=fo) with
   |false=>
    have HA2:Hid (∀ j y,j<k+1->l[j]? =some y->decide (y.fo=fo)=false):=by
     show ∀ _,_
     intro j y hj hy
     by_cases hjk:j=k
     ·subst hjk;rw [HXK.out] at hy;obtain rfl:=Option.some.inj hy;exact hF
     ·exact HA.out j y (by omega) hy
    rw [hF] at e0;clear hF;obtain⟨⟨o,ty,cl,tt,da⟩,f1,d1,ou⟩:=x;simp only at*
    go_wp2
    go_round
    case rel=>exact⟨k+1,by omega,by go_num,HA2⟩
    case measure=>simp [intOf];omega
   |true=>
    have HO:Hid (ownI l fo=x.r.own):=by
     show _=_
     have:l.find? (fun x=>decide (x.fo=fo))=some x:=by
      rw [List.find?_eq_some_iff_getElem];obtain⟨hk',e⟩:=List.getElem?_eq_some_iff.1 HXK.out;refine⟨hF,k,hk',e,fun j hj=>?_⟩;have:=HA.out j l[j] hj (List.getElem?_eq_getElem (by omega));simp only [this];decide
     rw [ownI,this]
    rw [hF] at e0;clear hF;obtain⟨⟨o,ty,cl,tt,da⟩,f1,d1,ou⟩:=x;simp only at*
    go_wp2;go_ret;exact⟨by rw [HO.out];rfl,rfl⟩
  ·obtain rfl:k=l.length:=by omega
   have HO:Hid (ownI l fo=fo):=by
    show _=_
    have:l.find? (fun x=>decide (x.fo=fo))=none:=by
     rw [List.find?_eq_none];intro x hx;obtain⟨j,hj,e⟩:=List.getElem_of_mem hx;have:=HA.out j x hj (by rw [List.getElem?_eq_getElem hj,e]);simpa using this
    rw [ownI,this]
   have i3:(l.length:Int)<=(l.length:Int):=by omega
   clear hc;go_wp2;go_ret;exact⟨by rw [HO.out];rfl,rfl⟩
end Go.Proofs.YtcihkbojmbfmmaaGreatDoor
namespace Go.Proofs.YtcihkbojmbfmmaaGreatDoor
open Go.RowKit
theorem cmpS_left{a b:ByteArray}(h:Nm.split a=none):Nm.cmpS a b=0:=by simp [Nm.cmpS,h]
theorem cmpS_right{a b:ByteArray}(h:Nm.split b=none):Nm.cmpS a b=0:=by
 cases ha:Nm.split a<;>simp [Nm.cmpS,h,ha]
theorem cmpS_some{a b:ByteArray}{xs ys:List ByteArray}(ha:Nm.split a=some xs)(hb:Nm.split b=some ys):Nm.cmpS a b=Nm.cmpLs xs ys:=by simp [Nm.cmpS,ha,hb]
end Go.Proofs.YtcihkbojmbfmmaaGreatDoor
namespace Go.Proofs.YtcihkbojmbfmmaaGreatDoor
open Go.RowKit
set_option maxRecDepth 100000 in
set_option maxHeartbeats 400000 in
theorem l01Order_any(a b:ByteArray)(w:World):
 Calls Tryz.prog 131 #[.string a,.string b] w fun e w'=>e=.returned (.int .i64 (Nm.ordL a.toList b.toList))∧w'=w:=by
 cases h1:Op.bytesLess a.toList b.toList with
 |true=>
  have HC:Hid (Nm.ordL a.toList b.toList= -1):=by show _=_;simp [Nm.ordL,h1]
  go_enter Tryz.func131,Tryz.ntmps131;go_wp2;go_ret;rw [HC.out]
  exact⟨rfl,rfl⟩
 |false=>
  cases h2:(a.toList==b.toList) with
  |true=>
   have HC:Hid (Nm.ordL a.toList b.toList=0):=by show _=_;rw [Nm.ordL,if_neg (by simp [h1]),if_pos (beq_iff_eq.1 h2)]
   go_enter Tryz.func131,Tryz.ntmps131;go_wp2;go_ret;rw [HC.out]
   exact⟨rfl,rfl⟩
  |false=>
   have HC:Hid (Nm.ordL a.toList b.toList=1):=by show _=_;simp [Nm.ordL,h1,beq_eq_false_iff_ne.1 h2]
   go_enter Tryz.func131,Tryz.ntmps131;go_wp2;go_ret;rw [HC.out];exact⟨rfl,rfl⟩
end Go.Proofs.YtcihkbojmbfmmaaGreatDoor
namespace Go.Proofs.YtcihkbojmbfmmaaGreatDoor
open Go.RowKit
theorem ord_small(x y:ByteArray):Nm.ordL (Nm.small x).toList (Nm.small y).toList=Nm.ordS x y:=by
 rw [ByteArray.toList_eq,ByteArray.toList_eq,Nm.small_data,Nm.small_data];rfl
set_option maxRecDepth 100000 in
set_option maxHeartbeats 800000 in
theorem specCompareNames_any(a b:ByteArray)(w:World)(ha:a.size<=maxLen)(hb:b.size<=maxLen):
 Calls Tryz.prog 106 #[.string a,.string b] w fun e w'=>e=.returned (.int .i64 (Nm.cmpS a b))∧Below w.heap.size w w':=by
 have hsa:=l01Split_any a w ha;have hsb:=fun W=>l01Split_any b W hb
 cases hqa:Nm.split a with
 |none=>
  have HA:=Nm.hide (cmpS_left (b:=b) hqa);rw [hqa] at hsa;clear hqa;go_enter Tryz.func106,Tryz.ntmps106;go_wp2_with fail
  refine hsa.mono ?_;rintro e w1 ⟨v,rfl,hown,hbel⟩;go_wp2_with fail
  refine(hsb _).mono ?_;rintro e w2 ⟨v2,rfl,hown2,hbel2⟩;go_wp2;go_ret;rw [HA.out]
  exact⟨rfl,Nm.below_two hbel hbel2⟩
 |some xs=>
  rw [hqa] at hsa
  cases hqb:Nm.split b with
  |none=>
   have HA:=Nm.hide (cmpS_right (a:=a) hqb);rw [hqb] at hsb;clear hqa hqb;go_enter Tryz.func106,Tryz.ntmps106;go_wp2_with fail
   refine hsa.mono ?_;rintro e w1 ⟨v,rfl,hown,hbel⟩;go_wp2_with fail
   refine(hsb _).mono ?_;rintro e w2 ⟨v2,rfl,hown2,hbel2⟩;go_wp2;go_ret;rw [HA.out]
   exact⟨rfl,Nm.below_two hbel hbel2⟩
  |some ys=>
   have HA:=Nm.hide (cmpS_some hqa hqb);have hxs:=(Nm.split_join hqa).2;have hys:=(Nm.split_join hqb).2;have hza:=Nm.split_size hqa;have hzb:=Nm.split_size hqb;have hla:=Nm.length_le_wsum xs;have hlb:=Nm.length_le_wsum ys;rw [hqb] at hsb;clear hqa hqb;go_enter Tryz.func106,Tryz.ntmps106;go_wp2_with fail
   refine hsa.mono ?_;rintro e w1 ⟨v,rfl,hown,hbel⟩;go_wp2_with fail
   refine(hsb _).mono ?_;rintro e w2 ⟨v2,rfl,hown2,hbel2⟩;have r1:=(Nm.SRow.of_owns hown).below hbel2;have r2:=Nm.SRow.of_owns hown2;simp only [Option.getD_some] at r1 r2;have hbw:=Nm.below_two hbel hbel2;obtain⟨a1,cap1,rfl,hcap1,hmx1,hnl1,hc1⟩:=r1;obtain⟨a2,cap2,rfl,hcap2,hmx2,hnl2,hc2⟩:=r2;clear hown hown2 hsa hsb hnl1 hnl2 hbel hbel2;go_wp2
   go_loopw [9] (fun i wr=>∃ k:Nat,k<=xs.length∧k<=ys.length∧i=.int .i64 ((k:Int)+1)∧Hid (Nm.cmpLs xs ys=Nm.cmpRev (xs.reverse.drop k) (ys.reverse.drop k))∧Below w2.heap.size w2 wr)
    (fun i _=>xs.length+1-(intOf i).toNat)
   case atStart=>exact⟨0,Nat.zero_le _,Nat.zero_le _,rfl,by show _=_;simp [Nm.cmpLs],Below.refl _ _⟩
   case round=>
    obtain⟨k,hka,hkb,rfl,HT,hbr⟩:=hrel
    by_cases h1:k<xs.length∧k<ys.length
    ·obtain⟨h1,h2⟩:=h1;have i1:(k:Int)+1<=(xs.length:Int):=by omega
     have i2:(k:Int)+1<=(ys.length:Int):=by omega
     obtain⟨x,hx⟩:∃ x,xs[xs.length-(k+1)]? =some x:=⟨_,List.getElem?_eq_getElem (by omega)⟩;obtain⟨y,hy⟩:∃ y,ys[ys.length-(k+1)]? =some y:=⟨_,List.getElem?_eq_getElem (by omega)⟩;obtain⟨b1,off1,rfl,hcell1⟩:=hc1 (by intro h;rw [h] at h1;simp at h1);obtain⟨b2,off2,rfl,hcell2⟩:=hc2 (by intro h;rw [h] at h2;simp at h2);have hx2:=hcell1 _ _ hx;have hy2:=hcell2 _ _ hy;have hcx:wr.cell? ⟨b1,off1+(xs.length-(k+1)),none⟩=some (.string x):=(hbr.cell (World.block_lt_of_cell? w2 _ hx2)).trans hx2;have hcy:wr.cell? ⟨b2,off2+(ys.length-(k+1)),none⟩=some (.string y):=(hbr.cell (World.block_lt_of_cell? w2 _ hy2)).trans hy2;have hxz:=hxs x (List.mem_of_getElem? hx);have hyz:=hys y (List.mem_of_getElem? hy);have q1:(0:Int)<=(xs.length:Int)-((k:Int)+1):=by omega
     have q2:(xs.length:Int)-((k:Int)+1)<(xs.length:Int):=by omega
     have q3:((xs.length:Int)-((k:Int)+1)).toNat=xs.length-(k+1):=by omega
     have q4:(0:Int)<=(ys.length:Int)-((k:Int)+1):=by omega
     have q5:(ys.length:Int)-((k:Int)+1)<(ys.length:Int):=by omega
     have q6:((ys.length:Int)-((k:Int)+1)).toNat=ys.length-(k+1):=by omega
     have p1:IntKind.i64.wrap ((xs.length:Int)-((k:Int)+1))=(xs.length:Int)-((k:Int)+1):=wrap_small _ (by omega) (by omega);have p2:IntKind.i64.wrap ((ys.length:Int)-((k:Int)+1))=(ys.length:Int)-((k:Int)+1):=wrap_small _ (by omega) (by omega);have hrx:=Nm.rev_get h1 hx;have hry:=Nm.rev_get h2 hy;have hb1:=World.block_lt_of_cell? w2 _ hx2;have hb2:=World.block_lt_of_cell? w2 _ hy2
     have hsm:∀ (z:ByteArray) (W:World),z.size<=63->(W.cell? ⟨b1,off1+(xs.length-(k+1)),none⟩=some (.string x)∧W.cell? ⟨b2,off2+(ys.length-(k+1)),none⟩=some (.string y)∧Below w2.heap.size w2 W)->
      Calls Tryz.prog 75 #[.string z] W fun e w'=>e=.returned (.string (Nm.small z))∧(w'.cell? ⟨b1,off1+(xs.length-(k+1)),none⟩=some (.string x)∧w'.cell? ⟨b2,off2+(ys.length-(k+1)),none⟩=some (.string y)∧Below w2.heap.size w2 w'):=by
      intro z W hz hS;refine(l01Small_any z W (by omega)).mono ?_;rintro e w' ⟨rfl,hbs⟩;have hsz:=hS.2.2.size;exact⟨rfl,(hbs.cell (World.block_lt_of_cell? W _ hS.1)).trans hS.1,(hbs.cell (World.block_lt_of_cell? W _ hS.2.1)).trans hS.2.1,hS.2.2.trans (hbs.mono hsz)⟩
     have hor:=fun W=>l01Order_any (Nm.small x) (Nm.small y) W
     rw [ord_small] at hor;have hS0:wr.drew.cell? ⟨b1,off1+(xs.length-(k+1)),none⟩=some (.string x)∧wr.drew.cell? ⟨b2,off2+(ys.length-(k+1)),none⟩=some (.string y)∧Below w2.heap.size w2 wr.drew:=⟨hcx,hcy,hbr.drew⟩
     by_cases he:Nm.ordS x y=0
     ·have HN:Hid (Nm.cmpLs xs ys=Nm.cmpRev (xs.reverse.drop (k+1)) (ys.reverse.drop (k+1))):=HT.out.trans (Nm.cmp_go hrx hry he);rw [he] at hor;have hz:((0:Int) != 0)=false:=rfl;clear he hx hy hrx hry hcell1 hcell2 hc1 hc2 hxs hys hx2 hy2;go_wp2;go_region_held3 (fun w'=>w'.cell? ⟨b1,off1+(xs.length-(k+1)),none⟩=some (.string x)∧w'.cell? ⟨b2,off2+(ys.length-(k+1)),none⟩=some (.string y)∧Below w2.heap.size w2 w') (first|assumption|exact hS0) ((first|(go_at_call 75;refine(hsm _ _ (by omega) (by first|assumption|exact hS0)).mono ?_;rintro e w' ⟨rfl,hS1⟩)|(go_at_call 131;refine(hor _).mono ?_;rintro e w' ⟨rfl,rfl⟩)))
      go_wp2;go_roundw
      case rel=>exact⟨k+1,by omega,by omega,by go_num,HN,hS1.2.2⟩
      case measure=>simp [intOf];omega
     ·have HO:Hid (Nm.cmpLs xs ys=Nm.ordS x y):=HT.out.trans (Nm.cmp_stop hrx hry he);have hz:(Nm.ordS x y != 0)=true:=by rw [bne_iff_ne];exact he
      generalize Nm.ordS x y=o at*;clear he hx hy hrx hry hcell1 hcell2 hc1 hc2 hxs hys hx2 hy2;go_wp2;go_region_held3 (fun w'=>w'.cell? ⟨b1,off1+(xs.length-(k+1)),none⟩=some (.string x)∧w'.cell? ⟨b2,off2+(ys.length-(k+1)),none⟩=some (.string y)∧Below w2.heap.size w2 w') (first|assumption|exact hS0) ((first|(go_at_call 75;refine(hsm _ _ (by omega) (by first|assumption|exact hS0)).mono ?_;rintro e w' ⟨rfl,hS1⟩)|(go_at_call 131;refine(hor _).mono ?_;rintro e w' ⟨rfl,rfl⟩)))
      go_wp2;go_ret;rw [HA.out,HO.out];exact⟨rfl,Nm.below_two hbw hS1.2.2⟩
    ·have HO:Hid (Nm.cmpLs xs ys=Nm.cmpI xs.length ys.length):=by
      show _=_
      rw [HT.out,Nm.cmp_end (by simpa using hka) (by simpa using hkb) (by simp;omega)];simp
     clear hc1 hc2 hxs hys
     have hlast:(xs.length<ys.length∧Hid (Nm.cmpI xs.length ys.length= -1))∨(ys.length<xs.length∧Hid (Nm.cmpI xs.length ys.length=1))∨(xs.length=ys.length∧Hid (Nm.cmpI xs.length ys.length=0)):=by
      rcases Nat.lt_trichotomy xs.length ys.length with h|h|h
      ·exact .inl ⟨h,Nm.cmpI_lt (by omega)⟩
      ·exact .inr (.inr ⟨h,Nm.cmpI_eq (by omega)⟩)
      ·exact .inr (.inl ⟨h,Nm.cmpI_gt (by omega)⟩)
     rcases hlast with⟨hl,HC⟩|⟨hl,HC⟩|⟨hl,HC⟩
     ·have g1:(xs.length:Int)<(k:Int)+1:=by omega
      clear h1;go_wp2;go_ret;rw [HA.out,HO.out,HC.out];exact⟨rfl,Nm.below_two hbw hbr⟩
     ·have g1:(k:Int)+1<=(xs.length:Int):=by omega
      have g2:(ys.length:Int)<(k:Int)+1:=by omega
      clear h1;go_wp2;go_ret;rw [HA.out,HO.out,HC.out];exact⟨rfl,Nm.below_two hbw hbr⟩
     ·have g1:(xs.length:Int)<(k:Int)+1:=by omega
      have g2:ys.length<=xs.length:=by omega
      have g3:xs.length<=ys.length:=by omega
      clear h1 hl;go_wp2;go_ret;rw [HA.out,HO.out,HC.out];exact⟨rfl,Nm.below_two hbw hbr⟩
end Go.Proofs.YtcihkbojmbfmmaaGreatDoor
namespace Go.Proofs.YtcihkbojmbfmmaaGreatDoor
open Go.RowKit
set_option linter.unusedVariables false
def befI(a b:It):Bool:=if a.fo=b.fo then(if a.r.ty=b.r.ty then Op.bytesLess a.dt.toList b.dt.toList else decide (a.r.ty<b.r.ty)) else decide (Nm.cmpS a.fo b.fo<0)
set_option maxRecDepth 100000 in
set_option maxHeartbeats 1600000 in
theorem l06Before_any(a b:It)(w:World)(ha:a.fo.size<=maxLen)(hb:b.fo.size<=maxLen):
 Calls Tryz.prog 81 #[.agg (itC a).toArray,.agg (itC b).toArray] w fun e w'=>e=.returned (.bool (befI a b))∧Below w.heap.size w w':=by
 have hB:=((Below.refl w.heap.size w).alloc (Nat.le_refl _) (.cells (itC a).toArray 76)).alloc (by simp) (.cells (itC b).toArray 76);have hcm:=fun W=>specCompareNames_any a.fo b.fo W ha hb
 have e0:=ba_eq a.fo b.fo;obtain⟨Q,hQ⟩:∃ Q,Q=befI a b:=⟨_,rfl⟩;rw [<- hQ];unfold befI at hQ;obtain⟨⟨o,ty,cl,tt,da⟩,f1,d1,ou⟩:=a;obtain⟨⟨o2,ty2,cl2,tt2,da2⟩,f2,d2,ou2⟩:=b;simp only [itC] at*
 by_cases hf:f1=f2
 ·subst hf;rw [if_pos rfl] at hQ;have nf:(f1.toList != f1.toList)=false:=by simp
  clear e0 hcm
  by_cases ht:ty=ty2
  ·subst ht;rw [if_pos rfl] at hQ;have nt:(ty != ty)=false:=by simp
   subst hQ;go_enter Tryz.func81,Tryz.ntmps81;go_wp2;go_ret;exact⟨rfl,hB⟩
  ·rw [if_neg ht] at hQ;subst hQ;have nt:(ty != ty2)=true:=by rw [bne_iff_ne];exact ht
   go_enter Tryz.func81,Tryz.ntmps81;go_wp2;go_ret;exact⟨rfl,hB⟩
 ·rw [if_neg hf] at hQ;subst hQ;rw [decide_eq_false hf] at e0;have nf:(f1.toList != f2.toList)=true:=by rw [bne,e0];rfl
  have e9:¬f1.toList=f2.toList:=by simpa using e0
  generalize Nm.cmpS f1 f2=CC at*;go_enter Tryz.func81,Tryz.ntmps81;go_wp2_with fail
  refine(hcm _).mono ?_;rintro e w1 ⟨rfl,b1⟩;go_wp2;go_ret;exact⟨rfl,Nm.below_two hB b1⟩
def kinB(x y:It):Bool:=decide (y.fo=x.fo)&&decide (y.r.ty=x.r.ty)
def dupI(pre:List It)(x:It):Bool:=pre.any fun y=>kinB x y&&decide (y.dt=x.dt)
def mixI(pre:List It)(x:It):Bool:=match pre.find? (kinB x) with
 |some y=>decide (y.r.tt≠x.r.tt)
 |none=>false
def outI(b:Bool)(x:It):It:={x with out:=x.out||b}
def twI(l:List It):List It:=l.mapIdx fun i x=>outI (dupI (l.take i) x) x
def badI(l:List It):Int:=match firstI (fun i x=>mixI (l.take i) x) l with
 |some i=>i
 |none=> -1
theorem twI_len(l:List It):(twI l).length=l.length:=by simp [twI]
theorem twI_get{l:List It}{i:Nat}{x:It}(h:l[i]? =some x):(twI l)[i]? =some (outI (dupI (l.take i) x) x):=by
 simp [twI,h]
theorem dupI_take{l:List It}{k:Nat}{y:It}(x:It)(h:l[k]? =some y):dupI (l.take (k+1)) x=(dupI (l.take k) x||(kinB x y&&decide (y.dt=x.dt))):=by
 obtain⟨hi,e⟩:=List.getElem?_eq_some_iff.1 h;rw [List.take_succ_eq_append_getElem hi,e];simp [dupI]
theorem find_take_no{l:List It}{k:Nat}{p:It->Bool}(h:∀ (j:Nat) (y:It),j<k->l[j]? =some y->p y=false):(l.take k).find? p=none:=by
 rw [List.find?_eq_none];intro y hy;obtain⟨j,hj,e⟩:=List.getElem_of_mem hy;have hj':=hj;rw [List.length_take] at hj';have h2:l[j]? =some y:=by rw [<- e,List.getElem_take,List.getElem?_eq_getElem (by omega)]
 simp [h j y (by omega) h2]
theorem find_take_at{l:List It}{k f:Nat}{y:It}{p:It->Bool}(hf:f<k)(hy:l[f]? =some y)(hp:p y=true)(h:∀ (j:Nat) (z:It),j<f->l[j]? =some z->p z=false):(l.take k).find? p=some y:=by
 rw [List.find?_eq_some_iff_getElem];obtain⟨hl,e⟩:=List.getElem?_eq_some_iff.1 hy;refine⟨hp,f,by rw [List.length_take];omega,by rw [List.getElem_take];exact e,fun j hj=>?_⟩;rw [List.getElem_take];have:=h j l[j] hj (List.getElem?_eq_getElem (by omega));simp [this]
def midI(l:List It)(i k:Nat):List It:=(twI l).take i++(l.drop i).mapIdx fun j x=>if j=0 then outI (dupI (l.take k) x) x else x
theorem midI_len(l:List It)(i k:Nat):(midI l i k).length=l.length:=by
 simp [midI,twI_len];omega
theorem midI_lo{l:List It}{i k j:Nat}{x:It}(h:l[j]? =some x)(hj:j<i):(midI l i k)[j]? =some (outI (dupI (l.take j) x) x):=by
 have hlt:=(List.getElem?_eq_some_iff.1 h).1;rw [midI,List.getElem?_append_left (by rw [List.length_take,twI_len];omega),List.getElem?_take_of_lt hj,twI_get h]
theorem midI_at{l:List It}{i k:Nat}{x:It}(h:l[i]? =some x):(midI l i k)[i]? =some (outI (dupI (l.take k) x) x):=by
 have hlt:=(List.getElem?_eq_some_iff.1 h).1;rw [midI,List.getElem?_append_right (by rw [List.length_take,twI_len];omega)];simp [twI_len,Nat.min_eq_left (Nat.le_of_lt hlt),h]
theorem midI_hi{l:List It}{i k j:Nat}{x:It}(h:l[j]? =some x)(hj:i<j):(midI l i k)[j]? =some x:=by
 have hlt:=(List.getElem?_eq_some_iff.1 h).1;rw [midI,List.getElem?_append_right (by rw [List.length_take,twI_len];omega)];simp only [List.length_take,twI_len,Nat.min_eq_left (by omega:i<=l.length),List.getElem?_mapIdx,List.getElem?_drop];rw [show i+(j-i)=j by omega,h]
 simp;omega
theorem midI_ext{l m:List It}{i k:Nat}(hl:m.length=l.length)(h:∀ (j:Nat) (x:It),l[j]? =some x->m[j]? =(midI l i k)[j]?):m=midI l i k:=by
 apply List.ext_getElem?;intro j
 by_cases hj:j<l.length
 ·exact h j _ (List.getElem?_eq_getElem hj)
 ·rw [List.getElem?_eq_none (by omega),List.getElem?_eq_none (by rw [midI_len];omega)]
theorem midI_start(l:List It):midI l 0 0=l:=by
 symm;refine midI_ext rfl (fun j x h=>?_)
 rcases Nat.eq_zero_or_pos j with rfl|hj
 ·rw [midI_at h,h];simp [outI,dupI]
 ·rw [midI_hi h hj,h]
theorem midI_next{l:List It}{i:Nat}(hi:i<l.length):midI l i i=midI l (i+1) 0:=by
 refine midI_ext (midI_len _ _ _) (fun j x h=>?_)
 by_cases h1:j<i
 ·rw [midI_lo h h1,midI_lo h (by omega)]
 ·by_cases h2:j=i
  ·subst h2;rw [midI_at h,midI_lo h (by omega)]
  ·by_cases h3:j=i+1
   ·subst h3;rw [midI_hi h (by omega),midI_at h];simp [outI,dupI]
   ·rw [midI_hi h (by omega),midI_hi h (by omega)]
theorem midI_end{l:List It}:midI l l.length 0=twI l:=by
 symm;refine midI_ext (twI_len l) (fun j x h=>?_);have hlt:=(List.getElem?_eq_some_iff.1 h).1;rw [midI_lo h hlt,twI_get h]
theorem midI_same{l:List It}{i k:Nat}{x y:It}(hx:l[i]? =some x)(hy:l[k]? =some y)(h:(kinB x y&&decide (y.dt=x.dt))=false):midI l i (k+1)=midI l i k:=by
 refine midI_ext (midI_len _ _ _) (fun j z hz=>?_)
 by_cases h1:j<i
 ·rw [midI_lo hz h1,midI_lo hz h1]
 ·by_cases h2:j=i
  ·subst h2;rw [hx] at hz;obtain rfl:=Option.some.inj hz;rw [midI_at hx,midI_at hx,dupI_take x hy,h,Bool.or_false]
  ·rw [midI_hi hz (by omega),midI_hi hz (by omega)]
theorem midI_out{l:List It}{i k:Nat}{x y:It}(hx:l[i]? =some x)(hy:l[k]? =some y)(h:(kinB x y&&decide (y.dt=x.dt))=true):(midI l i k).set i {x with out:=true}=midI l i (k+1):=by
 refine midI_ext (by rw [List.length_set,midI_len]) (fun j z hz=>?_);have hlt:=(List.getElem?_eq_some_iff.1 hx).1;rw [List.getElem?_set]
 by_cases h1:j<i
 ·rw [if_neg (by omega),midI_lo hz h1,midI_lo hz h1]
 ·by_cases h2:j=i
  ·subst h2;rw [hx] at hz;obtain rfl:=Option.some.inj hz;rw [if_pos rfl,if_pos (by rw [midI_len];exact hlt),midI_at hx,dupI_take x hy,h,Bool.or_true,outI,Bool.or_true]
  ·rw [if_neg (by omega),midI_hi hz (by omega),midI_hi hz (by omega)]
theorem itCs_set:∀ (l:List It) (i:Nat) (x:It),l[i]? =some x->(itCs l).set (i*8+7) (.bool true)=itCs (l.set i {x with out:=true}):=by
 intro l
 induction l with
 |nil=>intro i x h;simp at h
 |cons y l ih=>
  intro i x h;have e:∀ z zs,itCs (z::zs)=itC z++itCs zs:=by intro z zs;simp [itCs]
  cases i with
  |zero=>
   simp at h;subst h;rw [List.set_cons_zero,e,e,List.set_append_left _ _ (by simp [itC])]
   rfl
  |succ i=>
   simp at h;have hl:(itC y).length=8:=rfl;rw [List.set_cons_succ,e,e,List.set_append_right _ _ (by omega),hl,show(i+1)*8+7-8=i*8+7 by omega,ih i x h]
def sortF:Nat->List It->List It
 |0,l=>l
 |n+1,l=>if l.length<2 then l else List.merge (sortF n (l.take (l.length / 2))) (sortF n (l.drop (l.length / 2))) befI
def sortI(l:List It):List It:=sortF l.length l
theorem sortF_small{n:Nat}{l:List It}(h:l.length<2):sortF n l=l:=by
 cases n with
 |zero=>rfl
 |succ n=>rw [sortF,if_pos h]
theorem sortF_big{n:Nat}{l:List It}(h:¬l.length<2):sortF (n+1) l=List.merge (sortF n (l.take (l.length / 2))) (sortF n (l.drop (l.length / 2))) befI:=by rw [sortF,if_neg h]
theorem sortF_perm:∀ (n:Nat) (l:List It),(sortF n l).Perm l:=by
 intro n
 induction n with
 |zero=>intro l;exact .refl _
 |succ n ih=>
  intro l
  by_cases h:l.length<2
  ·rw [sortF_small h]
  ·rw [sortF_big h];have h1:(List.merge (sortF n (l.take (l.length / 2))) (sortF n (l.drop (l.length / 2))) befI).Perm (sortF n (l.take (l.length / 2))++sortF n (l.drop (l.length / 2))):=List.merge_perm_append _;refine h1.trans ?_;refine((ih _).append (ih _)).trans ?_;rw [List.take_append_drop]
theorem sortF_len(n:Nat)(l:List It):(sortF n l).length=l.length:=(sortF_perm n l).length_eq
theorem sortF_mem{n:Nat}{l:List It}{x:It}:x∈sortF n l↔x∈l:=(sortF_perm n l).mem_iff
theorem itCs_take(l:List It)(h:Nat):itCs (l.take h)=(itCs l).take (h*8):=by
 induction l generalizing h with
 |nil=>simp [itCs]
 |cons x l ih=>
  have e:∀ z zs,itCs (z::zs)=itC z++itCs zs:=by intro z zs;simp [itCs]
  have hl:(itC x).length=8:=rfl
  cases h with
  |zero=>simp [itCs]
  |succ h=>
   rw [List.take_succ_cons,e,e,ih,List.take_append,hl,List.take_of_length_le (l:=itC x) (i:=(h+1)*8) (by omega),show(h+1)*8-8=h*8 by omega]
theorem itCs_drop(l:List It)(h:Nat):itCs (l.drop h)=(itCs l).drop (h*8):=by
 induction l generalizing h with
 |nil=>simp [itCs]
 |cons x l ih=>
  have e:∀ z zs,itCs (z::zs)=itC z++itCs zs:=by intro z zs;simp [itCs]
  have hl:(itC x).length=8:=rfl
  cases h with
  |zero=>simp
  |succ h=>
   rw [List.drop_succ_cons,e,ih,List.drop_append,hl,List.drop_of_length_le (l:=itC x) (i:=(h+1)*8) (by omega),show(h+1)*8-8=h*8 by omega,List.nil_append]
theorem cr_take{w:World}{b off n cap h:Nat}{l:List It}(hr:CRow w (.slice (some ⟨b,off,none⟩) n cap) l.length 8 (itCs l))(hh:h<=l.length):CRow w (.slice (some ⟨b,off,none⟩) h cap) (l.take h).length 8 (itCs (l.take h)):=by
 obtain⟨h0,a,c,e,h1,h2,h3⟩:=hr;simp only [Value.slice.injEq] at e;obtain⟨rfl,rfl,rfl⟩:=e;have hl:(l.take h).length=h:=by rw [List.length_take];omega
 rw [hl];refine⟨by rw [itCs_len,hl],_,_,rfl,by omega,h2,fun hp=>⟨b,off,rfl,fun i x hx=>?_⟩⟩;rw [itCs_take] at hx;obtain⟨b',off',e,hc⟩:=h3 (by omega);cases e
 refine hc i x ?_;rw [List.getElem?_take] at hx
 split at hx
 ·exact hx
 ·cases hx
theorem cr_drop{w:World}{b off n cap h:Nat}{l:List It}(hr:CRow w (.slice (some ⟨b,off,none⟩) n cap) l.length 8 (itCs l))(hh:h<l.length):CRow w (.slice (some ⟨b,off+h*8,none⟩) (l.length-h) (cap-h)) (l.drop h).length 8 (itCs (l.drop h)):=by
 obtain⟨h0,a,c,e,h1,h2,h3⟩:=hr;simp only [Value.slice.injEq] at e;obtain⟨rfl,rfl,rfl⟩:=e;have hl:(l.drop h).length=l.length-h:=List.length_drop;rw [hl];refine⟨by rw [itCs_len,hl],_,_,rfl,by omega,by omega,fun hp=>⟨b,off+h*8,rfl,fun i x hx=>?_⟩⟩;rw [itCs_drop,List.getElem?_drop] at hx;obtain⟨b',off',e,hc⟩:=h3 (by omega);cases e
 have:=hc (h*8+i) x hx;rw [Nat.add_assoc];exact this
theorem merge_left{a b:List It}{i:Nat}{x:It}(hx:a[i]? =some x):List.merge (a.drop i) (b.drop b.length) befI=x::List.merge (a.drop (i+1)) (b.drop b.length) befI:=by
 obtain⟨hi,e⟩:=List.getElem?_eq_some_iff.1 hx;rw [List.drop_length,List.merge_right,List.merge_right,List.drop_eq_getElem_cons hi,e]
theorem merge_one{a b:List It}{i k:Nat}{x y:It}(hx:a[i]? =some x)(hy:b[k]? =some y)(h:befI x y=true):List.merge (a.drop i) (b.drop k) befI=x::List.merge (a.drop (i+1)) (b.drop k) befI:=by
 obtain⟨hi,e⟩:=List.getElem?_eq_some_iff.1 hx;obtain⟨hk,e2⟩:=List.getElem?_eq_some_iff.1 hy;rw [List.drop_eq_getElem_cons hi,e,List.drop_eq_getElem_cons hk,e2,List.cons_merge_cons,if_pos h]
theorem merge_two{a b:List It}{i k:Nat}{x y:It}(hx:a[i]? =some x)(hy:b[k]? =some y)(h:befI x y=false):List.merge (a.drop i) (b.drop k) befI=y::List.merge (a.drop i) (b.drop (k+1)) befI:=by
 obtain⟨hi,e⟩:=List.getElem?_eq_some_iff.1 hx;obtain⟨hk,e2⟩:=List.getElem?_eq_some_iff.1 hy;rw [List.drop_eq_getElem_cons hi,e,List.drop_eq_getElem_cons hk,e2,List.cons_merge_cons,if_neg (by simp [h])]
theorem merge_right'{a b:List It}{k:Nat}{y:It}(hy:b[k]? =some y):List.merge (a.drop a.length) (b.drop k) befI=y::List.merge (a.drop a.length) (b.drop (k+1)) befI:=by
 obtain⟨hk,e⟩:=List.getElem?_eq_some_iff.1 hy;rw [List.drop_length,List.nil_merge,List.nil_merge,List.drop_eq_getElem_cons hk,e]
end Go.Proofs.YtcihkbojmbfmmaaGreatDoor
