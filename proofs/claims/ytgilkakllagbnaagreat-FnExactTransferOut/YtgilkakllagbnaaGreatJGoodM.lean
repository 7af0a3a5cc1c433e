import Derived.Test.YtgilkakllagbnaaGreatJZnT
import Derived.Test.YtgilkakllagbnaaGreatJMath
import Derived.Test.YtgilkakllagbnaaGreatJRrM
import Derived.Test.YtgilkakllagbnaaGreatJZrI
import Derived.Deep.QuietTactic
import Derived.BigQuiet
import Derived.Test.YtgilkakllagbnaaGreatJStA
import Derived.Test.YtgilkakllagbnaaGreatJZrM
import Derived.WalkKit
import Derived.Test.YtgilkakllagbnaaGreatJClone
import Derived.Test.YtgilkakllagbnaaGreatPzG
namespace Go.Proofs.YtgilkakllagbnaaGreat
open Go.RowKit
theorem code_zero{t:Int}{d:ByteArray}:cutCode t d=0↔ ∃ sp,cutS t d=some sp:=by
 by_cases h:t<0∨65535<t
 ·obtain⟨h1,h2⟩:=code_type (d:=d) h;rw [h1,h2];simp
 ·by_cases h1:65535<d.size
  ·obtain⟨h2,h3⟩:=code_long h h1;rw [h2,h3];simp
  ·cases hq:Dt.spans (Dt.implP t) 0 d with
   |none=>obtain⟨h2,h3⟩:=code_none h h1 hq;rw [h2,h3];simp
   |some sp=>obtain⟨h2,h3⟩:=code_some h h1 hq;rw [h2,h3];simp
theorem good_parts{t:Int}{d:ByteArray}(h:cutCode t d=0):∃ ps,Dt.parts (Dt.specP t) d=some ps∧cutS t d=some (Dt.spansOf (Dt.specP t) ps 0)∧d.size<=65535:=by
 obtain⟨sp,hsp⟩:=code_zero.1 h
 by_cases ht:t<0∨65535<t
 ·rw [(code_type (d:=d) ht).2] at hsp;cases hsp
 ·by_cases h1:65535<d.size
  ·rw [(code_long ht h1).2] at hsp;cases hsp
  ·have e:cutS t d=Dt.spans (Dt.implP t) 0 d:=by rw [cutS,if_neg ht,if_neg h1]
   rw [e,<- Dt.forms_agree,Dt.spans_of_parts] at hsp
   cases hq:Dt.parts (Dt.specP t) d with
   |none=>rw [hq] at hsp;simp at hsp
   |some ps=>
    refine⟨ps,rfl,?_,by omega⟩;rw [e,<- Dt.forms_agree,Dt.spans_of_parts,hq];rfl
theorem part_le:∀ (ps:List ByteArray) (x:ByteArray),x∈ps->x.size<=(Dt.catL ps).length:=by
 intro ps
 induction ps with
 |nil=>intro x h;simp at h
 |cons y ps ih=>
  intro x h;have e:(Dt.catL (y::ps)).length=y.size+(Dt.catL ps).length:=by simp [Dt.catL]
  rcases List.mem_cons.1 h with rfl|h
  ·omega
  ·have:=ih x h;omega
theorem isN_let(c:UInt8):(Dt.letP c).isN=decide (c.toNat=110):=by
 by_cases h:c=110
 ·subst h;rfl
 ·have h':c.toNat≠110:=fun e=>h (UInt8.toNat_inj.1 (by simpa using e))
  simp only [h',decide_false];unfold Dt.letP;rw [if_neg h]
  repeat' split
  all_goals rfl
theorem spans_few:∀ (fs:List Dt.Pc) (a:Nat) (d:ByteArray) (sp:List (Nat×Nat)),Dt.spans fs a d=some sp->sp.length<=fs.length:=by
 intro fs
 induction fs with
 |nil=>
  intro a d sp h;rw [Dt.spans] at h
  split at h
  ·simp at h;subst h;simp
  ·simp at h
 |cons p r ih=>
  intro a d sp h;rw [Dt.spans] at h
  cases hq:Dt.sz p d with
  |none=>rw [hq] at h;simp at h
  |some n=>
   rw [hq] at h
   cases hr:Dt.spans r (a+n) (d.extract n d.size) with
   |none=>simp [hr] at h
   |some l=>
    have:=ih _ _ _ hr;simp [hr] at h
    subst h;cases p.isN<;>simp<;>omega
theorem cut_few(t:Int)(d:ByteArray):((cutS t d).getD []).length<=5:=by
 cases h:cutS t d with
 |none=>simp
 |some sp=>
  rw [cutS] at h
  split at h
  ·cases h
  ·split at h
   ·cases h
   ·have h1:=spans_few _ _ _ _ h;have h2:=implP_len t
    simp;omega
end Go.Proofs.YtgilkakllagbnaaGreat
namespace Go.Proofs.YtgilkakllagbnaaGreat
open Go.RowKit
theorem span_cellsN{sp:List (Nat×Nat)}{k:Nat}{x:Nat×Nat}(h:sp[k]? =some x):(spanCells sp)[k*2]? =some (.int .i64 (x.1:Int))∧(spanCells sp)[k*2+1]? =some (.int .i64 (x.2:Int)):=by
 induction sp generalizing k with
 |nil=>simp at h
 |cons y sp ih=>
  cases k with
  |zero=>simp at h;subst h;simp [spanCells]
  |succ k=>
   simp at h;have:=ih h;have e:spanCells (y::sp)=[.int .i64 (y.1:Int),.int .i64 (y.2:Int)]++spanCells sp:=by simp [spanCells]
   rw [e,show(k+1)*2=k*2+2 by omega,show k*2+2+1=(k*2+1)+2 by omega];simpa using this
theorem spans_in:∀ (fs:List Dt.Pc) (a:Nat) (d:ByteArray) (sp:List (Nat×Nat)),Dt.spans fs a d=some sp->∀ s∈sp,a<=s.1∧s.1<=s.2∧s.2<=a+d.size:=by
 intro fs
 induction fs with
 |nil=>
  intro a d sp h;rw [Dt.spans] at h
  split at h
  ·simp at h;subst h;simp
  ·simp at h
 |cons p r ih=>
  intro a d sp h;rw [Dt.spans] at h
  cases hq:Dt.sz p d with
  |none=>rw [hq] at h;simp at h
  |some n=>
   have hn:=Dt.sz_le hq;rw [hq] at h
   cases hr:Dt.spans r (a+n) (d.extract n d.size) with
   |none=>simp [hr] at h
   |some l=>
    have hi:=ih _ _ _ hr;have hz:(d.extract n d.size).size=d.size-n:=by simp
    have hi2:∀ s∈l,a<=s.1∧s.1<=s.2∧s.2<=a+d.size:=by
     intro s hs;have:=hi s hs;omega
    simp [hr] at h
    subst h;cases p.isN
    ·simpa using hi2
    ·intro s hs;simp at hs
     rcases hs with rfl|hs
     ·simp;omega
     ·exact hi2 s hs
theorem low_in_len(a b:Nat)(l:List UInt8)(h:a<=b)(hb:b<=l.length):(Dt.lowIn (a,b) l).length=l.length:=by
 simp [Dt.lowIn,Nm.smallL];omega
theorem low_in_self(a:Nat)(l:List UInt8):Dt.lowIn (a,a) l=l:=by
 simp [Dt.lowIn,Nm.smallL]
theorem low_in_get(a i:Nat)(l:List UInt8)(h:a<=i)(hi:i<l.length):(Dt.lowIn (a,i) l)[i]? =l[i]? :=by
 have h1:(l.take a++Nm.smallL ((l.drop a).take (i-a))).length=i:=by simp [Nm.smallL];omega
 simp only [Dt.lowIn];rw [<- List.append_assoc,List.getElem?_append_right (by omega),h1,Nat.sub_self,List.getElem?_drop,Nat.add_zero]
theorem low_in_set(a i:Nat)(l:List UInt8)(c:UInt8)(h:a<=i)(hc:l[i]? =some c):(Dt.lowIn (a,i) l).set i (Nm.low c)=Dt.lowIn (a,i+1) l:=by
 obtain⟨hi,he⟩:=List.getElem?_eq_some_iff.1 hc;have h1:(l.take a++Nm.smallL ((l.drop a).take (i-a))).length=i:=by simp [Nm.smallL];omega
 have h2:(l.drop a).take (i+1-a)=(l.drop a).take (i-a)++[c]:=by
  rw [show i+1-a=(i-a)+1 by omega];apply Nm.take_step;rw [List.getElem?_drop,show a+(i-a)=i by omega];exact hc
 simp only [Dt.lowIn];rw [<- List.append_assoc,List.set_append_right _ _ (by omega),h1,Nat.sub_self,h2,List.drop_eq_getElem_cons hi,List.set_cons_zero];simp [Nm.smallL]
theorem low_all_len:∀ (sp:List (Nat×Nat)) (l:List UInt8),(∀ s∈sp,s.1<=s.2∧s.2<=l.length)->(Dt.lowAll sp l).length=l.length:=by
 intro sp
 induction sp with
 |nil=>intro l _;rfl
 |cons s sp ih=>
  intro l h;have h0:=h s (List.mem_cons_self);have e:=low_in_len s.1 s.2 l h0.1 h0.2
  show(Dt.lowAll sp (Dt.lowIn s l)).length=l.length
  rw [ih,e];intro s' hs';rw [e];exact h s' (List.mem_cons_of_mem _ hs')
theorem low_all_step{sp:List (Nat×Nat)}{k:Nat}{s:Nat×Nat}(h:sp[k]? =some s)(l:List UInt8):Dt.lowAll (sp.take (k+1)) l=Dt.lowIn s (Dt.lowAll (sp.take k) l):=by
 rw [Nm.take_step h,Dt.lowAll,List.foldl_append];rfl
theorem new_bytes2(s:ByteArray)(w:World):∃ cap W,s.size<=cap∧(s.size<=maxLen->cap<=maxLen)∧
 (convert 9 108 (.string s)).run Tryz.prog w=.ok (.slice (some ⟨w.heap.size,0,none⟩) s.size cap) W∧BRow W w.heap.size s.data.toList∧Below w.heap.size w W∧w.heap.size<W.heap.size:=by
 obtain⟨cap,W,h1,h2,h3,h4,h5⟩:=new_bytes s w;refine⟨cap,W,h1,h2,h3,h4,h5,?_⟩;have hr:=run_bytes_of_string w 9 108 5 s Tryz.underlying9 Tryz.underlying108 Tryz.underlying5;rw [h3] at hr;cases hr
 simp
theorem BRow.alloc{w:World}{g:Nat}{l:List UInt8}(h:BRow w g l)(hg:g<w.heap.size)(o:Obj):BRow (w.alloc o) g l:=by
 intro j c hj;obtain⟨h1,h2⟩:=h j c hj;have hb:Below w.heap.size w (w.alloc o):=(Below.refl _ _).alloc (Nat.le_refl _) _;refine⟨(hb.cell hg).trans h1,?_⟩;have e:=hb.block g hg;simp only [World.frozen?,e];exact h2
theorem BRow.str{w:World}{g n cap:Nat}{l:List UInt8}(h:BRow w g l)(hl:l.length=n):(convert 108 9 (.slice (some ⟨g,0,none⟩) n cap)).run Tryz.prog w=.ok (.string ⟨l.toArray⟩) w:=by
 subst hl;refine run_convert_bytes_back w 108 9 5 ⟨g,0,none⟩ cap l Tryz.underlying108 Tryz.underlying5 Tryz.underlying9 ?_;intro j hj;rw [Nm.addr_add,Nat.zero_add];exact(h j _ (List.getElem?_eq_getElem hj)).1
set_option maxRecDepth 100000 in
set_option maxHeartbeats 1600000 in
theorem foldNames_any(d:ByteArray)(v:Value)(sp:List (Nat×Nat))(w:World)(hrow:CRow w v sp.length 2 (spanCells sp))(hsp:∀ s∈sp,s.1<=s.2∧s.2<=d.size)(hd:d.size<=1000000000)(hl:sp.length<=1000000):
 Calls Tryz.prog 182 #[.string d,v] w fun e w'=>e=.returned (.string ⟨(Dt.lowAll sp d.data.toList).toArray⟩)∧Below w.heap.size w w':=by
 obtain⟨cap,W,hcap,hmx,hrun,hbr,hbel,hgW⟩:=new_bytes2 d w;obtain⟨_,a,capv,rfl,hcapv,hmxv,hc⟩:=hrow;have hmx':=hmx (by unfold maxLen;omega);unfold maxLen at hmx';have hdl:d.data.toList.length=d.size:=by simp
 have hll:∀ k,(Dt.lowAll (sp.take k) d.data.toList).length=d.size:=by
  intro k;rw [low_all_len,hdl];intro s hs;rw [hdl];exact hsp s (List.mem_of_mem_take hs)
 clear hmx;go_enter Tryz.func182,Tryz.ntmps182;go_wp2
 go_loopw [13] (fun i wr=>∃ k:Nat,k<=sp.length∧i=.int .i64 k∧BRow wr w.heap.size (Dt.lowAll (sp.take k) d.data.toList)∧w.heap.size<wr.heap.size∧Below w.heap.size w wr)
  (fun i _=>sp.length-(intOf i).toNat)
 case atStart=>
  exact⟨0,Nat.zero_le _,rfl,by simpa [Dt.lowAll] using hbr,hgW,hbel⟩
 case round=>
  obtain⟨k,hk,rfl,hbk,hgz,hbelk⟩:=hrel;clear hrun hbr hbel
  by_cases hlt:k<sp.length
  ·obtain⟨x,hx⟩:∃ x,sp[k]? =some x:=⟨_,List.getElem?_eq_getElem hlt⟩;obtain⟨s1,s2⟩:=span_cellsN hx;obtain⟨hx1,hx2⟩:=hsp x (List.mem_of_getElem? hx);have HST:=Nm.hide (low_all_step hx d.data.toList);have hlk:=hll k;generalize Dt.lowAll (sp.take k) d.data.toList=l at*;obtain⟨b,off,rfl,hcell⟩:=hc (by omega);have put:∀ {B O:Nat} {z:Value},w.cell? ⟨B,O,none⟩=some z->wr.cell? ⟨B,O,none⟩=some z:=fun h=>(hbelk.cell (World.block_lt_of_cell? w _ h)).trans h
   have c1:=put (hcell _ _ s1);have c2:=put (hcell _ _ s2);rw [<- Nat.add_assoc] at c2;clear hc hcell s1 s2 put hx;obtain⟨wo,hwo⟩:∃ wo,wo=wr:=⟨wr,rfl⟩;subst hwo;have hB0:=hbk.alloc hgz (.cells #[.int .i64 (x.1:Int),.int .i64 (x.2:Int)] 212);have hW0:Below w.heap.size w (wo.alloc (.cells #[.int .i64 (x.1:Int),.int .i64 (x.2:Int)] 212)):=hbelk.alloc (by omega) _;have hC0:(wo.alloc (.cells #[.int .i64 (x.1:Int),.int .i64 (x.2:Int)] 212)).cell? ⟨wo.heap.size,1,none⟩=some (.int .i64 (x.2:Int)):=by rw [World.cell?_alloc_new];rfl
   have hz0:wo.heap.size<(wo.alloc (.cells #[.int .i64 (x.1:Int),.int .i64 (x.2:Int)] 212)).heap.size:=by simp
   go_wp2
   go_loopw [8] (fun v wq=>∃ i:Nat,x.1<=i∧i<=x.2∧v=.int .i64 i∧BRow wq w.heap.size (Dt.lowIn (x.1,i) l)∧wq.cell? ⟨wo.heap.size,1,none⟩=some (.int .i64 (x.2:Int))∧wo.heap.size<wq.heap.size∧Below w.heap.size w wq)
    (fun v _=>x.2-(intOf v).toNat)
   case atStart=>exact⟨x.1,Nat.le_refl _,hx1,rfl,by rw [low_in_self];exact hB0,hC0,hz0,hW0⟩
   case round=>
    obtain⟨i,hi1,hi2,rfl,hbq,hcq,hzq,hbelq⟩:=hrel;clear hB0 hW0 hC0 hz0 c1 c2 hbk
    by_cases hil:i<x.2
    ·have hil':(i:Int)<(x.2:Int):=by omega
     have hid:i<d.size:=by omega
     have hid':(i:Int)<(d.size:Int):=by omega
     obtain⟨c,hlc⟩:∃ c,l[i]? =some c:=⟨_,List.getElem?_eq_getElem (by omega)⟩;have hgi:(Dt.lowIn (x.1,i) l)[i]? =some c:=(low_in_get x.1 i l hi1 (by omega)).trans hlc;obtain⟨hc1,hc2⟩:=hbq i c hgi;have hbs:=hbq.set (k:=i) (d:=Nm.low c) (by rw [low_in_len _ _ _ hi1 (by omega)];omega);rw [low_in_set _ _ _ _ hi1 hlc] at hbs;have HBS:=Nm.hide hbs
     have HC:Hid ((wr.setCell ⟨w.heap.size,i,none⟩ (.int .u8 (Nm.low c).toNat)).cell? ⟨wo.heap.size,1,none⟩=some (.int .i64 (x.2:Int))):=by
      show _=_
      rw [World.cell?_setCell_other wr ⟨w.heap.size,i,none⟩ ⟨wo.heap.size,1,none⟩ _ (by intro h;have:=congrArg Addr.block h;simp at this;omega)];exact hcq
     have HW:Hid (Below w.heap.size w (wr.setCell ⟨w.heap.size,i,none⟩ (.int .u8 (Nm.low c).toNat))):=hbelq.setCell (Nat.le_refl _) _;have HZ:Hid (wo.heap.size<(wr.setCell ⟨w.heap.size,i,none⟩ (.int .u8 (Nm.low c).toNat)).heap.size):=by show _<_;simpa using hzq
     clear hbs hgi hbq hlc;go_wp2_with (go_at_call 173;refine(foldByte_any _ _).mono ?_;rintro e w3 ⟨rfl,hw⟩;obtain rfl:wr=w3:=hw.symm;clear hw)
     go_roundw
     case rel=>exact⟨i+1,by omega,by omega,by go_num,HBS.out,HC.out,HZ.out,HW.out⟩
     case measure=>simp [intOf];omega
    ·have hil':(x.2:Int)<=(i:Int):=by omega
     obtain rfl:i=x.2:=by omega
     rw [show((x.1,x.2):Nat×Nat)=x from rfl,<- HST.out] at hbq;have HBQ:=Nm.hide hbq;have hgq:w.heap.size<wr.heap.size:=by omega
     clear hbq hil;go_wp2;go_roundw
     case rel=>exact⟨k+1,by omega,by go_num,HBQ.out,hgq,hbelq⟩
     case measure=>simp [intOf];omega
  ·have hlt':(sp.length:Int)<=(k:Int):=by omega
   rw [List.take_of_length_le (by omega)] at hbk;have hl0:=hll sp.length;rw [List.take_of_length_le (by omega)] at hl0;obtain⟨R,HR,hstr⟩:∃ R,Hid (R=(⟨(Dt.lowAll sp d.data.toList).toArray⟩:ByteArray))∧(convert 108 9 (.slice (some ⟨w.heap.size,0,none⟩) d.size cap)).run Tryz.prog wr=.ok (.string R) wr:=⟨_,rfl,hbk.str (cap:=cap) hl0⟩;clear hbk hc hl0;go_wp2;go_ret;rw [<- HR.out];exact⟨rfl,hbelk⟩
end Go.Proofs.YtgilkakllagbnaaGreat
namespace Go.Proofs.YtgilkakllagbnaaGreat
open Go.RowKit
set_option linter.unusedVariables false
theorem it_cells{w:World}{xs:List It}{b off k:Nat}{x:It}(hc:∀ (i:Nat) (y:Value),(itCs xs)[i]? =some y->w.cell? ⟨b,off+i,none⟩=some y)(h:xs[k]? =some x):
 w.cell? ⟨b,off+k*8,none⟩=some (.string x.r.own)∧w.cell? ⟨b,off+k*8+1,none⟩=some (.int .i64 x.r.ty)∧w.cell? ⟨b,off+k*8+2,none⟩=some (.int .i64 x.r.cl)∧w.cell? ⟨b,off+k*8+3,none⟩=some (.int .i64 x.r.tt)∧w.cell? ⟨b,off+k*8+4,none⟩=some (.string x.r.da)∧w.cell? ⟨b,off+k*8+5,none⟩=some (.string x.fo)∧w.cell? ⟨b,off+k*8+6,none⟩=some (.string x.dt)∧w.cell? ⟨b,off+k*8+7,none⟩=some (.bool x.out):=
 ⟨hc (k*8) _ ((itCs_at xs k 0 x h (by decide)).trans rfl),hc (k*8+1) _ ((itCs_at xs k 1 x h (by decide)).trans rfl),hc (k*8+2) _ ((itCs_at xs k 2 x h (by decide)).trans rfl),hc (k*8+3) _ ((itCs_at xs k 3 x h (by decide)).trans rfl),hc (k*8+4) _ ((itCs_at xs k 4 x h (by decide)).trans rfl),hc (k*8+5) _ ((itCs_at xs k 5 x h (by decide)).trans rfl),hc (k*8+6) _ ((itCs_at xs k 6 x h (by decide)).trans rfl),hc (k*8+7) _ ((itCs_at xs k 7 x h (by decide)).trans rfl)⟩
theorem hasI_take{l:List It}{k:Nat}{x:It}(fo:ByteArray)(t:Int)(h:l[k]? =some x):hasI (l.take (k+1)) fo t=(hasI (l.take k) fo t||(!x.out&&decide (x.fo=fo)&&decide (x.r.ty=t))):=by
 obtain⟨hi,e⟩:=List.getElem?_eq_some_iff.1 h;rw [List.take_succ_eq_append_getElem hi,e];simp [hasI]
theorem ba_eq(a b:ByteArray):(a.toList==b.toList)=decide (a=b):=by
 by_cases h:a=b
 ·subst h;simp
 ·rw [decide_eq_false h,beq_eq_false_iff_ne];intro e;apply h;rw [ByteArray.toList_eq,ByteArray.toList_eq] at e;cases a;cases b
  congr 1;exact Array.toList_inj.1 e
set_option maxRecDepth 100000 in
set_option maxHeartbeats 1600000 in
theorem l06Has_any(v:Value)(l:List It)(n:Nat)(fo:ByteArray)(t:Int)(w:World)(h:CRow w v l.length 8 (itCs l))(hn:n<=l.length)(hl:l.length<=1000000):
 Calls Tryz.prog 102 #[v,.int .i64 (n:Int),.string fo,.int .i64 t] w fun e w'=>e=.returned (.bool (hasI (l.take n) fo t))∧w'=w:=by
 obtain⟨_,a,cap,rfl,hcap,hmx,hc⟩:=h;unfold maxLen at hmx;go_enter Tryz.func102,Tryz.ntmps102;go_wp2
 go_loop [9] (fun i=>∃ k:Nat,k<=n∧i=.int .i64 k∧Hid (hasI (l.take k) fo t=false)) (fun i=>n-(intOf i).toNat)
 case atStart=>exact⟨0,Nat.zero_le _,rfl,rfl⟩
 case round=>
  obtain⟨k,hk,rfl,HA⟩:=hrel
  by_cases hlt:k<n
  ·obtain⟨x,hxk⟩:∃ x,l[k]? =some x:=⟨_,List.getElem?_eq_getElem (by omega)⟩;obtain⟨b,off,rfl,hcell⟩:=hc (by omega);obtain⟨c0,c1,c2,c3,c4,c5,c6,c7⟩:=it_cells hcell hxk;have i1:(0:Int)<=(k:Int):=by omega
   have i2:(k:Int)<(l.length:Int):=by omega
   have i3:(k:Int)<(n:Int):=by omega
   have hst:=hasI_take fo t hxk;have e0:=ba_eq x.fo fo;have e1:(x.r.ty==t)=decide (x.r.ty=t):=by by_cases h:x.r.ty=t<;>simp [h]
   rw [HA.out,Bool.false_or,<- e0,<- e1] at hst;have HST:=Nm.hide hst;clear hc hcell hxk hst e0 e1 HA;obtain⟨⟨o,ty,cl,tt,da⟩,f1,d1,ou⟩:=x;simp only at*
   have hend:hasI (l.take (k+1)) fo t=true->hasI (l.take n) fo t=true:=by
    intro h1
    have e:l.take n=l.take (k+1)++(l.drop (k+1)).take (n-(k+1)):=by
     conv=>lhs;rw [show n=(k+1)+(n-(k+1)) by omega]
     rw [List.take_add]
    rw [e];simp only [hasI,List.any_append,Bool.or_eq_true] at h1 ⊢;exact .inl h1
   have HEND:=Nm.hide hend;clear hend
   cases hO:ou with
   |true=>
    subst hO;have HN:Hid (hasI (l.take (k+1)) fo t=false):=by show _=_;rw [HST.out];rfl
    clear HST HEND;go_wp2
    go_round
    case rel=>exact⟨k+1,by omega,by go_num,HN⟩
    case measure=>simp [intOf];omega
   |false=>
    subst hO
    cases hF:(f1.toList==fo.toList) with
    |false=>
     have HN:Hid (hasI (l.take (k+1)) fo t=false):=by show _=_;rw [HST.out,hF];rfl
     clear HST HEND;go_wp2
     go_round
     case rel=>exact⟨k+1,by omega,by go_num,HN⟩
     case measure=>simp [intOf];omega
    |true=>
     cases hT:(ty==t) with
     |false=>
      have HN:Hid (hasI (l.take (k+1)) fo t=false):=by show _=_;rw [HST.out,hF,hT];rfl
      clear HST HEND;go_wp2
      go_round
      case rel=>exact⟨k+1,by omega,by go_num,HN⟩
      case measure=>simp [intOf];omega
     |true=>
      have HN:Hid (hasI (l.take n) fo t=true):=HEND.out (by rw [HST.out,hF,hT];rfl);clear HST HEND;go_wp2;go_ret;exact⟨by rw [HN.out];rfl,rfl⟩
  ·obtain rfl:k=n:=by omega
   have i3:(k:Int)<=(k:Int):=by omega
   clear hc;go_wp2;go_ret;exact⟨by rw [HA.out];rfl,rfl⟩
def ownI(l:List It)(fo:ByteArray):ByteArray:=match l.find? (fun x=>decide (x.fo=fo)) with
 |some x=>x.r.own
 |none=>fo
set_option maxRecDepth 100000 in
set_option maxHeartbeats 1600000 in
theorem l06Owner_any(v:Value)(l:List It)(fo:ByteArray)(w:World)(h:CRow w v l.length 8 (itCs l))(hl:l.length<=1000000):
 Calls Tryz.prog 77 #[v,.string fo] w fun e w'=>e=.returned (.string (ownI l fo))∧w'=w:=by
 obtain⟨_,a,cap,rfl,hcap,hmx,hc⟩:=h;unfold maxLen at hmx;go_enter Tryz.func77,Tryz.ntmps77;go_wp2
 go_loop [5] (fun i=>∃ k:Nat,k<=l.length∧i=.int .i64 k∧Hid (∀ j y,j<k->l[j]? =some y->decide (y.fo=fo)=false)) (fun i=>l.length-(intOf i).toNat)
 case atStart=>exact⟨0,Nat.zero_le _,rfl,by show ∀ _,_;intro j y hj;omega⟩
 case round=>
  obtain⟨k,hk,rfl,HA⟩:=hrel
  by_cases hlt:k<l.length
  ·obtain⟨x,hxk⟩:∃ x,l[k]? =some x:=⟨_,List.getElem?_eq_getElem hlt⟩;obtain⟨b,off,rfl,hcell⟩:=hc (by omega);obtain⟨c0,c1,c2,c3,c4,c5,c6,c7⟩:=it_cells hcell hxk;have i1:(0:Int)<=(k:Int):=by omega
   have i2:(k:Int)<(l.length:Int):=by omega
   have e0:=ba_eq x.fo fo;have HXK:=Nm.hide hxk;clear hc hcell hxk
   cases hF:decide (x.fo=fo) with
   |false=>
    have HA2:Hid (∀ j y,j<k+1->l[j]? =some y->decide (y.fo=fo)=false):=by
     show ∀ _,_
     intro j y hj hy
     by_cases hjk:j=k
     ·subst hjk;rw [HXK.out] at hy;obtain rfl:=Option.some.inj hy;exact hF
     ·exact HA.out j y (by omega) hy
    rw [hF] at e0;clear hF;obtain⟨⟨o,ty,cl,tt,da⟩,f1,d1,ou⟩:=x;simp only at*
    go_wp2
    go_round
    case rel=>exact⟨k+1,by omega,by go_num,HA2⟩
    case measure=>simp [intOf];omega
   |true=>
    have HO:Hid (ownI l fo=x.r.own):=by
     show _=_
     have:l.find? (fun x=>decide (x.fo=fo))=some x:=by
      rw [List.find?_eq_some_iff_getElem];obtain⟨hk',e⟩:=List.getElem?_eq_some_iff.1 HXK.out;refine⟨hF,k,hk',e,fun j hj=>?_⟩;have:=HA.out j l[j] hj (List.getElem?_eq_getElem (by omega));simp only [this];decide
     rw [ownI,this]
    rw [hF] at e0;clear hF;obtain⟨⟨o,ty,cl,tt,da⟩,f1,d1,ou⟩:=x;simp only at*
    go_wp2;go_ret;exact⟨by rw [HO.out];rfl,rfl⟩
  ·obtain rfl:k=l.length:=by omega
   have HO:Hid (ownI l fo=fo):=by
    show _=_
    have:l.find? (fun x=>decide (x.fo=fo))=none:=by
     rw [List.find?_eq_none];intro x hx;obtain⟨j,hj,e⟩:=List.getElem_of_mem hx;have:=HA.out j x hj (by rw [List.getElem?_eq_getElem hj,e]);simpa using this
    rw [ownI,this]
   have i3:(l.length:Int)<=(l.length:Int):=by omega
   clear hc;go_wp2;go_ret;exact⟨by rw [HO.out];rfl,rfl⟩
def befI(a b:It):Bool:=if a.fo=b.fo then(if a.r.ty=b.r.ty then Op.bytesLess a.dt.toList b.dt.toList else decide (a.r.ty<b.r.ty)) else decide (Nm.cmpS a.fo b.fo<0)
set_option maxRecDepth 100000 in
set_option maxHeartbeats 1600000 in
theorem l06Before_any(a b:It)(w:World)(ha:a.fo.size<=maxLen)(hb:b.fo.size<=maxLen):
 Calls Tryz.prog 104 #[.agg (itC a).toArray,.agg (itC b).toArray] w fun e w'=>e=.returned (.bool (befI a b))∧Below w.heap.size w w':=by
 have hB:=((Below.refl w.heap.size w).alloc (Nat.le_refl _) (.cells (itC a).toArray 115)).alloc (by simp) (.cells (itC b).toArray 115);have hcm:=fun W=>specCompareNames_any a.fo b.fo W ha hb
 have e0:=ba_eq a.fo b.fo;obtain⟨Q,hQ⟩:∃ Q,Q=befI a b:=⟨_,rfl⟩;rw [<- hQ];unfold befI at hQ;obtain⟨⟨o,ty,cl,tt,da⟩,f1,d1,ou⟩:=a;obtain⟨⟨o2,ty2,cl2,tt2,da2⟩,f2,d2,ou2⟩:=b;simp only [itC] at*
 by_cases hf:f1=f2
 ·subst hf;rw [if_pos rfl] at hQ;have nf:(f1.toList != f1.toList)=false:=by simp
  clear e0 hcm
  by_cases ht:ty=ty2
  ·subst ht;rw [if_pos rfl] at hQ;have nt:(ty != ty)=false:=by simp
   subst hQ;go_enter Tryz.func104,Tryz.ntmps104;go_wp2;go_ret;exact⟨rfl,hB⟩
  ·rw [if_neg ht] at hQ;subst hQ;have nt:(ty != ty2)=true:=by rw [bne_iff_ne];exact ht
   go_enter Tryz.func104,Tryz.ntmps104;go_wp2;go_ret;exact⟨rfl,hB⟩
 ·rw [if_neg hf] at hQ;subst hQ;rw [decide_eq_false hf] at e0;have nf:(f1.toList != f2.toList)=true:=by rw [bne,e0];rfl
  have e9:¬f1.toList=f2.toList:=by simpa using e0
  generalize Nm.cmpS f1 f2=CC at*;go_enter Tryz.func104,Tryz.ntmps104;go_wp2_with fail
  refine(hcm _).mono ?_;rintro e w1 ⟨rfl,b1⟩;go_wp2;go_ret;exact⟨rfl,Nm.below_two hB b1⟩
end Go.Proofs.YtgilkakllagbnaaGreat
namespace Go.Proofs.YtgilkakllagbnaaGreat
open Go.RowKit
set_option maxRecDepth 100000 in
set_option maxHeartbeats 800000 in
theorem splitName_any(s:ByteArray)(w:World)(_:s.size<=maxLen):
 Calls Tryz.prog 128 #[.string s] w fun e w'=>∃ v,e=.returned (.tuple #[v,.bool (Nm.split s).isSome])∧
  w'.ownsRow w.heap.size 9 1 v ((Nm.split s).getD []).length (((Nm.split s).getD []).map Value.string)∧Below w.heap.size w w':=by
 obtain⟨i0,hi,hz0,hz1,hz2⟩:=info_parts Tryz.infoStr;have hcall:=implNameOK_same s
 cases hq:Nm.split s with
 |none=>
  rw [hq] at hcall;simp only [Option.isSome_none] at hcall;clear hq;go_enter Tryz.func128,Tryz.ntmps128;go_wp2_with (go_at_call 151;refine(hcall _).mono ?_;rintro e w1 ⟨rfl,hw⟩;obtain rfl:w=w1:=hw.symm;clear hw)
  go_ret2
  exact⟨_,rfl,World.ownsRow_nil _ _ _ _,Below.refl _ _⟩
 |some L=>
  have hz:=Nm.split_size hq;have hst:=Nm.at_start s hz.2;have HQ:=Nm.hide hq;rw [hq] at hcall;simp only [Option.isSome_some] at hcall;clear hq;have hz2':=hz.2;clear hz;go_enter Tryz.func128,Tryz.ntmps128;go_wp2_with (go_at_call 151;refine(hcall _).mono ?_;rintro e w1 ⟨rfl,hw⟩;obtain rfl:w=w1:=hw.symm;clear hw)
  go_loopw [4,5] (fun v x wr=>∃ (ls:List ByteArray) (r:ByteArray),x=.string r∧Nm.At s ls r∧ls.length+r.size<=255∧wr.ownsRow w.heap.size 9 1 v ls.length (ls.map Value.string)∧Below w.heap.size w wr)
   (fun _ x _=>match x with|.string r=>r.size|_=>0)
  case atStart=>exact⟨[],s,rfl,hst,by simp;omega,World.ownsRow_nil _ _ _ _,Below.refl _ _⟩
  case round=>
   obtain⟨ls,r,rfl,hat,hb,hown,hbel⟩:=hrel;clear hst;have hq:=HQ.out
   by_cases h0:r.size=0
   ·rw [Nm.at_empty hat h0] at hq;simp at hq
   ·have hp:0<r.size:=by omega
    have hn:(r[0].toNat:Int)<256:=by have:=r[0].toNat_lt;omega
    by_cases h1:r.size=1∧r[0].toNat=0
    ·have hL:L=ls:=by
      have:=Nm.at_end hat hp h1.2 h1.1;rw [hq] at this;simpa using this
     have e1:=Nm.tl_one hp h1.1 h1.2;have e1':(r.toList != [0])=false:=by rw [bne,e1];rfl
     clear h1 hq HQ;go_wp2;go_ret2;rw [hL];exact⟨_,rfl,hown,hbel⟩
    ·have e1:=Nm.tl_not_one hp h1;have e1':(r.toList != [0])=true:=by rw [bne,e1];rfl
     by_cases h2:r[0].toNat=0
     ·rw [Nm.at_zero hat hp h2 (fun h=>h1 ⟨h,h2⟩)] at hq;simp at hq
     ·by_cases h3:63<r[0].toNat∨r.size<r[0].toNat+1
      ·rw [Nm.at_bad hat hp h2 h3] at hq;simp at hq
      ·have e4:(r[0].toNat:Int)<=63:=by omega
       have e5:(r[0].toNat:Int)+1<=(r.size:Int):=by omega
       have e5':1+r[0].toNat<=r.size:=by omega
       have hi0:(0:Int)<(r.size:Int):=by omega
       have HN:Hid (Nm.At s (ls++[r.extract 1 (r[0].toNat+1)]) (r.extract (r[0].toNat+1) r.size)):=Nm.at_step hat hp h2 (by omega) (by omega);have hsz:=hbel.size;clear h2 h1 h0 h3 hq HQ;go_wp2_with (at_builtin;refine wpList_append_own _ rfl (.tmp 16) (.tmp 21) 125 rfl w.heap.size 9 i0 (.string ByteArray.empty) 1 16 Tryz.underlying125 hi hz0 hz1 hz2 rfl (by decide) _ _ _ rfl (hown.alloc _) ⟨wr.heap.size,0,none⟩ 1 1 [.string (r.extract 1 (1+r[0].toNat))] rfl rfl (cell_new1 _ _ _) (Nm.one_cell _ rfl) (by unfold maxLen;omega) (by omega) (by simp;omega) ?_)
       intro v' w1 hown' hgrow _;have R:=own_step hsz hown hbel _ hown' hgrow;clear hown' hgrow hown hbel;go_wp2;go_roundw
       case rel=>exact⟨_,_,rfl,by simpa [Nat.add_comm] using HN.out,by simp;omega,R.1,R.2⟩
       case measure=>simp;omega
end Go.Proofs.YtgilkakllagbnaaGreat
namespace Go.Proofs.YtgilkakllagbnaaGreat
open Go.RowKit
set_option maxRecDepth 100000 in
set_option maxHeartbeats 800000 in
theorem specSameName_any(a b:ByteArray)(w:World)(ha:a.size<=maxLen)(hb:b.size<=maxLen):
 Calls Tryz.prog 105 #[.string a,.string b] w fun e w'=>e=.returned (.bool (sameS a b))∧Below w.heap.size w w':=by
 have hsa:=specFoldName_any a w ha;have hsb:=fun W=>specFoldName_any b W hb
 cases hqa:Nm.split a with
 |none=>
  have HA:=Nm.hide (same_left (b:=b) hqa);rw [Nm.foldS_none hqa] at hsa;have he:(ByteArray.empty).toList.isEmpty=true:=Nm.tl_empty rfl;clear hqa;go_enter Tryz.func105,Tryz.ntmps105;go_wp2_with fail
  refine hsa.mono ?_;rintro e w1 ⟨rfl,hbel⟩;go_wp2;go_ret;rw [HA.out]
  exact⟨rfl,hbel⟩
 |some xs=>
  rw [Nm.foldS_some hqa] at hsa;have he:=small_pos hqa
  cases hqb:Nm.split b with
  |none=>
   have HA:=Nm.hide (same_right (a:=a) hqb);rw [Nm.foldS_none hqb] at hsb
   have hne:((Nm.small a).toList==(ByteArray.empty).toList)=false:=by
    rw [beq_eq_false_iff_ne];intro e;rw [e] at he;rw [Nm.tl_empty rfl] at he;simp at he
   clear hqa hqb;generalize Nm.small a=x at*;go_enter Tryz.func105,Tryz.ntmps105;go_wp2_with fail
   refine hsa.mono ?_;rintro e w1 ⟨rfl,hbel⟩;go_wp2_with fail
   refine(hsb _).mono ?_;rintro e w2 ⟨rfl,hbel2⟩;go_wp2;go_ret;rw [HA.out]
   exact⟨rfl,Nm.below_two hbel hbel2⟩
  |some ys=>
   have HA:=Nm.hide (same_some hqa hqb);have HE:=Nm.hide (small_eq a b);rw [Nm.foldS_some hqb] at hsb;clear hqa hqb;generalize Nm.small a=x at*;generalize Nm.small b=y at*;go_enter Tryz.func105,Tryz.ntmps105;go_wp2_with fail
   refine hsa.mono ?_;rintro e w1 ⟨rfl,hbel⟩;go_wp2_with fail
   refine(hsb _).mono ?_;rintro e w2 ⟨rfl,hbel2⟩;go_wp2;go_ret;rw [HA.out,<- HE.out];exact⟨rfl,Nm.below_two hbel hbel2⟩
end Go.Proofs.YtgilkakllagbnaaGreat
namespace Go.Proofs.YtgilkakllagbnaaGreat
open Go.RowKit
set_option linter.unusedVariables false
theorem flat_step{α:Type}{ls:List (List α)}{k:Nat}{l:List α}(h:ls[k]? =some l):(ls.take (k+1)).flatten=(ls.take k).flatten++l:=by
 rw [List.take_add_one,h];simp
theorem flat_le{α:Type}(ls:List (List α))(k:Nat):(ls.take k).flatten.length<=ls.flatten.length:=by
 have e:ls.flatten=(ls.take k).flatten++(ls.drop k).flatten:=by rw [<- List.flatten_append,List.take_append_drop]
 rw [e,List.length_append];omega
set_option maxRecDepth 100000 in
set_option maxHeartbeats 3200000 in
theorem concatRN_own(vs:List Value)(ls:List (List Rr))(b:Nat)(w:World)(hv:vs.length=ls.length)(hc:∀ (i:Nat) (v:Value),vs[i]? =some v->w.cell? ⟨b,i,none⟩=some v)(hr:∀ (i:Nat) (v:Value) (l:List Rr),vs[i]? =some v->ls[i]? =some l->CRow w v l.length 5 (rvVs l))
 (hp:0<ls.flatten.length) (hs:ls.flatten.length<=100000) (hn:ls.length<=1000):
 Calls Tryz.prog 36 #[.slice (some ⟨b,0,none⟩) ls.length ls.length] w fun e w'=>∃ v,e=.returned v∧w'.ownsRow w.heap.size 56 5 v ls.flatten.length (rvVs ls.flatten)∧Below w.heap.size w w':=by
 have hgr:=fun W=>growR_any ls.flatten.length hp (by omega) W
 obtain⟨N,hN⟩:∃ N,N=ls.flatten.length:=⟨_,rfl⟩;rw [<- hN] at hgr hs ⊢;have n3:¬(N:Int)<0:=by omega
 have HN:=Nm.hide hN;have HP:=Nm.hide hp;clear hN hp;go_enter Tryz.func36,Tryz.ntmps36;go_wp2
 go_loopw [3,5,11] (fun s _ i wr=>w=wr∧∃ k:Nat,k<=ls.length∧i=.int .i64 (k:Int)∧s=.int .i64 (((ls.take k).flatten.length:Nat):Int)) (fun _ _ i _=>ls.length-(intOf i).toNat)
 case atStart=>exact⟨rfl,0,Nat.zero_le _,rfl,rfl⟩
 case round=>
  obtain⟨rfl,k,hk,rfl,rfl⟩:=hrel
  by_cases hlt:k<ls.length
  ·obtain⟨l,hl⟩:∃ l,ls[k]? =some l:=⟨_,List.getElem?_eq_getElem hlt⟩;obtain⟨v,hvk⟩:∃ v,vs[k]? =some v:=⟨_,List.getElem?_eq_getElem (by omega)⟩;have c0:=hc k v hvk;obtain⟨a1,c1,rfl⟩:∃ a c,v=.slice a l.length c:=by obtain⟨_,a,c,e,_⟩:=hr k v l hvk hl;exact⟨a,c,e⟩
   have hst:=flat_step hl;have hle:=flat_le ls (k+1);rw [hst,List.length_append,<- HN.out] at hle;obtain⟨M,hM⟩:∃ M,M=(ls.take k).flatten.length:=⟨_,rfl⟩;rw [<- hM] at hle ⊢;have HM:Hid ((ls.take (k+1)).flatten.length=M+l.length):=by show _=_;rw [hst,List.length_append,hM]
   clear hM hst hc hr;have i1:(0:Int)<=(k:Int):=by omega
   have i2:(k:Int)<(ls.length:Int):=by omega
   have hw:IntKind.i64.wrap ((M:Int)+(l.length:Int))=(M:Int)+(l.length:Int):=Go.wrap_small _ (by omega) (by omega);have n1:¬(M:Int)+(l.length:Int)<0:=by omega
   go_wp2;go_roundw
   case rel=>exact⟨by trivial,k+1,by omega,by go_num,by rw [HM.out];go_num⟩
   case measure=>simp [intOf];omega
  ·obtain rfl:k=ls.length:=by omega
   rw [List.take_length,<- HN.out];have i2:¬(ls.length:Int)<(ls.length:Int):=by omega
   go_wp2_with fail
   refine(hgr _).mono ?_;rintro e w1 ⟨v0,rfl,ho,hob,hb1⟩;obtain⟨ax,cx,rfl⟩:=own_sl ho;clear hgr n3 i2;go_wp2
   go_loopw [6,8,27] (fun v _ i wr=>Below w.heap.size w wr∧v.ownBlock≠none∧∃ k:Nat,k<=ls.length∧i=.int .i64 (k:Int)∧wr.ownsRow w.heap.size 56 5 v (ls.take k).flatten.length (rvVs (ls.take k).flatten)) (fun _ _ i _=>ls.length-(intOf i).toNat)
   case atStart=>exact⟨hb1,hob,0,Nat.zero_le _,rfl,ho⟩
   case round=>
    clear ho hob hb1;obtain⟨hbel,hob,k,hk,rfl,ho⟩:=hrel;have hsw:=hbel.size
    by_cases hlt:k<ls.length
    ·obtain⟨l,hl⟩:∃ l,ls[k]? =some l:=⟨_,List.getElem?_eq_getElem hlt⟩;obtain⟨v,hvk⟩:∃ v,vs[k]? =some v:=⟨_,List.getElem?_eq_getElem (by omega)⟩;have c0:=hc k v hvk
     replace c0:=(hbel.cell (p:=⟨b,k,none⟩) (World.block_lt_of_cell? w _ c0)).trans c0
     have hrow:=hr k v l hvk hl;obtain⟨a1,c1,rfl⟩:∃ a c,v=.slice a l.length c:=by obtain⟨_,a,c,e,_⟩:=hrow;exact⟨a,c,e⟩
     have hst:=flat_step hl;have hle:=flat_le ls (k+1);rw [hst,List.length_append,<- HN.out] at hle;generalize hF:(ls.take k).flatten=F at*;obtain⟨v',w',hrun,ho',hg,hob'⟩:=own_appR ho hob (hrow.below hbel) (by omega) (by omega) hsw;have hb':=hbel.grown hg hsw (fun q hq=>(ho.lt q hq).1)
     have HO:Hid (w'.ownsRow w.heap.size 56 5 v' (ls.take (k+1)).flatten.length (rvVs (ls.take (k+1)).flatten)):=by
      show World.ownsRow _ _ _ _ _ _ _
      rw [hst,List.length_append];exact ho'
     have i1:(0:Int)<=(k:Int):=by omega
     have i2:(k:Int)<(ls.length:Int):=by omega
     clear hc hr hg hrow hst ho' hF;go_wp2_with (refine wpList_app_ranR rfl (.tmp 31) (.tmp 32) 28 28 rfl _ _ _ _ rfl rfl hrun ?_)
     go_roundw
     case rel=>exact⟨hb',hob',k+1,by omega,by go_num,HO.out⟩
     case measure=>simp [intOf];omega
    ·obtain rfl:k=ls.length:=by omega
     rw [List.take_length,<- HN.out] at ho;have i2:¬(ls.length:Int)<(ls.length:Int):=by omega
     clear hc hr;go_wp2;go_ret;exact⟨_,rfl,ho,hbel⟩
end Go.Proofs.YtgilkakllagbnaaGreat
