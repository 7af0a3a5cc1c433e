import Derived.Test.YtaceiajcecaapaaGreatJZrM
import Derived.Test.YtaceiajcecaapaaGreatJCRow
import Derived.Test.YtaceiajcecaapaaGreatJTbIS
import Derived.Test.YtaceiajcecaapaaGreatJZnM
import Derived.Test.YtaceiajcecaapaaGreatJZbH
import Derived.RegionTactic
import Derived.Test.YtaceiajcecaapaaGreatJCutM
namespace Go.Proofs.YtaceiajcecaapaaGreat
open Go.RowKit
theorem span_cellsN{sp:List (Nat×Nat)}{k:Nat}{x:Nat×Nat}(h:sp[k]? =some x):(spanCells sp)[k*2]? =some (.int .i64 (x.1:Int))∧(spanCells sp)[k*2+1]? =some (.int .i64 (x.2:Int)):=by
 induction sp generalizing k with
 |nil=>simp at h
 |cons y sp ih=>
  cases k with
  |zero=>simp at h;subst h;simp [spanCells]
  |succ k=>
   simp at h;have:=ih h;have e:spanCells (y::sp)=[.int .i64 (y.1:Int),.int .i64 (y.2:Int)]++spanCells sp:=by simp [spanCells]
   rw [e,show(k+1)*2=k*2+2 by omega,show k*2+2+1=(k*2+1)+2 by omega];simpa using this
theorem spans_in:∀ (fs:List Dt.Pc) (a:Nat) (d:ByteArray) (sp:List (Nat×Nat)),Dt.spans fs a d=some sp->∀ s∈sp,a<=s.1∧s.1<=s.2∧s.2<=a+d.size:=by
 intro fs
 induction fs with
 |nil=>
  intro a d sp h;rw [Dt.spans] at h
  split at h
  ·simp at h;subst h;simp
  ·simp at h
 |cons p r ih=>
  intro a d sp h;rw [Dt.spans] at h
  cases hq:Dt.sz p d with
  |none=>rw [hq] at h;simp at h
  |some n=>
   have hn:=Dt.sz_le hq;rw [hq] at h
   cases hr:Dt.spans r (a+n) (d.extract n d.size) with
   |none=>simp [hr] at h
   |some l=>
    have hi:=ih _ _ _ hr;have hz:(d.extract n d.size).size=d.size-n:=by simp
    have hi2:∀ s∈l,a<=s.1∧s.1<=s.2∧s.2<=a+d.size:=by
     intro s hs;have:=hi s hs;omega
    simp [hr] at h
    subst h;cases p.isN
    ·simpa using hi2
    ·intro s hs;simp at hs
     rcases hs with rfl|hs
     ·simp;omega
     ·exact hi2 s hs
theorem low_in_len(a b:Nat)(l:List UInt8)(h:a<=b)(hb:b<=l.length):(Dt.lowIn (a,b) l).length=l.length:=by
 simp [Dt.lowIn,Nm.smallL];omega
theorem low_in_self(a:Nat)(l:List UInt8):Dt.lowIn (a,a) l=l:=by
 simp [Dt.lowIn,Nm.smallL]
theorem low_in_get(a i:Nat)(l:List UInt8)(h:a<=i)(hi:i<l.length):(Dt.lowIn (a,i) l)[i]? =l[i]? :=by
 have h1:(l.take a++Nm.smallL ((l.drop a).take (i-a))).length=i:=by simp [Nm.smallL];omega
 simp only [Dt.lowIn];rw [<- List.append_assoc,List.getElem?_append_right (by omega),h1,Nat.sub_self,List.getElem?_drop,Nat.add_zero]
theorem low_in_set(a i:Nat)(l:List UInt8)(c:UInt8)(h:a<=i)(hc:l[i]? =some c):(Dt.lowIn (a,i) l).set i (Nm.low c)=Dt.lowIn (a,i+1) l:=by
 obtain⟨hi,he⟩:=List.getElem?_eq_some_iff.1 hc;have h1:(l.take a++Nm.smallL ((l.drop a).take (i-a))).length=i:=by simp [Nm.smallL];omega
 have h2:(l.drop a).take (i+1-a)=(l.drop a).take (i-a)++[c]:=by
  rw [show i+1-a=(i-a)+1 by omega];apply Nm.take_step;rw [List.getElem?_drop,show a+(i-a)=i by omega];exact hc
 simp only [Dt.lowIn];rw [<- List.append_assoc,List.set_append_right _ _ (by omega),h1,Nat.sub_self,h2,List.drop_eq_getElem_cons hi,List.set_cons_zero];simp [Nm.smallL]
theorem low_all_len:∀ (sp:List (Nat×Nat)) (l:List UInt8),(∀ s∈sp,s.1<=s.2∧s.2<=l.length)->(Dt.lowAll sp l).length=l.length:=by
 intro sp
 induction sp with
 |nil=>intro l _;rfl
 |cons s sp ih=>
  intro l h;have h0:=h s (List.mem_cons_self);have e:=low_in_len s.1 s.2 l h0.1 h0.2
  show(Dt.lowAll sp (Dt.lowIn s l)).length=l.length
  rw [ih,e];intro s' hs';rw [e];exact h s' (List.mem_cons_of_mem _ hs')
theorem low_all_step{sp:List (Nat×Nat)}{k:Nat}{s:Nat×Nat}(h:sp[k]? =some s)(l:List UInt8):Dt.lowAll (sp.take (k+1)) l=Dt.lowIn s (Dt.lowAll (sp.take k) l):=by
 rw [Nm.take_step h,Dt.lowAll,List.foldl_append];rfl
theorem new_bytes2(s:ByteArray)(w:World):∃ cap W,s.size<=cap∧(s.size<=maxLen->cap<=maxLen)∧
 (convert 9 179 (.string s)).run Tryz.prog w=.ok (.slice (some ⟨w.heap.size,0,none⟩) s.size cap) W∧BRow W w.heap.size s.data.toList∧Below w.heap.size w W∧w.heap.size<W.heap.size:=by
 obtain⟨cap,W,h1,h2,h3,h4,h5⟩:=new_bytes s w;refine⟨cap,W,h1,h2,h3,h4,h5,?_⟩;have hr:=run_bytes_of_string w 9 179 5 s Tryz.underlying9 Tryz.underlying179 Tryz.underlying5;rw [h3] at hr;cases hr
 simp
theorem BRow.alloc{w:World}{g:Nat}{l:List UInt8}(h:BRow w g l)(hg:g<w.heap.size)(o:Obj):BRow (w.alloc o) g l:=by
 intro j c hj;obtain⟨h1,h2⟩:=h j c hj;have hb:Below w.heap.size w (w.alloc o):=(Below.refl _ _).alloc (Nat.le_refl _) _;refine⟨(hb.cell hg).trans h1,?_⟩;have e:=hb.block g hg;simp only [World.frozen?,e];exact h2
theorem BRow.str{w:World}{g n cap:Nat}{l:List UInt8}(h:BRow w g l)(hl:l.length=n):(convert 179 9 (.slice (some ⟨g,0,none⟩) n cap)).run Tryz.prog w=.ok (.string ⟨l.toArray⟩) w:=by
 subst hl;refine run_convert_bytes_back w 179 9 5 ⟨g,0,none⟩ cap l Tryz.underlying179 Tryz.underlying5 Tryz.underlying9 ?_;intro j hj;rw [Nm.addr_add,Nat.zero_add];exact(h j _ (List.getElem?_eq_getElem hj)).1
set_option maxRecDepth 100000 in
set_option maxHeartbeats 1600000 in
theorem foldNames_any(d:ByteArray)(v:Value)(sp:List (Nat×Nat))(w:World)(hrow:CRow w v sp.length 2 (spanCells sp))(hsp:∀ s∈sp,s.1<=s.2∧s.2<=d.size)(hd:d.size<=1000000000)(hl:sp.length<=1000000):
 Calls Tryz.prog 131 #[.string d,v] w fun e w'=>e=.returned (.string ⟨(Dt.lowAll sp d.data.toList).toArray⟩)∧Below w.heap.size w w':=by
 obtain⟨cap,W,hcap,hmx,hrun,hbr,hbel,hgW⟩:=new_bytes2 d w;obtain⟨_,a,capv,rfl,hcapv,hmxv,hc⟩:=hrow;have hmx':=hmx (by unfold maxLen;omega);unfold maxLen at hmx';have hdl:d.data.toList.length=d.size:=by simp
 have hll:∀ k,(Dt.lowAll (sp.take k) d.data.toList).length=d.size:=by
  intro k;rw [low_all_len,hdl];intro s hs;rw [hdl];exact hsp s (List.mem_of_mem_take hs)
 clear hmx;go_enter Tryz.func131,Tryz.ntmps131;go_wp2
 go_loopw [13] (fun i wr=>∃ k:Nat,k<=sp.length∧i=.int .i64 k∧BRow wr w.heap.size (Dt.lowAll (sp.take k) d.data.toList)∧w.heap.size<wr.heap.size∧Below w.heap.size w wr)
  (fun i _=>sp.length-(intOf i).toNat)
 case atStart=>
  exact⟨0,Nat.zero_le _,rfl,by simpa [Dt.lowAll] using hbr,hgW,hbel⟩
 case round=>
  obtain⟨k,hk,rfl,hbk,hgz,hbelk⟩:=hrel;clear hrun hbr hbel
  by_cases hlt:k<sp.length
  ·obtain⟨x,hx⟩:∃ x,sp[k]? =some x:=⟨_,List.getElem?_eq_getElem hlt⟩;obtain⟨s1,s2⟩:=span_cellsN hx;obtain⟨hx1,hx2⟩:=hsp x (List.mem_of_getElem? hx);have HST:=Nm.hide (low_all_step hx d.data.toList);have hlk:=hll k;generalize Dt.lowAll (sp.take k) d.data.toList=l at*;obtain⟨b,off,rfl,hcell⟩:=hc (by omega);have put:∀ {B O:Nat} {z:Value},w.cell? ⟨B,O,none⟩=some z->wr.cell? ⟨B,O,none⟩=some z:=fun h=>(hbelk.cell (World.block_lt_of_cell? w _ h)).trans h
   have c1:=put (hcell _ _ s1);have c2:=put (hcell _ _ s2);rw [<- Nat.add_assoc] at c2;clear hc hcell s1 s2 put hx;obtain⟨wo,hwo⟩:∃ wo,wo=wr:=⟨wr,rfl⟩;subst hwo;have hB0:=hbk.alloc hgz (.cells #[.int .i64 (x.1:Int),.int .i64 (x.2:Int)] 215);have hW0:Below w.heap.size w (wo.alloc (.cells #[.int .i64 (x.1:Int),.int .i64 (x.2:Int)] 215)):=hbelk.alloc (by omega) _;have hC0:(wo.alloc (.cells #[.int .i64 (x.1:Int),.int .i64 (x.2:Int)] 215)).cell? ⟨wo.heap.size,1,none⟩=some (.int .i64 (x.2:Int)):=by rw [World.cell?_alloc_new];rfl
   have hz0:wo.heap.size<(wo.alloc (.cells #[.int .i64 (x.1:Int),.int .i64 (x.2:Int)] 215)).heap.size:=by simp
   go_wp2
   go_loopw [8] (fun v wq=>∃ i:Nat,x.1<=i∧i<=x.2∧v=.int .i64 i∧BRow wq w.heap.size (Dt.lowIn (x.1,i) l)∧wq.cell? ⟨wo.heap.size,1,none⟩=some (.int .i64 (x.2:Int))∧wo.heap.size<wq.heap.size∧Below w.heap.size w wq)
    (fun v _=>x.2-(intOf v).toNat)
   case atStart=>exact⟨x.1,Nat.le_refl _,hx1,rfl,by rw [low_in_self];exact hB0,hC0,hz0,hW0⟩
   case round=>
    obtain⟨i,hi1,hi2,rfl,hbq,hcq,hzq,hbelq⟩:=hrel;clear hB0 hW0 hC0 hz0 c1 c2 hbk
    by_cases hil:i<x.2
    ·have hil':(i:Int)<(x.2:Int):=by omega
     have hid:i<d.size:=by omega
     have hid':(i:Int)<(d.size:Int):=by omega
     obtain⟨c,hlc⟩:∃ c,l[i]? =some c:=⟨_,List.getElem?_eq_getElem (by omega)⟩;have hgi:(Dt.lowIn (x.1,i) l)[i]? =some c:=(low_in_get x.1 i l hi1 (by omega)).trans hlc;obtain⟨hc1,hc2⟩:=hbq i c hgi;have hbs:=hbq.set (k:=i) (d:=Nm.low c) (by rw [low_in_len _ _ _ hi1 (by omega)];omega);rw [low_in_set _ _ _ _ hi1 hlc] at hbs;have HBS:=Nm.hide hbs
     have HC:Hid ((wr.setCell ⟨w.heap.size,i,none⟩ (.int .u8 (Nm.low c).toNat)).cell? ⟨wo.heap.size,1,none⟩=some (.int .i64 (x.2:Int))):=by
      show _=_
      rw [World.cell?_setCell_other wr ⟨w.heap.size,i,none⟩ ⟨wo.heap.size,1,none⟩ _ (by intro h;have:=congrArg Addr.block h;simp at this;omega)];exact hcq
     have HW:Hid (Below w.heap.size w (wr.setCell ⟨w.heap.size,i,none⟩ (.int .u8 (Nm.low c).toNat))):=hbelq.setCell (Nat.le_refl _) _;have HZ:Hid (wo.heap.size<(wr.setCell ⟨w.heap.size,i,none⟩ (.int .u8 (Nm.low c).toNat)).heap.size):=by show _<_;simpa using hzq
     clear hbs hgi hbq hlc;go_wp2_with (go_at_call 129;refine(foldByte_any _ _).mono ?_;rintro e w3 ⟨rfl,hw⟩;obtain rfl:wr=w3:=hw.symm;clear hw)
     go_roundw
     case rel=>exact⟨i+1,by omega,by omega,by go_num,HBS.out,HC.out,HZ.out,HW.out⟩
     case measure=>simp [intOf];omega
    ·have hil':(x.2:Int)<=(i:Int):=by omega
     obtain rfl:i=x.2:=by omega
     rw [show((x.1,x.2):Nat×Nat)=x from rfl,<- HST.out] at hbq;have HBQ:=Nm.hide hbq;have hgq:w.heap.size<wr.heap.size:=by omega
     clear hbq hil;go_wp2;go_roundw
     case rel=>exact⟨k+1,by omega,by go_num,HBQ.out,hgq,hbelq⟩
     case measure=>simp [intOf];omega
  ·have hlt':(sp.length:Int)<=(k:Int):=by omega
   rw [List.take_of_length_le (by omega)] at hbk;have hl0:=hll sp.length;rw [List.take_of_length_le (by omega)] at hl0;obtain⟨R,HR,hstr⟩:∃ R,Hid (R=(⟨(Dt.lowAll sp d.data.toList).toArray⟩:ByteArray))∧(convert 179 9 (.slice (some ⟨w.heap.size,0,none⟩) d.size cap)).run Tryz.prog wr=.ok (.string R) wr:=⟨_,rfl,hbk.str (cap:=cap) hl0⟩;clear hbk hc hl0;go_wp2;go_ret;rw [<- HR.out];exact⟨rfl,hbelk⟩
end Go.Proofs.YtaceiajcecaapaaGreat
namespace Go.Proofs.YtaceiajcecaapaaGreat
open Go.RowKit
set_option linter.unusedVariables false
set_option maxRecDepth 100000 in
set_option maxHeartbeats 1600000 in
theorem getL_in(g B:Nat)(cmpv rv key:Value)(rs:List (Value×Value))(cf:Nat->Int)(k:Nat)(p:Value×Value)(w:World)(hg:Blk w g #[cmpv,rv] 163)(h:w.ownsRow B 165 2 rv rs.length (rowCs rs))(hl:rs.length<=1000000)
 (hf:∀ (tb i:Nat) (p:Value×Value),rs[i]? =some p->∀ W,Below w.heap.size w W->Blk W tb #[.pointer (some ⟨g,0,none⟩)] 69->Calls Tryz.prog 184 #[.agg #[p.1,p.2],key,.pointer (some ⟨tb,0,none⟩)] W fun e w'=>e=.returned (.int .i64 (cf i))∧Below W.heap.size W w')
 (hm:∀ a b,a<=b->b<rs.length->cf b<0->cf a<0) (hk:Fnd rs.length cf k) (hp:rs[k]? =some p) (h0:cf k=0):
 Calls Tryz.prog 128 #[.pointer (some ⟨g,0,none⟩),key] w fun e w'=>e=.returned (.tuple #[p.2,.bool true])∧Below w.heap.size w w':=by
 have hpl:=placeL_any g cmpv rv key rs cf w hg (CRow.of_owns h) hl hf hm;have hkl:=(List.getElem?_eq_some_iff.1 hp).1;have at1:=rowCs_at rs k 1 p hp (by decide);obtain⟨_,a,cap,rfl,hcap,hmx,hc⟩:=CRow.of_owns h;obtain⟨b,off,rfl,hcell⟩:=hc (by omega);have c1:=hcell _ _ at1;have HK:=Nm.hide hk;have H0:=Nm.hide (And.intro hkl h0);unfold maxLen at hmx;have n1:(0:Int)<=(k:Int):=by omega
 have n2:(k:Int)<(rs.length:Int):=by omega
 clear hf hm hk hp h0 h hcell hc at1;go_enter Tryz.func128,Tryz.ntmps128;go_wp2_with fail
 refine hpl.mono ?_;rintro e w1 ⟨k',hk',rfl,b1⟩;obtain rfl:=Fnd.unique HK.out hk';rw [decide_eq_true H0.out.1,decide_eq_true H0.out.2];have kg:=blk_below hg b1;have rg:=fun i=>blk_cell kg i
 have d1:w1.cell? ⟨b,off+k*2+1,none⟩=some p.2:=(b1.cell (World.block_lt_of_cell? w _ c1)).trans c1;have tt:(true&&true)=true:=rfl;clear hpl hk' c1 H0;go_wp2;go_ret2;exact⟨rfl,b1⟩
set_option maxRecDepth 100000 in
set_option maxHeartbeats 1600000 in
theorem getL_out(g B:Nat)(cmpv rv key:Value)(rs:List (Value×Value))(cf:Nat->Int)(k:Nat)(w:World)(hg:Blk w g #[cmpv,rv] 163)(h:w.ownsRow B 165 2 rv rs.length (rowCs rs))(hl:rs.length<=1000000)
 (hf:∀ (tb i:Nat) (p:Value×Value),rs[i]? =some p->∀ W,Below w.heap.size w W->Blk W tb #[.pointer (some ⟨g,0,none⟩)] 69->Calls Tryz.prog 184 #[.agg #[p.1,p.2],key,.pointer (some ⟨tb,0,none⟩)] W fun e w'=>e=.returned (.int .i64 (cf i))∧Below W.heap.size W w')
 (hm:∀ a b,a<=b->b<rs.length->cf b<0->cf a<0) (hk:Fnd rs.length cf k) (h0:¬(k<rs.length∧cf k=0)):
 Calls Tryz.prog 128 #[.pointer (some ⟨g,0,none⟩),key] w fun e w'=>e=.returned (.tuple #[.pointer none,.bool false])∧Below w.heap.size w w':=by
 have hpl:=placeL_any g cmpv rv key rs cf w hg (CRow.of_owns h) hl hf hm;have HK:=Nm.hide hk
 have H0:Hid ((decide (k<rs.length)&&decide (cf k=0))=false):=by
  show _=_
  rw [Bool.and_eq_false_iff]
  by_cases hx:k<rs.length
  ·exact .inr (decide_eq_false (fun h=>h0 ⟨hx,h⟩))
  ·exact .inl (decide_eq_false hx)
 clear hf hm hk h0 h;go_enter Tryz.func128,Tryz.ntmps128;go_wp2_with fail
 refine hpl.mono ?_;rintro e w1 ⟨k',hk',rfl,b1⟩;obtain rfl:=Fnd.unique HK.out hk';rw [H0.out];clear hpl hk' H0;go_wp2;go_ret2;exact⟨rfl,b1⟩
def metaB(t:Int):Bool:=t==0||t==41||(decide (249<=t)&&decide (t<=255))
set_option maxRecDepth 100000 in
set_option maxHeartbeats 400000 in
theorem isMeta_any(t:Int)(w:World):Calls Tryz.prog 127 #[.int .i64 t] w fun e w'=>e=.returned (.bool (metaB t))∧w'=w:=by
 by_cases h0:t=0
 ·subst h0;go_enter Tryz.func127,Tryz.ntmps127;go_wp2;go_ret;exact⟨rfl,rfl⟩
 ·have e0:(t==0)=false:=by rw [beq_eq_false_iff_ne];exact h0
  by_cases h1:t=41
  ·subst h1;go_enter Tryz.func127,Tryz.ntmps127;go_wp2;go_ret;exact⟨rfl,rfl⟩
  ·have e1:(t==41)=false:=by rw [beq_eq_false_iff_ne];exact h1
   by_cases h2:249<=t
   ·by_cases h3:t<=255
    ·have HM:Hid (metaB t=true):=by show _=_;simp [metaB,h2,h3]
     go_enter Tryz.func127,Tryz.ntmps127;go_wp2;go_ret;rw [HM.out];exact⟨rfl,rfl⟩
    ·have h3':255<t:=by omega
     have HM:Hid (metaB t=false):=by show _=_;simp [metaB,h0,h1];omega
     go_enter Tryz.func127,Tryz.ntmps127;go_wp2;go_ret;rw [HM.out];exact⟨rfl,rfl⟩
   ·have h2':t<249:=by omega
    have HM:Hid (metaB t=false):=by show _=_;simp [metaB,h0,h1];omega
    go_enter Tryz.func127,Tryz.ntmps127;go_wp2;go_ret;rw [HM.out];exact⟨rfl,rfl⟩
set_option maxRecDepth 100000 in
set_option maxHeartbeats 400000 in
theorem l05Meta_any(t:Int)(w:World):Calls Tryz.prog 58 #[.int .i64 t] w fun e w'=>e=.returned (.bool (metaB t))∧w'=w:=by
 by_cases h0:t=0
 ·subst h0;go_enter Tryz.func58,Tryz.ntmps58;go_wp2;go_ret;exact⟨rfl,rfl⟩
 ·have e0:(t==0)=false:=by rw [beq_eq_false_iff_ne];exact h0
  by_cases h1:t=41
  ·subst h1;go_enter Tryz.func58,Tryz.ntmps58;go_wp2;go_ret;exact⟨rfl,rfl⟩
  ·have e1:(t==41)=false:=by rw [beq_eq_false_iff_ne];exact h1
   by_cases h2:249<=t
   ·by_cases h3:t<=255
    ·have HM:Hid (metaB t=true):=by show _=_;simp [metaB,h2,h3]
     go_enter Tryz.func58,Tryz.ntmps58;go_wp2;go_ret;rw [HM.out];exact⟨rfl,rfl⟩
    ·have h3':255<t:=by omega
     have HM:Hid (metaB t=false):=by show _=_;simp [metaB,h0,h1];omega
     go_enter Tryz.func58,Tryz.ntmps58;go_wp2;go_ret;rw [HM.out];exact⟨rfl,rfl⟩
   ·have h2':t<249:=by omega
    have HM:Hid (metaB t=false):=by show _=_;simp [metaB,h0,h1];omega
    go_enter Tryz.func58,Tryz.ntmps58;go_wp2;go_ret;rw [HM.out];exact⟨rfl,rfl⟩
end Go.Proofs.YtaceiajcecaapaaGreat
namespace Go.Proofs.YtaceiajcecaapaaGreat
open Go.RowKit
set_option maxRecDepth 100000 in
set_option maxHeartbeats 800000 in
theorem specSameName_any(a b:ByteArray)(w:World)(ha:a.size<=maxLen)(hb:b.size<=maxLen):
 Calls Tryz.prog 60 #[.string a,.string b] w fun e w'=>e=.returned (.bool (sameS a b))∧Below w.heap.size w w':=by
 have hsa:=specFoldName_any a w ha;have hsb:=fun W=>specFoldName_any b W hb
 cases hqa:Nm.split a with
 |none=>
  have HA:=Nm.hide (same_left (b:=b) hqa);rw [Nm.foldS_none hqa] at hsa;have he:(ByteArray.empty).toList.isEmpty=true:=Nm.tl_empty rfl;clear hqa;go_enter Tryz.func60,Tryz.ntmps60;go_wp2_with fail
  refine hsa.mono ?_;rintro e w1 ⟨rfl,hbel⟩;go_wp2;go_ret;rw [HA.out]
  exact⟨rfl,hbel⟩
 |some xs=>
  rw [Nm.foldS_some hqa] at hsa;have he:=small_pos hqa
  cases hqb:Nm.split b with
  |none=>
   have HA:=Nm.hide (same_right (a:=a) hqb);rw [Nm.foldS_none hqb] at hsb
   have hne:((Nm.small a).toList==(ByteArray.empty).toList)=false:=by
    rw [beq_eq_false_iff_ne];intro e;rw [e] at he;rw [Nm.tl_empty rfl] at he;simp at he
   clear hqa hqb;generalize Nm.small a=x at*;go_enter Tryz.func60,Tryz.ntmps60;go_wp2_with fail
   refine hsa.mono ?_;rintro e w1 ⟨rfl,hbel⟩;go_wp2_with fail
   refine(hsb _).mono ?_;rintro e w2 ⟨rfl,hbel2⟩;go_wp2;go_ret;rw [HA.out]
   exact⟨rfl,Nm.below_two hbel hbel2⟩
  |some ys=>
   have HA:=Nm.hide (same_some hqa hqb);have HE:=Nm.hide (small_eq a b);rw [Nm.foldS_some hqb] at hsb;clear hqa hqb;generalize Nm.small a=x at*;generalize Nm.small b=y at*;go_enter Tryz.func60,Tryz.ntmps60;go_wp2_with fail
   refine hsa.mono ?_;rintro e w1 ⟨rfl,hbel⟩;go_wp2_with fail
   refine(hsb _).mono ?_;rintro e w2 ⟨rfl,hbel2⟩;go_wp2;go_ret;rw [HA.out,<- HE.out];exact⟨rfl,Nm.below_two hbel hbel2⟩
end Go.Proofs.YtaceiajcecaapaaGreat
namespace Go.Proofs.YtaceiajcecaapaaGreat
open Go.RowKit
set_option maxRecDepth 100000 in
set_option maxHeartbeats 800000 in
theorem specIsUnder_any(a b:ByteArray)(w:World)(ha:a.size<=maxLen)(hb:b.size<=maxLen):
 Calls Tryz.prog 57 #[.string a,.string b] w fun e w'=>e=.returned (.bool (isUnderS a b))∧Below w.heap.size w w':=by
 have hsa:=l01Split_any a w ha;have hsb:=fun W=>l01Split_any b W hb
 cases hqa:Nm.split a with
 |none=>
  have HA:=Nm.hide (isUnder_left (b:=b) hqa);rw [hqa] at hsa;clear hqa;go_enter Tryz.func57,Tryz.ntmps57;go_wp2_with fail
  refine hsa.mono ?_;rintro e w1 ⟨v,rfl,hown,hbel⟩;go_wp2_with fail
  refine(hsb _).mono ?_;rintro e w2 ⟨v2,rfl,hown2,hbel2⟩;go_wp2;go_ret;rw [HA.out]
  exact⟨rfl,Nm.below_two hbel hbel2⟩
 |some xs=>
  rw [hqa] at hsa
  cases hqb:Nm.split b with
  |none=>
   have HA:=Nm.hide (isUnder_right (a:=a) hqb);rw [hqb] at hsb;clear hqa hqb;go_enter Tryz.func57,Tryz.ntmps57;go_wp2_with fail
   refine hsa.mono ?_;rintro e w1 ⟨v,rfl,hown,hbel⟩;go_wp2_with fail
   refine(hsb _).mono ?_;rintro e w2 ⟨v2,rfl,hown2,hbel2⟩;go_wp2;go_ret;rw [HA.out]
   exact⟨rfl,Nm.below_two hbel hbel2⟩
  |some ys=>
   have HA:=Nm.hide (isUnder_some hqa hqb);have hund:=under_same hqa hqb;have hza:=Nm.split_size hqa;have hzb:=Nm.split_size hqb;have hla:=Nm.length_le_wsum xs;have hlb:=Nm.length_le_wsum ys;rw [hqb] at hsb;clear hqa hqb;go_enter Tryz.func57,Tryz.ntmps57;go_wp2_with fail
   refine hsa.mono ?_;rintro e w1 ⟨v,rfl,hown,hbel⟩;go_wp2_with fail
   refine(hsb _).mono ?_;rintro e w2 ⟨v2,rfl,hown2,hbel2⟩;have r1:=(Nm.SRow.of_owns hown).below hbel2;have r2:=Nm.SRow.of_owns hown2;simp only [Option.getD_some] at r1 r2;have hbw:=Nm.below_two hbel hbel2;obtain⟨a1,cap1,rfl,hcap1,hmx1,hnl1,hc1⟩:=r1;obtain⟨a2,cap2,rfl,hcap2,hmx2,hnl2,hc2⟩:=r2;have hrow:Nm.SRow w2 (.slice a1 xs.length cap1) xs:=⟨a1,cap1,rfl,hcap1,hmx1,hnl1,hc1⟩;clear hown hown2 hsa hsb hnl1 hnl2 hbel hbel2 hc1 hc2
   by_cases hl:xs.length<ys.length
   ·have HU:=Nm.hide (under_short hl);have hd:decide (xs.length<ys.length)=true:=by simpa using hl
    clear hrow;go_wp2;go_ret;rw [HA.out,HU.out];exact⟨rfl,hbw⟩
   ·have HU:=Nm.hide (hund (by omega))
    have hss:=fun W=>specSameName_any ⟨(Nm.joinL (xs.drop (xs.length-ys.length))).toArray⟩ b W (by
     show(Nm.joinL (xs.drop (xs.length-ys.length))).toArray.size<=maxLen
     rw [List.size_toArray,Nm.joinL_length];have:=Nm.wsum_drop_le xs (xs.length-ys.length);unfold maxLen
     omega) hb
    obtain⟨d,hd⟩:∃ d,d=xs.length-ys.length:=⟨_,rfl⟩;rw [<- hd] at HU hss;have hq:(xs.length:Int)-(ys.length:Int)=(d:Int):=by omega
    have hdl:d<=xs.length:=by omega
    have hyx:ys.length<=xs.length:=by omega
    have hwd:=Nm.wsum_drop_le xs d;have hjn:=fun V hr=>l01Join_any V (xs.drop d) w2 hr (by omega)
    have hd1:=fun e:cap1=d=>hrow.drop_all e
    have hd2:=hrow.drop (k:=d) hdl;have hdd:decide (xs.length<ys.length)=false:=by simp;omega
    generalize ByteArray.mk (Nm.joinL (xs.drop d)).toArray=J at*;clear hd hl hrow hund
    by_cases hck:cap1=d
    ·have Hc:=hjn _ (hd1 hck);clear hjn hd1 hd2;subst hck;rw [show xs.length-cap1=0 by omega] at Hc;go_wp2_with fail
     refine Hc.mono ?_;rintro e w3 ⟨rfl,hbel3⟩;go_wp2_with fail
     refine(hss _).mono ?_;rintro e w4 ⟨rfl,hbel4⟩;go_wp2;go_ret;rw [HA.out,<- HU.out];exact⟨rfl,Nm.below_two hbw (Nm.below_two hbel3 hbel4)⟩
    ·have Hc:=hjn _ hd2;clear hjn hd1 hd2;go_wp2_with fail
     refine Hc.mono ?_;rintro e w3 ⟨rfl,hbel3⟩;go_wp2_with fail
     refine(hss _).mono ?_;rintro e w4 ⟨rfl,hbel4⟩;go_wp2;go_ret;rw [HA.out,<- HU.out];exact⟨rfl,Nm.below_two hbw (Nm.below_two hbel3 hbel4)⟩
end Go.Proofs.YtaceiajcecaapaaGreat
