import Derived.Test.YtahpiciofdfipaaGreatJCmpM
import Derived.Test.YtahpiciofdfipaaGreatJUnderM
import Derived.Test.YtahpiciofdfipaaGreatJMath
import Derived.Test.YtahpiciofdfipaaGreatJNameOKs
import Derived.Deep.LoopGhost
import Derived.Test.YtahpiciofdfipaaGreatJData1
namespace Go.Proofs.YtahpiciofdfipaaGreat
open Go.RowKit
theorem code_zero{t:Int}{d:ByteArray}:cutCode t d=0↔ ∃ sp,cutS t d=some sp:=by
 by_cases h:t<0∨65535<t
 ·obtain⟨h1,h2⟩:=code_type (d:=d) h;rw [h1,h2];simp
 ·by_cases h1:65535<d.size
  ·obtain⟨h2,h3⟩:=code_long h h1;rw [h2,h3];simp
  ·cases hq:Dt.spans (Dt.implP t) 0 d with
   |none=>obtain⟨h2,h3⟩:=code_none h h1 hq;rw [h2,h3];simp
   |some sp=>obtain⟨h2,h3⟩:=code_some h h1 hq;rw [h2,h3];simp
theorem good_parts{t:Int}{d:ByteArray}(h:cutCode t d=0):∃ ps,Dt.parts (Dt.specP t) d=some ps∧cutS t d=some (Dt.spansOf (Dt.specP t) ps 0)∧d.size<=65535:=by
 obtain⟨sp,hsp⟩:=code_zero.1 h
 by_cases ht:t<0∨65535<t
 ·rw [(code_type (d:=d) ht).2] at hsp;cases hsp
 ·by_cases h1:65535<d.size
  ·rw [(code_long ht h1).2] at hsp;cases hsp
  ·have e:cutS t d=Dt.spans (Dt.implP t) 0 d:=by rw [cutS,if_neg ht,if_neg h1]
   rw [e,<- Dt.forms_agree,Dt.spans_of_parts] at hsp
   cases hq:Dt.parts (Dt.specP t) d with
   |none=>rw [hq] at hsp;simp at hsp
   |some ps=>
    refine⟨ps,rfl,?_,by omega⟩;rw [e,<- Dt.forms_agree,Dt.spans_of_parts,hq];rfl
theorem part_le:∀ (ps:List ByteArray) (x:ByteArray),x∈ps->x.size<=(Dt.catL ps).length:=by
 intro ps
 induction ps with
 |nil=>intro x h;simp at h
 |cons y ps ih=>
  intro x h;have e:(Dt.catL (y::ps)).length=y.size+(Dt.catL ps).length:=by simp [Dt.catL]
  rcases List.mem_cons.1 h with rfl|h
  ·omega
  ·have:=ih x h;omega
theorem isN_let(c:UInt8):(Dt.letP c).isN=decide (c.toNat=110):=by
 by_cases h:c=110
 ·subst h;rfl
 ·have h':c.toNat≠110:=fun e=>h (UInt8.toNat_inj.1 (by simpa using e))
  simp only [h',decide_false];unfold Dt.letP;rw [if_neg h]
  repeat' split
  all_goals rfl
theorem spans_few:∀ (fs:List Dt.Pc) (a:Nat) (d:ByteArray) (sp:List (Nat×Nat)),Dt.spans fs a d=some sp->sp.length<=fs.length:=by
 intro fs
 induction fs with
 |nil=>
  intro a d sp h;rw [Dt.spans] at h
  split at h
  ·simp at h;subst h;simp
  ·simp at h
 |cons p r ih=>
  intro a d sp h;rw [Dt.spans] at h
  cases hq:Dt.sz p d with
  |none=>rw [hq] at h;simp at h
  |some n=>
   rw [hq] at h
   cases hr:Dt.spans r (a+n) (d.extract n d.size) with
   |none=>simp [hr] at h
   |some l=>
    have:=ih _ _ _ hr;simp [hr] at h
    subst h;cases p.isN<;>simp<;>omega
theorem cut_few(t:Int)(d:ByteArray):((cutS t d).getD []).length<=5:=by
 cases h:cutS t d with
 |none=>simp
 |some sp=>
  rw [cutS] at h
  split at h
  ·cases h
  ·split at h
   ·cases h
   ·have h1:=spans_few _ _ _ _ h;have h2:=implP_len t
    simp;omega
end Go.Proofs.YtahpiciofdfipaaGreat
namespace Go.Proofs.YtahpiciofdfipaaGreat
open Go.RowKit
theorem span_cellsN{sp:List (Nat×Nat)}{k:Nat}{x:Nat×Nat}(h:sp[k]? =some x):(spanCells sp)[k*2]? =some (.int .i64 (x.1:Int))∧(spanCells sp)[k*2+1]? =some (.int .i64 (x.2:Int)):=by
 induction sp generalizing k with
 |nil=>simp at h
 |cons y sp ih=>
  cases k with
  |zero=>simp at h;subst h;simp [spanCells]
  |succ k=>
   simp at h;have:=ih h;have e:spanCells (y::sp)=[.int .i64 (y.1:Int),.int .i64 (y.2:Int)]++spanCells sp:=by simp [spanCells]
   rw [e,show(k+1)*2=k*2+2 by omega,show k*2+2+1=(k*2+1)+2 by omega];simpa using this
theorem spans_in:∀ (fs:List Dt.Pc) (a:Nat) (d:ByteArray) (sp:List (Nat×Nat)),Dt.spans fs a d=some sp->∀ s∈sp,a<=s.1∧s.1<=s.2∧s.2<=a+d.size:=by
 intro fs
 induction fs with
 |nil=>
  intro a d sp h;rw [Dt.spans] at h
  split at h
  ·simp at h;subst h;simp
  ·simp at h
 |cons p r ih=>
  intro a d sp h;rw [Dt.spans] at h
  cases hq:Dt.sz p d with
  |none=>rw [hq] at h;simp at h
  |some n=>
   have hn:=Dt.sz_le hq;rw [hq] at h
   cases hr:Dt.spans r (a+n) (d.extract n d.size) with
   |none=>simp [hr] at h
   |some l=>
    have hi:=ih _ _ _ hr;have hz:(d.extract n d.size).size=d.size-n:=by simp
    have hi2:∀ s∈l,a<=s.1∧s.1<=s.2∧s.2<=a+d.size:=by
     intro s hs;have:=hi s hs;omega
    simp [hr] at h
    subst h;cases p.isN
    ·simpa using hi2
    ·intro s hs;simp at hs
     rcases hs with rfl|hs
     ·simp;omega
     ·exact hi2 s hs
theorem low_in_len(a b:Nat)(l:List UInt8)(h:a<=b)(hb:b<=l.length):(Dt.lowIn (a,b) l).length=l.length:=by
 simp [Dt.lowIn,Nm.smallL];omega
theorem low_in_self(a:Nat)(l:List UInt8):Dt.lowIn (a,a) l=l:=by
 simp [Dt.lowIn,Nm.smallL]
theorem low_in_get(a i:Nat)(l:List UInt8)(h:a<=i)(hi:i<l.length):(Dt.lowIn (a,i) l)[i]? =l[i]? :=by
 have h1:(l.take a++Nm.smallL ((l.drop a).take (i-a))).length=i:=by simp [Nm.smallL];omega
 simp only [Dt.lowIn];rw [<- List.append_assoc,List.getElem?_append_right (by omega),h1,Nat.sub_self,List.getElem?_drop,Nat.add_zero]
theorem low_in_set(a i:Nat)(l:List UInt8)(c:UInt8)(h:a<=i)(hc:l[i]? =some c):(Dt.lowIn (a,i) l).set i (Nm.low c)=Dt.lowIn (a,i+1) l:=by
 obtain⟨hi,he⟩:=List.getElem?_eq_some_iff.1 hc;have h1:(l.take a++Nm.smallL ((l.drop a).take (i-a))).length=i:=by simp [Nm.smallL];omega
 have h2:(l.drop a).take (i+1-a)=(l.drop a).take (i-a)++[c]:=by
  rw [show i+1-a=(i-a)+1 by omega];apply Nm.take_step;rw [List.getElem?_drop,show a+(i-a)=i by omega];exact hc
 simp only [Dt.lowIn];rw [<- List.append_assoc,List.set_append_right _ _ (by omega),h1,Nat.sub_self,h2,List.drop_eq_getElem_cons hi,List.set_cons_zero];simp [Nm.smallL]
theorem low_all_len:∀ (sp:List (Nat×Nat)) (l:List UInt8),(∀ s∈sp,s.1<=s.2∧s.2<=l.length)->(Dt.lowAll sp l).length=l.length:=by
 intro sp
 induction sp with
 |nil=>intro l _;rfl
 |cons s sp ih=>
  intro l h;have h0:=h s (List.mem_cons_self);have e:=low_in_len s.1 s.2 l h0.1 h0.2
  show(Dt.lowAll sp (Dt.lowIn s l)).length=l.length
  rw [ih,e];intro s' hs';rw [e];exact h s' (List.mem_cons_of_mem _ hs')
theorem low_all_step{sp:List (Nat×Nat)}{k:Nat}{s:Nat×Nat}(h:sp[k]? =some s)(l:List UInt8):Dt.lowAll (sp.take (k+1)) l=Dt.lowIn s (Dt.lowAll (sp.take k) l):=by
 rw [Nm.take_step h,Dt.lowAll,List.foldl_append];rfl
theorem new_bytes2(s:ByteArray)(w:World):∃ cap W,s.size<=cap∧(s.size<=maxLen->cap<=maxLen)∧
 (convert 9 22 (.string s)).run Tryz.prog w=.ok (.slice (some ⟨w.heap.size,0,none⟩) s.size cap) W∧BRow W w.heap.size s.data.toList∧Below w.heap.size w W∧w.heap.size<W.heap.size:=by
 obtain⟨cap,W,h1,h2,h3,h4,h5⟩:=new_bytes s w;refine⟨cap,W,h1,h2,h3,h4,h5,?_⟩;have hr:=run_bytes_of_string w 9 22 5 s Tryz.underlying9 Tryz.underlying22 Tryz.underlying5;rw [h3] at hr;cases hr
 simp
theorem BRow.alloc{w:World}{g:Nat}{l:List UInt8}(h:BRow w g l)(hg:g<w.heap.size)(o:Obj):BRow (w.alloc o) g l:=by
 intro j c hj;obtain⟨h1,h2⟩:=h j c hj;have hb:Below w.heap.size w (w.alloc o):=(Below.refl _ _).alloc (Nat.le_refl _) _;refine⟨(hb.cell hg).trans h1,?_⟩;have e:=hb.block g hg;simp only [World.frozen?,e];exact h2
theorem BRow.str{w:World}{g n cap:Nat}{l:List UInt8}(h:BRow w g l)(hl:l.length=n):(convert 22 9 (.slice (some ⟨g,0,none⟩) n cap)).run Tryz.prog w=.ok (.string ⟨l.toArray⟩) w:=by
 subst hl;refine run_convert_bytes_back w 22 9 5 ⟨g,0,none⟩ cap l Tryz.underlying22 Tryz.underlying5 Tryz.underlying9 ?_;intro j hj;rw [Nm.addr_add,Nat.zero_add];exact(h j _ (List.getElem?_eq_getElem hj)).1
set_option maxRecDepth 100000 in
set_option maxHeartbeats 1600000 in
theorem foldNames_any(d:ByteArray)(v:Value)(sp:List (Nat×Nat))(w:World)(hrow:CRow w v sp.length 2 (spanCells sp))(hsp:∀ s∈sp,s.1<=s.2∧s.2<=d.size)(hd:d.size<=1000000000)(hl:sp.length<=1000000):
 Calls Tryz.prog 158 #[.string d,v] w fun e w'=>e=.returned (.string ⟨(Dt.lowAll sp d.data.toList).toArray⟩)∧Below w.heap.size w w':=by
 obtain⟨cap,W,hcap,hmx,hrun,hbr,hbel,hgW⟩:=new_bytes2 d w;obtain⟨_,a,capv,rfl,hcapv,hmxv,hc⟩:=hrow;have hmx':=hmx (by unfold maxLen;omega);unfold maxLen at hmx';have hdl:d.data.toList.length=d.size:=by simp
 have hll:∀ k,(Dt.lowAll (sp.take k) d.data.toList).length=d.size:=by
  intro k;rw [low_all_len,hdl];intro s hs;rw [hdl];exact hsp s (List.mem_of_mem_take hs)
 clear hmx;go_enter Tryz.func158,Tryz.ntmps158;go_wp2
 go_loopw [13] (fun i wr=>∃ k:Nat,k<=sp.length∧i=.int .i64 k∧BRow wr w.heap.size (Dt.lowAll (sp.take k) d.data.toList)∧w.heap.size<wr.heap.size∧Below w.heap.size w wr)
  (fun i _=>sp.length-(intOf i).toNat)
 case atStart=>
  exact⟨0,Nat.zero_le _,rfl,by simpa [Dt.lowAll] using hbr,hgW,hbel⟩
 case round=>
  obtain⟨k,hk,rfl,hbk,hgz,hbelk⟩:=hrel;clear hrun hbr hbel
  by_cases hlt:k<sp.length
  ·obtain⟨x,hx⟩:∃ x,sp[k]? =some x:=⟨_,List.getElem?_eq_getElem hlt⟩;obtain⟨s1,s2⟩:=span_cellsN hx;obtain⟨hx1,hx2⟩:=hsp x (List.mem_of_getElem? hx);have HST:=Nm.hide (low_all_step hx d.data.toList);have hlk:=hll k;generalize Dt.lowAll (sp.take k) d.data.toList=l at*;obtain⟨b,off,rfl,hcell⟩:=hc (by omega);have put:∀ {B O:Nat} {z:Value},w.cell? ⟨B,O,none⟩=some z->wr.cell? ⟨B,O,none⟩=some z:=fun h=>(hbelk.cell (World.block_lt_of_cell? w _ h)).trans h
   have c1:=put (hcell _ _ s1);have c2:=put (hcell _ _ s2);rw [<- Nat.add_assoc] at c2;clear hc hcell s1 s2 put hx;obtain⟨wo,hwo⟩:∃ wo,wo=wr:=⟨wr,rfl⟩;subst hwo;have hB0:=hbk.alloc hgz (.cells #[.int .i64 (x.1:Int),.int .i64 (x.2:Int)] 225);have hW0:Below w.heap.size w (wo.alloc (.cells #[.int .i64 (x.1:Int),.int .i64 (x.2:Int)] 225)):=hbelk.alloc (by omega) _;have hC0:(wo.alloc (.cells #[.int .i64 (x.1:Int),.int .i64 (x.2:Int)] 225)).cell? ⟨wo.heap.size,1,none⟩=some (.int .i64 (x.2:Int)):=by rw [World.cell?_alloc_new];rfl
   have hz0:wo.heap.size<(wo.alloc (.cells #[.int .i64 (x.1:Int),.int .i64 (x.2:Int)] 225)).heap.size:=by simp
   go_wp2
   go_loopw [8] (fun v wq=>∃ i:Nat,x.1<=i∧i<=x.2∧v=.int .i64 i∧BRow wq w.heap.size (Dt.lowIn (x.1,i) l)∧wq.cell? ⟨wo.heap.size,1,none⟩=some (.int .i64 (x.2:Int))∧wo.heap.size<wq.heap.size∧Below w.heap.size w wq)
    (fun v _=>x.2-(intOf v).toNat)
   case atStart=>exact⟨x.1,Nat.le_refl _,hx1,rfl,by rw [low_in_self];exact hB0,hC0,hz0,hW0⟩
   case round=>
    obtain⟨i,hi1,hi2,rfl,hbq,hcq,hzq,hbelq⟩:=hrel;clear hB0 hW0 hC0 hz0 c1 c2 hbk
    by_cases hil:i<x.2
    ·have hil':(i:Int)<(x.2:Int):=by omega
     have hid:i<d.size:=by omega
     have hid':(i:Int)<(d.size:Int):=by omega
     obtain⟨c,hlc⟩:∃ c,l[i]? =some c:=⟨_,List.getElem?_eq_getElem (by omega)⟩;have hgi:(Dt.lowIn (x.1,i) l)[i]? =some c:=(low_in_get x.1 i l hi1 (by omega)).trans hlc;obtain⟨hc1,hc2⟩:=hbq i c hgi;have hbs:=hbq.set (k:=i) (d:=Nm.low c) (by rw [low_in_len _ _ _ hi1 (by omega)];omega);rw [low_in_set _ _ _ _ hi1 hlc] at hbs;have HBS:=Nm.hide hbs
     have HC:Hid ((wr.setCell ⟨w.heap.size,i,none⟩ (.int .u8 (Nm.low c).toNat)).cell? ⟨wo.heap.size,1,none⟩=some (.int .i64 (x.2:Int))):=by
      show _=_
      rw [World.cell?_setCell_other wr ⟨w.heap.size,i,none⟩ ⟨wo.heap.size,1,none⟩ _ (by intro h;have:=congrArg Addr.block h;simp at this;omega)];exact hcq
     have HW:Hid (Below w.heap.size w (wr.setCell ⟨w.heap.size,i,none⟩ (.int .u8 (Nm.low c).toNat))):=hbelq.setCell (Nat.le_refl _) _;have HZ:Hid (wo.heap.size<(wr.setCell ⟨w.heap.size,i,none⟩ (.int .u8 (Nm.low c).toNat)).heap.size):=by show _<_;simpa using hzq
     clear hbs hgi hbq hlc;go_wp2_with (go_at_call 147;refine(foldByte_any _ _).mono ?_;rintro e w3 ⟨rfl,hw⟩;obtain rfl:wr=w3:=hw.symm;clear hw)
     go_roundw
     case rel=>exact⟨i+1,by omega,by omega,by go_num,HBS.out,HC.out,HZ.out,HW.out⟩
     case measure=>simp [intOf];omega
    ·have hil':(x.2:Int)<=(i:Int):=by omega
     obtain rfl:i=x.2:=by omega
     rw [show((x.1,x.2):Nat×Nat)=x from rfl,<- HST.out] at hbq;have HBQ:=Nm.hide hbq;have hgq:w.heap.size<wr.heap.size:=by omega
     clear hbq hil;go_wp2;go_roundw
     case rel=>exact⟨k+1,by omega,by go_num,HBQ.out,hgq,hbelq⟩
     case measure=>simp [intOf];omega
  ·have hlt':(sp.length:Int)<=(k:Int):=by omega
   rw [List.take_of_length_le (by omega)] at hbk;have hl0:=hll sp.length;rw [List.take_of_length_le (by omega)] at hl0;obtain⟨R,HR,hstr⟩:∃ R,Hid (R=(⟨(Dt.lowAll sp d.data.toList).toArray⟩:ByteArray))∧(convert 22 9 (.slice (some ⟨w.heap.size,0,none⟩) d.size cap)).run Tryz.prog wr=.ok (.string R) wr:=⟨_,rfl,hbk.str (cap:=cap) hl0⟩;clear hbk hc hl0;go_wp2;go_ret;rw [<- HR.out];exact⟨rfl,hbelk⟩
end Go.Proofs.YtahpiciofdfipaaGreat
namespace Go.Proofs.YtahpiciofdfipaaGreat
open Go.RowKit
theorem under_short{xs ys:List ByteArray}(h:xs.length<ys.length):underB xs ys=false:=by
 rw [underB,decide_eq_false (by omega)];rfl
theorem under_long{xs ys:List ByteArray}(h:ys.length<=xs.length):underB xs ys=decide (Nm.cmpLs (xs.drop (xs.length-ys.length)) ys=0):=by
 rw [underB,decide_eq_true h];rfl
set_option maxRecDepth 100000 in
set_option maxHeartbeats 800000 in
theorem under_any(v u:Value)(xs ys:List ByteArray)(w:World)(h:Nm.SRow w v xs)(h':Nm.SRow w u ys)(hxs:∀ x∈xs,x.size<=1000000000)(hlx:xs.length<=1000000000)(hly:ys.length<=1000000000):
 Calls Tryz.prog 51 #[v,u] w fun e w'=>e=.returned (.bool (underB xs ys))∧∃ m,w'=w.drewN m:=by
 have hrow:=h;obtain⟨a,cap,rfl,hcap,hmx,hnl,hc⟩:=h;have hu:=h';obtain⟨a',cap',rfl,hcap',hmx',hnl',hc'⟩:=h';clear hc hc' hnl hnl'
 by_cases hl:xs.length<ys.length
 ·have HA:=Nm.hide (under_short hl);have hd:decide ((0:Int)<=(xs.length:Int)-(ys.length:Int))=false:=by simp;omega
  have hd':(xs.length:Int)-(ys.length:Int)<0:=by omega
  clear hrow hu;go_enter Tryz.func51,Tryz.ntmps51;go_wp2;go_ret;rw [HA.out];exact⟨rfl,0,rfl⟩
 ·have HA:=Nm.hide (under_long (xs:=xs) (ys:=ys) (by omega));obtain⟨d,hd⟩:∃ d,d=xs.length-ys.length:=⟨_,rfl⟩;rw [<- hd] at HA;have hq:(xs.length:Int)-(ys.length:Int)=(d:Int):=by omega
  have hdl:d<=xs.length:=by omega
  have hg:decide ((0:Int)<=(d:Int))=true:=by simp
  have hcmp:=fun V hr=>compare_any V (.slice a' ys.length cap') (xs.drop d) ys w hr hu (fun x hx=>hxs x (List.mem_of_mem_drop hx)) (by rw [List.length_drop];omega) hly
  have hd1:=fun e:cap=d=>hrow.drop_all e
  have hd2:=hrow.drop (k:=d) hdl;generalize Nm.cmpLs (xs.drop d) ys=o at*;have HD:Hid ((o==0)=decide (o=0)):=by show _=_;rw [Bool.eq_iff_iff];simp
  clear hd hl hxs hrow hu
  by_cases hck:cap=d
  ·have Hc:=hcmp _ (hd1 hck);clear hcmp hd1 hd2;subst hck;rw [show xs.length-cap=0 by omega] at Hc;go_enter Tryz.func51,Tryz.ntmps51;go_wp2_with fail
   refine Hc.mono ?_;rintro e w1 ⟨rfl,m,rfl⟩;go_wp2;go_ret;rw [HA.out,<- HD.out];exact⟨rfl,_,rfl⟩
  ·have Hc:=hcmp _ hd2;clear hcmp hd1 hd2;go_enter Tryz.func51,Tryz.ntmps51;go_wp2_with fail
   refine Hc.mono ?_;rintro e w1 ⟨rfl,m,rfl⟩;go_wp2;go_ret;rw [HA.out,<- HD.out];exact⟨rfl,_,rfl⟩
end Go.Proofs.YtahpiciofdfipaaGreat
namespace Go.Proofs.YtahpiciofdfipaaGreat
open Go.RowKit
theorem owns_bel{w w':World}{B e n:Nat}{v:Value}{xs:List Value}(h:w.ownsRow B e 1 v n xs)(hb:Below w.heap.size w w'):w'.ownsRow B e 1 v n xs:=by
 refine⟨h.1,?_⟩
 rcases h.2 with h0|⟨g,cap,cur,h1,h2,h3,h4⟩
 ·exact .inl h0
 ·exact .inr ⟨g,cap,cur,h1,h2,by rw [hb.block g (Array.getElem?_eq_some_iff.1 h3).1];exact h3,h4⟩
end Go.Proofs.YtahpiciofdfipaaGreat
namespace Go.Proofs.YtahpiciofdfipaaGreat
open Go.RowKit
set_option maxRecDepth 100000 in
set_option maxHeartbeats 1600000 in
theorem l01Name_any(g:Nat)(a:Option Addr)(n cap:Nat)(w:World)(h:Src w g a n cap):
 Calls Tryz.prog 59 #[.pointer (some ⟨g,0,none⟩)] w fun e w'=>∃ s:ByteArray,e=.returned (.string s)∧1<=s.size∧s.size<=1000∧Src w' g a n cap∧w.grownBy w' (some g):=by
 obtain⟨i0,hi,hz0,hz1,hz2⟩:=info_parts Tryz.infoStr;obtain⟨hcode,hglt⟩:=src_code h;go_enter Tryz.func59,Tryz.ntmps59;go_wp2_with fail
 refine(l01Next_any g a n cap 5 _ (src_below h ((Below.refl _ _).alloc (Nat.le_refl _) _)) (by decide)).mono ?_;rintro e w1 ⟨m,rfl,hm0,hm1,hsrc1,hgr1⟩;have hm2:=hm1 (by decide);obtain⟨m,rfl⟩:=Int.eq_ofNat_of_zero_le hm0
 have hrow1:w1.ownsRow w.heap.size 9 1 (.slice (some ⟨w.heap.size,0,none⟩) 0 0) 0 []:=
  (World.ownsRow_made w #[] 0 (Nat.le_refl _) (by decide) rfl).kept hgr1 (.inr (by simp only [Value.ownBlock,ne_eq,Option.some.injEq];omega))
 have hg1:w.grownBy w1 (some g):=grown_step (grown_alloc (World.grownBy.refl _ _) _) hgr1;clear hm1 hgr1 h;go_wp2_with fail
 go_loopw [3,5] (fun v i wr=>∃ (k:Nat) (ls:List ByteArray),k<=m∧i=.int .i64 k∧wr.ownsRow w.heap.size 9 1 v ls.length (ls.map Value.string)∧Nm.wsum ls<=64*k∧ls.length=k∧Src wr g a n cap∧w.grownBy wr (some g))
  (fun _ i _=>m-(intOf i).toNat)
 case atStart=>exact⟨0,[],Nat.zero_le _,rfl,hrow1,by simp [Nm.wsum],rfl,hsrc1,hg1⟩
 case round=>
  obtain⟨k,ls,hk,rfl,hown,hws,hlk,hsrc,hgr⟩:=hrel;have hsz:=hgr.size;clear hrow1 hsrc1 hg1;have HLK:=Nm.hide hlk;clear hlk
  by_cases hlt:k<m
  ·go_wp2_with (first|(go_at_call 99;refine(l01Label_any g a n cap _ hsrc).mono ?_;rintro e w3 ⟨x,rfl,hx,hsrc3,hgr3⟩;have hown3:=hown.kept hgr3 (row_src hown hsrc (by decide));have hg3:=grown_step hgr hgr3;have hsz3:=hg3.size)|(at_builtin;refine wpList_append_own _ rfl (.tmp 15) (.tmp 18) 35 rfl w.heap.size 9 i0 (.string ByteArray.empty) 1 16 Tryz.underlying35 hi hz0 hz1 hz2 rfl (by decide) _ _ _ rfl (hown3.alloc _) ⟨w3.heap.size,0,none⟩ 1 1 [.string x] rfl rfl (cell_one_new _ _ _) (Nm.one_cell _ rfl) (by have:=HLK.out;unfold maxLen;omega) (by have:=HLK.out;omega) (by simp;omega) ?_;intro vb wb hown4 hgrow4 hnl4;clear hnl4;have R:=str_step hown3 hsrc3 hg3 hglt hcode hown4 hgrow4;clear hown4 hgrow4))
   go_roundw
   case rel=>exact⟨k+1,_,by omega,by go_num,R.1,by rw [wsum_snoc];omega,by have:=HLK.out;simp;omega,R.2.1,R.2.2⟩
   case measure=>simp [intOf];omega
  ·have hke:k=m:=by omega
   subst hke;go_wp2_with fail
   refine(l01Next_any g a n cap 3 _ hsrc (by decide)).mono ?_;rintro e w2 ⟨q,rfl,hq0,hq1,hsrc2,hgr2⟩;have hown2:=hown.kept hgr2 (row_src hown hsrc (by decide));have hg2:=grown_step hgr hgr2;have hsz2:=hg2.size;have hbl:Nm.wsum ls<=300:=by omega
   clear hq1 hown hsrc hgr hgr2 hlt
   by_cases hq:0<q
   ·go_wp2_with (at_builtin;refine wpList_append_own _ rfl (.tmp 23) (.tmp 24) 35 rfl w.heap.size 9 i0 (.string ByteArray.empty) 1 16 Tryz.underlying35 hi hz0 hz1 hz2 rfl (by decide) _ _ _ rfl (hown2.alloc _) ⟨w2.heap.size,0,none⟩ 1 1 [.string ⟨#[101,120,97,109,112,108,101]⟩] rfl rfl (cell_one_new _ _ _) (Nm.one_cell _ rfl) (by have:=HLK.out;unfold maxLen;omega) (by have:=HLK.out;omega) (by simp;omega) ?_;intro vb wb hown4 hgrow4 hnl4;clear hnl4;have R:=str_step hown2 hsrc2 hg2 hglt hcode hown4 hgrow4;clear hown4 hgrow4)
    have hw9:Nm.wsum (ls++[⟨#[101,120,97,109,112,108,101]⟩])<=400:=by
     rw [wsum_snoc];have:(ByteArray.mk #[101,120,97,109,112,108,101]).size=7:=rfl;omega
    obtain⟨hownC,hsC,hgC⟩:=R;generalize ls++[⟨#[101,120,97,109,112,108,101]⟩]=ls2 at hownC hw9;clear hown2 hsrc2 hg2;refine(l01Next_any g a n cap 20 _ hsC (by decide)).mono ?_;rintro e wn ⟨p,rfl,hp0,hp1,hsN,hgN⟩;have hownN:=hownC.kept hgN (row_src hownC hsC (by decide));have hgNN:=grown_step hgC hgN;have hszN:=hgNN.size;clear hp1 hownC hsC hgC hgN
    by_cases hp:p=0
    ·subst hp;clear hownN;go_wp2_with fail
     go_loopg [3] 300 (fun gh v wr=>∃ ls3:List ByteArray,wr.ownsRow w.heap.size 9 1 v ls3.length (ls3.map Value.string)∧Nm.wsum ls3+gh=300∧Nm.wsum ls3<=252∧Src wr g a n cap∧w.grownBy wr (some g))
     case atStart=>exact⟨[],World.ownsRow_made wn #[] 0 hszN (by decide) rfl,by simp [Nm.wsum],by simp [Nm.wsum],src_below hsN ((Below.refl _ _).alloc (Nat.le_refl _) _),grown_alloc hgNN _⟩
     case round=>
      obtain⟨ls3,hown3,hgh,hw3,hs3,hg3⟩:=hrel;have hl3:=Nm.length_le_wsum ls3;clear hsN hgNN hszN;go_wp2_with fail
      refine(l01Join_any _ ls3 _ (Nm.SRow.of_owns hown3) (by omega)).mono ?_;rintro e wj ⟨rfl,hbj⟩;have hownj:=owns_bel hown3 hbj;have hsj:=src_below hs3 hbj;have hgj:=grown_below hg3 hbj;have hszj:=hgj.size;have hjs:=mkj_size ls3;have hjn:=fun W hq=>l01Join_any u3 ls3 W hq (by omega)
      generalize ByteArray.mk (Nm.joinL ls3).toArray=J at*;clear hown3 hs3 hg3 hbj
      by_cases hlt:Nm.wsum ls3+1<190
      ·have hJ:(J.size:Int)<190:=by omega
       clear hjs hjn;go_wp2_with (first|(go_at_call 30;refine(l01Next_any g a n cap 63 _ hsj (by decide)).mono ?_;rintro e w5 ⟨r,rfl,hr0,hr1,hs5,hg5⟩;have hr2:=hr1 (by decide);have hown5:=hownj.kept hg5 (row_src hownj hsj (by decide));have hgg5:=grown_step hgj hg5;clear hr1)|(go_at_call 97;refine(l01Bytes_any g a n cap _ _ hs5 (by omega) (by omega)).mono ?_;rintro e w6 ⟨x,rfl,hx,hs6,hg6⟩;have hown6:=hown5.kept hg6 (row_src hown5 hs5 (by decide));have hgg6:=grown_step hgg5 hg6;have hsz6:=hgg6.size)|(at_builtin;refine wpList_append_own _ rfl (.tmp 34) (.tmp 40) 35 rfl w.heap.size 9 i0 (.string ByteArray.empty) 1 16 Tryz.underlying35 hi hz0 hz1 hz2 rfl (by decide) _ _ _ rfl (hown6.alloc _) ⟨w6.heap.size,0,none⟩ 1 1 [.string x] rfl rfl (cell_one_new _ _ _) (Nm.one_cell _ rfl) (by unfold maxLen;omega) (by omega) (by simp;omega) ?_;intro vb wb hown7 hgrow7 hnl7;clear hnl7;have R7:=str_step hown6 hs6 hgg6 hglt hcode hown7 hgrow7;clear hown7 hgrow7))
       have hsn:=wsum_snoc ls3 x
       go_roundg (300-Nm.wsum (ls3++[x]))
       case measure=>omega
       case rel=>exact⟨_,R7.1,by omega,by omega,R7.2.1,R7.2.2⟩
      ·have hJ:(190:Int)<=(J.size:Int):=by omega
       have hJ2:(J.size:Int)<=253:=by omega
       go_wp2_with fail
       refine(hjn _ (Nm.SRow.of_owns hownj)).mono ?_;rintro e wk ⟨rfl,hbk⟩;have hownk:=owns_bel hownj hbk;have hsk:=src_below hsj hbk;have hgk:=grown_below hgj hbk;have hszk:=hgk.size;clear hownj hsj hgj hbk
       by_cases hroom:J.size<=253∧191<=J.size
       ·have r1:(0:Int)<254-(J.size:Int):=by omega
        have r2:254-(J.size:Int)<=63:=by omega
        have r1':(0:Int)<255-(J.size:Int)-1:=by omega
        have r2':255-(J.size:Int)-1<=63:=by omega
        go_wp2_with (first|(go_at_call 97;refine(l01Bytes_any g a n cap _ _ hsk (by omega) (by omega)).mono ?_;rintro e w6 ⟨x,rfl,hx,hs6,hg6⟩;have hown6:=hownk.kept hg6 (row_src hownk hsk (by decide));have hgg6:=grown_step hgk hg6;have hsz6:=hgg6.size)|(at_builtin;refine wpList_append_own _ rfl (.tmp 53) (.tmp 57) 35 rfl w.heap.size 9 i0 (.string ByteArray.empty) 1 16 Tryz.underlying35 hi hz0 hz1 hz2 rfl (by decide) _ _ _ rfl (hown6.alloc _) ⟨w6.heap.size,0,none⟩ 1 1 [.string x] rfl rfl (cell_one_new _ _ _) (Nm.one_cell _ rfl) (by unfold maxLen;omega) (by omega) (by simp;omega) ?_;intro vb wb hown7 hgrow7 hnl7;clear hnl7;have R7:=str_step hown6 hs6 hgg6 hglt hcode hown7 hgrow7;clear hown7 hgrow7))
        obtain⟨hown8,hs8,hg8⟩:=R7;have hsn:=wsum_snoc ls3 x;have hj8:=mkj_size (ls3++[x]);refine(l01Join_any _ (ls3++[x]) _ (Nm.SRow.of_owns hown8) (by omega)).mono ?_;rintro e w9 ⟨rfl,hb9⟩;have hown9:=owns_bel hown8 hb9;have hs9:=src_below hs8 hb9;have hg9:=grown_below hg8 hb9;have hjn9:=fun V W hq=>l01Join_any V (ls3++[x]) W hq (by omega)
        generalize ByteArray.mk (Nm.joinL (ls3++[x])).toArray=J8 at*;have hJ8:(J8.size:Int)<=255:=by omega
        have HJ8:Hid (1<=J8.size∧J8.size<=1000):=by show _∧_;omega
        clear hj8 hjs;go_wp2_with fail
        refine(hjn9 _ _ (Nm.SRow.of_owns hown9)).mono ?_;rintro e w10 ⟨rfl,hb10⟩;go_wp2;go_ret;exact⟨_,rfl,HJ8.out.1,HJ8.out.2,src_below hs9 hb10,grown_below hg9 hb10⟩
       ·have r1:(63:Int)<255-(J.size:Int)-1:=by omega
        have r0:(0:Int)<255-(J.size:Int)-1:=by omega
        have r2:decide (255-(J.size:Int)-1<=63)=false:=by simp;omega
        go_wp2_with fail
        refine(hjn _ (Nm.SRow.of_owns hownk)).mono ?_;rintro e w9 ⟨rfl,hb9⟩;have hown9:=owns_bel hownk hb9;have hs9:=src_below hsk hb9;have hg9:=grown_below hgk hb9;have hJ8:(J.size:Int)<=255:=by omega
        have HJ8:Hid (1<=J.size∧J.size<=1000):=by show _∧_;omega
        clear hjs;go_wp2_with fail
        refine(hjn _ (Nm.SRow.of_owns hown9)).mono ?_;rintro e w10 ⟨rfl,hb10⟩;go_wp2;go_ret;exact⟨_,rfl,HJ8.out.1,HJ8.out.2,src_below hs9 hb10,grown_below hg9 hb10⟩
    ·have hp':(p==0)=false:=by rw [beq_eq_false_iff_ne];exact hp
     go_wp2_with fail
     refine(l01Join_any _ ls2 _ (Nm.SRow.of_owns hownN) (by omega)).mono ?_;rintro e wz ⟨rfl,hbz⟩;have hjz:=mkj_size ls2;generalize ByteArray.mk (Nm.joinL ls2).toArray=J at*;have HJ8:Hid (1<=J.size∧J.size<=1000):=by show _∧_;omega
     clear hjz;go_wp2;go_ret;exact⟨_,rfl,HJ8.out.1,HJ8.out.2,src_below hsN hbz,grown_below hgNN hbz⟩
   ·have hq':q<=0:=by omega
    have hw9:Nm.wsum ls<=400:=by omega
    have hownC:=hown2;have hsC:=hsrc2;have hgC:=hg2;clear hown2 hsrc2 hg2;go_wp2_with fail
    refine(l01Next_any g a n cap 20 _ hsC (by decide)).mono ?_;rintro e wn ⟨p,rfl,hp0,hp1,hsN,hgN⟩;have hownN:=hownC.kept hgN (row_src hownC hsC (by decide));have hgNN:=grown_step hgC hgN;have hszN:=hgNN.size;clear hp1 hownC hsC hgC hgN
    by_cases hp:p=0
    ·subst hp;clear hownN;go_wp2_with fail
     go_loopg [3] 300 (fun gh v wr=>∃ ls3:List ByteArray,wr.ownsRow w.heap.size 9 1 v ls3.length (ls3.map Value.string)∧Nm.wsum ls3+gh=300∧Nm.wsum ls3<=252∧Src wr g a n cap∧w.grownBy wr (some g))
     case atStart=>exact⟨[],World.ownsRow_made wn #[] 0 hszN (by decide) rfl,by simp [Nm.wsum],by simp [Nm.wsum],src_below hsN ((Below.refl _ _).alloc (Nat.le_refl _) _),grown_alloc hgNN _⟩
     case round=>
      obtain⟨ls3,hown3,hgh,hw3,hs3,hg3⟩:=hrel;have hl3:=Nm.length_le_wsum ls3;clear hsN hgNN hszN;go_wp2_with fail
      refine(l01Join_any _ ls3 _ (Nm.SRow.of_owns hown3) (by omega)).mono ?_;rintro e wj ⟨rfl,hbj⟩;have hownj:=owns_bel hown3 hbj;have hsj:=src_below hs3 hbj;have hgj:=grown_below hg3 hbj;have hszj:=hgj.size;have hjs:=mkj_size ls3;have hjn:=fun W hq=>l01Join_any u3 ls3 W hq (by omega)
      generalize ByteArray.mk (Nm.joinL ls3).toArray=J at*;clear hown3 hs3 hg3 hbj
      by_cases hlt:Nm.wsum ls3+1<190
      ·have hJ:(J.size:Int)<190:=by omega
       clear hjs hjn;go_wp2_with (first|(go_at_call 30;refine(l01Next_any g a n cap 63 _ hsj (by decide)).mono ?_;rintro e w5 ⟨r,rfl,hr0,hr1,hs5,hg5⟩;have hr2:=hr1 (by decide);have hown5:=hownj.kept hg5 (row_src hownj hsj (by decide));have hgg5:=grown_step hgj hg5;clear hr1)|(go_at_call 97;refine(l01Bytes_any g a n cap _ _ hs5 (by omega) (by omega)).mono ?_;rintro e w6 ⟨x,rfl,hx,hs6,hg6⟩;have hown6:=hown5.kept hg6 (row_src hown5 hs5 (by decide));have hgg6:=grown_step hgg5 hg6;have hsz6:=hgg6.size)|(at_builtin;refine wpList_append_own _ rfl (.tmp 34) (.tmp 40) 35 rfl w.heap.size 9 i0 (.string ByteArray.empty) 1 16 Tryz.underlying35 hi hz0 hz1 hz2 rfl (by decide) _ _ _ rfl (hown6.alloc _) ⟨w6.heap.size,0,none⟩ 1 1 [.string x] rfl rfl (cell_one_new _ _ _) (Nm.one_cell _ rfl) (by unfold maxLen;omega) (by omega) (by simp;omega) ?_;intro vb wb hown7 hgrow7 hnl7;clear hnl7;have R7:=str_step hown6 hs6 hgg6 hglt hcode hown7 hgrow7;clear hown7 hgrow7))
       have hsn:=wsum_snoc ls3 x
       go_roundg (300-Nm.wsum (ls3++[x]))
       case measure=>omega
       case rel=>exact⟨_,R7.1,by omega,by omega,R7.2.1,R7.2.2⟩
      ·have hJ:(190:Int)<=(J.size:Int):=by omega
       have hJ2:(J.size:Int)<=253:=by omega
       go_wp2_with fail
       refine(hjn _ (Nm.SRow.of_owns hownj)).mono ?_;rintro e wk ⟨rfl,hbk⟩;have hownk:=owns_bel hownj hbk;have hsk:=src_below hsj hbk;have hgk:=grown_below hgj hbk;have hszk:=hgk.size;clear hownj hsj hgj hbk
       by_cases hroom:J.size<=253∧191<=J.size
       ·have r1:(0:Int)<254-(J.size:Int):=by omega
        have r2:254-(J.size:Int)<=63:=by omega
        have r1':(0:Int)<255-(J.size:Int)-1:=by omega
        have r2':255-(J.size:Int)-1<=63:=by omega
        go_wp2_with (first|(go_at_call 97;refine(l01Bytes_any g a n cap _ _ hsk (by omega) (by omega)).mono ?_;rintro e w6 ⟨x,rfl,hx,hs6,hg6⟩;have hown6:=hownk.kept hg6 (row_src hownk hsk (by decide));have hgg6:=grown_step hgk hg6;have hsz6:=hgg6.size)|(at_builtin;refine wpList_append_own _ rfl (.tmp 53) (.tmp 57) 35 rfl w.heap.size 9 i0 (.string ByteArray.empty) 1 16 Tryz.underlying35 hi hz0 hz1 hz2 rfl (by decide) _ _ _ rfl (hown6.alloc _) ⟨w6.heap.size,0,none⟩ 1 1 [.string x] rfl rfl (cell_one_new _ _ _) (Nm.one_cell _ rfl) (by unfold maxLen;omega) (by omega) (by simp;omega) ?_;intro vb wb hown7 hgrow7 hnl7;clear hnl7;have R7:=str_step hown6 hs6 hgg6 hglt hcode hown7 hgrow7;clear hown7 hgrow7))
        obtain⟨hown8,hs8,hg8⟩:=R7;have hsn:=wsum_snoc ls3 x;have hj8:=mkj_size (ls3++[x]);refine(l01Join_any _ (ls3++[x]) _ (Nm.SRow.of_owns hown8) (by omega)).mono ?_;rintro e w9 ⟨rfl,hb9⟩;have hown9:=owns_bel hown8 hb9;have hs9:=src_below hs8 hb9;have hg9:=grown_below hg8 hb9;have hjn9:=fun V W hq=>l01Join_any V (ls3++[x]) W hq (by omega)
        generalize ByteArray.mk (Nm.joinL (ls3++[x])).toArray=J8 at*;have hJ8:(J8.size:Int)<=255:=by omega
        have HJ8:Hid (1<=J8.size∧J8.size<=1000):=by show _∧_;omega
        clear hj8 hjs;go_wp2_with fail
        refine(hjn9 _ _ (Nm.SRow.of_owns hown9)).mono ?_;rintro e w10 ⟨rfl,hb10⟩;go_wp2;go_ret;exact⟨_,rfl,HJ8.out.1,HJ8.out.2,src_below hs9 hb10,grown_below hg9 hb10⟩
       ·have r1:(63:Int)<255-(J.size:Int)-1:=by omega
        have r0:(0:Int)<255-(J.size:Int)-1:=by omega
        have r2:decide (255-(J.size:Int)-1<=63)=false:=by simp;omega
        go_wp2_with fail
        refine(hjn _ (Nm.SRow.of_owns hownk)).mono ?_;rintro e w9 ⟨rfl,hb9⟩;have hown9:=owns_bel hownk hb9;have hs9:=src_below hsk hb9;have hg9:=grown_below hgk hb9;have hJ8:(J.size:Int)<=255:=by omega
        have HJ8:Hid (1<=J.size∧J.size<=1000):=by show _∧_;omega
        clear hjs;go_wp2_with fail
        refine(hjn _ (Nm.SRow.of_owns hown9)).mono ?_;rintro e w10 ⟨rfl,hb10⟩;go_wp2;go_ret;exact⟨_,rfl,HJ8.out.1,HJ8.out.2,src_below hs9 hb10,grown_below hg9 hb10⟩
    ·have hp':(p==0)=false:=by rw [beq_eq_false_iff_ne];exact hp
     go_wp2_with fail
     refine(l01Join_any _ ls _ (Nm.SRow.of_owns hownN) (by omega)).mono ?_;rintro e wz ⟨rfl,hbz⟩;have hjz:=mkj_size ls;generalize ByteArray.mk (Nm.joinL ls).toArray=J at*;have HJ8:Hid (1<=J.size∧J.size<=1000):=by show _∧_;omega
     clear hjz;go_wp2;go_ret;exact⟨_,rfl,HJ8.out.1,HJ8.out.2,src_below hsN hbz,grown_below hgNN hbz⟩
end Go.Proofs.YtahpiciofdfipaaGreat
namespace Go.Proofs.YtahpiciofdfipaaGreat
open Go.RowKit
theorem brow_grown{w w1:World}{g gb:Nat}{l:List UInt8}(h:BRow w gb l)(hg:w.grownBy w1 (some g))(hne:gb≠g):BRow w1 gb l:=by
 intro j c hj;obtain⟨h1,h2⟩:=h j c hj;have hlt:=World.block_lt_of_cell? w _ h1;have hblk:=hg.block gb hlt (fun e=>hne (by simpa using e));exact⟨(World.cell?_of_block (w:=w) hblk).trans h1,(World.frozen?_of_block (w:=w) hblk).trans h2⟩
theorem conv_brow{w:World}{gb cap k:Nat}{l:List UInt8}(h:BRow w gb l)(hk:k<=l.length):
 (convert 22 9 (.slice (some ⟨gb,0,none⟩) k cap)).run Tryz.prog w=.ok (.string ⟨(l.take k).toArray⟩) w:=by
 have hl:(l.take k).length=k:=by simp;omega
 have:=run_convert_bytes_back (P:=Tryz.prog) w 22 9 5 ⟨gb,0,none⟩ cap (l.take k) Tryz.underlying22 Tryz.underlying5 Tryz.underlying9 (by
  intro j hj;rw [Nm.addr_add,Nat.zero_add];refine(h j _ ?_).1;rw [List.getElem_take]
  exact List.getElem?_eq_getElem (by omega))
 rw [hl] at this;exact this
theorem src_setOther{w:World}{g gb i n cap:Nat}{a:Option Addr}{v:Value}(h:Src w g a n cap)(hne:gb≠g)(hcode:n=0∨∀ b off,a=some ⟨b,off,none⟩->b≠gb):Src (w.setCell ⟨gb,i,none⟩ v) g a n cap:=by
 obtain⟨pos,st,h1,h2,h3,h4,h5⟩:=h;refine⟨pos,st,?_,h2,h3,h4,?_⟩
 ·rw [heap_setCell_other w ⟨gb,i,none⟩ g v (fun e=>hne e.symm)];exact h1
 ·rcases h5 with h5|⟨b,off,e,hb,hc⟩
  ·exact .inl h5
  ·rcases hcode with h6|h6
   ·exact .inl h6
   ·refine .inr ⟨b,off,e,hb,fun j hj=>?_⟩;obtain⟨c,hc1,hc2⟩:=hc j hj;refine⟨c,?_,hc2⟩;rw [World.cell?_setCell_other w ⟨gb,i,none⟩ ⟨b,off+j,none⟩ v (by intro h;cases h;exact h6 _ off e rfl)];exact hc1
theorem grown_set{w w1:World}{g gb i:Nat}{v:Value}(h:w.grownBy w1 (some g))(hb:w.heap.size<=gb):w.grownBy (w1.setCell ⟨gb,i,none⟩ v) (some g):=
 grown_own h (row:=some gb) ⟨rfl,rfl,rfl,by simp,fun k _ hk=>heap_setCell_other w1 ⟨gb,i,none⟩ k v (fun e=>hk (by simp [e]))⟩ (fun k hk=>by simp at hk;omega)
theorem brow_len_set{l:List UInt8}{k:Nat}{d:UInt8}:(l.set k d).length=l.length:=by simp
set_option maxRecDepth 100000 in
set_option maxHeartbeats 1600000 in
theorem l01Spoil_any(g:Nat)(a:Option Addr)(n cap:Nat)(nm:ByteArray)(w:World)(h:Src w g a n cap)(h1:1<=nm.size)(h2:nm.size<=1000):
 Calls Tryz.prog 34 #[.pointer (some ⟨g,0,none⟩),.string nm] w fun e w'=>∃ s:ByteArray,e=.returned (.string s)∧s.size<=2000∧Src w' g a n cap∧w.grownBy w' (some g):=by
 obtain⟨hcode,hglt⟩:=src_code h;obtain⟨cp,W,hcp,hcpm,hrun,hrow,hbw⟩:=new_bytes nm w;have hcpm':=hcpm (by unfold maxLen;omega);unfold maxLen at hcpm';have hs0:=src_below h hbw;have hg0:=grown_below (World.grownBy.refl w (some g)) hbw;have hne:w.heap.size≠g:=by omega
 have hcb:n=0∨∀ b off,a=some ⟨b,off,none⟩->b≠w.heap.size:=by
  rcases Nat.eq_zero_or_pos n with hn|hn
  ·exact .inl hn
  refine .inr fun b off e=>?_
  rcases hcode with h0|⟨b',off',e',_,hc⟩
  ·omega
  ·rw [e] at e';simp only [Option.some.injEq,Addr.mk.injEq,and_true] at e';obtain⟨rfl,rfl⟩:=e';obtain⟨c,hc1,_⟩:=hc 0 (by omega);have:b<w.heap.size:=World.block_lt_of_cell? w _ hc1;omega
 have hone:(ByteArray.mk #[97]).size=1:=rfl;have hone2:(ByteArray.mk #[64]).size=1:=rfl;have hlen:nm.data.toList.length=nm.size:=by simp
 clear hcpm h hbw;go_enter Tryz.func34,Tryz.ntmps34;go_wp2_with fail
 refine(l01Next_any g a n cap 6 _ hs0 (by decide)).mono ?_;rintro e w1 ⟨r,rfl,hr0,hr1,hs1,hg1⟩;have hr2:=hr1 (by decide);have hrow1:=brow_grown hrow hg1 hne;have hgg:=grown_step hg0 hg1;have hsz1:=hgg.size;clear hr1 hrun hs0 hg0 hrow hg1
 rcases(by omega:r=0∨r=1∨r=2∨r=3∨r=4∨r=5) with rfl|rfl|rfl|rfl|rfl|rfl
 ·go_wp2;go_ret;exact⟨_,rfl,by rw [ByteArray.size_append,hone];omega,hs1,hgg⟩
 ·have hcv:=conv_brow (cap:=cp) (k:=nm.size-1) hrow1 (by omega);have hms:=mk_size (nm.data.toList.take (nm.size-1));generalize ByteArray.mk (nm.data.toList.take (nm.size-1)).toArray=T at*;have HT:Hid (T.size<=2000):=by show _<=_;rw [hms,List.length_take];omega
  clear hms;go_wp2;go_ret;exact⟨_,rfl,HT.out,hs1,hgg⟩
 ·go_wp2;go_ret;exact⟨_,rfl,by decide,hs1,hgg⟩
 ·have hl0:0<nm.size:=by omega
  obtain⟨c0,hc0⟩:∃ c0,nm.data.toList[0]? =some c0:=⟨_,List.getElem?_eq_getElem (by omega)⟩;have hidx:(0:Int)<(nm.size:Int):=by omega
  go_wp2_with (go_at_call 30;refine(l01Next_any g a n cap 256 _ hs1 (by decide)).mono ?_;rintro e w2 ⟨q,rfl,hq0,hq1,hs2,hg2⟩;have hq2:=hq1 (by decide);obtain⟨c,hc⟩:=byte_of_int hq0 hq2;subst hc;have hrow2:=brow_grown hrow1 hg2 hne;have hgg2:=grown_step hgg hg2;obtain⟨hcell,hfz⟩:=hrow2 0 c0 hc0;have HS:=Nm.hide (src_setOther (i:=0) (v:=.int .u8 (c.toNat:Int)) hs2 hne hcb);have HG:=Nm.hide (grown_set (i:=0) (v:=.int .u8 (c.toNat:Int)) hgg2 (Nat.le_refl _));have hcv:=conv_brow (cap:=cp) (k:=nm.size) (hrow2.set (k:=0) (d:=c) (by omega)) (by rw [brow_len_set];omega);clear hq1)
  go_ret;exact⟨_,rfl,by rw [mk_size,List.length_take];omega,HS.out,HG.out⟩
 ·have hcv:=conv_brow (cap:=cp) (k:=nm.size) hrow1 (by omega);have hms:=mk_size (nm.data.toList.take nm.size);generalize ByteArray.mk (nm.data.toList.take nm.size).toArray=T at*;have hT:T.size<=1000:=by rw [hms,List.length_take];omega
  clear hms;go_wp2;go_ret;exact⟨_,rfl,by rw [ByteArray.size_append,hone2];omega,hs1,hgg⟩
 ·have hl0:0<nm.size:=by omega
  go_wp2_with (go_at_call 30;refine(l01Next_any g a n cap (nm.size:Int) _ hs1 (by omega)).mono ?_;rintro e w2 ⟨q,rfl,hq0,hq1,hs2,hg2⟩;have hq2:=hq1 (by omega);obtain⟨k,rfl⟩:=Int.eq_ofNat_of_zero_le hq0;have hkl:k<nm.data.toList.length:=(by omega);obtain⟨c0,hc0⟩:∃ c0,nm.data.toList[k]? =some c0:=⟨_,List.getElem?_eq_getElem hkl⟩;have hrow2:=brow_grown hrow1 hg2 hne;have hgg2:=grown_step hgg hg2;obtain⟨hcell,hfz⟩:=hrow2 k c0 hc0;have HS:=Nm.hide (src_setOther (i:=k) (v:=.int .u8 0) hs2 hne hcb);have HG:=Nm.hide (grown_set (i:=k) (v:=.int .u8 0) hgg2 (Nat.le_refl _));have hcv:=conv_brow (cap:=cp) (k:=nm.size) (hrow2.set (k:=k) (d:=0) hkl) (by rw [brow_len_set];omega);have hkn:(k:Int)<(nm.size:Int):=(by omega);have hk0:(0:Int)<=(k:Int):=(by omega);rw [show(((0:UInt8).toNat:Nat):Int)=0 from rfl] at hcv;clear hq1 hc0)
  go_ret;exact⟨_,rfl,by rw [mk_size,List.length_take];omega,HS.out,HG.out⟩
end Go.Proofs.YtahpiciofdfipaaGreat
namespace Go.Proofs.YtahpiciofdfipaaGreat
open Go.RowKit
set_option linter.unusedVariables false
theorem one_cat(c:UInt8)(B:ByteArray)(h:B.size<=256):1<=((⟨#[c]⟩:ByteArray)++B).size∧((⟨#[c]⟩:ByteArray)++B).size<=257:=by
 rw [ByteArray.size_append];have:(⟨#[c]⟩:ByteArray).size=1:=rfl;omega
theorem ext_256(B:ByteArray)(k:Nat)(h:B.size<=256):(B.extract 0 k).size<=256:=by
 rw [ByteArray.size_extract];omega
set_option maxRecDepth 100000 in
set_option maxHeartbeats 1600000 in
theorem l02Short_any(g:Nat)(a:Option Addr)(n cap:Nat)(w:World)(h:Src w g a n cap):
 Calls Tryz.prog 149 #[.pointer (some ⟨g,0,none⟩),.int .i64 255] w fun e w'=>∃ s:ByteArray,e=.returned (.string s)∧1<=s.size∧s.size<=257∧Src w' g a n cap∧w.grownBy w' (some g):=by
 have hcv:=fun(x:Int) (W:World)=>conv_one x W
 have hs1:∀ c:UInt8,(ByteArray.mk #[c]).size=1:=fun _=>rfl
 go_enter Tryz.func149,Tryz.ntmps149;go_wp2_with fail
 refine(l01Next_any g a n cap 9 _ h (by decide)).mono ?_;rintro e w1 ⟨r1,rfl,h10,h11,hs1',hg1⟩;have h12:=h11 (by decide);go_wp2_with fail
 refine(l01Next_any g a n cap 25 _ hs1' (by decide)).mono ?_;rintro e w2 ⟨r2,rfl,h20,h21,hs2',hg2⟩;have hgg2:=grown_step hg1 hg2;clear h h11 h21
 by_cases h2:r2=0
 ·subst h2;go_wp2_with fail
  refine(l01Next_any g a n cap 256 _ hs2' (by decide)).mono ?_;rintro e w3 ⟨r,rfl,hr0,hr1,hsN,hg3⟩;have hr2:=hr1 (by decide);have hgN:=grown_step hgg2 hg3;clear hr1
  go_wp2_with first
   |(
    go_at_call 97
    refine(l01Bytes_any g a n cap r _ hsN (by omega) (by omega)).mono ?_;rintro e w4 ⟨T0,rfl,hT0,hs4,hg4⟩
    have hgg4:=grown_step hgN hg4)
   |(
    go_at_call 30
    refine(l01Next_any g a n cap 2 _ hs4 (by decide)).mono ?_;rintro e w5 ⟨r3,rfl,h30,h31,hsE,hg5⟩
    have hgE:=grown_step hgg4 hg5)
  ·go_ret;refine⟨_,rfl,(one_cat _ _ (ext_256 _ _ (by decide))).1,(one_cat _ _ (ext_256 _ _ (by decide))).2,src_below hsE ((Below.refl _ _).alloc (Nat.le_refl _) _),grown_alloc hgE _⟩
  ·go_ret;refine⟨_,rfl,(one_cat _ _ (by omega)).1,(one_cat _ _ (by omega)).2,src_below hsE ((Below.refl _ _).alloc (Nat.le_refl _) _),grown_alloc hgE _⟩
 ·have h2':(r2==0)=false:=by rw [beq_eq_false_iff_ne];exact h2
  have hsN:=hs2';have hgN:=hgg2;have hr0:=h10;have hr2:r1<256:=by omega
  go_wp2_with first
   |(
    go_at_call 97
    refine(l01Bytes_any g a n cap r1 _ hsN (by omega) (by omega)).mono ?_;rintro e w4 ⟨T0,rfl,hT0,hs4,hg4⟩
    have hgg4:=grown_step hgN hg4)
   |(
    go_at_call 30
    refine(l01Next_any g a n cap 2 _ hs4 (by decide)).mono ?_;rintro e w5 ⟨r3,rfl,h30,h31,hsE,hg5⟩
    have hgE:=grown_step hgg4 hg5)
  ·go_ret;refine⟨_,rfl,(one_cat _ _ (ext_256 _ _ (by decide))).1,(one_cat _ _ (ext_256 _ _ (by decide))).2,src_below hsE ((Below.refl _ _).alloc (Nat.le_refl _) _),grown_alloc hgE _⟩
  ·go_ret;refine⟨_,rfl,(one_cat _ _ (by omega)).1,(one_cat _ _ (by omega)).2,src_below hsE ((Below.refl _ _).alloc (Nat.le_refl _) _),grown_alloc hgE _⟩
end Go.Proofs.YtahpiciofdfipaaGreat
