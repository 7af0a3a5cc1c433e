import Derived.Test.YtmdinnjimioffaaGreatJTrP
import Derived.Test.YtmdinnjimioffaaGreatJCmpM
import Derived.Test.YtmdinnjimioffaaGreatJFoldM
import Derived.Test.YtmdinnjimioffaaGreatJSameM
import Derived.Test.YtmdinnjimioffaaGreatJTrM
import Derived.Test.YtmdinnjimioffaaGreatJCmp2
import Derived.Test.YtmdinnjimioffaaGreatJSSplit
import Derived.Deep.RegionHeld3
import Derived.Test.YtmdinnjimioffaaGreatJTrD
import Derived.BigQuiet
namespace Go.Proofs.YtmdinnjimioffaaGreat
open Go.RowKit
theorem span_cellsN{sp:List (Nat×Nat)}{k:Nat}{x:Nat×Nat}(h:sp[k]? =some x):(spanCells sp)[k*2]? =some (.int .i64 (x.1:Int))∧(spanCells sp)[k*2+1]? =some (.int .i64 (x.2:Int)):=by
 induction sp generalizing k with
 |nil=>simp at h
 |cons y sp ih=>
  cases k with
  |zero=>simp at h;subst h;simp [spanCells]
  |succ k=>
   simp at h;have:=ih h;have e:spanCells (y::sp)=[.int .i64 (y.1:Int),.int .i64 (y.2:Int)]++spanCells sp:=by simp [spanCells]
   rw [e,show(k+1)*2=k*2+2 by omega,show k*2+2+1=(k*2+1)+2 by omega];simpa using this
theorem spans_in:∀ (fs:List Dt.Pc) (a:Nat) (d:ByteArray) (sp:List (Nat×Nat)),Dt.spans fs a d=some sp->∀ s∈sp,a<=s.1∧s.1<=s.2∧s.2<=a+d.size:=by
 intro fs
 induction fs with
 |nil=>
  intro a d sp h;rw [Dt.spans] at h
  split at h
  ·simp at h;subst h;simp
  ·simp at h
 |cons p r ih=>
  intro a d sp h;rw [Dt.spans] at h
  cases hq:Dt.sz p d with
  |none=>rw [hq] at h;simp at h
  |some n=>
   have hn:=Dt.sz_le hq;rw [hq] at h
   cases hr:Dt.spans r (a+n) (d.extract n d.size) with
   |none=>simp [hr] at h
   |some l=>
    have hi:=ih _ _ _ hr;have hz:(d.extract n d.size).size=d.size-n:=by simp
    have hi2:∀ s∈l,a<=s.1∧s.1<=s.2∧s.2<=a+d.size:=by
     intro s hs;have:=hi s hs;omega
    simp [hr] at h
    subst h;cases p.isN
    ·simpa using hi2
    ·intro s hs;simp at hs
     rcases hs with rfl|hs
     ·simp;omega
     ·exact hi2 s hs
theorem low_in_len(a b:Nat)(l:List UInt8)(h:a<=b)(hb:b<=l.length):(Dt.lowIn (a,b) l).length=l.length:=by
 simp [Dt.lowIn,Nm.smallL];omega
theorem low_in_self(a:Nat)(l:List UInt8):Dt.lowIn (a,a) l=l:=by
 simp [Dt.lowIn,Nm.smallL]
theorem low_in_get(a i:Nat)(l:List UInt8)(h:a<=i)(hi:i<l.length):(Dt.lowIn (a,i) l)[i]? =l[i]? :=by
 have h1:(l.take a++Nm.smallL ((l.drop a).take (i-a))).length=i:=by simp [Nm.smallL];omega
 simp only [Dt.lowIn];rw [<- List.append_assoc,List.getElem?_append_right (by omega),h1,Nat.sub_self,List.getElem?_drop,Nat.add_zero]
theorem low_in_set(a i:Nat)(l:List UInt8)(c:UInt8)(h:a<=i)(hc:l[i]? =some c):(Dt.lowIn (a,i) l).set i (Nm.low c)=Dt.lowIn (a,i+1) l:=by
 obtain⟨hi,he⟩:=List.getElem?_eq_some_iff.1 hc;have h1:(l.take a++Nm.smallL ((l.drop a).take (i-a))).length=i:=by simp [Nm.smallL];omega
 have h2:(l.drop a).take (i+1-a)=(l.drop a).take (i-a)++[c]:=by
  rw [show i+1-a=(i-a)+1 by omega];apply Nm.take_step;rw [List.getElem?_drop,show a+(i-a)=i by omega];exact hc
 simp only [Dt.lowIn];rw [<- List.append_assoc,List.set_append_right _ _ (by omega),h1,Nat.sub_self,h2,List.drop_eq_getElem_cons hi,List.set_cons_zero];simp [Nm.smallL]
theorem low_all_len:∀ (sp:List (Nat×Nat)) (l:List UInt8),(∀ s∈sp,s.1<=s.2∧s.2<=l.length)->(Dt.lowAll sp l).length=l.length:=by
 intro sp
 induction sp with
 |nil=>intro l _;rfl
 |cons s sp ih=>
  intro l h;have h0:=h s (List.mem_cons_self);have e:=low_in_len s.1 s.2 l h0.1 h0.2
  show(Dt.lowAll sp (Dt.lowIn s l)).length=l.length
  rw [ih,e];intro s' hs';rw [e];exact h s' (List.mem_cons_of_mem _ hs')
theorem low_all_step{sp:List (Nat×Nat)}{k:Nat}{s:Nat×Nat}(h:sp[k]? =some s)(l:List UInt8):Dt.lowAll (sp.take (k+1)) l=Dt.lowIn s (Dt.lowAll (sp.take k) l):=by
 rw [Nm.take_step h,Dt.lowAll,List.foldl_append];rfl
theorem new_bytes2(s:ByteArray)(w:World):∃ cap W,s.size<=cap∧(s.size<=maxLen->cap<=maxLen)∧
 (convert 9 22 (.string s)).run Tryz.prog w=.ok (.slice (some ⟨w.heap.size,0,none⟩) s.size cap) W∧BRow W w.heap.size s.data.toList∧Below w.heap.size w W∧w.heap.size<W.heap.size:=by
 obtain⟨cap,W,h1,h2,h3,h4,h5⟩:=new_bytes s w;refine⟨cap,W,h1,h2,h3,h4,h5,?_⟩;have hr:=run_bytes_of_string w 9 22 5 s Tryz.underlying9 Tryz.underlying22 Tryz.underlying5;rw [h3] at hr;cases hr
 simp
theorem BRow.alloc{w:World}{g:Nat}{l:List UInt8}(h:BRow w g l)(hg:g<w.heap.size)(o:Obj):BRow (w.alloc o) g l:=by
 intro j c hj;obtain⟨h1,h2⟩:=h j c hj;have hb:Below w.heap.size w (w.alloc o):=(Below.refl _ _).alloc (Nat.le_refl _) _;refine⟨(hb.cell hg).trans h1,?_⟩;have e:=hb.block g hg;simp only [World.frozen?,e];exact h2
theorem BRow.str{w:World}{g n cap:Nat}{l:List UInt8}(h:BRow w g l)(hl:l.length=n):(convert 22 9 (.slice (some ⟨g,0,none⟩) n cap)).run Tryz.prog w=.ok (.string ⟨l.toArray⟩) w:=by
 subst hl;refine run_convert_bytes_back w 22 9 5 ⟨g,0,none⟩ cap l Tryz.underlying22 Tryz.underlying5 Tryz.underlying9 ?_;intro j hj;rw [Nm.addr_add,Nat.zero_add];exact(h j _ (List.getElem?_eq_getElem hj)).1
set_option maxRecDepth 100000 in
set_option maxHeartbeats 1600000 in
theorem foldNames_any(d:ByteArray)(v:Value)(sp:List (Nat×Nat))(w:World)(hrow:CRow w v sp.length 2 (spanCells sp))(hsp:∀ s∈sp,s.1<=s.2∧s.2<=d.size)(hd:d.size<=1000000000)(hl:sp.length<=1000000):
 Calls Tryz.prog 143 #[.string d,v] w fun e w'=>e=.returned (.string ⟨(Dt.lowAll sp d.data.toList).toArray⟩)∧Below w.heap.size w w':=by
 obtain⟨cap,W,hcap,hmx,hrun,hbr,hbel,hgW⟩:=new_bytes2 d w;obtain⟨_,a,capv,rfl,hcapv,hmxv,hc⟩:=hrow;have hmx':=hmx (by unfold maxLen;omega);unfold maxLen at hmx';have hdl:d.data.toList.length=d.size:=by simp
 have hll:∀ k,(Dt.lowAll (sp.take k) d.data.toList).length=d.size:=by
  intro k;rw [low_all_len,hdl];intro s hs;rw [hdl];exact hsp s (List.mem_of_mem_take hs)
 clear hmx;go_enter Tryz.func143,Tryz.ntmps143;go_wp2
 go_loopw [13] (fun i wr=>∃ k:Nat,k<=sp.length∧i=.int .i64 k∧BRow wr w.heap.size (Dt.lowAll (sp.take k) d.data.toList)∧w.heap.size<wr.heap.size∧Below w.heap.size w wr)
  (fun i _=>sp.length-(intOf i).toNat)
 case atStart=>
  exact⟨0,Nat.zero_le _,rfl,by simpa [Dt.lowAll] using hbr,hgW,hbel⟩
 case round=>
  obtain⟨k,hk,rfl,hbk,hgz,hbelk⟩:=hrel;clear hrun hbr hbel
  by_cases hlt:k<sp.length
  ·obtain⟨x,hx⟩:∃ x,sp[k]? =some x:=⟨_,List.getElem?_eq_getElem hlt⟩;obtain⟨s1,s2⟩:=span_cellsN hx;obtain⟨hx1,hx2⟩:=hsp x (List.mem_of_getElem? hx);have HST:=Nm.hide (low_all_step hx d.data.toList);have hlk:=hll k;generalize Dt.lowAll (sp.take k) d.data.toList=l at*;obtain⟨b,off,rfl,hcell⟩:=hc (by omega);have put:∀ {B O:Nat} {z:Value},w.cell? ⟨B,O,none⟩=some z->wr.cell? ⟨B,O,none⟩=some z:=fun h=>(hbelk.cell (World.block_lt_of_cell? w _ h)).trans h
   have c1:=put (hcell _ _ s1);have c2:=put (hcell _ _ s2);rw [<- Nat.add_assoc] at c2;clear hc hcell s1 s2 put hx;obtain⟨wo,hwo⟩:∃ wo,wo=wr:=⟨wr,rfl⟩;subst hwo;have hB0:=hbk.alloc hgz (.cells #[.int .i64 (x.1:Int),.int .i64 (x.2:Int)] 206);have hW0:Below w.heap.size w (wo.alloc (.cells #[.int .i64 (x.1:Int),.int .i64 (x.2:Int)] 206)):=hbelk.alloc (by omega) _;have hC0:(wo.alloc (.cells #[.int .i64 (x.1:Int),.int .i64 (x.2:Int)] 206)).cell? ⟨wo.heap.size,1,none⟩=some (.int .i64 (x.2:Int)):=by rw [World.cell?_alloc_new];rfl
   have hz0:wo.heap.size<(wo.alloc (.cells #[.int .i64 (x.1:Int),.int .i64 (x.2:Int)] 206)).heap.size:=by simp
   go_wp2
   go_loopw [8] (fun v wq=>∃ i:Nat,x.1<=i∧i<=x.2∧v=.int .i64 i∧BRow wq w.heap.size (Dt.lowIn (x.1,i) l)∧wq.cell? ⟨wo.heap.size,1,none⟩=some (.int .i64 (x.2:Int))∧wo.heap.size<wq.heap.size∧Below w.heap.size w wq)
    (fun v _=>x.2-(intOf v).toNat)
   case atStart=>exact⟨x.1,Nat.le_refl _,hx1,rfl,by rw [low_in_self];exact hB0,hC0,hz0,hW0⟩
   case round=>
    obtain⟨i,hi1,hi2,rfl,hbq,hcq,hzq,hbelq⟩:=hrel;clear hB0 hW0 hC0 hz0 c1 c2 hbk
    by_cases hil:i<x.2
    ·have hil':(i:Int)<(x.2:Int):=by omega
     have hid:i<d.size:=by omega
     have hid':(i:Int)<(d.size:Int):=by omega
     obtain⟨c,hlc⟩:∃ c,l[i]? =some c:=⟨_,List.getElem?_eq_getElem (by omega)⟩;have hgi:(Dt.lowIn (x.1,i) l)[i]? =some c:=(low_in_get x.1 i l hi1 (by omega)).trans hlc;obtain⟨hc1,hc2⟩:=hbq i c hgi;have hbs:=hbq.set (k:=i) (d:=Nm.low c) (by rw [low_in_len _ _ _ hi1 (by omega)];omega);rw [low_in_set _ _ _ _ hi1 hlc] at hbs;have HBS:=Nm.hide hbs
     have HC:Hid ((wr.setCell ⟨w.heap.size,i,none⟩ (.int .u8 (Nm.low c).toNat)).cell? ⟨wo.heap.size,1,none⟩=some (.int .i64 (x.2:Int))):=by
      show _=_
      rw [World.cell?_setCell_other wr ⟨w.heap.size,i,none⟩ ⟨wo.heap.size,1,none⟩ _ (by intro h;have:=congrArg Addr.block h;simp at this;omega)];exact hcq
     have HW:Hid (Below w.heap.size w (wr.setCell ⟨w.heap.size,i,none⟩ (.int .u8 (Nm.low c).toNat))):=hbelq.setCell (Nat.le_refl _) _;have HZ:Hid (wo.heap.size<(wr.setCell ⟨w.heap.size,i,none⟩ (.int .u8 (Nm.low c).toNat)).heap.size):=by show _<_;simpa using hzq
     clear hbs hgi hbq hlc;go_wp2_with (go_at_call 133;refine(foldByte_any _ _).mono ?_;rintro e w3 ⟨rfl,hw⟩;obtain rfl:wr=w3:=hw.symm;clear hw)
     go_roundw
     case rel=>exact⟨i+1,by omega,by omega,by go_num,HBS.out,HC.out,HZ.out,HW.out⟩
     case measure=>simp [intOf];omega
    ·have hil':(x.2:Int)<=(i:Int):=by omega
     obtain rfl:i=x.2:=by omega
     rw [show((x.1,x.2):Nat×Nat)=x from rfl,<- HST.out] at hbq;have HBQ:=Nm.hide hbq;have hgq:w.heap.size<wr.heap.size:=by omega
     clear hbq hil;go_wp2;go_roundw
     case rel=>exact⟨k+1,by omega,by go_num,HBQ.out,hgq,hbelq⟩
     case measure=>simp [intOf];omega
  ·have hlt':(sp.length:Int)<=(k:Int):=by omega
   rw [List.take_of_length_le (by omega)] at hbk;have hl0:=hll sp.length;rw [List.take_of_length_le (by omega)] at hl0;obtain⟨R,HR,hstr⟩:∃ R,Hid (R=(⟨(Dt.lowAll sp d.data.toList).toArray⟩:ByteArray))∧(convert 22 9 (.slice (some ⟨w.heap.size,0,none⟩) d.size cap)).run Tryz.prog wr=.ok (.string R) wr:=⟨_,rfl,hbk.str (cap:=cap) hl0⟩;clear hbk hc hl0;go_wp2;go_ret;rw [<- HR.out];exact⟨rfl,hbelk⟩
end Go.Proofs.YtmdinnjimioffaaGreat
namespace Go.Proofs.YtmdinnjimioffaaGreat
open Go.RowKit
theorem ord_small(x y:ByteArray):Nm.ordL (Nm.small x).toList (Nm.small y).toList=Nm.ordS x y:=by
 rw [ByteArray.toList_eq,ByteArray.toList_eq,Nm.small_data,Nm.small_data];rfl
set_option maxRecDepth 100000 in
set_option maxHeartbeats 800000 in
theorem specCompareNames_any(a b:ByteArray)(w:World)(ha:a.size<=maxLen)(hb:b.size<=maxLen):
 Calls Tryz.prog 81 #[.string a,.string b] w fun e w'=>e=.returned (.int .i64 (Nm.cmpS a b))∧Below w.heap.size w w':=by
 have hsa:=l01Split_any a w ha;have hsb:=fun W=>l01Split_any b W hb
 cases hqa:Nm.split a with
 |none=>
  have HA:=Nm.hide (cmpS_left (b:=b) hqa);rw [hqa] at hsa;clear hqa;go_enter Tryz.func81,Tryz.ntmps81;go_wp2_with fail
  refine hsa.mono ?_;rintro e w1 ⟨v,rfl,hown,hbel⟩;go_wp2_with fail
  refine(hsb _).mono ?_;rintro e w2 ⟨v2,rfl,hown2,hbel2⟩;go_wp2;go_ret;rw [HA.out]
  exact⟨rfl,Nm.below_two hbel hbel2⟩
 |some xs=>
  rw [hqa] at hsa
  cases hqb:Nm.split b with
  |none=>
   have HA:=Nm.hide (cmpS_right (a:=a) hqb);rw [hqb] at hsb;clear hqa hqb;go_enter Tryz.func81,Tryz.ntmps81;go_wp2_with fail
   refine hsa.mono ?_;rintro e w1 ⟨v,rfl,hown,hbel⟩;go_wp2_with fail
   refine(hsb _).mono ?_;rintro e w2 ⟨v2,rfl,hown2,hbel2⟩;go_wp2;go_ret;rw [HA.out]
   exact⟨rfl,Nm.below_two hbel hbel2⟩
  |some ys=>
   have HA:=Nm.hide (cmpS_some hqa hqb);have hxs:=(Nm.split_join hqa).2;have hys:=(Nm.split_join hqb).2;have hza:=Nm.split_size hqa;have hzb:=Nm.split_size hqb;have hla:=Nm.length_le_wsum xs;have hlb:=Nm.length_le_wsum ys;rw [hqb] at hsb;clear hqa hqb;go_enter Tryz.func81,Tryz.ntmps81;go_wp2_with fail
   refine hsa.mono ?_;rintro e w1 ⟨v,rfl,hown,hbel⟩;go_wp2_with fail
   refine(hsb _).mono ?_;rintro e w2 ⟨v2,rfl,hown2,hbel2⟩;have r1:=(Nm.SRow.of_owns hown).below hbel2;have r2:=Nm.SRow.of_owns hown2;simp only [Option.getD_some] at r1 r2;have hbw:=Nm.below_two hbel hbel2;obtain⟨a1,cap1,rfl,hcap1,hmx1,hnl1,hc1⟩:=r1;obtain⟨a2,cap2,rfl,hcap2,hmx2,hnl2,hc2⟩:=r2;clear hown hown2 hsa hsb hnl1 hnl2 hbel hbel2;go_wp2
   go_loopw [9] (fun i wr=>∃ k:Nat,k<=xs.length∧k<=ys.length∧i=.int .i64 ((k:Int)+1)∧Hid (Nm.cmpLs xs ys=Nm.cmpRev (xs.reverse.drop k) (ys.reverse.drop k))∧Below w2.heap.size w2 wr)
    (fun i _=>xs.length+1-(intOf i).toNat)
   case atStart=>exact⟨0,Nat.zero_le _,Nat.zero_le _,rfl,by show _=_;simp [Nm.cmpLs],Below.refl _ _⟩
   case round=>
    obtain⟨k,hka,hkb,rfl,HT,hbr⟩:=hrel
    by_cases h1:k<xs.length∧k<ys.length
    ·obtain⟨h1,h2⟩:=h1;have i1:(k:Int)+1<=(xs.length:Int):=by omega
     have i2:(k:Int)+1<=(ys.length:Int):=by omega
     obtain⟨x,hx⟩:∃ x,xs[xs.length-(k+1)]? =some x:=⟨_,List.getElem?_eq_getElem (by omega)⟩;obtain⟨y,hy⟩:∃ y,ys[ys.length-(k+1)]? =some y:=⟨_,List.getElem?_eq_getElem (by omega)⟩;obtain⟨b1,off1,rfl,hcell1⟩:=hc1 (by intro h;rw [h] at h1;simp at h1);obtain⟨b2,off2,rfl,hcell2⟩:=hc2 (by intro h;rw [h] at h2;simp at h2);have hx2:=hcell1 _ _ hx;have hy2:=hcell2 _ _ hy;have hcx:wr.cell? ⟨b1,off1+(xs.length-(k+1)),none⟩=some (.string x):=(hbr.cell (World.block_lt_of_cell? w2 _ hx2)).trans hx2;have hcy:wr.cell? ⟨b2,off2+(ys.length-(k+1)),none⟩=some (.string y):=(hbr.cell (World.block_lt_of_cell? w2 _ hy2)).trans hy2;have hxz:=hxs x (List.mem_of_getElem? hx);have hyz:=hys y (List.mem_of_getElem? hy);have q1:(0:Int)<=(xs.length:Int)-((k:Int)+1):=by omega
     have q2:(xs.length:Int)-((k:Int)+1)<(xs.length:Int):=by omega
     have q3:((xs.length:Int)-((k:Int)+1)).toNat=xs.length-(k+1):=by omega
     have q4:(0:Int)<=(ys.length:Int)-((k:Int)+1):=by omega
     have q5:(ys.length:Int)-((k:Int)+1)<(ys.length:Int):=by omega
     have q6:((ys.length:Int)-((k:Int)+1)).toNat=ys.length-(k+1):=by omega
     have p1:IntKind.i64.wrap ((xs.length:Int)-((k:Int)+1))=(xs.length:Int)-((k:Int)+1):=wrap_small _ (by omega) (by omega);have p2:IntKind.i64.wrap ((ys.length:Int)-((k:Int)+1))=(ys.length:Int)-((k:Int)+1):=wrap_small _ (by omega) (by omega);have hrx:=Nm.rev_get h1 hx;have hry:=Nm.rev_get h2 hy;have hb1:=World.block_lt_of_cell? w2 _ hx2;have hb2:=World.block_lt_of_cell? w2 _ hy2
     have hsm:∀ (z:ByteArray) (W:World),z.size<=63->(W.cell? ⟨b1,off1+(xs.length-(k+1)),none⟩=some (.string x)∧W.cell? ⟨b2,off2+(ys.length-(k+1)),none⟩=some (.string y)∧Below w2.heap.size w2 W)->
      Calls Tryz.prog 49 #[.string z] W fun e w'=>e=.returned (.string (Nm.small z))∧(w'.cell? ⟨b1,off1+(xs.length-(k+1)),none⟩=some (.string x)∧w'.cell? ⟨b2,off2+(ys.length-(k+1)),none⟩=some (.string y)∧Below w2.heap.size w2 w'):=by
      intro z W hz hS;refine(l01Small_any z W (by omega)).mono ?_;rintro e w' ⟨rfl,hbs⟩;have hsz:=hS.2.2.size;exact⟨rfl,(hbs.cell (World.block_lt_of_cell? W _ hS.1)).trans hS.1,(hbs.cell (World.block_lt_of_cell? W _ hS.2.1)).trans hS.2.1,hS.2.2.trans (hbs.mono hsz)⟩
     have hor:=fun W=>l01Order_any (Nm.small x) (Nm.small y) W
     rw [ord_small] at hor;have hS0:wr.drew.cell? ⟨b1,off1+(xs.length-(k+1)),none⟩=some (.string x)∧wr.drew.cell? ⟨b2,off2+(ys.length-(k+1)),none⟩=some (.string y)∧Below w2.heap.size w2 wr.drew:=⟨hcx,hcy,hbr.drew⟩
     by_cases he:Nm.ordS x y=0
     ·have HN:Hid (Nm.cmpLs xs ys=Nm.cmpRev (xs.reverse.drop (k+1)) (ys.reverse.drop (k+1))):=HT.out.trans (Nm.cmp_go hrx hry he);rw [he] at hor;have hz:((0:Int) != 0)=false:=rfl;clear he hx hy hrx hry hcell1 hcell2 hc1 hc2 hxs hys hx2 hy2;go_wp2;go_region_held3 (fun w'=>w'.cell? ⟨b1,off1+(xs.length-(k+1)),none⟩=some (.string x)∧w'.cell? ⟨b2,off2+(ys.length-(k+1)),none⟩=some (.string y)∧Below w2.heap.size w2 w') (first|assumption|exact hS0) ((first|(go_at_call 49;refine(hsm _ _ (by omega) (by first|assumption|exact hS0)).mono ?_;rintro e w' ⟨rfl,hS1⟩)|(go_at_call 106;refine(hor _).mono ?_;rintro e w' ⟨rfl,rfl⟩)))
      go_wp2;go_roundw
      case rel=>exact⟨k+1,by omega,by omega,by go_num,HN,hS1.2.2⟩
      case measure=>simp [intOf];omega
     ·have HO:Hid (Nm.cmpLs xs ys=Nm.ordS x y):=HT.out.trans (Nm.cmp_stop hrx hry he);have hz:(Nm.ordS x y != 0)=true:=by rw [bne_iff_ne];exact he
      generalize Nm.ordS x y=o at*;clear he hx hy hrx hry hcell1 hcell2 hc1 hc2 hxs hys hx2 hy2;go_wp2;go_region_held3 (fun w'=>w'.cell? ⟨b1,off1+(xs.length-(k+1)),none⟩=some (.string x)∧w'.cell? ⟨b2,off2+(ys.length-(k+1)),none⟩=some (.string y)∧Below w2.heap.size w2 w') (first|assumption|exact hS0) ((first|(go_at_call 49;refine(hsm _ _ (by omega) (by first|assumption|exact hS0)).mono ?_;rintro e w' ⟨rfl,hS1⟩)|(go_at_call 106;refine(hor _).mono ?_;rintro e w' ⟨rfl,rfl⟩)))
      go_wp2;go_ret;rw [HA.out,HO.out];exact⟨rfl,Nm.below_two hbw hS1.2.2⟩
    ·have HO:Hid (Nm.cmpLs xs ys=Nm.cmpI xs.length ys.length):=by
      show _=_
      rw [HT.out,Nm.cmp_end (by simpa using hka) (by simpa using hkb) (by simp;omega)];simp
     clear hc1 hc2 hxs hys
     have hlast:(xs.length<ys.length∧Hid (Nm.cmpI xs.length ys.length= -1))∨(ys.length<xs.length∧Hid (Nm.cmpI xs.length ys.length=1))∨(xs.length=ys.length∧Hid (Nm.cmpI xs.length ys.length=0)):=by
      rcases Nat.lt_trichotomy xs.length ys.length with h|h|h
      ·exact .inl ⟨h,Nm.cmpI_lt (by omega)⟩
      ·exact .inr (.inr ⟨h,Nm.cmpI_eq (by omega)⟩)
      ·exact .inr (.inl ⟨h,Nm.cmpI_gt (by omega)⟩)
     rcases hlast with⟨hl,HC⟩|⟨hl,HC⟩|⟨hl,HC⟩
     ·have g1:(xs.length:Int)<(k:Int)+1:=by omega
      clear h1;go_wp2;go_ret;rw [HA.out,HO.out,HC.out];exact⟨rfl,Nm.below_two hbw hbr⟩
     ·have g1:(k:Int)+1<=(xs.length:Int):=by omega
      have g2:(ys.length:Int)<(k:Int)+1:=by omega
      clear h1;go_wp2;go_ret;rw [HA.out,HO.out,HC.out];exact⟨rfl,Nm.below_two hbw hbr⟩
     ·have g1:(xs.length:Int)<(k:Int)+1:=by omega
      have g2:ys.length<=xs.length:=by omega
      have g3:xs.length<=ys.length:=by omega
      clear h1 hl;go_wp2;go_ret;rw [HA.out,HO.out,HC.out];exact⟨rfl,Nm.below_two hbw hbr⟩
end Go.Proofs.YtmdinnjimioffaaGreat
namespace Go.Proofs.YtmdinnjimioffaaGreat
open Go.RowKit
set_option linter.unusedVariables false
def befI(a b:It):Bool:=if a.fo=b.fo then(if a.r.ty=b.r.ty then Op.bytesLess a.dt.toList b.dt.toList else decide (a.r.ty<b.r.ty)) else decide (Nm.cmpS a.fo b.fo<0)
set_option maxRecDepth 100000 in
set_option maxHeartbeats 1600000 in
theorem l06Before_any(a b:It)(w:World)(ha:a.fo.size<=maxLen)(hb:b.fo.size<=maxLen):
 Calls Tryz.prog 54 #[.agg (itC a).toArray,.agg (itC b).toArray] w fun e w'=>e=.returned (.bool (befI a b))∧Below w.heap.size w w':=by
 have hB:=((Below.refl w.heap.size w).alloc (Nat.le_refl _) (.cells (itC a).toArray 58)).alloc (by simp) (.cells (itC b).toArray 58);have hcm:=fun W=>specCompareNames_any a.fo b.fo W ha hb
 have e0:=ba_eq a.fo b.fo;obtain⟨Q,hQ⟩:∃ Q,Q=befI a b:=⟨_,rfl⟩;rw [<- hQ];unfold befI at hQ;obtain⟨⟨o,ty,cl,tt,da⟩,f1,d1,ou⟩:=a;obtain⟨⟨o2,ty2,cl2,tt2,da2⟩,f2,d2,ou2⟩:=b;simp only [itC] at*
 by_cases hf:f1=f2
 ·subst hf;rw [if_pos rfl] at hQ;have nf:(f1.toList != f1.toList)=false:=by simp
  clear e0 hcm
  by_cases ht:ty=ty2
  ·subst ht;rw [if_pos rfl] at hQ;have nt:(ty != ty)=false:=by simp
   subst hQ;go_enter Tryz.func54,Tryz.ntmps54;go_wp2;go_ret;exact⟨rfl,hB⟩
  ·rw [if_neg ht] at hQ;subst hQ;have nt:(ty != ty2)=true:=by rw [bne_iff_ne];exact ht
   go_enter Tryz.func54,Tryz.ntmps54;go_wp2;go_ret;exact⟨rfl,hB⟩
 ·rw [if_neg hf] at hQ;subst hQ;rw [decide_eq_false hf] at e0;have nf:(f1.toList != f2.toList)=true:=by rw [bne,e0];rfl
  have e9:¬f1.toList=f2.toList:=by simpa using e0
  generalize Nm.cmpS f1 f2=CC at*;go_enter Tryz.func54,Tryz.ntmps54;go_wp2_with fail
  refine(hcm _).mono ?_;rintro e w1 ⟨rfl,b1⟩;go_wp2;go_ret;exact⟨rfl,Nm.below_two hB b1⟩
theorem one_cat(c:UInt8)(B:ByteArray)(h:B.size<=256):1<=((⟨#[c]⟩:ByteArray)++B).size∧((⟨#[c]⟩:ByteArray)++B).size<=257:=by
 rw [ByteArray.size_append];have:(⟨#[c]⟩:ByteArray).size=1:=rfl;omega
theorem ext_256(B:ByteArray)(k:Nat)(h:B.size<=256):(B.extract 0 k).size<=256:=by
 rw [ByteArray.size_extract];omega
set_option maxRecDepth 100000 in
set_option maxHeartbeats 1600000 in
theorem l02Short_any(g:Nat)(a:Option Addr)(n cap:Nat)(w:World)(h:Src w g a n cap):
 Calls Tryz.prog 104 #[.pointer (some ⟨g,0,none⟩),.int .i64 255] w fun e w'=>∃ s:ByteArray,e=.returned (.string s)∧1<=s.size∧s.size<=257∧Src w' g a n cap∧w.grownBy w' (some g):=by
 have hcv:=fun(x:Int) (W:World)=>conv_one x W
 have hs1:∀ c:UInt8,(ByteArray.mk #[c]).size=1:=fun _=>rfl
 go_enter Tryz.func104,Tryz.ntmps104;go_wp2_with fail
 refine(l01Next_any g a n cap 9 _ h (by decide)).mono ?_;rintro e w1 ⟨r1,rfl,h10,h11,hs1',hg1⟩;have h12:=h11 (by decide);go_wp2_with fail
 refine(l01Next_any g a n cap 25 _ hs1' (by decide)).mono ?_;rintro e w2 ⟨r2,rfl,h20,h21,hs2',hg2⟩;have hgg2:=grown_step hg1 hg2;clear h h11 h21
 by_cases h2:r2=0
 ·subst h2;go_wp2_with fail
  refine(l01Next_any g a n cap 256 _ hs2' (by decide)).mono ?_;rintro e w3 ⟨r,rfl,hr0,hr1,hsN,hg3⟩;have hr2:=hr1 (by decide);have hgN:=grown_step hgg2 hg3;clear hr1
  go_wp2_with first
   |(
    go_at_call 37
    refine(l01Bytes_any g a n cap r _ hsN (by omega) (by omega)).mono ?_;rintro e w4 ⟨T0,rfl,hT0,hs4,hg4⟩
    have hgg4:=grown_step hgN hg4)
   |(
    go_at_call 14
    refine(l01Next_any g a n cap 2 _ hs4 (by decide)).mono ?_;rintro e w5 ⟨r3,rfl,h30,h31,hsE,hg5⟩
    have hgE:=grown_step hgg4 hg5)
  ·go_ret;refine⟨_,rfl,(one_cat _ _ (ext_256 _ _ (by decide))).1,(one_cat _ _ (ext_256 _ _ (by decide))).2,src_below hsE ((Below.refl _ _).alloc (Nat.le_refl _) _),grown_alloc hgE _⟩
  ·go_ret;refine⟨_,rfl,(one_cat _ _ (by omega)).1,(one_cat _ _ (by omega)).2,src_below hsE ((Below.refl _ _).alloc (Nat.le_refl _) _),grown_alloc hgE _⟩
 ·have h2':(r2==0)=false:=by rw [beq_eq_false_iff_ne];exact h2
  have hsN:=hs2';have hgN:=hgg2;have hr0:=h10;have hr2:r1<256:=by omega
  go_wp2_with first
   |(
    go_at_call 37
    refine(l01Bytes_any g a n cap r1 _ hsN (by omega) (by omega)).mono ?_;rintro e w4 ⟨T0,rfl,hT0,hs4,hg4⟩
    have hgg4:=grown_step hgN hg4)
   |(
    go_at_call 14
    refine(l01Next_any g a n cap 2 _ hs4 (by decide)).mono ?_;rintro e w5 ⟨r3,rfl,h30,h31,hsE,hg5⟩
    have hgE:=grown_step hgg4 hg5)
  ·go_ret;refine⟨_,rfl,(one_cat _ _ (ext_256 _ _ (by decide))).1,(one_cat _ _ (ext_256 _ _ (by decide))).2,src_below hsE ((Below.refl _ _).alloc (Nat.le_refl _) _),grown_alloc hgE _⟩
  ·go_ret;refine⟨_,rfl,(one_cat _ _ (by omega)).1,(one_cat _ _ (by omega)).2,src_below hsE ((Below.refl _ _).alloc (Nat.le_refl _) _),grown_alloc hgE _⟩
theorem not_emptyU{d:ByteArray}(h:¬d=⟨#[]⟩):d.toList.isEmpty=false∧0<d.size:=by
 have h2:d.toList≠[]:=by
  intro e;apply h;rw [ByteArray.toList_eq] at e;exact ByteArray.ext (Array.toList_eq_nil_iff.1 e)
 refine⟨by cases hd:d.toList with|nil=>exact absurd hd h2|cons x xs=>rfl,?_⟩
 rcases Nat.eq_zero_or_pos d.size with h0|h0
 ·exfalso
  apply h2;rw [ByteArray.toList_eq];exact List.eq_nil_of_length_eq_zero (by simpa using h0)
 ·exact h0
set_option maxRecDepth 100000 in
set_option maxHeartbeats 3200000 in
theorem l02SpoilData_any(g:Nat)(a:Option Addr)(n cap:Nat)(d:ByteArray)(w:World)(h:Src w g a n cap)(h2:d.size<=3200):
 Calls Tryz.prog 16 #[.pointer (some ⟨g,0,none⟩),.string d] w fun e w'=>∃ s:ByteArray,e=.returned (.string s)∧s.size<=3300∧Src w' g a n cap∧w.grownBy w' (some g):=by
 obtain⟨hcode,hglt⟩:=src_code h;go_enter Tryz.func16,Tryz.ntmps16;go_wp2_with fail
 refine(l01Next_any g a n cap 4 _ h (by decide)).mono ?_;rintro e w1 ⟨r,rfl,hr0,hr1,hs1,hg1⟩;have hr2:=hr1 (by decide);clear hr1 h
 rcases(by omega:r=0∨r=1∨r=2∨r=3) with rfl|rfl|rfl|rfl
 ·go_wp2_with fail
  refine(l01Bytes_any g a n cap 1 w1 hs1 (by decide) (by decide)).mono ?_;rintro e w2 ⟨b,rfl,hb,hs2,hg2⟩;have hz:b.size=1:=by omega
  go_wp2;go_ret;exact⟨_,rfl,by rw [ByteArray.size_append];omega,hs2,grown_step hg1 hg2⟩
 ·by_cases hd:d=⟨#[]⟩
  ·subst hd;go_wp2;go_ret;exact⟨_,rfl,by decide,hs1,hg1⟩
  ·obtain⟨he,h0⟩:=not_emptyU hd;have hw:IntKind.i64.wrap ((d.size:Int)-1)=((d.size-1:Nat):Int):=by rw [Go.wrap_small _ (by omega) (by omega)];omega
   clear hd;go_wp2;go_ret;exact⟨_,rfl,by simp;omega,hs1,hg1⟩
 ·by_cases hd:d=⟨#[]⟩
  ·subst hd;go_wp2;go_ret;exact⟨_,rfl,by decide,hs1,hg1⟩
  ·obtain⟨he,h0⟩:=not_emptyU hd;obtain⟨cp,W,hcp,hcpm,hrun,hrow,hbw⟩:=new_bytes d w1;have hcpm':=hcpm (by unfold maxLen;omega);unfold maxLen at hcpm';have hs0:=src_below hs1 hbw;have hg0:=grown_below hg1 hbw;have hgg0:=hg1.size;have hne:w1.heap.size≠g:=by omega
   have hcb:n=0∨∀ b off,a=some ⟨b,off,none⟩->b≠w1.heap.size:=by
    rcases Nat.eq_zero_or_pos n with hn|hn
    ·exact .inl hn
    refine .inr fun b off e=>?_
    rcases hcode with h0|⟨b',off',e',_,hc⟩
    ·omega
    ·rw [e] at e';simp only [Option.some.injEq,Addr.mk.injEq,and_true] at e';obtain⟨rfl,rfl⟩:=e';obtain⟨c,hc1,_⟩:=hc 0 (by omega);have:b<w.heap.size:=World.block_lt_of_cell? w _ hc1;omega
   have hlen:d.data.toList.length=d.size:=by simp
   clear hcpm hbw hd;go_wp2_with fail
   refine(l01Next_any g a n cap (d.size:Int) _ hs0 (by omega)).mono ?_;rintro e w2 ⟨q,rfl,hq0,hq1,hs2,hg2⟩;have hq2:=hq1 (by omega);obtain⟨k,rfl⟩:=Int.eq_ofNat_of_zero_le hq0;have hkl:k<d.data.toList.length:=by omega
   have hrow2:=brow_grown hrow hg2 hne;have hgg2:=grown_step hg0 hg2;clear hq1 hrow hrun hs0 hg0 hg2;go_wp2_with fail
   refine(l01Next_any g a n cap 256 _ hs2 (by decide)).mono ?_;rintro e w3 ⟨q,rfl,hp0,hp1,hs3,hg3⟩;have hp2:=hp1 (by decide);obtain⟨c,hc⟩:=byte_of_int hp0 hp2;subst hc;obtain⟨c0,hc0⟩:∃ c0,d.data.toList[k]? =some c0:=⟨_,List.getElem?_eq_getElem hkl⟩;have hrow3:=brow_grown hrow2 hg3 hne;have hgg3:=grown_step hgg2 hg3;obtain⟨hcell,hfz⟩:=hrow3 k c0 hc0;have HS:=Nm.hide (src_setOther (i:=k) (v:=.int .u8 (c.toNat:Int)) hs3 hne hcb);have HG:=Nm.hide (grown_set (i:=k) (v:=.int .u8 (c.toNat:Int)) hgg3 hg1.size);have hcv:=conv_brow (cap:=cp) (k:=d.size) (hrow3.set (k:=k) (d:=c) hkl) (by rw [brow_len_set];omega);have hkn:(k:Int)<(d.size:Int):=by omega
   have hk0:(0:Int)<=(k:Int):=by omega
   clear hp1 hc0 hrow2 hrow3 hs2 hs3 hg3 hgg2 hgg3;go_wp2;go_ret;exact⟨_,rfl,by rw [mk_size,List.length_take];omega,HS.out,HG.out⟩
 ·go_wp2;go_ret;exact⟨_,rfl,by decide,hs1,hg1⟩
end Go.Proofs.YtmdinnjimioffaaGreat
