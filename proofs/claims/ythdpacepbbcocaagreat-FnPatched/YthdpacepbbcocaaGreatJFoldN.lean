import Derived.Test.YthdpacepbbcocaaGreatJStI
import Derived.Test.YthdpacepbbcocaaGreatJPzK
set_option linter.unusedVariables false
set_option maxRecDepth 100000
set_option maxHeartbeats 3200000
namespace Go.Proofs.YthdpacepbbcocaaGreat
open Go.RowKit
theorem Np{sp:List (Nat×Nat)}{k:Nat}{x:Nat×Nat}(h:sp[k]? =some x):(spanCells sp)[k*2]? =some (.int .i64 (x.1:Int))∧(spanCells sp)[k*2+1]? =some (.int .i64 (x.2:Int)):=by
 induction sp generalizing k with
 |nil=>simp at h
 |cons y sp ih=>
  cases k with
  |zero=>simp at h;subst h;simp [spanCells]
  |succ k=>
   simp at h;have:=ih h;have e:spanCells (y::sp)=[.int .i64 (y.1:Int),.int .i64 (y.2:Int)]++spanCells sp:=by simp [spanCells]
   rw [e,show(k+1)*2=k*2+2 by omega,show k*2+2+1=(k*2+1)+2 by omega];simpa using this
theorem aGk:∀ (fs:List Dt.Pc) (a:Nat) (d:ByteArray) (sp:List (Nat×Nat)),Dt.spans fs a d=some sp->∀ s∈sp,a<=s.1∧s.1<=s.2∧s.2<=a+d.size:=by
 intro fs
 induction fs with
 |nil=>
  intro a d sp h;rw [Dt.spans] at h
  split at h
  ·simp at h;subst h;simp
  simp at h
 |cons p r ih=>
  intro a d sp h;rw [Dt.spans] at h
  cases hq:Dt.sz p d with
  |none=>rw [hq] at h;simp at h
  |some n=>
   have hn:=Dt.Kk hq;rw [hq] at h
   cases hr:Dt.spans r (a+n) (d.extract n d.size) with
   |none=>simp [hr] at h
   |some l=>
    have hi:=ih _ _ _ hr;have hz:(d.extract n d.size).size=d.size-n:=by simp
    have UA:∀ s∈l,a<=s.1∧s.1<=s.2∧s.2<=a+d.size:=by
     intro s hs;have:=hi s hs;omega
    simp [hr] at h
    subst h;cases p.JV
    ·simpa using UA
    intro s hs;simp at hs
    rcases hs with rfl|hs
    ·simp;omega
    exact UA s hs
theorem WO(a b:Nat)(l:List UInt8)(h:a<=b)(hb:b<=l.length):(Dt.uX (a,b) l).length=l.length:=by
 simp [Dt.uX,Nm.eO];omega
theorem Nq(a:Nat)(l:List UInt8):Dt.uX (a,a) l=l:=by
 simp [Dt.uX,Nm.eO]
theorem Vf(a i:Nat)(l:List UInt8)(h:a<=i)(hi:i<l.length):(Dt.uX (a,i) l)[i]? =l[i]? :=by
 have h1:(l.take a++Nm.eO ((l.drop a).take (i-a))).length=i:=by simp [Nm.eO];omega
 simp only [Dt.uX];rw [<- List.append_assoc,List.getElem?_append_right (by omega),h1,Nat.sub_self,List.getElem?_drop,Nat.add_zero]
theorem Vg(a i:Nat)(l:List UInt8)(c:UInt8)(h:a<=i)(hc:l[i]? =some c):(Dt.uX (a,i) l).set i (Nm.low c)=Dt.uX (a,i+1) l:=by
 obtain⟨hi,he⟩:=dK hc;have h1:(l.take a++Nm.eO ((l.drop a).take (i-a))).length=i:=by simp [Nm.eO];omega
 have h2:(l.drop a).take (i+1-a)=(l.drop a).take (i-a)++[c]:=by
  rw [show i+1-a=(i-a)+1 by omega];apply Nm.mH;rw [List.getElem?_drop,show a+(i-a)=i by omega];exact hc
 simp only [Dt.uX];rw [<- List.append_assoc,List.set_append_right _ _ (by omega),h1,Nat.sub_self,h2,List.drop_eq_getElem_cons hi,List.set_cons_zero];simp [Nm.eO]
theorem Nr:∀ (sp:List (Nat×Nat)) (l:List UInt8),(∀ s∈sp,s.1<=s.2∧s.2<=l.length)->(Dt.nQ sp l).length=l.length:=by
 intro sp
 induction sp with
 |nil=>intro l _;rfl
 |cons s sp ih=>
  intro l h;have h0:=h s (List.mem_cons_self);have e:=WO s.1 s.2 l h0.1 h0.2
  show(Dt.nQ sp (Dt.uX s l)).length=l.length
  rw [ih,e];intro s' hs';rw [e];exact h s' (List.mem_cons_of_mem _ hs')
theorem Gr{sp:List (Nat×Nat)}{k:Nat}{s:Nat×Nat}(h:sp[k]? =some s)(l:List UInt8):Dt.nQ (sp.take (k+1)) l=Dt.uX s (Dt.nQ (sp.take k) l):=by
 rw [Nm.mH h,Dt.nQ,List.foldl_append];rfl
theorem Vh(s:ByteArray)(w:World):∃ cap W,s.size<=cap∧(s.size<=maxLen->cap<=maxLen)∧
 (convert 9 22 (.string s)).run Tryz.prog w=.ok (.slice (some ⟨w.heap.size,0,none⟩) s.size cap) W∧EJ W w.heap.size s.data.toList∧Below w.heap.size w W∧w.heap.size<W.heap.size:=by
 obtain⟨cap,W,h1,h2,h3,h4,h5⟩:=Ck s w;refine⟨cap,W,h1,h2,h3,h4,h5,?_⟩;have hr:=run_bytes_of_string w 9 22 5 s Tryz.underlying9 Tryz.underlying22 Tryz.underlying5;rw [h3] at hr;cases hr
 simp
theorem EJ.alloc{w:World}{g:Nat}{l:List UInt8}(h:EJ w g l)(hg:g<w.heap.size)(o:Obj):EJ (w.alloc o) g l:=by
 intro j c hj;obtain⟨h1,h2⟩:=h j c hj;have hb:Below w.heap.size w (w.alloc o):=(aK _ _).alloc (aN _) _;refine⟨(hb.cell hg).trans h1,?_⟩;have e:=hb.block g hg;simp only [World.frozen?,e];exact h2
theorem EJ.str{w:World}{g n cap:Nat}{l:List UInt8}(h:EJ w g l)(hl:l.length=n):(convert 22 9 (.slice (some ⟨g,0,none⟩) n cap)).run Tryz.prog w=.ok (.string ⟨l.toArray⟩) w:=by
 subst hl;refine run_convert_bytes_back w 22 9 5 ⟨g,0,none⟩ cap l Tryz.underlying22 Tryz.underlying5 Tryz.underlying9 ?_;intro j hj;rw [Nm.addr_add,Nat.zero_add];exact(h j _ (bY hj)).1
theorem Av(d:ByteArray)(v:Value)(sp:List (Nat×Nat))(w:World)(eF:bS w v sp.length 2 (spanCells sp))(nA:∀ s∈sp,s.1<=s.2∧s.2<=d.size)(hd:d.size<=1000000000)(hl:sp.length<=1000000):
 Calls Tryz.prog 189 #[.string d,v] w fun e w'=>e=.returned (.string ⟨(Dt.nQ sp d.data.toList).toArray⟩)∧Below w.heap.size w w':=by
 obtain⟨cap,W,gY,kK,JZ,hbr,aJ,hgW⟩:=Vh d w;obtain⟨_,a,capv,rfl,hcapv,hmxv,hc⟩:=eF;have PD:=kK (by unfold maxLen;omega);unfold maxLen at PD;have pF:d.data.toList.length=d.size:=by simp
 have hll:∀ k,(Dt.nQ (sp.take k) d.data.toList).length=d.size:=by
  intro k;rw [Nr,pF];intro s hs;rw [pF];exact nA s (List.mem_of_mem_take hs)
 clear kK;go_enter Tryz.func189,Tryz.ntmps189;go_wp2
 go_loopw [13] (fun i wr=>∃ k:Nat,k<=sp.length∧i=.int .i64 k∧EJ wr w.heap.size (Dt.nQ (sp.take k) d.data.toList)∧w.heap.size<wr.heap.size∧Below w.heap.size w wr)
  (fun i _=>sp.length-(intOf i).toNat)
 case atStart=>
  exact⟨0,dO _,rfl,by simpa [Dt.nQ] using hbr,hgW,aJ⟩
 obtain⟨k,hk,rfl,QZ,Vi,VY⟩:=hrel;clear JZ hbr aJ
 by_cases bV:k<sp.length
 ·obtain⟨x,hx⟩:∃ x,sp[k]? =some x:=⟨_,bY bV⟩;obtain⟨s1,s2⟩:=Np hx;obtain⟨FC,VE⟩:=nA x (bP hx);have HST:=Nm.aF (Gr hx d.data.toList);have hlk:=hll k;generalize Dt.nQ (sp.take k) d.data.toList=l at*;obtain⟨b,off,rfl,aL⟩:=hc (by omega);have put:∀ {B O:Nat} {z:Value},w.cell? ⟨B,O,none⟩=some z->wr.cell? ⟨B,O,none⟩=some z:=fun h=>(VY.cell (eB w _ h)).trans h
  have c1:=put (aL _ _ s1);have c2:=put (aL _ _ s2);rw [<- Nat.add_assoc] at c2;clear hc aL s1 s2 put hx;obtain⟨wo,hwo⟩:∃ wo,wo=wr:=⟨wr,rfl⟩;subst hwo;have jF:=QZ.alloc Vi (.cells #[.int .i64 (x.1:Int),.int .i64 (x.2:Int)] 230);have lF:Below w.heap.size w (wo.alloc (.cells #[.int .i64 (x.1:Int),.int .i64 (x.2:Int)] 230)):=VY.alloc (by omega) _;have hC0:(wo.alloc (.cells #[.int .i64 (x.1:Int),.int .i64 (x.2:Int)] 230)).cell? ⟨wo.heap.size,1,none⟩=some (.int .i64 (x.2:Int)):=by rw [World.cell?_alloc_new];rfl
  have iJ:wo.heap.size<(wo.alloc (.cells #[.int .i64 (x.1:Int),.int .i64 (x.2:Int)] 230)).heap.size:=by simp
  go_wp2
  go_loopw [8] (fun v wq=>∃ i:Nat,x.1<=i∧i<=x.2∧v=.int .i64 i∧EJ wq w.heap.size (Dt.uX (x.1,i) l)∧wq.cell? ⟨wo.heap.size,1,none⟩=some (.int .i64 (x.2:Int))∧wo.heap.size<wq.heap.size∧Below w.heap.size w wq)
   (fun v _=>x.2-(intOf v).toNat)
  case atStart=>exact⟨x.1,aN _,FC,rfl,by rw [Nq];exact jF,hC0,iJ,lF⟩
  obtain⟨i,KW,UA,rfl,KY,hcq,hzq,aL0⟩:=hrel;clear jF lF hC0 iJ c1 c2 QZ
  by_cases DC:i<x.2
  ·have aS6:(i:Int)<(x.2:Int):=by omega
   have hid:i<d.size:=by omega
   have hid':(i:Int)<(d.size:Int):=by omega
   obtain⟨c,hlc⟩:∃ c,l[i]? =some c:=⟨_,bY (by omega)⟩;have hgi:(Dt.uX (x.1,i) l)[i]? =some c:=(Vf x.1 i l KW (by omega)).trans hlc;obtain⟨iK,mD⟩:=KY i c hgi;have Mw:=KY.set (k:=i) (d:=Nm.low c) (by rw [WO _ _ _ KW (by omega)];omega);rw [Vg _ _ _ _ KW hlc] at Mw;have HBS:=Nm.aF Mw
   have HC:Hid ((wr.setCell ⟨w.heap.size,i,none⟩ (.int .u8 (Nm.low c).toNat)).cell? ⟨wo.heap.size,1,none⟩=some (.int .i64 (x.2:Int))):=by
    show _=_
    rw [World.cell?_setCell_other wr ⟨w.heap.size,i,none⟩ ⟨wo.heap.size,1,none⟩ _ (by intro h;have:=congrArg Addr.block h;simp at this;omega)];exact hcq
   have HW:Hid (Below w.heap.size w (wr.setCell ⟨w.heap.size,i,none⟩ (.int .u8 (Nm.low c).toNat))):=aL0.setCell (aN _) _;have HZ:Hid (wo.heap.size<(wr.setCell ⟨w.heap.size,i,none⟩ (.int .u8 (Nm.low c).toNat)).heap.size):=by show _<_;simpa using hzq
   clear Mw hgi KY hlc;go_wp2_with (go_at_call 180;refine(vI _ _).mono ?_;rintro e w3 ⟨rfl,hw⟩;obtain rfl:wr=w3:=hw.symm;clear hw)
   go_roundw
   case rel=>exact⟨i+1,by omega,by omega,by go_num,HBS.out,HC.out,HZ.out,HW.out⟩
   simp [intOf];omega
  have aS6:(x.2:Int)<=(i:Int):=by omega
  obtain rfl:i=x.2:=by omega
  rw [show((x.1,x.2):Nat×Nat)=x from rfl,<- HST.out] at KY;have HBQ:=Nm.aF KY;have hgq:w.heap.size<wr.heap.size:=by omega
  clear KY DC;go_wp2;go_roundw
  case rel=>exact⟨k+1,by omega,by go_num,HBQ.out,hgq,aL0⟩
  simp [intOf];omega
 have KD:(sp.length:Int)<=(k:Int):=by omega
 rw [List.take_of_length_le (by omega)] at QZ;have hl0:=hll sp.length;rw [List.take_of_length_le (by omega)] at hl0;obtain⟨R,HR,hstr⟩:∃ R,Hid (R=(⟨(Dt.nQ sp d.data.toList).toArray⟩:ByteArray))∧(convert 22 9 (.slice (some ⟨w.heap.size,0,none⟩) d.size cap)).run Tryz.prog wr=.ok (.string R) wr:=⟨_,rfl,QZ.str (cap:=cap) hl0⟩;clear QZ hc hl0;go_wp2;go_ret;rw [<- HR.out];exact⟨rfl,VY⟩
theorem RJ(g:Nat)(a:Option Addr)(n cap:Nat)(w:World)(h:Src w g a n cap):
 Calls Tryz.prog 94 #[.pointer (some ⟨g,0,none⟩)] w fun e w'=>∃ s:ByteArray,e=.returned (.string s)∧1<=s.size∧s.size<=1000∧Src w' g a n cap∧w.grownBy w' (some g):=by
 obtain⟨i0,hi,iJ,fP,fZ⟩:=info_parts Tryz.AU;obtain⟨iB,BG⟩:=uH h;go_enter Tryz.func94,Tryz.ntmps94;go_wp2_with fail
 refine(aY g a n cap 5 _ (bH h ((aK _ _).alloc (aN _) _)) (by decide)).mono ?_;rintro e w1 ⟨m,rfl,hm0,Cm,aL1,aMz⟩;have hm2:=Cm (by decide);obtain⟨m,rfl⟩:=Int.eq_ofNat_of_zero_le hm0
 have Df:w1.ownsRow w.heap.size 9 1 (.slice (some ⟨w.heap.size,0,none⟩) 0 0) 0 []:=
  (World.ownsRow_made w #[] 0 (aN _) (by decide) rfl).kept aMz (.inr (by simp only [Value.ownBlock,ne_eq,mP];omega))
 have rP:w.grownBy w1 (some g):=aZ (dR (World.grownBy.refl _ _) _) aMz;clear Cm aMz h;go_wp2_with fail
 go_loopw [3,5] (fun v i wr=>∃ (k:Nat) (ls:List ByteArray),k<=m∧i=.int .i64 k∧wr.ownsRow w.heap.size 9 1 v ls.length (ls.map Value.string)∧Nm.dP ls<=64*k∧ls.length=k∧Src wr g a n cap∧w.grownBy wr (some g))
  (fun _ i _=>m-(intOf i).toNat)
 case atStart=>exact⟨0,[],dO _,rfl,Df,by simp [Nm.dP],rfl,aL1,rP⟩
 obtain⟨k,ls,hk,rfl,aU,hws,hlk,jT,nH⟩:=hrel;have pQ:=nH.size;clear Df aL1 rP;have HLK:=Nm.aF hlk;clear hlk
 by_cases bV:k<m
 ·go_wp2_with (first|(go_at_call 59;refine(oW g a n cap _ jT).mono ?_;rintro e w3 ⟨x,rfl,hx,VV,Fu⟩;have kD:=aU.kept Fu (lD aU jT (by decide));have iA:=aZ nH Fu;have VW:=iA.size)|(at_builtin;refine wpList_append_own _ rfl (.tmp 15) (.tmp 18) 58 rfl w.heap.size 9 i0 (.string ByteArray.empty) 1 16 Tryz.underlying58 hi iJ fP fZ rfl (by decide) _ _ _ rfl (kD.alloc _) ⟨w3.heap.size,0,none⟩ 1 1 [.string x] rfl rfl (cell_one_new _ _ _) (Nm.one_cell _ rfl) (by have:=HLK.out;unfold maxLen;omega) (by have:=HLK.out;omega) (by simp;omega) ?_;intro vb wb jC qK Fv;clear Fv;have R:=zR kD VV iA BG iB jC qK;clear jC qK))
  go_roundw
  case rel=>exact⟨k+1,_,by omega,by go_num,R.1,by rw [vU];omega,by have:=HLK.out;simp;omega,R.2.1,R.2.2⟩
  simp [intOf];omega
 have DJ:k=m:=by omega
 subst DJ;go_wp2_with fail
 refine(aY g a n cap 3 _ jT (by decide)).mono ?_;rintro e w2 ⟨q,rfl,hq0,ML,uY,BR⟩;have dW:=aU.kept BR (lD aU jT (by decide));have oN:=aZ nH BR;have wM:=oN.size;have Me:Nm.dP ls<=300:=by omega
 clear ML aU jT nH BR bV
 by_cases hq:0<q
 ·go_wp2_with (at_builtin;refine wpList_append_own _ rfl (.tmp 23) (.tmp 24) 58 rfl w.heap.size 9 i0 (.string ByteArray.empty) 1 16 Tryz.underlying58 hi iJ fP fZ rfl (by decide) _ _ _ rfl (dW.alloc _) ⟨w2.heap.size,0,none⟩ 1 1 [.string ⟨#[101,120,97,109,112,108,101]⟩] rfl rfl (cell_one_new _ _ _) (Nm.one_cell _ rfl) (by have:=HLK.out;unfold maxLen;omega) (by have:=HLK.out;omega) (by simp;omega) ?_;intro vb wb jC qK Fv;clear Fv;have R:=zR dW uY oN BG iB jC qK;clear jC qK)
  have hw9:Nm.dP (ls++[⟨#[101,120,97,109,112,108,101]⟩])<=400:=by
   rw [vU];have:(ByteArray.mk #[101,120,97,109,112,108,101]).size=7:=rfl;omega
  obtain⟨RN,hsC,Jl⟩:=R;generalize ls++[⟨#[101,120,97,109,112,108,101]⟩]=ls2 at RN hw9;clear dW uY oN;refine(aY g a n cap 20 _ hsC (by decide)).mono ?_;rintro e wn ⟨p,rfl,SS,yK,hsN,hgN⟩;have Ns:=RN.kept hgN (lD RN hsC (by decide));have Gs:=aZ Jl hgN;have aGl:=Gs.size;clear yK RN hsC Jl hgN
  by_cases hp:p=0
  ·subst hp;clear Ns;go_wp2_with fail
   go_loopg [3] 300 (fun gh v wr=>∃ DR:List ByteArray,wr.ownsRow w.heap.size 9 1 v DR.length (DR.map Value.string)∧Nm.dP DR+gh=300∧Nm.dP DR<=252∧Src wr g a n cap∧w.grownBy wr (some g))
   case atStart=>exact⟨[],World.ownsRow_made wn #[] 0 aGl (by decide) rfl,by simp [Nm.dP],by simp [Nm.dP],bH hsN ((aK _ _).alloc (aN _) _),dR Gs _⟩
   obtain⟨DR,kD,hgh,hw3,qD,iA⟩:=hrel;have hl3:=Nm.gJ DR;clear hsN Gs aGl;go_wp2_with fail
   refine(cB _ DR _ (Nm.dX.aS kD) (by omega)).mono ?_;rintro e wj ⟨rfl,hbj⟩;have FE:=uL kD hbj;have hsj:=bH qD hbj;have hgj:=bM iA hbj;have aS7:=hgj.size;have hjs:=iH DR;have KA:=fun W hq=>cB u3 DR W hq (by omega)
   generalize ByteArray.mk (Nm.joinL DR).toArray=J at*;clear kD qD iA hbj
   by_cases bV:Nm.dP DR+1<190
   ·have hJ:(J.size:Int)<190:=by omega
    clear hjs KA;go_wp2_with (first|(go_at_call 11;refine(aY g a n cap 63 _ hsj (by decide)).mono ?_;rintro e w5 ⟨r,rfl,OD,rH,WP,PI⟩;have uR:=rH (by decide);have uZ:=FE.kept PI (lD FE hsj (by decide));have aM0:=aZ hgj PI;clear rH)|(go_at_call 57;refine(gN g a n cap _ _ WP (by omega) (by omega)).mono ?_;rintro e w6 ⟨x,rfl,hx,hs6,Sq⟩;have sU:=uZ.kept Sq (lD uZ WP (by decide));have WQ:=aZ aM0 Sq;have aM1:=WQ.size)|(at_builtin;refine wpList_append_own _ rfl (.tmp 34) (.tmp 40) 58 rfl w.heap.size 9 i0 (.string ByteArray.empty) 1 16 Tryz.underlying58 hi iJ fP fZ rfl (by decide) _ _ _ rfl (sU.alloc _) ⟨w6.heap.size,0,none⟩ 1 1 [.string x] rfl rfl (cell_one_new _ _ _) (Nm.one_cell _ rfl) (by unfold maxLen;omega) (by omega) (by simp;omega) ?_;intro vb wb FH wY Vj;clear Vj;have R7:=zR sU hs6 WQ BG iB FH wY;clear FH wY))
    have ZF:=vU DR x
    go_roundg (300-Nm.dP (DR++[x]))
    case measure=>omega
    exact⟨_,R7.1,by omega,by omega,R7.2.1,R7.2.2⟩
   have hJ:(190:Int)<=(J.size:Int):=by omega
   have hJ2:(J.size:Int)<=253:=by omega
   go_wp2_with fail
   refine(KA _ (Nm.dX.aS FE)).mono ?_;rintro e wk ⟨rfl,QZ⟩;have yC:=uL FE QZ;have hsk:=bH hsj QZ;have hgk:=bM hgj QZ;have aMp:=hgk.size;clear FE hsj hgj QZ
   by_cases xZ:J.size<=253∧191<=J.size
   ·have r1:(0:Int)<254-(J.size:Int):=by omega
    have r2:254-(J.size:Int)<=63:=by omega
    have r1':(0:Int)<255-(J.size:Int)-1:=by omega
    have r2':255-(J.size:Int)-1<=63:=by omega
    go_wp2_with (first|(go_at_call 57;refine(gN g a n cap _ _ hsk (by omega) (by omega)).mono ?_;rintro e w6 ⟨x,rfl,hx,hs6,Sq⟩;have sU:=yC.kept Sq (lD yC hsk (by decide));have WQ:=aZ hgk Sq;have aM1:=WQ.size)|(at_builtin;refine wpList_append_own _ rfl (.tmp 53) (.tmp 57) 58 rfl w.heap.size 9 i0 (.string ByteArray.empty) 1 16 Tryz.underlying58 hi iJ fP fZ rfl (by decide) _ _ _ rfl (sU.alloc _) ⟨w6.heap.size,0,none⟩ 1 1 [.string x] rfl rfl (cell_one_new _ _ _) (Nm.one_cell _ rfl) (by unfold maxLen;omega) (by omega) (by simp;omega) ?_;intro vb wb FH wY Vj;clear Vj;have R7:=zR sU hs6 WQ BG iB FH wY;clear FH wY))
    obtain⟨MR,hs8,Jm⟩:=R7;have ZF:=vU DR x;have hj8:=iH (DR++[x]);refine(cB _ (DR++[x]) _ (Nm.dX.aS MR) (by omega)).mono ?_;rintro e w9 ⟨rfl,tF⟩;have gZ:=uL MR tF;have DT:=bH hs8 tF;have iF:=bM Jm tF;have aM2:=fun V W hq=>cB V (DR++[x]) W hq (by omega)
    generalize ByteArray.mk (Nm.joinL (DR++[x])).toArray=J8 at*;have hJ8:(J8.size:Int)<=255:=by omega
    have HJ8:Hid (1<=J8.size∧J8.size<=1000):=by show _∧_;omega
    clear hj8 hjs;go_wp2_with fail
    refine(aM2 _ _ (Nm.dX.aS gZ)).mono ?_;rintro e w10 ⟨rfl,WR⟩;go_wp2;go_ret;exact⟨_,rfl,HJ8.out.1,HJ8.out.2,bH DT WR,bM iF WR⟩
   have r1:(63:Int)<255-(J.size:Int)-1:=by omega
   have r0:(0:Int)<255-(J.size:Int)-1:=by omega
   have r2:decide (255-(J.size:Int)-1<=63)=false:=by simp;omega
   go_wp2_with fail
   refine(KA _ (Nm.dX.aS yC)).mono ?_;rintro e w9 ⟨rfl,tF⟩;have gZ:=uL yC tF;have DT:=bH hsk tF;have iF:=bM hgk tF;have hJ8:(J.size:Int)<=255:=by omega
   have HJ8:Hid (1<=J.size∧J.size<=1000):=by show _∧_;omega
   clear hjs;go_wp2_with fail
   refine(KA _ (Nm.dX.aS gZ)).mono ?_;rintro e w10 ⟨rfl,WR⟩;go_wp2;go_ret;exact⟨_,rfl,HJ8.out.1,HJ8.out.2,bH DT WR,bM iF WR⟩
  have VQ:(p==0)=false:=by rw [dC];exact hp
  go_wp2_with fail
  refine(cB _ ls2 _ (Nm.dX.aS Ns) (by omega)).mono ?_;rintro e wz ⟨rfl,vY⟩;have hjz:=iH ls2;generalize ByteArray.mk (Nm.joinL ls2).toArray=J at*;have HJ8:Hid (1<=J.size∧J.size<=1000):=by show _∧_;omega
  clear hjz;go_wp2;go_ret;exact⟨_,rfl,HJ8.out.1,HJ8.out.2,bH hsN vY,bM Gs vY⟩
 have hq':q<=0:=by omega
 have hw9:Nm.dP ls<=400:=by omega
 have RN:=dW;have hsC:=uY;have Jl:=oN;clear dW uY oN;go_wp2_with fail
 refine(aY g a n cap 20 _ hsC (by decide)).mono ?_;rintro e wn ⟨p,rfl,SS,yK,hsN,hgN⟩;have Ns:=RN.kept hgN (lD RN hsC (by decide));have Gs:=aZ Jl hgN;have aGl:=Gs.size;clear yK RN hsC Jl hgN
 by_cases hp:p=0
 ·subst hp;clear Ns;go_wp2_with fail
  go_loopg [3] 300 (fun gh v wr=>∃ DR:List ByteArray,wr.ownsRow w.heap.size 9 1 v DR.length (DR.map Value.string)∧Nm.dP DR+gh=300∧Nm.dP DR<=252∧Src wr g a n cap∧w.grownBy wr (some g))
  case atStart=>exact⟨[],World.ownsRow_made wn #[] 0 aGl (by decide) rfl,by simp [Nm.dP],by simp [Nm.dP],bH hsN ((aK _ _).alloc (aN _) _),dR Gs _⟩
  obtain⟨DR,kD,hgh,hw3,qD,iA⟩:=hrel;have hl3:=Nm.gJ DR;clear hsN Gs aGl;go_wp2_with fail
  refine(cB _ DR _ (Nm.dX.aS kD) (by omega)).mono ?_;rintro e wj ⟨rfl,hbj⟩;have FE:=uL kD hbj;have hsj:=bH qD hbj;have hgj:=bM iA hbj;have aS7:=hgj.size;have hjs:=iH DR;have KA:=fun W hq=>cB u3 DR W hq (by omega)
  generalize ByteArray.mk (Nm.joinL DR).toArray=J at*;clear kD qD iA hbj
  by_cases bV:Nm.dP DR+1<190
  ·have hJ:(J.size:Int)<190:=by omega
   clear hjs KA;go_wp2_with (first|(go_at_call 11;refine(aY g a n cap 63 _ hsj (by decide)).mono ?_;rintro e w5 ⟨r,rfl,OD,rH,WP,PI⟩;have uR:=rH (by decide);have uZ:=FE.kept PI (lD FE hsj (by decide));have aM0:=aZ hgj PI;clear rH)|(go_at_call 57;refine(gN g a n cap _ _ WP (by omega) (by omega)).mono ?_;rintro e w6 ⟨x,rfl,hx,hs6,Sq⟩;have sU:=uZ.kept Sq (lD uZ WP (by decide));have WQ:=aZ aM0 Sq;have aM1:=WQ.size)|(at_builtin;refine wpList_append_own _ rfl (.tmp 34) (.tmp 40) 58 rfl w.heap.size 9 i0 (.string ByteArray.empty) 1 16 Tryz.underlying58 hi iJ fP fZ rfl (by decide) _ _ _ rfl (sU.alloc _) ⟨w6.heap.size,0,none⟩ 1 1 [.string x] rfl rfl (cell_one_new _ _ _) (Nm.one_cell _ rfl) (by unfold maxLen;omega) (by omega) (by simp;omega) ?_;intro vb wb FH wY Vj;clear Vj;have R7:=zR sU hs6 WQ BG iB FH wY;clear FH wY))
   have ZF:=vU DR x
   go_roundg (300-Nm.dP (DR++[x]))
   case measure=>omega
   exact⟨_,R7.1,by omega,by omega,R7.2.1,R7.2.2⟩
  have hJ:(190:Int)<=(J.size:Int):=by omega
  have hJ2:(J.size:Int)<=253:=by omega
  go_wp2_with fail
  refine(KA _ (Nm.dX.aS FE)).mono ?_;rintro e wk ⟨rfl,QZ⟩;have yC:=uL FE QZ;have hsk:=bH hsj QZ;have hgk:=bM hgj QZ;have aMp:=hgk.size;clear FE hsj hgj QZ
  by_cases xZ:J.size<=253∧191<=J.size
  ·have r1:(0:Int)<254-(J.size:Int):=by omega
   have r2:254-(J.size:Int)<=63:=by omega
   have r1':(0:Int)<255-(J.size:Int)-1:=by omega
   have r2':255-(J.size:Int)-1<=63:=by omega
   go_wp2_with (first|(go_at_call 57;refine(gN g a n cap _ _ hsk (by omega) (by omega)).mono ?_;rintro e w6 ⟨x,rfl,hx,hs6,Sq⟩;have sU:=yC.kept Sq (lD yC hsk (by decide));have WQ:=aZ hgk Sq;have aM1:=WQ.size)|(at_builtin;refine wpList_append_own _ rfl (.tmp 53) (.tmp 57) 58 rfl w.heap.size 9 i0 (.string ByteArray.empty) 1 16 Tryz.underlying58 hi iJ fP fZ rfl (by decide) _ _ _ rfl (sU.alloc _) ⟨w6.heap.size,0,none⟩ 1 1 [.string x] rfl rfl (cell_one_new _ _ _) (Nm.one_cell _ rfl) (by unfold maxLen;omega) (by omega) (by simp;omega) ?_;intro vb wb FH wY Vj;clear Vj;have R7:=zR sU hs6 WQ BG iB FH wY;clear FH wY))
   obtain⟨MR,hs8,Jm⟩:=R7;have ZF:=vU DR x;have hj8:=iH (DR++[x]);refine(cB _ (DR++[x]) _ (Nm.dX.aS MR) (by omega)).mono ?_;rintro e w9 ⟨rfl,tF⟩;have gZ:=uL MR tF;have DT:=bH hs8 tF;have iF:=bM Jm tF;have aM2:=fun V W hq=>cB V (DR++[x]) W hq (by omega)
   generalize ByteArray.mk (Nm.joinL (DR++[x])).toArray=J8 at*;have hJ8:(J8.size:Int)<=255:=by omega
   have HJ8:Hid (1<=J8.size∧J8.size<=1000):=by show _∧_;omega
   clear hj8 hjs;go_wp2_with fail
   refine(aM2 _ _ (Nm.dX.aS gZ)).mono ?_;rintro e w10 ⟨rfl,WR⟩;go_wp2;go_ret;exact⟨_,rfl,HJ8.out.1,HJ8.out.2,bH DT WR,bM iF WR⟩
  have r1:(63:Int)<255-(J.size:Int)-1:=by omega
  have r0:(0:Int)<255-(J.size:Int)-1:=by omega
  have r2:decide (255-(J.size:Int)-1<=63)=false:=by simp;omega
  go_wp2_with fail
  refine(KA _ (Nm.dX.aS yC)).mono ?_;rintro e w9 ⟨rfl,tF⟩;have gZ:=uL yC tF;have DT:=bH hsk tF;have iF:=bM hgk tF;have hJ8:(J.size:Int)<=255:=by omega
  have HJ8:Hid (1<=J.size∧J.size<=1000):=by show _∧_;omega
  clear hjs;go_wp2_with fail
  refine(KA _ (Nm.dX.aS gZ)).mono ?_;rintro e w10 ⟨rfl,WR⟩;go_wp2;go_ret;exact⟨_,rfl,HJ8.out.1,HJ8.out.2,bH DT WR,bM iF WR⟩
 have VQ:(p==0)=false:=by rw [dC];exact hp
 go_wp2_with fail
 refine(cB _ ls _ (Nm.dX.aS Ns) (by omega)).mono ?_;rintro e wz ⟨rfl,vY⟩;have hjz:=iH ls;generalize ByteArray.mk (Nm.joinL ls).toArray=J at*;have HJ8:Hid (1<=J.size∧J.size<=1000):=by show _∧_;omega
 clear hjz;go_wp2;go_ret;exact⟨_,rfl,HJ8.out.1,HJ8.out.2,bH hsN vY,bM Gs vY⟩
theorem jE(o:ByteArray)(v:Value)(ps:List Zp)(w:World)(h:gI w v ps)(hs:rG ps<=1048576)(hl:ps.length<=1048576):
 Calls Tryz.prog 32 #[.agg #[.string o,v]] w fun e w'=>∃ u,e=.returned u∧w'.ownsRow w.heap.size 29 5 u (aD ps).length (bK (aD ps))∧Below w.heap.size w w':=by
 obtain⟨RS,Vk⟩:∃ R,R=aD ps:=⟨_,rfl⟩;rw [<- Vk];unfold aD at Vk;have jF:=(aK w.heap.size w).alloc (aN _) (.cells #[.string o,v] 25);have MP:=aH w #[.string o,v] 25;have eF:=h.below jF;have CO:=h;have aCw:(w.alloc (.cells #[.string o,v] 25)).heap.size=w.heap.size+1:=by simp
 have o0:=World.ownsRow_lit (base:=(w.alloc (.cells #[.string o,v] 25)).heap.size) (e:=29) (size:=5) (w.alloc (.cells #[.string o,v] 25)) #[] 0 (aN _) (by decide) rfl;obtain⟨⟨_,a,cap,rfl,gY,kK,_⟩,_⟩:=h;unfold maxLen at kK
 by_cases WH:500<ps.length
 ·have aGj:(500:Int)<(ps.length:Int):=by omega
  obtain rfl:RS=[]:=by rw [Vk,if_pos (.inl WH)]
  clear Vk eF;go_enter Tryz.func32,Tryz.ntmps32;go_wp2;go_ret;refine⟨_,rfl,?_,jF.alloc jF.size _⟩;rw [aCw] at o0;exact fQ o0 (by omega)
 have aGj:(ps.length:Int)<=500:=by omega
 have aM3:=fun W (hW:Below (w.alloc (.cells #[.string o,.slice a ps.length cap] 25)).heap.size (w.alloc (.cells #[.string o,.slice a ps.length cap] 25)) W)=>MQ o (.slice a ps.length cap) ps W (eF.below hW) hs hl
 by_cases hd:500<jD ps
 ·have ZE:(500:Int)<(jD ps:Int):=by omega
  obtain rfl:RS=[]:=by rw [Vk,if_pos (.inr hd)]
  clear Vk eF;generalize jD ps=D at*;go_enter Tryz.func32,Tryz.ntmps32;go_wp2_with (go_at_call 31;refine(aM3 _ ((aK _ _).alloc (aN _) _)).mono ?_;rintro e w1 ⟨rfl,fF⟩)
  go_ret;refine⟨_,rfl,?_,Nm.aC (jF.alloc jF.size _) fF⟩;have o1:=own_below o0 fF;rw [aCw] at o1;exact fQ o1 (by omega)
 have ZE:(jD ps:Int)<=500:=by omega
 have aGm:RS=dI ps:=by rw [Vk,if_neg (by omega)]
 clear Vk;have hdd:∀ k,jD (ps.take k)<=500:=fun k=>by have:=vN ps k;omega
 have Gn:=fun k=>uK (ps.take k)
 have xV:=fun(k:Nat) (x:Zp) (h:ps[k]? =some x)=>MO h
 have Vl:=fun(k:Nat) (x:Zp) (h:ps[k]? =some x)=>GY ps k x h
 have JZ:=aM3;generalize hDP:jD ps=D at JZ ZE;go_enter Tryz.func32,Tryz.ntmps32;go_wp2_with (go_at_call 31;refine(JZ _ ((aK _ _).alloc (aN _) _)).mono ?_;rintro e w1 ⟨rfl,fF⟩)
 have aPb:=aB (aR MP (.cells #[] 29)) fF;have xL:=Nm.aC (jF.alloc jF.size (.cells #[] 29)) fF;have o1:=own_below o0 fF;have aI9:Below (w.alloc (.cells #[.string o,.slice a ps.length cap] 25)).heap.size (w.alloc (.cells #[.string o,.slice a ps.length cap] 25)) w1:=Nm.aC ((aK _ _).alloc (aN _) _) fF;have Df:=eF.below aI9;rw [aCw] at o1;clear aM3 JZ fF aI9 o0 eF MP jF aCw;obtain⟨wb,hwb⟩:∃ wb,wb=w1:=⟨w1,rfl⟩;have hw1b:w.heap.size+1<=w1.heap.size:=bU aPb
 go_loopw [3,4] (fun vo vi wr=>∃ k:Nat,k<=ps.length∧vi=.int .i64 k∧wr.ownsRow (w.heap.size+1) 29 5 vo (dI (ps.take k)).length (bK (dI (ps.take k)))∧Below (w.heap.size+1) w1 wr) (fun _ vi _=>ps.length-(intOf vi).toNat)
 case atStart=>exact⟨0,dO _,rfl,o1,aK _ _⟩
 obtain⟨k,hk,rfl,oO,aJ⟩:=hrel;clear o1;have hW:Below w.heap.size w wr:=xL.trans (aJ.mono (by omega));have hbr:bG wr w.heap.size #[.string o,.slice a ps.length cap] 25:=(aJ.block _ (by omega)).trans aPb;have q1:wr.cell? ⟨w.heap.size,1,none⟩=some (.slice a ps.length cap):=(aA hbr 1).trans rfl;have hwsz:w.heap.size+1<=wr.heap.size:=bU hbr
 by_cases bV:k<ps.length
 ·obtain⟨x,nI⟩:∃ x,ps[k]? =some x:=⟨_,bY bV⟩;obtain⟨⟨_,a',cap',hv,_,_,hc⟩,Jk⟩:=CO.below hW;simp only [iG] at hv;obtain⟨rfl,_,rfl⟩:=hv;obtain⟨b,off,rfl,aL⟩:=hc (by omega);obtain⟨c0,c1,c2,c3⟩:=lG aL nI;have wX:=bP nI;have DZ:x.1.da.length<=1048576:=by have:=Lm ps x wX;unfold zs1 at this;omega
  have jW:=yM x.1 x.2 wr (Jk x wX) DZ;have nA:=xV k x nI;have hld:=Vl k x nI;have IM:=hdd (k+1);have hl0:=Gn k;have CX:=qP x.1;have KA:=fun U W (h1:W.ownsRow (w.heap.size+1) 29 5 _ (dI (ps.take k)).length (bK (dI (ps.take k)))) (h2:W.ownsRow wr.heap.size 29 5 U (fA x.1).length (bK (fA x.1))) hB=>Nj _ U (dI (ps.take k)) (fA x.1) (w.heap.size+1) wr.heap.size W h1 h2 hB (fun g hg=>(oO.lt g hg).2) (by omega)
  rw [<- nA] at KA;have i1:(0:Int)<=(k:Int):=by omega
  have i2:(k:Int)<(ps.length:Int):=by omega
  clear aL hc Jk CO xV Vl Gn hdd nA hld hl0 CX wX nI;generalize dI (ps.take k)=R0 at*;generalize hR1:dI (ps.take (k+1))=R1 at*;generalize fA x.1=R2 at*;obtain⟨⟨o1,ty,tt,da⟩,dv⟩:=x;simp only at c0 c1 c2 c3 jW
  obtain⟨oa,oc,hov⟩:=aT oO;subst hov;go_wp2_with (first|(go_at_call 37;refine jW.mono ?_;rintro e w2 ⟨u,rfl,hu,iE⟩;have oO2:=own_below oO iE)|(go_at_call 70;refine(KA _ _ oO2 hu (by have:=iE.size;omega)).mono ?_;rintro e w3 ⟨u3,rfl,hu3,DN⟩))
  go_roundw
  case rel=>exact⟨k+1,by omega,by go_num,by rw [hR1];exact hu3,(aJ.trans (iE.mono (by omega))).trans DN⟩
  simp [intOf];omega
 have nS:k=ps.length:=by omega
 subst nS;have i2:(ps.length:Int)<=(ps.length:Int):=by omega
 rw [List.take_length,<- aGm] at oO;clear CO xV Vl Gn hdd aGm;go_wp2;go_ret;exact⟨_,rfl,fQ oO (by omega),hW⟩
def zTs:List Nat:=[16,13,33,35,257,99]
def Nt(c:UInt8):Nat:=if c=110 then 1000 else if c=115 then 771 else 300
def wtZ(cs:List UInt8):Nat:=(cs.map Nt).sum
theorem wZ(cs:List UInt8)(c:UInt8):wtZ (cs++[c])=wtZ cs+Nt c:=by simp [wtZ]
theorem aGn(cs:List UInt8)(k:Nat):wtZ (cs.take k)<=wtZ cs:=by
 have e:wtZ cs=wtZ (cs.take k)+wtZ (cs.drop k):=by
  simp only [wtZ];rw [<- List.sum_append,<- List.map_append,List.take_append_drop]
 omega
theorem aPc{t:Nat}(h:t∈zTs):wtZ (Dt.mY t).data.toList<=3100∧∀ c∈(Dt.mY t).data.toList,c≠109:=by
 simp only [zTs,List.mem_cons,List.not_mem_nil,or_false] at h
 rcases h with rfl|rfl|rfl|rfl|rfl|rfl<;>decide
theorem Gt(t:Nat)(ht:t∈zTs)(g:Nat)(a:Option Addr)(n cap:Nat)(w:World)(h:Src w g a n cap):
 Calls Tryz.prog 93 #[.pointer (some ⟨g,0,none⟩),.int .i64 (t:Int)] w fun e w'=>∃ d:ByteArray,e=.returned (.string d)∧d.size<=3100∧Src w' g a n cap∧w.grownBy w' (some g):=by
 have EZ:=EO t;obtain⟨hf1,OG⟩:=UC t;obtain⟨hwt,lT⟩:=aPc ht;generalize Dt.mY t=f at*;go_enter Tryz.func93,Tryz.ntmps93;go_wp2_with (go_at_call 98;refine(EZ _).mono ?_;rintro e wx ⟨rfl,hwx⟩;obtain rfl:=hwx.symm;clear hwx)
 go_loopw [6,7] (fun o i wr=>∃ (k:Nat) (D:ByteArray),k<=f.size∧i=.int .i64 k∧o=.string D∧D.size<=wtZ (f.data.toList.take k)∧Src wr g a n cap∧w.grownBy wr (some g)) (fun _ i _=>f.size-(intOf i).toNat)
 case atStart=>exact⟨0,⟨#[]⟩,dO _,rfl,rfl,dO _,h,World.grownBy.refl _ _⟩
 obtain⟨k,D,hk,rfl,rfl,pQ,jT,nH⟩:=hrel;clear h EZ;have hwk:wtZ (f.data.toList.take k)<=3100:=iL (aGn _ k) hwt
 by_cases bV:k<f.size
 ·have KD:(k:Int)<(f.size:Int):=by omega
  have HT:Hid (f.data.toList.take (k+1)=f.data.toList.take k++[f[k]]):=by
   show _=_
   rw [List.take_add_one,Nm.iZ bV];rfl
  have hnk:f[k]≠109:=lT _ (by
   have:=Nm.iZ bV
   exact bP this)
  clear lT
  rcases OG k bV with hc|hc|hc|hc|hc|hc|hc
  ·skip
   have hv:f[k].toNat=110:=by rw [hc];rfl
   have q0:((f[k].toNat:Int)==110)=true:=by rw [beq_iff_eq];omega
   have hw:Nt f[k]=1000:=by rw [hc];rfl
   clear OG hnk
   go_wp2_with (
    go_at_call 94
    refine(RJ g a n cap _ jT).mono ?_;rintro e w3 ⟨x,rfl,FC,VE,Fy,iA⟩;have Fz:=aZ nH iA
    have Ev:D.size+x.size<=9223372036854775807:=by omega)
   go_roundw
   case rel=>exact⟨k+1,D++x,by omega,by go_num,rfl,by rw [HT.out,wZ,jV];omega,Fy,Fz⟩
   simp [intOf];omega
  ·skip
   have hv:f[k].toNat=98:=by rw [hc];rfl
   have q0:((f[k].toNat:Int)==110)=false:=by rw [dC];omega
   have q1:((f[k].toNat:Int)==98)=true:=by rw [beq_iff_eq];omega
   have hw:Nt f[k]=300:=by rw [hc];rfl
   clear OG hnk;go_wp2_with fail
   refine(aY g a n cap 3 _ jT (by decide)).mono ?_;rintro e w3 ⟨r,rfl,OD,rH,qD,iA⟩;have Vm:=aZ nH iA
   by_cases hz:r=0
   ·subst hz
    go_wp2_with (
     go_at_call 57
     refine(gN g a n cap 1 _ qD (by decide) (by decide)).mono ?_;rintro e w4 ⟨x,rfl,hx,Fy,QY⟩;have Fz:=aZ Vm QY
     have Ev:D.size+x.size<=9223372036854775807:=by omega)
    go_roundw
    case rel=>exact⟨k+1,D++x,by omega,by go_num,rfl,by rw [HT.out,wZ,jV];omega,Fy,Fz⟩
    simp [intOf];omega
   have hz':(r==0)=false:=by rw [dC];exact hz
   have Fy:=qD;have Fz:=Vm;have FC:(⟨#[0]⟩:ByteArray).size=1:=rfl;have Ev:D.size+1<=9223372036854775807:=by omega
   go_wp2;go_roundw
   case rel=>exact⟨k+1,D++(⟨#[0]⟩:ByteArray),by omega,by go_num,rfl,by rw [HT.out,wZ,jV];omega,Fy,Fz⟩
   simp [intOf];omega
  ·skip
   have hv:f[k].toNat=116:=by rw [hc];rfl
   have q0:((f[k].toNat:Int)==110)=false:=by rw [dC];omega
   have q1:((f[k].toNat:Int)==98)=false:=by rw [dC];omega
   have q2:((f[k].toNat:Int)==116)=true:=by rw [beq_iff_eq];omega
   have hw:Nt f[k]=300:=by rw [hc];rfl
   clear OG hnk
   go_wp2_with (
    go_at_call 124
    refine(BM g a n cap _ jT).mono ?_;rintro e w3 ⟨x,rfl,FC,VE,Fy,iA⟩;have Fz:=aZ nH iA
    have Ev:D.size+x.size<=9223372036854775807:=by omega)
   go_roundw
   case rel=>exact⟨k+1,D++x,by omega,by go_num,rfl,by rw [HT.out,wZ,jV];omega,Fy,Fz⟩
   simp [intOf];omega
  ·skip
   have hv:f[k].toNat=115:=by rw [hc];rfl
   have q0:((f[k].toNat:Int)==110)=false:=by rw [dC];omega
   have q1:((f[k].toNat:Int)==98)=false:=by rw [dC];omega
   have q2:((f[k].toNat:Int)==116)=false:=by rw [dC];omega
   have q3:((f[k].toNat:Int)==115)=true:=by rw [beq_iff_eq];omega
   have hw:Nt f[k]=771:=by rw [hc];rfl
   clear OG hnk;go_wp2_with fail
   refine(aY g a n cap 3 _ jT (by decide)).mono ?_;rintro e w3 ⟨r,rfl,OD,rH,qD,iA⟩;have uR:=rH (by decide);obtain⟨r,rfl⟩:=Int.eq_ofNat_of_zero_le OD;have Vm:=aZ nH iA;clear rH iA;go_wp2
   go_loopw [6,9] (fun o i wr=>∃ (j:Nat) (y:ByteArray),j<=1+r∧i=.int .i64 j∧o=.string (D++y)∧y.size<=257*j∧Src wr g a n cap∧w.grownBy wr (some g)) (fun _ i _=>1+r-(intOf i).toNat)
   case atStart=>exact⟨0,ByteArray.empty,by omega,rfl,by simp,by decide,qD,Vm⟩
   obtain⟨j,y,hj,rfl,rfl,hy,WP,PI⟩:=hrel;clear qD Vm
   by_cases hlj:j<1+r
   ·have hlj':(j:Int)<1+(r:Int):=by omega
    go_wp2_with (
     go_at_call 124
     refine(BM g a n cap _ WP).mono ?_;rintro e w6 ⟨x,rfl,FC,VE,hs6,Sq⟩;have aS8:=aZ PI Sq
     have Ev:(D++y).size+x.size<=9223372036854775807:=by rw [jV];omega)
    go_roundw
    case rel=>exact⟨j+1,y++x,by omega,by go_num,by rw [ByteArray.append_assoc],by rw [jV];omega,hs6,aS8⟩
    simp [intOf];omega
   obtain rfl:j=1+r:=by omega
   have Fy:=WP;have Fz:=PI;go_wp2;go_roundw
   case rel=>exact⟨k+1,D++y,by omega,by go_num,rfl,by rw [HT.out,wZ,jV];omega,Fy,Fz⟩
   simp [intOf];omega
  ·skip
   have hv:f[k].toNat=99:=by rw [hc];rfl
   have q0:((f[k].toNat:Int)==110)=false:=by rw [dC];omega
   have q1:((f[k].toNat:Int)==98)=false:=by rw [dC];omega
   have q2:((f[k].toNat:Int)==116)=false:=by rw [dC];omega
   have q3:((f[k].toNat:Int)==115)=false:=by rw [dC];omega
   have q4:((f[k].toNat:Int)==99)=true:=by rw [beq_iff_eq];omega
   have hw:Nt f[k]=300:=by rw [hc];rfl
   clear OG hnk
   go_wp2_with (
    go_at_call 124
    refine(BM g a n cap _ jT).mono ?_;rintro e w3 ⟨x,rfl,FC,VE,Fy,iA⟩;have Fz:=aZ nH iA;have aKe:(1:Int)<=(x.size:Int):=by omega
    have hxe:(x.extract 1 x.size).size=x.size-1:=by simp
    have hd5:(⟨#[5]⟩:ByteArray).size=1:=rfl
    have hdi:(⟨#[105,115,115,117,101]⟩:ByteArray).size=5:=rfl)
   go_roundw
   case rel=>exact⟨k+1,D++(⟨#[5]⟩++(⟨#[105,115,115,117,101]⟩++x.extract 1 x.size)),by omega,by go_num,by rw [ByteArray.append_assoc,ByteArray.append_assoc],by rw [HT.out,wZ,jV,jV,jV];omega,Fy,Fz⟩
   simp [intOf];omega
  ·exact absurd hc hnk
  skip
  have hv:f[k].toNat=42:=by rw [hc];rfl
  have q0:((f[k].toNat:Int)==110)=false:=by rw [dC];omega
  have q1:((f[k].toNat:Int)==98)=false:=by rw [dC];omega
  have q2:((f[k].toNat:Int)==116)=false:=by rw [dC];omega
  have q3:((f[k].toNat:Int)==115)=false:=by rw [dC];omega
  have q4:((f[k].toNat:Int)==99)=false:=by rw [dC];omega
  have q5:((f[k].toNat:Int)==109)=false:=by rw [dC];omega
  have q6:((f[k].toNat:Int)==42)=true:=by rw [beq_iff_eq];omega
  have hw:Nt f[k]=300:=by rw [hc];rfl
  clear OG hnk
  go_wp2_with first
   |(
    go_at_call 11
    refine(aY g a n cap 12 _ jT (by decide)).mono ?_;rintro e w3 ⟨r,rfl,OD,rH,qD,iA⟩;have uR:=rH (by decide)
    have Vm:=aZ nH iA)
   |(
    go_at_call 57
    refine(gN g a n cap r _ qD (by omega) (by omega)).mono ?_;rintro e w4 ⟨x,rfl,hx,Fy,QY⟩;have Fz:=aZ Vm QY
    have Ev:D.size+x.size<=9223372036854775807:=by omega)
  go_roundw
  case rel=>exact⟨k+1,D++x,by omega,by go_num,rfl,by rw [HT.out,wZ,jV];omega,Fy,Fz⟩
  simp [intOf];omega
 obtain rfl:k=f.size:=by omega
 have pJ:f.data.toList.take f.size=f.data.toList:=List.take_of_length_le (by simp);rw [pJ] at pQ;have i1:(f.size:Int)<=(f.size:Int):=by omega
 go_wp2;go_ret;exact⟨_,rfl,by omega,jT,nH⟩
theorem Aw(g:Nat)(a:Option Addr)(n cap:Nat)(w:World)(h:Src w g a n cap):
 Calls Tryz.prog 59 #[.pointer (some ⟨g,0,none⟩)] w fun e w'=>∃ s:ByteArray,e=.returned (.string s)∧(1<=s.size∧s.size<=4)∧Src w' g a n cap∧w.grownBy w' (some g):=by
 have TR:=fun(x:Int) (W:World)=>EK x W
 have nJ:∀ c:UInt8,(ByteArray.mk #[c]).size=1:=fun _=>rfl
 have oI:(ByteArray.mk #[110,115]).size=2:=rfl;go_enter Tryz.func59,Tryz.ntmps59;go_wp2_with fail
 refine(aY g a n cap 12 _ h (by decide)).mono ?_;rintro e w1 ⟨r,rfl,OD,rH,jT,nH⟩;have uR:=rH (by decide);clear rH h
 rcases(by omega:r=0∨r=1∨r=2∨r=3∨r=4∨r=5∨6<=r) with rfl|rfl|rfl|rfl|rfl|rfl|h6
 ·go_wp2;go_ret;exact⟨_,rfl,⟨by decide,by decide⟩,jT,nH⟩
 ·go_wp2_with (first|(go_at_call 11;refine(aY g a n cap 4 _ jT (by decide)).mono ?_;rintro e w2 ⟨q,rfl,hq0,ML,uY,BR⟩;have Aq:=ML (by decide);clear ML)|(go_at_call 57;refine(gN g a n cap (1+q) _ uY (by omega) (by omega)).mono ?_;rintro e w3 ⟨s3,rfl,qD,VV,Fu⟩))
  go_ret;exact⟨_,rfl,⟨by omega,by omega⟩,VV,aZ (aZ nH BR) Fu⟩
 ·go_wp2;go_ret;exact⟨_,rfl,⟨by decide,by decide⟩,jT,nH⟩
 ·go_wp2;go_ret;exact⟨_,rfl,⟨by decide,by decide⟩,jT,nH⟩
 ·go_wp2;go_ret;exact⟨_,rfl,⟨by decide,by decide⟩,jT,nH⟩
 ·go_wp2_with (go_at_call 11;refine(aY g a n cap 3 _ jT (by decide)).mono ?_;rintro e w2 ⟨q,rfl,hq0,ML,uY,BR⟩;have Aq:=ML (by decide);clear ML)
  go_ret;exact⟨_,rfl,⟨by rw [jV,oI,nJ];decide,by rw [jV,oI,nJ];decide⟩,bH uY ((aK _ _).alloc (aN _) _),dR (aZ nH BR) _⟩
 go_wp2_with (go_at_call 11;refine(aY g a n cap 4 _ jT (by decide)).mono ?_;rintro e w2 ⟨q,rfl,hq0,ML,uY,BR⟩;have Aq:=ML (by decide);clear ML)
 go_ret;exact⟨_,rfl,⟨by rw [nJ];decide,by rw [nJ];decide⟩,bH uY ((aK _ _).alloc (aN _) _),dR (aZ nH BR) _⟩
