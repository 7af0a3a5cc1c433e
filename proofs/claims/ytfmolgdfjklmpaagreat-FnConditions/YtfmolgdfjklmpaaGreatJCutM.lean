import Derived.Test.YtfmolgdfjklmpaaGreatJMath
import Derived.Test.YtfmolgdfjklmpaaGreatRows
import Derived.WalkSpells
import Derived.WalkLawsBesides
import Derived.RegionTactic
import Derived.ChangeAlike
import Derived.BigRegion
import Derived.RangeFuncNested
import Derived.RangeFuncBound
import Derived.RangeFuncCalls
import Derived.RangeFuncLeaves
import Derived.Shelf.Abstract
import Derived.Shelf.RegionOpen
import Derived.WalkKit
import Derived.OwnWalkIn
import Derived.TacticsInMore
import Derived.LoopNIn
import Derived.LoopIn
import Derived.BigQuiet
import Derived.Deep.QuietTactic
import Derived.OpenShut
namespace Go.Proofs.YtfmolgdfjklmpaaGreat
open Go.RowKit
def cutCode(t:Int)(d:ByteArray):Int:=
 if t<0∨65535<t then 6 else if 65535<d.size then 7 else if(Dt.spans (Dt.implP t) 0 d).isSome then 0 else 7
def cutS(t:Int)(d:ByteArray):Option (List (Nat×Nat)):=if t<0∨65535<t then none else if 65535<d.size then none else Dt.spans (Dt.implP t) 0 d
def spanCells(sp:List (Nat×Nat)):List Value:=sp.flatMap fun s=>[.int .i64 (s.1:Int),.int .i64 (s.2:Int)]
theorem spanCells_append(a b:List (Nat×Nat)):spanCells (a++b)=spanCells a++spanCells b:=by simp [spanCells]
def CAt(fs:List Dt.Pc)(d:ByteArray)(sp:List (Nat×Nat))(r:List Dt.Pc)(a:Nat):Prop:=
 Dt.spans fs 0 d=(Dt.spans r a (d.extract a d.size)).map (fun t=>sp++t)
theorem cat_start(fs:List Dt.Pc)(d:ByteArray):CAt fs d [] fs 0:=by simp [CAt]
theorem cat_end{fs:List Dt.Pc}{d:ByteArray}{sp:List (Nat×Nat)}{a:Nat}(h:CAt fs d sp [] a)(h0:d.size<=a):Dt.spans fs 0 d=some sp:=by
 rw [h,Dt.spans,if_pos (by simp;omega)];simp
theorem cat_left{fs:List Dt.Pc}{d:ByteArray}{sp:List (Nat×Nat)}{a:Nat}(h:CAt fs d sp [] a)(h0:a<d.size):Dt.spans fs 0 d=none:=by
 rw [h,Dt.spans,if_neg (by simp;omega)];rfl
theorem cat_none{fs r:List Dt.Pc}{p:Dt.Pc}{d:ByteArray}{sp:List (Nat×Nat)}{a:Nat}(h:CAt fs d sp (p::r) a)(h0:Dt.sz p (d.extract a d.size)=none):Dt.spans fs 0 d=none:=by
 rw [h,Dt.spans,h0];rfl
theorem cat_step{fs r:List Dt.Pc}{p:Dt.Pc}{d:ByteArray}{sp:List (Nat×Nat)}{a n:Nat}(h:CAt fs d sp (p::r) a)(ha:a<=d.size)(h0:Dt.sz p (d.extract a d.size)=some n):
 CAt fs d (sp++if p.isN then [(a,a+n)] else []) r (a+n)∧a+n<=d.size:=by
 have hn:=Dt.sz_le h0;have hz:(d.extract a d.size).size=d.size-a:=by simp
 refine⟨?_,by omega⟩;rw [CAt,h,Dt.spans,h0,Option.map_map,Dt.ext_ext (by omega) (Nat.le_refl _)];congr 1;funext t
 cases p.isN<;>simp
theorem code_type{t:Int}{d:ByteArray}(h:t<0∨65535<t):cutCode t d=6∧cutS t d=none:=by
 rw [cutCode,cutS,if_pos h,if_pos h];exact⟨rfl,rfl⟩
theorem code_long{t:Int}{d:ByteArray}(h:¬(t<0∨65535<t))(h1:65535<d.size):cutCode t d=7∧cutS t d=none:=by
 rw [cutCode,cutS,if_neg h,if_neg h,if_pos h1,if_pos h1];exact⟨rfl,rfl⟩
theorem code_none{t:Int}{d:ByteArray}(h:¬(t<0∨65535<t))(h1:¬65535<d.size)(h2:Dt.spans (Dt.implP t) 0 d=none):cutCode t d=7∧cutS t d=none:=by
 rw [cutCode,cutS,if_neg h,if_neg h,if_neg h1,if_neg h1,h2];exact⟨rfl,rfl⟩
theorem code_some{t:Int}{d:ByteArray}{sp:List (Nat×Nat)}(h:¬(t<0∨65535<t))(h1:¬65535<d.size)(h2:Dt.spans (Dt.implP t) 0 d=some sp):cutCode t d=0∧cutS t d=some sp:=by
 rw [cutCode,cutS,if_neg h,if_neg h,if_neg h1,if_neg h1,h2];exact⟨rfl,rfl⟩
theorem implP_len(t:Int):(Dt.implP t).length<=5:=by
 unfold Dt.implP
 repeat' split
 all_goals simp
end Go.Proofs.YtfmolgdfjklmpaaGreat
namespace Go.Proofs.YtfmolgdfjklmpaaGreat
open Go.RowKit
def digD(c:UInt8):Bool:=decide (48<=c.toNat)&&decide (c.toNat<=57)
def letD(c:UInt8):Bool:=decide (97<=(Nm.low c).toNat)&&decide ((Nm.low c).toNat<=122)
theorem alnum_or(c:UInt8):Dt.alnumB c=(digD c||letD c):=by
 unfold Dt.alnumB digD letD Nm.low;have hc:=c.toNat_lt
 by_cases h:65<=c.toNat∧c.toNat<=90
 ·rw [if_pos h];have e:(UInt8.ofNat (c.toNat+32)).toNat=c.toNat+32:=by simp;omega
  rw [e,Bool.eq_iff_iff];simp
  omega
 ·rw [if_neg h,Bool.eq_iff_iff];simp
  omega
set_option maxRecDepth 100000 in
set_option maxHeartbeats 400000 in
theorem isDigitD_any(c:UInt8)(w:World):
 Calls Tryz.prog 257 #[.int .u8 c.toNat] w fun e w'=>e=.returned (.bool (digD c))∧w'=w:=by
 by_cases h1:48<=c.toNat
 ·have d1:decide ((48:Int)<=(c.toNat:Int))=true:=by simp;omega
  have HE:Hid (digD c=decide ((c.toNat:Int)<=57)):=by
   show _=_
   rw [digD,decide_eq_true h1,Bool.true_and,Bool.eq_iff_iff]
   simp;omega
  go_enter Tryz.func257,Tryz.ntmps257;go_wp2;go_ret;rw [HE.out];exact⟨rfl,rfl⟩
 ·have d1:decide ((48:Int)<=(c.toNat:Int))=false:=by simp;omega
  have HE:Hid (digD c=false):=by
   show _=_
   rw [digD,decide_eq_false h1];rfl
  go_enter Tryz.func257,Tryz.ntmps257;go_wp2;go_ret;rw [HE.out];exact⟨rfl,rfl⟩
set_option maxRecDepth 100000 in
set_option maxHeartbeats 400000 in
theorem isLetter_any(c:UInt8)(w:World):
 Calls Tryz.prog 258 #[.int .u8 c.toNat] w fun e w'=>e=.returned (.bool (letD c))∧w'=w:=by
 have hcall:=foldByte_any c
 by_cases h1:97<=(Nm.low c).toNat
 ·have HE:Hid (letD c=decide (((Nm.low c).toNat:Int)<=122)):=by
   show _=_
   rw [letD,decide_eq_true h1,Bool.true_and,Bool.eq_iff_iff]
   simp;omega
  have d1:decide ((97:Int)<=((Nm.low c).toNat:Int))=true:=by simp;omega
  go_enter Tryz.func258,Tryz.ntmps258;go_wp2_with (go_at_call 133;refine(hcall _).mono ?_;rintro e w1 ⟨rfl,rfl⟩)
  go_ret;rw [HE.out];exact⟨rfl,rfl⟩
 ·have d1:decide ((97:Int)<=((Nm.low c).toNat:Int))=false:=by simp;omega
  have HE:Hid (letD c=false):=by
   show _=_
   rw [letD,decide_eq_false h1];rfl
  go_enter Tryz.func258,Tryz.ntmps258;go_wp2_with (go_at_call 133;refine(hcall _).mono ?_;rintro e w1 ⟨rfl,rfl⟩)
  go_ret;rw [HE.out];exact⟨rfl,rfl⟩
def tagT(t:ByteArray):Bool:=t.data.toList.all Dt.alnumB&&(decide (0<t.size)&&decide (t.size<=15))
theorem tagT_bad{t:ByteArray}{j:Nat}(hj:j<t.size)(h:Dt.alnumB t[j]=false):tagT t=false:=by
 rw [tagT,Bool.and_eq_false_iff];left;rw [List.all_eq_false];exact⟨t[j],List.mem_of_getElem? (Nm.get_data hj),by simp [h]⟩
theorem tagT_good{t:ByteArray}(h:∀ j,(hj:j<t.size)->Dt.alnumB t[j]=true):tagT t=(decide (0<t.size)&&decide (t.size<=15)):=by
 rw [tagT]
 have:t.data.toList.all Dt.alnumB=true:=by
  rw [List.all_eq_true];intro c hc;obtain⟨i,hi⟩:=List.getElem?_of_mem hc
  have hl:i<t.size:=by
   have:=(List.getElem?_eq_some_iff.1 hi).1;simpa using this
  rw [Nm.get_data hl] at hi;simp at hi;rw [<- hi];exact h _ hl
 rw [this,Bool.true_and]
set_option maxRecDepth 100000 in
set_option maxHeartbeats 800000 in
theorem isTag_any(t:ByteArray)(w:World)(ht:t.size<=1000000000):
 Calls Tryz.prog 256 #[.string t] w fun e w'=>e=.returned (.bool (tagT t))∧w'=w:=by
 go_enter Tryz.func256,Tryz.ntmps256;go_wp2
 go_loop [6] (fun v=>∃ j:Nat,j<=t.size∧v=.int .i64 j∧∀ i,i<j->(hi:i<t.size)->Dt.alnumB t[i]=true) (fun v=>t.size-(intOf v).toNat)
 case atStart=>exact⟨0,by omega,rfl,fun i h=>by omega⟩
 case round=>
  obtain⟨j,hj,rfl,ha⟩:=hrel
  by_cases hlt:j<t.size
  ·have hlt':(j:Int)<(t.size:Int):=by omega
   have hd:=isDigitD_any t[j];have hl:=isLetter_any t[j];have hor:=alnum_or t[j]
   cases hA:digD t[j] with
   |true=>
    have HJ:Hid (∀ i,i<j+1->(hi:i<t.size)->Dt.alnumB t[i]=true):=by
     show ∀ i,_
     intro i h2 h3
     by_cases e:i=j
     ·subst e;rw [hor,hA];rfl
     ·exact ha i (by omega) h3
    rw [hA] at hd;clear ha hor hA;go_wp2_with (first|(go_at_call 257;refine(hd _).mono ?_;rintro e w2 ⟨rfl,hw⟩;obtain rfl:w=w2:=hw.symm;clear hw)|(go_at_call 258;refine(hl _).mono ?_;rintro e w2 ⟨rfl,hw⟩;obtain rfl:w=w2:=hw.symm;clear hw))
    go_round
    case rel=>exact⟨j+1,by omega,by go_num,HJ.out⟩
    case measure=>simp [intOf];omega
   |false=>
    rw [hA] at hd
    cases hB:letD t[j] with
    |true=>
     have HJ:Hid (∀ i,i<j+1->(hi:i<t.size)->Dt.alnumB t[i]=true):=by
      show ∀ i,_
      intro i h2 h3
      by_cases e:i=j
      ·subst e;rw [hor,hB];simp
      ·exact ha i (by omega) h3
     rw [hB] at hl;clear ha hor hA hB;go_wp2_with (first|(go_at_call 257;refine(hd _).mono ?_;rintro e w2 ⟨rfl,hw⟩;obtain rfl:w=w2:=hw.symm;clear hw)|(go_at_call 258;refine(hl _).mono ?_;rintro e w2 ⟨rfl,hw⟩;obtain rfl:w=w2:=hw.symm;clear hw))
     go_round
     case rel=>exact⟨j+1,by omega,by go_num,HJ.out⟩
     case measure=>simp [intOf];omega
    |false=>
     have HT:=Nm.hide (tagT_bad hlt (by rw [hor,hA,hB];rfl));rw [hB] at hl;clear ha hor hA hB;go_wp2_with (first|(go_at_call 257;refine(hd _).mono ?_;rintro e w2 ⟨rfl,hw⟩;obtain rfl:w=w2:=hw.symm;clear hw)|(go_at_call 258;refine(hl _).mono ?_;rintro e w2 ⟨rfl,hw⟩;obtain rfl:w=w2:=hw.symm;clear hw))
     go_ret;rw [HT.out];exact⟨rfl,rfl⟩
  ·have hlt':(t.size:Int)<=(j:Int):=by omega
   have HT:=Nm.hide (tagT_good (fun i h=>ha i (by omega) h));clear ha
   by_cases h0:0<t.size
   ·have h0':(0:Int)<(t.size:Int):=by omega
    have HU:Hid (tagT t=decide ((t.size:Int)<=15)):=by
     show _=_
     rw [HT.out,decide_eq_true h0,Bool.true_and,Bool.eq_iff_iff]
     simp;omega
    clear HT;go_wp2;go_ret;rw [HU.out];exact⟨rfl,rfl⟩
   ·have h0':(t.size:Int)<=0:=by omega
    have HU:Hid (tagT t=false):=by
     show _=_
     rw [HT.out,decide_eq_false h0,Bool.false_and]
    clear HT;go_wp2;go_ret;rw [HU.out];exact⟨rfl,rfl⟩
theorem tag_of{d:ByteArray}{n:Nat}(hn:(Dt.txtS d).size=n)(_:n≠0):tagT (d.extract 1 n)=Dt.tagB d:=by
 have hle:=Dt.txt_le d;have he:=Dt.txt_ext d;rw [hn] at he
 have e1:(d.extract 1 n).data.toList=(Dt.txtS d).data.toList.drop 1:=by
  rw [<- he];simp only [ByteArray.data_extract,Array.toList_extract,List.extract_eq_take_drop];simp
  rw [<- List.drop_one,<- List.drop_one,List.drop_take]
 have e2:(d.extract 1 n).size=n-1:=by simp;omega
 rw [tagT,Dt.tagB,e1,e2,hn,Bool.eq_iff_iff];simp
 constructor
 ·rintro⟨h1,h2,h3⟩;exact⟨⟨by omega,by omega⟩,h1⟩
 ·rintro⟨⟨h1,h2⟩,h3⟩;exact⟨h3,by omega,by omega⟩
end Go.Proofs.YtfmolgdfjklmpaaGreat
namespace Go.Proofs.YtfmolgdfjklmpaaGreat
open Go.RowKit
def szV(o:Option Nat):Value:=.tuple #[.int .i64 ((o.getD 0:Nat):Int),.bool o.isSome]
theorem nsz_none{s:ByteArray}{i:Nat}(h:Dt.nameAtS s=Dt.nameF 256 s i)(h1:Dt.nameF 256 s i=ByteArray.empty):szV (Dt.sz .nm s)=.tuple #[.int .i64 0,.bool false]:=by
 have:(Dt.nameAtS s).size=0:=by rw [h,h1];rfl
 rw [Dt.sz,if_pos this];rfl
theorem nsz_zero{s:ByteArray}{i:Nat}(h:Dt.nameAtS s=Dt.nameF 256 s i)(h1:i<s.size)(h2:i<255)(h0:s[i].toNat=0):szV (Dt.sz .nm s)=.tuple #[.int .i64 ((i:Int)+1),.bool true]:=by
 have e:Dt.nameF 256 s i=s.extract 0 (i+1):=by rw [Dt.nameF,dif_pos ⟨h1,h2⟩,if_pos h0]
 have e1:(Dt.nameAtS s).size=i+1:=by rw [h,e];simp;omega
 rw [Dt.sz,if_neg (by omega),e1];rfl
theorem nsz_step{s:ByteArray}{i:Nat}(h:Dt.nameAtS s=Dt.nameF 256 s i)(h1:i<s.size)(h2:i<255)(h0:s[i].toNat≠0)(h3:s[i].toNat<=63):Dt.nameAtS s=Dt.nameF 256 s (i+(1+s[i].toNat)):=by
 rw [h,Dt.nameF,dif_pos ⟨h1,h2⟩,if_neg h0,if_neg (by omega),show i+s[i].toNat+1=i+(1+s[i].toNat) by omega];exact Dt.nameF_enough _ _ _ _ (by omega) (by omega)
theorem nsz_big{s:ByteArray}{i:Nat}(h1:i<s.size)(h2:i<255)(h0:63<s[i].toNat):Dt.nameF 256 s i=ByteArray.empty:=by
 rw [Dt.nameF,dif_pos ⟨h1,h2⟩,if_neg (by omega),if_pos h0]
theorem nsz_end{s:ByteArray}{i:Nat}(h:¬(i<s.size∧i<255)):Dt.nameF 256 s i=ByteArray.empty:=by
 rw [Dt.nameF,dif_neg h]
set_option maxRecDepth 100000 in
set_option maxHeartbeats 800000 in
theorem nameSize_any(s:ByteArray)(w:World):
 Calls Tryz.prog 158 #[.string s] w fun e w'=>e=.returned (szV (Dt.sz .nm s))∧w'=w:=by
 have H0:Dt.nameAtS s=Dt.nameF 256 s 0:=rfl;go_enter Tryz.func158,Tryz.ntmps158;go_wp2
 go_loop [4] (fun v=>∃ i:Nat,i<255∧v=.int .i64 i∧Dt.nameAtS s=Dt.nameF 256 s i) (fun v=>400-(intOf v).toNat)
 case atStart=>exact⟨0,by omega,rfl,H0⟩
 case round=>
  obtain⟨i,hi,rfl,hn⟩:=hrel;clear H0
  by_cases h1:i<s.size
  ·have h1':(i:Int)<(s.size:Int):=by omega
   have hc:(s[i].toNat:Int)<256:=by have:=s[i].toNat_lt;omega
   by_cases h3:s[i].toNat=0
   ·have HN:=Nm.hide (nsz_zero hn h1 hi h3);have h3':((s[i].toNat:Int)==0)=true:=by rw [beq_iff_eq];omega
    clear hn h3;go_wp2;go_ret2;rw [HN.out];exact⟨rfl,rfl⟩
   ·have h3':((s[i].toNat:Int)==0)=false:=by rw [beq_eq_false_iff_ne];omega
    have h3'':(0:Int)<(s[i].toNat:Int):=by omega
    by_cases h4:63<s[i].toNat
    ·have HN:=Nm.hide (nsz_none hn (nsz_big h1 hi h4));have h4':(63:Int)<(s[i].toNat:Int):=by omega
     clear hn h3;go_wp2_with (go_at_call 186;go_in)
     go_ret2;rw [HN.out];exact⟨rfl,rfl⟩
    ·have h4':(s[i].toNat:Int)<=63:=by omega
     have hst:=nsz_step hn h1 hi h3 (by omega)
     by_cases h5:255<=i+(1+s[i].toNat)
     ·have HN:=Nm.hide (nsz_none hst (nsz_end (by omega)));have h5':(255:Int)<=(i:Int)+(1+(s[i].toNat:Int)):=by omega
      clear hn h3 hst;go_wp2_with (go_at_call 186;go_in)
      go_ret2;rw [HN.out];exact⟨rfl,rfl⟩
     ·have HN:=Nm.hide hst;have h5':(i:Int)+(1+(s[i].toNat:Int))<255:=by omega
      clear hn h3 hst;go_wp2_with (go_at_call 186;go_in)
      go_round
      case rel=>exact⟨i+(1+s[i].toNat),by omega,by go_num,HN.out⟩
      case measure=>simp [intOf];omega
  ·have HN:=Nm.hide (nsz_none hn (nsz_end (by omega)));have h1':(s.size:Int)<=(i:Int):=by omega
   clear hn;go_wp2;go_ret2;rw [HN.out];exact⟨rfl,rfl⟩
end Go.Proofs.YtfmolgdfjklmpaaGreat
namespace Go.Proofs.YtfmolgdfjklmpaaGreat
open Go.RowKit
set_option maxRecDepth 100000 in
set_option maxHeartbeats 800000 in
theorem l01Join_any(v:Value)(ls:List ByteArray)(w:World)(h:Nm.SRow w v ls)(hlen:Nm.wsum ls<=1000000000):
 Calls Tryz.prog 16 #[v] w fun e w'=>e=.returned (.string ⟨(Nm.joinL ls).toArray⟩)∧Below w.heap.size w w':=by
 obtain⟨a,cap,rfl,hcap,hmx,hnl,hc⟩:=h;have hll:=Nm.length_le_wsum ls;go_enter Tryz.func16,Tryz.ntmps16;go_wp2
 go_loopw [3,4] (fun t i wr=>∃ (k:Nat) (s:ByteArray),k<=ls.length∧i=.int .i64 k∧t=.string s∧Hid (s.data.toList=Nm.preL (ls.take k))∧Below w.heap.size w wr)
  (fun _ i _=>ls.length-(intOf i).toNat)
 case atStart=>exact⟨0,_,Nat.zero_le _,rfl,rfl,rfl,Below.refl _ _⟩
 case round=>
  obtain⟨k,s,hk,rfl,rfl,HS,hbel⟩:=hrel;have hw:=Nm.wsum_take_le ls k;have hsz:=hbel.size;have hss:s.size=Nm.wsum (ls.take k):=by rw [<- size_list,HS.out,Nm.preL_length]
  have hss':s.size<=1000000000:=by omega
  by_cases hlt:k<ls.length
  ·obtain⟨x,hx⟩:∃ x,ls[k]? =some x:=⟨_,List.getElem?_eq_getElem hlt⟩;obtain⟨b,off,rfl,hcell⟩:=hc (by intro h;rw [h] at hlt;simp at hlt);have hbk:b<wr.heap.size:=Nat.lt_of_lt_of_le (World.block_lt_of_cell? w _ (hcell k x hx)) hsz;have hcx:wr.cell? ⟨b,off+k,none⟩=some (.string x):=(hbel.cell (World.block_lt_of_cell? w _ (hcell k x hx))).trans (hcell k x hx);have HP:Hid (Nm.preL (ls.take (k+1))=Nm.preL (ls.take k)++(UInt8.ofNat x.size::x.data.toList)):=Nm.preL_step hx
   have hw1:s.size+(1+x.size)<=1000000000:=by
    have h1:=Nm.wsum_step hx;have h2:=Nm.wsum_take_le ls (k+1);omega
   have hcv:=fun n=>conv_one_drew n wr
   clear hx hcell hc hnl hss hw;go_wp2;go_region
   all_goals
    go_wp2;go_roundw
    case rel=>exact⟨k+1,_,by omega,by go_num,rfl,by show _=_;rw [HP.out,<- HS.out];simp [byte_mod],(hbel.alloc hsz _).drew⟩
    case measure=>simp [intOf];omega
  ·have hkl:k=ls.length:=by omega
   subst hkl;rw [List.take_length] at HS;clear hc hnl hw hlt hss;have hone:(ByteArray.mk #[0]).size=1:=rfl;go_wp2;go_ret;exact⟨ret_str (ba_ext (by simp [Nm.joinL,HS.out])),hbel⟩
end Go.Proofs.YtfmolgdfjklmpaaGreat
namespace Go.Proofs.YtfmolgdfjklmpaaGreat
open Go.RowKit Go.Shelf
set_option linter.unusedVariables false
attribute [local go_sem] Oper.semAt_some
set_option maxRecDepth 100000 in
set_option maxHeartbeats 2000000 in
theorem all1S_in{α:Type}(kf vf:α->ByteArray)(F:Fence)(n:Nat)(h7:F.fn 185)(hro:F.round=none)(hn:1<=n)(l tb g n₀ b off cap:Nat)(cmpv:Value)(zs:List α)(hl:zs.length<=1000000)(hcap:zs.length<=cap∧cap<=maxLen)(hb:b<n₀)(J Jx:List α->World->Prop)
 (hJ:∀ s W W',J s W->W.grownBy W' none->J s W')
 (hY:∀ pre x W,J pre W->pre.length<zs.length->YieldAt F (n-1) Tryz.prog l #[(Value.string (kf x)),(Value.string (vf x))] W fun e W'=>
  (e=.returned (.bool true)∧J (pre++[x]) W'∧Below n₀ W W')∨(e=.returned (.bool false)∧Jx (pre++[x]) W'))
 (W:World) (kb:W.cell? ⟨tb,0,none⟩=some (.pointer (some ⟨g,0,none⟩))) (kg:W.cell? ⟨g,1,none⟩=some (.slice (some ⟨b,off,none⟩) zs.length cap))
 (hc:∀ (i:Nat) (x:α),zs[i]? =some x->W.cell? ⟨b,off+i*2,none⟩=some (Value.string (kf x))∧W.cell? ⟨b,off+i*2+1,none⟩=some (Value.string (vf x))) (hn₀:n₀<=W.heap.size) (h0:J [] W):
 CallsIn F n Tryz.prog 185 #[.func (.yield l) #[] #[],.pointer (some ⟨tb,0,none⟩)] W fun e W'=>(∃ v,e=.returned v)∧
  ((∃ ys,ys=zs∧J ys W')∨(∃ pre,pre<+:zs∧Jx pre W')):=by
 obtain⟨hcap1,hcap2⟩:=hcap;unfold maxLen at hcap2;refine callsIn_of_wp Tryz.func185 rfl h7 ?_ hro;simp only [Tryz.ntmps185,List.size_toArray,List.length_cons,List.length_nil,Nat.reduceAdd,Nat.reduceSub,Array.replicate_succ,Array.replicate_zero,List.push_toArray,List.append_toArray,List.nil_append,List.cons_append]
 gi_wp2
 gi_loopw [10] (fun i wr=>∃ k:Nat,k<=zs.length∧i=.int .i64 k∧J (zs.take k) wr∧Below n₀ W wr)
  (fun i _=>zs.length-(intOf i).toNat)
 case atStart=>exact⟨0,Nat.zero_le _,rfl,by simpa using h0,Below.refl _ _⟩
 case round=>
  obtain⟨k,hk,rfl,hJs,hnx⟩:=hrel
  by_cases hlt:k<zs.length
  ·obtain⟨x,hx⟩:∃ x,zs[k]? =some x:=⟨_,List.getElem?_eq_getElem hlt⟩;obtain⟨c0,c1⟩:=hc k x hx;have d0:wr.cell? ⟨b,off+k*2,none⟩=some (Value.string (kf x)):=(hnx.cell (p:=⟨b,off+k*2,none⟩) hb).trans c0;have d1:wr.cell? ⟨b,off+k*2+1,none⟩=some (Value.string (vf x)):=(hnx.cell (p:=⟨b,off+k*2+1,none⟩) hb).trans c1;have hal:∀ o:Obj,wr.grownBy (wr.alloc o) none:=fun o=>⟨rfl,rfl,rfl,by simp,fun q hq _=>heap_alloc_old wr _ hq⟩
   obtain⟨fn,tmps,assign,body,hy,hR⟩:=hY _ x (wr.alloc (.cells #[(Value.string (kf x)),(Value.string (vf x))] 242)) (hJ _ _ _ hJs (hal _)) (by rw [List.length_take];omega);have n1:(0:Int)<=(k:Int):=by omega
   have n2:(k:Int)<(zs.length:Int):=by omega
   have hbw:Below n₀ W (wr.alloc (.cells #[(Value.string (kf x)),(Value.string (vf x))] 242)):=hnx.alloc (Nat.le_trans hn₀ hnx.size) _
   have HT:Hid (zs.take (k+1)=zs.take k++[x]):=by
    obtain⟨hk',e⟩:=List.getElem?_eq_some_iff.1 hx;show _=_
    rw [List.take_succ_eq_append_getElem hk',e]
   clear hc c0 c1 hx
   gi_wp2
   refine hR.mono ?_;rintro e W3 (⟨rfl,hJ3,hk3⟩|⟨rfl,hJx3⟩)
   ·gi_wp2
    go_roundw
    case rel=>exact⟨k+1,by omega,by go_num,by rw [HT.out];exact hJ3,hbw.trans hk3⟩
    case measure=>simp [intOf];omega
   ·gi_wp2
    refine bodyPost_ret (results_none rfl _ _ _) rfl ?_;exact⟨⟨_,rfl⟩,.inr ⟨_,by rw [<- HT.out];exact List.take_prefix _ _,hJx3⟩⟩
  ·obtain rfl:k=zs.length:=by omega
   have n2:(zs.length:Int)<=(zs.length:Int):=by omega
   rw [List.take_length] at hJs;clear hc
   gi_wp2
   go_end0
   exact⟨⟨_,rfl⟩,.inl ⟨_,rfl,hJs⟩⟩
end Go.Proofs.YtfmolgdfjklmpaaGreat
namespace Go.Proofs.YtfmolgdfjklmpaaGreat
open Go.RowKit
def CodeAt(w:World)(g:Nat)(a:Option Addr)(n:Nat):Prop:=
 n=0∨∃ b off,a=some ⟨b,off,none⟩∧b≠g∧∀ i,i<n->∃ c:Int,w.cell? ⟨b,off+i,none⟩=some (.int .u8 c)∧0<=c∧c<256
def Src(w:World)(g:Nat)(a:Option Addr)(n cap:Nat):Prop:=
 ∃ pos st:Int,w.heap[g]? =some (.cells #[.slice a n cap,.int .i64 pos,.int .u64 st] 63 (0,0))∧0<=pos∧pos<=n∧n<=1048576∧CodeAt w g a n
theorem code_set{w:World}{g i:Nat}{a:Option Addr}{n:Nat}{v:Value}(h:CodeAt w g a n):CodeAt (w.setCell ⟨g,i,none⟩ v) g a n:=by
 rcases h with h|⟨b,off,e,hb,hc⟩
 ·exact .inl h
 ·refine .inr ⟨b,off,e,hb,fun j hj=>?_⟩;obtain⟨c,h1,h2⟩:=hc j hj;refine⟨c,?_,h2⟩;rw [World.cell?_setCell_other w ⟨g,i,none⟩ ⟨b,off+j,none⟩ v (by intro h;cases h;exact hb rfl)];exact h1
theorem src_one{w:World}{g n cap:Nat}{a:Option Addr}{pos st:Int}(hb:w.heap[g]? =some (.cells #[.slice a n cap,.int .i64 pos,.int .u64 st] 63 (0,0)))(hp0:0<=pos)(hpn:pos<=n)(hn:n<=1048576)(hc:CodeAt w g a n)(s2:Int):
 Src (w.setCell ⟨g,2,none⟩ (.int .u64 s2)) g a n cap∧w.grownBy (w.setCell ⟨g,2,none⟩ (.int .u64 s2)) (some g):=by
 refine⟨⟨pos,s2,?_,hp0,hpn,hn,code_set hc⟩,⟨rfl,rfl,rfl,by simp,fun k _ hk=>heap_setCell_other w ⟨g,2,none⟩ k _ (fun e=>hk (by simp [e]))⟩⟩;rw [heap_setCell_same w g 2 _ _ _ hb];rfl
theorem src_two{w:World}{g n cap:Nat}{a:Option Addr}{pos st:Int}(hb:w.heap[g]? =some (.cells #[.slice a n cap,.int .i64 pos,.int .u64 st] 63 (0,0)))(hn:n<=1048576)(hc:CodeAt w g a n)(s2 p2:Int)(hp0:0<=p2)(hpn:p2<=n):
 Src ((w.setCell ⟨g,2,none⟩ (.int .u64 s2)).setCell ⟨g,1,none⟩ (.int .i64 p2)) g a n cap∧w.grownBy ((w.setCell ⟨g,2,none⟩ (.int .u64 s2)).setCell ⟨g,1,none⟩ (.int .i64 p2)) (some g):=by
 have h1:=heap_setCell_same w g 2 _ _ (.int .u64 s2) hb;have h2:=heap_setCell_same _ g 1 _ _ (.int .i64 p2) h1;refine⟨⟨p2,s2,?_,hp0,hpn,hn,code_set (code_set hc)⟩,⟨rfl,rfl,rfl,by simp,fun k _ hk=>?_⟩⟩
 ·rw [h2];rfl
 ·rw [heap_setCell_other _ ⟨g,1,none⟩ k _ (fun e=>hk (by simp [e])),heap_setCell_other w ⟨g,2,none⟩ k _ (fun e=>hk (by simp [e]))]
theorem grown_drewS{w w':World}{row:Option Nat}(h:w.grownBy w' row):w.grownBy w'.drew row:=⟨h.os,h.tape,h.output,h.size,h.block⟩
theorem grown_step{w w1 w2:World}{g:Nat}(h:w.grownBy w1 (some g))(h2:w1.grownBy w2 (some g)):w.grownBy w2 (some g):=
 ⟨h2.os.trans h.os,h2.tape.trans h.tape,h2.output.trans h.output,Nat.le_trans h.size h2.size,fun k hk hne=>(h2.block k (Nat.lt_of_lt_of_le hk h.size) hne).trans (h.block k hk hne)⟩
theorem grown_own{w w1 w2:World}{g:Nat}{row:Option Nat}(h:w.grownBy w1 (some g))(h2:w1.grownBy w2 row)(hr:∀ k,row=some k->w.heap.size<=k):w.grownBy w2 (some g):=
 ⟨h2.os.trans h.os,h2.tape.trans h.tape,h2.output.trans h.output,Nat.le_trans h.size h2.size,fun k hk hne=>
  (h2.block k (Nat.lt_of_lt_of_le hk h.size) (fun e=>by have:=hr k e.symm;omega)).trans (h.block k hk hne)⟩
theorem grown_below{w w1 w2:World}{g:Nat}(h:w.grownBy w1 (some g))(h2:Below w1.heap.size w1 w2):w.grownBy w2 (some g):=
 ⟨h2.os.trans h.os,h2.tape.trans h.tape,h2.output.trans h.output,Nat.le_trans h.size h2.size,fun k hk hne=>
  (h2.block k (Nat.lt_of_lt_of_le hk h.size)).trans (h.block k hk hne)⟩
theorem grown_alloc{w w1:World}{g:Nat}(h:w.grownBy w1 (some g))(o:Obj):w.grownBy (w1.alloc o) (some g):=
 grown_below h ((Below.refl _ _).alloc (Nat.le_refl _) o)
theorem src_below{w w1:World}{g n cap:Nat}{a:Option Addr}(h:Src w g a n cap)(hb:Below w.heap.size w w1):Src w1 g a n cap:=by
 obtain⟨pos,st,h1,h2,h3,h4,h5⟩:=h;refine⟨pos,st,?_,h2,h3,h4,?_⟩
 ·rw [hb.block g (Array.getElem?_eq_some_iff.1 h1).1];exact h1
 ·rcases h5 with h5|⟨b,off,e,hne,hc⟩
  ·exact .inl h5
  ·refine .inr ⟨b,off,e,hne,fun j hj=>?_⟩;obtain⟨c,hc1,hc2⟩:=hc j hj;exact⟨c,(hb.cell (World.block_lt_of_cell? w _ hc1)).trans hc1,hc2⟩
theorem src_grown{w w0 w1:World}{g n cap:Nat}{a:Option Addr}{row:Option Nat}(h:Src w g a n cap)(hg:w.grownBy w1 row)(hr:∀ k,row=some k->w0.heap.size<=k)(hlt:g<w0.heap.size)(hcode:CodeAt w0 g a n):Src w1 g a n cap:=by
 obtain⟨pos,st,h1,h2,h3,h4,h5⟩:=h;refine⟨pos,st,?_,h2,h3,h4,?_⟩
 ·rw [hg.block g (Array.getElem?_eq_some_iff.1 h1).1 (fun e=>by have:=hr g e.symm;omega)];exact h1
 ·rcases h5 with h5|⟨b,off,e,hne,hc⟩
  ·exact .inl h5
  ·rcases hcode with h6|⟨b',off',e',_,hc'⟩
   ·exact .inl h6
   ·rw [e] at e';simp only [Option.some.injEq,Addr.mk.injEq,and_true] at e';obtain⟨rfl,rfl⟩:=e';refine .inr ⟨b,off,e,hne,fun j hj=>?_⟩;obtain⟨c,hc1,hc2⟩:=hc j hj;obtain⟨c',hc1',_⟩:=hc' j hj;have hbl:=World.block_lt_of_cell? w0 _ hc1';exact⟨c,hg.cell hc1 (fun e=>by have h7:=hr b e.symm;have h8:b<w0.heap.size:=hbl;omega),hc2⟩
theorem src_code{w:World}{g n cap:Nat}{a:Option Addr}(h:Src w g a n cap):CodeAt w g a n∧g<w.heap.size:=by
 obtain⟨pos,st,h1,h2,h3,h4,h5⟩:=h;exact⟨h5,(Array.getElem?_eq_some_iff.1 h1).1⟩
theorem row_src{w:World}{B e m g n cap:Nat}{a:Option Addr}{v:Value}{xs:List Value}(h:w.ownsRow B e 1 v m xs)(hs:Src w g a n cap)(hne:e≠63):v.ownBlock=none∨v.ownBlock≠some g:=by
 obtain⟨pos,st,h1,_⟩:=hs
 rcases h.2 with⟨rfl,_⟩|⟨g',cap',cur,rfl,_,hh,_⟩
 ·exact .inl rfl
 ·right;simp only [Value.ownBlock,ne_eq,Option.some.injEq];intro e2;subst e2;rw [hh] at h1;simp at h1;exact hne h1.2
theorem next_bound{x N:Int}(hx:0<=x)(h1:1<=N)(h2:N<=4294967296):0<=wrap64 (x.tmod N)∧wrap64 (x.tmod N)<N:=by
 have a1:0<=x.tmod N:=Int.tmod_nonneg N hx;have a2:x.tmod N<N:=Int.tmod_lt_of_pos x (by omega);rw [IntWalk.wrap64_in (x.tmod N) ⟨by omega,by omega⟩];exact⟨a1,a2⟩
theorem u64_nn(k:Int):0<=IntKind.u64.wrap k:=(bounds_u64 (wf_wrap .u64 k)).1
theorem bits_nn(op:BinOp)(x y:Int):0<=bits op .u64 x y:=(bounds_u64 (wf_bits op .u64 x y)).1
set_option maxRecDepth 100000 in
set_option maxHeartbeats 800000 in
theorem l01Next_any(g:Nat)(a:Option Addr)(n cap:Nat)(N:Int)(w:World)(h:Src w g a n cap)(hN:N<=4294967296):
 Calls Tryz.prog 26 #[.pointer (some ⟨g,0,none⟩),.int .i64 N] w fun e w'=>∃ r:Int,e=.returned (.int .i64 r)∧0<=r∧(0<N->r<N)∧Src w' g a n cap∧w.grownBy w' (some g):=by
 obtain⟨pos,st,hb,hp0,hpn,hn,hcode⟩:=h
 by_cases hN0:N<=0
 ·go_enter Tryz.func26,Tryz.ntmps26;go_wp2;go_ret;exact⟨0,rfl,by omega,by omega,⟨pos,st,hb,hp0,hpn,hn,hcode⟩,World.grownBy.refl _ _⟩
 ·have c0:w.cell? ⟨g,0,none⟩=some (.slice a n cap):=by rw [cell_of_row _ _ _ _ _ _ hb];rfl
  have c1:w.cell? ⟨g,1,none⟩=some (.int .i64 pos):=by rw [cell_of_row _ _ _ _ _ _ hb];rfl
  have c2:w.cell? ⟨g,2,none⟩=some (.int .u64 st):=by rw [cell_of_row _ _ _ _ _ _ hb];rfl
  have f0:=frozen_of_row w g 0 _ _ hb;have f1:=frozen_of_row w g 1 _ _ hb;have f2:=frozen_of_row w g 2 _ _ hb;have hN1:1<=N:=by omega
  by_cases hlt:pos<n
  ·obtain⟨b,off,rfl,hbg,hcell⟩:=hcode.resolve_left (by omega);obtain⟨k,rfl⟩:=Int.eq_ofNat_of_zero_le hp0;obtain⟨c,hc,hc0,hc1⟩:=hcell k (by omega);have HS:=fun s2=>Nm.hide (src_two hb hn hcode s2 ((k:Int)+1) (by omega) (by omega))
   clear hb hcode;go_enter Tryz.func26,Tryz.ntmps26;go_wp2;go_region
   go_wp2;go_region
   go_wp2;go_ret;have B:=next_bound (N:=N) (bits_nn .xor (IntKind.u64.wrap (IntKind.u64.wrap (st*6364136223846793005)+1442695040888963407) / 8589934592) c) hN1 hN;exact⟨_,rfl,B.1,fun _=>B.2,(HS _).out.1,grown_drewS (grown_drewS (HS _).out.2)⟩
  ·have HS:=fun s2=>Nm.hide (src_one hb hp0 hpn hn hcode s2)
   have hge:(n:Int)<=pos:=by omega
   clear hb hcode;go_enter Tryz.func26,Tryz.ntmps26;go_wp2;go_region
   go_wp2;go_ret;have B:=next_bound (N:=N) (x:=IntKind.u64.wrap (IntKind.u64.wrap (st*6364136223846793005)+1442695040888963407) / 8589934592) (Int.ediv_nonneg (u64_nn _) (by decide)) hN1 hN;exact⟨_,rfl,B.1,fun _=>B.2,(HS _).out.1,grown_drewS (HS _).out.2⟩
end Go.Proofs.YtfmolgdfjklmpaaGreat
