import Derived.Test.YtaceiajcecaapaaGreatJRrM
import Derived.Test.YtaceiajcecaapaaGreatJCRow
import Derived.Test.YtaceiajcecaapaaGreatRows
import Derived.WalkSpells
import Derived.WalkLawsBesides
import Derived.Test.YtaceiajcecaapaaGreatJMath
import Derived.RegionTactic
import Derived.BigRegion
import Derived.Deep.RegionHeld3
namespace Go.Proofs.YtaceiajcecaapaaGreat
open Go.RowKit
def digD(c:UInt8):Bool:=decide (48<=c.toNat)&&decide (c.toNat<=57)
def letD(c:UInt8):Bool:=decide (97<=(Nm.low c).toNat)&&decide ((Nm.low c).toNat<=122)
theorem alnum_or(c:UInt8):Dt.alnumB c=(digD c||letD c):=by
 unfold Dt.alnumB digD letD Nm.low;have hc:=c.toNat_lt
 by_cases h:65<=c.toNat∧c.toNat<=90
 ·rw [if_pos h];have e:(UInt8.ofNat (c.toNat+32)).toNat=c.toNat+32:=by simp;omega
  rw [e,Bool.eq_iff_iff];simp
  omega
 ·rw [if_neg h,Bool.eq_iff_iff];simp
  omega
set_option maxRecDepth 100000 in
set_option maxHeartbeats 400000 in
theorem isDigitD_any(c:UInt8)(w:World):
 Calls Tryz.prog 251 #[.int .u8 c.toNat] w fun e w'=>e=.returned (.bool (digD c))∧w'=w:=by
 by_cases h1:48<=c.toNat
 ·have d1:decide ((48:Int)<=(c.toNat:Int))=true:=by simp;omega
  have HE:Hid (digD c=decide ((c.toNat:Int)<=57)):=by
   show _=_
   rw [digD,decide_eq_true h1,Bool.true_and,Bool.eq_iff_iff]
   simp;omega
  go_enter Tryz.func251,Tryz.ntmps251;go_wp2;go_ret;rw [HE.out];exact⟨rfl,rfl⟩
 ·have d1:decide ((48:Int)<=(c.toNat:Int))=false:=by simp;omega
  have HE:Hid (digD c=false):=by
   show _=_
   rw [digD,decide_eq_false h1];rfl
  go_enter Tryz.func251,Tryz.ntmps251;go_wp2;go_ret;rw [HE.out];exact⟨rfl,rfl⟩
set_option maxRecDepth 100000 in
set_option maxHeartbeats 400000 in
theorem isLetter_any(c:UInt8)(w:World):
 Calls Tryz.prog 252 #[.int .u8 c.toNat] w fun e w'=>e=.returned (.bool (letD c))∧w'=w:=by
 have hcall:=foldByte_any c
 by_cases h1:97<=(Nm.low c).toNat
 ·have HE:Hid (letD c=decide (((Nm.low c).toNat:Int)<=122)):=by
   show _=_
   rw [letD,decide_eq_true h1,Bool.true_and,Bool.eq_iff_iff]
   simp;omega
  have d1:decide ((97:Int)<=((Nm.low c).toNat:Int))=true:=by simp;omega
  go_enter Tryz.func252,Tryz.ntmps252;go_wp2_with (go_at_call 129;refine(hcall _).mono ?_;rintro e w1 ⟨rfl,rfl⟩)
  go_ret;rw [HE.out];exact⟨rfl,rfl⟩
 ·have d1:decide ((97:Int)<=((Nm.low c).toNat:Int))=false:=by simp;omega
  have HE:Hid (letD c=false):=by
   show _=_
   rw [letD,decide_eq_false h1];rfl
  go_enter Tryz.func252,Tryz.ntmps252;go_wp2_with (go_at_call 129;refine(hcall _).mono ?_;rintro e w1 ⟨rfl,rfl⟩)
  go_ret;rw [HE.out];exact⟨rfl,rfl⟩
def tagT(t:ByteArray):Bool:=t.data.toList.all Dt.alnumB&&(decide (0<t.size)&&decide (t.size<=15))
theorem tagT_bad{t:ByteArray}{j:Nat}(hj:j<t.size)(h:Dt.alnumB t[j]=false):tagT t=false:=by
 rw [tagT,Bool.and_eq_false_iff];left;rw [List.all_eq_false];exact⟨t[j],List.mem_of_getElem? (Nm.get_data hj),by simp [h]⟩
theorem tagT_good{t:ByteArray}(h:∀ j,(hj:j<t.size)->Dt.alnumB t[j]=true):tagT t=(decide (0<t.size)&&decide (t.size<=15)):=by
 rw [tagT]
 have:t.data.toList.all Dt.alnumB=true:=by
  rw [List.all_eq_true];intro c hc;obtain⟨i,hi⟩:=List.getElem?_of_mem hc
  have hl:i<t.size:=by
   have:=(List.getElem?_eq_some_iff.1 hi).1;simpa using this
  rw [Nm.get_data hl] at hi;simp at hi;rw [<- hi];exact h _ hl
 rw [this,Bool.true_and]
set_option maxRecDepth 100000 in
set_option maxHeartbeats 800000 in
theorem isTag_any(t:ByteArray)(w:World)(ht:t.size<=1000000000):
 Calls Tryz.prog 250 #[.string t] w fun e w'=>e=.returned (.bool (tagT t))∧w'=w:=by
 go_enter Tryz.func250,Tryz.ntmps250;go_wp2
 go_loop [6] (fun v=>∃ j:Nat,j<=t.size∧v=.int .i64 j∧∀ i,i<j->(hi:i<t.size)->Dt.alnumB t[i]=true) (fun v=>t.size-(intOf v).toNat)
 case atStart=>exact⟨0,by omega,rfl,fun i h=>by omega⟩
 case round=>
  obtain⟨j,hj,rfl,ha⟩:=hrel
  by_cases hlt:j<t.size
  ·have hlt':(j:Int)<(t.size:Int):=by omega
   have hd:=isDigitD_any t[j];have hl:=isLetter_any t[j];have hor:=alnum_or t[j]
   cases hA:digD t[j] with
   |true=>
    have HJ:Hid (∀ i,i<j+1->(hi:i<t.size)->Dt.alnumB t[i]=true):=by
     show ∀ i,_
     intro i h2 h3
     by_cases e:i=j
     ·subst e;rw [hor,hA];rfl
     ·exact ha i (by omega) h3
    rw [hA] at hd;clear ha hor hA;go_wp2_with (first|(go_at_call 251;refine(hd _).mono ?_;rintro e w2 ⟨rfl,hw⟩;obtain rfl:w=w2:=hw.symm;clear hw)|(go_at_call 252;refine(hl _).mono ?_;rintro e w2 ⟨rfl,hw⟩;obtain rfl:w=w2:=hw.symm;clear hw))
    go_round
    case rel=>exact⟨j+1,by omega,by go_num,HJ.out⟩
    case measure=>simp [intOf];omega
   |false=>
    rw [hA] at hd
    cases hB:letD t[j] with
    |true=>
     have HJ:Hid (∀ i,i<j+1->(hi:i<t.size)->Dt.alnumB t[i]=true):=by
      show ∀ i,_
      intro i h2 h3
      by_cases e:i=j
      ·subst e;rw [hor,hB];simp
      ·exact ha i (by omega) h3
     rw [hB] at hl;clear ha hor hA hB;go_wp2_with (first|(go_at_call 251;refine(hd _).mono ?_;rintro e w2 ⟨rfl,hw⟩;obtain rfl:w=w2:=hw.symm;clear hw)|(go_at_call 252;refine(hl _).mono ?_;rintro e w2 ⟨rfl,hw⟩;obtain rfl:w=w2:=hw.symm;clear hw))
     go_round
     case rel=>exact⟨j+1,by omega,by go_num,HJ.out⟩
     case measure=>simp [intOf];omega
    |false=>
     have HT:=Nm.hide (tagT_bad hlt (by rw [hor,hA,hB];rfl));rw [hB] at hl;clear ha hor hA hB;go_wp2_with (first|(go_at_call 251;refine(hd _).mono ?_;rintro e w2 ⟨rfl,hw⟩;obtain rfl:w=w2:=hw.symm;clear hw)|(go_at_call 252;refine(hl _).mono ?_;rintro e w2 ⟨rfl,hw⟩;obtain rfl:w=w2:=hw.symm;clear hw))
     go_ret;rw [HT.out];exact⟨rfl,rfl⟩
  ·have hlt':(t.size:Int)<=(j:Int):=by omega
   have HT:=Nm.hide (tagT_good (fun i h=>ha i (by omega) h));clear ha
   by_cases h0:0<t.size
   ·have h0':(0:Int)<(t.size:Int):=by omega
    have HU:Hid (tagT t=decide ((t.size:Int)<=15)):=by
     show _=_
     rw [HT.out,decide_eq_true h0,Bool.true_and,Bool.eq_iff_iff]
     simp;omega
    clear HT;go_wp2;go_ret;rw [HU.out];exact⟨rfl,rfl⟩
   ·have h0':(t.size:Int)<=0:=by omega
    have HU:Hid (tagT t=false):=by
     show _=_
     rw [HT.out,decide_eq_false h0,Bool.false_and]
    clear HT;go_wp2;go_ret;rw [HU.out];exact⟨rfl,rfl⟩
theorem tag_of{d:ByteArray}{n:Nat}(hn:(Dt.txtS d).size=n)(_:n≠0):tagT (d.extract 1 n)=Dt.tagB d:=by
 have hle:=Dt.txt_le d;have he:=Dt.txt_ext d;rw [hn] at he
 have e1:(d.extract 1 n).data.toList=(Dt.txtS d).data.toList.drop 1:=by
  rw [<- he];simp only [ByteArray.data_extract,Array.toList_extract,List.extract_eq_take_drop];simp
  rw [<- List.drop_one,<- List.drop_one,List.drop_take]
 have e2:(d.extract 1 n).size=n-1:=by simp;omega
 rw [tagT,Dt.tagB,e1,e2,hn,Bool.eq_iff_iff];simp
 constructor
 ·rintro⟨h1,h2,h3⟩;exact⟨⟨by omega,by omega⟩,h1⟩
 ·rintro⟨⟨h1,h2⟩,h3⟩;exact⟨h3,by omega,by omega⟩
end Go.Proofs.YtaceiajcecaapaaGreat
namespace Go.Proofs.YtaceiajcecaapaaGreat
open Go.RowKit
def szV(o:Option Nat):Value:=.tuple #[.int .i64 ((o.getD 0:Nat):Int),.bool o.isSome]
theorem nsz_none{s:ByteArray}{i:Nat}(h:Dt.nameAtS s=Dt.nameF 256 s i)(h1:Dt.nameF 256 s i=ByteArray.empty):szV (Dt.sz .nm s)=.tuple #[.int .i64 0,.bool false]:=by
 have:(Dt.nameAtS s).size=0:=by rw [h,h1];rfl
 rw [Dt.sz,if_pos this];rfl
theorem nsz_zero{s:ByteArray}{i:Nat}(h:Dt.nameAtS s=Dt.nameF 256 s i)(h1:i<s.size)(h2:i<255)(h0:s[i].toNat=0):szV (Dt.sz .nm s)=.tuple #[.int .i64 ((i:Int)+1),.bool true]:=by
 have e:Dt.nameF 256 s i=s.extract 0 (i+1):=by rw [Dt.nameF,dif_pos ⟨h1,h2⟩,if_pos h0]
 have e1:(Dt.nameAtS s).size=i+1:=by rw [h,e];simp;omega
 rw [Dt.sz,if_neg (by omega),e1];rfl
theorem nsz_step{s:ByteArray}{i:Nat}(h:Dt.nameAtS s=Dt.nameF 256 s i)(h1:i<s.size)(h2:i<255)(h0:s[i].toNat≠0)(h3:s[i].toNat<=63):Dt.nameAtS s=Dt.nameF 256 s (i+(1+s[i].toNat)):=by
 rw [h,Dt.nameF,dif_pos ⟨h1,h2⟩,if_neg h0,if_neg (by omega),show i+s[i].toNat+1=i+(1+s[i].toNat) by omega];exact Dt.nameF_enough _ _ _ _ (by omega) (by omega)
theorem nsz_big{s:ByteArray}{i:Nat}(h1:i<s.size)(h2:i<255)(h0:63<s[i].toNat):Dt.nameF 256 s i=ByteArray.empty:=by
 rw [Dt.nameF,dif_pos ⟨h1,h2⟩,if_neg (by omega),if_pos h0]
theorem nsz_end{s:ByteArray}{i:Nat}(h:¬(i<s.size∧i<255)):Dt.nameF 256 s i=ByteArray.empty:=by
 rw [Dt.nameF,dif_neg h]
set_option maxRecDepth 100000 in
set_option maxHeartbeats 800000 in
theorem nameSize_any(s:ByteArray)(w:World):
 Calls Tryz.prog 155 #[.string s] w fun e w'=>e=.returned (szV (Dt.sz .nm s))∧w'=w:=by
 have H0:Dt.nameAtS s=Dt.nameF 256 s 0:=rfl;go_enter Tryz.func155,Tryz.ntmps155;go_wp2
 go_loop [4] (fun v=>∃ i:Nat,i<255∧v=.int .i64 i∧Dt.nameAtS s=Dt.nameF 256 s i) (fun v=>400-(intOf v).toNat)
 case atStart=>exact⟨0,by omega,rfl,H0⟩
 case round=>
  obtain⟨i,hi,rfl,hn⟩:=hrel;clear H0
  by_cases h1:i<s.size
  ·have h1':(i:Int)<(s.size:Int):=by omega
   have hc:(s[i].toNat:Int)<256:=by have:=s[i].toNat_lt;omega
   by_cases h3:s[i].toNat=0
   ·have HN:=Nm.hide (nsz_zero hn h1 hi h3);have h3':((s[i].toNat:Int)==0)=true:=by rw [beq_iff_eq];omega
    clear hn h3;go_wp2;go_ret2;rw [HN.out];exact⟨rfl,rfl⟩
   ·have h3':((s[i].toNat:Int)==0)=false:=by rw [beq_eq_false_iff_ne];omega
    have h3'':(0:Int)<(s[i].toNat:Int):=by omega
    by_cases h4:63<s[i].toNat
    ·have HN:=Nm.hide (nsz_none hn (nsz_big h1 hi h4));have h4':(63:Int)<(s[i].toNat:Int):=by omega
     clear hn h3;go_wp2_with (go_at_call 182;go_in)
     go_ret2;rw [HN.out];exact⟨rfl,rfl⟩
    ·have h4':(s[i].toNat:Int)<=63:=by omega
     have hst:=nsz_step hn h1 hi h3 (by omega)
     by_cases h5:255<=i+(1+s[i].toNat)
     ·have HN:=Nm.hide (nsz_none hst (nsz_end (by omega)));have h5':(255:Int)<=(i:Int)+(1+(s[i].toNat:Int)):=by omega
      clear hn h3 hst;go_wp2_with (go_at_call 182;go_in)
      go_ret2;rw [HN.out];exact⟨rfl,rfl⟩
     ·have HN:=Nm.hide hst;have h5':(i:Int)+(1+(s[i].toNat:Int))<255:=by omega
      clear hn h3 hst;go_wp2_with (go_at_call 182;go_in)
      go_round
      case rel=>exact⟨i+(1+s[i].toNat),by omega,by go_num,HN.out⟩
      case measure=>simp [intOf];omega
  ·have HN:=Nm.hide (nsz_none hn (nsz_end (by omega)));have h1':(s.size:Int)<=(i:Int):=by omega
   clear hn;go_wp2;go_ret2;rw [HN.out];exact⟨rfl,rfl⟩
end Go.Proofs.YtaceiajcecaapaaGreat
namespace Go.Proofs.YtaceiajcecaapaaGreat
open Go.RowKit
theorem Tryz.infoU8s:(Tryz.prog.info? 5).map (fun i=>(i.zero,i.size,i.bytes))=some (some (.int .u8 0),1,1):=by kernel_rfl
theorem conv_nil(c:Nat)(W:World):(convert 179 9 (.slice (some ⟨c,0,none⟩) 0 0)).run Tryz.prog W=.ok (.string ByteArray.empty) W:=by
 exact run_convert_bytes_back W 179 9 5 ⟨c,0,none⟩ 0 [] Tryz.underlying179 Tryz.underlying5 Tryz.underlying9 (by intro j hj;simp at hj)
set_option maxRecDepth 100000 in
set_option maxHeartbeats 800000 in
theorem l01Small_any(s:ByteArray)(w:World)(hs:s.size<=1000000000):
 Calls Tryz.prog 94 #[.string s] w fun e w'=>e=.returned (.string (Nm.small s))∧Below w.heap.size w w':=by
 obtain⟨j0,hj,k0,k1,k2⟩:=info_parts Tryz.infoU8s
 by_cases hz:s.size=0
 ·have hc:=fun W=>conv_nil w.heap.size W
  have HE:Hid (Nm.small s=ByteArray.empty):=by
   show _=_
   apply Nm.ba_ext;rw [Nm.small_data,List.length_eq_zero_iff.1 (show s.data.toList.length=0 by simpa using hz)];rfl
  have hz':(s.size:Int)<=0:=by omega
  go_enter Tryz.func94,Tryz.ntmps94;go_wp2
  go_loop [3,4] (fun v i=>v=.slice (some ⟨w.heap.size,0,none⟩) 0 0∧i=.int .i64 0) (fun _ _=>0)
  case atStart=>exact⟨rfl,rfl⟩
  case round=>
   obtain⟨rfl,rfl⟩:=hrel;go_wp2;go_ret;rw [HE.out];exact⟨rfl,(Below.refl _ _).alloc (Nat.le_refl _) _⟩
 ·go_enter Tryz.func94,Tryz.ntmps94;go_wp2
  go_loopw [3,4] (fun v i wr=>∃ k:Nat,k<=s.size∧i=.int .i64 k∧wr.ownsRow w.heap.size 5 1 v k (Nm.bys (Nm.smallL (s.data.toList.take k)))∧Below w.heap.size w wr)
   (fun _ i _=>s.size-(intOf i).toNat)
  case atStart=>exact⟨0,Nat.zero_le _,rfl,World.ownsRow_made w #[] 0 (Nat.le_refl _) (by decide) rfl,(Below.refl _ _).alloc (Nat.le_refl _) _⟩
  case round=>
   obtain⟨k,hk,rfl,hown,hbel⟩:=hrel;have hsz:=hbel.size
   by_cases hlt:k<s.size
   ·have HS:=Nm.hide (Nm.smallL_step (Nm.get_data hlt));have hcl:(s[k].toNat:Int)<256:=by have:=s[k].toNat_lt;omega
    by_cases hup:65<=s[k].toNat∧s[k].toNat<=90
    ·have HL:=Nm.hide (Nm.low_up hup);have d1:decide ((65:Int)<=(s[k].toNat:Int))=true:=by simp;omega
     have d2:decide ((s[k].toNat:Int)<=90)=true:=by simp;omega
     have hb1:(s[k].toNat:Int)<=90:=by omega
     clear hup;go_wp2_with (at_builtin;refine wpList_append_own _ rfl (.tmp 24) (.tmp 26) 179 rfl w.heap.size 5 j0 (.int .u8 0) 1 1 Tryz.underlying179 hj k0 k1 k2 rfl (by decide) _ _ _ rfl (hown.alloc _) ⟨wr.heap.size,0,none⟩ 1 1 [.int .u8 ((s[k].toNat:Int)+32)] rfl rfl (cell_one_new _ _ _) (Nm.one_cell _ rfl) (by unfold maxLen;omega) (by omega) (by simp;omega) ?_;intro vb wb hown2 hgrow2 hnl2;clear hnl2;rw [<- HL.out] at hown2;have R2:=Nm.bys_step (x:=[Nm.low s[k]]) (by simp;omega) (hown.alloc _) (hbel.alloc hsz _) hown2 hgrow2;clear hown2 hgrow2)
     go_roundw
     case rel=>exact⟨k+1,by omega,by go_num,by rw [HS.out];exact R2.1,R2.2⟩
     case measure=>simp [intOf];omega
    ·have HL:=Nm.hide (Nm.low_id hup)
     by_cases hlo:65<=s[k].toNat
     ·have d1:decide ((65:Int)<=(s[k].toNat:Int))=true:=by simp;omega
      have d2:decide ((s[k].toNat:Int)<=90)=false:=by simp;omega
      clear hup;go_wp2_with (at_builtin;refine wpList_append_own _ rfl (.tmp 24) (.tmp 26) 179 rfl w.heap.size 5 j0 (.int .u8 0) 1 1 Tryz.underlying179 hj k0 k1 k2 rfl (by decide) _ _ _ rfl (hown.alloc _) ⟨wr.heap.size,0,none⟩ 1 1 [.int .u8 (s[k].toNat:Int)] rfl rfl (cell_one_new _ _ _) (Nm.one_cell _ rfl) (by unfold maxLen;omega) (by omega) (by simp;omega) ?_;intro vb wb hown2 hgrow2 hnl2;clear hnl2;have R2:=Nm.bys_step (x:=[s[k]]) (by simp;omega) (hown.alloc _) (hbel.alloc hsz _) hown2 hgrow2;clear hown2 hgrow2)
      go_roundw
      case rel=>exact⟨k+1,by omega,by go_num,by rw [HS.out,HL.out];exact R2.1,R2.2⟩
      case measure=>simp [intOf];omega
     ·have d1:decide ((65:Int)<=(s[k].toNat:Int))=false:=by simp;omega
      clear hup;go_wp2_with (at_builtin;refine wpList_append_own _ rfl (.tmp 24) (.tmp 26) 179 rfl w.heap.size 5 j0 (.int .u8 0) 1 1 Tryz.underlying179 hj k0 k1 k2 rfl (by decide) _ _ _ rfl (hown.alloc _) ⟨wr.heap.size,0,none⟩ 1 1 [.int .u8 (s[k].toNat:Int)] rfl rfl (cell_one_new _ _ _) (Nm.one_cell _ rfl) (by unfold maxLen;omega) (by omega) (by simp;omega) ?_;intro vb wb hown2 hgrow2 hnl2;clear hnl2;have R2:=Nm.bys_step (x:=[s[k]]) (by simp;omega) (hown.alloc _) (hbel.alloc hsz _) hown2 hgrow2;clear hown2 hgrow2)
      go_roundw
      case rel=>exact⟨k+1,by omega,by go_num,by rw [HS.out,HL.out];exact R2.1,R2.2⟩
      case measure=>simp [intOf];omega
   ·have hkl:k=s.size:=by omega
    subst hkl;obtain⟨g,cp,rfl,hcv⟩:=Nm.conv_own (P:=Tryz.prog) Tryz.underlying179 Tryz.underlying5 Tryz.underlying9 hown (by omega);rw [List.take_of_length_le (by simp)] at hcv;have he:(⟨(Nm.smallL s.data.toList).toArray⟩:ByteArray)=Nm.small s:=rfl;rw [he] at hcv;clear hown hlt he;go_wp2;go_ret;exact⟨rfl,hbel⟩
end Go.Proofs.YtaceiajcecaapaaGreat
namespace Go.Proofs.YtaceiajcecaapaaGreat
open Go.RowKit
set_option linter.unusedVariables false
theorem strv_ne(s:ByteArray):(s.toList != s.toList)=false∧(s.toList==s.toList)=true:=by simp
set_option maxRecDepth 100000 in
set_option maxHeartbeats 400000 in
theorem eqRV_any(s t:ByteArray)(x y z:Int)(w:World):
 Calls Tryz.prog 23 #[.agg #[.string s,.int .i64 x,.int .i64 y,.int .i64 z,.string t],.agg #[.string s,.int .i64 x,.int .i64 y,.int .i64 z,.string t]] w fun e w'=>e=.returned (.bool true)∧Below w.heap.size w w':=by
 have e1:(x != x)=false:=by simp
 have e2:(y != y)=false:=by simp
 have e5:(z != z)=false:=by simp
 obtain⟨e3,e4⟩:=strv_ne s;obtain⟨e6,e7⟩:=strv_ne t;go_enter Tryz.func23,Tryz.ntmps23;go_wp2;go_ret;exact⟨rfl,((Below.refl _ _).alloc (Nat.le_refl _) _).alloc (by simp) _⟩
set_option maxRecDepth 100000 in
set_option maxHeartbeats 1600000 in
theorem eqRVS_any(v u:Value)(xs:List Rr)(w:World)(h:CRow w v xs.length 5 (rvVs xs))(h':CRow w u xs.length 5 (rvVs xs)):
 Calls Tryz.prog 11 #[v,u] w fun e w'=>e=.returned (.bool true)∧Below w.heap.size w w':=by
 obtain⟨_,a,cap,rfl,hcap,hmx,hc⟩:=h;obtain⟨_,a',cap',rfl,hcap',hmx',hc'⟩:=h';unfold maxLen at hmx hmx';have hne:((xs.length:Int) != (xs.length:Int))=false:=by simp
 go_enter Tryz.func11,Tryz.ntmps11;go_wp2
 go_loopw [5] (fun i wr=>∃ k:Nat,k<=xs.length∧i=.int .i64 k∧Below w.heap.size w wr) (fun i _=>xs.length-(intOf i).toNat)
 case atStart=>exact⟨0,Nat.zero_le _,rfl,Below.refl _ _⟩
 case round=>
  obtain⟨k,hk,rfl,hbel⟩:=hrel
  by_cases hlt:k<xs.length
  ·obtain⟨x,hx⟩:∃ x,xs[k]? =some x:=⟨_,List.getElem?_eq_getElem hlt⟩;obtain⟨b,off,rfl,hcell⟩:=hc (by omega);obtain⟨b',off',rfl,hcell'⟩:=hc' (by omega);have R1:=rv_cells hcell hx;have R2:=rv_cells hcell' hx;obtain⟨o,ty,cl,tt,da⟩:=x;simp only at R1 R2
   have hS:∀ W,Below w.heap.size w W->((W.cell? ⟨b,off+k*5,none⟩=some (.string o)∧W.cell? ⟨b,off+k*5+1,none⟩=some (.int .i64 ty)∧W.cell? ⟨b,off+k*5+2,none⟩=some (.int .i64 cl)∧W.cell? ⟨b,off+k*5+3,none⟩=some (.int .i64 tt)∧W.cell? ⟨b,off+k*5+4,none⟩=some (.string da))∧(W.cell? ⟨b',off'+k*5,none⟩=some (.string o)∧W.cell? ⟨b',off'+k*5+1,none⟩=some (.int .i64 ty)∧W.cell? ⟨b',off'+k*5+2,none⟩=some (.int .i64 cl)∧W.cell? ⟨b',off'+k*5+3,none⟩=some (.int .i64 tt)∧W.cell? ⟨b',off'+k*5+4,none⟩=some (.string da)))∧Below w.heap.size w W:=by
    intro W hW;have put:∀ {B O:Nat} {z:Value},w.cell? ⟨B,O,none⟩=some z->W.cell? ⟨B,O,none⟩=some z:=fun h=>(hW.cell (World.block_lt_of_cell? w _ h)).trans h
    exact⟨⟨⟨put R1.1,put R1.2.1,put R1.2.2.1,put R1.2.2.2.1,put R1.2.2.2.2⟩,⟨put R2.1,put R2.2.1,put R2.2.2.1,put R2.2.2.2.1,put R2.2.2.2.2⟩⟩,hW⟩
   have hS0:=hS wr.drew hbel.drew;have heq:=fun W (hW:Below w.heap.size w W)=>(eqRV_any o da ty cl tt W).mono (R':=fun e w'=>e=.returned (.bool true)∧Below w.heap.size w w') (by rintro e w' ⟨he,hb⟩;exact⟨he,hW.trans (hb.mono hW.size)⟩)
   have i1:(0:Int)<=(k:Int):=by omega
   have i2:(k:Int)<(xs.length:Int):=by omega
   clear hc hc' hcell hcell' hx R1 R2;go_wp2;go_region_held3 (fun W=>((W.cell? ⟨b,off+k*5,none⟩=some (.string o)∧W.cell? ⟨b,off+k*5+1,none⟩=some (.int .i64 ty)∧W.cell? ⟨b,off+k*5+2,none⟩=some (.int .i64 cl)∧W.cell? ⟨b,off+k*5+3,none⟩=some (.int .i64 tt)∧W.cell? ⟨b,off+k*5+4,none⟩=some (.string da))∧(W.cell? ⟨b',off'+k*5,none⟩=some (.string o)∧W.cell? ⟨b',off'+k*5+1,none⟩=some (.int .i64 ty)∧W.cell? ⟨b',off'+k*5+2,none⟩=some (.int .i64 cl)∧W.cell? ⟨b',off'+k*5+3,none⟩=some (.int .i64 tt)∧W.cell? ⟨b',off'+k*5+4,none⟩=some (.string da)))∧Below w.heap.size w W) (first|with_reducible assumption|with_reducible exact hS0) ((first|(go_at_call 23;refine(heq _ hS0.2).mono ?_;rintro e w' ⟨rfl,hb1⟩;have hS1:=hS _ hb1)))
   go_wp2;go_roundw
   case rel=>exact⟨k+1,by omega,by go_num,hS1.2⟩
   case measure=>simp [intOf];omega
  ·clear hc hc';have i2:(xs.length:Int)<=(k:Int):=by omega
   go_wp2;go_ret;exact⟨rfl,hbel⟩
end Go.Proofs.YtaceiajcecaapaaGreat
