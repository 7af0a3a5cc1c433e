import Derived.Test.YtcihkbojmbfmmaaGreatDoorParts
import Derived.Test.YtcihkbojmbfmmaaGreatDoorJTrR
import Derived.Test.YtcihkbojmbfmmaaGreatDoorJTrN
import Derived.Test.YtcihkbojmbfmmaaGreatDoorRows
import Derived.WalkSpells
import Derived.WalkLawsBesides
namespace Go.Proofs.YtcihkbojmbfmmaaGreatDoor
open Go.RowKit
theorem okForm_of{f:ByteArray}(h1:f.size<=100)(h2:f.data.toList.all (fun c=>c==110||c==98||c==116||c==115||c==99||c==109||c==42)=true):okForm f:=by
 refine⟨h1,?_⟩;intro k hk;have:=List.all_eq_true.1 h2 f[k] (List.mem_of_getElem? (Nm.get_data hk));simpa [or_assoc] using this
theorem form_ok(t:Int):okForm (Dt.formS t):=by
 unfold Dt.formS
 repeat' split
 all_goals exact okForm_of (by decide) (by decide)
theorem parts_some{t:Int}{d:ByteArray}:(Dt.parts (Dt.specP t) d).isSome=(Dt.spans (Dt.implP t) 0 d).isSome:=by
 rw [<- Dt.forms_agree,Dt.spans_of_parts];simp
set_option maxRecDepth 100000 in
set_option maxHeartbeats 400000 in
theorem specCheckData_any(t:Int)(d:ByteArray)(w:World):
 Calls Tryz.prog 73 #[.int .i64 t,.string d] w fun e w'=>e=.returned (.int .i64 (cutCode t d))∧Below w.heap.size w w':=by
 by_cases ht:t<0∨65535<t
 ·have HC:=Nm.hide (code_type (d:=d) ht)
  by_cases ht0:t<0
  ·clear ht;go_enter Tryz.func73,Tryz.ntmps73;go_wp2;go_ret;rw [HC.out.1];exact⟨rfl,Below.refl _ _⟩
  ·have ht1:65535<t:=by omega
   have ht2:0<=t:=by omega
   clear ht;go_enter Tryz.func73,Tryz.ntmps73;go_wp2;go_ret;rw [HC.out.1];exact⟨rfl,Below.refl _ _⟩
 have ht0:0<=t:=by omega
 have ht1:t<=65535:=by omega
 by_cases hl:65535<d.size
 ·have HC:=Nm.hide (code_long ht hl);have hl':(65535:Int)<(d.size:Int):=by omega
  clear ht;go_enter Tryz.func73,Tryz.ntmps73;go_wp2;go_ret;rw [HC.out.1];exact⟨rfl,Below.refl _ _⟩
 have hl':(d.size:Int)<=65535:=by omega
 have hcall:=fun w=>l02Parts_any (Dt.formS t) d w (form_ok t) (by omega)
 have hform:=l02Form_any t;have hps:=parts_some (t:=t) (d:=d);rw [Dt.specP] at hps;rw [hps] at hcall;generalize Dt.formS t=f at*
 cases hq:Dt.spans (Dt.implP t) 0 d with
 |none=>
  have HC:=Nm.hide (code_none ht hl hq);rw [hq] at hcall;clear ht hl hq hps;go_enter Tryz.func73,Tryz.ntmps73;go_wp2_with (first|(go_at_call 77;refine(hform _).mono ?_;rintro e w1 ⟨rfl,hw⟩;obtain rfl:w=w1:=hw.symm;clear hw)|(go_at_call 78;refine(hcall _).mono ?_;rintro e w2 ⟨v,rfl,_,hbel⟩))
  go_ret;rw [HC.out.1]
  exact⟨rfl,hbel⟩
 |some sp=>
  have HC:=Nm.hide (code_some ht hl hq);rw [hq] at hcall;clear ht hl hq hps;go_enter Tryz.func73,Tryz.ntmps73;go_wp2_with (first|(go_at_call 77;refine(hform _).mono ?_;rintro e w1 ⟨rfl,hw⟩;obtain rfl:w=w1:=hw.symm;clear hw)|(go_at_call 78;refine(hcall _).mono ?_;rintro e w2 ⟨v,rfl,_,hbel⟩))
  go_ret;rw [HC.out.1];exact⟨rfl,hbel⟩
end Go.Proofs.YtcihkbojmbfmmaaGreatDoor
namespace Go.Proofs.YtcihkbojmbfmmaaGreatDoor
open Go.RowKit
def digD(c:UInt8):Bool:=decide (48<=c.toNat)&&decide (c.toNat<=57)
def letD(c:UInt8):Bool:=decide (97<=(Nm.low c).toNat)&&decide ((Nm.low c).toNat<=122)
theorem alnum_or(c:UInt8):Dt.alnumB c=(digD c||letD c):=by
 unfold Dt.alnumB digD letD Nm.low;have hc:=c.toNat_lt
 by_cases h:65<=c.toNat∧c.toNat<=90
 ·rw [if_pos h];have e:(UInt8.ofNat (c.toNat+32)).toNat=c.toNat+32:=by simp;omega
  rw [e,Bool.eq_iff_iff];simp
  omega
 ·rw [if_neg h,Bool.eq_iff_iff];simp
  omega
set_option maxRecDepth 100000 in
set_option maxHeartbeats 400000 in
theorem isDigitD_any(c:UInt8)(w:World):
 Calls Tryz.prog 236 #[.int .u8 c.toNat] w fun e w'=>e=.returned (.bool (digD c))∧w'=w:=by
 by_cases h1:48<=c.toNat
 ·have d1:decide ((48:Int)<=(c.toNat:Int))=true:=by simp;omega
  have HE:Hid (digD c=decide ((c.toNat:Int)<=57)):=by
   show _=_
   rw [digD,decide_eq_true h1,Bool.true_and,Bool.eq_iff_iff]
   simp;omega
  go_enter Tryz.func236,Tryz.ntmps236;go_wp2;go_ret;rw [HE.out];exact⟨rfl,rfl⟩
 ·have d1:decide ((48:Int)<=(c.toNat:Int))=false:=by simp;omega
  have HE:Hid (digD c=false):=by
   show _=_
   rw [digD,decide_eq_false h1];rfl
  go_enter Tryz.func236,Tryz.ntmps236;go_wp2;go_ret;rw [HE.out];exact⟨rfl,rfl⟩
set_option maxRecDepth 100000 in
set_option maxHeartbeats 400000 in
theorem isLetter_any(c:UInt8)(w:World):
 Calls Tryz.prog 237 #[.int .u8 c.toNat] w fun e w'=>e=.returned (.bool (letD c))∧w'=w:=by
 have hcall:=foldByte_any c
 by_cases h1:97<=(Nm.low c).toNat
 ·have HE:Hid (letD c=decide (((Nm.low c).toNat:Int)<=122)):=by
   show _=_
   rw [letD,decide_eq_true h1,Bool.true_and,Bool.eq_iff_iff]
   simp;omega
  have d1:decide ((97:Int)<=((Nm.low c).toNat:Int))=true:=by simp;omega
  go_enter Tryz.func237,Tryz.ntmps237;go_wp2_with (go_at_call 157;refine(hcall _).mono ?_;rintro e w1 ⟨rfl,rfl⟩)
  go_ret;rw [HE.out];exact⟨rfl,rfl⟩
 ·have d1:decide ((97:Int)<=((Nm.low c).toNat:Int))=false:=by simp;omega
  have HE:Hid (letD c=false):=by
   show _=_
   rw [letD,decide_eq_false h1];rfl
  go_enter Tryz.func237,Tryz.ntmps237;go_wp2_with (go_at_call 157;refine(hcall _).mono ?_;rintro e w1 ⟨rfl,rfl⟩)
  go_ret;rw [HE.out];exact⟨rfl,rfl⟩
def tagT(t:ByteArray):Bool:=t.data.toList.all Dt.alnumB&&(decide (0<t.size)&&decide (t.size<=15))
theorem tagT_bad{t:ByteArray}{j:Nat}(hj:j<t.size)(h:Dt.alnumB t[j]=false):tagT t=false:=by
 rw [tagT,Bool.and_eq_false_iff];left;rw [List.all_eq_false];exact⟨t[j],List.mem_of_getElem? (Nm.get_data hj),by simp [h]⟩
theorem tagT_good{t:ByteArray}(h:∀ j,(hj:j<t.size)->Dt.alnumB t[j]=true):tagT t=(decide (0<t.size)&&decide (t.size<=15)):=by
 rw [tagT]
 have:t.data.toList.all Dt.alnumB=true:=by
  rw [List.all_eq_true];intro c hc;obtain⟨i,hi⟩:=List.getElem?_of_mem hc
  have hl:i<t.size:=by
   have:=(List.getElem?_eq_some_iff.1 hi).1;simpa using this
  rw [Nm.get_data hl] at hi;simp at hi;rw [<- hi];exact h _ hl
 rw [this,Bool.true_and]
set_option maxRecDepth 100000 in
set_option maxHeartbeats 800000 in
theorem isTag_any(t:ByteArray)(w:World)(ht:t.size<=1000000000):
 Calls Tryz.prog 235 #[.string t] w fun e w'=>e=.returned (.bool (tagT t))∧w'=w:=by
 go_enter Tryz.func235,Tryz.ntmps235;go_wp2
 go_loop [6] (fun v=>∃ j:Nat,j<=t.size∧v=.int .i64 j∧∀ i,i<j->(hi:i<t.size)->Dt.alnumB t[i]=true) (fun v=>t.size-(intOf v).toNat)
 case atStart=>exact⟨0,by omega,rfl,fun i h=>by omega⟩
 case round=>
  obtain⟨j,hj,rfl,ha⟩:=hrel
  by_cases hlt:j<t.size
  ·have hlt':(j:Int)<(t.size:Int):=by omega
   have hd:=isDigitD_any t[j];have hl:=isLetter_any t[j];have hor:=alnum_or t[j]
   cases hA:digD t[j] with
   |true=>
    have HJ:Hid (∀ i,i<j+1->(hi:i<t.size)->Dt.alnumB t[i]=true):=by
     show ∀ i,_
     intro i h2 h3
     by_cases e:i=j
     ·subst e;rw [hor,hA];rfl
     ·exact ha i (by omega) h3
    rw [hA] at hd;clear ha hor hA;go_wp2_with (first|(go_at_call 236;refine(hd _).mono ?_;rintro e w2 ⟨rfl,hw⟩;obtain rfl:w=w2:=hw.symm;clear hw)|(go_at_call 237;refine(hl _).mono ?_;rintro e w2 ⟨rfl,hw⟩;obtain rfl:w=w2:=hw.symm;clear hw))
    go_round
    case rel=>exact⟨j+1,by omega,by go_num,HJ.out⟩
    case measure=>simp [intOf];omega
   |false=>
    rw [hA] at hd
    cases hB:letD t[j] with
    |true=>
     have HJ:Hid (∀ i,i<j+1->(hi:i<t.size)->Dt.alnumB t[i]=true):=by
      show ∀ i,_
      intro i h2 h3
      by_cases e:i=j
      ·subst e;rw [hor,hB];simp
      ·exact ha i (by omega) h3
     rw [hB] at hl;clear ha hor hA hB;go_wp2_with (first|(go_at_call 236;refine(hd _).mono ?_;rintro e w2 ⟨rfl,hw⟩;obtain rfl:w=w2:=hw.symm;clear hw)|(go_at_call 237;refine(hl _).mono ?_;rintro e w2 ⟨rfl,hw⟩;obtain rfl:w=w2:=hw.symm;clear hw))
     go_round
     case rel=>exact⟨j+1,by omega,by go_num,HJ.out⟩
     case measure=>simp [intOf];omega
    |false=>
     have HT:=Nm.hide (tagT_bad hlt (by rw [hor,hA,hB];rfl));rw [hB] at hl;clear ha hor hA hB;go_wp2_with (first|(go_at_call 236;refine(hd _).mono ?_;rintro e w2 ⟨rfl,hw⟩;obtain rfl:w=w2:=hw.symm;clear hw)|(go_at_call 237;refine(hl _).mono ?_;rintro e w2 ⟨rfl,hw⟩;obtain rfl:w=w2:=hw.symm;clear hw))
     go_ret;rw [HT.out];exact⟨rfl,rfl⟩
  ·have hlt':(t.size:Int)<=(j:Int):=by omega
   have HT:=Nm.hide (tagT_good (fun i h=>ha i (by omega) h));clear ha
   by_cases h0:0<t.size
   ·have h0':(0:Int)<(t.size:Int):=by omega
    have HU:Hid (tagT t=decide ((t.size:Int)<=15)):=by
     show _=_
     rw [HT.out,decide_eq_true h0,Bool.true_and,Bool.eq_iff_iff]
     simp;omega
    clear HT;go_wp2;go_ret;rw [HU.out];exact⟨rfl,rfl⟩
   ·have h0':(t.size:Int)<=0:=by omega
    have HU:Hid (tagT t=false):=by
     show _=_
     rw [HT.out,decide_eq_false h0,Bool.false_and]
    clear HT;go_wp2;go_ret;rw [HU.out];exact⟨rfl,rfl⟩
theorem tag_of{d:ByteArray}{n:Nat}(hn:(Dt.txtS d).size=n)(_:n≠0):tagT (d.extract 1 n)=Dt.tagB d:=by
 have hle:=Dt.txt_le d;have he:=Dt.txt_ext d;rw [hn] at he
 have e1:(d.extract 1 n).data.toList=(Dt.txtS d).data.toList.drop 1:=by
  rw [<- he];simp only [ByteArray.data_extract,Array.toList_extract,List.extract_eq_take_drop];simp
  rw [<- List.drop_one,<- List.drop_one,List.drop_take]
 have e2:(d.extract 1 n).size=n-1:=by simp;omega
 rw [tagT,Dt.tagB,e1,e2,hn,Bool.eq_iff_iff];simp
 constructor
 ·rintro⟨h1,h2,h3⟩;exact⟨⟨by omega,by omega⟩,h1⟩
 ·rintro⟨⟨h1,h2⟩,h3⟩;exact⟨h3,by omega,by omega⟩
end Go.Proofs.YtcihkbojmbfmmaaGreatDoor
