import Derived.Test.YtahpiciofdfipaaGreatJCmpM
import Derived.Test.YtahpiciofdfipaaGreatJData1
import Derived.Test.YtahpiciofdfipaaGreatRows
import Derived.WalkSpells
import Derived.WalkLawsBesides
import Derived.Test.YtahpiciofdfipaaGreatJMath
namespace Go.Proofs.YtahpiciofdfipaaGreat
open Go.RowKit
theorem bless_self:∀ l:List UInt8,Op.bytesLess l l=false:=by
 intro l
 induction l with
 |nil=>rfl
 |cons x l ih=>simp [Op.bytesLess,ih]
theorem ordL_zero(a b:List UInt8):Nm.ordL a b=0↔a=b:=by
 constructor
 ·intro h
  by_cases h1:Op.bytesLess a b=true
  ·rw [Nm.ordL,if_pos h1] at h;omega
  ·rw [Nm.ordL,if_neg h1] at h
   by_cases h2:a=b
   ·exact h2
   ·rw [if_neg h2] at h;omega
 ·intro h;subst h;rw [Nm.ordL,if_neg (by simp [bless_self]),if_pos rfl]
def sameS(a b:ByteArray):Bool:=(Nm.split a).isSome&&(Nm.split b).isSome&&decide (Nm.ordS a b=0)
theorem same_left{a b:ByteArray}(h:Nm.split a=none):sameS a b=false:=by simp [sameS,h]
theorem same_right{a b:ByteArray}(h:Nm.split b=none):sameS a b=false:=by simp [sameS,h]
theorem same_some{a b:ByteArray}{xs ys:List ByteArray}(ha:Nm.split a=some xs)(hb:Nm.split b=some ys):sameS a b=decide (Nm.ordS a b=0):=by simp [sameS,ha,hb]
theorem small_pos{a:ByteArray}{xs:List ByteArray}(h:Nm.split a=some xs):(Nm.small a).toList.isEmpty=false:=by
 apply Nm.tl_not_empty;rw [Nm.small_size];have:=Nm.split_size h;omega
theorem small_eq(a b:ByteArray):((Nm.small a).toList==(Nm.small b).toList)=decide (Nm.ordS a b=0):=by
 rw [Bool.eq_iff_iff];simp only [beq_iff_eq,decide_eq_true_eq,Nm.ordS,ordL_zero];rw [ByteArray.toList_eq,ByteArray.toList_eq,Nm.small_data,Nm.small_data]
end Go.Proofs.YtahpiciofdfipaaGreat
namespace Go.Proofs.YtahpiciofdfipaaGreat
open Go.RowKit
theorem name_zero{s:ByteArray}{i:Nat}(h:i<s.size)(h2:i<255)(h0:s[i].toNat=0):Dt.nameF 256 s i=s.extract 0 (i+1):=by
 rw [Dt.nameF,dif_pos ⟨h,h2⟩,if_pos h0]
theorem name_big{s:ByteArray}{i:Nat}(h:i<s.size)(h2:i<255)(h0:63<s[i].toNat):Dt.nameF 256 s i=ByteArray.empty:=by
 rw [Dt.nameF,dif_pos ⟨h,h2⟩,if_neg (by omega),if_pos h0]
theorem name_step{s:ByteArray}{i:Nat}(h:i<s.size)(h2:i<255)(h0:s[i].toNat≠0)(h1:s[i].toNat<=63):Dt.nameF 256 s i=Dt.nameF 256 s (i+s[i].toNat+1):=by
 rw [Dt.nameF,dif_pos ⟨h,h2⟩,if_neg h0,if_neg (by omega)];exact Dt.nameF_enough _ _ _ _ (by omega) (by omega)
theorem name_end{s:ByteArray}{i:Nat}(h:¬(i<s.size∧i<255)):Dt.nameF 256 s i=ByteArray.empty:=by
 rw [Dt.nameF,dif_neg h]
set_option maxRecDepth 100000 in
set_option maxHeartbeats 800000 in
theorem l02NameAt_any(s:ByteArray)(w:World):
 Calls Tryz.prog 100 #[.string s] w fun e w'=>e=.returned (.string (Dt.nameAtS s))∧w'=w:=by
 have H0:Dt.nameAtS s=Dt.nameF 256 s 0:=rfl;go_enter Tryz.func100,Tryz.ntmps100;go_wp2
 go_loop [3] (fun v=>∃ i:Nat,i<=400∧v=.int .i64 i∧Dt.nameAtS s=Dt.nameF 256 s i) (fun v=>400-(intOf v).toNat)
 case atStart=>exact⟨0,by omega,rfl,H0⟩
 case round=>
  obtain⟨i,hi,rfl,hn⟩:=hrel;clear H0
  by_cases h1:i<s.size
  ·have h1':(i:Int)<(s.size:Int):=by omega
   by_cases h2:i<255
   ·have h2':(i:Int)<255:=by omega
    have hc:(s[i].toNat:Int)<256:=by have:=s[i].toNat_lt;omega
    by_cases h3:s[i].toNat=0
    ·have HN:=Nm.hide (hn.trans (name_zero h1 h2 h3));have h3':((s[i].toNat:Int)==0)=true:=by rw [beq_iff_eq];omega
     clear hn;go_wp2;go_ret;rw [HN.out];exact⟨rfl,rfl⟩
    ·have h3':((s[i].toNat:Int)==0)=false:=by rw [beq_eq_false_iff_ne];omega
     by_cases h4:63<s[i].toNat
     ·have HN:=Nm.hide (hn.trans (name_big h1 h2 h4));have h4':(63:Int)<(s[i].toNat:Int):=by omega
      clear hn;go_wp2;go_ret;rw [HN.out];exact⟨rfl,rfl⟩
     ·have HN:=Nm.hide (hn.trans (name_step h1 h2 h3 (by omega)));have h4':(s[i].toNat:Int)<=63:=by omega
      clear hn;go_wp2
      go_round
      case rel=>exact⟨i+s[i].toNat+1,by omega,by go_num,HN.out⟩
      case measure=>simp [intOf];omega
   ·have HN:=Nm.hide (hn.trans (name_end (by omega)));have h2':(255:Int)<=(i:Int):=by omega
    clear hn;go_wp2;go_ret;rw [HN.out];exact⟨rfl,rfl⟩
  ·have HN:=Nm.hide (hn.trans (name_end (by omega)));have h1':(s.size:Int)<=(i:Int):=by omega
   clear hn;go_wp2;go_ret;rw [HN.out];exact⟨rfl,rfl⟩
end Go.Proofs.YtahpiciofdfipaaGreat
namespace Go.Proofs.YtahpiciofdfipaaGreat
open Go.RowKit
def digD(c:UInt8):Bool:=decide (48<=c.toNat)&&decide (c.toNat<=57)
def letD(c:UInt8):Bool:=decide (97<=(Nm.low c).toNat)&&decide ((Nm.low c).toNat<=122)
theorem alnum_or(c:UInt8):Dt.alnumB c=(digD c||letD c):=by
 unfold Dt.alnumB digD letD Nm.low;have hc:=c.toNat_lt
 by_cases h:65<=c.toNat∧c.toNat<=90
 ·rw [if_pos h];have e:(UInt8.ofNat (c.toNat+32)).toNat=c.toNat+32:=by simp;omega
  rw [e,Bool.eq_iff_iff];simp
  omega
 ·rw [if_neg h,Bool.eq_iff_iff];simp
  omega
set_option maxRecDepth 100000 in
set_option maxHeartbeats 400000 in
theorem isDigitD_any(c:UInt8)(w:World):
 Calls Tryz.prog 220 #[.int .u8 c.toNat] w fun e w'=>e=.returned (.bool (digD c))∧w'=w:=by
 by_cases h1:48<=c.toNat
 ·have d1:decide ((48:Int)<=(c.toNat:Int))=true:=by simp;omega
  have HE:Hid (digD c=decide ((c.toNat:Int)<=57)):=by
   show _=_
   rw [digD,decide_eq_true h1,Bool.true_and,Bool.eq_iff_iff]
   simp;omega
  go_enter Tryz.func220,Tryz.ntmps220;go_wp2;go_ret;rw [HE.out];exact⟨rfl,rfl⟩
 ·have d1:decide ((48:Int)<=(c.toNat:Int))=false:=by simp;omega
  have HE:Hid (digD c=false):=by
   show _=_
   rw [digD,decide_eq_false h1];rfl
  go_enter Tryz.func220,Tryz.ntmps220;go_wp2;go_ret;rw [HE.out];exact⟨rfl,rfl⟩
set_option maxRecDepth 100000 in
set_option maxHeartbeats 400000 in
theorem isLetter_any(c:UInt8)(w:World):
 Calls Tryz.prog 221 #[.int .u8 c.toNat] w fun e w'=>e=.returned (.bool (letD c))∧w'=w:=by
 have hcall:=foldByte_any c
 by_cases h1:97<=(Nm.low c).toNat
 ·have HE:Hid (letD c=decide (((Nm.low c).toNat:Int)<=122)):=by
   show _=_
   rw [letD,decide_eq_true h1,Bool.true_and,Bool.eq_iff_iff]
   simp;omega
  have d1:decide ((97:Int)<=((Nm.low c).toNat:Int))=true:=by simp;omega
  go_enter Tryz.func221,Tryz.ntmps221;go_wp2_with (go_at_call 147;refine(hcall _).mono ?_;rintro e w1 ⟨rfl,rfl⟩)
  go_ret;rw [HE.out];exact⟨rfl,rfl⟩
 ·have d1:decide ((97:Int)<=((Nm.low c).toNat:Int))=false:=by simp;omega
  have HE:Hid (letD c=false):=by
   show _=_
   rw [letD,decide_eq_false h1];rfl
  go_enter Tryz.func221,Tryz.ntmps221;go_wp2_with (go_at_call 147;refine(hcall _).mono ?_;rintro e w1 ⟨rfl,rfl⟩)
  go_ret;rw [HE.out];exact⟨rfl,rfl⟩
def tagT(t:ByteArray):Bool:=t.data.toList.all Dt.alnumB&&(decide (0<t.size)&&decide (t.size<=15))
theorem tagT_bad{t:ByteArray}{j:Nat}(hj:j<t.size)(h:Dt.alnumB t[j]=false):tagT t=false:=by
 rw [tagT,Bool.and_eq_false_iff];left;rw [List.all_eq_false];exact⟨t[j],List.mem_of_getElem? (Nm.get_data hj),by simp [h]⟩
theorem tagT_good{t:ByteArray}(h:∀ j,(hj:j<t.size)->Dt.alnumB t[j]=true):tagT t=(decide (0<t.size)&&decide (t.size<=15)):=by
 rw [tagT]
 have:t.data.toList.all Dt.alnumB=true:=by
  rw [List.all_eq_true];intro c hc;obtain⟨i,hi⟩:=List.getElem?_of_mem hc
  have hl:i<t.size:=by
   have:=(List.getElem?_eq_some_iff.1 hi).1;simpa using this
  rw [Nm.get_data hl] at hi;simp at hi;rw [<- hi];exact h _ hl
 rw [this,Bool.true_and]
set_option maxRecDepth 100000 in
set_option maxHeartbeats 800000 in
theorem isTag_any(t:ByteArray)(w:World)(ht:t.size<=1000000000):
 Calls Tryz.prog 219 #[.string t] w fun e w'=>e=.returned (.bool (tagT t))∧w'=w:=by
 go_enter Tryz.func219,Tryz.ntmps219;go_wp2
 go_loop [6] (fun v=>∃ j:Nat,j<=t.size∧v=.int .i64 j∧∀ i,i<j->(hi:i<t.size)->Dt.alnumB t[i]=true) (fun v=>t.size-(intOf v).toNat)
 case atStart=>exact⟨0,by omega,rfl,fun i h=>by omega⟩
 case round=>
  obtain⟨j,hj,rfl,ha⟩:=hrel
  by_cases hlt:j<t.size
  ·have hlt':(j:Int)<(t.size:Int):=by omega
   have hd:=isDigitD_any t[j];have hl:=isLetter_any t[j];have hor:=alnum_or t[j]
   cases hA:digD t[j] with
   |true=>
    have HJ:Hid (∀ i,i<j+1->(hi:i<t.size)->Dt.alnumB t[i]=true):=by
     show ∀ i,_
     intro i h2 h3
     by_cases e:i=j
     ·subst e;rw [hor,hA];rfl
     ·exact ha i (by omega) h3
    rw [hA] at hd;clear ha hor hA;go_wp2_with (first|(go_at_call 220;refine(hd _).mono ?_;rintro e w2 ⟨rfl,hw⟩;obtain rfl:w=w2:=hw.symm;clear hw)|(go_at_call 221;refine(hl _).mono ?_;rintro e w2 ⟨rfl,hw⟩;obtain rfl:w=w2:=hw.symm;clear hw))
    go_round
    case rel=>exact⟨j+1,by omega,by go_num,HJ.out⟩
    case measure=>simp [intOf];omega
   |false=>
    rw [hA] at hd
    cases hB:letD t[j] with
    |true=>
     have HJ:Hid (∀ i,i<j+1->(hi:i<t.size)->Dt.alnumB t[i]=true):=by
      show ∀ i,_
      intro i h2 h3
      by_cases e:i=j
      ·subst e;rw [hor,hB];simp
      ·exact ha i (by omega) h3
     rw [hB] at hl;clear ha hor hA hB;go_wp2_with (first|(go_at_call 220;refine(hd _).mono ?_;rintro e w2 ⟨rfl,hw⟩;obtain rfl:w=w2:=hw.symm;clear hw)|(go_at_call 221;refine(hl _).mono ?_;rintro e w2 ⟨rfl,hw⟩;obtain rfl:w=w2:=hw.symm;clear hw))
     go_round
     case rel=>exact⟨j+1,by omega,by go_num,HJ.out⟩
     case measure=>simp [intOf];omega
    |false=>
     have HT:=Nm.hide (tagT_bad hlt (by rw [hor,hA,hB];rfl));rw [hB] at hl;clear ha hor hA hB;go_wp2_with (first|(go_at_call 220;refine(hd _).mono ?_;rintro e w2 ⟨rfl,hw⟩;obtain rfl:w=w2:=hw.symm;clear hw)|(go_at_call 221;refine(hl _).mono ?_;rintro e w2 ⟨rfl,hw⟩;obtain rfl:w=w2:=hw.symm;clear hw))
     go_ret;rw [HT.out];exact⟨rfl,rfl⟩
  ·have hlt':(t.size:Int)<=(j:Int):=by omega
   have HT:=Nm.hide (tagT_good (fun i h=>ha i (by omega) h));clear ha
   by_cases h0:0<t.size
   ·have h0':(0:Int)<(t.size:Int):=by omega
    have HU:Hid (tagT t=decide ((t.size:Int)<=15)):=by
     show _=_
     rw [HT.out,decide_eq_true h0,Bool.true_and,Bool.eq_iff_iff]
     simp;omega
    clear HT;go_wp2;go_ret;rw [HU.out];exact⟨rfl,rfl⟩
   ·have h0':(t.size:Int)<=0:=by omega
    have HU:Hid (tagT t=false):=by
     show _=_
     rw [HT.out,decide_eq_false h0,Bool.false_and]
    clear HT;go_wp2;go_ret;rw [HU.out];exact⟨rfl,rfl⟩
theorem tag_of{d:ByteArray}{n:Nat}(hn:(Dt.txtS d).size=n)(_:n≠0):tagT (d.extract 1 n)=Dt.tagB d:=by
 have hle:=Dt.txt_le d;have he:=Dt.txt_ext d;rw [hn] at he
 have e1:(d.extract 1 n).data.toList=(Dt.txtS d).data.toList.drop 1:=by
  rw [<- he];simp only [ByteArray.data_extract,Array.toList_extract,List.extract_eq_take_drop];simp
  rw [<- List.drop_one,<- List.drop_one,List.drop_take]
 have e2:(d.extract 1 n).size=n-1:=by simp;omega
 rw [tagT,Dt.tagB,e1,e2,hn,Bool.eq_iff_iff];simp
 constructor
 ·rintro⟨h1,h2,h3⟩;exact⟨⟨by omega,by omega⟩,h1⟩
 ·rintro⟨⟨h1,h2⟩,h3⟩;exact⟨h3,by omega,by omega⟩
end Go.Proofs.YtahpiciofdfipaaGreat
namespace Go.Proofs.YtahpiciofdfipaaGreat
open Go.RowKit
def szV(o:Option Nat):Value:=.tuple #[.int .i64 ((o.getD 0:Nat):Int),.bool o.isSome]
theorem nsz_none{s:ByteArray}{i:Nat}(h:Dt.nameAtS s=Dt.nameF 256 s i)(h1:Dt.nameF 256 s i=ByteArray.empty):szV (Dt.sz .nm s)=.tuple #[.int .i64 0,.bool false]:=by
 have:(Dt.nameAtS s).size=0:=by rw [h,h1];rfl
 rw [Dt.sz,if_pos this];rfl
theorem nsz_zero{s:ByteArray}{i:Nat}(h:Dt.nameAtS s=Dt.nameF 256 s i)(h1:i<s.size)(h2:i<255)(h0:s[i].toNat=0):szV (Dt.sz .nm s)=.tuple #[.int .i64 ((i:Int)+1),.bool true]:=by
 have e:Dt.nameF 256 s i=s.extract 0 (i+1):=by rw [Dt.nameF,dif_pos ⟨h1,h2⟩,if_pos h0]
 have e1:(Dt.nameAtS s).size=i+1:=by rw [h,e];simp;omega
 rw [Dt.sz,if_neg (by omega),e1];rfl
theorem nsz_step{s:ByteArray}{i:Nat}(h:Dt.nameAtS s=Dt.nameF 256 s i)(h1:i<s.size)(h2:i<255)(h0:s[i].toNat≠0)(h3:s[i].toNat<=63):Dt.nameAtS s=Dt.nameF 256 s (i+(1+s[i].toNat)):=by
 rw [h,Dt.nameF,dif_pos ⟨h1,h2⟩,if_neg h0,if_neg (by omega),show i+s[i].toNat+1=i+(1+s[i].toNat) by omega];exact Dt.nameF_enough _ _ _ _ (by omega) (by omega)
theorem nsz_big{s:ByteArray}{i:Nat}(h1:i<s.size)(h2:i<255)(h0:63<s[i].toNat):Dt.nameF 256 s i=ByteArray.empty:=by
 rw [Dt.nameF,dif_pos ⟨h1,h2⟩,if_neg (by omega),if_pos h0]
theorem nsz_end{s:ByteArray}{i:Nat}(h:¬(i<s.size∧i<255)):Dt.nameF 256 s i=ByteArray.empty:=by
 rw [Dt.nameF,dif_neg h]
set_option maxRecDepth 100000 in
set_option maxHeartbeats 800000 in
theorem nameSize_any(s:ByteArray)(w:World):
 Calls Tryz.prog 87 #[.string s] w fun e w'=>e=.returned (szV (Dt.sz .nm s))∧w'=w:=by
 have H0:Dt.nameAtS s=Dt.nameF 256 s 0:=rfl;go_enter Tryz.func87,Tryz.ntmps87;go_wp2
 go_loop [4] (fun v=>∃ i:Nat,i<255∧v=.int .i64 i∧Dt.nameAtS s=Dt.nameF 256 s i) (fun v=>400-(intOf v).toNat)
 case atStart=>exact⟨0,by omega,rfl,H0⟩
 case round=>
  obtain⟨i,hi,rfl,hn⟩:=hrel;clear H0
  by_cases h1:i<s.size
  ·have h1':(i:Int)<(s.size:Int):=by omega
   have hc:(s[i].toNat:Int)<256:=by have:=s[i].toNat_lt;omega
   by_cases h3:s[i].toNat=0
   ·have HN:=Nm.hide (nsz_zero hn h1 hi h3);have h3':((s[i].toNat:Int)==0)=true:=by rw [beq_iff_eq];omega
    clear hn h3;go_wp2;go_ret2;rw [HN.out];exact⟨rfl,rfl⟩
   ·have h3':((s[i].toNat:Int)==0)=false:=by rw [beq_eq_false_iff_ne];omega
    have h3'':(0:Int)<(s[i].toNat:Int):=by omega
    by_cases h4:63<s[i].toNat
    ·have HN:=Nm.hide (nsz_none hn (nsz_big h1 hi h4));have h4':(63:Int)<(s[i].toNat:Int):=by omega
     clear hn h3;go_wp2_with (go_at_call 121;go_in)
     go_ret2;rw [HN.out];exact⟨rfl,rfl⟩
    ·have h4':(s[i].toNat:Int)<=63:=by omega
     have hst:=nsz_step hn h1 hi h3 (by omega)
     by_cases h5:255<=i+(1+s[i].toNat)
     ·have HN:=Nm.hide (nsz_none hst (nsz_end (by omega)));have h5':(255:Int)<=(i:Int)+(1+(s[i].toNat:Int)):=by omega
      clear hn h3 hst;go_wp2_with (go_at_call 121;go_in)
      go_ret2;rw [HN.out];exact⟨rfl,rfl⟩
     ·have HN:=Nm.hide hst;have h5':(i:Int)+(1+(s[i].toNat:Int))<255:=by omega
      clear hn h3 hst;go_wp2_with (go_at_call 121;go_in)
      go_round
      case rel=>exact⟨i+(1+s[i].toNat),by omega,by go_num,HN.out⟩
      case measure=>simp [intOf];omega
  ·have HN:=Nm.hide (nsz_none hn (nsz_end (by omega)));have h1':(s.size:Int)<=(i:Int):=by omega
   clear hn;go_wp2;go_ret2;rw [HN.out];exact⟨rfl,rfl⟩
end Go.Proofs.YtahpiciofdfipaaGreat
namespace Go.Proofs.YtahpiciofdfipaaGreat
open Go.RowKit
theorem Tryz.infoU8s:(Tryz.prog.info? 5).map (fun i=>(i.zero,i.size,i.bytes))=some (some (.int .u8 0),1,1):=by kernel_rfl
theorem conv_nil(c:Nat)(W:World):(convert 22 9 (.slice (some ⟨c,0,none⟩) 0 0)).run Tryz.prog W=.ok (.string ByteArray.empty) W:=by
 exact run_convert_bytes_back W 22 9 5 ⟨c,0,none⟩ 0 [] Tryz.underlying22 Tryz.underlying5 Tryz.underlying9 (by intro j hj;simp at hj)
set_option maxRecDepth 100000 in
set_option maxHeartbeats 800000 in
theorem l01Small_any(s:ByteArray)(w:World)(hs:s.size<=1000000000):
 Calls Tryz.prog 26 #[.string s] w fun e w'=>e=.returned (.string (Nm.small s))∧Below w.heap.size w w':=by
 obtain⟨j0,hj,k0,k1,k2⟩:=info_parts Tryz.infoU8s
 by_cases hz:s.size=0
 ·have hc:=fun W=>conv_nil w.heap.size W
  have HE:Hid (Nm.small s=ByteArray.empty):=by
   show _=_
   apply Nm.ba_ext;rw [Nm.small_data,List.length_eq_zero_iff.1 (show s.data.toList.length=0 by simpa using hz)];rfl
  have hz':(s.size:Int)<=0:=by omega
  go_enter Tryz.func26,Tryz.ntmps26;go_wp2
  go_loop [3,4] (fun v i=>v=.slice (some ⟨w.heap.size,0,none⟩) 0 0∧i=.int .i64 0) (fun _ _=>0)
  case atStart=>exact⟨rfl,rfl⟩
  case round=>
   obtain⟨rfl,rfl⟩:=hrel;go_wp2;go_ret;rw [HE.out];exact⟨rfl,(Below.refl _ _).alloc (Nat.le_refl _) _⟩
 ·go_enter Tryz.func26,Tryz.ntmps26;go_wp2
  go_loopw [3,4] (fun v i wr=>∃ k:Nat,k<=s.size∧i=.int .i64 k∧wr.ownsRow w.heap.size 5 1 v k (Nm.bys (Nm.smallL (s.data.toList.take k)))∧Below w.heap.size w wr)
   (fun _ i _=>s.size-(intOf i).toNat)
  case atStart=>exact⟨0,Nat.zero_le _,rfl,World.ownsRow_made w #[] 0 (Nat.le_refl _) (by decide) rfl,(Below.refl _ _).alloc (Nat.le_refl _) _⟩
  case round=>
   obtain⟨k,hk,rfl,hown,hbel⟩:=hrel;have hsz:=hbel.size
   by_cases hlt:k<s.size
   ·have HS:=Nm.hide (Nm.smallL_step (Nm.get_data hlt));have hcl:(s[k].toNat:Int)<256:=by have:=s[k].toNat_lt;omega
    by_cases hup:65<=s[k].toNat∧s[k].toNat<=90
    ·have HL:=Nm.hide (Nm.low_up hup);have d1:decide ((65:Int)<=(s[k].toNat:Int))=true:=by simp;omega
     have d2:decide ((s[k].toNat:Int)<=90)=true:=by simp;omega
     have hb1:(s[k].toNat:Int)<=90:=by omega
     clear hup;go_wp2_with (at_builtin;refine wpList_append_own _ rfl (.tmp 24) (.tmp 26) 22 rfl w.heap.size 5 j0 (.int .u8 0) 1 1 Tryz.underlying22 hj k0 k1 k2 rfl (by decide) _ _ _ rfl (hown.alloc _) ⟨wr.heap.size,0,none⟩ 1 1 [.int .u8 ((s[k].toNat:Int)+32)] rfl rfl (cell_one_new _ _ _) (Nm.one_cell _ rfl) (by unfold maxLen;omega) (by omega) (by simp;omega) ?_;intro vb wb hown2 hgrow2 hnl2;clear hnl2;rw [<- HL.out] at hown2;have R2:=Nm.bys_step (x:=[Nm.low s[k]]) (by simp;omega) (hown.alloc _) (hbel.alloc hsz _) hown2 hgrow2;clear hown2 hgrow2)
     go_roundw
     case rel=>exact⟨k+1,by omega,by go_num,by rw [HS.out];exact R2.1,R2.2⟩
     case measure=>simp [intOf];omega
    ·have HL:=Nm.hide (Nm.low_id hup)
     by_cases hlo:65<=s[k].toNat
     ·have d1:decide ((65:Int)<=(s[k].toNat:Int))=true:=by simp;omega
      have d2:decide ((s[k].toNat:Int)<=90)=false:=by simp;omega
      clear hup;go_wp2_with (at_builtin;refine wpList_append_own _ rfl (.tmp 24) (.tmp 26) 22 rfl w.heap.size 5 j0 (.int .u8 0) 1 1 Tryz.underlying22 hj k0 k1 k2 rfl (by decide) _ _ _ rfl (hown.alloc _) ⟨wr.heap.size,0,none⟩ 1 1 [.int .u8 (s[k].toNat:Int)] rfl rfl (cell_one_new _ _ _) (Nm.one_cell _ rfl) (by unfold maxLen;omega) (by omega) (by simp;omega) ?_;intro vb wb hown2 hgrow2 hnl2;clear hnl2;have R2:=Nm.bys_step (x:=[s[k]]) (by simp;omega) (hown.alloc _) (hbel.alloc hsz _) hown2 hgrow2;clear hown2 hgrow2)
      go_roundw
      case rel=>exact⟨k+1,by omega,by go_num,by rw [HS.out,HL.out];exact R2.1,R2.2⟩
      case measure=>simp [intOf];omega
     ·have d1:decide ((65:Int)<=(s[k].toNat:Int))=false:=by simp;omega
      clear hup;go_wp2_with (at_builtin;refine wpList_append_own _ rfl (.tmp 24) (.tmp 26) 22 rfl w.heap.size 5 j0 (.int .u8 0) 1 1 Tryz.underlying22 hj k0 k1 k2 rfl (by decide) _ _ _ rfl (hown.alloc _) ⟨wr.heap.size,0,none⟩ 1 1 [.int .u8 (s[k].toNat:Int)] rfl rfl (cell_one_new _ _ _) (Nm.one_cell _ rfl) (by unfold maxLen;omega) (by omega) (by simp;omega) ?_;intro vb wb hown2 hgrow2 hnl2;clear hnl2;have R2:=Nm.bys_step (x:=[s[k]]) (by simp;omega) (hown.alloc _) (hbel.alloc hsz _) hown2 hgrow2;clear hown2 hgrow2)
      go_roundw
      case rel=>exact⟨k+1,by omega,by go_num,by rw [HS.out,HL.out];exact R2.1,R2.2⟩
      case measure=>simp [intOf];omega
   ·have hkl:k=s.size:=by omega
    subst hkl;obtain⟨g,cp,rfl,hcv⟩:=Nm.conv_own (P:=Tryz.prog) Tryz.underlying22 Tryz.underlying5 Tryz.underlying9 hown (by omega);rw [List.take_of_length_le (by simp)] at hcv;have he:(⟨(Nm.smallL s.data.toList).toArray⟩:ByteArray)=Nm.small s:=rfl;rw [he] at hcv;clear hown hlt he;go_wp2;go_ret;exact⟨rfl,hbel⟩
end Go.Proofs.YtahpiciofdfipaaGreat
namespace Go.Proofs.YtahpiciofdfipaaGreat
open Go.RowKit
theorem set_small{ls:List ByteArray}{k:Nat}{x:ByteArray}(h:ls[k]? =some x):
 ((ls.take k).map (fun y=>Value.string (Nm.small y))++(ls.drop k).map Value.string).set k (.string (Nm.small x))=(ls.take (k+1)).map (fun y=>Value.string (Nm.small y))++(ls.drop (k+1)).map Value.string:=by
 have hk:k<ls.length:=(List.getElem?_eq_some_iff.1 h).1;have hx:ls[k]=x:=(List.getElem?_eq_some_iff.1 h).2;have hl:((ls.take k).map (fun y=>Value.string (Nm.small y))).length=k:=by simp;omega
 rw [Nm.take_step h,List.set_append_right _ _ (by omega),hl,List.drop_eq_getElem_cons hk,hx];simp
set_option maxRecDepth 100000 in
set_option maxHeartbeats 800000 in
theorem specFoldName_any(s:ByteArray)(w:World)(hs:s.size<=maxLen):
 Calls Tryz.prog 27 #[.string s] w fun e w'=>e=.returned (.string (Nm.foldS s))∧Below w.heap.size w w':=by
 have hsp:=l01Split_any s w hs
 cases hq:Nm.split s with
 |none=>
  have HA:=Nm.hide (Nm.foldS_none hq);rw [hq] at hsp;clear hq;go_enter Tryz.func27,Tryz.ntmps27;go_wp2_with fail
  refine hsp.mono ?_;rintro e w1 ⟨v,rfl,hown,hbel⟩;go_wp2;go_ret;rw [HA.out]
  exact⟨rfl,hbel⟩
 |some ls=>
  have hz:=Nm.split_size hq;have HA:=Nm.hide (Nm.foldS_some hq);have HJ:=Nm.hide (Nm.joinL_small hq);have hxs:=(Nm.split_join hq).2;have hll:=Nm.length_le_wsum ls;rw [hq] at hsp;clear hq;go_enter Tryz.func27,Tryz.ntmps27;go_wp2_with fail
  refine hsp.mono ?_;rintro e w1 ⟨v,rfl,hown,hbel⟩;simp only [Option.getD_some] at hown;clear hsp
  by_cases hn:ls=[]
  ·subst hn;have hrow:=Nm.SRow.of_owns hown;obtain⟨a,cap,rfl,hcap,hmx,hnl,hc⟩:=hrow;have hr:=Nm.SRow.of_owns hown;clear hown hc hnl;go_wp2
   go_loop [5] (fun i=>i=.int .i64 0) (fun _=>0)
   case atStart=>rfl
   case round=>
    subst hrel;go_wp2_with (go_at_call 24;refine(l01Join_any _ [] _ hr (by simp [Nm.wsum])).mono ?_;rintro e w2 ⟨rfl,hbel2⟩)
    go_ret;rw [HA.out,<- HJ.out];exact⟨rfl,Nm.below_two hbel hbel2⟩
  ·have hlp:0<ls.length:=List.length_pos_iff.2 hn
   obtain⟨g,cap,cur,rfl,hg⟩:∃ g cap cur,v=.slice (some ⟨g,0,none⟩) ls.length cap∧w.heap.size<=g∧ls.length<=cap∧cap<=maxLen∧w1.heap[g]? =some (.cells cur 9 (0,0)):=by
    rcases hown.2 with⟨rfl,h0⟩|⟨g,cap,cur,rfl,hb,hg,hnc,hm,_⟩
    ·omega
    ·exact⟨g,cap,cur,rfl,hb,hnc,hm,hg⟩
   obtain⟨hwg,hnc,hm,_⟩:=hg;unfold maxLen at hm;go_wp2
   go_loopw [5] (fun i wr=>∃ k:Nat,k<=ls.length∧i=.int .i64 k∧wr.ownsRow w.heap.size 9 1 (.slice (some ⟨g,0,none⟩) ls.length cap) ls.length ((ls.take k).map (fun y=>Value.string (Nm.small y))++(ls.drop k).map Value.string)∧Below w.heap.size w wr)
    (fun i _=>ls.length-(intOf i).toNat)
   case atStart=>exact⟨0,Nat.zero_le _,rfl,by simpa using hown,hbel⟩
   case round=>
    obtain⟨k,hk,rfl,hownk,hbelk⟩:=hrel;have hszk:=hbelk.size;clear hown hbel
    by_cases hlt:k<ls.length
    ·obtain⟨x,hx⟩:∃ x,ls[k]? =some x:=⟨_,List.getElem?_eq_getElem hlt⟩;have hxz:=hxs x (List.mem_of_getElem? hx)
     have hcx:wr.cell? ⟨g,k,none⟩=some (.string x):=by
      rw [hownk.cellAt k (by omega),List.getElem?_append_right (by simp;omega)];simp [Nat.min_eq_left hk,hx]
     have HSET:=Nm.hide (set_small hx);go_wp2_with (go_at_call 26;refine(l01Small_any x _ (by omega)).mono ?_;rintro e w3 ⟨rfl,hbel3⟩;have hown3:=hownk.kept (w':=w3) (row:=none) ⟨hbel3.os,hbel3.tape,hbel3.output,hbel3.size,fun k hk _=>hbel3.block k hk⟩ (.inr (by simp [Value.ownBlock]));have hst:=hown3.stored k (.string (Nm.small x));rw [HSET.out] at hst;have hfz:=hown3.frozenAt k;have hc3:w3.cell? ⟨g,k,none⟩=some (.string x):=(hbel3.cell (World.block_lt_of_cell? wr _ hcx)).trans hcx;have HR:=Nm.hide hst;have HB:Hid (Below w.heap.size w (w3.setCell ⟨g,k,none⟩ (.string (Nm.small x)))):=(hbelk.trans (hbel3.mono hszk)).setCell hwg _;clear hst hown3)
     go_roundw
     case rel=>exact⟨k+1,by omega,by go_num,HR.out.1,HB.out⟩
     case measure=>simp [intOf];omega
    ·have hkl:k=ls.length:=by omega
     subst hkl
     have hr:Nm.SRow wr (.slice (some ⟨g,0,none⟩) ls.length cap) (ls.map Nm.small):=by
      apply Nm.SRow.of_owns (B:=w.heap.size) (e:=9);simpa [Function.comp_def] using hownk
     have hws:=Nm.wsum_small ls;clear hownk hlt;go_wp2_with (go_at_call 24;refine(l01Join_any _ (ls.map Nm.small) _ hr (by omega)).mono ?_;rintro e w2 ⟨rfl,hbel2⟩)
     go_ret;rw [HA.out,<- HJ.out];exact⟨rfl,Nm.below_two hbelk hbel2⟩
end Go.Proofs.YtahpiciofdfipaaGreat
namespace Go.Proofs.YtahpiciofdfipaaGreat
open Go.RowKit
theorem cmpS_left{a b:ByteArray}(h:Nm.split a=none):Nm.cmpS a b=0:=by simp [Nm.cmpS,h]
theorem cmpS_right{a b:ByteArray}(h:Nm.split b=none):Nm.cmpS a b=0:=by
 cases ha:Nm.split a<;>simp [Nm.cmpS,h,ha]
theorem cmpS_some{a b:ByteArray}{xs ys:List ByteArray}(ha:Nm.split a=some xs)(hb:Nm.split b=some ys):Nm.cmpS a b=Nm.cmpLs xs ys:=by simp [Nm.cmpS,ha,hb]
end Go.Proofs.YtahpiciofdfipaaGreat
