import Derived.Test.YtgilkakllagbnaaGreatJRrM
import Derived.Test.YtgilkakllagbnaaGreatJMath
import Derived.Test.YtgilkakllagbnaaGreatRows
import Derived.Laws.AppendOwn
import Derived.Deep.RegionHeld3
import Derived.Deep.RegionLaw
import Derived.Test.YtgilkakllagbnaaGreatJOwnT
import Derived.WalkSpells
import Derived.WalkLawsBesides
import Derived.RegionTactic
import Derived.Maps.AppendAt
import Derived.Deep.Slices
import Derived.ChangeSame
namespace Go.Proofs.YtgilkakllagbnaaGreat
open Go.RowKit
set_option linter.unusedVariables false
def is6(r:Rr):Bool:=decide (r.ty=6)
theorem rr_store{w w2:World}{b:Nat}{r:Rr}(k:Blk w2 b #[.string ⟨#[]⟩,.int .i64 0,.int .i64 0,.int .i64 0,.string ⟨#[]⟩] 56)(hb:Below w.heap.size w w2)(hlb:w.heap.size<=b):
 Blk (((((w2.setCell ⟨b,0,none⟩ (.string r.own)).setCell ⟨b,1,none⟩ (.int .i64 r.ty)).setCell ⟨b,2,none⟩ (.int .i64 r.cl)).setCell ⟨b,3,none⟩ (.int .i64 r.tt)).setCell ⟨b,4,none⟩ (.string r.da)) b #[.string r.own,.int .i64 r.ty,.int .i64 r.cl,.int .i64 r.tt,.string r.da] 56∧
 Below w.heap.size w (((((w2.setCell ⟨b,0,none⟩ (.string r.own)).setCell ⟨b,1,none⟩ (.int .i64 r.ty)).setCell ⟨b,2,none⟩ (.int .i64 r.cl)).setCell ⟨b,3,none⟩ (.int .i64 r.tt)).setCell ⟨b,4,none⟩ (.string r.da)):=by
 have k4:=blk_set (blk_set (blk_set (blk_set (blk_set k 0 (.string r.own)) 1 (.int .i64 r.ty)) 2 (.int .i64 r.cl)) 3 (.int .i64 r.tt)) 4 (.string r.da);simp only [List.setIfInBounds_toArray,List.set_cons_zero,List.set_cons_succ] at k4;exact⟨k4,((((hb.setCell (p:=⟨b,0,none⟩) hlb _).setCell (p:=⟨b,1,none⟩) hlb _).setCell (p:=⟨b,2,none⟩) hlb _).setCell (p:=⟨b,3,none⟩) hlb _).setCell (p:=⟨b,4,none⟩) hlb _⟩
end Go.Proofs.YtgilkakllagbnaaGreat
namespace Go.Proofs.YtgilkakllagbnaaGreat
open Go
set_option linter.unusedVariables false
theorem step_append_own{P:Program}{ops:Array Oper}{o:Oper}{a:Act}{w:World}{K:Act->World->Prop}{Q:Exit->Act->World->Prop}{E:Prop}(hgd:o.guard=none)(s x:Operand)(t:TypeId)
 (ho:o.op=.call {callee:=.builtin .append,args:=#[s,x],argTypes:=#[t,t]})
 (base:Nat) (e:TypeId) (i:TypeInfo) (z:Value) (size bytes:Nat) (ht:P.underlying t=some (.slice e)) (hi:P.info? e=some i) (hz:i.zero=some z)
 (hsize:i.size=size) (hby:i.bytes=bytes) (hzs:z.cells.size=size) (hsz:0<size)
 (v:Value) (n:Nat) (xs:List Value) (hs:a.eval s=v) (hown:w.ownsRow base e size v n xs)
 (ad:Addr) (m c:Nat) (news:List Value) (hx:a.eval x=.slice (some ad) m c) (hl:news.length=m*size) (hnews:∀ j u,news[j]? =some u->w.cell? (ad.add j)=some u) (h1:∀ u∈news,u.oneCell'=true)
 (h63:n+m<=maxLen) (hbytes:(n+m)*bytes<=140737488355328) (hbase:base<=w.heap.size)
 (h:∀ v' w',w'.ownsRow base e size v' (n+m) (xs++news)->w.grownBy w' v.ownBlock->(v'=.slice none 0 0↔v=.slice none 0 0∧m=0)->K (a.put o.dst v') w'):
 if Region.wanted o (yielded ops a.tmps)=true then Oper.wp P o a w K Q else E:=by
 have hw:Region.wanted o (yielded ops a.tmps)=true:=by simp [Region.wanted,hgd]
 rw [if_pos hw];exact wp_append_own w s x t ho base e i z size bytes ht hi hz hsize hby hzs hsz v n xs hs hown ad m c news hx hl hnews h1 h63 hbytes hbase h
end Go.Proofs.YtgilkakllagbnaaGreat
namespace Go.Proofs.YtgilkakllagbnaaGreat
end Go.Proofs.YtgilkakllagbnaaGreat
namespace Go.Proofs.YtgilkakllagbnaaGreat
open Go.RowKit
def digD(c:UInt8):Bool:=decide (48<=c.toNat)&&decide (c.toNat<=57)
def letD(c:UInt8):Bool:=decide (97<=(Nm.low c).toNat)&&decide ((Nm.low c).toNat<=122)
theorem alnum_or(c:UInt8):Dt.alnumB c=(digD c||letD c):=by
 unfold Dt.alnumB digD letD Nm.low;have hc:=c.toNat_lt
 by_cases h:65<=c.toNat∧c.toNat<=90
 ·rw [if_pos h];have e:(UInt8.ofNat (c.toNat+32)).toNat=c.toNat+32:=by simp;omega
  rw [e,Bool.eq_iff_iff];simp
  omega
 ·rw [if_neg h,Bool.eq_iff_iff];simp
  omega
set_option maxRecDepth 100000 in
set_option maxHeartbeats 400000 in
theorem isDigitD_any(c:UInt8)(w:World):
 Calls Tryz.prog 247 #[.int .u8 c.toNat] w fun e w'=>e=.returned (.bool (digD c))∧w'=w:=by
 by_cases h1:48<=c.toNat
 ·have d1:decide ((48:Int)<=(c.toNat:Int))=true:=by simp;omega
  have HE:Hid (digD c=decide ((c.toNat:Int)<=57)):=by
   show _=_
   rw [digD,decide_eq_true h1,Bool.true_and,Bool.eq_iff_iff]
   simp;omega
  go_enter Tryz.func247,Tryz.ntmps247;go_wp2;go_ret;rw [HE.out];exact⟨rfl,rfl⟩
 ·have d1:decide ((48:Int)<=(c.toNat:Int))=false:=by simp;omega
  have HE:Hid (digD c=false):=by
   show _=_
   rw [digD,decide_eq_false h1];rfl
  go_enter Tryz.func247,Tryz.ntmps247;go_wp2;go_ret;rw [HE.out];exact⟨rfl,rfl⟩
set_option maxRecDepth 100000 in
set_option maxHeartbeats 400000 in
theorem isLetter_any(c:UInt8)(w:World):
 Calls Tryz.prog 248 #[.int .u8 c.toNat] w fun e w'=>e=.returned (.bool (letD c))∧w'=w:=by
 have hcall:=foldByte_any c
 by_cases h1:97<=(Nm.low c).toNat
 ·have HE:Hid (letD c=decide (((Nm.low c).toNat:Int)<=122)):=by
   show _=_
   rw [letD,decide_eq_true h1,Bool.true_and,Bool.eq_iff_iff]
   simp;omega
  have d1:decide ((97:Int)<=((Nm.low c).toNat:Int))=true:=by simp;omega
  go_enter Tryz.func248,Tryz.ntmps248;go_wp2_with (go_at_call 173;refine(hcall _).mono ?_;rintro e w1 ⟨rfl,rfl⟩)
  go_ret;rw [HE.out];exact⟨rfl,rfl⟩
 ·have d1:decide ((97:Int)<=((Nm.low c).toNat:Int))=false:=by simp;omega
  have HE:Hid (letD c=false):=by
   show _=_
   rw [letD,decide_eq_false h1];rfl
  go_enter Tryz.func248,Tryz.ntmps248;go_wp2_with (go_at_call 173;refine(hcall _).mono ?_;rintro e w1 ⟨rfl,rfl⟩)
  go_ret;rw [HE.out];exact⟨rfl,rfl⟩
def tagT(t:ByteArray):Bool:=t.data.toList.all Dt.alnumB&&(decide (0<t.size)&&decide (t.size<=15))
theorem tagT_bad{t:ByteArray}{j:Nat}(hj:j<t.size)(h:Dt.alnumB t[j]=false):tagT t=false:=by
 rw [tagT,Bool.and_eq_false_iff];left;rw [List.all_eq_false];exact⟨t[j],List.mem_of_getElem? (Nm.get_data hj),by simp [h]⟩
theorem tagT_good{t:ByteArray}(h:∀ j,(hj:j<t.size)->Dt.alnumB t[j]=true):tagT t=(decide (0<t.size)&&decide (t.size<=15)):=by
 rw [tagT]
 have:t.data.toList.all Dt.alnumB=true:=by
  rw [List.all_eq_true];intro c hc;obtain⟨i,hi⟩:=List.getElem?_of_mem hc
  have hl:i<t.size:=by
   have:=(List.getElem?_eq_some_iff.1 hi).1;simpa using this
  rw [Nm.get_data hl] at hi;simp at hi;rw [<- hi];exact h _ hl
 rw [this,Bool.true_and]
set_option maxRecDepth 100000 in
set_option maxHeartbeats 800000 in
theorem isTag_any(t:ByteArray)(w:World)(ht:t.size<=1000000000):
 Calls Tryz.prog 246 #[.string t] w fun e w'=>e=.returned (.bool (tagT t))∧w'=w:=by
 go_enter Tryz.func246,Tryz.ntmps246;go_wp2
 go_loop [6] (fun v=>∃ j:Nat,j<=t.size∧v=.int .i64 j∧∀ i,i<j->(hi:i<t.size)->Dt.alnumB t[i]=true) (fun v=>t.size-(intOf v).toNat)
 case atStart=>exact⟨0,by omega,rfl,fun i h=>by omega⟩
 case round=>
  obtain⟨j,hj,rfl,ha⟩:=hrel
  by_cases hlt:j<t.size
  ·have hlt':(j:Int)<(t.size:Int):=by omega
   have hd:=isDigitD_any t[j];have hl:=isLetter_any t[j];have hor:=alnum_or t[j]
   cases hA:digD t[j] with
   |true=>
    have HJ:Hid (∀ i,i<j+1->(hi:i<t.size)->Dt.alnumB t[i]=true):=by
     show ∀ i,_
     intro i h2 h3
     by_cases e:i=j
     ·subst e;rw [hor,hA];rfl
     ·exact ha i (by omega) h3
    rw [hA] at hd;clear ha hor hA;go_wp2_with (first|(go_at_call 247;refine(hd _).mono ?_;rintro e w2 ⟨rfl,hw⟩;obtain rfl:w=w2:=hw.symm;clear hw)|(go_at_call 248;refine(hl _).mono ?_;rintro e w2 ⟨rfl,hw⟩;obtain rfl:w=w2:=hw.symm;clear hw))
    go_round
    case rel=>exact⟨j+1,by omega,by go_num,HJ.out⟩
    case measure=>simp [intOf];omega
   |false=>
    rw [hA] at hd
    cases hB:letD t[j] with
    |true=>
     have HJ:Hid (∀ i,i<j+1->(hi:i<t.size)->Dt.alnumB t[i]=true):=by
      show ∀ i,_
      intro i h2 h3
      by_cases e:i=j
      ·subst e;rw [hor,hB];simp
      ·exact ha i (by omega) h3
     rw [hB] at hl;clear ha hor hA hB;go_wp2_with (first|(go_at_call 247;refine(hd _).mono ?_;rintro e w2 ⟨rfl,hw⟩;obtain rfl:w=w2:=hw.symm;clear hw)|(go_at_call 248;refine(hl _).mono ?_;rintro e w2 ⟨rfl,hw⟩;obtain rfl:w=w2:=hw.symm;clear hw))
     go_round
     case rel=>exact⟨j+1,by omega,by go_num,HJ.out⟩
     case measure=>simp [intOf];omega
    |false=>
     have HT:=Nm.hide (tagT_bad hlt (by rw [hor,hA,hB];rfl));rw [hB] at hl;clear ha hor hA hB;go_wp2_with (first|(go_at_call 247;refine(hd _).mono ?_;rintro e w2 ⟨rfl,hw⟩;obtain rfl:w=w2:=hw.symm;clear hw)|(go_at_call 248;refine(hl _).mono ?_;rintro e w2 ⟨rfl,hw⟩;obtain rfl:w=w2:=hw.symm;clear hw))
     go_ret;rw [HT.out];exact⟨rfl,rfl⟩
  ·have hlt':(t.size:Int)<=(j:Int):=by omega
   have HT:=Nm.hide (tagT_good (fun i h=>ha i (by omega) h));clear ha
   by_cases h0:0<t.size
   ·have h0':(0:Int)<(t.size:Int):=by omega
    have HU:Hid (tagT t=decide ((t.size:Int)<=15)):=by
     show _=_
     rw [HT.out,decide_eq_true h0,Bool.true_and,Bool.eq_iff_iff]
     simp;omega
    clear HT;go_wp2;go_ret;rw [HU.out];exact⟨rfl,rfl⟩
   ·have h0':(t.size:Int)<=0:=by omega
    have HU:Hid (tagT t=false):=by
     show _=_
     rw [HT.out,decide_eq_false h0,Bool.false_and]
    clear HT;go_wp2;go_ret;rw [HU.out];exact⟨rfl,rfl⟩
theorem tag_of{d:ByteArray}{n:Nat}(hn:(Dt.txtS d).size=n)(_:n≠0):tagT (d.extract 1 n)=Dt.tagB d:=by
 have hle:=Dt.txt_le d;have he:=Dt.txt_ext d;rw [hn] at he
 have e1:(d.extract 1 n).data.toList=(Dt.txtS d).data.toList.drop 1:=by
  rw [<- he];simp only [ByteArray.data_extract,Array.toList_extract,List.extract_eq_take_drop];simp
  rw [<- List.drop_one,<- List.drop_one,List.drop_take]
 have e2:(d.extract 1 n).size=n-1:=by simp;omega
 rw [tagT,Dt.tagB,e1,e2,hn,Bool.eq_iff_iff];simp
 constructor
 ·rintro⟨h1,h2,h3⟩;exact⟨⟨by omega,by omega⟩,h1⟩
 ·rintro⟨⟨h1,h2⟩,h3⟩;exact⟨h3,by omega,by omega⟩
end Go.Proofs.YtgilkakllagbnaaGreat
namespace Go.Proofs.YtgilkakllagbnaaGreat
open Go.RowKit
set_option linter.unusedVariables false
set_option maxRecDepth 100000 in
set_option maxHeartbeats 400000 in
theorem within_any(n m:Int)(w:World):Calls Tryz.prog 26 #[.int .i64 n,.int .i64 m] w fun e w'=>e=.returned (.bool (decide (0<=n)&&decide (n<=m)))∧w'=w:=by
 by_cases h0:0<=n
 ·by_cases h1:n<=m
  ·have e:(decide (0<=n)&&decide (n<=m))=true:=by simp [h0,h1]
   rw [e];clear e;go_enter Tryz.func26,Tryz.ntmps26;go_wp2;go_ret;exact⟨rfl,rfl⟩
  ·have h1':m<n:=by omega
   have e:(decide (0<=n)&&decide (n<=m))=false:=by simp [h0,h1]
   rw [e];clear e;go_enter Tryz.func26,Tryz.ntmps26;go_wp2;go_ret;exact⟨rfl,rfl⟩
 ·have h0':n<0:=by omega
  have e:(decide (0<=n)&&decide (n<=m))=false:=by simp [h0]
  rw [e];clear e;go_enter Tryz.func26,Tryz.ntmps26;go_wp2;go_ret;exact⟨rfl,rfl⟩
set_option maxRecDepth 100000 in
set_option maxHeartbeats 400000 in
theorem l04In_any(n m:Int)(w:World):Calls Tryz.prog 21 #[.int .i64 n,.int .i64 m] w fun e w'=>e=.returned (.bool (decide (0<=n)&&decide (n<=m)))∧w'=w:=by
 by_cases h0:0<=n
 ·by_cases h1:n<=m
  ·have e:(decide (0<=n)&&decide (n<=m))=true:=by simp [h0,h1]
   rw [e];clear e;go_enter Tryz.func21,Tryz.ntmps21;go_wp2;go_ret;exact⟨rfl,rfl⟩
  ·have h1':m<n:=by omega
   have e:(decide (0<=n)&&decide (n<=m))=false:=by simp [h0,h1]
   rw [e];clear e;go_enter Tryz.func21,Tryz.ntmps21;go_wp2;go_ret;exact⟨rfl,rfl⟩
 ·have h0':n<0:=by omega
  have e:(decide (0<=n)&&decide (n<=m))=false:=by simp [h0]
  rw [e];clear e;go_enter Tryz.func21,Tryz.ntmps21;go_wp2;go_ret;exact⟨rfl,rfl⟩
theorem wrap_any(n:Int)(h: -9223372036854775808<=n)(h2:n<9223372036854775808):IntKind.i64.wrap n=n:=by
 by_cases h0:0<=n
 ·exact Go.wrap_small n h0 h2
 ·have e:n % 2 ^ 64=n+18446744073709551616:=by omega
  simp only [IntKind.wrap,IntKind.bits,IntKind.signed,e];rw [if_pos]
  ·omega
  ·simp
   omega
theorem and_32(d:Int):bits .and .i64 d 4294967295=d % 4294967296:=by
 show IntKind.i64.wrap ((BitVec.ofInt 64 d&&& BitVec.ofInt 64 4294967295).toNat:Int)=_
 have e2:(BitVec.ofInt 64 4294967295).toNat=2 ^ 32-1:=by decide
 have e1:(BitVec.ofInt 64 d).toNat=(d % 18446744073709551616).toNat:=by rw [BitVec.toNat_ofInt];rfl
 rw [BitVec.toNat_and,e2,Nat.and_two_pow_sub_one_eq_mod,e1];have h:(d % 18446744073709551616).toNat % 2 ^ 32<9223372036854775808:=by omega
 rw [wrap_pos _ h];omega
abbrev serIn(a:Int):Bool:=decide (0<=a)&&decide (a<=4294967295)
def serL(a b:Int):Bool:=serIn a&&serIn b&&(decide (1<=(b-a) % 4294967296)&&decide ((b-a) % 4294967296<=2147483647))
def serN(a:Int):Int:=if serIn a=true then(if a=4294967295 then 1 else a+1) else 0
set_option maxRecDepth 100000 in
set_option maxHeartbeats 1600000 in
theorem implSerialLess_any(a b:Int)(w:World):Calls Tryz.prog 33 #[.int .i64 a,.int .i64 b] w fun e w'=>e=.returned (.bool (serL a b))∧w'=w:=by
 have hi1:∀ W:World,Calls Tryz.prog 26 #[.int .i64 a,.int .i64 4294967295] W fun e w'=>e=.returned (.bool (serIn a))∧w'=W:=fun W=>within_any a 4294967295 W
 have hi2:∀ W:World,Calls Tryz.prog 26 #[.int .i64 b,.int .i64 4294967295] W fun e w'=>e=.returned (.bool (serIn b))∧w'=W:=fun W=>within_any b 4294967295 W
 by_cases ha:serIn a=true
 ·by_cases hb:serIn b=true
  ·obtain⟨x1,x2⟩:0<=a∧a<=4294967295:=by simpa [serIn] using ha
   obtain⟨x3,x4⟩:0<=b∧b<=4294967295:=by simpa [serIn] using hb
   have hs:IntKind.i64.wrap (b-a)=b-a:=wrap_any _ (by omega) (by omega);have hs2:IntKind.i64.wrap (b-a+4294967296)=b-a+4294967296:=Go.wrap_small _ (by omega) (by omega);have hn:=and_32 (b-a);have hr:(b-a+4294967296).tmod 4294967296=(b-a) % 4294967296:=by rw [Int.tmod_eq_emod_of_nonneg (by omega)];omega
   have hr2:IntKind.i64.wrap ((b-a) % 4294967296)=(b-a) % 4294967296:=Go.wrap_small _ (by omega) (by omega);have hS:serL a b=(decide (1<=(b-a) % 4294967296)&&decide ((b-a) % 4294967296<=2147483647)):=by simp [serL,ha,hb]
   rw [hS];rw [ha] at hi1;rw [hb] at hi2;clear hS ha hb
   by_cases h1:1<=(b-a) % 4294967296
   ·simp only [h1,decide_true,Bool.true_and];go_enter Tryz.func33,Tryz.ntmps33;go_wp2_with (go_at_call 26;first|(with_reducible refine(hi1 _).mono ?_;rintro e wf ⟨rfl,hw⟩;obtain rfl:=hw.symm;clear hw)|(with_reducible refine(hi2 _).mono ?_;rintro e wf ⟨rfl,hw⟩;obtain rfl:=hw.symm;clear hw))
    go_ret;exact⟨rfl,rfl⟩
   ·simp only [h1,decide_false,Bool.false_and];go_enter Tryz.func33,Tryz.ntmps33;go_wp2_with (go_at_call 26;first|(with_reducible refine(hi1 _).mono ?_;rintro e wf ⟨rfl,hw⟩;obtain rfl:=hw.symm;clear hw)|(with_reducible refine(hi2 _).mono ?_;rintro e wf ⟨rfl,hw⟩;obtain rfl:=hw.symm;clear hw))
    go_ret;exact⟨rfl,rfl⟩
  ·have hb':serIn b=false:=by simpa using hb
   have hS:serL a b=false:=by simp [serL,hb']
   rw [hS];rw [ha] at hi1;rw [hb'] at hi2;clear hS ha hb hb';go_enter Tryz.func33,Tryz.ntmps33;go_wp2_with (go_at_call 26;first|(with_reducible refine(hi1 _).mono ?_;rintro e wf ⟨rfl,hw⟩;obtain rfl:=hw.symm;clear hw)|(with_reducible refine(hi2 _).mono ?_;rintro e wf ⟨rfl,hw⟩;obtain rfl:=hw.symm;clear hw))
   go_ret;exact⟨rfl,rfl⟩
 ·have ha':serIn a=false:=by simpa using ha
  have hS:serL a b=false:=by simp [serL,ha']
  rw [hS];rw [ha'] at hi1;clear hS ha ha';go_enter Tryz.func33,Tryz.ntmps33;go_wp2_with (go_at_call 26;first|(with_reducible refine(hi1 _).mono ?_;rintro e wf ⟨rfl,hw⟩;obtain rfl:=hw.symm;clear hw)|(with_reducible refine(hi2 _).mono ?_;rintro e wf ⟨rfl,hw⟩;obtain rfl:=hw.symm;clear hw))
  go_ret;exact⟨rfl,rfl⟩
set_option maxRecDepth 100000 in
set_option maxHeartbeats 1600000 in
theorem specSerialLess_any(a b:Int)(w:World):Calls Tryz.prog 52 #[.int .i64 a,.int .i64 b] w fun e w'=>e=.returned (.bool (serL a b))∧w'=w:=by
 have hi1:∀ W:World,Calls Tryz.prog 21 #[.int .i64 a,.int .i64 4294967295] W fun e w'=>e=.returned (.bool (serIn a))∧w'=W:=fun W=>l04In_any a 4294967295 W
 have hi2:∀ W:World,Calls Tryz.prog 21 #[.int .i64 b,.int .i64 4294967295] W fun e w'=>e=.returned (.bool (serIn b))∧w'=W:=fun W=>l04In_any b 4294967295 W
 by_cases ha:serIn a=true
 ·by_cases hb:serIn b=true
  ·obtain⟨x1,x2⟩:0<=a∧a<=4294967295:=by simpa [serIn] using ha
   obtain⟨x3,x4⟩:0<=b∧b<=4294967295:=by simpa [serIn] using hb
   have hs:IntKind.i64.wrap (b-a)=b-a:=wrap_any _ (by omega) (by omega);have hs2:IntKind.i64.wrap (b-a+4294967296)=b-a+4294967296:=Go.wrap_small _ (by omega) (by omega);have hn:=and_32 (b-a);have hr:(b-a+4294967296).tmod 4294967296=(b-a) % 4294967296:=by rw [Int.tmod_eq_emod_of_nonneg (by omega)];omega
   have hr2:IntKind.i64.wrap ((b-a) % 4294967296)=(b-a) % 4294967296:=Go.wrap_small _ (by omega) (by omega);have hS:serL a b=(decide (1<=(b-a) % 4294967296)&&decide ((b-a) % 4294967296<=2147483647)):=by simp [serL,ha,hb]
   rw [hS];rw [ha] at hi1;rw [hb] at hi2;clear hS ha hb
   by_cases h1:1<=(b-a) % 4294967296
   ·simp only [h1,decide_true,Bool.true_and];go_enter Tryz.func52,Tryz.ntmps52;go_wp2_with (go_at_call 21;first|(with_reducible refine(hi1 _).mono ?_;rintro e wf ⟨rfl,hw⟩;obtain rfl:=hw.symm;clear hw)|(with_reducible refine(hi2 _).mono ?_;rintro e wf ⟨rfl,hw⟩;obtain rfl:=hw.symm;clear hw))
    go_ret;exact⟨rfl,rfl⟩
   ·simp only [h1,decide_false,Bool.false_and];go_enter Tryz.func52,Tryz.ntmps52;go_wp2_with (go_at_call 21;first|(with_reducible refine(hi1 _).mono ?_;rintro e wf ⟨rfl,hw⟩;obtain rfl:=hw.symm;clear hw)|(with_reducible refine(hi2 _).mono ?_;rintro e wf ⟨rfl,hw⟩;obtain rfl:=hw.symm;clear hw))
    go_ret;exact⟨rfl,rfl⟩
  ·have hb':serIn b=false:=by simpa using hb
   have hS:serL a b=false:=by simp [serL,hb']
   rw [hS];rw [ha] at hi1;rw [hb'] at hi2;clear hS ha hb hb';go_enter Tryz.func52,Tryz.ntmps52;go_wp2_with (go_at_call 21;first|(with_reducible refine(hi1 _).mono ?_;rintro e wf ⟨rfl,hw⟩;obtain rfl:=hw.symm;clear hw)|(with_reducible refine(hi2 _).mono ?_;rintro e wf ⟨rfl,hw⟩;obtain rfl:=hw.symm;clear hw))
   go_ret;exact⟨rfl,rfl⟩
 ·have ha':serIn a=false:=by simpa using ha
  have hS:serL a b=false:=by simp [serL,ha']
  rw [hS];rw [ha'] at hi1;clear hS ha ha';go_enter Tryz.func52,Tryz.ntmps52;go_wp2_with (go_at_call 21;first|(with_reducible refine(hi1 _).mono ?_;rintro e wf ⟨rfl,hw⟩;obtain rfl:=hw.symm;clear hw)|(with_reducible refine(hi2 _).mono ?_;rintro e wf ⟨rfl,hw⟩;obtain rfl:=hw.symm;clear hw))
  go_ret;exact⟨rfl,rfl⟩
end Go.Proofs.YtgilkakllagbnaaGreat
namespace Go.Proofs.YtgilkakllagbnaaGreat
open Go
set_option linter.unusedVariables false
theorem step_append_own_at{P:Program}{ops:Array Oper}{o:Oper}{a:Act}{w:World}{K:Act->World->Prop}{Q:Exit->Act->World->Prop}{E:Prop}(hgd:o.guard=none)(s x:Operand)(t:TypeId)
 (ho:o.op=.call {callee:=.builtin .append,args:=#[s,x],argTypes:=#[t,t]})
 (base:Nat) (e:TypeId) (i:TypeInfo) (z:Value) (size bytes:Nat) (ht:P.underlying t=some (.slice e)) (hi:P.info? e=some i) (hz:i.zero=some z)
 (hsize:i.size=size) (hby:i.bytes=bytes) (hzs:z.cells.size=size) (hsz:0<size)
 (v:Value) (n:Nat) (xs:List Value) (hs:a.eval s=v) (hown:w.ownsRow base e size v n xs)
 (ad:Addr) (m c:Nat) (news:List Value) (hx:a.eval x=.slice (some ad) m c) (hl:news.length=m*size) (hnews:∀ j u,news[j]? =some u->w.cell? (ad.add j)=some u) (h1:∀ u∈news,u.oneCell'=true)
 (h63:n+m<=maxLen) (hbytes:(n+m)*bytes<=140737488355328) (hbase:base<=w.heap.size)
 (h:∀ v' w',w'.ownsRow base e size v' (n+m) (xs++news)->w.grownBy w' v.ownBlock->(v'=.slice none 0 0↔v=.slice none 0 0∧m=0)->(v'.ownBlock=v.ownBlock∨v'.ownBlock=some w.heap.size)->K (a.put o.dst v') w'):
 if Region.wanted o (yielded ops a.tmps)=true then Oper.wp P o a w K Q else E:=by
 have hw:Region.wanted o (yielded ops a.tmps)=true:=by simp [Region.wanted,hgd]
 rw [if_pos hw];obtain⟨v',w',hr,h2,h3,h4,h5⟩:=run_append_own_at (P:=P) w base t o.type e i z size bytes ht hi hz hsize hby hzs hsz v n xs hown ad m c news hl hnews h1 h63 hbytes hbase;unfold Oper.wp execOp;simp only [ho,resolve,invoke,builtin,Sem.run_bind,Sem.run_pure,Result.andThen_ok,List.map_toArray,List.map_cons,List.map_nil,hs,hx,hr];exact h v' w' h2 h3 h4 h5
end Go.Proofs.YtgilkakllagbnaaGreat
namespace Go.Proofs.YtgilkakllagbnaaGreat
open Go.RowKit Go.Deep
set_option linter.unusedVariables false
section
variable {H:Type}{enc:TypeId×Value->H}{w:World}{base:Nat}{spare:Nat->Bool}{held:Bool}
theorem rr_c:Tryz.prog.cellsOf 9=1∧Tryz.prog.cellsOf 2=1∧Tryz.prog.cellsOf 47=5:=⟨by kernel_rfl,by kernel_rfl,by kernel_rfl⟩
set_option maxRecDepth 100000 in
theorem open_rr{fuel:Nat}{cs:List Value}{x:DataW H×List MemPlace}(h:DataW.trod enc Tryz.prog w base spare held fuel 47 cs=some x)(hl:cs.length=5):
 ∃ r:Rr,cs=rvV r∧r.own.size<=maxLen∧r.da.size<=maxLen∧(Lit.int .i64 r.ty).wf=true∧(Lit.int .i64 r.cl).wf=true∧(Lit.int .i64 r.tt).wf=true:=by
 obtain⟨xs,n,_,_,_,hxl,hf⟩:=DataW.trod_struct Tryz.underlying47 h;obtain⟨c1,c2,_⟩:=rr_c
 match cs,hl with
 |[v0,v1,v2,v3,v4],_=>
  have g0:=hf 0 _ rfl;have g1:=hf 1 _ rfl;have g2:=hf 2 _ rfl;have g3:=hf 3 _ rfl;have g4:=hf 4 _ rfl
  match xs,hxl with
  |[y0,y1,y2,y3,y4],_=>
   simp [c1,c2] at g0 g1 g2 g3 g4
   obtain⟨s0,e0,_,w0⟩:=DataW.trod_string Tryz.underlying9 g0;obtain⟨n1,e1,_,w1⟩:=DataW.trod_int Tryz.underlying2 g1;obtain⟨n2,e2,_,w2⟩:=DataW.trod_int Tryz.underlying2 g2;obtain⟨n3,e3,_,w3⟩:=DataW.trod_int Tryz.underlying2 g3;obtain⟨s4,e4,_,w4⟩:=DataW.trod_string Tryz.underlying9 g4;simp at e0 e1 e2 e3 e4;subst e0 e1 e2 e3 e4;exact⟨⟨s0,n1,n2,n3,s4⟩,rfl,w0,w4,w1,w2,w3⟩
theorem choose_rr{n:Nat}{p:Nat->Rr->Prop}(h:∀ i,i<n->∃ x,p i x):∃ f:Nat->Rr,∀ i,i<n->p i (f i):=by
 classical
 refine⟨fun i=>if hi:i<n then Classical.choose (h i hi) else⟨.empty,0,0,0,.empty⟩,fun i hi=>?_⟩;simp only [dif_pos hi];exact Classical.choose_spec (h i hi)
theorem rv_range(f:Nat->Rr):∀ (n k j:Nat),k<n->j<5->(rvVs ((List.range n).map f))[k*5+j]? =(rvV (f k))[j]? :=by
 intro n k j hk hj;exact rvVs_at _ k j (f k) (by simp [hk]) hj
set_option maxRecDepth 100000 in
theorem open_rrs{t:TypeId}{fuel:Nat}{v:Value}{x:DataW H×List MemPlace}(ht:Tryz.prog.underlying t=some (.slice 47))(h:DataW.trod enc Tryz.prog w base spare held fuel t [v]=some x):
 ∃ xs:List Rr,CRow w v xs.length 5 (rvVs xs)∧∀ r∈xs,r.own.size<=maxLen∧r.da.size<=maxLen∧(Lit.int .i64 r.ty).wf=true∧(Lit.int .i64 r.cl).wf=true∧(Lit.int .i64 r.tt).wf=true:=by
 rcases open_slice ht h with⟨e,_⟩|⟨a,len,cap,m,n,D,Pl,e,hb,hl,hm,hmm,_,hx⟩
 ·simp at e;subst e;exact⟨[],⟨rfl,none,0,rfl,Nat.le_refl _,by decide,fun h=>absurd h (by simp)⟩,by simp⟩
 ·simp at e;subst e;have hlm:len<=m:=by rw [hmm];split<;>omega
  obtain⟨_,_,c5⟩:=rr_c;rw [c5] at hx
  obtain⟨f,hf⟩:=choose_rr (n:=len) (p:=fun i r=>(∀ j,j<5->w.cell? ((a.add (i*5)).add j)=(rvV r)[j]?)∧r.own.size<=maxLen∧r.da.size<=maxLen∧(Lit.int .i64 r.ty).wf=true∧(Lit.int .i64 r.cl).wf=true∧(Lit.int .i64 r.tt).wf=true) (fun i hi=>by
   obtain⟨cs',h1,h2⟩:=hx i (by omega);obtain⟨_,hlen,hcell⟩:=World.cells?_some h1;obtain⟨r,rfl,q⟩:=open_rr h2 hlen
   exact⟨r,hcell,q⟩)
  refine⟨(List.range len).map f,⟨?_,some a,cap,by simp,by simpa using hl,hm,fun hpos=>?_⟩,?_⟩
  ·rw [rvVs_len]
  ·have hlen:0<len:=by simpa using hpos
   obtain⟨b,off,spot⟩:=a;have h0:=(hf 0 hlen).1 0 (by decide);have h0':w.cell? ((Addr.mk b off spot).add (0*5+0))=some (.string (f 0).own):=by rw [<- add_add];exact h0
   have hspot:spot=none:=by simpa [Addr.add] using World.cell?_spot h0'
   subst hspot;refine⟨b,off,rfl,?_⟩;intro i y hy
   have hi:i<len*5:=by
    have:=(List.getElem?_eq_some_iff.1 hy).1;rw [rvVs_len] at this;simpa using this
   obtain⟨k,j,hk,hj,rfl⟩:∃ k j,k<len∧j<5∧i=k*5+j:=⟨i / 5,i % 5,by omega,by omega,by omega⟩;rw [rv_range f len k j hk hj] at hy;have:=(hf k hk).1 j hj;rw [add_add,hy,Nm.addr_add] at this;exact this
  ·intro r hr;simp only [List.mem_map,List.mem_range] at hr;obtain⟨i,hi,rfl⟩:=hr;exact(hf i hi).2
end
end Go.Proofs.YtgilkakllagbnaaGreat
