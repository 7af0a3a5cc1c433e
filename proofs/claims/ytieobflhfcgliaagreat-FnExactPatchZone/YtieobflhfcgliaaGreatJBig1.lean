import Derived.Test.YtieobflhfcgliaaGreatJZrI
import Derived.Test.YtieobflhfcgliaaGreatJMath
import Derived.Test.YtieobflhfcgliaaGreatJStA
import Derived.Test.YtieobflhfcgliaaGreatJStI
import Derived.Test.YtieobflhfcgliaaGreatRows
import Derived.WalkSpells
import Derived.WalkLawsBesides
import Derived.Test.YtieobflhfcgliaaGreatJStR
import Derived.Test.YtieobflhfcgliaaGreatJParts
import Derived.Test.YtieobflhfcgliaaGreatJICheck
import Derived.Test.YtieobflhfcgliaaGreatJWiP
namespace Go.Proofs.YtieobflhfcgliaaGreat
open Go.RowKit
def num4(a b c d:UInt8):Nat:=((a.toNat*256+b.toNat)*256+c.toNat)*256+d.toNat
theorem big_step(m:Nat)(c:UInt8)(h:m<281474976710656):bits .or .i64 ((m:Int)*256) (c.toNat:Int)=((m*256+c.toNat:Nat):Int):=by
 have hc:=c.toNat_lt;have e:(m:Int)*256=((2 ^ 8*m:Nat):Int):=by omega
 rw [e,or_join 8 m _ (by omega) (by omega)];congr 1;omega
set_option maxRecDepth 100000 in
set_option maxHeartbeats 400000 in
theorem readBig_any(s:ByteArray)(w:World)(hs:s.size<=6):
 Calls Tryz.prog 125 #[.string s] w fun e w'=>e=.returned (.int .i64 (numL s.data.toList))∧w'=w:=by
 go_enter Tryz.func125,Tryz.ntmps125;go_wp2
 go_loop [3,7] (fun u v=>∃ k:Nat,k<=s.size∧v=.int .i64 k∧u=.int .i64 (numL (s.data.toList.take k))) (fun _ v=>s.size-(intOf v).toNat)
 case atStart=>exact⟨0,Nat.zero_le _,rfl,rfl⟩
 case round=>
  obtain⟨k,hk,rfl,rfl⟩:=hrel
  by_cases hlt:k<s.size
  ·have hd:=Nm.get_data hlt;have e1:s.data.toList.take (k+1)=s.data.toList.take k++[s[k]]:=Nm.take_step hd;have hb:=numL_small (l:=s.data.toList.take k) (by simp;omega);have e2:=numL_snoc (s.data.toList.take k) s[k];rw [<- e1] at e2;have hc:(s[k].toNat:Int)<256:=by have:=s[k].toNat_lt;omega
   have hlt':(k:Int)<(s.size:Int):=by omega
   have HB:=Nm.hide (big_step (numL (s.data.toList.take k)) s[k] hb);generalize numL (s.data.toList.take k)=m at*;clear e1 hd;go_wp2
   go_round
   case rel=>exact⟨k+1,by omega,by go_num,by rw [e2,<- HB.out]⟩
   case measure=>simp [intOf];omega
  ·have hke:k=s.size:=by omega
   subst hke;have et:s.data.toList.take s.size=s.data.toList:=List.take_of_length_le (by simp);rw [et];go_wp2;go_ret;exact⟨rfl,rfl⟩
end Go.Proofs.YtieobflhfcgliaaGreat
namespace Go.Proofs.YtieobflhfcgliaaGreat
end Go.Proofs.YtieobflhfcgliaaGreat
namespace Go.Proofs.YtieobflhfcgliaaGreat
open Go.RowKit
set_option linter.unusedVariables false
theorem ser_bytes{d:ByteArray}(h:22<=d.size):(d.extract (d.size-20) (d.size-16)).data.toList=[d[d.size-20],d[d.size-20+1],d[d.size-20+2],d[d.size-20+3]]:=by
 have hl:(d.extract (d.size-20) (d.size-16)).data.toList.length=4:=by simp;omega
 refine List.ext_getElem (by simpa using hl) ?_;intro i h1 h2;have hi:i<4:=by simpa using h2
 have e:(d.extract (d.size-20) (d.size-16)).data.toList[i]=d[d.size-20+i]:=by
  have:=ByteArray.getElem_extract (b:=d) (start:=d.size-20) (stop:=d.size-16) (i:=i) (h:=by simpa using h1);exact this
 rw [e]
 rcases i with _|_|_|_|i
 ·rfl
 ·rfl
 ·rfl
 ·rfl
 ·omega
def serS(d:ByteArray):Int:=if h:22<=d.size then(num4 d[d.size-20] d[d.size-20+1] d[d.size-20+2] d[d.size-20+3]:Int) else 0
theorem ser_num{d:ByteArray}(h:22<=d.size):((numL (d.extract (d.size-20) (d.size-16)).data.toList:Nat):Int)=serS d:=by
 rw [ser_bytes h,serS,dif_pos h];simp [numL,num4]
set_option maxRecDepth 100000 in
set_option maxHeartbeats 400000 in
theorem specSerial_any(d:ByteArray)(w:World)(hd:d.size<=2000000):
 Calls Tryz.prog 50 #[.string d] w fun e w'=>e=.returned (.tuple #[.int .i64 (if cutCode 6 d=0 then serS d else 0),.int .i64 (if cutCode 6 d=0 then 0 else 7)])∧Below w.heap.size w w':=by
 have hcall:=fun w=>specCheckData_any 6 d w
 by_cases hq:cutCode 6 d=0
 ·have hz:=soa_size hq;have HN:=Nm.hide (ser_num hz.1);rw [hq] at hcall;simp only [hq,if_true];have hnum:=fun w=>l02Num_any (d.extract (d.size-20) (d.size-16)) w (by simp;omega)
  have h1:(20:Int)<=(d.size:Int):=by omega
  have h2:(16:Int)<=(d.size:Int):=by omega
  have h3:20<=d.size:=by omega
  have h4:16<=d.size:=by omega
  generalize numL (d.extract (d.size-20) (d.size-16)).data.toList=N at*;go_enter Tryz.func50,Tryz.ntmps50;go_wp2_with (first|(go_at_call 83;refine(hcall _).mono ?_;rintro e w1 ⟨rfl,hb1⟩)|(go_at_call 84;refine(hnum _).mono ?_;rintro e w2 ⟨rfl,hw⟩;obtain rfl:w1=w2:=hw.symm;clear hw))
  go_ret2;rw [<- HN.out];exact⟨rfl,hb1⟩
 ·simp only [hq,if_false];have hb:(cutCode 6 d != 0)=true:=by rw [bne_iff_ne];exact hq
  generalize cutCode 6 d=c at*;clear hq;go_enter Tryz.func50,Tryz.ntmps50;go_wp2_with (go_at_call 83;refine(hcall _).mono ?_;rintro e w1 ⟨rfl,hb1⟩)
  go_ret2;exact⟨rfl,hb1⟩
set_option maxRecDepth 100000 in
set_option maxHeartbeats 400000 in
theorem implSerial_any(d:ByteArray)(w:World)(hd:d.size<=2000000):
 Calls Tryz.prog 94 #[.string d] w fun e w'=>e=.returned (.tuple #[.int .i64 (if cutCode 6 d=0 then serS d else 0),.int .i64 (if cutCode 6 d=0 then 0 else 7)])∧Below w.heap.size w w':=by
 have hcall:=fun w=>implCheckData_any 6 d w hd
 by_cases hq:cutCode 6 d=0
 ·have hz:=soa_size hq;have HN:=Nm.hide (ser_num hz.1);rw [hq] at hcall;simp only [hq,if_true];have hnum:=fun w=>readBig_any (d.extract (d.size-20) (d.size-20+4)) w (by simp;omega)
  rw [show d.size-20+4=d.size-16 by omega] at hnum;have h1:(20:Int)<=(d.size:Int):=by omega
  have h3:20<=d.size:=by omega
  have h4:(d.size:Int)-20+4<=(d.size:Int):=by omega
  have e16:d.size-20+4=d.size-16:=by omega
  generalize numL (d.extract (d.size-20) (d.size-16)).data.toList=N at*;go_enter Tryz.func94,Tryz.ntmps94;go_wp2_with (first|(go_at_call 124;refine(hcall _).mono ?_;rintro e w1 ⟨rfl,hb1⟩)|(go_at_call 125;refine(hnum _).mono ?_;rintro e w2 ⟨rfl,hw⟩;obtain rfl:w1=w2:=hw.symm;clear hw))
  go_ret2;rw [<- HN.out];exact⟨rfl,hb1⟩
 ·simp only [hq,if_false];have hb:(cutCode 6 d != 0)=true:=by rw [bne_iff_ne];exact hq
  generalize cutCode 6 d=c at*;clear hq;go_enter Tryz.func94,Tryz.ntmps94;go_wp2_with (go_at_call 124;refine(hcall _).mono ?_;rintro e w1 ⟨rfl,hb1⟩)
  go_ret2;exact⟨rfl,hb1⟩
theorem wrap_any(n:Int)(h: -9223372036854775808<=n)(h2:n<9223372036854775808):IntKind.i64.wrap n=n:=by
 by_cases h0:0<=n
 ·exact Go.wrap_small n h0 h2
 ·have e:n % 2 ^ 64=n+18446744073709551616:=by omega
  simp only [IntKind.wrap,IntKind.bits,IntKind.signed,e];rw [if_pos]
  ·omega
  ·simp
   omega
theorem and_32(d:Int):bits .and .i64 d 4294967295=d % 4294967296:=by
 show IntKind.i64.wrap ((BitVec.ofInt 64 d&&& BitVec.ofInt 64 4294967295).toNat:Int)=_
 have e2:(BitVec.ofInt 64 4294967295).toNat=2 ^ 32-1:=by decide
 have e1:(BitVec.ofInt 64 d).toNat=(d % 18446744073709551616).toNat:=by rw [BitVec.toNat_ofInt];rfl
 rw [BitVec.toNat_and,e2,Nat.and_two_pow_sub_one_eq_mod,e1];have h:(d % 18446744073709551616).toNat % 2 ^ 32<9223372036854775808:=by omega
 rw [wrap_pos _ h];omega
abbrev serIn(a:Int):Bool:=decide (0<=a)&&decide (a<=4294967295)
def serL(a b:Int):Bool:=serIn a&&serIn b&&(decide (1<=(b-a) % 4294967296)&&decide ((b-a) % 4294967296<=2147483647))
def serN(a:Int):Int:=if serIn a=true then(if a=4294967295 then 1 else a+1) else 0
set_option maxRecDepth 100000 in
set_option maxHeartbeats 1600000 in
theorem implSerialLess_any(a b:Int)(w:World):Calls Tryz.prog 58 #[.int .i64 a,.int .i64 b] w fun e w'=>e=.returned (.bool (serL a b))∧w'=w:=by
 have hi1:∀ W:World,Calls Tryz.prog 95 #[.int .i64 a,.int .i64 4294967295] W fun e w'=>e=.returned (.bool (serIn a))∧w'=W:=fun W=>within_any a 4294967295 W
 have hi2:∀ W:World,Calls Tryz.prog 95 #[.int .i64 b,.int .i64 4294967295] W fun e w'=>e=.returned (.bool (serIn b))∧w'=W:=fun W=>within_any b 4294967295 W
 by_cases ha:serIn a=true
 ·by_cases hb:serIn b=true
  ·obtain⟨x1,x2⟩:0<=a∧a<=4294967295:=by simpa [serIn] using ha
   obtain⟨x3,x4⟩:0<=b∧b<=4294967295:=by simpa [serIn] using hb
   have hs:IntKind.i64.wrap (b-a)=b-a:=wrap_any _ (by omega) (by omega);have hs2:IntKind.i64.wrap (b-a+4294967296)=b-a+4294967296:=Go.wrap_small _ (by omega) (by omega);have hn:=and_32 (b-a);have hr:(b-a+4294967296).tmod 4294967296=(b-a) % 4294967296:=by rw [Int.tmod_eq_emod_of_nonneg (by omega)];omega
   have hr2:IntKind.i64.wrap ((b-a) % 4294967296)=(b-a) % 4294967296:=Go.wrap_small _ (by omega) (by omega);have hS:serL a b=(decide (1<=(b-a) % 4294967296)&&decide ((b-a) % 4294967296<=2147483647)):=by simp [serL,ha,hb]
   rw [hS];rw [ha] at hi1;rw [hb] at hi2;clear hS ha hb
   by_cases h1:1<=(b-a) % 4294967296
   ·simp only [h1,decide_true,Bool.true_and];go_enter Tryz.func58,Tryz.ntmps58;go_wp2_with (go_at_call 95;first|(with_reducible refine(hi1 _).mono ?_;rintro e wf ⟨rfl,hw⟩;obtain rfl:=hw.symm;clear hw)|(with_reducible refine(hi2 _).mono ?_;rintro e wf ⟨rfl,hw⟩;obtain rfl:=hw.symm;clear hw))
    go_ret;exact⟨rfl,rfl⟩
   ·simp only [h1,decide_false,Bool.false_and];go_enter Tryz.func58,Tryz.ntmps58;go_wp2_with (go_at_call 95;first|(with_reducible refine(hi1 _).mono ?_;rintro e wf ⟨rfl,hw⟩;obtain rfl:=hw.symm;clear hw)|(with_reducible refine(hi2 _).mono ?_;rintro e wf ⟨rfl,hw⟩;obtain rfl:=hw.symm;clear hw))
    go_ret;exact⟨rfl,rfl⟩
  ·have hb':serIn b=false:=by simpa using hb
   have hS:serL a b=false:=by simp [serL,hb']
   rw [hS];rw [ha] at hi1;rw [hb'] at hi2;clear hS ha hb hb';go_enter Tryz.func58,Tryz.ntmps58;go_wp2_with (go_at_call 95;first|(with_reducible refine(hi1 _).mono ?_;rintro e wf ⟨rfl,hw⟩;obtain rfl:=hw.symm;clear hw)|(with_reducible refine(hi2 _).mono ?_;rintro e wf ⟨rfl,hw⟩;obtain rfl:=hw.symm;clear hw))
   go_ret;exact⟨rfl,rfl⟩
 ·have ha':serIn a=false:=by simpa using ha
  have hS:serL a b=false:=by simp [serL,ha']
  rw [hS];rw [ha'] at hi1;clear hS ha ha';go_enter Tryz.func58,Tryz.ntmps58;go_wp2_with (go_at_call 95;first|(with_reducible refine(hi1 _).mono ?_;rintro e wf ⟨rfl,hw⟩;obtain rfl:=hw.symm;clear hw)|(with_reducible refine(hi2 _).mono ?_;rintro e wf ⟨rfl,hw⟩;obtain rfl:=hw.symm;clear hw))
  go_ret;exact⟨rfl,rfl⟩
set_option maxRecDepth 100000 in
set_option maxHeartbeats 1600000 in
theorem specSerialLess_any(a b:Int)(w:World):Calls Tryz.prog 21 #[.int .i64 a,.int .i64 b] w fun e w'=>e=.returned (.bool (serL a b))∧w'=w:=by
 have hi1:∀ W:World,Calls Tryz.prog 48 #[.int .i64 a,.int .i64 4294967295] W fun e w'=>e=.returned (.bool (serIn a))∧w'=W:=fun W=>l04In_any a 4294967295 W
 have hi2:∀ W:World,Calls Tryz.prog 48 #[.int .i64 b,.int .i64 4294967295] W fun e w'=>e=.returned (.bool (serIn b))∧w'=W:=fun W=>l04In_any b 4294967295 W
 by_cases ha:serIn a=true
 ·by_cases hb:serIn b=true
  ·obtain⟨x1,x2⟩:0<=a∧a<=4294967295:=by simpa [serIn] using ha
   obtain⟨x3,x4⟩:0<=b∧b<=4294967295:=by simpa [serIn] using hb
   have hs:IntKind.i64.wrap (b-a)=b-a:=wrap_any _ (by omega) (by omega);have hs2:IntKind.i64.wrap (b-a+4294967296)=b-a+4294967296:=Go.wrap_small _ (by omega) (by omega);have hn:=and_32 (b-a);have hr:(b-a+4294967296).tmod 4294967296=(b-a) % 4294967296:=by rw [Int.tmod_eq_emod_of_nonneg (by omega)];omega
   have hr2:IntKind.i64.wrap ((b-a) % 4294967296)=(b-a) % 4294967296:=Go.wrap_small _ (by omega) (by omega);have hS:serL a b=(decide (1<=(b-a) % 4294967296)&&decide ((b-a) % 4294967296<=2147483647)):=by simp [serL,ha,hb]
   rw [hS];rw [ha] at hi1;rw [hb] at hi2;clear hS ha hb
   by_cases h1:1<=(b-a) % 4294967296
   ·simp only [h1,decide_true,Bool.true_and];go_enter Tryz.func21,Tryz.ntmps21;go_wp2_with (go_at_call 48;first|(with_reducible refine(hi1 _).mono ?_;rintro e wf ⟨rfl,hw⟩;obtain rfl:=hw.symm;clear hw)|(with_reducible refine(hi2 _).mono ?_;rintro e wf ⟨rfl,hw⟩;obtain rfl:=hw.symm;clear hw))
    go_ret;exact⟨rfl,rfl⟩
   ·simp only [h1,decide_false,Bool.false_and];go_enter Tryz.func21,Tryz.ntmps21;go_wp2_with (go_at_call 48;first|(with_reducible refine(hi1 _).mono ?_;rintro e wf ⟨rfl,hw⟩;obtain rfl:=hw.symm;clear hw)|(with_reducible refine(hi2 _).mono ?_;rintro e wf ⟨rfl,hw⟩;obtain rfl:=hw.symm;clear hw))
    go_ret;exact⟨rfl,rfl⟩
  ·have hb':serIn b=false:=by simpa using hb
   have hS:serL a b=false:=by simp [serL,hb']
   rw [hS];rw [ha] at hi1;rw [hb'] at hi2;clear hS ha hb hb';go_enter Tryz.func21,Tryz.ntmps21;go_wp2_with (go_at_call 48;first|(with_reducible refine(hi1 _).mono ?_;rintro e wf ⟨rfl,hw⟩;obtain rfl:=hw.symm;clear hw)|(with_reducible refine(hi2 _).mono ?_;rintro e wf ⟨rfl,hw⟩;obtain rfl:=hw.symm;clear hw))
   go_ret;exact⟨rfl,rfl⟩
 ·have ha':serIn a=false:=by simpa using ha
  have hS:serL a b=false:=by simp [serL,ha']
  rw [hS];rw [ha'] at hi1;clear hS ha ha';go_enter Tryz.func21,Tryz.ntmps21;go_wp2_with (go_at_call 48;first|(with_reducible refine(hi1 _).mono ?_;rintro e wf ⟨rfl,hw⟩;obtain rfl:=hw.symm;clear hw)|(with_reducible refine(hi2 _).mono ?_;rintro e wf ⟨rfl,hw⟩;obtain rfl:=hw.symm;clear hw))
  go_ret;exact⟨rfl,rfl⟩
def sdS(r:Rr):Int:=if cutCode 6 r.da=0 then serS r.da else 0
def soB(r:Rr):Bool:=is6 r&&decide (cutCode 6 r.da=0)
def cbB(a b:Rr):Bool:=soB a&&soB b&&serL (sdS b) (sdS a)
set_option maxRecDepth 100000 in
set_option maxHeartbeats 800000 in
theorem soaSerial_any(r:Rr)(w:World)(hd:r.da.size<=2000000):
 Calls Tryz.prog 57 #[rvA r] w fun e w'=>e=.returned (.tuple #[.int .i64 (sdS r),.bool (soB r)])∧Below w.heap.size w w':=by
 have b0:=(Below.refl w.heap.size w).alloc (Nat.le_refl _) (.cells #[.string r.own,.int .i64 r.ty,.int .i64 r.cl,.int .i64 r.tt,.string r.da] 27);have k0:=blk_new w #[.string r.own,.int .i64 r.ty,.int .i64 r.cl,.int .i64 r.tt,.string r.da] 27;have hse:=implSerial_any r.da (w.alloc (.cells #[.string r.own,.int .i64 r.ty,.int .i64 r.cl,.int .i64 r.tt,.string r.da] 27)) hd;have hso:=fun W=>isSOA_any r W
 obtain⟨N,HN⟩:∃ N,Hid (N=sdS r):=⟨_,rfl⟩;obtain⟨B,HB⟩:∃ B,Hid (B=soB r):=⟨_,rfl⟩;rw [<- HN.out,<- HB.out]
 by_cases hc:cutCode 6 r.da=0
 ·have e1:sdS r=serS r.da:=if_pos hc;have e2:soB r=is6 r:=by simp [soB,hc]
  rw [if_pos hc,if_pos hc,<- e1,<- HN.out] at hse;rw [<- e2,<- HB.out] at hso;clear e1 e2 hc
  cases B with
  |true=>
   go_enter Tryz.func57,Tryz.ntmps57;go_wp2_with (first|(go_at_call 94;refine hse.mono ?_;rintro e w1 ⟨rfl,hb1⟩;have k1:=blk_below k0 hb1;have r1:=fun i=>blk_cell k1 i)|(go_at_call 67;refine(hso _).mono ?_;rintro e w2 ⟨rfl,hb2⟩))
   go_ret2
   exact⟨rfl,Nm.below_two (Nm.below_two b0 hb1) hb2⟩
  |false=>
   go_enter Tryz.func57,Tryz.ntmps57;go_wp2_with (first|(go_at_call 94;refine hse.mono ?_;rintro e w1 ⟨rfl,hb1⟩;have k1:=blk_below k0 hb1;have r1:=fun i=>blk_cell k1 i)|(go_at_call 67;refine(hso _).mono ?_;rintro e w2 ⟨rfl,hb2⟩))
   go_ret2;exact⟨rfl,Nm.below_two (Nm.below_two b0 hb1) hb2⟩
 ·have e1:sdS r=0:=if_neg hc;have e2:soB r=false:=by simp [soB,hc]
  rw [if_neg hc,if_neg hc,<- e1,<- HN.out] at hse;rw [e2] at HB;obtain rfl:=HB.out
  cases h6:is6 r with
  |true=>
   rw [h6] at hso;clear h6 hc e1 e2;go_enter Tryz.func57,Tryz.ntmps57;go_wp2_with (first|(go_at_call 94;refine hse.mono ?_;rintro e w1 ⟨rfl,hb1⟩;have k1:=blk_below k0 hb1;have r1:=fun i=>blk_cell k1 i)|(go_at_call 67;refine(hso _).mono ?_;rintro e w2 ⟨rfl,hb2⟩))
   go_ret2
   exact⟨rfl,Nm.below_two (Nm.below_two b0 hb1) hb2⟩
  |false=>
   rw [h6] at hso;clear h6 hc e1 e2;go_enter Tryz.func57,Tryz.ntmps57;go_wp2_with (first|(go_at_call 94;refine hse.mono ?_;rintro e w1 ⟨rfl,hb1⟩;have k1:=blk_below k0 hb1;have r1:=fun i=>blk_cell k1 i)|(go_at_call 67;refine(hso _).mono ?_;rintro e w2 ⟨rfl,hb2⟩))
   go_ret2;exact⟨rfl,Nm.below_two (Nm.below_two b0 hb1) hb2⟩
set_option maxRecDepth 100000 in
set_option maxHeartbeats 800000 in
theorem comesBehind_any(a b:Rr)(w:World)(ha:a.da.size<=2000000)(hb:b.da.size<=2000000):
 Calls Tryz.prog 29 #[rvA a,rvA b] w fun e w'=>e=.returned (.bool (cbB a b))∧Below w.heap.size w w':=by
 have b0:=((Below.refl w.heap.size w).alloc (Nat.le_refl _) (.cells #[.string a.own,.int .i64 a.ty,.int .i64 a.cl,.int .i64 a.tt,.string a.da] 27)).alloc (by simp) (.cells #[.string b.own,.int .i64 b.ty,.int .i64 b.cl,.int .i64 b.tt,.string b.da] 27);have k0:=blk_new (w.alloc (.cells #[.string a.own,.int .i64 a.ty,.int .i64 a.cl,.int .i64 a.tt,.string a.da] 27)) #[.string b.own,.int .i64 b.ty,.int .i64 b.cl,.int .i64 b.tt,.string b.da] 27;rw [World.size_alloc] at k0;have h1:=fun W=>soaSerial_any a W ha
 have h2:=fun W=>soaSerial_any b W hb
 have hse:=fun W=>implSerialLess_any (sdS b) (sdS a) W
 obtain⟨R,HR⟩:∃ R,Hid (R=cbB a b):=⟨_,rfl⟩;rw [<- HR.out];have HR2:Hid (R=(soB a&&soB b&&serL (sdS b) (sdS a))):=HR;clear HR;generalize sdS a=sa at*;generalize sdS b=sb at*;generalize serL sb sa=L at*;generalize soB a=x at*;generalize soB b=y at*
 cases x with
 |false=>
  have HE:Hid (R=false):=by show _=_;rw [HR2.out];simp
  go_enter Tryz.func29,Tryz.ntmps29;go_wp2_with fail
  go_at_call 57
  refine(h1 _).mono ?_;rintro e w1 ⟨rfl,hb1⟩;have k1:=blk_below k0 hb1;have r1:=fun i=>blk_cell k1 i
  go_wp2_with fail
  go_at_call 57
  refine(h2 _).mono ?_;rintro e w2 ⟨rfl,hb2⟩;go_wp2;go_ret;rw [HE.out]
  exact⟨rfl,Nm.below_two (Nm.below_two b0 hb1) hb2⟩
 |true=>
  cases y with
  |false=>
   have HE:Hid (R=false):=by show _=_;rw [HR2.out];simp
   go_enter Tryz.func29,Tryz.ntmps29;go_wp2_with fail
   go_at_call 57
   refine(h1 _).mono ?_;rintro e w1 ⟨rfl,hb1⟩;have k1:=blk_below k0 hb1;have r1:=fun i=>blk_cell k1 i
   go_wp2_with fail
   go_at_call 57
   refine(h2 _).mono ?_;rintro e w2 ⟨rfl,hb2⟩;go_wp2;go_ret;rw [HE.out]
   exact⟨rfl,Nm.below_two (Nm.below_two b0 hb1) hb2⟩
  |true=>
   have HE:Hid (R=L):=by show _=_;rw [HR2.out];simp
   go_enter Tryz.func29,Tryz.ntmps29;go_wp2_with fail
   go_at_call 57
   refine(h1 _).mono ?_;rintro e w1 ⟨rfl,hb1⟩;have k1:=blk_below k0 hb1;have r1:=fun i=>blk_cell k1 i
   go_wp2_with fail
   go_at_call 57
   refine(h2 _).mono ?_;rintro e w2 ⟨rfl,hb2⟩;go_wp2_with (go_at_call 58;refine(hse _).mono ?_;rintro e w3 ⟨rfl,hw⟩;obtain rfl:=hw.symm;clear hw)
   go_ret;rw [HE.out];exact⟨rfl,Nm.below_two (Nm.below_two b0 hb1) hb2⟩
end Go.Proofs.YtieobflhfcgliaaGreat
