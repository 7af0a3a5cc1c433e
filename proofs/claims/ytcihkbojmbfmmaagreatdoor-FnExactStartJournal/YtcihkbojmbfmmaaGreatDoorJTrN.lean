import Derived.Test.YtcihkbojmbfmmaaGreatDoorJMath
import Derived.Deep.RegionHeld3
import Derived.Test.YtcihkbojmbfmmaaGreatDoorRows
import Derived.WalkSpells
import Derived.WalkLawsBesides
import Derived.Lib.Bytealg
import Derived.Laws.Externs
import Derived.Deep.QuietTactic
import Derived.BigQuiet
import Derived.Laws.CopyRow
import Derived.Lib.AppendZerosOnto
import Derived.Lib.Overlaps
namespace Go.Proofs.YtcihkbojmbfmmaaGreatDoor
open Go.RowKit
set_option linter.unusedVariables false
theorem newTableL_any(fn:Fn)(w:World):Calls Tryz.prog 108 #[.func fn #[] #[]] w fun e w'=>e=.returned (ptr w.heap.size)∧w'=w.alloc (.cells #[.func fn #[] #[],.slice none 0 0] 176):=by
 go_enter Tryz.func108,Tryz.ntmps108;go_wp2;go_ret;exact⟨rfl,rfl⟩
theorem newTableI_any(fn:Fn)(w:World):Calls Tryz.prog 141 #[.func fn #[] #[]] w fun e w'=>e=.returned (ptr w.heap.size)∧w'=w.alloc (.cells #[.func fn #[] #[],.slice none 0 0] 183):=by
 go_enter Tryz.func141,Tryz.ntmps141;go_wp2;go_ret;exact⟨rfl,rfl⟩
theorem newTableS_any(fn:Fn)(w:World):Calls Tryz.prog 145 #[.func fn #[] #[]] w fun e w'=>e=.returned (ptr w.heap.size)∧w'=w.alloc (.cells #[.func fn #[] #[],.slice none 0 0] 223):=by
 go_enter Tryz.func145,Tryz.ntmps145;go_wp2;go_ret;exact⟨rfl,rfl⟩
def NewO(own:ByteArray)(lv:Value)(ux:Addr)(W w':World):Prop:=∃ hd ob,ux=⟨ob,0,none⟩∧W.heap.size<=hd∧W.heap.size<=ob∧hd≠ob∧Blk w' hd #[cmpIv,.slice none 0 0] 183∧Blk w' ob #[.string own,lv,ptr hd] 140
def NewS(tt:Int)(at_:Nat)(ux:Addr)(W w':World):Prop:=∃ hd sb,ux=⟨sb,0,none⟩∧W.heap.size<=hd∧W.heap.size<=sb∧hd≠sb∧Blk w' hd #[cmpSv,.slice none 0 0] 223∧Blk w' sb #[.int .i64 tt,.int .i64 (at_:Int),ptr hd] 165
theorem grown_of_below{w w':World}(h:Below w.heap.size w w'):w.grownBy w' none:=⟨h.os,h.tape,h.output,h.size,fun k hk _=>h.block k hk⟩
set_option maxRecDepth 100000 in
set_option maxHeartbeats 1600000 in
theorem lay1_any(rb lb:Nat)(own:ByteArray)(r1 r2 r3 r4:Value)(la:Option Addr)(ln lc:Nat)(w:World)(kr:Blk w rb #[.string own,r1,r2,r3,r4] 73)(kl:Blk w lb #[.slice la ln lc] 91)(hs:own.size<=1000000000):
 Calls Tryz.prog 140 #[ptr rb,ptr lb] w fun e w'=>∃ ux:Addr,e=.returned (.pointer (some ux))∧w.grownBy w' none∧NewO own (.slice la ln lc) ux w w':=by
 have hnt:=newTableI_any (.func 142) w;have hB1:=(Below.refl w.heap.size w).alloc (Nat.le_refl _) (.cells #[.func (.func 142) #[] #[],.slice none 0 0] 183);have kh:=blk_new w #[.func (.func 142) #[] #[],.slice none 0 0] 183;have hcl:=fun W=>clone_any own W hs
 unfold ptr;go_enter Tryz.func140,Tryz.ntmps140;go_wp2_with fail
 refine hnt.mono ?_;rintro e w1 ⟨rfl,hw1⟩;rw [<- hw1] at hB1 kh;unfold ptr;have hS:∀ W,Below w1.heap.size w1 W->W.cell? ⟨rb,0,none⟩=some (.string own)∧W.cell? ⟨lb,0,none⟩=some (.slice la ln lc):=fun W hW=>⟨blk_cell (blk_below (blk_below kr hB1) hW) 0,blk_cell (blk_below (blk_below kl hB1) hW) 0⟩
 have hsz1:w1.heap.size=w.heap.size+1:=by rw [hw1];simp
 clear hnt hw1;go_wp2;refine wp_region_last (fun W=>W.cell? ⟨rb,0,none⟩=some (.string own)∧W.cell? ⟨lb,0,none⟩=some (.slice la ln lc)) 1000 (by kernel_rfl) (hS _ (Below.refl _ _).drew) (fun hHeld=>?_);refine tkL (i:=0) (v:=?_) rfl ?_ ?_;rotate_left 1
 ·(intro W hSW;obtain⟨z0,z1⟩:=hSW;go_simp;try (with_reducible rfl))
 refine tkL (i:=1) (v:=?_) rfl ?_ ?_;rotate_left 1
 ·(intro W hSW;obtain⟨z0,z1⟩:=hSW;go_simp;try (with_reducible rfl))
 refine tkL (i:=3) (v:=?_) rfl ?_ ?_;rotate_left 1
 ·(intro W hSW;obtain⟨z0,z1⟩:=hSW;go_simp;try (with_reducible rfl))
 refine tkL (i:=4) (v:=?_) rfl ?_ ?_;rotate_left 1
 ·(intro W hSW;obtain⟨z0,z1⟩:=hSW;go_simp;try (with_reducible rfl))
 refine wpAnyL_one (i:=2) (by kernel_rfl) rfl (fun K hK=>?_);go_simp;refine(hcl _).mono ?_;rintro e w2 ⟨rfl,b2⟩;go_wp2_with fail
 have b12:Below w1.heap.size w1 w2:=Nm.below_two (Below.refl _ _).drew b2;refine hK.out _ _ (hS _ b12) (fun _=>?_);clear hK K hcl;refine tkL (i:=5) (v:=?_) rfl ?_ ?_;rotate_left 1
 ·(intro W hSW;obtain⟨z0,z1⟩:=hSW;go_simp;try (with_reducible rfl))
 refine wpAnyL_one (i:=6) (by kernel_rfl) rfl (fun K hK=>?_);go_simp;refine hK.out _ _ (hS _ (b12.alloc b12.size _)) (fun _=>?_);clear hK K;refine tkL (i:=7) (v:=?_) rfl ?_ ?_;rotate_left 1
 ·(intro W hSW;obtain⟨z0,z1⟩:=hSW;go_simp;try (with_reducible rfl))
 refine wpAnyL_done (by kernel_rfl) ?_;have kh2:=blk_alloc (blk_below kh b12) (.cells #[.string own,.slice la ln lc,.pointer (some ⟨w.heap.size,0,none⟩)] 140);have ko:=blk_new w2 #[.string own,.slice la ln lc,.pointer (some ⟨w.heap.size,0,none⟩)] 140;have bF:=(Nm.below_two hB1 b12).alloc (Nm.below_two hB1 b12).size (.cells #[.string own,.slice la ln lc,.pointer (some ⟨w.heap.size,0,none⟩)] 140);have hsz2:=b12.size;have HX:=Nm.hide (And.intro kh2 (And.intro ko bF));clear kh2 ko bF b12 b2 hS kh hB1 kr kl;go_wp2;go_ret;exact⟨⟨w2.heap.size,0,none⟩,rfl,grown_of_below HX.out.2.2,w.heap.size,w2.heap.size,rfl,Nat.le_refl _,by omega,by omega,HX.out.1,HX.out.2.1⟩
set_option maxRecDepth 100000 in
set_option maxHeartbeats 1600000 in
theorem lay2_any(rb ab at_:Nat)(tt:Int)(r0 r1 r2 r4:Value)(w:World)(kr:Blk w rb #[r0,r1,r2,.int .i64 tt,r4] 73)(ka:Blk w ab #[.int .i64 (at_:Int)] 3):
 Calls Tryz.prog 144 #[ptr rb,ptr ab] w fun e w'=>∃ ux:Addr,e=.returned (.pointer (some ux))∧w.grownBy w' none∧NewS tt at_ ux w w':=by
 have hnt:=fun W=>newTableS_any (.func 146) W
 have hS:∀ W,Below w.heap.size w W->W.cell? ⟨rb,3,none⟩=some (.int .i64 tt)∧W.cell? ⟨ab,0,none⟩=some (.int .i64 (at_:Int)):=fun W hW=>⟨blk_cell (blk_below kr hW) 3,blk_cell (blk_below ka hW) 0⟩
 unfold ptr;go_enter Tryz.func144,Tryz.ntmps144;go_wp2;refine wp_region_last (fun W=>W.cell? ⟨rb,3,none⟩=some (.int .i64 tt)∧W.cell? ⟨ab,0,none⟩=some (.int .i64 (at_:Int))) 1000 (by kernel_rfl) (hS _ (Below.refl _ _).drew) (fun hHeld=>?_);refine tkL (i:=0) (v:=?_) rfl ?_ ?_;rotate_left 1
 ·(intro W hSW;obtain⟨z0,z1⟩:=hSW;go_simp;try (with_reducible rfl))
 refine tkL (i:=1) (v:=?_) rfl ?_ ?_;rotate_left 1
 ·(intro W hSW;obtain⟨z0,z1⟩:=hSW;go_simp;try (with_reducible rfl))
 refine tkL (i:=2) (v:=?_) rfl ?_ ?_;rotate_left 1
 ·(intro W hSW;obtain⟨z0,z1⟩:=hSW;go_simp;try (with_reducible rfl))
 refine wpAnyL_one (i:=3) (by kernel_rfl) rfl (fun K hK=>?_);go_simp;refine(hnt _).mono ?_;rintro e w1 ⟨rfl,hw1⟩;have hB1:Below w.heap.size w w1:=by rw [hw1];exact(Below.refl w.heap.size w).drew.alloc (Nat.le_refl _) _
 have kh:Blk w1 w.heap.size #[.func (.func 146) #[] #[],.slice none 0 0] 223:=by rw [hw1];exact blk_new w.drew _ _
 have HZ1:Hid (w1.heap.size=w.heap.size+1):=by show _=_;rw [hw1];simp
 clear hw1;unfold ptr;go_wp2_with fail
 refine hK.out _ _ (hS _ hB1) (fun _=>?_);clear hK K hnt;refine tkL (i:=4) (v:=?_) rfl ?_ ?_;rotate_left 1
 ·(intro W hSW;obtain⟨z0,z1⟩:=hSW;go_simp;try (with_reducible rfl))
 refine wpAnyL_one (i:=5) (by kernel_rfl) rfl (fun K hK=>?_);go_simp;refine hK.out _ _ (hS _ (hB1.alloc hB1.size _)) (fun _=>?_);clear hK K;refine tkL (i:=6) (v:=?_) rfl ?_ ?_;rotate_left 1
 ·(intro W hSW;obtain⟨z0,z1⟩:=hSW;go_simp;try (with_reducible rfl))
 refine wpAnyL_done (by kernel_rfl) ?_;have kh2:=blk_alloc kh (.cells #[.int .i64 tt,.int .i64 (at_:Int),.pointer (some ⟨w.heap.size,0,none⟩)] 165);have ko:=blk_new w1 #[.int .i64 tt,.int .i64 (at_:Int),.pointer (some ⟨w.heap.size,0,none⟩)] 165;have bF:=hB1.alloc hB1.size (.cells #[.int .i64 tt,.int .i64 (at_:Int),.pointer (some ⟨w.heap.size,0,none⟩)] 165);have HX:=Nm.hide (And.intro kh2 (And.intro ko bF));clear kh2 ko bF hS kh hB1 kr ka;go_wp2;go_ret;exact⟨⟨w1.heap.size,0,none⟩,rfl,grown_of_below HX.out.2.2,w.heap.size,w1.heap.size,rfl,Nat.le_refl _,by have:=HZ1.out;omega,by have:=HZ1.out;omega,HX.out.1,HX.out.2.1⟩
set_option maxRecDepth 100000 in
set_option maxHeartbeats 1600000 in
theorem lay3_any(nb rb:Nat)(b0:Bool)(da:ByteArray)(r0 r1 r2 r3:Value)(w:World)(kn:Blk w nb #[.bool b0] 4)(kr:Blk w rb #[r0,r1,r2,r3,.string da] 73)(hs:da.size<=1000000000):
 Calls Tryz.prog 149 #[ptr nb,ptr rb] w fun e w'=>∃ ux:ByteArray,e=.returned (.string ux)∧w.grownBy w' (some nb)∧ux=da∧Blk w' nb #[.bool true] 4:=by
 have hcl:=fun W=>clone_any da W hs
 have hne:nb≠rb:=by
  intro e;subst e;rw [Blk,kn] at kr;simp only [Option.some.injEq,Obj.cells.injEq] at kr;exact absurd kr.2.1 (by decide)
 have rn:=fun i=>blk_cell kn i
 have fn:=fun i=>blk_frozen kn i
 have kn2:=blk_set kn 0 (.bool true);have kr2:=blk_far (v:=.bool true) (i:=0) kr (Ne.symm hne);have c2:=fun i=>blk_cell kr2 i
 have hg:w.grownBy (w.setCell ⟨nb,0,none⟩ (.bool true)) (some nb):=⟨rfl,rfl,rfl,by simp,fun k _ hk=>heap_setCell_other w ⟨nb,0,none⟩ k _ (fun e=>hk (by rw [e]))⟩;unfold ptr;go_enter Tryz.func149,Tryz.ntmps149;go_wp2_with fail
 refine(hcl _).mono ?_;rintro e w1 ⟨rfl,b1⟩;have kn3:=blk_below kn2 b1;have HX:=Nm.hide (And.intro (hgr_below hg b1) kn3);clear hg kn3 kn2 kr2 c2 b1;go_wp2;go_ret;exact⟨da,rfl,HX.out.1,rfl,HX.out.2⟩
end Go.Proofs.YtcihkbojmbfmmaaGreatDoor
namespace Go.Proofs.YtcihkbojmbfmmaaGreatDoor
open Go.RowKit
theorem ord_cmp:∀ (a b:List UInt8),Go.Lib.compareBytes a b=Nm.ordL a b:=by
 intro a
 induction a with
 |nil=>
  intro b
  cases b with
  |nil=>rfl
  |cons y b=>rfl
 |cons x a ih=>
  intro b
  cases b with
  |nil=>rfl
  |cons y b=>
   rw [Go.Lib.compareBytes]
   by_cases h:x=y
   ·subst h;rw [if_neg (by simp),if_neg (by simp),Nm.ordL_same,ih]
   ·rw [Nm.ordL_ne a b h];have hn:x.toNat≠y.toNat:=fun e=>h (UInt8.toNat_inj.1 e)
    by_cases hl:x<y
    ·have hl':(x.toNat:Int)<(y.toNat:Int):=by have:=UInt8.lt_iff_toNat_lt.1 hl;omega
     rw [if_pos hl,Nm.cmpI_lt hl']
    ·have hl':(y.toNat:Int)<(x.toNat:Int):=by
      have:¬x.toNat<y.toNat:=fun e=>hl (UInt8.lt_iff_toNat_lt.2 e)
      omega
     have hl2:y<x:=UInt8.lt_iff_toNat_lt.2 (by omega);rw [if_neg hl,if_pos hl2,Nm.cmpI_gt hl']
theorem cmpstring_run(a b:ByteArray)(w:World):(callFunc 182 #[.string a,.string b]).run Tryz.prog w=.ok (.value (.int .i64 (Nm.ordL a.data.toList b.data.toList))) w:=by
 have h:=run_callFunc_extern (P:=Tryz.prog) (f:=182) (fn:=Tryz.f182) (e:=Extern.BytealgCompare.compare) Tryz.func182 (by kernel_rfl) (by kernel_rfl) (by kernel_rfl) (by kernel_rfl) #[.string a,.string b] w;rw [h,Go.Lib.run_compareString,ord_cmp];rfl
set_option maxRecDepth 100000 in
set_option maxHeartbeats 400000 in
theorem compare_any'(a b:ByteArray)(w:World):
 Calls Tryz.prog 146 #[.string a,.string b] w fun e w'=>e=.returned (.int .i64 (Nm.ordL a.data.toList b.data.toList))∧w'=w:=by
 have hx:=cmpstring_run a b;generalize Nm.ordL a.data.toList b.data.toList=r at*;go_enter Tryz.func146,Tryz.ntmps146;go_wp2_with (go_at_call 164;go_in)
 go_ret;exact⟨rfl,rfl⟩
end Go.Proofs.YtcihkbojmbfmmaaGreatDoor
namespace Go.Proofs.YtcihkbojmbfmmaaGreatDoor
open Go.RowKit
set_option maxRecDepth 100000 in
set_option maxHeartbeats 400000 in
theorem foldByte_any(c:UInt8)(w:World):
 Calls Tryz.prog 157 #[.int .u8 c.toNat] w fun e w'=>e=.returned (.int .u8 (Nm.low c).toNat)∧w'=w:=by
 have hcl:(c.toNat:Int)<256:=by have:=c.toNat_lt;omega
 by_cases hup:65<=c.toNat∧c.toNat<=90
 ·have HL:=Nm.hide (Nm.low_up hup);have d1:decide ((65:Int)<=(c.toNat:Int))=true:=by simp;omega
  have d2:decide ((c.toNat:Int)<=90)=true:=by simp;omega
  have hb1:(c.toNat:Int)<=90:=by omega
  clear hup;go_enter Tryz.func157,Tryz.ntmps157;go_wp2;go_ret;rw [HL.out];exact⟨rfl,rfl⟩
 ·have HL:=Nm.hide (Nm.low_id hup)
  by_cases hlo:65<=c.toNat
  ·have d1:decide ((65:Int)<=(c.toNat:Int))=true:=by simp;omega
   have d2:decide ((c.toNat:Int)<=90)=false:=by simp;omega
   clear hup;go_enter Tryz.func157,Tryz.ntmps157;go_wp2;go_ret;rw [HL.out];exact⟨rfl,rfl⟩
  ·have d1:decide ((65:Int)<=(c.toNat:Int))=false:=by simp;omega
   clear hup;go_enter Tryz.func157,Tryz.ntmps157;go_wp2;go_ret;rw [HL.out];exact⟨rfl,rfl⟩
end Go.Proofs.YtcihkbojmbfmmaaGreatDoor
namespace Go.Proofs.YtcihkbojmbfmmaaGreatDoor
open Go.RowKit
set_option maxRecDepth 100000 in
set_option maxHeartbeats 400000 in
theorem cmpByte_any(a b:UInt8)(w:World):
 Calls Tryz.prog 156 #[.int .u8 a.toNat,.int .u8 b.toNat] w fun e w'=>e=.returned (.int .i64 (Nm.cmpI a.toNat b.toNat))∧w'=w:=by
 have ha:((a.toNat:Int) != (a.toNat:Int))=false:=by simp
 have hb:((b.toNat:Int) != (b.toNat:Int))=false:=by simp
 by_cases h1:(a.toNat:Int)<(b.toNat:Int)
 ·have HC:=Nm.hide (Nm.cmpI_lt h1);have d1:decide ((a.toNat:Int)<(b.toNat:Int))=true:=by simpa using h1
  go_enter Tryz.func156,Tryz.ntmps156;go_wp2;go_ret;rw [HC.out];exact⟨rfl,rfl⟩
 ·have d1:decide ((a.toNat:Int)<(b.toNat:Int))=false:=by simpa using h1
  by_cases h2:(b.toNat:Int)<(a.toNat:Int)
  ·have HC:=Nm.hide (Nm.cmpI_gt h2);have d2:decide ((b.toNat:Int)<(a.toNat:Int))=true:=by simpa using h2
   go_enter Tryz.func156,Tryz.ntmps156;go_wp2;go_ret;rw [HC.out];exact⟨rfl,rfl⟩
  ·have HC:=Nm.hide (Nm.cmpI_eq (show(a.toNat:Int)=(b.toNat:Int) by omega));have d2:decide ((b.toNat:Int)<(a.toNat:Int))=false:=by simpa using h2
   go_enter Tryz.func156,Tryz.ntmps156;go_wp2;go_ret;rw [HC.out];exact⟨rfl,rfl⟩
set_option maxRecDepth 100000 in
set_option maxHeartbeats 400000 in
theorem cmpInt_any(a b:Int)(w:World):
 Calls Tryz.prog 134 #[.int .i64 a,.int .i64 b] w fun e w'=>e=.returned (.int .i64 (Nm.cmpI a b))∧w'=w:=by
 have ha:(a != a)=false:=by simp
 have hb:(b != b)=false:=by simp
 by_cases h1:a<b
 ·have HC:=Nm.hide (Nm.cmpI_lt h1);go_enter Tryz.func134,Tryz.ntmps134;go_wp2;go_ret;rw [HC.out];exact⟨rfl,rfl⟩
 ·by_cases h2:b<a
  ·have HC:=Nm.hide (Nm.cmpI_gt h2);go_enter Tryz.func134,Tryz.ntmps134;go_wp2;go_ret;rw [HC.out];exact⟨rfl,rfl⟩
  ·have HC:=Nm.hide (Nm.cmpI_eq (show a=b by omega));go_enter Tryz.func134,Tryz.ntmps134;go_wp2;go_ret;rw [HC.out];exact⟨rfl,rfl⟩
set_option maxRecDepth 100000 in
set_option maxHeartbeats 800000 in
theorem compareFolded_any(a b:ByteArray)(w:World)(ha:a.size<=1000000000):
 Calls Tryz.prog 133 #[.string a,.string b] w fun e w'=>e=.returned (.int .i64 (Nm.ordS a b))∧∃ m,w'=w.drewN m:=by
 go_enter Tryz.func133,Tryz.ntmps133;go_wp2
 go_loopw [5] (fun i wr=>∃ k:Nat,k<=a.size∧k<=b.size∧i=.int .i64 k∧Hid ((Nm.smallL a.data.toList).take k=(Nm.smallL b.data.toList).take k)∧∃ m,Hid (wr=w.drewN m))
  (fun i _=>a.size-(intOf i).toNat)
 case atStart=>exact⟨0,Nat.zero_le _,Nat.zero_le _,rfl,by show _=_;simp,0,rfl⟩
 case round=>
  obtain⟨k,hka,hkb,rfl,HT,m,HW⟩:=hrel
  by_cases h1:k<a.size∧k<b.size
  ·obtain⟨h1,h2⟩:=h1;have d1:decide ((k:Int)<(a.size:Int))=true:=by simp;omega
   have d2:decide ((k:Int)<(b.size:Int))=true:=by simp;omega
   have i1:(k:Int)<(a.size:Int):=by omega
   have i2:(k:Int)<(b.size:Int):=by omega
   by_cases he:Nm.low a[k]=Nm.low b[k]
   ·have HN:Hid ((Nm.smallL a.data.toList).take (k+1)=(Nm.smallL b.data.toList).take (k+1)):=Nm.take_snoc_eq HT.out (Nm.small_get h1) (Nm.small_get h2) he;have hc:(Nm.cmpI (Nm.low a[k]).toNat (Nm.low b[k]).toNat != 0)=false:=by rw [Nm.cmpI_eq (by rw [he])];rfl
    clear he;go_wp2;go_quiet (first|(go_at_call 157;exact Calls.quiet_of_same (foldByte_any _ _))|(go_at_call 156;exact Calls.quiet_of_same (cmpByte_any _ _ _)))
    go_wp2;go_roundw
    case rel=>exact⟨k+1,by omega,by omega,by go_num,HN,_,by show _=_;rw [HW.out,World.drewN_drewN]⟩
    case measure=>simp [intOf];omega
   ·have HO:Hid (Nm.ordS a b=Nm.cmpI (Nm.low a[k]).toNat (Nm.low b[k]).toNat):=Nm.ord_at k _ _ _ _ HT.out (Nm.small_get h1) (Nm.small_get h2) he
    have hc:(Nm.cmpI (Nm.low a[k]).toNat (Nm.low b[k]).toNat != 0)=true:=by
     rw [bne_iff_ne];exact Nm.cmpI_ne (fun e=>he (UInt8.toNat_inj.1 (by omega)))
    clear he;go_wp2;go_quiet (first|(go_at_call 157;exact Calls.quiet_of_same (foldByte_any _ _))|(go_at_call 156;exact Calls.quiet_of_same (cmpByte_any _ _ _)))
    go_wp2;go_ret;rw [HO.out];exact⟨rfl,_,by rw [HW.out,World.drewN_drewN]⟩
  ·have HO:Hid (Nm.ordS a b=Nm.cmpI a.size b.size):=by
    show _=_
    have:=Nm.ord_end k _ _ HT.out (by rw [Nm.smallL_length];omega) (by rw [Nm.smallL_length];omega) (by rw [Nm.smallL_length,Nm.smallL_length];omega);rw [Nm.smallL_length,Nm.smallL_length] at this;exact this
   by_cases h2:k<a.size
   ·have g2:b.size<=k:=by omega
    have d2:decide (k<b.size)=false:=by simp;omega
    clear h1;go_wp2_with fail
    refine(cmpInt_any _ _ _).mono ?_;rintro e w3 ⟨rfl,rfl⟩;go_wp2;go_ret;rw [HO.out];exact⟨rfl,_,HW.out⟩
   ·have g2:a.size<=k:=by omega
    have d2:decide (k<a.size)=false:=by simp;omega
    clear h1;go_wp2_with fail
    refine(cmpInt_any _ _ _).mono ?_;rintro e w3 ⟨rfl,rfl⟩;go_wp2;go_ret;rw [HO.out];exact⟨rfl,_,HW.out⟩
end Go.Proofs.YtcihkbojmbfmmaaGreatDoor
namespace Go.Proofs.YtcihkbojmbfmmaaGreatDoor
open Go.RowKit
theorem cell_drewN(w:World)(m:Nat)(a:Addr):(w.drewN m).cell? a=w.cell? a:=by simp
set_option maxRecDepth 100000 in
set_option maxHeartbeats 800000 in
theorem compare_any(v u:Value)(xs ys:List ByteArray)(w:World)(h:Nm.SRow w v xs)(h':Nm.SRow w u ys)(hxs:∀ x∈xs,x.size<=1000000000)(hlx:xs.length<=1000000000)(hly:ys.length<=1000000000):
 Calls Tryz.prog 109 #[v,u] w fun e w'=>e=.returned (.int .i64 (Nm.cmpLs xs ys))∧∃ m,w'=w.drewN m:=by
 obtain⟨a,cap,rfl,hcap,hmx,hnl,hc⟩:=h;obtain⟨a',cap',rfl,hcap',hmx',hnl',hc'⟩:=h';clear hnl hnl';go_enter Tryz.func109,Tryz.ntmps109;go_wp2
 go_loopw [5] (fun i wr=>∃ k:Nat,k<=xs.length∧k<=ys.length∧i=.int .i64 ((k:Int)+1)∧Hid (Nm.cmpLs xs ys=Nm.cmpRev (xs.reverse.drop k) (ys.reverse.drop k))∧∃ m,Hid (wr=w.drewN m))
  (fun i _=>xs.length+1-(intOf i).toNat)
 case atStart=>exact⟨0,Nat.zero_le _,Nat.zero_le _,rfl,by show _=_;simp [Nm.cmpLs],0,rfl⟩
 case round=>
  obtain⟨k,hka,hkb,rfl,HT,m,HW⟩:=hrel
  by_cases h1:k<xs.length∧k<ys.length
  ·obtain⟨h1,h2⟩:=h1;have i1:(k:Int)+1<=(xs.length:Int):=by omega
   have i2:(k:Int)+1<=(ys.length:Int):=by omega
   obtain⟨x,hx⟩:∃ x,xs[xs.length-(k+1)]? =some x:=⟨_,List.getElem?_eq_getElem (by omega)⟩;obtain⟨y,hy⟩:∃ y,ys[ys.length-(k+1)]? =some y:=⟨_,List.getElem?_eq_getElem (by omega)⟩;obtain⟨b,off,rfl,hcell⟩:=hc (by intro h;rw [h] at h1;simp at h1);obtain⟨b',off',rfl,hcell'⟩:=hc' (by intro h;rw [h] at h2;simp at h2);have hcx:wr.cell? ⟨b,off+(xs.length-(k+1)),none⟩=some (.string x):=by rw [HW.out,cell_drewN];exact hcell _ _ hx
   have hcy:wr.cell? ⟨b',off'+(ys.length-(k+1)),none⟩=some (.string y):=by rw [HW.out,cell_drewN];exact hcell' _ _ hy
   have hxz:=hxs x (List.mem_of_getElem? hx);have q1:(0:Int)<=(xs.length:Int)-((k:Int)+1):=by omega
   have q2:(xs.length:Int)-((k:Int)+1)<(xs.length:Int):=by omega
   have q3:((xs.length:Int)-((k:Int)+1)).toNat=xs.length-(k+1):=by omega
   have q4:(0:Int)<=(ys.length:Int)-((k:Int)+1):=by omega
   have q5:(ys.length:Int)-((k:Int)+1)<(ys.length:Int):=by omega
   have q6:((ys.length:Int)-((k:Int)+1)).toNat=ys.length-(k+1):=by omega
   have hrx:=Nm.rev_get h1 hx;have hry:=Nm.rev_get h2 hy
   by_cases he:Nm.ordS x y=0
   ·have HN:Hid (Nm.cmpLs xs ys=Nm.cmpRev (xs.reverse.drop (k+1)) (ys.reverse.drop (k+1))):=HT.out.trans (Nm.cmp_go hrx hry he);have hcf:=fun W=>compareFolded_any x y W hxz
    rw [he] at hcf;have hz:((0:Int) != 0)=false:=rfl;clear he hx hy hrx hry hcell hcell' hc hc' hxs;go_wp2;go_quiet ((go_at_call 133;exact Calls.quiet_of (hcf _)))
    go_wp2;go_roundw
    case rel=>exact⟨k+1,by omega,by omega,by go_num,HN,_,by show _=_;rw [HW.out,World.drewN_drewN]⟩
    case measure=>simp [intOf];omega
   ·have HO:Hid (Nm.cmpLs xs ys=Nm.ordS x y):=HT.out.trans (Nm.cmp_stop hrx hry he);have hcf:=fun W=>compareFolded_any x y W hxz
    have hz:(Nm.ordS x y != 0)=true:=by rw [bne_iff_ne];exact he
    generalize Nm.ordS x y=o at*;clear he hx hy hrx hry hcell hcell' hc hc' hxs;go_wp2;go_quiet ((go_at_call 133;exact Calls.quiet_of (hcf _)))
    go_wp2;go_ret;rw [HO.out];exact⟨rfl,_,by rw [HW.out,World.drewN_drewN]⟩
  ·have HO:Hid (Nm.cmpLs xs ys=Nm.cmpI xs.length ys.length):=by
    show _=_
    rw [HT.out,Nm.cmp_end (by simpa using hka) (by simpa using hkb) (by simp;omega)];simp
   clear hc hc' hxs
   by_cases h2:k<xs.length
   ·have g1:(k:Int)+1<=(xs.length:Int):=by omega
    have g2:(ys.length:Int)<(k:Int)+1:=by omega
    clear h1;go_wp2_with fail
    refine(cmpInt_any _ _ _).mono ?_;rintro e w3 ⟨rfl,rfl⟩;go_wp2;go_ret;rw [HO.out];exact⟨rfl,_,HW.out⟩
   ·have g1:(xs.length:Int)<(k:Int)+1:=by omega
    clear h1;go_wp2_with fail
    refine(cmpInt_any _ _ _).mono ?_;rintro e w3 ⟨rfl,rfl⟩;go_wp2;go_ret;rw [HO.out];exact⟨rfl,_,HW.out⟩
end Go.Proofs.YtcihkbojmbfmmaaGreatDoor
namespace Go.Proofs.YtcihkbojmbfmmaaGreatDoor
open Go.RowKit
set_option linter.unusedVariables false
set_option maxRecDepth 100000 in
set_option maxHeartbeats 1600000 in
theorem place1S_any(tb g:Nat)(rv:Value)(k d t:ByteArray)(w:World)(kb:Blk w tb #[.pointer (some ⟨g,0,none⟩)] 163)(kg:Blk w g #[cmpSv,rv] 223):
 Calls Tryz.prog 184 #[.agg #[.string k,.string d],.string t,.pointer (some ⟨tb,0,none⟩)] w fun e w'=>e=.returned (.int .i64 (Nm.ordL k.data.toList t.data.toList))∧Below w.heap.size w w':=by
 have hB:=(Below.refl w.heap.size w).alloc (Nat.le_refl _) (.cells #[.string k,.string d] 226);have rb:=fun i=>blk_cell (blk_below kb hB) i
 have rg:=fun i=>blk_cell (blk_below kg hB) i
 have hc:=fun W=>compare_any' k t W
 unfold cmpSv at rg;generalize Nm.ordL k.data.toList t.data.toList=C at*;go_enter Tryz.func184,Tryz.ntmps184;go_wp2;go_quiet ((go_at_call 146;exact Calls.quiet_of_same (hc _)))
 go_wp2;go_ret;exact⟨rfl,Go.below_drewN hB _⟩
set_option maxRecDepth 100000 in
set_option maxHeartbeats 1600000 in
theorem place1I_any(tb g:Nat)(rv pv:Value)(k t:Int)(w:World)(kb:Blk w tb #[.pointer (some ⟨g,0,none⟩)] 138)(kg:Blk w g #[cmpIv,rv] 183):
 Calls Tryz.prog 169 #[.agg #[.int .i64 k,pv],.int .i64 t,.pointer (some ⟨tb,0,none⟩)] w fun e w'=>e=.returned (.int .i64 (Nm.cmpI k t))∧Below w.heap.size w w':=by
 have hB:=(Below.refl w.heap.size w).alloc (Nat.le_refl _) (.cells #[.int .i64 k,pv] 185);have rb:=fun i=>blk_cell (blk_below kb hB) i
 have rg:=fun i=>blk_cell (blk_below kg hB) i
 have hc:=fun W=>cmp64_any k t W
 unfold cmpIv at rg;generalize Nm.cmpI k t=C at*;go_enter Tryz.func169,Tryz.ntmps169;go_wp2;go_quiet ((go_at_call 142;exact Calls.quiet_of_same (hc _)))
 go_wp2;go_ret;exact⟨rfl,Go.below_drewN hB _⟩
set_option maxRecDepth 100000 in
set_option maxHeartbeats 1600000 in
theorem place1L_any(tb g:Nat)(rv pv kv tv:Value)(ks ts:List ByteArray)(w:World)(kb:Blk w tb #[.pointer (some ⟨g,0,none⟩)] 92)(kg:Blk w g #[cmpLv,rv] 176)
 (hk:Nm.SRow w kv ks) (ht:Nm.SRow w tv ts) (hks:∀ x∈ks,x.size<=1000000000) (hkl:ks.length<=1000000000) (htl:ts.length<=1000000000):
 Calls Tryz.prog 177 #[.agg #[kv,pv],tv,.pointer (some ⟨tb,0,none⟩)] w fun e w'=>e=.returned (.int .i64 (Nm.cmpLs ks ts))∧Below w.heap.size w w':=by
 have hB:=(Below.refl w.heap.size w).alloc (Nat.le_refl _) (.cells #[kv,pv] 178);have rb:=fun i=>blk_cell (blk_below kb hB) i
 have rg:=fun i=>blk_cell (blk_below kg hB) i
 have hc:=fun m=>compare_any kv tv ks ts _ (hk.below (Go.below_drewN hB m)) (ht.below (Go.below_drewN hB m)) hks hkl htl
 unfold cmpLv at rg;obtain⟨ka,kc,rfl,_⟩:=hk;obtain⟨ta,tc,rfl,_⟩:=ht;generalize Nm.cmpLs ks ts=C at*;go_enter Tryz.func177,Tryz.ntmps177;go_wp2;go_quiet ((go_at_call 109;exact Calls.quiet_of (hc _)))
 go_wp2;go_ret;exact⟨rfl,Go.below_drewN hB _⟩
theorem run_copy_rowK{P:Program}(w:World)(dT sT ty elem:TypeId)(g o dLen dCap:Nat)(a:Addr)(sLen sCap:Nat)(cur:Array Value)(t:TypeId)(cs:List Value)(sz:Nat)
 (hu:P.underlying dT=some (.slice elem)) (hs:(P.info? elem).map (·.size)=some sz)
 (hg:w.heap[g]? =some (.cells cur t (0,0))) (hn:cs.length=Nat.min sLen dLen*sz)
 (hsrc:∀ j v,cs[j]? =some v->w.cell? (a.add j)=some v) (hfit:o+cs.length<=cur.size) (h1:∀ v∈cs,v.oneCell'=true):
 (Builtin.copy_ #[dT,sT] ty #[.slice (some ⟨g,o,none⟩) dLen dCap,.slice (some a) sLen sCap]).run P w=
  .ok (goInt (Nat.min sLen dLen)) (w.setRow g (cur.toList.take o++cs++cur.toList.drop (o+cs.length)).toArray):=by
 have hl:=run_loadCells_list (P:=P) w a cs hsrc;have hst:=run_storeCells_at P g o t cs 0 cur w hg (by simpa using hfit) h1
 cases hq:P.info? elem with
 |none=>simp [hq] at hs
 |some i=>
  have hi:i.size=sz:=by simpa [hq] using hs
  simp [Builtin.copy_,run_underlying hu,Builtin.lenOf,Builtin.firstCells,sizeOf,typeInfo,hq,hi,<- hn,hl,hst]
theorem wpList_app_ranT{P:Program}{ops:Array Oper}{rest:List Oper}{o:Oper}{a:Act}{w:World}{Q:Exit->Act->World->Prop}(hgd:o.guard=none)(s x:Operand)(t t2:TypeId)
 (ho:o.op=.call {callee:=.builtin .append,args:=#[s,x],argTypes:=#[t,t2]}) (v u v':Value) (w':World) (hs:a.eval s=v) (hx:a.eval x=u)
 (hr:(Builtin.append_ #[t,t2] o.type #[v,u]).run P w=.ok v' w') (h:wpList P ops Q rest (a.put o.dst v') w'):wpList P ops Q (o::rest) a w:=
 wpList_plain hgd fun _ hK=>by
  unfold Oper.wp execOp;simp only [ho,resolve,invoke,builtin,Sem.run_bind,Sem.run_pure,Result.andThen_ok,List.map_toArray,List.map_cons,List.map_nil,hs,hx,hr];exact hK _ _ h
theorem setRow_blk{w:World}{g:Nat}{cur:Array Value}{t:TypeId}(hg:Blk w g cur t)(cs:Array Value):Blk (w.setRow g cs) g cs t:=by
 unfold Blk at*;have hlt:=(Array.getElem?_eq_some_iff.1 hg).1;have he:=(Array.getElem?_eq_some_iff.1 hg).2;simp [World.setRow,Array.getElem?_modify,hg]
theorem setRow_size(w:World)(g:Nat)(cs:Array Value):(w.setRow g cs).heap.size=w.heap.size:=by simp [World.setRow]
theorem setRow_grown(w:World)(g:Nat)(cs:Array Value):w.grownBy (w.setRow g cs) (some g):=
 ⟨rfl,rfl,rfl,by rw [setRow_size];exact Nat.le_refl _,fun k hk hne=>setRow_other w g k cs (fun e=>hne (by rw [e]))⟩
theorem own_of_blk{w:World}{B e s g n cap:Nat}{cur:Array Value}{xs:List Value}(hg:Blk w g cur e)(hB:B<=g)(hn:n<=cap)(hm:cap<=maxLen)(hs:cur.size=cap*s)(ht:cur.toList.take (n*s)=xs):w.ownsRow B e s (.slice (some ⟨g,0,none⟩) n cap) n xs:=by
 refine⟨?_,.inr ⟨g,cap,cur,rfl,hB,hg,hn,hm,hs,ht⟩⟩;rw [<- ht,List.length_take,Array.length_toList,hs,Nat.min_eq_left (Nat.mul_le_mul_right _ hn)]
theorem ins_room{cur xs:List Value}{i n cap:Nat}(x0 x1:Value)(hcl:cur.length=cap*2)(ht:cur.take (n*2)=xs)(hi:i<n)(hr:n+1<=cap):
 ∀ c1,c1=cur.take ((i+1)*2)++xs.drop (i*2)++cur.drop ((i+1)*2+(xs.drop (i*2)).length)->c1.length=cap*2∧∀ c2,c2=c1.take (i*2)++[x0,x1]++c1.drop (i*2+[x0,x1].length)->c2.length=cap*2∧c2.take ((n+1)*2)=xs.take (i*2)++[x0,x1]++xs.drop (i*2):=by
 intro c1 h1;have hxl:xs.length=n*2:=by rw [<- ht,List.length_take];omega
 have hdl:(xs.drop (i*2)).length=(n-i)*2:=by rw [List.length_drop,hxl];omega
 have htl:(cur.take ((i+1)*2)).length=(i+1)*2:=by rw [List.length_take];omega
 have hl1:c1.length=cap*2:=by rw [h1];simp only [List.length_append,htl,hdl,List.length_drop];omega
 refine⟨hl1,fun c2 h2=>?_⟩
 have e1:c1.take (i*2)=xs.take (i*2):=by
  rw [h1,List.append_assoc,List.take_append,htl,List.take_take,show i*2-(i+1)*2=0 by omega,List.take_zero,List.append_nil,<- ht,List.take_take];congr 1;omega
 have e2:c1.drop (i*2+[x0,x1].length)=xs.drop (i*2)++cur.drop ((i+1)*2+(xs.drop (i*2)).length):=by
  rw [show i*2+[x0,x1].length=(i+1)*2 by simp;omega,h1,List.append_assoc,List.drop_append,htl,Nat.sub_self,List.drop_zero,List.drop_of_length_le (Nat.le_of_eq htl),List.nil_append]
 have hxt:(xs.take (i*2)).length=i*2:=by rw [List.length_take,hxl];omega
 rw [e1,e2] at h2;have hl3:(xs.take (i*2)++[x0,x1]++xs.drop (i*2)).length=(n+1)*2:=by simp only [List.length_append,hxt,hdl,List.length_cons,List.length_nil];omega
 have e3:c2=(xs.take (i*2)++[x0,x1]++xs.drop (i*2))++cur.drop ((i+1)*2+(xs.drop (i*2)).length):=by rw [h2];simp only [List.append_assoc]
 refine⟨?_,?_⟩
 ·rw [e3,List.length_append,hl3,List.length_drop,hcl,hdl];omega
 ·rw [e3,<- hl3,List.take_left]
theorem ins_grow{xs z:List Value}{i n cap:Nat}(x0 x1:Value)(hxl:xs.length=n*2)(hi:i<n)(hr:n+1<=cap)(hz:(xs.take (i*2)++z).length=cap*2):
 ∀ c1,c1=(xs.take (i*2)++z).take (i*2)++[x0,x1]++(xs.take (i*2)++z).drop (i*2+[x0,x1].length)->c1.length=cap*2∧∀ c2,c2=c1.take ((i+1)*2)++xs.drop (i*2)++c1.drop ((i+1)*2+(xs.drop (i*2)).length)->c2.length=cap*2∧c2.take ((n+1)*2)=xs.take (i*2)++[x0,x1]++xs.drop (i*2):=by
 intro c1 h1;have hxt:(xs.take (i*2)).length=i*2:=by rw [List.length_take,hxl];omega
 have hdl:(xs.drop (i*2)).length=(n-i)*2:=by rw [List.length_drop,hxl];omega
 have e1:(xs.take (i*2)++z).take (i*2)=xs.take (i*2):=by
  have:=List.take_left (l₁:=xs.take (i*2)) (l₂:=z);rw [hxt] at this;exact this
 rw [e1] at h1
 have hl1:c1.length=cap*2:=by
  rw [h1];simp only [List.length_append,hxt,List.length_drop,List.length_cons,List.length_nil] at hz ⊢;omega
 refine⟨hl1,fun c2 h2=>?_⟩;have hl2:(xs.take (i*2)++[x0,x1]).length=(i+1)*2:=by simp only [List.length_append,hxt,List.length_cons,List.length_nil];omega
 have e2:c1.take ((i+1)*2)=xs.take (i*2)++[x0,x1]:=by rw [h1,<- hl2,List.take_left]
 rw [e2] at h2;have hl3:(xs.take (i*2)++[x0,x1]++xs.drop (i*2)).length=(n+1)*2:=by rw [List.length_append,hl2,hdl];omega
 refine⟨?_,?_⟩
 ·rw [h2,List.length_append,hl3,List.length_drop,hl1,hdl];omega
 ·rw [h2,<- hl3,List.take_left]
end Go.Proofs.YtcihkbojmbfmmaaGreatDoor
