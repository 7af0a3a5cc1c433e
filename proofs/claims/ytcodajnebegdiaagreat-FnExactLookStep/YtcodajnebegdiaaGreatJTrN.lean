import Derived.Test.YtcodajnebegdiaaGreatJMath
import Derived.Deep.RegionHeld3
import Derived.Test.YtcodajnebegdiaaGreatRows
import Derived.WalkSpells
import Derived.WalkLawsBesides
import Derived.Lib.Bytealg
import Derived.Laws.Externs
import Derived.Deep.QuietTactic
import Derived.BigQuiet
namespace Go.Proofs.YtcodajnebegdiaaGreat
open Go.RowKit
set_option linter.unusedVariables false
theorem newTableL_any(fn:Fn)(w:World):Calls Tryz.prog 170 #[.func fn #[] #[]] w fun e w'=>e=.returned (ptr w.heap.size)∧w'=w.alloc (.cells #[.func fn #[] #[],.slice none 0 0] 161):=by
 go_enter Tryz.func170,Tryz.ntmps170;go_wp2;go_ret;exact⟨rfl,rfl⟩
theorem newTableI_any(fn:Fn)(w:World):Calls Tryz.prog 199 #[.func fn #[] #[]] w fun e w'=>e=.returned (ptr w.heap.size)∧w'=w.alloc (.cells #[.func fn #[] #[],.slice none 0 0] 193):=by
 go_enter Tryz.func199,Tryz.ntmps199;go_wp2;go_ret;exact⟨rfl,rfl⟩
theorem newTableS_any(fn:Fn)(w:World):Calls Tryz.prog 203 #[.func fn #[] #[]] w fun e w'=>e=.returned (ptr w.heap.size)∧w'=w.alloc (.cells #[.func fn #[] #[],.slice none 0 0] 253):=by
 go_enter Tryz.func203,Tryz.ntmps203;go_wp2;go_ret;exact⟨rfl,rfl⟩
def NewO(own:ByteArray)(lv:Value)(ux:Addr)(W w':World):Prop:=∃ hd ob,ux=⟨ob,0,none⟩∧W.heap.size<=hd∧W.heap.size<=ob∧hd≠ob∧Blk w' hd #[cmpIv,.slice none 0 0] 193∧Blk w' ob #[.string own,lv,ptr hd] 151
def NewS(tt:Int)(at_:Nat)(ux:Addr)(W w':World):Prop:=∃ hd sb,ux=⟨sb,0,none⟩∧W.heap.size<=hd∧W.heap.size<=sb∧hd≠sb∧Blk w' hd #[cmpSv,.slice none 0 0] 253∧Blk w' sb #[.int .i64 tt,.int .i64 (at_:Int),ptr hd] 198
theorem grown_of_below{w w':World}(h:Below w.heap.size w w'):w.grownBy w' none:=⟨h.os,h.tape,h.output,h.size,fun k hk _=>h.block k hk⟩
set_option maxRecDepth 100000 in
set_option maxHeartbeats 1600000 in
theorem lay1_any(rb lb:Nat)(own:ByteArray)(r1 r2 r3 r4:Value)(la:Option Addr)(ln lc:Nat)(w:World)(kr:Blk w rb #[.string own,r1,r2,r3,r4] 109)(kl:Blk w lb #[.slice la ln lc] 53)(hs:own.size<=1000000000):
 Calls Tryz.prog 198 #[ptr rb,ptr lb] w fun e w'=>∃ ux:Addr,e=.returned (.pointer (some ux))∧w.grownBy w' none∧NewO own (.slice la ln lc) ux w w':=by
 have hnt:=newTableI_any (.func 200) w;have hB1:=(Below.refl w.heap.size w).alloc (Nat.le_refl _) (.cells #[.func (.func 200) #[] #[],.slice none 0 0] 193);have kh:=blk_new w #[.func (.func 200) #[] #[],.slice none 0 0] 193;have hcl:=fun W=>clone_any own W hs
 unfold ptr;go_enter Tryz.func198,Tryz.ntmps198;go_wp2_with fail
 refine hnt.mono ?_;rintro e w1 ⟨rfl,hw1⟩;rw [<- hw1] at hB1 kh;unfold ptr;have hS:∀ W,Below w1.heap.size w1 W->W.cell? ⟨rb,0,none⟩=some (.string own)∧W.cell? ⟨lb,0,none⟩=some (.slice la ln lc):=fun W hW=>⟨blk_cell (blk_below (blk_below kr hB1) hW) 0,blk_cell (blk_below (blk_below kl hB1) hW) 0⟩
 have hsz1:w1.heap.size=w.heap.size+1:=by rw [hw1];simp
 clear hnt hw1;go_wp2;refine wp_region_last (fun W=>W.cell? ⟨rb,0,none⟩=some (.string own)∧W.cell? ⟨lb,0,none⟩=some (.slice la ln lc)) 1000 (by kernel_rfl) (hS _ (Below.refl _ _).drew) (fun hHeld=>?_);refine tkL (i:=0) (v:=?_) rfl ?_ ?_;rotate_left 1
 ·(intro W hSW;obtain⟨z0,z1⟩:=hSW;go_simp;try (with_reducible rfl))
 refine tkL (i:=1) (v:=?_) rfl ?_ ?_;rotate_left 1
 ·(intro W hSW;obtain⟨z0,z1⟩:=hSW;go_simp;try (with_reducible rfl))
 refine tkL (i:=3) (v:=?_) rfl ?_ ?_;rotate_left 1
 ·(intro W hSW;obtain⟨z0,z1⟩:=hSW;go_simp;try (with_reducible rfl))
 refine tkL (i:=4) (v:=?_) rfl ?_ ?_;rotate_left 1
 ·(intro W hSW;obtain⟨z0,z1⟩:=hSW;go_simp;try (with_reducible rfl))
 refine wpAnyL_one (i:=2) (by kernel_rfl) rfl (fun K hK=>?_);go_simp;refine(hcl _).mono ?_;rintro e w2 ⟨rfl,b2⟩;go_wp2_with fail
 have b12:Below w1.heap.size w1 w2:=Nm.below_two (Below.refl _ _).drew b2;refine hK.out _ _ (hS _ b12) (fun _=>?_);clear hK K hcl;refine tkL (i:=5) (v:=?_) rfl ?_ ?_;rotate_left 1
 ·(intro W hSW;obtain⟨z0,z1⟩:=hSW;go_simp;try (with_reducible rfl))
 refine wpAnyL_one (i:=6) (by kernel_rfl) rfl (fun K hK=>?_);go_simp;refine hK.out _ _ (hS _ (b12.alloc b12.size _)) (fun _=>?_);clear hK K;refine tkL (i:=7) (v:=?_) rfl ?_ ?_;rotate_left 1
 ·(intro W hSW;obtain⟨z0,z1⟩:=hSW;go_simp;try (with_reducible rfl))
 refine wpAnyL_done (by kernel_rfl) ?_;have kh2:=blk_alloc (blk_below kh b12) (.cells #[.string own,.slice la ln lc,.pointer (some ⟨w.heap.size,0,none⟩)] 151);have ko:=blk_new w2 #[.string own,.slice la ln lc,.pointer (some ⟨w.heap.size,0,none⟩)] 151;have bF:=(Nm.below_two hB1 b12).alloc (Nm.below_two hB1 b12).size (.cells #[.string own,.slice la ln lc,.pointer (some ⟨w.heap.size,0,none⟩)] 151);have hsz2:=b12.size;have HX:=Nm.hide (And.intro kh2 (And.intro ko bF));clear kh2 ko bF b12 b2 hS kh hB1 kr kl;go_wp2;go_ret;exact⟨⟨w2.heap.size,0,none⟩,rfl,grown_of_below HX.out.2.2,w.heap.size,w2.heap.size,rfl,Nat.le_refl _,by omega,by omega,HX.out.1,HX.out.2.1⟩
set_option maxRecDepth 100000 in
set_option maxHeartbeats 1600000 in
theorem lay2_any(rb ab at_:Nat)(tt:Int)(r0 r1 r2 r4:Value)(w:World)(kr:Blk w rb #[r0,r1,r2,.int .i64 tt,r4] 109)(ka:Blk w ab #[.int .i64 (at_:Int)] 3):
 Calls Tryz.prog 202 #[ptr rb,ptr ab] w fun e w'=>∃ ux:Addr,e=.returned (.pointer (some ux))∧w.grownBy w' none∧NewS tt at_ ux w w':=by
 have hnt:=fun W=>newTableS_any (.func 204) W
 have hS:∀ W,Below w.heap.size w W->W.cell? ⟨rb,3,none⟩=some (.int .i64 tt)∧W.cell? ⟨ab,0,none⟩=some (.int .i64 (at_:Int)):=fun W hW=>⟨blk_cell (blk_below kr hW) 3,blk_cell (blk_below ka hW) 0⟩
 unfold ptr;go_enter Tryz.func202,Tryz.ntmps202;go_wp2;refine wp_region_last (fun W=>W.cell? ⟨rb,3,none⟩=some (.int .i64 tt)∧W.cell? ⟨ab,0,none⟩=some (.int .i64 (at_:Int))) 1000 (by kernel_rfl) (hS _ (Below.refl _ _).drew) (fun hHeld=>?_);refine tkL (i:=0) (v:=?_) rfl ?_ ?_;rotate_left 1
 ·(intro W hSW;obtain⟨z0,z1⟩:=hSW;go_simp;try (with_reducible rfl))
 refine tkL (i:=1) (v:=?_) rfl ?_ ?_;rotate_left 1
 ·(intro W hSW;obtain⟨z0,z1⟩:=hSW;go_simp;try (with_reducible rfl))
 refine tkL (i:=2) (v:=?_) rfl ?_ ?_;rotate_left 1
 ·(intro W hSW;obtain⟨z0,z1⟩:=hSW;go_simp;try (with_reducible rfl))
 refine wpAnyL_one (i:=3) (by kernel_rfl) rfl (fun K hK=>?_);go_simp;refine(hnt _).mono ?_;rintro e w1 ⟨rfl,hw1⟩;have hB1:Below w.heap.size w w1:=by rw [hw1];exact(Below.refl w.heap.size w).drew.alloc (Nat.le_refl _) _
 have kh:Blk w1 w.heap.size #[.func (.func 204) #[] #[],.slice none 0 0] 253:=by rw [hw1];exact blk_new w.drew _ _
 have HZ1:Hid (w1.heap.size=w.heap.size+1):=by show _=_;rw [hw1];simp
 clear hw1;unfold ptr;go_wp2_with fail
 refine hK.out _ _ (hS _ hB1) (fun _=>?_);clear hK K hnt;refine tkL (i:=4) (v:=?_) rfl ?_ ?_;rotate_left 1
 ·(intro W hSW;obtain⟨z0,z1⟩:=hSW;go_simp;try (with_reducible rfl))
 refine wpAnyL_one (i:=5) (by kernel_rfl) rfl (fun K hK=>?_);go_simp;refine hK.out _ _ (hS _ (hB1.alloc hB1.size _)) (fun _=>?_);clear hK K;refine tkL (i:=6) (v:=?_) rfl ?_ ?_;rotate_left 1
 ·(intro W hSW;obtain⟨z0,z1⟩:=hSW;go_simp;try (with_reducible rfl))
 refine wpAnyL_done (by kernel_rfl) ?_;have kh2:=blk_alloc kh (.cells #[.int .i64 tt,.int .i64 (at_:Int),.pointer (some ⟨w.heap.size,0,none⟩)] 198);have ko:=blk_new w1 #[.int .i64 tt,.int .i64 (at_:Int),.pointer (some ⟨w.heap.size,0,none⟩)] 198;have bF:=hB1.alloc hB1.size (.cells #[.int .i64 tt,.int .i64 (at_:Int),.pointer (some ⟨w.heap.size,0,none⟩)] 198);have HX:=Nm.hide (And.intro kh2 (And.intro ko bF));clear kh2 ko bF hS kh hB1 kr ka;go_wp2;go_ret;exact⟨⟨w1.heap.size,0,none⟩,rfl,grown_of_below HX.out.2.2,w.heap.size,w1.heap.size,rfl,Nat.le_refl _,by have:=HZ1.out;omega,by have:=HZ1.out;omega,HX.out.1,HX.out.2.1⟩
set_option maxRecDepth 100000 in
set_option maxHeartbeats 1600000 in
theorem lay3_any(nb rb:Nat)(b0:Bool)(da:ByteArray)(r0 r1 r2 r3:Value)(w:World)(kn:Blk w nb #[.bool b0] 4)(kr:Blk w rb #[r0,r1,r2,r3,.string da] 109)(hs:da.size<=1000000000):
 Calls Tryz.prog 207 #[ptr nb,ptr rb] w fun e w'=>∃ ux:ByteArray,e=.returned (.string ux)∧w.grownBy w' (some nb)∧ux=da∧Blk w' nb #[.bool true] 4:=by
 have hcl:=fun W=>clone_any da W hs
 have hne:nb≠rb:=by
  intro e;subst e;rw [Blk,kn] at kr;simp only [Option.some.injEq,Obj.cells.injEq] at kr;exact absurd kr.2.1 (by decide)
 have rn:=fun i=>blk_cell kn i
 have fn:=fun i=>blk_frozen kn i
 have kn2:=blk_set kn 0 (.bool true);have kr2:=blk_far (v:=.bool true) (i:=0) kr (Ne.symm hne);have c2:=fun i=>blk_cell kr2 i
 have hg:w.grownBy (w.setCell ⟨nb,0,none⟩ (.bool true)) (some nb):=⟨rfl,rfl,rfl,by simp,fun k _ hk=>heap_setCell_other w ⟨nb,0,none⟩ k _ (fun e=>hk (by rw [e]))⟩;unfold ptr;go_enter Tryz.func207,Tryz.ntmps207;go_wp2_with fail
 refine(hcl _).mono ?_;rintro e w1 ⟨rfl,b1⟩;have kn3:=blk_below kn2 b1;have HX:=Nm.hide (And.intro (hgr_below hg b1) kn3);clear hg kn3 kn2 kr2 c2 b1;go_wp2;go_ret;exact⟨da,rfl,HX.out.1,rfl,HX.out.2⟩
end Go.Proofs.YtcodajnebegdiaaGreat
namespace Go.Proofs.YtcodajnebegdiaaGreat
open Go.RowKit
theorem ord_cmp:∀ (a b:List UInt8),Go.Lib.compareBytes a b=Nm.ordL a b:=by
 intro a
 induction a with
 |nil=>
  intro b
  cases b with
  |nil=>rfl
  |cons y b=>rfl
 |cons x a ih=>
  intro b
  cases b with
  |nil=>rfl
  |cons y b=>
   rw [Go.Lib.compareBytes]
   by_cases h:x=y
   ·subst h;rw [if_neg (by simp),if_neg (by simp),Nm.ordL_same,ih]
   ·rw [Nm.ordL_ne a b h];have hn:x.toNat≠y.toNat:=fun e=>h (UInt8.toNat_inj.1 e)
    by_cases hl:x<y
    ·have hl':(x.toNat:Int)<(y.toNat:Int):=by have:=UInt8.lt_iff_toNat_lt.1 hl;omega
     rw [if_pos hl,Nm.cmpI_lt hl']
    ·have hl':(y.toNat:Int)<(x.toNat:Int):=by
      have:¬x.toNat<y.toNat:=fun e=>hl (UInt8.lt_iff_toNat_lt.2 e)
      omega
     have hl2:y<x:=UInt8.lt_iff_toNat_lt.2 (by omega);rw [if_neg hl,if_pos hl2,Nm.cmpI_gt hl']
theorem cmpstring_run(a b:ByteArray)(w:World):(callFunc 226 #[.string a,.string b]).run Tryz.prog w=.ok (.value (.int .i64 (Nm.ordL a.data.toList b.data.toList))) w:=by
 have h:=run_callFunc_extern (P:=Tryz.prog) (f:=226) (fn:=Tryz.f226) (e:=Extern.BytealgCompare.compare) Tryz.func226 (by kernel_rfl) (by kernel_rfl) (by kernel_rfl) (by kernel_rfl) #[.string a,.string b] w;rw [h,Go.Lib.run_compareString,ord_cmp];rfl
set_option maxRecDepth 100000 in
set_option maxHeartbeats 400000 in
theorem compare_any'(a b:ByteArray)(w:World):
 Calls Tryz.prog 204 #[.string a,.string b] w fun e w'=>e=.returned (.int .i64 (Nm.ordL a.data.toList b.data.toList))∧w'=w:=by
 have hx:=cmpstring_run a b;generalize Nm.ordL a.data.toList b.data.toList=r at*;go_enter Tryz.func204,Tryz.ntmps204;go_wp2_with (go_at_call 218;go_in)
 go_ret;exact⟨rfl,rfl⟩
end Go.Proofs.YtcodajnebegdiaaGreat
namespace Go.Proofs.YtcodajnebegdiaaGreat
open Go.RowKit
set_option maxRecDepth 100000 in
set_option maxHeartbeats 400000 in
theorem foldByte_any(c:UInt8)(w:World):
 Calls Tryz.prog 186 #[.int .u8 c.toNat] w fun e w'=>e=.returned (.int .u8 (Nm.low c).toNat)∧w'=w:=by
 have hcl:(c.toNat:Int)<256:=by have:=c.toNat_lt;omega
 by_cases hup:65<=c.toNat∧c.toNat<=90
 ·have HL:=Nm.hide (Nm.low_up hup);have d1:decide ((65:Int)<=(c.toNat:Int))=true:=by simp;omega
  have d2:decide ((c.toNat:Int)<=90)=true:=by simp;omega
  have hb1:(c.toNat:Int)<=90:=by omega
  clear hup;go_enter Tryz.func186,Tryz.ntmps186;go_wp2;go_ret;rw [HL.out];exact⟨rfl,rfl⟩
 ·have HL:=Nm.hide (Nm.low_id hup)
  by_cases hlo:65<=c.toNat
  ·have d1:decide ((65:Int)<=(c.toNat:Int))=true:=by simp;omega
   have d2:decide ((c.toNat:Int)<=90)=false:=by simp;omega
   clear hup;go_enter Tryz.func186,Tryz.ntmps186;go_wp2;go_ret;rw [HL.out];exact⟨rfl,rfl⟩
  ·have d1:decide ((65:Int)<=(c.toNat:Int))=false:=by simp;omega
   clear hup;go_enter Tryz.func186,Tryz.ntmps186;go_wp2;go_ret;rw [HL.out];exact⟨rfl,rfl⟩
end Go.Proofs.YtcodajnebegdiaaGreat
namespace Go.Proofs.YtcodajnebegdiaaGreat
open Go.RowKit
set_option maxRecDepth 100000 in
set_option maxHeartbeats 400000 in
theorem cmpByte_any(a b:UInt8)(w:World):
 Calls Tryz.prog 185 #[.int .u8 a.toNat,.int .u8 b.toNat] w fun e w'=>e=.returned (.int .i64 (Nm.cmpI a.toNat b.toNat))∧w'=w:=by
 have ha:((a.toNat:Int) != (a.toNat:Int))=false:=by simp
 have hb:((b.toNat:Int) != (b.toNat:Int))=false:=by simp
 by_cases h1:(a.toNat:Int)<(b.toNat:Int)
 ·have HC:=Nm.hide (Nm.cmpI_lt h1);have d1:decide ((a.toNat:Int)<(b.toNat:Int))=true:=by simpa using h1
  go_enter Tryz.func185,Tryz.ntmps185;go_wp2;go_ret;rw [HC.out];exact⟨rfl,rfl⟩
 ·have d1:decide ((a.toNat:Int)<(b.toNat:Int))=false:=by simpa using h1
  by_cases h2:(b.toNat:Int)<(a.toNat:Int)
  ·have HC:=Nm.hide (Nm.cmpI_gt h2);have d2:decide ((b.toNat:Int)<(a.toNat:Int))=true:=by simpa using h2
   go_enter Tryz.func185,Tryz.ntmps185;go_wp2;go_ret;rw [HC.out];exact⟨rfl,rfl⟩
  ·have HC:=Nm.hide (Nm.cmpI_eq (show(a.toNat:Int)=(b.toNat:Int) by omega));have d2:decide ((b.toNat:Int)<(a.toNat:Int))=false:=by simpa using h2
   go_enter Tryz.func185,Tryz.ntmps185;go_wp2;go_ret;rw [HC.out];exact⟨rfl,rfl⟩
set_option maxRecDepth 100000 in
set_option maxHeartbeats 400000 in
theorem cmpInt_any(a b:Int)(w:World):
 Calls Tryz.prog 147 #[.int .i64 a,.int .i64 b] w fun e w'=>e=.returned (.int .i64 (Nm.cmpI a b))∧w'=w:=by
 have ha:(a != a)=false:=by simp
 have hb:(b != b)=false:=by simp
 by_cases h1:a<b
 ·have HC:=Nm.hide (Nm.cmpI_lt h1);go_enter Tryz.func147,Tryz.ntmps147;go_wp2;go_ret;rw [HC.out];exact⟨rfl,rfl⟩
 ·by_cases h2:b<a
  ·have HC:=Nm.hide (Nm.cmpI_gt h2);go_enter Tryz.func147,Tryz.ntmps147;go_wp2;go_ret;rw [HC.out];exact⟨rfl,rfl⟩
  ·have HC:=Nm.hide (Nm.cmpI_eq (show a=b by omega));go_enter Tryz.func147,Tryz.ntmps147;go_wp2;go_ret;rw [HC.out];exact⟨rfl,rfl⟩
set_option maxRecDepth 100000 in
set_option maxHeartbeats 800000 in
theorem compareFolded_any(a b:ByteArray)(w:World)(ha:a.size<=1000000000):
 Calls Tryz.prog 146 #[.string a,.string b] w fun e w'=>e=.returned (.int .i64 (Nm.ordS a b))∧∃ m,w'=w.drewN m:=by
 go_enter Tryz.func146,Tryz.ntmps146;go_wp2
 go_loopw [5] (fun i wr=>∃ k:Nat,k<=a.size∧k<=b.size∧i=.int .i64 k∧Hid ((Nm.smallL a.data.toList).take k=(Nm.smallL b.data.toList).take k)∧∃ m,Hid (wr=w.drewN m))
  (fun i _=>a.size-(intOf i).toNat)
 case atStart=>exact⟨0,Nat.zero_le _,Nat.zero_le _,rfl,by show _=_;simp,0,rfl⟩
 case round=>
  obtain⟨k,hka,hkb,rfl,HT,m,HW⟩:=hrel
  by_cases h1:k<a.size∧k<b.size
  ·obtain⟨h1,h2⟩:=h1;have d1:decide ((k:Int)<(a.size:Int))=true:=by simp;omega
   have d2:decide ((k:Int)<(b.size:Int))=true:=by simp;omega
   have i1:(k:Int)<(a.size:Int):=by omega
   have i2:(k:Int)<(b.size:Int):=by omega
   by_cases he:Nm.low a[k]=Nm.low b[k]
   ·have HN:Hid ((Nm.smallL a.data.toList).take (k+1)=(Nm.smallL b.data.toList).take (k+1)):=Nm.take_snoc_eq HT.out (Nm.small_get h1) (Nm.small_get h2) he;have hc:(Nm.cmpI (Nm.low a[k]).toNat (Nm.low b[k]).toNat != 0)=false:=by rw [Nm.cmpI_eq (by rw [he])];rfl
    clear he;go_wp2;go_quiet (first|(go_at_call 186;exact Calls.quiet_of_same (foldByte_any _ _))|(go_at_call 185;exact Calls.quiet_of_same (cmpByte_any _ _ _)))
    go_wp2;go_roundw
    case rel=>exact⟨k+1,by omega,by omega,by go_num,HN,_,by show _=_;rw [HW.out,World.drewN_drewN]⟩
    case measure=>simp [intOf];omega
   ·have HO:Hid (Nm.ordS a b=Nm.cmpI (Nm.low a[k]).toNat (Nm.low b[k]).toNat):=Nm.ord_at k _ _ _ _ HT.out (Nm.small_get h1) (Nm.small_get h2) he
    have hc:(Nm.cmpI (Nm.low a[k]).toNat (Nm.low b[k]).toNat != 0)=true:=by
     rw [bne_iff_ne];exact Nm.cmpI_ne (fun e=>he (UInt8.toNat_inj.1 (by omega)))
    clear he;go_wp2;go_quiet (first|(go_at_call 186;exact Calls.quiet_of_same (foldByte_any _ _))|(go_at_call 185;exact Calls.quiet_of_same (cmpByte_any _ _ _)))
    go_wp2;go_ret;rw [HO.out];exact⟨rfl,_,by rw [HW.out,World.drewN_drewN]⟩
  ·have HO:Hid (Nm.ordS a b=Nm.cmpI a.size b.size):=by
    show _=_
    have:=Nm.ord_end k _ _ HT.out (by rw [Nm.smallL_length];omega) (by rw [Nm.smallL_length];omega) (by rw [Nm.smallL_length,Nm.smallL_length];omega);rw [Nm.smallL_length,Nm.smallL_length] at this;exact this
   by_cases h2:k<a.size
   ·have g2:b.size<=k:=by omega
    have d2:decide (k<b.size)=false:=by simp;omega
    clear h1;go_wp2_with fail
    refine(cmpInt_any _ _ _).mono ?_;rintro e w3 ⟨rfl,rfl⟩;go_wp2;go_ret;rw [HO.out];exact⟨rfl,_,HW.out⟩
   ·have g2:a.size<=k:=by omega
    have d2:decide (k<a.size)=false:=by simp;omega
    clear h1;go_wp2_with fail
    refine(cmpInt_any _ _ _).mono ?_;rintro e w3 ⟨rfl,rfl⟩;go_wp2;go_ret;rw [HO.out];exact⟨rfl,_,HW.out⟩
end Go.Proofs.YtcodajnebegdiaaGreat
namespace Go.Proofs.YtcodajnebegdiaaGreat
open Go.RowKit
theorem cell_drewN(w:World)(m:Nat)(a:Addr):(w.drewN m).cell? a=w.cell? a:=by simp
set_option maxRecDepth 100000 in
set_option maxHeartbeats 800000 in
theorem compare_any(v u:Value)(xs ys:List ByteArray)(w:World)(h:Nm.SRow w v xs)(h':Nm.SRow w u ys)(hxs:∀ x∈xs,x.size<=1000000000)(hlx:xs.length<=1000000000)(hly:ys.length<=1000000000):
 Calls Tryz.prog 100 #[v,u] w fun e w'=>e=.returned (.int .i64 (Nm.cmpLs xs ys))∧∃ m,w'=w.drewN m:=by
 obtain⟨a,cap,rfl,hcap,hmx,hnl,hc⟩:=h;obtain⟨a',cap',rfl,hcap',hmx',hnl',hc'⟩:=h';clear hnl hnl';go_enter Tryz.func100,Tryz.ntmps100;go_wp2
 go_loopw [5] (fun i wr=>∃ k:Nat,k<=xs.length∧k<=ys.length∧i=.int .i64 ((k:Int)+1)∧Hid (Nm.cmpLs xs ys=Nm.cmpRev (xs.reverse.drop k) (ys.reverse.drop k))∧∃ m,Hid (wr=w.drewN m))
  (fun i _=>xs.length+1-(intOf i).toNat)
 case atStart=>exact⟨0,Nat.zero_le _,Nat.zero_le _,rfl,by show _=_;simp [Nm.cmpLs],0,rfl⟩
 case round=>
  obtain⟨k,hka,hkb,rfl,HT,m,HW⟩:=hrel
  by_cases h1:k<xs.length∧k<ys.length
  ·obtain⟨h1,h2⟩:=h1;have i1:(k:Int)+1<=(xs.length:Int):=by omega
   have i2:(k:Int)+1<=(ys.length:Int):=by omega
   obtain⟨x,hx⟩:∃ x,xs[xs.length-(k+1)]? =some x:=⟨_,List.getElem?_eq_getElem (by omega)⟩;obtain⟨y,hy⟩:∃ y,ys[ys.length-(k+1)]? =some y:=⟨_,List.getElem?_eq_getElem (by omega)⟩;obtain⟨b,off,rfl,hcell⟩:=hc (by intro h;rw [h] at h1;simp at h1);obtain⟨b',off',rfl,hcell'⟩:=hc' (by intro h;rw [h] at h2;simp at h2);have hcx:wr.cell? ⟨b,off+(xs.length-(k+1)),none⟩=some (.string x):=by rw [HW.out,cell_drewN];exact hcell _ _ hx
   have hcy:wr.cell? ⟨b',off'+(ys.length-(k+1)),none⟩=some (.string y):=by rw [HW.out,cell_drewN];exact hcell' _ _ hy
   have hxz:=hxs x (List.mem_of_getElem? hx);have q1:(0:Int)<=(xs.length:Int)-((k:Int)+1):=by omega
   have q2:(xs.length:Int)-((k:Int)+1)<(xs.length:Int):=by omega
   have q3:((xs.length:Int)-((k:Int)+1)).toNat=xs.length-(k+1):=by omega
   have q4:(0:Int)<=(ys.length:Int)-((k:Int)+1):=by omega
   have q5:(ys.length:Int)-((k:Int)+1)<(ys.length:Int):=by omega
   have q6:((ys.length:Int)-((k:Int)+1)).toNat=ys.length-(k+1):=by omega
   have hrx:=Nm.rev_get h1 hx;have hry:=Nm.rev_get h2 hy
   by_cases he:Nm.ordS x y=0
   ·have HN:Hid (Nm.cmpLs xs ys=Nm.cmpRev (xs.reverse.drop (k+1)) (ys.reverse.drop (k+1))):=HT.out.trans (Nm.cmp_go hrx hry he);have hcf:=fun W=>compareFolded_any x y W hxz
    rw [he] at hcf;have hz:((0:Int) != 0)=false:=rfl;clear he hx hy hrx hry hcell hcell' hc hc' hxs;go_wp2;go_quiet ((go_at_call 146;exact Calls.quiet_of (hcf _)))
    go_wp2;go_roundw
    case rel=>exact⟨k+1,by omega,by omega,by go_num,HN,_,by show _=_;rw [HW.out,World.drewN_drewN]⟩
    case measure=>simp [intOf];omega
   ·have HO:Hid (Nm.cmpLs xs ys=Nm.ordS x y):=HT.out.trans (Nm.cmp_stop hrx hry he);have hcf:=fun W=>compareFolded_any x y W hxz
    have hz:(Nm.ordS x y != 0)=true:=by rw [bne_iff_ne];exact he
    generalize Nm.ordS x y=o at*;clear he hx hy hrx hry hcell hcell' hc hc' hxs;go_wp2;go_quiet ((go_at_call 146;exact Calls.quiet_of (hcf _)))
    go_wp2;go_ret;rw [HO.out];exact⟨rfl,_,by rw [HW.out,World.drewN_drewN]⟩
  ·have HO:Hid (Nm.cmpLs xs ys=Nm.cmpI xs.length ys.length):=by
    show _=_
    rw [HT.out,Nm.cmp_end (by simpa using hka) (by simpa using hkb) (by simp;omega)];simp
   clear hc hc' hxs
   by_cases h2:k<xs.length
   ·have g1:(k:Int)+1<=(xs.length:Int):=by omega
    have g2:(ys.length:Int)<(k:Int)+1:=by omega
    clear h1;go_wp2_with fail
    refine(cmpInt_any _ _ _).mono ?_;rintro e w3 ⟨rfl,rfl⟩;go_wp2;go_ret;rw [HO.out];exact⟨rfl,_,HW.out⟩
   ·have g1:(xs.length:Int)<(k:Int)+1:=by omega
    clear h1;go_wp2_with fail
    refine(cmpInt_any _ _ _).mono ?_;rintro e w3 ⟨rfl,rfl⟩;go_wp2;go_ret;rw [HO.out];exact⟨rfl,_,HW.out⟩
end Go.Proofs.YtcodajnebegdiaaGreat
