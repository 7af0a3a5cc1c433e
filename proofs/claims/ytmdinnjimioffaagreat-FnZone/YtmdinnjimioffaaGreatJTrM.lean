import Derived.Test.YtmdinnjimioffaaGreatJCmpM
import Derived.Test.YtmdinnjimioffaaGreatJTrG
import Derived.Test.YtmdinnjimioffaaGreatJOrdL
import Derived.Deep.RegionHeld3
import Derived.Test.YtmdinnjimioffaaGreatJCmp2
import Derived.Test.YtmdinnjimioffaaGreatJSSplit
import Derived.Test.YtmdinnjimioffaaGreatJData2
import Derived.Test.YtmdinnjimioffaaGreatRows
import Derived.WalkSpells
import Derived.WalkLawsBesides
import Derived.RegionTactic
import Derived.Test.YtmdinnjimioffaaGreatJSameM
import Derived.Test.YtmdinnjimioffaaGreatOwnS
namespace Go.Proofs.YtmdinnjimioffaaGreat
open Go.RowKit
set_option linter.unusedVariables false
def cfOf{α:Type}(f:α->Int)(l:List α)(i:Nat):Int:=match l[i]? with
 |some x=>f x
 |none=>0
def posOf{α:Type}(f:α->Int)(l:List α):Nat:=(l.takeWhile fun x=>decide (f x<0)).length
theorem cfOf_at{α:Type}{f:α->Int}{l:List α}{i:Nat}{x:α}(h:l[i]? =some x):cfOf f l i=f x:=by rw [cfOf,h]
theorem posOf_fnd{α:Type}{f:α->Int}:∀ (l:List α),(∀ a b,a<=b->b<l.length->cfOf f l b<0->cfOf f l a<0)->Fnd l.length (cfOf f l) (posOf f l):=by
 intro l
 induction l with
 |nil=>intro _;exact⟨Nat.le_refl _,fun i hi=>by simp [posOf] at hi,fun i _ h2=>by simp at h2⟩
 |cons x l ih=>
  intro hm;have hsh:∀ i,cfOf f (x::l) (i+1)=cfOf f l i:=fun i=>by simp [cfOf]
  have hz:cfOf f (x::l) 0=f x:=rfl
  by_cases hx:f x<0
  ·have hp:posOf f (x::l)=posOf f l+1:=by simp [posOf,hx]
   obtain⟨h1,h2,h3⟩:=ih (fun a b hab hb hc=>by
    have:=hm (a+1) (b+1) (by omega) (by simp;omega) (by rw [hsh];exact hc);rw [hsh] at this
    exact this)
   rw [hp];refine⟨by simp;omega,fun i hi=>?_,fun i h4 h5=>?_⟩
   ·cases i with
    |zero=>exact hx
    |succ i=>rw [hsh];exact h2 i (by omega)
   ·cases i with
    |zero=>omega
    |succ i=>rw [hsh];exact h3 i (by omega) (by simp at h5;omega)
  ·have hp:posOf f (x::l)=0:=by simp [posOf,hx]
   rw [hp];refine⟨Nat.zero_le _,fun i hi=>by omega,fun i _ h5=>?_⟩
   rcases Int.lt_or_le (cfOf f (x::l) i) 0 with h|h
   ·have:=hm 0 i (Nat.zero_le _) h5 h;rw [hz] at this;exact absurd this hx
   ·exact h
def insAt{α:Type}(k:Nat)(x:α)(l:List α):List α:=l.take k++[x]++l.drop k
def isIn{α:Type}(f:α->Int)(l:List α):Bool:=decide (posOf f l<l.length)&&decide (cfOf f l (posOf f l)=0)
def putF{α:Type}(f:α->Int)(x:α)(l:List α):List α:=if isIn f l then l else insAt (posOf f l) x l
theorem isIn_some{α:Type}{f:α->Int}{l:List α}(h:isIn f l=true):∃ x,l[posOf f l]? =some x∧f x=0:=by
 simp only [isIn,Bool.and_eq_true,decide_eq_true_eq] at h;obtain⟨h1,h2⟩:=h;refine⟨_,List.getElem?_eq_getElem h1,?_⟩;rw [cfOf_at (List.getElem?_eq_getElem h1)] at h2;exact h2
theorem isIn_not{α:Type}{f:α->Int}{l:List α}(h:isIn f l=false):¬(posOf f l<l.length∧cfOf f l (posOf f l)=0):=by
 rintro⟨h1,h2⟩
 rw [isIn,decide_eq_true h1,decide_eq_true h2] at h;cases h
theorem mono_of_pair{α:Type}{f:α->Int}{R:α->α->Prop}{l:List α}(hp:l.Pairwise R)(hR:∀ a b,R a b->f b<0->f a<0):∀ a b,a<=b->b<l.length->cfOf f l b<0->cfOf f l a<0:=by
 intro a b hab hb hc
 rcases Nat.lt_or_eq_of_le hab with h|h
 ·have:=List.pairwise_iff_getElem.1 hp a b (by omega) hb h;rw [cfOf_at (List.getElem?_eq_getElem hb)] at hc;rw [cfOf_at (List.getElem?_eq_getElem (by omega:a<l.length))];exact hR _ _ this hc
 ·subst h;exact hc
theorem blk_ne{w:World}{a b:Nat}{c d:Array Value}{T T':TypeId}(h1:Blk w a c T)(h2:Blk w b d T')(hne:T≠T'):a≠b:=by
 intro e;subst e;rw [Blk,h1] at h2;simp only [Option.some.injEq,Obj.cells.injEq] at h2;exact hne h2.2.1
theorem own_nb{W:World}{B e s n b:Nat}{v:Value}{xs:List Value}{cs:Array Value}{T:TypeId}(h:W.ownsRow B e s v n xs)(hb:Blk W b cs T)(hne:e≠T):v.ownBlock≠some b:=by
 intro he
 rcases h.2 with⟨rfl,_⟩|⟨g,cap,cur,rfl,_,hh,_⟩
 ·cases he
 ·simp only [Value.ownBlock,Option.some.injEq] at he;subst he;rw [Blk,hh] at hb;simp only [Option.some.injEq,Obj.cells.injEq] at hb;exact hne hb.2.1
theorem newTableL_any(fn:Fn)(w:World):Calls Tryz.prog 83 #[.func fn #[] #[]] w fun e w'=>e=.returned (ptr w.heap.size)∧w'=w.alloc (.cells #[.func fn #[] #[],.slice none 0 0] 145):=by
 go_enter Tryz.func83,Tryz.ntmps83;go_wp2;go_ret;exact⟨rfl,rfl⟩
theorem newTableI_any(fn:Fn)(w:World):Calls Tryz.prog 116 #[.func fn #[] #[]] w fun e w'=>e=.returned (ptr w.heap.size)∧w'=w.alloc (.cells #[.func fn #[] #[],.slice none 0 0] 152):=by
 go_enter Tryz.func116,Tryz.ntmps116;go_wp2;go_ret;exact⟨rfl,rfl⟩
theorem newTableS_any(fn:Fn)(w:World):Calls Tryz.prog 120 #[.func fn #[] #[]] w fun e w'=>e=.returned (ptr w.heap.size)∧w'=w.alloc (.cells #[.func fn #[] #[],.slice none 0 0] 192):=by
 go_enter Tryz.func120,Tryz.ntmps120;go_wp2;go_ret;exact⟨rfl,rfl⟩
def NewO(own:ByteArray)(lv:Value)(ux:Addr)(W w':World):Prop:=∃ hd ob,ux=⟨ob,0,none⟩∧W.heap.size<=hd∧W.heap.size<=ob∧hd≠ob∧Blk w' hd #[cmpIv,.slice none 0 0] 152∧Blk w' ob #[.string own,lv,ptr hd] 108
def NewS(tt:Int)(at_:Nat)(ux:Addr)(W w':World):Prop:=∃ hd sb,ux=⟨sb,0,none⟩∧W.heap.size<=hd∧W.heap.size<=sb∧hd≠sb∧Blk w' hd #[cmpSv,.slice none 0 0] 192∧Blk w' sb #[.int .i64 tt,.int .i64 (at_:Int),ptr hd] 134
theorem grown_of_below{w w':World}(h:Below w.heap.size w w'):w.grownBy w' none:=⟨h.os,h.tape,h.output,h.size,fun k hk _=>h.block k hk⟩
set_option maxRecDepth 100000 in
set_option maxHeartbeats 1600000 in
theorem lay1_any(rb lb:Nat)(own:ByteArray)(r1 r2 r3 r4:Value)(la:Option Addr)(ln lc:Nat)(w:World)(kr:Blk w rb #[.string own,r1,r2,r3,r4] 33)(kl:Blk w lb #[.slice la ln lc] 67)(hs:own.size<=1000000000):
 Calls Tryz.prog 115 #[ptr rb,ptr lb] w fun e w'=>∃ ux:Addr,e=.returned (.pointer (some ux))∧w.grownBy w' none∧NewO own (.slice la ln lc) ux w w':=by
 have hnt:=newTableI_any (.func 117) w;have hB1:=(Below.refl w.heap.size w).alloc (Nat.le_refl _) (.cells #[.func (.func 117) #[] #[],.slice none 0 0] 152);have kh:=blk_new w #[.func (.func 117) #[] #[],.slice none 0 0] 152;have hcl:=fun W=>clone_any own W hs
 unfold ptr;go_enter Tryz.func115,Tryz.ntmps115;go_wp2_with fail
 refine hnt.mono ?_;rintro e w1 ⟨rfl,hw1⟩;rw [<- hw1] at hB1 kh;unfold ptr;have hS:∀ W,Below w1.heap.size w1 W->W.cell? ⟨rb,0,none⟩=some (.string own)∧W.cell? ⟨lb,0,none⟩=some (.slice la ln lc):=fun W hW=>⟨blk_cell (blk_below (blk_below kr hB1) hW) 0,blk_cell (blk_below (blk_below kl hB1) hW) 0⟩
 have hsz1:w1.heap.size=w.heap.size+1:=by rw [hw1];simp
 clear hnt hw1;go_wp2;refine wp_region_last (fun W=>W.cell? ⟨rb,0,none⟩=some (.string own)∧W.cell? ⟨lb,0,none⟩=some (.slice la ln lc)) 1000 (by kernel_rfl) (hS _ (Below.refl _ _).drew) (fun hHeld=>?_);refine tkL (i:=0) (v:=?_) rfl ?_ ?_;rotate_left 1
 ·(intro W hSW;obtain⟨z0,z1⟩:=hSW;go_simp;try (with_reducible rfl))
 refine tkL (i:=1) (v:=?_) rfl ?_ ?_;rotate_left 1
 ·(intro W hSW;obtain⟨z0,z1⟩:=hSW;go_simp;try (with_reducible rfl))
 refine tkL (i:=3) (v:=?_) rfl ?_ ?_;rotate_left 1
 ·(intro W hSW;obtain⟨z0,z1⟩:=hSW;go_simp;try (with_reducible rfl))
 refine tkL (i:=4) (v:=?_) rfl ?_ ?_;rotate_left 1
 ·(intro W hSW;obtain⟨z0,z1⟩:=hSW;go_simp;try (with_reducible rfl))
 refine wpAnyL_one (i:=2) (by kernel_rfl) rfl (fun K hK=>?_);go_simp;refine(hcl _).mono ?_;rintro e w2 ⟨rfl,b2⟩;go_wp2_with fail
 have b12:Below w1.heap.size w1 w2:=Nm.below_two (Below.refl _ _).drew b2;refine hK.out _ _ (hS _ b12) (fun _=>?_);clear hK K hcl;refine tkL (i:=5) (v:=?_) rfl ?_ ?_;rotate_left 1
 ·(intro W hSW;obtain⟨z0,z1⟩:=hSW;go_simp;try (with_reducible rfl))
 refine wpAnyL_one (i:=6) (by kernel_rfl) rfl (fun K hK=>?_);go_simp;refine hK.out _ _ (hS _ (b12.alloc b12.size _)) (fun _=>?_);clear hK K;refine tkL (i:=7) (v:=?_) rfl ?_ ?_;rotate_left 1
 ·(intro W hSW;obtain⟨z0,z1⟩:=hSW;go_simp;try (with_reducible rfl))
 refine wpAnyL_done (by kernel_rfl) ?_;have kh2:=blk_alloc (blk_below kh b12) (.cells #[.string own,.slice la ln lc,.pointer (some ⟨w.heap.size,0,none⟩)] 108);have ko:=blk_new w2 #[.string own,.slice la ln lc,.pointer (some ⟨w.heap.size,0,none⟩)] 108;have bF:=(Nm.below_two hB1 b12).alloc (Nm.below_two hB1 b12).size (.cells #[.string own,.slice la ln lc,.pointer (some ⟨w.heap.size,0,none⟩)] 108);have hsz2:=b12.size;have HX:=Nm.hide (And.intro kh2 (And.intro ko bF));clear kh2 ko bF b12 b2 hS kh hB1 kr kl;go_wp2;go_ret;exact⟨⟨w2.heap.size,0,none⟩,rfl,grown_of_below HX.out.2.2,w.heap.size,w2.heap.size,rfl,Nat.le_refl _,by omega,by omega,HX.out.1,HX.out.2.1⟩
set_option maxRecDepth 100000 in
set_option maxHeartbeats 1600000 in
theorem lay2_any(rb ab at_:Nat)(tt:Int)(r0 r1 r2 r4:Value)(w:World)(kr:Blk w rb #[r0,r1,r2,.int .i64 tt,r4] 33)(ka:Blk w ab #[.int .i64 (at_:Int)] 3):
 Calls Tryz.prog 119 #[ptr rb,ptr ab] w fun e w'=>∃ ux:Addr,e=.returned (.pointer (some ux))∧w.grownBy w' none∧NewS tt at_ ux w w':=by
 have hnt:=fun W=>newTableS_any (.func 121) W
 have hS:∀ W,Below w.heap.size w W->W.cell? ⟨rb,3,none⟩=some (.int .i64 tt)∧W.cell? ⟨ab,0,none⟩=some (.int .i64 (at_:Int)):=fun W hW=>⟨blk_cell (blk_below kr hW) 3,blk_cell (blk_below ka hW) 0⟩
 unfold ptr;go_enter Tryz.func119,Tryz.ntmps119;go_wp2;refine wp_region_last (fun W=>W.cell? ⟨rb,3,none⟩=some (.int .i64 tt)∧W.cell? ⟨ab,0,none⟩=some (.int .i64 (at_:Int))) 1000 (by kernel_rfl) (hS _ (Below.refl _ _).drew) (fun hHeld=>?_);refine tkL (i:=0) (v:=?_) rfl ?_ ?_;rotate_left 1
 ·(intro W hSW;obtain⟨z0,z1⟩:=hSW;go_simp;try (with_reducible rfl))
 refine tkL (i:=1) (v:=?_) rfl ?_ ?_;rotate_left 1
 ·(intro W hSW;obtain⟨z0,z1⟩:=hSW;go_simp;try (with_reducible rfl))
 refine tkL (i:=2) (v:=?_) rfl ?_ ?_;rotate_left 1
 ·(intro W hSW;obtain⟨z0,z1⟩:=hSW;go_simp;try (with_reducible rfl))
 refine wpAnyL_one (i:=3) (by kernel_rfl) rfl (fun K hK=>?_);go_simp;refine(hnt _).mono ?_;rintro e w1 ⟨rfl,hw1⟩;have hB1:Below w.heap.size w w1:=by rw [hw1];exact(Below.refl w.heap.size w).drew.alloc (Nat.le_refl _) _
 have kh:Blk w1 w.heap.size #[.func (.func 121) #[] #[],.slice none 0 0] 192:=by rw [hw1];exact blk_new w.drew _ _
 have HZ1:Hid (w1.heap.size=w.heap.size+1):=by show _=_;rw [hw1];simp
 clear hw1;unfold ptr;go_wp2_with fail
 refine hK.out _ _ (hS _ hB1) (fun _=>?_);clear hK K hnt;refine tkL (i:=4) (v:=?_) rfl ?_ ?_;rotate_left 1
 ·(intro W hSW;obtain⟨z0,z1⟩:=hSW;go_simp;try (with_reducible rfl))
 refine wpAnyL_one (i:=5) (by kernel_rfl) rfl (fun K hK=>?_);go_simp;refine hK.out _ _ (hS _ (hB1.alloc hB1.size _)) (fun _=>?_);clear hK K;refine tkL (i:=6) (v:=?_) rfl ?_ ?_;rotate_left 1
 ·(intro W hSW;obtain⟨z0,z1⟩:=hSW;go_simp;try (with_reducible rfl))
 refine wpAnyL_done (by kernel_rfl) ?_;have kh2:=blk_alloc kh (.cells #[.int .i64 tt,.int .i64 (at_:Int),.pointer (some ⟨w.heap.size,0,none⟩)] 134);have ko:=blk_new w1 #[.int .i64 tt,.int .i64 (at_:Int),.pointer (some ⟨w.heap.size,0,none⟩)] 134;have bF:=hB1.alloc hB1.size (.cells #[.int .i64 tt,.int .i64 (at_:Int),.pointer (some ⟨w.heap.size,0,none⟩)] 134);have HX:=Nm.hide (And.intro kh2 (And.intro ko bF));clear kh2 ko bF hS kh hB1 kr ka;go_wp2;go_ret;exact⟨⟨w1.heap.size,0,none⟩,rfl,grown_of_below HX.out.2.2,w.heap.size,w1.heap.size,rfl,Nat.le_refl _,by have:=HZ1.out;omega,by have:=HZ1.out;omega,HX.out.1,HX.out.2.1⟩
set_option maxRecDepth 100000 in
set_option maxHeartbeats 1600000 in
theorem lay3_any(nb rb:Nat)(b0:Bool)(da:ByteArray)(r0 r1 r2 r3:Value)(w:World)(kn:Blk w nb #[.bool b0] 4)(kr:Blk w rb #[r0,r1,r2,r3,.string da] 33)(hs:da.size<=1000000000):
 Calls Tryz.prog 124 #[ptr nb,ptr rb] w fun e w'=>∃ ux:ByteArray,e=.returned (.string ux)∧w.grownBy w' (some nb)∧ux=da∧Blk w' nb #[.bool true] 4:=by
 have hcl:=fun W=>clone_any da W hs
 have hne:nb≠rb:=by
  intro e;subst e;rw [Blk,kn] at kr;simp only [Option.some.injEq,Obj.cells.injEq] at kr;exact absurd kr.2.1 (by decide)
 have rn:=fun i=>blk_cell kn i
 have fn:=fun i=>blk_frozen kn i
 have kn2:=blk_set kn 0 (.bool true);have kr2:=blk_far (v:=.bool true) (i:=0) kr (Ne.symm hne);have c2:=fun i=>blk_cell kr2 i
 have hg:w.grownBy (w.setCell ⟨nb,0,none⟩ (.bool true)) (some nb):=⟨rfl,rfl,rfl,by simp,fun k _ hk=>heap_setCell_other w ⟨nb,0,none⟩ k _ (fun e=>hk (by rw [e]))⟩;unfold ptr;go_enter Tryz.func124,Tryz.ntmps124;go_wp2_with fail
 refine(hcl _).mono ?_;rintro e w1 ⟨rfl,b1⟩;have kn3:=blk_below kn2 b1;have HX:=Nm.hide (And.intro (hgr_below hg b1) kn3);clear hg kn3 kn2 kr2 c2 b1;go_wp2;go_ret;exact⟨da,rfl,HX.out.1,rfl,HX.out.2⟩
end Go.Proofs.YtmdinnjimioffaaGreat
namespace Go.Proofs.YtmdinnjimioffaaGreat
open Go.RowKit
theorem set_small{ls:List ByteArray}{k:Nat}{x:ByteArray}(h:ls[k]? =some x):
 ((ls.take k).map (fun y=>Value.string (Nm.small y))++(ls.drop k).map Value.string).set k (.string (Nm.small x))=(ls.take (k+1)).map (fun y=>Value.string (Nm.small y))++(ls.drop (k+1)).map Value.string:=by
 have hk:k<ls.length:=(List.getElem?_eq_some_iff.1 h).1;have hx:ls[k]=x:=(List.getElem?_eq_some_iff.1 h).2;have hl:((ls.take k).map (fun y=>Value.string (Nm.small y))).length=k:=by simp;omega
 rw [Nm.take_step h,List.set_append_right _ _ (by omega),hl,List.drop_eq_getElem_cons hk,hx];simp
set_option maxRecDepth 100000 in
set_option maxHeartbeats 800000 in
theorem specFoldName_any(s:ByteArray)(w:World)(hs:s.size<=maxLen):
 Calls Tryz.prog 22 #[.string s] w fun e w'=>e=.returned (.string (Nm.foldS s))∧Below w.heap.size w w':=by
 have hsp:=l01Split_any s w hs
 cases hq:Nm.split s with
 |none=>
  have HA:=Nm.hide (Nm.foldS_none hq);rw [hq] at hsp;clear hq;go_enter Tryz.func22,Tryz.ntmps22;go_wp2_with fail
  refine hsp.mono ?_;rintro e w1 ⟨v,rfl,hown,hbel⟩;go_wp2;go_ret;rw [HA.out]
  exact⟨rfl,hbel⟩
 |some ls=>
  have hz:=Nm.split_size hq;have HA:=Nm.hide (Nm.foldS_some hq);have HJ:=Nm.hide (Nm.joinL_small hq);have hxs:=(Nm.split_join hq).2;have hll:=Nm.length_le_wsum ls;rw [hq] at hsp;clear hq;go_enter Tryz.func22,Tryz.ntmps22;go_wp2_with fail
  refine hsp.mono ?_;rintro e w1 ⟨v,rfl,hown,hbel⟩;simp only [Option.getD_some] at hown;clear hsp
  by_cases hn:ls=[]
  ·subst hn;have hrow:=Nm.SRow.of_owns hown;obtain⟨a,cap,rfl,hcap,hmx,hnl,hc⟩:=hrow;have hr:=Nm.SRow.of_owns hown;clear hown hc hnl;go_wp2
   go_loop [5] (fun i=>i=.int .i64 0) (fun _=>0)
   case atStart=>rfl
   case round=>
    subst hrel;go_wp2_with (go_at_call 43;refine(l01Join_any _ [] _ hr (by simp [Nm.wsum])).mono ?_;rintro e w2 ⟨rfl,hbel2⟩)
    go_ret;rw [HA.out,<- HJ.out];exact⟨rfl,Nm.below_two hbel hbel2⟩
  ·have hlp:0<ls.length:=List.length_pos_iff.2 hn
   obtain⟨g,cap,cur,rfl,hg⟩:∃ g cap cur,v=.slice (some ⟨g,0,none⟩) ls.length cap∧w.heap.size<=g∧ls.length<=cap∧cap<=maxLen∧w1.heap[g]? =some (.cells cur 9 (0,0)):=by
    rcases hown.2 with⟨rfl,h0⟩|⟨g,cap,cur,rfl,hb,hg,hnc,hm,_⟩
    ·omega
    ·exact⟨g,cap,cur,rfl,hb,hnc,hm,hg⟩
   obtain⟨hwg,hnc,hm,_⟩:=hg;unfold maxLen at hm;go_wp2
   go_loopw [5] (fun i wr=>∃ k:Nat,k<=ls.length∧i=.int .i64 k∧wr.ownsRow w.heap.size 9 1 (.slice (some ⟨g,0,none⟩) ls.length cap) ls.length ((ls.take k).map (fun y=>Value.string (Nm.small y))++(ls.drop k).map Value.string)∧Below w.heap.size w wr)
    (fun i _=>ls.length-(intOf i).toNat)
   case atStart=>exact⟨0,Nat.zero_le _,rfl,by simpa using hown,hbel⟩
   case round=>
    obtain⟨k,hk,rfl,hownk,hbelk⟩:=hrel;have hszk:=hbelk.size;clear hown hbel
    by_cases hlt:k<ls.length
    ·obtain⟨x,hx⟩:∃ x,ls[k]? =some x:=⟨_,List.getElem?_eq_getElem hlt⟩;have hxz:=hxs x (List.mem_of_getElem? hx)
     have hcx:wr.cell? ⟨g,k,none⟩=some (.string x):=by
      rw [hownk.cellAt k (by omega),List.getElem?_append_right (by simp;omega)];simp [Nat.min_eq_left hk,hx]
     have HSET:=Nm.hide (set_small hx);go_wp2_with (go_at_call 49;refine(l01Small_any x _ (by omega)).mono ?_;rintro e w3 ⟨rfl,hbel3⟩;have hown3:=hownk.kept (w':=w3) (row:=none) ⟨hbel3.os,hbel3.tape,hbel3.output,hbel3.size,fun k hk _=>hbel3.block k hk⟩ (.inr (by simp [Value.ownBlock]));have hst:=hown3.stored k (.string (Nm.small x));rw [HSET.out] at hst;have hfz:=hown3.frozenAt k;have hc3:w3.cell? ⟨g,k,none⟩=some (.string x):=(hbel3.cell (World.block_lt_of_cell? wr _ hcx)).trans hcx;have HR:=Nm.hide hst;have HB:Hid (Below w.heap.size w (w3.setCell ⟨g,k,none⟩ (.string (Nm.small x)))):=(hbelk.trans (hbel3.mono hszk)).setCell hwg _;clear hst hown3)
     go_roundw
     case rel=>exact⟨k+1,by omega,by go_num,HR.out.1,HB.out⟩
     case measure=>simp [intOf];omega
    ·have hkl:k=ls.length:=by omega
     subst hkl
     have hr:Nm.SRow wr (.slice (some ⟨g,0,none⟩) ls.length cap) (ls.map Nm.small):=by
      apply Nm.SRow.of_owns (B:=w.heap.size) (e:=9);simpa [Function.comp_def] using hownk
     have hws:=Nm.wsum_small ls;clear hownk hlt;go_wp2_with (go_at_call 43;refine(l01Join_any _ (ls.map Nm.small) _ hr (by omega)).mono ?_;rintro e w2 ⟨rfl,hbel2⟩)
     go_ret;rw [HA.out,<- HJ.out];exact⟨rfl,Nm.below_two hbelk hbel2⟩
end Go.Proofs.YtmdinnjimioffaaGreat
namespace Go.Proofs.YtmdinnjimioffaaGreat
open Go.RowKit
set_option maxRecDepth 100000 in
set_option maxHeartbeats 400000 in
theorem l01Order_any(a b:ByteArray)(w:World):
 Calls Tryz.prog 106 #[.string a,.string b] w fun e w'=>e=.returned (.int .i64 (Nm.ordL a.toList b.toList))∧w'=w:=by
 cases h1:Op.bytesLess a.toList b.toList with
 |true=>
  have HC:Hid (Nm.ordL a.toList b.toList= -1):=by show _=_;simp [Nm.ordL,h1]
  go_enter Tryz.func106,Tryz.ntmps106;go_wp2;go_ret;rw [HC.out]
  exact⟨rfl,rfl⟩
 |false=>
  cases h2:(a.toList==b.toList) with
  |true=>
   have HC:Hid (Nm.ordL a.toList b.toList=0):=by show _=_;rw [Nm.ordL,if_neg (by simp [h1]),if_pos (beq_iff_eq.1 h2)]
   go_enter Tryz.func106,Tryz.ntmps106;go_wp2;go_ret;rw [HC.out]
   exact⟨rfl,rfl⟩
  |false=>
   have HC:Hid (Nm.ordL a.toList b.toList=1):=by show _=_;simp [Nm.ordL,h1,beq_eq_false_iff_ne.1 h2]
   go_enter Tryz.func106,Tryz.ntmps106;go_wp2;go_ret;rw [HC.out];exact⟨rfl,rfl⟩
end Go.Proofs.YtmdinnjimioffaaGreat
namespace Go.Proofs.YtmdinnjimioffaaGreat
open Go.RowKit
set_option linter.unusedVariables false
def metaB(t:Int):Bool:=t==0||t==41||(decide (249<=t)&&decide (t<=255))
set_option maxRecDepth 100000 in
set_option maxHeartbeats 400000 in
theorem isMeta_any(t:Int)(w:World):Calls Tryz.prog 111 #[.int .i64 t] w fun e w'=>e=.returned (.bool (metaB t))∧w'=w:=by
 by_cases h0:t=0
 ·subst h0;go_enter Tryz.func111,Tryz.ntmps111;go_wp2;go_ret;exact⟨rfl,rfl⟩
 ·have e0:(t==0)=false:=by rw [beq_eq_false_iff_ne];exact h0
  by_cases h1:t=41
  ·subst h1;go_enter Tryz.func111,Tryz.ntmps111;go_wp2;go_ret;exact⟨rfl,rfl⟩
  ·have e1:(t==41)=false:=by rw [beq_eq_false_iff_ne];exact h1
   by_cases h2:249<=t
   ·by_cases h3:t<=255
    ·have HM:Hid (metaB t=true):=by show _=_;simp [metaB,h2,h3]
     go_enter Tryz.func111,Tryz.ntmps111;go_wp2;go_ret;rw [HM.out];exact⟨rfl,rfl⟩
    ·have h3':255<t:=by omega
     have HM:Hid (metaB t=false):=by show _=_;simp [metaB,h0,h1];omega
     go_enter Tryz.func111,Tryz.ntmps111;go_wp2;go_ret;rw [HM.out];exact⟨rfl,rfl⟩
   ·have h2':t<249:=by omega
    have HM:Hid (metaB t=false):=by show _=_;simp [metaB,h0,h1];omega
    go_enter Tryz.func111,Tryz.ntmps111;go_wp2;go_ret;rw [HM.out];exact⟨rfl,rfl⟩
set_option maxRecDepth 100000 in
set_option maxHeartbeats 400000 in
theorem l05Meta_any(t:Int)(w:World):Calls Tryz.prog 46 #[.int .i64 t] w fun e w'=>e=.returned (.bool (metaB t))∧w'=w:=by
 by_cases h0:t=0
 ·subst h0;go_enter Tryz.func46,Tryz.ntmps46;go_wp2;go_ret;exact⟨rfl,rfl⟩
 ·have e0:(t==0)=false:=by rw [beq_eq_false_iff_ne];exact h0
  by_cases h1:t=41
  ·subst h1;go_enter Tryz.func46,Tryz.ntmps46;go_wp2;go_ret;exact⟨rfl,rfl⟩
  ·have e1:(t==41)=false:=by rw [beq_eq_false_iff_ne];exact h1
   by_cases h2:249<=t
   ·by_cases h3:t<=255
    ·have HM:Hid (metaB t=true):=by show _=_;simp [metaB,h2,h3]
     go_enter Tryz.func46,Tryz.ntmps46;go_wp2;go_ret;rw [HM.out];exact⟨rfl,rfl⟩
    ·have h3':255<t:=by omega
     have HM:Hid (metaB t=false):=by show _=_;simp [metaB,h0,h1];omega
     go_enter Tryz.func46,Tryz.ntmps46;go_wp2;go_ret;rw [HM.out];exact⟨rfl,rfl⟩
   ·have h2':t<249:=by omega
    have HM:Hid (metaB t=false):=by show _=_;simp [metaB,h0,h1];omega
    go_enter Tryz.func46,Tryz.ntmps46;go_wp2;go_ret;rw [HM.out];exact⟨rfl,rfl⟩
end Go.Proofs.YtmdinnjimioffaaGreat
namespace Go.Proofs.YtmdinnjimioffaaGreat
open Go.RowKit
set_option maxRecDepth 100000 in
set_option maxHeartbeats 800000 in
theorem specSameName_any(a b:ByteArray)(w:World)(ha:a.size<=maxLen)(hb:b.size<=maxLen):
 Calls Tryz.prog 73 #[.string a,.string b] w fun e w'=>e=.returned (.bool (sameS a b))∧Below w.heap.size w w':=by
 have hsa:=specFoldName_any a w ha;have hsb:=fun W=>specFoldName_any b W hb
 cases hqa:Nm.split a with
 |none=>
  have HA:=Nm.hide (same_left (b:=b) hqa);rw [Nm.foldS_none hqa] at hsa;have he:(ByteArray.empty).toList.isEmpty=true:=Nm.tl_empty rfl;clear hqa;go_enter Tryz.func73,Tryz.ntmps73;go_wp2_with fail
  refine hsa.mono ?_;rintro e w1 ⟨rfl,hbel⟩;go_wp2;go_ret;rw [HA.out]
  exact⟨rfl,hbel⟩
 |some xs=>
  rw [Nm.foldS_some hqa] at hsa;have he:=small_pos hqa
  cases hqb:Nm.split b with
  |none=>
   have HA:=Nm.hide (same_right (a:=a) hqb);rw [Nm.foldS_none hqb] at hsb
   have hne:((Nm.small a).toList==(ByteArray.empty).toList)=false:=by
    rw [beq_eq_false_iff_ne];intro e;rw [e] at he;rw [Nm.tl_empty rfl] at he;simp at he
   clear hqa hqb;generalize Nm.small a=x at*;go_enter Tryz.func73,Tryz.ntmps73;go_wp2_with fail
   refine hsa.mono ?_;rintro e w1 ⟨rfl,hbel⟩;go_wp2_with fail
   refine(hsb _).mono ?_;rintro e w2 ⟨rfl,hbel2⟩;go_wp2;go_ret;rw [HA.out]
   exact⟨rfl,Nm.below_two hbel hbel2⟩
  |some ys=>
   have HA:=Nm.hide (same_some hqa hqb);have HE:=Nm.hide (small_eq a b);rw [Nm.foldS_some hqb] at hsb;clear hqa hqb;generalize Nm.small a=x at*;generalize Nm.small b=y at*;go_enter Tryz.func73,Tryz.ntmps73;go_wp2_with fail
   refine hsa.mono ?_;rintro e w1 ⟨rfl,hbel⟩;go_wp2_with fail
   refine(hsb _).mono ?_;rintro e w2 ⟨rfl,hbel2⟩;go_wp2;go_ret;rw [HA.out,<- HE.out];exact⟨rfl,Nm.below_two hbel hbel2⟩
end Go.Proofs.YtmdinnjimioffaaGreat
namespace Go.Proofs.YtmdinnjimioffaaGreat
open Go.RowKit
set_option linter.unusedVariables false
def recsOf(s:Sz):List Rr:=s.da.map fun d=>⟨s.own,s.ty,1,s.tt,d⟩
def recsAll(ps:List Zp):List Rr:=ps.flatMap fun p=>recsOf p.1
def dsum:List Zp->Nat
 |[]=>0
 |x::xs=>x.1.da.length+dsum xs
def zoneRecs(ps:List Zp):List Rr:=if 500<ps.length∨500<dsum ps then [] else recsAll ps
theorem recsOf_len(s:Sz):(recsOf s).length=s.da.length:=by simp [recsOf]
theorem recsOf_get{s:Sz}{k:Nat}{d:ByteArray}(h:s.da[k]? =some d):(recsOf s).take (k+1)=(recsOf s).take k++[⟨s.own,s.ty,1,s.tt,d⟩]:=by
 rw [List.take_add_one];congr 1;simp [recsOf,h]
theorem dsum_step:∀ (xs:List Zp) (k:Nat) (x:Zp),xs[k]? =some x->dsum (xs.take (k+1))=dsum (xs.take k)+x.1.da.length:=by
 intro xs
 induction xs with
 |nil=>intro k x h;simp at h
 |cons y xs ih=>
  intro k x h
  cases k with
  |zero=>simp at h;subst h;simp [dsum]
  |succ k=>
   simp at h;have:=ih k x h;simp only [List.take_succ_cons,dsum];omega
theorem dsum_take_le:∀ (xs:List Zp) (k:Nat),dsum (xs.take k)<=dsum xs:=by
 intro xs
 induction xs with
 |nil=>intro k;simp [dsum]
 |cons y xs ih=>
  intro k
  cases k with
  |zero=>simp [dsum]
  |succ k=>have:=ih k;simp only [List.take_succ_cons,dsum];omega
theorem dsum_le(ps:List Zp):dsum ps<=zsum ps:=by
 induction ps with
 |nil=>simp [dsum,zsum]
 |cons y ps ih=>simp only [dsum,zsum,zs1];omega
theorem recsAll_step{ps:List Zp}{k:Nat}{x:Zp}(h:ps[k]? =some x):recsAll (ps.take (k+1))=recsAll (ps.take k)++recsOf x.1:=by
 rw [List.take_add_one,h];simp [recsAll]
theorem recsAll_len(ps:List Zp):(recsAll ps).length=dsum ps:=by
 induction ps with
 |nil=>rfl
 |cons y ps ih=>
  have:recsAll (y::ps)=recsOf y.1++recsAll ps:=by simp [recsAll]
  rw [this,List.length_append,recsOf_len,ih,dsum]
theorem rv_one(r:Rr):∀ u∈rvV r,u.oneCell'=true:=by
 intro u hu;simp [rvV] at hu
 rcases hu with rfl|rfl|rfl|rfl|rfl<;>rfl
theorem rvs_one(xs:List Rr):∀ u∈rvVs xs,u.oneCell'=true:=by
 intro u hu;simp only [rvVs,List.mem_flatMap] at hu;obtain⟨r,_,h⟩:=hu;exact rv_one r u h
theorem cell_newV(w:World)(cs:Array Value)(e:Nat):∀ (j:Nat) (u:Value),cs.toList[j]? =some u->(w.alloc (.cells cs e)).cell? ((⟨w.heap.size,0,none⟩:Addr).add j)=some u:=by
 intro j u h;rw [Nm.addr_add,Nat.zero_add];have:(w.alloc (.cells cs e)).heap[w.heap.size]? =some (.cells cs e (0,0)):=by show(w.heap.push _)[w.heap.size]? =_;simp
 rw [cell_of_row _ _ _ _ _ _ this];simpa using h
end Go.Proofs.YtmdinnjimioffaaGreat
namespace Go.Proofs.YtmdinnjimioffaaGreat
open Go.RowKit
theorem mkj_size(ls:List ByteArray):(⟨(Nm.joinL ls).toArray⟩:ByteArray).size=Nm.wsum ls+1:=by
 rw [mk_size,Nm.joinL_length]
theorem wsum_snoc(ls:List ByteArray)(x:ByteArray):Nm.wsum (ls++[x])=Nm.wsum ls+(1+x.size):=by
 rw [Nm.wsum_append];simp [Nm.wsum]
theorem str_step{w w3 wb:World}{g n cap e:Nat}{a:Option Addr}{v vb:Value}{ls:List ByteArray}{x:ByteArray}{o:Obj}
 (hown:w3.ownsRow w.heap.size e 1 v ls.length (ls.map Value.string)) (hsrc:Src w3 g a n cap) (hg:w.grownBy w3 (some g)) (hlt:g<w.heap.size) (hcode:CodeAt w g a n)
 (hown':wb.ownsRow w.heap.size e 1 vb (ls.length+1) (ls.map Value.string++[.string x])) (hgrow:(w3.alloc o).grownBy wb v.ownBlock):
 wb.ownsRow w.heap.size e 1 vb (ls++[x]).length ((ls++[x]).map Value.string)∧Src wb g a n cap∧w.grownBy wb (some g):=by
 have hrow:∀ q,v.ownBlock=some q->w.heap.size<=q:=fun q hq=>(hown.lt q hq).1
 exact⟨by simpa using hown',src_grown (src_below hsrc ((Below.refl _ _).alloc (Nat.le_refl _) _)) hgrow hrow hlt hcode,grown_own (grown_alloc hg _) hgrow hrow⟩
end Go.Proofs.YtmdinnjimioffaaGreat
namespace Go.Proofs.YtmdinnjimioffaaGreat
open Go.RowKit
set_option linter.unusedVariables false
end Go.Proofs.YtmdinnjimioffaaGreat
