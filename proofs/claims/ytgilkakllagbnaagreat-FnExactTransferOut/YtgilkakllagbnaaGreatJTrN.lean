import Derived.Test.YtgilkakllagbnaaGreatJZrM
import Derived.Test.YtgilkakllagbnaaGreatJClone
import Derived.Test.YtgilkakllagbnaaGreatJRrM
import Derived.Deep.RegionHeld3
import Derived.Test.YtgilkakllagbnaaGreatJTbIS
import Derived.Test.YtgilkakllagbnaaGreatJTbPS
import Derived.Test.YtgilkakllagbnaaGreatJTbPI
import Derived.Test.YtgilkakllagbnaaGreatJZnT
import Derived.Test.YtgilkakllagbnaaGreatJStI
import Derived.RegionTactic
import Derived.BigRegion
import Derived.Maps.AppendAt
namespace Go.Proofs.YtgilkakllagbnaaGreat
open Go.RowKit
set_option linter.unusedVariables false
theorem newTableL_any(fn:Fn)(w:World):Calls Tryz.prog 129 #[.func fn #[] #[]] w fun e w'=>e=.returned (ptr w.heap.size)∧w'=w.alloc (.cells #[.func fn #[] #[],.slice none 0 0] 191):=by
 go_enter Tryz.func129,Tryz.ntmps129;go_wp2;go_ret;exact⟨rfl,rfl⟩
theorem newTableI_any(fn:Fn)(w:World):Calls Tryz.prog 158 #[.func fn #[] #[]] w fun e w'=>e=.returned (ptr w.heap.size)∧w'=w.alloc (.cells #[.func fn #[] #[],.slice none 0 0] 198):=by
 go_enter Tryz.func158,Tryz.ntmps158;go_wp2;go_ret;exact⟨rfl,rfl⟩
theorem newTableS_any(fn:Fn)(w:World):Calls Tryz.prog 162 #[.func fn #[] #[]] w fun e w'=>e=.returned (ptr w.heap.size)∧w'=w.alloc (.cells #[.func fn #[] #[],.slice none 0 0] 247):=by
 go_enter Tryz.func162,Tryz.ntmps162;go_wp2;go_ret;exact⟨rfl,rfl⟩
def NewO(own:ByteArray)(lv:Value)(ux:Addr)(W w':World):Prop:=∃ hd ob,ux=⟨ob,0,none⟩∧W.heap.size<=hd∧W.heap.size<=ob∧hd≠ob∧Blk w' hd #[cmpIv,.slice none 0 0] 198∧Blk w' ob #[.string own,lv,ptr hd] 158
def NewS(tt:Int)(at_:Nat)(ux:Addr)(W w':World):Prop:=∃ hd sb,ux=⟨sb,0,none⟩∧W.heap.size<=hd∧W.heap.size<=sb∧hd≠sb∧Blk w' hd #[cmpSv,.slice none 0 0] 247∧Blk w' sb #[.int .i64 tt,.int .i64 (at_:Int),ptr hd] 180
theorem grown_of_below{w w':World}(h:Below w.heap.size w w'):w.grownBy w' none:=⟨h.os,h.tape,h.output,h.size,fun k hk _=>h.block k hk⟩
set_option maxRecDepth 100000 in
set_option maxHeartbeats 1600000 in
theorem lay1_any(rb lb:Nat)(own:ByteArray)(r1 r2 r3 r4:Value)(la:Option Addr)(ln lc:Nat)(w:World)(kr:Blk w rb #[.string own,r1,r2,r3,r4] 56)(kl:Blk w lb #[.slice la ln lc] 125)(hs:own.size<=1000000000):
 Calls Tryz.prog 157 #[ptr rb,ptr lb] w fun e w'=>∃ ux:Addr,e=.returned (.pointer (some ux))∧w.grownBy w' none∧NewO own (.slice la ln lc) ux w w':=by
 have hnt:=newTableI_any (.func 159) w;have hB1:=(Below.refl w.heap.size w).alloc (Nat.le_refl _) (.cells #[.func (.func 159) #[] #[],.slice none 0 0] 198);have kh:=blk_new w #[.func (.func 159) #[] #[],.slice none 0 0] 198;have hcl:=fun W=>clone_any own W hs
 unfold ptr;go_enter Tryz.func157,Tryz.ntmps157;go_wp2_with fail
 refine hnt.mono ?_;rintro e w1 ⟨rfl,hw1⟩;rw [<- hw1] at hB1 kh;unfold ptr;have hS:∀ W,Below w1.heap.size w1 W->W.cell? ⟨rb,0,none⟩=some (.string own)∧W.cell? ⟨lb,0,none⟩=some (.slice la ln lc):=fun W hW=>⟨blk_cell (blk_below (blk_below kr hB1) hW) 0,blk_cell (blk_below (blk_below kl hB1) hW) 0⟩
 have hsz1:w1.heap.size=w.heap.size+1:=by rw [hw1];simp
 clear hnt hw1;go_wp2;refine wp_region_last (fun W=>W.cell? ⟨rb,0,none⟩=some (.string own)∧W.cell? ⟨lb,0,none⟩=some (.slice la ln lc)) 1000 (by kernel_rfl) (hS _ (Below.refl _ _).drew) (fun hHeld=>?_);refine tkL (i:=0) (v:=?_) rfl ?_ ?_;rotate_left 1
 ·(intro W hSW;obtain⟨z0,z1⟩:=hSW;go_simp;try (with_reducible rfl))
 refine tkL (i:=1) (v:=?_) rfl ?_ ?_;rotate_left 1
 ·(intro W hSW;obtain⟨z0,z1⟩:=hSW;go_simp;try (with_reducible rfl))
 refine tkL (i:=3) (v:=?_) rfl ?_ ?_;rotate_left 1
 ·(intro W hSW;obtain⟨z0,z1⟩:=hSW;go_simp;try (with_reducible rfl))
 refine tkL (i:=4) (v:=?_) rfl ?_ ?_;rotate_left 1
 ·(intro W hSW;obtain⟨z0,z1⟩:=hSW;go_simp;try (with_reducible rfl))
 refine wpAnyL_one (i:=2) (by kernel_rfl) rfl (fun K hK=>?_);go_simp;refine(hcl _).mono ?_;rintro e w2 ⟨rfl,b2⟩;go_wp2_with fail
 have b12:Below w1.heap.size w1 w2:=Nm.below_two (Below.refl _ _).drew b2;refine hK.out _ _ (hS _ b12) (fun _=>?_);clear hK K hcl;refine tkL (i:=5) (v:=?_) rfl ?_ ?_;rotate_left 1
 ·(intro W hSW;obtain⟨z0,z1⟩:=hSW;go_simp;try (with_reducible rfl))
 refine wpAnyL_one (i:=6) (by kernel_rfl) rfl (fun K hK=>?_);go_simp;refine hK.out _ _ (hS _ (b12.alloc b12.size _)) (fun _=>?_);clear hK K;refine tkL (i:=7) (v:=?_) rfl ?_ ?_;rotate_left 1
 ·(intro W hSW;obtain⟨z0,z1⟩:=hSW;go_simp;try (with_reducible rfl))
 refine wpAnyL_done (by kernel_rfl) ?_;have kh2:=blk_alloc (blk_below kh b12) (.cells #[.string own,.slice la ln lc,.pointer (some ⟨w.heap.size,0,none⟩)] 158);have ko:=blk_new w2 #[.string own,.slice la ln lc,.pointer (some ⟨w.heap.size,0,none⟩)] 158;have bF:=(Nm.below_two hB1 b12).alloc (Nm.below_two hB1 b12).size (.cells #[.string own,.slice la ln lc,.pointer (some ⟨w.heap.size,0,none⟩)] 158);have hsz2:=b12.size;have HX:=Nm.hide (And.intro kh2 (And.intro ko bF));clear kh2 ko bF b12 b2 hS kh hB1 kr kl;go_wp2;go_ret;exact⟨⟨w2.heap.size,0,none⟩,rfl,grown_of_below HX.out.2.2,w.heap.size,w2.heap.size,rfl,Nat.le_refl _,by omega,by omega,HX.out.1,HX.out.2.1⟩
set_option maxRecDepth 100000 in
set_option maxHeartbeats 1600000 in
theorem lay2_any(rb ab at_:Nat)(tt:Int)(r0 r1 r2 r4:Value)(w:World)(kr:Blk w rb #[r0,r1,r2,.int .i64 tt,r4] 56)(ka:Blk w ab #[.int .i64 (at_:Int)] 3):
 Calls Tryz.prog 161 #[ptr rb,ptr ab] w fun e w'=>∃ ux:Addr,e=.returned (.pointer (some ux))∧w.grownBy w' none∧NewS tt at_ ux w w':=by
 have hnt:=fun W=>newTableS_any (.func 163) W
 have hS:∀ W,Below w.heap.size w W->W.cell? ⟨rb,3,none⟩=some (.int .i64 tt)∧W.cell? ⟨ab,0,none⟩=some (.int .i64 (at_:Int)):=fun W hW=>⟨blk_cell (blk_below kr hW) 3,blk_cell (blk_below ka hW) 0⟩
 unfold ptr;go_enter Tryz.func161,Tryz.ntmps161;go_wp2;refine wp_region_last (fun W=>W.cell? ⟨rb,3,none⟩=some (.int .i64 tt)∧W.cell? ⟨ab,0,none⟩=some (.int .i64 (at_:Int))) 1000 (by kernel_rfl) (hS _ (Below.refl _ _).drew) (fun hHeld=>?_);refine tkL (i:=0) (v:=?_) rfl ?_ ?_;rotate_left 1
 ·(intro W hSW;obtain⟨z0,z1⟩:=hSW;go_simp;try (with_reducible rfl))
 refine tkL (i:=1) (v:=?_) rfl ?_ ?_;rotate_left 1
 ·(intro W hSW;obtain⟨z0,z1⟩:=hSW;go_simp;try (with_reducible rfl))
 refine tkL (i:=2) (v:=?_) rfl ?_ ?_;rotate_left 1
 ·(intro W hSW;obtain⟨z0,z1⟩:=hSW;go_simp;try (with_reducible rfl))
 refine wpAnyL_one (i:=3) (by kernel_rfl) rfl (fun K hK=>?_);go_simp;refine(hnt _).mono ?_;rintro e w1 ⟨rfl,hw1⟩;have hB1:Below w.heap.size w w1:=by rw [hw1];exact(Below.refl w.heap.size w).drew.alloc (Nat.le_refl _) _
 have kh:Blk w1 w.heap.size #[.func (.func 163) #[] #[],.slice none 0 0] 247:=by rw [hw1];exact blk_new w.drew _ _
 have HZ1:Hid (w1.heap.size=w.heap.size+1):=by show _=_;rw [hw1];simp
 clear hw1;unfold ptr;go_wp2_with fail
 refine hK.out _ _ (hS _ hB1) (fun _=>?_);clear hK K hnt;refine tkL (i:=4) (v:=?_) rfl ?_ ?_;rotate_left 1
 ·(intro W hSW;obtain⟨z0,z1⟩:=hSW;go_simp;try (with_reducible rfl))
 refine wpAnyL_one (i:=5) (by kernel_rfl) rfl (fun K hK=>?_);go_simp;refine hK.out _ _ (hS _ (hB1.alloc hB1.size _)) (fun _=>?_);clear hK K;refine tkL (i:=6) (v:=?_) rfl ?_ ?_;rotate_left 1
 ·(intro W hSW;obtain⟨z0,z1⟩:=hSW;go_simp;try (with_reducible rfl))
 refine wpAnyL_done (by kernel_rfl) ?_;have kh2:=blk_alloc kh (.cells #[.int .i64 tt,.int .i64 (at_:Int),.pointer (some ⟨w.heap.size,0,none⟩)] 180);have ko:=blk_new w1 #[.int .i64 tt,.int .i64 (at_:Int),.pointer (some ⟨w.heap.size,0,none⟩)] 180;have bF:=hB1.alloc hB1.size (.cells #[.int .i64 tt,.int .i64 (at_:Int),.pointer (some ⟨w.heap.size,0,none⟩)] 180);have HX:=Nm.hide (And.intro kh2 (And.intro ko bF));clear kh2 ko bF hS kh hB1 kr ka;go_wp2;go_ret;exact⟨⟨w1.heap.size,0,none⟩,rfl,grown_of_below HX.out.2.2,w.heap.size,w1.heap.size,rfl,Nat.le_refl _,by have:=HZ1.out;omega,by have:=HZ1.out;omega,HX.out.1,HX.out.2.1⟩
set_option maxRecDepth 100000 in
set_option maxHeartbeats 1600000 in
theorem lay3_any(nb rb:Nat)(b0:Bool)(da:ByteArray)(r0 r1 r2 r3:Value)(w:World)(kn:Blk w nb #[.bool b0] 4)(kr:Blk w rb #[r0,r1,r2,r3,.string da] 56)(hs:da.size<=1000000000):
 Calls Tryz.prog 166 #[ptr nb,ptr rb] w fun e w'=>∃ ux:ByteArray,e=.returned (.string ux)∧w.grownBy w' (some nb)∧ux=da∧Blk w' nb #[.bool true] 4:=by
 have hcl:=fun W=>clone_any da W hs
 have hne:nb≠rb:=by
  intro e;subst e;rw [Blk,kn] at kr;simp only [Option.some.injEq,Obj.cells.injEq] at kr;exact absurd kr.2.1 (by decide)
 have rn:=fun i=>blk_cell kn i
 have fn:=fun i=>blk_frozen kn i
 have kn2:=blk_set kn 0 (.bool true);have kr2:=blk_far (v:=.bool true) (i:=0) kr (Ne.symm hne);have c2:=fun i=>blk_cell kr2 i
 have hg:w.grownBy (w.setCell ⟨nb,0,none⟩ (.bool true)) (some nb):=⟨rfl,rfl,rfl,by simp,fun k _ hk=>heap_setCell_other w ⟨nb,0,none⟩ k _ (fun e=>hk (by rw [e]))⟩;unfold ptr;go_enter Tryz.func166,Tryz.ntmps166;go_wp2_with fail
 refine(hcl _).mono ?_;rintro e w1 ⟨rfl,b1⟩;have kn3:=blk_below kn2 b1;have HX:=Nm.hide (And.intro (hgr_below hg b1) kn3);clear hg kn3 kn2 kr2 c2 b1;go_wp2;go_ret;exact⟨da,rfl,HX.out.1,rfl,HX.out.2⟩
set_option maxRecDepth 100000 in
set_option maxHeartbeats 1600000 in
theorem valueOfS_in(g B:Nat)(cmpv rv key fv:Value)(rs:List (Value×Value))(cf:Nat->Int)(k:Nat)(p:Value×Value)(w:World)(hg:Blk w g #[cmpv,rv] 247)(h:w.ownsRow B 250 2 rv rs.length (rowCs rs))(hl:rs.length<=1000000)
 (hf:∀ (tb i:Nat) (p:Value×Value),rs[i]? =some p->∀ W,Below w.heap.size w W->Blk W tb #[.pointer (some ⟨g,0,none⟩)] 178->Calls Tryz.prog 196 #[.agg #[p.1,p.2],key,.pointer (some ⟨tb,0,none⟩)] W fun e w'=>e=.returned (.int .i64 (cf i))∧Below W.heap.size W w')
 (hm:∀ a b,a<=b->b<rs.length->cf b<0->cf a<0) (hk:Fnd rs.length cf k) (hp:rs[k]? =some p) (h0:cf k=0):
 Calls Tryz.prog 164 #[.pointer (some ⟨g,0,none⟩),key,fv] w fun e w'=>e=.returned p.2∧Below w.heap.size w w':=by
 have hpl:=placeS_any g cmpv rv key rs cf w hg (CRow.of_owns h) hl hf hm;have hkl:=(List.getElem?_eq_some_iff.1 hp).1;have at1:=rowCs_at rs k 1 p hp (by decide);obtain⟨_,a,cap,rfl,hcap,hmx,hc⟩:=CRow.of_owns h;obtain⟨b,off,rfl,hcell⟩:=hc (by omega);have c1:=hcell _ _ at1;have HK:=Nm.hide hk;have H0:=Nm.hide (And.intro hkl h0);unfold maxLen at hmx;have n1:(0:Int)<=(k:Int):=by omega
 have n2:(k:Int)<(rs.length:Int):=by omega
 clear hf hm hk hp h0 h hcell hc at1;go_enter Tryz.func164,Tryz.ntmps164;go_wp2_with fail
 refine hpl.mono ?_;rintro e w1 ⟨k',hk',rfl,b1⟩;obtain rfl:=Fnd.unique HK.out hk';rw [decide_eq_true H0.out.1,decide_eq_true H0.out.2];have kg:=blk_below hg b1;have rg:=fun i=>blk_cell kg i
 have d1:w1.cell? ⟨b,off+k*2+1,none⟩=some p.2:=(b1.cell (World.block_lt_of_cell? w _ c1)).trans c1;have tt:(true&&true)=true:=rfl;clear hpl hk' c1 H0;go_wp2;go_ret;exact⟨rfl,b1⟩
set_option maxRecDepth 100000 in
set_option maxHeartbeats 3200000 in
theorem valueOfS_out(g B:Nat)(cmpv rv:Value)(kx:ByteArray)(caps:Array Value)(rs:List (Value×Value))(cf:Nat->Int)(k:Nat)(w:World)(ob:Option Nat)(P:ByteArray->World->World->Prop)(hg:Blk w g #[cmpv,rv] 247)(h:w.ownsRow B 250 2 rv rs.length (rowCs rs))(hl:rs.length<=500000)
 (hf:∀ (tb i:Nat) (p:Value×Value),rs[i]? =some p->∀ W,Below w.heap.size w W->Blk W tb #[.pointer (some ⟨g,0,none⟩)] 178->Calls Tryz.prog 196 #[.agg #[p.1,p.2],(Value.string kx),.pointer (some ⟨tb,0,none⟩)] W fun e w'=>e=.returned (.int .i64 (cf i))∧Below W.heap.size W w')
 (hm:∀ a b,a<=b->b<rs.length->cf b<0->cf a<0) (hk:Fnd rs.length cf k) (h0:¬(k<rs.length∧cf k=0))
 (h1:∀ p∈rs,p.1.oneCell'=true∧p.2.oneCell'=true) (hB:B<=w.heap.size)
 (hfr:∀ W,Below w.heap.size w W->Calls Tryz.prog 166 caps W fun e w'=>∃ ux:ByteArray,e=.returned (Value.string ux)∧W.grownBy w' ob∧P ux W w') (hob:ob≠some g) (hrv:∀ x,rv.ownBlock=some x->ob≠some x):
 Calls Tryz.prog 164 #[.pointer (some ⟨g,0,none⟩),(Value.string kx),.func (.func 166) #[] caps] w fun e w'=>∃ (ux:ByteArray) (W w1:World) (rv':Value),e=.returned (Value.string ux)∧Below w.heap.size w W∧W.grownBy w1 ob∧P ux W w1∧Blk w' g #[cmpv,rv'] 247∧w'.ownsRow B 250 2 rv' (rs.length+1) (rowCs (rs.take k++[((Value.string kx),(Value.string ux))]++rs.drop k))∧Kp2 g rv.ownBlock w1 w'∧(rv'.ownBlock=rv.ownBlock∨∀ x,rv'.ownBlock=some x->w1.heap.size<=x):=by
 have hpl:=placeS_any g cmpv rv (Value.string kx) rs cf w hg (CRow.of_owns h) (by omega) hf hm;obtain⟨a,cap,rfl⟩:=own_sl h;have HK:=Nm.hide hk
 have H0:Hid ((decide (k<rs.length)&&decide (cf k=0))=false):=by
  show _=_
  rw [Bool.and_eq_false_iff]
  by_cases hx:k<rs.length
  ·exact .inr (decide_eq_false (fun h=>h0 ⟨hx,h⟩))
  ·exact .inl (decide_eq_false hx)
 clear hf hm hk h0;go_enter Tryz.func164,Tryz.ntmps164;go_wp2_with fail
 refine hpl.mono ?_;rintro e w1 ⟨k',hk',rfl,b1⟩;obtain rfl:=Fnd.unique HK.out hk';rw [H0.out];have kg:=blk_below hg b1;have h2:=own_below h b1;have hfr1:=hfr w1.drew b1.drew;have hkn:k<=rs.length:=HK.out.1;have hgw:=blk_lt hg;clear hpl hk' hfr H0 HK;go_wp2;refine wp_region_last (fun W=>W.cell? ⟨g,1,none⟩=some (.slice a rs.length cap)) 14 (by kernel_rfl) (blk_cell kg 1) (fun hHeld=>?_);refine tkA 0 rfl ?_;refine tkA 1 rfl ?_;refine tkA 2 rfl ?_;refine tkA 3 rfl ?_;refine tkA 4 rfl ?_;refine tkA 5 rfl ?_;refine tkA 6 rfl ?_;refine tkA 7 rfl ?_;refine wpAnyL_one (i:=8) (by kernel_rfl) rfl (fun K hK=>?_);go_simp;refine hfr1.mono ?_;rintro e w2 ⟨ux,rfl,hgr,hP⟩;go_wp2_with fail
 have kg2:Blk w2 g #[cmpv,.slice a rs.length cap] 247:=blk_grown (blk_drew kg) hgr (fun e=>hob e)
 have hrr:w2.ownsRow B 250 2 (.slice a rs.length cap) rs.length (rowCs rs):=h2.drew.kept hgr (by
  cases hv:(Value.slice a rs.length cap).ownBlock with
  |none=>exact .inl rfl
  |some x=>right;intro e;exact hrv x hv e.symm)
 refine hK.out _ _ (blk_cell kg2 1) (fun _=>?_);clear hK K hfr1;refine tkA 9 rfl ?_;have hb2:Below w2.heap.size w2 (w2.alloc (.cells #[(Value.string kx),(Value.string ux)] 250)):=(Below.refl _ _).alloc (Nat.le_refl _) _;have kg3:=blk_below kg2 hb2;refine wpAnyL_one (i:=10) (by kernel_rfl) rfl (fun K hK=>?_);go_simp;refine hK.out _ _ (blk_cell kg3 1) (fun _=>?_);clear hK K;have hwB:B<=w2.heap.size:=by have:=b1.size;have:=hgr.size;simp at this;omega
 have hins:=insertS_any (.slice a rs.length cap) rs.length k (rowCs rs) (Value.string kx) (Value.string ux) w2.heap.size 1 B _ (own_below hrr hb2) hkn (blk_new w2 #[(Value.string kx),(Value.string ux)] 250) (fun e=>by have:=(hrr.lt _ e).2;omega) (rowCs_one h1) rfl rfl (by omega) (by simp;omega);refine wpAnyL_one (i:=11) (by kernel_rfl) rfl (fun K hK=>?_);go_simp;refine hins.mono ?_;rintro e w3 ⟨rv',rfl,ho3,hg3,hat3⟩;go_wp2_with fail
 rw [rowCs_ins] at ho3
 obtain⟨g',cap',rfl⟩:∃ g' cap',rv'=.slice (some ⟨g',0,none⟩) (rs.length+1) cap':=by
  rcases ho3.2 with⟨_,h0⟩|⟨g',cap',cur,e,_⟩
  ·omega
  ·exact⟨g',cap',e⟩
 have hgg:(Value.slice a rs.length cap).ownBlock≠some g:=by
  intro e
  rcases hrr.2 with⟨h0,_⟩|⟨q,c,cur,e1,_,hh,_⟩
  ·simp only [Value.slice.injEq] at h0;rw [h0.1] at e;cases e
  ·simp only [Value.slice.injEq] at e1;rw [e1.1] at e;simp only [Value.ownBlock,Option.some.injEq] at e;subst e;rw [Blk,hh] at kg2;simp only [Option.some.injEq,Obj.cells.injEq] at kg2;exact absurd kg2.2.1 (by decide)
 have kg4:=blk_grown kg3 hg3 hgg;have rg4:=fun i=>blk_cell kg4 i
 have fg4:=fun i=>blk_frozen kg4 i
 refine hK.out _ _ (blk_cell kg4 1) (fun _=>?_);clear hK K hins;refine wpAnyL_one (i:=12) (by kernel_rfl) rfl (fun K hK=>?_);go_simp;refine hK.out _ _ (blk_cell kg4 1) (fun _=>?_);clear hK K;refine tkA 13 rfl ?_;refine wpAnyL_end (by kernel_rfl) rfl (by kernel_rfl) (fun K hK=>?_);go_simp;refine hK.out _ _ ?_;clear hK K
 have hgn:g'≠g:=by
  intro e;subst e
  rcases ho3.2 with⟨h0,_⟩|⟨q,c,cur,e1,_,hh,_⟩
  ·cases h0
  ·simp only [Value.slice.injEq,Option.some.injEq,Addr.mk.injEq] at e1;obtain⟨⟨rfl,_⟩,_⟩:=e1;rw [Blk,hh] at kg4;simp only [Option.some.injEq,Obj.cells.injEq] at kg4;exact absurd kg4.2.1 (by decide)
 have ho4:=own_far (y:=.slice (some ⟨g',0,none⟩) (rs.length+1) cap') (i:=1) (g:=g) ho3 (by simp [Value.ownBlock];exact hgn);have kg5:=blk_set kg4 1 (.slice (some ⟨g',0,none⟩) (rs.length+1) cap');have hlen:(rs.take k++[((Value.string kx),(Value.string ux))]++rs.drop k).length=rs.length+1:=by simp;omega
 have hxk:(rs.take k++[((Value.string kx),(Value.string ux))]++rs.drop k)[k]? =some ((Value.string kx),(Value.string ux)):=by
  have hlk:(rs.take k).length=k:=by rw [List.length_take];omega
  rw [List.append_assoc,List.getElem?_append_right (by omega),hlk];simp
 have c1:(w3.setCell ⟨g,1,none⟩ (.slice (some ⟨g',0,none⟩) (rs.length+1) cap')).cell? ⟨g',k*2+1,none⟩=some (Value.string ux):=(ho4.cellAt (k*2+1) (by omega)).trans ((rowCs_at _ k 1 _ hxk (by decide)).trans rfl);have c2:(w3.setCell ⟨g,1,none⟩ (.slice (some ⟨g',0,none⟩) (rs.length+1) cap')).cell? ⟨g,1,none⟩=some (.slice (some ⟨g',0,none⟩) (rs.length+1) cap'):=(blk_cell kg5 1).trans (by simp);have n1:(0:Int)<=(k:Int):=by omega
 have n2:(k:Int)<(rs.length:Int)+1:=by omega
 have hKP:Kp2 g (Value.slice a rs.length cap).ownBlock w2 (w3.setCell ⟨g,1,none⟩ (.slice (some ⟨g',0,none⟩) (rs.length+1) cap')):=by
  refine⟨hg3.os,hg3.tape,hg3.output,?_,fun q hq hne hne2=>?_⟩
  ·have:=hg3.size;simp at this ⊢;omega
  ·rw [heap_setCell_other w3 ⟨g,1,none⟩ q _ (by simpa using hne),hg3.block q (by simp;omega) (fun e=>hne2 e.symm)];exact hb2.block q hq
 have HX:=Nm.hide (And.intro b1 (And.intro hgr (And.intro hP (And.intro kg5 (And.intro ho4 (And.intro hKP hat3))))));clear b1 hgr hP kg5 ho4 hKP hat3 ho3 hg3 kg4 kg3 kg2 kg hrr h2 h hg hb2 rg4 fg4 hxk;go_wp2;go_ret
 exact⟨ux,w1.drew,w2,_,rfl,HX.out.1.drew,HX.out.2.1,HX.out.2.2.1,HX.out.2.2.2.1,HX.out.2.2.2.2.1,HX.out.2.2.2.2.2.1,by
  rcases HX.out.2.2.2.2.2.2 with h|h
  ·exact .inl h
  ·exact .inr (fun x e=>by have:=h x e;simp at this;omega)⟩
set_option maxRecDepth 100000 in
set_option maxHeartbeats 1600000 in
theorem valueOfI_in(g B:Nat)(cmpv rv key fv:Value)(rs:List (Value×Value))(cf:Nat->Int)(k:Nat)(p:Value×Value)(w:World)(hg:Blk w g #[cmpv,rv] 198)(h:w.ownsRow B 200 2 rv rs.length (rowCs rs))(hl:rs.length<=1000000)
 (hf:∀ (tb i:Nat) (p:Value×Value),rs[i]? =some p->∀ W,Below w.heap.size w W->Blk W tb #[.pointer (some ⟨g,0,none⟩)] 156->Calls Tryz.prog 184 #[.agg #[p.1,p.2],key,.pointer (some ⟨tb,0,none⟩)] W fun e w'=>e=.returned (.int .i64 (cf i))∧Below W.heap.size W w')
 (hm:∀ a b,a<=b->b<rs.length->cf b<0->cf a<0) (hk:Fnd rs.length cf k) (hp:rs[k]? =some p) (h0:cf k=0):
 Calls Tryz.prog 160 #[.pointer (some ⟨g,0,none⟩),key,fv] w fun e w'=>e=.returned p.2∧Below w.heap.size w w':=by
 have hpl:=placeI_any g cmpv rv key rs cf w hg (CRow.of_owns h) hl hf hm;have hkl:=(List.getElem?_eq_some_iff.1 hp).1;have at1:=rowCs_at rs k 1 p hp (by decide);obtain⟨_,a,cap,rfl,hcap,hmx,hc⟩:=CRow.of_owns h;obtain⟨b,off,rfl,hcell⟩:=hc (by omega);have c1:=hcell _ _ at1;have HK:=Nm.hide hk;have H0:=Nm.hide (And.intro hkl h0);unfold maxLen at hmx;have n1:(0:Int)<=(k:Int):=by omega
 have n2:(k:Int)<(rs.length:Int):=by omega
 clear hf hm hk hp h0 h hcell hc at1;go_enter Tryz.func160,Tryz.ntmps160;go_wp2_with fail
 refine hpl.mono ?_;rintro e w1 ⟨k',hk',rfl,b1⟩;obtain rfl:=Fnd.unique HK.out hk';rw [decide_eq_true H0.out.1,decide_eq_true H0.out.2];have kg:=blk_below hg b1;have rg:=fun i=>blk_cell kg i
 have d1:w1.cell? ⟨b,off+k*2+1,none⟩=some p.2:=(b1.cell (World.block_lt_of_cell? w _ c1)).trans c1;have tt:(true&&true)=true:=rfl;clear hpl hk' c1 H0;go_wp2;go_ret;exact⟨rfl,b1⟩
set_option maxRecDepth 100000 in
set_option maxHeartbeats 3200000 in
theorem valueOfI_out(g B:Nat)(cmpv rv:Value)(kx:Int)(caps:Array Value)(rs:List (Value×Value))(cf:Nat->Int)(k:Nat)(w:World)(ob:Option Nat)(P:Addr->World->World->Prop)(hg:Blk w g #[cmpv,rv] 198)(h:w.ownsRow B 200 2 rv rs.length (rowCs rs))(hl:rs.length<=500000)
 (hf:∀ (tb i:Nat) (p:Value×Value),rs[i]? =some p->∀ W,Below w.heap.size w W->Blk W tb #[.pointer (some ⟨g,0,none⟩)] 156->Calls Tryz.prog 184 #[.agg #[p.1,p.2],(Value.int .i64 kx),.pointer (some ⟨tb,0,none⟩)] W fun e w'=>e=.returned (.int .i64 (cf i))∧Below W.heap.size W w')
 (hm:∀ a b,a<=b->b<rs.length->cf b<0->cf a<0) (hk:Fnd rs.length cf k) (h0:¬(k<rs.length∧cf k=0))
 (h1:∀ p∈rs,p.1.oneCell'=true∧p.2.oneCell'=true) (hB:B<=w.heap.size)
 (hfr:∀ W,Below w.heap.size w W->Calls Tryz.prog 161 caps W fun e w'=>∃ ux:Addr,e=.returned (Value.pointer (some ux))∧W.grownBy w' ob∧P ux W w') (hob:ob≠some g) (hrv:∀ x,rv.ownBlock=some x->ob≠some x):
 Calls Tryz.prog 160 #[.pointer (some ⟨g,0,none⟩),(Value.int .i64 kx),.func (.func 161) #[] caps] w fun e w'=>∃ (ux:Addr) (W w1:World) (rv':Value),e=.returned (Value.pointer (some ux))∧Below w.heap.size w W∧W.grownBy w1 ob∧P ux W w1∧Blk w' g #[cmpv,rv'] 198∧w'.ownsRow B 200 2 rv' (rs.length+1) (rowCs (rs.take k++[((Value.int .i64 kx),(Value.pointer (some ux)))]++rs.drop k))∧Kp2 g rv.ownBlock w1 w'∧(rv'.ownBlock=rv.ownBlock∨∀ x,rv'.ownBlock=some x->w1.heap.size<=x):=by
 have hpl:=placeI_any g cmpv rv (Value.int .i64 kx) rs cf w hg (CRow.of_owns h) (by omega) hf hm;obtain⟨a,cap,rfl⟩:=own_sl h;have HK:=Nm.hide hk
 have H0:Hid ((decide (k<rs.length)&&decide (cf k=0))=false):=by
  show _=_
  rw [Bool.and_eq_false_iff]
  by_cases hx:k<rs.length
  ·exact .inr (decide_eq_false (fun h=>h0 ⟨hx,h⟩))
  ·exact .inl (decide_eq_false hx)
 clear hf hm hk h0;go_enter Tryz.func160,Tryz.ntmps160;go_wp2_with fail
 refine hpl.mono ?_;rintro e w1 ⟨k',hk',rfl,b1⟩;obtain rfl:=Fnd.unique HK.out hk';rw [H0.out];have kg:=blk_below hg b1;have h2:=own_below h b1;have hfr1:=hfr w1.drew b1.drew;have hkn:k<=rs.length:=HK.out.1;have hgw:=blk_lt hg;clear hpl hk' hfr H0 HK;go_wp2;refine wp_region_last (fun W=>W.cell? ⟨g,1,none⟩=some (.slice a rs.length cap)) 14 (by kernel_rfl) (blk_cell kg 1) (fun hHeld=>?_);refine tkA 0 rfl ?_;refine tkA 1 rfl ?_;refine tkA 2 rfl ?_;refine tkA 3 rfl ?_;refine tkA 4 rfl ?_;refine tkA 5 rfl ?_;refine tkA 6 rfl ?_;refine tkA 7 rfl ?_;refine wpAnyL_one (i:=8) (by kernel_rfl) rfl (fun K hK=>?_);go_simp;refine hfr1.mono ?_;rintro e w2 ⟨ux,rfl,hgr,hP⟩;go_wp2_with fail
 have kg2:Blk w2 g #[cmpv,.slice a rs.length cap] 198:=blk_grown (blk_drew kg) hgr (fun e=>hob e)
 have hrr:w2.ownsRow B 200 2 (.slice a rs.length cap) rs.length (rowCs rs):=h2.drew.kept hgr (by
  cases hv:(Value.slice a rs.length cap).ownBlock with
  |none=>exact .inl rfl
  |some x=>right;intro e;exact hrv x hv e.symm)
 refine hK.out _ _ (blk_cell kg2 1) (fun _=>?_);clear hK K hfr1;refine tkA 9 rfl ?_;have hb2:Below w2.heap.size w2 (w2.alloc (.cells #[(Value.int .i64 kx),(Value.pointer (some ux))] 200)):=(Below.refl _ _).alloc (Nat.le_refl _) _;have kg3:=blk_below kg2 hb2;refine wpAnyL_one (i:=10) (by kernel_rfl) rfl (fun K hK=>?_);go_simp;refine hK.out _ _ (blk_cell kg3 1) (fun _=>?_);clear hK K;have hwB:B<=w2.heap.size:=by have:=b1.size;have:=hgr.size;simp at this;omega
 have hins:=insertI_any (.slice a rs.length cap) rs.length k (rowCs rs) (Value.int .i64 kx) (Value.pointer (some ux)) w2.heap.size 1 B _ (own_below hrr hb2) hkn (blk_new w2 #[(Value.int .i64 kx),(Value.pointer (some ux))] 200) (fun e=>by have:=(hrr.lt _ e).2;omega) (rowCs_one h1) rfl rfl (by omega) (by simp;omega);refine wpAnyL_one (i:=11) (by kernel_rfl) rfl (fun K hK=>?_);go_simp;refine hins.mono ?_;rintro e w3 ⟨rv',rfl,ho3,hg3,hat3⟩;go_wp2_with fail
 rw [rowCs_ins] at ho3
 obtain⟨g',cap',rfl⟩:∃ g' cap',rv'=.slice (some ⟨g',0,none⟩) (rs.length+1) cap':=by
  rcases ho3.2 with⟨_,h0⟩|⟨g',cap',cur,e,_⟩
  ·omega
  ·exact⟨g',cap',e⟩
 have hgg:(Value.slice a rs.length cap).ownBlock≠some g:=by
  intro e
  rcases hrr.2 with⟨h0,_⟩|⟨q,c,cur,e1,_,hh,_⟩
  ·simp only [Value.slice.injEq] at h0;rw [h0.1] at e;cases e
  ·simp only [Value.slice.injEq] at e1;rw [e1.1] at e;simp only [Value.ownBlock,Option.some.injEq] at e;subst e;rw [Blk,hh] at kg2;simp only [Option.some.injEq,Obj.cells.injEq] at kg2;exact absurd kg2.2.1 (by decide)
 have kg4:=blk_grown kg3 hg3 hgg;have rg4:=fun i=>blk_cell kg4 i
 have fg4:=fun i=>blk_frozen kg4 i
 refine hK.out _ _ (blk_cell kg4 1) (fun _=>?_);clear hK K hins;refine wpAnyL_one (i:=12) (by kernel_rfl) rfl (fun K hK=>?_);go_simp;refine hK.out _ _ (blk_cell kg4 1) (fun _=>?_);clear hK K;refine tkA 13 rfl ?_;refine wpAnyL_end (by kernel_rfl) rfl (by kernel_rfl) (fun K hK=>?_);go_simp;refine hK.out _ _ ?_;clear hK K
 have hgn:g'≠g:=by
  intro e;subst e
  rcases ho3.2 with⟨h0,_⟩|⟨q,c,cur,e1,_,hh,_⟩
  ·cases h0
  ·simp only [Value.slice.injEq,Option.some.injEq,Addr.mk.injEq] at e1;obtain⟨⟨rfl,_⟩,_⟩:=e1;rw [Blk,hh] at kg4;simp only [Option.some.injEq,Obj.cells.injEq] at kg4;exact absurd kg4.2.1 (by decide)
 have ho4:=own_far (y:=.slice (some ⟨g',0,none⟩) (rs.length+1) cap') (i:=1) (g:=g) ho3 (by simp [Value.ownBlock];exact hgn);have kg5:=blk_set kg4 1 (.slice (some ⟨g',0,none⟩) (rs.length+1) cap');have hlen:(rs.take k++[((Value.int .i64 kx),(Value.pointer (some ux)))]++rs.drop k).length=rs.length+1:=by simp;omega
 have hxk:(rs.take k++[((Value.int .i64 kx),(Value.pointer (some ux)))]++rs.drop k)[k]? =some ((Value.int .i64 kx),(Value.pointer (some ux))):=by
  have hlk:(rs.take k).length=k:=by rw [List.length_take];omega
  rw [List.append_assoc,List.getElem?_append_right (by omega),hlk];simp
 have c1:(w3.setCell ⟨g,1,none⟩ (.slice (some ⟨g',0,none⟩) (rs.length+1) cap')).cell? ⟨g',k*2+1,none⟩=some (Value.pointer (some ux)):=(ho4.cellAt (k*2+1) (by omega)).trans ((rowCs_at _ k 1 _ hxk (by decide)).trans rfl);have c2:(w3.setCell ⟨g,1,none⟩ (.slice (some ⟨g',0,none⟩) (rs.length+1) cap')).cell? ⟨g,1,none⟩=some (.slice (some ⟨g',0,none⟩) (rs.length+1) cap'):=(blk_cell kg5 1).trans (by simp);have n1:(0:Int)<=(k:Int):=by omega
 have n2:(k:Int)<(rs.length:Int)+1:=by omega
 have hKP:Kp2 g (Value.slice a rs.length cap).ownBlock w2 (w3.setCell ⟨g,1,none⟩ (.slice (some ⟨g',0,none⟩) (rs.length+1) cap')):=by
  refine⟨hg3.os,hg3.tape,hg3.output,?_,fun q hq hne hne2=>?_⟩
  ·have:=hg3.size;simp at this ⊢;omega
  ·rw [heap_setCell_other w3 ⟨g,1,none⟩ q _ (by simpa using hne),hg3.block q (by simp;omega) (fun e=>hne2 e.symm)];exact hb2.block q hq
 have HX:=Nm.hide (And.intro b1 (And.intro hgr (And.intro hP (And.intro kg5 (And.intro ho4 (And.intro hKP hat3))))));clear b1 hgr hP kg5 ho4 hKP hat3 ho3 hg3 kg4 kg3 kg2 kg hrr h2 h hg hb2 rg4 fg4 hxk;go_wp2;go_ret
 exact⟨ux,w1.drew,w2,_,rfl,HX.out.1.drew,HX.out.2.1,HX.out.2.2.1,HX.out.2.2.2.1,HX.out.2.2.2.2.1,HX.out.2.2.2.2.2.1,by
  rcases HX.out.2.2.2.2.2.2 with h|h
  ·exact .inl h
  ·exact .inr (fun x e=>by have:=h x e;simp at this;omega)⟩
theorem Tryz.infoRrq:(Tryz.prog.info? 56).map (fun i=>(i.zero,i.size,i.bytes))=some (some (.agg #[.string ByteArray.empty,.int .i64 0,.int .i64 0,.int .i64 0,.string ByteArray.empty]),5,56):=by kernel_rfl
set_option maxRecDepth 100000 in
set_option maxHeartbeats 3200000 in
theorem l06SetRecords_any(s:Sz)(dv:Value)(w:World)(h:Nm.SRow w dv s.da)(hl:s.da.length<=1048576):
 Calls Tryz.prog 78 #[.agg #[.string s.own,.int .i64 s.ty,.int .i64 s.tt,dv]] w fun e w'=>∃ u,e=.returned u∧w'.ownsRow w.heap.size 56 5 u (recsOf s).length (rvVs (recsOf s))∧Below w.heap.size w w':=by
 obtain⟨i0,hi,hz0,hz1,hz2⟩:=info_parts Tryz.infoRrq;have hrl:=recsOf_len s;have hget:=fun(k:Nat) (d:ByteArray) (h:s.da[k]? =some d)=>recsOf_get (s:=s) h
 generalize recsOf s=rs at*;obtain⟨o,ty,tt,da⟩:=s;simp only at*
 have hB0:=(Below.refl w.heap.size w).alloc (Nat.le_refl _) (.cells #[.string o,.int .i64 ty,.int .i64 tt,dv] 90);have hrow:=h.below hB0;have hbx:=blk_new w #[.string o,.int .i64 ty,.int .i64 tt,dv] 90;obtain⟨a,cap,rfl,hcap,hmx,hnl,hc⟩:=hrow;clear h;unfold maxLen at hmx;go_enter Tryz.func78,Tryz.ntmps78;go_wp2;have hsz0:(w.alloc (.cells #[.string o,.int .i64 ty,.int .i64 tt,.slice a da.length cap] 90)).heap.size=w.heap.size+1:=by simp
 generalize w.alloc (.cells #[.string o,.int .i64 ty,.int .i64 tt,.slice a da.length cap] 90)=w0 at*;have o0:=World.ownsRow_lit (base:=w0.heap.size) (e:=56) (size:=5) w0 #[] 0 (Nat.le_refl _) (by decide) rfl
 have hall:∀ W,Below w0.heap.size w0 W->∀ (k:Nat) (x:ByteArray),da[k]? =some x->∃ b off,a=some ⟨b,off,none⟩∧W.cell? ⟨b,off+k,none⟩=some (.string x):=by
  intro W hW k x hx;obtain⟨b,off,rfl,hcell⟩:=hc (by intro h;rw [h] at hx;simp at hx);have h0:=hcell k x hx;exact⟨b,off,rfl,(hW.cell (World.block_lt_of_cell? w0 _ h0)).trans h0⟩
 have hbox:∀ W,Below w0.heap.size w0 W->W.cell? ⟨w.heap.size,0,none⟩=some (.string o)∧W.cell? ⟨w.heap.size,1,none⟩=some (.int .i64 ty)∧W.cell? ⟨w.heap.size,2,none⟩=some (.int .i64 tt)∧W.cell? ⟨w.heap.size,3,none⟩=some (.slice a da.length cap):=by
  intro W hW;have hb:=blk_below hbx hW;exact⟨(blk_cell hb 0).trans rfl,(blk_cell hb 1).trans rfl,(blk_cell hb 2).trans rfl,(blk_cell hb 3).trans rfl⟩
 clear hc hbx
 go_loopw [3,4] (fun vo vi wr=>∃ k:Nat,k<=da.length∧vi=.int .i64 k∧wr.ownsRow w0.heap.size 56 5 vo k (rvVs (rs.take k))∧Below w0.heap.size w0 wr) (fun _ vi _=>da.length-(intOf vi).toNat)
 case atStart=>exact⟨0,Nat.zero_le _,rfl,by rw [<- hsz0];exact o0,(Below.refl _ _).alloc (Nat.le_refl _) _⟩
 case round=>
  obtain⟨k,hk,rfl,oO,hbel⟩:=hrel;clear o0;obtain⟨q0,q1,q2,q3⟩:=hbox wr hbel
  by_cases hlt:k<da.length
  ·obtain⟨x,hx⟩:∃ x,da[k]? =some x:=⟨_,List.getElem?_eq_getElem hlt⟩;obtain⟨b,off,rfl,_⟩:=hall wr hbel k x hx
   have hcx:∀ W,Below w0.heap.size w0 W->W.cell? ⟨w.heap.size,0,none⟩=some (.string o)∧W.cell? ⟨w.heap.size,1,none⟩=some (.int .i64 ty)∧W.cell? ⟨w.heap.size,2,none⟩=some (.int .i64 tt)∧W.cell? ⟨w.heap.size,3,none⟩=some (.slice (some ⟨b,off,none⟩) da.length cap)∧W.cell? ⟨b,off+k,none⟩=some (.string x):=by
    intro W hW;obtain⟨y0,y1,y2,y3⟩:=hbox W hW;obtain⟨b',off',he,hcc⟩:=hall W hW k x hx;cases he
    exact⟨y0,y1,y2,y3,hcc⟩
   have HT:Hid (rvVs (rs.take k)++[.string o,.int .i64 ty,.int .i64 1,.int .i64 tt,.string x]=rvVs (rs.take (k+1))):=by
    show _=_
    rw [hget k x hx,rvVs_app];rfl
   have i1:(0:Int)<=(k:Int):=by omega
   have i2:(k:Int)<(da.length:Int):=by omega
   clear hall hbox hget hx;go_wp2_with fail
   refine wp_region_held_drew (S:=fun W=>Below w0.heap.size w0 W) (by kernel_rfl) hbel.drew (fun hHeld=>?_);clear q0 q1 q2 q3;refine wpAnyH_take (i:=0) (v:=?_) rfl (by kernel_rfl) (by kernel_rfl) (by kernel_rfl) (fun _ _ _ h=>h) (Or.inl ⟨by rfl,?_⟩) (by assumption) ?_;rotate_left 1
   ·(intro W hSW;obtain⟨z0,z1,z2,z3,z4⟩:=hcx W hSW;go_simp;try (with_reducible rfl))
   refine wpAnyH_take (i:=1) (v:=?_) rfl (by kernel_rfl) (by kernel_rfl) (by kernel_rfl) (fun _ _ _ h=>h) (Or.inl ⟨by rfl,?_⟩) (by assumption) ?_;rotate_left 1
   ·(intro W hSW;obtain⟨z0,z1,z2,z3,z4⟩:=hcx W hSW;go_simp;try (with_reducible rfl))
   refine wpAnyH_take (i:=2) (v:=?_) rfl (by kernel_rfl) (by kernel_rfl) (by kernel_rfl) (fun _ _ _ h=>h) (Or.inl ⟨by rfl,?_⟩) (by assumption) ?_;rotate_left 1
   ·(intro W hSW;obtain⟨z0,z1,z2,z3,z4⟩:=hcx W hSW;go_simp;try (with_reducible rfl))
   refine wpAnyH_take (i:=3) (v:=?_) rfl (by kernel_rfl) (by kernel_rfl) (by kernel_rfl) (fun _ _ _ h=>h) (Or.inl ⟨by rfl,?_⟩) (by assumption) ?_;rotate_left 1
   ·(intro W hSW;obtain⟨z0,z1,z2,z3,z4⟩:=hcx W hSW;go_simp;try (with_reducible rfl))
   refine wpAnyH_take (i:=4) (v:=?_) rfl (by kernel_rfl) (by kernel_rfl) (by kernel_rfl) (fun _ _ _ h=>h) (Or.inl ⟨by rfl,?_⟩) (by assumption) ?_;rotate_left 1
   ·(intro W hSW;obtain⟨z0,z1,z2,z3,z4⟩:=hcx W hSW;go_simp;try (with_reducible rfl))
   refine wpAnyH_take (i:=5) (v:=?_) rfl (by kernel_rfl) (by kernel_rfl) (by kernel_rfl) (fun _ _ _ h=>h) (Or.inl ⟨by rfl,?_⟩) (by assumption) ?_;rotate_left 1
   ·(intro W hSW;obtain⟨z0,z1,z2,z3,z4⟩:=hcx W hSW;go_simp;try (with_reducible rfl))
   refine wpAnyH_take (i:=6) (v:=?_) rfl (by kernel_rfl) (by kernel_rfl) (by kernel_rfl) (fun _ _ _ h=>h) (Or.inl ⟨by rfl,?_⟩) (by assumption) ?_;rotate_left 1
   ·(intro W hSW;obtain⟨z0,z1,z2,z3,z4⟩:=hcx W hSW;go_simp;try (with_reducible rfl))
   refine wpAnyH_take (i:=7) (v:=?_) rfl (by kernel_rfl) (by kernel_rfl) (by kernel_rfl) (fun _ _ _ h=>h) (Or.inl ⟨by rfl,?_⟩) (by assumption) ?_;rotate_left 1
   ·(intro W hSW;obtain⟨z0,z1,z2,z3,z4⟩:=hcx W hSW;go_simp;try (with_reducible rfl))
   refine wpAnyH_take (i:=8) (v:=?_) rfl (by kernel_rfl) (by kernel_rfl) (by kernel_rfl) (fun _ _ _ h=>h) (Or.inl ⟨by rfl,?_⟩) (by assumption) ?_;rotate_left 1
   ·(intro W hSW;obtain⟨z0,z1,z2,z3,z4⟩:=hcx W hSW;go_simp;try (with_reducible rfl))
   refine wpAnyH_take (i:=9) (v:=?_) rfl (by kernel_rfl) (by kernel_rfl) (by kernel_rfl) (fun _ _ _ h=>h) (Or.inl ⟨by rfl,?_⟩) (by assumption) ?_;rotate_left 1
   ·(intro W hSW;obtain⟨z0,z1,z2,z3,z4⟩:=hcx W hSW;go_simp;try (with_reducible rfl))
   refine wpAnyH_take (i:=10) (v:=?_) rfl (by kernel_rfl) (by kernel_rfl) (by kernel_rfl) (fun _ _ _ h=>h) (Or.inl ⟨by rfl,?_⟩) (by assumption) ?_;rotate_left 1
   ·(intro W hSW;obtain⟨z0,z1,z2,z3,z4⟩:=hcx W hSW;go_simp;try (with_reducible rfl))
   refine wpAnyH_take (i:=11) (v:=?_) rfl (by kernel_rfl) (by kernel_rfl) (by kernel_rfl) (fun _ _ _ h=>h) (Or.inl ⟨by rfl,?_⟩) (by assumption) ?_;rotate_left 1
   ·(intro W hSW;obtain⟨z0,z1,z2,z3,z4⟩:=hcx W hSW;go_simp;try (with_reducible rfl))
   refine wpAnyH_take (i:=12) (v:=?_) rfl (by kernel_rfl) (by kernel_rfl) (by kernel_rfl) (fun _ _ _ h=>h) (Or.inl ⟨by rfl,?_⟩) (by assumption) ?_;rotate_left 1
   ·(intro W hSW;obtain⟨z0,z1,z2,z3,z4⟩:=hcx W hSW;go_simp;try (with_reducible rfl))
   refine wpAnyH_ready (rs:=[13]) (by kernel_rfl) (by simp) ?_;refine AllReadyH.cons rfl (fun K hK=>?_) AllReadyH.nil;go_simp;refine hK.out _ _ (hHeld.alloc hHeld.size _) (fun _=>?_);clear hK K;refine wpAnyH_ready (rs:=[14]) (by kernel_rfl) (by simp) ?_;refine AllReadyH.cons rfl (fun K hK=>?_) AllReadyH.nil;refine step_append_own rfl (.tmp 13) (.tmp 26) 28 rfl w0.heap.size 56 i0 _ 5 56 Tryz.underlying28 hi hz0 hz1 hz2 rfl (by decide) _ _ _ (by rfl) (own_below oO ((Below.refl _ _).drew.alloc (Nat.le_refl _) _)) ⟨wr.drew.heap.size,0,none⟩ 1 1 [.string o,.int .i64 ty,.int .i64 1,.int .i64 tt,.string x] (by rfl) rfl (cell_newV _ _ _) (by intro u hu;simp at hu;rcases hu with rfl|rfl|rfl|rfl|rfl<;>rfl) (by unfold maxLen;omega) (by omega) (by have:=hHeld.size;simp at this ⊢;omega) ?_;intro va wa hown' hgrow _;rw [HT.out] at hown';have b4:Below w0.heap.size w0 wa:=(hHeld.alloc hHeld.size _).grown hgrow (by have:=hHeld.size;simp at this ⊢;omega) (fun k hk=>(oO.lt k hk).1);refine hK.out _ _ b4 (fun _=>?_);clear hK K hgrow oO hHeld;refine wpAnyH_take (i:=15) (v:=?_) rfl (by kernel_rfl) (by kernel_rfl) (by kernel_rfl) (fun _ _ _ h=>h) (Or.inl ⟨by rfl,?_⟩) (by assumption) ?_;rotate_left 1
   ·(intro W hSW;obtain⟨z0,z1,z2,z3,z4⟩:=hcx W hSW;go_simp;try (with_reducible rfl))
   refine wpAnyH_done (by kernel_rfl) ?_ _;obtain⟨z0,z1,z2,z3,z4⟩:=hcx _ b4;go_wp2;go_roundw
   case rel=>exact⟨k+1,by omega,by go_num,hown',b4⟩
   case measure=>simp [intOf];omega
  ·have hkl:k=da.length:=by omega
   subst hkl;have i2:(da.length:Int)<=(da.length:Int):=by omega
   clear hall hbox hget;rw [List.take_of_length_le (by omega)] at oO;go_wp2;go_ret;refine⟨_,rfl,?_,Nm.below_two hB0 hbel⟩;rw [hrl];exact own_base oO hB0.size
set_option maxRecDepth 100000 in
set_option maxHeartbeats 3200000 in
theorem l06Join_any(a b:Value)(xs ys:List Rr)(B B2:Nat)(w:World)(h:w.ownsRow B 56 5 a xs.length (rvVs xs))(h':w.ownsRow B2 56 5 b ys.length (rvVs ys))(hB:B<=w.heap.size)(hlt:∀ g,a.ownBlock=some g->g<B2)(hn:xs.length+ys.length<=2000000):
 Calls Tryz.prog 50 #[a,b] w fun e w'=>∃ u,e=.returned u∧w'.ownsRow B 56 5 u (xs++ys).length (rvVs (xs++ys))∧Below B w w':=by
 obtain⟨i0,hi,hz0,hz1,hz2⟩:=info_parts Tryz.infoRrq;obtain⟨ba,bc,rfl⟩:=own_sl h';go_enter Tryz.func50,Tryz.ntmps50;go_wp2
 go_loopw [0,5] (fun vo vi wr=>∃ k:Nat,k<=ys.length∧vi=.int .i64 k∧wr.ownsRow B 56 5 vo (xs.length+k) (rvVs (xs++ys.take k))∧wr.ownsRow B2 56 5 (.slice ba ys.length bc) ys.length (rvVs ys)∧(∀ g,vo.ownBlock=some g->(Value.slice ba ys.length bc).ownBlock≠some g)∧B<=wr.heap.size∧Below B w wr) (fun _ vi _=>ys.length-(intOf vi).toNat)
 case atStart=>
  refine⟨0,Nat.zero_le _,rfl,by simpa using h,h',fun g hg e=>?_,hB,Below.refl _ _⟩;have h1:=hlt g hg;have h2:=(h'.lt g e).1;omega
 case round=>
  obtain⟨k,hk,rfl,oO,oY,hap,hBw,hbel⟩:=hrel;clear h h' hlt hB
  by_cases hlt:k<ys.length
  ·obtain⟨x,hx⟩:∃ x,ys[k]? =some x:=⟨_,List.getElem?_eq_getElem hlt⟩;obtain⟨_,ya,yc,hyv,hycap,hymx,hyc⟩:=CRow.of_owns oY;simp only [Value.slice.injEq] at hyv;obtain⟨rfl,_,rfl⟩:=hyv;obtain⟨b,off,rfl,hcell⟩:=hyc (by omega);obtain⟨c0,c1,c2,c3,c4⟩:=rv_cells hcell hx
   have HT:Hid (rvVs (xs++ys.take k)++[.string x.own,.int .i64 x.ty,.int .i64 x.cl,.int .i64 x.tt,.string x.da]=rvVs (xs++ys.take (k+1))):=by
    show _=_
    rw [List.take_add_one,hx,<- List.append_assoc,rvVs_app (xs++ys.take k)];rfl
   have i1:(0:Int)<=(k:Int):=by omega
   have i2:(k:Int)<(ys.length:Int):=by omega
   clear hcell hyc hx;obtain⟨o,ty,cl,tt,da⟩:=x;simp only at c0 c1 c2 c3 c4 HT
   obtain⟨oa,oc,hov⟩:=own_sl oO;subst hov;go_wp2_with (at_builtin;refine wpList_append_own_at _ rfl (.tmp 12) (.tmp 17) 28 rfl B 56 i0 _ 5 56 Tryz.underlying28 hi hz0 hz1 hz2 rfl (by decide) (.slice oa (xs.length+k) oc) (xs.length+k) (rvVs (xs++ys.take k)) rfl (own_below oO ((Below.refl _ _).alloc (Nat.le_refl _) _)) ⟨wr.heap.size,0,none⟩ 1 1 [.string o,.int .i64 ty,.int .i64 cl,.int .i64 tt,.string da] rfl rfl (cell_newV _ _ _) (by intro u hu;simp at hu;rcases hu with rfl|rfl|rfl|rfl|rfl<;>rfl) (by unfold maxLen;omega) (by omega) (by simp;omega) ?_;intro va wa ho9 hg9 hnl9 hat9)
   rw [HT.out] at ho9;have oY2:=own_below oY ((Below.refl _ _).alloc (Nat.le_refl _) (.cells #[.string o,.int .i64 ty,.int .i64 cl,.int .i64 tt,.string da] 56))
   have oY3:wa.ownsRow B2 56 5 (.slice (some ⟨b,off,none⟩) ys.length bc) ys.length (rvVs ys):=by
    refine oY2.kept hg9 ?_
    cases hoa:(Value.slice oa (xs.length+k) oc).ownBlock with
    |none=>right;simp [Value.ownBlock]
    |some g=>right;exact hap g hoa
   have hlty:=(oY.lt b rfl).2
   have hap2:∀ g,va.ownBlock=some g->(Value.slice (some ⟨b,off,none⟩) ys.length bc).ownBlock≠some g:=by
    intro g hg
    rcases hat9 with h9|h9
    ·exact hap g (by rw [<- h9];exact hg)
    ·rw [h9] at hg;simp only [Option.some.injEq,Value.ownBlock,ne_eq] at hg ⊢;simp at hg;omega
   have b4:Below B w wa:=(hbel.alloc hBw _).grown hg9 (by simp;omega) (fun g hg=>(oO.lt g hg).1);have hB4:B<=wa.heap.size:=by have:=hg9.size;simp at this;omega
   clear hat9 hnl9 hg9 oY oY2 oO hap;go_wp2;go_roundw
   case rel=>exact⟨k+1,by omega,by go_num,ho9,oY3,hap2,hB4,b4⟩
   case measure=>simp [intOf];omega
  ·have hkl:k=ys.length:=by omega
   subst hkl;have i2:(ys.length:Int)<=(ys.length:Int):=by omega
   rw [List.take_length] at oO;clear oY hap;go_wp2;go_ret;refine⟨_,rfl,?_,hbel⟩;rw [List.length_append];exact oO
set_option maxRecDepth 100000 in
set_option maxHeartbeats 1600000 in
theorem l06Count_any(o:ByteArray)(v:Value)(ps:List Zp)(w:World)(h:ZRow w v ps)(hs:zsum ps<=1048576)(hl:ps.length<=1048576):
 Calls Tryz.prog 45 #[.agg #[.string o,v]] w fun e w'=>e=.returned (.int .i64 (dsum ps:Int))∧Below w.heap.size w w':=by
 have hds:=dsum_le ps;have hB0:=(Below.refl w.heap.size w).alloc (Nat.le_refl _) (.cells #[.string o,v] 33);have hbx:=blk_new w #[.string o,v] 33;obtain⟨⟨_,a,cap,rfl,hcap,hmx,hc⟩,hd⟩:=h;unfold maxLen at hmx;have hb1:=(blk_cell hbx 1).trans rfl;go_enter Tryz.func45,Tryz.ntmps45;go_wp2
 go_loop [3,4] (fun t i=>∃ k:Nat,k<=ps.length∧i=.int .i64 k∧t=.int .i64 (dsum (ps.take k):Int)) (fun _ i=>ps.length-(intOf i).toNat)
 case atStart=>exact⟨0,Nat.zero_le _,rfl,by simp [dsum]⟩
 case round=>
  obtain⟨k,hk,rfl,rfl⟩:=hrel
  by_cases hlt:k<ps.length
  ·obtain⟨x,hxk⟩:∃ x,ps[k]? =some x:=⟨_,List.getElem?_eq_getElem hlt⟩;obtain⟨b,off,rfl,hcell⟩:=hc (by omega);obtain⟨c0,c1,c2,c3⟩:=zp_cells hcell hxk;have c3':=(hB0.cell (World.block_lt_of_cell? w _ c3)).trans c3;have HS:=dsum_step ps k x hxk;have hs1:=dsum_take_le ps (k+1);obtain⟨da',dc,hdv,_⟩:=hd x (List.mem_of_getElem? hxk);have i1:(0:Int)<=(k:Int):=by omega
   have i2:(k:Int)<(ps.length:Int):=by omega
   have hfin:((dsum (ps.take (k+1)):Nat):Int)=(dsum (ps.take k):Int)+(x.1.da.length:Int):=by omega
   have hbd:(dsum (ps.take k):Int)+(x.1.da.length:Int)<=1048576:=by omega
   clear hxk hcell hc hd;obtain⟨⟨o1,ty,tt,da⟩,dv⟩:=x;simp only at c3' hdv hfin hbd
   subst hdv;generalize hz:dsum (ps.take (k+1))=z1 at*;generalize dsum (ps.take k)=z0 at*;go_wp2
   go_round
   case rel=>exact⟨k+1,by omega,by go_num,by rw [hz,hfin]⟩
   case measure=>simp [intOf];omega
  ·have hkl:k=ps.length:=by omega
   subst hkl;clear hc hd;have i2:(ps.length:Int)<=(ps.length:Int):=by omega
   rw [List.take_length];go_wp2;go_ret;exact⟨rfl,hB0⟩
end Go.Proofs.YtgilkakllagbnaaGreat
