import Derived.Test.YtaceiajcecaapaaGreatJZnM
import Derived.Test.YtaceiajcecaapaaGreatJCRow
import Derived.Deep.RegionHeld3
import Derived.RangeFuncNested
import Derived.RangeFuncBound
import Derived.RangeFuncCalls
import Derived.RangeFuncLeaves
import Derived.Shelf.Abstract
import Derived.Shelf.RegionOpen
import Derived.WalkKit
import Derived.OwnWalkIn
import Derived.TacticsInMore
import Derived.LoopNIn
import Derived.LoopIn
import Derived.RegionTactic
namespace Go.Proofs.YtaceiajcecaapaaGreat
open Go.RowKit
set_option linter.unusedVariables false
theorem newTableL_any(fn:Fn)(w:World):Calls Tryz.prog 103 #[.func fn #[] #[]] w fun e w'=>e=.returned (ptr w.heap.size)∧w'=w.alloc (.cells #[.func fn #[] #[],.slice none 0 0] 163):=by
 go_enter Tryz.func103,Tryz.ntmps103;go_wp2;go_ret;exact⟨rfl,rfl⟩
theorem newTableI_any(fn:Fn)(w:World):Calls Tryz.prog 144 #[.func fn #[] #[]] w fun e w'=>e=.returned (ptr w.heap.size)∧w'=w.alloc (.cells #[.func fn #[] #[],.slice none 0 0] 170):=by
 go_enter Tryz.func144,Tryz.ntmps144;go_wp2;go_ret;exact⟨rfl,rfl⟩
theorem newTableS_any(fn:Fn)(w:World):Calls Tryz.prog 148 #[.func fn #[] #[]] w fun e w'=>e=.returned (ptr w.heap.size)∧w'=w.alloc (.cells #[.func fn #[] #[],.slice none 0 0] 233):=by
 go_enter Tryz.func148,Tryz.ntmps148;go_wp2;go_ret;exact⟨rfl,rfl⟩
def NewO(own:ByteArray)(lv:Value)(ux:Addr)(W w':World):Prop:=∃ hd ob,ux=⟨ob,0,none⟩∧W.heap.size<=hd∧W.heap.size<=ob∧hd≠ob∧Blk w' hd #[cmpIv,.slice none 0 0] 170∧Blk w' ob #[.string own,lv,ptr hd] 115
def NewS(tt:Int)(at_:Nat)(ux:Addr)(W w':World):Prop:=∃ hd sb,ux=⟨sb,0,none⟩∧W.heap.size<=hd∧W.heap.size<=sb∧hd≠sb∧Blk w' hd #[cmpSv,.slice none 0 0] 233∧Blk w' sb #[.int .i64 tt,.int .i64 (at_:Int),ptr hd] 154
theorem grown_of_below{w w':World}(h:Below w.heap.size w w'):w.grownBy w' none:=⟨h.os,h.tape,h.output,h.size,fun k hk _=>h.block k hk⟩
set_option maxRecDepth 100000 in
set_option maxHeartbeats 1600000 in
theorem lay1_any(rb lb:Nat)(own:ByteArray)(r1 r2 r3 r4:Value)(la:Option Addr)(ln lc:Nat)(w:World)(kr:Blk w rb #[.string own,r1,r2,r3,r4] 47)(kl:Blk w lb #[.slice la ln lc] 68)(hs:own.size<=1000000000):
 Calls Tryz.prog 143 #[ptr rb,ptr lb] w fun e w'=>∃ ux:Addr,e=.returned (.pointer (some ux))∧w.grownBy w' none∧NewO own (.slice la ln lc) ux w w':=by
 have hnt:=newTableI_any (.func 145) w;have hB1:=(Below.refl w.heap.size w).alloc (Nat.le_refl _) (.cells #[.func (.func 145) #[] #[],.slice none 0 0] 170);have kh:=blk_new w #[.func (.func 145) #[] #[],.slice none 0 0] 170;have hcl:=fun W=>clone_any own W hs
 unfold ptr;go_enter Tryz.func143,Tryz.ntmps143;go_wp2_with fail
 refine hnt.mono ?_;rintro e w1 ⟨rfl,hw1⟩;rw [<- hw1] at hB1 kh;unfold ptr;have hS:∀ W,Below w1.heap.size w1 W->W.cell? ⟨rb,0,none⟩=some (.string own)∧W.cell? ⟨lb,0,none⟩=some (.slice la ln lc):=fun W hW=>⟨blk_cell (blk_below (blk_below kr hB1) hW) 0,blk_cell (blk_below (blk_below kl hB1) hW) 0⟩
 have hsz1:w1.heap.size=w.heap.size+1:=by rw [hw1];simp
 clear hnt hw1;go_wp2;refine wp_region_last (fun W=>W.cell? ⟨rb,0,none⟩=some (.string own)∧W.cell? ⟨lb,0,none⟩=some (.slice la ln lc)) 1000 (by kernel_rfl) (hS _ (Below.refl _ _).drew) (fun hHeld=>?_);refine tkL (i:=0) (v:=?_) rfl ?_ ?_;rotate_left 1
 ·(intro W hSW;obtain⟨z0,z1⟩:=hSW;go_simp;try (with_reducible rfl))
 refine tkL (i:=1) (v:=?_) rfl ?_ ?_;rotate_left 1
 ·(intro W hSW;obtain⟨z0,z1⟩:=hSW;go_simp;try (with_reducible rfl))
 refine tkL (i:=3) (v:=?_) rfl ?_ ?_;rotate_left 1
 ·(intro W hSW;obtain⟨z0,z1⟩:=hSW;go_simp;try (with_reducible rfl))
 refine tkL (i:=4) (v:=?_) rfl ?_ ?_;rotate_left 1
 ·(intro W hSW;obtain⟨z0,z1⟩:=hSW;go_simp;try (with_reducible rfl))
 refine wpAnyL_one (i:=2) (by kernel_rfl) rfl (fun K hK=>?_);go_simp;refine(hcl _).mono ?_;rintro e w2 ⟨rfl,b2⟩;go_wp2_with fail
 have b12:Below w1.heap.size w1 w2:=Nm.below_two (Below.refl _ _).drew b2;refine hK.out _ _ (hS _ b12) (fun _=>?_);clear hK K hcl;refine tkL (i:=5) (v:=?_) rfl ?_ ?_;rotate_left 1
 ·(intro W hSW;obtain⟨z0,z1⟩:=hSW;go_simp;try (with_reducible rfl))
 refine wpAnyL_one (i:=6) (by kernel_rfl) rfl (fun K hK=>?_);go_simp;refine hK.out _ _ (hS _ (b12.alloc b12.size _)) (fun _=>?_);clear hK K;refine tkL (i:=7) (v:=?_) rfl ?_ ?_;rotate_left 1
 ·(intro W hSW;obtain⟨z0,z1⟩:=hSW;go_simp;try (with_reducible rfl))
 refine wpAnyL_done (by kernel_rfl) ?_;have kh2:=blk_alloc (blk_below kh b12) (.cells #[.string own,.slice la ln lc,.pointer (some ⟨w.heap.size,0,none⟩)] 115);have ko:=blk_new w2 #[.string own,.slice la ln lc,.pointer (some ⟨w.heap.size,0,none⟩)] 115;have bF:=(Nm.below_two hB1 b12).alloc (Nm.below_two hB1 b12).size (.cells #[.string own,.slice la ln lc,.pointer (some ⟨w.heap.size,0,none⟩)] 115);have hsz2:=b12.size;have HX:=Nm.hide (And.intro kh2 (And.intro ko bF));clear kh2 ko bF b12 b2 hS kh hB1 kr kl;go_wp2;go_ret;exact⟨⟨w2.heap.size,0,none⟩,rfl,grown_of_below HX.out.2.2,w.heap.size,w2.heap.size,rfl,Nat.le_refl _,by omega,by omega,HX.out.1,HX.out.2.1⟩
set_option maxRecDepth 100000 in
set_option maxHeartbeats 1600000 in
theorem lay2_any(rb ab at_:Nat)(tt:Int)(r0 r1 r2 r4:Value)(w:World)(kr:Blk w rb #[r0,r1,r2,.int .i64 tt,r4] 47)(ka:Blk w ab #[.int .i64 (at_:Int)] 3):
 Calls Tryz.prog 147 #[ptr rb,ptr ab] w fun e w'=>∃ ux:Addr,e=.returned (.pointer (some ux))∧w.grownBy w' none∧NewS tt at_ ux w w':=by
 have hnt:=fun W=>newTableS_any (.func 149) W
 have hS:∀ W,Below w.heap.size w W->W.cell? ⟨rb,3,none⟩=some (.int .i64 tt)∧W.cell? ⟨ab,0,none⟩=some (.int .i64 (at_:Int)):=fun W hW=>⟨blk_cell (blk_below kr hW) 3,blk_cell (blk_below ka hW) 0⟩
 unfold ptr;go_enter Tryz.func147,Tryz.ntmps147;go_wp2;refine wp_region_last (fun W=>W.cell? ⟨rb,3,none⟩=some (.int .i64 tt)∧W.cell? ⟨ab,0,none⟩=some (.int .i64 (at_:Int))) 1000 (by kernel_rfl) (hS _ (Below.refl _ _).drew) (fun hHeld=>?_);refine tkL (i:=0) (v:=?_) rfl ?_ ?_;rotate_left 1
 ·(intro W hSW;obtain⟨z0,z1⟩:=hSW;go_simp;try (with_reducible rfl))
 refine tkL (i:=1) (v:=?_) rfl ?_ ?_;rotate_left 1
 ·(intro W hSW;obtain⟨z0,z1⟩:=hSW;go_simp;try (with_reducible rfl))
 refine tkL (i:=2) (v:=?_) rfl ?_ ?_;rotate_left 1
 ·(intro W hSW;obtain⟨z0,z1⟩:=hSW;go_simp;try (with_reducible rfl))
 refine wpAnyL_one (i:=3) (by kernel_rfl) rfl (fun K hK=>?_);go_simp;refine(hnt _).mono ?_;rintro e w1 ⟨rfl,hw1⟩;have hB1:Below w.heap.size w w1:=by rw [hw1];exact(Below.refl w.heap.size w).drew.alloc (Nat.le_refl _) _
 have kh:Blk w1 w.heap.size #[.func (.func 149) #[] #[],.slice none 0 0] 233:=by rw [hw1];exact blk_new w.drew _ _
 have HZ1:Hid (w1.heap.size=w.heap.size+1):=by show _=_;rw [hw1];simp
 clear hw1;unfold ptr;go_wp2_with fail
 refine hK.out _ _ (hS _ hB1) (fun _=>?_);clear hK K hnt;refine tkL (i:=4) (v:=?_) rfl ?_ ?_;rotate_left 1
 ·(intro W hSW;obtain⟨z0,z1⟩:=hSW;go_simp;try (with_reducible rfl))
 refine wpAnyL_one (i:=5) (by kernel_rfl) rfl (fun K hK=>?_);go_simp;refine hK.out _ _ (hS _ (hB1.alloc hB1.size _)) (fun _=>?_);clear hK K;refine tkL (i:=6) (v:=?_) rfl ?_ ?_;rotate_left 1
 ·(intro W hSW;obtain⟨z0,z1⟩:=hSW;go_simp;try (with_reducible rfl))
 refine wpAnyL_done (by kernel_rfl) ?_;have kh2:=blk_alloc kh (.cells #[.int .i64 tt,.int .i64 (at_:Int),.pointer (some ⟨w.heap.size,0,none⟩)] 154);have ko:=blk_new w1 #[.int .i64 tt,.int .i64 (at_:Int),.pointer (some ⟨w.heap.size,0,none⟩)] 154;have bF:=hB1.alloc hB1.size (.cells #[.int .i64 tt,.int .i64 (at_:Int),.pointer (some ⟨w.heap.size,0,none⟩)] 154);have HX:=Nm.hide (And.intro kh2 (And.intro ko bF));clear kh2 ko bF hS kh hB1 kr ka;go_wp2;go_ret;exact⟨⟨w1.heap.size,0,none⟩,rfl,grown_of_below HX.out.2.2,w.heap.size,w1.heap.size,rfl,Nat.le_refl _,by have:=HZ1.out;omega,by have:=HZ1.out;omega,HX.out.1,HX.out.2.1⟩
set_option maxRecDepth 100000 in
set_option maxHeartbeats 1600000 in
theorem lay3_any(nb rb:Nat)(b0:Bool)(da:ByteArray)(r0 r1 r2 r3:Value)(w:World)(kn:Blk w nb #[.bool b0] 4)(kr:Blk w rb #[r0,r1,r2,r3,.string da] 47)(hs:da.size<=1000000000):
 Calls Tryz.prog 151 #[ptr nb,ptr rb] w fun e w'=>∃ ux:ByteArray,e=.returned (.string ux)∧w.grownBy w' (some nb)∧ux=da∧Blk w' nb #[.bool true] 4:=by
 have hcl:=fun W=>clone_any da W hs
 have hne:nb≠rb:=by
  intro e;subst e;rw [Blk,kn] at kr;simp only [Option.some.injEq,Obj.cells.injEq] at kr;exact absurd kr.2.1 (by decide)
 have rn:=fun i=>blk_cell kn i
 have fn:=fun i=>blk_frozen kn i
 have kn2:=blk_set kn 0 (.bool true);have kr2:=blk_far (v:=.bool true) (i:=0) kr (Ne.symm hne);have c2:=fun i=>blk_cell kr2 i
 have hg:w.grownBy (w.setCell ⟨nb,0,none⟩ (.bool true)) (some nb):=⟨rfl,rfl,rfl,by simp,fun k _ hk=>heap_setCell_other w ⟨nb,0,none⟩ k _ (fun e=>hk (by rw [e]))⟩;unfold ptr;go_enter Tryz.func151,Tryz.ntmps151;go_wp2_with fail
 refine(hcl _).mono ?_;rintro e w1 ⟨rfl,b1⟩;have kn3:=blk_below kn2 b1;have HX:=Nm.hide (And.intro (hgr_below hg b1) kn3);clear hg kn3 kn2 kr2 c2 b1;go_wp2;go_ret;exact⟨da,rfl,HX.out.1,rfl,HX.out.2⟩
end Go.Proofs.YtaceiajcecaapaaGreat
namespace Go.Proofs.YtaceiajcecaapaaGreat
open Go.RowKit Go.Shelf
set_option linter.unusedVariables false
attribute [local go_sem] Oper.semAt_some
set_option maxRecDepth 100000 in
set_option maxHeartbeats 2000000 in
theorem all1S_in{α:Type}(kf vf:α->ByteArray)(F:Fence)(n:Nat)(h7:F.fn 181)(hro:F.round=none)(hn:1<=n)(l tb g n₀ b off cap:Nat)(cmpv:Value)(zs:List α)(hl:zs.length<=1000000)(hcap:zs.length<=cap∧cap<=maxLen)(hb:b<n₀)(J Jx:List α->World->Prop)
 (hJ:∀ s W W',J s W->W.grownBy W' none->J s W')
 (hY:∀ pre x W,J pre W->pre.length<zs.length->YieldAt F (n-1) Tryz.prog l #[(Value.string (kf x)),(Value.string (vf x))] W fun e W'=>
  (e=.returned (.bool true)∧J (pre++[x]) W'∧Below n₀ W W')∨(e=.returned (.bool false)∧Jx (pre++[x]) W'))
 (W:World) (kb:W.cell? ⟨tb,0,none⟩=some (.pointer (some ⟨g,0,none⟩))) (kg:W.cell? ⟨g,1,none⟩=some (.slice (some ⟨b,off,none⟩) zs.length cap))
 (hc:∀ (i:Nat) (x:α),zs[i]? =some x->W.cell? ⟨b,off+i*2,none⟩=some (Value.string (kf x))∧W.cell? ⟨b,off+i*2+1,none⟩=some (Value.string (vf x))) (hn₀:n₀<=W.heap.size) (h0:J [] W):
 CallsIn F n Tryz.prog 181 #[.func (.yield l) #[] #[],.pointer (some ⟨tb,0,none⟩)] W fun e W'=>(∃ v,e=.returned v)∧
  ((∃ ys,ys=zs∧J ys W')∨(∃ pre,pre<+:zs∧Jx pre W')):=by
 obtain⟨hcap1,hcap2⟩:=hcap;unfold maxLen at hcap2;refine callsIn_of_wp Tryz.func181 rfl h7 ?_ hro;simp only [Tryz.ntmps181,List.size_toArray,List.length_cons,List.length_nil,Nat.reduceAdd,Nat.reduceSub,Array.replicate_succ,Array.replicate_zero,List.push_toArray,List.append_toArray,List.nil_append,List.cons_append]
 gi_wp2
 gi_loopw [10] (fun i wr=>∃ k:Nat,k<=zs.length∧i=.int .i64 k∧J (zs.take k) wr∧Below n₀ W wr)
  (fun i _=>zs.length-(intOf i).toNat)
 case atStart=>exact⟨0,Nat.zero_le _,rfl,by simpa using h0,Below.refl _ _⟩
 case round=>
  obtain⟨k,hk,rfl,hJs,hnx⟩:=hrel
  by_cases hlt:k<zs.length
  ·obtain⟨x,hx⟩:∃ x,zs[k]? =some x:=⟨_,List.getElem?_eq_getElem hlt⟩;obtain⟨c0,c1⟩:=hc k x hx;have d0:wr.cell? ⟨b,off+k*2,none⟩=some (Value.string (kf x)):=(hnx.cell (p:=⟨b,off+k*2,none⟩) hb).trans c0;have d1:wr.cell? ⟨b,off+k*2+1,none⟩=some (Value.string (vf x)):=(hnx.cell (p:=⟨b,off+k*2+1,none⟩) hb).trans c1;have hal:∀ o:Obj,wr.grownBy (wr.alloc o) none:=fun o=>⟨rfl,rfl,rfl,by simp,fun q hq _=>heap_alloc_old wr _ hq⟩
   obtain⟨fn,tmps,assign,body,hy,hR⟩:=hY _ x (wr.alloc (.cells #[(Value.string (kf x)),(Value.string (vf x))] 236)) (hJ _ _ _ hJs (hal _)) (by rw [List.length_take];omega);have n1:(0:Int)<=(k:Int):=by omega
   have n2:(k:Int)<(zs.length:Int):=by omega
   have hbw:Below n₀ W (wr.alloc (.cells #[(Value.string (kf x)),(Value.string (vf x))] 236)):=hnx.alloc (Nat.le_trans hn₀ hnx.size) _
   have HT:Hid (zs.take (k+1)=zs.take k++[x]):=by
    obtain⟨hk',e⟩:=List.getElem?_eq_some_iff.1 hx;show _=_
    rw [List.take_succ_eq_append_getElem hk',e]
   clear hc c0 c1 hx
   gi_wp2
   refine hR.mono ?_;rintro e W3 (⟨rfl,hJ3,hk3⟩|⟨rfl,hJx3⟩)
   ·gi_wp2
    go_roundw
    case rel=>exact⟨k+1,by omega,by go_num,by rw [HT.out];exact hJ3,hbw.trans hk3⟩
    case measure=>simp [intOf];omega
   ·gi_wp2
    refine bodyPost_ret (results_none rfl _ _ _) rfl ?_;exact⟨⟨_,rfl⟩,.inr ⟨_,by rw [<- HT.out];exact List.take_prefix _ _,hJx3⟩⟩
  ·obtain rfl:k=zs.length:=by omega
   have n2:(zs.length:Int)<=(zs.length:Int):=by omega
   rw [List.take_length] at hJs;clear hc
   gi_wp2
   go_end0
   exact⟨⟨_,rfl⟩,.inl ⟨_,rfl,hJs⟩⟩
end Go.Proofs.YtaceiajcecaapaaGreat
namespace Go.Proofs.YtaceiajcecaapaaGreat
open Go.RowKit
set_option linter.unusedVariables false
theorem four_facts{w1:World}{g1 g2:Nat}{T:TypeId}(hne:g1≠g2){x0 x1 x2 x3 y0 y1 y2 y3:Value}(u:Value)(k1:Blk w1 g1 #[x0,x1,x2,x3] T)(k2:Blk w1 g2 #[y0,y1,y2,y3] T):
 (w1.cell? ⟨g2,3,none⟩=some y3∧w1.frozen? ⟨g2,3,none⟩=false)∧
 ((w1.setCell ⟨g2,3,none⟩ u).cell? ⟨g2,0,none⟩=some y0∧(w1.setCell ⟨g2,3,none⟩ u).cell? ⟨g2,1,none⟩=some y1∧(w1.setCell ⟨g2,3,none⟩ u).cell? ⟨g2,2,none⟩=some y2∧(w1.setCell ⟨g2,3,none⟩ u).cell? ⟨g2,3,none⟩=some u)∧
 ((w1.setCell ⟨g2,3,none⟩ u).cell? ⟨g1,0,none⟩=some x0∧(w1.setCell ⟨g2,3,none⟩ u).cell? ⟨g1,1,none⟩=some x1∧(w1.setCell ⟨g2,3,none⟩ u).cell? ⟨g1,2,none⟩=some x2∧(w1.setCell ⟨g2,3,none⟩ u).cell? ⟨g1,3,none⟩=some x3)∧
 (∀ i,(w1.setCell ⟨g2,3,none⟩ u).frozen? ⟨g1,i,none⟩=false)∧
 Blk (((((w1.setCell ⟨g2,3,none⟩ u).setCell ⟨g1,0,none⟩ y0).setCell ⟨g1,1,none⟩ y1).setCell ⟨g1,2,none⟩ y2).setCell ⟨g1,3,none⟩ u) g1 #[y0,y1,y2,u] T:=by
 have a2:=blk_set k2 3 u;have a1:Blk (w1.setCell ⟨g2,3,none⟩ u) g1 #[x0,x1,x2,x3] T:=blk_far k1 hne;exact⟨⟨(blk_cell k2 3).trans rfl,blk_frozen k2 3⟩,⟨(blk_cell a2 0).trans rfl,(blk_cell a2 1).trans rfl,(blk_cell a2 2).trans rfl,(blk_cell a2 3).trans rfl⟩,⟨(blk_cell a1 0).trans rfl,(blk_cell a1 1).trans rfl,(blk_cell a1 2).trans rfl,(blk_cell a1 3).trans rfl⟩,blk_frozen a1,blk_set (blk_set (blk_set (blk_set a1 0 y0) 1 y1) 2 y2) 3 u⟩
set_option maxRecDepth 100000 in
set_option maxHeartbeats 1600000 in
theorem toSet_any(s:Sz)(dv:Value)(w:World)(h:Nm.SRow w dv s.da)(hl:s.da.length<=1048576):
 Calls Tryz.prog 32 #[.agg #[.string s.own,.int .i64 s.ty,.int .i64 s.tt,dv]] w fun e w'=>∃ u,e=.returned (.agg #[.string s.own,.int .i64 s.ty,.int .i64 s.tt,u])∧w'.ownsRow w.heap.size 9 1 u s.da.length (s.da.map Value.string)∧Below w.heap.size w w':=by
 obtain⟨o,ty,tt,da⟩:=s;simp only at*
 have hB:=(((Below.refl w.heap.size w).alloc (Nat.le_refl _) (.cells #[.string o,.int .i64 ty,.int .i64 tt,dv] 58)).alloc (by simp) (.cells #[.string ⟨#[]⟩,.int .i64 0,.int .i64 0,.slice none 0 0] 65)).alloc (by simp;omega) (.cells #[.string o,.int .i64 ty,.int .i64 tt,.slice none 0 0] 65);have hone:=toStringS_any dv da _ (h.below hB) hl;have hz1:(w.alloc (.cells #[.string o,.int .i64 ty,.int .i64 tt,dv] 58)).heap.size=w.heap.size+1:=by simp
 have hz2:((w.alloc (.cells #[.string o,.int .i64 ty,.int .i64 tt,dv] 58)).alloc (.cells #[.string ⟨#[]⟩,.int .i64 0,.int .i64 0,.slice none 0 0] 65)).heap.size=w.heap.size+1+1:=by simp
 have hb1:=blk_alloc (blk_new (w.alloc (.cells #[.string o,.int .i64 ty,.int .i64 tt,dv] 58)) #[.string ⟨#[]⟩,.int .i64 0,.int .i64 0,.slice none 0 0] 65) (.cells #[.string o,.int .i64 ty,.int .i64 tt,.slice none 0 0] 65);have hb2:=blk_new ((w.alloc (.cells #[.string o,.int .i64 ty,.int .i64 tt,dv] 58)).alloc (.cells #[.string ⟨#[]⟩,.int .i64 0,.int .i64 0,.slice none 0 0] 65)) #[.string o,.int .i64 ty,.int .i64 tt,.slice none 0 0] 65;rw [hz1] at hb1;rw [hz2] at hb2;clear hz1 hz2;obtain⟨a,cap,rfl,_⟩:=h;go_enter Tryz.func32,Tryz.ntmps32;go_wp2_with (go_at_call 61;refine hone.mono ?_;rintro e w1 ⟨u,rfl,hown,hbel⟩;obtain⟨ua,uc,rfl⟩:=own_sl hown;have k1:=blk_below hb1 hbel;have k2:=blk_below hb2 hbel;obtain⟨⟨p0,p1⟩,⟨q0,q1,q2,q3⟩,⟨r0,r1,r2,r3⟩,rf,kz⟩:=four_facts (by omega) (.slice ua da.length uc) k1 k2;clear hone)
 have e0:=(blk_cell kz 0).trans rfl;have e1:=(blk_cell kz 1).trans rfl;have e2:=(blk_cell kz 2).trans rfl;have e3:=(blk_cell kz 3).trans rfl;refine bodyPost_ret (v:=.agg #[.string o,.int .i64 ty,.int .i64 tt,.slice ua da.length uc]) ?_ rfl ?_
 ·simp [results,Tryz.results32,go_sem,Result.andThen,e0,e1,e2,e3]
 ·simp only [World.alloc,Array.size_push] at hown;refine⟨_,rfl,own_base (own_far_lt (own_far_lt (own_far_lt (own_far_lt (own_far_lt hown (by omega)) (by omega)) (by omega)) (by omega)) (by omega)) (by omega),?_⟩;exact(((((Nm.below_two hB hbel).setCell (by simp;omega) _).setCell (by simp) _).setCell (by simp) _).setCell (by simp) _).setCell (by simp) _
def OZ(w:World)(B:Nat)(v:Value)(qs:List Zp):Prop:=w.ownsRow B 65 4 v qs.length (zpVs qs)∧∀ q∈qs,w.ownsRow B 9 1 q.2 q.1.da.length (q.1.da.map Value.string)
theorem OZ.read{w:World}{B:Nat}{v:Value}{qs:List Zp}(h:OZ w B v qs):ZRow w v qs:=⟨CRow.of_owns h.1,fun q hq=>Nm.SRow.of_owns (h.2 q hq)⟩
theorem OZ.below{w W:World}{B:Nat}{v:Value}{qs:List Zp}(h:OZ w B v qs)(hb:Below w.heap.size w W):OZ W B v qs:=⟨own_below h.1 hb,fun q hq=>own_below (h.2 q hq) hb⟩
theorem set4{cs:List Value}{k:Nat}{A:List Value}(a b c d:Value)(hl:k*4+4<=cs.length)(h:cs.take (k*4)=A):
 ((((cs.set (k*4) a).set (k*4+1) b).set (k*4+2) c).set (k*4+3) d).take ((k+1)*4)=A++[a,b,c,d]:=by
 have hs:cs=cs.take (k*4)++cs.drop (k*4):=(List.take_append_drop _ _).symm;have hdl:4<=(cs.drop (k*4)).length:=by simp;omega
 have hpl:(cs.take (k*4)).length=k*4:=by simp;omega
 rw [h] at hs hpl;obtain⟨q,hq⟩:∃ q,q=cs.drop (k*4):=⟨_,rfl⟩;rw [<- hq] at hs hdl
 match q,hdl with
 |y0::y1::y2::y3::r,_=>
  rw [hs];simp only [List.set_append,hpl,Nat.lt_irrefl,if_false,Nat.sub_self,show ¬(k*4+1<k*4) by omega,show ¬(k*4+2<k*4) by omega,show ¬(k*4+3<k*4) by omega,Nat.add_sub_cancel_left];simp only [List.set_cons_zero,List.set_cons_succ];rw [List.take_append,hpl,show(k+1)*4-k*4=4 by omega,List.take_of_length_le (by omega)];rfl
theorem Tryz.infoSet:(Tryz.prog.info? 65).map (fun i=>(i.zero,i.size,i.bytes))=some (some (.agg #[.string ByteArray.empty,.int .i64 0,.int .i64 0,.slice none 0 0]),4,56):=by kernel_rfl
theorem four_at{w:World}{B e g n cap k:Nat}{cs:List Value}(h:w.ownsRow B e 4 (.slice (some ⟨g,0,none⟩) n cap) n cs)(hk:k<n)(j:Nat)(hj:j<4):∃ y,w.cell? ⟨g,k*4+j,none⟩=some y:=by
 rw [h.cellAt (k*4+j) (by omega)];have:=h.1;exact⟨_,List.getElem?_eq_getElem (by omega)⟩
set_option maxRecDepth 100000 in
set_option maxHeartbeats 1600000 in
theorem toSetS_any(v:Value)(ps:List Zp)(w:World)(h:ZRow w v ps)(hlen:ps.length<=1048576)(hd:∀ p∈ps,p.1.da.length<=1048576):
 Calls Tryz.prog 17 #[v] w fun e w'=>∃ u qs,e=.returned u∧qs.map (·.1)=ps.map (·.1)∧OZ w' w.heap.size u qs∧Below w.heap.size w w':=by
 obtain⟨i0,hi,hz0,hz1,hz2⟩:=info_parts Tryz.infoSet;obtain⟨⟨_,a,cap,rfl,hcap,hmx,hc⟩,hrow⟩:=h;unfold maxLen at hmx;have hto:=fun(p:Zp) (hp:p∈ps) W (hW:Below w.heap.size w W)=>toSet_any p.1 p.2 W ((hrow p hp).below hW) (hd p hp)
 clear hrow hd;go_enter Tryz.func17,Tryz.ntmps17;go_wp2_with (at_make;refine wpList_make_full _ rfl (.tmp 6) (.tmp 6) 30 rfl w.heap.size 65 i0 _ 4 Tryz.underlying30 hi hz0 hz1 .i64 .i64 _ _ ps.length rfl rfl rfl rfl (by rw [hz2];omega) (by unfold maxLen;omega) (Nat.le_refl _) ?_;intro w2 hown0 hgrow0)
 generalize hcs0:(madeCells (Value.agg #[.string ByteArray.empty,.int .i64 0,.int .i64 0,.slice none 0 0]).cells (ps.length*4)).toList=cs0 at hown0;clear hcs0
 go_loopw [4] (fun i wr=>∃ (k:Nat) (cs:List Value) (qs:List Zp),k<=ps.length∧i=.int .i64 k∧wr.ownsRow w.heap.size 65 4 (.slice (some ⟨w.heap.size,0,none⟩) ps.length ps.length) ps.length cs∧Hid (cs.take (k*4)=zpVs qs)∧Hid (qs.map (·.1)=(ps.take k).map (·.1))∧Hid (∀ q∈qs,wr.ownsRow w.heap.size 9 1 q.2 q.1.da.length (q.1.da.map Value.string))∧Below w.heap.size w wr)
  (fun i _=>ps.length-(intOf i).toNat)
 case atStart=>exact⟨0,cs0,[],Nat.zero_le _,rfl,hown0,by show _=_;simp [zpVs],by show _=_;simp,by intro q hq;simp at hq,(Below.refl _ w).grown hgrow0 (Nat.le_refl _) (fun k hk=>by cases hk)⟩
 case round=>
  obtain⟨k,cs,qs,hk,rfl,hown,HT,HQ,HO,hbel⟩:=hrel;clear hown0 hgrow0
  by_cases hlt:k<ps.length
  ·obtain⟨x,hx⟩:∃ x,ps[k]? =some x:=⟨_,List.getElem?_eq_getElem hlt⟩;obtain⟨b,off,rfl,hcell⟩:=hc (by omega);obtain⟨c0,c1,c2,c3⟩:=zp_cells hcell hx;have put:∀ {O:Nat} {z:Value},w.cell? ⟨b,O,none⟩=some z->wr.cell? ⟨b,O,none⟩=some z:=fun h=>(hbel.cell (World.block_lt_of_cell? w _ h)).trans h
   replace c0:=put c0
   replace c1:=put c1
   replace c2:=put c2
   replace c3:=put c3
   have i1:(0:Int)<=(k:Int):=by omega
   have i2:(k:Int)<(ps.length:Int):=by omega
   have hone:=hto x (List.mem_of_getElem? hx) wr hbel
   have HQ2:Hid (∀ u:Value,(qs++[(x.1,u)]).map (·.1)=(ps.take (k+1)).map (·.1)):=by
    intro u;rw [List.map_append,HQ.out,List.take_add_one,hx,List.map_append];rfl
   have HT2:=fun u=>set4 (.string x.1.own) (.int .i64 x.1.ty) (.int .i64 x.1.tt) u (by have:=hown.1;omega) HT.out
   have HT3:Hid (∀ u:Value,((((cs.set (k*4) (.string x.1.own)).set (k*4+1) (.int .i64 x.1.ty)).set (k*4+2) (.int .i64 x.1.tt)).set (k*4+3) u).take ((k+1)*4)=zpVs (qs++[(x.1,u)])):=by
    intro u;rw [HT2,zpVs_app];rfl
   clear hcell hc HT HT2 HQ hto hx;obtain⟨⟨o,ty,tt,da⟩,dv⟩:=x;simp only at c0 c1 c2 c3 hone HQ2 HT3
   go_wp2_with (go_at_call 32;refine hone.mono ?_;rintro e w1 ⟨u,rfl,hu,hb1⟩;obtain⟨ua,uc,rfl⟩:=own_sl hu;have ho1:=own_below hown hb1;obtain⟨y0,hy0⟩:=four_at ho1 hlt 0 (by decide);obtain⟨y1,hy1⟩:=four_at ho1 hlt 1 (by decide);obtain⟨y2,hy2⟩:=four_at ho1 hlt 2 (by decide);obtain⟨y3,hy3⟩:=four_at ho1 hlt 3 (by decide);rw [Nat.add_zero] at hy0;have fz:=ho1.frozenAt;clear hone)
   go_roundw
   case rel=>
    refine⟨k+1,_,qs++[(⟨o,ty,tt,da⟩,.slice ua da.length uc)],by omega,by go_num,((((ho1.stored (k*4) _).1.stored (k*4+1) _).1.stored (k*4+2) _).1.stored (k*4+3) _).1,Nm.hide (HT3.out _),Nm.hide (HQ2.out _),?_,((((Nm.below_two hbel hb1).setCell (Nat.le_refl _) _).setCell (Nat.le_refl _) _).setCell (Nat.le_refl _) _).setCell (Nat.le_refl _) _⟩;intro q hq
    have hq1:w1.ownsRow w.heap.size 9 1 q.2 q.1.da.length (q.1.da.map Value.string):=by
     rcases List.mem_append.1 hq with h1|h1
     ·exact own_below (HO.out q h1) hb1
     ·simp only [List.mem_singleton] at h1;subst h1;exact own_base hu hbel.size
    have hne:=own_ne hq1 ho1 (by decide);exact own_far (own_far (own_far (own_far hq1 hne) hne) hne) hne
   case measure=>simp [intOf];omega
  ·have hkl:k=ps.length:=by omega
   have hcs:cs=zpVs qs:=by
    have e:=HT.out;have hl:=hown.1;rw [hkl,List.take_of_length_le (by omega)] at e;exact e
   have hqs:qs.map (·.1)=ps.map (·.1):=by
    have:=HQ.out
    rwa [hkl,List.take_length] at this
   have hql:qs.length=ps.length:=by have:=congrArg List.length hqs;simpa using this
   subst hcs;have i2:(ps.length:Int)<=(k:Int):=by omega
   clear hc hlt HT hto HQ;go_wp2;go_ret;refine⟨_,rfl,qs,hqs,⟨?_,HO.out⟩,hbel⟩;rw [hql];exact hown
theorem two_facts{w1:World}{g1 g2:Nat}{T:TypeId}(hne:g1≠g2){x0 x1 y0 y1:Value}(u:Value)(k1:Blk w1 g1 #[x0,x1] T)(k2:Blk w1 g2 #[y0,y1] T):
 (w1.cell? ⟨g2,1,none⟩=some y1∧w1.frozen? ⟨g2,1,none⟩=false)∧
 ((w1.setCell ⟨g2,1,none⟩ u).cell? ⟨g2,0,none⟩=some y0∧(w1.setCell ⟨g2,1,none⟩ u).cell? ⟨g2,1,none⟩=some u)∧
 ((w1.setCell ⟨g2,1,none⟩ u).cell? ⟨g1,0,none⟩=some x0∧(w1.setCell ⟨g2,1,none⟩ u).cell? ⟨g1,1,none⟩=some x1)∧
 (∀ i,(w1.setCell ⟨g2,1,none⟩ u).frozen? ⟨g1,i,none⟩=false)∧
 Blk (((w1.setCell ⟨g2,1,none⟩ u).setCell ⟨g1,0,none⟩ y0).setCell ⟨g1,1,none⟩ u) g1 #[y0,u] T:=by
 have a2:=blk_set k2 1 u;have a1:Blk (w1.setCell ⟨g2,1,none⟩ u) g1 #[x0,x1] T:=blk_far k1 hne;exact⟨⟨(blk_cell k2 1).trans rfl,blk_frozen k2 1⟩,⟨(blk_cell a2 0).trans rfl,(blk_cell a2 1).trans rfl⟩,⟨(blk_cell a1 0).trans rfl,(blk_cell a1 1).trans rfl⟩,blk_frozen a1,blk_set (blk_set a1 0 y0) 1 u⟩
set_option maxRecDepth 100000 in
set_option maxHeartbeats 1600000 in
theorem toZone_any(o:ByteArray)(v:Value)(ps:List Zp)(w:World)(h:ZRow w v ps)(hlen:ps.length<=1048576)(hd:∀ p∈ps,p.1.da.length<=1048576):
 Calls Tryz.prog 7 #[.agg #[.string o,v]] w fun e w'=>∃ u qs,e=.returned (.agg #[.string o,u])∧qs.map (·.1)=ps.map (·.1)∧OZ w' w.heap.size u qs∧Below w.heap.size w w':=by
 have hB:=(((Below.refl w.heap.size w).alloc (Nat.le_refl _) (.cells #[.string o,v] 24)).alloc (by simp) (.cells #[.string ⟨#[]⟩,.slice none 0 0] 32)).alloc (by simp;omega) (.cells #[.string o,.slice none 0 0] 32);have hone:=toSetS_any v ps _ (h.below hB) hlen hd;have hz1:(w.alloc (.cells #[.string o,v] 24)).heap.size=w.heap.size+1:=by simp
 have hz2:((w.alloc (.cells #[.string o,v] 24)).alloc (.cells #[.string ⟨#[]⟩,.slice none 0 0] 32)).heap.size=w.heap.size+1+1:=by simp
 have hb1:=blk_alloc (blk_new (w.alloc (.cells #[.string o,v] 24)) #[.string ⟨#[]⟩,.slice none 0 0] 32) (.cells #[.string o,.slice none 0 0] 32);have hb2:=blk_new ((w.alloc (.cells #[.string o,v] 24)).alloc (.cells #[.string ⟨#[]⟩,.slice none 0 0] 32)) #[.string o,.slice none 0 0] 32;rw [hz1] at hb1;rw [hz2] at hb2;clear hz1 hz2 hd;obtain⟨⟨_,a,cap,rfl,_⟩,_⟩:=h;go_enter Tryz.func7,Tryz.ntmps7;go_wp2_with (go_at_call 17;refine hone.mono ?_;rintro e w1 ⟨u,qs,rfl,hqs,hoz,hbel⟩;obtain⟨ua,uc,rfl⟩:=own_sl hoz.1;have k1:=blk_below hb1 hbel;have k2:=blk_below hb2 hbel;obtain⟨⟨p0,p1⟩,⟨q0,q1⟩,⟨r0,r1⟩,rf,kz⟩:=two_facts (by omega) (.slice ua qs.length uc) k1 k2;clear hone)
 have e0:=(blk_cell kz 0).trans rfl;have e1:=(blk_cell kz 1).trans rfl;refine bodyPost_ret (v:=.agg #[.string o,.slice ua qs.length uc]) ?_ rfl ?_
 ·simp [results,Tryz.results7,go_sem,Result.andThen,e0,e1]
 ·have hsz:(((w.alloc (.cells #[.string o,.slice a ps.length cap] 24)).alloc (.cells #[.string ⟨#[]⟩,.slice none 0 0] 32)).alloc (.cells #[.string o,.slice none 0 0] 32)).heap.size=w.heap.size+3:=by simp
  rw [hsz] at hoz;refine⟨_,qs,rfl,hqs,⟨?_,fun q hq=>?_⟩,?_⟩
  ·exact own_base (own_far_lt (own_far_lt (own_far_lt hoz.1 (by omega)) (by omega)) (by omega)) (by omega)
  ·exact own_base (own_far_lt (own_far_lt (own_far_lt (hoz.2 q hq) (by omega)) (by omega)) (by omega)) (by omega)
  ·exact(((Nm.below_two hB hbel).setCell (by simp;omega) _).setCell (by simp) _).setCell (by simp) _
end Go.Proofs.YtaceiajcecaapaaGreat
