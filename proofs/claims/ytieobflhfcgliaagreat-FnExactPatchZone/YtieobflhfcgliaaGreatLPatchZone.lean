import Derived.Test.YtieobflhfcgliaaGreatJPzI
import Derived.Test.YtieobflhfcgliaaGreatJRrS
import Derived.Test.YtieobflhfcgliaaGreatJZnK
import Derived.Test.YtieobflhfcgliaaGreatJZnS
import Derived.Test.YtieobflhfcgliaaGreatJStI
namespace Go.Proofs.YtieobflhfcgliaaGreat
open Go.RowKit
set_option linter.unusedVariables false
set_option maxRecDepth 100000 in
set_option maxHeartbeats 6400000 in
theorem fnExactPatchZone_walk(o:ByteArray)(v:Value)(ps:List Zp)(a b:Rr)(d e:Value)(xs ys:List Rr)(w:World)(h1:ZRow w v ps)(hx1:ZFit ps)(ho1:o.size<=maxLen)(h2:CRow w d xs.length 5 (rvVs xs))(h3:CRow w e ys.length 5 (rvVs ys))(fa:RFit a)(fb:RFit b)(fx:∀ r∈xs,RFit r)(fy:∀ r∈ys,RFit r):
 Calls Tryz.prog 4 #[.agg #[.string o,v],cgV a b d e] w fun e w'=>e=.returned (.bool true)∧Below w.heap.size w w':=by
 obtain⟨va,vc,rfl⟩:∃ va vc,v=.slice va ps.length vc:=by obtain⟨⟨_,a,c,e,_⟩,_⟩:=h1;exact⟨a,c,e⟩
 obtain⟨da,dc,rfl⟩:∃ da dc,d=.slice da xs.length dc:=by obtain⟨_,a,c,e,_⟩:=h2;exact⟨a,c,e⟩
 obtain⟨ea,ec,rfl⟩:∃ ea ec,e=.slice ea ys.length ec:=by obtain⟨_,a,c,e,_⟩:=h3;exact⟨a,c,e⟩
 have b0:=((Below.refl w.heap.size w).alloc (Nat.le_refl _) (.cells #[.string o,.slice va ps.length vc] 24)).alloc (by simp) (.cells (cgL a b (.slice da xs.length dc) (.slice ea ys.length ec)).toArray 45);have ky:=blk_alloc (blk_new w #[.string o,.slice va ps.length vc] 24) (.cells (cgL a b (.slice da xs.length dc) (.slice ea ys.length ec)).toArray 45);have kz:=blk_new (w.alloc (.cells #[.string o,.slice va ps.length vc] 24)) (cgL a b (.slice da xs.length dc) (.slice ea ys.length ec)).toArray 45;rw [World.size_alloc] at kz;have hsz:=szZone_any o _ ps 1048576 _ (h1.below b0) hx1 ho1 (by decide) (by decide);have hsy:=fun W (hW:Below w.heap.size w W) L (l0:0<=L) (l1:L<=1048576)=>szChange_any a b _ _ xs ys L W (h2.below hW) (h3.below hW) fa fb fx fy l0 l1
 by_cases hb:(o.size:Int)+ps.length+(zsum ps:Int)<=1048576
 ·have e1:szZ o ps 1048576=1048576-o.size-ps.length-zsum ps:=if_pos hb;rw [e1] at hsz;have hnn:0<=1048576-(o.size:Int)-(ps.length:Int)-(zsum ps:Int):=by omega
  have hsyL:=fun W hW=>hsy W hW (1048576-(o.size:Int)-(ps.length:Int)-(zsum ps:Int)) hnn (by omega)
  by_cases hb2:szC a b xs ys (1048576-(o.size:Int)-(ps.length:Int)-(zsum ps:Int))<0
  ·generalize szC a b xs ys (1048576-(o.size:Int)-(ps.length:Int)-(zsum ps:Int))=L2 at*;generalize (1048576-(o.size:Int)-(ps.length:Int)-(zsum ps:Int))=L1 at*;clear hb hx1 e1 hsy;go_enter Tryz.func4,Tryz.ntmps4;go_wp2_with fail
   go_at_call 5
   refine hsz.mono ?_;rintro e w1 ⟨rfl,b1⟩;have bw1:=Nm.below_two b0 b1;have kz1:=blk_below kz b1;have rz:=fun i=>blk_cell kz1 i
   go_wp2_with fail
   go_at_call 14
   refine(hsyL _ bw1).mono ?_;rintro e w2 ⟨rfl,b2⟩;go_wp2;go_ret;exact⟨rfl,Nm.below_two bw1 b2⟩
  ·obtain⟨⟨fa1,fa2⟩,⟨fb1,fb2⟩,fx1,fy1,lx,ly0,lxy⟩:=szC_fit hb2 (by omega);have s1:zsum ps<=1048576:=by omega
   have l1:ps.length<=1048576:=by omega
   have p1:o.size<=1048576:=by omega
   have lz:zsum ps+3*ps.length+5*xs.length<=6000000:=by omega
   have F1:FitZ ps:=cz_fits s1;have hnn2:0<=szC a b xs ys (1048576-(o.size:Int)-(ps.length:Int)-(zsum ps:Int)):=by omega
   generalize szC a b xs ys (1048576-(o.size:Int)-(ps.length:Int)-(zsum ps:Int))=L2 at*;generalize (1048576-(o.size:Int)-(ps.length:Int)-(zsum ps:Int))=L1 at*;have hto1:=fun W (hW:Below w.heap.size w W)=>toZone_any o _ ps W (h1.below hW) l1 (fun p hp=>(F1 p hp).2.1)
   have hto2:=fun W (hW:Below w.heap.size w W)=>toChange_any a b _ _ xs ys W (h2.below hW) (h3.below hW) lx ly0
   have hsp:=specPz_same (o:=o) (a:=a) (b:=b) (xs:=xs) (ys:=ys) s1 l1 F1 p1 fa2 ⟨fb,fb1,fb2⟩ fy1;have him:=implPz_same (o:=o) (a:=a) (b:=b) (xs:=xs) (ys:=ys) s1 F1 p1 fa2 ⟨fb,fb1,fb2⟩ fx fy1;have hzl:=Nm.hide (fun(qs:List Zp) (h:qs.map (·.1)=pzZ (ptC ps o a b xs ys) (pzL ps b xs ys))=>pz_zl h);generalize pzZ (ptC ps o a b xs ys) (pzL ps b xs ys)=Z at*;generalize pzO (ptC ps o a b xs ys) o=O at*;generalize ptC ps o a b xs ys=C at*;clear hb hb2 hx1 ho1 e1 hsy fa fb fx fy fa1 fa2 fb1 fb2 fx1 fy1 lxy;go_enter Tryz.func4,Tryz.ntmps4;go_wp2_with fail
   go_at_call 5
   refine hsz.mono ?_;rintro e w1 ⟨rfl,b1⟩;have bw1:=Nm.below_two b0 b1;have ky1:=blk_below ky b1;have kz1:=blk_below kz b1;have rz:=fun i=>blk_cell kz1 i
   clear hsz b0 b1 ky kz;go_wp2_with fail
   go_at_call 14
   refine(hsyL _ bw1).mono ?_;rintro e wb ⟨rfl,b2⟩;have bwb:=Nm.below_two bw1 b2;have kyb:=blk_below ky1 b2;have kzb:=blk_below kz1 b2;have zb:w.heap.size+1<wb.heap.size:=blk_lt kzb;clear hsyL bw1 b2 ky1 kz1 rz;have kS:Hid (∀ X,Below wb.heap.size wb X->Blk X w.heap.size #[.string o,.slice va ps.length vc] 24∧Blk X (w.heap.size+1) (cgL a b (.slice da xs.length dc) (.slice ea ys.length ec)).toArray 45):=fun X hX=>⟨blk_below kyb hX,blk_below kzb hX⟩
   have bd:=(Below.refl wb.heap.size wb).drew;go_upto_region 8 with fail
   go_cut [6,7] from 27 to 34 (fun p q wx=>∃ (c:Nat) (sa:Option Addr) (sc:Nat) (qs:List Zp),p=.pointer (some ⟨c,0,none⟩)∧q=.int .i64 C∧wb.heap.size<=c∧Blk wx c #[.string O,.slice sa qs.length sc] 35∧qs.map (·.1)=Z∧ZOwn wx wb.heap.size (.slice sa qs.length sc) qs∧Below wb.heap.size wb wx)
   case first=>
    refine wp_region_last (fun X=>Blk X w.heap.size #[.string o,.slice va ps.length vc] 24∧Blk X (w.heap.size+1) (cgL a b (.slice da xs.length dc) (.slice ea ys.length ec)).toArray 45) 1000 (by kernel_rfl) (kS.out _ bd) (fun hHeld=>?_);refine tkL (i:=0) (v:=?_) rfl ?_ ?_;rotate_left 1
    ·(rintro W ⟨s1,s2⟩;have ss1:=(fun i=>blk_cell s1 i);have ss2:=(fun i=>blk_cell s2 i);go_simp;try (with_reducible rfl))
    refine tkL (i:=2) (v:=?_) rfl ?_ ?_;rotate_left 1
    ·(rintro W ⟨s1,s2⟩;have ss1:=(fun i=>blk_cell s1 i);have ss2:=(fun i=>blk_cell s2 i);go_simp;try (with_reducible rfl))
    refine wpAnyL_two (i:=1) (j:=8) (by kernel_rfl) rfl rfl (fun K hK=>?_) (fun K hK=>?_)
    ·go_simp;refine(hto1 _ (Nm.below_two bwb bd)).mono ?_;rintro e x3 ⟨u1,q1,rfl,e1,z1,cx3⟩;have bx3:=Nm.below_two bd cx3;go_wp2_with fail
     refine hK.out _ _ (kS.out _ bx3) (fun hHeld=>?_);clear hK K;refine wpAnyL_two (i:=3) (j:=8) (by kernel_rfl) rfl rfl (fun K hK=>?_) (fun K hK=>?_)
     ·go_simp;refine(hto2 _ (Nm.below_two bwb bx3)).mono ?_;rintro e x4 ⟨d2,a2,rfl,z2,cx4⟩;have z1:=z1.below cx4;have bx4:=Nm.below_two bx3 cx4;go_wp2_with fail
      refine hK.out _ _ (kS.out _ bx4) (fun hHeld=>?_);clear hK K;refine wpAnyL_two (i:=4) (j:=8) (by kernel_rfl) rfl rfl (fun K hK=>?_) (fun K hK=>?_)
      ·go_simp;refine(hsp u1 d2 a2 q1 _ e1 z1.read z2.rd.1 z2.rd.2).mono ?_;rintro e x5 ⟨sa,sc,q5,rfl,e5,z5,cx5⟩;have bx5:=Nm.below_two bx4 cx5;have ly:=bx4.size;go_wp2_with fail
       refine hK.out _ _ (kS.out _ bx5) (fun hHeld=>?_);clear hK K;refine tkL (i:=5) (v:=?_) rfl ?_ ?_;rotate_left 1
       ·(rintro W ⟨s1,s2⟩;have ss1:=(fun i=>blk_cell s1 i);have ss2:=(fun i=>blk_cell s2 i);go_simp;try (with_reducible rfl))
       refine tkL (i:=6) (v:=?_) rfl ?_ ?_;rotate_left 1
       ·(rintro W ⟨s1,s2⟩;have ss1:=(fun i=>blk_cell s1 i);have ss2:=(fun i=>blk_cell s2 i);go_simp;try (with_reducible rfl))
       refine tkL (i:=7) (v:=?_) rfl ?_ ?_;rotate_left 1
       ·(rintro W ⟨s1,s2⟩;have ss1:=(fun i=>blk_cell s1 i);have ss2:=(fun i=>blk_cell s2 i);go_simp;try (with_reducible rfl))
       refine wpAnyL_one (i:=8) (by kernel_rfl) rfl (fun K hK=>?_);go_simp;have ca:=(Below.refl x5.heap.size x5).alloc (Nat.le_refl _) (.cells #[.string ⟨#[]⟩,.slice none 0 0] 35);have kc:=blk_new x5 #[.string ⟨#[]⟩,.slice none 0 0] 35;have rk:=fun i=>blk_cell kc i
       have fk:=fun i=>blk_frozen kc i
       have lb:=bx5.size;refine hK.out _ _ (kS.out _ (Nm.below_two bx5 ca)) (fun hHeld=>?_);clear hK K;have cn:=(Below.refl x5.heap.size x5).alloc (Nat.le_refl _) (.cells #[.string O,.slice sa q5.length sc] 35);have kX:=blk_new x5 #[.string O,.slice sa q5.length sc] 35;have HX:=Nm.hide (And.intro ((z5.below cn).base (B':=wb.heap.size) (by omega)) (Nm.below_two bx5 cn));refine wpAnyL_one (i:=9) (by kernel_rfl) rfl (fun K hK=>?_);go_simp;refine hK.out _ _ (kS.out _ HX.out.2) (fun hHeld=>?_);clear hK K;refine tkL (i:=10) (v:=?_) rfl ?_ ?_;rotate_left 1
       ·(rintro W ⟨s1,s2⟩;have ss1:=(fun i=>blk_cell s1 i);have ss2:=(fun i=>blk_cell s2 i);go_simp;try (with_reducible rfl))
       refine wpAnyL_done (by kernel_rfl) ?_;go_wp2_with fail
       go_meet
       case rel=>exact⟨x5.heap.size,sa,sc,q5,rfl,rfl,by omega,kX,e5,HX.out.1,HX.out.2⟩
      ·go_simp;have ca:=(Below.refl x4.heap.size x4).alloc (Nat.le_refl _) (.cells #[.string ⟨#[]⟩,.slice none 0 0] 35);have kc:=blk_new x4 #[.string ⟨#[]⟩,.slice none 0 0] 35;have la:x4.heap.size<(x4.alloc (.cells #[.string ⟨#[]⟩,.slice none 0 0] 35)).heap.size:=by simp
       have lb:=bx4.size;have bA:=Nm.below_two bx4 ca;have z1:=z1.below ca;have z2:=z2.below ca;refine hK.out _ _ (kS.out _ bA) (fun hHeld=>?_);clear hK K;refine wpAnyL_one (i:=4) (by kernel_rfl) rfl (fun K hK=>?_);go_simp;refine(hsp u1 d2 a2 q1 _ e1 z1.read z2.rd.1 z2.rd.2).mono ?_;rintro e x5 ⟨sa,sc,q5,rfl,e5,z5,cx5⟩;have bx5:=Nm.below_two bA cx5;have ly:=bA.size;go_wp2_with fail
       refine hK.out _ _ (kS.out _ bx5) (fun hHeld=>?_);clear hK K;refine tkL (i:=5) (v:=?_) rfl ?_ ?_;rotate_left 1
       ·(rintro W ⟨s1,s2⟩;have ss1:=(fun i=>blk_cell s1 i);have ss2:=(fun i=>blk_cell s2 i);go_simp;try (with_reducible rfl))
       refine tkL (i:=6) (v:=?_) rfl ?_ ?_;rotate_left 1
       ·(rintro W ⟨s1,s2⟩;have ss1:=(fun i=>blk_cell s1 i);have ss2:=(fun i=>blk_cell s2 i);go_simp;try (with_reducible rfl))
       refine tkL (i:=7) (v:=?_) rfl ?_ ?_;rotate_left 1
       ·(rintro W ⟨s1,s2⟩;have ss1:=(fun i=>blk_cell s1 i);have ss2:=(fun i=>blk_cell s2 i);go_simp;try (with_reducible rfl))
       have kc:=blk_below kc cx5;have rk:=fun i=>blk_cell kc i
       have fk:=fun i=>blk_frozen kc i
       have kX:=setAll_new [.string O,.slice sa q5.length sc] kc rfl;have HX:Hid (ZOwn (setAll x5 x4.heap.size 0 [.string O,.slice sa q5.length sc]) wb.heap.size (.slice sa q5.length sc) q5∧Below wb.heap.size wb (setAll x5 x4.heap.size 0 [.string O,.slice sa q5.length sc])):=⟨(ZOwn.far (ZOwn.far z5 (by omega)) (by omega)).base (by omega),below_setA (by omega) _ 0 _ bx5⟩;simp only [setAll,Nat.zero_add] at kX HX;refine wpAnyL_one (i:=9) (by kernel_rfl) rfl (fun K hK=>?_);go_simp;refine hK.out _ _ (kS.out _ HX.out.2) (fun hHeld=>?_);clear hK K;refine tkL (i:=10) (v:=?_) rfl ?_ ?_;rotate_left 1
       ·(rintro W ⟨s1,s2⟩;have ss1:=(fun i=>blk_cell s1 i);have ss2:=(fun i=>blk_cell s2 i);go_simp;try (with_reducible rfl))
       refine wpAnyL_done (by kernel_rfl) ?_;go_wp2_with fail
       go_meet
       case rel=>exact⟨x4.heap.size,sa,sc,q5,rfl,rfl,by omega,kX,e5,HX.out.1,HX.out.2⟩
     ·go_simp;have ca:=(Below.refl x3.heap.size x3).alloc (Nat.le_refl _) (.cells #[.string ⟨#[]⟩,.slice none 0 0] 35);have kc:=blk_new x3 #[.string ⟨#[]⟩,.slice none 0 0] 35;have la:x3.heap.size<(x3.alloc (.cells #[.string ⟨#[]⟩,.slice none 0 0] 35)).heap.size:=by simp
      have lb:=bx3.size;have bA:=Nm.below_two bx3 ca;have z1:=z1.below ca;refine hK.out _ _ (kS.out _ bA) (fun hHeld=>?_);clear hK K;refine wpAnyL_one (i:=3) (by kernel_rfl) rfl (fun K hK=>?_);go_simp;refine(hto2 _ (Nm.below_two bwb bA)).mono ?_;rintro e x4 ⟨d2,a2,rfl,z2,cx4⟩;have z1:=z1.below cx4;have bx4:=Nm.below_two bA cx4;go_wp2_with fail
      refine hK.out _ _ (kS.out _ bx4) (fun hHeld=>?_);clear hK K;have kc:=blk_below kc cx4;have lc:=cx4.size;refine wpAnyL_one (i:=4) (by kernel_rfl) rfl (fun K hK=>?_);go_simp;refine(hsp u1 d2 a2 q1 _ e1 z1.read z2.rd.1 z2.rd.2).mono ?_;rintro e x5 ⟨sa,sc,q5,rfl,e5,z5,cx5⟩;have bx5:=Nm.below_two bx4 cx5;have ly:=bx4.size;go_wp2_with fail
      refine hK.out _ _ (kS.out _ bx5) (fun hHeld=>?_);clear hK K;refine tkL (i:=5) (v:=?_) rfl ?_ ?_;rotate_left 1
      ·(rintro W ⟨s1,s2⟩;have ss1:=(fun i=>blk_cell s1 i);have ss2:=(fun i=>blk_cell s2 i);go_simp;try (with_reducible rfl))
      refine tkL (i:=6) (v:=?_) rfl ?_ ?_;rotate_left 1
      ·(rintro W ⟨s1,s2⟩;have ss1:=(fun i=>blk_cell s1 i);have ss2:=(fun i=>blk_cell s2 i);go_simp;try (with_reducible rfl))
      refine tkL (i:=7) (v:=?_) rfl ?_ ?_;rotate_left 1
      ·(rintro W ⟨s1,s2⟩;have ss1:=(fun i=>blk_cell s1 i);have ss2:=(fun i=>blk_cell s2 i);go_simp;try (with_reducible rfl))
      have kc:=blk_below kc cx5;have rk:=fun i=>blk_cell kc i
      have fk:=fun i=>blk_frozen kc i
      have kX:=setAll_new [.string O,.slice sa q5.length sc] kc rfl;have HX:Hid (ZOwn (setAll x5 x3.heap.size 0 [.string O,.slice sa q5.length sc]) wb.heap.size (.slice sa q5.length sc) q5∧Below wb.heap.size wb (setAll x5 x3.heap.size 0 [.string O,.slice sa q5.length sc])):=⟨(ZOwn.far (ZOwn.far z5 (by omega)) (by omega)).base (by omega),below_setA (by omega) _ 0 _ bx5⟩;simp only [setAll,Nat.zero_add] at kX HX;refine wpAnyL_one (i:=9) (by kernel_rfl) rfl (fun K hK=>?_);go_simp;refine hK.out _ _ (kS.out _ HX.out.2) (fun hHeld=>?_);clear hK K;refine tkL (i:=10) (v:=?_) rfl ?_ ?_;rotate_left 1
      ·(rintro W ⟨s1,s2⟩;have ss1:=(fun i=>blk_cell s1 i);have ss2:=(fun i=>blk_cell s2 i);go_simp;try (with_reducible rfl))
      refine wpAnyL_done (by kernel_rfl) ?_;go_wp2_with fail
      go_meet
      case rel=>exact⟨x3.heap.size,sa,sc,q5,rfl,rfl,by omega,kX,e5,HX.out.1,HX.out.2⟩
    ·go_simp;have ca:=(Below.refl wb.drew.heap.size wb.drew).alloc (Nat.le_refl _) (.cells #[.string ⟨#[]⟩,.slice none 0 0] 35);have kc:Blk (wb.drew.alloc (.cells #[.string ⟨#[]⟩,.slice none 0 0] 35)) wb.heap.size #[.string ⟨#[]⟩,.slice none 0 0] 35:=blk_new wb.drew #[.string ⟨#[]⟩,.slice none 0 0] 35;have la:wb.heap.size<(wb.drew.alloc (.cells #[.string ⟨#[]⟩,.slice none 0 0] 35)).heap.size:=by show wb.heap.size<(wb.heap.push _).size;simp
     have bA:=Nm.below_two bd ca;refine hK.out _ _ (kS.out _ bA) (fun hHeld=>?_);clear hK K;refine wpAnyL_one (i:=1) (by kernel_rfl) rfl (fun K hK=>?_);go_simp;refine(hto1 _ (Nm.below_two bwb bA)).mono ?_;rintro e x3 ⟨u1,q1,rfl,e1,z1,cx3⟩;have bx3:=Nm.below_two bA cx3;go_wp2_with fail
     refine hK.out _ _ (kS.out _ bx3) (fun hHeld=>?_);clear hK K;have kc:=blk_below kc cx3;have lc:=cx3.size;refine wpAnyL_one (i:=3) (by kernel_rfl) rfl (fun K hK=>?_);go_simp;refine(hto2 _ (Nm.below_two bwb bx3)).mono ?_;rintro e x4 ⟨d2,a2,rfl,z2,cx4⟩;have z1:=z1.below cx4;have bx4:=Nm.below_two bx3 cx4;go_wp2_with fail
     refine hK.out _ _ (kS.out _ bx4) (fun hHeld=>?_);clear hK K;have kc:=blk_below kc cx4;have ld:=cx4.size;refine wpAnyL_one (i:=4) (by kernel_rfl) rfl (fun K hK=>?_);go_simp;refine(hsp u1 d2 a2 q1 _ e1 z1.read z2.rd.1 z2.rd.2).mono ?_;rintro e x5 ⟨sa,sc,q5,rfl,e5,z5,cx5⟩;have bx5:=Nm.below_two bx4 cx5;have ly:=bx4.size;go_wp2_with fail
     refine hK.out _ _ (kS.out _ bx5) (fun hHeld=>?_);clear hK K;refine tkL (i:=5) (v:=?_) rfl ?_ ?_;rotate_left 1
     ·(rintro W ⟨s1,s2⟩;have ss1:=(fun i=>blk_cell s1 i);have ss2:=(fun i=>blk_cell s2 i);go_simp;try (with_reducible rfl))
     refine tkL (i:=6) (v:=?_) rfl ?_ ?_;rotate_left 1
     ·(rintro W ⟨s1,s2⟩;have ss1:=(fun i=>blk_cell s1 i);have ss2:=(fun i=>blk_cell s2 i);go_simp;try (with_reducible rfl))
     refine tkL (i:=7) (v:=?_) rfl ?_ ?_;rotate_left 1
     ·(rintro W ⟨s1,s2⟩;have ss1:=(fun i=>blk_cell s1 i);have ss2:=(fun i=>blk_cell s2 i);go_simp;try (with_reducible rfl))
     have kc:=blk_below kc cx5;have rk:=fun i=>blk_cell kc i
     have fk:=fun i=>blk_frozen kc i
     have kX:=setAll_new [.string O,.slice sa q5.length sc] kc rfl;have HX:Hid (ZOwn (setAll x5 wb.heap.size 0 [.string O,.slice sa q5.length sc]) wb.heap.size (.slice sa q5.length sc) q5∧Below wb.heap.size wb (setAll x5 wb.heap.size 0 [.string O,.slice sa q5.length sc])):=⟨(ZOwn.far (ZOwn.far z5 (by omega)) (by omega)).base (by omega),below_setA (by omega) _ 0 _ bx5⟩;simp only [setAll,Nat.zero_add] at kX HX;refine wpAnyL_one (i:=9) (by kernel_rfl) rfl (fun K hK=>?_);go_simp;refine hK.out _ _ (kS.out _ HX.out.2) (fun hHeld=>?_);clear hK K;refine tkL (i:=10) (v:=?_) rfl ?_ ?_;rotate_left 1
     ·(rintro W ⟨s1,s2⟩;have ss1:=(fun i=>blk_cell s1 i);have ss2:=(fun i=>blk_cell s2 i);go_simp;try (with_reducible rfl))
     refine wpAnyL_done (by kernel_rfl) ?_;go_wp2_with fail
     go_meet
     case rel=>exact⟨wb.heap.size,sa,sc,q5,rfl,rfl,by omega,kX,e5,HX.out.1,HX.out.2⟩
   case rest=>
    obtain⟨c0,sa0,sc0,qs0,rfl,rfl,hc0,kc0,hq0,z0,bc0⟩:=hcut;have lt0:=Nm.hide (zfp_lt z0);have bwc:=Nm.below_two bwb bc0;have hcc:c0<wc.heap.size:=blk_lt kc0;have s0:=bc0.size;obtain⟨ky3,kz3⟩:=kS.out _ bc0;have bk0:Bks wc [(w.heap.size,#[.string o,.slice va ps.length vc],24),(w.heap.size+1,(cgL a b (.slice da xs.length dc) (.slice ea ys.length ec)).toArray,45),(c0,#[.string O,.slice sa0 qs0.length sc0],35)]:=Bks.cons ky3 (Bks.cons kz3 (Bks.cons kc0 (fun x hx=>absurd hx (by simp))));have ry:=fun i=>blk_cell ky3 i
    clear hsp kS bd kyb kzb bc0 bwb kc0 kz3;go_wp2_with fail
    go_at_call 7
    refine(hto1 _ bwc).mono ?_;rintro e w4 ⟨u4,qs4,rfl,hq4,z4,b4⟩;obtain⟨ua4,uc4,hu4⟩:=own_sl z4.1;subst hu4;obtain⟨hC4,hD4⟩:=z4.lt;have s4:=b4.size;have cA:=(Below.refl w4.heap.size w4).alloc (Nat.le_refl _) (.cells #[.string o,.slice ua4 qs4.length uc4] 35);have x4:=blk_new w4 #[.string o,.slice ua4 qs4.length uc4] 35;have eA:(w4.alloc (.cells #[.string o,.slice ua4 qs4.length uc4] 35)).heap.size=w4.heap.size+1:=by simp
    have bA:=Nm.below_two b4 cA;have bk4:=bk0.below bA;have z04:=z0.below bA;have bw4:=Nm.below_two bwc bA;have z4A:=z4.below cA;have rz:=fun i=>blk_cell (bk4.get 1 rfl) i
    clear ry ky3 bk0 z0 bA cA z4;go_wp2_with fail
    go_at_call 16
    refine(hto2 _ bw4).mono ?_;rintro e w5 ⟨d5,e5,rfl,c5,b5⟩;obtain⟨⟨da5,dc5,rfl⟩,ea5,ec5,rfl⟩:=c5.sl;have s5:=b5.size;rw [eA] at s5 c5;obtain⟨bd5,be5⟩:=c5.bds;have cB:=(Below.refl w5.heap.size w5).alloc (Nat.le_refl _) (.cells (cgL a b (.slice da5 xs.length dc5) (.slice ea5 ys.length ec5)).toArray 30);have x5:=blk_new w5 (cgL a b (.slice da5 xs.length dc5) (.slice ea5 ys.length ec5)).toArray 30;have eB:(w5.alloc (.cells (cgL a b (.slice da5 xs.length dc5) (.slice ea5 ys.length ec5)).toArray 30)).heap.size=w5.heap.size+1:=by simp
    have bB:=Nm.below_two b5 cB;have bk5:=Bks.cons x5 (Bks.cons (blk_below x4 bB) (bk4.below bB));have z05:=z04.below bB;have bw5:=Nm.below_two bw4 bB;have z45:=z4A.below bB;have c5B:=c5.below cB;have rx:=fun i=>blk_cell (bk5.get 0 rfl) i
    have rx':=fun i=>blk_cell (bk5.get 1 rfl) i
    clear rz bk4 z04 bB cB c5 z4A x4 x5;go_wp2_with fail
    go_at_call 17
    refine(him _ _ _ qs4 _ hq4 z45.read c5B.rd.1 c5B.rd.2).mono ?_;rintro e w6 ⟨ga,gc,qs6,rfl,hq6,z6,b6⟩;rw [eB] at z6;have lt6:=Nm.hide (zfp_lt z6);have ge6:=Nm.hide (zfp_ge z6);have s6:=b6.size;rw [eB] at s6;have cC:=(Below.refl w6.heap.size w6).alloc (Nat.le_refl _) (.cells #[.string O,.slice ga qs6.length gc] 35);have k6:=blk_new w6 #[.string O,.slice ga qs6.length gc] 35;have bC:=Nm.below_two b6 cC;have bk6:=Bks.cons k6 (bk5.below bC);have z06:=z05.below bC;have bw6:=Nm.below_two bw5 bC;have z46:=z45.below bC;have c56:=c5B.below bC;have z66:=z6.below cC;have heq:=fun u u' qs rs W (g1:qs.map (·.1)=Z) (g2:rs.map (·.1)=Z) g3 g4=>eqZone_any O u u' qs rs W g3 g4 (g1.trans g2.symm) (hzl.out qs g1).2
    have hco:(C != C)=false:=by simp
    have r6:=fun i=>blk_cell (bk6.get 0 rfl) i
    have rc:=fun i=>blk_cell (bk6.get 5 rfl) i
    clear rx rx' bk5 z05 bC z45 c5B z6 cC k6 bw5;go_wp2_with fail
    go_at_call 10
    refine(heq _ _ qs6 qs0 _ hq6 hq0 z66.zrow z06.zrow).mono ?_;rintro e w7 ⟨rfl,b7⟩;have bk7:=bk6.below b7;have z07:=z06.below b7;have bw7:=Nm.below_two bw6 b7;have z47:=z46.below b7;have c57:=c56.below b7;have z67:=z66.below b7;clear r6 rc bk6 z06 z46 c56 z66 bw6;have hez1:=fun(u u':Value) (qs rs:List Zp) (W:World) (g1:qs.map (·.1)=ps.map (·.1)) (g2:rs.map (·.1)=ps.map (·.1)) (g3:ZRow W u qs) (g4:ZRow W u' rs)=>eqZone_any o u u' qs rs W g3 g4 (g1.trans g2.symm) (fun q hq=>by have:=(fitP_same g1 F1 q hq).2.1;omega)
    go_upto_region 14 with fail
    have bd:=(Below.refl w7.heap.size w7).drew;refine wp_region_last (fun X=>Blk X w.heap.size #[.string o,.slice va ps.length vc] 24∧Blk X w4.heap.size #[.string o,.slice ua4 qs4.length uc4] 35) 1000 (by kernel_rfl) ⟨blk_drew (bk7.get 3 rfl),blk_drew (bk7.get 2 rfl)⟩ (fun hHeld=>?_);refine tkL (i:=0) (v:=?_) rfl ?_ ?_;rotate_left 1
    ·(rintro W ⟨s1,s2⟩;have ss1:=(fun i=>blk_cell s1 i);have ss2:=(fun i=>blk_cell s2 i);go_simp;try (with_reducible rfl))
    refine tkL (i:=1) (v:=?_) rfl ?_ ?_;rotate_left 1
    ·(rintro W ⟨s1,s2⟩;have ss1:=(fun i=>blk_cell s1 i);have ss2:=(fun i=>blk_cell s2 i);go_simp;try (with_reducible rfl))
    refine wpAnyL_one (i:=2) (by kernel_rfl) rfl (fun K hK=>?_);go_simp;refine(hto1 _ (Nm.below_two bw7 bd)).mono ?_;rintro e wn ⟨un,qsn,rfl,hqn,zn,bn⟩;have b1n:=Nm.below_two bd bn;go_wp2_with fail
    refine hK.out _ _ ⟨blk_below (bk7.get 3 rfl) b1n,blk_below (bk7.get 2 rfl) b1n⟩ (fun hHeld=>?_);clear hK K;refine wpAnyL_one (i:=3) (by kernel_rfl) rfl (fun K hK=>?_);go_simp;refine(hez1 _ _ qs4 qsn _ hq4 hqn (z47.below b1n).read zn.read).mono ?_;rintro e w8 ⟨rfl,bn2⟩;have b2n:=Nm.below_two b1n bn2;go_wp2_with fail
    refine hK.out _ _ ⟨blk_below (bk7.get 3 rfl) b2n,blk_below (bk7.get 2 rfl) b2n⟩ (fun hHeld=>?_);clear hK K;refine tkL (i:=4) (v:=?_) rfl ?_ ?_;rotate_left 1
    ·(rintro W ⟨s1,s2⟩;have ss1:=(fun i=>blk_cell s1 i);have ss2:=(fun i=>blk_cell s2 i);go_simp;try (with_reducible rfl))
    refine wpAnyL_done (by kernel_rfl) ?_;have bk8:=bk7.below b2n;have z08:=z07.below b2n;have bw8:=Nm.below_two bw7 b2n;have z48:=z47.below b2n;have c58:=c57.below b2n;have z68:=z67.below b2n;clear bk7 z07 z47 c57 z67 bw7;clear b1n bn bn2 zn hqn b2n bd hez1;go_upto_region 16 with fail
    have bd:=(Below.refl w8.heap.size w8).drew;refine wp_region_last (fun X=>Blk X (w.heap.size+1) (cgL a b (.slice da xs.length dc) (.slice ea ys.length ec)).toArray 45∧Blk X w5.heap.size (cgL a b (.slice da5 xs.length dc5) (.slice ea5 ys.length ec5)).toArray 30) 1000 (by kernel_rfl) ⟨blk_drew (bk8.get 4 rfl),blk_drew (bk8.get 1 rfl)⟩ (fun hHeld=>?_);refine tkL (i:=0) (v:=?_) rfl ?_ ?_;rotate_left 1
    ·(rintro W ⟨s1,s2⟩;have ss1:=(fun i=>blk_cell s1 i);have ss2:=(fun i=>blk_cell s2 i);go_simp;try (with_reducible rfl))
    refine tkL (i:=1) (v:=?_) rfl ?_ ?_;rotate_left 1
    ·(rintro W ⟨s1,s2⟩;have ss1:=(fun i=>blk_cell s1 i);have ss2:=(fun i=>blk_cell s2 i);go_simp;try (with_reducible rfl))
    refine wpAnyL_one (i:=2) (by kernel_rfl) rfl (fun K hK=>?_);go_simp;refine(hto2 _ (Nm.below_two bw8 bd)).mono ?_;rintro e wm ⟨dn,en,rfl,zn,bn⟩;have b1n:=Nm.below_two bd bn;go_wp2_with fail
    refine hK.out _ _ ⟨blk_below (bk8.get 4 rfl) b1n,blk_below (bk8.get 1 rfl) b1n⟩ (fun hHeld=>?_);clear hK K;refine wpAnyL_one (i:=3) (by kernel_rfl) rfl (fun K hK=>?_);go_simp;refine(eqChange_any a b _ _ _ _ xs ys _ (c58.below b1n).rd.1 (c58.below b1n).rd.2 zn.rd.1 zn.rd.2).mono ?_;rintro e w9 ⟨rfl,bn2⟩;have b2n:=Nm.below_two b1n bn2;go_wp2_with fail
    refine hK.out _ _ ⟨blk_below (bk8.get 4 rfl) b2n,blk_below (bk8.get 1 rfl) b2n⟩ (fun hHeld=>?_);clear hK K;refine tkL (i:=4) (v:=?_) rfl ?_ ?_;rotate_left 1
    ·(rintro W ⟨s1,s2⟩;have ss1:=(fun i=>blk_cell s1 i);have ss2:=(fun i=>blk_cell s2 i);go_simp;try (with_reducible rfl))
    refine wpAnyL_done (by kernel_rfl) ?_;have bk9:=bk8.below b2n;have z09:=z08.below b2n;have bw9:=Nm.below_two bw8 b2n;have z49:=z48.below b2n;have c59:=c58.below b2n;have z69:=z68.below b2n;clear bk8 z08 z48 c58 z68 bw8;clear b1n bn bn2 zn b2n bd;have n1:zl qs4+5*xs.length<=6000000:=by have h:=zl_le qs4;have e:=congrArg List.length hq4;rw [zsum_same hq4] at h;simp at e;omega
    have hm1:=markZone_mk o _ qs4 wc.heap.size w4.heap.size 1 w9 z49 hC4 hD4 (by omega) (by decide);obtain⟨K1,hK1⟩:∃ K1:Nat,K1=1+zl qs4:=⟨_,rfl⟩;have hm2:=fun W g (hW:w4.heap.size+1<=W.heap.size)=>markChange_any a b (.slice da5 xs.length dc5) (.slice ea5 ys.length ec5) xs ys (w4.heap.size+1) K1 W g hW (by omega) (by omega) (by omega)
    obtain⟨K2,hK2⟩:∃ K2:Nat,K2=K1+xs.length*5+ys.length*5:=⟨_,rfl⟩;rw [<- hK1] at hm1;rw [<- hK2] at hm2;have p2:(0:Int)<=(K2:Int):=by omega
    have hz9:w6.heap.size<w9.heap.size:=blk_lt (bk9.get 0 rfl);clear hK1 hK2 n1;have rx:=fun i=>blk_cell (bk9.get 2 rfl) i
    go_wp2_with fail
    go_at_call 11
    refine hm1.mono ?_;rintro e w10 ⟨rfl,m1⟩
    have bk10:=bk9.keep (w':=w10) (fun x hx=>m1.block _ (blk_lt (bk9 x hx)) (by
     simp only [List.mem_cons,List.not_mem_nil,or_false] at hx
     rcases hx with rfl|rfl|rfl|rfl|rfl|rfl
     ·exact .inr (by show w4.heap.size<=w6.heap.size;omega)
     ·exact .inr (by show w4.heap.size<=w5.heap.size;omega)
     ·exact .inr (Nat.le_refl _)
     ·exact .inl (by show w.heap.size<wc.heap.size;omega)
     ·exact .inl (by show w.heap.size+1<wc.heap.size;omega)
     ·exact .inl hcc))
    have z010:=z09.keep (w':=w10) (fun g hg=>m1.block g (zfp_lt z09 g hg) (.inl (lt0.out g hg)));have c510:=c59.mjP (by omega) m1;have z610:=z69.keep (w':=w10) (fun g hg=>m1.block g (zfp_lt z69 g hg) (.inr (by have:=ge6.out g hg;omega)));have bw10:Below w.heap.size w w10:=bw9.trans (m1.down (by omega) bw9.size);have hz10:=m1.size;clear rx bk9 z09 z49 c59 z69 bw9 hm1;have rx:=fun i=>blk_cell (bk10.get 1 rfl) i
    go_wp2_with fail
    go_at_call 12
    refine(hm2 _ c510 (by omega)).mono ?_;rintro e w11 ⟨rfl,-,b11,hk11⟩
    have bk11:=bk10.keep (w':=w11) (fun x hx=>by
     have hl:=blk_lt (bk10 x hx)
     have key:x.1<=w4.heap.size∨w5.heap.size<=x.1:=by
      simp only [List.mem_cons,List.not_mem_nil,or_false] at hx
      rcases hx with rfl|rfl|rfl|rfl|rfl|rfl
      ·exact .inr (by show w5.heap.size<=w6.heap.size;omega)
      ·exact .inr (Nat.le_refl _)
      ·exact .inl (Nat.le_refl _)
      ·exact .inl (by show w.heap.size<=w4.heap.size;omega)
      ·exact .inl (by show w.heap.size+1<=w4.heap.size;omega)
      ·exact .inl (by show c0<=w4.heap.size;omega)
     exact hk11 _ hl (fun e=>by have:=bd5 _ e;omega) (fun e=>by have:=be5 _ e;omega))
    have z011:=z010.keep (w':=w11) (fun g hg=>hk11 g (zfp_lt z010 g hg) (fun e=>by have:=bd5 _ e;have:=lt0.out g hg;omega) (fun e=>by have:=be5 _ e;have:=lt0.out g hg;omega));have z611:=z610.keep (w':=w11) (fun g hg=>hk11 g (zfp_lt z610 g hg) (fun e=>by have:=bd5 _ e;have:=ge6.out g hg;omega) (fun e=>by have:=be5 _ e;have:=ge6.out g hg;omega));have bw11:Below w.heap.size w w11:=bw10.trans (Below.mono b11 (by omega));have r6:=fun i=>blk_cell (bk11.get 0 rfl) i
    have rc:=fun i=>blk_cell (bk11.get 5 rfl) i
    clear rx bk10 z010 z610 c510 bw10 hm2 hk11 b11;go_wp2_with fail
    go_at_call 10
    refine(heq _ _ qs6 qs0 _ hq6 hq0 z611.zrow z011.zrow).mono ?_;rintro e w12 ⟨rfl,b12⟩;have bk12:=bk11.below b12;have z012:=z011.below b12;have z612:=z611.below b12;have bw12:=Nm.below_two bw11 b12;have hmz:=markZone_own O _ qs6 (w5.heap.size+1) 1 w12 z612 (hzl.out qs6 hq6).1 (by decide);have hhz:=fun W g=>heldZone_any O (.slice ga qs6.length gc) qs6 1 W g (hzl.out qs6 hq6).1 (by decide)
    obtain⟨N,hN⟩:∃ N:Nat,N=1+zl qs6:=⟨_,rfl⟩;rw [<- hN] at hmz hhz;have hNp:(0:Int)<=(N:Int):=by omega
    have hNn:((N:Int) != (N:Int))=false:=by simp
    clear r6 rc bk11 z011 z611 bw11 hN;have r6:=fun i=>blk_cell (bk12.get 0 rfl) i
    go_wp2_with fail
    go_at_call 11
    refine hmz.mono ?_;rintro e w13 ⟨rfl,zm13,ou13⟩
    have bk13:=bk12.keep (w':=w13) (fun x hx=>by
     refine ou13.block _ (blk_lt (bk12 x hx)) (fun hm=>?_);have g1:=ge6.out _ hm;have g2:=lt6.out _ hm;simp only [List.mem_cons,List.not_mem_nil,or_false] at hx
     rcases hx with rfl|rfl|rfl|rfl|rfl|rfl<;>simp only at g1 g2<;>omega)
    have z013:=z012.keep (w':=w13) (fun g hg=>ou13.block g (zfp_lt z012 g hg) (fun hm=>by have:=ge6.out g hm;have:=lt0.out g hg;omega));have bw13:Below w.heap.size w w13:=bw12.trans (outs_base ou13 bw12.size (fun g hg=>by have:=ge6.out g hg;omega));have r13:=fun i=>blk_cell (bk13.get 0 rfl) i
    clear r6 bk12 z012 z612 bw12 hmz ou13;go_wp2_with fail
    go_at_call 18
    refine(hhz _ zm13.zrow).mono ?_;rintro e wq ⟨rfl,b14⟩;have bkq:=bk13.below b14;have z0q:=z013.below b14;have zmq:=zm13.below b14;have bwq:=Nm.below_two bw13 b14;have zq:w6.heap.size<wq.heap.size:=blk_lt (bkq.get 0 rfl);clear r13 bk13 z013 zm13 bw13 b14;have kyq:=bkq.get 3 rfl;have kzq:=bkq.get 4 rfl;have kS:Hid (∀ X,Below wq.heap.size wq X->Blk X w.heap.size #[.string o,.slice va ps.length vc] 24∧Blk X (w.heap.size+1) (cgL a b (.slice da xs.length dc) (.slice ea ys.length ec)).toArray 45):=fun X hX=>⟨blk_below kyq hX,blk_below kzq hX⟩
    have bd:=(Below.refl wq.heap.size wq).drew;go_upto_region 31 with fail
    go_cut [15,16] from 94 to 101 (fun p q wx=>∃ (c:Nat) (sa:Option Addr) (sc:Nat) (qs:List Zp),p=.pointer (some ⟨c,0,none⟩)∧q=.int .i64 C∧wq.heap.size<=c∧Blk wx c #[.string O,.slice sa qs.length sc] 35∧qs.map (·.1)=Z∧ZOwn wx wq.heap.size (.slice sa qs.length sc) qs∧Below wq.heap.size wq wx)
    case first=>
     refine wp_region_last (fun X=>Blk X w.heap.size #[.string o,.slice va ps.length vc] 24∧Blk X (w.heap.size+1) (cgL a b (.slice da xs.length dc) (.slice ea ys.length ec)).toArray 45) 1000 (by kernel_rfl) (kS.out _ bd) (fun hHeld=>?_);refine tkL (i:=0) (v:=?_) rfl ?_ ?_;rotate_left 1
     ·(rintro W ⟨s1,s2⟩;have ss1:=(fun i=>blk_cell s1 i);have ss2:=(fun i=>blk_cell s2 i);go_simp;try (with_reducible rfl))
     refine tkL (i:=2) (v:=?_) rfl ?_ ?_;rotate_left 1
     ·(rintro W ⟨s1,s2⟩;have ss1:=(fun i=>blk_cell s1 i);have ss2:=(fun i=>blk_cell s2 i);go_simp;try (with_reducible rfl))
     refine wpAnyL_two (i:=1) (j:=8) (by kernel_rfl) rfl rfl (fun K hK=>?_) (fun K hK=>?_)
     ·go_simp;refine(hto1 _ (Nm.below_two bwq bd)).mono ?_;rintro e x3 ⟨u1,q1,rfl,e1,z1,cx3⟩;have bx3:=Nm.below_two bd cx3;go_wp2_with fail
      refine hK.out _ _ (kS.out _ bx3) (fun hHeld=>?_);clear hK K;refine wpAnyL_two (i:=3) (j:=8) (by kernel_rfl) rfl rfl (fun K hK=>?_) (fun K hK=>?_)
      ·go_simp;refine(hto2 _ (Nm.below_two bwq bx3)).mono ?_;rintro e x4 ⟨d2,a2,rfl,z2,cx4⟩;have z1:=z1.below cx4;have bx4:=Nm.below_two bx3 cx4;go_wp2_with fail
       refine hK.out _ _ (kS.out _ bx4) (fun hHeld=>?_);clear hK K;refine wpAnyL_two (i:=4) (j:=8) (by kernel_rfl) rfl rfl (fun K hK=>?_) (fun K hK=>?_)
       ·go_simp;refine(him u1 d2 a2 q1 _ e1 z1.read z2.rd.1 z2.rd.2).mono ?_;rintro e x5 ⟨sa,sc,q5,rfl,e5,z5,cx5⟩;have bx5:=Nm.below_two bx4 cx5;have ly:=bx4.size;go_wp2_with fail
        refine hK.out _ _ (kS.out _ bx5) (fun hHeld=>?_);clear hK K;refine tkL (i:=5) (v:=?_) rfl ?_ ?_;rotate_left 1
        ·(rintro W ⟨s1,s2⟩;have ss1:=(fun i=>blk_cell s1 i);have ss2:=(fun i=>blk_cell s2 i);go_simp;try (with_reducible rfl))
        refine tkL (i:=6) (v:=?_) rfl ?_ ?_;rotate_left 1
        ·(rintro W ⟨s1,s2⟩;have ss1:=(fun i=>blk_cell s1 i);have ss2:=(fun i=>blk_cell s2 i);go_simp;try (with_reducible rfl))
        refine tkL (i:=7) (v:=?_) rfl ?_ ?_;rotate_left 1
        ·(rintro W ⟨s1,s2⟩;have ss1:=(fun i=>blk_cell s1 i);have ss2:=(fun i=>blk_cell s2 i);go_simp;try (with_reducible rfl))
        refine wpAnyL_one (i:=8) (by kernel_rfl) rfl (fun K hK=>?_);go_simp;have ca:=(Below.refl x5.heap.size x5).alloc (Nat.le_refl _) (.cells #[.string ⟨#[]⟩,.slice none 0 0] 35);have kc:=blk_new x5 #[.string ⟨#[]⟩,.slice none 0 0] 35;have rk:=fun i=>blk_cell kc i
        have fk:=fun i=>blk_frozen kc i
        have lb:=bx5.size;refine hK.out _ _ (kS.out _ (Nm.below_two bx5 ca)) (fun hHeld=>?_);clear hK K;have cn:=(Below.refl x5.heap.size x5).alloc (Nat.le_refl _) (.cells #[.string O,.slice sa q5.length sc] 35);have kX:=blk_new x5 #[.string O,.slice sa q5.length sc] 35;have HX:=Nm.hide (And.intro ((z5.below cn).base (B':=wq.heap.size) (by omega)) (Nm.below_two bx5 cn));refine wpAnyL_one (i:=9) (by kernel_rfl) rfl (fun K hK=>?_);go_simp;refine hK.out _ _ (kS.out _ HX.out.2) (fun hHeld=>?_);clear hK K;refine tkL (i:=10) (v:=?_) rfl ?_ ?_;rotate_left 1
        ·(rintro W ⟨s1,s2⟩;have ss1:=(fun i=>blk_cell s1 i);have ss2:=(fun i=>blk_cell s2 i);go_simp;try (with_reducible rfl))
        refine wpAnyL_done (by kernel_rfl) ?_;go_wp2_with fail
        go_meet
        case rel=>exact⟨x5.heap.size,sa,sc,q5,rfl,rfl,by omega,kX,e5,HX.out.1,HX.out.2⟩
       ·go_simp;have ca:=(Below.refl x4.heap.size x4).alloc (Nat.le_refl _) (.cells #[.string ⟨#[]⟩,.slice none 0 0] 35);have kc:=blk_new x4 #[.string ⟨#[]⟩,.slice none 0 0] 35;have la:x4.heap.size<(x4.alloc (.cells #[.string ⟨#[]⟩,.slice none 0 0] 35)).heap.size:=by simp
        have lb:=bx4.size;have bA:=Nm.below_two bx4 ca;have z1:=z1.below ca;have z2:=z2.below ca;refine hK.out _ _ (kS.out _ bA) (fun hHeld=>?_);clear hK K;refine wpAnyL_one (i:=4) (by kernel_rfl) rfl (fun K hK=>?_);go_simp;refine(him u1 d2 a2 q1 _ e1 z1.read z2.rd.1 z2.rd.2).mono ?_;rintro e x5 ⟨sa,sc,q5,rfl,e5,z5,cx5⟩;have bx5:=Nm.below_two bA cx5;have ly:=bA.size;go_wp2_with fail
        refine hK.out _ _ (kS.out _ bx5) (fun hHeld=>?_);clear hK K;refine tkL (i:=5) (v:=?_) rfl ?_ ?_;rotate_left 1
        ·(rintro W ⟨s1,s2⟩;have ss1:=(fun i=>blk_cell s1 i);have ss2:=(fun i=>blk_cell s2 i);go_simp;try (with_reducible rfl))
        refine tkL (i:=6) (v:=?_) rfl ?_ ?_;rotate_left 1
        ·(rintro W ⟨s1,s2⟩;have ss1:=(fun i=>blk_cell s1 i);have ss2:=(fun i=>blk_cell s2 i);go_simp;try (with_reducible rfl))
        refine tkL (i:=7) (v:=?_) rfl ?_ ?_;rotate_left 1
        ·(rintro W ⟨s1,s2⟩;have ss1:=(fun i=>blk_cell s1 i);have ss2:=(fun i=>blk_cell s2 i);go_simp;try (with_reducible rfl))
        have kc:=blk_below kc cx5;have rk:=fun i=>blk_cell kc i
        have fk:=fun i=>blk_frozen kc i
        have kX:=setAll_new [.string O,.slice sa q5.length sc] kc rfl;have HX:Hid (ZOwn (setAll x5 x4.heap.size 0 [.string O,.slice sa q5.length sc]) wq.heap.size (.slice sa q5.length sc) q5∧Below wq.heap.size wq (setAll x5 x4.heap.size 0 [.string O,.slice sa q5.length sc])):=⟨(ZOwn.far (ZOwn.far z5 (by omega)) (by omega)).base (by omega),below_setA (by omega) _ 0 _ bx5⟩;simp only [setAll,Nat.zero_add] at kX HX;refine wpAnyL_one (i:=9) (by kernel_rfl) rfl (fun K hK=>?_);go_simp;refine hK.out _ _ (kS.out _ HX.out.2) (fun hHeld=>?_);clear hK K;refine tkL (i:=10) (v:=?_) rfl ?_ ?_;rotate_left 1
        ·(rintro W ⟨s1,s2⟩;have ss1:=(fun i=>blk_cell s1 i);have ss2:=(fun i=>blk_cell s2 i);go_simp;try (with_reducible rfl))
        refine wpAnyL_done (by kernel_rfl) ?_;go_wp2_with fail
        go_meet
        case rel=>exact⟨x4.heap.size,sa,sc,q5,rfl,rfl,by omega,kX,e5,HX.out.1,HX.out.2⟩
      ·go_simp;have ca:=(Below.refl x3.heap.size x3).alloc (Nat.le_refl _) (.cells #[.string ⟨#[]⟩,.slice none 0 0] 35);have kc:=blk_new x3 #[.string ⟨#[]⟩,.slice none 0 0] 35;have la:x3.heap.size<(x3.alloc (.cells #[.string ⟨#[]⟩,.slice none 0 0] 35)).heap.size:=by simp
       have lb:=bx3.size;have bA:=Nm.below_two bx3 ca;have z1:=z1.below ca;refine hK.out _ _ (kS.out _ bA) (fun hHeld=>?_);clear hK K;refine wpAnyL_one (i:=3) (by kernel_rfl) rfl (fun K hK=>?_);go_simp;refine(hto2 _ (Nm.below_two bwq bA)).mono ?_;rintro e x4 ⟨d2,a2,rfl,z2,cx4⟩;have z1:=z1.below cx4;have bx4:=Nm.below_two bA cx4;go_wp2_with fail
       refine hK.out _ _ (kS.out _ bx4) (fun hHeld=>?_);clear hK K;have kc:=blk_below kc cx4;have lc:=cx4.size;refine wpAnyL_one (i:=4) (by kernel_rfl) rfl (fun K hK=>?_);go_simp;refine(him u1 d2 a2 q1 _ e1 z1.read z2.rd.1 z2.rd.2).mono ?_;rintro e x5 ⟨sa,sc,q5,rfl,e5,z5,cx5⟩;have bx5:=Nm.below_two bx4 cx5;have ly:=bx4.size;go_wp2_with fail
       refine hK.out _ _ (kS.out _ bx5) (fun hHeld=>?_);clear hK K;refine tkL (i:=5) (v:=?_) rfl ?_ ?_;rotate_left 1
       ·(rintro W ⟨s1,s2⟩;have ss1:=(fun i=>blk_cell s1 i);have ss2:=(fun i=>blk_cell s2 i);go_simp;try (with_reducible rfl))
       refine tkL (i:=6) (v:=?_) rfl ?_ ?_;rotate_left 1
       ·(rintro W ⟨s1,s2⟩;have ss1:=(fun i=>blk_cell s1 i);have ss2:=(fun i=>blk_cell s2 i);go_simp;try (with_reducible rfl))
       refine tkL (i:=7) (v:=?_) rfl ?_ ?_;rotate_left 1
       ·(rintro W ⟨s1,s2⟩;have ss1:=(fun i=>blk_cell s1 i);have ss2:=(fun i=>blk_cell s2 i);go_simp;try (with_reducible rfl))
       have kc:=blk_below kc cx5;have rk:=fun i=>blk_cell kc i
       have fk:=fun i=>blk_frozen kc i
       have kX:=setAll_new [.string O,.slice sa q5.length sc] kc rfl;have HX:Hid (ZOwn (setAll x5 x3.heap.size 0 [.string O,.slice sa q5.length sc]) wq.heap.size (.slice sa q5.length sc) q5∧Below wq.heap.size wq (setAll x5 x3.heap.size 0 [.string O,.slice sa q5.length sc])):=⟨(ZOwn.far (ZOwn.far z5 (by omega)) (by omega)).base (by omega),below_setA (by omega) _ 0 _ bx5⟩;simp only [setAll,Nat.zero_add] at kX HX;refine wpAnyL_one (i:=9) (by kernel_rfl) rfl (fun K hK=>?_);go_simp;refine hK.out _ _ (kS.out _ HX.out.2) (fun hHeld=>?_);clear hK K;refine tkL (i:=10) (v:=?_) rfl ?_ ?_;rotate_left 1
       ·(rintro W ⟨s1,s2⟩;have ss1:=(fun i=>blk_cell s1 i);have ss2:=(fun i=>blk_cell s2 i);go_simp;try (with_reducible rfl))
       refine wpAnyL_done (by kernel_rfl) ?_;go_wp2_with fail
       go_meet
       case rel=>exact⟨x3.heap.size,sa,sc,q5,rfl,rfl,by omega,kX,e5,HX.out.1,HX.out.2⟩
     ·go_simp;have ca:=(Below.refl wq.drew.heap.size wq.drew).alloc (Nat.le_refl _) (.cells #[.string ⟨#[]⟩,.slice none 0 0] 35);have kc:Blk (wq.drew.alloc (.cells #[.string ⟨#[]⟩,.slice none 0 0] 35)) wq.heap.size #[.string ⟨#[]⟩,.slice none 0 0] 35:=blk_new wq.drew #[.string ⟨#[]⟩,.slice none 0 0] 35;have la:wq.heap.size<(wq.drew.alloc (.cells #[.string ⟨#[]⟩,.slice none 0 0] 35)).heap.size:=by show wq.heap.size<(wq.heap.push _).size;simp
      have bA:=Nm.below_two bd ca;refine hK.out _ _ (kS.out _ bA) (fun hHeld=>?_);clear hK K;refine wpAnyL_one (i:=1) (by kernel_rfl) rfl (fun K hK=>?_);go_simp;refine(hto1 _ (Nm.below_two bwq bA)).mono ?_;rintro e x3 ⟨u1,q1,rfl,e1,z1,cx3⟩;have bx3:=Nm.below_two bA cx3;go_wp2_with fail
      refine hK.out _ _ (kS.out _ bx3) (fun hHeld=>?_);clear hK K;have kc:=blk_below kc cx3;have lc:=cx3.size;refine wpAnyL_one (i:=3) (by kernel_rfl) rfl (fun K hK=>?_);go_simp;refine(hto2 _ (Nm.below_two bwq bx3)).mono ?_;rintro e x4 ⟨d2,a2,rfl,z2,cx4⟩;have z1:=z1.below cx4;have bx4:=Nm.below_two bx3 cx4;go_wp2_with fail
      refine hK.out _ _ (kS.out _ bx4) (fun hHeld=>?_);clear hK K;have kc:=blk_below kc cx4;have ld:=cx4.size;refine wpAnyL_one (i:=4) (by kernel_rfl) rfl (fun K hK=>?_);go_simp;refine(him u1 d2 a2 q1 _ e1 z1.read z2.rd.1 z2.rd.2).mono ?_;rintro e x5 ⟨sa,sc,q5,rfl,e5,z5,cx5⟩;have bx5:=Nm.below_two bx4 cx5;have ly:=bx4.size;go_wp2_with fail
      refine hK.out _ _ (kS.out _ bx5) (fun hHeld=>?_);clear hK K;refine tkL (i:=5) (v:=?_) rfl ?_ ?_;rotate_left 1
      ·(rintro W ⟨s1,s2⟩;have ss1:=(fun i=>blk_cell s1 i);have ss2:=(fun i=>blk_cell s2 i);go_simp;try (with_reducible rfl))
      refine tkL (i:=6) (v:=?_) rfl ?_ ?_;rotate_left 1
      ·(rintro W ⟨s1,s2⟩;have ss1:=(fun i=>blk_cell s1 i);have ss2:=(fun i=>blk_cell s2 i);go_simp;try (with_reducible rfl))
      refine tkL (i:=7) (v:=?_) rfl ?_ ?_;rotate_left 1
      ·(rintro W ⟨s1,s2⟩;have ss1:=(fun i=>blk_cell s1 i);have ss2:=(fun i=>blk_cell s2 i);go_simp;try (with_reducible rfl))
      have kc:=blk_below kc cx5;have rk:=fun i=>blk_cell kc i
      have fk:=fun i=>blk_frozen kc i
      have kX:=setAll_new [.string O,.slice sa q5.length sc] kc rfl;have HX:Hid (ZOwn (setAll x5 wq.heap.size 0 [.string O,.slice sa q5.length sc]) wq.heap.size (.slice sa q5.length sc) q5∧Below wq.heap.size wq (setAll x5 wq.heap.size 0 [.string O,.slice sa q5.length sc])):=⟨(ZOwn.far (ZOwn.far z5 (by omega)) (by omega)).base (by omega),below_setA (by omega) _ 0 _ bx5⟩;simp only [setAll,Nat.zero_add] at kX HX;refine wpAnyL_one (i:=9) (by kernel_rfl) rfl (fun K hK=>?_);go_simp;refine hK.out _ _ (kS.out _ HX.out.2) (fun hHeld=>?_);clear hK K;refine tkL (i:=10) (v:=?_) rfl ?_ ?_;rotate_left 1
      ·(rintro W ⟨s1,s2⟩;have ss1:=(fun i=>blk_cell s1 i);have ss2:=(fun i=>blk_cell s2 i);go_simp;try (with_reducible rfl))
      refine wpAnyL_done (by kernel_rfl) ?_;go_wp2_with fail
      go_meet
      case rel=>exact⟨wq.heap.size,sa,sc,q5,rfl,rfl,by omega,kX,e5,HX.out.1,HX.out.2⟩
    case rest=>
     obtain⟨cE,saE,scE,qsE,rfl,rfl,hcE,kcE,hqE,zE,bE⟩:=hcut;have bkE:=bkq.below bE;have z0E:=z0q.below bE;have zmE:=zmq.below bE;have bwE:=Nm.below_two bwq bE;have rE:=fun i=>blk_cell kcE i
     have rE0:=fun i=>blk_cell (bkE.get 5 rfl) i
     clear kS bd kyq kzq bkq z0q zmq bwq bE;go_wp2_with fail
     go_at_call 10
     refine(heq _ _ qsE qs0 _ hqE hq0 zE.zrow z0E.zrow).mono ?_;rintro e w20 ⟨rfl,b20⟩;have r20:=fun i=>blk_cell ((bkE.below b20).get 0 rfl) i
     have bw20:=Nm.below_two bwE b20;clear rE rE0 kcE;go_wp2_with fail
     go_at_call 18
     refine(hhz _ (zmE.below b20).zrow).mono ?_;rintro e w21 ⟨rfl,b21⟩;go_wp2;go_ret;exact⟨rfl,Nm.below_two bw20 b21⟩
 ·have e1:szZ o ps 1048576= -1:=if_neg hb;rw [e1] at hsz;clear hb e1 hx1 hsy;go_enter Tryz.func4,Tryz.ntmps4;go_wp2_with fail
  go_at_call 5
  refine hsz.mono ?_;rintro e w1 ⟨rfl,b1⟩;go_wp2;go_ret;exact⟨rfl,Nm.below_two b0 b1⟩
end Go.Proofs.YtieobflhfcgliaaGreat
