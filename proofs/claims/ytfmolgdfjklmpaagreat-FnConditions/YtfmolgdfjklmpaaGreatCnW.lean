import Derived.Test.YtfmolgdfjklmpaaGreatJCnQ
import Derived.Test.YtfmolgdfjklmpaaGreatJCnA
import Derived.Test.YtfmolgdfjklmpaaGreatJCzE
import Derived.Test.YtfmolgdfjklmpaaGreatJSls
import Derived.Test.YtfmolgdfjklmpaaGreatJSCheck
namespace Go.Proofs.YtfmolgdfjklmpaaGreat
open Go.RowKit
set_option linter.unusedVariables false
theorem infoStrW:(Tryz.prog.info? 9).map (fun i=>(i.zero,i.size,i.bytes))=some (some (.string ByteArray.empty),1,16):=by kernel_rfl
theorem key_set{w:World}{b:Nat}{a:Value}{c:Value}{T:TypeId}{x y:Value}(h:Blk w b #[x,y] T):Blk ((w.setCell ⟨b,0,none⟩ a).setCell ⟨b,1,none⟩ c) b #[a,c] T:=by
 have:=blk_set (blk_set h 0 a) 1 c;simpa using this
section
variable {list:List Rr}{o:ByteArray}{bb:Nat}{lv:Value}{th:Nat}{ys:List ByteArray}{aa:Option Addr}{ac:Nat}{labv rv:Value}{os:List GOw}{kv:Value}{ks:List Ld}{B:Nat}
set_option maxRecDepth 100000 in
set_option maxHeartbeats 12800000 in
theorem checkWanted_any(u:Value)(xs:List Rr)(w:World)(hP:P3 list o bb lv th ys aa ac labv rv os kv ks B w)(hr:CRow w u xs.length 5 (rvVs xs))(hl:xs.length<=400)(hx:∀ r∈xs,(Nm.split r.own).isSome=true)(hf:∀ r∈xs,r.own.size<=1048576∧r.da.size<=1048576∧(Lit.int .i64 r.ty).wf=true):
 Calls Tryz.prog 47 #[.pointer (some ⟨bb,3,none⟩),u] w fun e w'=>e=.returned (.int .i64 (if xs.any (bdB (zoneT os) xs)=true then 8 else 0))∧Below w.heap.size w w':=by
 obtain⟨i0,hi,hz0,hz1,hz2⟩:=info_parts infoStrW;obtain⟨_,a,cap,rfl,hcap,hmx,hc⟩:=hr;unfold maxLen at hmx;obtain⟨R,HR⟩:∃ R,Hid (R=if xs.any (bdB (zoneT os) xs)=true then(8:Int) else 0):=⟨_,rfl⟩;rw [<- HR.out];have hmk:∀ W:World,(Instr.makeMap 142 none).run Tryz.prog W=.ok (.map (some W.heap.size)) (W.alloc (.map #[] 0)):=fun W=>rfl
 have w0:=wst_nil w;have b0:=(Below.refl w.heap.size w).alloc (Nat.le_refl _) (.map #[] 0);have HP:=Nm.hide hP;have HF:=Nm.hide hf;have HX:=Nm.hide hx;clear hP hf hx;go_enter Tryz.func47,Tryz.ntmps47;go_wp2_with fail
 clear hmk
 go_loopw [14] (fun i wr=>∃ (k:Nat) (L:List (SK×Value)),k<=xs.length∧i=.int .i64 k∧WSt w.heap.size (xs.take k) w.heap.size L wr∧Below w.heap.size w wr) (fun i _=>xs.length-(intOf i).toNat)
 case atStart=>exact⟨0,[],Nat.zero_le _,rfl,w0,b0⟩
 case round=>
  clear w0 b0;obtain⟨k,L,hk,rfl,hS,hbel⟩:=hrel
  by_cases hlt:k<xs.length
  ·obtain⟨x,hxk⟩:∃ x,xs[k]? =some x:=⟨_,List.getElem?_eq_getElem hlt⟩;obtain⟨b,off,rfl,hcell⟩:=hc (by omega);obtain⟨c0,c1,c2,c3,c4⟩:=rv_cells hcell hxk;have put:∀ {O:Nat} {z:Value},w.cell? ⟨b,O,none⟩=some z->wr.cell? ⟨b,O,none⟩=some z:=fun h=>(hbel.cell (World.block_lt_of_cell? w _ h)).trans h
   replace c0:=put c0
   replace c1:=put c1
   replace c2:=put c2
   replace c3:=put c3
   replace c4:=put c4
   have hmem:=List.mem_of_getElem? hxk;obtain⟨ho,hd,hty⟩:=HF.out x hmem;have i1:(0:Int)<=(k:Int):=by omega
   have i2:(k:Int)<(xs.length:Int):=by omega
   have HT:Hid (xs.take (k+1)=xs.take k++[x]):=by
    show _=_
    rw [List.take_add_one,hxk];rfl
   have hpl:(xs.take k).length<=400:=by rw [List.length_take];omega
   generalize xs.take k=PL at*;have lw:w.heap.size<wr.heap.size:=hS.1.m.lt;have HS:=Nm.hide hS;clear hcell hc put hxk hmem hS HR HX HP;obtain⟨ow,ty,cl,tt,da⟩:=x;simp only at c0 c1 c2 c3 c4 HT ho hd hty
   by_cases hcl:cl=1
   ·subst hcl;go_upto_region 6 with fail
    have k0:=blk_new wr #[.string ow,.int .i64 ty,.int .i64 1,.int .i64 tt,.string da] 33;have b0:=(Below.refl wr.heap.size wr).alloc (Nat.le_refl _) (.cells #[.string ow,.int .i64 ty,.int .i64 1,.int .i64 tt,.string da] 33);clear c0 c1 c2 c3 c4;generalize wr.alloc (.cells #[.string ow,.int .i64 ty,.int .i64 1,.int .i64 tt,.string da] 33)=W0 at*;go_cut [8] from 21 to 26 (fun p wx=>∃ kb:Nat,p=.pointer (some ⟨kb,0,none⟩)∧W0.heap.size<=kb∧Blk wx kb #[.string (Nm.small ow),.int .i64 ty] 144∧Below W0.heap.size W0 wx)
    case first=>
     have hfo:=fun W=>foldText_any ow W (by omega)
     have bd:=(Below.refl W0.heap.size W0).drew;clear HT HS hpl hlt;refine wp_region_last (fun X=>Blk X wr.heap.size #[.string ow,.int .i64 ty,.int .i64 1,.int .i64 tt,.string da] 33) 1000 (by kernel_rfl) (blk_drew k0) (fun hHeld=>?_);refine wpAnyL_take (i:=0) (v:=?_) rfl (by kernel_rfl) (by kernel_rfl) (by kernel_rfl) (by kernel_rfl) (fun _ _ _ h=>h) (Or.inl ⟨by kernel_rfl,?_⟩) (by assumption) ?_;rotate_left 1
     ·(intro W s1;have ss1:=(fun i=>blk_cell s1 i);go_simp;try (with_reducible rfl))
     refine wpAnyL_take (i:=1) (v:=?_) rfl (by kernel_rfl) (by kernel_rfl) (by kernel_rfl) (by kernel_rfl) (fun _ _ _ h=>h) (Or.inl ⟨by kernel_rfl,?_⟩) (by assumption) ?_;rotate_left 1
     ·(intro W s1;have ss1:=(fun i=>blk_cell s1 i);go_simp;try (with_reducible rfl))
     refine wpAnyL_take (i:=3) (v:=?_) rfl (by kernel_rfl) (by kernel_rfl) (by kernel_rfl) (by kernel_rfl) (fun _ _ _ h=>h) (Or.inl ⟨by kernel_rfl,?_⟩) (by assumption) ?_;rotate_left 1
     ·(intro W s1;have ss1:=(fun i=>blk_cell s1 i);go_simp;try (with_reducible rfl))
     refine wpAnyL_take (i:=4) (v:=?_) rfl (by kernel_rfl) (by kernel_rfl) (by kernel_rfl) (by kernel_rfl) (fun _ _ _ h=>h) (Or.inl ⟨by kernel_rfl,?_⟩) (by assumption) ?_;rotate_left 1
     ·(intro W s1;have ss1:=(fun i=>blk_cell s1 i);go_simp;try (with_reducible rfl))
     refine wpAnyL_two (i:=2) (j:=6) (by kernel_rfl) rfl rfl (fun K hK=>?_) (fun K hK=>?_)
     ·go_simp;refine(hfo _).mono ?_;rintro e w1 ⟨rfl,b1⟩;have e1:=Nm.below_two bd b1;go_wp2_with fail
      refine hK.out _ _ (blk_below k0 e1) (fun hHeld=>?_);clear hK K b1 hfo;refine wpAnyL_take (i:=5) (v:=?_) rfl (by kernel_rfl) (by kernel_rfl) (by kernel_rfl) (by kernel_rfl) (fun _ _ _ h=>h) (Or.inl ⟨by kernel_rfl,?_⟩) (by assumption) ?_;rotate_left 1
      ·(intro W s1;have ss1:=(fun i=>blk_cell s1 i);go_simp;try (with_reducible rfl))
      refine wpAnyL_one (i:=6) (by kernel_rfl) rfl (fun K hK=>?_);go_simp;have bz:=(Below.refl w1.heap.size w1).alloc (Nat.le_refl _) (.cells #[.string ⟨#[]⟩,.int .i64 0] 144);have kz:=blk_new w1 #[.string ⟨#[]⟩,.int .i64 0] 144;have rz:=fun i=>blk_cell kz i
      have fz:=fun i=>blk_frozen kz i
      refine hK.out _ _ (blk_below k0 (Nm.below_two e1 bz)) (fun hHeld=>?_);clear hK K;refine wpAnyL_one (i:=7) (by kernel_rfl) rfl (fun K hK=>?_);go_simp;have bn:=(Below.refl w1.heap.size w1).alloc (Nat.le_refl _) (.cells #[.string (Nm.small ow),.int .i64 ty] 144);have kn:=blk_new w1 #[.string (Nm.small ow),.int .i64 ty] 144;have en:=Nm.below_two e1 bn;refine hK.out _ _ (blk_below k0 en) (fun hHeld=>?_);clear hK K;refine wpAnyL_done (by kernel_rfl) ?_;go_wp2_with fail
      go_meet
      case rel=>exact⟨w1.heap.size,rfl,e1.size,kn,en⟩
     ·go_simp;have kz:=blk_drew (blk_new W0 #[.string ⟨#[]⟩,.int .i64 0] 144);have bA:Below W0.heap.size W0 (W0.alloc (.cells #[.string ⟨#[]⟩,.int .i64 0] 144)).drew:=((Below.refl _ _).alloc (Nat.le_refl _) _).drew;refine hK.out _ _ (blk_below k0 bA) (fun hHeld=>?_);clear hK K;generalize (W0.alloc (.cells #[.string ⟨#[]⟩,.int .i64 0] 144)).drew=A at*;refine wpAnyL_one (i:=2) (by kernel_rfl) rfl (fun K hK=>?_);go_simp;refine(hfo _).mono ?_;rintro e w1 ⟨rfl,b1⟩;have e1:=Nm.below_two bA b1;have kz1:=blk_below kz b1;go_wp2_with fail
      refine hK.out _ _ (blk_below k0 e1) (fun hHeld=>?_);clear hK K b1 hfo kz bA;refine wpAnyL_take (i:=5) (v:=?_) rfl (by kernel_rfl) (by kernel_rfl) (by kernel_rfl) (by kernel_rfl) (fun _ _ _ h=>h) (Or.inl ⟨by kernel_rfl,?_⟩) (by assumption) ?_;rotate_left 1
      ·(intro W s1;have ss1:=(fun i=>blk_cell s1 i);go_simp;try (with_reducible rfl))
      refine wpAnyL_one (i:=7) (by kernel_rfl) rfl (fun K hK=>?_);have rz:=fun i=>blk_cell kz1 i
      have fz:=fun i=>blk_frozen kz1 i
      go_simp;have kn:=key_set (a:=.string (Nm.small ow)) (c:=.int .i64 ty) kz1;have en:Below W0.heap.size W0 ((w1.setCell ⟨W0.heap.size,0,none⟩ (.string (Nm.small ow))).setCell ⟨W0.heap.size,1,none⟩ (.int .i64 ty)):=(e1.setCell (Nat.le_refl _) _).setCell (Nat.le_refl _) _;clear rz fz kz1;refine hK.out _ _ (blk_below k0 en) (fun hHeld=>?_);clear hK K;refine wpAnyL_done (by kernel_rfl) ?_;go_wp2_with fail
      go_meet
      case rel=>exact⟨W0.heap.size,rfl,Nat.le_refl _,kn,en⟩
    case rest=>
     obtain⟨kb,rfl,hkb,kk,ec⟩:=hcut;have lk:=blk_lt k0;have lkb0:wr.heap.size<kb:=by omega
     have bW0:=hbel.trans (b0.mono hbel.size);have bd:=(Below.refl wc.heap.size wc).drew;have q0:=blk_below (blk_below k0 ec) bd;have p0:=blk_below kk bd;have s0:WSt w.heap.size PL w.heap.size L wc.drew:=((HS.out.below b0).below ec).below bd;have bX0:Below w.heap.size w wc.drew:=Nm.below_two (Nm.below_two (Nm.below_two hbel b0) ec) bd;have lx:wr.heap.size<wc.drew.heap.size:=blk_lt q0;have lkb:kb<wc.drew.heap.size:=blk_lt p0;have hfd:=fun W=>implFoldData_any ty da W (by omega)
     obtain⟨D,HD⟩:∃ D,Hid (D=foldR ty da):=⟨_,rfl⟩;rw [<- HD.out] at hfd;have hsf:SFit (keyOfR ⟨ow,ty,1,tt,da⟩):=⟨by show(Nm.small ow).size<=maxLen;rw [Nm.small_size];unfold maxLen;omega,hty⟩;have hwl:(wntK PL (keyOfR ⟨ow,ty,1,tt,da⟩)).length<=400:=Nat.le_trans (wntK_len _ _) hpl;clear HS b0 k0 ec kk bd bW0 lk hpl;go_upto_region 7 with fail
     refine wp_region_last (fun X=>Blk X kb #[.string (Nm.small ow),.int .i64 ty] 144∧Blk X wr.heap.size #[.string ow,.int .i64 ty,.int .i64 1,.int .i64 tt,.string da] 33) 1000 (by kernel_rfl) ⟨p0,q0⟩ (fun hHeld=>?_);generalize wc.drew=X0 at*;refine wpAnyL_take (i:=0) (v:=?_) rfl (by kernel_rfl) (by kernel_rfl) (by kernel_rfl) (by kernel_rfl) (fun _ _ _ h=>h) (Or.inl ⟨by kernel_rfl,?_⟩) (by assumption) ?_;rotate_left 1
     ·(rintro W ⟨s1,s2⟩;have ss1:=(fun i=>blk_cell s1 i);have ss2:=(fun i=>blk_cell s2 i);go_simp;try (with_reducible rfl))
     refine wpAnyL_take (i:=1) (v:=?_) rfl (by kernel_rfl) (by kernel_rfl) (by kernel_rfl) (by kernel_rfl) (fun _ _ _ h=>h) (Or.inl ⟨by kernel_rfl,?_⟩) (by assumption) ?_;rotate_left 1
     ·(rintro W ⟨s1,s2⟩;have ss1:=(fun i=>blk_cell s1 i);have ss2:=(fun i=>blk_cell s2 i);go_simp;try (with_reducible rfl))
     refine wpAnyL_take (i:=2) (v:=?_) rfl (by kernel_rfl) (by kernel_rfl) (by kernel_rfl) (by kernel_rfl) (fun _ _ _ h=>h) (Or.inl ⟨by kernel_rfl,?_⟩) (by assumption) ?_;rotate_left 1
     ·(rintro W ⟨s1,s2⟩;have ss1:=(fun i=>blk_cell s1 i);have ss2:=(fun i=>blk_cell s2 i);go_simp;try (with_reducible rfl))
     refine wpAnyL_take (i:=3) (v:=?_) rfl (by kernel_rfl) (by kernel_rfl) (by kernel_rfl) (by kernel_rfl) (fun _ _ _ h=>h) (Or.inl ⟨by kernel_rfl,?_⟩) (by assumption) ?_;rotate_left 1
     ·(rintro W ⟨s1,s2⟩;have ss1:=(fun i=>blk_cell s1 i);have ss2:=(fun i=>blk_cell s2 i);go_simp;try (with_reducible rfl))
     refine wpAnyL_take (i:=4) (v:=?_) rfl (by kernel_rfl) (by kernel_rfl) (by kernel_rfl) (by kernel_rfl) (fun _ _ _ h=>h) (Or.inl ⟨by kernel_rfl,?_⟩) (by assumption) ?_;rotate_left 1
     ·(rintro W ⟨s1,s2⟩;have ss1:=(fun i=>blk_cell s1 i);have ss2:=(fun i=>blk_cell s2 i);go_simp;try (with_reducible rfl))
     refine wpAnyL_take (i:=5) (v:=?_) rfl (by kernel_rfl) (by kernel_rfl) (by kernel_rfl) (by kernel_rfl) (fun _ _ _ h=>h) (Or.inl ⟨by kernel_rfl,?_⟩) (by assumption) ?_;rotate_left 1
     ·(rintro W ⟨s1,s2⟩;have ss1:=(fun i=>blk_cell s1 i);have ss2:=(fun i=>blk_cell s2 i);go_simp;try (with_reducible rfl))
     refine wpAnyL_one (i:=6) (by kernel_rfl) rfl (fun K hK=>?_);go_simp;refine(hfd _).mono ?_;rintro e X1 ⟨rfl,c1⟩;have p1:=blk_below p0 c1;have q1:=blk_below q0 c1;have s1:=s0.below c1;have bX1:=Nm.below_two bX0 c1;have l1:=c1.size;go_wp2_with fail
     refine hK.out _ _ ⟨p1,q1⟩ (fun hHeld=>?_);clear hK K c1 hfd;refine wpAnyL_one (i:=7) (by kernel_rfl) rfl (fun K hK=>?_);go_simp;have c2:=(Below.refl X1.heap.size X1).alloc (Nat.le_refl _) (.cells #[.string D] 9);have kS:=blk_new X1 #[.string D] 9;have p2:=blk_below p1 c2;have q2:=blk_below q1 c2;have s2:=s1.below c2;have bX2:=Nm.below_two bX1 c2;have l2:=c2.size;refine hK.out _ _ ⟨p2,q2⟩ (fun hHeld=>?_);clear hK K c2;generalize X1.alloc (.cells #[.string D] 9)=X2 at*;obtain⟨v,j,X3,L',hrun0,g3,z3,hC,hj,hin⟩:=s2.entry hsf;have hrun:(Instr.mapEntry 142 (.map (some w.heap.size)) (.agg #[.string (Nm.small ow),.int .i64 ty])).run Tryz.prog X2=.ok (.tuple #[v,.int .i64 (j:Int)]) X3:=hrun0;have p3:=blk_grown p2 g3 (by simp;omega);have q3:=blk_grown q2 g3 (by simp;omega);have bX3:Below w.heap.size w X3:=bX2.grown g3 bX2.size (fun g hg=>by simp at hg;omega);have l3:=g3.size;have kS:=blk_grown kS g3 (by simp;omega);have hvo:X3.ownsRow w.heap.size 9 1 v (wntK PL (keyOfR ⟨ow,ty,1,tt,da⟩)).length ((wntK PL (keyOfR ⟨ow,ty,1,tt,da⟩)).map Value.string):=hC.own _ (List.mem_of_getElem? hj);have HC:=Nm.hide (And.intro hC (And.intro hj hin));clear z3 hC hj hin g3 s0 s1 s2 hrun0;refine wpAnyL_one (i:=8) (by kernel_rfl) rfl (fun K hK=>?_);go_simp;refine hK.out _ _ ⟨p3,q3⟩ (fun hHeld=>?_);clear hK K hrun;generalize X1.heap.size=fb at*;refine wpAnyL_take (i:=9) (v:=?_) rfl (by kernel_rfl) (by kernel_rfl) (by kernel_rfl) (by kernel_rfl) (fun _ _ _ h=>h) (Or.inl ⟨by kernel_rfl,?_⟩) (by assumption) ?_;rotate_left 1
     ·(rintro W ⟨s1,s2⟩;have ss1:=(fun i=>blk_cell s1 i);have ss2:=(fun i=>blk_cell s2 i);go_simp;try (with_reducible rfl))
     refine wpAnyL_take (i:=11) (v:=?_) rfl (by kernel_rfl) (by kernel_rfl) (by kernel_rfl) (by kernel_rfl) (fun _ _ _ h=>h) (Or.inl ⟨by kernel_rfl,?_⟩) (by assumption) ?_;rotate_left 1
     ·(rintro W ⟨s1,s2⟩;have ss1:=(fun i=>blk_cell s1 i);have ss2:=(fun i=>blk_cell s2 i);go_simp;try (with_reducible rfl))
     refine wpAnyL_one (i:=10) (by kernel_rfl) rfl (fun K hK=>?_);refine step_append_own_at rfl (.tmp 29) (.tmp 35) 46 rfl w.heap.size 9 i0 (.string ByteArray.empty) 1 16 Tryz.underlying46 hi hz0 hz1 hz2 rfl (by decide) v _ _ (by go_simp) hvo ⟨fb,0,none⟩ 1 1 [.string D] (by go_simp) rfl (fun j z hz=>by rw [Nm.addr_add,Nat.zero_add];exact(blk_cell kS j).trans (by simpa using hz)) (by simp [Value.oneCell']) (by unfold maxLen;omega) (by omega) (by omega) ?_;intro va X9 o9 g9 _ hat;have p9:=blk_grown p3 g9 (own_nb hvo p3 (by decide));have q9:=blk_grown q3 g9 (own_nb hvo q3 (by decide));have m9:=HC.out.1.m.kept (g9.block w.heap.size HC.out.1.m.lt (fun e=>row_not_map hvo HC.out.1.m e.symm));obtain⟨X10,hst,g10,z10,m10⟩:=KMap.store (t:=142) m9 HC.out.2.1 va;have p10:=blk_grown p9 g10 (by simp;omega);have q10:=blk_grown q9 g10 (by simp;omega)
     have HZ:Hid (WSt w.heap.size (PL++[⟨ow,ty,1,tt,da⟩]) w.heap.size (L'.set j (keyOfR ⟨ow,ty,1,tt,da⟩,va)) X10∧Below w.heap.size w X10):=by
      refine⟨HC.out.1.done HC.out.2.1 rfl (by rw [HD.out] at o9;exact o9) g9 hat g10 m10 HC.out.2.2,?_⟩;have e9:Below w.heap.size w X9:=bX3.grown g9 (by omega) (fun g hg=>(hvo.lt g hg).1);exact e9.grown g10 e9.size (fun g hg=>by simp at hg;omega)
     refine hK.out _ _ ⟨p9,q9⟩ (fun hHeld=>?_);clear hK K o9 g9 hat m9 hvo kS m10 g10;refine wpAnyL_one (i:=12) (by kernel_rfl) rfl (fun K hK=>?_);go_simp;refine hK.out _ _ ⟨p10,q10⟩ (fun hHeld=>?_);clear hK K hst;refine wpAnyL_done (by kernel_rfl) ?_;go_simp;go_wp2_with fail
     go_roundw
     case rel=>exact⟨k+1,_,by omega,by go_num,by rw [HT.out];exact HZ.out.1,HZ.out.2⟩
     case measure=>simp [intOf];omega
   ·have e1:(cl==1)=false:=by simpa using hcl
    have b0:=(Below.refl wr.heap.size wr).alloc (Nat.le_refl _) (.cells #[.string ow,.int .i64 ty,.int .i64 cl,.int .i64 tt,.string da] 33);have HZ:Hid (WSt w.heap.size (PL++[⟨ow,ty,cl,tt,da⟩]) w.heap.size L (wr.alloc (.cells #[.string ow,.int .i64 ty,.int .i64 cl,.int .i64 tt,.string da] 33))∧Below w.heap.size w (wr.alloc (.cells #[.string ow,.int .i64 ty,.int .i64 cl,.int .i64 tt,.string da] 33))):=⟨(HS.out.below b0).skip hcl,Nm.below_two hbel b0⟩;clear HS b0 hbel hcl lw hpl;go_wp2;go_roundw
    case rel=>exact⟨k+1,L,by omega,by go_num,by rw [HT.out];exact HZ.out.1,HZ.out.2⟩
    case measure=>simp [intOf];omega
  ·have hkl:k=xs.length:=by omega
   subst hkl;rw [List.take_length] at hS;have i2:¬((xs.length:Int)<(xs.length:Int)):=by omega
   have hrr:=RSt.range_run hS.1.m;have hr0:=rst_start (ss:=zoneT os) hS;have bz:=hbel.alloc hbel.size (.mapIter (some w.heap.size) L.length #[] L.length);have lit:w.heap.size<wr.heap.size:=hS.1.m.lt;have HSS:=Nm.hide hS;clear hc hS hi hz0 hz1 hz2 hlt hbel;go_wp2_with fail
   clear hrr i2;generalize wr.alloc (.mapIter (some w.heap.size) L.length #[] L.length)=WI at*;generalize wr.heap.size=it at*;have HIN:=Nm.hide (And.intro hr0 bz);clear hr0 bz
   go_loopw [] (fun wz=>∃ seen:Array Nat,RSt w.heap.size w.heap.size it xs L (zoneT os) seen wz∧Below w.heap.size w wz) (fun wz=>itN L.length it wz)
   case atStart=>exact⟨#[],HIN.out.1,HIN.out.2⟩
   case round=>
    clear HIN;obtain⟨seen,hR,hb⟩:=hrel
    rcases hR.next 0 with⟨hall,hrun⟩|⟨i,x,v,W1,hL,hs,hrun0,hen0,hg,hm,hit,hv⟩
    ·have HN:Hid (R=0):=by
      show _=_
      rw [HR.out,bad_no HSS.out HX.out hall];rfl
     clear HR hall hR HSS;go_wp2;go_ret;rw [HN.out];exact⟨rfl,hb⟩
    ·obtain⟨x1,x2⟩:=x;obtain⟨q,hq,hqc,hqk⟩:=key_in (HSS.out.2 _ (List.mem_of_getElem? hL));obtain⟨ql,hql⟩:=Option.isSome_iff_exists.1 (HX.out q hq)
     have hsp:Nm.split x1=some (ql.map Nm.small):=by
      have h1:=split_small hql;have h2:Nm.small q.own=x1:=congrArg Prod.fst hqk
      rwa [h2] at h1
     have hsz:x1.size<=1048576:=by
      have h2:Nm.small q.own=x1:=congrArg Prod.fst hqk;rw [<- h2,Nm.small_size];exact(HF.out q hq).1
     have hds:(wntK xs (x1,x2)).length<=400:=Nat.le_trans (wntK_len _ _) hl;have hne:=row_some hv (by have:=HSS.out.2 _ (List.mem_of_getElem? hL);simpa using this);have hkk:=cs_same (ds:=wntK xs (x1,x2)) (seD_up HP.out.st.inv HP.out.good.1 hsp x2);obtain⟨KY,HKY⟩:∃ K,Hid (K=kyB (zoneT os) xs (x1,x2)):=⟨_,rfl⟩;rw [show samB (wntK xs (x1,x2)) (seD (zoneT os) x1 x2)=KY from HKY.out.symm] at hkk;have hrun:(Instr.next (.pointer (some ⟨it,0,none⟩)) false 0).run Tryz.prog wr=.ok (.tuple #[.bool true,.agg #[.string x1,.int .i64 x2],v]) W1:=hrun0;have hen:(Instr.entry (.pointer (some ⟨it,0,none⟩))).run Tryz.prog W1=.ok (.tuple #[.agg #[.string x1,.int .i64 x2],v]) W1:=hen0;have kz:=blk_new W1 #[.string x1,.int .i64 x2] 144;have b2:=(Below.refl W1.heap.size W1).alloc (Nat.le_refl _) (.cells #[.string x1,.int .i64 x2] 144);have hv2:=own_below hv b2;have bW1:Below w.heap.size w W1:=hb.grown hg hb.size (fun g hg=>by simp at hg;omega);have bW2:=Nm.below_two bW1 b2;have HST:=Nm.hide (And.intro hR (And.intro hL (And.intro hs (And.intro hg (And.intro hm (And.intro hit hv))))));have HDS:=Nm.hide (show ∃ DS,DS=wntK xs (x1,x2) from⟨_,rfl⟩);have hso:=sortS_any hv2 hne (by omega);have G2:W1.grownBy (W1.alloc (.cells #[.string x1,.int .i64 x2] 144)) v.ownBlock:=kgrown_below b2;clear hrun0 hen0 hR hL hs hg hm hit hv hq hqc hqk hql b2;go_wp2_with fail
     refine hso.mono ?_;rintro e W3 ⟨rfl,o3,g3⟩;have kz3:=blk_grown kz g3 (own_nb hv2 kz (by decide));have G3:=kgrown_two G2 g3 (fun k e _=>e);have bW3:=bW2.grown g3 bW2.size (fun g hg=>(hv2.lt g hg).1);clear hso hrun hen kz G2 g3 hv2 bW2;go_upto_region 13 with fail
     have bd:=(Below.refl W3.heap.size W3).drew;have o4:W3.drew.ownsRow w.heap.size 9 1 v (srt (wntK xs (x1,x2))).length ((srt (wntK xs (x1,x2))).map Value.string):=by rw [srt_len];exact own_below o3 bd
     have kz4:=blk_below kz3 bd;have G4:=kgrown_next G3 bd;have bW4:=Nm.below_two bW3 bd;clear o3 kz3 G3 bW3 bd;refine wp_region_last (fun X=>Blk X W1.heap.size #[.string x1,.int .i64 x2] 144) 1000 (by kernel_rfl) kz4 (fun hHeld=>?_);generalize W3.drew=W4 at*;refine wpAnyL_take (i:=0) (v:=?_) rfl (by kernel_rfl) (by kernel_rfl) (by kernel_rfl) (by kernel_rfl) (fun _ _ _ h=>h) (Or.inl ⟨by kernel_rfl,?_⟩) (by assumption) ?_;rotate_left 1
     ·(intro W s1;have ss1:=(fun i=>blk_cell s1 i);go_simp;try (with_reducible rfl))
     refine wpAnyL_take (i:=2) (v:=?_) rfl (by kernel_rfl) (by kernel_rfl) (by kernel_rfl) (by kernel_rfl) (fun _ _ _ h=>h) (Or.inl ⟨by kernel_rfl,?_⟩) (by assumption) ?_;rotate_left 1
     ·(intro W s1;have ss1:=(fun i=>blk_cell s1 i);go_simp;try (with_reducible rfl))
     refine wpAnyL_take (i:=3) (v:=?_) rfl (by kernel_rfl) (by kernel_rfl) (by kernel_rfl) (by kernel_rfl) (fun _ _ _ h=>h) (Or.inl ⟨by kernel_rfl,?_⟩) (by assumption) ?_;rotate_left 1
     ·(intro W s1;have ss1:=(fun i=>blk_cell s1 i);go_simp;try (with_reducible rfl))
     have hco:=compactS_any o4 hne (by rw [srt_len];omega);refine wpAnyL_one (i:=1) (by kernel_rfl) rfl (fun K hK=>?_);go_simp;refine hco.mono ?_;rintro e W5 ⟨u5,rfl,o5,g5⟩;have kz5:=blk_grown kz4 g5 (own_nb o4 kz4 (by decide));have G5:=kgrown_two G4 g5 (fun k e _=>e);have bW5:=bW4.grown g5 bW4.size (fun g hg=>(o4.lt g hg).1);have hfo:=foldedData_any x1 (ql.map Nm.small) x2 W5 (HP.out.below bW5) hsp hsz;go_wp2_with fail
     refine hK.out _ _ kz5 (fun hHeld=>?_);clear hK K hco kz4 G4 bW4 g5 o4;refine wpAnyL_one (i:=4) (by kernel_rfl) rfl (fun K hK=>?_);go_simp;refine hfo.mono ?_;rintro e W6 ⟨u6,rfl,o6,b6⟩;have kz6:=blk_below kz5 b6;have G6:=kgrown_next G5 b6;have bW6:=Nm.below_two bW5 b6;have heq:=equalStr_any u5 u6 _ _ W6 (Nm.SRow.of_owns (own_below o5 b6)) (Nm.SRow.of_owns o6);rw [hkk] at heq;go_wp2_with fail
     refine hK.out _ _ kz6 (fun hHeld=>?_);clear hK K hfo kz5 G5 bW5 b6 o5 o6 hkk;refine wpAnyL_one (i:=5) (by kernel_rfl) rfl (fun K hK=>?_);go_simp;refine heq.mono ?_;rintro e W7 ⟨rfl,b7⟩;have kz7:=blk_below kz6 b7;have G7:=kgrown_next G6 b7;have bW7:=Nm.below_two bW6 b7;go_wp2_with fail
     refine hK.out _ _ kz7 (fun hHeld=>?_);clear hK K heq kz6 G6 bW6 b7;refine wpAnyL_take (i:=6) (v:=?_) rfl (by kernel_rfl) (by kernel_rfl) (by kernel_rfl) (by kernel_rfl) (fun _ _ _ h=>h) (Or.inl ⟨by kernel_rfl,?_⟩) (by assumption) ?_;rotate_left 1
     ·(intro W s1;have ss1:=(fun i=>blk_cell s1 i);go_simp;try (with_reducible rfl))
     refine wpAnyL_done (by kernel_rfl) ?_;go_simp;obtain⟨hR,hL,hs,hg,hm,hit,hv⟩:=HST.out
     cases KY with
     |true=>
      have HZ:=Nm.hide (hR.step hL hs hg hm hit hv G7 HKY.out.symm);have HF2:=Nm.hide (hR.few (List.getElem?_eq_some_iff.1 hL).1 hs);have HLF:=Nm.hide hR.left;clear hR hL hs hg hm hit hv G7 HST HKY HSS;go_wp2;go_roundw
      case rel=>exact⟨_,HZ.out,bW7⟩
      case measure=>
       rw [HZ.out.left,HLF.out,Array.size_push];have:=HF2.out
       omega
     |false=>
      have HN:Hid (R=8):=by
       show _=_
       rw [HR.out,bad_yes HSS.out HX.out (List.mem_of_getElem? hL) HKY.out.symm];rfl
      clear hR hL hs hg hm hit hv G7 HST HKY HSS;go_wp2;go_ret;rw [HN.out];exact⟨rfl,bW7⟩
end
end Go.Proofs.YtfmolgdfjklmpaaGreat
