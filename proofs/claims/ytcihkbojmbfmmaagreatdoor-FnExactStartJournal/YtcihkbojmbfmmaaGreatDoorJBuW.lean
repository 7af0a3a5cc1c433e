import Derived.Test.YtcihkbojmbfmmaaGreatDoorJCzC
import Derived.Test.YtcihkbojmbfmmaaGreatDoorJShK
import Derived.Test.YtcihkbojmbfmmaaGreatDoorJMath
import Derived.Test.YtcihkbojmbfmmaaGreatDoorJIBg
namespace Go.Proofs.YtcihkbojmbfmmaaGreatDoor
open Go.RowKit
set_option linter.unusedVariables false
set_option maxRecDepth 100000 in
set_option maxHeartbeats 1000000 in
theorem copyCheck_any(B b:Nat)(bs:List Value)(w:World)(h:Lib.IsBuilder 108 5 B b bs w):
 Calls Tryz.prog 100 #[.pointer (some ⟨b,0,none⟩)] w fun e w'=>e=.returned (.tuple #[])∧(Lib.BuilderAt 108 5 B b (.pointer (some ⟨b,0,none⟩)) bs w'∧Below B w w'∧∀ g cs T,T≠108->Blk w g cs T->Blk w' g cs T):=by
 have X:=Tryz.Builder_Extra_169;obtain⟨j,hj,hjs⟩:=Option.map_eq_some_iff.1 X.sizeBuilder
 rcases h with h|h
 ·have h0:=h.cell0;have hsh:=h.shape;have hfz:=h.frozen0;have hend:(Lib.BuilderAt 108 5 B b (.pointer (some ⟨b,0,none⟩)) bs (w.setCell ⟨b,0,none⟩ (.pointer (some ⟨b,0,none⟩)))∧Below B w (w.setCell ⟨b,0,none⟩ (.pointer (some ⟨b,0,none⟩)))∧∀ g cs T,T≠108->Blk w g cs T->Blk (w.setCell ⟨b,0,none⟩ (.pointer (some ⟨b,0,none⟩))) g cs T):=⟨h.used _,(Below.refl B w).setCell (p:=⟨b,0,none⟩) h.1 _,fun g cs T hT hg=>blk_far hg (fun e=>by obtain⟨_,v,hbk,_⟩:=h;subst e;have e3:=hg.symm.trans hbk;injection e3 with e3;injection e3 with _ e4;exact hT e4)⟩;go_enter Tryz.func100,Tryz.ntmps100;go_wp2;rw [Lib.run_to_unsafe w ⟨b,0,none⟩ Tryz.underlying106 Tryz.underlying191 hj (by rw [hjs];decide) hsh (Nat.zero_lt_succ 1)];simp only [Result.andThen];rw [Oper.upon_value];go_wp2;rw [run_callFunc_extern Tryz.func130 (by kernel_rfl) (by kernel_rfl) (by kernel_rfl) (e:=Extern.AbiNoEscape.same) (by kernel_rfl)];rw [Lib.run_noEscape];simp only [Result.andThen];rw [Oper.upon_value];go_wp2;rw [Lib.run_from_unsafe w ⟨b,0,none⟩ Tryz.underlying191 Tryz.underlying106 hj hsh X.liesBuilder];simp only [Result.andThen];rw [Oper.upon_value];go_wp2
  go_end0
  exact⟨rfl,hend⟩
 ·have h0:=h.cell0;go_enter Tryz.func100,Tryz.ntmps100;go_wp2;rw [Lib.run_neq_ptr_same w _ Tryz.underlying106 hj];go_wp2
  go_end0
  exact⟨rfl,h,Below.refl B _,fun _ _ _ _ h=>h⟩
set_option maxRecDepth 100000 in
set_option maxHeartbeats 1000000 in
theorem writeString_any(B b:Nat)(bs:List Value)(s:ByteArray)(w:World)(h:Lib.IsBuilder 108 5 B b bs w)(hlen:bs.length+s.size<=140737488355328)(hBw:B<=w.heap.size):
 Calls Tryz.prog 66 #[.pointer (some ⟨b,0,none⟩),.string s] w fun e w'=>e=.returned (.tuple #[.int .i64 s.size,.nilIface])∧(Lib.BuilderAt 108 5 B b (.pointer (some ⟨b,0,none⟩)) (bs++Lib.strCells s) w'∧Below B w w'∧∀ g cs T,T≠108->T≠5->Blk w g cs T->Blk w' g cs T):=by
 obtain⟨i0,hi,hz0,hz1,hz2⟩:=info_parts Tryz.infoBy;go_enter Tryz.func66,Tryz.ntmps66;go_wp2_with (go_at_call 100;refine(copyCheck_any B b bs _ h).mono ?_)
 rintro e w1 ⟨rfl,h1,hb1,hk1⟩;obtain⟨hB,v,hbk,hown,hne⟩:=h1;have hs1:=hb1.size;have c0:w1.cell? ⟨b,0,none⟩=some (.pointer (some ⟨b,0,none⟩)):=by rw [Lib.cell_of_heap hbk];rfl
 have c1:w1.cell? ⟨b,1,none⟩=some v:=by rw [Lib.cell_of_heap hbk];rfl
 go_wp2_with (at_builtin;refine Lib.wpList_append_own_string _ rfl _ _ 26 9 rfl B 5 i0 Tryz.underlying26 Tryz.underlying9 hi hz0 hz1 hz2 _ _ _ rfl hown s rfl (by unfold maxLen;omega) (by omega) (by omega) ?_)
 intro v' w2 hown' hgrow _
 have hlt:b<w1.heap.size:=by
  rcases Nat.lt_or_ge b w1.heap.size with h'|h'
  ·exact h'
  ·simp [Array.getElem?_eq_none h'] at hbk
 have hb2:w2.heap[b]? =some (.cells #[.pointer (some ⟨b,0,none⟩),v] 108 (0,0)):=by
  rw [hgrow.block b hlt (fun e=>hne e.symm)];exact hbk
 have d0:w2.cell? ⟨b,0,none⟩=some (.pointer (some ⟨b,0,none⟩)):=by rw [Lib.cell_of_heap hb2];rfl
 have d1:w2.cell? ⟨b,1,none⟩=some v:=by rw [Lib.cell_of_heap hb2];rfl
 have f1:w2.frozen? ⟨b,1,none⟩=false:=Lib.frozen_of_heap hb2 1
 obtain⟨ao,n',cap,rfl⟩:∃ ao n' cap,v'=.slice ao n' cap:=by
  rcases hown'.2 with⟨hv,_⟩|⟨g,cap,cur,hv,_⟩
  ·exact⟨_,_,_,hv⟩
  ·exact⟨_,_,_,hv⟩
 go_wp2;go_ret2;refine⟨rfl,?_,?_,?_⟩
 ·exact Lib.BuilderAt.put (T:=108) (e:=5) hB hb2 (bs':=bs++Lib.strCells s) (by simpa [Lib.strCells_length] using hown') (by decide)
 ·exact(hb1.grown hgrow (by omega) (fun k hk=>(hown.lt k hk).1)).setCell (p:=⟨b,1,none⟩) hB _
 ·intro g cs T hT hT8 hg;have hg1:=hk1 g cs T hT hg;have hgb:g≠b:=fun e=>by subst e;have e3:=hg1.symm.trans hbk;injection e3 with e3;injection e3 with _ e4;exact hT e4
  refine blk_far (blk_grown hg1 hgrow ?_) hgb;intro e
  rcases hown.2 with⟨hv,_⟩|⟨g2,cap2,cur,hv,_,hh,_⟩
  ·rw [hv] at e;cases e
  ·rw [hv] at e;simp only [Value.ownBlock,Option.some.injEq] at e;subst e;have e3:=hg1.symm.trans hh
   injection e3 with e3
   injection e3 with _ e4
   exact hT8 e4
set_option maxRecDepth 100000 in
set_option maxHeartbeats 3200000 in
theorem rrPayload_any(r:Rr)(w:World)(h:RcF r):
 Calls Tryz.prog 67 #[.agg #[.string r.own,.int .i64 r.ty,.int .i64 r.cl,.int .i64 r.tt,.string r.da]] w fun e w'=>e=.returned (.string ⟨(rcP r).toArray⟩)∧Below w.heap.size w w':=by
 obtain⟨ty,cl,tt,P1,P2,P3,P4,e1,e2,e3,l1,l2,l3,eP1,eP2,eP3,eP4,eR⟩:=sj_parts r h;obtain⟨ho,hd,-⟩:=h;have p1:∀ W,Calls Tryz.prog 35 #[.int .i64 (ty:Int),.int .i64 2] W fun e w'=>e=.returned (.string P1)∧Below W.heap.size W w':=fun W=>by rw [eP1];exact bigBytesN_any ty 2 W (by omega) (by decide) (by decide)
 have p2:∀ W,Calls Tryz.prog 35 #[.int .i64 (cl:Int),.int .i64 2] W fun e w'=>e=.returned (.string P2)∧Below W.heap.size W w':=fun W=>by rw [eP2];exact bigBytesN_any cl 2 W (by omega) (by decide) (by decide)
 have p3:∀ W,Calls Tryz.prog 35 #[.int .i64 (tt:Int),.int .i64 4] W fun e w'=>e=.returned (.string P3)∧Below W.heap.size W w':=fun W=>by rw [eP3];exact bigBytesN_any tt 4 W (by omega) (by decide) (by decide)
 have p4:∀ W,Calls Tryz.prog 35 #[.int .i64 (r.da.size:Int),.int .i64 2] W fun e w'=>e=.returned (.string P4)∧Below W.heap.size W w':=fun W=>by rw [eP4];exact bigBytesN_any r.da.size 2 W (by omega) (by decide) (by decide)
 have lo:r.own.data.toList.length=r.own.size:=by simp
 have ld:r.da.data.toList.length=r.da.size:=by simp
 obtain⟨C1,q1,c1⟩:=sj_cat _ _ P1 P2 eP1 eP2 (by rw [bigL_len,bigL_len];omega);obtain⟨C2,q2,c2⟩:=sj_cat _ _ C1 P3 c1 eP3 (by simp only [List.length_append,bigL_len];omega);obtain⟨C3,q3,c3⟩:=sj_cat _ _ C2 P4 c2 eP4 (by simp only [List.length_append,bigL_len];omega);obtain⟨C4,q4,c4⟩:=sj_cat _ _ r.own C3 (ba_mk r.own).symm c3 (by simp only [List.length_append,lo,bigL_len];omega);obtain⟨C5,q5,c5⟩:=sj_cat _ _ C4 r.da c4 (ba_mk r.da).symm (by simp only [List.length_append,lo,ld,bigL_len];omega)
 have HE:Hid ((⟨(rcP r).toArray⟩:ByteArray)=C5):=by
  show _=_
  rw [c5,eR]
 rw [HE.out,e1,e2,e3];clear eP1 eP2 eP3 eP4 c1 c2 c3 c4 c5 eR e1 e2 e3 lo ld;obtain⟨ow,_,_,_,da⟩:=r;simp only at p4 q4 q5 ho hd
 have kR:=blk_new w #[.string ow,.int .i64 (ty:Int),.int .i64 (cl:Int),.int .i64 (tt:Int),.string da] 73;have hb:=(Below.refl w.heap.size w).alloc (Nat.le_refl _) (.cells #[.string ow,.int .i64 (ty:Int),.int .i64 (cl:Int),.int .i64 (tt:Int),.string da] 73);go_enter Tryz.func67,Tryz.ntmps67;go_wp2;generalize w.alloc (.cells #[.string ow,.int .i64 (ty:Int),.int .i64 (cl:Int),.int .i64 (tt:Int),.string da] 73)=X at*;refine wp_region_last (S:=fun W=>Blk W w.heap.size #[.string ow,.int .i64 (ty:Int),.int .i64 (cl:Int),.int .i64 (tt:Int),.string da] 73) (L:=1000) (by kernel_rfl) kR (fun hH=>?_);refine tkL (i:=0) (v:=?_) rfl ?_ ?_;rotate_left 1
 ·(intro W s1;have ss1:=(fun i=>blk_cell s1 i);go_simp;try (with_reducible rfl))
 refine tkL (i:=1) (v:=?_) rfl ?_ ?_;rotate_left 1
 ·(intro W s1;have ss1:=(fun i=>blk_cell s1 i);go_simp;try (with_reducible rfl))
 refine tkL (i:=3) (v:=?_) rfl ?_ ?_;rotate_left 1
 ·(intro W s1;have ss1:=(fun i=>blk_cell s1 i);go_simp;try (with_reducible rfl))
 refine tkL (i:=4) (v:=?_) rfl ?_ ?_;rotate_left 1
 ·(intro W s1;have ss1:=(fun i=>blk_cell s1 i);go_simp;try (with_reducible rfl))
 refine tkL (i:=7) (v:=?_) rfl ?_ ?_;rotate_left 1
 ·(intro W s1;have ss1:=(fun i=>blk_cell s1 i);go_simp;try (with_reducible rfl))
 refine tkL (i:=8) (v:=?_) rfl ?_ ?_;rotate_left 1
 ·(intro W s1;have ss1:=(fun i=>blk_cell s1 i);go_simp;try (with_reducible rfl))
 refine tkL (i:=11) (v:=?_) rfl ?_ ?_;rotate_left 1
 ·(intro W s1;have ss1:=(fun i=>blk_cell s1 i);go_simp;try (with_reducible rfl))
 refine tkL (i:=12) (v:=?_) rfl ?_ ?_;rotate_left 1
 ·(intro W s1;have ss1:=(fun i=>blk_cell s1 i);go_simp;try (with_reducible rfl))
 refine tkL (i:=13) (v:=?_) rfl ?_ ?_;rotate_left 1
 ·(intro W s1;have ss1:=(fun i=>blk_cell s1 i);go_simp;try (with_reducible rfl))
 refine wpAnyL_one (i:=2) (by kernel_rfl) rfl (fun K hK'=>?_);go_simp;refine(p1 _).mono ?_;rintro e X1 ⟨rfl,b1⟩;have b2:Below (X).heap.size X X1:=by first|with_reducible exact b1|exact(Below.refl _ X).drew.trans b1
 have kR1:=blk_below kR b2;have hb1:=Nm.below_two hb b2;clear b1 b2 kR hb;go_wp2_with fail
 refine hK'.out _ _ kR1 (fun hH=>?_);clear hK' K;have kR:=kR1;have hb:=hb1;clear kR1 hb1;refine wpAnyL_one (i:=5) (by kernel_rfl) rfl (fun K hK'=>?_);go_simp;refine(p2 _).mono ?_;rintro e X2 ⟨rfl,b1⟩;have b2:Below (X1).heap.size X1 X2:=by first|with_reducible exact b1|exact(Below.refl _ X1).drew.trans b1
 have kR1:=blk_below kR b2;have hb1:=Nm.below_two hb b2;clear b1 b2 kR hb;go_wp2_with fail
 refine hK'.out _ _ kR1 (fun hH=>?_);clear hK' K;have kR:=kR1;have hb:=hb1;clear kR1 hb1;refine tkL (i:=6) (v:=?_) rfl ?_ ?_;rotate_left 1
 ·(intro W s1;have ss1:=(fun i=>blk_cell s1 i);go_simp;try (with_reducible rfl))
 refine wpAnyL_one (i:=9) (by kernel_rfl) rfl (fun K hK'=>?_);go_simp;refine(p3 _).mono ?_;rintro e X3 ⟨rfl,b1⟩;have b2:Below (X2).heap.size X2 X3:=by first|with_reducible exact b1|exact(Below.refl _ X2).drew.trans b1
 have kR1:=blk_below kR b2;have hb1:=Nm.below_two hb b2;clear b1 b2 kR hb;go_wp2_with fail
 refine hK'.out _ _ kR1 (fun hH=>?_);clear hK' K;have kR:=kR1;have hb:=hb1;clear kR1 hb1;refine tkL (i:=10) (v:=?_) rfl ?_ ?_;rotate_left 1
 ·(intro W s1;have ss1:=(fun i=>blk_cell s1 i);go_simp;try (with_reducible rfl))
 refine wpAnyL_one (i:=14) (by kernel_rfl) rfl (fun K hK'=>?_);go_simp;refine(p4 _).mono ?_;rintro e X4 ⟨rfl,b1⟩;have b2:Below (X3).heap.size X3 X4:=by first|with_reducible exact b1|exact(Below.refl _ X3).drew.trans b1
 have kR1:=blk_below kR b2;have hb1:=Nm.below_two hb b2;clear b1 b2 kR hb;go_wp2_with fail
 refine hK'.out _ _ kR1 (fun hH=>?_);clear hK' K;have kR:=kR1;have hb:=hb1;clear kR1 hb1;refine tkL (i:=15) (v:=?_) rfl ?_ ?_;rotate_left 1
 ·(intro W s1;have ss1:=(fun i=>blk_cell s1 i);go_simp;try (with_reducible rfl))
 refine tkL (i:=16) (v:=?_) rfl ?_ ?_;rotate_left 1
 ·(intro W s1;have ss1:=(fun i=>blk_cell s1 i);go_simp;try (with_reducible rfl))
 refine wpAnyL_done (by kernel_rfl) ?_;clear hH;have r1:=fun i=>blk_cell kR i
 go_simp;go_wp2;go_ret;exact⟨rfl,hb⟩
set_option maxRecDepth 100000 in
set_option maxHeartbeats 1600000 in
theorem countOf_any(v:Value)(xs:List Rr)(w:World)(h:CRow w v xs.length 5 (rvVs xs))(hl:xs.length<=500):
 Calls Tryz.prog 37 #[v] w fun e w'=>e=.returned (.string ⟨(bigL xs.length 2).toArray⟩)∧Below w.heap.size w w':=by
 obtain⟨_,av,cv,rfl,hcap,hmx,hcc⟩:=h;have hp:=fun W=>bigBytesN_any xs.length 2 W (by omega) (by decide) (by decide)
 clear hcc;go_enter Tryz.func37,Tryz.ntmps37;go_wp2_with (go_at_call 35;refine(hp _).mono ?_;rintro e w1 ⟨rfl,b1⟩)
 go_ret;exact⟨rfl,b1⟩
set_option maxRecDepth 100000 in
set_option maxHeartbeats 3200000 in
theorem payloadOf_any(v:Value)(xs:List Rr)(w:World)(h:CRow w v xs.length 5 (rvVs xs))(hf:∀ r∈xs,RcF r)(hl:xs.length<=500)(hs:(rcsP xs).length<=1181076):
 Calls Tryz.prog 38 #[v] w fun e w'=>e=.returned (.string ⟨(rcsP xs).toArray⟩)∧Below w.heap.size w w':=by
 obtain⟨_,av,cv,rfl,hcap,hmx,hcc⟩:=h;have hfb:=Lib.fresh_isBuilder 108 5 w;have hB0:=(Below.refl w.heap.size w).alloc (Nat.le_refl _) (.cells #[.pointer none,.slice none 0 0] 108);go_enter Tryz.func38,Tryz.ntmps38;go_wp2
 go_loopw [8] (fun i wr=>∃ k:Nat,k<=xs.length∧i=.int .i64 k∧Lib.IsBuilder 108 5 w.heap.size w.heap.size (Lib.byteCells (rcsP (xs.take k))) wr∧Below w.heap.size w wr) (fun i _=>xs.length-(intOf i).toNat)
 case atStart=>exact⟨0,Nat.zero_le _,rfl,hfb,hB0⟩
 case round=>
  clear hfb hB0;obtain⟨k,hk,rfl,hbu,hbel⟩:=hrel;have hlw:=bu_lt hbu
  by_cases hlt:k<xs.length
  ·obtain⟨r,hr⟩:∃ r,xs[k]? =some r:=⟨_,List.getElem?_eq_getElem hlt⟩;obtain⟨b,off,rfl,hcell⟩:=hcc (by omega);obtain⟨c0,c1,c2,c3,c4⟩:=rv_cells hcell hr;have put:∀ {O:Nat} {z:Value},w.cell? ⟨b,O,none⟩=some z->wr.cell? ⟨b,O,none⟩=some z:=fun h=>(hbel.cell (World.block_lt_of_cell? w _ h)).trans h
   replace c0:=put c0
   replace c1:=put c1
   replace c2:=put c2
   replace c3:=put c3
   replace c4:=put c4
   have i1:(0:Int)<=(k:Int):=by omega
   have i2:(k:Int)<(xs.length:Int):=by omega
   have hpl:=fun W=>rrPayload_any r W (hf r (List.mem_of_getElem? hr))
   have HST:Hid (rcsP (xs.take (k+1))=rcsP (xs.take k)++rcP r):=rcsP_step hr;have hmono:(rcsP (xs.take (k+1))).length<=1181076:=Nat.le_trans rcsP_mono hs;rw [HST.out,List.length_append] at hmono;obtain⟨S,hS⟩:∃ S:ByteArray,S=⟨(rcP r).toArray⟩:=⟨_,rfl⟩;have hSz:S.size=(rcP r).length:=by rw [hS,ba_size]
   have HAP:Hid (Lib.byteCells (rcsP (xs.take k))++Lib.strCells S=Lib.byteCells (rcsP (xs.take (k+1)))):=by
    show _=_
    rw [Lib.strCells_eq,HST.out,Lib.byteCells_append,hS]
   rw [<- hS] at hpl;have hlen:(Lib.byteCells (rcsP (xs.take k))).length+S.size<=1181076:=by rw [Lib.byteCells_length];omega
   obtain⟨ow,ty,cl,tt,da⟩:=r;simp only at c0 c1 c2 c3 c4 hpl
   have hBo:=(Below.refl wr.heap.size wr).alloc (Nat.le_refl _) (.cells #[.string ow,.int .i64 ty,.int .i64 cl,.int .i64 tt,.string da] 73);have hbo:=Nm.below_two hbel hBo;have hbuo:=bu_below hbu hBo;clear hS hSz hmono hcc hcell put hbel hbu hBo HST;generalize Lib.byteCells (rcsP (xs.take k))=BC at*;go_wp2_with fail
   go_at_call 67
   refine(hpl _).mono ?_;rintro e w2 ⟨rfl,b2⟩;have hb2:=Nm.below_two hbo b2;have hu2:=bu_below hbuo b2;clear hpl b2 hbo hbuo c0 c1 c2 c3 c4;go_wp2_with (go_at_call 66;refine(writeString_any _ _ _ S _ hu2 (by omega) hb2.size).mono ?_;rintro e w3 ⟨rfl,hu3,b3,hk3⟩)
   rw [HAP.out] at hu3;have hb3:=hb2.trans b3;clear b3 hk3 hu2 hb2 HAP;go_roundw
   case rel=>exact⟨k+1,by omega,by go_num,.inr hu3,hb3⟩
   case measure=>simp [intOf];omega
  ·obtain rfl:k=xs.length:=by omega
   rw [List.take_length] at hbu;have i2:¬(xs.length:Int)<(xs.length:Int):=by omega
   have hst:=fun W hW hz=>Tryz.Builder_String_any w.heap.size w.heap.size (rcsP xs) W hW hz
   clear hcc;go_wp2_with (go_at_call 68;refine(hst _ hbu hbel.size).mono ?_;rintro e w3 ⟨rfl,hb3⟩)
   go_ret;exact⟨rfl,hbel.trans hb3⟩
end Go.Proofs.YtcihkbojmbfmmaaGreatDoor
