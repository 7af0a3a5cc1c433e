import Derived.Test.YtfmolgdfjklmpaaGreatJBzL
import Derived.Test.YtfmolgdfjklmpaaGreatJMath
namespace Go.Proofs.YtfmolgdfjklmpaaGreat
open Go.RowKit
set_option linter.unusedVariables false
set_option maxRecDepth 100000 in
set_option maxHeartbeats 1600000 in
theorem firstSingle_any(bb:Nat)(code:Int)(v:Value)(ls:List Ld)(f:Ld->Bool)(w:World)(hk:w.cell? ⟨bb,5,none⟩=some v)(h:CRow w v ls.length 4 (ldVs ls))(hl:ls.length<=1000000)
 (hf:∀ x∈ls,∀ W,Below w.heap.size w W->Calls Tryz.prog 116 #[.agg #[.int .i64 (x.at_:Int),.int .i64 x.ty,.pointer (some ⟨x.ob,0,none⟩),.pointer (some ⟨x.sb,0,none⟩)]] W fun e w'=>e=.returned (.bool (f x))∧Below W.heap.size W w'):
 Calls Tryz.prog 111 #[.pointer (some ⟨bb,0,none⟩),.int .i64 code,.func (.func 116) #[] #[]] w fun e w'=>e=.returned (fstR f code ls)∧Below w.heap.size w w':=by
 obtain⟨_,a,cap,rfl,hcap,hmx,hc⟩:=h;unfold maxLen at hmx;have HF:=Nm.hide hf;clear hf;go_enter Tryz.func111,Tryz.ntmps111;go_wp2
 go_loopw [15] (fun i wr=>∃ k:Nat,k<=ls.length∧i=.int .i64 k∧(∀ j x,j<k->ls[j]? =some x->f x=false)∧Below w.heap.size w wr) (fun i _=>ls.length-(intOf i).toNat)
 case atStart=>exact⟨0,Nat.zero_le _,rfl,fun j x hj=>absurd hj (Nat.not_lt_zero _),Below.refl _ _⟩
 case round=>
  obtain⟨k,hk',rfl,hno,hbel⟩:=hrel;have HR:=Nm.hide (And.intro hno hbel)
  by_cases hlt:k<ls.length
  ·obtain⟨x,hx⟩:∃ x,ls[k]? =some x:=⟨_,List.getElem?_eq_getElem hlt⟩;obtain⟨b,off,rfl,hcell⟩:=hc (by omega);have put:∀ {O:Nat} {z:Value},w.cell? ⟨b,O,none⟩=some z->wr.cell? ⟨b,O,none⟩=some z:=fun h=>(hbel.cell (World.block_lt_of_cell? w _ h)).trans h
   have d0:=put (hcell (k*4) _ (ld_at ls k 0 x hx (by decide)));have d1:=put (hcell (k*4+1) _ (ld_at ls k 1 x hx (by decide)));have d2:=put (hcell (k*4+2) _ (ld_at ls k 2 x hx (by decide)));have d3:=put (hcell (k*4+3) _ (ld_at ls k 3 x hx (by decide)));simp only [<- Nat.add_assoc] at d1 d2 d3;have hfx:=HF.out x (List.mem_of_getElem? hx) (wr.alloc (.cells #[.int .i64 (x.at_:Int),.int .i64 x.ty,.pointer (some ⟨x.ob,0,none⟩),.pointer (some ⟨x.sb,0,none⟩)] 159)) (hbel.alloc hbel.size _);have kb:=blk_new wr #[.int .i64 (x.at_:Int),.int .i64 x.ty,.pointer (some ⟨x.ob,0,none⟩),.pointer (some ⟨x.sb,0,none⟩)] 159;have hb1:=hbel.alloc hbel.size (.cells #[.int .i64 (x.at_:Int),.int .i64 x.ty,.pointer (some ⟨x.ob,0,none⟩),.pointer (some ⟨x.sb,0,none⟩)] 159);have HX:=Nm.hide hx;have i1:(0:Int)<=(k:Int):=by omega
   have i2:(k:Int)<(ls.length:Int):=by omega
   clear hc hcell hx hno hbel put hk;simp only [World.size_alloc] at hfx;go_wp2_with fail
   refine hfx.mono ?_;rintro e w2 ⟨rfl,b2⟩;have kb2:=blk_below kb (by simpa using b2);have rb2:=fun i=>blk_cell kb2 i
   have hB2:=Nm.below_two hb1 (by simpa using b2);clear hfx d0 d1 d2 d3
   cases hfv:f x with
   |true=>
    have HV:=Nm.hide hfv;clear hfv;go_wp2;go_region
    all_goals go_wp2
    all_goals go_ret2
    all_goals exact⟨by rw [fst_at HR.out.1 HX.out HV.out];rfl,hB2.drew⟩
   |false=>
    have HV:=Nm.hide hfv;clear hfv;go_wp2;go_roundw
    case rel=>
     refine⟨k+1,by omega,by go_num,fun j y hj hy=>?_,hB2⟩
     rcases Nat.lt_succ_iff_lt_or_eq.1 hj with h1|rfl
     ·exact HR.out.1 j y h1 hy
     ·rw [HX.out] at hy;cases hy;exact HV.out
    case measure=>simp [intOf];omega
  ·have hke:k=ls.length:=by omega
   subst hke;clear hc hno hbel;go_wp2;go_ret2;exact⟨by rw [fst_no HR.out.1];rfl,HR.out.2⟩
set_option maxRecDepth 100000 in
set_option maxHeartbeats 1600000 in
theorem firstAlias_any(bb:Nat)(code:Int)(v:Value)(ls:List Ld)(f:Ld->Bool)(w:World)(hk:w.cell? ⟨bb,5,none⟩=some v)(h:CRow w v ls.length 4 (ldVs ls))(hl:ls.length<=1000000)
 (hf:∀ x∈ls,∀ W,Below w.heap.size w W->Calls Tryz.prog 117 #[.agg #[.int .i64 (x.at_:Int),.int .i64 x.ty,.pointer (some ⟨x.ob,0,none⟩),.pointer (some ⟨x.sb,0,none⟩)]] W fun e w'=>e=.returned (.bool (f x))∧Below W.heap.size W w'):
 Calls Tryz.prog 111 #[.pointer (some ⟨bb,0,none⟩),.int .i64 code,.func (.func 117) #[] #[]] w fun e w'=>e=.returned (fstR f code ls)∧Below w.heap.size w w':=by
 obtain⟨_,a,cap,rfl,hcap,hmx,hc⟩:=h;unfold maxLen at hmx;have HF:=Nm.hide hf;clear hf;go_enter Tryz.func111,Tryz.ntmps111;go_wp2
 go_loopw [15] (fun i wr=>∃ k:Nat,k<=ls.length∧i=.int .i64 k∧(∀ j x,j<k->ls[j]? =some x->f x=false)∧Below w.heap.size w wr) (fun i _=>ls.length-(intOf i).toNat)
 case atStart=>exact⟨0,Nat.zero_le _,rfl,fun j x hj=>absurd hj (Nat.not_lt_zero _),Below.refl _ _⟩
 case round=>
  obtain⟨k,hk',rfl,hno,hbel⟩:=hrel;have HR:=Nm.hide (And.intro hno hbel)
  by_cases hlt:k<ls.length
  ·obtain⟨x,hx⟩:∃ x,ls[k]? =some x:=⟨_,List.getElem?_eq_getElem hlt⟩;obtain⟨b,off,rfl,hcell⟩:=hc (by omega);have put:∀ {O:Nat} {z:Value},w.cell? ⟨b,O,none⟩=some z->wr.cell? ⟨b,O,none⟩=some z:=fun h=>(hbel.cell (World.block_lt_of_cell? w _ h)).trans h
   have d0:=put (hcell (k*4) _ (ld_at ls k 0 x hx (by decide)));have d1:=put (hcell (k*4+1) _ (ld_at ls k 1 x hx (by decide)));have d2:=put (hcell (k*4+2) _ (ld_at ls k 2 x hx (by decide)));have d3:=put (hcell (k*4+3) _ (ld_at ls k 3 x hx (by decide)));simp only [<- Nat.add_assoc] at d1 d2 d3;have hfx:=HF.out x (List.mem_of_getElem? hx) (wr.alloc (.cells #[.int .i64 (x.at_:Int),.int .i64 x.ty,.pointer (some ⟨x.ob,0,none⟩),.pointer (some ⟨x.sb,0,none⟩)] 159)) (hbel.alloc hbel.size _);have kb:=blk_new wr #[.int .i64 (x.at_:Int),.int .i64 x.ty,.pointer (some ⟨x.ob,0,none⟩),.pointer (some ⟨x.sb,0,none⟩)] 159;have hb1:=hbel.alloc hbel.size (.cells #[.int .i64 (x.at_:Int),.int .i64 x.ty,.pointer (some ⟨x.ob,0,none⟩),.pointer (some ⟨x.sb,0,none⟩)] 159);have HX:=Nm.hide hx;have i1:(0:Int)<=(k:Int):=by omega
   have i2:(k:Int)<(ls.length:Int):=by omega
   clear hc hcell hx hno hbel put hk;simp only [World.size_alloc] at hfx;go_wp2_with fail
   refine hfx.mono ?_;rintro e w2 ⟨rfl,b2⟩;have kb2:=blk_below kb (by simpa using b2);have rb2:=fun i=>blk_cell kb2 i
   have hB2:=Nm.below_two hb1 (by simpa using b2);clear hfx d0 d1 d2 d3
   cases hfv:f x with
   |true=>
    have HV:=Nm.hide hfv;clear hfv;go_wp2;go_region
    all_goals go_wp2
    all_goals go_ret2
    all_goals exact⟨by rw [fst_at HR.out.1 HX.out HV.out];rfl,hB2.drew⟩
   |false=>
    have HV:=Nm.hide hfv;clear hfv;go_wp2;go_roundw
    case rel=>
     refine⟨k+1,by omega,by go_num,fun j y hj hy=>?_,hB2⟩
     rcases Nat.lt_succ_iff_lt_or_eq.1 hj with h1|rfl
     ·exact HR.out.1 j y h1 hy
     ·rw [HX.out] at hy;cases hy;exact HV.out
    case measure=>simp [intOf];omega
  ·have hke:k=ls.length:=by omega
   subst hke;clear hc hno hbel;go_wp2;go_ret2;exact⟨by rw [fst_no HR.out.1];rfl,HR.out.2⟩
set_option maxRecDepth 100000 in
set_option maxHeartbeats 1600000 in
theorem firstBelow_any(bb:Nat)(cq:Nat)(code:Int)(v:Value)(ls:List Ld)(f:Ld->Bool)(w:World)(hk:w.cell? ⟨bb,5,none⟩=some v)(h:CRow w v ls.length 4 (ldVs ls))(hl:ls.length<=1000000)
 (hf:∀ x∈ls,∀ W,Below w.heap.size w W->Calls Tryz.prog 120 #[.agg #[.int .i64 (x.at_:Int),.int .i64 x.ty,.pointer (some ⟨x.ob,0,none⟩),.pointer (some ⟨x.sb,0,none⟩)],.pointer (some ⟨cq,0,none⟩)] W fun e w'=>e=.returned (.bool (f x))∧Below W.heap.size W w'):
 Calls Tryz.prog 111 #[.pointer (some ⟨bb,0,none⟩),.int .i64 code,.func (.func 120) #[] #[.pointer (some ⟨cq,0,none⟩)]] w fun e w'=>e=.returned (fstR f code ls)∧Below w.heap.size w w':=by
 obtain⟨_,a,cap,rfl,hcap,hmx,hc⟩:=h;unfold maxLen at hmx;have HF:=Nm.hide hf;clear hf;go_enter Tryz.func111,Tryz.ntmps111;go_wp2
 go_loopw [15] (fun i wr=>∃ k:Nat,k<=ls.length∧i=.int .i64 k∧(∀ j x,j<k->ls[j]? =some x->f x=false)∧Below w.heap.size w wr) (fun i _=>ls.length-(intOf i).toNat)
 case atStart=>exact⟨0,Nat.zero_le _,rfl,fun j x hj=>absurd hj (Nat.not_lt_zero _),Below.refl _ _⟩
 case round=>
  obtain⟨k,hk',rfl,hno,hbel⟩:=hrel;have HR:=Nm.hide (And.intro hno hbel)
  by_cases hlt:k<ls.length
  ·obtain⟨x,hx⟩:∃ x,ls[k]? =some x:=⟨_,List.getElem?_eq_getElem hlt⟩;obtain⟨b,off,rfl,hcell⟩:=hc (by omega);have put:∀ {O:Nat} {z:Value},w.cell? ⟨b,O,none⟩=some z->wr.cell? ⟨b,O,none⟩=some z:=fun h=>(hbel.cell (World.block_lt_of_cell? w _ h)).trans h
   have d0:=put (hcell (k*4) _ (ld_at ls k 0 x hx (by decide)));have d1:=put (hcell (k*4+1) _ (ld_at ls k 1 x hx (by decide)));have d2:=put (hcell (k*4+2) _ (ld_at ls k 2 x hx (by decide)));have d3:=put (hcell (k*4+3) _ (ld_at ls k 3 x hx (by decide)));simp only [<- Nat.add_assoc] at d1 d2 d3;have hfx:=HF.out x (List.mem_of_getElem? hx) (wr.alloc (.cells #[.int .i64 (x.at_:Int),.int .i64 x.ty,.pointer (some ⟨x.ob,0,none⟩),.pointer (some ⟨x.sb,0,none⟩)] 159)) (hbel.alloc hbel.size _);have kb:=blk_new wr #[.int .i64 (x.at_:Int),.int .i64 x.ty,.pointer (some ⟨x.ob,0,none⟩),.pointer (some ⟨x.sb,0,none⟩)] 159;have hb1:=hbel.alloc hbel.size (.cells #[.int .i64 (x.at_:Int),.int .i64 x.ty,.pointer (some ⟨x.ob,0,none⟩),.pointer (some ⟨x.sb,0,none⟩)] 159);have HX:=Nm.hide hx;have i1:(0:Int)<=(k:Int):=by omega
   have i2:(k:Int)<(ls.length:Int):=by omega
   clear hc hcell hx hno hbel put hk;simp only [World.size_alloc] at hfx;go_wp2_with fail
   refine hfx.mono ?_;rintro e w2 ⟨rfl,b2⟩;have kb2:=blk_below kb (by simpa using b2);have rb2:=fun i=>blk_cell kb2 i
   have hB2:=Nm.below_two hb1 (by simpa using b2);clear hfx d0 d1 d2 d3
   cases hfv:f x with
   |true=>
    have HV:=Nm.hide hfv;clear hfv;go_wp2;go_region
    all_goals go_wp2
    all_goals go_ret2
    all_goals exact⟨by rw [fst_at HR.out.1 HX.out HV.out];rfl,hB2.drew⟩
   |false=>
    have HV:=Nm.hide hfv;clear hfv;go_wp2;go_roundw
    case rel=>
     refine⟨k+1,by omega,by go_num,fun j y hj hy=>?_,hB2⟩
     rcases Nat.lt_succ_iff_lt_or_eq.1 hj with h1|rfl
     ·exact HR.out.1 j y h1 hy
     ·rw [HX.out] at hy;cases hy;exact HV.out
    case measure=>simp [intOf];omega
  ·have hke:k=ls.length:=by omega
   subst hke;clear hc hno hbel;go_wp2;go_ret2;exact⟨by rw [fst_no HR.out.1];rfl,HR.out.2⟩
theorem valid1_any(r:Rr)(w:World)(ho:r.own.size<=1048576)(hd:r.da.size<=1048576):
 Calls Tryz.prog 84 #[.agg #[.string r.own,.int .i64 r.ty,.int .i64 r.cl,.int .i64 r.tt,.string r.da]] w fun e w'=>e=.returned (.bool (!rcOK r))∧Below w.heap.size w w':=by
 have hR0:=RB.new w r 33;have hB0:=(Below.refl w.heap.size w).alloc (Nat.le_refl _) (.cells #[.string r.own,.int .i64 r.ty,.int .i64 r.cl,.int .i64 r.tt,.string r.da] 33);have hv:=fun W=>validRecord_any r W ho hd
 generalize rcOK r=B at*;obtain⟨o,ty,cl,tt,da⟩:=r;obtain⟨c0,c1,c2,c3,c4⟩:=hR0;simp only at hB0 hv c0 c1 c2 c3 c4 ⊢
 clear ho hd;go_enter Tryz.func84,Tryz.ntmps84;go_wp2_with (go_at_call 85;refine(hv _).mono ?_;rintro e w1 ⟨rfl,hb1⟩)
 go_ret;exact⟨rfl,Nm.below_two hB0 hb1⟩
set_option maxRecDepth 100000 in
set_option maxHeartbeats 1600000 in
theorem validAt_any(v:Value)(xs:List Rr)(w:World)(h:CRow w v xs.length 5 (rvVs xs))(hx:∀ r∈xs,r.own.size<=1048576∧r.da.size<=1048576):
 Calls Tryz.prog 127 #[v,.func (.func 84) #[] #[]] w fun e w'=>Below w.heap.size w w'∧∃ i:Int,e=.returned (.int .i64 i)∧((xs.all rcOK=true∧i= -1)∨(xs.all rcOK=false∧0<=i)):=by
 obtain⟨_,a,cap,rfl,hcap,hmx,hc⟩:=h;unfold maxLen at hmx;have hs:=fun(r:Rr) (hr:r∈xs) W=>valid1_any r W (hx r hr).1 (hx r hr).2
 clear hx;go_enter Tryz.func127,Tryz.ntmps127;go_wp2
 go_loopw [8] (fun i wr=>∃ k:Nat,k<=xs.length∧i=.int .i64 k∧Hid ((xs.take k).all rcOK=true)∧Below w.heap.size w wr) (fun i _=>xs.length-(intOf i).toNat)
 case atStart=>exact⟨0,Nat.zero_le _,rfl,by show _=_;simp,Below.refl _ _⟩
 case round=>
  obtain⟨k,hk,rfl,HA,hbel⟩:=hrel
  by_cases hlt:k<xs.length
  ·obtain⟨x,hxk⟩:∃ x,xs[k]? =some x:=⟨_,List.getElem?_eq_getElem hlt⟩;obtain⟨b,off,rfl,hcell⟩:=hc (by omega);obtain⟨c0,c1,c2,c3,c4⟩:=rv_cells hcell hxk;have put:∀ {O:Nat} {z:Value},w.cell? ⟨b,O,none⟩=some z->wr.cell? ⟨b,O,none⟩=some z:=fun h=>(hbel.cell (World.block_lt_of_cell? w _ h)).trans h
   replace c0:=put c0
   replace c1:=put c1
   replace c2:=put c2
   replace c3:=put c3
   replace c4:=put c4
   have hmem:=List.mem_of_getElem? hxk;have hone:=hs x hmem wr;have i1:(0:Int)<=(k:Int):=by omega
   have i2:(k:Int)<(xs.length:Int):=by omega
   cases hok:rcOK x with
   |true=>
    have HA2:Hid ((xs.take (k+1)).all rcOK=true):=by show _=_;rw [all_take' hxk,HA.out,hok];rfl
    rw [hok] at hone;clear hs hok hmem hxk hcell hc;obtain⟨o,ty,cl,tt,da⟩:=x;simp only at*
    go_wp2_with fail
    refine hone.mono ?_;rintro e w1 ⟨rfl,hb1⟩;go_wp2;go_roundw
    case rel=>exact⟨k+1,by omega,by go_num,HA2,Nm.below_two hbel hb1⟩
    case measure=>simp [intOf];omega
   |false=>
    have HF:=Nm.hide (all_no hmem hok);rw [hok] at hone;clear hs hok hmem hxk hcell hc;obtain⟨o,ty,cl,tt,da⟩:=x;simp only at*
    go_wp2_with fail
    refine hone.mono ?_;rintro e w1 ⟨rfl,hb1⟩;go_wp2;go_ret;exact⟨Nm.below_two hbel hb1,_,rfl,.inr ⟨HF.out,by omega⟩⟩
  ·have hkl:k=xs.length:=by omega
   subst hkl;have HT:=HA.out;rw [List.take_length] at HT;have HB:=Nm.hide HT;clear hs HT HA hc;have i2:¬(xs.length:Int)<(xs.length:Int):=by omega
   go_wp2;go_ret;exact⟨hbel,_,rfl,.inl ⟨by have:=HB.out;simpa using this,rfl⟩⟩
set_option maxRecDepth 100000 in
set_option maxHeartbeats 1600000 in
theorem validHas_any(v:Value)(xs:List Rr)(w:World)(h:CRow w v xs.length 5 (rvVs xs))(hx:∀ r∈xs,r.own.size<=1048576∧r.da.size<=1048576):
 Calls Tryz.prog 83 #[v,.func (.func 84) #[] #[]] w fun e w'=>e=.returned (.bool (!xs.all rcOK))∧Below w.heap.size w w':=by
 have hs:=validAt_any v xs w h hx;obtain⟨_,a,cap,rfl,_⟩:=h;generalize xs.all rcOK=B at*;go_enter Tryz.func83,Tryz.ntmps83;go_wp2_with fail
 refine hs.mono ?_;rintro e w1 ⟨hb1,i,rfl,⟨rfl,rfl⟩|⟨rfl,hi⟩⟩
 ·go_wp2;go_ret;exact⟨rfl,hb1⟩
 ·go_wp2;go_ret;exact⟨rfl,hb1⟩
theorem validRecords_any(v:Value)(xs:List Rr)(w:World)(h:CRow w v xs.length 5 (rvVs xs))(hx:∀ r∈xs,r.own.size<=1048576∧r.da.size<=1048576):
 Calls Tryz.prog 45 #[v] w fun e w'=>e=.returned (.bool (xs.all rcOK))∧Below w.heap.size w w':=by
 have hs:=validHas_any v xs w h hx;obtain⟨_,a,cap,rfl,hcap,hmx,_⟩:=h;generalize xs.all rcOK=B at*;go_enter Tryz.func45,Tryz.ntmps45;go_wp2_with fail
 refine hs.mono ?_;rintro e w1 ⟨rfl,hb1⟩;go_wp2;go_ret;exact⟨by simp,hb1⟩
end Go.Proofs.YtfmolgdfjklmpaaGreat
