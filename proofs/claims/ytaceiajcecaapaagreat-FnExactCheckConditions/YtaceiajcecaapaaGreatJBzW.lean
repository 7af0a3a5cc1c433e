import Derived.Test.YtaceiajcecaapaaGreatJBzN
import Derived.Test.YtaceiajcecaapaaGreatJZbG
import Derived.Test.YtaceiajcecaapaaGreatJBzFSOA
import Derived.Test.YtaceiajcecaapaaGreatJBzC
import Derived.Test.YtaceiajcecaapaaGreatJTrR
import Derived.Test.YtaceiajcecaapaaGreatJZbH
import Derived.Test.YtaceiajcecaapaaGreatJRrM
import Derived.Test.YtaceiajcecaapaaGreatJTrM
import Derived.Test.YtaceiajcecaapaaGreatJZrM
import Derived.Test.YtaceiajcecaapaaGreatJCRow
import Derived.Test.YtaceiajcecaapaaGreatJZbA
import Derived.Test.YtaceiajcecaapaaGreatJFoldN
namespace Go.Proofs.YtaceiajcecaapaaGreat
open Go.RowKit
set_option linter.unusedVariables false
theorem fstR_two(f:Ld->Bool)(code:Int)(l:List Ld):∃ c a,fstR f code l=.tuple #[.int .i64 c,.int .i64 a]:=by
 unfold fstR
 cases l.find? f with
 |none=>exact⟨_,_,rfl⟩
 |some x=>exact⟨_,_,rfl⟩
set_option maxRecDepth 100000 in
set_option maxHeartbeats 800000 in
theorem checkWild_any(bb:Nat)(v:Value)(ls:List Ld)(f:Ld->Bool)(w:World)(hk:w.cell? ⟨bb,5,none⟩=some v)(h:CRow w v ls.length 4 (ldVs ls))(hl:ls.length<=1000000)
 (hf:∀ x∈ls,∀ W,Below w.heap.size w W->Calls Tryz.prog 110 #[.agg #[.int .i64 (x.at_:Int),.int .i64 x.ty,.pointer (some ⟨x.ob,0,none⟩),.pointer (some ⟨x.sb,0,none⟩)]] W fun e w'=>e=.returned (.bool (f x))∧Below W.heap.size W w'):
 Calls Tryz.prog 69 #[.pointer (some ⟨bb,0,none⟩)] w fun e w'=>e=.returned (fstR f 26 ls)∧Below w.heap.size w w':=by
 have hw:=firstWild_any bb 26 v ls f w hk h hl hf;obtain⟨c,a,e⟩:=fstR_two f 26 ls;rw [e] at hw ⊢;clear hf h hk e;go_enter Tryz.func69,Tryz.ntmps69;go_wp2_with fail
 refine hw.mono ?_;rintro e w1 ⟨rfl,b1⟩;clear hw;go_wp2;go_ret2;exact⟨rfl,b1⟩
set_option maxRecDepth 100000 in
set_option maxHeartbeats 800000 in
theorem checkSingle_any(bb:Nat)(v:Value)(ls:List Ld)(f:Ld->Bool)(w:World)(hk:w.cell? ⟨bb,5,none⟩=some v)(h:CRow w v ls.length 4 (ldVs ls))(hl:ls.length<=1000000)
 (hf:∀ x∈ls,∀ W,Below w.heap.size w W->Calls Tryz.prog 112 #[.agg #[.int .i64 (x.at_:Int),.int .i64 x.ty,.pointer (some ⟨x.ob,0,none⟩),.pointer (some ⟨x.sb,0,none⟩)]] W fun e w'=>e=.returned (.bool (f x))∧Below W.heap.size W w'):
 Calls Tryz.prog 70 #[.pointer (some ⟨bb,0,none⟩)] w fun e w'=>e=.returned (fstR f 23 ls)∧Below w.heap.size w w':=by
 have hw:=firstSingle_any bb 23 v ls f w hk h hl hf;obtain⟨c,a,e⟩:=fstR_two f 23 ls;rw [e] at hw ⊢;clear hf h hk e;go_enter Tryz.func70,Tryz.ntmps70;go_wp2_with fail
 refine hw.mono ?_;rintro e w1 ⟨rfl,b1⟩;clear hw;go_wp2;go_ret2;exact⟨rfl,b1⟩
set_option maxRecDepth 100000 in
set_option maxHeartbeats 800000 in
theorem checkAlias_any(bb:Nat)(v:Value)(ls:List Ld)(f:Ld->Bool)(w:World)(hk:w.cell? ⟨bb,5,none⟩=some v)(h:CRow w v ls.length 4 (ldVs ls))(hl:ls.length<=1000000)
 (hf:∀ x∈ls,∀ W,Below w.heap.size w W->Calls Tryz.prog 113 #[.agg #[.int .i64 (x.at_:Int),.int .i64 x.ty,.pointer (some ⟨x.ob,0,none⟩),.pointer (some ⟨x.sb,0,none⟩)]] W fun e w'=>e=.returned (.bool (f x))∧Below W.heap.size W w'):
 Calls Tryz.prog 71 #[.pointer (some ⟨bb,0,none⟩)] w fun e w'=>e=.returned (fstR f 23 ls)∧Below w.heap.size w w':=by
 have hw:=firstAlias_any bb 23 v ls f w hk h hl hf;obtain⟨c,a,e⟩:=fstR_two f 23 ls;rw [e] at hw ⊢;clear hf h hk e;go_enter Tryz.func71,Tryz.ntmps71;go_wp2_with fail
 refine hw.mono ?_;rintro e w1 ⟨rfl,b1⟩;clear hw;go_wp2;go_ret2;exact⟨rfl,b1⟩
set_option maxRecDepth 100000 in
set_option maxHeartbeats 800000 in
theorem wild1_any(x:Ld)(nm lv hv:Value)(T:TypeId)(lab:List ByteArray)(w:World)(hk:Blk w x.ob #[nm,lv,hv] T)(h:Nm.SRow w lv lab):
 Calls Tryz.prog 110 #[.agg #[.int .i64 (x.at_:Int),.int .i64 x.ty,.pointer (some ⟨x.ob,0,none⟩),.pointer (some ⟨x.sb,0,none⟩)]] w fun e w'=>e=.returned (.bool ((x.ty==2||x.ty==39)&&wildL lab))∧Below w.heap.size w w':=by
 have hB0:=(Below.refl w.heap.size w).alloc (Nat.le_refl _) (.cells #[.int .i64 (x.at_:Int),.int .i64 x.ty,.pointer (some ⟨x.ob,0,none⟩),.pointer (some ⟨x.sb,0,none⟩)] 149);have kb:=blk_new w #[.int .i64 (x.at_:Int),.int .i64 x.ty,.pointer (some ⟨x.ob,0,none⟩),.pointer (some ⟨x.sb,0,none⟩)] 149;have rb:=fun i=>blk_cell kb i
 have ko:=(blk_cell (blk_below hk hB0) 1).trans rfl;have hw:=isWild_any lv lab _ (h.below hB0);obtain⟨a,cap,rfl,_⟩:=h;obtain⟨at_,ty,ob,sb⟩:=x;simp only at*
 clear hk kb;generalize wildL lab=WL at*
 by_cases h2:ty=2
 ·subst h2;have e2:((2:Int)==2)=true:=rfl;go_enter Tryz.func110,Tryz.ntmps110;go_wp2_with fail
  refine hw.mono ?_;rintro e w1 ⟨rfl,b1⟩;clear hw;go_wp2;go_ret;exact⟨by simp,Nm.below_two hB0 b1⟩
 ·have e2:(ty==2)=false:=by simpa using h2
  by_cases h3:ty=39
  ·subst h3;go_enter Tryz.func110,Tryz.ntmps110;go_wp2_with fail
   refine hw.mono ?_;rintro e w1 ⟨rfl,b1⟩;clear hw;go_wp2;go_ret;exact⟨by simp,Nm.below_two hB0 b1⟩
  ·have e3:(ty==39)=false:=by simpa using h3
   clear hw;go_enter Tryz.func110,Tryz.ntmps110;go_wp2;go_ret;exact⟨by simp [e2,e3],hB0⟩
set_option maxRecDepth 100000 in
set_option maxHeartbeats 800000 in
theorem below1_any(x:Ld)(cq:Nat)(v:Value)(bs:List Nat)(w:World)(hq:w.cell? ⟨cq,0,none⟩=some v)(h:CRow w v bs.length 1 (bs.map ptr))(hbk:∀ b,b=x.ob∨b∈bs->∃ cs T,Blk w b cs T):
 Calls Tryz.prog 116 #[.agg #[.int .i64 (x.at_:Int),.int .i64 x.ty,.pointer (some ⟨x.ob,0,none⟩),.pointer (some ⟨x.sb,0,none⟩)],.pointer (some ⟨cq,0,none⟩)] w fun e w'=>e=.returned (.bool (decide (x.ob∈bs)))∧Below w.heap.size w w':=by
 have hB0:=(Below.refl w.heap.size w).alloc (Nat.le_refl _) (.cells #[.int .i64 (x.at_:Int),.int .i64 x.ty,.pointer (some ⟨x.ob,0,none⟩),.pointer (some ⟨x.sb,0,none⟩)] 149);have kb:=blk_new w #[.int .i64 (x.at_:Int),.int .i64 x.ty,.pointer (some ⟨x.ob,0,none⟩),.pointer (some ⟨x.sb,0,none⟩)] 149;have rb:=fun i=>blk_cell kb i
 have kq:=(hB0.cell (p:=⟨cq,0,none⟩) (World.block_lt_of_cell? w _ hq)).trans hq;have hw:=containsOw_any v bs x.ob _ (h.below hB0) (fun b hb=>by obtain⟨cs,T,k⟩:=hbk b hb;exact⟨cs,T,blk_below k hB0⟩);obtain⟨_,a,cap,rfl,_⟩:=h;obtain⟨at_,ty,ob,sb⟩:=x;simp only at*
 generalize decide (ob∈bs)=DB at*;clear hbk kb hq;go_enter Tryz.func116,Tryz.ntmps116;go_wp2_with fail
 refine hw.mono ?_;rintro e w1 ⟨rfl,b1⟩;clear hw;go_wp2;go_ret;exact⟨rfl,Nm.below_two hB0 b1⟩
set_option maxRecDepth 100000 in
set_option maxHeartbeats 800000 in
theorem alias1_any(x:Ld)(o:GOw)(B:Nat)(w:World)(hx:x.ob=o.blk)(h:OwAt w B o)(hl:o.ss.length<=500000)(hd:SeS o.ss):
 Calls Tryz.prog 113 #[.agg #[.int .i64 (x.at_:Int),.int .i64 x.ty,.pointer (some ⟨x.ob,0,none⟩),.pointer (some ⟨x.sb,0,none⟩)]] w fun e w'=>e=.returned (.bool (x.ty != 5&&x.ty != 47&&isIn (sCmp 5) o.ss))∧Below w.heap.size w w':=by
 have hB0:=(Below.refl w.heap.size w).alloc (Nat.le_refl _) (.cells #[.int .i64 (x.at_:Int),.int .i64 x.ty,.pointer (some ⟨x.ob,0,none⟩),.pointer (some ⟨x.sb,0,none⟩)] 149);have kb:=blk_new w #[.int .i64 (x.at_:Int),.int .i64 x.ty,.pointer (some ⟨x.ob,0,none⟩),.pointer (some ⟨x.sb,0,none⟩)] 149;have rb:=fun i=>blk_cell kb i
 have hw:=ownerHas_any o B 5 _ (h.below hB0) hl hd;unfold ptr at hw;rw [<- hx] at hw;obtain⟨at_,ty,ob,sb⟩:=x;simp only at*
 generalize isIn (sCmp 5) o.ss=DB at*;clear hx h hl hd kb
 by_cases h2:ty=5
 ·subst h2;have e2:((5:Int) != 5)=false:=rfl;clear hw;go_enter Tryz.func113,Tryz.ntmps113;go_wp2;go_ret;exact⟨by simp,hB0⟩
 ·have e2:(ty != 5)=true:=by simpa using h2
  by_cases h3:ty=47
  ·subst h3;clear hw;go_enter Tryz.func113,Tryz.ntmps113;go_wp2;go_ret;exact⟨by simp,hB0⟩
  ·have e3:(ty != 47)=true:=by simpa using h3
   go_enter Tryz.func113,Tryz.ntmps113;go_wp2_with fail
   refine hw.mono ?_;rintro e w1 ⟨rfl,b1⟩;clear hw;go_wp2;go_ret;exact⟨by simp [e2,e3],Nm.below_two hB0 b1⟩
set_option maxRecDepth 100000 in
set_option maxHeartbeats 3200000 in
theorem l04Sound_any(r:Rr)(w:World)(ho:r.own.size<=1048576)(hd:r.da.size<=1048576):
 Calls Tryz.prog 54 #[.agg #[.string r.own,.int .i64 r.ty,.int .i64 r.cl,.int .i64 r.tt,.string r.da]] w fun e w'=>e=.returned (.bool (rcOK r))∧Below w.heap.size w w':=by
 have hR0:=RB.new w r 47;have hB0:=(Below.refl w.heap.size w).alloc (Nat.le_refl _) (.cells #[.string r.own,.int .i64 r.ty,.int .i64 r.cl,.int .i64 r.tt,.string r.da] 47);have hno:=fun W=>specNameOK_any r.own W (by unfold maxLen;omega)
 have hi1:=fun W=>l04In_any r.ty 65535 W
 have hi2:=fun W=>l04In_any r.cl 65535 W
 have hi3:=fun W=>l04In_any r.tt 4294967295 W
 have hck:=fun W=>specCheckData_any r.ty r.da W
 have HM:Hid (rcOK r=((Nm.split r.own).isSome&&(decide (0<=r.ty)&&decide (r.ty<=65535))&&(decide (0<=r.cl)&&decide (r.cl<=65535))&&(decide (0<=r.tt)&&decide (r.tt<=4294967295))&&(decide (r.da.size=0)||cutCode r.ty r.da==0))):=rfl;have he5:=str_empty (s:=r.da);obtain⟨o,ty,cl,tt,da⟩:=r;simp only at hR0 hB0 hno hi1 hi2 hi3 hck HM he5 ⊢
 generalize rcOK ⟨o,ty,cl,tt,da⟩=M at*;generalize (Nm.split o).isSome=B1 at*;generalize (decide (0<=ty)&&decide (ty<=65535))=B2 at*;generalize (decide (0<=cl)&&decide (cl<=65535))=B3 at*;generalize (decide (0<=tt)&&decide (tt<=4294967295))=B4 at*;generalize cutCode ty da=C6 at*;generalize decide (da.size=0)=B5 at*;clear ho hd
 cases B1 with
 |false=>
  obtain rfl:M=false:=by rw [HM.out];simp
  go_enter Tryz.func54,Tryz.ntmps54;go_wp2_with (first|(go_at_call 43;refine(hno _).mono ?_;rintro e w1 ⟨rfl,hb1⟩;obtain⟨c0,c1,c2,c3,c4⟩:=hR0.below hb1)|(go_at_call 93;first|(with_reducible refine(hi1 _).mono ?_;rintro e wf ⟨rfl,hw⟩;obtain rfl:=hw.symm;clear hw)|(with_reducible refine(hi2 _).mono ?_;rintro e wf ⟨rfl,hw⟩;obtain rfl:=hw.symm;clear hw)|(with_reducible refine(hi3 _).mono ?_;rintro e wf ⟨rfl,hw⟩;obtain rfl:=hw.symm;clear hw))|(go_at_call 59;refine(hck _).mono ?_;rintro e w2 ⟨rfl,hb2⟩))
  go_ret
  exact⟨rfl,Nm.below_two hB0 hb1⟩
 |true=>
  cases B2 with
  |false=>
   obtain rfl:M=false:=by rw [HM.out];simp
   go_enter Tryz.func54,Tryz.ntmps54;go_wp2_with (first|(go_at_call 43;refine(hno _).mono ?_;rintro e w1 ⟨rfl,hb1⟩;obtain⟨c0,c1,c2,c3,c4⟩:=hR0.below hb1)|(go_at_call 93;first|(with_reducible refine(hi1 _).mono ?_;rintro e wf ⟨rfl,hw⟩;obtain rfl:=hw.symm;clear hw)|(with_reducible refine(hi2 _).mono ?_;rintro e wf ⟨rfl,hw⟩;obtain rfl:=hw.symm;clear hw)|(with_reducible refine(hi3 _).mono ?_;rintro e wf ⟨rfl,hw⟩;obtain rfl:=hw.symm;clear hw))|(go_at_call 59;refine(hck _).mono ?_;rintro e w2 ⟨rfl,hb2⟩))
   go_ret
   exact⟨rfl,Nm.below_two hB0 hb1⟩
  |true=>
   cases B3 with
   |false=>
    obtain rfl:M=false:=by rw [HM.out];simp
    go_enter Tryz.func54,Tryz.ntmps54;go_wp2_with (first|(go_at_call 43;refine(hno _).mono ?_;rintro e w1 ⟨rfl,hb1⟩;obtain⟨c0,c1,c2,c3,c4⟩:=hR0.below hb1)|(go_at_call 93;first|(with_reducible refine(hi1 _).mono ?_;rintro e wf ⟨rfl,hw⟩;obtain rfl:=hw.symm;clear hw)|(with_reducible refine(hi2 _).mono ?_;rintro e wf ⟨rfl,hw⟩;obtain rfl:=hw.symm;clear hw)|(with_reducible refine(hi3 _).mono ?_;rintro e wf ⟨rfl,hw⟩;obtain rfl:=hw.symm;clear hw))|(go_at_call 59;refine(hck _).mono ?_;rintro e w2 ⟨rfl,hb2⟩))
    go_ret
    exact⟨rfl,Nm.below_two hB0 hb1⟩
   |true=>
    cases B4 with
    |false=>
     obtain rfl:M=false:=by rw [HM.out];simp
     go_enter Tryz.func54,Tryz.ntmps54;go_wp2_with (first|(go_at_call 43;refine(hno _).mono ?_;rintro e w1 ⟨rfl,hb1⟩;obtain⟨c0,c1,c2,c3,c4⟩:=hR0.below hb1)|(go_at_call 93;first|(with_reducible refine(hi1 _).mono ?_;rintro e wf ⟨rfl,hw⟩;obtain rfl:=hw.symm;clear hw)|(with_reducible refine(hi2 _).mono ?_;rintro e wf ⟨rfl,hw⟩;obtain rfl:=hw.symm;clear hw)|(with_reducible refine(hi3 _).mono ?_;rintro e wf ⟨rfl,hw⟩;obtain rfl:=hw.symm;clear hw))|(go_at_call 59;refine(hck _).mono ?_;rintro e w2 ⟨rfl,hb2⟩))
     go_ret
     exact⟨rfl,Nm.below_two hB0 hb1⟩
    |true=>
     cases B5 with
     |true=>
      obtain rfl:M=true:=by rw [HM.out];simp
      go_enter Tryz.func54,Tryz.ntmps54;go_wp2_with (first|(go_at_call 43;refine(hno _).mono ?_;rintro e w1 ⟨rfl,hb1⟩;obtain⟨c0,c1,c2,c3,c4⟩:=hR0.below hb1)|(go_at_call 93;first|(with_reducible refine(hi1 _).mono ?_;rintro e wf ⟨rfl,hw⟩;obtain rfl:=hw.symm;clear hw)|(with_reducible refine(hi2 _).mono ?_;rintro e wf ⟨rfl,hw⟩;obtain rfl:=hw.symm;clear hw)|(with_reducible refine(hi3 _).mono ?_;rintro e wf ⟨rfl,hw⟩;obtain rfl:=hw.symm;clear hw))|(go_at_call 59;refine(hck _).mono ?_;rintro e w2 ⟨rfl,hb2⟩))
      go_ret
      exact⟨rfl,Nm.below_two hB0 hb1⟩
     |false=>
      obtain rfl:M=(C6==0):=by rw [HM.out];simp
      go_enter Tryz.func54,Tryz.ntmps54;go_wp2_with (first|(go_at_call 43;refine(hno _).mono ?_;rintro e w1 ⟨rfl,hb1⟩;obtain⟨c0,c1,c2,c3,c4⟩:=hR0.below hb1)|(go_at_call 93;first|(with_reducible refine(hi1 _).mono ?_;rintro e wf ⟨rfl,hw⟩;obtain rfl:=hw.symm;clear hw)|(with_reducible refine(hi2 _).mono ?_;rintro e wf ⟨rfl,hw⟩;obtain rfl:=hw.symm;clear hw)|(with_reducible refine(hi3 _).mono ?_;rintro e wf ⟨rfl,hw⟩;obtain rfl:=hw.symm;clear hw))|(go_at_call 59;refine(hck _).mono ?_;rintro e w2 ⟨rfl,hb2⟩))
      go_ret;exact⟨rfl,Nm.below_two (Nm.below_two hB0 hb1) hb2⟩
set_option maxRecDepth 100000 in
set_option maxHeartbeats 1600000 in
theorem l04AllSound_any(v:Value)(xs:List Rr)(w:World)(h:CRow w v xs.length 5 (rvVs xs))(hx:∀ r∈xs,r.own.size<=1048576∧r.da.size<=1048576):
 Calls Tryz.prog 29 #[v] w fun e w'=>e=.returned (.bool (xs.all rcOK))∧Below w.heap.size w w':=by
 obtain⟨_,a,cap,rfl,hcap,hmx,hc⟩:=h;unfold maxLen at hmx;have hs:=fun(r:Rr) (hr:r∈xs) W=>l04Sound_any r W (hx r hr).1 (hx r hr).2
 obtain⟨RES,HRES⟩:∃ R,Hid (R=xs.all rcOK):=⟨_,rfl⟩;rw [<- HRES.out];clear hx;go_enter Tryz.func29,Tryz.ntmps29;go_wp2
 go_loopw [3] (fun i wr=>∃ k:Nat,k<=xs.length∧i=.int .i64 k∧Hid ((xs.take k).all rcOK=true)∧Below w.heap.size w wr) (fun i _=>xs.length-(intOf i).toNat)
 case atStart=>exact⟨0,Nat.zero_le _,rfl,by show _=_;simp,Below.refl _ _⟩
 case round=>
  obtain⟨k,hk,rfl,HA,hbel⟩:=hrel
  by_cases hlt:k<xs.length
  ·obtain⟨x,hxk⟩:∃ x,xs[k]? =some x:=⟨_,List.getElem?_eq_getElem hlt⟩;obtain⟨b,off,rfl,hcell⟩:=hc (by omega);obtain⟨c0,c1,c2,c3,c4⟩:=rv_cells hcell hxk;have put:∀ {O:Nat} {z:Value},w.cell? ⟨b,O,none⟩=some z->wr.cell? ⟨b,O,none⟩=some z:=fun h=>(hbel.cell (World.block_lt_of_cell? w _ h)).trans h
   replace c0:=put c0
   replace c1:=put c1
   replace c2:=put c2
   replace c3:=put c3
   replace c4:=put c4
   have hmem:=List.mem_of_getElem? hxk;have hone:=hs x hmem wr;have i1:(0:Int)<=(k:Int):=by omega
   have i2:(k:Int)<(xs.length:Int):=by omega
   cases hok:rcOK x with
   |true=>
    have HA2:Hid ((xs.take (k+1)).all rcOK=true):=by show _=_;rw [all_take' hxk,HA.out,hok];rfl
    rw [hok] at hone;clear hs hok hmem hxk hcell hc;obtain⟨o,ty,cl,tt,da⟩:=x;simp only at*
    go_wp2_with (go_at_call 54;refine hone.mono ?_;rintro e w1 ⟨rfl,hb1⟩)
    go_roundw
    case rel=>exact⟨k+1,by omega,by go_num,HA2,Nm.below_two hbel hb1⟩
    case measure=>simp [intOf];omega
   |false=>
    obtain rfl:RES=false:=by rw [HRES.out];exact all_no hmem hok
    rw [hok] at hone;clear hs hok hmem hxk hcell hc HRES;obtain⟨o,ty,cl,tt,da⟩:=x;simp only at*
    go_wp2_with (go_at_call 54;refine hone.mono ?_;rintro e w1 ⟨rfl,hb1⟩)
    go_ret;exact⟨rfl,Nm.below_two hbel hb1⟩
  ·have hkl:k=xs.length:=by omega
   subst hkl
   obtain rfl:RES=true:=by
    have:=HA.out;rw [List.take_length] at this;rw [HRES.out,this]
   have i2:(xs.length:Int)<=(xs.length:Int):=by omega
   clear hs hc HRES HA;go_wp2;go_ret;exact⟨rfl,hbel⟩
set_option maxRecDepth 100000 in
set_option maxHeartbeats 1600000 in
theorem l10ListOK_any(v:Value)(xs:List Rr)(w:World)(h:CRow w v xs.length 5 (rvVs xs))(hx:∀ r∈xs,r.own.size<=1048576∧r.da.size<=1048576):
 Calls Tryz.prog 15 #[v] w fun e w'=>e=.returned (.bool (listB xs))∧Below w.heap.size w w':=by
 have hs:=l04AllSound_any v xs w h hx;obtain⟨_,a,cap,rfl,hcap,hmx,_⟩:=h
 by_cases hl:xs.length<=400
 ·have hl':(xs.length:Int)<=400:=by omega
  have HL:Hid (listB xs=xs.all rcOK):=by show _=_;simp [listB,hl]
  generalize xs.all rcOK=B at*;go_enter Tryz.func15,Tryz.ntmps15;go_wp2_with (go_at_call 29;refine hs.mono ?_;rintro e w1 ⟨rfl,hb1⟩)
  go_ret;rw [HL.out];exact⟨rfl,hb1⟩
 ·have hl':¬(xs.length:Int)<=400:=by omega
  have HL:Hid (listB xs=false):=by show _=_;simp [listB,hl]
  go_enter Tryz.func15,Tryz.ntmps15;go_wp2;go_ret;rw [HL.out];exact⟨rfl,Below.refl _ _⟩
end Go.Proofs.YtaceiajcecaapaaGreat
