import Derived.Test.YtfmolgdfjklmpaaGreatJTrL
import Derived.RegionTactic
import Derived.Test.YtfmolgdfjklmpaaGreatJTrD
import Derived.Test.YtfmolgdfjklmpaaGreatJSls
import Derived.Test.YtfmolgdfjklmpaaGreatJTrM
import Derived.Test.YtfmolgdfjklmpaaGreatJDrH
import Derived.Test.YtfmolgdfjklmpaaGreatJSCheck
namespace Go.Proofs.YtfmolgdfjklmpaaGreat
open Go.RowKit
set_option linter.unusedVariables false
structure Ld where
 at_:Nat
 ty:Int
 ob:Nat
 sb:Nat
def ldC(x:Ld):List Value:=[.int .i64 (x.at_:Int),.int .i64 x.ty,.pointer (some ⟨x.ob,0,none⟩),.pointer (some ⟨x.sb,0,none⟩)]
def ldVs(l:List Ld):List Value:=l.flatMap ldC
theorem ld_at:∀ (l:List Ld) (k j:Nat) (x:Ld),l[k]? =some x->j<4->(ldVs l)[k*4+j]? =(ldC x)[j]? :=by
 intro l
 induction l with
 |nil=>intro k j x h;simp at h
 |cons y l ih=>
  intro k j x h hj;have e:ldVs (y::l)=ldC y++ldVs l:=by simp [ldVs]
  have hy:(ldC y).length=4:=rfl;rw [e]
  cases k with
  |zero=>
   simp at h;subst h;rw [List.getElem?_append_left (by omega)]
   simp
  |succ k=>
   simp at h;rw [List.getElem?_append_right (by omega),hy,show(k+1)*4+j-4=k*4+j by omega];exact ih k j x h hj
def fstR(f:Ld->Bool)(code:Int)(l:List Ld):Value:=match l.find? f with
 |some x=>.tuple #[.int .i64 code,.int .i64 (x.at_:Int)]
 |none=>.tuple #[.int .i64 0,.int .i64 0]
theorem fst_no{f:Ld->Bool}{code:Int}{l:List Ld}(h:∀ j x,j<l.length->l[j]? =some x->f x=false):fstR f code l=.tuple #[.int .i64 0,.int .i64 0]:=by
 have:l.find? f=none:=by
  rw [List.find?_eq_none];intro x hx;obtain⟨j,hj⟩:=List.mem_iff_getElem?.1 hx;rw [h j x (List.getElem?_eq_some_iff.1 hj).1 hj];simp
 rw [fstR,this]
theorem fst_at{f:Ld->Bool}{code:Int}:∀ {l:List Ld} {k:Nat} {x:Ld},(∀ j y,j<k->l[j]? =some y->f y=false)->l[k]? =some x->f x=true->fstR f code l=.tuple #[.int .i64 code,.int .i64 (x.at_:Int)]:=by
 intro l
 induction l with
 |nil=>intro k x _ h;simp at h
 |cons y l ih=>
  intro k x hno hx hf
  cases k with
  |zero=>
   simp at hx;subst hx
   rw [fstR,List.find?_cons_of_pos hf]
  |succ k=>
   have hy:f y=false:=hno 0 y (by omega) rfl;have:=ih (k:=k) (x:=x) (fun j z hj hz=>hno (j+1) z (by omega) (by simpa using hz)) (by simpa using hx) hf;rw [fstR] at this ⊢;rw [List.find?_cons_of_neg (by simp [hy])];exact this
set_option maxRecDepth 100000 in
set_option maxHeartbeats 3200000 in
theorem validRecord_any(r:Rr)(w:World)(ho:r.own.size<=1048576)(hd:r.da.size<=1048576):
 Calls Tryz.prog 85 #[.agg #[.string r.own,.int .i64 r.ty,.int .i64 r.cl,.int .i64 r.tt,.string r.da]] w fun e w'=>e=.returned (.bool (rcOK r))∧Below w.heap.size w w':=by
 have hR0:=RB.new w r 33;have hB0:=(Below.refl w.heap.size w).alloc (Nat.le_refl _) (.cells #[.string r.own,.int .i64 r.ty,.int .i64 r.cl,.int .i64 r.tt,.string r.da] 33);have hno:=fun W=>implNameOK_any r.own W (by unfold maxLen;omega)
 have hi1:=fun W=>within_any r.ty 65535 W
 have hi2:=fun W=>within_any r.cl 65535 W
 have hi3:=fun W=>within_any r.tt 4294967295 W
 have hck:=fun W=>implCheckData_any r.ty r.da W (by omega)
 have HM:Hid (rcOK r=((Nm.split r.own).isSome&&(decide (0<=r.ty)&&decide (r.ty<=65535))&&(decide (0<=r.cl)&&decide (r.cl<=65535))&&(decide (0<=r.tt)&&decide (r.tt<=4294967295))&&(decide (r.da.size=0)||cutCode r.ty r.da==0))):=rfl;have he5:=str_empty (s:=r.da);obtain⟨o,ty,cl,tt,da⟩:=r;simp only at hR0 hB0 hno hi1 hi2 hi3 hck HM he5 ⊢
 generalize rcOK ⟨o,ty,cl,tt,da⟩=M at*;generalize (Nm.split o).isSome=B1 at*;generalize (decide (0<=ty)&&decide (ty<=65535))=B2 at*;generalize (decide (0<=cl)&&decide (cl<=65535))=B3 at*;generalize (decide (0<=tt)&&decide (tt<=4294967295))=B4 at*;generalize cutCode ty da=C6 at*;generalize decide (da.size=0)=B5 at*;clear ho hd
 cases B1 with
 |false=>
  obtain rfl:M=false:=by rw [HM.out];simp
  go_enter Tryz.func85,Tryz.ntmps85;go_wp2_with (first|(go_at_call 128;refine(hno _).mono ?_;rintro e w1 ⟨rfl,hb1⟩;obtain⟨c0,c1,c2,c3,c4⟩:=hR0.below hb1)|(go_at_call 129;first|(with_reducible refine(hi1 _).mono ?_;rintro e wf ⟨rfl,hw⟩;obtain rfl:=hw.symm;clear hw)|(with_reducible refine(hi2 _).mono ?_;rintro e wf ⟨rfl,hw⟩;obtain rfl:=hw.symm;clear hw)|(with_reducible refine(hi3 _).mono ?_;rintro e wf ⟨rfl,hw⟩;obtain rfl:=hw.symm;clear hw))|(go_at_call 130;refine(hck _).mono ?_;rintro e w2 ⟨rfl,hb2⟩))
  go_ret
  exact⟨rfl,Nm.below_two hB0 hb1⟩
 |true=>
  cases B2 with
  |false=>
   obtain rfl:M=false:=by rw [HM.out];simp
   go_enter Tryz.func85,Tryz.ntmps85;go_wp2_with (first|(go_at_call 128;refine(hno _).mono ?_;rintro e w1 ⟨rfl,hb1⟩;obtain⟨c0,c1,c2,c3,c4⟩:=hR0.below hb1)|(go_at_call 129;first|(with_reducible refine(hi1 _).mono ?_;rintro e wf ⟨rfl,hw⟩;obtain rfl:=hw.symm;clear hw)|(with_reducible refine(hi2 _).mono ?_;rintro e wf ⟨rfl,hw⟩;obtain rfl:=hw.symm;clear hw)|(with_reducible refine(hi3 _).mono ?_;rintro e wf ⟨rfl,hw⟩;obtain rfl:=hw.symm;clear hw))|(go_at_call 130;refine(hck _).mono ?_;rintro e w2 ⟨rfl,hb2⟩))
   go_ret
   exact⟨rfl,Nm.below_two hB0 hb1⟩
  |true=>
   cases B3 with
   |false=>
    obtain rfl:M=false:=by rw [HM.out];simp
    go_enter Tryz.func85,Tryz.ntmps85;go_wp2_with (first|(go_at_call 128;refine(hno _).mono ?_;rintro e w1 ⟨rfl,hb1⟩;obtain⟨c0,c1,c2,c3,c4⟩:=hR0.below hb1)|(go_at_call 129;first|(with_reducible refine(hi1 _).mono ?_;rintro e wf ⟨rfl,hw⟩;obtain rfl:=hw.symm;clear hw)|(with_reducible refine(hi2 _).mono ?_;rintro e wf ⟨rfl,hw⟩;obtain rfl:=hw.symm;clear hw)|(with_reducible refine(hi3 _).mono ?_;rintro e wf ⟨rfl,hw⟩;obtain rfl:=hw.symm;clear hw))|(go_at_call 130;refine(hck _).mono ?_;rintro e w2 ⟨rfl,hb2⟩))
    go_ret
    exact⟨rfl,Nm.below_two hB0 hb1⟩
   |true=>
    cases B4 with
    |false=>
     obtain rfl:M=false:=by rw [HM.out];simp
     go_enter Tryz.func85,Tryz.ntmps85;go_wp2_with (first|(go_at_call 128;refine(hno _).mono ?_;rintro e w1 ⟨rfl,hb1⟩;obtain⟨c0,c1,c2,c3,c4⟩:=hR0.below hb1)|(go_at_call 129;first|(with_reducible refine(hi1 _).mono ?_;rintro e wf ⟨rfl,hw⟩;obtain rfl:=hw.symm;clear hw)|(with_reducible refine(hi2 _).mono ?_;rintro e wf ⟨rfl,hw⟩;obtain rfl:=hw.symm;clear hw)|(with_reducible refine(hi3 _).mono ?_;rintro e wf ⟨rfl,hw⟩;obtain rfl:=hw.symm;clear hw))|(go_at_call 130;refine(hck _).mono ?_;rintro e w2 ⟨rfl,hb2⟩))
     go_ret
     exact⟨rfl,Nm.below_two hB0 hb1⟩
    |true=>
     cases B5 with
     |true=>
      obtain rfl:M=true:=by rw [HM.out];simp
      go_enter Tryz.func85,Tryz.ntmps85;go_wp2_with (first|(go_at_call 128;refine(hno _).mono ?_;rintro e w1 ⟨rfl,hb1⟩;obtain⟨c0,c1,c2,c3,c4⟩:=hR0.below hb1)|(go_at_call 129;first|(with_reducible refine(hi1 _).mono ?_;rintro e wf ⟨rfl,hw⟩;obtain rfl:=hw.symm;clear hw)|(with_reducible refine(hi2 _).mono ?_;rintro e wf ⟨rfl,hw⟩;obtain rfl:=hw.symm;clear hw)|(with_reducible refine(hi3 _).mono ?_;rintro e wf ⟨rfl,hw⟩;obtain rfl:=hw.symm;clear hw))|(go_at_call 130;refine(hck _).mono ?_;rintro e w2 ⟨rfl,hb2⟩))
      go_ret
      exact⟨rfl,Nm.below_two hB0 hb1⟩
     |false=>
      obtain rfl:M=(C6==0):=by rw [HM.out];simp
      go_enter Tryz.func85,Tryz.ntmps85;go_wp2_with (first|(go_at_call 128;refine(hno _).mono ?_;rintro e w1 ⟨rfl,hb1⟩;obtain⟨c0,c1,c2,c3,c4⟩:=hR0.below hb1)|(go_at_call 129;first|(with_reducible refine(hi1 _).mono ?_;rintro e wf ⟨rfl,hw⟩;obtain rfl:=hw.symm;clear hw)|(with_reducible refine(hi2 _).mono ?_;rintro e wf ⟨rfl,hw⟩;obtain rfl:=hw.symm;clear hw)|(with_reducible refine(hi3 _).mono ?_;rintro e wf ⟨rfl,hw⟩;obtain rfl:=hw.symm;clear hw))|(go_at_call 130;refine(hck _).mono ?_;rintro e w2 ⟨rfl,hb2⟩))
      go_ret;exact⟨rfl,Nm.below_two (Nm.below_two hB0 hb1) hb2⟩
set_option maxRecDepth 100000 in
set_option maxHeartbeats 400000 in
theorem l01Parts_any(a:Option Addr)(n cap:Nat)(w:World)(hn:n<=1048576):
 Calls Tryz.prog 27 #[.slice a n cap,.int .i64 60] w fun e w'=>∃ k:Nat,e=.returned (.int .i64 (k:Int))∧k<=30∧w'=w:=by
 have hq:((n:Int).tdiv 60)=((n / 60:Nat):Int):=by rw [Int.tdiv_eq_ediv_of_nonneg (by omega)];rfl
 by_cases h:30<n / 60
 ·have h':(30:Int)<((n / 60:Nat):Int):=by omega
  go_enter Tryz.func27,Tryz.ntmps27;go_wp2;go_ret;exact⟨30,rfl,Nat.le_refl _,rfl⟩
 ·have h':¬(30:Int)<((n / 60:Nat):Int):=by omega
  go_enter Tryz.func27,Tryz.ntmps27;go_wp2;go_ret;exact⟨n / 60,rfl,by omega,rfl⟩
end Go.Proofs.YtfmolgdfjklmpaaGreat
namespace Go.Proofs.YtfmolgdfjklmpaaGreat
open Go.RowKit
theorem owns_one{w:World}{B e:Nat}(x:Value)(hb:B<=w.heap.size):(w.alloc (.cells #[x] e)).ownsRow B e 1 (.slice (some ⟨w.heap.size,0,none⟩) 1 1) 1 [x]:=
 ⟨rfl,.inr ⟨w.heap.size,1,#[x],rfl,hb,heap_alloc_new w _,Nat.le_refl _,by decide,rfl,rfl⟩⟩
theorem row_stored{w wr:World}{g n cap gr m rc k:Nat}{a:Option Addr}{ls:List ByteArray}(hg:g<w.heap.size)(hcode:CodeAt w g a n)(h1:wr.ownsRow w.heap.size 9 1 (.slice (some ⟨gr,0,none⟩) m rc) m (ls.map Value.string))(h2:Src wr g a n cap)(h3:w.grownBy wr (some g))(hw:w.heap.size<=gr)(y:ByteArray):
 (wr.setCell ⟨gr,k,none⟩ (.string y)).ownsRow w.heap.size 9 1 (.slice (some ⟨gr,0,none⟩) m rc) m ((ls.set k y).map Value.string)∧Src (wr.setCell ⟨gr,k,none⟩ (.string y)) g a n cap∧w.grownBy (wr.setCell ⟨gr,k,none⟩ (.string y)) (some g):=by
 refine⟨?_,src_setOther h2 (by omega) (code_ne hcode hw),grown_set h3 hw⟩;have:=(h1.stored k (.string y)).1;rw [List.map_set];exact this
theorem put_stepD{w w3 w4:World}{g n cap:Nat}{a:Option Addr}{v4:Value}{o:Obj}{x:ByteArray}{ls:List ByteArray}(hlt:g<w.heap.size)(hcode:CodeAt w g a n)(hs:Src w3 g a n cap)(hg:w.grownBy w3 (some g))
 (hown:w4.ownsRow w.heap.size 9 1 v4 (1+ls.length) ([Value.string x]++ls.map Value.string)) (hgrow:(w3.alloc o).grownBy w4 (Value.slice (some ⟨w3.heap.size,0,none⟩) 1 1).ownBlock):
 Nm.SRow w4 v4 (x::ls)∧Src w4 g a n cap∧w.grownBy w4 (some g):=by
 have hrow:∀ q,(Value.slice (some ⟨w3.heap.size,0,none⟩) 1 1).ownBlock=some q->w.heap.size<=q:=by
  intro q hq;simp [Value.ownBlock] at hq
  have:=hg.size;omega
 refine⟨?_,src_grown (src_below hs ((Below.refl _ _).alloc (Nat.le_refl _) _)) hgrow hrow hlt hcode,grown_own (grown_alloc hg _) hgrow hrow⟩;apply Nm.SRow.of_owns (B:=w.heap.size) (e:=9);rw [show(x::ls).length=1+ls.length by simp;omega];exact hown
set_option maxRecDepth 100000 in
set_option maxHeartbeats 1600000 in
theorem l01Near_any(g:Nat)(a:Option Addr)(n cap:Nat)(nm:ByteArray)(w:World)(h:Src w g a n cap)(hz:nm.size<=2000):
 Calls Tryz.prog 54 #[.pointer (some ⟨g,0,none⟩),.string nm] w fun e w'=>∃ s:ByteArray,e=.returned (.string s)∧s.size<=2000∧Src w' g a n cap∧w.grownBy w' (some g):=by
 obtain⟨hcode,hglt⟩:=src_code h;obtain⟨i0,hi,hz0,hz1,hz2⟩:=info_parts Tryz.infoStr;have hnz:nm.size<=maxLen:=by unfold maxLen;omega
 have hsp:=l01Split_any nm w hnz
 cases hq:Nm.split nm with
 |none=>
  rw [hq] at hsp;simp only [Option.getD_none,Option.isSome_none,List.length_nil,List.map_nil] at hsp;go_enter Tryz.func54,Tryz.ntmps54;go_wp2_with fail
  refine hsp.mono ?_;rintro e w1 ⟨v,rfl,hown,hbel⟩;go_wp2;go_ret
  exact⟨_,rfl,hz,src_below h hbel,grown_below (World.grownBy.refl w (some g)) hbel⟩
 |some ls=>
  have hws:Nm.wsum ls<=254:=by have:=Nm.split_size hq;omega
  rw [hq] at hsp;simp only [Option.getD_some,Option.isSome_some] at hsp;clear hq;go_enter Tryz.func54,Tryz.ntmps54;go_wp2_with fail
  refine hsp.mono ?_;rintro e w1 ⟨v,rfl,hown,hbel⟩;have hs1:=src_below h hbel;have hg1:=grown_below (World.grownBy.refl w (some g)) hbel;clear hsp h hbel;go_wp2_with fail
  refine(l01Next_any g a n cap 5 _ hs1 (by decide)).mono ?_;rintro e w2 ⟨r,rfl,hr0,hr1,hs2,hgr2⟩;have hr2:=hr1 (by decide);have hown2:=hown.kept hgr2 (row_src hown hs1 (by decide));have hg2:=grown_step hg1 hgr2;clear hown hs1 hg1 hgr2 hr1;have hsz2:=hg2.size
  rcases(by omega:r=0∨r=1∨(r=2∨r=3)∨r=4) with rfl|rfl|hr|rfl
  ·go_wp2_with fail
   refine(l01Case_any g a n cap nm _ hs2 hnz).mono ?_;rintro e w3 ⟨s,rfl,hs,hs3,hg3⟩;go_wp2;go_ret;exact⟨_,rfl,by omega,hs3,grown_step hg2 hg3⟩
  ·have hr:=Nm.SRow.of_owns hown2;obtain⟨ra,rc,rfl,hcap,hmx,hnl,hc⟩:=Nm.SRow.of_owns hown2;clear hc hnl;have hd1:=fun e:rc=1=>hr.drop_all e
   by_cases hn:ls.length=0
   ·clear hown2 hd1;obtain rfl:=List.length_eq_zero_iff.1 hn;clear hn;simp only [List.length_nil] at hr;go_wp2_with fail
    refine(l01Join_any _ [] _ hr (by omega)).mono ?_;rintro e w9 ⟨rfl,hb9⟩;have hj:=mkj_size [];have hs9:=src_below hs2 hb9;have hg9:=grown_below hg2 hb9;generalize ByteArray.mk (Nm.joinL []).toArray=J at*
    by_cases hJ:255<J.size
    ·have hJ':(255:Int)<(J.size:Int):=by omega
     clear hj;go_wp2;go_ret;exact⟨_,rfl,hz,hs9,hg9⟩
    ·have hJ':(J.size:Int)<=255:=by omega
     clear hj;go_wp2;go_ret;exact⟨_,rfl,by omega,hs9,hg9⟩
   ·have hlp:(0:Int)<(ls.length:Int):=by omega
    have hd2:=hr.drop (k:=1) (by omega);have hwd:=Nm.wsum_drop_le ls 1;clear hown2
    by_cases hck:rc=1
    ·have hd:=hd1 hck;clear hd1 hd2;subst hck;have e0:ls.length-1=0:=by omega
     rw [e0] at hd;go_wp2_with fail
     refine(l01Join_any _ (ls.drop 1) _ hd (by omega)).mono ?_;rintro e w9 ⟨rfl,hb9⟩;go_wp2;go_ret;exact⟨_,rfl,by rw [mkj_size];simp only [List.drop_one] at hwd;omega,src_below hs2 hb9,grown_below hg2 hb9⟩
    ·clear hd1;have hd3:Nm.SRow w2 (.slice (Option.map (fun x=>({block:=x.block,off:=x.off+1,spot:=none}:Addr)) ra) (ls.length-1) (rc-1)) (ls.drop 1):=by simpa [Addr.add] using hd2
     clear hd2;go_wp2_with fail
     refine(l01Join_any _ (ls.drop 1) _ hd3 (by omega)).mono ?_;rintro e w9 ⟨rfl,hb9⟩;go_wp2;go_ret;exact⟨_,rfl,by rw [mkj_size];simp only [List.drop_one] at hwd;omega,src_below hs2 hb9,grown_below hg2 hb9⟩
  ·have hlw:=Nm.length_le_wsum ls
   rcases hr with rfl|rfl
   ·rcases hown2.2 with⟨rfl,h0⟩|⟨gr,rc,cur,rfl,hb,hgg,hnc,hm,_⟩
    ·obtain rfl:=List.length_eq_zero_iff.1 h0;clear hown2 h0;go_wp2_with fail
     refine(l01Label_any g a n cap _ hs2).mono ?_;rintro e w3 ⟨x,rfl,hx,hs3,hg3⟩;have hg3':=grown_step hg2 hg3;have hsz3:=hg3'.size;have hone:=owns_one (w:=w3) (B:=w.heap.size) (e:=9) (.string x) hsz3;have hR:=Nm.SRow.of_owns (ls:=[x]) hone;have hsR:=src_below hs3 ((Below.refl _ _).alloc (Nat.le_refl _) (.cells #[.string x] 9 (0,0)));have hgR:=grown_alloc hg3' (.cells #[.string x] 9 (0,0));have hwx:Nm.wsum [x]<=400:=by simp [Nm.wsum];omega
     try simp only [List.length_cons,List.length_nil] at hR
     go_wp2_with (at_builtin;refine wpList_append_own_none rfl (.tmp 36) (.tmp 37) 46 rfl w.heap.size 9 i0 1 Tryz.underlying46 hi _ _ _ rfl hone rfl ?_)
     refine(l01Join_any _ [x] _ hR (by omega)).mono ?_;rintro e w9 ⟨rfl,hb9⟩;have hj:=mkj_size [x];have hs9:=src_below hsR hb9;have hg9:=grown_below hgR hb9;generalize ByteArray.mk (Nm.joinL [x]).toArray=J at*
     by_cases hJ:255<J.size
     ·have hJ':(255:Int)<(J.size:Int):=by omega
      clear hj;go_wp2;go_ret;exact⟨_,rfl,hz,hs9,hg9⟩
     ·have hJ':(J.size:Int)<=255:=by omega
      clear hj;go_wp2;go_ret;exact⟨_,rfl,by omega,hs9,hg9⟩
    ·unfold maxLen at hm;clear hgg;go_wp2_with fail
     refine(l01Label_any g a n cap _ hs2).mono ?_;rintro e w3 ⟨x,rfl,hx,hs3,hg3⟩;have hown3:=hown2.kept hg3 (row_src hown2 hs2 (by decide));have hg3':=grown_step hg2 hg3;have hsz3:=hg3'.size;have hr3:=Nm.SRow.of_owns (hown3.alloc (.cells #[.string x] 9 (0,0)));have hwx:Nm.wsum (x::ls)<=400:=by simp [Nm.wsum];omega
     clear hown2 hown3;go_wp2_with (at_builtin;refine wpList_append_own _ rfl (.tmp 36) (.tmp 37) 46 rfl w.heap.size 9 i0 (.string ByteArray.empty) 1 16 Tryz.underlying46 hi hz0 hz1 hz2 rfl (by decide) _ _ _ rfl (owns_one (.string x) hsz3) ⟨gr,0,none⟩ ls.length rc (ls.map Value.string) rfl (by simp) (srow_news hr3) (strs_oneCell _) (by unfold maxLen;omega) (by omega) (by simp;omega) ?_;intro v4 w4 hown4 hgrow4 hnl4;clear hnl4;have R:=put_stepD hglt hcode hs3 hg3' hown4 hgrow4;obtain⟨hR,hsR,hgR⟩:=R;clear hown4 hgrow4 hr3)
     refine(l01Join_any _ (x::ls) _ hR (by omega)).mono ?_;rintro e w9 ⟨rfl,hb9⟩;have hj:=mkj_size (x::ls);have hs9:=src_below hsR hb9;have hg9:=grown_below hgR hb9;generalize ByteArray.mk (Nm.joinL (x::ls)).toArray=J at*
     by_cases hJ:255<J.size
     ·have hJ':(255:Int)<(J.size:Int):=by omega
      clear hj;go_wp2;go_ret;exact⟨_,rfl,hz,hs9,hg9⟩
     ·have hJ':(J.size:Int)<=255:=by omega
      clear hj;go_wp2;go_ret;exact⟨_,rfl,by omega,hs9,hg9⟩
   ·rcases hown2.2 with⟨rfl,h0⟩|⟨gr,rc,cur,rfl,hb,hgg,hnc,hm,_⟩
    ·obtain rfl:=List.length_eq_zero_iff.1 h0;clear hown2 h0;go_wp2_with fail
     refine(l01Label_any g a n cap _ hs2).mono ?_;rintro e w3 ⟨x,rfl,hx,hs3,hg3⟩;have hg3':=grown_step hg2 hg3;have hsz3:=hg3'.size;have hone:=owns_one (w:=w3) (B:=w.heap.size) (e:=9) (.string x) hsz3;have hR:=Nm.SRow.of_owns (ls:=[x]) hone;have hsR:=src_below hs3 ((Below.refl _ _).alloc (Nat.le_refl _) (.cells #[.string x] 9 (0,0)));have hgR:=grown_alloc hg3' (.cells #[.string x] 9 (0,0));have hwx:Nm.wsum [x]<=400:=by simp [Nm.wsum];omega
     try simp only [List.length_cons,List.length_nil] at hR
     go_wp2_with (at_builtin;refine wpList_append_own_none rfl (.tmp 36) (.tmp 37) 46 rfl w.heap.size 9 i0 1 Tryz.underlying46 hi _ _ _ rfl hone rfl ?_)
     refine(l01Join_any _ [x] _ hR (by omega)).mono ?_;rintro e w9 ⟨rfl,hb9⟩;have hj:=mkj_size [x];have hs9:=src_below hsR hb9;have hg9:=grown_below hgR hb9;generalize ByteArray.mk (Nm.joinL [x]).toArray=J at*
     by_cases hJ:255<J.size
     ·have hJ':(255:Int)<(J.size:Int):=by omega
      clear hj;go_wp2;go_ret;exact⟨_,rfl,hz,hs9,hg9⟩
     ·have hJ':(J.size:Int)<=255:=by omega
      clear hj;go_wp2;go_ret;exact⟨_,rfl,by omega,hs9,hg9⟩
    ·unfold maxLen at hm;clear hgg;go_wp2_with fail
     refine(l01Label_any g a n cap _ hs2).mono ?_;rintro e w3 ⟨x,rfl,hx,hs3,hg3⟩;have hown3:=hown2.kept hg3 (row_src hown2 hs2 (by decide));have hg3':=grown_step hg2 hg3;have hsz3:=hg3'.size;have hr3:=Nm.SRow.of_owns (hown3.alloc (.cells #[.string x] 9 (0,0)));have hwx:Nm.wsum (x::ls)<=400:=by simp [Nm.wsum];omega
     clear hown2 hown3;go_wp2_with (at_builtin;refine wpList_append_own _ rfl (.tmp 36) (.tmp 37) 46 rfl w.heap.size 9 i0 (.string ByteArray.empty) 1 16 Tryz.underlying46 hi hz0 hz1 hz2 rfl (by decide) _ _ _ rfl (owns_one (.string x) hsz3) ⟨gr,0,none⟩ ls.length rc (ls.map Value.string) rfl (by simp) (srow_news hr3) (strs_oneCell _) (by unfold maxLen;omega) (by omega) (by simp;omega) ?_;intro v4 w4 hown4 hgrow4 hnl4;clear hnl4;have R:=put_stepD hglt hcode hs3 hg3' hown4 hgrow4;obtain⟨hR,hsR,hgR⟩:=R;clear hown4 hgrow4 hr3)
     refine(l01Join_any _ (x::ls) _ hR (by omega)).mono ?_;rintro e w9 ⟨rfl,hb9⟩;have hj:=mkj_size (x::ls);have hs9:=src_below hsR hb9;have hg9:=grown_below hgR hb9;generalize ByteArray.mk (Nm.joinL (x::ls)).toArray=J at*
     by_cases hJ:255<J.size
     ·have hJ':(255:Int)<(J.size:Int):=by omega
      clear hj;go_wp2;go_ret;exact⟨_,rfl,hz,hs9,hg9⟩
     ·have hJ':(J.size:Int)<=255:=by omega
      clear hj;go_wp2;go_ret;exact⟨_,rfl,by omega,hs9,hg9⟩
  ·rcases hown2.2 with⟨rfl,h0⟩|⟨gr,rc,cur,rfl,hb,hgg,hnc,hm,_⟩
   ·obtain rfl:=List.length_eq_zero_iff.1 h0;have hr:=Nm.SRow.of_owns (ls:=[]) hown2;clear hown2 h0;go_wp2_with fail
    refine(l01Join_any _ [] _ hr (by omega)).mono ?_;rintro e w9 ⟨rfl,hb9⟩;have hj:=mkj_size [];have hs9:=src_below hs2 hb9;have hg9:=grown_below hg2 hb9;generalize ByteArray.mk (Nm.joinL []).toArray=J at*
    by_cases hJ:255<J.size
    ·have hJ':(255:Int)<(J.size:Int):=by omega
     clear hj;go_wp2;go_ret;exact⟨_,rfl,hz,hs9,hg9⟩
    ·have hJ':(J.size:Int)<=255:=by omega
     clear hj;go_wp2;go_ret;exact⟨_,rfl,by omega,hs9,hg9⟩
   ·unfold maxLen at hm
    cases ls with
    |nil=>
     have hr:=Nm.SRow.of_owns (ls:=[]) hown2;simp only [List.length_nil] at hr;clear hown2 hgg;go_wp2_with fail
     refine(l01Join_any _ [] _ hr (by omega)).mono ?_;rintro e w9 ⟨rfl,hb9⟩;have hj:=mkj_size [];have hs9:=src_below hs2 hb9;have hg9:=grown_below hg2 hb9;generalize ByteArray.mk (Nm.joinL []).toArray=J at*
     by_cases hJ:255<J.size
     ·have hJ':(255:Int)<(J.size:Int):=by omega
      clear hj;go_wp2;go_ret;exact⟨_,rfl,hz,hs9,hg9⟩
     ·have hJ':(J.size:Int)<=255:=by omega
      clear hj;go_wp2;go_ret
      exact⟨_,rfl,by omega,hs9,hg9⟩
    |cons y t=>
     have hlp:(0:Int)<((y::t).length:Int):=by simp only [List.length_cons];omega
     have hlw:=Nm.length_le_wsum (y::t);have hwt:Nm.wsum (y::t)=1+y.size+Nm.wsum t:=by simp [Nm.wsum]
     generalize hm0:(y::t).length=m at*;clear hgg;go_wp2_with fail
     refine(l01Label_any g a n cap _ hs2).mono ?_;rintro e w3 ⟨x,rfl,hx,hs3,hg3⟩;have hown3:=hown2.kept hg3 (row_src hown2 hs2 (by decide));have hg3':=grown_step hg2 hg3;have hc3:w3.cell? ⟨gr,0,none⟩=some (.string y):=by rw [hown3.cellAt 0 (by omega)];rfl
     have hf3:=hown3.frozenAt 0;have R:=row_stored (k:=0) hglt hcode hown3 hs3 hg3' hb x;have h9:=R.1;rw [show m=(x::t).length from hm0.symm] at h9;have hR:=Nm.SRow.of_owns (ls:=x::t) h9;clear h9;have hwx:Nm.wsum (x::t)<=400:=by simp [Nm.wsum];omega
     have hsR:=R.2.1;have hgR:=R.2.2;rw [show(x::t).length=m from hm0] at hR;clear hown2 hown3 R hg3' hg3 hs3;go_wp2_with fail
     refine(l01Join_any _ (x::t) _ hR (by omega)).mono ?_;rintro e w9 ⟨rfl,hb9⟩;have hj:=mkj_size (x::t);have hs9:=src_below hsR hb9;have hg9:=grown_below hgR hb9;generalize ByteArray.mk (Nm.joinL (x::t)).toArray=J at*
     by_cases hJ:255<J.size
     ·have hJ':(255:Int)<(J.size:Int):=by omega
      clear hj;go_wp2;go_ret;exact⟨_,rfl,hz,hs9,hg9⟩
     ·have hJ':(J.size:Int)<=255:=by omega
      clear hj;go_wp2;go_ret;exact⟨_,rfl,by omega,hs9,hg9⟩
end Go.Proofs.YtfmolgdfjklmpaaGreat
