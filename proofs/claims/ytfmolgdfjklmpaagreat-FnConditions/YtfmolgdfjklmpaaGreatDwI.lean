import Derived.Test.YtfmolgdfjklmpaaGreatJBzL
import Derived.Test.YtfmolgdfjklmpaaGreatJDwF
import Derived.Test.YtfmolgdfjklmpaaGreatDwG
import Derived.Test.YtfmolgdfjklmpaaGreatDwH
import Derived.Test.YtfmolgdfjklmpaaGreatJCnI
import Derived.Test.YtfmolgdfjklmpaaGreatJSCheck
import Derived.Test.YtfmolgdfjklmpaaGreatJZtM
import Derived.BigQuiet
namespace Go.Proofs.YtfmolgdfjklmpaaGreat
open Go.RowKit
set_option linter.unusedVariables false
theorem ZB.morez{ps:List Zp}{N M:Nat}(h:ZB ps N)(hM:N<=M):ZB ps M:=⟨h.one,Nat.le_trans h.len hM,Nat.le_trans h.cnt hM⟩
def ZaP(w:World)(e:Ending)(w':World):Prop:=∃ (o name:ByteArray) (v:Value) (ps:List Zp),e=.returned (.tuple #[.agg #[.string o,v],.string name])∧o.size<=2000∧name.size<=2000∧ZL ps∧ZKp w' w.heap.size v ps∧Below w.heap.size w w'
set_option maxRecDepth 100000 in
set_option maxHeartbeats 3200000 in
theorem l06ZoneAsk_any(a:Option Addr)(n cap:Nat)(w:World)(h:CodeIn w a n)(hn:n<=1048576):
 Calls Tryz.prog 10 #[.slice a n cap] w (ZaP w):=by
 have kR:=blk_new w #[.string ByteArray.empty,.slice none 0 0] 25;have bR:=(Below.refl w.heap.size w).alloc (Nat.le_refl _) (.cells #[.string ByteArray.empty,.slice none 0 0] 25);go_enter Tryz.func10,Tryz.ntmps10;go_wp2_with fail
 refine(l01Begin_any a n cap _ (code_below h bR) hn).mono ?_;rintro e w1 ⟨st,rfl,b1⟩;have b01:=Nm.below_two bR b1;have hs1:=src_made (cap:=cap) (code_below h b01) hn st;have b1A:=b01.alloc b01.size (.cells #[.slice a n cap,.int .i64 0,.int .u64 st] 63 (0,0));have k1:=blk_alloc (blk_below kR b1) (.cells #[.slice a n cap,.int .i64 0,.int .u64 st] 63 (0,0));obtain⟨g,hg⟩:∃ g,g=w1.heap.size:=⟨_,rfl⟩;have hgw:w.heap.size<g:=by have:=b1.size;simp at this;omega
 rw [<- hg] at hs1;clear kR bR b1 b01 h;go_wp2_with fail
 rw [<- hg];clear hg;refine(l01Next_any g a n cap 12 _ hs1 (by decide)).mono ?_;rintro e w2 ⟨r,rfl,r0,r1,hs2,hg2⟩;have r2:=r1 (by decide);obtain⟨m,rfl⟩:=Int.eq_ofNat_of_zero_le r0;have b2:=b1A.grown hg2 b1A.size (fun k hk=>by simp at hk;omega);have k2:=blk_grown k1 hg2 (by intro e;simp at e;omega);clear hs1 hg2 b1A k1 r1 r0;go_wp2_with fail
 refine(l01Parts_any a n cap w2 hn).mono ?_;rintro e w3 ⟨k,rfl,hk,rfl⟩;obtain⟨M,HM⟩:∃ M:Nat,Hid (M=m+k):=⟨_,rfl⟩
 have hmk:IntKind.i64.wrap ((m:Int)+(k:Int))=(M:Int):=by
  have:=HM.out;rw [Go.wrap_small _ (by omega) (by omega)];omega
 have hM:M<=41:=by
  have:=HM.out;omega
 go_wp2_with fail
 refine(l06Zone_any g a n cap M w3 hs2 (by omega)).mono ?_;rintro e w4 ⟨o,v,ps,rfl,ho,⟨hB,hp,ho1⟩,hz,hs4,hg4⟩;obtain⟨va,vc,rfl⟩:=own_sl hz.outer;have D4:=(Dr.start hs2).step hs4 hg4;have hgl:=D4.lt;have hB2:ZB ps 126:=hB.morez (by omega);have DA:=D4.alloc (.cells #[.string o,.slice va ps.length vc] 25);have zA:=hz.below ((Below.refl _ _).alloc (Nat.le_refl _) (.cells #[.string o,.slice va ps.length vc] 25));have kz:=blk_new w4 #[.string o,.slice va ps.length vc] 25;have rz:=fun i=>blk_cell kz i
 have hgz:g<w4.heap.size:=by have:=D4.size;omega
 have HK:Hid (∀ W,Dr w3 g a n cap W->Blk W w.heap.size #[.string ByteArray.empty,.slice none 0 0] 25∧Below w.heap.size w W):=fun W hW=>⟨blk_grown k2 hW.gr (by intro e;simp at e;omega),b2.grown hW.gr b2.size (fun k hk=>by simp at hk;omega)⟩
 have HW:Hid (w.heap.size<w3.heap.size):=by show _<_;omega
 clear hmk r2 hk hB k2 b2 hs4 hg4 hz D4;go_wp2_with fail
 refine(l06Asked_any g a n cap o (.slice va ps.length vc) ps w3.heap.size _ DA.s zA hgl (hB2.morez (by decide)) hp ho ho1).mono ?_;rintro e w5 ⟨nm,rfl,hn1,hn2,hs5,hg5⟩;have D5:=DA.step hs5 hg5;have z5:=zA.dr hg5 hgl;have kz5:=blk_grown kz hg5 (by intro e;simp at e;omega);clear DA zA kz rz hs5 hg5;go_wp2_with fail
 refine(l01Next_any g a n cap 6 _ D5.s (by decide)).mono ?_;rintro e w6 ⟨q,rfl,q0,q1,hs6,hg6⟩;have D6:=D5.step hs6 hg6;have z6:=z5.dr hg6 hgl;have kz6:=blk_grown kz5 hg6 (by intro e;simp at e;omega);clear D5 z5 kz5 hs6 hg6 q1
 by_cases hq:q=0
 ·subst hq;have rz:=fun i=>blk_cell kz6 i
  go_wp2_with fail
  refine(l06Cuts_any o (.slice va ps.length vc) ps 126 w6 D6 z6 hB2 (by decide) ho).mono ?_;rintro e w7 ⟨o',nm',v',ps',rfl,ho',hnm',hzl,hkp,D7⟩;obtain⟨xa,xc,rfl⟩:∃ va vc,v'=.slice va (ps').length vc:=by obtain⟨⟨_,a,c,e,_⟩,_⟩:=(hkp).zrow;exact⟨a,c,e⟩
  obtain⟨k9,b9⟩:=HK.out _ D7;have hkE:=((hkp).far (g:=w.heap.size) (i:=0) (y:=.string o') HW.out).far (g:=w.heap.size) (i:=1) (y:=.slice xa (ps').length xc) HW.out;have kE:=blk_set (blk_set k9 0 (.string o')) 1 (.slice xa (ps').length xc);have bE:=(b9.setCell (p:=⟨w.heap.size,0,none⟩) (Nat.le_refl _) (.string o')).setCell (p:=⟨w.heap.size,1,none⟩) (Nat.le_refl _) (.slice xa (ps').length xc);have HE:=Nm.hide (And.intro (hkE.base (Nat.le_of_lt HW.out)) bE);have r9:=fun i=>blk_cell k9 i
  have f9:=fun i=>blk_frozen k9 i
  have rE:=fun i=>blk_cell kE i
  clear hkE bE b9 HK;go_wp2;refine bodyPost_ret (v:=.tuple #[.agg #[.string o',.slice xa (ps').length xc],.string nm']) ?_ rfl ?_
  rotate_left
  ·exact⟨_,_,_,_,rfl,ho',hnm',hzl,HE.out.1,HE.out.2⟩
  simp [results,Tryz.results10,go_sem,Result.andThen,rE]
 ·have nq:(q==0)=false:=by rw [beq_eq_false_iff_ne];exact hq
  clear hq;go_wp2_with fail
  refine(l01Next_any g a n cap 40 _ D6.s (by decide)).mono ?_;rintro e w7 ⟨q2,rfl,q20,q21,hs7,hg7⟩;have D7:=D6.step hs7 hg7;have z7:=z6.dr hg7 hgl;have kz7:=blk_grown kz6 hg7 (by intro e;simp at e;omega);clear D6 z6 kz6 hs7 hg7 q21
  by_cases hq2:q2=0
  ·subst hq2;go_wp2_with fail
   refine(l01Spoil_any g a n cap nm _ D7.s hn1 (by omega)).mono ?_;rintro e w8 ⟨s,rfl,hnm',hs8,hg8⟩;have D8:=D7.step hs8 hg8;have z8:=z7.dr hg8 hgl;have kz8:=blk_grown kz7 hg8 (by intro e;simp at e;omega);have rz:=fun i=>blk_cell kz8 i
   clear D7 z7 kz7 hs8 hg8;go_wp2_with fail
   refine(l06Bend_any o (.slice va ps.length vc) ps 126 w8 D8 z8 hB2 (by decide) hp ho).mono ?_;rintro e w9 ⟨o',v',ps',rfl,ho',hzl,hkp,D9⟩;clear rz D8 z8 kz8;obtain⟨xa,xc,rfl⟩:∃ va vc,v'=.slice va (ps').length vc:=by obtain⟨⟨_,a,c,e,_⟩,_⟩:=(hkp).zrow;exact⟨a,c,e⟩
   obtain⟨k9,b9⟩:=HK.out _ D9;have hkE:=((hkp).far (g:=w.heap.size) (i:=0) (y:=.string o') HW.out).far (g:=w.heap.size) (i:=1) (y:=.slice xa (ps').length xc) HW.out;have kE:=blk_set (blk_set k9 0 (.string o')) 1 (.slice xa (ps').length xc);have bE:=(b9.setCell (p:=⟨w.heap.size,0,none⟩) (Nat.le_refl _) (.string o')).setCell (p:=⟨w.heap.size,1,none⟩) (Nat.le_refl _) (.slice xa (ps').length xc);have HE:=Nm.hide (And.intro (hkE.base (Nat.le_of_lt HW.out)) bE);have r9:=fun i=>blk_cell k9 i
   have f9:=fun i=>blk_frozen k9 i
   have rE:=fun i=>blk_cell kE i
   clear hkE bE b9 HK;go_wp2;refine bodyPost_ret (v:=.tuple #[.agg #[.string o',.slice xa (ps').length xc],.string s]) ?_ rfl ?_
   rotate_left
   ·exact⟨_,_,_,_,rfl,ho',hnm',hzl,HE.out.1,HE.out.2⟩
   simp [results,Tryz.results10,go_sem,Result.andThen,rE]
  ·have nq2:(q2==0)=false:=by rw [beq_eq_false_iff_ne];exact hq2
   have hnm':nm.size<=2000:=by omega
   have rz:=fun i=>blk_cell kz7 i
   clear hq2;go_wp2_with fail
   refine(l06Bend_any o (.slice va ps.length vc) ps 126 w7 D7 z7 hB2 (by decide) hp ho).mono ?_;rintro e w9 ⟨o',v',ps',rfl,ho',hzl,hkp,D9⟩;clear rz D7 z7 kz7;obtain⟨xa,xc,rfl⟩:∃ va vc,v'=.slice va (ps').length vc:=by obtain⟨⟨_,a,c,e,_⟩,_⟩:=(hkp).zrow;exact⟨a,c,e⟩
   obtain⟨k9,b9⟩:=HK.out _ D9;have hkE:=((hkp).far (g:=w.heap.size) (i:=0) (y:=.string o') HW.out).far (g:=w.heap.size) (i:=1) (y:=.slice xa (ps').length xc) HW.out;have kE:=blk_set (blk_set k9 0 (.string o')) 1 (.slice xa (ps').length xc);have bE:=(b9.setCell (p:=⟨w.heap.size,0,none⟩) (Nat.le_refl _) (.string o')).setCell (p:=⟨w.heap.size,1,none⟩) (Nat.le_refl _) (.slice xa (ps').length xc);have HE:=Nm.hide (And.intro (hkE.base (Nat.le_of_lt HW.out)) bE);have r9:=fun i=>blk_cell k9 i
   have f9:=fun i=>blk_frozen k9 i
   have rE:=fun i=>blk_cell kE i
   clear hkE bE b9 HK;go_wp2;refine bodyPost_ret (v:=.tuple #[.agg #[.string o',.slice xa (ps').length xc],.string nm]) ?_ rfl ?_
   rotate_left
   ·exact⟨_,_,_,_,rfl,ho',hnm',hzl,HE.out.1,HE.out.2⟩
   simp [results,Tryz.results10,go_sem,Result.andThen,rE]
set_option maxRecDepth 100000 in
set_option maxHeartbeats 400000 in
theorem drawFindNode_any(a:Option Addr)(n cap:Nat)(w:World)(h:CodeIn w a n)(hn:n<=1048576):
 Calls Tryz.prog 4 #[.slice a n cap] w (DfP w):=by
 have kR:=blk_new w #[.string ByteArray.empty,.slice none 0 0] 25;have bR:=(Below.refl w.heap.size w).alloc (Nat.le_refl _) (.cells #[.string ByteArray.empty,.slice none 0 0] 25);have hza:=l06ZoneAsk_any a n cap _ (code_below h bR) hn;go_enter Tryz.func4,Tryz.ntmps4;go_wp2_with fail
 refine hza.mono ?_;rintro e w1 ⟨o,nm,v,ps,rfl,ho,hnm,hzl,hkp,b1⟩;obtain⟨va,vc,rfl⟩:∃ va vc,v=.slice va ps.length vc:=by obtain⟨⟨_,a,c,e,_⟩,_⟩:=hkp.zrow;exact⟨a,c,e⟩
 have k1:=blk_below kR b1;have b01:=Nm.below_two bR b1;rw [World.size_alloc] at hkp;have hkE:=(hkp.far (g:=w.heap.size) (i:=0) (y:=.string o) (by omega)).far (g:=w.heap.size) (i:=1) (y:=.slice va ps.length vc) (by omega);have kE:=blk_set (blk_set k1 0 (.string o)) 1 (.slice va ps.length vc);have bE:=(b01.setCell (p:=⟨w.heap.size,0,none⟩) (Nat.le_refl _) (.string o)).setCell (p:=⟨w.heap.size,1,none⟩) (Nat.le_refl _) (.slice va ps.length vc);have HE:=Nm.hide (And.intro hkE bE);have r1:=fun i=>blk_cell k1 i
 have f1:=fun i=>blk_frozen k1 i
 have rE:=fun i=>blk_cell kE i
 clear hza kR bR b1 b01 hkp hkE bE h;go_wp2;refine bodyPost_ret (v:=.tuple #[.agg #[.string o,.slice va ps.length vc],.string nm]) ?_ rfl ?_
 rotate_left
 ·exact⟨_,_,_,_,rfl,ho,hnm,hzl,HE.out.1.zrow,HE.out.2⟩
 simp [results,Tryz.results4,go_sem,Result.andThen,rE]
end Go.Proofs.YtfmolgdfjklmpaaGreat
