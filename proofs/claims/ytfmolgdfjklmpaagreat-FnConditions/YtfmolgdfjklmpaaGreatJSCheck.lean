import Derived.Test.YtfmolgdfjklmpaaGreatParts
import Derived.Test.YtfmolgdfjklmpaaGreatJCutM
import Derived.Test.YtfmolgdfjklmpaaGreatJZbH
import Derived.Test.YtfmolgdfjklmpaaGreatJTrN
import Derived.Test.YtfmolgdfjklmpaaGreatJMath
import Derived.Test.YtfmolgdfjklmpaaGreatJTrM
import Derived.Test.YtfmolgdfjklmpaaGreatJCmp2
import Derived.Test.YtfmolgdfjklmpaaGreatJZrM
import Derived.Test.YtfmolgdfjklmpaaGreatJSls
import Derived.Test.YtfmolgdfjklmpaaGreatJTrD
import Derived.Laws.AppendOwnNone
import Derived.RegionTactic
import Derived.BigRegion
import Derived.Laws.IdiomCopy
import Derived.Laws.CopyOwn
import Derived.Laws.OwnMore
namespace Go.Proofs.YtfmolgdfjklmpaaGreat
open Go.RowKit
theorem okForm_of{f:ByteArray}(h1:f.size<=100)(h2:f.data.toList.all (fun c=>c==110||c==98||c==116||c==115||c==99||c==109||c==42)=true):okForm f:=by
 refine⟨h1,?_⟩;intro k hk;have:=List.all_eq_true.1 h2 f[k] (List.mem_of_getElem? (Nm.get_data hk));simpa [or_assoc] using this
theorem form_ok(t:Int):okForm (Dt.formS t):=by
 unfold Dt.formS
 repeat' split
 all_goals exact okForm_of (by decide) (by decide)
theorem parts_some{t:Int}{d:ByteArray}:(Dt.parts (Dt.specP t) d).isSome=(Dt.spans (Dt.implP t) 0 d).isSome:=by
 rw [<- Dt.forms_agree,Dt.spans_of_parts];simp
set_option maxRecDepth 100000 in
set_option maxHeartbeats 400000 in
theorem specCheckData_any(t:Int)(d:ByteArray)(w:World):
 Calls Tryz.prog 60 #[.int .i64 t,.string d] w fun e w'=>e=.returned (.int .i64 (cutCode t d))∧Below w.heap.size w w':=by
 by_cases ht:t<0∨65535<t
 ·have HC:=Nm.hide (code_type (d:=d) ht)
  by_cases ht0:t<0
  ·clear ht;go_enter Tryz.func60,Tryz.ntmps60;go_wp2;go_ret;rw [HC.out.1];exact⟨rfl,Below.refl _ _⟩
  ·have ht1:65535<t:=by omega
   have ht2:0<=t:=by omega
   clear ht;go_enter Tryz.func60,Tryz.ntmps60;go_wp2;go_ret;rw [HC.out.1];exact⟨rfl,Below.refl _ _⟩
 have ht0:0<=t:=by omega
 have ht1:t<=65535:=by omega
 by_cases hl:65535<d.size
 ·have HC:=Nm.hide (code_long ht hl);have hl':(65535:Int)<(d.size:Int):=by omega
  clear ht;go_enter Tryz.func60,Tryz.ntmps60;go_wp2;go_ret;rw [HC.out.1];exact⟨rfl,Below.refl _ _⟩
 have hl':(d.size:Int)<=65535:=by omega
 have hcall:=fun w=>l02Parts_any (Dt.formS t) d w (form_ok t) (by omega)
 have hform:=l02Form_any t;have hps:=parts_some (t:=t) (d:=d);rw [Dt.specP] at hps;rw [hps] at hcall;generalize Dt.formS t=f at*
 cases hq:Dt.spans (Dt.implP t) 0 d with
 |none=>
  have HC:=Nm.hide (code_none ht hl hq);rw [hq] at hcall;clear ht hl hq hps;go_enter Tryz.func60,Tryz.ntmps60;go_wp2_with (first|(go_at_call 62;refine(hform _).mono ?_;rintro e w1 ⟨rfl,hw⟩;obtain rfl:w=w1:=hw.symm;clear hw)|(go_at_call 63;refine(hcall _).mono ?_;rintro e w2 ⟨v,rfl,_,hbel⟩))
  go_ret;rw [HC.out.1]
  exact⟨rfl,hbel⟩
 |some sp=>
  have HC:=Nm.hide (code_some ht hl hq);rw [hq] at hcall;clear ht hl hq hps;go_enter Tryz.func60,Tryz.ntmps60;go_wp2_with (first|(go_at_call 62;refine(hform _).mono ?_;rintro e w1 ⟨rfl,hw⟩;obtain rfl:w=w1:=hw.symm;clear hw)|(go_at_call 63;refine(hcall _).mono ?_;rintro e w2 ⟨v,rfl,_,hbel⟩))
  go_ret;rw [HC.out.1];exact⟨rfl,hbel⟩
end Go.Proofs.YtfmolgdfjklmpaaGreat
namespace Go.Proofs.YtfmolgdfjklmpaaGreat
open Go.RowKit
set_option linter.unusedVariables false
def befI(a b:It):Bool:=if a.fo=b.fo then(if a.r.ty=b.r.ty then Op.bytesLess a.dt.toList b.dt.toList else decide (a.r.ty<b.r.ty)) else decide (Nm.cmpS a.fo b.fo<0)
set_option maxRecDepth 100000 in
set_option maxHeartbeats 1600000 in
theorem l06Before_any(a b:It)(w:World)(ha:a.fo.size<=maxLen)(hb:b.fo.size<=maxLen):
 Calls Tryz.prog 66 #[.agg (itC a).toArray,.agg (itC b).toArray] w fun e w'=>e=.returned (.bool (befI a b))∧Below w.heap.size w w':=by
 have hB:=((Below.refl w.heap.size w).alloc (Nat.le_refl _) (.cells (itC a).toArray 78)).alloc (by simp) (.cells (itC b).toArray 78);have hcm:=fun W=>specCompareNames_any a.fo b.fo W ha hb
 have e0:=ba_eq a.fo b.fo;obtain⟨Q,hQ⟩:∃ Q,Q=befI a b:=⟨_,rfl⟩;rw [<- hQ];unfold befI at hQ;obtain⟨⟨o,ty,cl,tt,da⟩,f1,d1,ou⟩:=a;obtain⟨⟨o2,ty2,cl2,tt2,da2⟩,f2,d2,ou2⟩:=b;simp only [itC] at*
 by_cases hf:f1=f2
 ·subst hf;rw [if_pos rfl] at hQ;have nf:(f1.toList != f1.toList)=false:=by simp
  clear e0 hcm
  by_cases ht:ty=ty2
  ·subst ht;rw [if_pos rfl] at hQ;have nt:(ty != ty)=false:=by simp
   subst hQ;go_enter Tryz.func66,Tryz.ntmps66;go_wp2;go_ret;exact⟨rfl,hB⟩
  ·rw [if_neg ht] at hQ;subst hQ;have nt:(ty != ty2)=true:=by rw [bne_iff_ne];exact ht
   go_enter Tryz.func66,Tryz.ntmps66;go_wp2;go_ret;exact⟨rfl,hB⟩
 ·rw [if_neg hf] at hQ;subst hQ;rw [decide_eq_false hf] at e0;have nf:(f1.toList != f2.toList)=true:=by rw [bne,e0];rfl
  have e9:¬f1.toList=f2.toList:=by simpa using e0
  generalize Nm.cmpS f1 f2=CC at*;go_enter Tryz.func66,Tryz.ntmps66;go_wp2_with fail
  refine(hcm _).mono ?_;rintro e w1 ⟨rfl,b1⟩;go_wp2;go_ret;exact⟨rfl,Nm.below_two hB b1⟩
end Go.Proofs.YtfmolgdfjklmpaaGreat
namespace Go.Proofs.YtfmolgdfjklmpaaGreat
open Go.RowKit
theorem under_short{xs ys:List ByteArray}(h:xs.length<ys.length):underB xs ys=false:=by
 rw [underB,decide_eq_false (by omega)];rfl
theorem under_long{xs ys:List ByteArray}(h:ys.length<=xs.length):underB xs ys=decide (Nm.cmpLs (xs.drop (xs.length-ys.length)) ys=0):=by
 rw [underB,decide_eq_true h];rfl
set_option maxRecDepth 100000 in
set_option maxHeartbeats 800000 in
theorem under_any(v u:Value)(xs ys:List ByteArray)(w:World)(h:Nm.SRow w v xs)(h':Nm.SRow w u ys)(hxs:∀ x∈xs,x.size<=1000000000)(hlx:xs.length<=1000000000)(hly:ys.length<=1000000000):
 Calls Tryz.prog 87 #[v,u] w fun e w'=>e=.returned (.bool (underB xs ys))∧∃ m,w'=w.drewN m:=by
 have hrow:=h;obtain⟨a,cap,rfl,hcap,hmx,hnl,hc⟩:=h;have hu:=h';obtain⟨a',cap',rfl,hcap',hmx',hnl',hc'⟩:=h';clear hc hc' hnl hnl'
 by_cases hl:xs.length<ys.length
 ·have HA:=Nm.hide (under_short hl);have hd:decide ((0:Int)<=(xs.length:Int)-(ys.length:Int))=false:=by simp;omega
  have hd':(xs.length:Int)-(ys.length:Int)<0:=by omega
  clear hrow hu;go_enter Tryz.func87,Tryz.ntmps87;go_wp2;go_ret;rw [HA.out];exact⟨rfl,0,rfl⟩
 ·have HA:=Nm.hide (under_long (xs:=xs) (ys:=ys) (by omega));obtain⟨d,hd⟩:∃ d,d=xs.length-ys.length:=⟨_,rfl⟩;rw [<- hd] at HA;have hq:(xs.length:Int)-(ys.length:Int)=(d:Int):=by omega
  have hdl:d<=xs.length:=by omega
  have hg:decide ((0:Int)<=(d:Int))=true:=by simp
  have hcmp:=fun V hr=>compare_any V (.slice a' ys.length cap') (xs.drop d) ys w hr hu (fun x hx=>hxs x (List.mem_of_mem_drop hx)) (by rw [List.length_drop];omega) hly
  have hd1:=fun e:cap=d=>hrow.drop_all e
  have hd2:=hrow.drop (k:=d) hdl;generalize Nm.cmpLs (xs.drop d) ys=o at*;have HD:Hid ((o==0)=decide (o=0)):=by show _=_;rw [Bool.eq_iff_iff];simp
  clear hd hl hxs hrow hu
  by_cases hck:cap=d
  ·have Hc:=hcmp _ (hd1 hck);clear hcmp hd1 hd2;subst hck;rw [show xs.length-cap=0 by omega] at Hc;go_enter Tryz.func87,Tryz.ntmps87;go_wp2_with fail
   refine Hc.mono ?_;rintro e w1 ⟨rfl,m,rfl⟩;go_wp2;go_ret;rw [HA.out,<- HD.out];exact⟨rfl,_,rfl⟩
  ·have Hc:=hcmp _ hd2;clear hcmp hd1 hd2;go_enter Tryz.func87,Tryz.ntmps87;go_wp2_with fail
   refine Hc.mono ?_;rintro e w1 ⟨rfl,m,rfl⟩;go_wp2;go_ret;rw [HA.out,<- HD.out];exact⟨rfl,_,rfl⟩
end Go.Proofs.YtfmolgdfjklmpaaGreat
namespace Go.Proofs.YtfmolgdfjklmpaaGreat
open Go.RowKit
set_option maxRecDepth 100000 in
set_option maxHeartbeats 800000 in
theorem specSameName_any(a b:ByteArray)(w:World)(ha:a.size<=maxLen)(hb:b.size<=maxLen):
 Calls Tryz.prog 15 #[.string a,.string b] w fun e w'=>e=.returned (.bool (sameS a b))∧Below w.heap.size w w':=by
 have hsa:=specFoldName_any a w ha;have hsb:=fun W=>specFoldName_any b W hb
 cases hqa:Nm.split a with
 |none=>
  have HA:=Nm.hide (same_left (b:=b) hqa);rw [Nm.foldS_none hqa] at hsa;have he:(ByteArray.empty).toList.isEmpty=true:=Nm.tl_empty rfl;clear hqa;go_enter Tryz.func15,Tryz.ntmps15;go_wp2_with fail
  refine hsa.mono ?_;rintro e w1 ⟨rfl,hbel⟩;go_wp2;go_ret;rw [HA.out]
  exact⟨rfl,hbel⟩
 |some xs=>
  rw [Nm.foldS_some hqa] at hsa;have he:=small_pos hqa
  cases hqb:Nm.split b with
  |none=>
   have HA:=Nm.hide (same_right (a:=a) hqb);rw [Nm.foldS_none hqb] at hsb
   have hne:((Nm.small a).toList==(ByteArray.empty).toList)=false:=by
    rw [beq_eq_false_iff_ne];intro e;rw [e] at he;rw [Nm.tl_empty rfl] at he;simp at he
   clear hqa hqb;generalize Nm.small a=x at*;go_enter Tryz.func15,Tryz.ntmps15;go_wp2_with fail
   refine hsa.mono ?_;rintro e w1 ⟨rfl,hbel⟩;go_wp2_with fail
   refine(hsb _).mono ?_;rintro e w2 ⟨rfl,hbel2⟩;go_wp2;go_ret;rw [HA.out]
   exact⟨rfl,Nm.below_two hbel hbel2⟩
  |some ys=>
   have HA:=Nm.hide (same_some hqa hqb);have HE:=Nm.hide (small_eq a b);rw [Nm.foldS_some hqb] at hsb;clear hqa hqb;generalize Nm.small a=x at*;generalize Nm.small b=y at*;go_enter Tryz.func15,Tryz.ntmps15;go_wp2_with fail
   refine hsa.mono ?_;rintro e w1 ⟨rfl,hbel⟩;go_wp2_with fail
   refine(hsb _).mono ?_;rintro e w2 ⟨rfl,hbel2⟩;go_wp2;go_ret;rw [HA.out,<- HE.out];exact⟨rfl,Nm.below_two hbel hbel2⟩
end Go.Proofs.YtfmolgdfjklmpaaGreat
namespace Go.Proofs.YtfmolgdfjklmpaaGreat
open Go.RowKit
set_option maxRecDepth 100000 in
set_option maxHeartbeats 800000 in
theorem specIsUnder_any(a b:ByteArray)(w:World)(ha:a.size<=maxLen)(hb:b.size<=maxLen):
 Calls Tryz.prog 6 #[.string a,.string b] w fun e w'=>e=.returned (.bool (isUnderS a b))∧Below w.heap.size w w':=by
 have hsa:=l01Split_any a w ha;have hsb:=fun W=>l01Split_any b W hb
 cases hqa:Nm.split a with
 |none=>
  have HA:=Nm.hide (isUnder_left (b:=b) hqa);rw [hqa] at hsa;clear hqa;go_enter Tryz.func6,Tryz.ntmps6;go_wp2_with fail
  refine hsa.mono ?_;rintro e w1 ⟨v,rfl,hown,hbel⟩;go_wp2_with fail
  refine(hsb _).mono ?_;rintro e w2 ⟨v2,rfl,hown2,hbel2⟩;go_wp2;go_ret;rw [HA.out]
  exact⟨rfl,Nm.below_two hbel hbel2⟩
 |some xs=>
  rw [hqa] at hsa
  cases hqb:Nm.split b with
  |none=>
   have HA:=Nm.hide (isUnder_right (a:=a) hqb);rw [hqb] at hsb;clear hqa hqb;go_enter Tryz.func6,Tryz.ntmps6;go_wp2_with fail
   refine hsa.mono ?_;rintro e w1 ⟨v,rfl,hown,hbel⟩;go_wp2_with fail
   refine(hsb _).mono ?_;rintro e w2 ⟨v2,rfl,hown2,hbel2⟩;go_wp2;go_ret;rw [HA.out]
   exact⟨rfl,Nm.below_two hbel hbel2⟩
  |some ys=>
   have HA:=Nm.hide (isUnder_some hqa hqb);have hund:=under_same hqa hqb;have hza:=Nm.split_size hqa;have hzb:=Nm.split_size hqb;have hla:=Nm.length_le_wsum xs;have hlb:=Nm.length_le_wsum ys;rw [hqb] at hsb;clear hqa hqb;go_enter Tryz.func6,Tryz.ntmps6;go_wp2_with fail
   refine hsa.mono ?_;rintro e w1 ⟨v,rfl,hown,hbel⟩;go_wp2_with fail
   refine(hsb _).mono ?_;rintro e w2 ⟨v2,rfl,hown2,hbel2⟩;have r1:=(Nm.SRow.of_owns hown).below hbel2;have r2:=Nm.SRow.of_owns hown2;simp only [Option.getD_some] at r1 r2;have hbw:=Nm.below_two hbel hbel2;obtain⟨a1,cap1,rfl,hcap1,hmx1,hnl1,hc1⟩:=r1;obtain⟨a2,cap2,rfl,hcap2,hmx2,hnl2,hc2⟩:=r2;have hrow:Nm.SRow w2 (.slice a1 xs.length cap1) xs:=⟨a1,cap1,rfl,hcap1,hmx1,hnl1,hc1⟩;clear hown hown2 hsa hsb hnl1 hnl2 hbel hbel2 hc1 hc2
   by_cases hl:xs.length<ys.length
   ·have HU:=Nm.hide (under_short hl);have hd:decide (xs.length<ys.length)=true:=by simpa using hl
    clear hrow;go_wp2;go_ret;rw [HA.out,HU.out];exact⟨rfl,hbw⟩
   ·have HU:=Nm.hide (hund (by omega))
    have hss:=fun W=>specSameName_any ⟨(Nm.joinL (xs.drop (xs.length-ys.length))).toArray⟩ b W (by
     show(Nm.joinL (xs.drop (xs.length-ys.length))).toArray.size<=maxLen
     rw [List.size_toArray,Nm.joinL_length];have:=Nm.wsum_drop_le xs (xs.length-ys.length);unfold maxLen
     omega) hb
    obtain⟨d,hd⟩:∃ d,d=xs.length-ys.length:=⟨_,rfl⟩;rw [<- hd] at HU hss;have hq:(xs.length:Int)-(ys.length:Int)=(d:Int):=by omega
    have hdl:d<=xs.length:=by omega
    have hyx:ys.length<=xs.length:=by omega
    have hwd:=Nm.wsum_drop_le xs d;have hjn:=fun V hr=>l01Join_any V (xs.drop d) w2 hr (by omega)
    have hd1:=fun e:cap1=d=>hrow.drop_all e
    have hd2:=hrow.drop (k:=d) hdl;have hdd:decide (xs.length<ys.length)=false:=by simp;omega
    generalize ByteArray.mk (Nm.joinL (xs.drop d)).toArray=J at*;clear hd hl hrow hund
    by_cases hck:cap1=d
    ·have Hc:=hjn _ (hd1 hck);clear hjn hd1 hd2;subst hck;rw [show xs.length-cap1=0 by omega] at Hc;go_wp2_with fail
     refine Hc.mono ?_;rintro e w3 ⟨rfl,hbel3⟩;go_wp2_with fail
     refine(hss _).mono ?_;rintro e w4 ⟨rfl,hbel4⟩;go_wp2;go_ret;rw [HA.out,<- HU.out];exact⟨rfl,Nm.below_two hbw (Nm.below_two hbel3 hbel4)⟩
    ·have Hc:=hjn _ hd2;clear hjn hd1 hd2;go_wp2_with fail
     refine Hc.mono ?_;rintro e w3 ⟨rfl,hbel3⟩;go_wp2_with fail
     refine(hss _).mono ?_;rintro e w4 ⟨rfl,hbel4⟩;go_wp2;go_ret;rw [HA.out,<- HU.out];exact⟨rfl,Nm.below_two hbw (Nm.below_two hbel3 hbel4)⟩
end Go.Proofs.YtfmolgdfjklmpaaGreat
namespace Go.Proofs.YtfmolgdfjklmpaaGreat
open Go.RowKit Go.Shelf
set_option linter.unusedVariables false
attribute [local go_sem] Oper.semAt_some
def RwsS{α:Type}(kf vf:α->ByteArray)(n₀:Nat)(W:World)(sv:Value)(zs:List α):Prop:=
 (sv=.slice none 0 0∧zs=[])∨∃ b off cap,sv=.slice (some ⟨b,off,none⟩) zs.length cap∧b<n₀∧(zs.length<=cap∧cap<=maxLen)∧
  ∀ (i:Nat) (x:α),zs[i]? =some x->W.cell? ⟨b,off+i*2,none⟩=some (Value.string (kf x))∧W.cell? ⟨b,off+i*2+1,none⟩=some (Value.string (vf x))
theorem RwsS.below{α:Type}{kf vf:α->ByteArray}{n₀:Nat}{W W':World}{sv:Value}{zs:List α}(h:RwsS kf vf n₀ W sv zs)(hB:Below n₀ W W'):RwsS kf vf n₀ W' sv zs:=by
 rcases h with h|⟨b,off,cap,e,hb,hcp,hc⟩
 ·exact .inl h
 ·exact .inr ⟨b,off,cap,e,hb,hcp,fun i x hx=>⟨(hB.cell (p:=⟨b,off+i*2,none⟩) hb).trans (hc i x hx).1,(hB.cell (p:=⟨b,off+i*2+1,none⟩) hb).trans (hc i x hx).2⟩⟩
theorem rwsS_own{α:Type}(kf vf:α->ByteArray){w:World}{B e:Nat}{v:Value}(zs:List α)(h:w.ownsRow B e 2 v zs.length (rowCs (zs.map fun x=>((Value.string (kf x)),(Value.string (vf x)))))):RwsS kf vf w.heap.size w v zs:=by
 have h':=h
 rcases h.2 with⟨rfl,h0⟩|⟨q,cap,cur,rfl,hb,hh,hc1,hc2,hcs,ht⟩
 ·exact .inl ⟨rfl,List.length_eq_zero_iff.1 h0⟩
 ·refine .inr ⟨q,0,cap,rfl,(Array.getElem?_eq_some_iff.1 hh).1,⟨hc1,hc2⟩,fun i x hx=>?_⟩;have hi:=(List.getElem?_eq_some_iff.1 hx).1;have hm:(zs.map fun x=>((Value.string (kf x)),(Value.string (vf x))))[i]? =some ((Value.string (kf x)),(Value.string (vf x))):=by simp [hx]
  have a0:=rowCs_at _ i 0 _ hm (by decide);have a1:=rowCs_at _ i 1 _ hm (by decide);have c0:=h'.cellAt (i*2) (by omega);have c1:=h'.cellAt (i*2+1) (by omega);exact⟨by rw [Nat.zero_add,c0];exact a0,by rw [Nat.zero_add,c1];exact a1⟩
set_option maxRecDepth 100000 in
set_option maxHeartbeats 2000000 in
theorem all1nS_in{α:Type}(F:Fence)(n:Nat)(h7:F.fn 185)(hro:F.round=none)(l tb g:Nat)(J:List α->World->Prop)(W:World)
 (kb:W.cell? ⟨tb,0,none⟩=some (.pointer (some ⟨g,0,none⟩))) (kg:W.cell? ⟨g,1,none⟩=some (.slice none 0 0)) (h0:J [] W):
 CallsIn F n Tryz.prog 185 #[.func (.yield l) #[] #[],.pointer (some ⟨tb,0,none⟩)] W fun e W'=>(∃ v,e=.returned v)∧J [] W':=by
 refine callsIn_of_wp Tryz.func185 rfl h7 ?_ hro;simp only [Tryz.ntmps185,List.size_toArray,List.length_cons,List.length_nil,Nat.reduceAdd,Nat.reduceSub,Array.replicate_succ,Array.replicate_zero,List.push_toArray,List.append_toArray,List.nil_append,List.cons_append]
 gi_wp2
 gi_loopw [10] (fun i wr=>i=.int .i64 0∧J [] wr) (fun _ _=>0)
 case atStart=>exact⟨rfl,h0⟩
 case round=>
  obtain⟨rfl,hJs⟩:=hrel
  gi_wp2
  go_end0
  exact⟨⟨_,rfl⟩,hJs⟩
set_option maxRecDepth 100000 in
set_option maxHeartbeats 2000000 in
theorem allS_in(F:Fence)(n:Nat)(h6:F.fn 157)(hro:F.round=none)(p:Option Addr)(w:World):
 CallsIn F n Tryz.prog 157 #[.pointer p] w fun e w'=>e=.returned (.func (.func 185) #[] #[.pointer (some ⟨w.heap.size,0,none⟩)])∧w'=w.alloc (.cells #[.pointer p] 162):=by
 refine callsIn_of_wp Tryz.func157 rfl h6 ?_ hro;simp only [Tryz.ntmps157,List.size_toArray,List.length_cons,List.length_nil,Nat.reduceAdd,Nat.reduceSub,Array.replicate_succ,Array.replicate_zero,List.push_toArray,List.append_toArray,List.nil_append,List.cons_append]
 gi_wp2
 go_ret;exact⟨rfl,rfl⟩
theorem allStopsS{α:Type}(kf vf:α->ByteArray)(F:Fence)(n:Nat)(h7:F.fn 185)(hro:F.round=none)(hn:1<=n)(tb g n₀:Nat)(sv:Value)(zs:List α)(hl:zs.length<=1000000)(w:World)(htb:tb<w.heap.size)(hg:g<n₀)(hn₀:n₀<=w.heap.size)
 (kb:w.cell? ⟨tb,0,none⟩=some (.pointer (some ⟨g,0,none⟩))) (kg:w.cell? ⟨g,1,none⟩=some sv) (hR:RwsS kf vf n₀ w sv zs):
 SeqStopsK F n Tryz.prog 185 #[.pointer (some ⟨tb,0,none⟩)] (fun x:α=>#[(Value.string (kf x)),(Value.string (vf x))]) (Below n₀) (fun ys=>ys=zs) (fun pre=>pre<+:zs) zs.length w:=fun l J Jx W hW hJ _ hY h0=>by
 have kb':=(hW.cell (p:=⟨tb,0,none⟩) htb).trans kb;have kg':=(hW.cell (p:=⟨g,1,none⟩) (Nat.lt_of_lt_of_le hg hn₀)).trans kg
 rcases hR.below (hW.mono hn₀) with⟨rfl,rfl⟩|⟨b,off,cap,rfl,hb,hcp,hcs⟩
 ·exact(all1nS_in F n h7 hro l tb g J W kb' kg' h0).mono fun e W' ⟨he,hj⟩=>⟨he,.inl ⟨_,rfl,hj⟩⟩
 ·exact all1S_in kf vf F n h7 hro hn l tb g n₀ b off cap (.pointer none) zs hl hcp hb J Jx (fun s W1 W2 hs hgr=>hJ s W1 W2 none hs hgr (fun r e=>by cases e)) hY W kb' kg' hcs (Nat.le_trans hn₀ hW.size) h0
end Go.Proofs.YtfmolgdfjklmpaaGreat
namespace Go.Proofs.YtfmolgdfjklmpaaGreat
open Go.RowKit Go.Shelf
set_option linter.unusedVariables false
attribute [local go_sem] Oper.semAt_some
def RwsL{α:Type}(ka:α->Option Addr)(kn kc:α->Nat)(vf:α->Addr)(n₀:Nat)(W:World)(sv:Value)(zs:List α):Prop:=
 (sv=.slice none 0 0∧zs=[])∨∃ b off cap,sv=.slice (some ⟨b,off,none⟩) zs.length cap∧b<n₀∧(zs.length<=cap∧cap<=maxLen)∧
  ∀ (i:Nat) (x:α),zs[i]? =some x->W.cell? ⟨b,off+i*2,none⟩=some (Value.slice (ka x) (kn x) (kc x))∧W.cell? ⟨b,off+i*2+1,none⟩=some (Value.pointer (some (vf x)))
theorem RwsL.below{α:Type}{ka:α->Option Addr}{kn kc:α->Nat}{vf:α->Addr}{n₀:Nat}{W W':World}{sv:Value}{zs:List α}(h:RwsL ka kn kc vf n₀ W sv zs)(hB:Below n₀ W W'):RwsL ka kn kc vf n₀ W' sv zs:=by
 rcases h with h|⟨b,off,cap,e,hb,hcp,hc⟩
 ·exact .inl h
 ·exact .inr ⟨b,off,cap,e,hb,hcp,fun i x hx=>⟨(hB.cell (p:=⟨b,off+i*2,none⟩) hb).trans (hc i x hx).1,(hB.cell (p:=⟨b,off+i*2+1,none⟩) hb).trans (hc i x hx).2⟩⟩
theorem rwsL_own{α:Type}(ka:α->Option Addr)(kn kc:α->Nat)(vf:α->Addr){w:World}{B e:Nat}{v:Value}(zs:List α)(h:w.ownsRow B e 2 v zs.length (rowCs (zs.map fun x=>((Value.slice (ka x) (kn x) (kc x)),(Value.pointer (some (vf x))))))):RwsL ka kn kc vf w.heap.size w v zs:=by
 have h':=h
 rcases h.2 with⟨rfl,h0⟩|⟨q,cap,cur,rfl,hb,hh,hc1,hc2,hcs,ht⟩
 ·exact .inl ⟨rfl,List.length_eq_zero_iff.1 h0⟩
 ·refine .inr ⟨q,0,cap,rfl,(Array.getElem?_eq_some_iff.1 hh).1,⟨hc1,hc2⟩,fun i x hx=>?_⟩;have hi:=(List.getElem?_eq_some_iff.1 hx).1;have hm:(zs.map fun x=>((Value.slice (ka x) (kn x) (kc x)),(Value.pointer (some (vf x)))))[i]? =some ((Value.slice (ka x) (kn x) (kc x)),(Value.pointer (some (vf x)))):=by simp [hx]
  have a0:=rowCs_at _ i 0 _ hm (by decide);have a1:=rowCs_at _ i 1 _ hm (by decide);have c0:=h'.cellAt (i*2) (by omega);have c1:=h'.cellAt (i*2+1) (by omega);exact⟨by rw [Nat.zero_add,c0];exact a0,by rw [Nat.zero_add,c1];exact a1⟩
set_option maxRecDepth 100000 in
set_option maxHeartbeats 2000000 in
theorem all1nL_in{α:Type}(F:Fence)(n:Nat)(h7:F.fn 123)(hro:F.round=none)(l tb g:Nat)(J:List α->World->Prop)(W:World)
 (kb:W.cell? ⟨tb,0,none⟩=some (.pointer (some ⟨g,0,none⟩))) (kg:W.cell? ⟨g,1,none⟩=some (.slice none 0 0)) (h0:J [] W):
 CallsIn F n Tryz.prog 123 #[.func (.yield l) #[] #[],.pointer (some ⟨tb,0,none⟩)] W fun e W'=>(∃ v,e=.returned v)∧J [] W':=by
 refine callsIn_of_wp Tryz.func123 rfl h7 ?_ hro;simp only [Tryz.ntmps123,List.size_toArray,List.length_cons,List.length_nil,Nat.reduceAdd,Nat.reduceSub,Array.replicate_succ,Array.replicate_zero,List.push_toArray,List.append_toArray,List.nil_append,List.cons_append]
 gi_wp2
 gi_loopw [10] (fun i wr=>i=.int .i64 0∧J [] wr) (fun _ _=>0)
 case atStart=>exact⟨rfl,h0⟩
 case round=>
  obtain⟨rfl,hJs⟩:=hrel
  gi_wp2
  go_end0
  exact⟨⟨_,rfl⟩,hJs⟩
set_option maxRecDepth 100000 in
set_option maxHeartbeats 2000000 in
theorem allL_in(F:Fence)(n:Nat)(h6:F.fn 79)(hro:F.round=none)(p:Option Addr)(w:World):
 CallsIn F n Tryz.prog 79 #[.pointer p] w fun e w'=>e=.returned (.func (.func 123) #[] #[.pointer (some ⟨w.heap.size,0,none⟩)])∧w'=w.alloc (.cells #[.pointer p] 86):=by
 refine callsIn_of_wp Tryz.func79 rfl h6 ?_ hro;simp only [Tryz.ntmps79,List.size_toArray,List.length_cons,List.length_nil,Nat.reduceAdd,Nat.reduceSub,Array.replicate_succ,Array.replicate_zero,List.push_toArray,List.append_toArray,List.nil_append,List.cons_append]
 gi_wp2
 go_ret;exact⟨rfl,rfl⟩
theorem allStopsL{α:Type}(ka:α->Option Addr)(kn kc:α->Nat)(vf:α->Addr)(F:Fence)(n:Nat)(h7:F.fn 123)(hro:F.round=none)(hn:1<=n)(tb g n₀:Nat)(sv:Value)(zs:List α)(hl:zs.length<=1000000)(w:World)(htb:tb<w.heap.size)(hg:g<n₀)(hn₀:n₀<=w.heap.size)
 (kb:w.cell? ⟨tb,0,none⟩=some (.pointer (some ⟨g,0,none⟩))) (kg:w.cell? ⟨g,1,none⟩=some sv) (hR:RwsL ka kn kc vf n₀ w sv zs):
 SeqStopsK F n Tryz.prog 123 #[.pointer (some ⟨tb,0,none⟩)] (fun x:α=>#[(Value.slice (ka x) (kn x) (kc x)),(Value.pointer (some (vf x)))]) (Below n₀) (fun ys=>ys=zs) (fun pre=>pre<+:zs) zs.length w:=fun l J Jx W hW hJ _ hY h0=>by
 have kb':=(hW.cell (p:=⟨tb,0,none⟩) htb).trans kb;have kg':=(hW.cell (p:=⟨g,1,none⟩) (Nat.lt_of_lt_of_le hg hn₀)).trans kg
 rcases hR.below (hW.mono hn₀) with⟨rfl,rfl⟩|⟨b,off,cap,rfl,hb,hcp,hcs⟩
 ·exact(all1nL_in F n h7 hro l tb g J W kb' kg' h0).mono fun e W' ⟨he,hj⟩=>⟨he,.inl ⟨_,rfl,hj⟩⟩
 ·exact all1L_in ka kn kc vf F n h7 hro hn l tb g n₀ b off cap (.pointer none) zs hl hcp hb J Jx (fun s W1 W2 hs hgr=>hJ s W1 W2 none hs hgr (fun r e=>by cases e)) hY W kb' kg' hcs (Nat.le_trans hn₀ hW.size) h0
end Go.Proofs.YtfmolgdfjklmpaaGreat
namespace Go.Proofs.YtfmolgdfjklmpaaGreat
open Go.RowKit Go.Shelf
set_option linter.unusedVariables false
attribute [local go_sem] Oper.semAt_some
def RwsI{α:Type}(kf:α->Int)(vf:α->Addr)(n₀:Nat)(W:World)(sv:Value)(zs:List α):Prop:=
 (sv=.slice none 0 0∧zs=[])∨∃ b off cap,sv=.slice (some ⟨b,off,none⟩) zs.length cap∧b<n₀∧(zs.length<=cap∧cap<=maxLen)∧
  ∀ (i:Nat) (x:α),zs[i]? =some x->W.cell? ⟨b,off+i*2,none⟩=some (Value.int .i64 (kf x))∧W.cell? ⟨b,off+i*2+1,none⟩=some (Value.pointer (some (vf x)))
theorem RwsI.below{α:Type}{kf:α->Int}{vf:α->Addr}{n₀:Nat}{W W':World}{sv:Value}{zs:List α}(h:RwsI kf vf n₀ W sv zs)(hB:Below n₀ W W'):RwsI kf vf n₀ W' sv zs:=by
 rcases h with h|⟨b,off,cap,e,hb,hcp,hc⟩
 ·exact .inl h
 ·exact .inr ⟨b,off,cap,e,hb,hcp,fun i x hx=>⟨(hB.cell (p:=⟨b,off+i*2,none⟩) hb).trans (hc i x hx).1,(hB.cell (p:=⟨b,off+i*2+1,none⟩) hb).trans (hc i x hx).2⟩⟩
theorem rwsI_own{α:Type}(kf:α->Int)(vf:α->Addr){w:World}{B e:Nat}{v:Value}(zs:List α)(h:w.ownsRow B e 2 v zs.length (rowCs (zs.map fun x=>((Value.int .i64 (kf x)),(Value.pointer (some (vf x))))))):RwsI kf vf w.heap.size w v zs:=by
 have h':=h
 rcases h.2 with⟨rfl,h0⟩|⟨q,cap,cur,rfl,hb,hh,hc1,hc2,hcs,ht⟩
 ·exact .inl ⟨rfl,List.length_eq_zero_iff.1 h0⟩
 ·refine .inr ⟨q,0,cap,rfl,(Array.getElem?_eq_some_iff.1 hh).1,⟨hc1,hc2⟩,fun i x hx=>?_⟩;have hi:=(List.getElem?_eq_some_iff.1 hx).1;have hm:(zs.map fun x=>((Value.int .i64 (kf x)),(Value.pointer (some (vf x)))))[i]? =some ((Value.int .i64 (kf x)),(Value.pointer (some (vf x)))):=by simp [hx]
  have a0:=rowCs_at _ i 0 _ hm (by decide);have a1:=rowCs_at _ i 1 _ hm (by decide);have c0:=h'.cellAt (i*2) (by omega);have c1:=h'.cellAt (i*2+1) (by omega);exact⟨by rw [Nat.zero_add,c0];exact a0,by rw [Nat.zero_add,c1];exact a1⟩
set_option maxRecDepth 100000 in
set_option maxHeartbeats 2000000 in
theorem all1nI_in{α:Type}(F:Fence)(n:Nat)(h7:F.fn 124)(hro:F.round=none)(l tb g:Nat)(J:List α->World->Prop)(W:World)
 (kb:W.cell? ⟨tb,0,none⟩=some (.pointer (some ⟨g,0,none⟩))) (kg:W.cell? ⟨g,1,none⟩=some (.slice none 0 0)) (h0:J [] W):
 CallsIn F n Tryz.prog 124 #[.func (.yield l) #[] #[],.pointer (some ⟨tb,0,none⟩)] W fun e W'=>(∃ v,e=.returned v)∧J [] W':=by
 refine callsIn_of_wp Tryz.func124 rfl h7 ?_ hro;simp only [Tryz.ntmps124,List.size_toArray,List.length_cons,List.length_nil,Nat.reduceAdd,Nat.reduceSub,Array.replicate_succ,Array.replicate_zero,List.push_toArray,List.append_toArray,List.nil_append,List.cons_append]
 gi_wp2
 gi_loopw [10] (fun i wr=>i=.int .i64 0∧J [] wr) (fun _ _=>0)
 case atStart=>exact⟨rfl,h0⟩
 case round=>
  obtain⟨rfl,hJs⟩:=hrel
  gi_wp2
  go_end0
  exact⟨⟨_,rfl⟩,hJs⟩
set_option maxRecDepth 100000 in
set_option maxHeartbeats 2000000 in
theorem allI_in(F:Fence)(n:Nat)(h6:F.fn 80)(hro:F.round=none)(p:Option Addr)(w:World):
 CallsIn F n Tryz.prog 80 #[.pointer p] w fun e w'=>e=.returned (.func (.func 124) #[] #[.pointer (some ⟨w.heap.size,0,none⟩)])∧w'=w.alloc (.cells #[.pointer p] 125):=by
 refine callsIn_of_wp Tryz.func80 rfl h6 ?_ hro;simp only [Tryz.ntmps80,List.size_toArray,List.length_cons,List.length_nil,Nat.reduceAdd,Nat.reduceSub,Array.replicate_succ,Array.replicate_zero,List.push_toArray,List.append_toArray,List.nil_append,List.cons_append]
 gi_wp2
 go_ret;exact⟨rfl,rfl⟩
theorem allStopsI{α:Type}(kf:α->Int)(vf:α->Addr)(F:Fence)(n:Nat)(h7:F.fn 124)(hro:F.round=none)(hn:1<=n)(tb g n₀:Nat)(sv:Value)(zs:List α)(hl:zs.length<=1000000)(w:World)(htb:tb<w.heap.size)(hg:g<n₀)(hn₀:n₀<=w.heap.size)
 (kb:w.cell? ⟨tb,0,none⟩=some (.pointer (some ⟨g,0,none⟩))) (kg:w.cell? ⟨g,1,none⟩=some sv) (hR:RwsI kf vf n₀ w sv zs):
 SeqStopsK F n Tryz.prog 124 #[.pointer (some ⟨tb,0,none⟩)] (fun x:α=>#[(Value.int .i64 (kf x)),(Value.pointer (some (vf x)))]) (Below n₀) (fun ys=>ys=zs) (fun pre=>pre<+:zs) zs.length w:=fun l J Jx W hW hJ _ hY h0=>by
 have kb':=(hW.cell (p:=⟨tb,0,none⟩) htb).trans kb;have kg':=(hW.cell (p:=⟨g,1,none⟩) (Nat.lt_of_lt_of_le hg hn₀)).trans kg
 rcases hR.below (hW.mono hn₀) with⟨rfl,rfl⟩|⟨b,off,cap,rfl,hb,hcp,hcs⟩
 ·exact(all1nI_in F n h7 hro l tb g J W kb' kg' h0).mono fun e W' ⟨he,hj⟩=>⟨he,.inl ⟨_,rfl,hj⟩⟩
 ·exact all1I_in kf vf F n h7 hro hn l tb g n₀ b off cap (.pointer none) zs hl hcp hb J Jx (fun s W1 W2 hs hgr=>hJ s W1 W2 none hs hgr (fun r e=>by cases e)) hY W kb' kg' hcs (Nat.le_trans hn₀ hW.size) h0
end Go.Proofs.YtfmolgdfjklmpaaGreat
namespace Go.Proofs.YtfmolgdfjklmpaaGreat
open Go.RowKit
theorem low_set{l:List UInt8}{k:Nat}{c:UInt8}(h:l[k]? =some c):(Nm.smallL (l.take k)++l.drop k).set k (Nm.low c)=Nm.smallL (l.take (k+1))++l.drop (k+1):=by
 have hk:k<l.length:=(List.getElem?_eq_some_iff.1 h).1;have hx:l[k]=c:=(List.getElem?_eq_some_iff.1 h).2;have hl:(Nm.smallL (l.take k)).length=k:=by simp [Nm.smallL];omega
 rw [Nm.smallL_step h,List.set_append_right _ _ (by omega),hl,List.drop_eq_getElem_cons hk,hx];simp
set_option maxRecDepth 100000 in
set_option maxHeartbeats 800000 in
theorem foldText_any(s:ByteArray)(w:World)(hs:s.size<=1000000000):
 Calls Tryz.prog 91 #[.string s] w fun e w'=>e=.returned (.string (Nm.small s))∧Below w.heap.size w w':=by
 obtain⟨cap,W,hcap,hmx,hrun,hrow,hbel⟩:=new_bytes s w;have hmx':=hmx (by unfold maxLen;omega);unfold maxLen at hmx';clear hmx;go_enter Tryz.func91,Tryz.ntmps91;go_wp2
 go_loopw [10] (fun i wr=>∃ k:Nat,k<=s.size∧i=.int .i64 k∧BRow wr w.heap.size (Nm.smallL (s.data.toList.take k)++s.data.toList.drop k)∧Below w.heap.size w wr)
  (fun i _=>s.size-(intOf i).toNat)
 case atStart=>exact⟨0,Nat.zero_le _,rfl,by simpa [Nm.smallL] using hrow,hbel⟩
 case round=>
  obtain⟨k,hk,rfl,hrk,hbk⟩:=hrel;clear hrun hrow hbel
  by_cases hlt:k<s.size
  ·have hd:=Nm.get_data hlt
   have hll:(Nm.smallL (s.data.toList.take k)++s.data.toList.drop k)[k]? =some s[k]:=by
    rw [List.getElem?_append_right (by simp [Nm.smallL];omega)];simp [Nm.smallL,Nat.min_eq_left hk]
    simpa using hd
   have hck:=hrk k _ hll;have HB:=Nm.hide (hrk.set (k:=k) (d:=Nm.low s[k]) (by simp [Nm.smallL];omega));rw [low_set hd] at HB;have HW:Hid (Below w.heap.size w (wr.setCell ⟨w.heap.size,k,none⟩ (.int .u8 (Nm.low s[k]).toNat))):=hbk.setCell (Nat.le_refl _) _;obtain⟨hc1,hc2⟩:=hck;clear hd hll hrk;go_wp2_with (go_at_call 133;refine(foldByte_any _ _).mono ?_;rintro e w3 ⟨rfl,rfl⟩)
   go_roundw
   case rel=>exact⟨k+1,by omega,by go_num,HB.out,HW.out⟩
   case measure=>simp [intOf];omega
  ·have hkl:k=s.size:=by omega
   subst hkl
   have hcv:=run_convert_bytes_back (P:=Tryz.prog) wr 22 9 5 ⟨w.heap.size,0,none⟩ cap (Nm.smallL s.data.toList) Tryz.underlying22 Tryz.underlying5 Tryz.underlying9 (by
    intro j hj;rw [Nm.addr_add,Nat.zero_add];refine(hrk j _ ?_).1;rw [List.take_of_length_le (by simp),List.drop_of_length_le (by simp),List.append_nil]
    exact List.getElem?_eq_getElem hj)
   have hsl:(Nm.smallL s.data.toList).length=s.size:=by simp [Nm.smallL]
   rw [hsl,show(⟨(Nm.smallL s.data.toList).toArray⟩:ByteArray)=Nm.small s from rfl] at hcv;clear hrk hlt hsl;go_wp2;go_ret;exact⟨rfl,hbk⟩
end Go.Proofs.YtfmolgdfjklmpaaGreat
namespace Go.Proofs.YtfmolgdfjklmpaaGreat
open Go.RowKit
theorem brow_grown{w w1:World}{g gb:Nat}{l:List UInt8}(h:BRow w gb l)(hg:w.grownBy w1 (some g))(hne:gb≠g):BRow w1 gb l:=by
 intro j c hj;obtain⟨h1,h2⟩:=h j c hj;have hlt:=World.block_lt_of_cell? w _ h1;have hblk:=hg.block gb hlt (fun e=>hne (by simpa using e));exact⟨(World.cell?_of_block (w:=w) hblk).trans h1,(World.frozen?_of_block (w:=w) hblk).trans h2⟩
theorem conv_brow{w:World}{gb cap k:Nat}{l:List UInt8}(h:BRow w gb l)(hk:k<=l.length):
 (convert 22 9 (.slice (some ⟨gb,0,none⟩) k cap)).run Tryz.prog w=.ok (.string ⟨(l.take k).toArray⟩) w:=by
 have hl:(l.take k).length=k:=by simp;omega
 have:=run_convert_bytes_back (P:=Tryz.prog) w 22 9 5 ⟨gb,0,none⟩ cap (l.take k) Tryz.underlying22 Tryz.underlying5 Tryz.underlying9 (by
  intro j hj;rw [Nm.addr_add,Nat.zero_add];refine(h j _ ?_).1;rw [List.getElem_take]
  exact List.getElem?_eq_getElem (by omega))
 rw [hl] at this;exact this
theorem src_setOther{w:World}{g gb i n cap:Nat}{a:Option Addr}{v:Value}(h:Src w g a n cap)(hne:gb≠g)(hcode:n=0∨∀ b off,a=some ⟨b,off,none⟩->b≠gb):Src (w.setCell ⟨gb,i,none⟩ v) g a n cap:=by
 obtain⟨pos,st,h1,h2,h3,h4,h5⟩:=h;refine⟨pos,st,?_,h2,h3,h4,?_⟩
 ·rw [heap_setCell_other w ⟨gb,i,none⟩ g v (fun e=>hne e.symm)];exact h1
 ·rcases h5 with h5|⟨b,off,e,hb,hc⟩
  ·exact .inl h5
  ·rcases hcode with h6|h6
   ·exact .inl h6
   ·refine .inr ⟨b,off,e,hb,fun j hj=>?_⟩;obtain⟨c,hc1,hc2⟩:=hc j hj;refine⟨c,?_,hc2⟩;rw [World.cell?_setCell_other w ⟨gb,i,none⟩ ⟨b,off+j,none⟩ v (by intro h;cases h;exact h6 _ off e rfl)];exact hc1
theorem grown_set{w w1:World}{g gb i:Nat}{v:Value}(h:w.grownBy w1 (some g))(hb:w.heap.size<=gb):w.grownBy (w1.setCell ⟨gb,i,none⟩ v) (some g):=
 grown_own h (row:=some gb) ⟨rfl,rfl,rfl,by simp,fun k _ hk=>heap_setCell_other w1 ⟨gb,i,none⟩ k v (fun e=>hk (by simp [e]))⟩ (fun k hk=>by simp at hk;omega)
theorem brow_len_set{l:List UInt8}{k:Nat}{d:UInt8}:(l.set k d).length=l.length:=by simp
set_option maxRecDepth 100000 in
set_option maxHeartbeats 1600000 in
theorem l01Spoil_any(g:Nat)(a:Option Addr)(n cap:Nat)(nm:ByteArray)(w:World)(h:Src w g a n cap)(h1:1<=nm.size)(h2:nm.size<=1000):
 Calls Tryz.prog 30 #[.pointer (some ⟨g,0,none⟩),.string nm] w fun e w'=>∃ s:ByteArray,e=.returned (.string s)∧s.size<=2000∧Src w' g a n cap∧w.grownBy w' (some g):=by
 obtain⟨hcode,hglt⟩:=src_code h;obtain⟨cp,W,hcp,hcpm,hrun,hrow,hbw⟩:=new_bytes nm w;have hcpm':=hcpm (by unfold maxLen;omega);unfold maxLen at hcpm';have hs0:=src_below h hbw;have hg0:=grown_below (World.grownBy.refl w (some g)) hbw;have hne:w.heap.size≠g:=by omega
 have hcb:n=0∨∀ b off,a=some ⟨b,off,none⟩->b≠w.heap.size:=by
  rcases Nat.eq_zero_or_pos n with hn|hn
  ·exact .inl hn
  refine .inr fun b off e=>?_
  rcases hcode with h0|⟨b',off',e',_,hc⟩
  ·omega
  ·rw [e] at e';simp only [Option.some.injEq,Addr.mk.injEq,and_true] at e';obtain⟨rfl,rfl⟩:=e';obtain⟨c,hc1,_⟩:=hc 0 (by omega);have:b<w.heap.size:=World.block_lt_of_cell? w _ hc1;omega
 have hone:(ByteArray.mk #[97]).size=1:=rfl;have hone2:(ByteArray.mk #[64]).size=1:=rfl;have hlen:nm.data.toList.length=nm.size:=by simp
 clear hcpm h hbw;go_enter Tryz.func30,Tryz.ntmps30;go_wp2_with fail
 refine(l01Next_any g a n cap 6 _ hs0 (by decide)).mono ?_;rintro e w1 ⟨r,rfl,hr0,hr1,hs1,hg1⟩;have hr2:=hr1 (by decide);have hrow1:=brow_grown hrow hg1 hne;have hgg:=grown_step hg0 hg1;have hsz1:=hgg.size;clear hr1 hrun hs0 hg0 hrow hg1
 rcases(by omega:r=0∨r=1∨r=2∨r=3∨r=4∨r=5) with rfl|rfl|rfl|rfl|rfl|rfl
 ·go_wp2;go_ret;exact⟨_,rfl,by rw [ByteArray.size_append,hone];omega,hs1,hgg⟩
 ·have hcv:=conv_brow (cap:=cp) (k:=nm.size-1) hrow1 (by omega);have hms:=mk_size (nm.data.toList.take (nm.size-1));generalize ByteArray.mk (nm.data.toList.take (nm.size-1)).toArray=T at*;have HT:Hid (T.size<=2000):=by show _<=_;rw [hms,List.length_take];omega
  clear hms;go_wp2;go_ret;exact⟨_,rfl,HT.out,hs1,hgg⟩
 ·go_wp2;go_ret;exact⟨_,rfl,by decide,hs1,hgg⟩
 ·have hl0:0<nm.size:=by omega
  obtain⟨c0,hc0⟩:∃ c0,nm.data.toList[0]? =some c0:=⟨_,List.getElem?_eq_getElem (by omega)⟩;have hidx:(0:Int)<(nm.size:Int):=by omega
  go_wp2_with (go_at_call 26;refine(l01Next_any g a n cap 256 _ hs1 (by decide)).mono ?_;rintro e w2 ⟨q,rfl,hq0,hq1,hs2,hg2⟩;have hq2:=hq1 (by decide);obtain⟨c,hc⟩:=byte_of_int hq0 hq2;subst hc;have hrow2:=brow_grown hrow1 hg2 hne;have hgg2:=grown_step hgg hg2;obtain⟨hcell,hfz⟩:=hrow2 0 c0 hc0;have HS:=Nm.hide (src_setOther (i:=0) (v:=.int .u8 (c.toNat:Int)) hs2 hne hcb);have HG:=Nm.hide (grown_set (i:=0) (v:=.int .u8 (c.toNat:Int)) hgg2 (Nat.le_refl _));have hcv:=conv_brow (cap:=cp) (k:=nm.size) (hrow2.set (k:=0) (d:=c) (by omega)) (by rw [brow_len_set];omega);clear hq1)
  go_ret;exact⟨_,rfl,by rw [mk_size,List.length_take];omega,HS.out,HG.out⟩
 ·have hcv:=conv_brow (cap:=cp) (k:=nm.size) hrow1 (by omega);have hms:=mk_size (nm.data.toList.take nm.size);generalize ByteArray.mk (nm.data.toList.take nm.size).toArray=T at*;have hT:T.size<=1000:=by rw [hms,List.length_take];omega
  clear hms;go_wp2;go_ret;exact⟨_,rfl,by rw [ByteArray.size_append,hone2];omega,hs1,hgg⟩
 ·have hl0:0<nm.size:=by omega
  go_wp2_with (go_at_call 26;refine(l01Next_any g a n cap (nm.size:Int) _ hs1 (by omega)).mono ?_;rintro e w2 ⟨q,rfl,hq0,hq1,hs2,hg2⟩;have hq2:=hq1 (by omega);obtain⟨k,rfl⟩:=Int.eq_ofNat_of_zero_le hq0;have hkl:k<nm.data.toList.length:=(by omega);obtain⟨c0,hc0⟩:∃ c0,nm.data.toList[k]? =some c0:=⟨_,List.getElem?_eq_getElem hkl⟩;have hrow2:=brow_grown hrow1 hg2 hne;have hgg2:=grown_step hgg hg2;obtain⟨hcell,hfz⟩:=hrow2 k c0 hc0;have HS:=Nm.hide (src_setOther (i:=k) (v:=.int .u8 0) hs2 hne hcb);have HG:=Nm.hide (grown_set (i:=k) (v:=.int .u8 0) hgg2 (Nat.le_refl _));have hcv:=conv_brow (cap:=cp) (k:=nm.size) (hrow2.set (k:=k) (d:=0) hkl) (by rw [brow_len_set];omega);have hkn:(k:Int)<(nm.size:Int):=(by omega);have hk0:(0:Int)<=(k:Int):=(by omega);rw [show(((0:UInt8).toNat:Nat):Int)=0 from rfl] at hcv;clear hq1 hc0)
  go_ret;exact⟨_,rfl,by rw [mk_size,List.length_take];omega,HS.out,HG.out⟩
end Go.Proofs.YtfmolgdfjklmpaaGreat
namespace Go.Proofs.YtfmolgdfjklmpaaGreat
open Go.RowKit
theorem srow_news{w:World}{ad:Addr}{n cap:Nat}{xs:List ByteArray}(h:Nm.SRow w (.slice (some ad) n cap) xs):∀ j u,(xs.map Value.string)[j]? =some u->w.cell? (ad.add j)=some u:=by
 obtain⟨a',cap',e,h1,h2,h3,h4⟩:=h;simp only [Value.slice.injEq] at e;obtain⟨rfl,_,rfl⟩:=e;intro j u hj;have hne:xs≠[]:=by intro h;rw [h] at hj;simp at hj
 obtain⟨b,off,e2,hc⟩:=h4 hne;simp only [Option.some.injEq] at e2;subst e2;rw [List.getElem?_map] at hj
 cases hx:xs[j]? with
 |none=>rw [hx] at hj;simp at hj
 |some x=>
  rw [hx] at hj;simp at hj;rw [Nm.addr_add,<- hj];exact hc j x hx
theorem strs_oneCell(xs:List ByteArray):∀ u∈xs.map Value.string,u.oneCell'=true:=by
 intro u hu;obtain⟨x,_,rfl⟩:=List.mem_map.1 hu;rfl
end Go.Proofs.YtfmolgdfjklmpaaGreat
namespace Go.Proofs.YtfmolgdfjklmpaaGreat
open Go.RowKit
set_option linter.unusedVariables false
def spl(cs:Array Value):Nat->List Value->Array Value
 |_,[]=>cs
 |o,v::r=>spl (cs.setIfInBounds o v) (o+1) r
def bigL(v n:Nat):List UInt8:=(List.range n).map fun i=>UInt8.ofNat (v / 2 ^ (8*(n-1-i)))
end Go.Proofs.YtfmolgdfjklmpaaGreat
