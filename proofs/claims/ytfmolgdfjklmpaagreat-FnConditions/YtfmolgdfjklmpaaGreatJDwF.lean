import Derived.Test.YtfmolgdfjklmpaaGreatJDrH
import Derived.Test.YtfmolgdfjklmpaaGreatJFnR
import Derived.Test.YtfmolgdfjklmpaaGreatDraw3
import Derived.Test.YtfmolgdfjklmpaaGreatJBzL
import Derived.Test.YtfmolgdfjklmpaaGreatJFnC
import Derived.Test.YtfmolgdfjklmpaaGreatJTrM
import Derived.Test.YtfmolgdfjklmpaaGreatJSls
import Derived.Test.YtfmolgdfjklmpaaGreatJMath
import Derived.BigQuiet
import Derived.Test.YtfmolgdfjklmpaaGreatJBzN
import Derived.Test.YtfmolgdfjklmpaaGreatJZrM
import Derived.Test.YtfmolgdfjklmpaaGreatZbZ
namespace Go.Proofs.YtfmolgdfjklmpaaGreat
open Go.RowKit
set_option linter.unusedVariables false
theorem e42:([42]:List UInt8)=(⟨#[42]⟩:ByteArray).toList:=by simp [ByteArray.toList_eq]
set_option maxRecDepth 100000 in
set_option maxHeartbeats 6400000 in
theorem l06Asked_any(g:Nat)(a:Option Addr)(n cap:Nat)(o:ByteArray)(v:Value)(ps:List Zp)(C:Nat)(w:World)(h:Src w g a n cap)(hz:ZOwn w C v ps)(hgC:g<C)(hB:ZB ps 240)(hp:0<ps.length)(ho:o.size<=20)(ho1:1<=o.size):
 Calls Tryz.prog 28 #[.pointer (some ⟨g,0,none⟩),.agg #[.string o,v]] w fun e w'=>∃ s:ByteArray,e=.returned (.string s)∧1<=s.size∧s.size<=255∧Src w' g a n cap∧w.grownBy w' (some g):=by
 have HO1:=Nm.hide ho1;clear ho1;obtain⟨hcode,hglt⟩:=src_code h;obtain⟨_,va,vc,rfl,hcap,hmx,hc⟩:=CRow.of_owns hz.outer;obtain⟨b,off,rfl,hcell⟩:=hc hp;have hbg:b≠g:=by have:=(hz.outer.lt b rfl).1;omega
 have D0:=(Dr.start h).alloc (.cells #[.string o,.slice (some ⟨b,off,none⟩) ps.length vc] 25);have k0:=blk_new w #[.string o,.slice (some ⟨b,off,none⟩) ps.length vc] 25;have hgz:(some g:Option Nat)≠some w.heap.size:=by intro e;simp at e;omega
 have HK:Hid (∀ X,(w.alloc (.cells #[.string o,.slice (some ⟨b,off,none⟩) ps.length vc] 25)).grownBy X (some g)->Blk X w.heap.size #[.string o,.slice (some ⟨b,off,none⟩) ps.length vc] 25):=fun X hX=>blk_grown k0 hX hgz
 have HC:Hid (∀ X,Dr w g a n cap X->∀ (j:Nat) (p:Zp),ps[j]? =some p->X.cell? ⟨b,off+j*4,none⟩=some (.string p.1.own)):=fun X hX j p hj=>hX.cell (zp_cells hcell hj).1 hbg
 have HO:Hid (∀ (j:Nat) (p:Zp),ps[j]? =some p->p.1.own.size<=1000):=fun j p hj=>(hB.one p (List.mem_of_getElem? hj)).1
 have hpl:ps.length<=240:=hB.len;have r0:=fun i=>blk_cell k0 i
 have n0:((ps.length:Int)==0)=false:=by rw [beq_eq_false_iff_ne];omega
 clear hc hz hB hcell h;go_enter Tryz.func28,Tryz.ntmps28;go_wp2_with fail
 have kS:Hid (∀ X,Dr w g a n cap X->(w.alloc (.cells #[.string o,.slice (some ⟨b,off,none⟩) ps.length vc] 25)).grownBy X (some g)->X.cell? ⟨w.heap.size,0,none⟩=some (.string o)∧X.cell? ⟨w.heap.size,1,none⟩=some (.slice (some ⟨b,off,none⟩) ps.length vc)∧∀ (j:Nat) (p:Zp),ps[j]? =some p->X.cell? ⟨b,off+j*4,none⟩=some (.string p.1.own)):=fun X hD hX=>⟨(blk_cell (HK.out X hX) 0).trans rfl,(blk_cell (HK.out X hX) 1).trans rfl,HC.out X hD⟩
 have D1:=D0.below (Below.refl _ _).drew;have g1:(w.alloc (.cells #[.string o,.slice (some ⟨b,off,none⟩) ps.length vc] 25)).grownBy (w.alloc (.cells #[.string o,.slice (some ⟨b,off,none⟩) ps.length vc] 25)).drew (some g):=grown_drewS (World.grownBy.refl _ _);clear r0;refine wp_region_last (fun X=>X.cell? ⟨w.heap.size,0,none⟩=some (.string o)∧X.cell? ⟨w.heap.size,1,none⟩=some (.slice (some ⟨b,off,none⟩) ps.length vc)∧∀ (j:Nat) (p:Zp),ps[j]? =some p->X.cell? ⟨b,off+j*4,none⟩=some (.string p.1.own)) 1000 (by kernel_rfl) (kS.out _ D1 g1) (fun hHeld=>?_);refine wpAnyL_take (i:=0) (v:=?_) rfl (by kernel_rfl) (by kernel_rfl) (by kernel_rfl) (by kernel_rfl) (fun _ _ _ h=>h) (Or.inl ⟨by kernel_rfl,?_⟩) (by assumption) ?_;rotate_left 1
 ·(intro W hSW;obtain⟨s1,s2,s3⟩:=hSW;go_simp;try (with_reducible rfl))
 refine wpAnyL_take (i:=1) (v:=?_) rfl (by kernel_rfl) (by kernel_rfl) (by kernel_rfl) (by kernel_rfl) (fun _ _ _ h=>h) (Or.inl ⟨by kernel_rfl,?_⟩) (by assumption) ?_;rotate_left 1
 ·(intro W hSW;obtain⟨s1,s2,s3⟩:=hSW;go_simp;try (with_reducible rfl))
 refine wpAnyL_take (i:=2) (v:=?_) rfl (by kernel_rfl) (by kernel_rfl) (by kernel_rfl) (by kernel_rfl) (fun _ _ _ h=>h) (Or.inl ⟨by kernel_rfl,?_⟩) (by assumption) ?_;rotate_left 1
 ·(intro W hSW;obtain⟨s1,s2,s3⟩:=hSW;go_simp;try (with_reducible rfl))
 refine wpAnyL_take (i:=3) (v:=?_) rfl (by kernel_rfl) (by kernel_rfl) (by kernel_rfl) (by kernel_rfl) (fun _ _ _ h=>h) (Or.inl ⟨by kernel_rfl,?_⟩) (by assumption) ?_;rotate_left 1
 ·(intro W hSW;obtain⟨s1,s2,s3⟩:=hSW;go_simp;try (with_reducible rfl))
 refine wpAnyL_take (i:=4) (v:=?_) rfl (by kernel_rfl) (by kernel_rfl) (by kernel_rfl) (by kernel_rfl) (fun _ _ _ h=>h) (Or.inl ⟨by kernel_rfl,?_⟩) (by assumption) ?_;rotate_left 1
 ·(intro W hSW;obtain⟨s1,s2,s3⟩:=hSW;go_simp;try (with_reducible rfl))
 refine wpAnyL_take (i:=5) (v:=?_) rfl (by kernel_rfl) (by kernel_rfl) (by kernel_rfl) (by kernel_rfl) (fun _ _ _ h=>h) (Or.inl ⟨by kernel_rfl,?_⟩) (by assumption) ?_;rotate_left 1
 ·(intro W hSW;obtain⟨s1,s2,s3⟩:=hSW;go_simp;try (with_reducible rfl))
 refine wpAnyL_one (i:=6) (by kernel_rfl) rfl (fun K hK=>?_);go_simp;refine(l01Next_any g a n cap (ps.length:Int) _ D1.s (by omega)).mono ?_;rintro e w2 ⟨r,rfl,hr0,hr1,hs2,hg2⟩;have hr2:=hr1 (by omega);obtain⟨i,rfl⟩:=Int.eq_ofNat_of_zero_le hr0;have D2:=D1.step hs2 hg2;have g2:=grown_step g1 hg2;have hil:i<ps.length:=by omega
 obtain⟨p,hpi⟩:∃ p,ps[i]? =some p:=⟨_,List.getElem?_eq_getElem hil⟩;have hnm:=HO.out i p hpi;go_wp2_with fail
 refine hK.out _ _ (kS.out _ D2 g2) (fun hHeld=>?_);clear hK K;refine wpAnyL_take (i:=7) (v:=?_) rfl (by kernel_rfl) (by kernel_rfl) (by kernel_rfl) (by kernel_rfl) (fun _ _ _ h=>h) (Or.inl ⟨by kernel_rfl,?_⟩) (by assumption) ?_;rotate_left 1
 ·(intro W hSW;obtain⟨s1,s2,s3⟩:=hSW;go_simp;try (with_reducible rfl))
 refine wpAnyL_take (i:=8) (v:=?_) rfl (by kernel_rfl) (by kernel_rfl) (by kernel_rfl) (by kernel_rfl) (fun _ _ _ h=>h) (Or.inl ⟨by kernel_rfl,?_⟩) (by assumption) ?_;rotate_left 1
 ·(intro W hSW;obtain⟨s1,s2,s3⟩:=hSW;go_simp;try (with_reducible rfl))
 refine wpAnyL_take (i:=9) (v:=.string p.1.own) rfl (by kernel_rfl) (by kernel_rfl) (by kernel_rfl) (by kernel_rfl) (fun _ _ _ h=>h) (Or.inl ⟨by kernel_rfl,?_⟩) (by assumption) ?_
 ·intro W hSW;obtain⟨s1,s2,s3⟩:=hSW;have s4:=s3 i p hpi;clear s3;go_simp
  try (with_reducible rfl)
 refine wpAnyL_take (i:=10) (v:=?_) rfl (by kernel_rfl) (by kernel_rfl) (by kernel_rfl) (by kernel_rfl) (fun _ _ _ h=>h) (Or.inl ⟨by kernel_rfl,?_⟩) (by assumption) ?_;rotate_left 1
 ·(intro W hSW;obtain⟨s1,s2,s3⟩:=hSW;go_simp;try (with_reducible rfl))
 refine wpAnyL_done (by kernel_rfl) ?_;have kz2:=HK.out _ g2;generalize p.1.own=nm at*;clear kS HK HC HO D0 D1 g1 hs2 hg2 hHeld hpi k0 hr1 g2;go_simp;go_wp2_with fail
 refine(l01Next_any g a n cap 9 _ D2.s (by decide)).mono ?_;rintro e w3 ⟨q,rfl,hq0,hq1,hs3,hg3⟩;have hq2:=hq1 (by decide);have D3:=D2.step hs3 hg3;have kz3:=blk_grown kz2 hg3 hgz;clear hq1 hs3 hg3 D2 kz2
 rcases(by omega:q=6∨(q=0∨q=1∨q=2)∨q=3∨q=4∨q=5∨(q=7∨q=8)) with rfl|h|rfl|rfl|rfl|h
 ·have hws:Nm.wsum ((Nm.split nm).getD [])<=254:=by
   cases hq:Nm.split nm with
   |none=>simp [Nm.wsum]
   |some ls=>have:=Nm.split_size hq;simp;omega
  have hlb:=specLabels_any nm w3 (by unfold maxLen;omega);generalize (Nm.split nm).getD []=ls at*;have D3z:=Nm.hide D3.size;have HZB:=Nm.hide (blk_lt kz3);go_wp2_with fail
  refine hlb.mono ?_;rintro e w4 ⟨u,rfl,hou,b4⟩;obtain⟨ua,uc,rfl⟩:=own_sl hou;have D4:=D3.below b4;have kz4:=blk_below kz3 b4;have hgr4:=hou.lt;clear hlb D3 kz3 b4
  cases ls with
  |nil=>
   have hj:=l01Join_any _ [] w4 (Nm.SRow.of_owns hou) (by decide);have hz:=join_len [];generalize (⟨(Nm.joinL []).toArray⟩:ByteArray)=J at*;have hJ:J.size<=2000:=by rw [hz];decide
   clear hz hou hgr4;go_wp2_with fail
   refine hj.mono ?_;rintro e w5 ⟨rfl,b5⟩;have D5:=D4.below b5;have kz5:=blk_below kz4 b5;clear D4 kz4 b5 hj;have hno:=specNameOK_any J w5 (by unfold maxLen;omega);have rz9:=fun i=>blk_cell kz5 i
   cases hq9:(Nm.split J).isSome with
   |true=>
    have HZ9:Hid (1<=(J).size∧(J).size<=255):=by
     obtain⟨l9,e9⟩:=Option.isSome_iff_exists.1 hq9;have:=Nm.split_size e9;exact⟨by omega,by omega⟩
    rw [hq9] at hno;clear hq9;go_wp2_with fail
    refine hno.mono ?_;rintro e w9 ⟨rfl,b9⟩;have D9:=(D5).below b9;go_wp2;go_ret
    exact⟨_,rfl,HZ9.out.1,HZ9.out.2,D9.s,D9.gr⟩
   |false=>
    rw [hq9] at hno;clear hq9 rz9;go_wp2_with fail
    refine hno.mono ?_;rintro e w9 ⟨rfl,b9⟩;have D9:=(D5).below b9;have kz9:=blk_below kz5 b9;have rz9:=fun i=>blk_cell kz9 i
    go_wp2;go_ret
    exact⟨_,rfl,HO1.out,by omega,D9.s,D9.gr⟩
  |cons x t=>
   obtain⟨lb,rfl⟩:∃ lb,ua=some ⟨lb,0,none⟩:=by
    rcases hou.2 with⟨e,h0⟩|⟨g1,c1,cur,e,_⟩
    ·simp at h0
    ·simp only [Value.slice.injEq] at e;exact⟨g1,e.1⟩
   obtain⟨M,HM⟩:∃ M,Hid ((x::t).length=M):=⟨_,rfl⟩
   have hou2:w4.ownsRow w3.heap.size 9 1 (.slice (some ⟨lb,0,none⟩) M uc) M ((x::t).map Value.string):=by
    have h:=hou;rw [HM.out] at h;exact h
   have hc0:w4.cell? ⟨lb,0,none⟩=some (.string x):=(hou2.cellAt 0 (by have:=HM.out;simp at this;omega)).trans rfl;have hf0:=hou2.frozenAt 0;obtain⟨hst,hgs⟩:=hou2.stored 0 (.string ⟨#[97,110,121]⟩);have hlb3:w3.heap.size<=lb:=(hou.lt lb rfl).1;have hM0:(0:Int)<(M:Int):=by have:=HM.out;simp at this;omega
   have hwx:Nm.wsum t<=254:=by simp only [Nm.wsum] at hws;omega
   rw [HM.out]
   by_cases hx:x=⟨#[42]⟩
   ·have hxe:(x.toList==[42])=true:=by rw [e42,ba_eq];exact decide_eq_true hx
    have D4s:=D4.row hgs (fun k hk=>by cases hk;have:=D3z.out;omega);have kz4s:=blk_grown kz4 hgs (by intro e;simp at e;have:=D3z.out;have:=HZB.out;omega);have hj:=l01Join_any (.slice (some ⟨lb,0,none⟩) M uc) (⟨#[97,110,121]⟩::t) (w4.setCell ⟨lb,0,none⟩ (.string ⟨#[97,110,121]⟩)) (Nm.SRow.of_owns (ls:=⟨#[97,110,121]⟩::t) (by rw [show((⟨#[97,110,121]⟩:ByteArray)::t).length=M from HM.out];exact hst)) (by simp only [Nm.wsum];show 1+3+_<=_;omega);have hz:=join_len (⟨#[97,110,121]⟩::t);generalize (⟨(Nm.joinL (⟨#[97,110,121]⟩::t)).toArray⟩:ByteArray)=J at*;have hJ:J.size<=2000:=by rw [hz];simp only [Nm.wsum];show 1+3+_+1<=_;omega
    have HJ:=Nm.hide hj;clear hz hst hgs D4 kz4 hou hou2 hx hj hgr4 hws hwx hlb3;go_wp2_with fail
    refine HJ.out.mono ?_;rintro e w5 ⟨rfl,b5⟩;have D5:=D4s.below b5;have kz5:=blk_below kz4s b5;clear D4s kz4s b5 HJ hc0 hf0;have hno:=specNameOK_any J w5 (by unfold maxLen;omega);have rz9:=fun i=>blk_cell kz5 i
    cases hq9:(Nm.split J).isSome with
    |true=>
     have HZ9:Hid (1<=(J).size∧(J).size<=255):=by
      obtain⟨l9,e9⟩:=Option.isSome_iff_exists.1 hq9;have:=Nm.split_size e9;exact⟨by omega,by omega⟩
     rw [hq9] at hno;clear hq9;go_wp2_with fail
     refine hno.mono ?_;rintro e w9 ⟨rfl,b9⟩;have D9:=(D5).below b9;go_wp2;go_ret
     exact⟨_,rfl,HZ9.out.1,HZ9.out.2,D9.s,D9.gr⟩
    |false=>
     rw [hq9] at hno;clear hq9 rz9;go_wp2_with fail
     refine hno.mono ?_;rintro e w9 ⟨rfl,b9⟩;have D9:=(D5).below b9;have kz9:=blk_below kz5 b9;have rz9:=fun i=>blk_cell kz9 i
     go_wp2;go_ret;exact⟨_,rfl,HO1.out,by omega,D9.s,D9.gr⟩
   ·have hxe:(x.toList==[42])=false:=by rw [e42,ba_eq];exact decide_eq_false hx
    have hj:=l01Join_any (.slice (some ⟨lb,0,none⟩) M uc) (x::t) w4 (Nm.SRow.of_owns (ls:=x::t) (by rw [HM.out];exact hou2)) (by omega);have hz:=join_len (x::t);generalize (⟨(Nm.joinL (x::t)).toArray⟩:ByteArray)=J at*;have hJ:J.size<=2000:=by rw [hz];omega
    clear hz hst hgs hou hou2 hx hgr4 hws hwx hlb3;go_wp2_with fail
    refine hj.mono ?_;rintro e w5 ⟨rfl,b5⟩;have D5:=D4.below b5;have kz5:=blk_below kz4 b5;clear D4 kz4 b5 hj hc0 hf0;have hno:=specNameOK_any J w5 (by unfold maxLen;omega);have rz9:=fun i=>blk_cell kz5 i
    cases hq9:(Nm.split J).isSome with
    |true=>
     have HZ9:Hid (1<=(J).size∧(J).size<=255):=by
      obtain⟨l9,e9⟩:=Option.isSome_iff_exists.1 hq9;have:=Nm.split_size e9;exact⟨by omega,by omega⟩
     rw [hq9] at hno;clear hq9;go_wp2_with fail
     refine hno.mono ?_;rintro e w9 ⟨rfl,b9⟩;have D9:=(D5).below b9;go_wp2;go_ret
     exact⟨_,rfl,HZ9.out.1,HZ9.out.2,D9.s,D9.gr⟩
    |false=>
     rw [hq9] at hno;clear hq9 rz9;go_wp2_with fail
     refine hno.mono ?_;rintro e w9 ⟨rfl,b9⟩;have D9:=(D5).below b9;have kz9:=blk_below kz5 b9;have rz9:=fun i=>blk_cell kz9 i
     go_wp2;go_ret;exact⟨_,rfl,HO1.out,by omega,D9.s,D9.gr⟩
 case' inr.inl=>
  rcases h with rfl|rfl|rfl
  all_goals
   go_wp2_with fail
   refine(l01Near_any g a n cap nm _ D3.s (by omega)).mono ?_;rintro e w4 ⟨s,rfl,hs,hs4,hg4⟩;have D4:=D3.step hs4 hg4;have kz4:=blk_grown kz3 hg4 hgz;clear D3 kz3 hs4 hg4
 case' inr.inr.inl=>
  go_wp2_with fail
  refine(l01Near_any g a n cap nm _ D3.s (by omega)).mono ?_;rintro e w5 ⟨t,rfl,ht,hs5,hg5⟩;have D5:=D3.step hs5 hg5;have kz5:=blk_grown kz3 hg5 hgz;clear D3 kz3 hs5 hg5;go_wp2_with fail
  refine(l01Near_any g a n cap t _ D5.s ht).mono ?_;rintro e w4 ⟨s,rfl,hs,hs4,hg4⟩;have D4:=D5.step hs4 hg4;have kz4:=blk_grown kz5 hg4 hgz;clear D5 kz5 hs4 hg4
 case' inr.inr.inr.inl=>
  have kzA:=blk_alloc kz3 (.cells #[.string ⟨#[113]⟩,.string ⟨#[119]⟩] 9);have rzA:=fun i=>blk_cell kzA i
  go_wp2_with fail
  refine(l05Sub_any _ [⟨#[113]⟩,⟨#[119]⟩] o _ (srow2 w3 ⟨#[113]⟩ ⟨#[119]⟩) (by decide) (by omega)).mono ?_;rintro e w4 ⟨s,rfl,hs,b4⟩;have D4:=(D3.alloc (.cells #[.string ⟨#[113]⟩,.string ⟨#[119]⟩] 9)).below b4;have kz4:=blk_below kzA b4;have hs9:s.size<=2000:=by rw [hs,show Nm.wsum [(⟨#[113]⟩:ByteArray),⟨#[119]⟩]=4 from rfl];omega
  clear D3 kz3 kzA rzA b4 hs;have hs:=hs9;clear hs9
 case' inr.inr.inr.inr.inl=>
  go_wp2_with fail
  refine(l01Name_any g a n cap _ D3.s).mono ?_;rintro e w4 ⟨s,rfl,_,hs,hs4,hg4⟩;have D4:=D3.step hs4 hg4;have kz4:=blk_grown kz3 hg4 hgz;have hs9:s.size<=2000:=by omega
  clear D3 kz3 hs4 hg4 hs;have hs:=hs9;clear hs9
 case' inr.inr.inr.inr.inr=>
  have hs:nm.size<=2000:=by omega
  have D4:=D3;have kz4:=kz3;clear D3 kz3;generalize nm=s at*;generalize w3=w4 at*
  rcases h with rfl|rfl
 all_goals
  have hno:=specNameOK_any s w4 (by unfold maxLen;omega);have rz9:=fun i=>blk_cell kz4 i
  cases hq9:(Nm.split s).isSome with
  |true=>
   have HZ9:Hid (1<=(s).size∧(s).size<=255):=by
    obtain⟨l9,e9⟩:=Option.isSome_iff_exists.1 hq9;have:=Nm.split_size e9;exact⟨by omega,by omega⟩
   rw [hq9] at hno;clear hq9;go_wp2_with fail
   refine hno.mono ?_;rintro e w9 ⟨rfl,b9⟩;have D9:=(D4).below b9;go_wp2;go_ret
   exact⟨_,rfl,HZ9.out.1,HZ9.out.2,D9.s,D9.gr⟩
  |false=>
   rw [hq9] at hno;clear hq9 rz9;go_wp2_with fail
   refine hno.mono ?_;rintro e w9 ⟨rfl,b9⟩;have D9:=(D4).below b9;have kz9:=blk_below kz4 b9;have rz9:=fun i=>blk_cell kz9 i
   go_wp2;go_ret;exact⟨_,rfl,HO1.out,by omega,D9.s,D9.gr⟩
set_option maxRecDepth 100000 in
set_option maxHeartbeats 6400000 in
theorem l06Zone_any(g:Nat)(a:Option Addr)(n cap:Nat)(parts:Nat)(w:World)(h:Src w g a n cap)(hp:parts<=70):
 Calls Tryz.prog 25 #[.pointer (some ⟨g,0,none⟩),.int .i64 (parts:Int)] w fun e w'=>∃ (o:ByteArray) (v:Value) (ps:List Zp),e=.returned (.agg #[.string o,v])∧o.size<=20∧(ZB ps (3+3*parts)∧0<ps.length∧1<=o.size)∧ZOwn w' w.heap.size v ps∧Src w' g a n cap∧w.grownBy w' (some g):=by
 obtain⟨i0,hi,hz0,hz1,hz2⟩:=info_parts Tryz.infoRRc;obtain⟨hcode,hglt⟩:=src_code h;have hA:=src_below h ((Below.refl _ _).alloc (Nat.le_refl _) (.cells #[.string ByteArray.empty,.slice none 0 0] 25));have hgA:w.grownBy (w.alloc (.cells #[.string ByteArray.empty,.slice none 0 0] 25)) (some g):=grown_alloc (World.grownBy.refl _ _) _;have kA:=blk_new w #[.string ByteArray.empty,.slice none 0 0] 25;have hne:(some g:Option Nat)≠some w.heap.size:=by intro e;simp at e;omega
 go_enter Tryz.func25,Tryz.ntmps25;go_wp2_with fail
 refine(l05Records_any g a n cap parts _ hA (by omega)).mono ?_;rintro e w1 ⟨ap,bb,lv,xs,rfl,hap,hbb,hpre,hx1,hx2,L⟩;obtain⟨ha1,ha2⟩:=ap_size hap;have HA1:=Nm.hide ha1;have HGO:=Nm.hide (good_ok hap hbb)
 obtain⟨x0,x1,HF,hx0,hx1'⟩:∃ x0 x1,Hid ([x0,x1]=frsR ap bb)∧xs[0]? =some x0∧xs[1]? =some x1:=by
  obtain⟨t,rfl⟩:=hpre;exact⟨_,_,rfl,rfl,rfl⟩
 clear hap hbb hpre;obtain⟨la,lc,rfl⟩:=own_sl L.r;have g1:=grown_step hgA L.d.gr;have k1:=blk_grown kA L.d.gr hne;have HB0:Hid (∀ W,w1.grownBy W (some g)->w.grownBy W (some g)∧Blk W w.heap.size #[.string ByteArray.empty,.slice none 0 0] 25):=fun W hW=>⟨grown_step g1 hW,blk_grown k1 hW hne⟩
 obtain⟨_,la',lc',ee,hcap,hmx,hc⟩:=CRow.of_owns L.r;simp only [Value.slice.injEq] at ee;obtain⟨rfl,_,rfl⟩:=ee;obtain⟨b,off,rfl,hcell⟩:=hc (by omega)
 have hbg:b≠g:=by
  have h1:=(L.r.lt b rfl).1;rw [World.size_alloc] at h1;omega
 have HC:Hid (∀ (j:Nat) (x:Rr),xs[j]? =some x->∀ W,Dr w1 g a n cap W->W.cell? ⟨b,off+j*5,none⟩=some (.string x.own)∧W.cell? ⟨b,off+j*5+1,none⟩=some (.int .i64 x.ty)∧W.cell? ⟨b,off+j*5+2,none⟩=some (.int .i64 x.cl)∧W.cell? ⟨b,off+j*5+3,none⟩=some (.int .i64 x.tt)∧W.cell? ⟨b,off+j*5+4,none⟩=some (.string x.da)):=by
  intro j x hx W hW;obtain⟨c0,c1,c2,c3,c4⟩:=rv_cells hcell hx;exact⟨hW.cell c0 hbg,hW.cell c1 hbg,hW.cell c2 hbg,hW.cell c3 hbg,hW.cell c4 hbg⟩
 have HZ:=Nm.hide L.z;have HBW:Hid (w.heap.size<w1.heap.size):=by have h1:=L.d.size;rw [World.size_alloc] at h1;show _<_;omega
 have D1:=Dr.start L.d.s;have z0:=L.z x0 (List.mem_of_getElem? hx0);have z1:=L.z x1 (List.mem_of_getElem? hx1');obtain⟨c0,c1,c2,c3,c4⟩:=HC.out 0 x0 hx0 w1 D1;obtain⟨d0,d1,d2,d3,d4⟩:=HC.out 1 x1 hx1' w1 D1;have i1:(0:Int)<(xs.length:Int):=by omega
 have i2:(1:Int)<(xs.length:Int):=by omega
 clear hA hgA kA L g1 k1 hcell hc h hx0 hx1';obtain⟨o0,t0,l0,u0,e0⟩:=x0;obtain⟨o1,t1,l1,u1,e1⟩:=x1;simp only [Nat.zero_mul,Nat.add_zero,Nat.one_mul] at c0 c1 c2 c3 c4 d0 d1 d2 d3 d4;go_wp2_with fail
 go_cut [7] from 22 (fun gv wx=>∃ ga gc,gv=.slice ga 2 gc∧wx.ownsRow w1.heap.size 33 5 (.slice ga 2 gc) 2 (rvVs [⟨o0,t0,l0,u0,e0⟩,⟨o1,t1,l1,u1,e1⟩])∧Dr w1 g a n cap wx)
 case first=>
  have hlit:=World.ownsRow_lit (base:=w1.heap.size) (e:=33) (size:=5) w1.drew #[.string o0,.int .i64 t0,.int .i64 l0,.int .i64 u0,.string e0,.string o1,.int .i64 t1,.int .i64 l1,.int .i64 u1,.string e1] 2 (Nat.le_refl _) (by decide) rfl;have DL:=(D1.below (Below.refl _ _).drew).alloc (.cells #[.string o0,.int .i64 t0,.int .i64 l0,.int .i64 u0,.string e0,.string o1,.int .i64 t1,.int .i64 l1,.int .i64 u1,.string e1] 33);have HLD:=Nm.hide (And.intro hlit DL);clear hlit DL;go_region
  all_goals
   go_wp2_with fail
   go_meet
   case rel=>exact⟨_,_,rfl,HLD.out.1,HLD.out.2⟩
 case rest=>
  obtain⟨ga,gc,rfl,hg2,D2⟩:=hcut
  have z2:∀ r∈[(⟨o0,t0,l0,u0,e0⟩:Rr),⟨o1,t1,l1,u1,e1⟩],ZR r:=by
   intro r hr;simp at hr
   rcases hr with rfl|rfl
   ·exact z0
   ·exact z1
  have hbz:=specBuildZone_any (.slice ga 2 gc) [⟨o0,t0,l0,u0,e0⟩,⟨o1,t1,l1,u1,e1⟩] ap wc (CRow.of_owns hg2) (by simp) (by unfold maxLen;omega) (fun r hr=>by have:=(z2 r hr).1;unfold maxLen;omega);obtain⟨ys0,HY0⟩:∃ ys,Hid (ys=[(⟨o0,t0,l0,u0,e0⟩:Rr),⟨o1,t1,l1,u1,e1⟩]):=⟨_,rfl⟩;have hw1c:=D2.size;clear c0 c1 c2 c3 c4 d0 d1 d2 d3 d4 D1;go_wp2_with fail
  refine hbz.mono ?_;rintro e w3 hb;obtain⟨b3,o,zv,ps,c,i,rfl,ho,hzb,hzo⟩:=bz_drawn (N:=3+3*parts) hb z2 (by simp;omega) ha2 hw1c;obtain⟨za,zc,rfl⟩:=own_sl hzo.outer;have bA:=(Below.refl w3.heap.size w3).alloc (Nat.le_refl _) (.cells #[.string o,.slice za ps.length zc] 25);have kz:=blk_new w3 #[.string o,.slice za ps.length zc] 25;have D3:=(D2.below b3).below bA;have hg3:=own_below (own_below hg2 b3) bA;have hzo3:=hzo.below bA;have hz3:=(D2.below b3).size;have hzq:Hid (ZB ps (3+3*parts)∧0<ps.length∧1<=o.size):=⟨hzb.out.1,(hzb.out.2.1 (hzb.out.2.2 (by rw [HF.out,HGO.out]))).1,by rw [(hzb.out.2.1 (hzb.out.2.2 (by rw [HF.out,HGO.out]))).2];exact ha1⟩;clear hb hbz D2 hg2 hzo bA b3 hw1c hzb HF HGO;go_wp2_with fail
  go_loopw [7,11] (fun gv iv wr=>∃ (k:Nat) (ys:List Rr) (o:ByteArray) (zv:Value) (ps:List Zp),2<=k∧k<=xs.length∧iv=.int .i64 k∧0<ys.length∧ys.length<=k∧Hid (∀ r∈ys,ZR r)∧wr.ownsRow w1.heap.size 33 5 gv ys.length (rvVs ys)∧o.size<=20∧Hid (ZB ps (3+3*parts)∧0<ps.length∧1<=o.size)∧ZOwn wr w1.heap.size zv ps∧Blk wr w3.heap.size #[.string o,zv] 25∧Dr w1 g a n cap wr) (fun _ i _=>xs.length-(intOf i).toNat)
  case atStart=>exact⟨2,[⟨o0,t0,l0,u0,e0⟩,⟨o1,t1,l1,u1,e1⟩],o,_,ps,Nat.le_refl _,by omega,rfl,by simp,by simp,z2,hg3,ho,hzq,hzo3,kz,D3⟩
  case round=>
   clear kz D3 hg3 hzo3 hzq ho z2;obtain⟨k,ys,o,zv,ps,hk2,hk,rfl,hy0,hyk,HY,hrow,ho,HZB,hzo,kz,D⟩:=hrel;obtain⟨ra,rc,rfl⟩:=own_sl hrow;obtain⟨za,zc,rfl⟩:=own_sl hzo.outer
   by_cases hlt:k<xs.length
   ·obtain⟨x,hxk⟩:∃ x,xs[k]? =some x:=⟨_,List.getElem?_eq_getElem hlt⟩;have hzx:=HZ.out x (List.mem_of_getElem? hxk);obtain⟨c0,c1,c2,c3,c4⟩:=HC.out k x hxk wr D;have j1:(0:Int)<=(k:Int):=by omega
    have j2:(k:Int)<(xs.length:Int):=by omega
    have hzs:=D.size;clear hxk;obtain⟨ow,ty,cl,tt,da⟩:=x;simp only at c0 c1 c2 c3 c4
    have hrA:=hrow.alloc (.cells #[.string ow,.int .i64 ty,.int .i64 cl,.int .i64 tt,.string da] 33);obtain⟨v',w5,hr,hown5,hkeep5,hgrow⟩:=run_app_keep (P:=Tryz.prog) (wr.alloc (.cells #[.string ow,.int .i64 ty,.int .i64 cl,.int .i64 tt,.string da] 33)) w1.heap.size 30 30 33 i0 _ 5 56 Tryz.underlying30 hi hz0 hz1 hz2 rfl (by decide) _ _ _ hy0 hrA ⟨wr.heap.size,0,none⟩ 1 1 [.string ow,.int .i64 ty,.int .i64 cl,.int .i64 tt,.string da] rfl (cell_newV wr #[.string ow,.int .i64 ty,.int .i64 cl,.int .i64 tt,.string da] 33) (by intro u hu;simp at hu;rcases hu with rfl|rfl|rfl|rfl|rfl<;>rfl) (by unfold maxLen;omega) (by omega) (by simp;omega);have D5:=(D.alloc (.cells #[.string ow,.int .i64 ty,.int .i64 cl,.int .i64 tt,.string da] 33)).row hgrow (fun q hq=>(hrow.lt q hq).1);have hzo5:=(hzo.below ((Below.refl _ _).alloc (Nat.le_refl _) (.cells #[.string ow,.int .i64 ty,.int .i64 cl,.int .i64 tt,.string da] 33))).other hrA (by decide) (by decide) hgrow;have kz5:=blk_grown (blk_alloc kz (.cells #[.string ow,.int .i64 ty,.int .i64 cl,.int .i64 tt,.string da] 33)) hgrow (own_nb hrow kz (by decide));have hys:∀ r∈ys++[(⟨ow,ty,cl,tt,da⟩:Rr)],ZR r:=zr_snoc HY.out hzx
    have hown6:w5.ownsRow w1.heap.size 33 5 v' (ys++[(⟨ow,ty,cl,tt,da⟩:Rr)]).length (rvVs (ys++[(⟨ow,ty,cl,tt,da⟩:Rr)])):=by
     rw [rvVs_app,List.length_append];exact hown5
    obtain⟨va,vc,rfl⟩:=own_sl hown5;have hbz:=specBuildZone_any (.slice va (ys.length+1) vc) (ys++[(⟨ow,ty,cl,tt,da⟩:Rr)]) ap w5 (CRow.of_owns hown6) (by simp;omega) (by unfold maxLen;omega) (fun r hr=>by have:=(hys r hr).1;unfold maxLen;omega);have hs5:=D5.size;clear hrA hown5 hgrow hrow hzo kz;go_wp2_with (at_builtin;refine wpList_app_ran rfl (.tmp 42) (.tmp 47) 30 30 rfl _ _ _ w5 rfl rfl hr ?_)
    clear c0 c1 c2 c3 c4 hr;go_wp2_with fail
    refine hbz.mono ?_;rintro e w6 hb;obtain⟨b6,o',zv',ps',c',i',rfl,ho',hzb',hzo'⟩:=bz_drawn (N:=3+3*parts) hb hys (by simp;omega) ha2 hs5;obtain⟨za',zc',rfl⟩:=own_sl hzo'.outer;have bA:=(Below.refl w6.heap.size w6).alloc (Nat.le_refl _) (.cells #[.string o',.slice za' ps'.length zc'] 25);have kz7:=blk_below (blk_below kz5 b6) bA;have ky7:=blk_new w6 #[.string o',.slice za' ps'.length zc'] 25;have D7:=(D5.below b6).below bA;have HS:=Nm.hide (And.intro hys (And.intro hzb' (And.intro (own_below (own_below hown6 b6) bA) (hzo'.below bA))));have hkeep7:=own_below (own_below hkeep5 b6) bA;have hzo7:=(hzo5.below b6).below bA;have ry:=fun i=>blk_cell ky7 i
    have rz:=fun i=>blk_cell kz7 i
    have fz:=fun i=>blk_frozen kz7 i
    clear hb hbz hown6 hys hzb' hzo' b6 bA hkeep5 hzo5 kz5 D5
    by_cases hcz:c'=0
    ·subst hcz;have hzle:w1.heap.size<=w3.heap.size:=by omega
     have kE:=blk_set (blk_set kz7 0 (.string o')) 1 (.slice za' ps'.length zc');have DE:=(D7.set hzle (.string o') (i:=0)).set hzle (.slice za' ps'.length zc') (i:=1);have hoE:=own_setB (x:=.slice za' ps'.length zc') (i:=1) (own_setB (x:=.string o') (i:=0) HS.out.2.2.1 kz7 (by decide)) (blk_set kz7 0 (.string o')) (by decide);have hzE:=ZOwn.blk (x:=.slice za' ps'.length zc') (i:=1) (ZOwn.blk (x:=.string o') (i:=0) HS.out.2.2.2 kz7 (by decide) (by decide)) (blk_set kz7 0 (.string o')) (by decide) (by decide);have HE:=Nm.hide (And.intro kE (And.intro DE (And.intro hoE hzE)));clear kE DE hoE hzE D7 hkeep7 hzo7 kz7;go_wp2;go_roundw
     case rel=>exact⟨k+1,ys++[(⟨ow,ty,cl,tt,da⟩:Rr)],o',_,ps',by omega,hlt,by go_num,by simp,by simp;omega,HS.out.1,HE.out.2.2.1,ho',⟨HS.out.2.1.out.1,(HS.out.2.1.out.2.1 (by trivial)).1,by rw [(HS.out.2.1.out.2.1 (by trivial)).2];exact HA1.out⟩,HE.out.2.2.2,HE.out.1,HE.out.2.1⟩
     case measure=>simp [intOf];omega
    ·have n0:(c'==0)=false:=by rw [beq_eq_false_iff_ne];exact hcz
     clear hcz ry rz fz ky7;go_wp2;go_roundw
     case rel=>exact⟨k+1,ys,o,_,ps,by omega,hlt,by go_num,hy0,by omega,HY,hkeep7,ho,HZB,hzo7,kz7,D7⟩
     case measure=>simp [intOf];omega
   ·have hkl:k=xs.length:=by omega
    subst hkl;obtain⟨gw,kB⟩:=HB0.out wr D.gr;have Dw:Dr w g a n cap wr:=⟨D.s,gw,hglt,hcode⟩;have rB:=fun i=>blk_cell kB i
    have fB:=fun i=>blk_frozen kB i
    have rz:=fun i=>blk_cell kz i
    have kE:=blk_set (blk_set kB 0 (.string o)) 1 (.slice za ps.length zc);have DE:=(Dw.set (Nat.le_refl _) (.string o) (i:=0)).set (Nat.le_refl _) (.slice za ps.length zc) (i:=1);have hBw:w.heap.size<w1.heap.size:=HBW.out;have hzE:=((hzo.far (i:=0) (y:=.string o) hBw).far (i:=1) (y:=.slice za ps.length zc) hBw).base (Nat.le_of_lt hBw);have rE:=fun i=>blk_cell kE i
    have HE:=Nm.hide (And.intro DE hzE);have i3:¬(xs.length:Int)<(xs.length:Int):=by omega
    clear kE DE hzE Dw gw D hzo hrow kB;go_wp2;refine bodyPost_ret (v:=.agg #[.string o,.slice za ps.length zc]) ?_ rfl ?_
    rotate_left
    ·refine⟨o,_,rfl,ho,ps,?_⟩
     try simp only [and_assoc]
     exact⟨HZB.out.1,HZB.out.2.1,HZB.out.2.2,HE.out.2,HE.out.1.s,HE.out.1.gr⟩
    simp [results,Tryz.results25,go_sem,Result.andThen,rE]
end Go.Proofs.YtfmolgdfjklmpaaGreat
