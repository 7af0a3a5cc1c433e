import Derived.Test.YtahpiciofdfipaaGreatJTrD
import Derived.Test.YtahpiciofdfipaaGreatJNqM
import Derived.Test.YtahpiciofdfipaaGreatJGoodM
import Derived.Test.YtahpiciofdfipaaGreatJTiN
import Derived.Test.YtahpiciofdfipaaGreatJNameOKs
import Derived.Test.YtahpiciofdfipaaGreatJUnderM
import Derived.Test.YtahpiciofdfipaaGreatJCmpM
import Derived.BigQuiet
namespace Go.Proofs.YtahpiciofdfipaaGreat
open Go.RowKit
set_option linter.unusedVariables false
theorem e42:([42]:List UInt8)=(⟨#[42]⟩:ByteArray).toList:=by simp [ByteArray.toList_eq]
set_option maxRecDepth 100000 in
set_option maxHeartbeats 6400000 in
theorem l06Asked_any(g:Nat)(a:Option Addr)(n cap:Nat)(o:ByteArray)(v:Value)(ps:List Zp)(C:Nat)(w:World)(h:Src w g a n cap)(hz:ZOwn w C v ps)(hgC:g<C)(hB:ZB ps 240)(hp:0<ps.length)(ho:o.size<=20)(ho1:1<=o.size):
 Calls Tryz.prog 32 #[.pointer (some ⟨g,0,none⟩),.agg #[.string o,v]] w fun e w'=>∃ s:ByteArray,e=.returned (.string s)∧1<=s.size∧s.size<=255∧Src w' g a n cap∧w.grownBy w' (some g):=by
 have HO1:=Nm.hide ho1;clear ho1;obtain⟨hcode,hglt⟩:=src_code h;obtain⟨_,va,vc,rfl,hcap,hmx,hc⟩:=CRow.of_owns hz.outer;obtain⟨b,off,rfl,hcell⟩:=hc hp;have hbg:b≠g:=by have:=(hz.outer.lt b rfl).1;omega
 have D0:=(Dr.start h).alloc (.cells #[.string o,.slice (some ⟨b,off,none⟩) ps.length vc] 25);have k0:=blk_new w #[.string o,.slice (some ⟨b,off,none⟩) ps.length vc] 25;have hgz:(some g:Option Nat)≠some w.heap.size:=by intro e;simp at e;omega
 have HK:Hid (∀ X,(w.alloc (.cells #[.string o,.slice (some ⟨b,off,none⟩) ps.length vc] 25)).grownBy X (some g)->Blk X w.heap.size #[.string o,.slice (some ⟨b,off,none⟩) ps.length vc] 25):=fun X hX=>blk_grown k0 hX hgz
 have HC:Hid (∀ X,Dr w g a n cap X->∀ (j:Nat) (p:Zp),ps[j]? =some p->X.cell? ⟨b,off+j*4,none⟩=some (.string p.1.own)):=fun X hX j p hj=>hX.cell (zp_cells hcell hj).1 hbg
 have HO:Hid (∀ (j:Nat) (p:Zp),ps[j]? =some p->p.1.own.size<=1000):=fun j p hj=>(hB.one p (List.mem_of_getElem? hj)).1
 have hpl:ps.length<=240:=hB.len;have r0:=fun i=>blk_cell k0 i
 have n0:((ps.length:Int)==0)=false:=by rw [beq_eq_false_iff_ne];omega
 clear hc hz hB hcell h;go_enter Tryz.func32,Tryz.ntmps32;go_wp2_with fail
 have kS:Hid (∀ X,Dr w g a n cap X->(w.alloc (.cells #[.string o,.slice (some ⟨b,off,none⟩) ps.length vc] 25)).grownBy X (some g)->X.cell? ⟨w.heap.size,0,none⟩=some (.string o)∧X.cell? ⟨w.heap.size,1,none⟩=some (.slice (some ⟨b,off,none⟩) ps.length vc)∧∀ (j:Nat) (p:Zp),ps[j]? =some p->X.cell? ⟨b,off+j*4,none⟩=some (.string p.1.own)):=fun X hD hX=>⟨(blk_cell (HK.out X hX) 0).trans rfl,(blk_cell (HK.out X hX) 1).trans rfl,HC.out X hD⟩
 have D1:=D0.below (Below.refl _ _).drew;have g1:(w.alloc (.cells #[.string o,.slice (some ⟨b,off,none⟩) ps.length vc] 25)).grownBy (w.alloc (.cells #[.string o,.slice (some ⟨b,off,none⟩) ps.length vc] 25)).drew (some g):=grown_drewS (World.grownBy.refl _ _);clear r0;refine wp_region_last (fun X=>X.cell? ⟨w.heap.size,0,none⟩=some (.string o)∧X.cell? ⟨w.heap.size,1,none⟩=some (.slice (some ⟨b,off,none⟩) ps.length vc)∧∀ (j:Nat) (p:Zp),ps[j]? =some p->X.cell? ⟨b,off+j*4,none⟩=some (.string p.1.own)) 1000 (by kernel_rfl) (kS.out _ D1 g1) (fun hHeld=>?_);refine wpAnyL_take (i:=0) (v:=?_) rfl (by kernel_rfl) (by kernel_rfl) (by kernel_rfl) (by kernel_rfl) (fun _ _ _ h=>h) (Or.inl ⟨by kernel_rfl,?_⟩) (by assumption) ?_;rotate_left 1
 ·(intro W hSW;obtain⟨s1,s2,s3⟩:=hSW;go_simp;try (with_reducible rfl))
 refine wpAnyL_take (i:=1) (v:=?_) rfl (by kernel_rfl) (by kernel_rfl) (by kernel_rfl) (by kernel_rfl) (fun _ _ _ h=>h) (Or.inl ⟨by kernel_rfl,?_⟩) (by assumption) ?_;rotate_left 1
 ·(intro W hSW;obtain⟨s1,s2,s3⟩:=hSW;go_simp;try (with_reducible rfl))
 refine wpAnyL_take (i:=2) (v:=?_) rfl (by kernel_rfl) (by kernel_rfl) (by kernel_rfl) (by kernel_rfl) (fun _ _ _ h=>h) (Or.inl ⟨by kernel_rfl,?_⟩) (by assumption) ?_;rotate_left 1
 ·(intro W hSW;obtain⟨s1,s2,s3⟩:=hSW;go_simp;try (with_reducible rfl))
 refine wpAnyL_take (i:=3) (v:=?_) rfl (by kernel_rfl) (by kernel_rfl) (by kernel_rfl) (by kernel_rfl) (fun _ _ _ h=>h) (Or.inl ⟨by kernel_rfl,?_⟩) (by assumption) ?_;rotate_left 1
 ·(intro W hSW;obtain⟨s1,s2,s3⟩:=hSW;go_simp;try (with_reducible rfl))
 refine wpAnyL_take (i:=4) (v:=?_) rfl (by kernel_rfl) (by kernel_rfl) (by kernel_rfl) (by kernel_rfl) (fun _ _ _ h=>h) (Or.inl ⟨by kernel_rfl,?_⟩) (by assumption) ?_;rotate_left 1
 ·(intro W hSW;obtain⟨s1,s2,s3⟩:=hSW;go_simp;try (with_reducible rfl))
 refine wpAnyL_take (i:=5) (v:=?_) rfl (by kernel_rfl) (by kernel_rfl) (by kernel_rfl) (by kernel_rfl) (fun _ _ _ h=>h) (Or.inl ⟨by kernel_rfl,?_⟩) (by assumption) ?_;rotate_left 1
 ·(intro W hSW;obtain⟨s1,s2,s3⟩:=hSW;go_simp;try (with_reducible rfl))
 refine wpAnyL_one (i:=6) (by kernel_rfl) rfl (fun K hK=>?_);go_simp;refine(l01Next_any g a n cap (ps.length:Int) _ D1.s (by omega)).mono ?_;rintro e w2 ⟨r,rfl,hr0,hr1,hs2,hg2⟩;have hr2:=hr1 (by omega);obtain⟨i,rfl⟩:=Int.eq_ofNat_of_zero_le hr0;have D2:=D1.step hs2 hg2;have g2:=grown_step g1 hg2;have hil:i<ps.length:=by omega
 obtain⟨p,hpi⟩:∃ p,ps[i]? =some p:=⟨_,List.getElem?_eq_getElem hil⟩;have hnm:=HO.out i p hpi;go_wp2_with fail
 refine hK.out _ _ (kS.out _ D2 g2) (fun hHeld=>?_);clear hK K;refine wpAnyL_take (i:=7) (v:=?_) rfl (by kernel_rfl) (by kernel_rfl) (by kernel_rfl) (by kernel_rfl) (fun _ _ _ h=>h) (Or.inl ⟨by kernel_rfl,?_⟩) (by assumption) ?_;rotate_left 1
 ·(intro W hSW;obtain⟨s1,s2,s3⟩:=hSW;go_simp;try (with_reducible rfl))
 refine wpAnyL_take (i:=8) (v:=?_) rfl (by kernel_rfl) (by kernel_rfl) (by kernel_rfl) (by kernel_rfl) (fun _ _ _ h=>h) (Or.inl ⟨by kernel_rfl,?_⟩) (by assumption) ?_;rotate_left 1
 ·(intro W hSW;obtain⟨s1,s2,s3⟩:=hSW;go_simp;try (with_reducible rfl))
 refine wpAnyL_take (i:=9) (v:=.string p.1.own) rfl (by kernel_rfl) (by kernel_rfl) (by kernel_rfl) (by kernel_rfl) (fun _ _ _ h=>h) (Or.inl ⟨by kernel_rfl,?_⟩) (by assumption) ?_
 ·intro W hSW;obtain⟨s1,s2,s3⟩:=hSW;have s4:=s3 i p hpi;clear s3;go_simp
  try (with_reducible rfl)
 refine wpAnyL_take (i:=10) (v:=?_) rfl (by kernel_rfl) (by kernel_rfl) (by kernel_rfl) (by kernel_rfl) (fun _ _ _ h=>h) (Or.inl ⟨by kernel_rfl,?_⟩) (by assumption) ?_;rotate_left 1
 ·(intro W hSW;obtain⟨s1,s2,s3⟩:=hSW;go_simp;try (with_reducible rfl))
 refine wpAnyL_done (by kernel_rfl) ?_;have kz2:=HK.out _ g2;generalize p.1.own=nm at*;clear kS HK HC HO D0 D1 g1 hs2 hg2 hHeld hpi k0 hr1 g2;go_simp;go_wp2_with fail
 refine(l01Next_any g a n cap 9 _ D2.s (by decide)).mono ?_;rintro e w3 ⟨q,rfl,hq0,hq1,hs3,hg3⟩;have hq2:=hq1 (by decide);have D3:=D2.step hs3 hg3;have kz3:=blk_grown kz2 hg3 hgz;clear hq1 hs3 hg3 D2 kz2
 rcases(by omega:q=6∨(q=0∨q=1∨q=2)∨q=3∨q=4∨q=5∨(q=7∨q=8)) with rfl|h|rfl|rfl|rfl|h
 ·have hws:Nm.wsum ((Nm.split nm).getD [])<=254:=by
   cases hq:Nm.split nm with
   |none=>simp [Nm.wsum]
   |some ls=>have:=Nm.split_size hq;simp;omega
  have hlb:=specLabels_any nm w3 (by unfold maxLen;omega);generalize (Nm.split nm).getD []=ls at*;have D3z:=Nm.hide D3.size;have HZB:=Nm.hide (blk_lt kz3);go_wp2_with fail
  refine hlb.mono ?_;rintro e w4 ⟨u,rfl,hou,b4⟩;obtain⟨ua,uc,rfl⟩:=own_sl hou;have D4:=D3.below b4;have kz4:=blk_below kz3 b4;have hgr4:=hou.lt;clear hlb D3 kz3 b4
  cases ls with
  |nil=>
   have hj:=l01Join_any _ [] w4 (Nm.SRow.of_owns hou) (by decide);have hz:=join_len [];generalize (⟨(Nm.joinL []).toArray⟩:ByteArray)=J at*;have hJ:J.size<=2000:=by rw [hz];decide
   clear hz hou hgr4;go_wp2_with fail
   refine hj.mono ?_;rintro e w5 ⟨rfl,b5⟩;have D5:=D4.below b5;have kz5:=blk_below kz4 b5;clear D4 kz4 b5 hj;have hno:=specNameOK_any J w5 (by unfold maxLen;omega);have rz9:=fun i=>blk_cell kz5 i
   cases hq9:(Nm.split J).isSome with
   |true=>
    have HZ9:Hid (1<=(J).size∧(J).size<=255):=by
     obtain⟨l9,e9⟩:=Option.isSome_iff_exists.1 hq9;have:=Nm.split_size e9;exact⟨by omega,by omega⟩
    rw [hq9] at hno;clear hq9;go_wp2_with fail
    refine hno.mono ?_;rintro e w9 ⟨rfl,b9⟩;have D9:=(D5).below b9;go_wp2;go_ret
    exact⟨_,rfl,HZ9.out.1,HZ9.out.2,D9.s,D9.gr⟩
   |false=>
    rw [hq9] at hno;clear hq9 rz9;go_wp2_with fail
    refine hno.mono ?_;rintro e w9 ⟨rfl,b9⟩;have D9:=(D5).below b9;have kz9:=blk_below kz5 b9;have rz9:=fun i=>blk_cell kz9 i
    go_wp2;go_ret
    exact⟨_,rfl,HO1.out,by omega,D9.s,D9.gr⟩
  |cons x t=>
   obtain⟨lb,rfl⟩:∃ lb,ua=some ⟨lb,0,none⟩:=by
    rcases hou.2 with⟨e,h0⟩|⟨g1,c1,cur,e,_⟩
    ·simp at h0
    ·simp only [Value.slice.injEq] at e;exact⟨g1,e.1⟩
   obtain⟨M,HM⟩:∃ M,Hid ((x::t).length=M):=⟨_,rfl⟩
   have hou2:w4.ownsRow w3.heap.size 9 1 (.slice (some ⟨lb,0,none⟩) M uc) M ((x::t).map Value.string):=by
    have h:=hou;rw [HM.out] at h;exact h
   have hc0:w4.cell? ⟨lb,0,none⟩=some (.string x):=(hou2.cellAt 0 (by have:=HM.out;simp at this;omega)).trans rfl;have hf0:=hou2.frozenAt 0;obtain⟨hst,hgs⟩:=hou2.stored 0 (.string ⟨#[97,110,121]⟩);have hlb3:w3.heap.size<=lb:=(hou.lt lb rfl).1;have hM0:(0:Int)<(M:Int):=by have:=HM.out;simp at this;omega
   have hwx:Nm.wsum t<=254:=by simp only [Nm.wsum] at hws;omega
   rw [HM.out]
   by_cases hx:x=⟨#[42]⟩
   ·have hxe:(x.toList==[42])=true:=by rw [e42,ba_eq];exact decide_eq_true hx
    have D4s:=D4.row hgs (fun k hk=>by cases hk;have:=D3z.out;omega);have kz4s:=blk_grown kz4 hgs (by intro e;simp at e;have:=D3z.out;have:=HZB.out;omega);have hj:=l01Join_any (.slice (some ⟨lb,0,none⟩) M uc) (⟨#[97,110,121]⟩::t) (w4.setCell ⟨lb,0,none⟩ (.string ⟨#[97,110,121]⟩)) (Nm.SRow.of_owns (ls:=⟨#[97,110,121]⟩::t) (by rw [show((⟨#[97,110,121]⟩:ByteArray)::t).length=M from HM.out];exact hst)) (by simp only [Nm.wsum];show 1+3+_<=_;omega);have hz:=join_len (⟨#[97,110,121]⟩::t);generalize (⟨(Nm.joinL (⟨#[97,110,121]⟩::t)).toArray⟩:ByteArray)=J at*;have hJ:J.size<=2000:=by rw [hz];simp only [Nm.wsum];show 1+3+_+1<=_;omega
    have HJ:=Nm.hide hj;clear hz hst hgs D4 kz4 hou hou2 hx hj hgr4 hws hwx hlb3;go_wp2_with fail
    refine HJ.out.mono ?_;rintro e w5 ⟨rfl,b5⟩;have D5:=D4s.below b5;have kz5:=blk_below kz4s b5;clear D4s kz4s b5 HJ hc0 hf0;have hno:=specNameOK_any J w5 (by unfold maxLen;omega);have rz9:=fun i=>blk_cell kz5 i
    cases hq9:(Nm.split J).isSome with
    |true=>
     have HZ9:Hid (1<=(J).size∧(J).size<=255):=by
      obtain⟨l9,e9⟩:=Option.isSome_iff_exists.1 hq9;have:=Nm.split_size e9;exact⟨by omega,by omega⟩
     rw [hq9] at hno;clear hq9;go_wp2_with fail
     refine hno.mono ?_;rintro e w9 ⟨rfl,b9⟩;have D9:=(D5).below b9;go_wp2;go_ret
     exact⟨_,rfl,HZ9.out.1,HZ9.out.2,D9.s,D9.gr⟩
    |false=>
     rw [hq9] at hno;clear hq9 rz9;go_wp2_with fail
     refine hno.mono ?_;rintro e w9 ⟨rfl,b9⟩;have D9:=(D5).below b9;have kz9:=blk_below kz5 b9;have rz9:=fun i=>blk_cell kz9 i
     go_wp2;go_ret;exact⟨_,rfl,HO1.out,by omega,D9.s,D9.gr⟩
   ·have hxe:(x.toList==[42])=false:=by rw [e42,ba_eq];exact decide_eq_false hx
    have hj:=l01Join_any (.slice (some ⟨lb,0,none⟩) M uc) (x::t) w4 (Nm.SRow.of_owns (ls:=x::t) (by rw [HM.out];exact hou2)) (by omega);have hz:=join_len (x::t);generalize (⟨(Nm.joinL (x::t)).toArray⟩:ByteArray)=J at*;have hJ:J.size<=2000:=by rw [hz];omega
    clear hz hst hgs hou hou2 hx hgr4 hws hwx hlb3;go_wp2_with fail
    refine hj.mono ?_;rintro e w5 ⟨rfl,b5⟩;have D5:=D4.below b5;have kz5:=blk_below kz4 b5;clear D4 kz4 b5 hj hc0 hf0;have hno:=specNameOK_any J w5 (by unfold maxLen;omega);have rz9:=fun i=>blk_cell kz5 i
    cases hq9:(Nm.split J).isSome with
    |true=>
     have HZ9:Hid (1<=(J).size∧(J).size<=255):=by
      obtain⟨l9,e9⟩:=Option.isSome_iff_exists.1 hq9;have:=Nm.split_size e9;exact⟨by omega,by omega⟩
     rw [hq9] at hno;clear hq9;go_wp2_with fail
     refine hno.mono ?_;rintro e w9 ⟨rfl,b9⟩;have D9:=(D5).below b9;go_wp2;go_ret
     exact⟨_,rfl,HZ9.out.1,HZ9.out.2,D9.s,D9.gr⟩
    |false=>
     rw [hq9] at hno;clear hq9 rz9;go_wp2_with fail
     refine hno.mono ?_;rintro e w9 ⟨rfl,b9⟩;have D9:=(D5).below b9;have kz9:=blk_below kz5 b9;have rz9:=fun i=>blk_cell kz9 i
     go_wp2;go_ret;exact⟨_,rfl,HO1.out,by omega,D9.s,D9.gr⟩
 case' inr.inl=>
  rcases h with rfl|rfl|rfl
  all_goals
   go_wp2_with fail
   refine(l01Near_any g a n cap nm _ D3.s (by omega)).mono ?_;rintro e w4 ⟨s,rfl,hs,hs4,hg4⟩;have D4:=D3.step hs4 hg4;have kz4:=blk_grown kz3 hg4 hgz;clear D3 kz3 hs4 hg4
 case' inr.inr.inl=>
  go_wp2_with fail
  refine(l01Near_any g a n cap nm _ D3.s (by omega)).mono ?_;rintro e w5 ⟨t,rfl,ht,hs5,hg5⟩;have D5:=D3.step hs5 hg5;have kz5:=blk_grown kz3 hg5 hgz;clear D3 kz3 hs5 hg5;go_wp2_with fail
  refine(l01Near_any g a n cap t _ D5.s ht).mono ?_;rintro e w4 ⟨s,rfl,hs,hs4,hg4⟩;have D4:=D5.step hs4 hg4;have kz4:=blk_grown kz5 hg4 hgz;clear D5 kz5 hs4 hg4
 case' inr.inr.inr.inl=>
  have kzA:=blk_alloc kz3 (.cells #[.string ⟨#[113]⟩,.string ⟨#[119]⟩] 9);have rzA:=fun i=>blk_cell kzA i
  go_wp2_with fail
  refine(l05Sub_any _ [⟨#[113]⟩,⟨#[119]⟩] o _ (srow2 w3 ⟨#[113]⟩ ⟨#[119]⟩) (by decide) (by omega)).mono ?_;rintro e w4 ⟨s,rfl,hs,b4⟩;have D4:=(D3.alloc (.cells #[.string ⟨#[113]⟩,.string ⟨#[119]⟩] 9)).below b4;have kz4:=blk_below kzA b4;have hs9:s.size<=2000:=by rw [hs,show Nm.wsum [(⟨#[113]⟩:ByteArray),⟨#[119]⟩]=4 from rfl];omega
  clear D3 kz3 kzA rzA b4 hs;have hs:=hs9;clear hs9
 case' inr.inr.inr.inr.inl=>
  go_wp2_with fail
  refine(l01Name_any g a n cap _ D3.s).mono ?_;rintro e w4 ⟨s,rfl,_,hs,hs4,hg4⟩;have D4:=D3.step hs4 hg4;have kz4:=blk_grown kz3 hg4 hgz;have hs9:s.size<=2000:=by omega
  clear D3 kz3 hs4 hg4 hs;have hs:=hs9;clear hs9
 case' inr.inr.inr.inr.inr=>
  have hs:nm.size<=2000:=by omega
  have D4:=D3;have kz4:=kz3;clear D3 kz3;generalize nm=s at*;generalize w3=w4 at*
  rcases h with rfl|rfl
 all_goals
  have hno:=specNameOK_any s w4 (by unfold maxLen;omega);have rz9:=fun i=>blk_cell kz4 i
  cases hq9:(Nm.split s).isSome with
  |true=>
   have HZ9:Hid (1<=(s).size∧(s).size<=255):=by
    obtain⟨l9,e9⟩:=Option.isSome_iff_exists.1 hq9;have:=Nm.split_size e9;exact⟨by omega,by omega⟩
   rw [hq9] at hno;clear hq9;go_wp2_with fail
   refine hno.mono ?_;rintro e w9 ⟨rfl,b9⟩;have D9:=(D4).below b9;go_wp2;go_ret
   exact⟨_,rfl,HZ9.out.1,HZ9.out.2,D9.s,D9.gr⟩
  |false=>
   rw [hq9] at hno;clear hq9 rz9;go_wp2_with fail
   refine hno.mono ?_;rintro e w9 ⟨rfl,b9⟩;have D9:=(D4).below b9;have kz9:=blk_below kz4 b9;have rz9:=fun i=>blk_cell kz9 i
   go_wp2;go_ret;exact⟨_,rfl,HO1.out,by omega,D9.s,D9.gr⟩
end Go.Proofs.YtahpiciofdfipaaGreat
