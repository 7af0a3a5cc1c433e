import Derived.Test.YtaceiajcecaapaaGreatJRrM
import Derived.Test.YtaceiajcecaapaaGreatJZrM
import Derived.Test.YtaceiajcecaapaaGreatJZbH
import Derived.Test.YtaceiajcecaapaaGreatJFoldN
import Derived.Test.YtaceiajcecaapaaGreatJTrR
import Derived.Test.YtaceiajcecaapaaGreatJTrM
import Derived.Test.YtaceiajcecaapaaGreatJZnM
import Derived.Test.YtaceiajcecaapaaGreatJTrN
import Derived.RegionTactic
import Derived.BigRegion
import Derived.Deep.RegionHeld3
import Derived.Maps.AppendAt
namespace Go.Proofs.YtaceiajcecaapaaGreat
open Go.RowKit
set_option linter.unusedVariables false
def oneC(r:Rr)(apex:ByteArray):Int:=
 if(Nm.split r.own).isSome=false then 1 else if r.cl≠1 then 19 else if(decide (0<=r.tt)&&decide (r.tt<=2147483647))=false then 18
 else if metaB r.ty=true∨r.ty<0∨65535<r.ty then 6 else if cutCode r.ty r.da≠0 then 7 else if isUnderS r.own apex=false then 22 else 0
set_option maxRecDepth 100000 in
set_option maxHeartbeats 1600000 in
theorem l06One_any(r:Rr)(apex:ByteArray)(w:World)(ho:r.own.size<=maxLen)(ha:apex.size<=maxLen):
 Calls Tryz.prog 44 #[.agg #[.string r.own,.int .i64 r.ty,.int .i64 r.cl,.int .i64 r.tt,.string r.da],.string apex] w fun e w'=>e=.returned (.int .i64 (oneC r apex))∧Below w.heap.size w w':=by
 have hB0:=(Below.refl w.heap.size w).alloc (Nat.le_refl _) (.cells #[.string r.own,.int .i64 r.ty,.int .i64 r.cl,.int .i64 r.tt,.string r.da] 47);have hR0:=RB.new w r 47;have h1:=fun W=>specNameOK_any r.own W ho
 have h2:=fun W=>l04In_any r.tt 2147483647 W
 have h3:=fun W=>l05Meta_any r.ty W
 have h4:=fun W=>specCheckData_any r.ty r.da W
 have h5:=fun W=>specIsUnder_any r.own apex W ho ha
 have hkeep:=fun(W:World) (hb:Below (w.alloc (.cells #[.string r.own,.int .i64 r.ty,.int .i64 r.cl,.int .i64 r.tt,.string r.da] 47)).heap.size (w.alloc (.cells #[.string r.own,.int .i64 r.ty,.int .i64 r.cl,.int .i64 r.tt,.string r.da] 47)) W)=>(And.intro (hR0.below hb) (Nm.below_two hB0 hb))
 obtain⟨Q,hQ⟩:∃ Q,Q=oneC r apex:=⟨_,rfl⟩;rw [<- hQ];unfold oneC at hQ;generalize cutCode r.ty r.da=CC at*;generalize isUnderS r.own apex=IU at*;generalize (Nm.split r.own).isSome=SO at*;generalize (decide (0<=r.tt)&&decide (r.tt<=2147483647))=TT at*;have hmb:∀ b,metaB r.ty=b->True:=fun _ _=>trivial
 generalize metaB r.ty=MB at*;clear hmb;obtain⟨o,ty,cl,tt,da⟩:=r;simp only [RB] at*;obtain⟨c0,c1,c2,c3,c4⟩:=hR0
 cases SO with
 |false=>
  simp only [if_true] at hQ;subst hQ;clear h2 h3 h4 h5;go_enter Tryz.func44,Tryz.ntmps44;go_wp2_with fail
  refine(h1 _).mono ?_;rintro e w1 ⟨rfl,b1⟩;go_wp2;go_ret
  exact⟨rfl,Nm.below_two hB0 b1⟩
 |true=>
  simp only [Bool.true_eq_false,if_false] at hQ
  by_cases hcl:cl=1
  ·rw [if_neg (by simpa using hcl)] at hQ;subst hcl;have ncl:((1:Int) != 1)=false:=rfl
   cases TT with
   |false=>
    simp only [if_true] at hQ;subst hQ;clear h3 h4 h5;go_enter Tryz.func44,Tryz.ntmps44;go_wp2_with fail
    refine(h1 _).mono ?_;rintro e w1 ⟨rfl,b1⟩;obtain⟨⟨d0,d1,d2,d3,d4⟩,e1⟩:=hkeep w1 b1;clear c0 c1 c2 c3 c4;go_wp2_with fail
    refine(h2 _).mono ?_;rintro e w2 ⟨rfl,rfl⟩;go_wp2;go_ret
    exact⟨rfl,e1⟩
   |true=>
    simp only [Bool.true_eq_false,if_false] at hQ
    by_cases hm:MB=true∨ty<0∨65535<ty
    ·rw [if_pos hm] at hQ;subst hQ;clear h4 h5
     cases MB with
     |true=>
      go_enter Tryz.func44,Tryz.ntmps44;go_wp2_with fail
      refine(h1 _).mono ?_;rintro e w1 ⟨rfl,b1⟩;obtain⟨⟨d0,d1,d2,d3,d4⟩,e1⟩:=hkeep w1 b1;clear c0 c1 c2 c3 c4;go_wp2_with fail
      refine(h2 _).mono ?_;rintro e w2 ⟨rfl,rfl⟩;go_wp2_with fail
      refine(h3 _).mono ?_;rintro e w3 ⟨rfl,rfl⟩;go_wp2;go_ret
      exact⟨rfl,e1⟩
     |false=>
      by_cases hneg:ty<0
      ·have n0:decide (ty<0)=true:=decide_eq_true hneg;go_enter Tryz.func44,Tryz.ntmps44;go_wp2_with fail
       refine(h1 _).mono ?_;rintro e w1 ⟨rfl,b1⟩;obtain⟨⟨d0,d1,d2,d3,d4⟩,e1⟩:=hkeep w1 b1;clear c0 c1 c2 c3 c4;go_wp2_with fail
       refine(h2 _).mono ?_;rintro e w2 ⟨rfl,rfl⟩;go_wp2_with fail
       refine(h3 _).mono ?_;rintro e w3 ⟨rfl,rfl⟩;go_wp2;go_ret;exact⟨rfl,e1⟩
      ·have hbig:65535<ty:=by rcases hm with h|h|h;· cases h
                              ·omega
                              ·exact h
       have n0:decide (ty<0)=false:=decide_eq_false hneg;have n1:decide (65535<ty)=true:=decide_eq_true hbig;go_enter Tryz.func44,Tryz.ntmps44;go_wp2_with fail
       refine(h1 _).mono ?_;rintro e w1 ⟨rfl,b1⟩;obtain⟨⟨d0,d1,d2,d3,d4⟩,e1⟩:=hkeep w1 b1;clear c0 c1 c2 c3 c4;go_wp2_with fail
       refine(h2 _).mono ?_;rintro e w2 ⟨rfl,rfl⟩;go_wp2_with fail
       refine(h3 _).mono ?_;rintro e w3 ⟨rfl,rfl⟩;go_wp2;go_ret;exact⟨rfl,e1⟩
    ·rw [if_neg hm] at hQ
     obtain⟨rfl,hneg,hbig⟩:MB=false∧0<=ty∧ty<=65535:=by
      refine⟨?_,?_,?_⟩
      ·cases MB with
       |true=>exact absurd (Or.inl rfl) hm
       |false=>rfl
      ·exact Int.not_lt.1 (fun h=>hm (.inr (.inl h)))
      ·exact Int.not_lt.1 (fun h=>hm (.inr (.inr h)))
     by_cases hc:CC=0
     ·rw [if_neg (by simpa using hc)] at hQ;subst hc
      cases IU with
      |false=>
       simp only [if_true] at hQ;subst hQ;go_enter Tryz.func44,Tryz.ntmps44;go_wp2_with fail
       refine(h1 _).mono ?_;rintro e w1 ⟨rfl,b1⟩;obtain⟨⟨d0,d1,d2,d3,d4⟩,e1⟩:=hkeep w1 b1;clear c0 c1 c2 c3 c4;go_wp2_with fail
       refine(h2 _).mono ?_;rintro e w2 ⟨rfl,rfl⟩;go_wp2_with fail
       refine(h3 _).mono ?_;rintro e w3 ⟨rfl,rfl⟩;go_wp2_with fail
       refine(h4 _).mono ?_;rintro e w4 ⟨rfl,b4⟩;obtain⟨⟨g0,g1,g2,g3,g4⟩,e4⟩:=hkeep w4 (Nm.below_two b1 b4);clear d0 d1 d2 d3 d4;go_wp2_with fail
       refine(h5 _).mono ?_;rintro e w5 ⟨rfl,b5⟩;go_wp2;go_ret
       exact⟨rfl,Nm.below_two e4 b5⟩
      |true=>
       simp only [Bool.true_eq_false,if_false] at hQ;subst hQ;go_enter Tryz.func44,Tryz.ntmps44;go_wp2_with fail
       refine(h1 _).mono ?_;rintro e w1 ⟨rfl,b1⟩;obtain⟨⟨d0,d1,d2,d3,d4⟩,e1⟩:=hkeep w1 b1;clear c0 c1 c2 c3 c4;go_wp2_with fail
       refine(h2 _).mono ?_;rintro e w2 ⟨rfl,rfl⟩;go_wp2_with fail
       refine(h3 _).mono ?_;rintro e w3 ⟨rfl,rfl⟩;go_wp2_with fail
       refine(h4 _).mono ?_;rintro e w4 ⟨rfl,b4⟩;obtain⟨⟨g0,g1,g2,g3,g4⟩,e4⟩:=hkeep w4 (Nm.below_two b1 b4);clear d0 d1 d2 d3 d4;go_wp2_with fail
       refine(h5 _).mono ?_;rintro e w5 ⟨rfl,b5⟩;go_wp2;go_ret;exact⟨rfl,Nm.below_two e4 b5⟩
     ·rw [if_pos (by simpa using hc)] at hQ;subst hQ;have nc:(CC != 0)=true:=by rw [bne_iff_ne];exact hc
      go_enter Tryz.func44,Tryz.ntmps44;go_wp2_with fail
      refine(h1 _).mono ?_;rintro e w1 ⟨rfl,b1⟩;obtain⟨⟨d0,d1,d2,d3,d4⟩,e1⟩:=hkeep w1 b1;clear c0 c1 c2 c3 c4;go_wp2_with fail
      refine(h2 _).mono ?_;rintro e w2 ⟨rfl,rfl⟩;go_wp2_with fail
      refine(h3 _).mono ?_;rintro e w3 ⟨rfl,rfl⟩;go_wp2_with fail
      refine(h4 _).mono ?_;rintro e w4 ⟨rfl,b4⟩;go_wp2;go_ret;exact⟨rfl,Nm.below_two e1 b4⟩
  ·rw [if_pos (by simpa using hcl)] at hQ;subst hQ;have ncl:(cl != 1)=true:=by rw [bne_iff_ne];exact hcl
   clear h2 h3 h4 h5;go_enter Tryz.func44,Tryz.ntmps44;go_wp2_with fail
   refine(h1 _).mono ?_;rintro e w1 ⟨rfl,b1⟩;obtain⟨⟨d0,d1,d2,d3,d4⟩,e1⟩:=hkeep w1 b1;clear c0 c1 c2 c3 c4;go_wp2;go_ret;exact⟨rfl,e1⟩
end Go.Proofs.YtaceiajcecaapaaGreat
namespace Go.Proofs.YtaceiajcecaapaaGreat
open Go.RowKit Go.Shelf
set_option linter.unusedVariables false
attribute [local go_sem] Oper.semAt_some
def RwsL{α:Type}(ka:α->Option Addr)(kn kc:α->Nat)(vf:α->Addr)(n₀:Nat)(W:World)(sv:Value)(zs:List α):Prop:=
 (sv=.slice none 0 0∧zs=[])∨∃ b off cap,sv=.slice (some ⟨b,off,none⟩) zs.length cap∧b<n₀∧(zs.length<=cap∧cap<=maxLen)∧
  ∀ (i:Nat) (x:α),zs[i]? =some x->W.cell? ⟨b,off+i*2,none⟩=some (Value.slice (ka x) (kn x) (kc x))∧W.cell? ⟨b,off+i*2+1,none⟩=some (Value.pointer (some (vf x)))
theorem RwsL.below{α:Type}{ka:α->Option Addr}{kn kc:α->Nat}{vf:α->Addr}{n₀:Nat}{W W':World}{sv:Value}{zs:List α}(h:RwsL ka kn kc vf n₀ W sv zs)(hB:Below n₀ W W'):RwsL ka kn kc vf n₀ W' sv zs:=by
 rcases h with h|⟨b,off,cap,e,hb,hcp,hc⟩
 ·exact .inl h
 ·exact .inr ⟨b,off,cap,e,hb,hcp,fun i x hx=>⟨(hB.cell (p:=⟨b,off+i*2,none⟩) hb).trans (hc i x hx).1,(hB.cell (p:=⟨b,off+i*2+1,none⟩) hb).trans (hc i x hx).2⟩⟩
theorem rwsL_own{α:Type}(ka:α->Option Addr)(kn kc:α->Nat)(vf:α->Addr){w:World}{B e:Nat}{v:Value}(zs:List α)(h:w.ownsRow B e 2 v zs.length (rowCs (zs.map fun x=>((Value.slice (ka x) (kn x) (kc x)),(Value.pointer (some (vf x))))))):RwsL ka kn kc vf w.heap.size w v zs:=by
 have h':=h
 rcases h.2 with⟨rfl,h0⟩|⟨q,cap,cur,rfl,hb,hh,hc1,hc2,hcs,ht⟩
 ·exact .inl ⟨rfl,List.length_eq_zero_iff.1 h0⟩
 ·refine .inr ⟨q,0,cap,rfl,(Array.getElem?_eq_some_iff.1 hh).1,⟨hc1,hc2⟩,fun i x hx=>?_⟩;have hi:=(List.getElem?_eq_some_iff.1 hx).1;have hm:(zs.map fun x=>((Value.slice (ka x) (kn x) (kc x)),(Value.pointer (some (vf x)))))[i]? =some ((Value.slice (ka x) (kn x) (kc x)),(Value.pointer (some (vf x)))):=by simp [hx]
  have a0:=rowCs_at _ i 0 _ hm (by decide);have a1:=rowCs_at _ i 1 _ hm (by decide);have c0:=h'.cellAt (i*2) (by omega);have c1:=h'.cellAt (i*2+1) (by omega);exact⟨by rw [Nat.zero_add,c0];exact a0,by rw [Nat.zero_add,c1];exact a1⟩
set_option maxRecDepth 100000 in
set_option maxHeartbeats 2000000 in
theorem all1nL_in{α:Type}(F:Fence)(n:Nat)(h7:F.fn 119)(hro:F.round=none)(l tb g:Nat)(J:List α->World->Prop)(W:World)
 (kb:W.cell? ⟨tb,0,none⟩=some (.pointer (some ⟨g,0,none⟩))) (kg:W.cell? ⟨g,1,none⟩=some (.slice none 0 0)) (h0:J [] W):
 CallsIn F n Tryz.prog 119 #[.func (.yield l) #[] #[],.pointer (some ⟨tb,0,none⟩)] W fun e W'=>(∃ v,e=.returned v)∧J [] W':=by
 refine callsIn_of_wp Tryz.func119 rfl h7 ?_ hro;simp only [Tryz.ntmps119,List.size_toArray,List.length_cons,List.length_nil,Nat.reduceAdd,Nat.reduceSub,Array.replicate_succ,Array.replicate_zero,List.push_toArray,List.append_toArray,List.nil_append,List.cons_append]
 gi_wp2
 gi_loopw [10] (fun i wr=>i=.int .i64 0∧J [] wr) (fun _ _=>0)
 case atStart=>exact⟨rfl,h0⟩
 case round=>
  obtain⟨rfl,hJs⟩:=hrel
  gi_wp2
  go_end0
  exact⟨⟨_,rfl⟩,hJs⟩
set_option maxRecDepth 100000 in
set_option maxHeartbeats 2000000 in
theorem allL_in(F:Fence)(n:Nat)(h6:F.fn 74)(hro:F.round=none)(p:Option Addr)(w:World):
 CallsIn F n Tryz.prog 74 #[.pointer p] w fun e w'=>e=.returned (.func (.func 119) #[] #[.pointer (some ⟨w.heap.size,0,none⟩)])∧w'=w.alloc (.cells #[.pointer p] 69):=by
 refine callsIn_of_wp Tryz.func74 rfl h6 ?_ hro;simp only [Tryz.ntmps74,List.size_toArray,List.length_cons,List.length_nil,Nat.reduceAdd,Nat.reduceSub,Array.replicate_succ,Array.replicate_zero,List.push_toArray,List.append_toArray,List.nil_append,List.cons_append]
 gi_wp2
 go_ret;exact⟨rfl,rfl⟩
theorem allStopsL{α:Type}(ka:α->Option Addr)(kn kc:α->Nat)(vf:α->Addr)(F:Fence)(n:Nat)(h7:F.fn 119)(hro:F.round=none)(hn:1<=n)(tb g n₀:Nat)(sv:Value)(zs:List α)(hl:zs.length<=1000000)(w:World)(htb:tb<w.heap.size)(hg:g<n₀)(hn₀:n₀<=w.heap.size)
 (kb:w.cell? ⟨tb,0,none⟩=some (.pointer (some ⟨g,0,none⟩))) (kg:w.cell? ⟨g,1,none⟩=some sv) (hR:RwsL ka kn kc vf n₀ w sv zs):
 SeqStopsK F n Tryz.prog 119 #[.pointer (some ⟨tb,0,none⟩)] (fun x:α=>#[(Value.slice (ka x) (kn x) (kc x)),(Value.pointer (some (vf x)))]) (Below n₀) (fun ys=>ys=zs) (fun pre=>pre<+:zs) zs.length w:=fun l J Jx W hW hJ _ hY h0=>by
 have kb':=(hW.cell (p:=⟨tb,0,none⟩) htb).trans kb;have kg':=(hW.cell (p:=⟨g,1,none⟩) (Nat.lt_of_lt_of_le hg hn₀)).trans kg
 rcases hR.below (hW.mono hn₀) with⟨rfl,rfl⟩|⟨b,off,cap,rfl,hb,hcp,hcs⟩
 ·exact(all1nL_in F n h7 hro l tb g J W kb' kg' h0).mono fun e W' ⟨he,hj⟩=>⟨he,.inl ⟨_,rfl,hj⟩⟩
 ·exact all1L_in ka kn kc vf F n h7 hro hn l tb g n₀ b off cap (.pointer none) zs hl hcp hb J Jx (fun s W1 W2 hs hgr=>hJ s W1 W2 none hs hgr (fun r e=>by cases e)) hY W kb' kg' hcs (Nat.le_trans hn₀ hW.size) h0
end Go.Proofs.YtaceiajcecaapaaGreat
namespace Go.Proofs.YtaceiajcecaapaaGreat
open Go.RowKit
set_option linter.unusedVariables false
def ownB(t:Int)(d:ByteArray):Bool:= !metaB t&&(cutCode t d==0)
def listB(xs:List Rr):Bool:=decide (xs.length<=400)&&xs.all rcOK
theorem Tryz.infoRrq:(Tryz.prog.info? 47).map (fun i=>(i.zero,i.size,i.bytes))=some (some (.agg #[.string ByteArray.empty,.int .i64 0,.int .i64 0,.int .i64 0,.string ByteArray.empty]),5,56):=by kernel_rfl
set_option maxRecDepth 100000 in
set_option maxHeartbeats 3200000 in
theorem l06SetRecords_any(s:Sz)(dv:Value)(w:World)(h:Nm.SRow w dv s.da)(hl:s.da.length<=1048576):
 Calls Tryz.prog 52 #[.agg #[.string s.own,.int .i64 s.ty,.int .i64 s.tt,dv]] w fun e w'=>∃ u,e=.returned u∧w'.ownsRow w.heap.size 47 5 u (recsOf s).length (rvVs (recsOf s))∧Below w.heap.size w w':=by
 obtain⟨i0,hi,hz0,hz1,hz2⟩:=info_parts Tryz.infoRrq;have hrl:=recsOf_len s;have hget:=fun(k:Nat) (d:ByteArray) (h:s.da[k]? =some d)=>recsOf_get (s:=s) h
 generalize recsOf s=rs at*;obtain⟨o,ty,tt,da⟩:=s;simp only at*
 have hB0:=(Below.refl w.heap.size w).alloc (Nat.le_refl _) (.cells #[.string o,.int .i64 ty,.int .i64 tt,dv] 65);have hrow:=h.below hB0;have hbx:=blk_new w #[.string o,.int .i64 ty,.int .i64 tt,dv] 65;obtain⟨a,cap,rfl,hcap,hmx,hnl,hc⟩:=hrow;clear h;unfold maxLen at hmx;go_enter Tryz.func52,Tryz.ntmps52;go_wp2;have hsz0:(w.alloc (.cells #[.string o,.int .i64 ty,.int .i64 tt,.slice a da.length cap] 65)).heap.size=w.heap.size+1:=by simp
 generalize w.alloc (.cells #[.string o,.int .i64 ty,.int .i64 tt,.slice a da.length cap] 65)=w0 at*;have o0:=World.ownsRow_lit (base:=w0.heap.size) (e:=47) (size:=5) w0 #[] 0 (Nat.le_refl _) (by decide) rfl
 have hall:∀ W,Below w0.heap.size w0 W->∀ (k:Nat) (x:ByteArray),da[k]? =some x->∃ b off,a=some ⟨b,off,none⟩∧W.cell? ⟨b,off+k,none⟩=some (.string x):=by
  intro W hW k x hx;obtain⟨b,off,rfl,hcell⟩:=hc (by intro h;rw [h] at hx;simp at hx);have h0:=hcell k x hx;exact⟨b,off,rfl,(hW.cell (World.block_lt_of_cell? w0 _ h0)).trans h0⟩
 have hbox:∀ W,Below w0.heap.size w0 W->W.cell? ⟨w.heap.size,0,none⟩=some (.string o)∧W.cell? ⟨w.heap.size,1,none⟩=some (.int .i64 ty)∧W.cell? ⟨w.heap.size,2,none⟩=some (.int .i64 tt)∧W.cell? ⟨w.heap.size,3,none⟩=some (.slice a da.length cap):=by
  intro W hW;have hb:=blk_below hbx hW;exact⟨(blk_cell hb 0).trans rfl,(blk_cell hb 1).trans rfl,(blk_cell hb 2).trans rfl,(blk_cell hb 3).trans rfl⟩
 clear hc hbx
 go_loopw [3,4] (fun vo vi wr=>∃ k:Nat,k<=da.length∧vi=.int .i64 k∧wr.ownsRow w0.heap.size 47 5 vo k (rvVs (rs.take k))∧Below w0.heap.size w0 wr) (fun _ vi _=>da.length-(intOf vi).toNat)
 case atStart=>exact⟨0,Nat.zero_le _,rfl,by rw [<- hsz0];exact o0,(Below.refl _ _).alloc (Nat.le_refl _) _⟩
 case round=>
  obtain⟨k,hk,rfl,oO,hbel⟩:=hrel;clear o0;obtain⟨q0,q1,q2,q3⟩:=hbox wr hbel
  by_cases hlt:k<da.length
  ·obtain⟨x,hx⟩:∃ x,da[k]? =some x:=⟨_,List.getElem?_eq_getElem hlt⟩;obtain⟨b,off,rfl,_⟩:=hall wr hbel k x hx
   have hcx:∀ W,Below w0.heap.size w0 W->W.cell? ⟨w.heap.size,0,none⟩=some (.string o)∧W.cell? ⟨w.heap.size,1,none⟩=some (.int .i64 ty)∧W.cell? ⟨w.heap.size,2,none⟩=some (.int .i64 tt)∧W.cell? ⟨w.heap.size,3,none⟩=some (.slice (some ⟨b,off,none⟩) da.length cap)∧W.cell? ⟨b,off+k,none⟩=some (.string x):=by
    intro W hW;obtain⟨y0,y1,y2,y3⟩:=hbox W hW;obtain⟨b',off',he,hcc⟩:=hall W hW k x hx;cases he
    exact⟨y0,y1,y2,y3,hcc⟩
   have HT:Hid (rvVs (rs.take k)++[.string o,.int .i64 ty,.int .i64 1,.int .i64 tt,.string x]=rvVs (rs.take (k+1))):=by
    show _=_
    rw [hget k x hx,rvVs_app];rfl
   have i1:(0:Int)<=(k:Int):=by omega
   have i2:(k:Int)<(da.length:Int):=by omega
   clear hall hbox hget hx;go_wp2_with fail
   refine wp_region_held_drew (S:=fun W=>Below w0.heap.size w0 W) (by kernel_rfl) hbel.drew (fun hHeld=>?_);clear q0 q1 q2 q3;refine wpAnyH_take (i:=0) (v:=?_) rfl (by kernel_rfl) (by kernel_rfl) (by kernel_rfl) (fun _ _ _ h=>h) (Or.inl ⟨by rfl,?_⟩) (by assumption) ?_;rotate_left 1
   ·(intro W hSW;obtain⟨z0,z1,z2,z3,z4⟩:=hcx W hSW;go_simp;try (with_reducible rfl))
   refine wpAnyH_take (i:=1) (v:=?_) rfl (by kernel_rfl) (by kernel_rfl) (by kernel_rfl) (fun _ _ _ h=>h) (Or.inl ⟨by rfl,?_⟩) (by assumption) ?_;rotate_left 1
   ·(intro W hSW;obtain⟨z0,z1,z2,z3,z4⟩:=hcx W hSW;go_simp;try (with_reducible rfl))
   refine wpAnyH_take (i:=2) (v:=?_) rfl (by kernel_rfl) (by kernel_rfl) (by kernel_rfl) (fun _ _ _ h=>h) (Or.inl ⟨by rfl,?_⟩) (by assumption) ?_;rotate_left 1
   ·(intro W hSW;obtain⟨z0,z1,z2,z3,z4⟩:=hcx W hSW;go_simp;try (with_reducible rfl))
   refine wpAnyH_take (i:=3) (v:=?_) rfl (by kernel_rfl) (by kernel_rfl) (by kernel_rfl) (fun _ _ _ h=>h) (Or.inl ⟨by rfl,?_⟩) (by assumption) ?_;rotate_left 1
   ·(intro W hSW;obtain⟨z0,z1,z2,z3,z4⟩:=hcx W hSW;go_simp;try (with_reducible rfl))
   refine wpAnyH_take (i:=4) (v:=?_) rfl (by kernel_rfl) (by kernel_rfl) (by kernel_rfl) (fun _ _ _ h=>h) (Or.inl ⟨by rfl,?_⟩) (by assumption) ?_;rotate_left 1
   ·(intro W hSW;obtain⟨z0,z1,z2,z3,z4⟩:=hcx W hSW;go_simp;try (with_reducible rfl))
   refine wpAnyH_take (i:=5) (v:=?_) rfl (by kernel_rfl) (by kernel_rfl) (by kernel_rfl) (fun _ _ _ h=>h) (Or.inl ⟨by rfl,?_⟩) (by assumption) ?_;rotate_left 1
   ·(intro W hSW;obtain⟨z0,z1,z2,z3,z4⟩:=hcx W hSW;go_simp;try (with_reducible rfl))
   refine wpAnyH_take (i:=6) (v:=?_) rfl (by kernel_rfl) (by kernel_rfl) (by kernel_rfl) (fun _ _ _ h=>h) (Or.inl ⟨by rfl,?_⟩) (by assumption) ?_;rotate_left 1
   ·(intro W hSW;obtain⟨z0,z1,z2,z3,z4⟩:=hcx W hSW;go_simp;try (with_reducible rfl))
   refine wpAnyH_take (i:=7) (v:=?_) rfl (by kernel_rfl) (by kernel_rfl) (by kernel_rfl) (fun _ _ _ h=>h) (Or.inl ⟨by rfl,?_⟩) (by assumption) ?_;rotate_left 1
   ·(intro W hSW;obtain⟨z0,z1,z2,z3,z4⟩:=hcx W hSW;go_simp;try (with_reducible rfl))
   refine wpAnyH_take (i:=8) (v:=?_) rfl (by kernel_rfl) (by kernel_rfl) (by kernel_rfl) (fun _ _ _ h=>h) (Or.inl ⟨by rfl,?_⟩) (by assumption) ?_;rotate_left 1
   ·(intro W hSW;obtain⟨z0,z1,z2,z3,z4⟩:=hcx W hSW;go_simp;try (with_reducible rfl))
   refine wpAnyH_take (i:=9) (v:=?_) rfl (by kernel_rfl) (by kernel_rfl) (by kernel_rfl) (fun _ _ _ h=>h) (Or.inl ⟨by rfl,?_⟩) (by assumption) ?_;rotate_left 1
   ·(intro W hSW;obtain⟨z0,z1,z2,z3,z4⟩:=hcx W hSW;go_simp;try (with_reducible rfl))
   refine wpAnyH_take (i:=10) (v:=?_) rfl (by kernel_rfl) (by kernel_rfl) (by kernel_rfl) (fun _ _ _ h=>h) (Or.inl ⟨by rfl,?_⟩) (by assumption) ?_;rotate_left 1
   ·(intro W hSW;obtain⟨z0,z1,z2,z3,z4⟩:=hcx W hSW;go_simp;try (with_reducible rfl))
   refine wpAnyH_take (i:=11) (v:=?_) rfl (by kernel_rfl) (by kernel_rfl) (by kernel_rfl) (fun _ _ _ h=>h) (Or.inl ⟨by rfl,?_⟩) (by assumption) ?_;rotate_left 1
   ·(intro W hSW;obtain⟨z0,z1,z2,z3,z4⟩:=hcx W hSW;go_simp;try (with_reducible rfl))
   refine wpAnyH_take (i:=12) (v:=?_) rfl (by kernel_rfl) (by kernel_rfl) (by kernel_rfl) (fun _ _ _ h=>h) (Or.inl ⟨by rfl,?_⟩) (by assumption) ?_;rotate_left 1
   ·(intro W hSW;obtain⟨z0,z1,z2,z3,z4⟩:=hcx W hSW;go_simp;try (with_reducible rfl))
   refine wpAnyH_ready (rs:=[13]) (by kernel_rfl) (by simp) ?_;refine AllReadyH.cons rfl (fun K hK=>?_) AllReadyH.nil;go_simp;refine hK.out _ _ (hHeld.alloc hHeld.size _) (fun _=>?_);clear hK K;refine wpAnyH_ready (rs:=[14]) (by kernel_rfl) (by simp) ?_;refine AllReadyH.cons rfl (fun K hK=>?_) AllReadyH.nil;refine step_append_own rfl (.tmp 13) (.tmp 26) 34 rfl w0.heap.size 47 i0 _ 5 56 Tryz.underlying34 hi hz0 hz1 hz2 rfl (by decide) _ _ _ (by rfl) (own_below oO ((Below.refl _ _).drew.alloc (Nat.le_refl _) _)) ⟨wr.drew.heap.size,0,none⟩ 1 1 [.string o,.int .i64 ty,.int .i64 1,.int .i64 tt,.string x] (by rfl) rfl (cell_newV _ _ _) (by intro u hu;simp at hu;rcases hu with rfl|rfl|rfl|rfl|rfl<;>rfl) (by unfold maxLen;omega) (by omega) (by have:=hHeld.size;simp at this ⊢;omega) ?_;intro va wa hown' hgrow _;rw [HT.out] at hown';have b4:Below w0.heap.size w0 wa:=(hHeld.alloc hHeld.size _).grown hgrow (by have:=hHeld.size;simp at this ⊢;omega) (fun k hk=>(oO.lt k hk).1);refine hK.out _ _ b4 (fun _=>?_);clear hK K hgrow oO hHeld;refine wpAnyH_take (i:=15) (v:=?_) rfl (by kernel_rfl) (by kernel_rfl) (by kernel_rfl) (fun _ _ _ h=>h) (Or.inl ⟨by rfl,?_⟩) (by assumption) ?_;rotate_left 1
   ·(intro W hSW;obtain⟨z0,z1,z2,z3,z4⟩:=hcx W hSW;go_simp;try (with_reducible rfl))
   refine wpAnyH_done (by kernel_rfl) ?_ _;obtain⟨z0,z1,z2,z3,z4⟩:=hcx _ b4;go_wp2;go_roundw
   case rel=>exact⟨k+1,by omega,by go_num,hown',b4⟩
   case measure=>simp [intOf];omega
  ·have hkl:k=da.length:=by omega
   subst hkl;have i2:(da.length:Int)<=(da.length:Int):=by omega
   clear hall hbox hget;rw [List.take_of_length_le (by omega)] at oO;go_wp2;go_ret;refine⟨_,rfl,?_,Nm.below_two hB0 hbel⟩;rw [hrl];exact own_base oO hB0.size
set_option maxRecDepth 100000 in
set_option maxHeartbeats 3200000 in
theorem l06Join_any(a b:Value)(xs ys:List Rr)(B B2:Nat)(w:World)(h:w.ownsRow B 47 5 a xs.length (rvVs xs))(h':w.ownsRow B2 47 5 b ys.length (rvVs ys))(hB:B<=w.heap.size)(hlt:∀ g,a.ownBlock=some g->g<B2)(hn:xs.length+ys.length<=2000000):
 Calls Tryz.prog 51 #[a,b] w fun e w'=>∃ u,e=.returned u∧w'.ownsRow B 47 5 u (xs++ys).length (rvVs (xs++ys))∧Below B w w':=by
 obtain⟨i0,hi,hz0,hz1,hz2⟩:=info_parts Tryz.infoRrq;obtain⟨ba,bc,rfl⟩:=own_sl h';go_enter Tryz.func51,Tryz.ntmps51;go_wp2
 go_loopw [0,5] (fun vo vi wr=>∃ k:Nat,k<=ys.length∧vi=.int .i64 k∧wr.ownsRow B 47 5 vo (xs.length+k) (rvVs (xs++ys.take k))∧wr.ownsRow B2 47 5 (.slice ba ys.length bc) ys.length (rvVs ys)∧(∀ g,vo.ownBlock=some g->(Value.slice ba ys.length bc).ownBlock≠some g)∧B<=wr.heap.size∧Below B w wr) (fun _ vi _=>ys.length-(intOf vi).toNat)
 case atStart=>
  refine⟨0,Nat.zero_le _,rfl,by simpa using h,h',fun g hg e=>?_,hB,Below.refl _ _⟩;have h1:=hlt g hg;have h2:=(h'.lt g e).1;omega
 case round=>
  obtain⟨k,hk,rfl,oO,oY,hap,hBw,hbel⟩:=hrel;clear h h' hlt hB
  by_cases hlt:k<ys.length
  ·obtain⟨x,hx⟩:∃ x,ys[k]? =some x:=⟨_,List.getElem?_eq_getElem hlt⟩;obtain⟨_,ya,yc,hyv,hycap,hymx,hyc⟩:=CRow.of_owns oY;simp only [Value.slice.injEq] at hyv;obtain⟨rfl,_,rfl⟩:=hyv;obtain⟨b,off,rfl,hcell⟩:=hyc (by omega);obtain⟨c0,c1,c2,c3,c4⟩:=rv_cells hcell hx
   have HT:Hid (rvVs (xs++ys.take k)++[.string x.own,.int .i64 x.ty,.int .i64 x.cl,.int .i64 x.tt,.string x.da]=rvVs (xs++ys.take (k+1))):=by
    show _=_
    rw [List.take_add_one,hx,<- List.append_assoc,rvVs_app (xs++ys.take k)];rfl
   have i1:(0:Int)<=(k:Int):=by omega
   have i2:(k:Int)<(ys.length:Int):=by omega
   clear hcell hyc hx;obtain⟨o,ty,cl,tt,da⟩:=x;simp only at c0 c1 c2 c3 c4 HT
   obtain⟨oa,oc,hov⟩:=own_sl oO;subst hov;go_wp2_with (at_builtin;refine wpList_append_own_at _ rfl (.tmp 12) (.tmp 17) 34 rfl B 47 i0 _ 5 56 Tryz.underlying34 hi hz0 hz1 hz2 rfl (by decide) (.slice oa (xs.length+k) oc) (xs.length+k) (rvVs (xs++ys.take k)) rfl (own_below oO ((Below.refl _ _).alloc (Nat.le_refl _) _)) ⟨wr.heap.size,0,none⟩ 1 1 [.string o,.int .i64 ty,.int .i64 cl,.int .i64 tt,.string da] rfl rfl (cell_newV _ _ _) (by intro u hu;simp at hu;rcases hu with rfl|rfl|rfl|rfl|rfl<;>rfl) (by unfold maxLen;omega) (by omega) (by simp;omega) ?_;intro va wa ho9 hg9 hnl9 hat9)
   rw [HT.out] at ho9;have oY2:=own_below oY ((Below.refl _ _).alloc (Nat.le_refl _) (.cells #[.string o,.int .i64 ty,.int .i64 cl,.int .i64 tt,.string da] 47))
   have oY3:wa.ownsRow B2 47 5 (.slice (some ⟨b,off,none⟩) ys.length bc) ys.length (rvVs ys):=by
    refine oY2.kept hg9 ?_
    cases hoa:(Value.slice oa (xs.length+k) oc).ownBlock with
    |none=>right;simp [Value.ownBlock]
    |some g=>right;exact hap g hoa
   have hlty:=(oY.lt b rfl).2
   have hap2:∀ g,va.ownBlock=some g->(Value.slice (some ⟨b,off,none⟩) ys.length bc).ownBlock≠some g:=by
    intro g hg
    rcases hat9 with h9|h9
    ·exact hap g (by rw [<- h9];exact hg)
    ·rw [h9] at hg;simp only [Option.some.injEq,Value.ownBlock,ne_eq] at hg ⊢;simp at hg;omega
   have b4:Below B w wa:=(hbel.alloc hBw _).grown hg9 (by simp;omega) (fun g hg=>(oO.lt g hg).1);have hB4:B<=wa.heap.size:=by have:=hg9.size;simp at this;omega
   clear hat9 hnl9 hg9 oY oY2 oO hap;go_wp2;go_roundw
   case rel=>exact⟨k+1,by omega,by go_num,ho9,oY3,hap2,hB4,b4⟩
   case measure=>simp [intOf];omega
  ·have hkl:k=ys.length:=by omega
   subst hkl;have i2:(ys.length:Int)<=(ys.length:Int):=by omega
   rw [List.take_length] at oO;clear oY hap;go_wp2;go_ret;refine⟨_,rfl,?_,hbel⟩;rw [List.length_append];exact oO
set_option maxRecDepth 100000 in
set_option maxHeartbeats 1600000 in
theorem l06Count_any(o:ByteArray)(v:Value)(ps:List Zp)(w:World)(h:ZRow w v ps)(hs:zsum ps<=1048576)(hl:ps.length<=1048576):
 Calls Tryz.prog 25 #[.agg #[.string o,v]] w fun e w'=>e=.returned (.int .i64 (dsum ps:Int))∧Below w.heap.size w w':=by
 have hds:=dsum_le ps;have hB0:=(Below.refl w.heap.size w).alloc (Nat.le_refl _) (.cells #[.string o,v] 32);have hbx:=blk_new w #[.string o,v] 32;obtain⟨⟨_,a,cap,rfl,hcap,hmx,hc⟩,hd⟩:=h;unfold maxLen at hmx;have hb1:=(blk_cell hbx 1).trans rfl;go_enter Tryz.func25,Tryz.ntmps25;go_wp2
 go_loop [3,4] (fun t i=>∃ k:Nat,k<=ps.length∧i=.int .i64 k∧t=.int .i64 (dsum (ps.take k):Int)) (fun _ i=>ps.length-(intOf i).toNat)
 case atStart=>exact⟨0,Nat.zero_le _,rfl,by simp [dsum]⟩
 case round=>
  obtain⟨k,hk,rfl,rfl⟩:=hrel
  by_cases hlt:k<ps.length
  ·obtain⟨x,hxk⟩:∃ x,ps[k]? =some x:=⟨_,List.getElem?_eq_getElem hlt⟩;obtain⟨b,off,rfl,hcell⟩:=hc (by omega);obtain⟨c0,c1,c2,c3⟩:=zp_cells hcell hxk;have c3':=(hB0.cell (World.block_lt_of_cell? w _ c3)).trans c3;have HS:=dsum_step ps k x hxk;have hs1:=dsum_take_le ps (k+1);obtain⟨da',dc,hdv,_⟩:=hd x (List.mem_of_getElem? hxk);have i1:(0:Int)<=(k:Int):=by omega
   have i2:(k:Int)<(ps.length:Int):=by omega
   have hfin:((dsum (ps.take (k+1)):Nat):Int)=(dsum (ps.take k):Int)+(x.1.da.length:Int):=by omega
   have hbd:(dsum (ps.take k):Int)+(x.1.da.length:Int)<=1048576:=by omega
   clear hxk hcell hc hd;obtain⟨⟨o1,ty,tt,da⟩,dv⟩:=x;simp only at c3' hdv hfin hbd
   subst hdv;generalize hz:dsum (ps.take (k+1))=z1 at*;generalize dsum (ps.take k)=z0 at*;go_wp2
   go_round
   case rel=>exact⟨k+1,by omega,by go_num,by rw [hz,hfin]⟩
   case measure=>simp [intOf];omega
  ·have hkl:k=ps.length:=by omega
   subst hkl;clear hc hd;have i2:(ps.length:Int)<=(ps.length:Int):=by omega
   rw [List.take_length];go_wp2;go_ret;exact⟨rfl,hB0⟩
set_option maxRecDepth 100000 in
set_option maxHeartbeats 3200000 in
theorem specZoneRecords_any(o:ByteArray)(v:Value)(ps:List Zp)(w:World)(h:ZRow w v ps)(hs:zsum ps<=1048576)(hl:ps.length<=1048576):
 Calls Tryz.prog 27 #[.agg #[.string o,v]] w fun e w'=>∃ u,e=.returned u∧w'.ownsRow w.heap.size 47 5 u (zoneRecs ps).length (rvVs (zoneRecs ps))∧Below w.heap.size w w':=by
 obtain⟨RS,hRS⟩:∃ R,R=zoneRecs ps:=⟨_,rfl⟩;rw [<- hRS];unfold zoneRecs at hRS;have hB0:=(Below.refl w.heap.size w).alloc (Nat.le_refl _) (.cells #[.string o,v] 32);have hbx:=blk_new w #[.string o,v] 32;have hrow:=h.below hB0;have hrowW:=h;have hsz0:(w.alloc (.cells #[.string o,v] 32)).heap.size=w.heap.size+1:=by simp
 have o0:=World.ownsRow_lit (base:=(w.alloc (.cells #[.string o,v] 32)).heap.size) (e:=47) (size:=5) (w.alloc (.cells #[.string o,v] 32)) #[] 0 (Nat.le_refl _) (by decide) rfl;obtain⟨⟨_,a,cap,rfl,hcap,hmx,_⟩,_⟩:=h;unfold maxLen at hmx
 by_cases hbig:500<ps.length
 ·have hbig':(500:Int)<(ps.length:Int):=by omega
  obtain rfl:RS=[]:=by rw [hRS,if_pos (.inl hbig)]
  clear hRS hrow;go_enter Tryz.func27,Tryz.ntmps27;go_wp2;go_ret;refine⟨_,rfl,?_,hB0.alloc hB0.size _⟩;rw [hsz0] at o0;exact own_base o0 (by omega)
 ·have hbig':(ps.length:Int)<=500:=by omega
  have hcnt:=fun W (hW:Below (w.alloc (.cells #[.string o,.slice a ps.length cap] 32)).heap.size (w.alloc (.cells #[.string o,.slice a ps.length cap] 32)) W)=>l06Count_any o (.slice a ps.length cap) ps W (hrow.below hW) hs hl
  by_cases hd:500<dsum ps
  ·have hd':(500:Int)<(dsum ps:Int):=by omega
   obtain rfl:RS=[]:=by rw [hRS,if_pos (.inr hd)]
   clear hRS hrow;generalize dsum ps=D at*;go_enter Tryz.func27,Tryz.ntmps27;go_wp2_with (go_at_call 25;refine(hcnt _ ((Below.refl _ _).alloc (Nat.le_refl _) _)).mono ?_;rintro e w1 ⟨rfl,hb1⟩)
   go_ret;refine⟨_,rfl,?_,Nm.below_two (hB0.alloc hB0.size _) hb1⟩;have o1:=own_below o0 hb1;rw [hsz0] at o1;exact own_base o1 (by omega)
  ·have hd':(dsum ps:Int)<=500:=by omega
   have hRS2:RS=recsAll ps:=by rw [hRS,if_neg (by omega)]
   clear hRS;have hdd:∀ k,dsum (ps.take k)<=500:=fun k=>by have:=dsum_take_le ps k;omega
   have hrl:=fun k=>recsAll_len (ps.take k)
   have hstep:=fun(k:Nat) (x:Zp) (h:ps[k]? =some x)=>recsAll_step h
   have hdst:=fun(k:Nat) (x:Zp) (h:ps[k]? =some x)=>dsum_step ps k x h
   have hrun:=hcnt;generalize hDP:dsum ps=D at hrun hd';go_enter Tryz.func27,Tryz.ntmps27;go_wp2_with (go_at_call 25;refine(hrun _ ((Below.refl _ _).alloc (Nat.le_refl _) _)).mono ?_;rintro e w1 ⟨rfl,hb1⟩)
   have hbx1:=blk_below (blk_alloc hbx (.cells #[] 47)) hb1;have hB1:=Nm.below_two (hB0.alloc hB0.size (.cells #[] 47)) hb1;have o1:=own_below o0 hb1;have hb01:Below (w.alloc (.cells #[.string o,.slice a ps.length cap] 32)).heap.size (w.alloc (.cells #[.string o,.slice a ps.length cap] 32)) w1:=Nm.below_two ((Below.refl _ _).alloc (Nat.le_refl _) _) hb1;have hrow1:=hrow.below hb01;rw [hsz0] at o1;clear hcnt hrun hb1 hb01 o0 hrow hbx hB0 hsz0;obtain⟨wb,hwb⟩:∃ wb,wb=w1:=⟨w1,rfl⟩;have hw1b:w.heap.size+1<=w1.heap.size:=blk_lt hbx1
   go_loopw [3,4] (fun vo vi wr=>∃ k:Nat,k<=ps.length∧vi=.int .i64 k∧wr.ownsRow (w.heap.size+1) 47 5 vo (recsAll (ps.take k)).length (rvVs (recsAll (ps.take k)))∧Below (w.heap.size+1) w1 wr) (fun _ vi _=>ps.length-(intOf vi).toNat)
   case atStart=>exact⟨0,Nat.zero_le _,rfl,o1,Below.refl _ _⟩
   case round=>
    obtain⟨k,hk,rfl,oO,hbel⟩:=hrel;clear o1;have hW:Below w.heap.size w wr:=hB1.trans (hbel.mono (by omega));have hbr:Blk wr w.heap.size #[.string o,.slice a ps.length cap] 32:=(hbel.block _ (by omega)).trans hbx1;have q1:wr.cell? ⟨w.heap.size,1,none⟩=some (.slice a ps.length cap):=(blk_cell hbr 1).trans rfl;have hwsz:w.heap.size+1<=wr.heap.size:=blk_lt hbr
    by_cases hlt:k<ps.length
    ·obtain⟨x,hxk⟩:∃ x,ps[k]? =some x:=⟨_,List.getElem?_eq_getElem hlt⟩;obtain⟨⟨_,a',cap',hv,_,_,hc⟩,hsr⟩:=hrowW.below hW;simp only [Value.slice.injEq] at hv;obtain⟨rfl,_,rfl⟩:=hv;obtain⟨b,off,rfl,hcell⟩:=hc (by omega);obtain⟨c0,c1,c2,c3⟩:=zp_cells hcell hxk;have hmem:=List.mem_of_getElem? hxk;have hxl:x.1.da.length<=1048576:=by have:=zsum_mem ps x hmem;unfold zs1 at this;omega
     have hone:=l06SetRecords_any x.1 x.2 wr (hsr x hmem) hxl;have hsp:=hstep k x hxk;have hld:=hdst k x hxk;have hd1:=hdd (k+1);have hl0:=hrl k;have hl1:=recsOf_len x.1;have hjn:=fun U W (h1:W.ownsRow (w.heap.size+1) 47 5 _ (recsAll (ps.take k)).length (rvVs (recsAll (ps.take k)))) (h2:W.ownsRow wr.heap.size 47 5 U (recsOf x.1).length (rvVs (recsOf x.1))) hB=>l06Join_any _ U (recsAll (ps.take k)) (recsOf x.1) (w.heap.size+1) wr.heap.size W h1 h2 hB (fun g hg=>(oO.lt g hg).2) (by omega)
     rw [<- hsp] at hjn;have i1:(0:Int)<=(k:Int):=by omega
     have i2:(k:Int)<(ps.length:Int):=by omega
     clear hcell hc hsr hrowW hstep hdst hrl hdd hsp hld hl0 hl1 hmem hxk;generalize recsAll (ps.take k)=R0 at*;generalize hR1:recsAll (ps.take (k+1))=R1 at*;generalize recsOf x.1=R2 at*;obtain⟨⟨o1,ty,tt,da⟩,dv⟩:=x;simp only at c0 c1 c2 c3 hone
     obtain⟨oa,oc,hov⟩:=own_sl oO;subst hov;go_wp2_with (first|(go_at_call 52;refine hone.mono ?_;rintro e w2 ⟨u,rfl,hu,hb2⟩;have oO2:=own_below oO hb2)|(go_at_call 51;refine(hjn _ _ oO2 hu (by have:=hb2.size;omega)).mono ?_;rintro e w3 ⟨u3,rfl,hu3,hb3⟩))
     go_roundw
     case rel=>exact⟨k+1,by omega,by go_num,by rw [hR1];exact hu3,(hbel.trans (hb2.mono (by omega))).trans hb3⟩
     case measure=>simp [intOf];omega
    ·have hkl:k=ps.length:=by omega
     subst hkl;have i2:(ps.length:Int)<=(ps.length:Int):=by omega
     rw [List.take_length,<- hRS2] at oO;clear hrowW hstep hdst hrl hdd hRS2;go_wp2;go_ret;exact⟨_,rfl,own_base oO (by omega),hW⟩
end Go.Proofs.YtaceiajcecaapaaGreat
