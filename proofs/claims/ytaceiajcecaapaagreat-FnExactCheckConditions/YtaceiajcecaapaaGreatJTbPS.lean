import Derived.Test.YtaceiajcecaapaaGreatJZnM
import Derived.Deep.QuietTactic
import Derived.BigQuiet
import Derived.Test.YtaceiajcecaapaaGreatJTbIS
import Derived.Test.YtaceiajcecaapaaGreatJCRow
namespace Go.Proofs.YtaceiajcecaapaaGreat
open Go.RowKit
set_option linter.unusedVariables false
set_option maxRecDepth 100000 in
set_option maxHeartbeats 3200000 in
theorem bsfS_any(v tgt cp:Value)(rs:List (Value×Value))(cf:Nat->Int)(w:World)(h:CRow w v rs.length 2 (rowCs rs))(hl:rs.length<=1000000)
 (hf:∀ (i:Nat) (p:Value×Value),rs[i]? =some p->∀ W,Below w.heap.size w W->Calls Tryz.prog 198 #[.agg #[p.1,p.2],tgt,cp] W fun e w'=>e=.returned (.int .i64 (cf i))∧Below W.heap.size W w')
 (hm:∀ a b,a<=b->b<rs.length->cf b<0->cf a<0):
 Calls Tryz.prog 197 #[v,tgt,.func (.func 198) #[] #[cp]] w fun e w'=>∃ k:Nat,Fnd rs.length cf k∧e=.returned (.tuple #[.int .i64 (k:Int),.bool (decide (k<rs.length)&&decide (cf k=0))])∧Below w.heap.size w w':=by
 obtain⟨_,a,cap,rfl,hcap,hmx,hc⟩:=h;unfold maxLen at hmx;have HM:=Nm.hide hm;clear hm;go_enter Tryz.func197,Tryz.ntmps197;go_wp2
 go_loopw [9,10] (fun vi vj wr=>∃ i j:Nat,i<=j∧j<=rs.length∧vi=.int .i64 i∧vj=.int .i64 j∧Hid ((∀ q,q<i->cf q<0)∧(∀ q,j<=q->q<rs.length->0<=cf q))∧Below w.heap.size w wr) (fun vi vj _=>(intOf vj).toNat-(intOf vi).toNat)
 case atStart=>exact⟨0,rs.length,Nat.zero_le _,Nat.le_refl _,rfl,rfl,⟨fun q hq=>by omega,fun q h1 h2=>by omega⟩,Below.refl _ _⟩
 case round=>
  obtain⟨i,j,hij,hjl,rfl,rfl,HI,hbel⟩:=hrel
  by_cases hlt:i<j
  ·obtain⟨m,hm⟩:∃ m,m=(i+j) / 2:=⟨_,rfl⟩;have hm1:i<=m:=by omega
   have hm2:m<j:=by omega
   have g1:((i:Int)+(j:Int)) / 2=(m:Int):=by omega
   obtain⟨p,hp⟩:∃ p,rs[m]? =some p:=⟨_,List.getElem?_eq_getElem (by omega)⟩;have at0:=rowCs_at rs m 0 p hp (by decide);have at1:=rowCs_at rs m 1 p hp (by decide);obtain⟨b,off,rfl,hcell⟩:=hc (by omega);have put:∀ {B O:Nat} {z:Value},w.cell? ⟨B,O,none⟩=some z->wr.cell? ⟨B,O,none⟩=some z:=fun h=>(hbel.cell (World.block_lt_of_cell? w _ h)).trans h
   have c0:wr.cell? ⟨b,off+m*2,none⟩=some p.1:=put (hcell _ _ at0);have c1:wr.cell? ⟨b,off+m*2+1,none⟩=some p.2:=put (hcell _ _ at1);have hcl:=hf m p hp wr hbel;have n1:(0:Int)<=(m:Int):=by omega
   have n2:(m:Int)<(rs.length:Int):=by omega
   have n3:(i:Int)<(j:Int):=by omega
   have n4:(j:Int)<=1000000:=by omega
   clear hcell hc at0 at1 hp put hf hm
   by_cases hneg:cf m<0
   ·have HI2:Hid ((∀ q,q<m+1->cf q<0)∧(∀ q,j<=q->q<rs.length->0<=cf q)):=⟨fun q hq=>HM.out q m (by omega) (by omega) hneg,HI.out.2⟩;clear HI;go_wp2_with fail
    refine hcl.mono ?_;rintro e w1 ⟨rfl,b1⟩;go_wp2;go_roundw
    case rel=>exact⟨m+1,j,by omega,hjl,by go_num,rfl,HI2,Nm.below_two hbel b1⟩
    case measure=>simp [intOf];omega
   ·have HI2:Hid ((∀ q,q<i->cf q<0)∧(∀ q,m<=q->q<rs.length->0<=cf q)):=⟨HI.out.1,fun q h1 h2=>by
     rcases Int.lt_or_le (cf q) 0 with h|h
     ·exact absurd (HM.out m q h1 h2 h) hneg
     ·exact h⟩
    have n5:0<=cf m:=by omega
    clear HI hneg;go_wp2_with fail
    refine hcl.mono ?_;rintro e w1 ⟨rfl,b1⟩;go_wp2;go_roundw
    case rel=>exact⟨i,m,hm1,by omega,rfl,rfl,HI2,Nm.below_two hbel b1⟩
    case measure=>simp [intOf];omega
  ·obtain rfl:i=j:=by omega
   have HF:Hid (Fnd rs.length cf i):=⟨hjl,HI.out⟩;have n3:¬(i:Int)<(i:Int):=by omega
   clear HI HM
   by_cases hil:i<rs.length
   ·obtain⟨p,hp⟩:∃ p,rs[i]? =some p:=⟨_,List.getElem?_eq_getElem hil⟩;have at0:=rowCs_at rs i 0 p hp (by decide);have at1:=rowCs_at rs i 1 p hp (by decide);obtain⟨b,off,rfl,hcell⟩:=hc (by omega);have put:∀ {B O:Nat} {z:Value},w.cell? ⟨B,O,none⟩=some z->wr.cell? ⟨B,O,none⟩=some z:=fun h=>(hbel.cell (World.block_lt_of_cell? w _ h)).trans h
    have c0:wr.cell? ⟨b,off+i*2,none⟩=some p.1:=put (hcell _ _ at0);have c1:wr.cell? ⟨b,off+i*2+1,none⟩=some p.2:=put (hcell _ _ at1);have hcl:=hf i p hp wr hbel;have n1:(0:Int)<=(i:Int):=by omega
    have n2:(i:Int)<(rs.length:Int):=by omega
    have HIL:=Nm.hide hil;clear hcell hc at0 at1 hp put hf hil;have e0:(cf i==0)=decide (cf i=0):=by by_cases h:cf i=0<;>simp [h]
    have HE0:=Nm.hide e0;clear e0;go_wp2_with fail
    refine hcl.mono ?_;rintro e w1 ⟨rfl,b1⟩;go_wp2;go_ret2;refine⟨i,HF.out,?_,Nm.below_two hbel b1⟩;rw [decide_eq_true HIL.out,Bool.true_and,<- HE0.out];rfl
   ·have hie:i=rs.length:=by omega
    have n2:(rs.length:Int)<=(i:Int):=by omega
    have HIL:=Nm.hide hil;clear hc hf hil hie;go_wp2;go_ret2;refine⟨i,HF.out,?_,hbel⟩;rw [decide_eq_false HIL.out,Bool.false_and];rfl
set_option maxRecDepth 100000 in
set_option maxHeartbeats 1600000 in
theorem placeS_any(g:Nat)(cmpv rv key:Value)(rs:List (Value×Value))(cf:Nat->Int)(w:World)(hg:Blk w g #[cmpv,rv] 233)(h:CRow w rv rs.length 2 (rowCs rs))(hl:rs.length<=1000000)
 (hf:∀ (tb i:Nat) (p:Value×Value),rs[i]? =some p->∀ W,Below w.heap.size w W->Blk W tb #[.pointer (some ⟨g,0,none⟩)] 152->Calls Tryz.prog 198 #[.agg #[p.1,p.2],key,.pointer (some ⟨tb,0,none⟩)] W fun e w'=>e=.returned (.int .i64 (cf i))∧Below W.heap.size W w')
 (hm:∀ a b,a<=b->b<rs.length->cf b<0->cf a<0):
 Calls Tryz.prog 177 #[.pointer (some ⟨g,0,none⟩),key] w fun e w'=>∃ k:Nat,Fnd rs.length cf k∧e=.returned (.tuple #[.int .i64 (k:Int),.bool (decide (k<rs.length)&&decide (cf k=0))])∧Below w.heap.size w w':=by
 have hB0:=(Below.refl w.heap.size w).alloc (Nat.le_refl _) (.cells #[.pointer (some ⟨g,0,none⟩)] 152);have kb:=blk_new w #[.pointer (some ⟨g,0,none⟩)] 152;have hs:=bsfS_any rv key (.pointer (some ⟨w.heap.size,0,none⟩)) rs cf _ (h.below hB0) hl (fun i p hp W hW=>hf w.heap.size i p hp W (Nm.below_two hB0 hW) (blk_below kb hW)) hm;have kg:=blk_below hg hB0;have rg:=fun i=>blk_cell kg i
 have hmf:∀ (fn:Fn) (first cap:Array Value) (w:World),(Instr.makeFunc fn first cap).run Tryz.prog w=.ok (.func fn first cap) w:=fun _ _ _ _=>rfl
 obtain⟨_,a,cap,rfl,_⟩:=h;clear hf hm;go_enter Tryz.func177,Tryz.ntmps177;go_wp2_with fail
 refine hs.mono ?_;rintro e w1 ⟨k,hk,rfl,b1⟩;have HK:=Nm.hide hk;obtain⟨OK,hOK⟩:∃ OK,(decide (k<rs.length)&&decide (cf k=0))=OK:=⟨_,rfl⟩;rw [hOK];have HOK:=Nm.hide hOK;clear hOK hk hs;go_wp2;go_ret2;exact⟨k,HK.out,by rw [HOK.out];rfl,Nm.below_two hB0 b1⟩
set_option maxRecDepth 100000 in
set_option maxHeartbeats 1600000 in
theorem valueOfS_in(g B:Nat)(cmpv rv key fv:Value)(rs:List (Value×Value))(cf:Nat->Int)(k:Nat)(p:Value×Value)(w:World)(hg:Blk w g #[cmpv,rv] 233)(h:w.ownsRow B 236 2 rv rs.length (rowCs rs))(hl:rs.length<=1000000)
 (hf:∀ (tb i:Nat) (p:Value×Value),rs[i]? =some p->∀ W,Below w.heap.size w W->Blk W tb #[.pointer (some ⟨g,0,none⟩)] 152->Calls Tryz.prog 198 #[.agg #[p.1,p.2],key,.pointer (some ⟨tb,0,none⟩)] W fun e w'=>e=.returned (.int .i64 (cf i))∧Below W.heap.size W w')
 (hm:∀ a b,a<=b->b<rs.length->cf b<0->cf a<0) (hk:Fnd rs.length cf k) (hp:rs[k]? =some p) (h0:cf k=0):
 Calls Tryz.prog 150 #[.pointer (some ⟨g,0,none⟩),key,fv] w fun e w'=>e=.returned p.2∧Below w.heap.size w w':=by
 have hpl:=placeS_any g cmpv rv key rs cf w hg (CRow.of_owns h) hl hf hm;have hkl:=(List.getElem?_eq_some_iff.1 hp).1;have at1:=rowCs_at rs k 1 p hp (by decide);obtain⟨_,a,cap,rfl,hcap,hmx,hc⟩:=CRow.of_owns h;obtain⟨b,off,rfl,hcell⟩:=hc (by omega);have c1:=hcell _ _ at1;have HK:=Nm.hide hk;have H0:=Nm.hide (And.intro hkl h0);unfold maxLen at hmx;have n1:(0:Int)<=(k:Int):=by omega
 have n2:(k:Int)<(rs.length:Int):=by omega
 clear hf hm hk hp h0 h hcell hc at1;go_enter Tryz.func150,Tryz.ntmps150;go_wp2_with fail
 refine hpl.mono ?_;rintro e w1 ⟨k',hk',rfl,b1⟩;obtain rfl:=Fnd.unique HK.out hk';rw [decide_eq_true H0.out.1,decide_eq_true H0.out.2];have kg:=blk_below hg b1;have rg:=fun i=>blk_cell kg i
 have d1:w1.cell? ⟨b,off+k*2+1,none⟩=some p.2:=(b1.cell (World.block_lt_of_cell? w _ c1)).trans c1;have tt:(true&&true)=true:=rfl;clear hpl hk' c1 H0;go_wp2;go_ret;exact⟨rfl,b1⟩
set_option maxRecDepth 100000 in
set_option maxHeartbeats 3200000 in
theorem valueOfS_out(g B:Nat)(cmpv rv:Value)(kx:ByteArray)(caps:Array Value)(rs:List (Value×Value))(cf:Nat->Int)(k:Nat)(w:World)(ob:Option Nat)(P:ByteArray->World->World->Prop)(hg:Blk w g #[cmpv,rv] 233)(h:w.ownsRow B 236 2 rv rs.length (rowCs rs))(hl:rs.length<=500000)
 (hf:∀ (tb i:Nat) (p:Value×Value),rs[i]? =some p->∀ W,Below w.heap.size w W->Blk W tb #[.pointer (some ⟨g,0,none⟩)] 152->Calls Tryz.prog 198 #[.agg #[p.1,p.2],(Value.string kx),.pointer (some ⟨tb,0,none⟩)] W fun e w'=>e=.returned (.int .i64 (cf i))∧Below W.heap.size W w')
 (hm:∀ a b,a<=b->b<rs.length->cf b<0->cf a<0) (hk:Fnd rs.length cf k) (h0:¬(k<rs.length∧cf k=0))
 (h1:∀ p∈rs,p.1.oneCell'=true∧p.2.oneCell'=true) (hB:B<=w.heap.size)
 (hfr:∀ W,Below w.heap.size w W->Calls Tryz.prog 151 caps W fun e w'=>∃ ux:ByteArray,e=.returned (Value.string ux)∧W.grownBy w' ob∧P ux W w') (hob:ob≠some g) (hrv:∀ x,rv.ownBlock=some x->ob≠some x):
 Calls Tryz.prog 150 #[.pointer (some ⟨g,0,none⟩),(Value.string kx),.func (.func 151) #[] caps] w fun e w'=>∃ (ux:ByteArray) (W w1:World) (rv':Value),e=.returned (Value.string ux)∧Below w.heap.size w W∧W.grownBy w1 ob∧P ux W w1∧Blk w' g #[cmpv,rv'] 233∧w'.ownsRow B 236 2 rv' (rs.length+1) (rowCs (rs.take k++[((Value.string kx),(Value.string ux))]++rs.drop k))∧Kp2 g rv.ownBlock w1 w'∧(rv'.ownBlock=rv.ownBlock∨∀ x,rv'.ownBlock=some x->w1.heap.size<=x):=by
 have hpl:=placeS_any g cmpv rv (Value.string kx) rs cf w hg (CRow.of_owns h) (by omega) hf hm;obtain⟨a,cap,rfl⟩:=own_sl h;have HK:=Nm.hide hk
 have H0:Hid ((decide (k<rs.length)&&decide (cf k=0))=false):=by
  show _=_
  rw [Bool.and_eq_false_iff]
  by_cases hx:k<rs.length
  ·exact .inr (decide_eq_false (fun h=>h0 ⟨hx,h⟩))
  ·exact .inl (decide_eq_false hx)
 clear hf hm hk h0;go_enter Tryz.func150,Tryz.ntmps150;go_wp2_with fail
 refine hpl.mono ?_;rintro e w1 ⟨k',hk',rfl,b1⟩;obtain rfl:=Fnd.unique HK.out hk';rw [H0.out];have kg:=blk_below hg b1;have h2:=own_below h b1;have hfr1:=hfr w1.drew b1.drew;have hkn:k<=rs.length:=HK.out.1;have hgw:=blk_lt hg;clear hpl hk' hfr H0 HK;go_wp2;refine wp_region_last (fun W=>W.cell? ⟨g,1,none⟩=some (.slice a rs.length cap)) 14 (by kernel_rfl) (blk_cell kg 1) (fun hHeld=>?_);refine tkA 0 rfl ?_;refine tkA 1 rfl ?_;refine tkA 2 rfl ?_;refine tkA 3 rfl ?_;refine tkA 4 rfl ?_;refine tkA 5 rfl ?_;refine tkA 6 rfl ?_;refine tkA 7 rfl ?_;refine wpAnyL_one (i:=8) (by kernel_rfl) rfl (fun K hK=>?_);go_simp;refine hfr1.mono ?_;rintro e w2 ⟨ux,rfl,hgr,hP⟩;go_wp2_with fail
 have kg2:Blk w2 g #[cmpv,.slice a rs.length cap] 233:=blk_grown (blk_drew kg) hgr (fun e=>hob e)
 have hrr:w2.ownsRow B 236 2 (.slice a rs.length cap) rs.length (rowCs rs):=h2.drew.kept hgr (by
  cases hv:(Value.slice a rs.length cap).ownBlock with
  |none=>exact .inl rfl
  |some x=>right;intro e;exact hrv x hv e.symm)
 refine hK.out _ _ (blk_cell kg2 1) (fun _=>?_);clear hK K hfr1;refine tkA 9 rfl ?_;have hb2:Below w2.heap.size w2 (w2.alloc (.cells #[(Value.string kx),(Value.string ux)] 236)):=(Below.refl _ _).alloc (Nat.le_refl _) _;have kg3:=blk_below kg2 hb2;refine wpAnyL_one (i:=10) (by kernel_rfl) rfl (fun K hK=>?_);go_simp;refine hK.out _ _ (blk_cell kg3 1) (fun _=>?_);clear hK K;have hwB:B<=w2.heap.size:=by have:=b1.size;have:=hgr.size;simp at this;omega
 have hins:=insertS_any (.slice a rs.length cap) rs.length k (rowCs rs) (Value.string kx) (Value.string ux) w2.heap.size 1 B _ (own_below hrr hb2) hkn (blk_new w2 #[(Value.string kx),(Value.string ux)] 236) (fun e=>by have:=(hrr.lt _ e).2;omega) (rowCs_one h1) rfl rfl (by omega) (by simp;omega);refine wpAnyL_one (i:=11) (by kernel_rfl) rfl (fun K hK=>?_);go_simp;refine hins.mono ?_;rintro e w3 ⟨rv',rfl,ho3,hg3,hat3⟩;go_wp2_with fail
 rw [rowCs_ins] at ho3
 obtain⟨g',cap',rfl⟩:∃ g' cap',rv'=.slice (some ⟨g',0,none⟩) (rs.length+1) cap':=by
  rcases ho3.2 with⟨_,h0⟩|⟨g',cap',cur,e,_⟩
  ·omega
  ·exact⟨g',cap',e⟩
 have hgg:(Value.slice a rs.length cap).ownBlock≠some g:=by
  intro e
  rcases hrr.2 with⟨h0,_⟩|⟨q,c,cur,e1,_,hh,_⟩
  ·simp only [Value.slice.injEq] at h0;rw [h0.1] at e;cases e
  ·simp only [Value.slice.injEq] at e1;rw [e1.1] at e;simp only [Value.ownBlock,Option.some.injEq] at e;subst e;rw [Blk,hh] at kg2;simp only [Option.some.injEq,Obj.cells.injEq] at kg2;exact absurd kg2.2.1 (by decide)
 have kg4:=blk_grown kg3 hg3 hgg;have rg4:=fun i=>blk_cell kg4 i
 have fg4:=fun i=>blk_frozen kg4 i
 refine hK.out _ _ (blk_cell kg4 1) (fun _=>?_);clear hK K hins;refine wpAnyL_one (i:=12) (by kernel_rfl) rfl (fun K hK=>?_);go_simp;refine hK.out _ _ (blk_cell kg4 1) (fun _=>?_);clear hK K;refine tkA 13 rfl ?_;refine wpAnyL_end (by kernel_rfl) rfl (by kernel_rfl) (fun K hK=>?_);go_simp;refine hK.out _ _ ?_;clear hK K
 have hgn:g'≠g:=by
  intro e;subst e
  rcases ho3.2 with⟨h0,_⟩|⟨q,c,cur,e1,_,hh,_⟩
  ·cases h0
  ·simp only [Value.slice.injEq,Option.some.injEq,Addr.mk.injEq] at e1;obtain⟨⟨rfl,_⟩,_⟩:=e1;rw [Blk,hh] at kg4;simp only [Option.some.injEq,Obj.cells.injEq] at kg4;exact absurd kg4.2.1 (by decide)
 have ho4:=own_far (y:=.slice (some ⟨g',0,none⟩) (rs.length+1) cap') (i:=1) (g:=g) ho3 (by simp [Value.ownBlock];exact hgn);have kg5:=blk_set kg4 1 (.slice (some ⟨g',0,none⟩) (rs.length+1) cap');have hlen:(rs.take k++[((Value.string kx),(Value.string ux))]++rs.drop k).length=rs.length+1:=by simp;omega
 have hxk:(rs.take k++[((Value.string kx),(Value.string ux))]++rs.drop k)[k]? =some ((Value.string kx),(Value.string ux)):=by
  have hlk:(rs.take k).length=k:=by rw [List.length_take];omega
  rw [List.append_assoc,List.getElem?_append_right (by omega),hlk];simp
 have c1:(w3.setCell ⟨g,1,none⟩ (.slice (some ⟨g',0,none⟩) (rs.length+1) cap')).cell? ⟨g',k*2+1,none⟩=some (Value.string ux):=(ho4.cellAt (k*2+1) (by omega)).trans ((rowCs_at _ k 1 _ hxk (by decide)).trans rfl);have c2:(w3.setCell ⟨g,1,none⟩ (.slice (some ⟨g',0,none⟩) (rs.length+1) cap')).cell? ⟨g,1,none⟩=some (.slice (some ⟨g',0,none⟩) (rs.length+1) cap'):=(blk_cell kg5 1).trans (by simp);have n1:(0:Int)<=(k:Int):=by omega
 have n2:(k:Int)<(rs.length:Int)+1:=by omega
 have hKP:Kp2 g (Value.slice a rs.length cap).ownBlock w2 (w3.setCell ⟨g,1,none⟩ (.slice (some ⟨g',0,none⟩) (rs.length+1) cap')):=by
  refine⟨hg3.os,hg3.tape,hg3.output,?_,fun q hq hne hne2=>?_⟩
  ·have:=hg3.size;simp at this ⊢;omega
  ·rw [heap_setCell_other w3 ⟨g,1,none⟩ q _ (by simpa using hne),hg3.block q (by simp;omega) (fun e=>hne2 e.symm)];exact hb2.block q hq
 have HX:=Nm.hide (And.intro b1 (And.intro hgr (And.intro hP (And.intro kg5 (And.intro ho4 (And.intro hKP hat3))))));clear b1 hgr hP kg5 ho4 hKP hat3 ho3 hg3 kg4 kg3 kg2 kg hrr h2 h hg hb2 rg4 fg4 hxk;go_wp2;go_ret
 exact⟨ux,w1.drew,w2,_,rfl,HX.out.1.drew,HX.out.2.1,HX.out.2.2.1,HX.out.2.2.2.1,HX.out.2.2.2.2.1,HX.out.2.2.2.2.2.1,by
  rcases HX.out.2.2.2.2.2.2 with h|h
  ·exact .inl h
  ·exact .inr (fun x e=>by have:=h x e;simp at this;omega)⟩
end Go.Proofs.YtaceiajcecaapaaGreat
