import Derived.Test.YtfmolgdfjklmpaaGreatJTrM
import Derived.Test.YtfmolgdfjklmpaaGreatJSls
import Derived.Test.YtfmolgdfjklmpaaGreatJCmp2
import Derived.Deep.QuietTactic
import Derived.BigQuiet
import Derived.Test.YtfmolgdfjklmpaaGreatJTbPS
import Derived.Test.YtfmolgdfjklmpaaGreatJMath
namespace Go.Proofs.YtfmolgdfjklmpaaGreat
open Go.RowKit
set_option linter.unusedVariables false
set_option maxRecDepth 100000 in
set_option maxHeartbeats 1600000 in
theorem place1S_any(tb g:Nat)(rv:Value)(k d t:ByteArray)(w:World)(kb:Blk w tb #[.pointer (some ⟨g,0,none⟩)] 162)(kg:Blk w g #[cmpSv,rv] 239):
 Calls Tryz.prog 204 #[.agg #[.string k,.string d],.string t,.pointer (some ⟨tb,0,none⟩)] w fun e w'=>e=.returned (.int .i64 (Nm.ordL k.data.toList t.data.toList))∧Below w.heap.size w w':=by
 have hB:=(Below.refl w.heap.size w).alloc (Nat.le_refl _) (.cells #[.string k,.string d] 242);have rb:=fun i=>blk_cell (blk_below kb hB) i
 have rg:=fun i=>blk_cell (blk_below kg hB) i
 have hc:=fun W=>compare_any' k t W
 unfold cmpSv at rg;generalize Nm.ordL k.data.toList t.data.toList=C at*;go_enter Tryz.func204,Tryz.ntmps204;go_wp2;go_quiet ((go_at_call 152;exact Calls.quiet_of_same (hc _)))
 go_wp2;go_ret;exact⟨rfl,Go.below_drewN hB _⟩
set_option maxRecDepth 100000 in
set_option maxHeartbeats 1600000 in
theorem place1I_any(tb g:Nat)(rv pv:Value)(k t:Int)(w:World)(kb:Blk w tb #[.pointer (some ⟨g,0,none⟩)] 125)(kg:Blk w g #[cmpIv,rv] 180):
 Calls Tryz.prog 184 #[.agg #[.int .i64 k,pv],.int .i64 t,.pointer (some ⟨tb,0,none⟩)] w fun e w'=>e=.returned (.int .i64 (Nm.cmpI k t))∧Below w.heap.size w w':=by
 have hB:=(Below.refl w.heap.size w).alloc (Nat.le_refl _) (.cells #[.int .i64 k,pv] 182);have rb:=fun i=>blk_cell (blk_below kb hB) i
 have rg:=fun i=>blk_cell (blk_below kg hB) i
 have hc:=fun W=>cmp64_any k t W
 unfold cmpIv at rg;generalize Nm.cmpI k t=C at*;go_enter Tryz.func184,Tryz.ntmps184;go_wp2;go_quiet ((go_at_call 148;exact Calls.quiet_of_same (hc _)))
 go_wp2;go_ret;exact⟨rfl,Go.below_drewN hB _⟩
set_option maxRecDepth 100000 in
set_option maxHeartbeats 1600000 in
theorem place1L_any(tb g:Nat)(rv pv kv tv:Value)(ks ts:List ByteArray)(w:World)(kb:Blk w tb #[.pointer (some ⟨g,0,none⟩)] 86)(kg:Blk w g #[cmpLv,rv] 173)
 (hk:Nm.SRow w kv ks) (ht:Nm.SRow w tv ts) (hks:∀ x∈ks,x.size<=1000000000) (hkl:ks.length<=1000000000) (htl:ts.length<=1000000000):
 Calls Tryz.prog 188 #[.agg #[kv,pv],tv,.pointer (some ⟨tb,0,none⟩)] w fun e w'=>e=.returned (.int .i64 (Nm.cmpLs ks ts))∧Below w.heap.size w w':=by
 have hB:=(Below.refl w.heap.size w).alloc (Nat.le_refl _) (.cells #[kv,pv] 175);have rb:=fun i=>blk_cell (blk_below kb hB) i
 have rg:=fun i=>blk_cell (blk_below kg hB) i
 have hc:=fun m=>compare_any kv tv ks ts _ (hk.below (Go.below_drewN hB m)) (ht.below (Go.below_drewN hB m)) hks hkl htl
 unfold cmpLv at rg;obtain⟨ka,kc,rfl,_⟩:=hk;obtain⟨ta,tc,rfl,_⟩:=ht;generalize Nm.cmpLs ks ts=C at*;go_enter Tryz.func188,Tryz.ntmps188;go_wp2;go_quiet ((go_at_call 108;exact Calls.quiet_of (hc _)))
 go_wp2;go_ret;exact⟨rfl,Go.below_drewN hB _⟩
set_option maxRecDepth 100000 in
set_option maxHeartbeats 1600000 in
theorem valueOfL_in(g B:Nat)(cmpv rv key fv:Value)(rs:List (Value×Value))(cf:Nat->Int)(k:Nat)(p:Value×Value)(w:World)(hg:Blk w g #[cmpv,rv] 173)(h:w.ownsRow B 175 2 rv rs.length (rowCs rs))(hl:rs.length<=1000000)
 (hf:∀ (tb i:Nat) (p:Value×Value),rs[i]? =some p->∀ W,Below w.heap.size w W->Blk W tb #[.pointer (some ⟨g,0,none⟩)] 86->Calls Tryz.prog 188 #[.agg #[p.1,p.2],key,.pointer (some ⟨tb,0,none⟩)] W fun e w'=>e=.returned (.int .i64 (cf i))∧Below W.heap.size W w')
 (hm:∀ a b,a<=b->b<rs.length->cf b<0->cf a<0) (hk:Fnd rs.length cf k) (hp:rs[k]? =some p) (h0:cf k=0):
 Calls Tryz.prog 145 #[.pointer (some ⟨g,0,none⟩),key,fv] w fun e w'=>e=.returned p.2∧Below w.heap.size w w':=by
 have hpl:=placeL_any g cmpv rv key rs cf w hg (CRow.of_owns h) hl hf hm;have hkl:=(List.getElem?_eq_some_iff.1 hp).1;have at1:=rowCs_at rs k 1 p hp (by decide);obtain⟨_,a,cap,rfl,hcap,hmx,hc⟩:=CRow.of_owns h;obtain⟨b,off,rfl,hcell⟩:=hc (by omega);have c1:=hcell _ _ at1;have HK:=Nm.hide hk;have H0:=Nm.hide (And.intro hkl h0);unfold maxLen at hmx;have n1:(0:Int)<=(k:Int):=by omega
 have n2:(k:Int)<(rs.length:Int):=by omega
 clear hf hm hk hp h0 h hcell hc at1;go_enter Tryz.func145,Tryz.ntmps145;go_wp2_with fail
 refine hpl.mono ?_;rintro e w1 ⟨k',hk',rfl,b1⟩;obtain rfl:=Fnd.unique HK.out hk';rw [decide_eq_true H0.out.1,decide_eq_true H0.out.2];have kg:=blk_below hg b1;have rg:=fun i=>blk_cell kg i
 have d1:w1.cell? ⟨b,off+k*2+1,none⟩=some p.2:=(b1.cell (World.block_lt_of_cell? w _ c1)).trans c1;have tt:(true&&true)=true:=rfl;clear hpl hk' c1 H0;go_wp2;go_ret;exact⟨rfl,b1⟩
set_option maxRecDepth 100000 in
set_option maxHeartbeats 3200000 in
theorem valueOfL_out(g B:Nat)(cmpv rv:Value)(ka:Option Addr)(kn kc:Nat)(caps:Array Value)(rs:List (Value×Value))(cf:Nat->Int)(k:Nat)(w:World)(ob:Option Nat)(P:Addr->World->World->Prop)(hg:Blk w g #[cmpv,rv] 173)(h:w.ownsRow B 175 2 rv rs.length (rowCs rs))(hl:rs.length<=500000)
 (hf:∀ (tb i:Nat) (p:Value×Value),rs[i]? =some p->∀ W,Below w.heap.size w W->Blk W tb #[.pointer (some ⟨g,0,none⟩)] 86->Calls Tryz.prog 188 #[.agg #[p.1,p.2],(Value.slice ka kn kc),.pointer (some ⟨tb,0,none⟩)] W fun e w'=>e=.returned (.int .i64 (cf i))∧Below W.heap.size W w')
 (hm:∀ a b,a<=b->b<rs.length->cf b<0->cf a<0) (hk:Fnd rs.length cf k) (h0:¬(k<rs.length∧cf k=0))
 (h1:∀ p∈rs,p.1.oneCell'=true∧p.2.oneCell'=true) (hB:B<=w.heap.size)
 (hfr:∀ W,Below w.heap.size w W->Calls Tryz.prog 146 caps W fun e w'=>∃ ux:Addr,e=.returned (Value.pointer (some ux))∧W.grownBy w' ob∧P ux W w') (hob:ob≠some g) (hrv:∀ x,rv.ownBlock=some x->ob≠some x):
 Calls Tryz.prog 145 #[.pointer (some ⟨g,0,none⟩),(Value.slice ka kn kc),.func (.func 146) #[] caps] w fun e w'=>∃ (ux:Addr) (W w1:World) (rv':Value),e=.returned (Value.pointer (some ux))∧Below w.heap.size w W∧W.grownBy w1 ob∧P ux W w1∧Blk w' g #[cmpv,rv'] 173∧w'.ownsRow B 175 2 rv' (rs.length+1) (rowCs (rs.take k++[((Value.slice ka kn kc),(Value.pointer (some ux)))]++rs.drop k))∧Kp2 g rv.ownBlock w1 w'∧(rv'.ownBlock=rv.ownBlock∨∀ x,rv'.ownBlock=some x->w1.heap.size<=x):=by
 have hpl:=placeL_any g cmpv rv (Value.slice ka kn kc) rs cf w hg (CRow.of_owns h) (by omega) hf hm;obtain⟨a,cap,rfl⟩:=own_sl h;have HK:=Nm.hide hk
 have H0:Hid ((decide (k<rs.length)&&decide (cf k=0))=false):=by
  show _=_
  rw [Bool.and_eq_false_iff]
  by_cases hx:k<rs.length
  ·exact .inr (decide_eq_false (fun h=>h0 ⟨hx,h⟩))
  ·exact .inl (decide_eq_false hx)
 clear hf hm hk h0;go_enter Tryz.func145,Tryz.ntmps145;go_wp2_with fail
 refine hpl.mono ?_;rintro e w1 ⟨k',hk',rfl,b1⟩;obtain rfl:=Fnd.unique HK.out hk';rw [H0.out];have kg:=blk_below hg b1;have h2:=own_below h b1;have hfr1:=hfr w1.drew b1.drew;have hkn:k<=rs.length:=HK.out.1;have hgw:=blk_lt hg;clear hpl hk' hfr H0 HK;go_wp2;refine wp_region_last (fun W=>W.cell? ⟨g,1,none⟩=some (.slice a rs.length cap)) 14 (by kernel_rfl) (blk_cell kg 1) (fun hHeld=>?_);refine tkA 0 rfl ?_;refine tkA 1 rfl ?_;refine tkA 2 rfl ?_;refine tkA 3 rfl ?_;refine tkA 4 rfl ?_;refine tkA 5 rfl ?_;refine tkA 6 rfl ?_;refine tkA 7 rfl ?_;refine wpAnyL_one (i:=8) (by kernel_rfl) rfl (fun K hK=>?_);go_simp;refine hfr1.mono ?_;rintro e w2 ⟨ux,rfl,hgr,hP⟩;go_wp2_with fail
 have kg2:Blk w2 g #[cmpv,.slice a rs.length cap] 173:=blk_grown (blk_drew kg) hgr (fun e=>hob e)
 have hrr:w2.ownsRow B 175 2 (.slice a rs.length cap) rs.length (rowCs rs):=h2.drew.kept hgr (by
  cases hv:(Value.slice a rs.length cap).ownBlock with
  |none=>exact .inl rfl
  |some x=>right;intro e;exact hrv x hv e.symm)
 refine hK.out _ _ (blk_cell kg2 1) (fun _=>?_);clear hK K hfr1;refine tkA 9 rfl ?_;have hb2:Below w2.heap.size w2 (w2.alloc (.cells #[(Value.slice ka kn kc),(Value.pointer (some ux))] 175)):=(Below.refl _ _).alloc (Nat.le_refl _) _;have kg3:=blk_below kg2 hb2;refine wpAnyL_one (i:=10) (by kernel_rfl) rfl (fun K hK=>?_);go_simp;refine hK.out _ _ (blk_cell kg3 1) (fun _=>?_);clear hK K;have hwB:B<=w2.heap.size:=by have:=b1.size;have:=hgr.size;simp at this;omega
 have hins:=insertL_any (.slice a rs.length cap) rs.length k (rowCs rs) (Value.slice ka kn kc) (Value.pointer (some ux)) w2.heap.size 1 B _ (own_below hrr hb2) hkn (blk_new w2 #[(Value.slice ka kn kc),(Value.pointer (some ux))] 175) (fun e=>by have:=(hrr.lt _ e).2;omega) (rowCs_one h1) rfl rfl (by omega) (by simp;omega);refine wpAnyL_one (i:=11) (by kernel_rfl) rfl (fun K hK=>?_);go_simp;refine hins.mono ?_;rintro e w3 ⟨rv',rfl,ho3,hg3,hat3⟩;go_wp2_with fail
 rw [rowCs_ins] at ho3
 obtain⟨g',cap',rfl⟩:∃ g' cap',rv'=.slice (some ⟨g',0,none⟩) (rs.length+1) cap':=by
  rcases ho3.2 with⟨_,h0⟩|⟨g',cap',cur,e,_⟩
  ·omega
  ·exact⟨g',cap',e⟩
 have hgg:(Value.slice a rs.length cap).ownBlock≠some g:=by
  intro e
  rcases hrr.2 with⟨h0,_⟩|⟨q,c,cur,e1,_,hh,_⟩
  ·simp only [Value.slice.injEq] at h0;rw [h0.1] at e;cases e
  ·simp only [Value.slice.injEq] at e1;rw [e1.1] at e;simp only [Value.ownBlock,Option.some.injEq] at e;subst e;rw [Blk,hh] at kg2;simp only [Option.some.injEq,Obj.cells.injEq] at kg2;exact absurd kg2.2.1 (by decide)
 have kg4:=blk_grown kg3 hg3 hgg;have rg4:=fun i=>blk_cell kg4 i
 have fg4:=fun i=>blk_frozen kg4 i
 refine hK.out _ _ (blk_cell kg4 1) (fun _=>?_);clear hK K hins;refine wpAnyL_one (i:=12) (by kernel_rfl) rfl (fun K hK=>?_);go_simp;refine hK.out _ _ (blk_cell kg4 1) (fun _=>?_);clear hK K;refine tkA 13 rfl ?_;refine wpAnyL_end (by kernel_rfl) rfl (by kernel_rfl) (fun K hK=>?_);go_simp;refine hK.out _ _ ?_;clear hK K
 have hgn:g'≠g:=by
  intro e;subst e
  rcases ho3.2 with⟨h0,_⟩|⟨q,c,cur,e1,_,hh,_⟩
  ·cases h0
  ·simp only [Value.slice.injEq,Option.some.injEq,Addr.mk.injEq] at e1;obtain⟨⟨rfl,_⟩,_⟩:=e1;rw [Blk,hh] at kg4;simp only [Option.some.injEq,Obj.cells.injEq] at kg4;exact absurd kg4.2.1 (by decide)
 have ho4:=own_far (y:=.slice (some ⟨g',0,none⟩) (rs.length+1) cap') (i:=1) (g:=g) ho3 (by simp [Value.ownBlock];exact hgn);have kg5:=blk_set kg4 1 (.slice (some ⟨g',0,none⟩) (rs.length+1) cap');have hlen:(rs.take k++[((Value.slice ka kn kc),(Value.pointer (some ux)))]++rs.drop k).length=rs.length+1:=by simp;omega
 have hxk:(rs.take k++[((Value.slice ka kn kc),(Value.pointer (some ux)))]++rs.drop k)[k]? =some ((Value.slice ka kn kc),(Value.pointer (some ux))):=by
  have hlk:(rs.take k).length=k:=by rw [List.length_take];omega
  rw [List.append_assoc,List.getElem?_append_right (by omega),hlk];simp
 have c1:(w3.setCell ⟨g,1,none⟩ (.slice (some ⟨g',0,none⟩) (rs.length+1) cap')).cell? ⟨g',k*2+1,none⟩=some (Value.pointer (some ux)):=(ho4.cellAt (k*2+1) (by omega)).trans ((rowCs_at _ k 1 _ hxk (by decide)).trans rfl);have c2:(w3.setCell ⟨g,1,none⟩ (.slice (some ⟨g',0,none⟩) (rs.length+1) cap')).cell? ⟨g,1,none⟩=some (.slice (some ⟨g',0,none⟩) (rs.length+1) cap'):=(blk_cell kg5 1).trans (by simp);have n1:(0:Int)<=(k:Int):=by omega
 have n2:(k:Int)<(rs.length:Int)+1:=by omega
 have hKP:Kp2 g (Value.slice a rs.length cap).ownBlock w2 (w3.setCell ⟨g,1,none⟩ (.slice (some ⟨g',0,none⟩) (rs.length+1) cap')):=by
  refine⟨hg3.os,hg3.tape,hg3.output,?_,fun q hq hne hne2=>?_⟩
  ·have:=hg3.size;simp at this ⊢;omega
  ·rw [heap_setCell_other w3 ⟨g,1,none⟩ q _ (by simpa using hne),hg3.block q (by simp;omega) (fun e=>hne2 e.symm)];exact hb2.block q hq
 have HX:=Nm.hide (And.intro b1 (And.intro hgr (And.intro hP (And.intro kg5 (And.intro ho4 (And.intro hKP hat3))))));clear b1 hgr hP kg5 ho4 hKP hat3 ho3 hg3 kg4 kg3 kg2 kg hrr h2 h hg hb2 rg4 fg4 hxk;go_wp2;go_ret
 exact⟨ux,w1.drew,w2,_,rfl,HX.out.1.drew,HX.out.2.1,HX.out.2.2.1,HX.out.2.2.2.1,HX.out.2.2.2.2.1,HX.out.2.2.2.2.2.1,by
  rcases HX.out.2.2.2.2.2.2 with h|h
  ·exact .inl h
  ·exact .inr (fun x e=>by have:=h x e;simp at this;omega)⟩
end Go.Proofs.YtfmolgdfjklmpaaGreat
