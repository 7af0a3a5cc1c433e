import Derived.Test.YtmdinnjimioffaaGreatJCmpM
import Derived.Deep.QuietTactic
import Derived.BigQuiet
namespace Go.Proofs.YtmdinnjimioffaaGreat
open Go.RowKit
set_option linter.unusedVariables false
set_option maxRecDepth 100000 in
set_option maxHeartbeats 3200000 in
theorem bsfI_any(v tgt cp:Value)(rs:List (Value×Value))(cf:Nat->Int)(w:World)(h:CRow w v rs.length 2 (rowCs rs))(hl:rs.length<=1000000)
 (hf:∀ (i:Nat) (p:Value×Value),rs[i]? =some p->∀ W,Below w.heap.size w W->Calls Tryz.prog 145 #[.agg #[p.1,p.2],tgt,cp] W fun e w'=>e=.returned (.int .i64 (cf i))∧Below W.heap.size W w')
 (hm:∀ a b,a<=b->b<rs.length->cf b<0->cf a<0):
 Calls Tryz.prog 144 #[v,tgt,.func (.func 145) #[] #[cp]] w fun e w'=>∃ k:Nat,Fnd rs.length cf k∧e=.returned (.tuple #[.int .i64 (k:Int),.bool (decide (k<rs.length)&&decide (cf k=0))])∧Below w.heap.size w w':=by
 obtain⟨_,a,cap,rfl,hcap,hmx,hc⟩:=h;unfold maxLen at hmx;have HM:=Nm.hide hm;clear hm;go_enter Tryz.func144,Tryz.ntmps144;go_wp2
 go_loopw [9,10] (fun vi vj wr=>∃ i j:Nat,i<=j∧j<=rs.length∧vi=.int .i64 i∧vj=.int .i64 j∧Hid ((∀ q,q<i->cf q<0)∧(∀ q,j<=q->q<rs.length->0<=cf q))∧Below w.heap.size w wr) (fun vi vj _=>(intOf vj).toNat-(intOf vi).toNat)
 case atStart=>exact⟨0,rs.length,Nat.zero_le _,Nat.le_refl _,rfl,rfl,⟨fun q hq=>by omega,fun q h1 h2=>by omega⟩,Below.refl _ _⟩
 case round=>
  obtain⟨i,j,hij,hjl,rfl,rfl,HI,hbel⟩:=hrel
  by_cases hlt:i<j
  ·obtain⟨m,hm⟩:∃ m,m=(i+j) / 2:=⟨_,rfl⟩;have hm1:i<=m:=by omega
   have hm2:m<j:=by omega
   have g1:((i:Int)+(j:Int)) / 2=(m:Int):=by omega
   obtain⟨p,hp⟩:∃ p,rs[m]? =some p:=⟨_,List.getElem?_eq_getElem (by omega)⟩;have at0:=rowCs_at rs m 0 p hp (by decide);have at1:=rowCs_at rs m 1 p hp (by decide);obtain⟨b,off,rfl,hcell⟩:=hc (by omega);have put:∀ {B O:Nat} {z:Value},w.cell? ⟨B,O,none⟩=some z->wr.cell? ⟨B,O,none⟩=some z:=fun h=>(hbel.cell (World.block_lt_of_cell? w _ h)).trans h
   have c0:wr.cell? ⟨b,off+m*2,none⟩=some p.1:=put (hcell _ _ at0);have c1:wr.cell? ⟨b,off+m*2+1,none⟩=some p.2:=put (hcell _ _ at1);have hcl:=hf m p hp wr hbel;have n1:(0:Int)<=(m:Int):=by omega
   have n2:(m:Int)<(rs.length:Int):=by omega
   have n3:(i:Int)<(j:Int):=by omega
   have n4:(j:Int)<=1000000:=by omega
   clear hcell hc at0 at1 hp put hf hm
   by_cases hneg:cf m<0
   ·have HI2:Hid ((∀ q,q<m+1->cf q<0)∧(∀ q,j<=q->q<rs.length->0<=cf q)):=⟨fun q hq=>HM.out q m (by omega) (by omega) hneg,HI.out.2⟩;clear HI;go_wp2_with fail
    refine hcl.mono ?_;rintro e w1 ⟨rfl,b1⟩;go_wp2;go_roundw
    case rel=>exact⟨m+1,j,by omega,hjl,by go_num,rfl,HI2,Nm.below_two hbel b1⟩
    case measure=>simp [intOf];omega
   ·have HI2:Hid ((∀ q,q<i->cf q<0)∧(∀ q,m<=q->q<rs.length->0<=cf q)):=⟨HI.out.1,fun q h1 h2=>by
     rcases Int.lt_or_le (cf q) 0 with h|h
     ·exact absurd (HM.out m q h1 h2 h) hneg
     ·exact h⟩
    have n5:0<=cf m:=by omega
    clear HI hneg;go_wp2_with fail
    refine hcl.mono ?_;rintro e w1 ⟨rfl,b1⟩;go_wp2;go_roundw
    case rel=>exact⟨i,m,hm1,by omega,rfl,rfl,HI2,Nm.below_two hbel b1⟩
    case measure=>simp [intOf];omega
  ·obtain rfl:i=j:=by omega
   have HF:Hid (Fnd rs.length cf i):=⟨hjl,HI.out⟩;have n3:¬(i:Int)<(i:Int):=by omega
   clear HI HM
   by_cases hil:i<rs.length
   ·obtain⟨p,hp⟩:∃ p,rs[i]? =some p:=⟨_,List.getElem?_eq_getElem hil⟩;have at0:=rowCs_at rs i 0 p hp (by decide);have at1:=rowCs_at rs i 1 p hp (by decide);obtain⟨b,off,rfl,hcell⟩:=hc (by omega);have put:∀ {B O:Nat} {z:Value},w.cell? ⟨B,O,none⟩=some z->wr.cell? ⟨B,O,none⟩=some z:=fun h=>(hbel.cell (World.block_lt_of_cell? w _ h)).trans h
    have c0:wr.cell? ⟨b,off+i*2,none⟩=some p.1:=put (hcell _ _ at0);have c1:wr.cell? ⟨b,off+i*2+1,none⟩=some p.2:=put (hcell _ _ at1);have hcl:=hf i p hp wr hbel;have n1:(0:Int)<=(i:Int):=by omega
    have n2:(i:Int)<(rs.length:Int):=by omega
    have HIL:=Nm.hide hil;clear hcell hc at0 at1 hp put hf hil;have e0:(cf i==0)=decide (cf i=0):=by by_cases h:cf i=0<;>simp [h]
    have HE0:=Nm.hide e0;clear e0;go_wp2_with fail
    refine hcl.mono ?_;rintro e w1 ⟨rfl,b1⟩;go_wp2;go_ret2;refine⟨i,HF.out,?_,Nm.below_two hbel b1⟩;rw [decide_eq_true HIL.out,Bool.true_and,<- HE0.out];rfl
   ·have hie:i=rs.length:=by omega
    have n2:(rs.length:Int)<=(i:Int):=by omega
    have HIL:=Nm.hide hil;clear hc hf hil hie;go_wp2;go_ret2;refine⟨i,HF.out,?_,hbel⟩;rw [decide_eq_false HIL.out,Bool.false_and];rfl
set_option maxRecDepth 100000 in
set_option maxHeartbeats 1600000 in
theorem placeI_any(g:Nat)(cmpv rv key:Value)(rs:List (Value×Value))(cf:Nat->Int)(w:World)(hg:Blk w g #[cmpv,rv] 152)(h:CRow w rv rs.length 2 (rowCs rs))(hl:rs.length<=1000000)
 (hf:∀ (tb i:Nat) (p:Value×Value),rs[i]? =some p->∀ W,Below w.heap.size w W->Blk W tb #[.pointer (some ⟨g,0,none⟩)] 106->Calls Tryz.prog 145 #[.agg #[p.1,p.2],key,.pointer (some ⟨tb,0,none⟩)] W fun e w'=>e=.returned (.int .i64 (cf i))∧Below W.heap.size W w')
 (hm:∀ a b,a<=b->b<rs.length->cf b<0->cf a<0):
 Calls Tryz.prog 127 #[.pointer (some ⟨g,0,none⟩),key] w fun e w'=>∃ k:Nat,Fnd rs.length cf k∧e=.returned (.tuple #[.int .i64 (k:Int),.bool (decide (k<rs.length)&&decide (cf k=0))])∧Below w.heap.size w w':=by
 have hB0:=(Below.refl w.heap.size w).alloc (Nat.le_refl _) (.cells #[.pointer (some ⟨g,0,none⟩)] 106);have kb:=blk_new w #[.pointer (some ⟨g,0,none⟩)] 106;have hs:=bsfI_any rv key (.pointer (some ⟨w.heap.size,0,none⟩)) rs cf _ (h.below hB0) hl (fun i p hp W hW=>hf w.heap.size i p hp W (Nm.below_two hB0 hW) (blk_below kb hW)) hm;have kg:=blk_below hg hB0;have rg:=fun i=>blk_cell kg i
 have hmf:∀ (fn:Fn) (first cap:Array Value) (w:World),(Instr.makeFunc fn first cap).run Tryz.prog w=.ok (.func fn first cap) w:=fun _ _ _ _=>rfl
 obtain⟨_,a,cap,rfl,_⟩:=h;clear hf hm;go_enter Tryz.func127,Tryz.ntmps127;go_wp2_with fail
 refine hs.mono ?_;rintro e w1 ⟨k,hk,rfl,b1⟩;have HK:=Nm.hide hk;obtain⟨OK,hOK⟩:∃ OK,(decide (k<rs.length)&&decide (cf k=0))=OK:=⟨_,rfl⟩;rw [hOK];have HOK:=Nm.hide hOK;clear hOK hk hs;go_wp2;go_ret2;exact⟨k,HK.out,by rw [HOK.out];rfl,Nm.below_two hB0 b1⟩
set_option maxRecDepth 100000 in
set_option maxHeartbeats 3200000 in
theorem bsfL_any(v tgt cp:Value)(rs:List (Value×Value))(cf:Nat->Int)(w:World)(h:CRow w v rs.length 2 (rowCs rs))(hl:rs.length<=1000000)
 (hf:∀ (i:Nat) (p:Value×Value),rs[i]? =some p->∀ W,Below w.heap.size w W->Calls Tryz.prog 152 #[.agg #[p.1,p.2],tgt,cp] W fun e w'=>e=.returned (.int .i64 (cf i))∧Below W.heap.size W w')
 (hm:∀ a b,a<=b->b<rs.length->cf b<0->cf a<0):
 Calls Tryz.prog 151 #[v,tgt,.func (.func 152) #[] #[cp]] w fun e w'=>∃ k:Nat,Fnd rs.length cf k∧e=.returned (.tuple #[.int .i64 (k:Int),.bool (decide (k<rs.length)&&decide (cf k=0))])∧Below w.heap.size w w':=by
 obtain⟨_,a,cap,rfl,hcap,hmx,hc⟩:=h;unfold maxLen at hmx;have HM:=Nm.hide hm;clear hm;go_enter Tryz.func151,Tryz.ntmps151;go_wp2
 go_loopw [9,10] (fun vi vj wr=>∃ i j:Nat,i<=j∧j<=rs.length∧vi=.int .i64 i∧vj=.int .i64 j∧Hid ((∀ q,q<i->cf q<0)∧(∀ q,j<=q->q<rs.length->0<=cf q))∧Below w.heap.size w wr) (fun vi vj _=>(intOf vj).toNat-(intOf vi).toNat)
 case atStart=>exact⟨0,rs.length,Nat.zero_le _,Nat.le_refl _,rfl,rfl,⟨fun q hq=>by omega,fun q h1 h2=>by omega⟩,Below.refl _ _⟩
 case round=>
  obtain⟨i,j,hij,hjl,rfl,rfl,HI,hbel⟩:=hrel
  by_cases hlt:i<j
  ·obtain⟨m,hm⟩:∃ m,m=(i+j) / 2:=⟨_,rfl⟩;have hm1:i<=m:=by omega
   have hm2:m<j:=by omega
   have g1:((i:Int)+(j:Int)) / 2=(m:Int):=by omega
   obtain⟨p,hp⟩:∃ p,rs[m]? =some p:=⟨_,List.getElem?_eq_getElem (by omega)⟩;have at0:=rowCs_at rs m 0 p hp (by decide);have at1:=rowCs_at rs m 1 p hp (by decide);obtain⟨b,off,rfl,hcell⟩:=hc (by omega);have put:∀ {B O:Nat} {z:Value},w.cell? ⟨B,O,none⟩=some z->wr.cell? ⟨B,O,none⟩=some z:=fun h=>(hbel.cell (World.block_lt_of_cell? w _ h)).trans h
   have c0:wr.cell? ⟨b,off+m*2,none⟩=some p.1:=put (hcell _ _ at0);have c1:wr.cell? ⟨b,off+m*2+1,none⟩=some p.2:=put (hcell _ _ at1);have hcl:=hf m p hp wr hbel;have n1:(0:Int)<=(m:Int):=by omega
   have n2:(m:Int)<(rs.length:Int):=by omega
   have n3:(i:Int)<(j:Int):=by omega
   have n4:(j:Int)<=1000000:=by omega
   clear hcell hc at0 at1 hp put hf hm
   by_cases hneg:cf m<0
   ·have HI2:Hid ((∀ q,q<m+1->cf q<0)∧(∀ q,j<=q->q<rs.length->0<=cf q)):=⟨fun q hq=>HM.out q m (by omega) (by omega) hneg,HI.out.2⟩;clear HI;go_wp2_with fail
    refine hcl.mono ?_;rintro e w1 ⟨rfl,b1⟩;go_wp2;go_roundw
    case rel=>exact⟨m+1,j,by omega,hjl,by go_num,rfl,HI2,Nm.below_two hbel b1⟩
    case measure=>simp [intOf];omega
   ·have HI2:Hid ((∀ q,q<i->cf q<0)∧(∀ q,m<=q->q<rs.length->0<=cf q)):=⟨HI.out.1,fun q h1 h2=>by
     rcases Int.lt_or_le (cf q) 0 with h|h
     ·exact absurd (HM.out m q h1 h2 h) hneg
     ·exact h⟩
    have n5:0<=cf m:=by omega
    clear HI hneg;go_wp2_with fail
    refine hcl.mono ?_;rintro e w1 ⟨rfl,b1⟩;go_wp2;go_roundw
    case rel=>exact⟨i,m,hm1,by omega,rfl,rfl,HI2,Nm.below_two hbel b1⟩
    case measure=>simp [intOf];omega
  ·obtain rfl:i=j:=by omega
   have HF:Hid (Fnd rs.length cf i):=⟨hjl,HI.out⟩;have n3:¬(i:Int)<(i:Int):=by omega
   clear HI HM
   by_cases hil:i<rs.length
   ·obtain⟨p,hp⟩:∃ p,rs[i]? =some p:=⟨_,List.getElem?_eq_getElem hil⟩;have at0:=rowCs_at rs i 0 p hp (by decide);have at1:=rowCs_at rs i 1 p hp (by decide);obtain⟨b,off,rfl,hcell⟩:=hc (by omega);have put:∀ {B O:Nat} {z:Value},w.cell? ⟨B,O,none⟩=some z->wr.cell? ⟨B,O,none⟩=some z:=fun h=>(hbel.cell (World.block_lt_of_cell? w _ h)).trans h
    have c0:wr.cell? ⟨b,off+i*2,none⟩=some p.1:=put (hcell _ _ at0);have c1:wr.cell? ⟨b,off+i*2+1,none⟩=some p.2:=put (hcell _ _ at1);have hcl:=hf i p hp wr hbel;have n1:(0:Int)<=(i:Int):=by omega
    have n2:(i:Int)<(rs.length:Int):=by omega
    have HIL:=Nm.hide hil;clear hcell hc at0 at1 hp put hf hil;have e0:(cf i==0)=decide (cf i=0):=by by_cases h:cf i=0<;>simp [h]
    have HE0:=Nm.hide e0;clear e0;go_wp2_with fail
    refine hcl.mono ?_;rintro e w1 ⟨rfl,b1⟩;go_wp2;go_ret2;refine⟨i,HF.out,?_,Nm.below_two hbel b1⟩;rw [decide_eq_true HIL.out,Bool.true_and,<- HE0.out];rfl
   ·have hie:i=rs.length:=by omega
    have n2:(rs.length:Int)<=(i:Int):=by omega
    have HIL:=Nm.hide hil;clear hc hf hil hie;go_wp2;go_ret2;refine⟨i,HF.out,?_,hbel⟩;rw [decide_eq_false HIL.out,Bool.false_and];rfl
set_option maxRecDepth 100000 in
set_option maxHeartbeats 1600000 in
theorem placeL_any(g:Nat)(cmpv rv key:Value)(rs:List (Value×Value))(cf:Nat->Int)(w:World)(hg:Blk w g #[cmpv,rv] 145)(h:CRow w rv rs.length 2 (rowCs rs))(hl:rs.length<=1000000)
 (hf:∀ (tb i:Nat) (p:Value×Value),rs[i]? =some p->∀ W,Below w.heap.size w W->Blk W tb #[.pointer (some ⟨g,0,none⟩)] 68->Calls Tryz.prog 152 #[.agg #[p.1,p.2],key,.pointer (some ⟨tb,0,none⟩)] W fun e w'=>e=.returned (.int .i64 (cf i))∧Below W.heap.size W w')
 (hm:∀ a b,a<=b->b<rs.length->cf b<0->cf a<0):
 Calls Tryz.prog 136 #[.pointer (some ⟨g,0,none⟩),key] w fun e w'=>∃ k:Nat,Fnd rs.length cf k∧e=.returned (.tuple #[.int .i64 (k:Int),.bool (decide (k<rs.length)&&decide (cf k=0))])∧Below w.heap.size w w':=by
 have hB0:=(Below.refl w.heap.size w).alloc (Nat.le_refl _) (.cells #[.pointer (some ⟨g,0,none⟩)] 68);have kb:=blk_new w #[.pointer (some ⟨g,0,none⟩)] 68;have hs:=bsfL_any rv key (.pointer (some ⟨w.heap.size,0,none⟩)) rs cf _ (h.below hB0) hl (fun i p hp W hW=>hf w.heap.size i p hp W (Nm.below_two hB0 hW) (blk_below kb hW)) hm;have kg:=blk_below hg hB0;have rg:=fun i=>blk_cell kg i
 have hmf:∀ (fn:Fn) (first cap:Array Value) (w:World),(Instr.makeFunc fn first cap).run Tryz.prog w=.ok (.func fn first cap) w:=fun _ _ _ _=>rfl
 obtain⟨_,a,cap,rfl,_⟩:=h;clear hf hm;go_enter Tryz.func136,Tryz.ntmps136;go_wp2_with fail
 refine hs.mono ?_;rintro e w1 ⟨k,hk,rfl,b1⟩;have HK:=Nm.hide hk;obtain⟨OK,hOK⟩:∃ OK,(decide (k<rs.length)&&decide (cf k=0))=OK:=⟨_,rfl⟩;rw [hOK];have HOK:=Nm.hide hOK;clear hOK hk hs;go_wp2;go_ret2;exact⟨k,HK.out,by rw [HOK.out];rfl,Nm.below_two hB0 b1⟩
end Go.Proofs.YtmdinnjimioffaaGreat
