import Derived.Test.YtaceiajcecaapaaGreatJBzZ
import Derived.Test.YtaceiajcecaapaaGreatJTrM
import Derived.Test.YtaceiajcecaapaaGreatJBzC
import Derived.Test.YtaceiajcecaapaaGreatJCRow
import Derived.BigQuiet
import Derived.Deep.CutRange
import Derived.Test.YtaceiajcecaapaaGreatJZrM
import Derived.Test.YtaceiajcecaapaaGreatJBzS
import Derived.Test.YtaceiajcecaapaaGreatJBzN
import Derived.Test.YtaceiajcecaapaaGreatJBzW
import Derived.Test.YtaceiajcecaapaaGreatJBzFBelow
namespace Go.Proofs.YtaceiajcecaapaaGreat
open Go.RowKit
set_option linter.unusedVariables false
def rsV(c i:Int):Ending:=.returned (.tuple #[.int .i64 c,.int .i64 i])
theorem outs_set{W:World}{b i:Nat}{v:Value}:Outs [b] W (W.setCell ⟨b,i,none⟩ v):=⟨rfl,rfl,rfl,by simp,fun k _ hk=>heap_setCell_other W ⟨b,i,none⟩ k _ (by simpa using hk)⟩
set_option maxRecDepth 100000 in
set_option maxHeartbeats 1600000 in
theorem checkSize_any(bb:Nat)(la:Option Addr)(ln lc:Nat)(apex:ByteArray)(w:World)(hk:Blk w bb #[.slice la ln lc,.string apex,.slice none 0 0,.slice none 0 0,.pointer none,.slice none 0 0] 74)(ha:apex.size<=maxLen):
 Calls Tryz.prog 64 #[.pointer (some ⟨bb,0,none⟩)] w fun e w'=>
  (Nm.split apex=none∧e=rsV 32 (-1)∧Below w.heap.size w w')∨(Nm.split apex≠none∧500<ln∧e=rsV 12 (-1)∧Below w.heap.size w w')∨
  (∃ xs aa ac th,Nm.split apex=some xs∧ln<=500∧e=rsV 0 0∧Outs [bb] w w'∧Blk w' bb #[.slice la ln lc,.string apex,.slice none 0 0,.slice aa xs.length ac,ptr th,.slice none 0 0] 74∧Blk w' th #[cmpLv,.slice none 0 0] 163∧w'.ownsRow w.heap.size 9 1 (.slice aa xs.length ac) xs.length (xs.map Value.string)∧w.heap.size<=th):=by
 have rk:=fun i=>blk_cell hk i
 have hs:=splitName_any apex w ha;have hbl:=blk_lt hk
 cases hsp:Nm.split apex with
 |none=>
  rw [hsp] at hs;simp only [Option.isSome_none,Option.getD_none] at hs;clear hsp;go_enter Tryz.func64,Tryz.ntmps64;go_wp2_with fail
  refine hs.mono ?_;rintro e w1 ⟨v,rfl,ho,b1⟩;clear hs;go_wp2;go_ret2
  exact .inl ⟨trivial,rfl,b1⟩
 |some xs=>
  rw [hsp] at hs;simp only [Option.isSome_some,Option.getD_some] at hs
  by_cases hln:500<ln
  ·have i1:(500:Int)<(ln:Int):=by omega
   have HL:=Nm.hide hln;clear hsp hln;go_enter Tryz.func64,Tryz.ntmps64;go_wp2_with fail
   refine hs.mono ?_;rintro e w1 ⟨v,rfl,ho,b1⟩;have rk1:=fun i=>blk_cell (blk_below hk b1) i
   clear hs rk;go_wp2;go_ret2;exact .inr (.inl ⟨by simp,HL.out,rfl,b1⟩)
  ·have i1:¬(500:Int)<(ln:Int):=by omega
   have HL:=Nm.hide hln;clear hsp hln;go_enter Tryz.func64,Tryz.ntmps64;go_wp2_with fail
   refine hs.mono ?_;rintro e w1 ⟨v,rfl,ho,b1⟩;obtain⟨aa,ac,rfl⟩:=own_sl ho;have k1:=blk_below hk b1;have rk1:=fun i=>blk_cell k1 i
   have b2:=(Below.refl w1.heap.size w1).alloc (Nat.le_refl _) (.cells #[cmpLv,.slice none 0 0] 163);have kt:=blk_new w1 #[cmpLv,.slice none 0 0] 163;have k2:=blk_below k1 b2;have rk2:=fun i=>blk_cell k2 i
   have fk2:=fun i=>blk_frozen k2 i
   have o2:=own_below ho b2;have hn:=newTableL_any (.func 104) w1;unfold ptr at hn;unfold cmpLv at kt rk2 fk2;clear hs rk;go_wp2_with (go_at_call 103;refine hn.mono ?_;rintro e w2 ⟨rfl,rfl⟩)
   go_ret2;have k3:=blk_set (blk_set k2 3 (.slice aa xs.length ac)) 4 (.pointer (some ⟨w1.heap.size,0,none⟩));simp only [List.setIfInBounds_toArray,List.set_cons_zero,List.set_cons_succ] at k3;have hne:bb≠w1.heap.size:=by have:=b1.size;omega
   refine .inr (.inr ⟨xs,aa,ac,w1.heap.size,rfl,by have:=HL.out;omega,rfl,?_,k3,?_,?_,b1.size⟩)
   ·have h9:=(Outs.below (fp:=[bb]) (Nm.below_two b1 b2)).trans (outs_set (b:=bb) (i:=3) (v:=.slice aa xs.length ac)) (fun k hk=>.inl hk);exact h9.trans (outs_set (b:=bb) (i:=4) (v:=.pointer (some ⟨w1.heap.size,0,none⟩))) (fun k hk=>.inl hk)
   ·exact blk_grown (blk_grown kt (grown_setC _ bb 3 _) (fun e=>by cases e;exact hne rfl)) (grown_setC _ bb 4 _) (fun e=>by cases e;exact hne rfl)
   ·have o3:=own_far (i:=3) (y:=.slice aa xs.length ac) o2 (own_nb o2 k2 (by decide));exact own_far o3 (own_nb o3 (blk_set k2 3 (.slice aa xs.length ac)) (by decide))
theorem one_rec{r:Rr}{apex:ByteArray}{xs ys:List ByteArray}(hx:Nm.split r.own=some xs)(hy:Nm.split apex=some ys):oneC r apex=recC r xs ys:=by
 rw [oneC,recC,hx,isUnder_some hx hy];simp only [Option.isSome_some,Bool.true_eq_false,if_false];split
 ·rfl
 ·split
  ·rfl
  ·by_cases h1:(decide (0<=r.ty)&&decide (r.ty<=65535))=false
   ·rw [if_pos h1,if_pos ?_];simp only [Bool.and_eq_false_iff,decide_eq_false_iff_not] at h1
    rcases h1 with h1|h1
    ·exact .inr (.inl (by omega))
    ·exact .inr (.inr (by omega))
   ·rw [if_neg h1]
    by_cases h2:metaB r.ty=true
    ·rw [if_pos h2,if_pos (.inl h2)]
    ·rw [if_neg h2,if_neg ?_];simp only [Bool.and_eq_false_iff,decide_eq_false_iff_not,not_or,Decidable.not_not] at h1
     rintro(h3|h3|h3)
     ·exact h2 h3
     ·omega
     ·omega
theorem one_bad{r:Rr}{apex:ByteArray}(hx:Nm.split r.own=none):oneC r apex=1:=by rw [oneC,hx];rfl
theorem wsum_len:∀ (xs:List ByteArray),xs.length<=Nm.wsum xs:=by
 intro xs
 induction xs with
 |nil=>simp [Nm.wsum]
 |cons x xs ih=>simp only [List.length_cons,Nm.wsum];omega
theorem lab_fit{s:ByteArray}{xs:List ByteArray}(h:Nm.split s=some xs):(∀ x∈xs,x.size<=1000000000)∧xs.length<=255:=by
 have h1:=Nm.split_join h;have h2:=Nm.split_size h;have h3:=wsum_len xs;exact⟨fun x hx=>by have:=h1.2 x hx;omega,by omega⟩
theorem outs_grown{fp:List Nat}{w W W':World}{row:Option Nat}(h:Outs fp w W)(hg:W.grownBy W' row)(hr:∀ g,row=some g->w.heap.size<=g):Outs fp w W':=
 ⟨hg.os.trans h.os,hg.tape.trans h.tape,hg.output.trans h.output,Nat.le_trans h.size hg.size,fun k hk hn=>(hg.block k (Nat.lt_of_lt_of_le hk h.size) (fun e=>by have:=hr k e.symm;omega)).trans (h.block k hk hn)⟩
theorem outs_cell{fp:List Nat}{w W:World}{p:Addr}{v:Value}(h:Outs fp w W)(hc:w.cell? p=some v)(hn:p.block∉fp):W.cell? p=some v:=by
 have hlt:=World.block_lt_of_cell? w _ hc;rw [World.cell?_of_block (w:=w) (h.block p.block hlt hn)];exact hc
theorem srow_outs{fp:List Nat}{w W:World}{v:Value}{xs:List ByteArray}(h:Outs fp w W)(hs:Nm.SRow w v xs)(hn:xs≠[]->∀ b,rowBlk v=some b->b∉fp):Nm.SRow W v xs:=by
 obtain⟨a,cap,rfl,h1,h2,h3,h4⟩:=hs;refine⟨a,cap,rfl,h1,h2,h3,fun hne=>?_⟩;obtain⟨b,off,rfl,hc⟩:=h4 hne;exact⟨b,off,rfl,fun k x hx=>outs_cell h (hc k x hx) (hn hne b rfl)⟩
theorem srow_own{w:World}{B:Nat}{v:Value}{xs:List ByteArray}(h:w.ownsRow B 9 1 v xs.length (xs.map Value.string)):Nm.SRow w v xs:=Nm.SRow.of_owns h
structure LbRow (W:World) (B:Nat) (v:Value) (lvs:List Value) (xss:List (List ByteArray)):Prop where
 outer:W.ownsRow B 68 1 v lvs.length lvs
 len:lvs.length=xss.length
 inner:∀ (i:Nat) (u:Value) (xs:List ByteArray),lvs[i]? =some u->xss[i]? =some xs->W.ownsRow B 9 1 u xs.length (xs.map Value.string)
theorem LbRow.nil(W:World)(B:Nat):LbRow W B (.slice none 0 0) [] []:=⟨World.ownsRow_nil _ _ _ _,rfl,by simp⟩
theorem LbRow.below{W W':World}{B:Nat}{v:Value}{lvs:List Value}{xss:List (List ByteArray)}(h:LbRow W B v lvs xss)(hb:Below W.heap.size W W'):LbRow W' B v lvs xss:=
 ⟨own_below h.outer hb,h.len,fun i u xs h1 h2=>own_below (h.inner i u xs h1 h2) hb⟩
theorem LbRow.set{W:World}{B b i:Nat}{v y:Value}{cs:Array Value}{lvs:List Value}{xss:List (List ByteArray)}(h:LbRow W B v lvs xss)(hb:Blk W b cs 74):LbRow (W.setCell ⟨b,i,none⟩ y) B v lvs xss:=
 ⟨own_far h.outer (own_nb h.outer hb (by decide)),h.len,fun j u xs h1 h2=>own_far (h.inner j u xs h1 h2) (own_nb (h.inner j u xs h1 h2) hb (by decide))⟩
theorem LbRow.snoc{W W1:World}{B:Nat}{v v' u:Value}{lvs:List Value}{xs:List ByteArray}{xss:List (List ByteArray)}(h:LbRow W B v lvs xss)(hu:W.ownsRow B 9 1 u xs.length (xs.map Value.string))
 (ho:W1.ownsRow B 68 1 v' (lvs.length+1) (lvs++[u])) (hg:W.grownBy W1 v.ownBlock):LbRow W1 B v' (lvs++[u]) (xss++[xs]):=by
 refine⟨by simpa using ho,by simp [h.len],fun i y zs h1 h2=>?_⟩
 rcases snoc_cases h1 with⟨hi,h1'⟩|⟨hi,rfl⟩
 ·rw [List.getElem?_append_left (by rw [<- h.len];exact hi)] at h2;have:=h.inner i y zs h1' h2;exact own_besideZ this hg (own_kindsZ this h.outer (by decide))
 ·rw [hi,h.len,List.getElem?_append_right (Nat.le_refl _)] at h2;simp at h2;subst h2;exact own_besideZ hu hg (own_kindsZ hu h.outer (by decide))
theorem infoLl:(Tryz.prog.info? 68).map (fun i=>(i.zero,i.size,i.bytes))=some (some (.slice none 0 0),1,24):=by kernel_rfl
def labsOf(l:List Rr):List (List ByteArray):=l.map fun r=>(Nm.split r.own).getD []
set_option maxRecDepth 100000 in
set_option maxHeartbeats 3200000 in
theorem checkRecords_any(bb:Nat)(la:Option Addr)(lc:Nat)(list:List Rr)(apex:ByteArray)(ys:List ByteArray)(aa:Option Addr)(ac:Nat)(tv:Value)(w:World)(hk:Blk w bb #[.slice la list.length lc,.string apex,.slice none 0 0,.slice aa ys.length ac,tv,.slice none 0 0] 74)
 (h:CRow w (.slice la list.length lc) list.length 5 (rvVs list)) (hfar:0<list.length->rowBlk (.slice la list.length lc)≠some bb) (hl:list.length<=500) (hap:Nm.split apex=some ys) (hav:Nm.SRow w (.slice aa ys.length ac) ys) (hafar:rowBlk (.slice aa ys.length ac)≠some bb) (ho:∀ r∈list,r.own.size<=maxLen∧r.da.size<=2000000):
 Calls Tryz.prog 65 #[.pointer (some ⟨bb,0,none⟩)] w fun e w'=>Outs [bb] w w'∧
  ((∃ c i,badOne apex list 0=some (c,i)∧e=rsV c i)∨
  (badOne apex list 0=none∧e=rsV 0 0∧∃ labv lvs,Blk w' bb #[.slice la list.length lc,.string apex,labv,.slice aa ys.length ac,tv,.slice none 0 0] 74∧LbRow w' w.heap.size labv lvs (labsOf list))):=by
 obtain⟨i0,hi,hz0,hz1,hz2⟩:=info_parts infoLl;have rk:=fun i=>blk_cell hk i
 have hbl:=blk_lt hk;obtain⟨_,a,cap,e,hcap,hmx,hc⟩:=h;cases e
 unfold maxLen at hmx;have HX:=Nm.hide (And.intro hfar (And.intro hap (And.intro hav (And.intro hafar ho))));clear hfar hap hav hafar ho;have HK:=Nm.hide hk;clear hk;go_enter Tryz.func65,Tryz.ntmps65;go_wp2
 go_loopw [14] (fun i wr=>∃ (k:Nat) (labv:Value) (lvs:List Value),k<=list.length∧i=.int .i64 k∧(∀ (j:Nat) (x:Rr),j<k->list[j]? =some x->oneC x apex=0)∧Blk wr bb #[.slice la list.length lc,.string apex,labv,.slice aa ys.length ac,tv,.slice none 0 0] 74∧LbRow wr w.heap.size labv lvs (labsOf (list.take k))∧Outs [bb] w wr) (fun i _=>list.length-(intOf i).toNat)
 case atStart=>exact⟨0,.slice none 0 0,[],Nat.zero_le _,rfl,fun j x hj=>absurd hj (Nat.not_lt_zero _),HK.out,LbRow.nil _ _,Outs.below (Below.refl _ _)⟩
 case round=>
  obtain⟨k,labv,lvs,hk',rfl,hno,kb,lr,hou⟩:=hrel;have HR:=Nm.hide (And.intro hno (And.intro kb (And.intro lr hou)))
  by_cases hlt:k<list.length
  ·obtain⟨x,hx⟩:∃ x,list[k]? =some x:=⟨_,List.getElem?_eq_getElem hlt⟩;obtain⟨b,off,rfl,hcell⟩:=hc (by omega);have hnb:b∉[bb]:=fun hm=>HX.out.1 (by omega) (by rw [List.mem_singleton.1 hm];rfl)
   obtain⟨d0,d1,d2,d3,d4⟩:=rv_cells (w:=wr) (fun i y hy=>outs_cell hou (hcell i y hy) hnb) hx;have hxo:=HX.out.2.2.2.2 x (List.mem_of_getElem? hx);have kr:=blk_new wr #[.string x.own,.int .i64 x.ty,.int .i64 x.cl,.int .i64 x.tt,.string x.da] 47;have ba:=(Below.refl wr.heap.size wr).alloc (Nat.le_refl _) (.cells #[.string x.own,.int .i64 x.ty,.int .i64 x.cl,.int .i64 x.tt,.string x.da] 47);have hsn:=splitName_any x.own (wr.alloc (.cells #[.string x.own,.int .i64 x.ty,.int .i64 x.cl,.int .i64 x.tt,.string x.da] 47)) hxo.1;have HXX:=Nm.hide hx;have i1:(0:Int)<=(k:Int):=by omega
   have i2:(k:Int)<(list.length:Int):=by omega
   clear hc hcell hx hno kb lr hou hnb rk;go_wp2_with fail
   refine hsn.mono ?_;rintro e w2 ⟨v,rfl,hv2,b2⟩;have b2':=Nm.below_two ba b2;have kr2:=blk_below kr b2
   cases hsp:Nm.split x.own with
   |none=>
    rw [hsp] at hv2;simp only [Option.isSome_none];have HB:=Nm.hide (one_bad (apex:=apex) hsp);clear hsn hsp d0 d1 d2 d3 d4;go_wp2;go_ret2;refine⟨HR.out.2.2.2.trans (Outs.below b2' (fp:=[bb])) (fun k hk=>.inl hk),.inl ⟨1,k,?_,rfl⟩⟩;have:=badOne_at (apex:=apex) list k 0 x HR.out.1 HXX.out (by rw [HB.out];decide)
    rw [this,HB.out,Nat.zero_add]
   |some xs=>
    rw [hsp] at hv2;simp only [Option.isSome_some,Option.getD_some] at hv2 ⊢;obtain⟨va,vc,rfl⟩:=own_sl hv2;have ou2:Outs [bb] w w2:=HR.out.2.2.2.trans (Outs.below b2' (fp:=[bb])) (fun k hk=>.inl hk);have kb2:=blk_below HR.out.2.1 b2';have c3:=(blk_cell kb2 3).trans rfl;have hav2:=srow_outs ou2 HX.out.2.2.1 (fun _ b hb hm=>HX.out.2.2.2.1 (by rw [hb,List.mem_singleton.1 hm]));have hfx:=lab_fit hsp;have hfy:=lab_fit HX.out.2.1;have hcr:=checkRecord_any x bb (.slice va xs.length vc) (.slice aa ys.length ac) xs ys w2 hxo.2 (srow_own hv2) hav2 c3 hfx.1 (by omega) (by omega);rw [<- one_rec hsp HX.out.2.1] at hcr;have HSP:=Nm.hide hsp;have HOU:=Nm.hide ou2;have rr2:=fun i=>blk_cell kr2 i
    clear hsn hsp d0 d1 d2 d3 d4 hav2 ou2;obtain⟨OC,hOC⟩:∃ OC,OC=oneC x apex:=⟨_,rfl⟩;rw [<- hOC] at hcr;have HOC:=Nm.hide hOC;clear hOC
    by_cases h0:OC=0
    ·subst h0;have hlr:=HR.out.2.2.1
     have hlk:lvs.length=k:=by
      rw [hlr.len,labsOf,List.length_map,List.length_take];omega
     have HLK:=Nm.hide hlk;clear hlk
     go_wp2_with (first
      |(go_at_call 105
        refine hcr.mono ?_;rintro e w3 ⟨rfl,b3⟩;have b3':=Nm.below_two b2' b3;have kb3:=blk_below kb2 b3;have rk3:=fun i=>blk_cell kb3 i
        have lr3:=hlr.below b3';have hv3:=own_below hv2 b3
        have lr3o:=lr3.outer)
      |(at_builtin
        refine wpList_append_own _ rfl _ _ 67 rfl w.heap.size 68 i0 (.slice none 0 0) 1 24 Tryz.underlying67 hi hz0 hz1 hz2 rfl (by decide) _ _ _ rfl (own_below lr3o ((Below.refl _ _).alloc (Nat.le_refl _) _)) ⟨w3.heap.size,0,none⟩ 1 1 [.slice va xs.length vc] rfl rfl (cell_one_new _ _ _) (by simp [Value.oneCell']) (by unfold maxLen;have:=HLK.out;omega) (by have:=HLK.out;omega) (by have:=b3'.size;have:=HOU.out.size;have:=HR.out.2.2.2.size;simp;omega) ?_;intro v' w5 hown' hgrow _;obtain⟨g',cap',rfl⟩:=ownsRow_succ hown';have kb4:Blk (w3.alloc (.cells #[.slice va xs.length vc] 68)) bb #[.slice (some ⟨b,off,none⟩) list.length lc,.string apex,labv,.slice aa ys.length ac,tv,.slice none 0 0] 74:=blk_alloc kb3 _;have lr4:=lr3.below ((Below.refl _ w3).alloc (Nat.le_refl _) (.cells #[.slice va xs.length vc] 68));have kb5:=blk_grown kb4 hgrow (own_nb lr4.outer kb4 (by decide));have rk5:=fun i=>blk_cell kb5 i
        have fk5:=fun i=>blk_frozen kb5 i))
     have lr5:=lr4.snoc (own_base (own_below hv3 ((Below.refl _ w3).alloc (Nat.le_refl _) (.cells #[.slice va xs.length vc] 68))) (by have:=b2'.size;have:=HR.out.2.2.2.size;have:=ba.size;simp at*;omega)) hown' hgrow;have k6:=blk_set kb5 2 (.slice (some ⟨g',0,none⟩) (lvs.length+1) cap');simp only [List.setIfInBounds_toArray,List.set_cons_zero,List.set_cons_succ] at k6;have ou5:=outs_grown (outs_grown (HOU.out.trans (Outs.below b3 (fp:=[bb])) (fun k hk=>.inl hk)) (grown_of_below ((Below.refl _ w3).alloc (Nat.le_refl _) (.cells #[.slice va xs.length vc] 68))) (fun g e=>by cases e)) hgrow (fun g e=>(lr4.outer.lt g e).1);go_roundw
     case rel=>
      refine⟨k+1,_,lvs++[.slice va xs.length vc],by omega,by go_num,fun j y hj hy=>?_,k6,?_,ou5.trans (outs_set (b:=bb) (i:=2)) (fun k hk=>.inl hk)⟩
      ·rcases Nat.lt_succ_iff_lt_or_eq.1 hj with h1|rfl
       ·exact HR.out.1 j y h1 hy
       ·rw [HXX.out] at hy;cases hy;exact HOC.out.symm
      ·have e9:labsOf (list.take (k+1))=labsOf (list.take k)++[xs]:=by
        obtain⟨hkl,ex⟩:=List.getElem?_eq_some_iff.1 HXX.out;rw [List.take_succ_eq_append_getElem hkl,ex,labsOf,List.map_append,List.map_cons,List.map_nil,HSP.out];rfl
       rw [e9];exact lr5.set kb5
     case measure=>simp [intOf];omega
    ·have n0:(OC != 0)=true:=by simpa using h0
     have H0:=Nm.hide h0;clear h0;go_wp2_with (go_at_call 105;refine hcr.mono ?_;rintro e w3 ⟨rfl,b3⟩)
     go_ret2;refine⟨HOU.out.trans (Outs.below b3 (fp:=[bb])) (fun k hk=>.inl hk),.inl ⟨OC,k,?_,rfl⟩⟩;have:=badOne_at (apex:=apex) list k 0 x HR.out.1 HXX.out (by rw [<- HOC.out];exact H0.out);rw [this,<- HOC.out,Nat.zero_add]
  ·have hke:k=list.length:=by omega
   subst hke;clear hc hno kb lr hou;go_wp2;go_ret2;refine⟨HR.out.2.2.2,.inr ⟨badOne_no _ _ HR.out.1,rfl,labv,lvs,HR.out.2.1,?_⟩⟩;have:=HR.out.2.2.1
   rwa [List.take_length] at this
def trTys:List TypeId:=[154,233,236,115,170,172,163,165]
def TyAt(W:World)(b:Nat)(ts:List TypeId):Prop:=∃ cs T r,W.heap[b]? =some (.cells cs T r)∧T∈ts
theorem ty_blk{W:World}{b:Nat}{cs:Array Value}{T:TypeId}{ts:List TypeId}(h:Blk W b cs T)(hT:T∈ts):TyAt W b ts:=⟨cs,T,_,h,hT⟩
theorem ty_own{W:World}{B e s n:Nat}{v:Value}{xs:List Value}{ts:List TypeId}(h:W.ownsRow B e s v n xs)(hT:e∈ts):∀ b∈v.ownBlock.toList,TyAt W b ts:=by
 intro b hb
 rcases h.2 with⟨rfl,_⟩|⟨q,cap,cur,rfl,_,hh,_⟩
 ·simp [Value.ownBlock] at hb
 ·simp [Value.ownBlock] at hb
  subst hb;exact⟨_,_,_,hh,hT⟩
theorem TrAt.types{W:World}{B th:Nat}{rv:Value}{os:List GOw}(h:TrAt W B th rv os):∀ b∈fpT th rv os,TyAt W b trTys:=by
 intro b hb;simp only [fpT,List.mem_cons,List.mem_append,List.mem_flatMap] at hb
 rcases hb with rfl|hb|⟨o,ho,hb⟩
 ·exact ty_blk h.head (by decide)
 ·exact ty_own h.rows (by decide) b hb
 ·have ow:=h.owners o ho;simp only [fpO,List.mem_cons,List.mem_append,List.mem_flatMap] at hb
  rcases hb with rfl|rfl|hb|⟨s,hs,hb⟩
  ·exact ty_blk ow.node (by decide)
  ·exact ty_blk ow.head (by decide)
  ·exact ty_own ow.rows (by decide) b hb
  ·have sw:=ow.sets s hs;simp only [fpS,List.mem_cons] at hb
   rcases hb with rfl|rfl|hb
   ·exact ty_blk sw.node (by decide)
   ·exact ty_blk sw.head (by decide)
   ·exact ty_own sw.rows (by decide) b hb
theorem own_out{W:World}{B e s n:Nat}{v:Value}{xs:List Value}{ts:List TypeId}{b:Nat}(h:W.ownsRow B e s v n xs)(ht:TyAt W b ts)(hT:e∉ts):b∉v.ownBlock.toList:=by
 intro hb;obtain⟨cs,T,r,h1,h2⟩:=ht
 rcases h.2 with⟨rfl,_⟩|⟨q,cap,cur,rfl,_,hh,_⟩
 ·simp [Value.ownBlock] at hb
 ·simp [Value.ownBlock] at hb
  subst hb;rw [hh] at h1;cases h1
  exact hT h2
theorem blk_out{W:World}{b c:Nat}{cs:Array Value}{T:TypeId}{ts:List TypeId}(h:Blk W c cs T)(ht:TyAt W b ts)(hT:T∉ts):b≠c:=by
 rintro rfl;obtain⟨cs',T',r,h1,h2⟩:=ht;rw [Blk] at h;rw [h] at h1;cases h1
 exact hT h2
theorem own_outs{fp:List Nat}{W W':World}{B e s n:Nat}{v:Value}{xs:List Value}(h:W.ownsRow B e s v n xs)(ho:Outs fp W W')(hn:∀ b∈fp,b∉v.ownBlock.toList):W'.ownsRow B e s v n xs:=
 own_keep h (fun b hb=>ho.block b (own_lt h b hb) (fun hm=>hn b hm hb))
theorem blk_outs{fp:List Nat}{W W':World}{b:Nat}{cs:Array Value}{T:TypeId}(h:Blk W b cs T)(ho:Outs fp W W')(hn:b∉fp):Blk W' b cs T:=blk_keep h (ho.block b (blk_lt h) hn)
theorem rowBlk_own{W:World}{B e s n:Nat}{v:Value}{xs:List Value}(h:W.ownsRow B e s v n xs){b:Nat}(hb:rowBlk v=some b):b∈v.ownBlock.toList:=by
 rcases h.2 with⟨rfl,_⟩|⟨q,cap,cur,rfl,_,hh,_⟩
 ·cases hb
 ·simp [rowBlk] at hb
  simp [Value.ownBlock,hb]
structure BSt (B:Nat) (W:World) (th:Nat) (its:List It) (rv:Value) (os:List GOw) (kv:Value) (ks:List Ld):Prop where
 tr:TrAt W B th rv os
 inv:TInv its os
 kin:KInv its os ks
 kept:W.ownsRow B 149 4 kv ks.length (ldVs ks)
 lab:LabAt W (fpT th rv os) os
 fpl:∀ b∈fpT th rv os,b=th∨B<=b
 lty:∀ o∈os,o.lab≠[]->∀ b,rowBlk o.lv=some b->TyAt W b [9]
theorem ty_keep{W W':World}{b:Nat}{ts:List TypeId}(h:TyAt W b ts)(he:W'.heap[b]? =W.heap[b]?):TyAt W' b ts:=by
 obtain⟨cs,T,r,h1,h2⟩:=h;exact⟨cs,T,r,he.trans h1,h2⟩
theorem BSt.nil{B th:Nat}{W:World}(h:Blk W th #[cmpLv,.slice none 0 0] 163):BSt B W th [] (.slice none 0 0) [] (.slice none 0 0) []:=
 ⟨⟨h,World.ownsRow_nil _ _ _ _,by simp,by simp [fpT,Value.ownBlock]⟩,TInv.nil,KInv.nil,World.ownsRow_nil _ _ _ _,by simp [LabAt],by simp [fpT,Value.ownBlock],by simp⟩
theorem BSt.outs{B th:Nat}{W W':World}{its:List It}{rv kv:Value}{os:List GOw}{ks:List Ld}{fp:List Nat}(h:BSt B W th its rv os kv ks)(ho:Outs fp W W')(h1:∀ b∈fp,b∉fpT th rv os)(h2:∀ b∈fp,b∉kv.ownBlock.toList)
 (h3:∀ o∈os,∀ b∈fp,rowBlk o.lv≠some b):BSt B W' th its rv os kv ks:=by
 refine⟨h.tr.keep (fun b hb=>ho.block b (h.tr.lt b hb) (fun hm=>h1 b hm hb)),h.inv,h.kin,own_outs h.kept ho h2,fun o hm=>?_,h.fpl,fun o hm hne b hb=>ty_keep (h.lty o hm hne b hb) (ho.block b ((h.lab o hm).far hne b hb).2 (fun hf=>h3 o hm b hf hb))⟩;have hl:=h.lab o hm;refine⟨srow_keep hl.row (fun hne b hb=>ho.block b (hl.far hne b hb).2 (fun hf=>h3 o hm b hf hb)),fun hne b hb=>⟨(hl.far hne b hb).1,Nat.lt_of_lt_of_le (hl.far hne b hb).2 ho.size⟩,hl.fit⟩
theorem BSt.below{B th:Nat}{W W':World}{its:List It}{rv kv:Value}{os:List GOw}{ks:List Ld}(h:BSt B W th its rv os kv ks)(hb:Below W.heap.size W W'):BSt B W' th its rv os kv ks:=
 h.outs (Outs.below (fp:=[]) hb) (by simp) (by simp) (by simp)
structure LaidR (B N:Nat) (W W':World) (th:Nat) (its:List It) (x:It) (rv rv':Value) (os os':List GOw) (kv:Value) (ks:List Ld) (ob sb:Nat) (isNew:Bool):Prop where
 tr:TrAt W' B th rv' os'
 inv:TInv (its++[x]) os'
 kin:KInv (its++[x]) os' (if isNew=true then ks++[⟨its.length,x.r.ty,ob,sb⟩] else ks)
 kept:W'.ownsRow B 149 4 kv ks.length (ldVs ks)
 lab:LabAt W' (fpT th rv' os') os'
 fpl:∀ b∈fpT th rv' os',b=th∨B<=b
 sbm:sb∈fpT th rv' os'
 lvb:∀ o∈os',o.lab≠[]->∀ b,rowBlk o.lv=some b->b<N
 lty:∀ o∈os',o.lab≠[]->∀ b,rowBlk o.lv=some b->TyAt W' b [9]
 tt:∃ tt:Int,W'.cell? ⟨sb,0,none⟩=some (.int .i64 tt)∧mixI its x=decide (tt≠x.r.tt)
theorem laid_r{B N th at_:Nat}{W W':World}{its:List It}{x:It}{lv:Value}{rv rv' kv:Value}{os os':List GOw}{ks:List Ld}{ob sb:Nat}{isNew:Bool}(h:BSt B W th its rv os kv ks)(hB:B<=W.heap.size)(hg:∀ y∈its,GoodI y)(hx:GoodI x)(hat:at_=its.length)
 (hL:LayG x.r.own lv (labI x) x.r.ty x.r.tt at_ x.dt x.r.da os os' ob sb isNew) (hT:TrAt W' B th rv' os') (ho:Outs (fpT th rv os) W W') (hf:∀ b∈fpT th rv' os',b∈fpT th rv os∨W.heap.size<=b)
 (hlv:LabOK W (fpT th rv os) lv (labI x)) (hN1:∀ o∈os,o.lab≠[]->∀ b,rowBlk o.lv=some b->b<N) (hN2:labI x≠[]->∀ b,rowBlk lv=some b->b<N) (hT2:labI x≠[]->∀ b,rowBlk lv=some b->TyAt W b [9]):LaidR B N W W' th its x rv rv' os os' kv ks ob sb isNew:=by
 subst hat;obtain⟨o',s',hP,eo,es⟩:=layP_of h.inv.sorted hL;have hR:=lay_r h.inv hP;refine⟨hT,hR.inv,by rw [<- eo,<- es];exact h.kin.step hg hx hR,own_outs h.kept ho (fun b hb=>own_out h.kept (h.tr.types b hb) (by decide)),fun q hq=>?_,fun b hb=>?_,?_,fun q hq=>?_,fun q hq=>?_,?_⟩
 ·rcases hR.lvs q hq with⟨o,hm,e1,e2⟩|⟨e1,e2⟩
  ·have:=(h.lab o hm).outs ho hf;rw [e1,e2];exact this
  ·have:=hlv.outs ho hf;rw [e1,e2];exact this
 ·rcases hf b hb with h1|h1
  ·exact h.fpl b h1
  ·exact .inr (by omega)
 ·rw [<- es];simp only [fpT,fpO,fpS,List.mem_cons,List.mem_append,List.mem_flatMap];exact .inr (.inr ⟨o',hR.isOwn.1,.inr (.inr (.inr ⟨s',hR.isSet.1,.inl rfl⟩))⟩)
 ·rcases hR.lvs q hq with⟨o,hm,e1,e2⟩|⟨e1,e2⟩
  ·rw [e1,e2];exact hN1 o hm
  ·rw [e1,e2];exact hN2
 ·rcases hR.lvs q hq with⟨o,hm,e1,e2⟩|⟨e1,e2⟩
  ·rw [e1,e2];intro hne b hb;exact ty_keep (h.lty o hm hne b hb) (ho.block b ((h.lab o hm).far hne b hb).2 ((h.lab o hm).far hne b hb).1)
  ·rw [e1,e2];intro hne b hb;exact ty_keep (hT2 hne b hb) (ho.block b (hlv.far hne b hb).2 (hlv.far hne b hb).1)
 ·have sw:=(hT.owners o' hR.isOwn.1).sets s' hR.isSet.1;refine⟨s'.tt,by rw [<- es];exact(blk_cell sw.node 0).trans rfl,?_⟩;obtain⟨y,hF,ht⟩:=hR.inv.set o' hR.isOwn.1 s' hR.isSet.1;have hox:Nm.cmpLs (labI x) o'.lab=0:=hR.isOwn.2
  have hkin:∀ z∈its,(kinB x z=true↔OfS o'.lab s'.ty z):=fun z hz=>by
   rw [kin_of hx (hg z hz),hR.isSet.2,OfS,OfS,OfO,OfO,cmpLs_eq_right hox]
  by_cases hfi:s'.fi<its.length
  ·have hy:its[s'.fi]? =some y:=by have:=hF.1;rwa [List.getElem?_append_left hfi] at this
   have hfind:=find_take_at (l:=its) (p:=kinB x) (k:=its.length) hfi hy ((hkin y (List.mem_of_getElem? hy)).2 hF.2.1) (fun j z hj hz=>by
    cases hb:kinB x z with
    |false=>rfl
    |true=>
     exfalso
     exact hF.2.2 j z hj (by rw [List.getElem?_append_left (by omega)];exact hz) ((hkin z (List.mem_of_getElem? hz)).1 hb))
   rw [List.take_length] at hfind;rw [mixI,hfind,ht]
  ·have hlt:=hF.lt;have e:s'.fi=its.length:=by rw [List.length_append,List.length_singleton] at hlt;omega
   have hy:y=x:=by
    have h1:=hF.1;rw [e,List.getElem?_append_right (Nat.le_refl _)] at h1;simp at h1;exact h1.symm
   have hno:its.find? (kinB x)=none:=by
    have:=find_take_no (l:=its) (p:=kinB x) (k:=its.length) (fun j z hj hz=>by
     cases hb:kinB x z with
     |false=>rfl
     |true=>
      exfalso
      exact hF.2.2 j z (by omega) (by rw [List.getElem?_append_left hj];exact hz) ((hkin z (List.mem_of_getElem? hz)).1 hb))
    rwa [List.take_length] at this
   rw [mixI,hno,ht,hy];simp
theorem good_item{r:Rr}(h:(Nm.split r.own).isSome=true):GoodI (itemOf r):=by
 obtain⟨xs,hx⟩:=Option.isSome_iff_exists.1 h;have e:labI (itemOf r)=xs:=by simp [labI,itemOf,hx]
 exact⟨by rw [e];exact hx,rfl,rfl,rfl⟩
theorem LbRow.outs{W W':World}{B:Nat}{v:Value}{lvs:List Value}{xss:List (List ByteArray)}{fp:List Nat}{ts:List TypeId}(h:LbRow W B v lvs xss)(ho:Outs fp W W')(ht:∀ b∈fp,TyAt W b ts)(h1:68∉ts)(h2:9∉ts):LbRow W' B v lvs xss:=
 ⟨own_outs h.outer ho (fun b hb=>own_out h.outer (ht b hb) h1),h.len,fun i u xs e1 e2=>own_outs (h.inner i u xs e1 e2) ho (fun b hb=>own_out (h.inner i u xs e1 e2) (ht b hb) h2)⟩
theorem lab_ok{W:World}{B:Nat}{v u:Value}{lvs:List Value}{list:List Rr}{k:Nat}{r:Rr}{fp:List Nat}(h:LbRow W B v lvs (labsOf list))(hu:lvs[k]? =some u)(hr:list[k]? =some r)(hs:(Nm.split r.own).isSome=true)(ht:∀ b∈fp,TyAt W b trTys):LabOK W fp u (labI (itemOf r)):=by
 have e:(labsOf list)[k]? =some (labI (itemOf r)):=by simp [labsOf,hr,labI,itemOf]
 have ho:=h.inner k u _ hu e;obtain⟨xs,hx⟩:=Option.isSome_iff_exists.1 hs;have e2:labI (itemOf r)=xs:=by simp [labI,itemOf,hx]
 refine⟨srow_own ho,fun _ b hb=>?_,?_⟩
 ·have hm:=rowBlk_own ho hb;exact⟨fun hf=>own_out ho (ht b hf) (by decide) hm,own_lt ho b hm⟩
 ·rw [e2];have:=lab_fit hx;exact⟨this.1,by omega⟩
theorem lab_ty{W:World}{B:Nat}{v u:Value}{lvs:List Value}{list:List Rr}{k:Nat}{r:Rr}(h:LbRow W B v lvs (labsOf list))(hu:lvs[k]? =some u)(hr:list[k]? =some r){b:Nat}(hb:rowBlk u=some b):TyAt W b [9]:=by
 have e:(labsOf list)[k]? =some (labI (itemOf r)):=by simp [labsOf,hr,labI,itemOf]
 have ho:=h.inner k u _ hu e;exact ty_own ho (by simp) b (rowBlk_own ho hb)
theorem outs_two{w W W':World}{B bb th:Nat}{fp:List Nat}(h:Outs [bb,th] w W)(h2:Outs fp W W')(hf:∀ b∈fp,b=th∨B<=b)(hB:w.heap.size<=B):Outs [bb,th] w W':=
 h.trans h2 (fun k hk=>by
  rcases hf k hk with h1|h1
  ·exact .inl (by simp [h1])
  ·exact .inr (by omega))
theorem layAt{B th bb k:Nat}{wr:World}{list:List Rr}{x:Rr}{rv kv labv:Value}{os:List GOw}{ks:List Ld}{lvs:List Value}{va:Option Addr}{vn vc B0:Nat}{cs:Array Value}(hS:BSt B wr th ((list.map itemOf).take k) rv os kv ks)(hlb:LbRow wr B0 labv lvs (labsOf list))(hB:B<=wr.heap.size)
 (hg:∀ r∈list,(Nm.split r.own).isSome=true) (hx:list[k]? =some x) (hu:lvs[k]? =some (.slice va vn vc)) (hl:list.length<=500) (kb:Blk wr bb cs 74) (hc:cs[4]? =some (ptr th)) (hown:x.own.size<=1000000000) (hda:x.da.size<=2000000):
 ∀ W,Below wr.heap.size wr W->Calls Tryz.prog 106 #[.pointer (some ⟨bb,3,none⟩),.int .i64 (k:Int),.agg #[.string x.own,.int .i64 x.ty,.int .i64 x.cl,.int .i64 x.tt,.string x.da],.slice va vn vc] W fun e w'=>∃ (ob sb:Nat) (isNew:Bool) (rv':Value) (os':List GOw),
   e=.returned (.tuple #[.agg #[.int .i64 (k:Int),.int .i64 x.ty,.pointer (some ⟨ob,0,none⟩),.pointer (some ⟨sb,0,none⟩)],.bool isNew])∧LaidR B wr.heap.size W w' th ((list.map itemOf).take k) (itemOf x) rv rv' os os' kv ks ob sb isNew∧Outs (fpT th rv os) W w'∧∀ b∈fpT th rv' os',b∈fpT th rv os∨W.heap.size<=b:=by
 intro W hW;have hkl:=(List.getElem?_eq_some_iff.1 hx).1;have hS':=hS.below hW
 have hgI:∀ y∈list.map itemOf,GoodI y:=fun y hy=>by
  obtain⟨r,hr,rfl⟩:=List.mem_map.1 hy;exact good_item (hg r hr)
 have hgx:=good_item (hg x (List.mem_of_getElem? hx));have hlen:((list.map itemOf).take k).length=k:=by rw [List.length_take,List.length_map];omega
 have hol:os.length<=400000:=by have:=hS.inv.len.1;omega
 have hlab:=lab_ok (hlb.below hW) hu hx (hg x (List.mem_of_getElem? hx)) hS'.tr.types;have kb':=blk_below kb hW;have hcc:W.cell? ⟨bb,3+1,none⟩=some (ptr th):=(blk_cell kb' 4).trans hc;have hbb:bb∉fpT th rv os:=fun hm=>blk_out kb' (hS'.tr.types bb hm) (by decide) rfl
 refine(lay_any bb 3 th rv os B k x va vn vc (labI (itemOf x)) W hS'.tr (Nat.le_trans hB hW.size) hol (hS.inv.trs (by omega)) hS'.lab hlab hcc hbb hown hda (by omega)).mono ?_;rintro e w' ⟨ob,sb,isNew,rv',os',rfl,hL,hT,hO,hf⟩;refine⟨ob,sb,isNew,rv',os',rfl,laid_r hS' (Nat.le_trans hB hW.size) (fun y hy=>hgI y (List.mem_of_mem_take hy)) hgx hlen.symm hL hT hO hf hlab (fun o ho hne b hb=>((hS.lab o ho).far hne b hb).2) (fun hne b hb=>((lab_ok hlb hu hx (hg x (List.mem_of_getElem? hx)) hS.tr.types).far hne b hb).2) (fun hne b hb=>lab_ty (hlb.below hW) hu hx hb),hO,hf⟩
theorem LaidR.more{B N th g:Nat}{W w' W2:World}{its:List It}{x:It}{rv rv' kv:Value}{os os':List GOw}{ks:List Ld}{ob sb:Nat}{isNew:Bool}(h:LaidR B N W w' th its x rv rv' os os' kv ks ob sb isNew)(ho:Outs [g] w' W2)(h1:g∉fpT th rv' os')(h2:g∉kv.ownBlock.toList)(h3:N<=g):LaidR B N W W2 th its x rv rv' os os' kv ks ob sb isNew:=by
 refine⟨h.tr.keep (fun b hb=>ho.block b (h.tr.lt b hb) (fun hm=>h1 (by rw [List.mem_singleton.1 hm] at hb;exact hb))),h.inv,h.kin,own_outs h.kept ho (fun b hb=>by rw [List.mem_singleton.1 hb];exact h2),fun o hm=>?_,h.fpl,h.sbm,h.lvb,fun o hm hne b hb=>ty_keep (h.lty o hm hne b hb) (ho.block b ((h.lab o hm).far hne b hb).2 (fun hf=>by have:=h.lvb o hm hne b hb;rw [List.mem_singleton.1 hf] at this;omega)),?_⟩
 ·have hl:=h.lab o hm;exact⟨srow_keep hl.row (fun hne b hb=>ho.block b (hl.far hne b hb).2 (fun hf=>by have:=h.lvb o hm hne b hb;rw [List.mem_singleton.1 hf] at this;omega)),fun hne b hb=>⟨(hl.far hne b hb).1,Nat.lt_of_lt_of_le (hl.far hne b hb).2 ho.size⟩,hl.fit⟩
 ·obtain⟨tt,hc,hm⟩:=h.tt;exact⟨tt,outs_cell ho hc (fun hf=>h1 (by rw [<- List.mem_singleton.1 hf];exact h.sbm)),hm⟩
theorem ldVs_snoc(l:List Ld)(x:Ld):ldVs (l++[x])=ldVs l++ldC x:=by simp [ldVs]
theorem LaidR.old{B N th:Nat}{W W' W2:World}{its:List It}{x:It}{rv rv' kv:Value}{os os':List GOw}{ks:List Ld}{ob sb:Nat}(h:LaidR B N W W' th its x rv rv' os os' kv ks ob sb false)(hb:Below W'.heap.size W' W2):BSt B W2 th (its++[x]) rv' os' kv ks:=
 (BSt.below ⟨h.tr,h.inv,by simpa using h.kin,h.kept,h.lab,h.fpl,h.lty⟩ hb)
theorem LaidR.new{B N th bb:Nat}{W W' Wa w9:World}{its:List It}{x:It}{rv rv' kv kv':Value}{os os':List GOw}{ks:List Ld}{ob sb:Nat}{cs:Array Value}(h:LaidR B N W W' th its x rv rv' os os' kv ks ob sb true)(hb:Below W'.heap.size W' Wa)
 (hg:Wa.grownBy w9 kv.ownBlock) (ho:w9.ownsRow B 149 4 kv' (ks.length+1) (ldVs ks++ldC ⟨its.length,x.r.ty,ob,sb⟩)) (kb:Blk w9 bb cs 74):BSt B (w9.setCell ⟨bb,5,none⟩ kv') th (its++[x]) rv' os' kv' (ks++[⟨its.length,x.r.ty,ob,sb⟩]):=by
 have ta:=h.tr.below hb;have ka:=own_below h.kept hb
 have hout:Outs (bb::kv.ownBlock.toList) Wa (w9.setCell ⟨bb,5,none⟩ kv'):=by
  refine⟨hg.os,hg.tape,hg.output,by simpa using hg.size,fun k hk hn=>?_⟩;simp only [List.mem_cons,not_or] at hn;rw [heap_setCell_other w9 ⟨bb,5,none⟩ k _ hn.1];exact hg.block k hk (fun e=>hn.2 (by rw [<- e];simp))
 have nty:∀ (b:Nat) (ts:List TypeId),TyAt Wa b ts->149∉ts->74∉ts->b∉bb::kv.ownBlock.toList:=by
  intro b ts ht n1 n2 hbm;have hk:=own_out ka ht n1
  rcases List.mem_cons.1 hbm with h1|h1
  ·have hlt:b<Wa.heap.size:=by
    obtain⟨c',T',r',e1,_⟩:=ht;exact(Array.getElem?_eq_some_iff.1 e1).1
   refine blk_out kb (b:=bb) (ts:=ts) ?_ n2 rfl;rw [<- h1];exact ty_keep ht (hg.block b hlt (fun e=>hk (by rw [<- e];simp)))
  ·exact hk h1
 refine⟨ta.keep (fun b hm=>hout.block b (ta.lt b hm) (nty b _ (ta.types b hm) (by decide) (by decide))),h.inv,by simpa using h.kin,?_,fun o hm=>?_,h.fpl,fun o hm hne b hb2=>?_⟩
 ·rw [ldVs_snoc];have:=own_far (i:=5) (y:=kv') ho (own_nb ho kb (by decide));simpa using this
 ·have hl:=h.lab o hm;refine⟨srow_keep (hl.row.below hb) (fun hne b hbb=>?_),fun hne b hbb=>⟨(hl.far hne b hbb).1,Nat.lt_of_lt_of_le (hl.far hne b hbb).2 (Nat.le_trans hb.size hout.size)⟩,hl.fit⟩;exact hout.block b (Nat.lt_of_lt_of_le (hl.far hne b hbb).2 hb.size) (nty b _ (ty_keep (h.lty o hm hne b hbb) (hb.block b (hl.far hne b hbb).2)) (by decide) (by decide))
 ·have hl:=h.lab o hm;have h9:=ty_keep (h.lty o hm hne b hb2) (hb.block b (hl.far hne b hb2).2);exact ty_keep h9 (hout.block b (Nat.lt_of_lt_of_le (hl.far hne b hb2).2 hb.size) (nty b _ h9 (by decide) (by decide)))
theorem infoLaid:(Tryz.prog.info? 149).map (fun i=>(i.zero,i.size,i.bytes))=some (some (.agg #[.int .i64 0,.int .i64 0,.pointer none,.pointer none]),4,32):=by kernel_rfl
theorem badI_at{l:List It}{k:Nat}{x:It}(hno:∀ (i:Nat) (y:It),i<k->l[i]? =some y->mixI (l.take i) y=false)(hk:l[k]? =some x)(hp:mixI (l.take k) x=true):badI l=(k:Int):=by
 rw [badI,firstI_at (p:=fun i x=>mixI (l.take i) x) (fun i hi y hy=>hno i y hi hy) hk hp]
theorem badI_no{l:List It}(hno:∀ (i:Nat) (y:It),l[i]? =some y->mixI (l.take i) y=false):badI l= -1:=by
 rw [badI,firstI_no (p:=fun i x=>mixI (l.take i) x) (fun i _ y hy=>hno i y hy)]
theorem take_snoc_it{l:List It}{k:Nat}{x:It}(h:l[k]? =some x):l.take (k+1)=l.take k++[x]:=by
 obtain⟨hk,e⟩:=List.getElem?_eq_some_iff.1 h;rw [List.take_succ_eq_append_getElem hk,e]
set_option maxRecDepth 100000 in
set_option maxHeartbeats 6400000 in
theorem checkTimes_any(bb th:Nat)(la:Option Addr)(lc:Nat)(list:List Rr)(apex:ByteArray)(labv:Value)(lvs:List Value)(av:Value)(B0:Nat)(w:World)(hk:Blk w bb #[.slice la list.length lc,.string apex,labv,av,ptr th,.slice none 0 0] 74)
 (h:CRow w (.slice la list.length lc) list.length 5 (rvVs list)) (hfar:0<list.length->∀ b,rowBlk (.slice la list.length lc)=some b->b≠bb∧b≠th) (hl:list.length<=500) (hlb:LbRow w B0 labv lvs (labsOf list)) (hth:Blk w th #[cmpLv,.slice none 0 0] 163)
 (hg:∀ r∈list,(Nm.split r.own).isSome=true) (ho:∀ r∈list,r.own.size<=1000000000∧r.da.size<=2000000):
 Calls Tryz.prog 66 #[.pointer (some ⟨bb,0,none⟩)] w fun e w'=>Outs [bb,th] w w'∧
  ((0<=badI (list.map itemOf)∧e=rsV 24 (badI (list.map itemOf)))∨
  (badI (list.map itemOf)= -1∧e=rsV 0 0∧(∀ (i:Nat) (y:It),(list.map itemOf)[i]? =some y->mixI ((list.map itemOf).take i) y=false)∧∃ rv os kv ks,Blk w' bb #[.slice la list.length lc,.string apex,labv,av,ptr th,kv] 74∧BSt w.heap.size w' th (list.map itemOf) rv os kv ks)):=by
 obtain⟨i0,hi,hz0,hz1,hz2⟩:=info_parts infoLaid;have rk:=fun i=>blk_cell hk i
 have hbl:=blk_lt hk;obtain⟨_,a,cap,e,hcap,hmx,hc⟩:=h;cases e
 unfold maxLen at hmx;have HX:=Nm.hide (And.intro hfar (And.intro hlb (And.intro hth (And.intro hg ho))));clear hfar hlb hth hg ho;have HK:=Nm.hide hk;clear hk;unfold ptr at*;go_enter Tryz.func66,Tryz.ntmps66;go_wp2
 go_loopw [13] (fun i wr=>∃ (k:Nat) (rv:Value) (os:List GOw) (kv:Value) (ks:List Ld),k<=list.length∧i=.int .i64 k∧(∀ (j:Nat) (y:It),j<k->(list.map itemOf)[j]? =some y->mixI ((list.map itemOf).take j) y=false)∧Blk wr bb #[.slice la list.length lc,.string apex,labv,av,.pointer (some ⟨th,0,none⟩),kv] 74∧BSt w.heap.size wr th ((list.map itemOf).take k) rv os kv ks∧LbRow wr B0 labv lvs (labsOf list)∧Outs [bb,th] w wr) (fun i _=>list.length-(intOf i).toNat)
 case atStart=>exact⟨0,.slice none 0 0,[],.slice none 0 0,[],Nat.zero_le _,rfl,fun j x hj=>absurd hj (Nat.not_lt_zero _),HK.out,BSt.nil HX.out.2.2.1,HX.out.2.1,Outs.below (Below.refl _ _)⟩
 case round=>
  obtain⟨k,rv,os,kv,ks,hk',rfl,hno,kb,hS,lr,hou⟩:=hrel;have HR:=Nm.hide (And.intro hno (And.intro kb (And.intro hS (And.intro lr hou))))
  by_cases hlt:k<list.length
  ·obtain⟨x,hx⟩:∃ x,list[k]? =some x:=⟨_,List.getElem?_eq_getElem hlt⟩;obtain⟨b,off,rfl,hcell⟩:=hc (by omega)
   have hnb:b∉[bb,th]:=fun hm=>by
    have:=HX.out.1 (by omega) b rfl;simp at hm
    rcases hm with h|h
    ·exact this.1 h
    ·exact this.2 h
   obtain⟨d0,d1,d2,d3,d4⟩:=rv_cells (w:=wr) (fun i y hy=>outs_cell hou (hcell i y hy) hnb) hx;have hxo:=HX.out.2.2.2.2 x (List.mem_of_getElem? hx);have hll:lvs.length=list.length:=by rw [lr.len,labsOf,List.length_map]
   obtain⟨u,hu⟩:∃ u,lvs[k]? =some u:=⟨_,List.getElem?_eq_getElem (by omega)⟩;have hul:=lab_ok lr hu hx (HX.out.2.2.2.1 x (List.mem_of_getElem? hx)) hS.tr.types;obtain⟨va,vc,eu,_⟩:=hul.row;have hlay:=layAt hS lr hou.size HX.out.2.2.2.1 hx (by rw [hu,eu]) hl kb rfl hxo.1 hxo.2
   obtain⟨lb,lcap,eLv⟩:∃ lb lcap,labv=.slice (some ⟨lb,0,none⟩) list.length lcap:=by
    rcases lr.outer.2 with⟨_,h0⟩|⟨q,cap,cur,e,_⟩
    ·omega
    ·exact⟨q,cap,by rw [e,hll]⟩
   have hlc:wr.cell? ⟨lb,k,none⟩=some u:=by
    have:=lr.outer;rw [eLv,hll] at this;have h9:=this.cellAt k (by omega);rw [h9];exact hu
   rw [eu] at hlc;subst eLv;generalize (labI (itemOf x)).length=vn at*;have HXX:=Nm.hide (And.intro hx (And.intro hu eu));have hwr:=hou.size;have kr:=blk_new wr #[.string x.own,.int .i64 x.ty,.int .i64 x.cl,.int .i64 x.tt,.string x.da] 47;have ba:=(Below.refl wr.heap.size wr).alloc (Nat.le_refl _) (.cells #[.string x.own,.int .i64 x.ty,.int .i64 x.cl,.int .i64 x.tt,.string x.da] 47);have kbA:=blk_below kb ba;have cL:=(ba.cell (p:=⟨lb,k,none⟩) (World.block_lt_of_cell? wr _ hlc)).trans hlc;have i1:(0:Int)<=(k:Int):=by omega
   have i2:(k:Int)<(list.length:Int):=by omega
   have HLAY:=Nm.hide hlay;clear hc hcell hx hno kb lr hou hnb rk hS hul hlay eu hu hll hlc hxo;go_wp2_with fail
   go_cut [6,7] from 18 to 33 (fun p q wx=>∃ (g ob sb:Nat) (isNew:Bool) (rv':Value) (os':List GOw) (W:World),p=.pointer (some ⟨g,0,none⟩)∧q=.bool isNew∧wr.heap.size<g∧Blk wx g #[.int .i64 (k:Int),.int .i64 x.ty,.pointer (some ⟨ob,0,none⟩),.pointer (some ⟨sb,0,none⟩)] 149∧Blk wx wr.heap.size #[.string x.own,.int .i64 x.ty,.int .i64 x.cl,.int .i64 x.tt,.string x.da] 47∧LaidR w.heap.size wr.heap.size W wx th ((list.map itemOf).take k) (itemOf x) rv rv' os os' kv ks ob sb isNew∧Outs (g::fpT th rv os) (wr.alloc (.cells #[.string x.own,.int .i64 x.ty,.int .i64 x.cl,.int .i64 x.tt,.string x.da] 47)) wx)
   case first=>
    have hfpr:∀ b∈fpT th rv os,b<wr.heap.size:=HR.out.2.2.1.tr.lt
    have kbS:Hid (∀ g X,wr.heap.size<g->Outs (g::fpT th rv os) (wr.alloc (.cells #[.string x.own,.int .i64 x.ty,.int .i64 x.cl,.int .i64 x.tt,.string x.da] 47)) X->(X.cell? ⟨wr.heap.size,0,none⟩=some (.string x.own)∧X.cell? ⟨wr.heap.size,1,none⟩=some (.int .i64 x.ty)∧X.cell? ⟨wr.heap.size,2,none⟩=some (.int .i64 x.cl)∧X.cell? ⟨wr.heap.size,3,none⟩=some (.int .i64 x.tt)∧X.cell? ⟨wr.heap.size,4,none⟩=some (.string x.da)∧X.cell? ⟨bb,2,none⟩=some (.slice (some ⟨lb,0,none⟩) list.length lcap)∧X.cell? ⟨lb,k,none⟩=some (.slice va vn vc))):=by
     intro g X hgr hX;have l1:=blk_lt HR.out.2.1;have l2:=own_lt HR.out.2.2.2.1.outer lb (by simp [Value.ownBlock])
     have n1:wr.heap.size∉g::fpT th rv os:=fun hm=>by
      rcases List.mem_cons.1 hm with h|h
      ·omega
      ·have:=hfpr _ h;omega
     have n2:bb∉g::fpT th rv os:=fun hm=>by
      rcases List.mem_cons.1 hm with h|h
      ·omega
      ·exact blk_out HR.out.2.1 (HR.out.2.2.1.tr.types bb h) (by decide) rfl
     have n3:lb∉g::fpT th rv os:=fun hm=>by
      rcases List.mem_cons.1 hm with h|h
      ·omega
      ·exact own_out HR.out.2.2.2.1.outer (HR.out.2.2.1.tr.types lb h) (by decide) (by simp [Value.ownBlock])
     have kx:=fun i=>blk_cell (blk_outs kr hX n1) i
     exact⟨(kx 0).trans rfl,(kx 1).trans rfl,(kx 2).trans rfl,(kx 3).trans rfl,(kx 4).trans rfl,(blk_cell (blk_outs kbA hX n2) 2).trans rfl,outs_cell hX cL n3⟩
    have bd:Below wr.heap.size wr (wr.alloc (.cells #[.string x.own,.int .i64 x.ty,.int .i64 x.cl,.int .i64 x.tt,.string x.da] 47)).drew:=ba.drew;have O0:Outs (fpT th rv os) (wr.alloc (.cells #[.string x.own,.int .i64 x.ty,.int .i64 x.cl,.int .i64 x.tt,.string x.da] 47)) (wr.alloc (.cells #[.string x.own,.int .i64 x.ty,.int .i64 x.cl,.int .i64 x.tt,.string x.da] 47)).drew:=Outs.below (Below.refl _ _).drew
    have hs0:(wr.alloc (.cells #[.string x.own,.int .i64 x.ty,.int .i64 x.cl,.int .i64 x.tt,.string x.da] 47)).drew.heap.size=wr.heap.size+1:=by
     show(wr.alloc _).heap.size=_
     simp
    have HS0:=Nm.hide hs0;have HFP:=Nm.hide hfpr;clear hs0 hfpr d0 d1 d2 d3 d4;refine wp_region_last (fun X=>X.cell? ⟨wr.heap.size,0,none⟩=some (.string x.own)∧X.cell? ⟨wr.heap.size,1,none⟩=some (.int .i64 x.ty)∧X.cell? ⟨wr.heap.size,2,none⟩=some (.int .i64 x.cl)∧X.cell? ⟨wr.heap.size,3,none⟩=some (.int .i64 x.tt)∧X.cell? ⟨wr.heap.size,4,none⟩=some (.string x.da)∧X.cell? ⟨bb,2,none⟩=some (.slice (some ⟨lb,0,none⟩) list.length lcap)∧X.cell? ⟨lb,k,none⟩=some (.slice va vn vc)) 1000 (by kernel_rfl) (kbS.out (wr.heap.size+1) _ (by omega) (O0.wide (fun k hk=>by simp [hk]))) (fun hHeld=>?_);refine tkL (i:=0) (v:=?_) rfl ?_ ?_;rotate_left 1
    ·(intro W hSW;obtain⟨z0,z1,z2,z3,z4,z5,z6⟩:=hSW;go_simp;try (with_reducible rfl))
    refine tkL (i:=1) (v:=?_) rfl ?_ ?_;rotate_left 1
    ·(intro W hSW;obtain⟨z0,z1,z2,z3,z4,z5,z6⟩:=hSW;go_simp;try (with_reducible rfl))
    refine tkL (i:=2) (v:=?_) rfl ?_ ?_;rotate_left 1
    ·(intro W hSW;obtain⟨z0,z1,z2,z3,z4,z5,z6⟩:=hSW;go_simp;try (with_reducible rfl))
    refine tkL (i:=3) (v:=?_) rfl ?_ ?_;rotate_left 1
    ·(intro W hSW;obtain⟨z0,z1,z2,z3,z4,z5,z6⟩:=hSW;go_simp;try (with_reducible rfl))
    refine tkL (i:=4) (v:=?_) rfl ?_ ?_;rotate_left 1
    ·(intro W hSW;obtain⟨z0,z1,z2,z3,z4,z5,z6⟩:=hSW;go_simp;try (with_reducible rfl))
    refine tkL (i:=5) (v:=?_) rfl ?_ ?_;rotate_left 1
    ·(intro W hSW;obtain⟨z0,z1,z2,z3,z4,z5,z6⟩:=hSW;go_simp;try (with_reducible rfl))
    refine tkL (i:=6) (v:=?_) rfl ?_ ?_;rotate_left 1
    ·(intro W hSW;obtain⟨z0,z1,z2,z3,z4,z5,z6⟩:=hSW;go_simp;try (with_reducible rfl))
    refine tkL (i:=7) (v:=?_) rfl ?_ ?_;rotate_left 1
    ·(intro W hSW;obtain⟨z0,z1,z2,z3,z4,z5,z6⟩:=hSW;go_simp;try (with_reducible rfl))
    refine tkL (i:=8) (v:=?_) rfl ?_ ?_;rotate_left 1
    ·(intro W hSW;obtain⟨z0,z1,z2,z3,z4,z5,z6⟩:=hSW;go_simp;try (with_reducible rfl))
    refine tkL (i:=9) (v:=?_) rfl ?_ ?_;rotate_left 1
    ·(intro W hSW;obtain⟨z0,z1,z2,z3,z4,z5,z6⟩:=hSW;go_simp;try (with_reducible rfl))
    refine tkL (i:=10) (v:=?_) rfl ?_ ?_;rotate_left 1
    ·(intro W hSW;obtain⟨z0,z1,z2,z3,z4,z5,z6⟩:=hSW;go_simp;try (with_reducible rfl))
    refine tkL (i:=11) (v:=?_) rfl ?_ ?_;rotate_left 1
    ·(intro W hSW;obtain⟨z0,z1,z2,z3,z4,z5,z6⟩:=hSW;go_simp;try (with_reducible rfl))
    refine wpAnyL_two (i:=12) (j:=16) (by kernel_rfl) rfl rfl (fun K hK=>?_) (fun K hK=>?_)
    ·go_simp;refine(HLAY.out _ bd).mono ?_;rintro e w1 ⟨ob,sb,isNew,rv',os',rfl,hLR,O1,M1⟩;go_wp2_with fail
     have O1':=O0.trans O1 (fun k hk=>.inl hk);have hw1:wr.heap.size+1<=w1.heap.size:=by have:=O1.size;have:=HS0.out;omega
     have O2:Outs (w1.heap.size::fpT th rv os) (wr.alloc (.cells #[.string x.own,.int .i64 x.ty,.int .i64 x.cl,.int .i64 x.tt,.string x.da] 47)) w1:=O1'.wide (fun k hk=>by simp [hk]);have kz:=blk_new w1 #[.int .i64 0,.int .i64 0,.pointer none,.pointer none] 149;have bz:=(Below.refl w1.heap.size w1).alloc (Nat.le_refl _) (.cells #[.int .i64 0,.int .i64 0,.pointer none,.pointer none] 149);have rz:=fun i=>blk_cell kz i
     have fz:=fun i=>blk_frozen kz i
     have HW1:=Nm.hide hw1;clear hw1;refine hK.out _ _ (kbS.out w1.heap.size _ (by have:=HW1.out;omega) O2) (fun hHeld=>?_);clear hK K;refine tkL (i:=13) (v:=?_) rfl ?_ ?_;rotate_left 1
     ·(intro W hSW;obtain⟨z0,z1,z2,z3,z4,z5,z6⟩:=hSW;go_simp;try (with_reducible rfl))
     refine tkL (i:=14) (v:=?_) rfl ?_ ?_;rotate_left 1
     ·(intro W hSW;obtain⟨z0,z1,z2,z3,z4,z5,z6⟩:=hSW;go_simp;try (with_reducible rfl))
     refine tkL (i:=15) (v:=?_) rfl ?_ ?_;rotate_left 1
     ·(intro W hSW;obtain⟨z0,z1,z2,z3,z4,z5,z6⟩:=hSW;go_simp;try (with_reducible rfl))
     refine wpAnyL_one (i:=16) (by kernel_rfl) rfl (fun K hK=>?_);go_simp;have O3:=O2.trans (Outs.below (fp:=w1.heap.size::fpT th rv os) bz) (fun k hk=>.inl hk);refine hK.out _ _ (kbS.out w1.heap.size _ (by have:=HW1.out;omega) O3) (fun hHeld=>?_);clear hK K;refine wpAnyL_one (i:=17) (by kernel_rfl) rfl (fun K hK=>?_);go_simp;have k4:=blk_new w1 #[.int .i64 (k:Int),.int .i64 x.ty,.pointer (some ⟨ob,0,none⟩),.pointer (some ⟨sb,0,none⟩)] 149;have Og:=Outs.below (fp:=[w1.heap.size]) ((Below.refl w1.heap.size w1).alloc (Nat.le_refl _) (.cells #[.int .i64 (k:Int),.int .i64 x.ty,.pointer (some ⟨ob,0,none⟩),.pointer (some ⟨sb,0,none⟩)] 149));have O4:=O2.trans Og (fun k hk=>.inl (by rw [List.mem_singleton.1 hk];simp));have LR4:=hLR.more Og (fun hm=>by have:=hLR.tr.lt _ hm;omega) (fun hm=>by have:=own_lt hLR.kept _ hm;omega) (by have:=HW1.out;omega)
     have kr4:=blk_outs kr O4 (fun hm=>by
      rcases List.mem_cons.1 hm with h|h
      ·have:=HW1.out;omega
      ·have:=HFP.out _ h;omega)
     clear rz fz kz;refine hK.out _ _ (kbS.out w1.heap.size _ (by have:=HW1.out;omega) O4) (fun hHeld=>?_);clear hK K;refine wpAnyL_one (i:=18) (by kernel_rfl) rfl (fun K hK=>?_);go_simp;refine hK.out _ _ (kbS.out w1.heap.size _ (by have:=HW1.out;omega) O4) (fun hHeld=>?_);clear hK K;refine wpAnyL_done (by kernel_rfl) ?_;go_wp2_with fail
     go_meet
     case rel=>exact⟨w1.heap.size,ob,sb,isNew,rv',os',_,rfl,rfl,by have:=HW1.out;omega,k4,kr4,LR4,O4⟩
    ·go_simp;have kz1:=blk_new (wr.alloc (.cells #[.string x.own,.int .i64 x.ty,.int .i64 x.cl,.int .i64 x.tt,.string x.da] 47)) #[.int .i64 0,.int .i64 0,.pointer none,.pointer none] 149;rw [World.size_alloc] at kz1;have kz:=blk_drew kz1;have bz:=((Below.refl _ (wr.alloc (.cells #[.string x.own,.int .i64 x.ty,.int .i64 x.cl,.int .i64 x.tt,.string x.da] 47))).alloc (Nat.le_refl _) (.cells #[.int .i64 0,.int .i64 0,.pointer none,.pointer none] 149)).drew;have bw:=Nm.below_two ba bz
     have hsz:((wr.alloc (.cells #[.string x.own,.int .i64 x.ty,.int .i64 x.cl,.int .i64 x.tt,.string x.da] 47)).alloc (.cells #[.int .i64 0,.int .i64 0,.pointer none,.pointer none] 149)).drew.heap.size=wr.heap.size+2:=by
      show((wr.alloc _).alloc _).heap.size=_
      simp
     have O2:=Outs.below (fp:=(wr.heap.size+1)::fpT th rv os) bz;clear kz1;refine hK.out _ _ (kbS.out (wr.heap.size+1) _ (by omega) O2) (fun hHeld=>?_);clear hK K;refine wpAnyL_one (i:=12) (by kernel_rfl) rfl (fun K hK=>?_);go_simp;have hly:=HLAY.out _ bw;have HSZ:=Nm.hide hsz;clear hsz;refine hly.mono ?_;rintro e w1 ⟨ob,sb,isNew,rv',os',rfl,hLR,O1,M1⟩;have O3:=O2.trans O1 (fun k hk=>.inl (by simp [hk]));have ng:wr.heap.size+1∉fpT th rv os:=fun hm=>by have:=HFP.out _ hm;omega
     have kz2:=blk_outs kz O1 ng;clear hly kz;go_wp2_with fail
     refine hK.out _ _ (kbS.out (wr.heap.size+1) _ (by omega) O3) (fun hHeld=>?_);clear hK K;refine tkL (i:=13) (v:=?_) rfl ?_ ?_;rotate_left 1
     ·(intro W hSW;obtain⟨z0,z1,z2,z3,z4,z5,z6⟩:=hSW;go_simp;try (with_reducible rfl))
     refine tkL (i:=14) (v:=?_) rfl ?_ ?_;rotate_left 1
     ·(intro W hSW;obtain⟨z0,z1,z2,z3,z4,z5,z6⟩:=hSW;go_simp;try (with_reducible rfl))
     refine tkL (i:=15) (v:=?_) rfl ?_ ?_;rotate_left 1
     ·(intro W hSW;obtain⟨z0,z1,z2,z3,z4,z5,z6⟩:=hSW;go_simp;try (with_reducible rfl))
     refine wpAnyL_one (i:=17) (by kernel_rfl) rfl (fun K hK=>?_);have rz:=fun i=>blk_cell kz2 i
     have fz:=fun i=>blk_frozen kz2 i
     go_simp;have k4:=blk_set (blk_set (blk_set (blk_set kz2 0 (.int .i64 (k:Int))) 1 (.int .i64 x.ty)) 2 (.pointer (some ⟨ob,0,none⟩))) 3 (.pointer (some ⟨sb,0,none⟩));simp only [List.setIfInBounds_toArray,List.set_cons_zero,List.set_cons_succ] at k4;have Og:=(((outs_set (W:=w1) (b:=wr.heap.size+1) (i:=0) (v:=.int .i64 (k:Int))).trans (outs_set (b:=wr.heap.size+1) (i:=1) (v:=.int .i64 x.ty)) (fun k hk=>.inl hk)).trans (outs_set (b:=wr.heap.size+1) (i:=2) (v:=.pointer (some ⟨ob,0,none⟩))) (fun k hk=>.inl hk)).trans (outs_set (b:=wr.heap.size+1) (i:=3) (v:=.pointer (some ⟨sb,0,none⟩))) (fun k hk=>.inl hk);have O4:=O3.trans Og (fun k hk=>.inl (by rw [List.mem_singleton.1 hk];simp))
     have LR4:=hLR.more Og (fun hm=>by
      rcases M1 _ hm with h|h
      ·exact ng h
      ·have:=HSZ.out;omega) (fun hm=>by have:=own_lt HR.out.2.2.1.kept _ hm;omega) (by omega)
     have kr4:=blk_outs kr O4 (fun hm=>by
      rcases List.mem_cons.1 hm with h|h
      ·omega
      ·have:=HFP.out _ h;omega)
     clear rz fz kz2;refine hK.out _ _ (kbS.out (wr.heap.size+1) _ (by omega) O4) (fun hHeld=>?_);clear hK K;refine wpAnyL_one (i:=18) (by kernel_rfl) rfl (fun K hK=>?_);go_simp;refine hK.out _ _ (kbS.out (wr.heap.size+1) _ (by omega) O4) (fun hHeld=>?_);clear hK K;refine wpAnyL_done (by kernel_rfl) ?_;go_wp2_with fail
     go_meet
     case rel=>exact⟨wr.heap.size+1,ob,sb,isNew,rv',os',_,rfl,rfl,by omega,k4,kr4,LR4,O4⟩
   case rest=>
    obtain⟨g,ob,sb,isNew,rv',os',W,rfl,rfl,hgw,kg,kr5,LR,Oc⟩:=hcut;obtain⟨tt,ctt,hmix⟩:=LR.tt;have hgI:GoodI (itemOf x):=good_item (HX.out.2.2.2.1 x (List.mem_of_getElem? HXX.out.1));have hix:(list.map itemOf)[k]? =some (itemOf x):=by simp [HXX.out.1]
    have c3:=(blk_cell kr5 3).trans rfl;have g3:=(blk_cell kg 3).trans rfl
    have hmx2:(x.tt != tt)=mixI ((list.map itemOf).take k) (itemOf x):=by
     rw [hmix]
     show(x.tt != tt)=decide (tt≠x.tt)
     by_cases h9:x.tt=tt
     ·rw [h9];simp
     ·have h8:tt≠x.tt:=fun e=>h9 e.symm
      simp [h9,h8]
    have hnbb:bb∉g::fpT th rv os:=fun hm=>by
     have l1:=blk_lt HR.out.2.1
     rcases List.mem_cons.1 hm with h|h
     ·omega
     ·exact blk_out HR.out.2.1 (HR.out.2.2.1.tr.types bb h) (by decide) rfl
    have kbC:=blk_outs kbA Oc hnbb
    have oCw:Outs [bb,th] w wc:=by
     have h1:Outs [bb,th] w (wr.alloc (.cells #[.string x.own,.int .i64 x.ty,.int .i64 x.cl,.int .i64 x.tt,.string x.da] 47)):=HR.out.2.2.2.2.trans (Outs.below (fp:=[bb,th]) ba) (fun k hk=>.inl hk);refine outs_two (B:=w.heap.size) h1 Oc (fun b hb=>?_) (Nat.le_refl _)
     rcases List.mem_cons.1 hb with h|h
     ·exact .inr (by omega)
     ·exact HR.out.2.2.1.fpl b h
    have lrC:LbRow wc B0 (.slice (some ⟨lb,0,none⟩) list.length lcap) lvs (labsOf list):=by
     have l0:=HR.out.2.2.2.1.below ba;refine⟨own_outs l0.outer Oc (fun b hb=>?_),l0.len,fun i u xs e1 e2=>own_outs (l0.inner i u xs e1 e2) Oc (fun b hb=>?_)⟩
     ·rcases List.mem_cons.1 hb with h|h
      ·intro hm;have:=own_lt HR.out.2.2.2.1.outer _ hm;omega
      ·exact own_out HR.out.2.2.2.1.outer (HR.out.2.2.1.tr.types b h) (by decide)
     ·rcases List.mem_cons.1 hb with h|h
      ·intro hm;have:=own_lt (HR.out.2.2.2.1.inner i u xs e1 e2) _ hm;omega
      ·exact own_out (HR.out.2.2.2.1.inner i u xs e1 e2) (HR.out.2.2.1.tr.types b h) (by decide)
    have HM:=Nm.hide (And.intro hmx2 (And.intro hix (And.intro oCw (And.intro lrC LR))));clear hmix hmx2 hix oCw lrC LR Oc hnbb kr5 kr kbA cL HLAY d0 d1 d2 d3 d4 hgI
    cases hne:(x.tt != tt) with
    |true=>
     have HN:=Nm.hide hne;go_wp2;go_quiet (fail)
     go_wp2;go_ret2;have hb9:=badI_at HR.out.1 HM.out.2.1 (by rw [<- HM.out.1];exact HN.out)
     refine⟨HM.out.2.2.1.trans (Outs.below (fp:=[bb,th]) (Go.below_drewN (Below.refl _ wc) _)) (fun k hk=>.inl hk),.inl ⟨by rw [hb9];omega,by rw [hb9];rfl⟩⟩
    |false=>
     have HN:=Nm.hide hne
     cases isNew with
     |false=>
      go_wp2;go_quiet (fail)
      go_wp2;have bq:=Go.below_drewN (Below.refl wc.heap.size wc) nq;go_roundw
      case rel=>
       refine⟨k+1,rv',os',kv,ks,by omega,by go_num,fun j y hj hy=>?_,blk_below kbC bq,?_,HM.out.2.2.2.1.below bq,HM.out.2.2.1.trans (Outs.below (fp:=[bb,th]) bq) (fun k hk=>.inl hk)⟩
       ·rcases Nat.lt_succ_iff_lt_or_eq.1 hj with h1|rfl
        ·exact HR.out.1 j y h1 hy
        ·rw [HM.out.2.1] at hy;cases hy;rw [<- HM.out.1];exact HN.out
       ·rw [take_snoc_it HM.out.2.1];exact HM.out.2.2.2.2.old bq
      case measure=>simp [intOf];omega
     |true=>
      go_wp2;go_quiet (fail)
      go_upto_region 8 with fail
      have bq:=(Go.below_drewN (Below.refl wc.heap.size wc) nq).drew;have kb8:=blk_below kbC bq;have kg8:=blk_below kg bq;have ok8:=own_below HM.out.2.2.2.2.kept bq;have hwc:=HM.out.2.2.1.size
      have hks:ks.length<=k:=by
       have:=HR.out.2.2.1.kin.len;rw [List.length_take,List.length_map] at this;omega
      obtain⟨ka,kc,rfl⟩:=own_sl ok8;have hkg:(Value.slice ka ks.length kc).ownBlock≠some g:=fun e=>by have:=own_lt HR.out.2.2.1.kept g (by rw [e];simp);omega
      have HQ:=Nm.hide (And.intro hks (And.intro hwc (And.intro hgw hkg)));have Hbq:=Nm.hide bq;clear hks hwc hgw hkg bq c3 g3 ctt hne;generalize hWD:(wc.drewN nq).drew=WD at*;have HWD:=Nm.hide hWD;clear hWD;refine wp_region_last (fun X=>X.cell? ⟨bb,5,none⟩=some (.slice ka ks.length kc)∧X.cell? ⟨g,0,none⟩=some (.int .i64 (k:Int))∧X.cell? ⟨g,1,none⟩=some (.int .i64 x.ty)∧X.cell? ⟨g,2,none⟩=some (.pointer (some ⟨ob,0,none⟩))∧X.cell? ⟨g,3,none⟩=some (.pointer (some ⟨sb,0,none⟩))∧True∧True) 10 (by kernel_rfl) (by rw [HWD.out];exact⟨(blk_cell kb8 5).trans rfl,(blk_cell kg8 0).trans rfl,(blk_cell kg8 1).trans rfl,(blk_cell kg8 2).trans rfl,(blk_cell kg8 3).trans rfl,trivial,trivial⟩) (fun hHeld=>?_);rw [HWD.out] at hHeld ⊢;refine tkL (i:=0) (v:=?_) rfl ?_ ?_;rotate_left 1
      ·(intro W hSW;obtain⟨z0,z1,z2,z3,z4,z5,z6⟩:=hSW;go_simp;try (with_reducible rfl))
      refine tkL (i:=1) (v:=?_) rfl ?_ ?_;rotate_left 1
      ·(intro W hSW;obtain⟨z0,z1,z2,z3,z4,z5,z6⟩:=hSW;go_simp;try (with_reducible rfl))
      refine tkL (i:=2) (v:=?_) rfl ?_ ?_;rotate_left 1
      ·(intro W hSW;obtain⟨z0,z1,z2,z3,z4,z5,z6⟩:=hSW;go_simp;try (with_reducible rfl))
      refine tkL (i:=3) (v:=?_) rfl ?_ ?_;rotate_left 1
      ·(intro W hSW;obtain⟨z0,z1,z2,z3,z4,z5,z6⟩:=hSW;go_simp;try (with_reducible rfl))
      refine tkL (i:=4) (v:=?_) rfl ?_ ?_;rotate_left 1
      ·(intro W hSW;obtain⟨z0,z1,z2,z3,z4,z5,z6⟩:=hSW;go_simp;try (with_reducible rfl))
      refine tkL (i:=5) (v:=?_) rfl ?_ ?_;rotate_left 1
      ·(intro W hSW;obtain⟨z0,z1,z2,z3,z4,z5,z6⟩:=hSW;go_simp;try (with_reducible rfl))
      refine wpAnyL_one (i:=6) (by kernel_rfl) rfl (fun K hK=>?_);go_simp;have ba8:=(Below.refl WD.heap.size WD).alloc (Nat.le_refl _) (.cells #[.int .i64 (k:Int),.int .i64 x.ty,.pointer (some ⟨ob,0,none⟩),.pointer (some ⟨sb,0,none⟩)] 149);have kb9:=blk_below kb8 ba8;have kg9:=blk_below kg8 ba8;have ok9:=own_below ok8 ba8;refine hK.out _ _ ⟨(blk_cell kb9 5).trans rfl,(blk_cell kg9 0).trans rfl,(blk_cell kg9 1).trans rfl,(blk_cell kg9 2).trans rfl,(blk_cell kg9 3).trans rfl,trivial,trivial⟩ (fun hHeld=>?_);clear hK K;refine wpAnyL_one (i:=7) (by kernel_rfl) rfl (fun K hK=>?_);refine step_append_own rfl (.tmp 48) (.tmp 50) 72 rfl w.heap.size 149 i0 (.agg #[.int .i64 0,.int .i64 0,.pointer none,.pointer none]) 4 32 Tryz.underlying72 hi hz0 hz1 hz2 rfl (by decide) (.slice ka ks.length kc) ks.length (ldVs ks) (by rfl) ok9 ⟨WD.heap.size,0,none⟩ 1 1 [.int .i64 (k:Int),.int .i64 x.ty,.pointer (some ⟨ob,0,none⟩),.pointer (some ⟨sb,0,none⟩)] (by rfl) rfl (cell_newV _ _ _) (by intro u hu;simp at hu;rcases hu with rfl|rfl|rfl|rfl<;>rfl) (by unfold maxLen;have:=HQ.out;omega) (by have:=HQ.out;omega) (by have h1:=HQ.out.2.1;have h2:=Hbq.out.size;have h3:=ba8.size;omega) ?_;intro v9 w9 hown9 hgrow9 _;obtain⟨g',cap',rfl⟩:=ownsRow_succ hown9;have kb10:=blk_grown kb9 hgrow9 (own_nb ok9 kb9 (by decide));have kg10:=blk_grown kg9 hgrow9 HQ.out.2.2.2;refine hK.out _ _ ⟨(blk_cell kb10 5).trans rfl,(blk_cell kg10 0).trans rfl,(blk_cell kg10 1).trans rfl,(blk_cell kg10 2).trans rfl,(blk_cell kg10 3).trans rfl,trivial,trivial⟩ (fun hHeld=>?_);clear hK K;refine wpAnyL_one (i:=8) (by kernel_rfl) rfl (fun K hK=>?_);go_simp;refine hK.out _ _ hHeld (fun hHeld=>?_);clear hK K;refine wpAnyL_one (i:=9) (by kernel_rfl) rfl (fun K hK=>?_);go_simp;refine hK.out _ _ hHeld (fun hHeld=>?_);clear hK K;have rk10:=fun i=>blk_cell kb10 i
      have fk10:=fun i=>blk_frozen kb10 i
      refine wpAnyL_end (by kernel_rfl) rfl (by kernel_rfl) (fun K hK=>?_);go_simp;refine hK.out _ _ ?_;clear hK K hHeld rk10 fk10;have k11:=blk_set kb10 5 (.slice (some ⟨g',0,none⟩) (ks.length+1) cap');simp only [List.setIfInBounds_toArray,List.set_cons_zero,List.set_cons_succ] at k11;have hbw:Below wc.heap.size wc (WD.alloc (.cells #[.int .i64 (k:Int),.int .i64 x.ty,.pointer (some ⟨ob,0,none⟩),.pointer (some ⟨sb,0,none⟩)] 149)):=Nm.below_two Hbq.out ba8;have hlen:((list.map itemOf).take k).length=k:=by rw [List.length_take,List.length_map];omega
      have hnew:=HM.out.2.2.2.2.new hbw hgrow9 (by rw [hlen];exact hown9) kb10;rw [hlen] at hnew;have lr11:=(LbRow.outs (fp:=(Value.slice ka ks.length kc).ownBlock.toList) (ts:=[149]) (HM.out.2.2.2.1.below hbw) ⟨hgrow9.os,hgrow9.tape,hgrow9.output,hgrow9.size,fun q hq hn=>hgrow9.block q hq (fun e=>hn (by rw [<- e];simp))⟩ (ty_own ok9 (by simp)) (by decide) (by decide)).set (i:=5) (y:=.slice (some ⟨g',0,none⟩) (ks.length+1) cap') kb10;have ou11:=(outs_grown (HM.out.2.2.1.trans (Outs.below (fp:=[bb,th]) hbw) (fun k hk=>.inl hk)) hgrow9 (fun q e=>(ok9.lt q e).1)).trans (outs_set (b:=bb) (i:=5) (v:=.slice (some ⟨g',0,none⟩) (ks.length+1) cap')) (fun k hk=>.inl (by simp [List.mem_singleton.1 hk]));clear hHeld kg9 kg8 kg10 kb9 kb10 ok9 ok8 hown9 hgrow9;go_wp2;go_roundw
      case rel=>
       refine⟨k+1,rv',os',_,ks++[⟨k,(itemOf x).r.ty,ob,sb⟩],by omega,by go_num,fun j y hj hy=>?_,k11,?_,lr11,ou11⟩
       ·rcases Nat.lt_succ_iff_lt_or_eq.1 hj with h1|rfl
        ·exact HR.out.1 j y h1 hy
        ·rw [HM.out.2.1] at hy;cases hy;rw [<- HM.out.1];exact HN.out
       ·rw [take_snoc_it HM.out.2.1];exact hnew
      case measure=>simp [intOf];omega
  ·have hke:k=list.length:=by omega
   subst hke;clear hc hno kb lr hou hS;go_wp2;go_ret2;have hall:∀ (i:Nat) (y:It),(list.map itemOf)[i]? =some y->mixI ((list.map itemOf).take i) y=false:=fun i y hy=>HR.out.1 i y (by have:=(List.getElem?_eq_some_iff.1 hy).1;rwa [List.length_map] at this) hy
   refine⟨HR.out.2.2.2.2,.inr ⟨badI_no hall,rfl,hall,rv,os,kv,ks,HR.out.2.1,?_⟩⟩;have:=HR.out.2.2.1
   rwa [List.take_of_length_le (by rw [List.length_map];exact Nat.le_refl _)] at this
theorem bad_none{apex:ByteArray}:∀ (l:List Rr) (i:Nat),badOne apex l i=none->∀ r∈l,oneC r apex=0:=by
 intro l
 induction l with
 |nil=>intro i _ r hr;cases hr
 |cons x l ih=>
  intro i h r hr;rw [badOne] at h
  by_cases hx:oneC x apex=0
  ·rw [if_pos hx] at h
   rcases List.mem_cons.1 hr with rfl|hr
   ·exact hx
   ·exact ih (i+1) h r hr
  ·rw [if_neg hx] at h;cases h
theorem bad_some{apex:ByteArray}:∀ (l:List Rr) (i:Nat) (c:Int) (j:Nat),badOne apex l i=some (c,j)->c≠0:=by
 intro l
 induction l with
 |nil=>intro i c j h;simp [badOne] at h
 |cons x l ih=>
  intro i c j h;rw [badOne] at h
  by_cases hx:oneC x apex=0
  ·rw [if_pos hx] at h;exact ih (i+1) c j h
  ·rw [if_neg hx] at h;simp at h;rw [<- h.1];exact hx
theorem one_ok{r:Rr}{apex:ByteArray}(h:oneC r apex=0):(Nm.split r.own).isSome=true∧isUnderS r.own apex=true:=by
 rw [oneC] at h
 split at h
 ·cases h
 ·rename_i h1;refine⟨by cases hq:(Nm.split r.own).isSome with|true=>rfl|false=>exact absurd hq h1,?_⟩
  split at h
  ·cases h
  ·split at h
   ·cases h
   ·split at h
    ·cases h
    ·split at h
     ·cases h
     ·split at h
      ·cases h
      ·rename_i h2;simpa using h2
structure P3 (list:List Rr) (apex:ByteArray) (bb:Nat) (lv:Value) (th:Nat) (ys:List ByteArray) (aa:Option Addr) (ac:Nat) (labv rv:Value) (os:List GOw) (kv:Value) (ks:List Ld) (B:Nat) (W:World):Prop where
 kb:Blk W bb #[lv,.string apex,labv,.slice aa ys.length ac,ptr th,kv] 74
 st:BSt B W th (list.map itemOf) rv os kv ks
 ap:Nm.split apex=some ys
 av:Nm.SRow W (.slice aa ys.length ac) ys
 hl:list.length<=500
 ok:badOne apex list 0=none
 mix:∀ (i:Nat) (y:It),(list.map itemOf)[i]? =some y->mixI ((list.map itemOf).take i) y=false
theorem P3.below{list:List Rr}{apex:ByteArray}{bb:Nat}{lv:Value}{th:Nat}{ys:List ByteArray}{aa:Option Addr}{ac:Nat}{labv rv:Value}{os:List GOw}{kv:Value}{ks:List Ld}{B:Nat}{W W':World}(h:P3 list apex bb lv th ys aa ac labv rv os kv ks B W)(hb:Below W.heap.size W W'):P3 list apex bb lv th ys aa ac labv rv os kv ks B W':=
 ⟨blk_below h.kb hb,h.st.below hb,h.ap,h.av.below hb,h.hl,h.ok,h.mix⟩
theorem P3.good{list:List Rr}{apex:ByteArray}{bb:Nat}{lv:Value}{th:Nat}{ys:List ByteArray}{aa:Option Addr}{ac:Nat}{labv rv:Value}{os:List GOw}{kv:Value}{ks:List Ld}{B:Nat}{W:World}(h:P3 list apex bb lv th ys aa ac labv rv os kv ks B W):(∀ y∈list.map itemOf,GoodI y)∧∀ y∈list.map itemOf,isUnderS y.r.own apex=true:=by
 constructor<;>intro y hy<;>obtain⟨r,hr,rfl⟩:=List.mem_map.1 hy
 ·exact good_item (one_ok (bad_none _ _ h.ok r hr)).1
 ·exact(one_ok (bad_none _ _ h.ok r hr)).2
theorem P3.one{list:List Rr}{apex:ByteArray}{bb:Nat}{lv:Value}{th:Nat}{ys:List ByteArray}{aa:Option Addr}{ac:Nat}{labv rv:Value}{os:List GOw}{kv:Value}{ks:List Ld}{B:Nat}{W:World}(h:P3 list apex bb lv th ys aa ac labv rv os kv ks B W){k:Ld}(hk:k∈ks):
 ∃ x o s,(list.map itemOf)[k.at_]? =some x∧k.ty=x.r.ty∧o∈os∧k.ob=o.blk∧OfO o.lab x∧s∈o.ss∧k.sb=s.blk∧s.ty=x.r.ty:=by
 obtain⟨x,h1,h2,o,ho,h3,h4,s,hs,h5,h6⟩:=h.st.kin.ok k hk;exact⟨x,o,s,h1,h2,ho,h3.symm,h4,hs,h5.symm,h6⟩
theorem askK_at{l:List It}{p:Nat->It->Bool}{k:Ld}{x:It}(h:l[k.at_]? =some x):askK l p k=p k.at_ x:=by rw [askK,h]
def rVal(o:Option Nat)(code:Int):Int×Int:=match o with
 |some i=>(code,i)
 |none=>(0,0)
theorem fst_ending{l:List It}{os:List GOw}{ks:List Ld}(hK:KInv l os ks)(hl:∀ y∈l,GoodI y)(p:Nat->It->Bool)(hp:∀ i x,x.out=true->p i x=false)(code:Int):Ending.returned (fstR (askK l p) code ks)=rsV (rVal (firstI p (twI l)) code).1 (rVal (firstI p (twI l)) code).2:=by
 rw [fst_rule hK hl p hp code];cases firstI p (twI l)<;>rfl
theorem wild_P3{list:List Rr}{apex:ByteArray}{bb:Nat}{lv:Value}{th:Nat}{ys:List ByteArray}{aa:Option Addr}{ac:Nat}{labv rv:Value}{os:List GOw}{kv:Value}{ks:List Ld}{B:Nat}{W:World}(h:P3 list apex bb lv th ys aa ac labv rv os kv ks B W):
 Calls Tryz.prog 69 #[.pointer (some ⟨bb,0,none⟩)] W fun e w'=>e=rsV (rVal (firstI (fun _ x=>ru2 x) (itsOf list)) 26).1 (rVal (firstI (fun _ x=>ru2 x) (itsOf list)) 26).2∧Below W.heap.size W w':=by
 have hkl:=h.st.kin.len;rw [List.length_map] at hkl;have:=h.hl;refine(checkWild_any bb kv ks (askK (list.map itemOf) (fun _ x=>ru2 x)) W ((blk_cell h.kb 5).trans rfl) (CRow.of_owns h.st.kept) (by omega) (fun k hk W' hW=>?_)).mono ?_
 ·obtain⟨x,o,s,h1,h2,ho,h3,h4,hs,h5,h6⟩:=h.one hk;have ow:=(h.below hW).st.tr.owners o ho;have hn:=ow.node;rw [<- h3] at hn;refine(wild1_any k _ _ _ _ o.lab W' hn (((h.below hW).st.lab o ho).row)).mono ?_;rintro e w' ⟨rfl,hb⟩;refine⟨?_,hb⟩;rw [askK_at h1,h2,rule_wild h.st.inv h.good.1 h1 ho h4]
 ·rintro e w' ⟨rfl,hb⟩;exact⟨fst_ending h.st.kin h.good.1 _ (fun i x hx=>by rw [ru2,hx];rfl) 26,hb⟩
theorem single_P3{list:List Rr}{apex:ByteArray}{bb:Nat}{lv:Value}{th:Nat}{ys:List ByteArray}{aa:Option Addr}{ac:Nat}{labv rv:Value}{os:List GOw}{kv:Value}{ks:List Ld}{B:Nat}{W:World}(h:P3 list apex bb lv th ys aa ac labv rv os kv ks B W):
 Calls Tryz.prog 70 #[.pointer (some ⟨bb,0,none⟩)] W fun e w'=>e=rsV (rVal (firstI (ru3 (itsOf list)) (itsOf list)) 23).1 (rVal (firstI (ru3 (itsOf list)) (itsOf list)) 23).2∧Below W.heap.size W w':=by
 have hkl:=h.st.kin.len;rw [List.length_map] at hkl;have:=h.hl;refine(checkSingle_any bb kv ks (askK (list.map itemOf) (ru3 (itsOf list))) W ((blk_cell h.kb 5).trans rfl) (CRow.of_owns h.st.kept) (by omega) (fun k hk W' hW=>?_)).mono ?_
 ·obtain⟨x,o,s,h1,h2,ho,h3,h4,hs,h5,h6⟩:=h.one hk;have sw:=((h.below hW).st.tr.owners o ho).sets s hs;have hn:=sw.node;rw [<- h5] at hn;refine(single1_any k _ _ _ _ W' hn).mono ?_;rintro e w' ⟨rfl,hb⟩;refine⟨?_,hb⟩;rw [askK_at h1,h2,rule_single h.st.inv h.good.1 h1 ho h4 hs h6];rfl
 ·rintro e w' ⟨rfl,hb⟩;exact⟨fst_ending h.st.kin h.good.1 _ (fun i x hx=>by rw [ru3,hx];rfl) 23,hb⟩
theorem alias_P3{list:List Rr}{apex:ByteArray}{bb:Nat}{lv:Value}{th:Nat}{ys:List ByteArray}{aa:Option Addr}{ac:Nat}{labv rv:Value}{os:List GOw}{kv:Value}{ks:List Ld}{B:Nat}{W:World}(h:P3 list apex bb lv th ys aa ac labv rv os kv ks B W):
 Calls Tryz.prog 71 #[.pointer (some ⟨bb,0,none⟩)] W fun e w'=>e=rsV (rVal (firstI (fun _ x=>ru4 (itsOf list) x) (itsOf list)) 23).1 (rVal (firstI (fun _ x=>ru4 (itsOf list) x) (itsOf list)) 23).2∧Below W.heap.size W w':=by
 have hkl:=h.st.kin.len;rw [List.length_map] at hkl;have:=h.hl;have htr:=h.st.inv.trs (by rw [List.length_map];omega);refine(checkAlias_any bb kv ks (askK (list.map itemOf) (fun _ x=>ru4 (itsOf list) x)) W ((blk_cell h.kb 5).trans rfl) (CRow.of_owns h.st.kept) (by omega) (fun k hk W' hW=>?_)).mono ?_
 ·obtain⟨x,o,s,h1,h2,ho,h3,h4,hs,h5,h6⟩:=h.one hk;refine(alias1_any k o B W' h3 ((h.below hW).st.tr.owners o ho) (by have:=(htr.2 o ho).2.1;omega) (htr.2 o ho).1).mono ?_;rintro e w' ⟨rfl,hb⟩;refine⟨?_,hb⟩;rw [askK_at h1,h2,rule_alias h.st.inv h.good.1 h1 ho h4];rfl
 ·rintro e w' ⟨rfl,hb⟩;exact⟨fst_ending h.st.kin h.good.1 _ (fun i x hx=>by rw [ru4,hx];rfl) 23,hb⟩
theorem has_P3{list:List Rr}{apex:ByteArray}{bb:Nat}{lv:Value}{th:Nat}{ys:List ByteArray}{aa:Option Addr}{ac:Nat}{labv rv:Value}{os:List GOw}{kv:Value}{ks:List Ld}{B:Nat}{W:World}(h:P3 list apex bb lv th ys aa ac labv rv os kv ks B W)(t:Int):
 ∀ W',Below W.heap.size W W'->Calls Tryz.prog 109 #[.pointer (some ⟨bb,3,none⟩),.slice aa ys.length ac,.int .i64 t] W' fun e w'=>e=.returned (.bool (hasI (itsOf list) (Nm.foldS apex) t))∧Below W'.heap.size W' w':=by
 intro W' hW;have h':=h.below hW;have htr:=h.st.inv.trs (by rw [List.length_map];have:=h.hl;omega);have hol:=h.st.inv.len.1;rw [List.length_map] at hol;have hlf:=(lab_fit h.ap).2;have hh:=treeHas_any bb 3 th rv os B aa ys.length ac ys t W' h'.st.tr (by have:=h.hl;omega) htr h'.st.lab h'.av (by omega) ((blk_cell h'.kb 4).trans rfl);have e:=h.st.inv.has h.good.1 h.ap t;rw [e] at hh;exact hh
theorem ns_P3{list:List Rr}{apex:ByteArray}{bb:Nat}{lv:Value}{th:Nat}{ys:List ByteArray}{aa:Option Addr}{ac:Nat}{labv rv:Value}{os:List GOw}{kv:Value}{ks:List Ld}{B:Nat}{W:World}(h:P3 list apex bb lv th ys aa ac labv rv os kv ks B W):
 Calls Tryz.prog 68 #[.pointer (some ⟨bb,0,none⟩)] W fun e w'=>e=rsV (if hasI (itsOf list) (Nm.foldS apex) 2=true then(0,0) else((21:Int),(-1:Int))).1 (if hasI (itsOf list) (Nm.foldS apex) 2=true then(0,0) else((21:Int),(-1:Int))).2∧Below W.heap.size W w':=by
 refine(checkNS_any bb aa ys.length ac (hasI (itsOf list) (Nm.foldS apex) 2) W ((blk_cell h.kb 3).trans rfl) (has_P3 h 2)).mono ?_;rintro e w' ⟨rfl,hb⟩;refine⟨?_,hb⟩;cases hasI (itsOf list) (Nm.foldS apex) 2<;>rfl
def soaV(o:Option Nat)(b:Bool):Int×Int:=match o with
 |some i=>(20,i)
 |none=>if b=true then(0,0) else(20,-1)
theorem soa_P3{list:List Rr}{apex:ByteArray}{bb:Nat}{lv:Value}{th:Nat}{ys:List ByteArray}{aa:Option Addr}{ac:Nat}{labv rv:Value}{os:List GOw}{kv:Value}{ks:List Ld}{B:Nat}{W:World}(h:P3 list apex bb lv th ys aa ac labv rv os kv ks B W):
 Calls Tryz.prog 67 #[.pointer (some ⟨bb,0,none⟩)] W fun e w'=>e=rsV (soaV (firstI (ru1 (itsOf list) (Nm.foldS apex)) (itsOf list)) (hasI (itsOf list) (Nm.foldS apex) 6)).1 (soaV (firstI (ru1 (itsOf list) (Nm.foldS apex)) (itsOf list)) (hasI (itsOf list) (Nm.foldS apex) 6)).2∧Below W.heap.size W w':=by
 have hkl:=h.st.kin.len;rw [List.length_map] at hkl;have:=h.hl;refine(checkSOA_any bb kv ks (askK (list.map itemOf) (ru1 (itsOf list) (Nm.foldS apex))) aa ys.length ac (hasI (itsOf list) (Nm.foldS apex) 6) W ((blk_cell h.kb 5).trans rfl) (CRow.of_owns h.st.kept) (by omega) ((blk_cell h.kb 3).trans rfl) (fun k hk cq W' hW hq=>?_) (has_P3 h 6)).mono ?_
 ·obtain⟨x,o,s,h1,h2,ho,h3,h4,hs,h5,h6⟩:=h.one hk;have ow:=(h.below hW).st.tr.owners o ho;have hn:=ow.node;have sn:=(ow.sets s hs).node;obtain⟨va,vc,ev,_⟩:=((h.below hW).st.lab o ho).row;rw [<- h3,ev] at hn;rw [<- h5] at sn;refine(soa1_any k cq _ _ _ _ _ _ _ va o.lab.length vc aa ys.length ac W' sn hn hq).mono ?_;rintro e w' ⟨rfl,hb⟩;refine⟨?_,hb⟩;rw [askK_at h1,h2,rule_soa h.st.inv h.good.1 h.ap h.good.2 h1 ho h4 hs h6];rfl
 ·rintro e w' ⟨rfl,hb⟩;refine⟨?_,hb⟩;have e1:=fst_ending h.st.kin h.good.1 (ru1 (itsOf list) (Nm.foldS apex)) (fun i x hx=>by rw [ru1,hx];rfl) 20;unfold soaR soaV;have e2:(twI (list.map itemOf))=itsOf list:=rfl;rw [e2,fstR] at e1
  cases hf:ks.find? (askK (list.map itemOf) (ru1 (itsOf list) (Nm.foldS apex))) with
  |some k=>
   rw [hf] at e1
   cases hg:firstI (ru1 (itsOf list) (Nm.foldS apex)) (itsOf list) with
   |some i=>rw [hg] at e1;exact e1
   |none=>rw [hg] at e1;simp [rsV,rVal] at e1
  |none=>
   rw [hf] at e1
   cases hg:firstI (ru1 (itsOf list) (Nm.foldS apex)) (itsOf list) with
   |some i=>rw [hg] at e1;simp [rsV,rVal] at e1
   |none=>cases hasI (itsOf list) (Nm.foldS apex) 6<;>rfl
set_option maxRecDepth 100000 in
set_option maxHeartbeats 800000 in
theorem below_P3{list:List Rr}{apex:ByteArray}{bb:Nat}{lv:Value}{th:Nat}{ys:List ByteArray}{aa:Option Addr}{ac:Nat}{labv rv:Value}{os:List GOw}{kv:Value}{ks:List Ld}{B:Nat}{W:World}(h:P3 list apex bb lv th ys aa ac labv rv os kv ks B W):
 Calls Tryz.prog 72 #[.pointer (some ⟨bb,0,none⟩)] W fun e w'=>e=rsV (rVal (firstI (fun _ x=>ru5 (itsOf list) x) (itsOf list)) 25).1 (rVal (firstI (fun _ x=>ru5 (itsOf list) x) (itsOf list)) 25).2∧Below W.heap.size W w':=by
 have hkl:=h.st.kin.len;rw [List.length_map] at hkl;have hl5:=h.hl;have htr:=h.st.inv.trs (by rw [List.length_map];omega);have hol:=h.st.inv.len.1;rw [List.length_map] at hol;have hbt:=belowTails_any bb 3 th rv os B W h.st.tr htr (by omega) h.st.lab ((blk_cell h.kb 4).trans rfl)
 have hinj:∀ o∈os,∀ q∈os,q.blk=o.blk->q=o:=by
  intro o ho q hq e;obtain⟨i,hi⟩:=List.getElem?_of_mem ho;obtain⟨j,hj⟩:=List.getElem?_of_mem hq;have hi':=List.getElem?_eq_some_iff.1 hi;have hj':=List.getElem?_eq_some_iff.1 hj;have hnd:=h.st.tr.nodup;simp only [fpT,List.nodup_cons,List.nodup_append] at hnd;have hfm:=hnd.2.2.1
  have key:∀ (a b:Nat),a<b->(ha:a<os.length)->(hb:b<os.length)->os[a].blk≠os[b].blk:=by
   intro a b hab ha hb e2;have:=List.pairwise_iff_getElem.1 (List.pairwise_flatMap.1 hfm).2 a b ha hb hab;exact this os[a].blk (by simp [fpO]) os[b].blk (by simp [fpO]) e2
  rcases Nat.lt_trichotomy i j with h1|h1|h1
  ·exact absurd (by rw [hi'.2,hj'.2];exact e.symm) (key i j h1 hi'.1 hj'.1)
  ·subst h1;rw [hi] at hj;exact(Option.some.inj hj).symm
  ·exact absurd (by rw [hi'.2,hj'.2];exact e) (key j i h1 hj'.1 hi'.1)
 have hf9:∀ (W1:World) (v:Value) (cq:Nat),Below W.heap.size W W1->W1.cell? ⟨cq,0,none⟩=some v->CRow W1 v ((belK os).2.map (·.blk)).length 1 (((belK os).2.map (·.blk)).map ptr)->Calls Tryz.prog 107 #[.pointer (some ⟨bb,0,none⟩),.int .i64 25,.func (.func 116) #[] #[.pointer (some ⟨cq,0,none⟩)]] W1 fun e w'=>e=rsV (rVal (firstI (fun _ x=>ru5 (itsOf list) x) (itsOf list)) 25).1 (rVal (firstI (fun _ x=>ru5 (itsOf list) x) (itsOf list)) 25).2∧Below W1.heap.size W1 w':=by
  intro W1 v cq hW1 hq hrow;have h1':=h.below hW1;refine(firstBelow_any bb cq 25 kv ks (askK (list.map itemOf) (fun _ x=>ru5 (itsOf list) x)) W1 ((blk_cell h1'.kb 5).trans rfl) (CRow.of_owns h1'.st.kept) (by omega) (fun k hk W2 hW2=>?_)).mono ?_
  ·obtain⟨x,o,s,h1,h2,ho,h3,h4,hs,h5,h6⟩:=h.one hk;have h2':=h1'.below hW2;refine(below1_any k cq v ((belK os).2.map (·.blk)) W2 ((hW2.cell (p:=⟨cq,0,none⟩) (World.block_lt_of_cell? W1 _ hq)).trans hq) (hrow.below hW2) (fun b hb=>?_)).mono ?_
   ·rcases hb with hb|hb
    ·exact⟨_,_,by rw [hb,h3];exact(h2'.st.tr.owners o ho).node⟩
    ·obtain⟨q,hq2,rfl⟩:=List.mem_map.1 hb;exact⟨_,_,(h2'.st.tr.owners q ((bel_inv os h.st.inv.sorted.1).sub q hq2)).node⟩
   ·rintro e w' ⟨rfl,hb⟩;refine⟨?_,hb⟩;rw [askK_at h1,h3,rule_below h.st.inv h.good.1 h1 ho h4 (fun q hq e=>hinj o ho q hq e)];rfl
  ·rintro e w' ⟨rfl,hb⟩;exact⟨fst_ending h.st.kin h.good.1 _ (fun i x hx=>by rw [ru5,hx];rfl) 25,hb⟩
 have HF:=Nm.hide hf9;generalize rVal (firstI (fun _ x=>ru5 (itsOf list) x) (itsOf list)) 25=RV at*;have hmf:∀ (fn:Fn) (first cap:Array Value) (w:World),(Instr.makeFunc fn first cap).run Tryz.prog w=.ok (.func fn first cap) w:=fun _ _ _ _=>rfl
 clear hf9 hinj htr hol;unfold rsV at*;obtain⟨c,i⟩:=RV;simp only at*
 go_enter Tryz.func72,Tryz.ntmps72;go_wp2_with fail
 refine hbt.mono ?_;rintro e w1 ⟨v,rfl,hown,b1⟩;obtain⟨va,vc,rfl⟩:=own_sl hown;have kq:=blk_new w1 #[.slice va (belK os).2.length vc] 157;have b2:=b1.alloc b1.size (.cells #[.slice va (belK os).2.length vc] 157);have hr2:=CRow.of_owns (own_below hown ((Below.refl _ w1).alloc (Nat.le_refl _) (.cells #[.slice va (belK os).2.length vc] 157)));have hcall:=HF.out _ (.slice va (belK os).2.length vc) w1.heap.size b2 ((blk_cell kq 0).trans rfl) (by rw [List.length_map,List.map_map];exact hr2);clear hbt hr2 kq hown HF;go_wp2_with (go_at_call 107;refine hcall.mono ?_;rintro e w3 ⟨rfl,b3⟩)
 go_ret2;exact⟨rfl,Nm.below_two b2 b3⟩
end Go.Proofs.YtaceiajcecaapaaGreat
