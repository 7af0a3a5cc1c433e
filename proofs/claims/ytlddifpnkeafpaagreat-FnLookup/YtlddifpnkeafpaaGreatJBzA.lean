import Derived.Test.YtlddifpnkeafpaaGreatJBzC
import Derived.Test.YtlddifpnkeafpaaGreatJBzFSOA
import Derived.Laws.EntriesVeiled
set_option linter.unusedVariables false
set_option maxRecDepth 100000
set_option maxHeartbeats 6400000
namespace Go.Proofs.YtlddifpnkeafpaaGreat
open Go.RowKit
def CW(c i:Int):Ending:=.returned (.tuple #[.int .i64 c,.int .i64 i])
variable {B N ac b bb e k n ob sb:Nat}{T:TypeId}{W W' w:World}{aL:ByteArray}{aa:Option Addr}{cs:Array Value}{eD kv lv rv rv' u v:Value}{fp:List Nat}{its l:List It}{ks:List Ld}{list:List Rr}{os os':List dG}{r:Rr}{ts:List TypeId}{vU:List Value}{x:It}{xs ys:List ByteArray}{xss:List (List ByteArray)}
theorem qP{i:Nat}:dN [b] W (W.setCell ⟨b,i,none⟩ v):=⟨rfl,rfl,rfl,by simp,fun k _ hk=>heap_setCell_other W ⟨b,i,none⟩ k _ (by simpa using hk)⟩
theorem Fh(bb:Nat)(la:Option Addr)(ln lc:Nat)(aL:ByteArray)(w:World)(hk:bW w bb #[.slice la ln lc,.string aL,.slice none 0 0,.slice none 0 0,.pointer none,.slice none 0 0] 113)(ha:aL.size<=maxLen):
 Calls Tryz.prog 101 #[.pointer (some ⟨bb,0,none⟩)] w fun e w'=>
  (Nm.split aL=none∧e=CW 32 (-1)∧Below w.heap.size w w')∨(Nm.split aL≠none∧500<ln∧e=CW 12 (-1)∧Below w.heap.size w w')∨
  (∃ xs aa ac th,Nm.split aL=some xs∧ln<=500∧e=CW 0 0∧dN [bb] w w'∧bW w' bb #[.slice la ln lc,.string aL,.slice none 0 0,.slice aa xs.length ac,ptr th,.slice none 0 0] 113∧bW w' th #[wI,.slice none 0 0] 163∧w'.ownsRow w.heap.size 9 1 (.slice aa xs.length ac) xs.length (xs.map Value.string)∧w.heap.size<=th):=by
 have rk:=aA hk
 have hs:=nK aL w ha;have X9:=cO hk
 cases lC:Nm.split aL with
 |none=>
  rw [lC] at hs;simp only [Option.isSome_none,Option.getD_none] at hs;clear lC;go_enter Tryz.func101,Tryz.ntmps101;go_wp2_with fail
  refine hs.mono ?_;rintro e w1 ⟨v,rfl,ho,b1⟩;clear hs;go_wp2;go_ret2
  exact .inl ⟨trivial,rfl,b1⟩
 |some xs=>
  rw [lC] at hs;simp only [Option.isSome_some,Option.getD_some] at hs
  by_cases Zi:500<ln
  ·have i1:(500:Int)<(ln:Int):=by omega
   have HL:=Nm.aD Zi;clear lC Zi;go_enter Tryz.func101,Tryz.ntmps101;go_wp2_with fail
   refine hs.mono ?_;rintro e w1 ⟨v,rfl,ho,b1⟩;have rk1:=aA (aB hk b1)
   clear hs rk;go_wp2;go_ret2;exact .inr (.inl ⟨by simp,HL.out,rfl,b1⟩)
  have i1:¬(500:Int)<(ln:Int):=by omega
  have HL:=Nm.aD Zi;clear lC Zi;go_enter Tryz.func101,Tryz.ntmps101;go_wp2_with fail
  refine hs.mono ?_;rintro e w1 ⟨v,rfl,ho,b1⟩;obtain⟨aa,ac,rfl⟩:=aT ho;have k1:=aB hk b1;have rk1:=aA k1
  have b2:=(aJ w1.heap.size w1).alloc (aI _) (.cells #[wI,.slice none 0 0] 163);have kt:=aK w1 #[wI,.slice none 0 0] 163;have k2:=aB k1 b2;have rk2:=aA k2
  have fk2:=aF k2
  have o2:=own_below ho b2;have hn:=Ee (.func 94) w1;unfold ptr at hn;unfold wI at kt rk2 fk2;clear hs rk;go_wp2_with (go_at_call 135;refine hn.mono ?_;rintro e w2 ⟨rfl,rfl⟩)
  go_ret2;have k3:=aM (aM k2 3 (.slice aa xs.length ac)) 4 (.pointer (some ⟨w1.heap.size,0,none⟩));simp only [List.setIfInBounds_toArray,List.set_cons_zero,List.set_cons_succ] at k3;have dM:bb≠w1.heap.size:=by have:=b1.size;omega
  refine .inr (.inr ⟨xs,aa,ac,w1.heap.size,rfl,by have:=HL.out;omega,rfl,?_,k3,?_,?_,b1.size⟩)
  ·have h9:=(dN.below (fp:=[bb]) (Nm.aC b1 b2)).trans (qP (b:=bb) (i:=3) (v:=.slice aa xs.length ac)) (fun k hk=>.inl hk);exact h9.trans (qP (b:=bb) (i:=4) (v:=.pointer (some ⟨w1.heap.size,0,none⟩))) (fun k hk=>.inl hk)
  ·exact aO (aO kt (oZ _ bb 3 _) (fun e=>by cases e;exact dM rfl)) (oZ _ bb 4 _) (fun e=>by cases e;exact dM rfl)
  have o3:=dY (i:=3) (y:=.slice aa xs.length ac) o2 (dD o2 k2 (by decide));exact dY o3 (dD o3 (aM k2 3 (.slice aa xs.length ac)) (by decide))
theorem aI4(hx:Nm.split r.own=some xs)(hy:Nm.split aL=some ys):pW r aL=recC r xs ys:=by
 rw [pW,recC,hx,bZ hx hy];simp only [Option.isSome_some,Bool.true_eq_false,if_false];split
 ·rfl
 split
 ·rfl
 by_cases h1:(decide (0<=r.ty)&&decide (r.ty<=65535))=false
 ·rw [if_pos h1,if_pos ?_];simp only [Bool.and_eq_false_iff,decide_eq_false_iff_not] at h1
  rcases h1 with h1|h1
  ·exact .inr (.inl (by omega))
  exact .inr (.inr (by omega))
 rw [if_neg h1]
 by_cases h2:oW r.ty=true
 ·rw [if_pos h2,if_pos (.inl h2)]
 rw [if_neg h2,if_neg ?_];simp only [Bool.and_eq_false_iff,decide_eq_false_iff_not,not_or,Decidable.not_not] at h1
 rintro(h3|h3|h3)
 ·exact h2 h3
 ·omega
 omega
theorem aI5(hx:Nm.split r.own=none):pW r aL=1:=by rw [pW,hx];rfl
theorem aFn:∀ (xs:List ByteArray),xs.length<=Nm.cK xs:=by
 intro xs
 induction xs with
 |nil=>simp [Nm.cK]
 |cons x xs ih=>simp only [List.length_cons,Nm.cK];omega
theorem QJ{s:ByteArray}(h:Nm.split s=some xs):(∀ x∈xs,x.size<=1000000000)∧xs.length<=255:=by
 have h1:=Nm.jB h;have h2:=Nm.dK h;have h3:=aFn xs;exact⟨fun x hx=>by have:=h1.2 x hx;omega,by omega⟩
theorem NR{row:Option Nat}(h:dN fp w W)(hg:W.grownBy W' row)(hr:∀ g,row=some g->w.heap.size<=g):dN fp w W':=
 ⟨hg.os.trans h.os,hg.tape.trans h.tape,hg.output.trans h.output,jN h.size hg.size,fun k hk hn=>(hg.block k (vF hk h.size) (fun e=>by have:=hr k e.symm;omega)).trans (h.block k hk hn)⟩
theorem xQ{p:Addr}(h:dN fp w W)(hc:w.cell? p=some v)(hn:p.block∉fp):W.cell? p=some v:=by
 have bY:=fD w _ hc;rw [World.cell?_of_block (w:=w) (h.block p.block bY hn)];exact hc
theorem aCa(h:dN fp w W)(hs:Nm.bP w v xs)(hn:xs≠[]->∀ b,lD v=some b->b∉fp):Nm.bP W v xs:=by
 obtain⟨a,cap,rfl,h1,h2,h3,h4⟩:=hs;refine⟨a,cap,rfl,h1,h2,h3,fun dM=>?_⟩;obtain⟨b,off,rfl,hc⟩:=h4 dM;exact⟨b,off,rfl,fun k x hx=>xQ h (hc k x hx) (hn dM b rfl)⟩
theorem QK(h:w.ownsRow B 9 1 v xs.length (xs.map Value.string)):Nm.bP w v xs:=Nm.bP.aP h
structure nH (W:World) (B:Nat) (v:Value) (vU:List Value) (xss:List (List ByteArray)):Prop where
 outer:W.ownsRow B 63 1 v vU.length vU
 len:vU.length=xss.length
 inner:∀ (i:Nat) (u:Value) (xs:List ByteArray),vU[i]? =some u->xss[i]? =some xs->W.ownsRow B 9 1 u xs.length (xs.map Value.string)
theorem nH.nil(W:World)(B:Nat):nH W B (.slice none 0 0) [] []:=⟨World.ownsRow_nil _ _ _ _,rfl,by simp⟩
theorem nH.below(h:nH W B v vU xss)(hb:Below W.heap.size W W'):nH W' B v vU xss:=
 ⟨own_below h.outer hb,h.len,fun i u xs h1 h2=>own_below (h.inner i u xs h1 h2) hb⟩
theorem nH.set{i:Nat}{y:Value}(h:nH W B v vU xss)(hb:bW W b cs 113):nH (W.setCell ⟨b,i,none⟩ y) B v vU xss:=
 ⟨dY h.outer (dD h.outer hb (by decide)),h.len,fun j u xs h1 h2=>dY (h.inner j u xs h1 h2) (dD (h.inner j u xs h1 h2) hb (by decide))⟩
theorem nH.snoc{W1:World}{v':Value}(h:nH W B v vU xss)(hu:W.ownsRow B 9 1 u xs.length (xs.map Value.string))
 (ho:W1.ownsRow B 63 1 v' (vU.length+1) (vU++[u])) (hg:W.grownBy W1 v.ownBlock):nH W1 B v' (vU++[u]) (xss++[xs]):=by
 refine⟨by simpa using ho,by simp [h.len],fun i y zs h1 h2=>?_⟩
 rcases qZ h1 with⟨hi,ZG⟩|⟨hi,rfl⟩
 ·rw [List.getElem?_append_left (by rw [<- h.len];exact hi)] at h2;have:=h.inner i y zs ZG h2;exact iF this hg (jZ this h.outer (by decide))
 rw [hi,h.len,List.getElem?_append_right (aI _)] at h2;simp at h2;subst h2;exact iF hu hg (jZ hu h.outer (by decide))
theorem aLg:(Tryz.prog.info? 63).map (fun i=>(i.zero,i.size,i.bytes))=some (some (.slice none 0 0),1,24):=by kernel_rfl
def nU(l:List Rr):List (List ByteArray):=l.map fun r=>(Nm.split r.own).getD []
theorem TS(bb:Nat)(la:Option Addr)(lc:Nat)(list:List Rr)(aL:ByteArray)(ys:List ByteArray)(aa:Option Addr)(ac:Nat)(tv:Value)(w:World)(hk:bW w bb #[.slice la list.length lc,.string aL,.slice none 0 0,.slice aa ys.length ac,tv,.slice none 0 0] 113)
 (h:dZ w (.slice la list.length lc) list.length 5 (jC list)) (IZ:0<list.length->lD (.slice la list.length lc)≠some bb) (hl:list.length<=500) (xZ:Nm.split aL=some ys) (hav:Nm.bP w (.slice aa ys.length ac) ys) (aJ8:lD (.slice aa ys.length ac)≠some bb) (ho:∀ r∈list,r.own.size<=maxLen∧r.da.size<=2000000):
 Calls Tryz.prog 102 #[.pointer (some ⟨bb,0,none⟩)] w fun e w'=>dN [bb] w w'∧
  ((∃ c i,gB aL list 0=some (c,i)∧e=CW c i)∨
  (gB aL list 0=none∧e=CW 0 0∧∃ eD vU,bW w' bb #[.slice la list.length lc,.string aL,eD,.slice aa ys.length ac,tv,.slice none 0 0] 113∧nH w' w.heap.size eD vU (nU list))):=by
 obtain⟨i0,hi,iQ,iH,iI⟩:=info_parts aLg;have rk:=aA hk
 obtain⟨_,a,cap,e,gT,kV,hc⟩:=h;cases e
 unfold maxLen at kV;have HX:=Nm.aD (aV IZ (aV xZ (aV hav (aV aJ8 ho))));clear IZ xZ hav aJ8 ho;have HK:=Nm.aD hk;clear hk;go_enter Tryz.func102,Tryz.ntmps102;go_wp2
 go_loopw [14] (fun i wr=>∃ (k:Nat) (eD:Value) (vU:List Value),k<=list.length∧i=.int .i64 k∧(∀ (j:Nat) (x:Rr),j<k->list[j]? =some x->pW x aL=0)∧bW wr bb #[.slice la list.length lc,.string aL,eD,.slice aa ys.length ac,tv,.slice none 0 0] 113∧nH wr w.heap.size eD vU (nU (list.take k))∧dN [bb] w wr) (fun i _=>list.length-(intOf i).toNat)
 ·exact⟨0,.slice none 0 0,[],dR _,rfl,fun j x hj=>absurd hj (Nat.not_lt_zero _),HK.out,nH.nil _ _,dN.below (aJ _ _)⟩
 obtain⟨k,eD,vU,vT,rfl,gI,kb,lr,qV⟩:=hrel;have HR:=Nm.aD (aV gI (aV kb (aV lr qV)))
 by_cases bY:k<list.length
 ·obtain⟨x,hx⟩:=gQ bY;obtain⟨b,off,rfl,aH⟩:=hc (by omega);have hnb:b∉[bb]:=fun hm=>HX.out.1 (by omega) (by rw [List.mem_singleton.1 hm];rfl)
  obtain⟨d0,d1,d2,d3,d4⟩:=BF (w:=wr) (fun i y hy=>xQ qV (aH i y hy) hnb) hx;have hxo:=HX.out.2.2.2.2 x (dA hx);have kr:=aK wr #[.string x.own,.int .i64 x.ty,.int .i64 x.cl,.int .i64 x.tt,.string x.da] 133;have ba:=(aJ wr.heap.size wr).alloc (aI _) (.cells #[.string x.own,.int .i64 x.ty,.int .i64 x.cl,.int .i64 x.tt,.string x.da] 133);have xM:=nK x.own (wr.alloc (.cells #[.string x.own,.int .i64 x.ty,.int .i64 x.cl,.int .i64 x.tt,.string x.da] 133)) hxo.1;have HXX:=Nm.aD hx;have i1:=fE k
  have i2:(k:Int)<(list.length:Int):=by omega
  clear hc aH hx gI kb lr qV hnb rk;go_wp2_with fail
  refine xM.mono ?_;rintro e w2 ⟨v,rfl,ES,b2⟩;have Wj:=Nm.aC ba b2;have VA:=aB kr b2
  cases lC:Nm.split x.own with
  |none=>
   rw [lC] at ES;simp only [Option.isSome_none];have HB:=Nm.aD (aI5 (aL:=aL) lC);clear xM lC d0 d1 d2 d3 d4;go_wp2;go_ret2;refine⟨HR.out.2.2.2.trans (dN.below Wj (fp:=[bb])) (fun k hk=>.inl hk),.inl ⟨1,k,?_,rfl⟩⟩;have:=TJ (aL:=aL) list k 0 x HR.out.1 HXX.out (by rw [HB.out];decide)
   rw [this,HB.out,Nat.zero_add]
  |some xs=>
   rw [lC] at ES;simp only [Option.isSome_some,Option.getD_some] at ES ⊢;obtain⟨va,vc,rfl⟩:=aT ES;have ou2:dN [bb] w w2:=HR.out.2.2.2.trans (dN.below Wj (fp:=[bb])) (fun k hk=>.inl hk);have kb2:=aB HR.out.2.1 Wj;have c3:=(aA kb2 3).trans rfl;have aN3:=aCa ou2 HX.out.2.2.1 (fun _ b hb hm=>HX.out.2.2.2.1 (by rw [hb,List.mem_singleton.1 hm]));have Br:=QJ lC;have hfy:=QJ HX.out.2.1;have hcr:=WO x bb (.slice va xs.length vc) (.slice aa ys.length ac) xs ys w2 hxo.2 (QK ES) aN3 c3 Br.1 (by omega) (by omega);rw [<- aI4 lC HX.out.2.1] at hcr;have HSP:=Nm.aD lC;have HOU:=Nm.aD ou2;have rr2:=aA VA
   clear xM lC d0 d1 d2 d3 d4 aN3 ou2;obtain⟨OC,hOC⟩:∃ OC,OC=pW x aL:=⟨_,rfl⟩;rw [<- hOC] at hcr;have HOC:=Nm.aD hOC;clear hOC
   by_cases h0:OC=0
   ·subst h0;have hlr:=HR.out.2.2.1
    have Pw:vU.length=k:=by
     rw [hlr.len,nU,List.length_map,List.length_take];omega
    have P6:=Nm.aD Pw;clear Pw
    go_wp2_with (first
     |(go_at_call 136
       refine hcr.mono ?_;rintro e w3 ⟨rfl,b3⟩;have Fa:=Nm.aC Wj b3;have kb3:=aB kb2 b3;have rk3:=aA kb3
       have lr3:=hlr.below Fa;have hv3:=own_below ES b3
       have aRd:=lr3.outer)
     |(at_builtin
       refine wpList_append_own _ rfl _ _ 110 rfl w.heap.size 63 i0 (.slice none 0 0) 1 24 Tryz.underlying110 hi iQ iH iI rfl (by decide) _ _ _ rfl (own_below aRd ((aJ _ _).alloc (aI _) _)) ⟨w3.heap.size,0,none⟩ 1 1 [.slice va xs.length vc] rfl rfl (cell_one_new _ _ _) (by simp [Value.oneCell']) (by unfold maxLen;have:=P6.out;omega) (by have:=P6.out;omega) (by have:=Fa.size;have:=HOU.out.size;have:=HR.out.2.2.2.size;simp;omega) ?_;intro v' w5 dE bU _;obtain⟨g',cap',rfl⟩:=ownsRow_succ dE;have kb4:bW (w3.alloc (.cells #[.slice va xs.length vc] 63)) bb #[.slice (some ⟨b,off,none⟩) list.length lc,.string aL,eD,.slice aa ys.length ac,tv,.slice none 0 0] 113:=bD kb3 _;have lr4:=lr3.below ((aJ _ w3).alloc (aI _) (.cells #[.slice va xs.length vc] 63));have kb5:=aO kb4 bU (dD lr4.outer kb4 (by decide));have rk5:=aA kb5
       have fk5:=aF kb5))
    have lr5:=lr4.snoc (fM (own_below hv3 ((aJ _ w3).alloc (aI _) (.cells #[.slice va xs.length vc] 63))) (by have:=Wj.size;have:=HR.out.2.2.2.size;have:=ba.size;simp at*;omega)) dE bU;have k6:=aM kb5 2 (.slice (some ⟨g',0,none⟩) (vU.length+1) cap');simp only [List.setIfInBounds_toArray,List.set_cons_zero,List.set_cons_succ] at k6;have ou5:=NR (NR (HOU.out.trans (dN.below b3 (fp:=[bb])) (fun k hk=>.inl hk)) (yG ((aJ _ w3).alloc (aI _) (.cells #[.slice va xs.length vc] 63))) (fun g e=>by cases e)) bU (fun g e=>(lr4.outer.lt g e).1);go_roundw
    case rel=>
     refine⟨k+1,_,vU++[.slice va xs.length vc],by omega,by go_num,fun j y hj hy=>?_,k6,?_,ou5.trans (qP (b:=bb) (i:=2)) (fun k hk=>.inl hk)⟩
     ·rcases Nat.lt_succ_iff_lt_or_eq.1 hj with h1|rfl
      ·exact HR.out.1 j y h1 hy
      rw [HXX.out] at hy;cases hy;exact HOC.out.symm
     have e9:nU (list.take (k+1))=nU (list.take k)++[xs]:=by
      obtain⟨mK,ex⟩:=dL HXX.out;rw [List.take_succ_eq_append_getElem mK,ex,nU,List.map_append,List.map_cons,List.map_nil,HSP.out];rfl
     rw [e9];exact lr5.set kb5
    simp [intOf];omega
   have n0:(OC != 0)=true:=by simpa using h0
   have H0:=Nm.aD h0;clear h0;go_wp2_with (go_at_call 136;refine hcr.mono ?_;rintro e w3 ⟨rfl,b3⟩)
   go_ret2;refine⟨HOU.out.trans (dN.below b3 (fp:=[bb])) (fun k hk=>.inl hk),.inl ⟨OC,k,?_,rfl⟩⟩;have:=TJ (aL:=aL) list k 0 x HR.out.1 HXX.out (by rw [<- HOC.out];exact H0.out);rw [this,<- HOC.out,Nat.zero_add]
 have FE:k=list.length:=by omega
 subst FE;clear hc gI kb lr qV;go_wp2;go_ret2;refine⟨HR.out.2.2.2,.inr ⟨Hg _ _ HR.out.1,rfl,eD,vU,HR.out.2.1,?_⟩⟩;have:=HR.out.2.2.1
 rwa [List.take_length] at this
def aJ9:List TypeId:=[177,234,236,128,193,195,163,165]
def QL(W:World)(b:Nat)(ts:List TypeId):Prop:=∃ cs T r,W.heap[b]? =some (.cells cs T r)∧T∈ts
theorem Bw(h:bW W b cs T)(hT:T∈ts):QL W b ts:=⟨cs,T,_,h,hT⟩
theorem Bz{s:Nat}{xs:List Value}(h:W.ownsRow B e s v n xs)(hT:e∈ts):∀ b∈v.ownBlock.toList,QL W b ts:=by
 intro b hb
 rcases h.2 with⟨rfl,_⟩|⟨q,cap,cur,rfl,_,hh,_⟩
 ·simp [Value.ownBlock] at hb
 simp [Value.ownBlock] at hb
 subst hb;exact⟨_,_,_,hh,hT⟩
theorem nQ.types{th:Nat}(h:nQ W B th rv os):∀ b∈jF th rv os,QL W b aJ9:=by
 intro b hb;simp only [jF,List.mem_cons,List.mem_append,List.mem_flatMap] at hb
 rcases hb with rfl|hb|⟨o,ho,hb⟩
 ·exact Bw h.head (by decide)
 ·exact Bz h.rows (by decide) b hb
 have ow:=h.jG o ho;simp only [qE,List.mem_cons,List.mem_append,List.mem_flatMap] at hb
 rcases hb with rfl|rfl|hb|⟨s,hs,hb⟩
 ·exact Bw ow.node (by decide)
 ·exact Bw ow.head (by decide)
 ·exact Bz ow.rows (by decide) b hb
 have sw:=ow.sets s hs;simp only [xH,List.mem_cons] at hb
 rcases hb with rfl|rfl|hb
 ·exact Bw sw.node (by decide)
 ·exact Bw sw.head (by decide)
 exact Bz sw.rows (by decide) b hb
theorem AJ{s:Nat}{xs:List Value}(h:W.ownsRow B e s v n xs)(ht:QL W b ts)(hT:e∉ts):b∉v.ownBlock.toList:=by
 intro hb;obtain⟨cs,T,r,h1,h2⟩:=ht
 rcases h.2 with⟨rfl,_⟩|⟨q,cap,cur,rfl,_,hh,_⟩
 ·simp [Value.ownBlock] at hb
 simp [Value.ownBlock] at hb
 subst hb;rw [hh] at h1;cases h1
 exact hT h2
theorem YA{c:Nat}(h:bW W c cs T)(ht:QL W b ts)(hT:T∉ts):b≠c:=by
 rintro rfl;obtain⟨cs',T',r,h1,h2⟩:=ht;rw [bW] at h;rw [h] at h1;cases h1
 exact hT h2
theorem qQ{s:Nat}{xs:List Value}(h:W.ownsRow B e s v n xs)(ho:dN fp W W')(hn:∀ b∈fp,b∉v.ownBlock.toList):W'.ownsRow B e s v n xs:=
 BL h (fun b hb=>ho.block b (vW h b hb) (fun hm=>hn b hm hb))
theorem tV(h:bW W b cs T)(ho:dN fp W W')(hn:b∉fp):bW W' b cs T:=lJ h (ho.block b (cO h) hn)
theorem yQ{s:Nat}{xs:List Value}(h:W.ownsRow B e s v n xs)(hb:lD v=some b):b∈v.ownBlock.toList:=by
 rcases h.2 with⟨rfl,_⟩|⟨q,cap,cur,rfl,_,hh,_⟩
 ·cases hb
 simp [lD] at hb
 simp [Value.ownBlock,hb]
structure Tv (B:Nat) (W:World) (th:Nat) (its:List It) (rv:Value) (os:List dG) (kv:Value) (ks:List Ld):Prop where
 tr:nQ W B th rv os
 inv:rJ its os
 kin:WM its os ks
 kept:W.ownsRow B 201 4 kv ks.length (CF ks)
 lab:mU W (jF th rv os) os
 fpl:∀ b∈jF th rv os,b=th∨B<=b
 lty:∀ o∈os,o.lab≠[]->∀ b,lD o.lv=some b->QL W b [9]
theorem AL(h:QL W b ts)(he:W'.heap[b]? =W.heap[b]?):QL W' b ts:=by
 obtain⟨cs,T,r,h1,h2⟩:=h;exact⟨cs,T,r,he.trans h1,h2⟩
theorem Tv.nil{th:Nat}(h:bW W th #[wI,.slice none 0 0] 163):Tv B W th [] (.slice none 0 0) [] (.slice none 0 0) []:=
 ⟨⟨h,World.ownsRow_nil _ _ _ _,by simp,by simp [jF,Value.ownBlock]⟩,rJ.nil,WM.nil,World.ownsRow_nil _ _ _ _,by simp [mU],by simp [jF,Value.ownBlock],by simp⟩
theorem Tv.outs{th:Nat}(h:Tv B W th its rv os kv ks)(ho:dN fp W W')(h1:∀ b∈fp,b∉jF th rv os)(h2:∀ b∈fp,b∉kv.ownBlock.toList)
 (h3:∀ o∈os,∀ b∈fp,lD o.lv≠some b):Tv B W' th its rv os kv ks:=by
 refine⟨h.tr.keep (fun b hb=>ho.block b (h.tr.lt b hb) (fun hm=>h1 b hm hb)),h.inv,h.kin,qQ h.kept ho h2,fun o hm=>?_,h.fpl,fun o hm dM b hb=>AL (h.lty o hm dM b hb) (ho.block b ((h.lab o hm).far dM b hb).2 (fun hf=>h3 o hm b hf hb))⟩;have hl:=h.lab o hm;refine⟨KL hl.row (fun dM b hb=>ho.block b (hl.far dM b hb).2 (fun hf=>h3 o hm b hf hb)),fun dM b hb=>⟨(hl.far dM b hb).1,vF (hl.far dM b hb).2 ho.size⟩,hl.fit⟩
theorem Tv.below{th:Nat}(h:Tv B W th its rv os kv ks)(hb:Below W.heap.size W W'):Tv B W' th its rv os kv ks:=
 h.outs (dN.below (fp:=[]) hb) (by simp) (by simp) (by simp)
structure MS (B N:Nat) (W W':World) (th:Nat) (its:List It) (x:It) (rv rv':Value) (os os':List dG) (kv:Value) (ks:List Ld) (ob sb:Nat) (fV:Bool):Prop where
 tr:nQ W' B th rv' os'
 inv:rJ (its++[x]) os'
 kin:WM (its++[x]) os' (if fV=true then ks++[⟨its.length,x.r.ty,ob,sb⟩] else ks)
 kept:W'.ownsRow B 201 4 kv ks.length (CF ks)
 lab:mU W' (jF th rv' os') os'
 fpl:∀ b∈jF th rv' os',b=th∨B<=b
 sbm:sb∈jF th rv' os'
 lvb:∀ o∈os',o.lab≠[]->∀ b,lD o.lv=some b->b<N
 lty:∀ o∈os',o.lab≠[]->∀ b,lD o.lv=some b->QL W' b [9]
 tt:∃ tt:Int,W'.cell? ⟨sb,0,none⟩=some (.int .i64 tt)∧uS its x=decide (tt≠x.r.tt)
theorem aLh{th at_:Nat}{fV:Bool}(h:Tv B W th its rv os kv ks)(hB:B<=W.heap.size)(hg:∀ y∈its,iN y)(hx:iN x)(jH:at_=its.length)
 (hL:aKx x.r.own lv (gN x) x.r.ty x.r.tt at_ x.dt x.r.da os os' ob sb fV) (hT:nQ W' B th rv' os') (ho:dN (jF th rv os) W W') (hf:∀ b∈jF th rv' os',b∈jF th rv os∨W.heap.size<=b)
 (hlv:PV W (jF th rv os) lv (gN x)) (hN1:∀ o∈os,o.lab≠[]->∀ b,lD o.lv=some b->b<N) (hN2:gN x≠[]->∀ b,lD lv=some b->b<N) (OH:gN x≠[]->∀ b,lD lv=some b->QL W b [9]):MS B N W W' th its x rv rv' os os' kv ks ob sb fV:=by
 subst jH;obtain⟨o',s',hP,eo,es⟩:=aIu h.inv.sorted hL;have hR:=aNn h.inv hP;refine⟨hT,hR.inv,by rw [<- eo,<- es];exact h.kin.step hg hx hR,qQ h.kept ho (fun b hb=>AJ h.kept (h.tr.types b hb) (by decide)),fun q hq=>?_,fun b hb=>?_,?_,fun q hq=>?_,fun q hq=>?_,?_⟩
 ·rcases hR.vU q hq with⟨o,hm,e1,e2⟩|⟨e1,e2⟩
  ·have:=(h.lab o hm).outs ho hf;rw [e1,e2];exact this
  have:=hlv.outs ho hf;rw [e1,e2];exact this
 ·rcases hf b hb with h1|h1
  ·exact h.fpl b h1
  exact .inr (by omega)
 ·rw [<- es];simp only [jF,qE,xH,List.mem_cons,List.mem_append,List.mem_flatMap];exact .inr (.inr ⟨o',hR.ET.1,.inr (.inr (.inr ⟨s',hR.isSet.1,.inl rfl⟩))⟩)
 ·rcases hR.vU q hq with⟨o,hm,e1,e2⟩|⟨e1,e2⟩
  ·rw [e1,e2];exact hN1 o hm
  rw [e1,e2];exact hN2
 ·rcases hR.vU q hq with⟨o,hm,e1,e2⟩|⟨e1,e2⟩
  ·rw [e1,e2];intro dM b hb;exact AL (h.lty o hm dM b hb) (ho.block b ((h.lab o hm).far dM b hb).2 ((h.lab o hm).far dM b hb).1)
  rw [e1,e2];intro dM b hb;exact AL (OH dM b hb) (ho.block b (hlv.far dM b hb).2 (hlv.far dM b hb).1)
 have sw:=(hT.jG o' hR.ET.1).sets s' hR.isSet.1;refine⟨s'.tt,by rw [<- es];exact(aA sw.node 0).trans rfl,?_⟩;obtain⟨y,hF,ht⟩:=hR.inv.set o' hR.ET.1 s' hR.isSet.1;have Ht:Nm.aN (gN x) o'.lab=0:=hR.ET.2
 have aLi:∀ z∈its,(tF x z=true↔OfS o'.lab s'.ty z):=fun z hz=>by
  rw [Bh hx (hg z hz),hR.isSet.2,OfS,OfS,FK,FK,bQ Ht]
 by_cases hfi:s'.fi<its.length
 ·have hy:its[s'.fi]? =some y:=by have:=hF.1;rwa [List.getElem?_append_left hfi] at this
  have aKa:=ED (l:=its) (p:=tF x) (k:=its.length) hfi hy ((aLi y (dA hy)).2 hF.2.1) (fun j z hj hz=>by
   cases hb:tF x z
   ·rfl
   exfalso
   exact hF.2.2 j z hj (by rw [List.getElem?_append_left (by omega)];exact hz) ((aLi z (dA hz)).1 hb))
  rw [List.take_length] at aKa;rw [uS,aKa,ht]
 have bY:=hF.lt;have e:s'.fi=its.length:=by rw [oJ,List.length_singleton] at bY;omega
 have hy:y=x:=by
  have h1:=hF.1;rw [e,List.getElem?_append_right (aI _)] at h1;simp at h1;exact h1.symm
 have gI:its.find? (tF x)=none:=by
  have:=PW (l:=its) (p:=tF x) (k:=its.length) (fun j z hj hz=>by
   cases hb:tF x z
   ·rfl
   exfalso
   exact hF.2.2 j z (by omega) (by rw [List.getElem?_append_left hj];exact hz) ((aLi z (dA hz)).1 hb))
  rwa [List.take_length] at this
 rw [uS,gI,ht,hy];simp
theorem CP(h:(Nm.split r.own).isSome=true):iN (bH r):=by
 obtain⟨xs,hx⟩:=Option.isSome_iff_exists.1 h;have e:gN (bH r)=xs:=by simp [gN,bH,hx]
 exact⟨by rw [e];exact hx,rfl,rfl,rfl⟩
theorem nH.outs(h:nH W B v vU xss)(ho:dN fp W W')(ht:∀ b∈fp,QL W b ts)(h1:63∉ts)(h2:9∉ts):nH W' B v vU xss:=
 ⟨qQ h.outer ho (fun b hb=>AJ h.outer (ht b hb) h1),h.len,fun i u xs e1 e2=>qQ (h.inner i u xs e1 e2) ho (fun b hb=>AJ (h.inner i u xs e1 e2) (ht b hb) h2)⟩
theorem z_(h:nH W B v vU (nU list))(hu:vU[k]? =some u)(hr:list[k]? =some r)(hs:(Nm.split r.own).isSome=true)(ht:∀ b∈fp,QL W b aJ9):PV W fp u (gN (bH r)):=by
 have e:(nU list)[k]? =some (gN (bH r)):=by simp [nU,hr,gN,bH]
 have ho:=h.inner k u _ hu e;obtain⟨xs,hx⟩:=Option.isSome_iff_exists.1 hs;have e2:gN (bH r)=xs:=by simp [gN,bH,hx]
 refine⟨QK ho,fun _ b hb=>?_,?_⟩
 ·have hm:=yQ ho hb;exact⟨fun hf=>AJ ho (ht b hf) (by decide) hm,vW ho b hm⟩
 rw [e2];have:=QJ hx;exact⟨this.1,by omega⟩
theorem aLj(h:nH W B v vU (nU list))(hu:vU[k]? =some u)(hr:list[k]? =some r)(hb:lD u=some b):QL W b [9]:=by
 have e:(nU list)[k]? =some (gN (bH r)):=by simp [nU,hr,gN,bH]
 have ho:=h.inner k u _ hu e;exact Bz ho (by simp) b (yQ ho hb)
theorem aFo{th:Nat}(h:dN [bb,th] w W)(h2:dN fp W W')(hf:∀ b∈fp,b=th∨B<=b)(hB:w.heap.size<=B):dN [bb,th] w W':=
 h.trans h2 (fun k hk=>by
  rcases hf k hk with h1|h1
  ·exact .inl (by simp [h1])
  exact .inr (by omega))
theorem aN4{th:Nat}{wr:World}{x:Rr}{va:Option Addr}{vn vc B0:Nat}(hS:Tv B wr th ((list.map bH).take k) rv os kv ks)(EM:nH wr B0 eD vU (nU list))(hB:B<=wr.heap.size)
 (hg:∀ r∈list,(Nm.split r.own).isSome=true) (hx:list[k]? =some x) (hu:vU[k]? =some (.slice va vn vc)) (hl:list.length<=500) (kb:bW wr bb cs 113) (hc:cs[4]? =some (ptr th)) (aU:x.own.size<=1000000000) (MN:x.da.size<=2000000):
 ∀ W,Below wr.heap.size wr W->Calls Tryz.prog 137 #[.pointer (some ⟨bb,3,none⟩),.int .i64 (k:Int),.agg #[.string x.own,.int .i64 x.ty,.int .i64 x.cl,.int .i64 x.tt,.string x.da],.slice va vn vc] W fun e w'=>∃ (ob sb:Nat) (fV:Bool) (rv':Value) (os':List dG),
   e=.returned (.tuple #[.agg #[.int .i64 (k:Int),.int .i64 x.ty,.pointer (some ⟨ob,0,none⟩),.pointer (some ⟨sb,0,none⟩)],.bool fV])∧MS B wr.heap.size W w' th ((list.map bH).take k) (bH x) rv rv' os os' kv ks ob sb fV∧dN (jF th rv os) W w'∧∀ b∈jF th rv' os',b∈jF th rv os∨W.heap.size<=b:=by
 intro W hW;have mK:=(dL hx).1;have Wt:=hS.below hW
 have hgI:∀ y∈list.map bH,iN y:=fun y hy=>by
  obtain⟨r,hr,rfl⟩:=kJ hy;exact CP (hg r hr)
 have JD:=CP (hg x (dA hx));have hlen:((list.map bH).take k).length=k:=by rw [List.length_take,List.length_map];omega
 have Nc:os.length<=400000:=by have:=hS.inv.len.1;omega
 have IQ:=z_ (EM.below hW) hu hx (hg x (dA hx)) Wt.tr.types;have kb':=aB kb hW;have Pd:W.cell? ⟨bb,3+1,none⟩=some (ptr th):=(aA kb' 4).trans hc;have zH:bb∉jF th rv os:=fun hm=>YA kb' (Wt.tr.types bb hm) (by decide) rfl
 refine(aIg bb 3 th rv os B k x va vn vc (gN (bH x)) W Wt.tr (jN hB hW.size) Nc (hS.inv.trs (by omega)) Wt.lab IQ Pd zH aU MN (by omega)).mono ?_;rintro e w' ⟨ob,sb,fV,rv',os',rfl,hL,hT,hO,hf⟩;refine⟨ob,sb,fV,rv',os',rfl,aLh Wt (jN hB hW.size) (fun y hy=>hgI y (List.mem_of_mem_take hy)) JD hlen.symm hL hT hO hf IQ (fun o ho dM b hb=>((hS.lab o ho).far dM b hb).2) (fun dM b hb=>((z_ EM hu hx (hg x (dA hx)) hS.tr.types).far dM b hb).2) (fun dM b hb=>aLj (EM.below hW) hu hx hb),hO,hf⟩
theorem MS.more{th g:Nat}{w' W2:World}{fV:Bool}(h:MS B N W w' th its x rv rv' os os' kv ks ob sb fV)(ho:dN [g] w' W2)(h1:g∉jF th rv' os')(h2:g∉kv.ownBlock.toList)(h3:N<=g):MS B N W W2 th its x rv rv' os os' kv ks ob sb fV:=by
 refine⟨h.tr.keep (fun b hb=>ho.block b (h.tr.lt b hb) (fun hm=>h1 (by rw [List.mem_singleton.1 hm] at hb;exact hb))),h.inv,h.kin,qQ h.kept ho (fun b hb=>by rw [List.mem_singleton.1 hb];exact h2),fun o hm=>?_,h.fpl,h.sbm,h.lvb,fun o hm dM b hb=>AL (h.lty o hm dM b hb) (ho.block b ((h.lab o hm).far dM b hb).2 (fun hf=>by have:=h.lvb o hm dM b hb;rw [List.mem_singleton.1 hf] at this;omega)),?_⟩
 ·have hl:=h.lab o hm;exact⟨KL hl.row (fun dM b hb=>ho.block b (hl.far dM b hb).2 (fun hf=>by have:=h.lvb o hm dM b hb;rw [List.mem_singleton.1 hf] at this;omega)),fun dM b hb=>⟨(hl.far dM b hb).1,vF (hl.far dM b hb).2 ho.size⟩,hl.fit⟩
 obtain⟨tt,hc,hm⟩:=h.tt;exact⟨tt,xQ ho hc (fun hf=>h1 (by rw [<- List.mem_singleton.1 hf];exact h.sbm)),hm⟩
theorem aCb(l:List Ld)(x:Ld):CF (l++[x])=CF l++ldC x:=by simp [CF]
theorem MS.old{th:Nat}{W2:World}(h:MS B N W W' th its x rv rv' os os' kv ks ob sb false)(hb:Below W'.heap.size W' W2):Tv B W2 th (its++[x]) rv' os' kv ks:=
 (Tv.below ⟨h.tr,h.inv,by simpa using h.kin,h.kept,h.lab,h.fpl,h.lty⟩ hb)
theorem MS.new{th:Nat}{Wa w9:World}{kv':Value}(h:MS B N W W' th its x rv rv' os os' kv ks ob sb true)(hb:Below W'.heap.size W' Wa)
 (hg:Wa.grownBy w9 kv.ownBlock) (ho:w9.ownsRow B 201 4 kv' (ks.length+1) (CF ks++ldC ⟨its.length,x.r.ty,ob,sb⟩)) (kb:bW w9 bb cs 113):Tv B (w9.setCell ⟨bb,5,none⟩ kv') th (its++[x]) rv' os' kv' (ks++[⟨its.length,x.r.ty,ob,sb⟩]):=by
 have ta:=h.tr.below hb;have ka:=own_below h.kept hb
 have WG:dN (bb::kv.ownBlock.toList) Wa (w9.setCell ⟨bb,5,none⟩ kv'):=by
  refine⟨hg.os,hg.tape,hg.output,by simpa using hg.size,fun k hk hn=>?_⟩;simp only [List.mem_cons,not_or] at hn;rw [heap_setCell_other w9 ⟨bb,5,none⟩ k _ hn.1];exact hg.block k hk (fun e=>hn.2 (by rw [<- e];simp))
 have nty:∀ (b:Nat) (ts:List TypeId),QL Wa b ts->201∉ts->113∉ts->b∉bb::kv.ownBlock.toList:=by
  intro b ts ht n1 n2 AR;have hk:=AJ ka ht n1
  rcases List.mem_cons.1 AR with h1|h1
  ·have bY:b<Wa.heap.size:=by
    obtain⟨c',T',r',e1,_⟩:=ht;exact(Array.getElem?_eq_some_iff.1 e1).1
   refine YA kb (b:=bb) (ts:=ts) ?_ n2 rfl;rw [<- h1];exact AL ht (hg.block b bY (fun e=>hk (by rw [<- e];simp)))
  exact hk h1
 refine⟨ta.keep (fun b hm=>WG.block b (ta.lt b hm) (nty b _ (ta.types b hm) (by decide) (by decide))),h.inv,by simpa using h.kin,?_,fun o hm=>?_,h.fpl,fun o hm dM b jW=>?_⟩
 ·rw [aCb];have:=dY (i:=5) (y:=kv') ho (dD ho kb (by decide));simpa using this
 ·have hl:=h.lab o hm;refine⟨KL (hl.row.below hb) (fun dM b zH=>?_),fun dM b zH=>⟨(hl.far dM b zH).1,vF (hl.far dM b zH).2 (jN hb.size WG.size)⟩,hl.fit⟩;exact WG.block b (vF (hl.far dM b zH).2 hb.size) (nty b _ (AL (h.lty o hm dM b zH) (hb.block b (hl.far dM b zH).2)) (by decide) (by decide))
 have hl:=h.lab o hm;have h9:=AL (h.lty o hm dM b jW) (hb.block b (hl.far dM b jW).2);exact AL h9 (WG.block b (vF (hl.far dM b jW).2 hb.size) (nty b _ h9 (by decide) (by decide)))
theorem aFp:(Tryz.prog.info? 201).map (fun i=>(i.zero,i.size,i.bytes))=some (some (.agg #[.int .i64 0,.int .i64 0,.pointer none,.pointer none]),4,32):=by kernel_rfl
theorem aI6(gI:∀ (i:Nat) (y:It),i<k->l[i]? =some y->uS (l.take i) y=false)(hk:l[k]? =some x)(hp:uS (l.take k) x=true):vY l=(k:Int):=by
 rw [vY,nL (p:=fun i x=>uS (l.take i) x) (fun i hi y hy=>gI i y hi hy) hk hp]
theorem aI7(gI:∀ (i:Nat) (y:It),l[i]? =some y->uS (l.take i) y=false):vY l= -1:=by
 rw [vY,nM (p:=fun i x=>uS (l.take i) x) (fun i _ y hy=>gI i y hy)]
theorem QM(h:l[k]? =some x):l.take (k+1)=l.take k++[x]:=by
 obtain⟨hk,e⟩:=dL h;rw [List.take_succ_eq_append_getElem hk,e]
theorem Ca(bb th:Nat)(la:Option Addr)(lc:Nat)(list:List Rr)(aL:ByteArray)(eD:Value)(vU:List Value)(av:Value)(B0:Nat)(w:World)(hk:bW w bb #[.slice la list.length lc,.string aL,eD,av,ptr th,.slice none 0 0] 113)
 (h:dZ w (.slice la list.length lc) list.length 5 (jC list)) (IZ:0<list.length->∀ b,lD (.slice la list.length lc)=some b->b≠bb∧b≠th) (hl:list.length<=500) (EM:nH w B0 eD vU (nU list)) (MR:bW w th #[wI,.slice none 0 0] 163)
 (hg:∀ r∈list,(Nm.split r.own).isSome=true) (ho:∀ r∈list,r.own.size<=1000000000∧r.da.size<=2000000):
 Calls Tryz.prog 103 #[.pointer (some ⟨bb,0,none⟩)] w fun e w'=>dN [bb,th] w w'∧
  ((0<=vY (list.map bH)∧e=CW 24 (vY (list.map bH)))∨
  (vY (list.map bH)= -1∧e=CW 0 0∧(∀ (i:Nat) (y:It),(list.map bH)[i]? =some y->uS ((list.map bH).take i) y=false)∧∃ rv os kv ks,bW w' bb #[.slice la list.length lc,.string aL,eD,av,ptr th,kv] 113∧Tv w.heap.size w' th (list.map bH) rv os kv ks)):=by
 obtain⟨i0,hi,iQ,iH,iI⟩:=info_parts aFp;have rk:=aA hk
 obtain⟨_,a,cap,e,gT,kV,hc⟩:=h;cases e
 unfold maxLen at kV;have HX:=Nm.aD (aV IZ (aV EM (aV MR (aV hg ho))));clear IZ EM MR hg ho;have HK:=Nm.aD hk;clear hk;unfold ptr at*;go_enter Tryz.func103,Tryz.ntmps103;go_wp2
 go_loopw [13] (fun i wr=>∃ (k:Nat) (rv:Value) (os:List dG) (kv:Value) (ks:List Ld),k<=list.length∧i=.int .i64 k∧(∀ (j:Nat) (y:It),j<k->(list.map bH)[j]? =some y->uS ((list.map bH).take j) y=false)∧bW wr bb #[.slice la list.length lc,.string aL,eD,av,.pointer (some ⟨th,0,none⟩),kv] 113∧Tv w.heap.size wr th ((list.map bH).take k) rv os kv ks∧nH wr B0 eD vU (nU list)∧dN [bb,th] w wr) (fun i _=>list.length-(intOf i).toNat)
 ·exact⟨0,.slice none 0 0,[],.slice none 0 0,[],dR _,rfl,fun j x hj=>absurd hj (Nat.not_lt_zero _),HK.out,Tv.nil HX.out.2.2.1,HX.out.2.1,dN.below (aJ _ _)⟩
 obtain⟨k,rv,os,kv,ks,vT,rfl,gI,kb,hS,lr,qV⟩:=hrel;have HR:=Nm.aD (aV gI (aV kb (aV hS (aV lr qV))))
 by_cases bY:k<list.length
 ·obtain⟨x,hx⟩:=gQ bY;obtain⟨b,off,rfl,aH⟩:=hc (by omega)
  have hnb:b∉[bb,th]:=fun hm=>by
   have:=HX.out.1 (by omega) b rfl;simp at hm
   rcases hm with h|h
   ·exact this.1 h
   exact this.2 h
  obtain⟨d0,d1,d2,d3,d4⟩:=BF (w:=wr) (fun i y hy=>xQ qV (aH i y hy) hnb) hx;have hxo:=HX.out.2.2.2.2 x (dA hx);have YQ:vU.length=list.length:=by rw [lr.len,nU,List.length_map]
  obtain⟨u,hu⟩:∃ u,vU[k]? =some u:=⟨_,gF (by omega)⟩;have hul:=z_ lr hu hx (HX.out.2.2.2.1 x (dA hx)) hS.tr.types;obtain⟨va,vc,eu,_⟩:=hul.row;have aN5:=aN4 hS lr qV.size HX.out.2.2.2.1 hx (by rw [hu,eu]) hl kb rfl hxo.1 hxo.2
  obtain⟨lb,aFq,eLv⟩:∃ lb aFq,eD=.slice (some ⟨lb,0,none⟩) list.length aFq:=by
   rcases lr.outer.2 with⟨_,h0⟩|⟨q,cap,cur,e,_⟩
   ·omega
   exact⟨q,cap,by rw [e,YQ]⟩
  have hlc:wr.cell? ⟨lb,k,none⟩=some u:=by
   have:=lr.outer;rw [eLv,YQ] at this;have h9:=this.cellAt k (by omega);rw [h9];exact hu
  rw [eu] at hlc;subst eLv;generalize (gN (bH x)).length=vn at*;have HXX:=Nm.aD (aV hx (aV hu eu));have hwr:=qV.size;have kr:=aK wr #[.string x.own,.int .i64 x.ty,.int .i64 x.cl,.int .i64 x.tt,.string x.da] 133;have ba:=(aJ wr.heap.size wr).alloc (aI _) (.cells #[.string x.own,.int .i64 x.ty,.int .i64 x.cl,.int .i64 x.tt,.string x.da] 133);have kbA:=aB kb ba;have cL:=(ba.cell (p:=⟨lb,k,none⟩) (fD wr _ hlc)).trans hlc;have i1:=fE k
  have i2:(k:Int)<(list.length:Int):=by omega
  have aLk:=Nm.aD aN5;clear hc aH hx gI kb lr qV hnb rk hS hul aN5 eu hu YQ hlc hxo;go_wp2_with fail
  go_cut [6,7] from 18 to 33 (fun p q wx=>∃ (g ob sb:Nat) (fV:Bool) (rv':Value) (os':List dG) (W:World),p=.pointer (some ⟨g,0,none⟩)∧q=.bool fV∧wr.heap.size<g∧bW wx g #[.int .i64 (k:Int),.int .i64 x.ty,.pointer (some ⟨ob,0,none⟩),.pointer (some ⟨sb,0,none⟩)] 201∧bW wx wr.heap.size #[.string x.own,.int .i64 x.ty,.int .i64 x.cl,.int .i64 x.tt,.string x.da] 133∧MS w.heap.size wr.heap.size W wx th ((list.map bH).take k) (bH x) rv rv' os os' kv ks ob sb fV∧dN (g::jF th rv os) (wr.alloc (.cells #[.string x.own,.int .i64 x.ty,.int .i64 x.cl,.int .i64 x.tt,.string x.da] 133)) wx)
  case first=>
   have aLl:∀ b∈jF th rv os,b<wr.heap.size:=HR.out.2.2.1.tr.lt
   have kbS:Hid (∀ g X,wr.heap.size<g->dN (g::jF th rv os) (wr.alloc (.cells #[.string x.own,.int .i64 x.ty,.int .i64 x.cl,.int .i64 x.tt,.string x.da] 133)) X->(X.cell? ⟨wr.heap.size,0,none⟩=some (.string x.own)∧X.cell? ⟨wr.heap.size,1,none⟩=some (.int .i64 x.ty)∧X.cell? ⟨wr.heap.size,2,none⟩=some (.int .i64 x.cl)∧X.cell? ⟨wr.heap.size,3,none⟩=some (.int .i64 x.tt)∧X.cell? ⟨wr.heap.size,4,none⟩=some (.string x.da)∧X.cell? ⟨bb,2,none⟩=some (.slice (some ⟨lb,0,none⟩) list.length aFq)∧X.cell? ⟨lb,k,none⟩=some (.slice va vn vc))):=by
    intro g X qB hX;have l1:=cO HR.out.2.1;have l2:=vW HR.out.2.2.2.1.outer lb (by simp [Value.ownBlock])
    have n1:wr.heap.size∉g::jF th rv os:=fun hm=>by
     rcases List.mem_cons.1 hm with h|h
     ·omega
     have:=aLl _ h;omega
    have n2:bb∉g::jF th rv os:=fun hm=>by
     rcases List.mem_cons.1 hm with h|h
     ·omega
     exact YA HR.out.2.1 (HR.out.2.2.1.tr.types bb h) (by decide) rfl
    have n3:lb∉g::jF th rv os:=fun hm=>by
     rcases List.mem_cons.1 hm with h|h
     ·omega
     exact AJ HR.out.2.2.2.1.outer (HR.out.2.2.1.tr.types lb h) (by decide) (by simp [Value.ownBlock])
    have kx:=aA (tV kr hX n1)
    exact⟨(kx 0).trans rfl,(kx 1).trans rfl,(kx 2).trans rfl,(kx 3).trans rfl,(kx 4).trans rfl,(aA (tV kbA hX n2) 2).trans rfl,xQ hX cL n3⟩
   have bd:Below wr.heap.size wr (wr.alloc (.cells #[.string x.own,.int .i64 x.ty,.int .i64 x.cl,.int .i64 x.tt,.string x.da] 133)).drew:=ba.drew;have O0:dN (jF th rv os) (wr.alloc (.cells #[.string x.own,.int .i64 x.ty,.int .i64 x.cl,.int .i64 x.tt,.string x.da] 133)) (wr.alloc (.cells #[.string x.own,.int .i64 x.ty,.int .i64 x.cl,.int .i64 x.tt,.string x.da] 133)).drew:=dN.below (aJ _ _).drew
   have Nq:(wr.alloc (.cells #[.string x.own,.int .i64 x.ty,.int .i64 x.cl,.int .i64 x.tt,.string x.da] 133)).drew.heap.size=wr.heap.size+1:=by
    show(wr.alloc _).heap.size=_
    simp
   have HS0:=Nm.aD Nq;have HFP:=Nm.aD aLl;clear Nq aLl d0 d1 d2 d3 d4;refine kR (fun X=>X.cell? ⟨wr.heap.size,0,none⟩=some (.string x.own)∧X.cell? ⟨wr.heap.size,1,none⟩=some (.int .i64 x.ty)∧X.cell? ⟨wr.heap.size,2,none⟩=some (.int .i64 x.cl)∧X.cell? ⟨wr.heap.size,3,none⟩=some (.int .i64 x.tt)∧X.cell? ⟨wr.heap.size,4,none⟩=some (.string x.da)∧X.cell? ⟨bb,2,none⟩=some (.slice (some ⟨lb,0,none⟩) list.length aFq)∧X.cell? ⟨lb,k,none⟩=some (.slice va vn vc)) 1000 (kbS.out (wr.heap.size+1) _ (by omega) (O0.wide (fun k hk=>by simp [hk]))) fun aY=>?_;refine kB 0 rfl ?_;refine kB 1 rfl ?_;refine kB 2 rfl ?_;refine kB 3 rfl ?_;refine kB 4 rfl ?_;refine kB 5 rfl ?_;refine kB 6 rfl ?_;refine kB 7 rfl ?_;refine kB 8 rfl ?_;refine kB 9 rfl ?_;refine kB 10 rfl ?_;refine kB 11 rfl ?_;refine k2 12 16 rfl rfl (fun K hK=>?_) fun K hK=>?_
   ·go_simp;refine(aLk.out _ bd).mono ?_;rintro e w1 ⟨ob,sb,fV,rv',os',rfl,hLR,O1,M1⟩;go_wp2_with fail
    have O1':=O0.trans O1 (fun k hk=>.inl hk);have KC:wr.heap.size+1<=w1.heap.size:=by have:=O1.size;have:=HS0.out;omega
    have O2:dN (w1.heap.size::jF th rv os) (wr.alloc (.cells #[.string x.own,.int .i64 x.ty,.int .i64 x.cl,.int .i64 x.tt,.string x.da] 133)) w1:=O1'.wide (fun k hk=>by simp [hk]);have kz:=aK w1 #[.int .i64 0,.int .i64 0,.pointer none,.pointer none] 201;have bz:=(aJ w1.heap.size w1).alloc (aI _) (.cells #[.int .i64 0,.int .i64 0,.pointer none,.pointer none] 201);have rz:=aA kz
    have fz:=aF kz
    have HW1:=Nm.aD KC;clear KC;refine hK.out _ _ (kbS.out w1.heap.size _ (by have:=HW1.out;omega) O2) fun aY=>?_;clear hK K;refine kB 13 rfl ?_;refine kB 14 rfl ?_;refine kB 15 rfl ?_;refine k1 16 rfl fun K hK=>?_
    go_simp;have O3:=O2.trans (dN.below (fp:=w1.heap.size::jF th rv os) bz) (fun k hk=>.inl hk);refine hK.out _ _ (kbS.out w1.heap.size _ (by have:=HW1.out;omega) O3) fun aY=>?_;clear hK K;refine k1 17 rfl fun K hK=>?_
    go_simp;have k4:=aK w1 #[.int .i64 (k:Int),.int .i64 x.ty,.pointer (some ⟨ob,0,none⟩),.pointer (some ⟨sb,0,none⟩)] 201;have Og:=dN.below (fp:=[w1.heap.size]) ((aJ w1.heap.size w1).alloc (aI _) (.cells #[.int .i64 (k:Int),.int .i64 x.ty,.pointer (some ⟨ob,0,none⟩),.pointer (some ⟨sb,0,none⟩)] 201));have O4:=O2.trans Og (fun k hk=>.inl (by rw [List.mem_singleton.1 hk];simp));have LR4:=hLR.more Og (fun hm=>by have:=hLR.tr.lt _ hm;omega) (fun hm=>by have:=vW hLR.kept _ hm;omega) (by have:=HW1.out;omega)
    have kr4:=tV kr O4 (fun hm=>by
     rcases List.mem_cons.1 hm with h|h
     ·have:=HW1.out;omega
     have:=HFP.out _ h;omega)
    clear rz fz kz;refine hK.out _ _ (kbS.out w1.heap.size _ (by have:=HW1.out;omega) O4) fun aY=>?_;clear hK K;refine k1 18 rfl fun K hK=>?_
    go_simp;refine hK.out _ _ (kbS.out w1.heap.size _ (by have:=HW1.out;omega) O4) fun aY=>?_;clear hK K;refine kN ?_;go_wp2_with fail
    go_meet;exact⟨w1.heap.size,ob,sb,fV,rv',os',_,rfl,rfl,by have:=HW1.out;omega,k4,kr4,LR4,O4⟩
   go_simp;have FY:=aK (wr.alloc (.cells #[.string x.own,.int .i64 x.ty,.int .i64 x.cl,.int .i64 x.tt,.string x.da] 133)) #[.int .i64 0,.int .i64 0,.pointer none,.pointer none] 201;rw [jO] at FY;have kz:=fO FY;have bz:=((aJ _ (wr.alloc (.cells #[.string x.own,.int .i64 x.ty,.int .i64 x.cl,.int .i64 x.tt,.string x.da] 133))).alloc (aI _) (.cells #[.int .i64 0,.int .i64 0,.pointer none,.pointer none] 201)).drew;have bw:=Nm.aC ba bz
   have qA:((wr.alloc (.cells #[.string x.own,.int .i64 x.ty,.int .i64 x.cl,.int .i64 x.tt,.string x.da] 133)).alloc (.cells #[.int .i64 0,.int .i64 0,.pointer none,.pointer none] 201)).drew.heap.size=wr.heap.size+2:=by
    show((wr.alloc _).alloc _).heap.size=_
    simp
   have O2:=dN.below (fp:=(wr.heap.size+1)::jF th rv os) bz;clear FY;refine hK.out _ _ (kbS.out (wr.heap.size+1) _ (by omega) O2) fun aY=>?_;clear hK K;refine k1 12 rfl fun K hK=>?_
   go_simp;have hly:=aLk.out _ bw;have HSZ:=Nm.aD qA;clear qA;refine hly.mono ?_;rintro e w1 ⟨ob,sb,fV,rv',os',rfl,hLR,O1,M1⟩;have O3:=O2.trans O1 (fun k hk=>.inl (by simp [hk]));have ng:wr.heap.size+1∉jF th rv os:=fun hm=>by have:=HFP.out _ hm;omega
   have uI:=tV kz O1 ng;clear hly kz;go_wp2_with fail
   refine hK.out _ _ (kbS.out (wr.heap.size+1) _ (by omega) O3) fun aY=>?_;clear hK K;refine kB 13 rfl ?_;refine kB 14 rfl ?_;refine kB 15 rfl ?_;refine k1 17 rfl fun K hK=>?_
   have rz:=aA uI
   have fz:=aF uI
   go_simp;have k4:=aM (aM (aM (aM uI 0 (.int .i64 (k:Int))) 1 (.int .i64 x.ty)) 2 (.pointer (some ⟨ob,0,none⟩))) 3 (.pointer (some ⟨sb,0,none⟩));simp only [List.setIfInBounds_toArray,List.set_cons_zero,List.set_cons_succ] at k4;have Og:=(((qP (W:=w1) (b:=wr.heap.size+1) (i:=0) (v:=.int .i64 (k:Int))).trans (qP (b:=wr.heap.size+1) (i:=1) (v:=.int .i64 x.ty)) (fun k hk=>.inl hk)).trans (qP (b:=wr.heap.size+1) (i:=2) (v:=.pointer (some ⟨ob,0,none⟩))) (fun k hk=>.inl hk)).trans (qP (b:=wr.heap.size+1) (i:=3) (v:=.pointer (some ⟨sb,0,none⟩))) (fun k hk=>.inl hk);have O4:=O3.trans Og (fun k hk=>.inl (by rw [List.mem_singleton.1 hk];simp))
   have LR4:=hLR.more Og (fun hm=>by
    rcases M1 _ hm with h|h
    ·exact ng h
    have:=HSZ.out;omega) (fun hm=>by have:=vW HR.out.2.2.1.kept _ hm;omega) (by omega)
   have kr4:=tV kr O4 (fun hm=>by
    rcases List.mem_cons.1 hm with h|h
    ·omega
    have:=HFP.out _ h;omega)
   clear rz fz uI;refine hK.out _ _ (kbS.out (wr.heap.size+1) _ (by omega) O4) fun aY=>?_;clear hK K;refine k1 18 rfl fun K hK=>?_
   go_simp;refine hK.out _ _ (kbS.out (wr.heap.size+1) _ (by omega) O4) fun aY=>?_;clear hK K;refine kN ?_;go_wp2_with fail
   go_meet;exact⟨wr.heap.size+1,ob,sb,fV,rv',os',_,rfl,rfl,by omega,k4,kr4,LR4,O4⟩
  obtain⟨g,ob,sb,fV,rv',os',W,rfl,rfl,Mv,kg,kr5,LR,Oc⟩:=hcut;obtain⟨tt,ctt,Zg⟩:=LR.tt;have hix:(list.map bH)[k]? =some (bH x):=by simp [HXX.out.1]
  have c3:=(aA kr5 3).trans rfl;have g3:=(aA kg 3).trans rfl
  have aAe:(x.tt != tt)=uS ((list.map bH).take k) (bH x):=by
   rw [Zg]
   show(x.tt != tt)=decide (tt≠x.tt)
   by_cases h9:x.tt=tt
   ·rw [h9];simp
   have h8:tt≠x.tt:=fun e=>h9 e.symm
   simp [h9,h8]
  have aN6:bb∉g::jF th rv os:=fun hm=>by
   have l1:=cO HR.out.2.1
   rcases List.mem_cons.1 hm with h|h
   ·omega
   exact YA HR.out.2.1 (HR.out.2.2.1.tr.types bb h) (by decide) rfl
  have kbC:=tV kbA Oc aN6
  have oCw:dN [bb,th] w wc:=by
   have h1:dN [bb,th] w (wr.alloc (.cells #[.string x.own,.int .i64 x.ty,.int .i64 x.cl,.int .i64 x.tt,.string x.da] 133)):=HR.out.2.2.2.2.trans (dN.below (fp:=[bb,th]) ba) (fun k hk=>.inl hk);refine aFo (B:=w.heap.size) h1 Oc (fun b hb=>?_) (aI _)
   rcases List.mem_cons.1 hb with h|h
   ·exact .inr (by omega)
   exact HR.out.2.2.1.fpl b h
  have lrC:nH wc B0 (.slice (some ⟨lb,0,none⟩) list.length aFq) vU (nU list):=by
   have l0:=HR.out.2.2.2.1.below ba;refine⟨qQ l0.outer Oc (fun b hb=>?_),l0.len,fun i u xs e1 e2=>qQ (l0.inner i u xs e1 e2) Oc (fun b hb=>?_)⟩
   ·rcases List.mem_cons.1 hb with h|h
    ·intro hm;have:=vW HR.out.2.2.2.1.outer _ hm;omega
    exact AJ HR.out.2.2.2.1.outer (HR.out.2.2.1.tr.types b h) (by decide)
   rcases List.mem_cons.1 hb with h|h
   ·intro hm;have:=vW (HR.out.2.2.2.1.inner i u xs e1 e2) _ hm;omega
   exact AJ (HR.out.2.2.2.1.inner i u xs e1 e2) (HR.out.2.2.1.tr.types b h) (by decide)
  have HM:=Nm.aD (aV aAe (aV hix (aV oCw (aV lrC LR))));clear Zg aAe hix oCw lrC LR Oc aN6 kr5 kr kbA cL aLk d0 d1 d2 d3 d4
  cases dM:(x.tt != tt) with
  |true=>
   have HN:=Nm.aD dM;go_wp2;go_quiet (fail)
   go_wp2;go_ret2;have xN:=aI6 HR.out.1 HM.out.2.1 (by rw [<- HM.out.1];exact HN.out)
   refine⟨HM.out.2.2.1.trans (dN.below (fp:=[bb,th]) (Go.below_drewN (aJ _ wc) _)) (fun k hk=>.inl hk),.inl ⟨by rw [xN];omega,by rw [xN];rfl⟩⟩
  |false=>
   have HN:=Nm.aD dM;cases fV
   ·go_wp2;go_quiet (fail)
    go_wp2;have bq:=Go.below_drewN (aJ wc.heap.size wc) nq;go_roundw
    case rel=>
     refine⟨k+1,rv',os',kv,ks,by omega,by go_num,fun j y hj hy=>?_,aB kbC bq,?_,HM.out.2.2.2.1.below bq,HM.out.2.2.1.trans (dN.below (fp:=[bb,th]) bq) (fun k hk=>.inl hk)⟩
     ·rcases Nat.lt_succ_iff_lt_or_eq.1 hj with h1|rfl
      ·exact HR.out.1 j y h1 hy
      rw [HM.out.2.1] at hy;cases hy;rw [<- HM.out.1];exact HN.out
     rw [QM HM.out.2.1];exact HM.out.2.2.2.2.old bq
    simp [intOf];omega
   go_wp2;go_quiet (fail)
   go_upto_region 8 with fail
   have bq:=(Go.below_drewN (aJ wc.heap.size wc) nq).drew;have kb8:=aB kbC bq;have kg8:=aB kg bq;have ok8:=own_below HM.out.2.2.2.2.kept bq;have hwc:=HM.out.2.2.1.size
   have hks:ks.length<=k:=by
    have:=HR.out.2.2.1.kin.len;rw [List.length_take,List.length_map] at this;omega
   obtain⟨ka,kc,rfl⟩:=aT ok8;have UT:(Value.slice ka ks.length kc).ownBlock≠some g:=fun e=>by have:=vW HR.out.2.2.1.kept g (by rw [e];simp);omega
   have HQ:=Nm.aD (aV hks (aV hwc (aV Mv UT)));have Hbq:=Nm.aD bq;clear hks hwc Mv UT bq c3 g3 ctt dM;generalize hWD:(wc.drewN nq).drew=WD at*;have HWD:=Nm.aD hWD;clear hWD;refine kR (fun X=>X.cell? ⟨bb,5,none⟩=some (.slice ka ks.length kc)∧X.cell? ⟨g,0,none⟩=some (.int .i64 (k:Int))∧X.cell? ⟨g,1,none⟩=some (.int .i64 x.ty)∧X.cell? ⟨g,2,none⟩=some (.pointer (some ⟨ob,0,none⟩))∧X.cell? ⟨g,3,none⟩=some (.pointer (some ⟨sb,0,none⟩))∧True∧True) 10 (by rw [HWD.out];exact⟨(aA kb8 5).trans rfl,(aA kg8 0).trans rfl,(aA kg8 1).trans rfl,(aA kg8 2).trans rfl,(aA kg8 3).trans rfl,trivial,trivial⟩) fun aY=>?_;rw [HWD.out] at aY ⊢;refine kB 0 rfl ?_;refine kB 1 rfl ?_;refine kB 2 rfl ?_;refine kB 3 rfl ?_;refine kB 4 rfl ?_;refine kB 5 rfl ?_;refine k1 6 rfl fun K hK=>?_
   go_simp;have ba8:=(aJ WD.heap.size WD).alloc (aI _) (.cells #[.int .i64 (k:Int),.int .i64 x.ty,.pointer (some ⟨ob,0,none⟩),.pointer (some ⟨sb,0,none⟩)] 201);have kb9:=aB kb8 ba8;have kg9:=aB kg8 ba8;have ok9:=own_below ok8 ba8;refine hK.out _ _ ⟨(aA kb9 5).trans rfl,(aA kg9 0).trans rfl,(aA kg9 1).trans rfl,(aA kg9 2).trans rfl,(aA kg9 3).trans rfl,trivial,trivial⟩ fun aY=>?_;clear hK K;refine k1 7 rfl fun K hK=>?_
   refine nD rfl (.tmp 48) (.tmp 50) 111 rfl w.heap.size 201 i0 (.agg #[.int .i64 0,.int .i64 0,.pointer none,.pointer none]) 4 32 Tryz.underlying111 hi iQ iH iI rfl (by decide) (.slice ka ks.length kc) ks.length (CF ks) (by rfl) ok9 ⟨WD.heap.size,0,none⟩ 1 1 [.int .i64 (k:Int),.int .i64 x.ty,.pointer (some ⟨ob,0,none⟩),.pointer (some ⟨sb,0,none⟩)] (by rfl) rfl (eZ _ _ _) (by intro u hu;simp at hu;rcases hu with rfl|rfl|rfl|rfl<;>rfl) (by unfold maxLen;have:=HQ.out;omega) (by have:=HQ.out;omega) (by have h1:=HQ.out.2.1;have h2:=Hbq.out.size;have h3:=ba8.size;omega) ?_;intro v9 w9 tL mH _;obtain⟨g',cap',rfl⟩:=ownsRow_succ tL;have aCc:=aO kb9 mH (dD ok9 kb9 (by decide));have aFr:=aO kg9 mH HQ.out.2.2.2;refine hK.out _ _ ⟨(aA aCc 5).trans rfl,(aA aFr 0).trans rfl,(aA aFr 1).trans rfl,(aA aFr 2).trans rfl,(aA aFr 3).trans rfl,trivial,trivial⟩ fun aY=>?_;clear hK K;refine k1 8 rfl fun K hK=>?_
   go_simp;refine hK.out _ _ aY fun aY=>?_;clear hK K;refine k1 9 rfl fun K hK=>?_
   go_simp;refine hK.out _ _ aY fun aY=>?_;clear hK K;have aRe:=aF aCc
   refine iB (by kernel_rfl) rfl (by kernel_rfl) fun K hK=>?_;go_simp;refine hK.out _ _ ?_;clear hK K aY aRe;have k11:=aM aCc 5 (.slice (some ⟨g',0,none⟩) (ks.length+1) cap');simp only [List.setIfInBounds_toArray,List.set_cons_zero,List.set_cons_succ] at k11;have WE:Below wc.heap.size wc (WD.alloc (.cells #[.int .i64 (k:Int),.int .i64 x.ty,.pointer (some ⟨ob,0,none⟩),.pointer (some ⟨sb,0,none⟩)] 201)):=Nm.aC Hbq.out ba8;have hlen:((list.map bH).take k).length=k:=by rw [List.length_take,List.length_map];omega
   have Zc:=HM.out.2.2.2.2.new WE mH (by rw [hlen];exact tL) aCc;rw [hlen] at Zc;have aRf:=(nH.outs (fp:=(Value.slice ka ks.length kc).ownBlock.toList) (ts:=[201]) (HM.out.2.2.2.1.below WE) ⟨mH.os,mH.tape,mH.output,mH.size,fun q hq hn=>mH.block q hq (fun e=>hn (by rw [<- e];simp))⟩ (Bz ok9 (by simp)) (by decide) (by decide)).set (i:=5) (y:=.slice (some ⟨g',0,none⟩) (ks.length+1) cap') aCc;have aRg:=(NR (HM.out.2.2.1.trans (dN.below (fp:=[bb,th]) WE) (fun k hk=>.inl hk)) mH (fun q e=>(ok9.lt q e).1)).trans (qP (b:=bb) (i:=5) (v:=.slice (some ⟨g',0,none⟩) (ks.length+1) cap')) (fun k hk=>.inl (by simp [List.mem_singleton.1 hk]));clear aY kg9 kg8 aFr kb9 aCc ok9 ok8 tL mH;go_wp2;go_roundw
   case rel=>
    refine⟨k+1,rv',os',_,ks++[⟨k,(bH x).r.ty,ob,sb⟩],by omega,by go_num,fun j y hj hy=>?_,k11,?_,aRf,aRg⟩
    ·rcases Nat.lt_succ_iff_lt_or_eq.1 hj with h1|rfl
     ·exact HR.out.1 j y h1 hy
     rw [HM.out.2.1] at hy;cases hy;rw [<- HM.out.1];exact HN.out
    rw [QM HM.out.2.1];exact Zc
   simp [intOf];omega
 have FE:k=list.length:=by omega
 subst FE;clear hc gI kb lr qV hS;go_wp2;go_ret2;have qD:∀ (i:Nat) (y:It),(list.map bH)[i]? =some y->uS ((list.map bH).take i) y=false:=fun i y hy=>HR.out.1 i y (by have:=(dL hy).1;rwa [List.length_map] at this) hy
 refine⟨HR.out.2.2.2.2,.inr ⟨aI7 qD,rfl,qD,rv,os,kv,ks,HR.out.2.1,?_⟩⟩;have:=HR.out.2.2.1
 rwa [List.take_of_length_le (by rw [List.length_map];exact aI _)] at this
theorem Cb(f:Ld->Bool)(code:Int)(l:List Ld):∃ c a,CG f code l=.tuple #[.int .i64 c,.int .i64 a]:=by
 unfold CG
 cases l.find? f with
 |none=>exact⟨_,_,rfl⟩
 |some x=>exact⟨_,_,rfl⟩
theorem Fj(bb:Nat)(v:Value)(ls:List Ld)(f:Ld->Bool)(w:World)(hk:w.cell? ⟨bb,5,none⟩=some v)(h:dZ w v ls.length 4 (CF ls))(hl:ls.length<=1000000)
 (hf:∀ x∈ls,∀ W,Below w.heap.size w W->Calls Tryz.prog 141 #[.agg #[.int .i64 (x.at_:Int),.int .i64 x.ty,.pointer (some ⟨x.ob,0,none⟩),.pointer (some ⟨x.sb,0,none⟩)]] W fun e w'=>e=.returned (.bool (f x))∧Below W.heap.size W w'):
 Calls Tryz.prog 106 #[.pointer (some ⟨bb,0,none⟩)] w fun e w'=>e=.returned (CG f 26 ls)∧Below w.heap.size w w':=by
 have hw:=Fg bb 26 v ls f w hk h hl hf;obtain⟨c,a,e⟩:=Cb f 26 ls;rw [e] at hw ⊢;clear hf h hk e;go_enter Tryz.func106,Tryz.ntmps106;go_wp2_with fail
 refine hw.mono ?_;rintro e w1 ⟨rfl,b1⟩;clear hw;go_wp2;go_ret2;exact⟨rfl,b1⟩
theorem WR(bb:Nat)(v:Value)(ls:List Ld)(f:Ld->Bool)(w:World)(hk:w.cell? ⟨bb,5,none⟩=some v)(h:dZ w v ls.length 4 (CF ls))(hl:ls.length<=1000000)
 (hf:∀ x∈ls,∀ W,Below w.heap.size w W->Calls Tryz.prog 143 #[.agg #[.int .i64 (x.at_:Int),.int .i64 x.ty,.pointer (some ⟨x.ob,0,none⟩),.pointer (some ⟨x.sb,0,none⟩)]] W fun e w'=>e=.returned (.bool (f x))∧Below W.heap.size W w'):
 Calls Tryz.prog 107 #[.pointer (some ⟨bb,0,none⟩)] w fun e w'=>e=.returned (CG f 23 ls)∧Below w.heap.size w w':=by
 have hw:=WP bb 23 v ls f w hk h hl hf;obtain⟨c,a,e⟩:=Cb f 23 ls;rw [e] at hw ⊢;clear hf h hk e;go_enter Tryz.func107,Tryz.ntmps107;go_wp2_with fail
 refine hw.mono ?_;rintro e w1 ⟨rfl,b1⟩;clear hw;go_wp2;go_ret2;exact⟨rfl,b1⟩
theorem Cc(bb:Nat)(v:Value)(ls:List Ld)(f:Ld->Bool)(w:World)(hk:w.cell? ⟨bb,5,none⟩=some v)(h:dZ w v ls.length 4 (CF ls))(hl:ls.length<=1000000)
 (hf:∀ x∈ls,∀ W,Below w.heap.size w W->Calls Tryz.prog 144 #[.agg #[.int .i64 (x.at_:Int),.int .i64 x.ty,.pointer (some ⟨x.ob,0,none⟩),.pointer (some ⟨x.sb,0,none⟩)]] W fun e w'=>e=.returned (.bool (f x))∧Below W.heap.size W w'):
 Calls Tryz.prog 108 #[.pointer (some ⟨bb,0,none⟩)] w fun e w'=>e=.returned (CG f 23 ls)∧Below w.heap.size w w':=by
 have hw:=Bt bb 23 v ls f w hk h hl hf;obtain⟨c,a,e⟩:=Cb f 23 ls;rw [e] at hw ⊢;clear hf h hk e;go_enter Tryz.func108,Tryz.ntmps108;go_wp2_with fail
 refine hw.mono ?_;rintro e w1 ⟨rfl,b1⟩;clear hw;go_wp2;go_ret2;exact⟨rfl,b1⟩
theorem aCd(x:Ld)(nm lv hv:Value)(T:TypeId)(lab:List ByteArray)(w:World)(hk:bW w x.ob #[nm,lv,hv] T)(h:Nm.bP w lv lab):
 Calls Tryz.prog 141 #[.agg #[.int .i64 (x.at_:Int),.int .i64 x.ty,.pointer (some ⟨x.ob,0,none⟩),.pointer (some ⟨x.sb,0,none⟩)]] w fun e w'=>e=.returned (.bool ((x.ty==2||x.ty==39)&&MQ lab))∧Below w.heap.size w w':=by
 have iY:=(aJ w.heap.size w).alloc (aI _) (.cells #[.int .i64 (x.at_:Int),.int .i64 x.ty,.pointer (some ⟨x.ob,0,none⟩),.pointer (some ⟨x.sb,0,none⟩)] 201);have kb:=aK w #[.int .i64 (x.at_:Int),.int .i64 x.ty,.pointer (some ⟨x.ob,0,none⟩),.pointer (some ⟨x.sb,0,none⟩)] 201;have rb:=aA kb
 have ko:=(aA (aB hk iY) 1).trans rfl;have hw:=Yv lv lab _ (h.below iY);obtain⟨a,cap,rfl,_⟩:=h;obtain⟨at_,ty,ob,sb⟩:=x;simp only at*
 clear hk kb;generalize MQ lab=WL at*
 by_cases h2:ty=2
 ·subst h2;have e2:((2:Int)==2)=true:=rfl;go_enter Tryz.func141,Tryz.ntmps141;go_wp2_with fail
  refine hw.mono ?_;rintro e w1 ⟨rfl,b1⟩;clear hw;go_wp2;go_ret;exact⟨by simp,Nm.aC iY b1⟩
 have e2:(ty==2)=false:=by simpa using h2
 by_cases h3:ty=39
 ·subst h3;go_enter Tryz.func141,Tryz.ntmps141;go_wp2_with fail
  refine hw.mono ?_;rintro e w1 ⟨rfl,b1⟩;clear hw;go_wp2;go_ret;exact⟨by simp,Nm.aC iY b1⟩
 have e3:(ty==39)=false:=by simpa using h3
 clear hw;go_enter Tryz.func141,Tryz.ntmps141;go_wp2;go_ret;exact⟨by simp [e2,e3],iY⟩
theorem A7(x:Ld)(cq:Nat)(v:Value)(bs:List Nat)(w:World)(hq:w.cell? ⟨cq,0,none⟩=some v)(h:dZ w v bs.length 1 (bs.map ptr))(UO:∀ b,b=x.ob∨b∈bs->∃ cs T,bW w b cs T):
 Calls Tryz.prog 146 #[.agg #[.int .i64 (x.at_:Int),.int .i64 x.ty,.pointer (some ⟨x.ob,0,none⟩),.pointer (some ⟨x.sb,0,none⟩)],.pointer (some ⟨cq,0,none⟩)] w fun e w'=>e=.returned (.bool (decide (x.ob∈bs)))∧Below w.heap.size w w':=by
 have iY:=(aJ w.heap.size w).alloc (aI _) (.cells #[.int .i64 (x.at_:Int),.int .i64 x.ty,.pointer (some ⟨x.ob,0,none⟩),.pointer (some ⟨x.sb,0,none⟩)] 201);have kb:=aK w #[.int .i64 (x.at_:Int),.int .i64 x.ty,.pointer (some ⟨x.ob,0,none⟩),.pointer (some ⟨x.sb,0,none⟩)] 201;have rb:=aA kb
 have kq:=(iY.cell (p:=⟨cq,0,none⟩) (fD w _ hq)).trans hq;have hw:=Bc v bs x.ob _ (h.below iY) (fun b hb=>by obtain⟨cs,T,k⟩:=UO b hb;exact⟨cs,T,aB k iY⟩);obtain⟨_,a,cap,rfl,_⟩:=h;obtain⟨at_,ty,ob,sb⟩:=x;simp only at*
 generalize decide (ob∈bs)=DB at*;clear UO kb hq;go_enter Tryz.func146,Tryz.ntmps146;go_wp2_with fail
 refine hw.mono ?_;rintro e w1 ⟨rfl,b1⟩;clear hw;go_wp2;go_ret;exact⟨rfl,Nm.aC iY b1⟩
theorem A8(x:Ld)(o:dG)(B:Nat)(w:World)(hx:x.ob=o.dS)(h:yB w B o)(hl:o.ss.length<=500000)(hd:VE o.ss):
 Calls Tryz.prog 144 #[.agg #[.int .i64 (x.at_:Int),.int .i64 x.ty,.pointer (some ⟨x.ob,0,none⟩),.pointer (some ⟨x.sb,0,none⟩)]] w fun e w'=>e=.returned (.bool (x.ty != 5&&x.ty != 47&&gY (eP 5) o.ss))∧Below w.heap.size w w':=by
 have iY:=(aJ w.heap.size w).alloc (aI _) (.cells #[.int .i64 (x.at_:Int),.int .i64 x.ty,.pointer (some ⟨x.ob,0,none⟩),.pointer (some ⟨x.sb,0,none⟩)] 201);have kb:=aK w #[.int .i64 (x.at_:Int),.int .i64 x.ty,.pointer (some ⟨x.ob,0,none⟩),.pointer (some ⟨x.sb,0,none⟩)] 201;have rb:=aA kb
 have hw:=wW o B 5 _ (h.below iY) hl hd;unfold ptr at hw;rw [<- hx] at hw;obtain⟨at_,ty,ob,sb⟩:=x;simp only at*
 generalize gY (eP 5) o.ss=DB at*;clear hx h hl hd kb
 by_cases h2:ty=5
 ·subst h2;have e2:((5:Int) != 5)=false:=rfl;clear hw;go_enter Tryz.func144,Tryz.ntmps144;go_wp2;go_ret;exact⟨by simp,iY⟩
 have e2:(ty != 5)=true:=by simpa using h2
 by_cases h3:ty=47
 ·subst h3;clear hw;go_enter Tryz.func144,Tryz.ntmps144;go_wp2;go_ret;exact⟨by simp,iY⟩
 have e3:(ty != 47)=true:=by simpa using h3
 go_enter Tryz.func144,Tryz.ntmps144;go_wp2_with fail
 refine hw.mono ?_;rintro e w1 ⟨rfl,b1⟩;clear hw;go_wp2;go_ret;exact⟨by simp [e2,e3],Nm.aC iY b1⟩
theorem Tw(x:Ld)(tt hv:Value)(fi:Nat)(T:TypeId)(w:World)(hk:bW w x.sb #[tt,.int .i64 (fi:Int),hv] T):
 Calls Tryz.prog 143 #[.agg #[.int .i64 (x.at_:Int),.int .i64 x.ty,.pointer (some ⟨x.ob,0,none⟩),.pointer (some ⟨x.sb,0,none⟩)]] w fun e w'=>e=.returned (.bool ((x.ty==5||x.ty==39)&&((x.at_:Int) != (fi:Int))))∧Below w.heap.size w w':=by
 have iY:=(aJ w.heap.size w).alloc (aI _) (.cells #[.int .i64 (x.at_:Int),.int .i64 x.ty,.pointer (some ⟨x.ob,0,none⟩),.pointer (some ⟨x.sb,0,none⟩)] 201);have kb:=aK w #[.int .i64 (x.at_:Int),.int .i64 x.ty,.pointer (some ⟨x.ob,0,none⟩),.pointer (some ⟨x.sb,0,none⟩)] 201;have r0:=(aA kb 0).trans rfl;have r1:=(aA kb 1).trans rfl;have r3:=(aA kb 3).trans rfl;have ko:=(aA (aB hk iY) 1).trans rfl;obtain⟨at_,ty,ob,sb⟩:=x;simp only at*
 clear hk kb;generalize hE:((at_:Int) != (fi:Int))=EQ at*
 by_cases h2:ty=5
 ·subst h2;have e2:((5:Int)==5)=true:=rfl;go_enter Tryz.func143,Tryz.ntmps143;go_wp2;go_quiet (fail)
  go_wp2;go_ret;exact⟨by simp,Go.below_drewN iY _⟩
 have e2:(ty==5)=false:=by simpa using h2
 by_cases h3:ty=39
 ·subst h3;go_enter Tryz.func143,Tryz.ntmps143;go_wp2;go_quiet (fail)
  go_wp2;go_ret;exact⟨by simp,Go.below_drewN iY _⟩
 have e3:(ty==39)=false:=by simpa using h3
 go_enter Tryz.func143,Tryz.ntmps143;go_wp2;go_quiet (fail)
 go_wp2;go_ret;exact⟨by simp [e2,e3],Go.below_drewN iY _⟩
theorem aFs(x:Ld)(cq:Nat)(tt hv nm ov:Value)(fi:Nat)(T To:TypeId)(la:Option Addr)(ln lc:Nat)(aa:Option Addr)(an ac:Nat)(w:World)(hk:bW w x.sb #[tt,.int .i64 (fi:Int),hv] T)(ho:bW w x.ob #[nm,.slice la ln lc,ov] To)(hq:w.cell? ⟨cq,0,none⟩=some (.slice aa an ac)):
 Calls Tryz.prog 139 #[.agg #[.int .i64 (x.at_:Int),.int .i64 x.ty,.pointer (some ⟨x.ob,0,none⟩),.pointer (some ⟨x.sb,0,none⟩)],.pointer (some ⟨cq,0,none⟩)] w fun e w'=>e=.returned (.bool (x.ty==6&&(decide (an<ln)||((x.at_:Int) != (fi:Int)))))∧Below w.heap.size w w':=by
 have iY:=(aJ w.heap.size w).alloc (aI _) (.cells #[.int .i64 (x.at_:Int),.int .i64 x.ty,.pointer (some ⟨x.ob,0,none⟩),.pointer (some ⟨x.sb,0,none⟩)] 201);have kb:=aK w #[.int .i64 (x.at_:Int),.int .i64 x.ty,.pointer (some ⟨x.ob,0,none⟩),.pointer (some ⟨x.sb,0,none⟩)] 201;have r0:=(aA kb 0).trans rfl;have r1:=(aA kb 1).trans rfl;have r2:=(aA kb 2).trans rfl;have r3:=(aA kb 3).trans rfl;have ko:=(aA (aB hk iY) 1).trans rfl;have kp:=(aA (aB ho iY) 1).trans rfl;have kq:=(iY.cell (p:=⟨cq,0,none⟩) (fD w _ hq)).trans hq;obtain⟨at_,ty,ob,sb⟩:=x;simp only at*
 clear hk kb ho hq;generalize hE:((at_:Int) != (fi:Int))=EQ at*
 by_cases h2:ty=6
 ·subst h2;have e2:((6:Int)==6)=true:=rfl
  by_cases h3:an<ln
  ·have e3:(an:Int)<(ln:Int):=by omega
   go_enter Tryz.func139,Tryz.ntmps139;go_wp2;go_quiet (fail)
   go_wp2;go_ret;exact⟨by simp [h3],Go.below_drewN iY _⟩
  have e3:¬(an:Int)<(ln:Int):=by omega
  go_enter Tryz.func139,Tryz.ntmps139;go_wp2;go_quiet (fail)
  go_wp2;go_ret;exact⟨by simp [h3],Go.below_drewN iY _⟩
 have e2:(ty==6)=false:=by simpa using h2
 go_enter Tryz.func139,Tryz.ntmps139;go_wp2;go_quiet (fail)
 go_wp2;go_ret;exact⟨by simp [e2],Go.below_drewN iY _⟩
theorem CQ:∀ (l:List Rr) (i:Nat),gB aL l i=none->∀ r∈l,pW r aL=0:=by
 intro l
 induction l with
 |nil=>intro i _ r hr;cases hr
 |cons x l ih=>
  intro i h r hr;rw [gB] at h
  by_cases hx:pW x aL=0
  ·rw [if_pos hx] at h
   rcases List.mem_cons.1 hr with rfl|hr
   ·exact hx
   exact ih (i+1) h r hr
  rw [if_neg hx] at h;cases h
theorem QN:∀ (l:List Rr) (i:Nat) (c:Int) (j:Nat),gB aL l i=some (c,j)->c≠0:=by
 intro l
 induction l with
 |nil=>intro i c j h;simp [gB] at h
 |cons x l ih=>
  intro i c j h;rw [gB] at h
  by_cases hx:pW x aL=0
  ·rw [if_pos hx] at h;exact ih (i+1) c j h
  rw [if_neg hx] at h;simp at h;rw [<- h.1];exact hx
theorem Ce(h:pW r aL=0):(Nm.split r.own).isSome=true∧cZ r.own aL=true:=by
 rw [pW] at h
 split at h
 ·cases h
 rename_i h1;refine⟨by cases hq:(Nm.split r.own).isSome with|true=>rfl|false=>exact absurd hq h1,?_⟩
 split at h
 ·cases h
 split at h
 ·cases h
 split at h
 ·cases h
 split at h
 ·cases h
 split at h
 ·cases h
 rename_i h2;simpa using h2
structure P3 (list:List Rr) (aL:ByteArray) (bb:Nat) (lv:Value) (th:Nat) (ys:List ByteArray) (aa:Option Addr) (ac:Nat) (eD rv:Value) (os:List dG) (kv:Value) (ks:List Ld) (B:Nat) (W:World):Prop where
 kb:bW W bb #[lv,.string aL,eD,.slice aa ys.length ac,ptr th,kv] 113
 st:Tv B W th (list.map bH) rv os kv ks
 ap:Nm.split aL=some ys
 av:Nm.bP W (.slice aa ys.length ac) ys
 hl:list.length<=500
 ok:gB aL list 0=none
 mix:∀ (i:Nat) (y:It),(list.map bH)[i]? =some y->uS ((list.map bH).take i) y=false
theorem P3.below{th:Nat}(h:P3 list aL bb lv th ys aa ac eD rv os kv ks B W)(hb:Below W.heap.size W W'):P3 list aL bb lv th ys aa ac eD rv os kv ks B W':=
 ⟨aB h.kb hb,h.st.below hb,h.ap,h.av.below hb,h.hl,h.ok,h.mix⟩
theorem P3.vZ{th:Nat}(h:P3 list aL bb lv th ys aa ac eD rv os kv ks B W):(∀ y∈list.map bH,iN y)∧∀ y∈list.map bH,cZ y.r.own aL=true:=by
 constructor<;>intro y hy<;>obtain⟨r,hr,rfl⟩:=kJ hy
 ·exact CP (Ce (CQ _ _ h.ok r hr)).1
 exact(Ce (CQ _ _ h.ok r hr)).2
theorem P3.one{th:Nat}(h:P3 list aL bb lv th ys aa ac eD rv os kv ks B W){k:Ld}(hk:k∈ks):
 ∃ x o s,(list.map bH)[k.at_]? =some x∧k.ty=x.r.ty∧o∈os∧k.ob=o.dS∧FK o.lab x∧s∈o.ss∧k.sb=s.dS∧s.ty=x.r.ty:=by
 obtain⟨x,h1,h2,o,ho,h3,h4,s,hs,h5,h6⟩:=h.st.kin.ok k hk;exact⟨x,o,s,h1,h2,ho,h3.symm,h4,hs,h5.symm,h6⟩
theorem QO{p:Nat->It->Bool}{k:Ld}(h:l[k.at_]? =some x):TQ l p k=p k.at_ x:=by rw [TQ,h]
def uX(o:Option Nat)(code:Int):Int×Int:=match o with
 |some i=>(code,i)
 |none=>(0,0)
theorem yR(hK:WM l os ks)(hl:∀ y∈l,iN y)(p:Nat->It->Bool)(hp:∀ i x,x.out=true->p i x=false)(code:Int):Ending.returned (CG (TQ l p) code ks)=CW (uX (dC p (FX l)) code).1 (uX (dC p (FX l)) code).2:=by
 rw [aE6 hK hl p hp code];cases dC p (FX l)<;>rfl
theorem aI8{th:Nat}(h:P3 list aL bb lv th ys aa ac eD rv os kv ks B W):
 Calls Tryz.prog 106 #[.pointer (some ⟨bb,0,none⟩)] W fun e w'=>e=CW (uX (dC (fun _ x=>XN x) (bK list)) 26).1 (uX (dC (fun _ x=>XN x) (bK list)) 26).2∧Below W.heap.size W w':=by
 have mK:=h.st.kin.len;rw [List.length_map] at mK;have:=h.hl;refine(Fj bb kv ks (TQ (list.map bH) (fun _ x=>XN x)) W ((aA h.kb 5).trans rfl) (dZ.aP h.st.kept) (by omega) (fun k hk W' hW=>?_)).mono ?_
 ·obtain⟨x,o,s,h1,h2,ho,h3,h4,hs,h5,h6⟩:=h.one hk;have ow:=(h.below hW).st.tr.jG o ho;have hn:=ow.node;rw [<- h3] at hn;refine(aCd k _ _ _ _ o.lab W' hn (((h.below hW).st.lab o ho).row)).mono ?_;rintro e w' ⟨rfl,hb⟩;refine⟨?_,hb⟩;rw [QO h1,h2,aA9 h.st.inv h.vZ.1 h1 ho h4]
 rintro e w' ⟨rfl,hb⟩;exact⟨yR h.st.kin h.vZ.1 _ (fun i x hx=>by rw [XN,hx];rfl) 26,hb⟩
theorem aCe{th:Nat}(h:P3 list aL bb lv th ys aa ac eD rv os kv ks B W):
 Calls Tryz.prog 107 #[.pointer (some ⟨bb,0,none⟩)] W fun e w'=>e=CW (uX (dC (Ej (bK list)) (bK list)) 23).1 (uX (dC (Ej (bK list)) (bK list)) 23).2∧Below W.heap.size W w':=by
 have mK:=h.st.kin.len;rw [List.length_map] at mK;have:=h.hl;refine(WR bb kv ks (TQ (list.map bH) (Ej (bK list))) W ((aA h.kb 5).trans rfl) (dZ.aP h.st.kept) (by omega) (fun k hk W' hW=>?_)).mono ?_
 ·obtain⟨x,o,s,h1,h2,ho,h3,h4,hs,h5,h6⟩:=h.one hk;have sw:=((h.below hW).st.tr.jG o ho).sets s hs;have hn:=sw.node;rw [<- h5] at hn;refine(Tw k _ _ _ _ W' hn).mono ?_;rintro e w' ⟨rfl,hb⟩;refine⟨?_,hb⟩;rw [QO h1,h2,Rv h.st.inv h.vZ.1 h1 ho h4 hs h6];rfl
 rintro e w' ⟨rfl,hb⟩;exact⟨yR h.st.kin h.vZ.1 _ (fun i x hx=>by rw [Ej,hx];rfl) 23,hb⟩
theorem aFt{th:Nat}(h:P3 list aL bb lv th ys aa ac eD rv os kv ks B W):
 Calls Tryz.prog 108 #[.pointer (some ⟨bb,0,none⟩)] W fun e w'=>e=CW (uX (dC (fun _ x=>XO (bK list) x) (bK list)) 23).1 (uX (dC (fun _ x=>XO (bK list) x) (bK list)) 23).2∧Below W.heap.size W w':=by
 have mK:=h.st.kin.len;rw [List.length_map] at mK;have:=h.hl;have htr:=h.st.inv.trs (by rw [List.length_map];omega);refine(Cc bb kv ks (TQ (list.map bH) (fun _ x=>XO (bK list) x)) W ((aA h.kb 5).trans rfl) (dZ.aP h.st.kept) (by omega) (fun k hk W' hW=>?_)).mono ?_
 ·obtain⟨x,o,s,h1,h2,ho,h3,h4,hs,h5,h6⟩:=h.one hk;refine(A8 k o B W' h3 ((h.below hW).st.tr.jG o ho) (by have:=(htr.2 o ho).2.1;omega) (htr.2 o ho).1).mono ?_;rintro e w' ⟨rfl,hb⟩;refine⟨?_,hb⟩;rw [QO h1,h2,Zd h.st.inv h.vZ.1 h1 ho h4];rfl
 rintro e w' ⟨rfl,hb⟩;exact⟨yR h.st.kin h.vZ.1 _ (fun i x hx=>by rw [XO,hx];rfl) 23,hb⟩
theorem aFu{th:Nat}(h:P3 list aL bb lv th ys aa ac eD rv os kv ks B W)(t:Int):
 ∀ W',Below W.heap.size W W'->Calls Tryz.prog 140 #[.pointer (some ⟨bb,3,none⟩),.slice aa ys.length ac,.int .i64 t] W' fun e w'=>e=.returned (.bool (gZ (bK list) (Nm.dV aL) t))∧Below W'.heap.size W' w':=by
 intro W' hW;have h':=h.below hW;have htr:=h.st.inv.trs (by rw [List.length_map];have:=h.hl;omega);have Nc:=h.st.inv.len.1;rw [List.length_map] at Nc;have hlf:=(QJ h.ap).2;have hh:=Rh bb 3 th rv os B aa ys.length ac ys t W' h'.st.tr (by have:=h.hl;omega) htr h'.st.lab h'.av (by omega) ((aA h'.kb 4).trans rfl);have e:=h.st.inv.has h.vZ.1 h.ap t;rw [e] at hh;exact hh
theorem aN7{th:Nat}(h:P3 list aL bb lv th ys aa ac eD rv os kv ks B W):
 Calls Tryz.prog 105 #[.pointer (some ⟨bb,0,none⟩)] W fun e w'=>e=CW (if gZ (bK list) (Nm.dV aL) 2=true then(0,0) else((21:Int),(-1:Int))).1 (if gZ (bK list) (Nm.dV aL) 2=true then(0,0) else((21:Int),(-1:Int))).2∧Below W.heap.size W w':=by
 refine(Sa bb aa ys.length ac (gZ (bK list) (Nm.dV aL) 2) W ((aA h.kb 3).trans rfl) (aFu h 2)).mono ?_;rintro e w' ⟨rfl,hb⟩;refine⟨?_,hb⟩;cases gZ (bK list) (Nm.dV aL) 2<;>rfl
def A9(o:Option Nat)(b:Bool):Int×Int:=match o with
 |some i=>(20,i)
 |none=>if b=true then(0,0) else(20,-1)
theorem aLm{th:Nat}(h:P3 list aL bb lv th ys aa ac eD rv os kv ks B W):
 Calls Tryz.prog 104 #[.pointer (some ⟨bb,0,none⟩)] W fun e w'=>e=CW (A9 (dC (XM (bK list) (Nm.dV aL)) (bK list)) (gZ (bK list) (Nm.dV aL) 6)).1 (A9 (dC (XM (bK list) (Nm.dV aL)) (bK list)) (gZ (bK list) (Nm.dV aL) 6)).2∧Below W.heap.size W w':=by
 have mK:=h.st.kin.len;rw [List.length_map] at mK;have:=h.hl;refine(Lf bb kv ks (TQ (list.map bH) (XM (bK list) (Nm.dV aL))) aa ys.length ac (gZ (bK list) (Nm.dV aL) 6) W ((aA h.kb 5).trans rfl) (dZ.aP h.st.kept) (by omega) ((aA h.kb 3).trans rfl) (fun k hk cq W' hW hq=>?_) (aFu h 6)).mono ?_
 ·obtain⟨x,o,s,h1,h2,ho,h3,h4,hs,h5,h6⟩:=h.one hk;have ow:=(h.below hW).st.tr.jG o ho;have hn:=ow.node;have sn:=(ow.sets s hs).node;obtain⟨va,vc,ev,_⟩:=((h.below hW).st.lab o ho).row;rw [<- h3,ev] at hn;rw [<- h5] at sn;refine(aFs k cq _ _ _ _ _ _ _ va o.lab.length vc aa ys.length ac W' sn hn hq).mono ?_;rintro e w' ⟨rfl,hb⟩;refine⟨?_,hb⟩;rw [QO h1,h2,aE7 h.st.inv h.vZ.1 h.ap h.vZ.2 h1 ho h4 hs h6];rfl
 rintro e w' ⟨rfl,hb⟩;refine⟨?_,hb⟩;have e1:=yR h.st.kin h.vZ.1 (XM (bK list) (Nm.dV aL)) (fun i x hx=>by rw [XM,hx];rfl) 20;unfold aLd A9;have e2:(FX (list.map bH))=bK list:=rfl;rw [e2,CG] at e1
 cases hf:ks.find? (TQ (list.map bH) (XM (bK list) (Nm.dV aL))) with
 |some k=>
  rw [hf] at e1
  cases hg:dC (XM (bK list) (Nm.dV aL)) (bK list) with
  |some i=>rw [hg] at e1;exact e1
  |none=>rw [hg] at e1;simp [CW,uX] at e1
 |none=>
  rw [hf] at e1
  cases hg:dC (XM (bK list) (Nm.dV aL)) (bK list) with
  |some i=>rw [hg] at e1;simp [CW,uX] at e1
  |none=>cases gZ (bK list) (Nm.dV aL) 6<;>rfl
theorem aFv{th:Nat}(h:P3 list aL bb lv th ys aa ac eD rv os kv ks B W):
 Calls Tryz.prog 109 #[.pointer (some ⟨bb,0,none⟩)] W fun e w'=>e=CW (uX (dC (fun _ x=>Dm (bK list) x) (bK list)) 25).1 (uX (dC (fun _ x=>Dm (bK list) x) (bK list)) 25).2∧Below W.heap.size W w':=by
 have mK:=h.st.kin.len;rw [List.length_map] at mK;have hl5:=h.hl;have htr:=h.st.inv.trs (by rw [List.length_map];omega);have Nc:=h.st.inv.len.1;rw [List.length_map] at Nc;have hbt:=Bq bb 3 th rv os B W h.st.tr htr (by omega) h.st.lab ((aA h.kb 4).trans rfl)
 have aIw:∀ o∈os,∀ q∈os,q.dS=o.dS->q=o:=by
  intro o ho q hq e;obtain⟨i,hi⟩:=List.getElem?_of_mem ho;obtain⟨j,hj⟩:=List.getElem?_of_mem hq;have ML:=dL hi;have OE:=dL hj;have Qm:=h.st.tr.nodup;simp only [jF,List.nodup_cons,List.nodup_append] at Qm;have hfm:=Qm.2.2.1
  have key:∀ (a b:Nat),a<b->(ha:a<os.length)->(hb:b<os.length)->os[a].dS≠os[b].dS:=by
   intro a b Pe ha hb e2;have:=List.pairwise_iff_getElem.1 (List.pairwise_flatMap.1 hfm).2 a b ha hb Pe;exact this os[a].dS (by simp [qE]) os[b].dS (by simp [qE]) e2
  rcases Nat.lt_trichotomy i j with h1|h1|h1
  ·exact absurd (by rw [ML.2,OE.2];exact e.symm) (key i j h1 ML.1 OE.1)
  ·subst h1;rw [hi] at hj;exact(jI hj).symm
  exact absurd (by rw [ML.2,OE.2];exact e) (key j i h1 OE.1 ML.1)
 have hf9:∀ (W1:World) (v:Value) (cq:Nat),Below W.heap.size W W1->W1.cell? ⟨cq,0,none⟩=some v->dZ W1 v ((jA os).2.map (·.dS)).length 1 (((jA os).2.map (·.dS)).map ptr)->Calls Tryz.prog 138 #[.pointer (some ⟨bb,0,none⟩),.int .i64 25,.func (.func 146) #[] #[.pointer (some ⟨cq,0,none⟩)]] W1 fun e w'=>e=CW (uX (dC (fun _ x=>Dm (bK list) x) (bK list)) 25).1 (uX (dC (fun _ x=>Dm (bK list) x) (bK list)) 25).2∧Below W1.heap.size W1 w':=by
  intro W1 v cq En hq dI;have ZG:=h.below En;refine(Bu bb cq 25 kv ks (TQ (list.map bH) (fun _ x=>Dm (bK list) x)) W1 ((aA ZG.kb 5).trans rfl) (dZ.aP ZG.st.kept) (by omega) (fun k hk W2 hW2=>?_)).mono ?_
  ·obtain⟨x,o,s,h1,h2,ho,h3,h4,hs,h5,h6⟩:=h.one hk;have Ws:=ZG.below hW2;refine(A7 k cq v ((jA os).2.map (·.dS)) W2 ((hW2.cell (p:=⟨cq,0,none⟩) (fD W1 _ hq)).trans hq) (dI.below hW2) (fun b hb=>?_)).mono ?_
   ·rcases hb with hb|hb
    ·exact⟨_,_,by rw [hb,h3];exact(Ws.st.tr.jG o ho).node⟩
    obtain⟨q,zT,rfl⟩:=kJ hb;exact⟨_,_,(Ws.st.tr.jG q ((Q3 os h.st.inv.sorted.1).sub q zT)).node⟩
   rintro e w' ⟨rfl,hb⟩;refine⟨?_,hb⟩;rw [QO h1,h3,Ze h.st.inv h.vZ.1 h1 ho h4 (fun q hq e=>aIw o ho q hq e)];rfl
  rintro e w' ⟨rfl,hb⟩;exact⟨yR h.st.kin h.vZ.1 _ (fun i x hx=>by rw [Dm,hx];rfl) 25,hb⟩
 have HF:=Nm.aD hf9;generalize uX (dC (fun _ x=>Dm (bK list) x) (bK list)) 25=RV at*;have hmf:∀ (fn:Fn) (first cap:Array Value) (w:World),(Instr.makeFunc fn first cap).run Tryz.prog w=.ok (.func fn first cap) w:=fun _ _ _ _=>rfl
 clear hf9 aIw htr Nc;unfold CW at*;obtain⟨c,i⟩:=RV;simp only at*
 go_enter Tryz.func109,Tryz.ntmps109;go_wp2_with fail
 refine hbt.mono ?_;rintro e w1 ⟨v,rfl,aU,b1⟩;obtain⟨va,vc,rfl⟩:=aT aU;have kq:=aK w1 #[.slice va (jA os).2.length vc] 207;have b2:=b1.alloc b1.size (.cells #[.slice va (jA os).2.length vc] 207);have wR:=dZ.aP (own_below aU ((aJ _ w1).alloc (aI _) (.cells #[.slice va (jA os).2.length vc] 207)));have aX:=HF.out _ (.slice va (jA os).2.length vc) w1.heap.size b2 ((aA kq 0).trans rfl) (by rw [List.length_map,List.map_map];exact wR);clear hbt wR kq aU HF;go_wp2_with (go_at_call 138;refine aX.mono ?_;rintro e w3 ⟨rfl,b3⟩)
 go_ret2;exact⟨rfl,Nm.aC b2 b3⟩
def jE:List (Int×Int)->Int×Int
 |[]=>(0,0)
 |r::rs=>if r.1≠0 then r else jE rs
def A_(list:List Rr)(aL:ByteArray):Int×Int:=if(Nm.split aL).isSome=false then(32,-1) else if 500<list.length then(12,-1) else(0,0)
def aFw(list:List Rr)(aL:ByteArray):Int×Int:=match gB aL list 0 with
 |some (c,i)=>(c,(i:Int))
 |none=>(0,0)
def aFx(list:List Rr):Int×Int:=if 0<=vY (list.map bH) then(24,vY (list.map bH)) else(0,0)
def LY(list:List Rr)(aL:ByteArray):List (Int×Int):=[A_ list aL,aFw list aL,aFx list,A9 (dC (XM (bK list) (Nm.dV aL)) (bK list)) (gZ (bK list) (Nm.dV aL) 6),
 if gZ (bK list) (Nm.dV aL) 2=true then(0,0) else(21,-1),uX (dC (fun _ x=>XN x) (bK list)) 26,uX (dC (Ej (bK list)) (bK list)) 23,uX (dC (fun _ x=>XO (bK list) x) (bK list)) 23,uX (dC (fun _ x=>Dm (bK list) x) (bK list)) 25]
def aN8:List Nat:=[101,102,103,104,105,106,107,108,109]
theorem wY{r:Int×Int}{rs:List (Int×Int)}(h:r=(0,0)):jE (r::rs)=jE rs:=by rw [jE,h];simp
theorem Li{r q:Int×Int}{rs:List (Int×Int)}(h:r=q)(hq:q.1≠0):jE (r::rs)=q:=by rw [jE,h,if_pos hq]
theorem aI9(list:List Rr)(aL:ByteArray):iX list aL=jE (LY list aL):=by
 rw [iX,LY]
 by_cases h1:(Nm.split aL).isSome=false
 ·rw [if_pos h1,Li (q:=(32,-1)) (by rw [A_,if_pos h1]) (by decide)]
 rw [if_neg h1]
 by_cases h2:500<list.length
 ·rw [if_pos h2,Li (q:=(12,-1)) (by rw [A_,if_neg h1,if_pos h2]) (by decide)]
 rw [if_neg h2,wY (by rw [A_,if_neg h1,if_neg h2])]
 cases hb:gB aL list 0 with
 |some p=>
  obtain⟨c,i⟩:=p
  rw [Li (q:=(c,(i:Int))) (by rw [aFw,hb]) (QN _ _ _ _ hb)]
 |none=>
  rw [wY (by rw [aFw,hb])];simp only
  by_cases h3:0<=vY (list.map bH)
  ·rw [if_pos h3,Li (q:=(24,vY (list.map bH))) (by rw [aFx,if_pos h3]) (by simp)]
  rw [if_neg h3,wY (by rw [aFx,if_neg h3]),pR]
  cases dC (XM (bK list) (Nm.dV aL)) (bK list) with
  |some i=>simp [jE,A9]
  |none=>
   simp only
   cases gZ (bK list) (Nm.dV aL) 6
   ·simp [jE,A9]
   rw [wY (show A9 none true=(0,0) from rfl)];simp only [Bool.not_true,Bool.false_eq_true,if_false];cases gZ (bK list) (Nm.dV aL) 2
   ·simp [jE]
   rw [wY (show(if true=true then((0:Int),(0:Int)) else(21,-1))=(0,0) from rfl)];simp only [Bool.not_true,Bool.false_eq_true,if_false]
   cases dC (fun _ x=>XN x) (bK list) with
   |some i=>simp [jE,uX]
   |none=>
    rw [wY (show uX none 26=(0,0) from rfl)];simp only
    cases dC (Ej (bK list)) (bK list) with
    |some i=>simp [jE,uX]
    |none=>
     rw [wY (show uX none 23=(0,0) from rfl)];simp only
     cases dC (fun _ x=>XO (bK list) x) (bK list) with
     |some i=>simp [jE,uX]
     |none=>
      rw [wY (show uX none 23=(0,0) from rfl)];simp only
      cases dC (fun _ x=>Dm (bK list) x) (bK list) with
      |some i=>simp [jE,uX]
      |none=>rw [wY (show uX none 25=(0,0) from rfl)];simp [jE]
theorem aJa{rs:List (Int×Int)}{r:Int×Int}(h:rs[k]? =some r):jE (rs.drop k)=if r.1≠0 then r else jE (rs.drop (k+1)):=by
 obtain⟨hk,e⟩:=dL h;rw [List.drop_eq_getElem_cons hk,e,jE]
theorem aCf{s:Nat}{cs:List Value}(h:dN fp w W)(hc:dZ w v n s cs)(hn:0<n->∀ b,lD v=some b->b∉fp):dZ W v n s cs:=by
 obtain⟨h0,a,cap,rfl,h1,h2,h3⟩:=hc;refine⟨h0,a,cap,rfl,h1,h2,fun hp=>?_⟩;obtain⟨b,off,rfl,hc⟩:=h3 hp;exact⟨b,off,rfl,fun i x hx=>xQ h (hc i x hx) (hn hp b rfl)⟩
def Ph(w:World)(bb:Nat)(lv:Value)(list:List Rr)(aL:ByteArray)(k:Nat)(W:World):Prop:=dN [bb] w W∧match k with
 |0=>bW W bb #[lv,.string aL,.slice none 0 0,.slice none 0 0,.pointer none,.slice none 0 0] 113
 |1=>∃ ys aa ac th,Nm.split aL=some ys∧list.length<=500∧bW W bb #[lv,.string aL,.slice none 0 0,.slice aa ys.length ac,ptr th,.slice none 0 0] 113∧bW W th #[wI,.slice none 0 0] 163∧W.ownsRow w.heap.size 9 1 (.slice aa ys.length ac) ys.length (ys.map Value.string)∧w.heap.size<=th
 |2=>∃ ys aa ac th eD vU B0,Nm.split aL=some ys∧list.length<=500∧bW W bb #[lv,.string aL,eD,.slice aa ys.length ac,ptr th,.slice none 0 0] 113∧bW W th #[wI,.slice none 0 0] 163∧W.ownsRow w.heap.size 9 1 (.slice aa ys.length ac) ys.length (ys.map Value.string)∧w.heap.size<=th∧nH W B0 eD vU (nU list)∧gB aL list 0=none
 |_+3=>∃ th ys aa ac eD rv os kv ks B,P3 list aL bb lv th ys aa ac eD rv os kv ks B W
theorem iO(h:dN fp w W)(hb:Below W.heap.size W W'):dN fp w W':=h.trans (dN.below (fp:=fp) hb) (fun k hk=>.inl hk)
def Hz(list:List Rr)(aL:ByteArray)(k:Nat):Int×Int:=((LY list aL)[k]?).getD (0,0)
def fnK(k:Nat):Nat:=(aN8[k]?).getD 0
theorem aJb{la:Option Addr}{lc:Nat}(h:dZ w (.slice la list.length lc) list.length 5 (jC list))(IZ:0<list.length->lD (.slice la list.length lc)≠some bb)(bY:0<list.length->∀ b,lD (.slice la list.length lc)=some b->b<w.heap.size)(ha:aL.size<=maxLen)(ho:∀ r∈list,r.own.size<=1000000000∧r.da.size<=2000000)
 (k:Nat) (hk:k<9) (W:World) (hP:Ph w bb (.slice la list.length lc) list aL k W):
 Calls Tryz.prog (fnK k) #[.pointer (some ⟨bb,0,none⟩)] W fun e w'=>e=CW (Hz list aL k).1 (Hz list aL k).2∧dN [bb] w w'∧((Hz list aL k).1=0->Ph w bb (.slice la list.length lc) list aL (k+1) w'):=by
 have hnb:0<list.length->∀ b,lD (.slice la list.length lc)=some b->b∉[bb]:=fun h0 b hb hm=>IZ h0 (by rw [hb,List.mem_singleton.1 hm])
 obtain⟨hO,hP⟩:=hP;have hcr:=aCf hO h hnb
 match k,hP with
 |0,hP=>
  refine(Fh bb la list.length lc aL W hP ha).mono ?_;rintro e w' (⟨h1,rfl,hb⟩|⟨h1,h2,rfl,hb⟩|⟨ys,aa,ac,th,h1,h2,rfl,hOu,k1,k2,k3,k4⟩)
  ·have e1:Hz list aL 0=(32,-1):=by simp [Hz,LY,A_,h1]
   rw [e1];exact⟨rfl,iO hO hb,fun h=>by simp at h⟩
  ·have e1:Hz list aL 0=(12,-1):=by
    cases hs:Nm.split aL with
    |none=>exact absurd hs h1
    |some z=>simp [Hz,LY,A_,hs,h2]
   rw [e1];exact⟨rfl,iO hO hb,fun h=>by simp at h⟩
  have e1:Hz list aL 0=(0,0):=by simp [Hz,LY,A_,h1];omega
  rw [e1];have Tx:=hO.trans hOu (fun k hk=>.inl hk)
  exact⟨rfl,Tx,fun _=>⟨Tx,ys,aa,ac,th,h1,h2,k1,k2,fM k3 hO.size,jN hO.size k4⟩⟩
 |1,⟨ys,aa,ac,th,h1,h2,k1,k2,k3,k4⟩=>
  refine(TS bb la lc list aL ys aa ac (ptr th) W k1 hcr IZ h2 h1 (QK k3) (fun e=>dD k3 k1 (by decide) (by
   have:=yQ k3 e
   simpa using this)) (fun r hr=>⟨by have:=(ho r hr).1;unfold maxLen;omega,(ho r hr).2⟩)).mono ?_
  rintro e w' ⟨hOu,⟨c,i,hb,rfl⟩|⟨hb,rfl,eD,vU,q1,q2⟩⟩
  ·have e1:Hz list aL 1=(c,(i:Int)):=by simp [Hz,LY,aFw,hb]
   rw [e1];exact⟨rfl,hO.trans hOu (fun k hk=>.inl hk),fun h=>absurd h (QN _ _ _ _ hb)⟩
  have e1:Hz list aL 1=(0,0):=by simp [Hz,LY,aFw,hb]
  rw [e1];have Tx:=hO.trans hOu (fun k hk=>.inl hk)
  have aRh:th∉[bb]:=fun hm=>by
   have h9:=ZJ k2 k1 (by decide);exact h9 (List.mem_singleton.1 hm)
  exact⟨rfl,Tx,fun _=>⟨Tx,ys,aa,ac,th,eD,vU,W.heap.size,h1,h2,q1,tV k2 hOu aRh,qQ k3 hOu (fun b jW hm=>dD k3 k1 (by decide) (by rw [<- List.mem_singleton.1 jW];simpa using hm)),k4,q2,hb⟩⟩
 |2,⟨ys,aa,ac,th,eD,vU,B0,h1,h2,k1,k2,k3,k4,k5,k6⟩=>
  have MM:=CQ _ _ k6;refine(Ca bb th la lc list aL eD vU (.slice aa ys.length ac) B0 W k1 hcr (fun h0 b hb=>⟨fun e=>IZ h0 (by rw [hb,e]),fun e=>by have:=bY h0 b hb;omega⟩) h2 k5 k2 (fun r hr=>(Ce (MM r hr)).1) ho).mono ?_;rintro e w' ⟨hOu,⟨hb,rfl⟩|⟨hb,rfl,Zg,rv,os,kv,ks,q1,q2⟩⟩
  ·have e1:Hz list aL 2=(24,vY (list.map bH)):=by simp [Hz,LY,aFx,hb]
   rw [e1];refine⟨rfl,hO.trans hOu (fun k hk=>?_),fun h=>by simp at h⟩;simp at hk
   rcases hk with rfl|rfl
   ·exact .inl (by simp)
   exact .inr k4
  have e1:Hz list aL 2=(0,0):=by simp [Hz,LY,aFx,hb]
  rw [e1]
  have Tx:dN [bb] w w':=hO.trans hOu (fun k hk=>by
   simp at hk
   rcases hk with rfl|rfl
   ·exact .inl (by simp)
   exact .inr k4)
  have hav:=qQ k3 hOu (fun b jW hm=>by
   simp at jW
   rcases jW with rfl|rfl
   ·exact dD k3 k1 (by decide) (by simpa using hm)
   exact dD k3 k2 (by decide) (by simpa using hm))
  exact⟨rfl,Tx,fun _=>⟨Tx,th,ys,aa,ac,eD,rv,os,kv,ks,_,⟨q1,q2,h1,QK hav,h2,k6,Zg⟩⟩⟩
 |3,⟨th,ys,aa,ac,eD,rv,os,kv,ks,B,hP⟩=>
  exact(aLm hP).mono fun e w' ⟨he,hb⟩=>⟨he,iO hO hb,fun _=>⟨iO hO hb,th,ys,aa,ac,eD,rv,os,kv,ks,B,hP.below hb⟩⟩
 |4,⟨th,ys,aa,ac,eD,rv,os,kv,ks,B,hP⟩=>
  exact(aN7 hP).mono fun e w' ⟨he,hb⟩=>⟨he,iO hO hb,fun _=>⟨iO hO hb,th,ys,aa,ac,eD,rv,os,kv,ks,B,hP.below hb⟩⟩
 |5,⟨th,ys,aa,ac,eD,rv,os,kv,ks,B,hP⟩=>
  exact(aI8 hP).mono fun e w' ⟨he,hb⟩=>⟨he,iO hO hb,fun _=>⟨iO hO hb,th,ys,aa,ac,eD,rv,os,kv,ks,B,hP.below hb⟩⟩
 |6,⟨th,ys,aa,ac,eD,rv,os,kv,ks,B,hP⟩=>
  exact(aCe hP).mono fun e w' ⟨he,hb⟩=>⟨he,iO hO hb,fun _=>⟨iO hO hb,th,ys,aa,ac,eD,rv,os,kv,ks,B,hP.below hb⟩⟩
 |7,⟨th,ys,aa,ac,eD,rv,os,kv,ks,B,hP⟩=>
  exact(aFt hP).mono fun e w' ⟨he,hb⟩=>⟨he,iO hO hb,fun _=>⟨iO hO hb,th,ys,aa,ac,eD,rv,os,kv,ks,B,hP.below hb⟩⟩
 |8,⟨th,ys,aa,ac,eD,rv,os,kv,ks,B,hP⟩=>
  exact(aFv hP).mono fun e w' ⟨he,hb⟩=>⟨he,iO hO hb,fun _=>⟨iO hO hb,th,ys,aa,ac,eD,rv,os,kv,ks,B,hP.below hb⟩⟩
theorem aCg(bb:Nat)(la:Option Addr)(lc:Nat)(list:List Rr)(aL:ByteArray)(w:World)(hk:bW w bb #[.slice la list.length lc,.string aL,.slice none 0 0,.slice none 0 0,.pointer none,.slice none 0 0] 113)(h:dZ w (.slice la list.length lc) list.length 5 (jC list))(IZ:0<list.length->lD (.slice la list.length lc)≠some bb)(bY:0<list.length->∀ b,lD (.slice la list.length lc)=some b->b<w.heap.size)(ha:aL.size<=maxLen)(ho:∀ r∈list,r.own.size<=1000000000∧r.da.size<=2000000):
 Calls Tryz.prog 63 #[.pointer (some ⟨bb,0,none⟩)] w fun e w'=>e=CW (iX list aL).1 (iX list aL).2∧dN [bb] w w'∧((iX list aL).1=0->∃ th ys aa ac eD rv os kv ks B,P3 list aL bb (.slice la list.length lc) th ys aa ac eD rv os kv ks B w'):=by
 have X9:=cO hk;obtain⟨cs,rT⟩:∃ cs:Array Value,cs=#[.func (.func 101) #[.pointer (some ⟨bb,0,none⟩)] #[],.func (.func 102) #[.pointer (some ⟨bb,0,none⟩)] #[],.func (.func 103) #[.pointer (some ⟨bb,0,none⟩)] #[],.func (.func 104) #[.pointer (some ⟨bb,0,none⟩)] #[],.func (.func 105) #[.pointer (some ⟨bb,0,none⟩)] #[],.func (.func 106) #[.pointer (some ⟨bb,0,none⟩)] #[],.func (.func 107) #[.pointer (some ⟨bb,0,none⟩)] #[],.func (.func 108) #[.pointer (some ⟨bb,0,none⟩)] #[],.func (.func 109) #[.pointer (some ⟨bb,0,none⟩)] #[]]:=⟨_,rfl⟩;have kR:=aK w cs 115;have bR:=(aJ w.heap.size w).alloc (aI _) (.cells cs 115);have mI:=fun k hk W hP=>aJb (h.below bR) IZ (fun h0 b hb=>by have:=bY h0 b hb;simp;omega) ha ho k hk W hP
 have P0:Ph (w.alloc (.cells cs 115)) bb (.slice la list.length lc) list aL 0 (w.alloc (.cells cs 115)):=⟨dN.below (aJ _ _),aB hk bR⟩;rw [aI9];have hmf:∀ (fn:Fn) (first cap:Array Value) (w:World),(Instr.makeFunc fn first cap).run Tryz.prog w=.ok (.func fn first cap) w:=fun _ _ _ _=>rfl
 have HX:=Nm.aD (aV mI (aV P0 (aV kR bR)));have HCS:=Nm.aD rT;clear h IZ bY ho hk mI P0 kR bR rT;go_enter Tryz.func63,Tryz.ntmps63;go_wp2
 -- LOOP
 go_loopw [30] (fun i wr=>∃ k:Nat,k<=9∧i=.int .i64 k∧jE (LY list aL)=jE ((LY list aL).drop k)∧Ph (w.alloc (.cells cs 115)) bb (.slice la list.length lc) list aL k wr) (fun i _=>9-(intOf i).toNat)
 case atStart=>
  refine⟨0,dR _,rfl,rfl,?_⟩;rw [HCS.out];have:=HX.out.2.1;rw [HCS.out] at this;exact this
 obtain⟨k,hk9,rfl,hnz,hP⟩:=hrel;have Dq:=Nm.aD hnz;clear hnz
 have qV:dN [bb] w wr:=by
  have h9:=(dN.below (fp:=[bb]) HX.out.2.2.2).trans hP.1 (fun k hk=>.inl hk);exact h9
 by_cases bY:k<9
 ·have hc:=HX.out.1 k bY wr hP;have Lj:=tV HX.out.2.2.1 hP.1 (fun hm=>by have:=List.mem_singleton.1 hm;omega);rw [HCS.out] at Lj
  have hgk:(LY list aL)[k]? =some (Hz list aL k):=by
   rw [Hz];have:k<(LY list aL).length:=by simp [LY];omega
   rw [gF this];rfl
  have hdr:=aJa hgk;generalize Hz list aL k=RK at hc hgk hdr;obtain⟨C,I⟩:=RK;simp only at hc hdr
  have HD:=Nm.aD (aV hdr (aV qV hP));clear hgk hdr qV hP;have i1:=fE k
  have i2:(k:Int)<9:=by omega
  have Af:k=0∨k=1∨k=2∨k=3∨k=4∨k=5∨k=6∨k=7∨k=8:=by omega
  rcases Af with JG|JG|JG|JG|JG|JG|JG|JG|JG
  ·have cF:wr.cell? ⟨w.heap.size,k,none⟩=some (.func (.func 101) #[.pointer (some ⟨bb,0,none⟩)] #[]):=by rw [JG];exact(aA Lj 0).trans rfl
   have ef:fnK k=101:=by rw [JG];rfl
   rw [ef] at hc;clear Lj ef JG
   by_cases hC:C=0
   ·subst hC;go_wp2_with (go_at_call 101;refine hc.mono ?_;rintro e w1 ⟨rfl,NS,BX⟩;unfold CW)
    go_roundw
    ·exact⟨k+1,by omega,by go_num,by rw [Dq.out,HD.out.1];simp,BX trivial⟩
    simp [intOf];omega
   have n0:(C != 0)=true:=by simpa using hC
   have H0:=Nm.aD hC;clear hC;go_wp2_with (go_at_call 101;refine hc.mono ?_;rintro e w1 ⟨rfl,NS,BX⟩;unfold CW)
   go_ret2;rw [Dq.out,HD.out.1,if_pos H0.out];exact⟨rfl,(dN.below (fp:=[bb]) HX.out.2.2.2).trans NS (fun k hk=>.inl hk),fun h=>absurd h H0.out⟩
  ·have cF:wr.cell? ⟨w.heap.size,k,none⟩=some (.func (.func 102) #[.pointer (some ⟨bb,0,none⟩)] #[]):=by rw [JG];exact(aA Lj 1).trans rfl
   have ef:fnK k=102:=by rw [JG];rfl
   rw [ef] at hc;clear Lj ef JG
   by_cases hC:C=0
   ·subst hC;go_wp2_with (go_at_call 102;refine hc.mono ?_;rintro e w1 ⟨rfl,NS,BX⟩;unfold CW)
    go_roundw
    ·exact⟨k+1,by omega,by go_num,by rw [Dq.out,HD.out.1];simp,BX trivial⟩
    simp [intOf];omega
   have n0:(C != 0)=true:=by simpa using hC
   have H0:=Nm.aD hC;clear hC;go_wp2_with (go_at_call 102;refine hc.mono ?_;rintro e w1 ⟨rfl,NS,BX⟩;unfold CW)
   go_ret2;rw [Dq.out,HD.out.1,if_pos H0.out];exact⟨rfl,(dN.below (fp:=[bb]) HX.out.2.2.2).trans NS (fun k hk=>.inl hk),fun h=>absurd h H0.out⟩
  ·have cF:wr.cell? ⟨w.heap.size,k,none⟩=some (.func (.func 103) #[.pointer (some ⟨bb,0,none⟩)] #[]):=by rw [JG];exact(aA Lj 2).trans rfl
   have ef:fnK k=103:=by rw [JG];rfl
   rw [ef] at hc;clear Lj ef JG
   by_cases hC:C=0
   ·subst hC;go_wp2_with (go_at_call 103;refine hc.mono ?_;rintro e w1 ⟨rfl,NS,BX⟩;unfold CW)
    go_roundw
    ·exact⟨k+1,by omega,by go_num,by rw [Dq.out,HD.out.1];simp,BX trivial⟩
    simp [intOf];omega
   have n0:(C != 0)=true:=by simpa using hC
   have H0:=Nm.aD hC;clear hC;go_wp2_with (go_at_call 103;refine hc.mono ?_;rintro e w1 ⟨rfl,NS,BX⟩;unfold CW)
   go_ret2;rw [Dq.out,HD.out.1,if_pos H0.out];exact⟨rfl,(dN.below (fp:=[bb]) HX.out.2.2.2).trans NS (fun k hk=>.inl hk),fun h=>absurd h H0.out⟩
  ·have cF:wr.cell? ⟨w.heap.size,k,none⟩=some (.func (.func 104) #[.pointer (some ⟨bb,0,none⟩)] #[]):=by rw [JG];exact(aA Lj 3).trans rfl
   have ef:fnK k=104:=by rw [JG];rfl
   rw [ef] at hc;clear Lj ef JG
   by_cases hC:C=0
   ·subst hC;go_wp2_with (go_at_call 104;refine hc.mono ?_;rintro e w1 ⟨rfl,NS,BX⟩;unfold CW)
    go_roundw
    ·exact⟨k+1,by omega,by go_num,by rw [Dq.out,HD.out.1];simp,BX trivial⟩
    simp [intOf];omega
   have n0:(C != 0)=true:=by simpa using hC
   have H0:=Nm.aD hC;clear hC;go_wp2_with (go_at_call 104;refine hc.mono ?_;rintro e w1 ⟨rfl,NS,BX⟩;unfold CW)
   go_ret2;rw [Dq.out,HD.out.1,if_pos H0.out];exact⟨rfl,(dN.below (fp:=[bb]) HX.out.2.2.2).trans NS (fun k hk=>.inl hk),fun h=>absurd h H0.out⟩
  ·have cF:wr.cell? ⟨w.heap.size,k,none⟩=some (.func (.func 105) #[.pointer (some ⟨bb,0,none⟩)] #[]):=by rw [JG];exact(aA Lj 4).trans rfl
   have ef:fnK k=105:=by rw [JG];rfl
   rw [ef] at hc;clear Lj ef JG
   by_cases hC:C=0
   ·subst hC;go_wp2_with (go_at_call 105;refine hc.mono ?_;rintro e w1 ⟨rfl,NS,BX⟩;unfold CW)
    go_roundw
    ·exact⟨k+1,by omega,by go_num,by rw [Dq.out,HD.out.1];simp,BX trivial⟩
    simp [intOf];omega
   have n0:(C != 0)=true:=by simpa using hC
   have H0:=Nm.aD hC;clear hC;go_wp2_with (go_at_call 105;refine hc.mono ?_;rintro e w1 ⟨rfl,NS,BX⟩;unfold CW)
   go_ret2;rw [Dq.out,HD.out.1,if_pos H0.out];exact⟨rfl,(dN.below (fp:=[bb]) HX.out.2.2.2).trans NS (fun k hk=>.inl hk),fun h=>absurd h H0.out⟩
  ·have cF:wr.cell? ⟨w.heap.size,k,none⟩=some (.func (.func 106) #[.pointer (some ⟨bb,0,none⟩)] #[]):=by rw [JG];exact(aA Lj 5).trans rfl
   have ef:fnK k=106:=by rw [JG];rfl
   rw [ef] at hc;clear Lj ef JG
   by_cases hC:C=0
   ·subst hC;go_wp2_with (go_at_call 106;refine hc.mono ?_;rintro e w1 ⟨rfl,NS,BX⟩;unfold CW)
    go_roundw
    ·exact⟨k+1,by omega,by go_num,by rw [Dq.out,HD.out.1];simp,BX trivial⟩
    simp [intOf];omega
   have n0:(C != 0)=true:=by simpa using hC
   have H0:=Nm.aD hC;clear hC;go_wp2_with (go_at_call 106;refine hc.mono ?_;rintro e w1 ⟨rfl,NS,BX⟩;unfold CW)
   go_ret2;rw [Dq.out,HD.out.1,if_pos H0.out];exact⟨rfl,(dN.below (fp:=[bb]) HX.out.2.2.2).trans NS (fun k hk=>.inl hk),fun h=>absurd h H0.out⟩
  ·have cF:wr.cell? ⟨w.heap.size,k,none⟩=some (.func (.func 107) #[.pointer (some ⟨bb,0,none⟩)] #[]):=by rw [JG];exact(aA Lj 6).trans rfl
   have ef:fnK k=107:=by rw [JG];rfl
   rw [ef] at hc;clear Lj ef JG
   by_cases hC:C=0
   ·subst hC;go_wp2_with (go_at_call 107;refine hc.mono ?_;rintro e w1 ⟨rfl,NS,BX⟩;unfold CW)
    go_roundw
    ·exact⟨k+1,by omega,by go_num,by rw [Dq.out,HD.out.1];simp,BX trivial⟩
    simp [intOf];omega
   have n0:(C != 0)=true:=by simpa using hC
   have H0:=Nm.aD hC;clear hC;go_wp2_with (go_at_call 107;refine hc.mono ?_;rintro e w1 ⟨rfl,NS,BX⟩;unfold CW)
   go_ret2;rw [Dq.out,HD.out.1,if_pos H0.out];exact⟨rfl,(dN.below (fp:=[bb]) HX.out.2.2.2).trans NS (fun k hk=>.inl hk),fun h=>absurd h H0.out⟩
  ·have cF:wr.cell? ⟨w.heap.size,k,none⟩=some (.func (.func 108) #[.pointer (some ⟨bb,0,none⟩)] #[]):=by rw [JG];exact(aA Lj 7).trans rfl
   have ef:fnK k=108:=by rw [JG];rfl
   rw [ef] at hc;clear Lj ef JG
   by_cases hC:C=0
   ·subst hC;go_wp2_with (go_at_call 108;refine hc.mono ?_;rintro e w1 ⟨rfl,NS,BX⟩;unfold CW)
    go_roundw
    ·exact⟨k+1,by omega,by go_num,by rw [Dq.out,HD.out.1];simp,BX trivial⟩
    simp [intOf];omega
   have n0:(C != 0)=true:=by simpa using hC
   have H0:=Nm.aD hC;clear hC;go_wp2_with (go_at_call 108;refine hc.mono ?_;rintro e w1 ⟨rfl,NS,BX⟩;unfold CW)
   go_ret2;rw [Dq.out,HD.out.1,if_pos H0.out];exact⟨rfl,(dN.below (fp:=[bb]) HX.out.2.2.2).trans NS (fun k hk=>.inl hk),fun h=>absurd h H0.out⟩
  have cF:wr.cell? ⟨w.heap.size,k,none⟩=some (.func (.func 109) #[.pointer (some ⟨bb,0,none⟩)] #[]):=by rw [JG];exact(aA Lj 8).trans rfl
  have ef:fnK k=109:=by rw [JG];rfl
  rw [ef] at hc;clear Lj ef JG
  by_cases hC:C=0
  ·subst hC;go_wp2_with (go_at_call 109;refine hc.mono ?_;rintro e w1 ⟨rfl,NS,BX⟩;unfold CW)
   go_roundw
   ·exact⟨k+1,by omega,by go_num,by rw [Dq.out,HD.out.1];simp,BX trivial⟩
   simp [intOf];omega
  have n0:(C != 0)=true:=by simpa using hC
  have H0:=Nm.aD hC;clear hC;go_wp2_with (go_at_call 109;refine hc.mono ?_;rintro e w1 ⟨rfl,NS,BX⟩;unfold CW)
  go_ret2;rw [Dq.out,HD.out.1,if_pos H0.out];exact⟨rfl,(dN.below (fp:=[bb]) HX.out.2.2.2).trans NS (fun k hk=>.inl hk),fun h=>absurd h H0.out⟩
 have FE:k=9:=by omega
 subst FE;have e9:jE (LY list aL)=(0,0):=by rw [Dq.out];rfl
 have HE9:=Nm.aD e9;clear e9;go_wp2;go_ret2;rw [HE9.out];exact⟨rfl,qV,fun _=>hP.2⟩
