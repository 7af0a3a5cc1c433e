import Derived.Test.YthdpacepbbcocaaGreatJBzC
import Derived.Test.YthdpacepbbcocaaGreatJBzR
set_option linter.unusedVariables false
set_option maxRecDepth 100000
set_option maxHeartbeats 6400000
namespace Go.Proofs.YthdpacepbbcocaaGreat
open Go.RowKit
theorem aKz{r:Rr}{aM:ByteArray}{xs ys:List ByteArray}(hx:Nm.split r.own=some xs)(hy:Nm.split aM=some ys):mV r aM=recC r xs ys:=by
 rw [mV,recC,hx,vK hx hy];simp only [Option.isSome_some,Bool.true_eq_false,if_false];split
 ·rfl
 split
 ·rfl
 by_cases h1:(decide (0<=r.ty)&&decide (r.ty<=65535))=false
 ·rw [if_pos h1,if_pos ?_];simp only [Bool.and_eq_false_iff,decide_eq_false_iff_not] at h1
  rcases h1 with h1|h1
  ·exact .inr (.inl (by omega))
  exact .inr (.inr (by omega))
 rw [if_neg h1]
 by_cases h2:mE r.ty=true
 ·rw [if_pos h2,if_pos (.inl h2)]
 rw [if_neg h2,if_neg ?_];simp only [Bool.and_eq_false_iff,decide_eq_false_iff_not,not_or,Decidable.not_not] at h1
 rintro(h3|h3|h3)
 ·exact h2 h3
 ·omega
 omega
theorem aK0{r:Rr}{aM:ByteArray}(hx:Nm.split r.own=none):mV r aM=1:=by rw [mV,hx];rfl
theorem aHn:∀ (xs:List ByteArray),xs.length<=Nm.dP xs:=by
 intro xs
 induction xs with
 |nil=>simp [Nm.dP]
 |cons x xs ih=>simp only [List.length_cons,Nm.dP];omega
theorem UI{s:ByteArray}{xs:List ByteArray}(h:Nm.split s=some xs):(∀ x∈xs,x.size<=1000000000)∧xs.length<=255:=by
 have h1:=Nm.kJ h;have h2:=Nm.gW h;have h3:=aHn xs;exact⟨fun x hx=>by have:=h1.2 x hx;omega,by omega⟩
theorem KP{fp:List Nat}{w W W':World}{row:Option Nat}(h:dM fp w W)(hg:W.grownBy W' row)(hr:∀ g,row=some g->w.heap.size<=g):dM fp w W':=
 ⟨hg.os.trans h.os,hg.tape.trans h.tape,hg.output.trans h.output,iL h.size hg.size,fun k hk hn=>(hg.block k (sP hk h.size) (fun e=>by have:=hr k e.symm;omega)).trans (h.block k hk hn)⟩
theorem wG{fp:List Nat}{w W:World}{p:Addr}{v:Value}(h:dM fp w W)(hc:w.cell? p=some v)(hn:p.block∉fp):W.cell? p=some v:=by
 have bV:=eB w _ hc;rw [World.cell?_of_block (w:=w) (h.block p.block bV hn)];exact hc
theorem aD8{fp:List Nat}{w W:World}{v:Value}{xs:List ByteArray}(h:dM fp w W)(hs:Nm.dX w v xs)(hn:xs≠[]->∀ b,jH v=some b->b∉fp):Nm.dX W v xs:=by
 obtain⟨a,cap,rfl,h1,h2,h3,h4⟩:=hs;refine⟨a,cap,rfl,h1,h2,h3,fun dQ=>?_⟩;obtain⟨b,off,rfl,hc⟩:=h4 dQ;exact⟨b,off,rfl,fun k x hx=>wG h (hc k x hx) (hn dQ b rfl)⟩
theorem NH{w:World}{B:Nat}{v:Value}{xs:List ByteArray}(h:w.ownsRow B 9 1 v xs.length (xs.map Value.string)):Nm.dX w v xs:=Nm.dX.aS h
structure mG (W:World) (B:Nat) (v:Value) (uS:List Value) (xss:List (List ByteArray)):Prop where
 outer:W.ownsRow B 116 1 v uS.length uS
 len:uS.length=xss.length
 inner:∀ (i:Nat) (u:Value) (xs:List ByteArray),uS[i]? =some u->xss[i]? =some xs->W.ownsRow B 9 1 u xs.length (xs.map Value.string)
theorem mG.nil(W:World)(B:Nat):mG W B (.slice none 0 0) [] []:=⟨World.ownsRow_nil _ _ _ _,rfl,by simp⟩
theorem mG.below{W W':World}{B:Nat}{v:Value}{uS:List Value}{xss:List (List ByteArray)}(h:mG W B v uS xss)(hb:Below W.heap.size W W'):mG W' B v uS xss:=
 ⟨own_below h.outer hb,h.len,fun i u xs h1 h2=>own_below (h.inner i u xs h1 h2) hb⟩
theorem mG.set{W:World}{B b i:Nat}{v y:Value}{cs:Array Value}{uS:List Value}{xss:List (List ByteArray)}(h:mG W B v uS xss)(hb:bG W b cs 122):mG (W.setCell ⟨b,i,none⟩ y) B v uS xss:=
 ⟨eU h.outer (bW h.outer hb (by decide)),h.len,fun j u xs h1 h2=>eU (h.inner j u xs h1 h2) (bW (h.inner j u xs h1 h2) hb (by decide))⟩
theorem mG.snoc{W W1:World}{B:Nat}{v v' u:Value}{uS:List Value}{xs:List ByteArray}{xss:List (List ByteArray)}(h:mG W B v uS xss)(hu:W.ownsRow B 9 1 u xs.length (xs.map Value.string))
 (ho:W1.ownsRow B 116 1 v' (uS.length+1) (uS++[u])) (hg:W.grownBy W1 v.ownBlock):mG W1 B v' (uS++[u]) (xss++[xs]):=by
 refine⟨by simpa using ho,by simp [h.len],fun i y zs h1 h2=>?_⟩
 rcases qL h1 with⟨hi,YZ⟩|⟨hi,rfl⟩
 ·rw [List.getElem?_append_left (by rw [<- h.len];exact hi)] at h2;have:=h.inner i y zs YZ h2;exact iO this hg (jO this h.outer (by decide))
 rw [hi,h.len,List.getElem?_append_right (aN _)] at h2;simp at h2;subst h2;exact iO hu hg (jO hu h.outer (by decide))
theorem aNk:(Tryz.prog.info? 116).map (fun i=>(i.zero,i.size,i.bytes))=some (some (.slice none 0 0),1,24):=by kernel_rfl
def mX(l:List Rr):List (List ByteArray):=l.map fun r=>(Nm.split r.own).getD []
theorem QD(bb:Nat)(la:Option Addr)(lc:Nat)(list:List Rr)(aM:ByteArray)(ys:List ByteArray)(aa:Option Addr)(ac:Nat)(tv:Value)(w:World)(hk:bG w bb #[.slice la list.length lc,.string aM,.slice none 0 0,.slice aa ys.length ac,tv,.slice none 0 0] 122)
 (h:bS w (.slice la list.length lc) list.length 5 (bK list)) (FJ:0<list.length->jH (.slice la list.length lc)≠some bb) (hl:list.length<=500) (pW:Nm.split aM=some ys) (hav:Nm.dX w (.slice aa ys.length ac) ys) (aL5:jH (.slice aa ys.length ac)≠some bb) (ho:∀ r∈list,r.own.size<=maxLen∧r.da.size<=2000000):
 Calls Tryz.prog 106 #[.pointer (some ⟨bb,0,none⟩)] w fun e w'=>dM [bb] w w'∧
  ((∃ c i,gP aM list 0=some (c,i)∧e=AC c i)∨
  (gP aM list 0=none∧e=AC 0 0∧∃ fC uS,bG w' bb #[.slice la list.length lc,.string aM,fC,.slice aa ys.length ac,tv,.slice none 0 0] 122∧mG w' w.heap.size fC uS (mX list))):=by
 obtain⟨i0,hi,iJ,fP,fZ⟩:=info_parts aNk;have rk:=fun i=>aA hk i
 have Me:=bU hk;obtain⟨_,a,cap,e,gY,kK,hc⟩:=h;cases e
 unfold maxLen at kK;have HX:=Nm.aF (aV FJ (aV pW (aV hav (aV aL5 ho))));clear FJ pW hav aL5 ho;have HK:=Nm.aF hk;clear hk;go_enter Tryz.func106,Tryz.ntmps106;go_wp2
 go_loopw [14] (fun i wr=>∃ (k:Nat) (fC:Value) (uS:List Value),k<=list.length∧i=.int .i64 k∧(∀ (j:Nat) (x:Rr),j<k->list[j]? =some x->mV x aM=0)∧bG wr bb #[.slice la list.length lc,.string aM,fC,.slice aa ys.length ac,tv,.slice none 0 0] 122∧mG wr w.heap.size fC uS (mX (list.take k))∧dM [bb] w wr) (fun i _=>list.length-(intOf i).toNat)
 case atStart=>exact⟨0,.slice none 0 0,[],dO _,rfl,fun j x hj=>absurd hj (Nat.not_lt_zero _),HK.out,mG.nil _ _,dM.below (aK _ _)⟩
 obtain⟨k,fC,uS,sS,rfl,lT,kb,lr,mF⟩:=hrel;have HR:=Nm.aF (aV lT (aV kb (aV lr mF)))
 by_cases bV:k<list.length
 ·obtain⟨x,hx⟩:∃ x,list[k]? =some x:=⟨_,bY bV⟩;obtain⟨b,off,rfl,aL⟩:=hc (by omega);have Bo:b∉[bb]:=fun hm=>HX.out.1 (by omega) (by rw [List.mem_singleton.1 hm];rfl)
  obtain⟨d0,d1,d2,d3,d4⟩:=gT (w:=wr) (fun i y hy=>wG mF (aL i y hy) Bo) hx;have hxo:=HX.out.2.2.2.2 x (bP hx);have kr:=aH wr #[.string x.own,.int .i64 x.ty,.int .i64 x.cl,.int .i64 x.tt,.string x.da] 29;have ba:=(aK wr.heap.size wr).alloc (aN _) (.cells #[.string x.own,.int .i64 x.ty,.int .i64 x.cl,.int .i64 x.tt,.string x.da] 29);have ZF:=JG x.own (wr.alloc (.cells #[.string x.own,.int .i64 x.ty,.int .i64 x.cl,.int .i64 x.tt,.string x.da] 29)) hxo.1;have HXX:=Nm.aF hx;have i1:(0:Int)<=(k:Int):=by omega
  have i2:(k:Int)<(list.length:Int):=by omega
  clear hc aL hx lT kb lr mF Bo rk;go_wp2_with fail
  refine ZF.mono ?_;rintro e w2 ⟨v,rfl,FI,b2⟩;have UJ:=Nm.aC ba b2;have JE:=aB kr b2
  cases nA:Nm.split x.own with
  |none=>
   rw [nA] at FI;simp only [Option.isSome_none];have HB:=Nm.aF (aK0 (aM:=aM) nA);clear ZF nA d0 d1 d2 d3 d4;go_wp2;go_ret2;refine⟨HR.out.2.2.2.trans (dM.below UJ (fp:=[bb])) (fun k hk=>.inl hk),.inl ⟨1,k,?_,rfl⟩⟩;have:=PW (aM:=aM) list k 0 x HR.out.1 HXX.out (by rw [HB.out];decide)
   rw [this,HB.out,Nat.zero_add]
  |some xs=>
   rw [nA] at FI;simp only [Option.isSome_some,Option.getD_some] at FI ⊢;obtain⟨va,vc,rfl⟩:=aT FI;have ou2:dM [bb] w w2:=HR.out.2.2.2.trans (dM.below UJ (fp:=[bb])) (fun k hk=>.inl hk);have ZH:=aB HR.out.2.1 UJ;have c3:=(aA ZH 3).trans rfl;have aP8:=aD8 ou2 HX.out.2.2.1 (fun _ b hb hm=>HX.out.2.2.2.1 (by rw [hb,List.mem_singleton.1 hm]));have IP:=UI nA;have hfy:=UI HX.out.2.1;have hcr:=TD x bb (.slice va xs.length vc) (.slice aa ys.length ac) xs ys w2 hxo.2 (NH FI) aP8 c3 IP.1 (by omega) (by omega);rw [<- aKz nA HX.out.2.1] at hcr;have HSP:=Nm.aF nA;have HOU:=Nm.aF ou2;have rr2:=fun i=>aA JE i
   clear ZF nA d0 d1 d2 d3 d4 aP8 ou2;obtain⟨OC,hOC⟩:∃ OC,OC=mV x aM:=⟨_,rfl⟩;rw [<- hOC] at hcr;have HOC:=Nm.aF hOC;clear hOC
   by_cases h0:OC=0
   ·subst h0;have hlr:=HR.out.2.2.1
    have hlk:uS.length=k:=by
     rw [hlr.len,mX,List.length_map,List.length_take];omega
    have HLK:=Nm.aF hlk;clear hlk
    go_wp2_with (first
     |(go_at_call 134
       refine hcr.mono ?_;rintro e w3 ⟨rfl,b3⟩;have Bg:=Nm.aC UJ b3;have kb3:=aB ZH b3;have rk3:=fun i=>aA kb3 i
       have lr3:=hlr.below Bg;have hv3:=own_below FI b3
       have aTo:=lr3.outer)
     |(at_builtin
       refine wpList_append_own _ rfl _ _ 115 rfl w.heap.size 116 i0 (.slice none 0 0) 1 24 Tryz.underlying115 hi iJ fP fZ rfl (by decide) _ _ _ rfl (own_below aTo ((aK _ _).alloc (aN _) _)) ⟨w3.heap.size,0,none⟩ 1 1 [.slice va xs.length vc] rfl rfl (cell_one_new _ _ _) (by simp [Value.oneCell']) (by unfold maxLen;have:=HLK.out;omega) (by have:=HLK.out;omega) (by have:=Bg.size;have:=HOU.out.size;have:=HR.out.2.2.2.size;simp;omega) ?_;intro v' w5 dD bZ _;obtain⟨g',cap',rfl⟩:=ownsRow_succ dD;have kb4:bG (w3.alloc (.cells #[.slice va xs.length vc] 116)) bb #[.slice (some ⟨b,off,none⟩) list.length lc,.string aM,fC,.slice aa ys.length ac,tv,.slice none 0 0] 122:=aR kb3 _;have lr4:=lr3.below ((aK _ w3).alloc (aN _) (.cells #[.slice va xs.length vc] 116));have kb5:=aP kb4 bZ (bW lr4.outer kb4 (by decide));have rk5:=fun i=>aA kb5 i
       have fk5:=fun i=>aG kb5 i))
    have lr5:=lr4.snoc (fQ (own_below hv3 ((aK _ w3).alloc (aN _) (.cells #[.slice va xs.length vc] 116))) (by have:=UJ.size;have:=HR.out.2.2.2.size;have:=ba.size;simp at*;omega)) dD bZ;have k6:=aI kb5 2 (.slice (some ⟨g',0,none⟩) (uS.length+1) cap');simp only [List.setIfInBounds_toArray,List.set_cons_zero,List.set_cons_succ] at k6;have ou5:=KP (KP (HOU.out.trans (dM.below b3 (fp:=[bb])) (fun k hk=>.inl hk)) (wR ((aK _ w3).alloc (aN _) (.cells #[.slice va xs.length vc] 116))) (fun g e=>by cases e)) bZ (fun g e=>(lr4.outer.lt g e).1);go_roundw
    case rel=>
     refine⟨k+1,_,uS++[.slice va xs.length vc],by omega,by go_num,fun j y hj hy=>?_,k6,?_,ou5.trans (qB (b:=bb) (i:=2)) (fun k hk=>.inl hk)⟩
     ·rcases Nat.lt_succ_iff_lt_or_eq.1 hj with h1|rfl
      ·exact HR.out.1 j y h1 hy
      rw [HXX.out] at hy;cases hy;exact HOC.out.symm
     have e9:mX (list.take (k+1))=mX (list.take k)++[xs]:=by
      obtain⟨nS,ex⟩:=dK HXX.out;rw [List.take_succ_eq_append_getElem nS,ex,mX,List.map_append,List.map_cons,List.map_nil,HSP.out];rfl
     rw [e9];exact lr5.set kb5
    simp [intOf];omega
   have n0:(OC != 0)=true:=by simpa using h0
   have H0:=Nm.aF h0;clear h0;go_wp2_with (go_at_call 134;refine hcr.mono ?_;rintro e w3 ⟨rfl,b3⟩)
   go_ret2;refine⟨HOU.out.trans (dM.below b3 (fp:=[bb])) (fun k hk=>.inl hk),.inl ⟨OC,k,?_,rfl⟩⟩;have:=PW (aM:=aM) list k 0 x HR.out.1 HXX.out (by rw [<- HOC.out];exact H0.out);rw [this,<- HOC.out,Nat.zero_add]
 have DJ:k=list.length:=by omega
 subst DJ;clear hc lT kb lr mF;go_wp2;go_ret2;refine⟨HR.out.2.2.2,.inr ⟨PX _ _ HR.out.1,rfl,fC,uS,HR.out.2.1,?_⟩⟩;have:=HR.out.2.2.1
 rwa [List.take_length] at this
def aL6:List TypeId:=[176,240,243,156,194,196,187,189]
def NI(W:World)(b:Nat)(ts:List TypeId):Prop:=∃ cs T r,W.heap[b]? =some (.cells cs T r)∧T∈ts
theorem XY{W:World}{b:Nat}{cs:Array Value}{T:TypeId}{ts:List TypeId}(h:bG W b cs T)(hT:T∈ts):NI W b ts:=⟨cs,T,_,h,hT⟩
theorem XZ{W:World}{B e s n:Nat}{v:Value}{xs:List Value}{ts:List TypeId}(h:W.ownsRow B e s v n xs)(hT:e∈ts):∀ b∈v.ownBlock.toList,NI W b ts:=by
 intro b hb
 rcases h.2 with⟨rfl,_⟩|⟨q,cap,cur,rfl,_,hh,_⟩
 ·simp [Value.ownBlock] at hb
 simp [Value.ownBlock] at hb
 subst hb;exact⟨_,_,_,hh,hT⟩
theorem uU.types{W:World}{B th:Nat}{rv:Value}{os:List eZ}(h:uU W B th rv os):∀ b∈jP th rv os,NI W b aL6:=by
 intro b hb;simp only [jP,List.mem_cons,List.mem_append,List.mem_flatMap] at hb
 rcases hb with rfl|hb|⟨o,ho,hb⟩
 ·exact XY h.head (by decide)
 ·exact XZ h.rows (by decide) b hb
 have ow:=h.mU o ho;simp only [pO,List.mem_cons,List.mem_append,List.mem_flatMap] at hb
 rcases hb with rfl|rfl|hb|⟨s,hs,hb⟩
 ·exact XY ow.node (by decide)
 ·exact XY ow.head (by decide)
 ·exact XZ ow.rows (by decide) b hb
 have sw:=ow.sets s hs;simp only [vV,List.mem_cons] at hb
 rcases hb with rfl|rfl|hb
 ·exact XY sw.node (by decide)
 ·exact XY sw.head (by decide)
 exact XZ sw.rows (by decide) b hb
theorem yS{W:World}{B e s n:Nat}{v:Value}{xs:List Value}{ts:List TypeId}{b:Nat}(h:W.ownsRow B e s v n xs)(ht:NI W b ts)(hT:e∉ts):b∉v.ownBlock.toList:=by
 intro hb;obtain⟨cs,T,r,h1,h2⟩:=ht
 rcases h.2 with⟨rfl,_⟩|⟨q,cap,cur,rfl,_,hh,_⟩
 ·simp [Value.ownBlock] at hb
 simp [Value.ownBlock] at hb
 subst hb;rw [hh] at h1;cases h1
 exact hT h2
theorem UK{W:World}{b c:Nat}{cs:Array Value}{T:TypeId}{ts:List TypeId}(h:bG W c cs T)(ht:NI W b ts)(hT:T∉ts):b≠c:=by
 rintro rfl;obtain⟨cs',T',r,h1,h2⟩:=ht;rw [bG] at h;rw [h] at h1;cases h1
 exact hT h2
theorem qC{fp:List Nat}{W W':World}{B e s n:Nat}{v:Value}{xs:List Value}(h:W.ownsRow B e s v n xs)(ho:dM fp W W')(hn:∀ b∈fp,b∉v.ownBlock.toList):W'.ownsRow B e s v n xs:=
 zT h (fun b hb=>ho.block b (uV h b hb) (fun hm=>hn b hm hb))
theorem nZ{fp:List Nat}{W W':World}{b:Nat}{cs:Array Value}{T:TypeId}(h:bG W b cs T)(ho:dM fp W W')(hn:b∉fp):bG W' b cs T:=kG h (ho.block b (bU h) hn)
theorem xG{W:World}{B e s n:Nat}{v:Value}{xs:List Value}(h:W.ownsRow B e s v n xs){b:Nat}(hb:jH v=some b):b∈v.ownBlock.toList:=by
 rcases h.2 with⟨rfl,_⟩|⟨q,cap,cur,rfl,_,hh,_⟩
 ·cases hb
 simp [jH] at hb
 simp [Value.ownBlock,hb]
structure Qt (B:Nat) (W:World) (th:Nat) (its:List It) (rv:Value) (os:List eZ) (kv:Value) (ks:List Ld):Prop where
 tr:uU W B th rv os
 inv:tO its os
 kin:TF its os ks
 kept:W.ownsRow B 171 4 kv ks.length (zX ks)
 lab:CK W (jP th rv os) os
 fpl:∀ b∈jP th rv os,b=th∨B<=b
 lty:∀ o∈os,o.lab≠[]->∀ b,jH o.lv=some b->NI W b [9]
theorem yU{W W':World}{b:Nat}{ts:List TypeId}(h:NI W b ts)(he:W'.heap[b]? =W.heap[b]?):NI W' b ts:=by
 obtain⟨cs,T,r,h1,h2⟩:=h;exact⟨cs,T,r,he.trans h1,h2⟩
theorem Qt.nil{B th:Nat}{W:World}(h:bG W th #[wQ,.slice none 0 0] 187):Qt B W th [] (.slice none 0 0) [] (.slice none 0 0) []:=
 ⟨⟨h,World.ownsRow_nil _ _ _ _,by simp,by simp [jP,Value.ownBlock]⟩,tO.nil,TF.nil,World.ownsRow_nil _ _ _ _,by simp [CK],by simp [jP,Value.ownBlock],by simp⟩
theorem Qt.outs{B th:Nat}{W W':World}{its:List It}{rv kv:Value}{os:List eZ}{ks:List Ld}{fp:List Nat}(h:Qt B W th its rv os kv ks)(ho:dM fp W W')(h1:∀ b∈fp,b∉jP th rv os)(h2:∀ b∈fp,b∉kv.ownBlock.toList)
 (h3:∀ o∈os,∀ b∈fp,jH o.lv≠some b):Qt B W' th its rv os kv ks:=by
 refine⟨h.tr.keep (fun b hb=>ho.block b (h.tr.lt b hb) (fun hm=>h1 b hm hb)),h.inv,h.kin,qC h.kept ho h2,fun o hm=>?_,h.fpl,fun o hm dQ b hb=>yU (h.lty o hm dQ b hb) (ho.block b ((h.lab o hm).far dQ b hb).2 (fun hf=>h3 o hm b hf hb))⟩;have hl:=h.lab o hm;refine⟨GX hl.row (fun dQ b hb=>ho.block b (hl.far dQ b hb).2 (fun hf=>h3 o hm b hf hb)),fun dQ b hb=>⟨(hl.far dQ b hb).1,sP (hl.far dQ b hb).2 ho.size⟩,hl.fit⟩
theorem Qt.below{B th:Nat}{W W':World}{its:List It}{rv kv:Value}{os:List eZ}{ks:List Ld}(h:Qt B W th its rv os kv ks)(hb:Below W.heap.size W W'):Qt B W' th its rv os kv ks:=
 h.outs (dM.below (fp:=[]) hb) (by simp) (by simp) (by simp)
structure JK (B N:Nat) (W W':World) (th:Nat) (its:List It) (x:It) (rv rv':Value) (os os':List eZ) (kv:Value) (ks:List Ld) (ob sb:Nat) (fO:Bool):Prop where
 tr:uU W' B th rv' os'
 inv:tO (its++[x]) os'
 kin:TF (its++[x]) os' (if fO=true then ks++[⟨its.length,x.r.ty,ob,sb⟩] else ks)
 kept:W'.ownsRow B 171 4 kv ks.length (zX ks)
 lab:CK W' (jP th rv' os') os'
 fpl:∀ b∈jP th rv' os',b=th∨B<=b
 sbm:sb∈jP th rv' os'
 lvb:∀ o∈os',o.lab≠[]->∀ b,jH o.lv=some b->b<N
 lty:∀ o∈os',o.lab≠[]->∀ b,jH o.lv=some b->NI W' b [9]
 tt:∃ tt:Int,W'.cell? ⟨sb,0,none⟩=some (.int .i64 tt)∧qO its x=decide (tt≠x.r.tt)
theorem aNl{B N th at_:Nat}{W W':World}{its:List It}{x:It}{lv:Value}{rv rv' kv:Value}{os os':List eZ}{ks:List Ld}{ob sb:Nat}{fO:Bool}(h:Qt B W th its rv os kv ks)(hB:B<=W.heap.size)(hg:∀ y∈its,gB y)(hx:gB x)(iT:at_=its.length)
 (hL:aM8 x.r.own lv (gH x) x.r.ty x.r.tt at_ x.dt x.r.da os os' ob sb fO) (hT:uU W' B th rv' os') (ho:dM (jP th rv os) W W') (hf:∀ b∈jP th rv' os',b∈jP th rv os∨W.heap.size<=b)
 (hlv:MH W (jP th rv os) lv (gH x)) (hN1:∀ o∈os,o.lab≠[]->∀ b,jH o.lv=some b->b<N) (hN2:gH x≠[]->∀ b,jH lv=some b->b<N) (OM:gH x≠[]->∀ b,jH lv=some b->NI W b [9]):JK B N W W' th its x rv rv' os os' kv ks ob sb fO:=by
 subst iT;obtain⟨o',s',hP,eo,es⟩:=aKn h.inv.sorted hL;have hR:=aPr h.inv hP;refine⟨hT,hR.inv,by rw [<- eo,<- es];exact h.kin.step hg hx hR,qC h.kept ho (fun b hb=>yS h.kept (h.tr.types b hb) (by decide)),fun q hq=>?_,fun b hb=>?_,?_,fun q hq=>?_,fun q hq=>?_,?_⟩
 ·rcases hR.uS q hq with⟨o,hm,e1,e2⟩|⟨e1,e2⟩
  ·have:=(h.lab o hm).outs ho hf;rw [e1,e2];exact this
  have:=hlv.outs ho hf;rw [e1,e2];exact this
 ·rcases hf b hb with h1|h1
  ·exact h.fpl b h1
  exact .inr (by omega)
 ·rw [<- es];simp only [jP,pO,vV,List.mem_cons,List.mem_append,List.mem_flatMap];exact .inr (.inr ⟨o',hR.CQ.1,.inr (.inr (.inr ⟨s',hR.isSet.1,.inl rfl⟩))⟩)
 ·rcases hR.uS q hq with⟨o,hm,e1,e2⟩|⟨e1,e2⟩
  ·rw [e1,e2];exact hN1 o hm
  rw [e1,e2];exact hN2
 ·rcases hR.uS q hq with⟨o,hm,e1,e2⟩|⟨e1,e2⟩
  ·rw [e1,e2];intro dQ b hb;exact yU (h.lty o hm dQ b hb) (ho.block b ((h.lab o hm).far dQ b hb).2 ((h.lab o hm).far dQ b hb).1)
  rw [e1,e2];intro dQ b hb;exact yU (OM dQ b hb) (ho.block b (hlv.far dQ b hb).2 (hlv.far dQ b hb).1)
 have sw:=(hT.mU o' hR.CQ.1).sets s' hR.isSet.1;refine⟨s'.tt,by rw [<- es];exact(aA sw.node 0).trans rfl,?_⟩;obtain⟨y,hF,ht⟩:=hR.inv.set o' hR.CQ.1 s' hR.isSet.1;have Dy:Nm.bJ (gH x) o'.lab=0:=hR.CQ.2
 have aNm:∀ z∈its,(lV x z=true↔OfS o'.lab s'.ty z):=fun z hz=>by
  rw [XM hx (hg z hz),hR.isSet.2,OfS,OfS,DW,DW,dN Dy]
 by_cases hfi:s'.fi<its.length
 ·have hy:its[s'.fi]? =some y:=by have:=hF.1;rwa [List.getElem?_append_left hfi] at this
  have aL7:=vM (l:=its) (p:=lV x) (k:=its.length) hfi hy ((aNm y (bP hy)).2 hF.2.1) (fun j z hj hz=>by
   cases hb:lV x z
   ·rfl
   exfalso
   exact hF.2.2 j z hj (by rw [List.getElem?_append_left (by omega)];exact hz) ((aNm z (bP hz)).1 hb))
  rw [List.take_length] at aL7;rw [qO,aL7,ht]
 have bV:=hF.lt;have e:s'.fi=its.length:=by rw [nG,List.length_singleton] at bV;omega
 have hy:y=x:=by
  have h1:=hF.1;rw [e,List.getElem?_append_right (aN _)] at h1;simp at h1;exact h1.symm
 have lT:its.find? (lV x)=none:=by
  have:=MI (l:=its) (p:=lV x) (k:=its.length) (fun j z hj hz=>by
   cases hb:lV x z
   ·rfl
   exfalso
   exact hF.2.2 j z (by omega) (by rw [List.getElem?_append_left hj];exact hz) ((aNm z (bP hz)).1 hb))
  rwa [List.take_length] at this
 rw [qO,lT,ht,hy];simp
theorem wH{r:Rr}(h:(Nm.split r.own).isSome=true):gB (aQ r):=by
 obtain⟨xs,hx⟩:=Option.isSome_iff_exists.1 h;have e:gH (aQ r)=xs:=by simp [gH,aQ,hx]
 exact⟨by rw [e];exact hx,rfl,rfl,rfl⟩
theorem mG.outs{W W':World}{B:Nat}{v:Value}{uS:List Value}{xss:List (List ByteArray)}{fp:List Nat}{ts:List TypeId}(h:mG W B v uS xss)(ho:dM fp W W')(ht:∀ b∈fp,NI W b ts)(h1:116∉ts)(h2:9∉ts):mG W' B v uS xss:=
 ⟨qC h.outer ho (fun b hb=>yS h.outer (ht b hb) h1),h.len,fun i u xs e1 e2=>qC (h.inner i u xs e1 e2) ho (fun b hb=>yS (h.inner i u xs e1 e2) (ht b hb) h2)⟩
theorem Yk{W:World}{B:Nat}{v u:Value}{uS:List Value}{list:List Rr}{k:Nat}{r:Rr}{fp:List Nat}(h:mG W B v uS (mX list))(hu:uS[k]? =some u)(hr:list[k]? =some r)(hs:(Nm.split r.own).isSome=true)(ht:∀ b∈fp,NI W b aL6):MH W fp u (gH (aQ r)):=by
 have e:(mX list)[k]? =some (gH (aQ r)):=by simp [mX,hr,gH,aQ]
 have ho:=h.inner k u _ hu e;obtain⟨xs,hx⟩:=Option.isSome_iff_exists.1 hs;have e2:gH (aQ r)=xs:=by simp [gH,aQ,hx]
 refine⟨NH ho,fun _ b hb=>?_,?_⟩
 ·have hm:=xG ho hb;exact⟨fun hf=>yS ho (ht b hf) (by decide) hm,uV ho b hm⟩
 rw [e2];have:=UI hx;exact⟨this.1,by omega⟩
theorem aNn{W:World}{B:Nat}{v u:Value}{uS:List Value}{list:List Rr}{k:Nat}{r:Rr}(h:mG W B v uS (mX list))(hu:uS[k]? =some u)(hr:list[k]? =some r){b:Nat}(hb:jH u=some b):NI W b [9]:=by
 have e:(mX list)[k]? =some (gH (aQ r)):=by simp [mX,hr,gH,aQ]
 have ho:=h.inner k u _ hu e;exact XZ ho (by simp) b (xG ho hb)
theorem aHo{w W W':World}{B bb th:Nat}{fp:List Nat}(h:dM [bb,th] w W)(h2:dM fp W W')(hf:∀ b∈fp,b=th∨B<=b)(hB:w.heap.size<=B):dM [bb,th] w W':=
 h.trans h2 (fun k hk=>by
  rcases hf k hk with h1|h1
  ·exact .inl (by simp [h1])
  exact .inr (by omega))
theorem aP9{B th bb k:Nat}{wr:World}{list:List Rr}{x:Rr}{rv kv fC:Value}{os:List eZ}{ks:List Ld}{uS:List Value}{va:Option Addr}{vn vc B0:Nat}{cs:Array Value}(hS:Qt B wr th ((list.map aQ).take k) rv os kv ks)(GI:mG wr B0 fC uS (mX list))(hB:B<=wr.heap.size)
 (hg:∀ r∈list,(Nm.split r.own).isSome=true) (hx:list[k]? =some x) (hu:uS[k]? =some (.slice va vn vc)) (hl:list.length<=500) (kb:bG wr bb cs 122) (hc:cs[4]? =some (ptr th)) (aU:x.own.size<=1000000000) (Jn:x.da.size<=2000000):
 ∀ W,Below wr.heap.size wr W->Calls Tryz.prog 135 #[.pointer (some ⟨bb,3,none⟩),.int .i64 (k:Int),.agg #[.string x.own,.int .i64 x.ty,.int .i64 x.cl,.int .i64 x.tt,.string x.da],.slice va vn vc] W fun e w'=>∃ (ob sb:Nat) (fO:Bool) (rv':Value) (os':List eZ),
   e=.returned (.tuple #[.agg #[.int .i64 (k:Int),.int .i64 x.ty,.pointer (some ⟨ob,0,none⟩),.pointer (some ⟨sb,0,none⟩)],.bool fO])∧JK B wr.heap.size W w' th ((list.map aQ).take k) (aQ x) rv rv' os os' kv ks ob sb fO∧dM (jP th rv os) W w'∧∀ b∈jP th rv' os',b∈jP th rv os∨W.heap.size<=b:=by
 intro W hW;have nS:=(dK hx).1;have Tg:=hS.below hW
 have hgI:∀ y∈list.map aQ,gB y:=fun y hy=>by
  obtain⟨r,hr,rfl⟩:=lS hy;exact wH (hg r hr)
 have EB:=wH (hg x (bP hx));have hlen:((list.map aQ).take k).length=k:=by rw [List.length_take,List.length_map];omega
 have hol:os.length<=400000:=by have:=hS.inv.len.1;omega
 have Mx:=Yk (GI.below hW) hu hx (hg x (bP hx)) Tg.tr.types;have kb':=aB kb hW;have Mg:W.cell? ⟨bb,3+1,none⟩=some (ptr th):=(aA kb' 4).trans hc;have MU:bb∉jP th rv os:=fun hm=>UK kb' (Tg.tr.types bb hm) (by decide) rfl
 refine(aKi bb 3 th rv os B k x va vn vc (gH (aQ x)) W Tg.tr (iL hB hW.size) hol (hS.inv.trs (by omega)) Tg.lab Mx Mg MU aU Jn (by omega)).mono ?_;rintro e w' ⟨ob,sb,fO,rv',os',rfl,hL,hT,hO,hf⟩;refine⟨ob,sb,fO,rv',os',rfl,aNl Tg (iL hB hW.size) (fun y hy=>hgI y (List.mem_of_mem_take hy)) EB hlen.symm hL hT hO hf Mx (fun o ho dQ b hb=>((hS.lab o ho).far dQ b hb).2) (fun dQ b hb=>((Yk GI hu hx (hg x (bP hx)) hS.tr.types).far dQ b hb).2) (fun dQ b hb=>aNn (GI.below hW) hu hx hb),hO,hf⟩
theorem JK.more{B N th g:Nat}{W w' W2:World}{its:List It}{x:It}{rv rv' kv:Value}{os os':List eZ}{ks:List Ld}{ob sb:Nat}{fO:Bool}(h:JK B N W w' th its x rv rv' os os' kv ks ob sb fO)(ho:dM [g] w' W2)(h1:g∉jP th rv' os')(h2:g∉kv.ownBlock.toList)(h3:N<=g):JK B N W W2 th its x rv rv' os os' kv ks ob sb fO:=by
 refine⟨h.tr.keep (fun b hb=>ho.block b (h.tr.lt b hb) (fun hm=>h1 (by rw [List.mem_singleton.1 hm] at hb;exact hb))),h.inv,h.kin,qC h.kept ho (fun b hb=>by rw [List.mem_singleton.1 hb];exact h2),fun o hm=>?_,h.fpl,h.sbm,h.lvb,fun o hm dQ b hb=>yU (h.lty o hm dQ b hb) (ho.block b ((h.lab o hm).far dQ b hb).2 (fun hf=>by have:=h.lvb o hm dQ b hb;rw [List.mem_singleton.1 hf] at this;omega)),?_⟩
 ·have hl:=h.lab o hm;exact⟨GX hl.row (fun dQ b hb=>ho.block b (hl.far dQ b hb).2 (fun hf=>by have:=h.lvb o hm dQ b hb;rw [List.mem_singleton.1 hf] at this;omega)),fun dQ b hb=>⟨(hl.far dQ b hb).1,sP (hl.far dQ b hb).2 ho.size⟩,hl.fit⟩
 obtain⟨tt,hc,hm⟩:=h.tt;exact⟨tt,wG ho hc (fun hf=>h1 (by rw [<- List.mem_singleton.1 hf];exact h.sbm)),hm⟩
theorem aD9(l:List Ld)(x:Ld):zX (l++[x])=zX l++ldC x:=by simp [zX]
theorem JK.old{B N th:Nat}{W W' W2:World}{its:List It}{x:It}{rv rv' kv:Value}{os os':List eZ}{ks:List Ld}{ob sb:Nat}(h:JK B N W W' th its x rv rv' os os' kv ks ob sb false)(hb:Below W'.heap.size W' W2):Qt B W2 th (its++[x]) rv' os' kv ks:=
 (Qt.below ⟨h.tr,h.inv,by simpa using h.kin,h.kept,h.lab,h.fpl,h.lty⟩ hb)
theorem JK.new{B N th bb:Nat}{W W' Wa w9:World}{its:List It}{x:It}{rv rv' kv kv':Value}{os os':List eZ}{ks:List Ld}{ob sb:Nat}{cs:Array Value}(h:JK B N W W' th its x rv rv' os os' kv ks ob sb true)(hb:Below W'.heap.size W' Wa)
 (hg:Wa.grownBy w9 kv.ownBlock) (ho:w9.ownsRow B 171 4 kv' (ks.length+1) (zX ks++ldC ⟨its.length,x.r.ty,ob,sb⟩)) (kb:bG w9 bb cs 122):Qt B (w9.setCell ⟨bb,5,none⟩ kv') th (its++[x]) rv' os' kv' (ks++[⟨its.length,x.r.ty,ob,sb⟩]):=by
 have ta:=h.tr.below hb;have ka:=own_below h.kept hb
 have Ao:dM (bb::kv.ownBlock.toList) Wa (w9.setCell ⟨bb,5,none⟩ kv'):=by
  refine⟨hg.os,hg.tape,hg.output,by simpa using hg.size,fun k hk hn=>?_⟩;simp only [List.mem_cons,not_or] at hn;rw [heap_setCell_other w9 ⟨bb,5,none⟩ k _ hn.1];exact hg.block k hk (fun e=>hn.2 (by rw [<- e];simp))
 have nty:∀ (b:Nat) (ts:List TypeId),NI Wa b ts->171∉ts->122∉ts->b∉bb::kv.ownBlock.toList:=by
  intro b ts ht n1 n2 yZ;have hk:=yS ka ht n1
  rcases List.mem_cons.1 yZ with h1|h1
  ·have bV:b<Wa.heap.size:=by
    obtain⟨c',T',r',e1,_⟩:=ht;exact(Array.getElem?_eq_some_iff.1 e1).1
   refine UK kb (b:=bb) (ts:=ts) ?_ n2 rfl;rw [<- h1];exact yU ht (hg.block b bV (fun e=>hk (by rw [<- e];simp)))
  exact hk h1
 refine⟨ta.keep (fun b hm=>Ao.block b (ta.lt b hm) (nty b _ (ta.types b hm) (by decide) (by decide))),h.inv,by simpa using h.kin,?_,fun o hm=>?_,h.fpl,fun o hm dQ b iE=>?_⟩
 ·rw [aD9];have:=eU (i:=5) (y:=kv') ho (bW ho kb (by decide));simpa using this
 ·have hl:=h.lab o hm;refine⟨GX (hl.row.below hb) (fun dQ b MU=>?_),fun dQ b MU=>⟨(hl.far dQ b MU).1,sP (hl.far dQ b MU).2 (iL hb.size Ao.size)⟩,hl.fit⟩;exact Ao.block b (sP (hl.far dQ b MU).2 hb.size) (nty b _ (yU (h.lty o hm dQ b MU) (hb.block b (hl.far dQ b MU).2)) (by decide) (by decide))
 have hl:=h.lab o hm;have h9:=yU (h.lty o hm dQ b iE) (hb.block b (hl.far dQ b iE).2);exact yU h9 (Ao.block b (sP (hl.far dQ b iE).2 hb.size) (nty b _ h9 (by decide) (by decide)))
theorem aHp:(Tryz.prog.info? 171).map (fun i=>(i.zero,i.size,i.bytes))=some (some (.agg #[.int .i64 0,.int .i64 0,.pointer none,.pointer none]),4,32):=by kernel_rfl
theorem aK1{l:List It}{k:Nat}{x:It}(lT:∀ (i:Nat) (y:It),i<k->l[i]? =some y->qO (l.take i) y=false)(hk:l[k]? =some x)(hp:qO (l.take k) x=true):sF l=(k:Int):=by
 rw [sF,mM (p:=fun i x=>qO (l.take i) x) (fun i hi y hy=>lT i y hi hy) hk hp]
theorem aK2{l:List It}(lT:∀ (i:Nat) (y:It),l[i]? =some y->qO (l.take i) y=false):sF l= -1:=by
 rw [sF,lI (p:=fun i x=>qO (l.take i) x) (fun i _ y hy=>lT i y hy)]
theorem NJ{l:List It}{k:Nat}{x:It}(h:l[k]? =some x):l.take (k+1)=l.take k++[x]:=by
 obtain⟨hk,e⟩:=dK h;rw [List.take_succ_eq_append_getElem hk,e]
theorem YA(bb th:Nat)(la:Option Addr)(lc:Nat)(list:List Rr)(aM:ByteArray)(fC:Value)(uS:List Value)(av:Value)(B0:Nat)(w:World)(hk:bG w bb #[.slice la list.length lc,.string aM,fC,av,ptr th,.slice none 0 0] 122)
 (h:bS w (.slice la list.length lc) list.length 5 (bK list)) (FJ:0<list.length->∀ b,jH (.slice la list.length lc)=some b->b≠bb∧b≠th) (hl:list.length<=500) (GI:mG w B0 fC uS (mX list)) (hth:bG w th #[wQ,.slice none 0 0] 187)
 (hg:∀ r∈list,(Nm.split r.own).isSome=true) (ho:∀ r∈list,r.own.size<=1000000000∧r.da.size<=2000000):
 Calls Tryz.prog 107 #[.pointer (some ⟨bb,0,none⟩)] w fun e w'=>dM [bb,th] w w'∧
  ((0<=sF (list.map aQ)∧e=AC 24 (sF (list.map aQ)))∨
  (sF (list.map aQ)= -1∧e=AC 0 0∧(∀ (i:Nat) (y:It),(list.map aQ)[i]? =some y->qO ((list.map aQ).take i) y=false)∧∃ rv os kv ks,bG w' bb #[.slice la list.length lc,.string aM,fC,av,ptr th,kv] 122∧Qt w.heap.size w' th (list.map aQ) rv os kv ks)):=by
 obtain⟨i0,hi,iJ,fP,fZ⟩:=info_parts aHp;have rk:=fun i=>aA hk i
 have Me:=bU hk;obtain⟨_,a,cap,e,gY,kK,hc⟩:=h;cases e
 unfold maxLen at kK;have HX:=Nm.aF (aV FJ (aV GI (aV hth (aV hg ho))));clear FJ GI hth hg ho;have HK:=Nm.aF hk;clear hk;unfold ptr at*;go_enter Tryz.func107,Tryz.ntmps107;go_wp2
 go_loopw [13] (fun i wr=>∃ (k:Nat) (rv:Value) (os:List eZ) (kv:Value) (ks:List Ld),k<=list.length∧i=.int .i64 k∧(∀ (j:Nat) (y:It),j<k->(list.map aQ)[j]? =some y->qO ((list.map aQ).take j) y=false)∧bG wr bb #[.slice la list.length lc,.string aM,fC,av,.pointer (some ⟨th,0,none⟩),kv] 122∧Qt w.heap.size wr th ((list.map aQ).take k) rv os kv ks∧mG wr B0 fC uS (mX list)∧dM [bb,th] w wr) (fun i _=>list.length-(intOf i).toNat)
 case atStart=>exact⟨0,.slice none 0 0,[],.slice none 0 0,[],dO _,rfl,fun j x hj=>absurd hj (Nat.not_lt_zero _),HK.out,Qt.nil HX.out.2.2.1,HX.out.2.1,dM.below (aK _ _)⟩
 obtain⟨k,rv,os,kv,ks,sS,rfl,lT,kb,hS,lr,mF⟩:=hrel;have HR:=Nm.aF (aV lT (aV kb (aV hS (aV lr mF))))
 by_cases bV:k<list.length
 ·obtain⟨x,hx⟩:∃ x,list[k]? =some x:=⟨_,bY bV⟩;obtain⟨b,off,rfl,aL⟩:=hc (by omega)
  have Bo:b∉[bb,th]:=fun hm=>by
   have:=HX.out.1 (by omega) b rfl;simp at hm
   rcases hm with h|h
   ·exact this.1 h
   exact this.2 h
  obtain⟨d0,d1,d2,d3,d4⟩:=gT (w:=wr) (fun i y hy=>wG mF (aL i y hy) Bo) hx;have hxo:=HX.out.2.2.2.2 x (bP hx);have hll:uS.length=list.length:=by rw [lr.len,mX,List.length_map]
  obtain⟨u,hu⟩:∃ u,uS[k]? =some u:=⟨_,bY (by omega)⟩;have hul:=Yk lr hu hx (HX.out.2.2.2.1 x (bP hx)) hS.tr.types;obtain⟨va,vc,eu,_⟩:=hul.row;have aQa:=aP9 hS lr mF.size HX.out.2.2.2.1 hx (by rw [hu,eu]) hl kb rfl hxo.1 hxo.2
  obtain⟨lb,aHq,eLv⟩:∃ lb aHq,fC=.slice (some ⟨lb,0,none⟩) list.length aHq:=by
   rcases lr.outer.2 with⟨_,h0⟩|⟨q,cap,cur,e,_⟩
   ·omega
   exact⟨q,cap,by rw [e,hll]⟩
  have hlc:wr.cell? ⟨lb,k,none⟩=some u:=by
   have:=lr.outer;rw [eLv,hll] at this;have h9:=this.cellAt k (by omega);rw [h9];exact hu
  rw [eu] at hlc;subst eLv;generalize (gH (aQ x)).length=vn at*;have HXX:=Nm.aF (aV hx (aV hu eu));have hwr:=mF.size;have kr:=aH wr #[.string x.own,.int .i64 x.ty,.int .i64 x.cl,.int .i64 x.tt,.string x.da] 29;have ba:=(aK wr.heap.size wr).alloc (aN _) (.cells #[.string x.own,.int .i64 x.ty,.int .i64 x.cl,.int .i64 x.tt,.string x.da] 29);have kbA:=aB kb ba;have cL:=(ba.cell (p:=⟨lb,k,none⟩) (eB wr _ hlc)).trans hlc;have i1:(0:Int)<=(k:Int):=by omega
  have i2:(k:Int)<(list.length:Int):=by omega
  have aNo:=Nm.aF aQa;clear hc aL hx lT kb lr mF Bo rk hS hul aQa eu hu hll hlc hxo;go_wp2_with fail
  go_cut [6,7] from 18 to 33 (fun p q wx=>∃ (g ob sb:Nat) (fO:Bool) (rv':Value) (os':List eZ) (W:World),p=.pointer (some ⟨g,0,none⟩)∧q=.bool fO∧wr.heap.size<g∧bG wx g #[.int .i64 (k:Int),.int .i64 x.ty,.pointer (some ⟨ob,0,none⟩),.pointer (some ⟨sb,0,none⟩)] 171∧bG wx wr.heap.size #[.string x.own,.int .i64 x.ty,.int .i64 x.cl,.int .i64 x.tt,.string x.da] 29∧JK w.heap.size wr.heap.size W wx th ((list.map aQ).take k) (aQ x) rv rv' os os' kv ks ob sb fO∧dM (g::jP th rv os) (wr.alloc (.cells #[.string x.own,.int .i64 x.ty,.int .i64 x.cl,.int .i64 x.tt,.string x.da] 29)) wx)
  case first=>
   have aNp:∀ b∈jP th rv os,b<wr.heap.size:=HR.out.2.2.1.tr.lt
   have kbS:Hid (∀ g X,wr.heap.size<g->dM (g::jP th rv os) (wr.alloc (.cells #[.string x.own,.int .i64 x.ty,.int .i64 x.cl,.int .i64 x.tt,.string x.da] 29)) X->(X.cell? ⟨wr.heap.size,0,none⟩=some (.string x.own)∧X.cell? ⟨wr.heap.size,1,none⟩=some (.int .i64 x.ty)∧X.cell? ⟨wr.heap.size,2,none⟩=some (.int .i64 x.cl)∧X.cell? ⟨wr.heap.size,3,none⟩=some (.int .i64 x.tt)∧X.cell? ⟨wr.heap.size,4,none⟩=some (.string x.da)∧X.cell? ⟨bb,2,none⟩=some (.slice (some ⟨lb,0,none⟩) list.length aHq)∧X.cell? ⟨lb,k,none⟩=some (.slice va vn vc))):=by
    intro g X nH hX;have l1:=bU HR.out.2.1;have l2:=uV HR.out.2.2.2.1.outer lb (by simp [Value.ownBlock])
    have n1:wr.heap.size∉g::jP th rv os:=fun hm=>by
     rcases List.mem_cons.1 hm with h|h
     ·omega
     have:=aNp _ h;omega
    have n2:bb∉g::jP th rv os:=fun hm=>by
     rcases List.mem_cons.1 hm with h|h
     ·omega
     exact UK HR.out.2.1 (HR.out.2.2.1.tr.types bb h) (by decide) rfl
    have n3:lb∉g::jP th rv os:=fun hm=>by
     rcases List.mem_cons.1 hm with h|h
     ·omega
     exact yS HR.out.2.2.2.1.outer (HR.out.2.2.1.tr.types lb h) (by decide) (by simp [Value.ownBlock])
    have kx:=fun i=>aA (nZ kr hX n1) i
    exact⟨(kx 0).trans rfl,(kx 1).trans rfl,(kx 2).trans rfl,(kx 3).trans rfl,(kx 4).trans rfl,(aA (nZ kbA hX n2) 2).trans rfl,wG hX cL n3⟩
   have bd:Below wr.heap.size wr (wr.alloc (.cells #[.string x.own,.int .i64 x.ty,.int .i64 x.cl,.int .i64 x.tt,.string x.da] 29)).drew:=ba.drew;have O0:dM (jP th rv os) (wr.alloc (.cells #[.string x.own,.int .i64 x.ty,.int .i64 x.cl,.int .i64 x.tt,.string x.da] 29)) (wr.alloc (.cells #[.string x.own,.int .i64 x.ty,.int .i64 x.cl,.int .i64 x.tt,.string x.da] 29)).drew:=dM.below (aK _ _).drew
   have hs0:(wr.alloc (.cells #[.string x.own,.int .i64 x.ty,.int .i64 x.cl,.int .i64 x.tt,.string x.da] 29)).drew.heap.size=wr.heap.size+1:=by
    show(wr.alloc _).heap.size=_
    simp
   have HS0:=Nm.aF hs0;have HFP:=Nm.aF aNp;clear hs0 aNp d0 d1 d2 d3 d4;refine kR (fun X=>X.cell? ⟨wr.heap.size,0,none⟩=some (.string x.own)∧X.cell? ⟨wr.heap.size,1,none⟩=some (.int .i64 x.ty)∧X.cell? ⟨wr.heap.size,2,none⟩=some (.int .i64 x.cl)∧X.cell? ⟨wr.heap.size,3,none⟩=some (.int .i64 x.tt)∧X.cell? ⟨wr.heap.size,4,none⟩=some (.string x.da)∧X.cell? ⟨bb,2,none⟩=some (.slice (some ⟨lb,0,none⟩) list.length aHq)∧X.cell? ⟨lb,k,none⟩=some (.slice va vn vc)) 1000 (kbS.out (wr.heap.size+1) _ (by omega) (O0.wide (fun k hk=>by simp [hk]))) fun aO=>?_;refine kB 0 rfl ?_;refine kB 1 rfl ?_;refine kB 2 rfl ?_;refine kB 3 rfl ?_;refine kB 4 rfl ?_;refine kB 5 rfl ?_;refine kB 6 rfl ?_;refine kB 7 rfl ?_;refine kB 8 rfl ?_;refine kB 9 rfl ?_;refine kB 10 rfl ?_;refine kB 11 rfl ?_;refine k2 12 16 rfl rfl (fun K hK=>?_) fun K hK=>?_
   ·go_simp;refine(aNo.out _ bd).mono ?_;rintro e w1 ⟨ob,sb,fO,rv',os',rfl,hLR,O1,M1⟩;go_wp2_with fail
    have O1':=O0.trans O1 (fun k hk=>.inl hk);have CJ:wr.heap.size+1<=w1.heap.size:=by have:=O1.size;have:=HS0.out;omega
    have O2:dM (w1.heap.size::jP th rv os) (wr.alloc (.cells #[.string x.own,.int .i64 x.ty,.int .i64 x.cl,.int .i64 x.tt,.string x.da] 29)) w1:=O1'.wide (fun k hk=>by simp [hk]);have kz:=aH w1 #[.int .i64 0,.int .i64 0,.pointer none,.pointer none] 171;have bz:=(aK w1.heap.size w1).alloc (aN _) (.cells #[.int .i64 0,.int .i64 0,.pointer none,.pointer none] 171);have rz:=fun i=>aA kz i
    have fz:=fun i=>aG kz i
    have HW1:=Nm.aF CJ;clear CJ;refine hK.out _ _ (kbS.out w1.heap.size _ (by have:=HW1.out;omega) O2) fun aO=>?_;clear hK K;refine kB 13 rfl ?_;refine kB 14 rfl ?_;refine kB 15 rfl ?_;refine k1 16 rfl fun K hK=>?_
    go_simp;have O3:=O2.trans (dM.below (fp:=w1.heap.size::jP th rv os) bz) (fun k hk=>.inl hk);refine hK.out _ _ (kbS.out w1.heap.size _ (by have:=HW1.out;omega) O3) fun aO=>?_;clear hK K;refine k1 17 rfl fun K hK=>?_
    go_simp;have k4:=aH w1 #[.int .i64 (k:Int),.int .i64 x.ty,.pointer (some ⟨ob,0,none⟩),.pointer (some ⟨sb,0,none⟩)] 171;have Og:=dM.below (fp:=[w1.heap.size]) ((aK w1.heap.size w1).alloc (aN _) (.cells #[.int .i64 (k:Int),.int .i64 x.ty,.pointer (some ⟨ob,0,none⟩),.pointer (some ⟨sb,0,none⟩)] 171));have O4:=O2.trans Og (fun k hk=>.inl (by rw [List.mem_singleton.1 hk];simp));have LR4:=hLR.more Og (fun hm=>by have:=hLR.tr.lt _ hm;omega) (fun hm=>by have:=uV hLR.kept _ hm;omega) (by have:=HW1.out;omega)
    have kr4:=nZ kr O4 (fun hm=>by
     rcases List.mem_cons.1 hm with h|h
     ·have:=HW1.out;omega
     have:=HFP.out _ h;omega)
    clear rz fz kz;refine hK.out _ _ (kbS.out w1.heap.size _ (by have:=HW1.out;omega) O4) fun aO=>?_;clear hK K;refine k1 18 rfl fun K hK=>?_
    go_simp;refine hK.out _ _ (kbS.out w1.heap.size _ (by have:=HW1.out;omega) O4) fun aO=>?_;clear hK K;refine kN ?_;go_wp2_with fail
    go_meet;exact⟨w1.heap.size,ob,sb,fO,rv',os',_,rfl,rfl,by have:=HW1.out;omega,k4,kr4,LR4,O4⟩
   go_simp;have uC:=aH (wr.alloc (.cells #[.string x.own,.int .i64 x.ty,.int .i64 x.cl,.int .i64 x.tt,.string x.da] 29)) #[.int .i64 0,.int .i64 0,.pointer none,.pointer none] 171;rw [fV] at uC;have kz:=dS uC;have bz:=((aK _ (wr.alloc (.cells #[.string x.own,.int .i64 x.ty,.int .i64 x.cl,.int .i64 x.tt,.string x.da] 29))).alloc (aN _) (.cells #[.int .i64 0,.int .i64 0,.pointer none,.pointer none] 171)).drew;have bw:=Nm.aC ba bz
   have pQ:((wr.alloc (.cells #[.string x.own,.int .i64 x.ty,.int .i64 x.cl,.int .i64 x.tt,.string x.da] 29)).alloc (.cells #[.int .i64 0,.int .i64 0,.pointer none,.pointer none] 171)).drew.heap.size=wr.heap.size+2:=by
    show((wr.alloc _).alloc _).heap.size=_
    simp
   have O2:=dM.below (fp:=(wr.heap.size+1)::jP th rv os) bz;clear uC;refine hK.out _ _ (kbS.out (wr.heap.size+1) _ (by omega) O2) fun aO=>?_;clear hK K;refine k1 12 rfl fun K hK=>?_
   go_simp;have hly:=aNo.out _ bw;have HSZ:=Nm.aF pQ;clear pQ;refine hly.mono ?_;rintro e w1 ⟨ob,sb,fO,rv',os',rfl,hLR,O1,M1⟩;have O3:=O2.trans O1 (fun k hk=>.inl (by simp [hk]));have ng:wr.heap.size+1∉jP th rv os:=fun hm=>by have:=HFP.out _ hm;omega
   have sV:=nZ kz O1 ng;clear hly kz;go_wp2_with fail
   refine hK.out _ _ (kbS.out (wr.heap.size+1) _ (by omega) O3) fun aO=>?_;clear hK K;refine kB 13 rfl ?_;refine kB 14 rfl ?_;refine kB 15 rfl ?_;refine k1 17 rfl fun K hK=>?_
   have rz:=fun i=>aA sV i
   have fz:=fun i=>aG sV i
   go_simp;have k4:=aI (aI (aI (aI sV 0 (.int .i64 (k:Int))) 1 (.int .i64 x.ty)) 2 (.pointer (some ⟨ob,0,none⟩))) 3 (.pointer (some ⟨sb,0,none⟩));simp only [List.setIfInBounds_toArray,List.set_cons_zero,List.set_cons_succ] at k4;have Og:=(((qB (W:=w1) (b:=wr.heap.size+1) (i:=0) (v:=.int .i64 (k:Int))).trans (qB (b:=wr.heap.size+1) (i:=1) (v:=.int .i64 x.ty)) (fun k hk=>.inl hk)).trans (qB (b:=wr.heap.size+1) (i:=2) (v:=.pointer (some ⟨ob,0,none⟩))) (fun k hk=>.inl hk)).trans (qB (b:=wr.heap.size+1) (i:=3) (v:=.pointer (some ⟨sb,0,none⟩))) (fun k hk=>.inl hk);have O4:=O3.trans Og (fun k hk=>.inl (by rw [List.mem_singleton.1 hk];simp))
   have LR4:=hLR.more Og (fun hm=>by
    rcases M1 _ hm with h|h
    ·exact ng h
    have:=HSZ.out;omega) (fun hm=>by have:=uV HR.out.2.2.1.kept _ hm;omega) (by omega)
   have kr4:=nZ kr O4 (fun hm=>by
    rcases List.mem_cons.1 hm with h|h
    ·omega
    have:=HFP.out _ h;omega)
   clear rz fz sV;refine hK.out _ _ (kbS.out (wr.heap.size+1) _ (by omega) O4) fun aO=>?_;clear hK K;refine k1 18 rfl fun K hK=>?_
   go_simp;refine hK.out _ _ (kbS.out (wr.heap.size+1) _ (by omega) O4) fun aO=>?_;clear hK K;refine kN ?_;go_wp2_with fail
   go_meet;exact⟨wr.heap.size+1,ob,sb,fO,rv',os',_,rfl,rfl,by omega,k4,kr4,LR4,O4⟩
  obtain⟨g,ob,sb,fO,rv',os',W,rfl,rfl,hgw,kg,kr5,LR,Oc⟩:=hcut;obtain⟨tt,ctt,Yh⟩:=LR.tt;have hgI:gB (aQ x):=wH (HX.out.2.2.2.1 x (bP HXX.out.1));have hix:(list.map aQ)[k]? =some (aQ x):=by simp [HXX.out.1]
  have c3:=(aA kr5 3).trans rfl;have g3:=(aA kg 3).trans rfl
  have aJz:(x.tt != tt)=qO ((list.map aQ).take k) (aQ x):=by
   rw [Yh]
   show(x.tt != tt)=decide (tt≠x.tt)
   by_cases h9:x.tt=tt
   ·rw [h9];simp
   have h8:tt≠x.tt:=fun e=>h9 e.symm
   simp [h9,h8]
  have aQb:bb∉g::jP th rv os:=fun hm=>by
   have l1:=bU HR.out.2.1
   rcases List.mem_cons.1 hm with h|h
   ·omega
   exact UK HR.out.2.1 (HR.out.2.2.1.tr.types bb h) (by decide) rfl
  have kbC:=nZ kbA Oc aQb
  have oCw:dM [bb,th] w wc:=by
   have h1:dM [bb,th] w (wr.alloc (.cells #[.string x.own,.int .i64 x.ty,.int .i64 x.cl,.int .i64 x.tt,.string x.da] 29)):=HR.out.2.2.2.2.trans (dM.below (fp:=[bb,th]) ba) (fun k hk=>.inl hk);refine aHo (B:=w.heap.size) h1 Oc (fun b hb=>?_) (aN _)
   rcases List.mem_cons.1 hb with h|h
   ·exact .inr (by omega)
   exact HR.out.2.2.1.fpl b h
  have lrC:mG wc B0 (.slice (some ⟨lb,0,none⟩) list.length aHq) uS (mX list):=by
   have l0:=HR.out.2.2.2.1.below ba;refine⟨qC l0.outer Oc (fun b hb=>?_),l0.len,fun i u xs e1 e2=>qC (l0.inner i u xs e1 e2) Oc (fun b hb=>?_)⟩
   ·rcases List.mem_cons.1 hb with h|h
    ·intro hm;have:=uV HR.out.2.2.2.1.outer _ hm;omega
    exact yS HR.out.2.2.2.1.outer (HR.out.2.2.1.tr.types b h) (by decide)
   rcases List.mem_cons.1 hb with h|h
   ·intro hm;have:=uV (HR.out.2.2.2.1.inner i u xs e1 e2) _ hm;omega
   exact yS (HR.out.2.2.2.1.inner i u xs e1 e2) (HR.out.2.2.1.tr.types b h) (by decide)
  have HM:=Nm.aF (aV aJz (aV hix (aV oCw (aV lrC LR))));clear Yh aJz hix oCw lrC LR Oc aQb kr5 kr kbA cL aNo d0 d1 d2 d3 d4 hgI
  cases dQ:(x.tt != tt) with
  |true=>
   have HN:=Nm.aF dQ;go_wp2;go_quiet (fail)
   go_wp2;go_ret2;have tF:=aK1 HR.out.1 HM.out.2.1 (by rw [<- HM.out.1];exact HN.out)
   refine⟨HM.out.2.2.1.trans (dM.below (fp:=[bb,th]) (Go.below_drewN (aK _ wc) _)) (fun k hk=>.inl hk),.inl ⟨by rw [tF];omega,by rw [tF];rfl⟩⟩
  |false=>
   have HN:=Nm.aF dQ;cases fO
   ·go_wp2;go_quiet (fail)
    go_wp2;have bq:=Go.below_drewN (aK wc.heap.size wc) nq;go_roundw
    case rel=>
     refine⟨k+1,rv',os',kv,ks,by omega,by go_num,fun j y hj hy=>?_,aB kbC bq,?_,HM.out.2.2.2.1.below bq,HM.out.2.2.1.trans (dM.below (fp:=[bb,th]) bq) (fun k hk=>.inl hk)⟩
     ·rcases Nat.lt_succ_iff_lt_or_eq.1 hj with h1|rfl
      ·exact HR.out.1 j y h1 hy
      rw [HM.out.2.1] at hy;cases hy;rw [<- HM.out.1];exact HN.out
     rw [NJ HM.out.2.1];exact HM.out.2.2.2.2.old bq
    simp [intOf];omega
   go_wp2;go_quiet (fail)
   go_upto_region 8 with fail
   have bq:=(Go.below_drewN (aK wc.heap.size wc) nq).drew;have kb8:=aB kbC bq;have kg8:=aB kg bq;have ok8:=own_below HM.out.2.2.2.2.kept bq;have hwc:=HM.out.2.2.1.size
   have hks:ks.length<=k:=by
    have:=HR.out.2.2.1.kin.len;rw [List.length_take,List.length_map] at this;omega
   obtain⟨ka,kc,rfl⟩:=aT ok8;have QR:(Value.slice ka ks.length kc).ownBlock≠some g:=fun e=>by have:=uV HR.out.2.2.1.kept g (by rw [e];simp);omega
   have HQ:=Nm.aF (aV hks (aV hwc (aV hgw QR)));have Hbq:=Nm.aF bq;clear hks hwc hgw QR bq c3 g3 ctt dQ;generalize hWD:(wc.drewN nq).drew=WD at*;have HWD:=Nm.aF hWD;clear hWD;refine kR (fun X=>X.cell? ⟨bb,5,none⟩=some (.slice ka ks.length kc)∧X.cell? ⟨g,0,none⟩=some (.int .i64 (k:Int))∧X.cell? ⟨g,1,none⟩=some (.int .i64 x.ty)∧X.cell? ⟨g,2,none⟩=some (.pointer (some ⟨ob,0,none⟩))∧X.cell? ⟨g,3,none⟩=some (.pointer (some ⟨sb,0,none⟩))∧True∧True) 10 (by rw [HWD.out];exact⟨(aA kb8 5).trans rfl,(aA kg8 0).trans rfl,(aA kg8 1).trans rfl,(aA kg8 2).trans rfl,(aA kg8 3).trans rfl,trivial,trivial⟩) fun aO=>?_;rw [HWD.out] at aO ⊢;refine kB 0 rfl ?_;refine kB 1 rfl ?_;refine kB 2 rfl ?_;refine kB 3 rfl ?_;refine kB 4 rfl ?_;refine kB 5 rfl ?_;refine k1 6 rfl fun K hK=>?_
   go_simp;have ba8:=(aK WD.heap.size WD).alloc (aN _) (.cells #[.int .i64 (k:Int),.int .i64 x.ty,.pointer (some ⟨ob,0,none⟩),.pointer (some ⟨sb,0,none⟩)] 171);have kb9:=aB kb8 ba8;have kg9:=aB kg8 ba8;have ok9:=own_below ok8 ba8;refine hK.out _ _ ⟨(aA kb9 5).trans rfl,(aA kg9 0).trans rfl,(aA kg9 1).trans rfl,(aA kg9 2).trans rfl,(aA kg9 3).trans rfl,trivial,trivial⟩ fun aO=>?_;clear hK K;refine k1 7 rfl fun K hK=>?_
   refine iX rfl (.tmp 48) (.tmp 50) 120 rfl w.heap.size 171 i0 (.agg #[.int .i64 0,.int .i64 0,.pointer none,.pointer none]) 4 32 Tryz.underlying120 hi iJ fP fZ rfl (by decide) (.slice ka ks.length kc) ks.length (zX ks) (by rfl) ok9 ⟨WD.heap.size,0,none⟩ 1 1 [.int .i64 (k:Int),.int .i64 x.ty,.pointer (some ⟨ob,0,none⟩),.pointer (some ⟨sb,0,none⟩)] (by rfl) rfl (dU _ _ _) (by intro u hu;simp at hu;rcases hu with rfl|rfl|rfl|rfl<;>rfl) (by unfold maxLen;have:=HQ.out;omega) (by have:=HQ.out;omega) (by have h1:=HQ.out.2.1;have h2:=Hbq.out.size;have h3:=ba8.size;omega) ?_;intro v9 w9 gZ gV _;obtain⟨g',cap',rfl⟩:=ownsRow_succ gZ;have Yl:=aP kb9 gV (bW ok9 kb9 (by decide));have aHr:=aP kg9 gV HQ.out.2.2.2;refine hK.out _ _ ⟨(aA Yl 5).trans rfl,(aA aHr 0).trans rfl,(aA aHr 1).trans rfl,(aA aHr 2).trans rfl,(aA aHr 3).trans rfl,trivial,trivial⟩ fun aO=>?_;clear hK K;refine k1 8 rfl fun K hK=>?_
   go_simp;refine hK.out _ _ aO fun aO=>?_;clear hK K;refine k1 9 rfl fun K hK=>?_
   go_simp;refine hK.out _ _ aO fun aO=>?_;clear hK K;have aTp:=fun i=>aA Yl i
   have aTq:=fun i=>aG Yl i
   refine jN (by kernel_rfl) rfl (by kernel_rfl) fun K hK=>?_;go_simp;refine hK.out _ _ ?_;clear hK K aO aTp aTq;have k11:=aI Yl 5 (.slice (some ⟨g',0,none⟩) (ks.length+1) cap');simp only [List.setIfInBounds_toArray,List.set_cons_zero,List.set_cons_succ] at k11;have SQ:Below wc.heap.size wc (WD.alloc (.cells #[.int .i64 (k:Int),.int .i64 x.ty,.pointer (some ⟨ob,0,none⟩),.pointer (some ⟨sb,0,none⟩)] 171)):=Nm.aC Hbq.out ba8;have hlen:((list.map aQ).take k).length=k:=by rw [List.length_take,List.length_map];omega
   have aKp:=HM.out.2.2.2.2.new SQ gV (by rw [hlen];exact gZ) Yl;rw [hlen] at aKp;have aTr:=(mG.outs (fp:=(Value.slice ka ks.length kc).ownBlock.toList) (ts:=[171]) (HM.out.2.2.2.1.below SQ) ⟨gV.os,gV.tape,gV.output,gV.size,fun q hq hn=>gV.block q hq (fun e=>hn (by rw [<- e];simp))⟩ (XZ ok9 (by simp)) (by decide) (by decide)).set (i:=5) (y:=.slice (some ⟨g',0,none⟩) (ks.length+1) cap') Yl;have aTs:=(KP (HM.out.2.2.1.trans (dM.below (fp:=[bb,th]) SQ) (fun k hk=>.inl hk)) gV (fun q e=>(ok9.lt q e).1)).trans (qB (b:=bb) (i:=5) (v:=.slice (some ⟨g',0,none⟩) (ks.length+1) cap')) (fun k hk=>.inl (by simp [List.mem_singleton.1 hk]));clear aO kg9 kg8 aHr kb9 Yl ok9 ok8 gZ gV;go_wp2;go_roundw
   case rel=>
    refine⟨k+1,rv',os',_,ks++[⟨k,(aQ x).r.ty,ob,sb⟩],by omega,by go_num,fun j y hj hy=>?_,k11,?_,aTr,aTs⟩
    ·rcases Nat.lt_succ_iff_lt_or_eq.1 hj with h1|rfl
     ·exact HR.out.1 j y h1 hy
     rw [HM.out.2.1] at hy;cases hy;rw [<- HM.out.1];exact HN.out
    rw [NJ HM.out.2.1];exact aKp
   simp [intOf];omega
 have DJ:k=list.length:=by omega
 subst DJ;clear hc lT kb lr mF hS;go_wp2;go_ret2;have pJ:∀ (i:Nat) (y:It),(list.map aQ)[i]? =some y->qO ((list.map aQ).take i) y=false:=fun i y hy=>HR.out.1 i y (by have:=(dK hy).1;rwa [List.length_map] at this) hy
 refine⟨HR.out.2.2.2.2,.inr ⟨aK2 pJ,rfl,pJ,rv,os,kv,ks,HR.out.2.1,?_⟩⟩;have:=HR.out.2.2.1
 rwa [List.take_of_length_le (by rw [List.length_map];exact aN _)] at this
theorem Qu(bb:Nat)(na:Option Addr)(nl nc:Nat)(HB:Bool)(w:World)(hk:w.cell? ⟨bb,3,none⟩=some (.slice na nl nc))
 (hh:∀ W,Below w.heap.size w W->Calls Tryz.prog 138 #[.pointer (some ⟨bb,3,none⟩),.slice na nl nc,.int .i64 2] W fun e w'=>e=.returned (.bool HB)∧Below W.heap.size W w'):
 Calls Tryz.prog 109 #[.pointer (some ⟨bb,0,none⟩)] w fun e w'=>e=.returned (if HB=true then .tuple #[.int .i64 0,.int .i64 0] else .tuple #[.int .i64 21,.int .i64 (-1)])∧Below w.heap.size w w':=by
 have kd:w.drew.cell? ⟨bb,3,none⟩=some (.slice na nl nc):=hk;have hd:=hh w.drew (aK _ w).drew;clear hh;go_enter Tryz.func109,Tryz.ntmps109;go_wp2;go_region_with (go_at_call 138;refine hd.mono ?_;rintro e w1 ⟨rfl,b1⟩)
 all_goals (cases HB<;>(go_wp2;go_ret2;exact⟨rfl,Nm.aC (aK _ w).drew b1⟩))
theorem aEa(x:Ld)(nm lv hv:Value)(T:TypeId)(lab:List ByteArray)(w:World)(hk:bG w x.ob #[nm,lv,hv] T)(h:Nm.dX w lv lab):
 Calls Tryz.prog 139 #[.agg #[.int .i64 (x.at_:Int),.int .i64 x.ty,.pointer (some ⟨x.ob,0,none⟩),.pointer (some ⟨x.sb,0,none⟩)]] w fun e w'=>e=.returned (.bool ((x.ty==2||x.ty==39)&&JJ lab))∧Below w.heap.size w w':=by
 have jF:=(aK w.heap.size w).alloc (aN _) (.cells #[.int .i64 (x.at_:Int),.int .i64 x.ty,.pointer (some ⟨x.ob,0,none⟩),.pointer (some ⟨x.sb,0,none⟩)] 171);have kb:=aH w #[.int .i64 (x.at_:Int),.int .i64 x.ty,.pointer (some ⟨x.ob,0,none⟩),.pointer (some ⟨x.sb,0,none⟩)] 171;have rb:=fun i=>aA kb i
 have ko:=(aA (aB hk jF) 1).trans rfl;have hw:=Xx lv lab _ (h.below jF);obtain⟨a,cap,rfl,_⟩:=h;obtain⟨at_,ty,ob,sb⟩:=x;simp only at*
 clear hk kb;generalize JJ lab=WL at*
 by_cases h2:ty=2
 ·subst h2;have e2:((2:Int)==2)=true:=rfl;go_enter Tryz.func139,Tryz.ntmps139;go_wp2_with fail
  refine hw.mono ?_;rintro e w1 ⟨rfl,b1⟩;clear hw;go_wp2;go_ret;exact⟨by simp,Nm.aC jF b1⟩
 have e2:(ty==2)=false:=by simpa using h2
 by_cases h3:ty=39
 ·subst h3;go_enter Tryz.func139,Tryz.ntmps139;go_wp2_with fail
  refine hw.mono ?_;rintro e w1 ⟨rfl,b1⟩;clear hw;go_wp2;go_ret;exact⟨by simp,Nm.aC jF b1⟩
 have e3:(ty==39)=false:=by simpa using h3
 clear hw;go_enter Tryz.func139,Tryz.ntmps139;go_wp2;go_ret;exact⟨by simp [e2,e3],jF⟩
theorem Ym(x:Ld)(cq:Nat)(v:Value)(bs:List Nat)(w:World)(hq:w.cell? ⟨cq,0,none⟩=some v)(h:bS w v bs.length 1 (bs.map ptr))(QZ:∀ b,b=x.ob∨b∈bs->∃ cs T,bG w b cs T):
 Calls Tryz.prog 145 #[.agg #[.int .i64 (x.at_:Int),.int .i64 x.ty,.pointer (some ⟨x.ob,0,none⟩),.pointer (some ⟨x.sb,0,none⟩)],.pointer (some ⟨cq,0,none⟩)] w fun e w'=>e=.returned (.bool (decide (x.ob∈bs)))∧Below w.heap.size w w':=by
 have jF:=(aK w.heap.size w).alloc (aN _) (.cells #[.int .i64 (x.at_:Int),.int .i64 x.ty,.pointer (some ⟨x.ob,0,none⟩),.pointer (some ⟨x.sb,0,none⟩)] 171);have kb:=aH w #[.int .i64 (x.at_:Int),.int .i64 x.ty,.pointer (some ⟨x.ob,0,none⟩),.pointer (some ⟨x.sb,0,none⟩)] 171;have rb:=fun i=>aA kb i
 have kq:=(jF.cell (p:=⟨cq,0,none⟩) (eB w _ hq)).trans hq;have hw:=XI v bs x.ob _ (h.below jF) (fun b hb=>by obtain⟨cs,T,k⟩:=QZ b hb;exact⟨cs,T,aB k jF⟩);obtain⟨_,a,cap,rfl,_⟩:=h;obtain⟨at_,ty,ob,sb⟩:=x;simp only at*
 generalize decide (ob∈bs)=DB at*;clear QZ kb hq;go_enter Tryz.func145,Tryz.ntmps145;go_wp2_with fail
 refine hw.mono ?_;rintro e w1 ⟨rfl,b1⟩;clear hw;go_wp2;go_ret;exact⟨rfl,Nm.aC jF b1⟩
theorem Yn(x:Ld)(o:eZ)(B:Nat)(w:World)(hx:x.ob=o.dL)(h:BN w B o)(hl:o.ss.length<=500000)(hd:Ji o.ss):
 Calls Tryz.prog 142 #[.agg #[.int .i64 (x.at_:Int),.int .i64 x.ty,.pointer (some ⟨x.ob,0,none⟩),.pointer (some ⟨x.sb,0,none⟩)]] w fun e w'=>e=.returned (.bool (x.ty != 5&&x.ty != 47&&kL (fE 5) o.ss))∧Below w.heap.size w w':=by
 have jF:=(aK w.heap.size w).alloc (aN _) (.cells #[.int .i64 (x.at_:Int),.int .i64 x.ty,.pointer (some ⟨x.ob,0,none⟩),.pointer (some ⟨x.sb,0,none⟩)] 171);have kb:=aH w #[.int .i64 (x.at_:Int),.int .i64 x.ty,.pointer (some ⟨x.ob,0,none⟩),.pointer (some ⟨x.sb,0,none⟩)] 171;have rb:=fun i=>aA kb i
 have hw:=BU o B 5 _ (h.below jF) hl hd;unfold ptr at hw;rw [<- hx] at hw;obtain⟨at_,ty,ob,sb⟩:=x;simp only at*
 generalize kL (fE 5) o.ss=DB at*;clear hx h hl hd kb
 by_cases h2:ty=5
 ·subst h2;have e2:((5:Int) != 5)=false:=rfl;clear hw;go_enter Tryz.func142,Tryz.ntmps142;go_wp2;go_ret;exact⟨by simp,jF⟩
 have e2:(ty != 5)=true:=by simpa using h2
 by_cases h3:ty=47
 ·subst h3;clear hw;go_enter Tryz.func142,Tryz.ntmps142;go_wp2;go_ret;exact⟨by simp,jF⟩
 have e3:(ty != 47)=true:=by simpa using h3
 go_enter Tryz.func142,Tryz.ntmps142;go_wp2_with fail
 refine hw.mono ?_;rintro e w1 ⟨rfl,b1⟩;clear hw;go_wp2;go_ret;exact⟨by simp [e2,e3],Nm.aC jF b1⟩
