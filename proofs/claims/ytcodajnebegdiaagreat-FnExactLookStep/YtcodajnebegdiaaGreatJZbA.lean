import Derived.Test.YtcodajnebegdiaaGreatJZbB
import Derived.Test.YtcodajnebegdiaaGreatJSCheck
import Derived.Test.YtcodajnebegdiaaGreatJMath
import Derived.Test.YtcodajnebegdiaaGreatJSSmall
import Derived.RangeFuncNested
import Derived.RangeFuncBound
import Derived.RangeFuncCalls
import Derived.RangeFuncLeaves
import Derived.Shelf.Abstract
import Derived.Shelf.RegionOpen
import Derived.WalkKit
import Derived.OwnWalkIn
import Derived.TacticsInMore
import Derived.LoopNIn
import Derived.LoopIn
import Derived.Test.YtcodajnebegdiaaGreatJTbGI
import Derived.RangeFuncBox
import Derived.Maps.AppendAt
namespace Go.Proofs.YtcodajnebegdiaaGreat
open Go.RowKit
set_option linter.unusedVariables false
def oneC(r:Rr)(apex:ByteArray):Int:=
 if(Nm.split r.own).isSome=false then 1 else if r.cl≠1 then 19 else if(decide (0<=r.tt)&&decide (r.tt<=2147483647))=false then 18
 else if metaB r.ty=true∨r.ty<0∨65535<r.ty then 6 else if cutCode r.ty r.da≠0 then 7 else if isUnderS r.own apex=false then 22 else 0
set_option maxRecDepth 100000 in
set_option maxHeartbeats 1600000 in
theorem l06One_any(r:Rr)(apex:ByteArray)(w:World)(ho:r.own.size<=maxLen)(ha:apex.size<=maxLen):
 Calls Tryz.prog 76 #[.agg #[.string r.own,.int .i64 r.ty,.int .i64 r.cl,.int .i64 r.tt,.string r.da],.string apex] w fun e w'=>e=.returned (.int .i64 (oneC r apex))∧Below w.heap.size w w':=by
 have hB0:=(Below.refl w.heap.size w).alloc (Nat.le_refl _) (.cells #[.string r.own,.int .i64 r.ty,.int .i64 r.cl,.int .i64 r.tt,.string r.da] 109);have hR0:=RB.new w r 109;have h1:=fun W=>specNameOK_any r.own W ho
 have h2:=fun W=>l04In_any r.tt 2147483647 W
 have h3:=fun W=>l05Meta_any r.ty W
 have h4:=fun W=>specCheckData_any r.ty r.da W
 have h5:=fun W=>specIsUnder_any r.own apex W ho ha
 have hkeep:=fun(W:World) (hb:Below (w.alloc (.cells #[.string r.own,.int .i64 r.ty,.int .i64 r.cl,.int .i64 r.tt,.string r.da] 109)).heap.size (w.alloc (.cells #[.string r.own,.int .i64 r.ty,.int .i64 r.cl,.int .i64 r.tt,.string r.da] 109)) W)=>(And.intro (hR0.below hb) (Nm.below_two hB0 hb))
 obtain⟨Q,hQ⟩:∃ Q,Q=oneC r apex:=⟨_,rfl⟩;rw [<- hQ];unfold oneC at hQ;generalize cutCode r.ty r.da=CC at*;generalize isUnderS r.own apex=IU at*;generalize (Nm.split r.own).isSome=SO at*;generalize (decide (0<=r.tt)&&decide (r.tt<=2147483647))=TT at*;have hmb:∀ b,metaB r.ty=b->True:=fun _ _=>trivial
 generalize metaB r.ty=MB at*;clear hmb;obtain⟨o,ty,cl,tt,da⟩:=r;simp only [RB] at*;obtain⟨c0,c1,c2,c3,c4⟩:=hR0
 cases SO with
 |false=>
  simp only [if_true] at hQ;subst hQ;clear h2 h3 h4 h5;go_enter Tryz.func76,Tryz.ntmps76;go_wp2_with fail
  refine(h1 _).mono ?_;rintro e w1 ⟨rfl,b1⟩;go_wp2;go_ret
  exact⟨rfl,Nm.below_two hB0 b1⟩
 |true=>
  simp only [Bool.true_eq_false,if_false] at hQ
  by_cases hcl:cl=1
  ·rw [if_neg (by simpa using hcl)] at hQ;subst hcl;have ncl:((1:Int) != 1)=false:=rfl
   cases TT with
   |false=>
    simp only [if_true] at hQ;subst hQ;clear h3 h4 h5;go_enter Tryz.func76,Tryz.ntmps76;go_wp2_with fail
    refine(h1 _).mono ?_;rintro e w1 ⟨rfl,b1⟩;obtain⟨⟨d0,d1,d2,d3,d4⟩,e1⟩:=hkeep w1 b1;clear c0 c1 c2 c3 c4;go_wp2_with fail
    refine(h2 _).mono ?_;rintro e w2 ⟨rfl,rfl⟩;go_wp2;go_ret
    exact⟨rfl,e1⟩
   |true=>
    simp only [Bool.true_eq_false,if_false] at hQ
    by_cases hm:MB=true∨ty<0∨65535<ty
    ·rw [if_pos hm] at hQ;subst hQ;clear h4 h5
     cases MB with
     |true=>
      go_enter Tryz.func76,Tryz.ntmps76;go_wp2_with fail
      refine(h1 _).mono ?_;rintro e w1 ⟨rfl,b1⟩;obtain⟨⟨d0,d1,d2,d3,d4⟩,e1⟩:=hkeep w1 b1;clear c0 c1 c2 c3 c4;go_wp2_with fail
      refine(h2 _).mono ?_;rintro e w2 ⟨rfl,rfl⟩;go_wp2_with fail
      refine(h3 _).mono ?_;rintro e w3 ⟨rfl,rfl⟩;go_wp2;go_ret
      exact⟨rfl,e1⟩
     |false=>
      by_cases hneg:ty<0
      ·have n0:decide (ty<0)=true:=decide_eq_true hneg;go_enter Tryz.func76,Tryz.ntmps76;go_wp2_with fail
       refine(h1 _).mono ?_;rintro e w1 ⟨rfl,b1⟩;obtain⟨⟨d0,d1,d2,d3,d4⟩,e1⟩:=hkeep w1 b1;clear c0 c1 c2 c3 c4;go_wp2_with fail
       refine(h2 _).mono ?_;rintro e w2 ⟨rfl,rfl⟩;go_wp2_with fail
       refine(h3 _).mono ?_;rintro e w3 ⟨rfl,rfl⟩;go_wp2;go_ret;exact⟨rfl,e1⟩
      ·have hbig:65535<ty:=by rcases hm with h|h|h;· cases h
                              ·omega
                              ·exact h
       have n0:decide (ty<0)=false:=decide_eq_false hneg;have n1:decide (65535<ty)=true:=decide_eq_true hbig;go_enter Tryz.func76,Tryz.ntmps76;go_wp2_with fail
       refine(h1 _).mono ?_;rintro e w1 ⟨rfl,b1⟩;obtain⟨⟨d0,d1,d2,d3,d4⟩,e1⟩:=hkeep w1 b1;clear c0 c1 c2 c3 c4;go_wp2_with fail
       refine(h2 _).mono ?_;rintro e w2 ⟨rfl,rfl⟩;go_wp2_with fail
       refine(h3 _).mono ?_;rintro e w3 ⟨rfl,rfl⟩;go_wp2;go_ret;exact⟨rfl,e1⟩
    ·rw [if_neg hm] at hQ
     obtain⟨rfl,hneg,hbig⟩:MB=false∧0<=ty∧ty<=65535:=by
      refine⟨?_,?_,?_⟩
      ·cases MB with
       |true=>exact absurd (Or.inl rfl) hm
       |false=>rfl
      ·exact Int.not_lt.1 (fun h=>hm (.inr (.inl h)))
      ·exact Int.not_lt.1 (fun h=>hm (.inr (.inr h)))
     by_cases hc:CC=0
     ·rw [if_neg (by simpa using hc)] at hQ;subst hc
      cases IU with
      |false=>
       simp only [if_true] at hQ;subst hQ;go_enter Tryz.func76,Tryz.ntmps76;go_wp2_with fail
       refine(h1 _).mono ?_;rintro e w1 ⟨rfl,b1⟩;obtain⟨⟨d0,d1,d2,d3,d4⟩,e1⟩:=hkeep w1 b1;clear c0 c1 c2 c3 c4;go_wp2_with fail
       refine(h2 _).mono ?_;rintro e w2 ⟨rfl,rfl⟩;go_wp2_with fail
       refine(h3 _).mono ?_;rintro e w3 ⟨rfl,rfl⟩;go_wp2_with fail
       refine(h4 _).mono ?_;rintro e w4 ⟨rfl,b4⟩;obtain⟨⟨g0,g1,g2,g3,g4⟩,e4⟩:=hkeep w4 (Nm.below_two b1 b4);clear d0 d1 d2 d3 d4;go_wp2_with fail
       refine(h5 _).mono ?_;rintro e w5 ⟨rfl,b5⟩;go_wp2;go_ret
       exact⟨rfl,Nm.below_two e4 b5⟩
      |true=>
       simp only [Bool.true_eq_false,if_false] at hQ;subst hQ;go_enter Tryz.func76,Tryz.ntmps76;go_wp2_with fail
       refine(h1 _).mono ?_;rintro e w1 ⟨rfl,b1⟩;obtain⟨⟨d0,d1,d2,d3,d4⟩,e1⟩:=hkeep w1 b1;clear c0 c1 c2 c3 c4;go_wp2_with fail
       refine(h2 _).mono ?_;rintro e w2 ⟨rfl,rfl⟩;go_wp2_with fail
       refine(h3 _).mono ?_;rintro e w3 ⟨rfl,rfl⟩;go_wp2_with fail
       refine(h4 _).mono ?_;rintro e w4 ⟨rfl,b4⟩;obtain⟨⟨g0,g1,g2,g3,g4⟩,e4⟩:=hkeep w4 (Nm.below_two b1 b4);clear d0 d1 d2 d3 d4;go_wp2_with fail
       refine(h5 _).mono ?_;rintro e w5 ⟨rfl,b5⟩;go_wp2;go_ret;exact⟨rfl,Nm.below_two e4 b5⟩
     ·rw [if_pos (by simpa using hc)] at hQ;subst hQ;have nc:(CC != 0)=true:=by rw [bne_iff_ne];exact hc
      go_enter Tryz.func76,Tryz.ntmps76;go_wp2_with fail
      refine(h1 _).mono ?_;rintro e w1 ⟨rfl,b1⟩;obtain⟨⟨d0,d1,d2,d3,d4⟩,e1⟩:=hkeep w1 b1;clear c0 c1 c2 c3 c4;go_wp2_with fail
      refine(h2 _).mono ?_;rintro e w2 ⟨rfl,rfl⟩;go_wp2_with fail
      refine(h3 _).mono ?_;rintro e w3 ⟨rfl,rfl⟩;go_wp2_with fail
      refine(h4 _).mono ?_;rintro e w4 ⟨rfl,b4⟩;go_wp2;go_ret;exact⟨rfl,Nm.below_two e1 b4⟩
  ·rw [if_pos (by simpa using hcl)] at hQ;subst hQ;have ncl:(cl != 1)=true:=by rw [bne_iff_ne];exact hcl
   clear h2 h3 h4 h5;go_enter Tryz.func76,Tryz.ntmps76;go_wp2_with fail
   refine(h1 _).mono ?_;rintro e w1 ⟨rfl,b1⟩;obtain⟨⟨d0,d1,d2,d3,d4⟩,e1⟩:=hkeep w1 b1;clear c0 c1 c2 c3 c4;go_wp2;go_ret;exact⟨rfl,e1⟩
end Go.Proofs.YtcodajnebegdiaaGreat
namespace Go.Proofs.YtcodajnebegdiaaGreat
open Go.RowKit
def ssum:List ByteArray->Nat
 |[]=>0
 |l::r=>l.size+ssum r
theorem ssum_append(a b:List ByteArray):ssum (a++b)=ssum a+ssum b:=by
 induction a with
 |nil=>simp [ssum]
 |cons x a ih=>simp only [List.cons_append,ssum,ih];omega
theorem ssum_step{ls:List ByteArray}{k:Nat}{x:ByteArray}(h:ls[k]? =some x):ssum (ls.take (k+1))=ssum (ls.take k)+x.size:=by
 rw [Nm.take_step h,ssum_append];simp [ssum]
theorem ssum_take_le(ls:List ByteArray)(k:Nat):ssum (ls.take k)<=ssum ls:=by
 have e:=ssum_append (ls.take k) (ls.drop k);rw [List.take_append_drop] at e;omega
def szS(ls:List ByteArray)(L:Int):Int:=if(ls.length:Int)+(ssum ls:Int)<=L then L-ls.length-ssum ls else -1
set_option maxRecDepth 100000 in
set_option maxHeartbeats 800000 in
theorem szStringS_any(v:Value)(ls:List ByteArray)(L:Int)(w:World)(h:Nm.SRow w v ls)(hx:∀ x∈ls,x.size<=maxLen)(h0:0<=L)(h1:L<=1048576):
 Calls Tryz.prog 75 #[v,.int .i64 L] w fun e w'=>e=.returned (.int .i64 (szS ls L))∧w'=w:=by
 obtain⟨a,cap,rfl,hcap,hmx,hnl,hc⟩:=h;unfold maxLen at hmx hx;clear hnl
 by_cases hm:L<ls.length
 ·have HS:Hid (szS ls L= -1):=if_neg (by omega);have hl:(ls.length:Int)<=9223372036854775807:=by omega
  have hm':L-(ls.length:Int)<0:=by omega
  clear hx hc;go_enter Tryz.func75,Tryz.ntmps75;go_wp2;go_ret;rw [HS.out];exact⟨rfl,rfl⟩
 ·have hl:(ls.length:Int)<=1048576:=by omega
  have hm':(0:Int)<=L-(ls.length:Int):=by omega
  go_enter Tryz.func75,Tryz.ntmps75;go_wp2
  go_loop [1,5] (fun t i=>∃ k:Nat,k<=ls.length∧i=.int .i64 k∧t=.int .i64 (L-ls.length-ssum (ls.take k))∧(ls.length:Int)+ssum (ls.take k)<=L) (fun _ i=>ls.length-(intOf i).toNat)
  case atStart=>exact⟨0,Nat.zero_le _,rfl,by simp [ssum],by simp [ssum];omega⟩
  case round=>
   obtain⟨k,hk,rfl,rfl,hle⟩:=hrel
   by_cases hlt:k<ls.length
   ·obtain⟨x,hxk⟩:∃ x,ls[k]? =some x:=⟨_,List.getElem?_eq_getElem hlt⟩;obtain⟨b,off,rfl,hcell⟩:=hc (by intro h;rw [h] at hlt;simp at hlt);have hcx:=hcell k x hxk;have hxs:=hx x (List.mem_of_getElem? hxk);have HS:Hid (ssum (ls.take (k+1))=ssum (ls.take k)+x.size):=ssum_step hxk;have hs1:Hid (ssum (ls.take (k+1))<=ssum ls):=ssum_take_le ls (k+1);clear hxk hcell hc hx
    by_cases hb:L-ls.length-ssum (ls.take k)-x.size<0
    ·have HZ:Hid (szS ls L= -1):=if_neg (by have:=HS.out;have:=hs1.out;omega);go_wp2;go_ret;rw [HZ.out];exact⟨rfl,rfl⟩
    ·have hb':0<=L-ls.length-ssum (ls.take k)-x.size:=by omega
     clear hb;go_wp2
     go_round
     case rel=>exact⟨k+1,by omega,by go_num,by rw [HS.out];go_num,by rw [HS.out];omega⟩
     case measure=>simp [intOf];omega
   ·have hkl:k=ls.length:=by omega
    subst hkl;rw [List.take_length] at*;have HZ:Hid (szS ls L=L-ls.length-ssum ls):=if_pos (by omega);clear hx hc hlt;go_wp2;go_ret;rw [HZ.out];exact⟨rfl,rfl⟩
theorem made_str(n:Nat):(madeCells (Value.string ByteArray.empty).cells (n*1)).toList=List.replicate n (.string ByteArray.empty):=by
 rw [Nat.mul_one];exact toList_madeCells_one _ n
theorem set_step{ls:List ByteArray}{k:Nat}{x:ByteArray}(h:ls[k]? =some x)(z:Value):
 ((ls.take k).map Value.string++List.replicate (ls.length-k) z).set k (.string x)=(ls.take (k+1)).map Value.string++List.replicate (ls.length-(k+1)) z:=by
 have hk:k<ls.length:=(List.getElem?_eq_some_iff.1 h).1;have hl:((ls.take k).map Value.string).length=k:=by simp;omega
 obtain⟨m,hm⟩:∃ m,ls.length-k=m+1:=⟨ls.length-k-1,by omega⟩;have hm':ls.length-(k+1)=m:=by omega
 rw [hm,hm',Nm.take_step h,List.set_append_right _ _ (by omega),hl];simp [List.replicate_succ]
set_option maxRecDepth 100000 in
set_option maxHeartbeats 800000 in
theorem toStringS_any(v:Value)(ls:List ByteArray)(w:World)(h:Nm.SRow w v ls)(hlen:ls.length<=1048576):
 Calls Tryz.prog 93 #[v] w fun e w'=>∃ u,e=.returned u∧w'.ownsRow w.heap.size 9 1 u ls.length (ls.map Value.string)∧Below w.heap.size w w':=by
 obtain⟨i0,hi,hz0,hz1,hz2⟩:=info_parts Tryz.infoStr;obtain⟨a,cap,rfl,hcap,hmx,hnl,hc⟩:=h;unfold maxLen at hmx;clear hnl;go_enter Tryz.func93,Tryz.ntmps93;go_wp2_with (at_make;refine wpList_make_full _ rfl (.tmp 6) (.tmp 6) 52 rfl w.heap.size 9 i0 (.string ByteArray.empty) 1 Tryz.underlying52 hi hz0 hz1 .i64 .i64 _ _ ls.length rfl rfl rfl rfl (by rw [hz2];omega) (by unfold maxLen;omega) (Nat.le_refl _) ?_;intro w2 hown0 hgrow0)
 rw [made_str] at hown0
 go_loopw [4] (fun i wr=>∃ k:Nat,k<=ls.length∧i=.int .i64 k∧wr.ownsRow w.heap.size 9 1 (.slice (some ⟨w.heap.size,0,none⟩) ls.length ls.length) ls.length ((ls.take k).map Value.string++List.replicate (ls.length-k) (.string ByteArray.empty))∧Below w.heap.size w wr)
  (fun i _=>ls.length-(intOf i).toNat)
 case atStart=>exact⟨0,Nat.zero_le _,rfl,by simpa using hown0,(Below.refl _ w).grown hgrow0 (Nat.le_refl _) (fun k hk=>by cases hk)⟩
 case round=>
  obtain⟨k,hk,rfl,hown,hbel⟩:=hrel;clear hown0 hgrow0
  by_cases hlt:k<ls.length
  ·obtain⟨x,hx⟩:∃ x,ls[k]? =some x:=⟨_,List.getElem?_eq_getElem hlt⟩;obtain⟨b,off,rfl,hcell⟩:=hc (by intro h;rw [h] at hlt;simp at hlt);have hcx:wr.cell? ⟨b,off+k,none⟩=some (.string x):=(hbel.cell (World.block_lt_of_cell? w _ (hcell k x hx))).trans (hcell k x hx);have hst:=hown.stored k (.string x);rw [set_step hx] at hst;have hfz:=hown.frozenAt k
   obtain⟨y,hy⟩:∃ y,wr.cell? ⟨w.heap.size,k,none⟩=some y:=by
    rw [hown.cellAt k (by omega)];exact⟨_,List.getElem?_eq_getElem (by simp;omega)⟩
   have HR:=Nm.hide hst;have HB:Hid (Below w.heap.size w (wr.setCell ⟨w.heap.size,k,none⟩ (.string x))):=hbel.setCell (Nat.le_refl _) _;clear hx hcell hc hst hown;go_wp2;go_roundw
   case rel=>exact⟨k+1,by omega,by go_num,HR.out.1,HB.out⟩
   case measure=>simp [intOf];omega
  ·have hkl:k=ls.length:=by omega
   subst hkl;clear hc hlt;go_wp2;go_ret;exact⟨_,rfl,by simpa using hown,hbel⟩
end Go.Proofs.YtcodajnebegdiaaGreat
namespace Go.Proofs.YtcodajnebegdiaaGreat
open Go.RowKit
set_option linter.unusedVariables false
structure Sz where
 own:ByteArray
 ty:Int
 tt:Int
 da:List ByteArray
abbrev Zp:Type:=Sz×Value
def zpV(p:Zp):List Value:=[.string p.1.own,.int .i64 p.1.ty,.int .i64 p.1.tt,p.2]
def zpVs(ps:List Zp):List Value:=ps.flatMap zpV
theorem zpVs_cons(x:Zp)(xs:List Zp):zpVs (x::xs)=zpV x++zpVs xs:=by simp [zpVs]
theorem zpVs_app(a b:List Zp):zpVs (a++b)=zpVs a++zpVs b:=by simp [zpVs]
theorem zpVs_len(xs:List Zp):(zpVs xs).length=xs.length*4:=by
 induction xs with
 |nil=>rfl
 |cons x xs ih=>
  have:(zpV x).length=4:=rfl;rw [zpVs_cons,List.length_append,ih,List.length_cons,this];omega
theorem zpVs_at:∀ (xs:List Zp) (k j:Nat) (x:Zp),xs[k]? =some x->j<4->(zpVs xs)[k*4+j]? =(zpV x)[j]? :=by
 intro xs
 induction xs with
 |nil=>intro k j x h;simp at h
 |cons y xs ih=>
  intro k j x h hj;have hl:(zpV y).length=4:=rfl
  cases k with
  |zero=>
   simp at h;subst h
   rw [zpVs_cons,Nat.zero_mul,Nat.zero_add,List.getElem?_append_left (by omega)]
  |succ k=>
   simp at h;rw [zpVs_cons,List.getElem?_append_right (by omega),hl,show(k+1)*4+j-4=k*4+j by omega];exact ih k j x h hj
theorem zp_cells{w:World}{xs:List Zp}{b off k:Nat}{x:Zp}(hc:∀ (i:Nat) (y:Value),(zpVs xs)[i]? =some y->w.cell? ⟨b,off+i,none⟩=some y)(h:xs[k]? =some x):
 w.cell? ⟨b,off+k*4,none⟩=some (.string x.1.own)∧w.cell? ⟨b,off+k*4+1,none⟩=some (.int .i64 x.1.ty)∧w.cell? ⟨b,off+k*4+2,none⟩=some (.int .i64 x.1.tt)∧w.cell? ⟨b,off+k*4+3,none⟩=some x.2:=
 ⟨hc (k*4) _ ((zpVs_at xs k 0 x h (by decide)).trans rfl),hc (k*4+1) _ ((zpVs_at xs k 1 x h (by decide)).trans rfl),hc (k*4+2) _ ((zpVs_at xs k 2 x h (by decide)).trans rfl),hc (k*4+3) _ ((zpVs_at xs k 3 x h (by decide)).trans rfl)⟩
def ZRow(w:World)(v:Value)(ps:List Zp):Prop:=CRow w v ps.length 4 (zpVs ps)∧∀ p∈ps,Nm.SRow w p.2 p.1.da
theorem ZRow.below{w W:World}{v:Value}{ps:List Zp}(h:ZRow w v ps)(hb:Below w.heap.size w W):ZRow W v ps:=⟨h.1.below hb,fun p hp=>(h.2 p hp).below hb⟩
def zs1(s:Sz):Nat:=s.own.size+(s.da.length+ssum s.da)
def zsum:List Zp->Nat
 |[]=>0
 |x::xs=>zs1 x.1+zsum xs
theorem zsum_step:∀ (xs:List Zp) (k:Nat) (x:Zp),xs[k]? =some x->zsum (xs.take (k+1))=zsum (xs.take k)+zs1 x.1:=by
 intro xs
 induction xs with
 |nil=>intro k x h;simp at h
 |cons y xs ih=>
  intro k x h
  cases k with
  |zero=>simp at h;subst h;simp [zsum]
  |succ k=>
   simp at h;have:=ih k x h;simp only [List.take_succ_cons,zsum];omega
theorem zsum_take_le:∀ (xs:List Zp) (k:Nat),zsum (xs.take k)<=zsum xs:=by
 intro xs
 induction xs with
 |nil=>intro k;simp [zsum]
 |cons y xs ih=>
  intro k
  cases k with
  |zero=>simp [zsum]
  |succ k=>have:=ih k;simp only [List.take_succ_cons,zsum];omega
theorem zsum_mem:∀ (xs:List Zp) (x:Zp),x∈xs->zs1 x.1<=zsum xs:=by
 intro xs
 induction xs with
 |nil=>intro x h;simp at h
 |cons y xs ih=>
  intro x h
  rcases List.mem_cons.1 h with rfl|h
  ·simp only [zsum];omega
  ·have:=ih x h;simp only [zsum];omega
def szZ1(s:Sz)(L:Int):Int:=if(zs1 s:Int)<=L then L-zs1 s else -1
def szZS(ps:List Zp)(L:Int):Int:=if(ps.length:Int)+(zsum ps:Int)<=L then L-ps.length-zsum ps else -1
def szZ(a:ByteArray)(ps:List Zp)(L:Int):Int:=if(a.size:Int)+ps.length+(zsum ps:Int)<=L then L-a.size-ps.length-zsum ps else -1
def ZFit(ps:List Zp):Prop:=∀ p∈ps,p.1.own.size<=maxLen∧∀ x∈p.1.da,x.size<=maxLen
def itemOf(r:Rr):It:=⟨r,Nm.foldS r.own,foldR r.ty r.da,false⟩
def badOne(apex:ByteArray):List Rr->Nat->Option (Int×Nat)
 |[],_=>none
 |r::rs,i=>if oneC r apex=0 then badOne apex rs (i+1) else some (oneC r apex,i)
theorem badOne_at{apex:ByteArray}:∀ (l:List Rr) (k i:Nat) (r:Rr),(∀ (j:Nat) (x:Rr),j<k->l[j]? =some x->oneC x apex=0)->l[k]? =some r->oneC r apex≠0->badOne apex l i=some (oneC r apex,i+k):=by
 intro l
 induction l with
 |nil=>intro k i r _ h;simp at h
 |cons x l ih=>
  intro k i r hno hr hp
  cases k with
  |zero=>
   simp at hr;subst hr
   rw [badOne,if_neg hp];rfl
  |succ k=>
   simp at hr;rw [badOne,if_pos (hno 0 x (by omega) rfl),ih k (i+1) r (fun j y hj hy=>hno (j+1) y (by omega) (by simpa using hy)) hr hp];congr 2;omega
theorem badOne_no{apex:ByteArray}:∀ (l:List Rr) (i:Nat),(∀ (j:Nat) (x:Rr),j<l.length->l[j]? =some x->oneC x apex=0)->badOne apex l i=none:=by
 intro l
 induction l with
 |nil=>intro i _;rfl
 |cons x l ih=>
  intro i hno;rw [badOne,if_pos (hno 0 x (by simp) rfl)];exact ih (i+1) (fun j y hj hy=>hno (j+1) y (by simp;omega) (by simpa using hy))
def addLast(acc:List Sz)(d:ByteArray):List Sz:=match acc.getLast? with
 |some s=>acc.dropLast++[{s with da:=s.da++[d]}]
 |none=>[]
def newSet(srt:List It)(k:Nat)(x:It):Bool:=match k with
 |0=>true
 |k+1=>match srt[k]? with
  |some y=>decide (y.fo≠x.fo)||decide (y.r.ty≠x.r.ty)
  |none=>true
def grpK(l srt:List It):Nat->List Sz
 |0=>[]
 |k+1=>match srt[k]? with
  |some x=>if newSet srt k x then grpK l srt k++[⟨ownI l x.fo,x.r.ty,x.r.tt,[x.r.da]⟩] else addLast (grpK l srt k) x.r.da
  |none=>grpK l srt k
theorem grpK_new{l srt:List It}{k:Nat}{x:It}(h:srt[k]? =some x)(hn:newSet srt k x=true):grpK l srt (k+1)=grpK l srt k++[⟨ownI l x.fo,x.r.ty,x.r.tt,[x.r.da]⟩]:=by
 rw [grpK,h];simp [hn]
theorem grpK_old{l srt:List It}{k:Nat}{x:It}{qs:List Sz}{s:Sz}(h:srt[k]? =some x)(hn:newSet srt k x=false)(hg:grpK l srt k=qs++[s]):grpK l srt (k+1)=qs++[{s with da:=s.da++[x.r.da]}]:=by
 rw [grpK,h];simp [hn,hg,addLast]
theorem grpK_last{l srt:List It}:∀ (k:Nat),0<k->k<=srt.length->∃ qs s,grpK l srt k=qs++[s]:=by
 intro k
 induction k with
 |zero=>intro h;omega
 |succ k ih=>
  intro _ hk;obtain⟨x,hx⟩:∃ x,srt[k]? =some x:=⟨_,List.getElem?_eq_getElem (by omega)⟩
  cases hn:newSet srt k x with
  |true=>exact⟨_,_,grpK_new hx hn⟩
  |false=>
   have hk0:0<k:=by
    rcases Nat.eq_zero_or_pos k with h|h
    ·subst h;simp [newSet] at hn
    ·exact h
   obtain⟨qs,s,e⟩:=ih hk0 (by omega);exact⟨_,_,grpK_old hx hn e⟩
theorem grpK_len{l srt:List It}:∀ (k:Nat),k<=srt.length->(grpK l srt k).length<=k∧∀ s∈grpK l srt k,s.da.length<=k:=by
 intro k
 induction k with
 |zero=>intro _;exact⟨Nat.le_refl _,by simp [grpK]⟩
 |succ k ih=>
  intro hk;obtain⟨h1,h2⟩:=ih (by omega);obtain⟨x,hx⟩:∃ x,srt[k]? =some x:=⟨_,List.getElem?_eq_getElem (by omega)⟩
  cases hn:newSet srt k x with
  |true=>
   rw [grpK_new hx hn];refine⟨by simp;omega,fun s hs=>?_⟩
   rcases List.mem_append.1 hs with h|h
   ·have:=h2 s h;omega
   ·simp at h;subst h;simp
  |false=>
   have hk0:0<k:=by
    rcases Nat.eq_zero_or_pos k with h|h
    ·subst h;simp [newSet] at hn
    ·exact h
   obtain⟨qs,s,e⟩:=grpK_last (l:=l) (srt:=srt) k hk0 (by omega);rw [grpK_old hx hn e];rw [e] at h1 h2;refine⟨by simp at h1 ⊢;omega,fun t ht=>?_⟩
   rcases List.mem_append.1 ht with h|h
   ·have:=h2 t (List.mem_append.2 (.inl h));omega
   ·simp at h;subst h;have:=h2 s (by simp)
    simp;omega
def itsOf(list:List Rr):List It:=twI (list.map itemOf)
def restOf(list:List Rr):List It:=(itsOf list).filter fun x=> !x.out
def srtOf(list:List Rr):List It:=sortI (restOf list)
def bldZ(list:List Rr):List Sz:=grpK (itsOf list) (srtOf list) (srtOf list).length
def bldE(list:List Rr)(apex:ByteArray):Int×Int:=
 if(Nm.split apex).isSome=false then(32,-1) else if 500<list.length then(12,-1) else
 match badOne apex list 0 with
 |some (c,i)=>(c,i)
 |none=>if 0<=badI (list.map itemOf) then(24,badI (list.map itemOf)) else if(rulesI (itsOf list) (Nm.foldS apex)).1≠0 then rulesI (itsOf list) (Nm.foldS apex) else(0,0)
end Go.Proofs.YtcodajnebegdiaaGreat
namespace Go.Proofs.YtcodajnebegdiaaGreat
open Go.RowKit Go.Shelf
set_option linter.unusedVariables false
attribute [local go_sem] Oper.semAt_some
set_option maxRecDepth 100000 in
set_option maxHeartbeats 2000000 in
theorem all1S_in{α:Type}(kf vf:α->ByteArray)(F:Fence)(n:Nat)(h7:F.fn 212)(hro:F.round=none)(hn:1<=n)(l tb g n₀ b off cap:Nat)(cmpv:Value)(zs:List α)(hl:zs.length<=1000000)(hcap:zs.length<=cap∧cap<=maxLen)(hb:b<n₀)(J Jx:List α->World->Prop)
 (hJ:∀ s W W',J s W->W.grownBy W' none->J s W')
 (hY:∀ pre x W,J pre W->pre.length<zs.length->YieldAt F (n-1) Tryz.prog l #[(Value.string (kf x)),(Value.string (vf x))] W fun e W'=>
  (e=.returned (.bool true)∧J (pre++[x]) W'∧Below n₀ W W')∨(e=.returned (.bool false)∧Jx (pre++[x]) W'))
 (W:World) (kb:W.cell? ⟨tb,0,none⟩=some (.pointer (some ⟨g,0,none⟩))) (kg:W.cell? ⟨g,1,none⟩=some (.slice (some ⟨b,off,none⟩) zs.length cap))
 (hc:∀ (i:Nat) (x:α),zs[i]? =some x->W.cell? ⟨b,off+i*2,none⟩=some (Value.string (kf x))∧W.cell? ⟨b,off+i*2+1,none⟩=some (Value.string (vf x))) (hn₀:n₀<=W.heap.size) (h0:J [] W):
 CallsIn F n Tryz.prog 212 #[.func (.yield l) #[] #[],.pointer (some ⟨tb,0,none⟩)] W fun e W'=>(∃ v,e=.returned v)∧
  ((∃ ys,ys=zs∧J ys W')∨(∃ pre,pre<+:zs∧Jx pre W')):=by
 obtain⟨hcap1,hcap2⟩:=hcap;unfold maxLen at hcap2;refine callsIn_of_wp Tryz.func212 rfl h7 ?_ hro;simp only [Tryz.ntmps212,List.size_toArray,List.length_cons,List.length_nil,Nat.reduceAdd,Nat.reduceSub,Array.replicate_succ,Array.replicate_zero,List.push_toArray,List.append_toArray,List.nil_append,List.cons_append]
 gi_wp2
 gi_loopw [10] (fun i wr=>∃ k:Nat,k<=zs.length∧i=.int .i64 k∧J (zs.take k) wr∧Below n₀ W wr)
  (fun i _=>zs.length-(intOf i).toNat)
 case atStart=>exact⟨0,Nat.zero_le _,rfl,by simpa using h0,Below.refl _ _⟩
 case round=>
  obtain⟨k,hk,rfl,hJs,hnx⟩:=hrel
  by_cases hlt:k<zs.length
  ·obtain⟨x,hx⟩:∃ x,zs[k]? =some x:=⟨_,List.getElem?_eq_getElem hlt⟩;obtain⟨c0,c1⟩:=hc k x hx;have d0:wr.cell? ⟨b,off+k*2,none⟩=some (Value.string (kf x)):=(hnx.cell (p:=⟨b,off+k*2,none⟩) hb).trans c0;have d1:wr.cell? ⟨b,off+k*2+1,none⟩=some (Value.string (vf x)):=(hnx.cell (p:=⟨b,off+k*2+1,none⟩) hb).trans c1;have hal:∀ o:Obj,wr.grownBy (wr.alloc o) none:=fun o=>⟨rfl,rfl,rfl,by simp,fun q hq _=>heap_alloc_old wr _ hq⟩
   obtain⟨fn,tmps,assign,body,hy,hR⟩:=hY _ x (wr.alloc (.cells #[(Value.string (kf x)),(Value.string (vf x))] 255)) (hJ _ _ _ hJs (hal _)) (by rw [List.length_take];omega);have n1:(0:Int)<=(k:Int):=by omega
   have n2:(k:Int)<(zs.length:Int):=by omega
   have hbw:Below n₀ W (wr.alloc (.cells #[(Value.string (kf x)),(Value.string (vf x))] 255)):=hnx.alloc (Nat.le_trans hn₀ hnx.size) _
   have HT:Hid (zs.take (k+1)=zs.take k++[x]):=by
    obtain⟨hk',e⟩:=List.getElem?_eq_some_iff.1 hx;show _=_
    rw [List.take_succ_eq_append_getElem hk',e]
   clear hc c0 c1 hx
   gi_wp2
   refine hR.mono ?_;rintro e W3 (⟨rfl,hJ3,hk3⟩|⟨rfl,hJx3⟩)
   ·gi_wp2
    go_roundw
    case rel=>exact⟨k+1,by omega,by go_num,by rw [HT.out];exact hJ3,hbw.trans hk3⟩
    case measure=>simp [intOf];omega
   ·gi_wp2
    refine bodyPost_ret (results_none rfl _ _ _) rfl ?_;exact⟨⟨_,rfl⟩,.inr ⟨_,by rw [<- HT.out];exact List.take_prefix _ _,hJx3⟩⟩
  ·obtain rfl:k=zs.length:=by omega
   have n2:(zs.length:Int)<=(zs.length:Int):=by omega
   rw [List.take_length] at hJs;clear hc
   gi_wp2
   go_end0
   exact⟨⟨_,rfl⟩,.inl ⟨_,rfl,hJs⟩⟩
end Go.Proofs.YtcodajnebegdiaaGreat
namespace Go.Proofs.YtcodajnebegdiaaGreat
open Go.RowKit Go.Shelf
set_option linter.unusedVariables false
attribute [local go_sem] Oper.semAt_some
def RwsS{α:Type}(kf vf:α->ByteArray)(n₀:Nat)(W:World)(sv:Value)(zs:List α):Prop:=
 (sv=.slice none 0 0∧zs=[])∨∃ b off cap,sv=.slice (some ⟨b,off,none⟩) zs.length cap∧b<n₀∧(zs.length<=cap∧cap<=maxLen)∧
  ∀ (i:Nat) (x:α),zs[i]? =some x->W.cell? ⟨b,off+i*2,none⟩=some (Value.string (kf x))∧W.cell? ⟨b,off+i*2+1,none⟩=some (Value.string (vf x))
theorem RwsS.below{α:Type}{kf vf:α->ByteArray}{n₀:Nat}{W W':World}{sv:Value}{zs:List α}(h:RwsS kf vf n₀ W sv zs)(hB:Below n₀ W W'):RwsS kf vf n₀ W' sv zs:=by
 rcases h with h|⟨b,off,cap,e,hb,hcp,hc⟩
 ·exact .inl h
 ·exact .inr ⟨b,off,cap,e,hb,hcp,fun i x hx=>⟨(hB.cell (p:=⟨b,off+i*2,none⟩) hb).trans (hc i x hx).1,(hB.cell (p:=⟨b,off+i*2+1,none⟩) hb).trans (hc i x hx).2⟩⟩
theorem rwsS_own{α:Type}(kf vf:α->ByteArray){w:World}{B e:Nat}{v:Value}(zs:List α)(h:w.ownsRow B e 2 v zs.length (rowCs (zs.map fun x=>((Value.string (kf x)),(Value.string (vf x)))))):RwsS kf vf w.heap.size w v zs:=by
 have h':=h
 rcases h.2 with⟨rfl,h0⟩|⟨q,cap,cur,rfl,hb,hh,hc1,hc2,hcs,ht⟩
 ·exact .inl ⟨rfl,List.length_eq_zero_iff.1 h0⟩
 ·refine .inr ⟨q,0,cap,rfl,(Array.getElem?_eq_some_iff.1 hh).1,⟨hc1,hc2⟩,fun i x hx=>?_⟩;have hi:=(List.getElem?_eq_some_iff.1 hx).1;have hm:(zs.map fun x=>((Value.string (kf x)),(Value.string (vf x))))[i]? =some ((Value.string (kf x)),(Value.string (vf x))):=by simp [hx]
  have a0:=rowCs_at _ i 0 _ hm (by decide);have a1:=rowCs_at _ i 1 _ hm (by decide);have c0:=h'.cellAt (i*2) (by omega);have c1:=h'.cellAt (i*2+1) (by omega);exact⟨by rw [Nat.zero_add,c0];exact a0,by rw [Nat.zero_add,c1];exact a1⟩
set_option maxRecDepth 100000 in
set_option maxHeartbeats 2000000 in
theorem all1nS_in{α:Type}(F:Fence)(n:Nat)(h7:F.fn 212)(hro:F.round=none)(l tb g:Nat)(J:List α->World->Prop)(W:World)
 (kb:W.cell? ⟨tb,0,none⟩=some (.pointer (some ⟨g,0,none⟩))) (kg:W.cell? ⟨g,1,none⟩=some (.slice none 0 0)) (h0:J [] W):
 CallsIn F n Tryz.prog 212 #[.func (.yield l) #[] #[],.pointer (some ⟨tb,0,none⟩)] W fun e W'=>(∃ v,e=.returned v)∧J [] W':=by
 refine callsIn_of_wp Tryz.func212 rfl h7 ?_ hro;simp only [Tryz.ntmps212,List.size_toArray,List.length_cons,List.length_nil,Nat.reduceAdd,Nat.reduceSub,Array.replicate_succ,Array.replicate_zero,List.push_toArray,List.append_toArray,List.nil_append,List.cons_append]
 gi_wp2
 gi_loopw [10] (fun i wr=>i=.int .i64 0∧J [] wr) (fun _ _=>0)
 case atStart=>exact⟨rfl,h0⟩
 case round=>
  obtain⟨rfl,hJs⟩:=hrel
  gi_wp2
  go_end0
  exact⟨⟨_,rfl⟩,hJs⟩
set_option maxRecDepth 100000 in
set_option maxHeartbeats 2000000 in
theorem allS_in(F:Fence)(n:Nat)(h6:F.fn 189)(hro:F.round=none)(p:Option Addr)(w:World):
 CallsIn F n Tryz.prog 189 #[.pointer p] w fun e w'=>e=.returned (.func (.func 212) #[] #[.pointer (some ⟨w.heap.size,0,none⟩)])∧w'=w.alloc (.cells #[.pointer p] 196):=by
 refine callsIn_of_wp Tryz.func189 rfl h6 ?_ hro;simp only [Tryz.ntmps189,List.size_toArray,List.length_cons,List.length_nil,Nat.reduceAdd,Nat.reduceSub,Array.replicate_succ,Array.replicate_zero,List.push_toArray,List.append_toArray,List.nil_append,List.cons_append]
 gi_wp2
 go_ret;exact⟨rfl,rfl⟩
theorem allStopsS{α:Type}(kf vf:α->ByteArray)(F:Fence)(n:Nat)(h7:F.fn 212)(hro:F.round=none)(hn:1<=n)(tb g n₀:Nat)(sv:Value)(zs:List α)(hl:zs.length<=1000000)(w:World)(htb:tb<w.heap.size)(hg:g<n₀)(hn₀:n₀<=w.heap.size)
 (kb:w.cell? ⟨tb,0,none⟩=some (.pointer (some ⟨g,0,none⟩))) (kg:w.cell? ⟨g,1,none⟩=some sv) (hR:RwsS kf vf n₀ w sv zs):
 SeqStopsK F n Tryz.prog 212 #[.pointer (some ⟨tb,0,none⟩)] (fun x:α=>#[(Value.string (kf x)),(Value.string (vf x))]) (Below n₀) (fun ys=>ys=zs) (fun pre=>pre<+:zs) zs.length w:=fun l J Jx W hW hJ _ hY h0=>by
 have kb':=(hW.cell (p:=⟨tb,0,none⟩) htb).trans kb;have kg':=(hW.cell (p:=⟨g,1,none⟩) (Nat.lt_of_lt_of_le hg hn₀)).trans kg
 rcases hR.below (hW.mono hn₀) with⟨rfl,rfl⟩|⟨b,off,cap,rfl,hb,hcp,hcs⟩
 ·exact(all1nS_in F n h7 hro l tb g J W kb' kg' h0).mono fun e W' ⟨he,hj⟩=>⟨he,.inl ⟨_,rfl,hj⟩⟩
 ·exact all1S_in kf vf F n h7 hro hn l tb g n₀ b off cap (.pointer none) zs hl hcp hb J Jx (fun s W1 W2 hs hgr=>hJ s W1 W2 none hs hgr (fun r e=>by cases e)) hY W kb' kg' hcs (Nat.le_trans hn₀ hW.size) h0
end Go.Proofs.YtcodajnebegdiaaGreat
namespace Go.Proofs.YtcodajnebegdiaaGreat
open Go.RowKit Go.Shelf
set_option linter.unusedVariables false
attribute [local go_sem] Oper.semAt_some
theorem infoStrV:(Tryz.prog.info? 9).map (fun i=>(i.zero,i.size,i.bytes))=some (some (.string ByteArray.empty),1,16):=by kernel_rfl
set_option maxRecDepth 100000 in
set_option maxHeartbeats 2000000 in
theorem valuesOf_in(F:Fence)(n:Nat)(h3:F.fn 150)(h4:F.fn 189)(h5:F.fn 212)(hro:F.round=none)(hn:3<=n)
 (g:Nat) (sv:Value) (zs:List (ByteArray×ByteArray)) (hl:zs.length<=1000000) (w:World) (hg:g<w.heap.size) (kg:w.cell? ⟨g,1,none⟩=some sv) (hR:RwsS (fun p:ByteArray×ByteArray=>p.1) (fun p=>p.2) w.heap.size w sv zs):
 CallsIn F n Tryz.prog 150 #[.pointer (some ⟨g,0,none⟩)] w fun e W'=>∃ v,e=.returned v∧W'.ownsRow w.heap.size 9 1 v zs.length (zs.map fun p=>.string p.2)∧Below w.heap.size w W':=by
 have h1:1<=n:=by omega
 obtain⟨i0,hi,hz0,hz1,hz2⟩:=info_parts infoStrV;refine callsIn_of_wp_marks Tryz.func150 rfl h3 ?_ hro;simp only [Tryz.ntmps150,List.size_toArray,List.length_cons,List.length_nil,Nat.reduceAdd,Nat.reduceSub,Array.replicate_succ,Array.replicate_zero,List.push_toArray,List.append_toArray,List.nil_append,List.cons_append]
 gi_wp2_with (gi_at_call 189;refine(allS_in F (n-1) h4 hro _ _).mono ?_;rintro e w' ⟨rfl,rfl⟩)
 have bO:=Boxed.new w 52 (.slice none 0 0);have bN:=Boxed.new (w.alloc (.cells #[.slice none 0 0] 52)) 196 (.pointer (some ⟨g,0,none⟩));rw [World.size_alloc] at bN;have hB0:Below w.heap.size w ((w.alloc (.cells #[.slice none 0 0] 52)).alloc (.cells #[.pointer (some ⟨g,0,none⟩)] 196)):=((Below.refl _ w).alloc (Nat.le_refl _) _).alloc (by simp) _;have kg2:=(hB0.cell (p:=⟨g,1,none⟩) hg).trans kg
 refine wpIn_rangeFunc_ownG hro h1 (gf:=212) (lb:=#[.pointer (some ⟨w.heap.size+1,0,none⟩)]) rfl h5 (enters_of Tryz.func212 (by kernel_rfl) rfl)
  (allStopsS (fun p:ByteArray×ByteArray=>p.1) (fun p=>p.2) F (n-1) h5 hro (by omega) (w.heap.size+1) g w.heap.size sv zs hl _ (by simp) hg (by simp;omega) bN.cell kg2 (hR.below hB0)) belowK_t (belowK_b (by simp;omega)) (Below.refl _ _) (fun _=>rfl)
  (fun pre W=>(∃ v,Boxed W w.heap.size 52 v∧W.ownsRow w.heap.size 9 1 v pre.length (pre.map fun p=>.string p.2)∧True)∧Below w.heap.size w W)
  (fun _ _ _=>False)
  (OwnFrom.and (Own.from (holdsRow_own w.heap.size w.heap.size 52 9 1 (fun pre:List (ByteArray×ByteArray)=>pre.length) (fun pre=>pre.map fun p=>.string p.2) (fun pre v=>True)) _) (ownFrom_below (Nat.le_refl _) (by simp;omega)))
  (fun _ _ _ _ _ hs _ _=>hs)
  ⟨⟨_,bO.alloc _,World.ownsRow_nil _ _ _ _,trivial⟩,hB0⟩
  (fun x=>{tmps:=#[.pointer (some ⟨g,0,none⟩),undef,.slice none 0 0,.pointer (some ⟨w.heap.size,0,none⟩),undef,.string x.2,.pointer (some ⟨g,0,none⟩),.func (.func 212) #[] #[.pointer (some ⟨w.heap.size+1,0,none⟩)],.string x.1,.string x.2,undef,undef,undef,undef,undef],defers:=[]}) ?assign ?body ?done ?stop
 case assign=>
  intro l x W K hK
  gi_wp2
  exact hK
 case body=>
  rintro l pre x W ⟨⟨v,hv,hrow,-⟩,hB⟩ hlt;have hc:=hv.cell;have hm:zs.length<=maxLen:=by unfold maxLen;omega
  gi_wp2_with (gi_at_builtin;refine wpListIn_append_own _ rfl _ _ 52 rfl w.heap.size 9 i0 (.string ByteArray.empty) 1 16 Tryz.underlying52 hi hz0 hz1 hz2 rfl (by decide) _ _ _ rfl (hrow.alloc _) ⟨W.heap.size,0,none⟩ 1 1 [.string x.2] rfl rfl (cell_one_new _ _ _) (by simp [Value.oneCell']) (by omega) (by omega) (by have:=hB.size;simp;omega) ?_;intro v' w1 hown' hgrow _;obtain⟨g',cap',rfl⟩:=ownsRow_succ hown';obtain⟨hv1,hv2,hr2,hk2,hb2⟩:=hv.appended (by decide) hrow hB.size (Nat.le_refl _) hown' hgrow;have hc1:=hv1.cell;have hf1:=hv1.frozen)
  exact⟨hk2.from _,hb2,⟨_,hv2,by simpa using hr2,trivial⟩,hB.trans hb2⟩
 case done=>
  rintro D ys W hD rfl ⟨⟨v,hv,hrow,-⟩,hB⟩ hK;have hc:=hv.cell
  gi_wp2
  refine⟨by simp,.inl ⟨_,_,rfl,run_takeDeferred hK,?_⟩⟩;exact⟨_,results_tmp rfl _ _ _,v,rfl,ownsRow_putObj hrow _ hK rfl,hB.trans (belowK_b (w:=w) (Nat.le_refl _) W D _ _ (by simp at hD;omega) hK rfl rfl)⟩
 case stop=>
  rintro D c pre W _ _ h _;exact h.elim
theorem valuesOf_any(g:Nat)(sv:Value)(zs:List (ByteArray×ByteArray))(hl:zs.length<=1000000)(w:World)(hg:g<w.heap.size)(kg:w.cell? ⟨g,1,none⟩=some sv)(hR:RwsS (fun p:ByteArray×ByteArray=>p.1) (fun p=>p.2) w.heap.size w sv zs):
 Calls Tryz.prog 150 #[.pointer (some ⟨g,0,none⟩)] w fun e W'=>∃ v,e=.returned v∧W'.ownsRow w.heap.size 9 1 v zs.length (zs.map fun p=>.string p.2)∧Below w.heap.size w W':=
 (callsIn_wide (n:=3)).1 (valuesOf_in _ 3 trivial trivial trivial rfl (by omega) g sv zs hl w hg kg hR)
end Go.Proofs.YtcodajnebegdiaaGreat
