import Derived.Test.YtieobflhfcgliaaGreatJMath
import Derived.RegionTactic
import Derived.BigRegion
import Derived.Deep.Slices
import Derived.ChangeSame
import Derived.Test.YtieobflhfcgliaaGreatJDzE
import Derived.Lib.SmallJoins
namespace Go.Proofs.YtieobflhfcgliaaGreat
open Go.RowKit
set_option linter.unusedVariables false
def szR(r:Rr)(L:Int):Int:=if(r.own.size:Int)+r.da.size<=L then L-r.own.size-r.da.size else -1
set_option maxRecDepth 100000 in
set_option maxHeartbeats 800000 in
theorem szRR_any(r:Rr)(L:Int)(w:World)(h0:0<=L)(h1:L<=1048576)(ho:r.own.size<=maxLen)(hd:r.da.size<=maxLen):
 Calls Tryz.prog 36 #[.agg #[.string r.own,.int .i64 r.ty,.int .i64 r.cl,.int .i64 r.tt,.string r.da],.int .i64 L] w fun e w'=>e=.returned (.int .i64 (szR r L))∧Below w.heap.size w w':=by
 unfold maxLen at ho hd;obtain⟨o,ty,cl,tt,da⟩:=r;simp only at ho hd
 have hB:=(Below.refl w.heap.size w).alloc (Nat.le_refl _) (.cells #[.string o,.int .i64 ty,.int .i64 cl,.int .i64 tt,.string da] 42)
 by_cases hm:L-o.size<0
 ·have HS:Hid (szR ⟨o,ty,cl,tt,da⟩ L= -1):=if_neg (by simp only;omega);go_enter Tryz.func36,Tryz.ntmps36;go_wp2;go_ret;rw [HS.out];exact⟨rfl,hB⟩
 ·have hm':0<=L-o.size:=by omega
  by_cases hn:L-o.size-da.size<0
  ·have HS:Hid (szR ⟨o,ty,cl,tt,da⟩ L= -1):=if_neg (by simp only;omega);go_enter Tryz.func36,Tryz.ntmps36;go_wp2;go_ret;rw [HS.out];exact⟨rfl,hB⟩
  ·have hn':0<=L-o.size-da.size:=by omega
   have HS:Hid (szR ⟨o,ty,cl,tt,da⟩ L=L-o.size-da.size):=if_pos (by simp only;omega);go_enter Tryz.func36,Tryz.ntmps36;go_wp2;go_ret;rw [HS.out];exact⟨rfl,hB⟩
set_option maxRecDepth 100000 in
set_option maxHeartbeats 1600000 in
theorem szRRS_any(v:Value)(xs:List Rr)(L:Int)(w:World)(h:CRow w v xs.length 5 (rvVs xs))(hx:∀ r∈xs,r.own.size<=maxLen∧r.da.size<=maxLen)(h0:0<=L)(h1:L<=1048576):
 Calls Tryz.prog 37 #[v,.int .i64 L] w fun e w'=>e=.returned (.int .i64 (szRS xs L))∧Below w.heap.size w w':=by
 obtain⟨_,a,cap,rfl,hcap,hmx,hc⟩:=h;unfold maxLen at hmx
 by_cases hm:L<xs.length
 ·have HS:Hid (szRS xs L= -1):=if_neg (by omega);have hm':L-(xs.length:Int)<0:=by omega
  clear hx hc;go_enter Tryz.func37,Tryz.ntmps37;go_wp2;go_ret;rw [HS.out];exact⟨rfl,Below.refl _ _⟩
 ·have hl:(xs.length:Int)<=1048576:=by omega
  have hm':(0:Int)<=L-(xs.length:Int):=by omega
  have hsz:=fun(r:Rr) (hr:r∈xs) (K:Int) (W:World) (h0:0<=K) (h1:K<=1048576)=>szRR_any r K W h0 h1 (hx r hr).1 (hx r hr).2
  go_enter Tryz.func37,Tryz.ntmps37;go_wp2
  go_loopw [1,5] (fun t i wr=>∃ k:Nat,k<=xs.length∧i=.int .i64 k∧t=.int .i64 (L-xs.length-rsum (xs.take k))∧Hid ((xs.length:Int)+rsum (xs.take k)<=L)∧Below w.heap.size w wr) (fun _ i _=>xs.length-(intOf i).toNat)
  case atStart=>exact⟨0,Nat.zero_le _,rfl,by simp [rsum],by show _<=L;simp [rsum];omega,Below.refl _ _⟩
  case round=>
   obtain⟨k,hk,rfl,rfl,hle,hbel⟩:=hrel
   by_cases hlt:k<xs.length
   ·obtain⟨x,hxk⟩:∃ x,xs[k]? =some x:=⟨_,List.getElem?_eq_getElem hlt⟩;obtain⟨b,off,rfl,hcell⟩:=hc (by omega);obtain⟨c0,c1,c2,c3,c4⟩:=rv_cells hcell hxk;have put:∀ {O:Nat} {z:Value},w.cell? ⟨b,O,none⟩=some z->wr.cell? ⟨b,O,none⟩=some z:=fun h=>(hbel.cell (World.block_lt_of_cell? w _ h)).trans h
    replace c0:=put c0
    replace c1:=put c1
    replace c2:=put c2
    replace c3:=put c3
    replace c4:=put c4
    have HS:Hid (rsum (xs.take (k+1))=rsum (xs.take k)+(x.own.size+x.da.size)):=rsum_step xs k x hxk;have hs1:Hid (rsum (xs.take (k+1))<=rsum xs):=rsum_take_le xs (k+1);have hone:=hsz x (List.mem_of_getElem? hxk) (L-xs.length-rsum (xs.take k)) wr (by have:=hle.out;omega) (by omega);have i1:(0:Int)<=(k:Int):=by omega
    have i2:(k:Int)<(xs.length:Int):=by omega
    by_cases hb:(x.own.size:Int)+x.da.size<=L-xs.length-rsum (xs.take k)
    ·have e1:szR x (L-xs.length-rsum (xs.take k))=L-xs.length-rsum (xs.take (k+1)):=by
      have:=HS.out;rw [szR,if_pos hb];omega
     have hnn:0<=L-(xs.length:Int)-rsum (xs.take (k+1)):=by have:=HS.out;omega
     have hle2:Hid ((xs.length:Int)+rsum (xs.take (k+1))<=L):=by show _<=L;omega
     rw [e1] at hone;clear hxk hcell hc hx hsz HS hb e1 hs1;generalize hL2:(L-(xs.length:Int)-(rsum (xs.take (k+1)):Int))=L2 at*;generalize (L-(xs.length:Int)-(rsum (xs.take k):Int))=L1 at*;go_wp2_with (go_at_call 36;refine hone.mono ?_;rintro e w1 ⟨rfl,hb1⟩)
     go_roundw
     case rel=>exact⟨k+1,by omega,by go_num,by rw [hL2],hle2,Nm.below_two hbel hb1⟩
     case measure=>simp [intOf];omega
    ·have HZ:Hid (szRS xs L= -1):=if_neg (by have:=HS.out;have:=hs1.out;omega);have e1:szR x (L-xs.length-rsum (xs.take k))= -1:=if_neg hb;rw [e1] at hone;clear hxk hcell hc hx hsz HS hb e1 hs1;generalize (L-(xs.length:Int)-(rsum (xs.take k):Int))=L1 at*;go_wp2_with (go_at_call 36;refine hone.mono ?_;rintro e w1 ⟨rfl,hb1⟩)
     go_ret;rw [HZ.out];exact⟨rfl,Nm.below_two hbel hb1⟩
   ·have hkl:k=xs.length:=by omega
    have HZ:Hid (szRS xs L=L-xs.length-rsum (xs.take k)):=by
     have:=hle.out;rw [hkl,List.take_length] at this ⊢;exact if_pos this
    have i2:(xs.length:Int)<=(k:Int):=by omega
    clear hc hx hsz;generalize (L-(xs.length:Int)-(rsum (xs.take k):Int))=L1 at*;go_wp2;go_ret;rw [HZ.out];exact⟨rfl,hbel⟩
set_option maxRecDepth 100000 in
set_option maxHeartbeats 1600000 in
theorem toRR_any(r:Rr)(w:World):
 Calls Tryz.prog 39 #[.agg #[.string r.own,.int .i64 r.ty,.int .i64 r.cl,.int .i64 r.tt,.string r.da]] w fun e w'=>e=.returned (.agg #[.string r.own,.int .i64 r.ty,.int .i64 r.cl,.int .i64 r.tt,.string r.da])∧Below w.heap.size w w':=by
 obtain⟨o,ty,cl,tt,da⟩:=r;go_enter Tryz.func39,Tryz.ntmps39;go_wp2;refine bodyPost_ret (v:=.agg #[.string o,.int .i64 ty,.int .i64 cl,.int .i64 tt,.string da]) ?_ rfl ⟨rfl,?_⟩
 ·simp [results,Tryz.results39,go_sem,Result.andThen]
 ·exact(((Below.refl _ _).alloc (Nat.le_refl _) _).alloc (by simp) _).alloc (by simp;omega) _
theorem set5{cs:List Value}{k:Nat}{A:List Value}(a b c d e:Value)(hl:k*5+5<=cs.length)(h:cs.take (k*5)=A):
 (((((cs.set (k*5) a).set (k*5+1) b).set (k*5+2) c).set (k*5+3) d).set (k*5+4) e).take ((k+1)*5)=A++[a,b,c,d,e]:=by
 have hs:cs=cs.take (k*5)++cs.drop (k*5):=(List.take_append_drop _ _).symm;have hdl:5<=(cs.drop (k*5)).length:=by simp;omega
 have hpl:(cs.take (k*5)).length=k*5:=by simp;omega
 rw [h] at hs hpl;obtain⟨q,hq⟩:∃ q,q=cs.drop (k*5):=⟨_,rfl⟩;rw [<- hq] at hs hdl
 match q,hdl with
 |y0::y1::y2::y3::y4::r,_=>
  rw [hs];simp only [List.set_append,hpl,Nat.lt_irrefl,if_false,Nat.sub_self,show ¬(k*5+1<k*5) by omega,show ¬(k*5+2<k*5) by omega,show ¬(k*5+3<k*5) by omega,show ¬(k*5+4<k*5) by omega,Nat.add_sub_cancel_left];simp only [List.set_cons_zero,List.set_cons_succ];rw [List.take_append,hpl,show(k+1)*5-k*5=5 by omega,List.take_of_length_le (by omega)];rfl
theorem Tryz.infoRrz:(Tryz.prog.info? 27).map (fun i=>(i.zero,i.size,i.bytes))=some (some (.agg #[.string ByteArray.empty,.int .i64 0,.int .i64 0,.int .i64 0,.string ByteArray.empty]),5,56):=by kernel_rfl
theorem five_at{w:World}{B e g n cap k:Nat}{cs:List Value}(h:w.ownsRow B e 5 (.slice (some ⟨g,0,none⟩) n cap) n cs)(hk:k<n)(j:Nat)(hj:j<5):∃ y,w.cell? ⟨g,k*5+j,none⟩=some y:=by
 rw [h.cellAt (k*5+j) (by omega)];have:=h.1;exact⟨_,List.getElem?_eq_getElem (by omega)⟩
set_option maxRecDepth 100000 in
set_option maxHeartbeats 1600000 in
theorem toRRS_any(v:Value)(xs:List Rr)(w:World)(h:CRow w v xs.length 5 (rvVs xs))(hlen:xs.length<=1048576):
 Calls Tryz.prog 40 #[v] w fun e w'=>∃ u,e=.returned u∧w'.ownsRow w.heap.size 27 5 u xs.length (rvVs xs)∧Below w.heap.size w w':=by
 obtain⟨i0,hi,hz0,hz1,hz2⟩:=info_parts Tryz.infoRrz;obtain⟨_,a,cap,rfl,hcap,hmx,hc⟩:=h;unfold maxLen at hmx;have hto:=fun(r:Rr) W=>toRR_any r W
 go_enter Tryz.func40,Tryz.ntmps40;go_wp2_with (at_make;refine wpList_make_full _ rfl (.tmp 6) (.tmp 6) 28 rfl w.heap.size 27 i0 _ 5 Tryz.underlying28 hi hz0 hz1 .i64 .i64 _ _ xs.length rfl rfl rfl rfl (by rw [hz2];omega) (by unfold maxLen;omega) (Nat.le_refl _) ?_;intro w2 hown0 hgrow0)
 generalize hcs0:(madeCells (Value.agg #[.string ByteArray.empty,.int .i64 0,.int .i64 0,.int .i64 0,.string ByteArray.empty]).cells (xs.length*5)).toList=cs0 at hown0;clear hcs0
 go_loopw [4] (fun i wr=>∃ (k:Nat) (cs:List Value),k<=xs.length∧i=.int .i64 k∧wr.ownsRow w.heap.size 27 5 (.slice (some ⟨w.heap.size,0,none⟩) xs.length xs.length) xs.length cs∧Hid (cs.take (k*5)=rvVs (xs.take k))∧Below w.heap.size w wr)
  (fun i _=>xs.length-(intOf i).toNat)
 case atStart=>exact⟨0,cs0,Nat.zero_le _,rfl,hown0,by show _=_;simp [rvVs],(Below.refl _ w).grown hgrow0 (Nat.le_refl _) (fun k hk=>by cases hk)⟩
 case round=>
  obtain⟨k,cs,hk,rfl,hown,HT,hbel⟩:=hrel;clear hown0 hgrow0
  by_cases hlt:k<xs.length
  ·obtain⟨x,hx⟩:∃ x,xs[k]? =some x:=⟨_,List.getElem?_eq_getElem hlt⟩;obtain⟨b,off,rfl,hcell⟩:=hc (by omega);obtain⟨c0,c1,c2,c3,c4⟩:=rv_cells hcell hx;have put:∀ {O:Nat} {z:Value},w.cell? ⟨b,O,none⟩=some z->wr.cell? ⟨b,O,none⟩=some z:=fun h=>(hbel.cell (World.block_lt_of_cell? w _ h)).trans h
   replace c0:=put c0
   replace c1:=put c1
   replace c2:=put c2
   replace c3:=put c3
   replace c4:=put c4
   have i1:(0:Int)<=(k:Int):=by omega
   have i2:(k:Int)<(xs.length:Int):=by omega
   have hset:=set5 (.string x.own) (.int .i64 x.ty) (.int .i64 x.cl) (.int .i64 x.tt) (.string x.da) (by have:=hown.1;omega) HT.out
   have HT2:Hid ((((((cs.set (k*5) (.string x.own)).set (k*5+1) (.int .i64 x.ty)).set (k*5+2) (.int .i64 x.cl)).set (k*5+3) (.int .i64 x.tt)).set (k*5+4) (.string x.da)).take ((k+1)*5)=rvVs (xs.take (k+1))):=by
    show _=_
    rw [hset,List.take_add_one,hx,rvVs_app];rfl
   clear hcell hc hset HT;obtain⟨o,ty,cl,tt,da⟩:=x;simp only at c0 c1 c2 c3 c4 HT2
   have hone:=hto ⟨o,ty,cl,tt,da⟩ wr;simp only at hone
   clear hto hx;go_wp2_with (go_at_call 39;refine hone.mono ?_;rintro e w1 ⟨rfl,hb1⟩;have ho1:=own_below hown hb1;obtain⟨y0,hy0⟩:=five_at ho1 hlt 0 (by decide);obtain⟨y1,hy1⟩:=five_at ho1 hlt 1 (by decide);obtain⟨y2,hy2⟩:=five_at ho1 hlt 2 (by decide);obtain⟨y3,hy3⟩:=five_at ho1 hlt 3 (by decide);obtain⟨y4,hy4⟩:=five_at ho1 hlt 4 (by decide);rw [Nat.add_zero] at hy0;have fz:=ho1.frozenAt;clear hone)
   go_roundw
   case rel=>exact⟨k+1,_,by omega,by go_num,(((((ho1.stored (k*5) _).1.stored (k*5+1) _).1.stored (k*5+2) _).1.stored (k*5+3) _).1.stored (k*5+4) _).1,HT2,(((((Nm.below_two hbel hb1).setCell (Nat.le_refl _) _).setCell (Nat.le_refl _) _).setCell (Nat.le_refl _) _).setCell (Nat.le_refl _) _).setCell (Nat.le_refl _) _⟩
   case measure=>simp [intOf];omega
  ·have hkl:k=xs.length:=by omega
   have hcs:cs=rvVs xs:=by
    have e:=HT.out;have hl:=hown.1;rw [hkl,List.take_length,List.take_of_length_le (by omega)] at e;exact e
   subst hcs;have i2:(xs.length:Int)<=(k:Int):=by omega
   clear hc hlt HT hto;go_wp2;go_ret;exact⟨_,rfl,hown,hbel⟩
end Go.Proofs.YtieobflhfcgliaaGreat
namespace Go.Proofs.YtieobflhfcgliaaGreat
open Go.RowKit Go.Deep
set_option linter.unusedVariables false
section
variable {H:Type}{enc:TypeId×Value->H}{w:World}{base:Nat}{spare:Nat->Bool}{held:Bool}
theorem rr_c:Tryz.prog.cellsOf 9=1∧Tryz.prog.cellsOf 2=1∧Tryz.prog.cellsOf 42=5:=⟨by kernel_rfl,by kernel_rfl,by kernel_rfl⟩
set_option maxRecDepth 100000 in
theorem open_rr{fuel:Nat}{cs:List Value}{x:DataW H×List MemPlace}(h:DataW.trod enc Tryz.prog w base spare held fuel 42 cs=some x)(hl:cs.length=5):
 ∃ r:Rr,cs=rvV r∧r.own.size<=maxLen∧r.da.size<=maxLen∧(Lit.int .i64 r.ty).wf=true∧(Lit.int .i64 r.cl).wf=true∧(Lit.int .i64 r.tt).wf=true:=by
 obtain⟨xs,n,_,_,_,hxl,hf⟩:=DataW.trod_struct Tryz.underlying42 h;obtain⟨c1,c2,_⟩:=rr_c
 match cs,hl with
 |[v0,v1,v2,v3,v4],_=>
  have g0:=hf 0 _ rfl;have g1:=hf 1 _ rfl;have g2:=hf 2 _ rfl;have g3:=hf 3 _ rfl;have g4:=hf 4 _ rfl
  match xs,hxl with
  |[y0,y1,y2,y3,y4],_=>
   simp [c1,c2] at g0 g1 g2 g3 g4
   obtain⟨s0,e0,_,w0⟩:=DataW.trod_string Tryz.underlying9 g0;obtain⟨n1,e1,_,w1⟩:=DataW.trod_int Tryz.underlying2 g1;obtain⟨n2,e2,_,w2⟩:=DataW.trod_int Tryz.underlying2 g2;obtain⟨n3,e3,_,w3⟩:=DataW.trod_int Tryz.underlying2 g3;obtain⟨s4,e4,_,w4⟩:=DataW.trod_string Tryz.underlying9 g4;simp at e0 e1 e2 e3 e4;subst e0 e1 e2 e3 e4;exact⟨⟨s0,n1,n2,n3,s4⟩,rfl,w0,w4,w1,w2,w3⟩
theorem choose_rr{n:Nat}{p:Nat->Rr->Prop}(h:∀ i,i<n->∃ x,p i x):∃ f:Nat->Rr,∀ i,i<n->p i (f i):=by
 classical
 refine⟨fun i=>if hi:i<n then Classical.choose (h i hi) else⟨.empty,0,0,0,.empty⟩,fun i hi=>?_⟩;simp only [dif_pos hi];exact Classical.choose_spec (h i hi)
theorem rv_range(f:Nat->Rr):∀ (n k j:Nat),k<n->j<5->(rvVs ((List.range n).map f))[k*5+j]? =(rvV (f k))[j]? :=by
 intro n k j hk hj;exact rvVs_at _ k j (f k) (by simp [hk]) hj
set_option maxRecDepth 100000 in
theorem open_rrs{t:TypeId}{fuel:Nat}{v:Value}{x:DataW H×List MemPlace}(ht:Tryz.prog.underlying t=some (.slice 42))(h:DataW.trod enc Tryz.prog w base spare held fuel t [v]=some x):
 ∃ xs:List Rr,CRow w v xs.length 5 (rvVs xs)∧∀ r∈xs,r.own.size<=maxLen∧r.da.size<=maxLen∧(Lit.int .i64 r.ty).wf=true∧(Lit.int .i64 r.cl).wf=true∧(Lit.int .i64 r.tt).wf=true:=by
 rcases open_slice ht h with⟨e,_⟩|⟨a,len,cap,m,n,D,Pl,e,hb,hl,hm,hmm,_,hx⟩
 ·simp at e;subst e;exact⟨[],⟨rfl,none,0,rfl,Nat.le_refl _,by decide,fun h=>absurd h (by simp)⟩,by simp⟩
 ·simp at e;subst e;have hlm:len<=m:=by rw [hmm];split<;>omega
  obtain⟨_,_,c5⟩:=rr_c;rw [c5] at hx
  obtain⟨f,hf⟩:=choose_rr (n:=len) (p:=fun i r=>(∀ j,j<5->w.cell? ((a.add (i*5)).add j)=(rvV r)[j]?)∧r.own.size<=maxLen∧r.da.size<=maxLen∧(Lit.int .i64 r.ty).wf=true∧(Lit.int .i64 r.cl).wf=true∧(Lit.int .i64 r.tt).wf=true) (fun i hi=>by
   obtain⟨cs',h1,h2⟩:=hx i (by omega);obtain⟨_,hlen,hcell⟩:=World.cells?_some h1;obtain⟨r,rfl,q⟩:=open_rr h2 hlen
   exact⟨r,hcell,q⟩)
  refine⟨(List.range len).map f,⟨?_,some a,cap,by simp,by simpa using hl,hm,fun hpos=>?_⟩,?_⟩
  ·rw [rvVs_len]
  ·have hlen:0<len:=by simpa using hpos
   obtain⟨b,off,spot⟩:=a;have h0:=(hf 0 hlen).1 0 (by decide);have h0':w.cell? ((Addr.mk b off spot).add (0*5+0))=some (.string (f 0).own):=by rw [<- add_add];exact h0
   have hspot:spot=none:=by simpa [Addr.add] using World.cell?_spot h0'
   subst hspot;refine⟨b,off,rfl,?_⟩;intro i y hy
   have hi:i<len*5:=by
    have:=(List.getElem?_eq_some_iff.1 hy).1;rw [rvVs_len] at this;simpa using this
   obtain⟨k,j,hk,hj,rfl⟩:∃ k j,k<len∧j<5∧i=k*5+j:=⟨i / 5,i % 5,by omega,by omega,by omega⟩;rw [rv_range f len k j hk hj] at hy;have:=(hf k hk).1 j hj;rw [add_add,hy,Nm.addr_add] at this;exact this
  ·intro r hr;simp only [List.mem_map,List.mem_range] at hr;obtain⟨i,hi,rfl⟩:=hr;exact(hf i hi).2
end
end Go.Proofs.YtieobflhfcgliaaGreat
namespace Go.Proofs.YtieobflhfcgliaaGreat
open Go.RowKit
set_option linter.unusedVariables false
def szC(a b:Rr)(xs ys:List Rr)(L:Int):Int:=
 if szR a L<0 then -1 else if szR b (szR a L)<0 then -1 else if szRS xs (szR b (szR a L))<0 then -1 else if szRS ys (szRS xs (szR b (szR a L)))<0 then -1 else szRS ys (szRS xs (szR b (szR a L)))
theorem szR_le{r:Rr}{L:Int}(h:¬szR r L<0):(r.own.size:Int)+r.da.size<=L∧0<=szR r L∧szR r L<=L:=by
 unfold szR at*
 split at h
 ·split<;>omega
 ·omega
theorem szRS_le{xs:List Rr}{L:Int}(h:¬szRS xs L<0):(xs.length:Int)+rsum xs<=L∧0<=szRS xs L∧szRS xs L+xs.length<=L:=by
 unfold szRS at*
 split at h
 ·split<;>omega
 ·omega
theorem szRS_neg{xs:List Rr}{L:Int}(h:szRS xs L<0):szRS xs L= -1:=by
 unfold szRS at*
 split at h
 ·omega
 ·rename_i g;rw [if_neg g]
theorem szC_fit{a b:Rr}{xs ys:List Rr}{L:Int}(h:¬szC a b xs ys L<0)(hL:L<=1048576):(a.own.size<=1048576∧a.da.size<=1048576)∧(b.own.size<=1048576∧b.da.size<=1048576)∧(∀ r∈xs,r.own.size<=1048576∧r.da.size<=1048576)∧(∀ r∈ys,r.own.size<=1048576∧r.da.size<=1048576)∧xs.length<=1048576∧ys.length<=1048576∧(xs.length:Int)+ys.length<=L:=by
 unfold szC at h
 split at h
 ·omega
 ·rename_i g1
  split at h
  ·omega
  ·rename_i g2
   split at h
   ·omega
   ·rename_i g3
    split at h
    ·omega
    ·rename_i g4;obtain⟨p1,q1,r1⟩:=szR_le g1;obtain⟨p2,q2,r2⟩:=szR_le g2;obtain⟨p3,q3,r3⟩:=szRS_le g3;obtain⟨p4,q4,r4⟩:=szRS_le g4;generalize szRS ys (szRS xs (szR b (szR a L)))=X4 at*;generalize szRS xs (szR b (szR a L))=X3 at*;generalize szR b (szR a L)=X2 at*;generalize szR a L=X1 at*;refine⟨⟨by omega,by omega⟩,⟨by omega,by omega⟩,fun r hr=>?_,fun r hr=>?_,by omega,by omega,by omega⟩
     ·have:=rsum_mem xs r hr;exact⟨by omega,by omega⟩
     ·have:=rsum_mem ys r hr;exact⟨by omega,by omega⟩
set_option maxRecDepth 100000 in
set_option maxHeartbeats 1600000 in
theorem szChange_any(a b:Rr)(d e:Value)(xs ys:List Rr)(L:Int)(w:World)(h1:CRow w d xs.length 5 (rvVs xs))(h2:CRow w e ys.length 5 (rvVs ys))(ha:RFit a)(hb:RFit b)(hx:∀ r∈xs,RFit r)(hy:∀ r∈ys,RFit r)(h0:0<=L)(hL:L<=1048576):
 Calls Tryz.prog 14 #[cgV a b d e,.int .i64 L] w fun r w'=>r=.returned (.int .i64 (szC a b xs ys L))∧Below w.heap.size w w':=by
 obtain⟨R,HR⟩:∃ R,Hid (R=szC a b xs ys L):=⟨_,rfl⟩;rw [<- HR.out];have hc1:=fun W=>szRR_any a L W h0 hL ha.1 ha.2.1
 have hc2:=fun W (l0:0<=szR a L) (l1:szR a L<=1048576)=>szRR_any b (szR a L) W l0 l1 hb.1 hb.2.1
 have hc3:=fun W (hW:Below w.heap.size w W) (l0:0<=szR b (szR a L)) (l1:szR b (szR a L)<=1048576)=>szRRS_any d xs (szR b (szR a L)) W (h1.below hW) (fun r hr=>⟨(hx r hr).1,(hx r hr).2.1⟩) l0 l1
 have hc4:=fun W (hW:Below w.heap.size w W) (l0:0<=szRS xs (szR b (szR a L))) (l1:szRS xs (szR b (szR a L))<=1048576)=>szRRS_any e ys (szRS xs (szR b (szR a L))) W (h2.below hW) (fun r hr=>⟨(hy r hr).1,(hy r hr).2.1⟩) l0 l1
 obtain⟨_,da,dc,rfl,-,-,-⟩:=h1;obtain⟨_,ea,ec,rfl,-,-,-⟩:=h2;have b0:=(Below.refl w.heap.size w).alloc (Nat.le_refl _) (.cells (cgL a b (.slice da xs.length dc) (.slice ea ys.length ec)).toArray 45);have k0:=blk_new w (cgL a b (.slice da xs.length dc) (.slice ea ys.length ec)).toArray 45;have r0:=fun i=>blk_cell k0 i
 clear ha hb hx hy
 by_cases g1:szR a L<0
 ·have HN:Hid (R= -1):=by show _=_;rw [HR.out,szC,if_pos g1]
  clear HR hc2 hc3 hc4;generalize szR a L=L1 at*;go_enter Tryz.func14,Tryz.ntmps14;go_wp2_with fail
  refine(hc1 _).mono ?_;rintro r w1 ⟨rfl,c1⟩;have bw1:=Nm.below_two b0 c1;go_wp2;go_ret;rw [HN.out];exact⟨rfl,by assumption⟩
 ·obtain⟨p1,q1,r1⟩:=szR_le g1
  replace hc2:=fun W=>hc2 W q1 (by omega)
  by_cases g2:szR b (szR a L)<0
  ·have HN:Hid (R= -1):=by show _=_;rw [HR.out,szC,if_neg g1,if_pos g2]
   clear HR hc3 hc4;generalize szR b (szR a L)=L2 at*;generalize szR a L=L1 at*;go_enter Tryz.func14,Tryz.ntmps14;go_wp2_with fail
   refine(hc1 _).mono ?_;rintro r w1 ⟨rfl,c1⟩;have bw1:=Nm.below_two b0 c1;have k1:=blk_below k0 c1;clear r0 k0;have r0:=fun i=>blk_cell k1 i
   go_wp2_with fail
   refine(hc2 _).mono ?_;rintro r w2 ⟨rfl,c2⟩;have bw2:=Nm.below_two bw1 c2;go_wp2;go_ret;rw [HN.out];exact⟨rfl,by assumption⟩
  ·obtain⟨p2,q2,r2⟩:=szR_le g2
   replace hc3:=fun W hW=>hc3 W hW q2 (by omega)
   by_cases g3:szRS xs (szR b (szR a L))<0
   ·have HN:Hid (R= -1):=by show _=_;rw [HR.out,szC,if_neg g1,if_neg g2,if_pos g3]
    clear HR hc4;generalize szRS xs (szR b (szR a L))=L3 at*;generalize szR b (szR a L)=L2 at*;generalize szR a L=L1 at*;go_enter Tryz.func14,Tryz.ntmps14;go_wp2_with fail
    refine(hc1 _).mono ?_;rintro r w1 ⟨rfl,c1⟩;have bw1:=Nm.below_two b0 c1;have k1:=blk_below k0 c1;clear r0 k0;have r0:=fun i=>blk_cell k1 i
    go_wp2_with fail
    refine(hc2 _).mono ?_;rintro r w2 ⟨rfl,c2⟩;have bw2:=Nm.below_two bw1 c2;have k2:=blk_below k1 c2;clear r0 k1;have r0:=fun i=>blk_cell k2 i
    go_wp2_with fail
    refine(hc3 _ bw2).mono ?_;rintro r w3 ⟨rfl,c3⟩;have bw3:=Nm.below_two bw2 c3;go_wp2;go_ret;rw [HN.out];exact⟨rfl,by assumption⟩
   ·obtain⟨p3,q3,r3⟩:=szRS_le g3
    replace hc4:=fun W hW=>hc4 W hW q3 (by omega)
    have HN:Hid (R=szRS ys (szRS xs (szR b (szR a L)))):=by
     show _=_
     rw [HR.out,szC,if_neg g1,if_neg g2,if_neg g3];split
     ·rename_i g4;exact(szRS_neg g4).symm
     ·rfl
    have g4:szRS ys (szRS xs (szR b (szR a L)))<0->szRS ys (szRS xs (szR b (szR a L)))= -1:=fun g4=>szRS_neg g4
    clear HR;generalize szRS ys (szRS xs (szR b (szR a L)))=L4 at*;generalize szRS xs (szR b (szR a L))=L3 at*;generalize szR b (szR a L)=L2 at*;generalize szR a L=L1 at*
    by_cases g5:L4<0
    ·have g6:=g4 g5;subst g6;clear g4;go_enter Tryz.func14,Tryz.ntmps14;go_wp2_with fail
     refine(hc1 _).mono ?_;rintro r w1 ⟨rfl,c1⟩;have bw1:=Nm.below_two b0 c1;have k1:=blk_below k0 c1;clear r0 k0;have r0:=fun i=>blk_cell k1 i
     go_wp2_with fail
     refine(hc2 _).mono ?_;rintro r w2 ⟨rfl,c2⟩;have bw2:=Nm.below_two bw1 c2;have k2:=blk_below k1 c2;clear r0 k1;have r0:=fun i=>blk_cell k2 i
     go_wp2_with fail
     refine(hc3 _ bw2).mono ?_;rintro r w3 ⟨rfl,c3⟩;have bw3:=Nm.below_two bw2 c3;have k3:=blk_below k2 c3;clear r0 k2;have r0:=fun i=>blk_cell k3 i
     go_wp2_with fail
     refine(hc4 _ bw3).mono ?_;rintro r w4 ⟨rfl,c4⟩;have bw4:=Nm.below_two bw3 c4;go_wp2;go_ret;rw [HN.out];exact⟨rfl,by assumption⟩
    ·clear g4;go_enter Tryz.func14,Tryz.ntmps14;go_wp2_with fail
     refine(hc1 _).mono ?_;rintro r w1 ⟨rfl,c1⟩;have bw1:=Nm.below_two b0 c1;have k1:=blk_below k0 c1;clear r0 k0;have r0:=fun i=>blk_cell k1 i
     go_wp2_with fail
     refine(hc2 _).mono ?_;rintro r w2 ⟨rfl,c2⟩;have bw2:=Nm.below_two bw1 c2;have k2:=blk_below k1 c2;clear r0 k1;have r0:=fun i=>blk_cell k2 i
     go_wp2_with fail
     refine(hc3 _ bw2).mono ?_;rintro r w3 ⟨rfl,c3⟩;have bw3:=Nm.below_two bw2 c3;have k3:=blk_below k2 c3;clear r0 k2;have r0:=fun i=>blk_cell k3 i
     go_wp2_with fail
     refine(hc4 _ bw3).mono ?_;rintro r w4 ⟨rfl,c4⟩;have bw4:=Nm.below_two bw3 c4;go_wp2;go_ret;rw [HN.out];exact⟨rfl,by assumption⟩
section
open Go.Deep
variable {H:Type}{enc:TypeId×Value->H}{w:World}{base:Nat}{spare:Nat->Bool}{held:Bool}
theorem cg_c:Tryz.prog.cellsOf 42=5∧Tryz.prog.cellsOf 43=1∧Tryz.prog.cellsOf 45=12:=⟨by kernel_rfl,by kernel_rfl,by kernel_rfl⟩
set_option maxRecDepth 100000 in
theorem open_change{r:Reach}{b0:Nat}{v:Value}{d:DataW H}{p:List MemPlace}(hv:Value.okWide Tryz.prog w r b0 45 v)(h:DataW.Trod enc Tryz.prog w base spare held 45 v d p):
 ∃ (a b:Rr) (q u:Value) (xs ys:List Rr),v=cgV a b q u∧CRow w q xs.length 5 (rvVs xs)∧CRow w u ys.length 5 (rvVs ys)∧RFit a∧RFit b∧(∀ r∈xs,RFit r)∧∀ r∈ys,RFit r:=by
 obtain⟨c5,cs1,cm⟩:=cg_c;obtain⟨cs,rfl,hsz⟩:=Go.WideShapes.okWide_struct Tryz.underlying45 hv;obtain⟨fuel,hf⟩:=h;obtain⟨zs,n,_,_,_,hxl,hf⟩:=DataW.trod_struct Tryz.underlying45 hf;have hl:cs.toList.length=12:=by simpa using hsz.trans cm
 obtain⟨l⟩:=cs;simp only [Value.cells] at hf;have hl:l.length=12:=hl;clear hsz
 match l,hl with
 |[v0,v1,v2,v3,v4,v5,v6,v7,v8,v9,v10,v11],_=>
  have g0:=hf 0 _ rfl;have g1:=hf 1 _ rfl;have g2:=hf 2 _ rfl;have g3:=hf 3 _ rfl
  match zs,hxl with
  |[y0,y1,y2,y3],_=>
   simp [c5,cs1] at g0 g1 g2 g3
   obtain⟨a,e0,f0⟩:=open_rr g0 rfl;obtain⟨b,e1,f1⟩:=open_rr g1 rfl;obtain⟨xs,q1,q2⟩:=open_rrs Tryz.underlying43 g2;obtain⟨ys,u1,u2⟩:=open_rrs Tryz.underlying43 g3;simp [rvV] at e0 e1
   obtain⟨rfl,rfl,rfl,rfl,rfl⟩:=e0;obtain⟨rfl,rfl,rfl,rfl,rfl⟩:=e1;exact⟨a,b,v10,v11,xs,ys,rfl,q1,u1,f0,f1,q2,u2⟩
end
theorem setAll_midC{b:Nat}{T:TypeId}:∀ (vs old pre suf:List Value) (w:World),Blk w b (pre++(old++suf)).toArray T->old.length=vs.length->Blk (setAll w b pre.length vs) b (pre++(vs++suf)).toArray T:=by
 intro vs
 induction vs with
 |nil=>
  intro old pre suf w h hl;have:old=[]:=List.length_eq_zero_iff.1 hl;subst this
  exact h
 |cons v vs ih=>
  intro old pre suf w h hl
  cases old with
  |nil=>simp at hl
  |cons x old=>
   have h2:=blk_set h pre.length v;have e:(pre++(x::old++suf)).toArray.setIfInBounds pre.length v=((pre++[v])++(old++suf)).toArray:=by simp
   rw [e] at h2;have h3:=ih old (pre++[v]) suf _ h2 (by simpa using hl);rw [List.length_append] at h3;simpa [setAll] using h3
set_option maxRecDepth 100000 in
set_option maxHeartbeats 3200000 in
theorem toChange_any(a b:Rr)(d e:Value)(xs ys:List Rr)(w:World)(h1:CRow w d xs.length 5 (rvVs xs))(h2:CRow w e ys.length 5 (rvVs ys))(l1:xs.length<=1048576)(l2:ys.length<=1048576):
 Calls Tryz.prog 16 #[cgV a b d e] w fun r w'=>∃ d' e',r=.returned (cgV a b d' e')∧COwn w' w.heap.size d' e' xs ys∧Below w.heap.size w w':=by
 have hrr:=fun(r:Rr) W=>toRR_any r W
 have hx:=fun W (hW:Below w.heap.size w W)=>toRRS_any d xs W (h1.below hW) l1
 have hy:=fun W (hW:Below w.heap.size w W)=>toRRS_any e ys W (h2.below hW) l2
 obtain⟨_,da,dc,rfl,-,-,-⟩:=h1;obtain⟨_,ea,ec,rfl,-,-,-⟩:=h2;have hz1:(w.alloc (.cells (cgL a b (.slice da xs.length dc) (.slice ea ys.length ec)).toArray 45)).heap.size=w.heap.size+1:=by simp
 have hz2:((w.alloc (.cells (cgL a b (.slice da xs.length dc) (.slice ea ys.length ec)).toArray 45)).alloc (.cells #[.string ⟨#[]⟩,.int .i64 0,.int .i64 0,.int .i64 0,.string ⟨#[]⟩,.string ⟨#[]⟩,.int .i64 0,.int .i64 0,.int .i64 0,.string ⟨#[]⟩,.slice none 0 0,.slice none 0 0] 30)).heap.size=w.heap.size+1+1:=by simp
 have hB:=(((Below.refl w.heap.size w).alloc (Nat.le_refl _) (.cells (cgL a b (.slice da xs.length dc) (.slice ea ys.length ec)).toArray 45)).alloc (by simp) (.cells #[.string ⟨#[]⟩,.int .i64 0,.int .i64 0,.int .i64 0,.string ⟨#[]⟩,.string ⟨#[]⟩,.int .i64 0,.int .i64 0,.int .i64 0,.string ⟨#[]⟩,.slice none 0 0,.slice none 0 0] 30)).alloc (by simp;omega) (.cells #[.string ⟨#[]⟩,.int .i64 0,.int .i64 0,.int .i64 0,.string ⟨#[]⟩,.string ⟨#[]⟩,.int .i64 0,.int .i64 0,.int .i64 0,.string ⟨#[]⟩,.slice none 0 0,.slice none 0 0] 30);have k0:=blk_alloc (blk_alloc (blk_new w (cgL a b (.slice da xs.length dc) (.slice ea ys.length ec)).toArray 45) (.cells #[.string ⟨#[]⟩,.int .i64 0,.int .i64 0,.int .i64 0,.string ⟨#[]⟩,.string ⟨#[]⟩,.int .i64 0,.int .i64 0,.int .i64 0,.string ⟨#[]⟩,.slice none 0 0,.slice none 0 0] 30)) (.cells #[.string ⟨#[]⟩,.int .i64 0,.int .i64 0,.int .i64 0,.string ⟨#[]⟩,.string ⟨#[]⟩,.int .i64 0,.int .i64 0,.int .i64 0,.string ⟨#[]⟩,.slice none 0 0,.slice none 0 0] 30);have k1:=blk_alloc (blk_new (w.alloc (.cells (cgL a b (.slice da xs.length dc) (.slice ea ys.length ec)).toArray 45)) #[.string ⟨#[]⟩,.int .i64 0,.int .i64 0,.int .i64 0,.string ⟨#[]⟩,.string ⟨#[]⟩,.int .i64 0,.int .i64 0,.int .i64 0,.string ⟨#[]⟩,.slice none 0 0,.slice none 0 0] 30) (.cells #[.string ⟨#[]⟩,.int .i64 0,.int .i64 0,.int .i64 0,.string ⟨#[]⟩,.string ⟨#[]⟩,.int .i64 0,.int .i64 0,.int .i64 0,.string ⟨#[]⟩,.slice none 0 0,.slice none 0 0] 30);have k2:=blk_new ((w.alloc (.cells (cgL a b (.slice da xs.length dc) (.slice ea ys.length ec)).toArray 45)).alloc (.cells #[.string ⟨#[]⟩,.int .i64 0,.int .i64 0,.int .i64 0,.string ⟨#[]⟩,.string ⟨#[]⟩,.int .i64 0,.int .i64 0,.int .i64 0,.string ⟨#[]⟩,.slice none 0 0,.slice none 0 0] 30)) #[.string ⟨#[]⟩,.int .i64 0,.int .i64 0,.int .i64 0,.string ⟨#[]⟩,.string ⟨#[]⟩,.int .i64 0,.int .i64 0,.int .i64 0,.string ⟨#[]⟩,.slice none 0 0,.slice none 0 0] 30;rw [hz1] at k1;rw [hz2] at k2;clear hz1 hz2;have r0:=fun i=>blk_cell k0 i
 go_enter Tryz.func16,Tryz.ntmps16;go_wp2_with fail
 refine(hrr a _).mono ?_;rintro e w1 ⟨rfl,b1⟩;have B1:=Nm.below_two hB b1;have y0:=blk_below k0 b1;have y1:=blk_below k1 b1;have y2:=blk_below k2 b1;clear r0 k0 k1 k2 hB;have r0:=fun i=>blk_cell y0 i
 have r2:=fun i=>blk_cell y2 i
 have f2:=fun i=>blk_frozen y2 i
 go_wp2_with fail
 clear r0 r2 f2;obtain⟨W1,hW1⟩:∃ W,W=setAll w1 (w.heap.size+1+1) 0 [.string a.own,.int .i64 a.ty,.int .i64 a.cl,.int .i64 a.tt,.string a.da]:=⟨_,rfl⟩
 have z2:Blk W1 (w.heap.size+1+1) #[.string a.own,.int .i64 a.ty,.int .i64 a.cl,.int .i64 a.tt,.string a.da,.string ⟨#[]⟩,.int .i64 0,.int .i64 0,.int .i64 0,.string ⟨#[]⟩,.slice none 0 0,.slice none 0 0] 30:=by
  rw [hW1];exact setAll_midC [.string a.own,.int .i64 a.ty,.int .i64 a.cl,.int .i64 a.tt,.string a.da] [.string ⟨#[]⟩,.int .i64 0,.int .i64 0,.int .i64 0,.string ⟨#[]⟩] [] [.string ⟨#[]⟩,.int .i64 0,.int .i64 0,.int .i64 0,.string ⟨#[]⟩,.slice none 0 0,.slice none 0 0] w1 y2 rfl
 have z0:=setAll_far (b:=w.heap.size) (c:=w.heap.size+1+1) (by omega) [.string a.own,.int .i64 a.ty,.int .i64 a.cl,.int .i64 a.tt,.string a.da] 0 w1 y0;have z1:=setAll_far (b:=w.heap.size+1) (c:=w.heap.size+1+1) (by omega) [.string a.own,.int .i64 a.ty,.int .i64 a.cl,.int .i64 a.tt,.string a.da] 0 w1 y1;have BW:=below_setA (B:=w.heap.size) (g:=w.heap.size+1+1) (by omega) [.string a.own,.int .i64 a.ty,.int .i64 a.cl,.int .i64 a.tt,.string a.da] 0 w1 B1;rw [<- hW1] at z0 z1 BW;simp only [setAll,Nat.reduceAdd,Nat.zero_add] at hW1;rw [<- hW1];clear hW1 y0 y1 y2 B1 b1;refine(hrr b _).mono ?_;rintro e w2 ⟨rfl,b2⟩;have B2:=Nm.below_two BW b2;have y0:=blk_below z0 b2;have y1:=blk_below z1 b2;have y2:=blk_below z2 b2;clear z0 z1 z2 BW b2;have r0:=fun i=>blk_cell y0 i
 have r2:=fun i=>blk_cell y2 i
 have f2:=fun i=>blk_frozen y2 i
 go_wp2_with fail
 clear r0 r2 f2;obtain⟨W2,hW2⟩:∃ W,W=setAll w2 (w.heap.size+1+1) 5 [.string b.own,.int .i64 b.ty,.int .i64 b.cl,.int .i64 b.tt,.string b.da]:=⟨_,rfl⟩
 have z2:Blk W2 (w.heap.size+1+1) #[.string a.own,.int .i64 a.ty,.int .i64 a.cl,.int .i64 a.tt,.string a.da,.string b.own,.int .i64 b.ty,.int .i64 b.cl,.int .i64 b.tt,.string b.da,.slice none 0 0,.slice none 0 0] 30:=by
  rw [hW2];exact setAll_midC [.string b.own,.int .i64 b.ty,.int .i64 b.cl,.int .i64 b.tt,.string b.da] [.string ⟨#[]⟩,.int .i64 0,.int .i64 0,.int .i64 0,.string ⟨#[]⟩] [.string a.own,.int .i64 a.ty,.int .i64 a.cl,.int .i64 a.tt,.string a.da] [.slice none 0 0,.slice none 0 0] w2 y2 rfl
 have z0:=setAll_far (b:=w.heap.size) (c:=w.heap.size+1+1) (by omega) [.string b.own,.int .i64 b.ty,.int .i64 b.cl,.int .i64 b.tt,.string b.da] 5 w2 y0;have z1:=setAll_far (b:=w.heap.size+1) (c:=w.heap.size+1+1) (by omega) [.string b.own,.int .i64 b.ty,.int .i64 b.cl,.int .i64 b.tt,.string b.da] 5 w2 y1;have BW:=below_setA (B:=w.heap.size) (g:=w.heap.size+1+1) (by omega) [.string b.own,.int .i64 b.ty,.int .i64 b.cl,.int .i64 b.tt,.string b.da] 5 w2 B2;rw [<- hW2] at z0 z1 BW;simp only [setAll,Nat.reduceAdd] at hW2;rw [<- hW2];clear hW2 y0 y1 y2 B2 hrr;refine(hx _ BW).mono ?_;rintro e w3 ⟨u,rfl,od,b3⟩;obtain⟨ua,uc,rfl⟩:=own_sl od;have x0:=blk_below z0 b3;have x1:=blk_below z1 b3;have x2:=blk_below z2 b3;have B3:=Nm.below_two BW b3;have hg2:=blk_lt z2;have r0:=fun i=>blk_cell x0 i
 have r2:=fun i=>blk_cell x2 i
 have f2:=fun i=>blk_frozen x2 i
 clear z0 z1 z2 b3;go_wp2_with fail
 have A2:=blk_set x2 10 (.slice ua xs.length uc);have A1:Blk (w3.setCell ⟨w.heap.size+1+1,10,none⟩ (.slice ua xs.length uc)) (w.heap.size+1) _ _:=blk_far x1 (by omega);have od2:=own_far_lt (g:=w.heap.size+1+1) (i:=10) (y:=(.slice ua xs.length uc)) od hg2;have B3s:Below w.heap.size w (w3.setCell ⟨w.heap.size+1+1,10,none⟩ (.slice ua xs.length uc)):=B3.setCell (by show w.heap.size<=w.heap.size+1+1;omega) _;clear r0 r2 f2 x0 x1 x2 od;refine(hy _ B3s).mono ?_;rintro e w4 ⟨t,rfl,oe,b4⟩;obtain⟨ta,tc,rfl⟩:=own_sl oe;have x1:=blk_below A1 b4;have x2:=blk_below A2 b4;have B4:=Nm.below_two B3s b4;have od3:=own_below od2 b4;have hlt:=fun g hg=>(od2.lt g hg).2
 have hg3:w.heap.size+1+1<(w3.setCell ⟨w.heap.size+1+1,10,none⟩ (.slice ua xs.length uc)).heap.size:=blk_lt A2;have A2':=blk_set x2 11 (.slice ta ys.length tc);have A1':Blk (w4.setCell ⟨w.heap.size+1+1,11,none⟩ (.slice ta ys.length tc)) (w.heap.size+1) _ _:=blk_far x1 (by omega);have od4:=own_far_lt (g:=w.heap.size+1+1) (i:=11) (y:=(.slice ta ys.length tc)) od3 hg2;have oe4:=own_far_lt (g:=w.heap.size+1+1) (i:=11) (y:=(.slice ta ys.length tc)) oe hg3;have B6:Below w.heap.size w (w4.setCell ⟨w.heap.size+1+1,11,none⟩ (.slice ta ys.length tc)):=B4.setCell (by show w.heap.size<=w.heap.size+1+1;omega) _;have p11:w4.cell? ⟨w.heap.size+1+1,11,none⟩=some (.slice none 0 0):=(blk_cell x2 11).trans rfl;have pf:=fun i=>blk_frozen x2 i
 have r2:=fun i=>blk_cell A2' i
 have r1:=fun i=>blk_cell A1' i
 have f1:=fun i=>blk_frozen A1' i
 clear x1 x2 od3 oe B4 b4 A1 A2;go_wp2_with fail
 obtain⟨W6,hW6⟩:∃ W,W=setAll (w4.setCell ⟨w.heap.size+1+1,11,none⟩ (.slice ta ys.length tc)) (w.heap.size+1) 0 [.string a.own,.int .i64 a.ty,.int .i64 a.cl,.int .i64 a.tt,.string a.da,.string b.own,.int .i64 b.ty,.int .i64 b.cl,.int .i64 b.tt,.string b.da,.slice ua xs.length uc,.slice ta ys.length tc]:=⟨_,rfl⟩;have kz:=setAll_new [.string a.own,.int .i64 a.ty,.int .i64 a.cl,.int .i64 a.tt,.string a.da,.string b.own,.int .i64 b.ty,.int .i64 b.cl,.int .i64 b.tt,.string b.da,.slice ua xs.length uc,.slice ta ys.length tc] A1' rfl;have B7:=below_setA (B:=w.heap.size) (g:=w.heap.size+1) (by omega) [.string a.own,.int .i64 a.ty,.int .i64 a.cl,.int .i64 a.tt,.string a.da,.string b.own,.int .i64 b.ty,.int .i64 b.cl,.int .i64 b.tt,.string b.da,.slice ua xs.length uc,.slice ta ys.length tc] 0 _ B6;have od9:=own_setA (g:=w.heap.size+1) (by omega) [.string a.own,.int .i64 a.ty,.int .i64 a.cl,.int .i64 a.tt,.string a.da,.string b.own,.int .i64 b.ty,.int .i64 b.cl,.int .i64 b.tt,.string b.da,.slice ua xs.length uc,.slice ta ys.length tc] 0 _ od4;have oe9:=own_setA (g:=w.heap.size+1) (by omega) [.string a.own,.int .i64 a.ty,.int .i64 a.cl,.int .i64 a.tt,.string a.da,.string b.own,.int .i64 b.ty,.int .i64 b.cl,.int .i64 b.tt,.string b.da,.slice ua xs.length uc,.slice ta ys.length tc] 0 _ oe4;rw [<- hW6] at kz B7 od9 oe9;simp only [setAll,Nat.reduceAdd,Nat.zero_add] at hW6;rw [<- hW6];have rz:=fun i=>blk_cell kz i
 clear hW6 r1 r2 f1 A1' A2' od4 oe4 B6;refine bodyPost_ret (v:=cgV a b (.slice ua xs.length uc) (.slice ta ys.length tc)) ?_ rfl ⟨_,_,rfl,⟨_,?_,own_base od9 BW.size,oe9,hlt⟩,B7⟩
 ·simp [results,Tryz.results16,go_sem,Result.andThen,rz]
 ·exact B3s.size
end Go.Proofs.YtieobflhfcgliaaGreat
