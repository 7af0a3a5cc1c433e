import Derived.Test.YtieobflhfcgliaaGreatJMath
import Derived.RegionTactic
import Derived.BigRegion
import Derived.Deep.RegionHeld3
import Derived.Test.YtieobflhfcgliaaGreatJSSmall
import Derived.Test.YtieobflhfcgliaaGreatRows
import Derived.WalkSpells
import Derived.WalkLawsBesides
import Derived.ChangeAlike
import Derived.Test.YtieobflhfcgliaaGreatJDzE
namespace Go.Proofs.YtieobflhfcgliaaGreat
open Go.RowKit
set_option linter.unusedVariables false
theorem strv_ne(s:ByteArray):(s.toList != s.toList)=false∧(s.toList==s.toList)=true:=by simp
set_option maxRecDepth 100000 in
set_option maxHeartbeats 400000 in
theorem eqRV_any(s t:ByteArray)(x y z:Int)(w:World):
 Calls Tryz.prog 30 #[.agg #[.string s,.int .i64 x,.int .i64 y,.int .i64 z,.string t],.agg #[.string s,.int .i64 x,.int .i64 y,.int .i64 z,.string t]] w fun e w'=>e=.returned (.bool true)∧Below w.heap.size w w':=by
 have e1:(x != x)=false:=by simp
 have e2:(y != y)=false:=by simp
 have e5:(z != z)=false:=by simp
 obtain⟨e3,e4⟩:=strv_ne s;obtain⟨e6,e7⟩:=strv_ne t;go_enter Tryz.func30,Tryz.ntmps30;go_wp2;go_ret;exact⟨rfl,((Below.refl _ _).alloc (Nat.le_refl _) _).alloc (by simp) _⟩
set_option maxRecDepth 100000 in
set_option maxHeartbeats 1600000 in
theorem eqRVS_any(v u:Value)(xs:List Rr)(w:World)(h:CRow w v xs.length 5 (rvVs xs))(h':CRow w u xs.length 5 (rvVs xs)):
 Calls Tryz.prog 31 #[v,u] w fun e w'=>e=.returned (.bool true)∧Below w.heap.size w w':=by
 obtain⟨_,a,cap,rfl,hcap,hmx,hc⟩:=h;obtain⟨_,a',cap',rfl,hcap',hmx',hc'⟩:=h';unfold maxLen at hmx hmx';have hne:((xs.length:Int) != (xs.length:Int))=false:=by simp
 go_enter Tryz.func31,Tryz.ntmps31;go_wp2
 go_loopw [5] (fun i wr=>∃ k:Nat,k<=xs.length∧i=.int .i64 k∧Below w.heap.size w wr) (fun i _=>xs.length-(intOf i).toNat)
 case atStart=>exact⟨0,Nat.zero_le _,rfl,Below.refl _ _⟩
 case round=>
  obtain⟨k,hk,rfl,hbel⟩:=hrel
  by_cases hlt:k<xs.length
  ·obtain⟨x,hx⟩:∃ x,xs[k]? =some x:=⟨_,List.getElem?_eq_getElem hlt⟩;obtain⟨b,off,rfl,hcell⟩:=hc (by omega);obtain⟨b',off',rfl,hcell'⟩:=hc' (by omega);have R1:=rv_cells hcell hx;have R2:=rv_cells hcell' hx;obtain⟨o,ty,cl,tt,da⟩:=x;simp only at R1 R2
   have hS:∀ W,Below w.heap.size w W->((W.cell? ⟨b,off+k*5,none⟩=some (.string o)∧W.cell? ⟨b,off+k*5+1,none⟩=some (.int .i64 ty)∧W.cell? ⟨b,off+k*5+2,none⟩=some (.int .i64 cl)∧W.cell? ⟨b,off+k*5+3,none⟩=some (.int .i64 tt)∧W.cell? ⟨b,off+k*5+4,none⟩=some (.string da))∧(W.cell? ⟨b',off'+k*5,none⟩=some (.string o)∧W.cell? ⟨b',off'+k*5+1,none⟩=some (.int .i64 ty)∧W.cell? ⟨b',off'+k*5+2,none⟩=some (.int .i64 cl)∧W.cell? ⟨b',off'+k*5+3,none⟩=some (.int .i64 tt)∧W.cell? ⟨b',off'+k*5+4,none⟩=some (.string da)))∧Below w.heap.size w W:=by
    intro W hW;have put:∀ {B O:Nat} {z:Value},w.cell? ⟨B,O,none⟩=some z->W.cell? ⟨B,O,none⟩=some z:=fun h=>(hW.cell (World.block_lt_of_cell? w _ h)).trans h
    exact⟨⟨⟨put R1.1,put R1.2.1,put R1.2.2.1,put R1.2.2.2.1,put R1.2.2.2.2⟩,⟨put R2.1,put R2.2.1,put R2.2.2.1,put R2.2.2.2.1,put R2.2.2.2.2⟩⟩,hW⟩
   have hS0:=hS wr.drew hbel.drew;have heq:=fun W (hW:Below w.heap.size w W)=>(eqRV_any o da ty cl tt W).mono (R':=fun e w'=>e=.returned (.bool true)∧Below w.heap.size w w') (by rintro e w' ⟨he,hb⟩;exact⟨he,hW.trans (hb.mono hW.size)⟩)
   have i1:(0:Int)<=(k:Int):=by omega
   have i2:(k:Int)<(xs.length:Int):=by omega
   clear hc hc' hcell hcell' hx R1 R2;go_wp2;go_region_held3 (fun W=>((W.cell? ⟨b,off+k*5,none⟩=some (.string o)∧W.cell? ⟨b,off+k*5+1,none⟩=some (.int .i64 ty)∧W.cell? ⟨b,off+k*5+2,none⟩=some (.int .i64 cl)∧W.cell? ⟨b,off+k*5+3,none⟩=some (.int .i64 tt)∧W.cell? ⟨b,off+k*5+4,none⟩=some (.string da))∧(W.cell? ⟨b',off'+k*5,none⟩=some (.string o)∧W.cell? ⟨b',off'+k*5+1,none⟩=some (.int .i64 ty)∧W.cell? ⟨b',off'+k*5+2,none⟩=some (.int .i64 cl)∧W.cell? ⟨b',off'+k*5+3,none⟩=some (.int .i64 tt)∧W.cell? ⟨b',off'+k*5+4,none⟩=some (.string da)))∧Below w.heap.size w W) (first|with_reducible assumption|with_reducible exact hS0) ((first|(go_at_call 30;refine(heq _ hS0.2).mono ?_;rintro e w' ⟨rfl,hb1⟩;have hS1:=hS _ hb1)))
   go_wp2;go_roundw
   case rel=>exact⟨k+1,by omega,by go_num,hS1.2⟩
   case measure=>simp [intOf];omega
  ·clear hc hc';have i2:(xs.length:Int)<=(k:Int):=by omega
   go_wp2;go_ret;exact⟨rfl,hbel⟩
end Go.Proofs.YtieobflhfcgliaaGreat
namespace Go.Proofs.YtieobflhfcgliaaGreat
open Go.RowKit
def dgF:Nat->Nat->List UInt8
 |0,_=>[]
 |f+1,k=>if k=0 then [] else dgF f (k / 10)++[UInt8.ofNat (48+k % 10)]
def mkS(k:Nat):ByteArray:=if k=0 then⟨#[109,48]⟩ else⟨(109::dgF (k+1) k).toArray⟩
def MkAt(k j:Nat)(t:ByteArray):Prop:=∃ f,j<f∧dgF (k+1) k=dgF f j++t.data.toList
theorem mk_start(k:Nat):MkAt k k ⟨#[]⟩:=⟨k+1,by omega,by simp⟩
theorem mk_step{k j:Nat}{t:ByteArray}(h:MkAt k j t)(hj:0<j):MkAt k (j / 10) (⟨#[UInt8.ofNat (48+j % 10)]⟩++t):=by
 obtain⟨f,hf,e⟩:=h;obtain⟨g,rfl⟩:∃ g,f=g+1:=⟨f-1,by omega⟩;refine⟨g,by omega,?_⟩;rw [e,dgF,if_neg (by omega)];simp
theorem mk_end{k j:Nat}{t:ByteArray}(h:MkAt k j t)(hj:j=0)(hk:0<k):(⟨#[109]⟩:ByteArray)++t=mkS k:=by
 obtain⟨f,hf,e⟩:=h;obtain⟨g,rfl⟩:∃ g,f=g+1:=⟨f-1,by omega⟩;have z:dgF (g+1) j=[]:=by rw [dgF,if_pos hj]
 rw [z,List.nil_append] at e;rw [mkS,if_neg (by omega),e];apply ba_ext;simp
theorem mk_len{k j:Nat}{t:ByteArray}(h:MkAt k j t):t.size<=k+1:=by
 have hl:∀ f k,(dgF f k).length<=f:=by
  intro f
  induction f with
  |zero=>intro k;simp [dgF]
  |succ f ih=>
   intro k;rw [dgF];split
   ·simp
   ·have:=ih (k / 10);simp;omega
 obtain⟨f,hf,e⟩:=h;have:=congrArg List.length e;rw [List.length_append,size_list] at this;have:=hl (k+1) k;omega
set_option maxRecDepth 100000 in
set_option maxHeartbeats 800000 in
theorem markText_any(k:Nat)(w:World)(hk:k<=1000000000):
 Calls Tryz.prog 60 #[.int .i64 (k:Int)] w fun e w'=>e=.returned (.string (mkS k))∧Below w.heap.size w w':=by
 by_cases h0:k=0
 ·have HE:Hid (mkS k=⟨#[109,48]⟩):=by show _=_;rw [mkS,if_pos h0]
  have h0':(k:Int)<=0:=by omega
  clear h0;go_enter Tryz.func60,Tryz.ntmps60;go_wp2;go_ret;rw [HE.out];exact⟨rfl,Below.refl _ _⟩
 ·have hpos:0<k:=by omega
  have h0':(0:Int)<(k:Int):=by omega
  have hst:=mk_start k;go_enter Tryz.func60,Tryz.ntmps60;go_wp2
  go_loopw [0,3] (fun i v wr=>∃ (j:Nat) (t:ByteArray),i=.int .i64 (j:Int)∧j<=k∧v=.string t∧MkAt k j t∧Below w.heap.size w wr)
   (fun i _ _=>(intOf i).toNat)
  case atStart=>exact⟨k,_,rfl,Nat.le_refl _,rfl,hst,Below.refl _ _⟩
  case round=>
   obtain⟨j,t,rfl,hjk,rfl,hat,hbel⟩:=hrel;have hsz:=hbel.size;have hts:=mk_len hat;have hone:(ByteArray.mk #[109]).size=1:=rfl;clear hst
   by_cases hj:0<j
   ·have HN:=Nm.hide (mk_step hat hj);have hj':(0:Int)<(j:Int):=by omega
    have hcv:=fun n=>conv_one n wr
    have hn1:∀ c,(ByteArray.mk #[c]).size=1:=fun _=>rfl
    have hmod:(48+(j:Int) % 10) % 256=48+(j:Int) % 10:=by omega
    have htn:(48+(j:Int) % 10).toNat=48+j % 10:=by omega
    clear hat;go_wp2;go_roundw
    case rel=>exact⟨j / 10,_,by go_num,by omega,rfl,by simpa using HN.out,hbel.alloc hsz _⟩
    case measure=>simp [intOf];omega
   ·have HE:=Nm.hide (mk_end hat (by omega) hpos);have hj':(j:Int)<=0:=by omega
    clear hat;go_wp2;go_ret;rw [<- HE.out];exact⟨rfl,hbel⟩
end Go.Proofs.YtieobflhfcgliaaGreat
namespace Go.Proofs.YtieobflhfcgliaaGreat
open Go.RowKit
set_option linter.unusedVariables false
theorem mr_below{w w1 w2:World}{g:Nat}(h:w.grownBy w1 (some g))(h2:Below w1.heap.size w1 w2):w.grownBy w2 (some g):=
 ⟨h2.os.trans h.os,h2.tape.trans h.tape,h2.output.trans h.output,Nat.le_trans h.size h2.size,fun k hk hne=>
  (h2.block k (Nat.lt_of_lt_of_le hk h.size)).trans (h.block k hk hne)⟩
def mkR(k i:Nat):Value:=if i % 5=0∨i % 5=4 then .string (mkS (k+i)) else .int .i64 ((k+i:Nat):Int)
def mkL(f:Nat->Nat->Value)(k m:Nat):List Value:=(List.range m).map (f k)
theorem mkL_len(f:Nat->Nat->Value)(k m:Nat):(mkL f k m).length=m:=by simp [mkL]
theorem mkL_get{f:Nat->Nat->Value}{k m i:Nat}(h:i<m):(mkL f k m)[i]? =some (f k i):=by simp [mkL,h]
theorem mkL_set{f:Nat->Nat->Value}{k m i:Nat}{xs:List Value}(hl:xs.length=m)(h:i<m):
 ((mkL f k m).take i++xs.drop i).set i (f k i)=(mkL f k m).take (i+1)++xs.drop (i+1):=by
 apply List.ext_getElem?;intro j;have h1:((mkL f k m).take i).length=i:=by rw [List.length_take,mkL_len];omega
 have h2:((mkL f k m).take (i+1)).length=i+1:=by rw [List.length_take,mkL_len];omega
 rw [List.getElem?_set]
 by_cases e:i=j
 ·subst e;rw [if_pos rfl,if_pos (by rw [List.length_append,h1,List.length_drop];omega),List.getElem?_append_left (by omega),List.getElem?_take,if_pos (by omega),mkL_get h]
 ·rw [if_neg e]
  by_cases e2:j<i
  ·rw [List.getElem?_append_left (by omega),List.getElem?_append_left (by omega),List.getElem?_take,List.getElem?_take,if_pos e2,if_pos (by omega)]
  ·rw [List.getElem?_append_right (by omega),List.getElem?_append_right (by omega),h1,h2,List.getElem?_drop,List.getElem?_drop];congr 1;omega
theorem mkL_cell{f:Nat->Nat->Value}{k m i j:Nat}{xs:List Value}(hl:xs.length=m)(h:j<m):∃ y,((mkL f k m).take i++xs.drop i)[j]? =some y:=
 ⟨_,List.getElem?_eq_getElem (by rw [List.length_append,List.length_take,mkL_len,List.length_drop];omega)⟩
theorem mkL_done{f:Nat->Nat->Value}{k m:Nat}{xs:List Value}(hl:xs.length=m):(mkL f k m).take m++xs.drop m=mkL f k m:=by
 rw [List.take_of_length_le (by rw [mkL_len];omega),List.drop_eq_nil_of_le (by omega),List.append_nil]
set_option maxRecDepth 100000 in
set_option maxHeartbeats 1600000 in
theorem markRRS_any(v:Value)(n B k:Nat)(xs:List Value)(w:World)(hown:w.ownsRow B 27 5 v n xs)(hB:B<=w.heap.size)(hn:n<=1100000)(hk:k<=10000000):
 Calls Tryz.prog 34 #[v,.int .i64 (k:Int)] w fun e w'=>e=.returned (.int .i64 ((k+n*5:Nat):Int))∧w'.ownsRow B 27 5 v n (mkL mkR k (n*5))∧w.grownBy w' v.ownBlock:=by
 have hxl:xs.length=n*5:=hown.1
 rcases Nat.eq_zero_or_pos n with h0|hpos
 ·subst h0
  obtain⟨a,cap,rfl⟩:∃ a cap,v=.slice a 0 cap:=by
   rcases hown.2 with⟨rfl,_⟩|⟨g,cap,cur,rfl,_⟩
   ·exact⟨_,_,rfl⟩
   ·exact⟨_,_,rfl⟩
  have hx0:xs=[]:=List.length_eq_zero_iff.1 (by omega);subst hx0;go_enter Tryz.func34,Tryz.ntmps34;go_wp2
  go_loop [1,5] (fun t i=>t=.int .i64 (k:Int)∧i=.int .i64 0) (fun _ _=>0)
  case atStart=>exact⟨rfl,rfl⟩
  case round=>
   obtain⟨rfl,rfl⟩:=hrel;go_wp2;go_ret;exact⟨rfl,by simpa [mkL] using hown,World.grownBy.refl _ _⟩
 ·obtain⟨g,cap,rfl,hBg⟩:∃ g cap,v=.slice (some ⟨g,0,none⟩) n cap∧B<=g:=by
   rcases hown.2 with⟨rfl,h0⟩|⟨g,cap,cur,rfl,hb,_⟩
   ·omega
   ·exact⟨g,cap,rfl,hb⟩
  have hglt:=(hown.lt g rfl).2;go_enter Tryz.func34,Tryz.ntmps34;go_wp2
  go_loopw [1,5] (fun t i wr=>∃ j:Nat,j<=n∧i=.int .i64 (j:Int)∧t=.int .i64 ((k+j*5:Nat):Int)∧wr.ownsRow B 27 5 (.slice (some ⟨g,0,none⟩) n cap) n ((mkL mkR k (n*5)).take (j*5)++xs.drop (j*5))∧w.grownBy wr (some g))
   (fun _ i _=>n-(intOf i).toNat)
  case atStart=>exact⟨0,Nat.zero_le _,rfl,rfl,by simpa using hown,World.grownBy.refl _ _⟩
  case round=>
   obtain⟨j,hj,rfl,rfl,hownj,hgr⟩:=hrel;clear hown
   by_cases hlt:j<n
   ·have s0:=mkL_set (f:=mkR) (k:=k) hxl (i:=j*5) (by omega);have s1:=mkL_set (f:=mkR) (k:=k) hxl (i:=j*5+1) (by omega);have s2:=mkL_set (f:=mkR) (k:=k) hxl (i:=j*5+2) (by omega);have s3:=mkL_set (f:=mkR) (k:=k) hxl (i:=j*5+3) (by omega);have s4:=mkL_set (f:=mkR) (k:=k) hxl (i:=j*5+4) (by omega);have m0:mkR k (j*5)=.string (mkS (k+j*5)):=by rw [mkR,if_pos (by omega)]
    have m1:mkR k (j*5+1)=.int .i64 ((k:Int)+(j:Int)*5+1):=by rw [mkR,if_neg (by omega)];congr 1<;>omega
    have m2:mkR k (j*5+2)=.int .i64 ((k:Int)+(j:Int)*5+1+1):=by rw [mkR,if_neg (by omega)];congr 1<;>omega
    have m3:mkR k (j*5+3)=.int .i64 ((k:Int)+(j:Int)*5+1+1+1):=by rw [mkR,if_neg (by omega)];congr 1<;>omega
    have m4:mkR k (j*5+4)=.string (mkS (k+j*5+1+1+1+1)):=by rw [mkR,if_pos (by omega)];congr 1
    rw [m0] at s0;rw [m1] at s1;rw [m2] at s2;rw [m3] at s3;rw [m4] at s4;have hmt:=fun W=>markText_any (k+j*5) W (by omega)
    rw [show(((k+j*5:Nat)):Int)=(k:Int)+(j:Int)*5 by omega] at hmt;have hmt4:=fun W=>markText_any (k+j*5+1+1+1+1) W (by omega)
    rw [show(((k+j*5+1+1+1+1:Nat)):Int)=(k:Int)+(j:Int)*5+1+1+1+1 by omega] at hmt4
    have hg:∀ (V:World) i u,w.grownBy V (some g)->w.grownBy (V.setCell ⟨g,i,none⟩ u) (some g):=fun V i u h=>
     ⟨h.os,h.tape,h.output,by simpa using h.size,fun q hq hne=>by rw [heap_setCell_other V ⟨g,i,none⟩ q _ (fun e=>hne (by simp [e]))];exact h.block q hq hne⟩
    have HST:Hid (∀ W,Below wr.heap.size wr W->(∃ y,W.cell? ⟨g,j*5,none⟩=some y)∧W.frozen? ⟨g,j*5,none⟩=false∧(∃ y,(W.setCell ⟨g,j*5,none⟩ (.string (mkS (k+j*5)))).cell? ⟨g,j*5+1,none⟩=some y)∧(∃ y,((W.setCell ⟨g,j*5,none⟩ (.string (mkS (k+j*5)))).setCell ⟨g,j*5+1,none⟩ (.int .i64 ((k:Int)+(j:Int)*5+1))).cell? ⟨g,j*5+2,none⟩=some y)∧(∃ y,(((W.setCell ⟨g,j*5,none⟩ (.string (mkS (k+j*5)))).setCell ⟨g,j*5+1,none⟩ (.int .i64 ((k:Int)+(j:Int)*5+1))).setCell ⟨g,j*5+2,none⟩ (.int .i64 ((k:Int)+(j:Int)*5+1+1))).cell? ⟨g,j*5+3,none⟩=some y)∧W.frozen? ⟨g,j*5+1,none⟩=false∧W.frozen? ⟨g,j*5+2,none⟩=false∧W.frozen? ⟨g,j*5+3,none⟩=false∧
     (((((W.setCell ⟨g,j*5,none⟩ (.string (mkS (k+j*5)))).setCell ⟨g,j*5+1,none⟩ (.int .i64 ((k:Int)+(j:Int)*5+1))).setCell ⟨g,j*5+2,none⟩ (.int .i64 ((k:Int)+(j:Int)*5+1+1))).setCell ⟨g,j*5+3,none⟩ (.int .i64 ((k:Int)+(j:Int)*5+1+1+1))).ownsRow B 27 5 (.slice (some ⟨g,0,none⟩) n cap) n ((mkL mkR k (n*5)).take (j*5+3+1)++xs.drop (j*5+3+1))∧w.grownBy ((((W.setCell ⟨g,j*5,none⟩ (.string (mkS (k+j*5)))).setCell ⟨g,j*5+1,none⟩ (.int .i64 ((k:Int)+(j:Int)*5+1))).setCell ⟨g,j*5+2,none⟩ (.int .i64 ((k:Int)+(j:Int)*5+1+1))).setCell ⟨g,j*5+3,none⟩ (.int .i64 ((k:Int)+(j:Int)*5+1+1+1))) (some g))):=by
     intro W hW;have h0:=own_below hownj hW;have o0:=(h0.stored (j*5) (.string (mkS (k+j*5)))).1;rw [s0] at o0;have o1:=(o0.stored (j*5+1) (.int .i64 ((k:Int)+(j:Int)*5+1))).1;rw [s1] at o1;have o2:=(o1.stored (j*5+2) (.int .i64 ((k:Int)+(j:Int)*5+1+1))).1;rw [s2] at o2;have o3:=(o2.stored (j*5+3) (.int .i64 ((k:Int)+(j:Int)*5+1+1+1))).1;rw [s3] at o3;refine⟨?_,h0.frozenAt _,?_,?_,?_,h0.frozenAt _,h0.frozenAt _,h0.frozenAt _,o3,?_⟩
     ·rw [h0.cellAt (j*5) (by omega)];exact mkL_cell hxl (by omega)
     ·rw [o0.cellAt (j*5+1) (by omega)];exact mkL_cell hxl (by omega)
     ·rw [o1.cellAt (j*5+2) (by omega)];exact mkL_cell hxl (by omega)
     ·rw [o2.cellAt (j*5+3) (by omega)];exact mkL_cell hxl (by omega)
     ·exact hg _ _ _ (hg _ _ _ (hg _ _ _ (hg _ _ _ (mr_below hgr hW))))
    have HSU:Hid (∀ V W:World,(V.ownsRow B 27 5 (.slice (some ⟨g,0,none⟩) n cap) n ((mkL mkR k (n*5)).take (j*5+3+1)++xs.drop (j*5+3+1))∧w.grownBy V (some g))->Below V.heap.size V W->(∃ y,W.cell? ⟨g,j*5+4,none⟩=some y)∧W.frozen? ⟨g,j*5+4,none⟩=false∧((W.setCell ⟨g,j*5+4,none⟩ (.string (mkS (k+j*5+1+1+1+1)))).ownsRow B 27 5 (.slice (some ⟨g,0,none⟩) n cap) n ((mkL mkR k (n*5)).take (j*5+4+1)++xs.drop (j*5+4+1))∧w.grownBy (W.setCell ⟨g,j*5+4,none⟩ (.string (mkS (k+j*5+1+1+1+1)))) (some g))):=by
     intro V W hV hW;have h0:=own_below hV.1 hW;have o4:=(h0.stored (j*5+4) (.string (mkS (k+j*5+1+1+1+1)))).1;rw [s4] at o4;refine⟨?_,h0.frozenAt _,o4,hg _ _ _ (mr_below hV.2 hW)⟩;rw [h0.cellAt (j*5+4) (by omega)];exact mkL_cell hxl (by omega)
    have HE:Hid ((j+1)*5=j*5+4+1):=by show _=_;omega
    generalize mkS (k+j*5)=ms at*;generalize mkS (k+j*5+1+1+1+1)=mt at*;clear s0 s1 s2 s3 s4 m0 m1 m2 m3 m4 hownj hgr hg;go_wp2_with (first|(go_at_call 60;with_reducible refine(hmt _).mono ?_;rintro e w2 ⟨rfl,hb2⟩;obtain⟨⟨y0,c0⟩,f0,⟨y1,c1⟩,⟨y2,c2⟩,⟨y3,c3⟩,f1,f2,f3,hx⟩:=HST.out w2 hb2;have HX:=Nm.hide hx;clear hx)|(go_at_call 60;with_reducible refine(hmt4 _).mono ?_;rintro e w3 ⟨rfl,hb3⟩;obtain⟨⟨y4,c4⟩,f4,hx4⟩:=HSU.out _ _ HX.out hb3;have HY:=Nm.hide hx4;clear hx4))
    go_roundw
    case rel=>exact⟨j+1,by omega,by go_num,by go_num,by rw [HE.out];exact HY.out.1,HY.out.2⟩
    case measure=>simp [intOf];omega
   ·have hje:j=n:=by omega
    subst hje;rw [mkL_done hxl] at hownj;go_wp2;go_ret;exact⟨rfl,hownj,hgr⟩
end Go.Proofs.YtieobflhfcgliaaGreat
namespace Go.Proofs.YtieobflhfcgliaaGreat
open Go.RowKit
set_option linter.unusedVariables false
set_option maxRecDepth 100000 in
set_option maxHeartbeats 1600000 in
theorem eqChange_any(a b:Rr)(d e d' e':Value)(xs ys:List Rr)(w:World)(h1:CRow w d xs.length 5 (rvVs xs))(h2:CRow w e ys.length 5 (rvVs ys))(h3:CRow w d' xs.length 5 (rvVs xs))(h4:CRow w e' ys.length 5 (rvVs ys)):
 Calls Tryz.prog 9 #[cgV a b d e,cgV a b d' e'] w fun e w'=>e=.returned (.bool true)∧Below w.heap.size w w':=by
 have hrr:=fun(r:Rr) W=>eqRV_any r.own r.da r.ty r.cl r.tt W
 have hx:=fun W (hW:Below w.heap.size w W)=>eqRVS_any d d' xs W (h1.below hW) (h3.below hW)
 have hy:=fun W (hW:Below w.heap.size w W)=>eqRVS_any e e' ys W (h2.below hW) (h4.below hW)
 obtain⟨_,da,dc,rfl,-,-,-⟩:=h1;obtain⟨_,ea,ec,rfl,-,-,-⟩:=h2;obtain⟨_,da',dc',rfl,-,-,-⟩:=h3;obtain⟨_,ea',ec',rfl,-,-,-⟩:=h4;have b1:=(Below.refl w.heap.size w).alloc (Nat.le_refl _) (.cells (cgL a b (.slice da xs.length dc) (.slice ea ys.length ec)).toArray 30);have b2:=b1.alloc b1.size (.cells (cgL a b (.slice da' xs.length dc') (.slice ea' ys.length ec')).toArray 30);have k1:=blk_alloc (blk_new w (cgL a b (.slice da xs.length dc) (.slice ea ys.length ec)).toArray 30) (.cells (cgL a b (.slice da' xs.length dc') (.slice ea' ys.length ec')).toArray 30);have k2:=blk_new (w.alloc (.cells (cgL a b (.slice da xs.length dc) (.slice ea ys.length ec)).toArray 30)) (cgL a b (.slice da' xs.length dc') (.slice ea' ys.length ec')).toArray 30;rw [World.size_alloc] at k2;have r1:=fun i=>blk_cell k1 i
 have r2:=fun i=>blk_cell k2 i
 clear b1;go_enter Tryz.func9,Tryz.ntmps9;go_wp2_with fail
 refine(hrr a _).mono ?_;rintro e w1 ⟨rfl,c1⟩;have bw1:=Nm.below_two b2 c1;have k11:=blk_below k1 c1;have k21:=blk_below k2 c1;clear r1 r2 k1 k2 c1 b2;have r1:=fun i=>blk_cell k11 i
 have r2:=fun i=>blk_cell k21 i
 go_wp2_with fail
 refine(hrr b _).mono ?_;rintro e w2 ⟨rfl,c2⟩;have bw2:=Nm.below_two bw1 c2;have k12:=blk_below k11 c2;have k22:=blk_below k21 c2;clear r1 r2 k11 k21 c2 bw1;have r1:=fun i=>blk_cell k12 i
 have r2:=fun i=>blk_cell k22 i
 go_wp2_with fail
 refine(hx _ bw2).mono ?_;rintro e w3 ⟨rfl,c3⟩;have bw3:=Nm.below_two bw2 c3;have k13:=blk_below k12 c3;have k23:=blk_below k22 c3;clear r1 r2 k12 k22 c3 bw2;have r1:=fun i=>blk_cell k13 i
 have r2:=fun i=>blk_cell k23 i
 go_wp2_with fail
 refine(hy _ bw3).mono ?_;rintro e w4 ⟨rfl,c4⟩;have bw4:=Nm.below_two bw3 c4;clear r1 r2;go_wp2;go_ret;exact⟨rfl,bw4⟩
def CMk(w:World)(B:Nat)(d e:Value)(n m k:Nat):Prop:=∃ M,B<=M∧w.ownsRow B 27 5 d n (mkL mkR k (n*5))∧w.ownsRow M 27 5 e m (mkL mkR (k+n*5) (m*5))∧∀ g,d.ownBlock=some g->g<M
theorem own_grownC{W W1:World}{B e s m:Nat}{v u:Value}{xs:List Value}(h:W.ownsRow B e s v m xs)(hg:W.grownBy W1 u.ownBlock)(ha:∀ g,u.ownBlock=some g->v.ownBlock≠some g):W1.ownsRow B e s v m xs:=by
 refine h.kept hg ?_
 cases hu:u.ownBlock with
 |none=>
  cases hv:v.ownBlock with
  |none=>exact .inl rfl
  |some k=>right;simp
 |some k=>right;exact ha k hu
set_option maxRecDepth 100000 in
set_option maxHeartbeats 1600000 in
theorem markChange_any(a b:Rr)(d e:Value)(xs ys:List Rr)(B k:Nat)(w:World)(h:COwn w B d e xs ys)(hB:B<=w.heap.size)(hx:xs.length<=1100000)(hy:ys.length<=1100000)(hk:k+xs.length*5<=10000000):
 Calls Tryz.prog 12 #[cgV a b d e,.int .i64 (k:Int)] w fun r w'=>r=.returned (.int .i64 ((k+xs.length*5+ys.length*5:Nat):Int))∧CMk w' B d e xs.length ys.length k∧Below B w w'∧∀ b,b<w.heap.size->d.ownBlock≠some b->e.ownBlock≠some b->w'.heap[b]? =w.heap[b]? :=by
 obtain⟨⟨da,dc,rfl⟩,ea,ec,rfl⟩:=h.sl
 obtain⟨M,h1,h2,h3,h4,h5⟩:∃ M,B<=M∧w.ownsRow B 27 5 (.slice da xs.length dc) xs.length (rvVs xs)∧w.ownsRow M 27 5 (.slice ea ys.length ec) ys.length (rvVs ys)∧(∀ g,(Value.slice da xs.length dc).ownBlock=some g->g<M)∧M<=w.heap.size:=by
  obtain⟨M0,g1,g2,g3,g4⟩:=h;exact⟨min M0 w.heap.size,by omega,g2,own_base g3 (Nat.min_le_left _ _),fun g hg=>by have:=g4 g hg;have:=(g2.lt g hg).2;omega,Nat.min_le_right _ _⟩
 clear h;have hb:=(Below.refl w.heap.size w).alloc (Nat.le_refl _) (.cells (cgL a b (.slice da xs.length dc) (.slice ea ys.length ec)).toArray 30);have hbB:=(Below.refl B w).alloc hB (.cells (cgL a b (.slice da xs.length dc) (.slice ea ys.length ec)).toArray 30);have k0:=blk_new w (cgL a b (.slice da xs.length dc) (.slice ea ys.length ec)).toArray 30;have hz:=hb.size;have hlt2:∀ g,(Value.slice da xs.length dc).ownBlock=some g->B<=g∧g<w.heap.size:=fun g hg=>h2.lt g hg
 have hlt3:∀ g,(Value.slice ea ys.length ec).ownBlock=some g->M<=g:=fun g hg=>(h3.lt g hg).1
 have o2:=own_below h2 hb;have o3:=own_below h3 hb;obtain⟨K1,hK1⟩:∃ K1:Nat,K1=k+xs.length*5:=⟨_,rfl⟩;obtain⟨K2,hK2⟩:∃ K2:Nat,K2=K1+ys.length*5:=⟨_,rfl⟩;have HC:Hid (∀ w':World,w'.ownsRow B 27 5 (.slice da xs.length dc) xs.length (mkL mkR k (xs.length*5))->w'.ownsRow M 27 5 (.slice ea ys.length ec) ys.length (mkL mkR K1 (ys.length*5))->CMk w' B (.slice da xs.length dc) (.slice ea ys.length ec) xs.length ys.length k):=fun w' g1 g2=>⟨M,h1,g1,by rw [<- hK1];exact g2,h4⟩
 have hm1:=markRRS_any _ xs.length B k (rvVs xs) _ o2 (by omega) (by omega) (by omega);have hm2:=fun W (h3':W.ownsRow M 27 5 (.slice ea ys.length ec) ys.length (rvVs ys)) (hW:M<=W.heap.size)=>markRRS_any _ ys.length M K1 (rvVs ys) W h3' hW (by omega) (by omega)
 rw [<- hK1,<- hK2];rw [<- hK1] at hm1;rw [<- hK2] at hm2;clear hK1 hK2;have r0:=fun i=>blk_cell k0 i
 generalize hW0:w.alloc (.cells (cgL a b (.slice da xs.length dc) (.slice ea ys.length ec)).toArray 30)=W0 at*;subst hW0;go_enter Tryz.func12,Tryz.ntmps12;go_wp2_with fail
 refine hm1.mono ?_;rintro r w1 ⟨rfl,q1,g1⟩;have z1:=g1.size;have q3:=own_grownC o3 g1 (fun g hg hg'=>by have:=h4 g hg;have:=hlt3 g hg';omega);have k1:=blk_grown k0 g1 (fun e=>by have:=(hlt2 _ e).2;omega);have b1:=hbB.grown g1 (by omega) (fun g hg=>(hlt2 g hg).1);have r1:=fun i=>blk_cell k1 i
 have HG1:=Nm.hide g1;clear r0 k0 g1 hm1 o2 o3;go_wp2_with fail
 refine(hm2 _ q3 (by omega)).mono ?_;rintro r w2 ⟨rfl,q4,g2⟩;have q2:=own_grownC q1 g2 (fun g hg hg'=>by have:=h4 g hg';have:=hlt3 g hg;omega);have b2:=b1.grown g2 (by omega) (fun g hg=>by have:=hlt3 g hg;omega);have HE:=Nm.hide (HC.out _ q2 q4);have HG:Hid (∀ b,b<w.heap.size->(Value.slice da xs.length dc).ownBlock≠some b->(Value.slice ea ys.length ec).ownBlock≠some b->w2.heap[b]? =w.heap[b]?):=fun b hb0 n1 n2=>(g2.block b (by omega) (Ne.symm n2)).trans ((HG1.out.block b (by omega) (Ne.symm n1)).trans (hb.block b hb0))
 clear HC q1 q2 q3 q4 g2 r1 k1 hm2;go_wp2;go_ret;exact⟨rfl,HE.out,b2,HG.out⟩
end Go.Proofs.YtieobflhfcgliaaGreat
