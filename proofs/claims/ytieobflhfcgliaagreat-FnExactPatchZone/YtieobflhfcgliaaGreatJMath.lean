import Derived.WalkKit
import Derived.Test.YtieobflhfcgliaaGreatRows
import Derived.WalkSpells
import Derived.WalkLawsBesides
import Derived.Lib.AppendStr
import Derived.Laws.IdiomStrings
import Derived.Laws.OwnMore
import Derived.Maps.Own
import Derived.DeepKeys4
import Derived.RegionTactic
import Derived.BigRegion
namespace Go.Proofs.YtieobflhfcgliaaGreat.Nm
def splitF:Nat->ByteArray->Option (List ByteArray)
 |0,_=>none
 |f+1,r=>
  if h:0<r.size then
   if r[0].toNat=0 then(if r.size=1 then some [] else none)
   else if 63<r[0].toNat∨r.size<r[0].toNat+1 then none
   else(splitF f (r.extract (r[0].toNat+1) r.size)).map (fun ls=>r.extract 1 (r[0].toNat+1)::ls)
  else none
def split(s:ByteArray):Option (List ByteArray):=if s.size<=255 then splitF 256 s else none
theorem splitF_empty(f:Nat)(r:ByteArray)(h:r.size=0):splitF f r=none:=by
 cases f with
 |zero=>rfl
 |succ f=>rw [splitF,dif_neg (by omega)]
theorem splitF_end(f:Nat)(r:ByteArray)(h:0<r.size)(h0:r[0].toNat=0)(h1:r.size=1):splitF (f+1) r=some []:=by
 rw [splitF,dif_pos h,if_pos h0,if_pos h1]
theorem splitF_zero(f:Nat)(r:ByteArray)(h:0<r.size)(h0:r[0].toNat=0)(h1:r.size≠1):splitF (f+1) r=none:=by
 rw [splitF,dif_pos h,if_pos h0,if_neg h1]
theorem splitF_bad(f:Nat)(r:ByteArray)(h:0<r.size)(h0:r[0].toNat≠0)(h1:63<r[0].toNat∨r.size<r[0].toNat+1):splitF (f+1) r=none:=by
 rw [splitF,dif_pos h,if_neg h0,if_pos h1]
theorem splitF_step(f:Nat)(r:ByteArray)(h:0<r.size)(h0:r[0].toNat≠0)(h1:r[0].toNat<=63)(h2:r[0].toNat+1<=r.size):
 splitF (f+1) r=(splitF f (r.extract (r[0].toNat+1) r.size)).map (fun ls=>r.extract 1 (r[0].toNat+1)::ls):=by
 rw [splitF,dif_pos h,if_neg h0,if_neg (by omega)]
theorem split_long(s:ByteArray)(h:255<s.size):split s=none:=by rw [split,if_neg (by omega)]
theorem split_short(s:ByteArray)(h:s.size<=255):split s=splitF 256 s:=by rw [split,if_pos h]
def At(s:ByteArray)(ls:List ByteArray)(r:ByteArray):Prop:=
 ∃ f,r.size<f∧split s=(splitF f r).map (fun t=>ls++t)
theorem at_start(s:ByteArray)(h:s.size<=255):At s [] s:=⟨256,by omega,by rw [split_short s h];simp⟩
theorem at_empty{s r:ByteArray}{ls:List ByteArray}(h:At s ls r)(h0:r.size=0):split s=none:=by
 obtain⟨f,_,e⟩:=h;rw [e,splitF_empty f r h0];rfl
theorem at_end{s r:ByteArray}{ls:List ByteArray}(h:At s ls r)(hp:0<r.size)(h0:r[0].toNat=0)(h1:r.size=1):split s=some ls:=by
 obtain⟨f,hf,e⟩:=h;obtain⟨g,rfl⟩:∃ g,f=g+1:=⟨f-1,by omega⟩;rw [e,splitF_end g r hp h0 h1];simp
theorem at_zero{s r:ByteArray}{ls:List ByteArray}(h:At s ls r)(hp:0<r.size)(h0:r[0].toNat=0)(h1:r.size≠1):split s=none:=by
 obtain⟨f,hf,e⟩:=h;obtain⟨g,rfl⟩:∃ g,f=g+1:=⟨f-1,by omega⟩;rw [e,splitF_zero g r hp h0 h1];rfl
theorem at_bad{s r:ByteArray}{ls:List ByteArray}(h:At s ls r)(hp:0<r.size)(h0:r[0].toNat≠0)(h1:63<r[0].toNat∨r.size<r[0].toNat+1):split s=none:=by
 obtain⟨f,hf,e⟩:=h;obtain⟨g,rfl⟩:∃ g,f=g+1:=⟨f-1,by omega⟩;rw [e,splitF_bad g r hp h0 h1];rfl
theorem at_step{s r:ByteArray}{ls:List ByteArray}(h:At s ls r)(hp:0<r.size)(h0:r[0].toNat≠0)(h1:r[0].toNat<=63)(h2:r[0].toNat+1<=r.size):
 At s (ls++[r.extract 1 (r[0].toNat+1)]) (r.extract (r[0].toNat+1) r.size):=by
 obtain⟨f,hf,e⟩:=h;obtain⟨g,rfl⟩:∃ g,f=g+1:=⟨f-1,by omega⟩;refine⟨g,by simp;omega,?_⟩;rw [e,splitF_step g r hp h0 h1 h2,Option.map_map];congr 1;funext t;simp
theorem tl_len(r:ByteArray):r.toList.length=r.size:=by rw [ByteArray.toList_eq];simp
theorem tl_one{r:ByteArray}(h:0<r.size)(h1:r.size=1)(h0:r[0].toNat=0):(r.toList==[0])=true:=by
 rw [beq_iff_eq,ByteArray.toList_eq];refine List.ext_getElem (by simpa using h1) ?_;intro i hi hj;have:i=0:=by simpa using hj
 subst this;have e:r.data.toList[0]=r[0]:=rfl;rw [e];exact UInt8.toNat_inj.1 (by simpa using h0)
theorem tl_not_one{r:ByteArray}(h:0<r.size)(h1:¬(r.size=1∧r[0].toNat=0)):(r.toList==[0])=false:=by
 rw [beq_eq_false_iff_ne];intro e;rw [ByteArray.toList_eq] at e;apply h1;refine⟨by have:=congrArg List.length e;simpa using this,?_⟩;have g:r.data.toList[0]? =some 0:=by rw [e];rfl
 have g2:r.data.toList[0]? =some r[0]:=List.getElem?_eq_getElem (by simpa using h);rw [g2] at g;have g3:r[0]=0:=by simpa using g
 rw [g3];rfl
theorem tl_empty{r:ByteArray}(h:r.size=0):r.toList.isEmpty=true:=by
 rw [List.isEmpty_iff,<- List.length_eq_zero_iff,tl_len];exact h
theorem tl_not_empty{r:ByteArray}(h:0<r.size):r.toList.isEmpty=false:=by
 rw [Bool.eq_false_iff];intro e;rw [List.isEmpty_iff,<- List.length_eq_zero_iff,tl_len] at e;omega
theorem one_cell(x:Value)(h:x.oneCell'=true):∀ u:Value,u∈[x]->u.oneCell'=true:=by
 intro u hu;simp at hu;subst hu;exact h
end Go.Proofs.YtieobflhfcgliaaGreat.Nm
namespace Go.Proofs.YtieobflhfcgliaaGreat
open Go.RowKit
theorem Tryz.infoStr:(Tryz.prog.info? 9).map (fun i=>(i.zero,i.size,i.bytes))=some (some (.string ByteArray.empty),1,16):=by kernel_rfl
theorem own_step{W wr w1:World}{v v':Value}{B e:Nat}{ls:List ByteArray}{x:ByteArray}(hB:B<=wr.heap.size)
 (hown:wr.ownsRow B e 1 v ls.length (ls.map Value.string)) (hbel:Below B W wr) (o:Obj)
 (hown':w1.ownsRow B e 1 v' (ls.length+1) (ls.map Value.string++[.string x])) (hgrow:(wr.alloc o).grownBy w1 v.ownBlock):
 w1.ownsRow B e 1 v' (ls++[x]).length ((ls++[x]).map Value.string)∧Below B W w1:=by
 refine⟨by simpa using hown',?_⟩;refine(hbel.alloc hB o).grown hgrow (by simp;omega) ?_;intro k hk;exact(hown.lt k hk).1
theorem cell_new1(w:World)(x:Value)(e:Nat):∀ (j:Nat) (u:Value),[x][j]? =some u->(w.alloc (.cells #[x] e)).cell? ((⟨w.heap.size,0,none⟩:Addr).add j)=some u:=by
 intro j u hj
 match j,hj with
 |0,hj=>simp at hj;subst hj;simp [Addr.add]
theorem own_below{w w':World}{B e s n:Nat}{v:Value}{xs:List Value}(h:w.ownsRow B e s v n xs)(hb:Below w.heap.size w w'):w'.ownsRow B e s v n xs:=
 h.kept (row:=none) ⟨hb.os,hb.tape,hb.output,hb.size,fun k hk _=>hb.block k hk⟩ (by cases v.ownBlock<;>simp)
theorem own_base{w:World}{B B' e s n:Nat}{v:Value}{xs:List Value}(h:w.ownsRow B e s v n xs)(hb:B'<=B):w.ownsRow B' e s v n xs:=by
 refine⟨h.1,?_⟩
 rcases h.2 with hn|⟨g,cap,cur,hv,hbg,rest⟩
 ·exact .inl hn
 ·exact .inr ⟨g,cap,cur,hv,Nat.le_trans hb hbg,rest⟩
end Go.Proofs.YtieobflhfcgliaaGreat
namespace Go.Proofs.YtieobflhfcgliaaGreat.Nm
open Go.RowKit
def wsum:List ByteArray->Nat
 |[]=>0
 |l::r=>(1+l.size)+wsum r
def preL:List ByteArray->List UInt8
 |[]=>[]
 |l::r=>(UInt8.ofNat l.size::l.data.toList)++preL r
def joinL(ls:List ByteArray):List UInt8:=preL ls++[0]
theorem hide{p:Prop}(h:p):Hid p:=h
theorem wsum_append(a b:List ByteArray):wsum (a++b)=wsum a+wsum b:=by
 induction a with
 |nil=>simp [wsum]
 |cons x a ih=>simp only [List.cons_append,wsum,ih];omega
theorem preL_append(a b:List ByteArray):preL (a++b)=preL a++preL b:=by
 induction a with
 |nil=>simp [preL]
 |cons x a ih=>simp [preL,ih]
theorem preL_length(ls:List ByteArray):(preL ls).length=wsum ls:=by
 induction ls with
 |nil=>rfl
 |cons x a ih=>simp only [preL,wsum,List.length_append,List.length_cons,ih,Array.length_toList,ByteArray.size_data];omega
theorem joinL_length(ls:List ByteArray):(joinL ls).length=wsum ls+1:=by simp [joinL,preL_length]
theorem length_le_wsum(ls:List ByteArray):ls.length<=wsum ls:=by
 induction ls with
 |nil=>simp
 |cons x a ih=>simp only [wsum,List.length_cons];omega
theorem take_step{α:Type}{ls:List α}{k:Nat}{x:α}(h:ls[k]? =some x):ls.take (k+1)=ls.take k++[x]:=by
 obtain⟨hk,e⟩:=List.getElem?_eq_some_iff.1 h;rw [List.take_succ_eq_append_getElem hk,e]
theorem wsum_step{ls:List ByteArray}{k:Nat}{x:ByteArray}(h:ls[k]? =some x):wsum (ls.take (k+1))=wsum (ls.take k)+(1+x.size):=by
 rw [take_step h,wsum_append];simp [wsum]
theorem preL_step{ls:List ByteArray}{k:Nat}{x:ByteArray}(h:ls[k]? =some x):preL (ls.take (k+1))=preL (ls.take k)++(UInt8.ofNat x.size::x.data.toList):=by
 rw [take_step h,preL_append];simp [preL]
theorem wsum_take_le(ls:List ByteArray)(k:Nat):wsum (ls.take k)<=wsum ls:=by
 have e:=wsum_append (ls.take k) (ls.drop k);rw [List.take_append_drop] at e;omega
def bys(l:List UInt8):List Value:=l.map fun b=>Value.int .u8 b.toNat
theorem bys_append(a b:List UInt8):bys (a++b)=bys a++bys b:=by simp [bys]
theorem bys_length(a:List UInt8):(bys a).length=a.length:=by simp [bys]
def SRow(w:World)(v:Value)(ls:List ByteArray):Prop:=
 ∃ a cap,v=.slice a ls.length cap∧ls.length<=cap∧cap<=maxLen∧(a=none->cap=0)∧
   (ls≠[]->∃ b off,a=some ⟨b,off,none⟩∧∀ i x,ls[i]? =some x->w.cell? ⟨b,off+i,none⟩=some (.string x))
theorem SRow.of_owns{w:World}{B e:Nat}{v:Value}{ls:List ByteArray}(h:w.ownsRow B e 1 v ls.length (ls.map Value.string)):SRow w v ls:=by
 rcases h.2 with⟨rfl,h0⟩|⟨g,cap,cur,rfl,hb,hg,hn,hm,hs,ht⟩
 ·have:ls=[]:=List.length_eq_zero_iff.1 h0;subst this;exact⟨none,0,rfl,by simp,by decide,fun _=>rfl,fun h=>absurd rfl h⟩
 ·refine⟨_,cap,rfl,hn,hm,(fun h=>by cases h),fun _=>⟨g,0,rfl,?_⟩⟩;intro i x hx;obtain⟨hi,e⟩:=List.getElem?_eq_some_iff.1 hx;rw [Nat.zero_add,h.cellAt i (by omega)];simp [hx]
theorem SRow.below{w w':World}{v:Value}{ls:List ByteArray}(h:SRow w v ls)(hb:Below w.heap.size w w'):SRow w' v ls:=by
 obtain⟨a,cap,rfl,h1,h2,h2',h3⟩:=h;refine⟨a,cap,rfl,h1,h2,h2',fun hne=>?_⟩;obtain⟨b,off,rfl,hc⟩:=h3 hne;refine⟨b,off,rfl,fun i x hx=>?_⟩;have:=hc i x hx;rw [hb.cell (World.block_lt_of_cell? w _ this)];exact this
theorem below_two{w w1 w2:World}(h1:Below w.heap.size w w1)(h2:Below w1.heap.size w1 w2):Below w.heap.size w w2:=
 h1.trans (h2.mono h1.size)
theorem bys_step{W wr w1:World}{v v':Value}{B e n m:Nat}{l x:List UInt8}(hB:B<=wr.heap.size)
 (hown:wr.ownsRow B e 1 v n (bys l)) (hbel:Below B W wr)
 (hown':w1.ownsRow B e 1 v' (n+m) (bys l++bys x)) (hgrow:wr.grownBy w1 v.ownBlock):
 w1.ownsRow B e 1 v' (n+m) (bys (l++x))∧Below B W w1:=by
 refine⟨by rw [bys_append];exact hown',?_⟩;exact hbel.grown hgrow hB (fun k hk=>(hown.lt k hk).1)
theorem conv_own{P:Program}{w:World}{B e src dst n:Nat}{v:Value}{l:List UInt8}(hs:P.underlying src=some (.slice e))(he:P.underlying e=some (.int .u8))(hd:P.underlying dst=some .string)
 (h:w.ownsRow B e 1 v n (bys l)) (hp:0<n):
 ∃ g cap,v=.slice (some ⟨g,0,none⟩) n cap∧(convert src dst (.slice (some ⟨g,0,none⟩) n cap)).run P w=.ok (.string ⟨l.toArray⟩) w:=by
 have hn:n=l.length:=by have:=h.1;rw [bys_length] at this;omega
 subst hn
 rcases h.2 with⟨rfl,h0⟩|⟨g,cap,cur,rfl,hb,hg,hnc,hm,hcs,ht⟩
 ·omega
 ·refine⟨g,cap,rfl,run_convert_bytes_back w src dst e ⟨g,0,none⟩ cap l hs he hd ?_⟩;intro j hj;exact h.cells (g:=g) rfl j _ (by simp [bys,hj])
theorem addr_add(b off k:Nat):(⟨b,off,none⟩:Addr).add k=⟨b,off+k,none⟩:=by
 unfold Addr.add;split<;>simp_all
theorem SRow.drop_all{w:World}{a:Option Addr}{ls:List ByteArray}{cap k:Nat}(h:SRow w (.slice a ls.length cap) ls)(hk:cap=k):SRow w (.slice a (ls.length-k) 0) (ls.drop k):=by
 obtain⟨a',cap',e,h1,h2,h3,h4⟩:=h;simp only [Value.slice.injEq] at e;obtain⟨rfl,_,rfl⟩:=e;have hd:ls.drop k=[]:=List.drop_eq_nil_of_le (by omega);rw [hd];exact⟨a,0,by simp;omega,by simp,by decide,fun _=>rfl,fun h=>absurd rfl h⟩
theorem SRow.drop{w:World}{a:Option Addr}{ls:List ByteArray}{cap k:Nat}(h:SRow w (.slice a ls.length cap) ls)(hk:k<=ls.length):
 SRow w (.slice (a.map (fun x=>x.add k)) (ls.length-k) (cap-k)) (ls.drop k):=by
 obtain⟨a',cap',e,h1,h2,h3,h4⟩:=h;simp only [Value.slice.injEq] at e;obtain⟨rfl,_,rfl⟩:=e;refine⟨_,_,by rw [List.length_drop],by rw [List.length_drop];omega,by omega,?_,?_⟩
 ·intro h;simp at h;have:=h3 h;omega
 ·intro hne;obtain⟨b,off,rfl,hc⟩:=h4 (by intro h;rw [h] at hne;simp at hne);refine⟨b,off+k,by simp [addr_add],?_⟩;intro i x hx;rw [List.getElem?_drop] at hx;rw [Nat.add_assoc];exact hc _ _ hx
theorem wsum_drop_le(ls:List ByteArray)(k:Nat):wsum (ls.drop k)<=wsum ls:=by
 have e:=wsum_append (ls.take k) (ls.drop k);rw [List.take_append_drop] at e;omega
theorem splitF_size:∀ (f:Nat) (r:ByteArray) (ls:List ByteArray),splitF f r=some ls->wsum ls+1=r.size:=by
 intro f
 induction f with
 |zero=>intro r ls h;simp [splitF] at h
 |succ f ih=>
  intro r ls h
  by_cases hp:0<r.size
  ·by_cases h0:r[0].toNat=0
   ·by_cases h1:r.size=1
    ·rw [splitF_end f r hp h0 h1] at h;simp at h;subst h;simp [wsum];omega
    ·rw [splitF_zero f r hp h0 h1] at h;simp at h
   ·by_cases h1:63<r[0].toNat∨r.size<r[0].toNat+1
    ·rw [splitF_bad f r hp h0 h1] at h;simp at h
    ·rw [splitF_step f r hp h0 (by omega) (by omega)] at h
     cases e:splitF f (r.extract (r[0].toNat+1) r.size) with
     |none=>rw [e] at h;simp at h
     |some t=>
      rw [e] at h;simp at h;have:=ih _ _ e;rw [<- h];simp at this;simp [wsum];omega
  ·rw [splitF_empty _ r (by omega)] at h;simp at h
theorem split_size{s:ByteArray}{ls:List ByteArray}(h:split s=some ls):wsum ls+1=s.size∧s.size<=255:=by
 by_cases hl:s.size<=255
 ·rw [split_short s hl] at h;exact⟨splitF_size _ _ _ h,hl⟩
 ·rw [split_long s (by omega)] at h;simp at h
end Go.Proofs.YtieobflhfcgliaaGreat.Nm
namespace Go.Proofs.YtieobflhfcgliaaGreat
open Go.RowKit
def CRow(w:World)(v:Value)(n s:Nat)(cs:List Value):Prop:=
 cs.length=n*s∧∃ a cap,v=.slice a n cap∧n<=cap∧cap<=maxLen∧
  (0<n->∃ b off,a=some ⟨b,off,none⟩∧∀ (i:Nat) (x:Value),cs[i]? =some x->w.cell? ⟨b,off+i,none⟩=some x)
theorem CRow.of_owns{w:World}{B e s n:Nat}{v:Value}{cs:List Value}(h:w.ownsRow B e s v n cs):CRow w v n s cs:=by
 refine⟨h.1,?_⟩
 rcases h.2 with⟨rfl,h0⟩|⟨g,cap,cur,rfl,hb,hg,hn,hm,hs,ht⟩
 ·subst h0;exact⟨none,0,rfl,Nat.le_refl _,by decide,fun h=>by omega⟩
 ·refine⟨_,cap,rfl,hn,hm,fun _=>⟨g,0,rfl,?_⟩⟩;intro i x hx;have hi:i<n*s:=by rw [<- h.1];exact(List.getElem?_eq_some_iff.1 hx).1
  rw [Nat.zero_add,h.cellAt i hi];exact hx
theorem CRow.below{w w':World}{v:Value}{n s:Nat}{cs:List Value}(h:CRow w v n s cs)(hb:Below w.heap.size w w'):CRow w' v n s cs:=by
 obtain⟨h0,a,cap,rfl,h1,h2,h3⟩:=h;refine⟨h0,a,cap,rfl,h1,h2,fun hp=>?_⟩;obtain⟨b,off,rfl,hc⟩:=h3 hp;refine⟨b,off,rfl,fun i x hx=>?_⟩;have:=hc i x hx;rw [hb.cell (World.block_lt_of_cell? w _ this)];exact this
end Go.Proofs.YtieobflhfcgliaaGreat
namespace Go.Proofs.YtieobflhfcgliaaGreat
open Go.RowKit
set_option linter.unusedVariables false
structure Rr where
 own:ByteArray
 ty:Int
 cl:Int
 tt:Int
 da:ByteArray
def rvV(r:Rr):List Value:=[.string r.own,.int .i64 r.ty,.int .i64 r.cl,.int .i64 r.tt,.string r.da]
def rvVs(xs:List Rr):List Value:=xs.flatMap rvV
theorem rvVs_cons(x:Rr)(xs:List Rr):rvVs (x::xs)=rvV x++rvVs xs:=by simp [rvVs]
theorem rvVs_app(a b:List Rr):rvVs (a++b)=rvVs a++rvVs b:=by simp [rvVs]
theorem rvVs_len(xs:List Rr):(rvVs xs).length=xs.length*5:=by
 induction xs with
 |nil=>rfl
 |cons x xs ih=>
  have:(rvV x).length=5:=rfl;rw [rvVs_cons,List.length_append,ih,List.length_cons,this];omega
theorem rvVs_at:∀ (xs:List Rr) (k j:Nat) (x:Rr),xs[k]? =some x->j<5->(rvVs xs)[k*5+j]? =(rvV x)[j]? :=by
 intro xs
 induction xs with
 |nil=>intro k j x h;simp at h
 |cons y xs ih=>
  intro k j x h hj;have hl:(rvV y).length=5:=rfl
  cases k with
  |zero=>
   simp at h;subst h
   rw [rvVs_cons,Nat.zero_mul,Nat.zero_add,List.getElem?_append_left (by omega)]
  |succ k=>
   simp at h;rw [rvVs_cons,List.getElem?_append_right (by omega),hl,show(k+1)*5+j-5=k*5+j by omega];exact ih k j x h hj
theorem rv_cells{w:World}{xs:List Rr}{b off k:Nat}{x:Rr}(hc:∀ (i:Nat) (y:Value),(rvVs xs)[i]? =some y->w.cell? ⟨b,off+i,none⟩=some y)(h:xs[k]? =some x):
 w.cell? ⟨b,off+k*5,none⟩=some (.string x.own)∧w.cell? ⟨b,off+k*5+1,none⟩=some (.int .i64 x.ty)∧w.cell? ⟨b,off+k*5+2,none⟩=some (.int .i64 x.cl)∧w.cell? ⟨b,off+k*5+3,none⟩=some (.int .i64 x.tt)∧w.cell? ⟨b,off+k*5+4,none⟩=some (.string x.da):=
 ⟨hc (k*5) _ ((rvVs_at xs k 0 x h (by decide)).trans rfl),hc (k*5+1) _ ((rvVs_at xs k 1 x h (by decide)).trans rfl),hc (k*5+2) _ ((rvVs_at xs k 2 x h (by decide)).trans rfl),hc (k*5+3) _ ((rvVs_at xs k 3 x h (by decide)).trans rfl),hc (k*5+4) _ ((rvVs_at xs k 4 x h (by decide)).trans rfl)⟩
def rsum:List Rr->Nat
 |[]=>0
 |x::xs=>x.own.size+x.da.size+rsum xs
theorem rsum_step:∀ (xs:List Rr) (k:Nat) (x:Rr),xs[k]? =some x->rsum (xs.take (k+1))=rsum (xs.take k)+(x.own.size+x.da.size):=by
 intro xs
 induction xs with
 |nil=>intro k x h;simp at h
 |cons y xs ih=>
  intro k x h
  cases k with
  |zero=>simp at h;subst h;simp [rsum]
  |succ k=>
   simp at h;have:=ih k x h;simp only [List.take_succ_cons,rsum];omega
theorem rsum_take_le:∀ (xs:List Rr) (k:Nat),rsum (xs.take k)<=rsum xs:=by
 intro xs
 induction xs with
 |nil=>intro k;simp [rsum]
 |cons y xs ih=>
  intro k
  cases k with
  |zero=>simp [rsum]
  |succ k=>have:=ih k;simp only [List.take_succ_cons,rsum];omega
theorem rsum_mem:∀ (xs:List Rr) (x:Rr),x∈xs->x.own.size+x.da.size<=rsum xs:=by
 intro xs
 induction xs with
 |nil=>intro x h;simp at h
 |cons y xs ih=>
  intro x h
  rcases List.mem_cons.1 h with rfl|h
  ·simp only [rsum];omega
  ·have:=ih x h;simp only [rsum];omega
def szRS(xs:List Rr)(L:Int):Int:=if(xs.length:Int)+(rsum xs:Int)<=L then L-xs.length-rsum xs else -1
end Go.Proofs.YtieobflhfcgliaaGreat
namespace Go.Proofs.YtieobflhfcgliaaGreat
open Go Go.Maps Go.MapKept Go.ChangeMaps
set_option linter.unusedVariables false
abbrev rvA(r:Rr):Value:=.agg #[.string r.own,.int .i64 r.ty,.int .i64 r.cl,.int .i64 r.tt,.string r.da]
def RFit(r:Rr):Prop:=r.own.size<=maxLen∧r.da.size<=maxLen∧(Lit.int .i64 r.ty).wf=true∧(Lit.int .i64 r.cl).wf=true∧(Lit.int .i64 r.tt).wf=true
theorem rvA_inj{a b:Rr}(h:rvA a=rvA b):a=b:=by
 cases a;cases b
 simp [rvA] at h
 obtain⟨rfl,rfl,rfl,rfl,rfl⟩:=h;rfl
def eqR(a b:Rr):Bool:=a.own.data.toList==b.own.data.toList&&a.ty==b.ty&&a.cl==b.cl&&a.tt==b.tt&&a.da.data.toList==b.da.data.toList
theorem eqR_iff(a b:Rr):eqR a b=true↔a=b:=by
 have hb:∀ x y:ByteArray,x.data.toList=y.data.toList->x=y:=by
  intro x y h;cases x;cases y
  simp at h;rw [h]
 cases a;cases b
 simp only [eqR,Bool.and_eq_true,beq_iff_eq,Rr.mk.injEq];constructor
 ·rintro⟨⟨⟨⟨h1,h2⟩,h3⟩,h4⟩,h5⟩
  exact⟨hb _ _ h1,h2,h3,h4,hb _ _ h5⟩
 ·rintro⟨rfl,rfl,rfl,rfl,rfl⟩
  exact⟨⟨⟨⟨rfl,rfl⟩,rfl⟩,rfl⟩,rfl⟩
def hasR(xs:List Rr)(x:Rr):Bool:=xs.any (fun y=>eqR y x)
theorem hasR_iff(xs:List Rr)(x:Rr):hasR xs x=true↔x∈xs:=by
 rw [hasR,List.any_eq_true];exact⟨fun⟨y,h1,h2⟩=>(eqR_iff y x).1 h2▸h1,fun h=>⟨x,h,(eqR_iff x x).2 rfl⟩⟩
theorem hasR_no{xs:List Rr}{x:Rr}(h:x∉xs):hasR xs x=false:=by
 cases e:hasR xs x with
 |false=>rfl
 |true=>exact absurd ((hasR_iff xs x).1 e) h
theorem rr_laidOut:laidOutB Tryz.prog=true:=by kernel_rfl
theorem rr_law:Keyed Tryz.prog 27:=Keyed.of_law (deep_law_laid rr_laidOut (m:=3) (by omega) (of_decide_eq_true (by kernel_rfl)) (by kernel_rfl) (by kernel_rfl))
theorem rr_key{r:Rr}(h:RFit r):∃ l,keyOf Tryz.prog 27 (rvA r)=some l:=by
 obtain⟨h1,h2,h3,h4,h5⟩:=h;have hk:Tryz.prog.keyType 27=true:=by kernel_rfl
 have hc:Tryz.prog.cellsOf 27=5:=by kernel_rfl
 have hs:Tryz.prog.cellsOf 9=1:=by kernel_rfl
 have hi:Tryz.prog.cellsOf 2=1:=by kernel_rfl
 have hu:=Tryz.underlying27;have us:=Tryz.underlying9;have ui:=Tryz.underlying2
 obtain⟨m,hm⟩:∃ m,Tryz.prog.types.size=m+1:=⟨Tryz.prog.types.size-1,by
  have:0<Tryz.prog.types.size:=of_decide_eq_true (by kernel_rfl)
  omega⟩
 have hf:(rvA r).formed Tryz.prog 27=true:=by simp [Value.formed,hu,hc]
 have hl:∃ ls,Tryz.prog.keyLits (Tryz.prog.types.size+1) 27 (rvA r).cells.toList=some ls:=by
  rw [hm];simp [Program.keyLits,hu,hc,us,ui,hs,hi,Value.cells,h1,h2,h3,h4,h5]
 obtain⟨ls,hls⟩:=hl;unfold keyOf;rw [hu];simp only
 rw [hk,hf,hls];exact⟨_,rfl⟩
def rmV(p:Rr×Nat):Value×Value:=(rvA p.1,.int .i64 (p.2:Int))
def RMap(w:World)(r:Nat)(L:List (Rr×Nat)):Prop:=∃ es clock,w.heap[r]? =some (.map es clock)∧es.toList.map (fun e=>(e.key,e.val))=L.map rmV∧(∀ p∈L,RFit p.1)∧(L.map (·.1)).Nodup
theorem rmap_made(w:World):RMap (w.alloc (.map #[] 0)) w.heap.size []:=
 ⟨#[],0,by show(w.heap.push _)[w.heap.size]? =_;simp,rfl,by simp,by simp⟩
theorem rgrown_block(w:World)(r:Nat)(o:Obj):w.grownBy (setBlock w r o) (some r):=
 ⟨rfl,rfl,rfl,by simp [setBlock],fun k hk hne=>by simp only [setBlock];rw [Array.getElem?_setIfInBounds_ne (fun e=>hne (by rw [e]))]⟩
section
variable {w:World}{r:Nat}{L:List (Rr×Nat)}{t e:TypeId}
theorem rmap_entry{es:Array MapEntry}(h:es.toList.map (fun e=>(e.key,e.val))=L.map rmV){x:MapEntry}(hx:x∈es.toList):∃ p∈L,x.key=rvA p.1∧x.val=.int .i64 (p.2:Int):=by
 have:(x.key,x.val)∈es.toList.map (fun e=>(e.key,e.val)):=List.mem_map.2 ⟨x,hx,rfl⟩;rw [h] at this;obtain⟨p,hp,he⟩:=List.mem_map.1 this;simp only [rmV,Prod.mk.injEq] at he;exact⟨p,hp,he.1.symm,he.2.symm⟩
theorem RMap.lt(h:RMap w r L):r<w.heap.size:=by
 obtain⟨es,clock,hb,_⟩:=h;obtain⟨hlt,_⟩:=Array.getElem?_eq_some_iff.1 hb;exact hlt
theorem RMap.kept{w':World}(h:RMap w r L)(hb:w'.heap[r]? =w.heap[r]?):RMap w' r L:=by
 obtain⟨es,clock,h1,h2⟩:=h;exact⟨es,clock,hb.trans h1,h2⟩
theorem RMap.put(h:RMap w r L)(ht:Tryz.prog.underlying t=some (.map 27 e)){x:Rr}(hx:RFit x)(n:Nat)(hn:∀ p∈L,p.1≠x):
 ∃ w',(Instr.mapUpdate t (.map (some r)) (rvA x) (.int .i64 (n:Int))).run Tryz.prog w=.ok () w'∧RMap w' r (L++[(x,n)])∧w.grownBy w' (some r):=by
 have K:=rr_law;obtain⟨kl,hkey⟩:=rr_key hx;have hlt:=h.lt;obtain⟨es,clock,hb,hes,hwf,hnd⟩:=h
 rcases K.find w hkey es.toList (fun y hy=>by obtain⟨p,hp,h1,_⟩:=rmap_entry hes hy;rw [h1];exact rr_key (hwf p hp)) with⟨h1,h2⟩|⟨j,e0,h1,h2,h3⟩
 ·refine⟨setBlock w r (.map (es.push ⟨rvA x,.int .i64 (n:Int),clock⟩) (clock+1)),?_,⟨es.push ⟨rvA x,.int .i64 (n:Int),clock⟩,clock+1,?_,?_,?_,?_⟩,rgrown_block _ _ _⟩
  ·simp [Instr.mapUpdate,run_underlying ht,MapKept.run_getObj_map hb,K.check w false hkey,h1,MapKept.run_setObj_map _ hb,Result.andThen,setBlock]
  ·simp [setBlock,hlt]
  ·rw [Array.toList_push,List.map_append,hes,List.map_append];rfl
  ·intro p hp
   rcases List.mem_append.1 hp with hp|hp
   ·exact hwf p hp
   ·simp at hp;subst hp;exact hx
  ·rw [List.map_append,List.nodup_append];refine⟨hnd,by simp,?_⟩;intro a ha b hb2;simp at hb2;subst hb2;obtain⟨p,hp,rfl⟩:=List.mem_map.1 ha;exact hn p hp
 ·exfalso
  obtain⟨p,hp,h4,_⟩:=rmap_entry hes (List.mem_of_getElem? h2);rw [h3] at h4;exact hn p hp (rvA_inj h4).symm
theorem RMap.get(h:RMap w r L)(ht:Tryz.prog.underlying t=some (.map 27 e))(hz:(zeroValue e).run Tryz.prog w=.ok (.int .i64 0) w){x:Rr}(hx:RFit x):
 ∃ n:Int,(Instr.lookup t (.map (some r)) (rvA x) true).run Tryz.prog w=.ok (.tuple #[.int .i64 n,.bool (hasR (L.map (·.1)) x)]) w:=by
 have K:=rr_law;obtain⟨kl,hkey⟩:=rr_key hx;obtain⟨es,clock,hb,hes,hwf,hnd⟩:=h
 rcases K.find w hkey es.toList (fun y hy=>by obtain⟨p,hp,h1,_⟩:=rmap_entry hes hy;rw [h1];exact rr_key (hwf p hp)) with⟨h1,h2⟩|⟨j,e0,h1,h2,h3⟩
 ·have hno:x∉L.map (·.1):=by
   intro hx2;obtain⟨p,hp,hpx⟩:=List.mem_map.1 hx2;have:rmV p∈L.map rmV:=List.mem_map.2 ⟨p,hp,rfl⟩;rw [<- hes] at this;obtain⟨y,hy,hye⟩:=List.mem_map.1 this;simp only [rmV,Prod.mk.injEq] at hye;exact h2 y hy (by rw [hye.1,hpx])
  refine⟨0,?_⟩;rw [hasR_no hno];simp [Instr.lookup,run_underlying ht,MapKept.run_getObj_map hb,K.check w _ hkey,h1,hz,Result.andThen]
 ·obtain⟨p,hp,h4,h5⟩:=rmap_entry hes (List.mem_of_getElem? h2);rw [h3] at h4;have hyes:x∈L.map (·.1):=List.mem_map.2 ⟨p,hp,(rvA_inj h4).symm⟩;refine⟨(p.2:Int),?_⟩;rw [(hasR_iff _ _).2 hyes];simp [Instr.lookup,run_underlying ht,MapKept.run_getObj_map hb,K.check w _ hkey,h1,Result.andThen,h5]
end
end Go.Proofs.YtieobflhfcgliaaGreat
namespace Go.Proofs.YtieobflhfcgliaaGreat
open Go.RowKit
set_option linter.unusedVariables false
theorem hgr_step{w w1 w2:World}{g:Nat}(h:w.grownBy w1 (some g))(h2:w1.grownBy w2 (some g)):w.grownBy w2 (some g):=
 ⟨h2.os.trans h.os,h2.tape.trans h.tape,h2.output.trans h.output,Nat.le_trans h.size h2.size,fun k hk hne=>(h2.block k (Nat.lt_of_lt_of_le hk h.size) hne).trans (h.block k hk hne)⟩
theorem hgr_below{w w1 w2:World}{g:Nat}(h:w.grownBy w1 (some g))(h2:Below w1.heap.size w1 w2):w.grownBy w2 (some g):=
 ⟨h2.os.trans h.os,h2.tape.trans h.tape,h2.output.trans h.output,Nat.le_trans h.size h2.size,fun k hk hne=>
  (h2.block k (Nat.lt_of_lt_of_le hk h.size)).trans (h.block k hk hne)⟩
def Blk(w:World)(b:Nat)(cs:Array Value)(T:TypeId):Prop:=w.heap[b]? =some (.cells cs T (0,0))
theorem blk_lt{w:World}{b:Nat}{cs:Array Value}{T:TypeId}(h:Blk w b cs T):b<w.heap.size:=(Array.getElem?_eq_some_iff.1 h).1
theorem blk_grown{w w1:World}{b:Nat}{cs:Array Value}{T:TypeId}{row:Option Nat}(h:Blk w b cs T)(hg:w.grownBy w1 row)(hr:row≠some b):Blk w1 b cs T:=by
 unfold Blk;rw [hg.block b (blk_lt h) (fun e=>hr e.symm)];exact h
theorem blk_below{w w1:World}{b:Nat}{cs:Array Value}{T:TypeId}(h:Blk w b cs T)(hb:Below w.heap.size w w1):Blk w1 b cs T:=by
 unfold Blk;rw [hb.block b (blk_lt h)];exact h
theorem blk_new(w:World)(cs:Array Value)(T:TypeId):Blk (w.alloc (.cells cs T)) w.heap.size cs T:=by
 unfold Blk;show(w.heap.push _)[w.heap.size]? =_;simp
theorem blk_alloc{w:World}{b:Nat}{cs:Array Value}{T:TypeId}(h:Blk w b cs T)(o:Obj):Blk (w.alloc o) b cs T:=
 blk_below h ((Below.refl _ _).alloc (Nat.le_refl _) o)
theorem blk_cell{w:World}{b:Nat}{cs:Array Value}{T:TypeId}(h:Blk w b cs T)(i:Nat):w.cell? ⟨b,i,none⟩=cs[i]? :=cell_of_row _ _ _ _ _ _ h
theorem blk_frozen{w:World}{b:Nat}{cs:Array Value}{T:TypeId}(h:Blk w b cs T)(i:Nat):w.frozen? ⟨b,i,none⟩=false:=frozen_of_row w b i _ _ h
theorem blk_set{w:World}{b:Nat}{cs:Array Value}{T:TypeId}(h:Blk w b cs T)(i:Nat)(v:Value):Blk (w.setCell ⟨b,i,none⟩ v) b (cs.setIfInBounds i v) T:=heap_setCell_same w b i _ _ v h
theorem blk_far{w:World}{b c i:Nat}{cs:Array Value}{T:TypeId}{v:Value}(h:Blk w b cs T)(hne:b≠c):Blk (w.setCell ⟨c,i,none⟩ v) b cs T:=by
 unfold Blk;rw [heap_setCell_other w ⟨c,i,none⟩ b _ (by simpa using hne)];exact h
def setAll(w:World)(b i:Nat):List Value->World
 |[]=>w
 |v::vs=>setAll (w.setCell ⟨b,i,none⟩ v) b (i+1) vs
theorem setAll_same{b:Nat}{T:TypeId}:∀ (vs old pre:List Value) (w:World),Blk w b (pre++old).toArray T->old.length=vs.length->Blk (setAll w b pre.length vs) b (pre++vs).toArray T:=by
 intro vs
 induction vs with
 |nil=>
  intro old pre w h hl;have:old=[]:=List.length_eq_zero_iff.1 hl;subst this
  exact h
 |cons v vs ih=>
  intro old pre w h hl
  cases old with
  |nil=>simp at hl
  |cons x old=>
   have h2:=blk_set h pre.length v;have e:(pre++x::old).toArray.setIfInBounds pre.length v=((pre++[v])++old).toArray:=by simp
   rw [e] at h2;have h3:=ih old (pre++[v]) _ h2 (by simpa using hl);rw [List.length_append] at h3;simpa [setAll] using h3
theorem setAll_new{b:Nat}{T:TypeId}{old:Array Value}(vs:List Value){w:World}(h:Blk w b old T)(hl:old.size=vs.length):Blk (setAll w b 0 vs) b vs.toArray T:=by
 have:=setAll_same vs old.toList [] w (by simpa using h) (by simpa using hl);simpa using this
theorem setAll_far{b c:Nat}{T:TypeId}{cs:Array Value}(hne:b≠c):∀ (vs:List Value) (i:Nat) (w:World),Blk w b cs T->Blk (setAll w c i vs) b cs T:=by
 intro vs
 induction vs with
 |nil=>intro i w h;exact h
 |cons v vs ih=>intro i w h;exact ih (i+1) _ (blk_far h hne)
theorem blk_drew{w:World}{b:Nat}{cs:Array Value}{T:TypeId}(h:Blk w b cs T):Blk w.drew b cs T:=h
theorem own_sl{w:World}{B e s n:Nat}{v:Value}{xs:List Value}(h:w.ownsRow B e s v n xs):∃ a cap,v=.slice a n cap:=by
 rcases h.2 with⟨rfl,rfl⟩|⟨g,cap,cur,rfl,_⟩
 ·exact⟨_,_,rfl⟩
 ·exact⟨_,_,rfl⟩
theorem own_far{W:World}{B e s n g i:Nat}{v y:Value}{xs:List Value}(h:W.ownsRow B e s v n xs)(hg:v.ownBlock≠some g):(W.setCell ⟨g,i,none⟩ y).ownsRow B e s v n xs:=by
 refine⟨h.1,?_⟩
 rcases h.2 with h0|⟨g',cap,cur,rfl,hb,hh,r⟩
 ·exact .inl h0
 ·refine .inr ⟨g',cap,cur,rfl,hb,?_,r⟩;rw [heap_setCell_other W ⟨g,i,none⟩ g' _ (fun e=>hg (by simp [Value.ownBlock,e]))];exact hh
theorem own_far_lt{W:World}{B e s n g i:Nat}{v y:Value}{xs:List Value}(h:W.ownsRow B e s v n xs)(hg:g<B):(W.setCell ⟨g,i,none⟩ y).ownsRow B e s v n xs:=by
 refine own_far h (fun e=>?_);have:=(h.lt g e).1;omega
theorem own_ne{W:World}{B e s n B' e' s' m g cap:Nat}{v:Value}{xs ys:List Value}(h:W.ownsRow B e s v n xs)(h':W.ownsRow B' e' s' (.slice (some ⟨g,0,none⟩) m cap) m ys)(hne:e≠e'):v.ownBlock≠some g:=by
 intro he
 rcases h'.2 with⟨h0,_⟩|⟨g',cap',cur',e1,_,hh',_⟩
 ·cases h0
 ·cases e1
  rcases h.2 with⟨rfl,_⟩|⟨g2,cap2,cur2,rfl,_,hh,_⟩
  ·cases he
  ·simp only [Value.ownBlock,Option.some.injEq] at he;subst he;rw [hh] at hh';simp only [Option.some.injEq,Obj.cells.injEq] at hh';exact hne hh'.2.1
end Go.Proofs.YtieobflhfcgliaaGreat
namespace Go.Proofs.YtieobflhfcgliaaGreat
open Go.RowKit
def ssum:List ByteArray->Nat
 |[]=>0
 |l::r=>l.size+ssum r
theorem ssum_append(a b:List ByteArray):ssum (a++b)=ssum a+ssum b:=by
 induction a with
 |nil=>simp [ssum]
 |cons x a ih=>simp only [List.cons_append,ssum,ih];omega
theorem ssum_step{ls:List ByteArray}{k:Nat}{x:ByteArray}(h:ls[k]? =some x):ssum (ls.take (k+1))=ssum (ls.take k)+x.size:=by
 rw [Nm.take_step h,ssum_append];simp [ssum]
theorem ssum_take_le(ls:List ByteArray)(k:Nat):ssum (ls.take k)<=ssum ls:=by
 have e:=ssum_append (ls.take k) (ls.drop k);rw [List.take_append_drop] at e;omega
def szS(ls:List ByteArray)(L:Int):Int:=if(ls.length:Int)+(ssum ls:Int)<=L then L-ls.length-ssum ls else -1
set_option maxRecDepth 100000 in
set_option maxHeartbeats 800000 in
theorem szStringS_any(v:Value)(ls:List ByteArray)(L:Int)(w:World)(h:Nm.SRow w v ls)(hx:∀ x∈ls,x.size<=maxLen)(h0:0<=L)(h1:L<=1048576):
 Calls Tryz.prog 71 #[v,.int .i64 L] w fun e w'=>e=.returned (.int .i64 (szS ls L))∧w'=w:=by
 obtain⟨a,cap,rfl,hcap,hmx,hnl,hc⟩:=h;unfold maxLen at hmx hx;clear hnl
 by_cases hm:L<ls.length
 ·have HS:Hid (szS ls L= -1):=if_neg (by omega);have hl:(ls.length:Int)<=9223372036854775807:=by omega
  have hm':L-(ls.length:Int)<0:=by omega
  clear hx hc;go_enter Tryz.func71,Tryz.ntmps71;go_wp2;go_ret;rw [HS.out];exact⟨rfl,rfl⟩
 ·have hl:(ls.length:Int)<=1048576:=by omega
  have hm':(0:Int)<=L-(ls.length:Int):=by omega
  go_enter Tryz.func71,Tryz.ntmps71;go_wp2
  go_loop [1,5] (fun t i=>∃ k:Nat,k<=ls.length∧i=.int .i64 k∧t=.int .i64 (L-ls.length-ssum (ls.take k))∧(ls.length:Int)+ssum (ls.take k)<=L) (fun _ i=>ls.length-(intOf i).toNat)
  case atStart=>exact⟨0,Nat.zero_le _,rfl,by simp [ssum],by simp [ssum];omega⟩
  case round=>
   obtain⟨k,hk,rfl,rfl,hle⟩:=hrel
   by_cases hlt:k<ls.length
   ·obtain⟨x,hxk⟩:∃ x,ls[k]? =some x:=⟨_,List.getElem?_eq_getElem hlt⟩;obtain⟨b,off,rfl,hcell⟩:=hc (by intro h;rw [h] at hlt;simp at hlt);have hcx:=hcell k x hxk;have hxs:=hx x (List.mem_of_getElem? hxk);have HS:Hid (ssum (ls.take (k+1))=ssum (ls.take k)+x.size):=ssum_step hxk;have hs1:Hid (ssum (ls.take (k+1))<=ssum ls):=ssum_take_le ls (k+1);clear hxk hcell hc hx
    by_cases hb:L-ls.length-ssum (ls.take k)-x.size<0
    ·have HZ:Hid (szS ls L= -1):=if_neg (by have:=HS.out;have:=hs1.out;omega);go_wp2;go_ret;rw [HZ.out];exact⟨rfl,rfl⟩
    ·have hb':0<=L-ls.length-ssum (ls.take k)-x.size:=by omega
     clear hb;go_wp2
     go_round
     case rel=>exact⟨k+1,by omega,by go_num,by rw [HS.out];go_num,by rw [HS.out];omega⟩
     case measure=>simp [intOf];omega
   ·have hkl:k=ls.length:=by omega
    subst hkl;rw [List.take_length] at*;have HZ:Hid (szS ls L=L-ls.length-ssum ls):=if_pos (by omega);clear hx hc hlt;go_wp2;go_ret;rw [HZ.out];exact⟨rfl,rfl⟩
theorem made_str(n:Nat):(madeCells (Value.string ByteArray.empty).cells (n*1)).toList=List.replicate n (.string ByteArray.empty):=by
 rw [Nat.mul_one];exact toList_madeCells_one _ n
theorem set_step{ls:List ByteArray}{k:Nat}{x:ByteArray}(h:ls[k]? =some x)(z:Value):
 ((ls.take k).map Value.string++List.replicate (ls.length-k) z).set k (.string x)=(ls.take (k+1)).map Value.string++List.replicate (ls.length-(k+1)) z:=by
 have hk:k<ls.length:=(List.getElem?_eq_some_iff.1 h).1;have hl:((ls.take k).map Value.string).length=k:=by simp;omega
 obtain⟨m,hm⟩:∃ m,ls.length-k=m+1:=⟨ls.length-k-1,by omega⟩;have hm':ls.length-(k+1)=m:=by omega
 rw [hm,hm',Nm.take_step h,List.set_append_right _ _ (by omega),hl];simp [List.replicate_succ]
set_option maxRecDepth 100000 in
set_option maxHeartbeats 800000 in
theorem toStringS_any(v:Value)(ls:List ByteArray)(w:World)(h:Nm.SRow w v ls)(hlen:ls.length<=1048576):
 Calls Tryz.prog 85 #[v] w fun e w'=>∃ u,e=.returned u∧w'.ownsRow w.heap.size 9 1 u ls.length (ls.map Value.string)∧Below w.heap.size w w':=by
 obtain⟨i0,hi,hz0,hz1,hz2⟩:=info_parts Tryz.infoStr;obtain⟨a,cap,rfl,hcap,hmx,hnl,hc⟩:=h;unfold maxLen at hmx;clear hnl;go_enter Tryz.func85,Tryz.ntmps85;go_wp2_with (at_make;refine wpList_make_full _ rfl (.tmp 6) (.tmp 6) 69 rfl w.heap.size 9 i0 (.string ByteArray.empty) 1 Tryz.underlying69 hi hz0 hz1 .i64 .i64 _ _ ls.length rfl rfl rfl rfl (by rw [hz2];omega) (by unfold maxLen;omega) (Nat.le_refl _) ?_;intro w2 hown0 hgrow0)
 rw [made_str] at hown0
 go_loopw [4] (fun i wr=>∃ k:Nat,k<=ls.length∧i=.int .i64 k∧wr.ownsRow w.heap.size 9 1 (.slice (some ⟨w.heap.size,0,none⟩) ls.length ls.length) ls.length ((ls.take k).map Value.string++List.replicate (ls.length-k) (.string ByteArray.empty))∧Below w.heap.size w wr)
  (fun i _=>ls.length-(intOf i).toNat)
 case atStart=>exact⟨0,Nat.zero_le _,rfl,by simpa using hown0,(Below.refl _ w).grown hgrow0 (Nat.le_refl _) (fun k hk=>by cases hk)⟩
 case round=>
  obtain⟨k,hk,rfl,hown,hbel⟩:=hrel;clear hown0 hgrow0
  by_cases hlt:k<ls.length
  ·obtain⟨x,hx⟩:∃ x,ls[k]? =some x:=⟨_,List.getElem?_eq_getElem hlt⟩;obtain⟨b,off,rfl,hcell⟩:=hc (by intro h;rw [h] at hlt;simp at hlt);have hcx:wr.cell? ⟨b,off+k,none⟩=some (.string x):=(hbel.cell (World.block_lt_of_cell? w _ (hcell k x hx))).trans (hcell k x hx);have hst:=hown.stored k (.string x);rw [set_step hx] at hst;have hfz:=hown.frozenAt k
   obtain⟨y,hy⟩:∃ y,wr.cell? ⟨w.heap.size,k,none⟩=some y:=by
    rw [hown.cellAt k (by omega)];exact⟨_,List.getElem?_eq_getElem (by simp;omega)⟩
   have HR:=Nm.hide hst;have HB:Hid (Below w.heap.size w (wr.setCell ⟨w.heap.size,k,none⟩ (.string x))):=hbel.setCell (Nat.le_refl _) _;clear hx hcell hc hst hown;go_wp2;go_roundw
   case rel=>exact⟨k+1,by omega,by go_num,HR.out.1,HB.out⟩
   case measure=>simp [intOf];omega
  ·have hkl:k=ls.length:=by omega
   subst hkl;clear hc hlt;go_wp2;go_ret;exact⟨_,rfl,by simpa using hown,hbel⟩
end Go.Proofs.YtieobflhfcgliaaGreat
namespace Go.Proofs.YtieobflhfcgliaaGreat
open Go.RowKit
set_option linter.unusedVariables false
theorem makeRR(W:World)(n:Int)(h0:0<=n)(h1:n<=1000000):(Instr.makeMap 128 (some (.int .i64 n))).run Tryz.prog W=.ok (.map (some W.heap.size)) (W.alloc (.map #[] 0)):=by
 simp [Instr.makeMap,go_sem,Result.andThen]
theorem rr_zero(W:World):(zeroValue 3).run Tryz.prog W=.ok (.int .i64 0) W:=by kernel_rfl
set_option maxRecDepth 100000 in
set_option maxHeartbeats 1600000 in
theorem places_any(v:Value)(xs:List Rr)(w:World)(h:CRow w v xs.length 5 (rvVs xs))(hf:∀ x∈xs,RFit x)(hnd:xs.Nodup)(hn:xs.length<=1000000):
 Calls Tryz.prog 93 #[v] w fun e w'=>∃ r L,e=.returned (.map (some r))∧w.heap.size<=r∧RMap w' r L∧L.map (·.1)=xs∧Below w.heap.size w w':=by
 obtain⟨_,a,cap,rfl,hcap,hmx,hc⟩:=h;have HC:=Nm.hide hc;have HND:=Nm.hide hnd;have HF:=Nm.hide hf;have hmk:=makeRR w (xs.length:Int) (by omega) (by omega);have hm0:=rmap_made w;have hb0:Below w.heap.size w (w.alloc (.map #[] 0)):=(Below.refl _ _).alloc (Nat.le_refl _) _;clear hc hnd hf;go_enter Tryz.func93,Tryz.ntmps93;go_wp2
 go_loopw [4,5,11] (fun _ _ i wr=>∃ (j:Nat) (L:List (Rr×Nat)),j<=xs.length∧i=.int .i64 (j:Int)∧RMap wr w.heap.size L∧Hid (L.map (·.1)=xs.take j)∧Below w.heap.size w wr) (fun _ _ i _=>xs.length-(intOf i).toNat)
 case atStart=>exact⟨0,[],Nat.zero_le _,rfl,hm0,rfl,hb0⟩
 case round=>
  obtain⟨j,L,hj,rfl,hm,HL,hb⟩:=hrel;clear hm0 hb0 hmk
  by_cases hlt:j<xs.length
  ·obtain⟨x,hx⟩:∃ x,xs[j]? =some x:=⟨_,List.getElem?_eq_getElem hlt⟩;obtain⟨b,off,rfl,hcell⟩:=HC.out (by omega);have put:∀ {i:Nat} {z:Value},w.cell? ⟨b,off+i,none⟩=some z->wr.cell? ⟨b,off+i,none⟩=some z:=fun h=>(hb.cell (World.block_lt_of_cell? w _ h)).trans h
   obtain⟨c0,c1,c2,c3,c4⟩:=rv_cells (fun i y hy=>put (hcell i y hy)) hx;have hm1:RMap (wr.alloc (.cells #[.string x.own,.int .i64 x.ty,.int .i64 x.cl,.int .i64 x.tt,.string x.da] 27)) w.heap.size L:=hm.kept (heap_alloc_old _ _ hm.lt)
   have hno:∀ p∈L,p.1≠x:=by
    intro p hp e;have h1:x∈xs.take j:=by rw [<- HL.out,<- e];exact List.mem_map.2 ⟨p,hp,rfl⟩
    obtain⟨i,hi⟩:=List.mem_iff_getElem?.1 h1;rw [List.getElem?_take] at hi
    split at hi
    ·have h2:=(List.getElem?_inj (by omega) HND.out).1 (hi.trans hx.symm);omega
    ·cases hi
   obtain⟨w2,hrun,hm2,hg2⟩:=hm1.put Tryz.underlying128 (HF.out x (List.mem_of_getElem? hx)) j hno;have hb2:Below w.heap.size w w2:=(hb.alloc hb.size _).grown hg2 (by simp;have:=hb.size;omega) (fun k hk=>by cases hk;exact Nat.le_refl _)
   have HL2:Hid ((L++[(x,j)]).map (·.1)=xs.take (j+1)):=by
    show _=_
    rw [List.map_append,HL.out,List.take_add_one,hx];rfl
   have i1:(0:Int)<=(j:Int):=by omega
   have i2:(j:Int)<(xs.length:Int):=by omega
   clear hno put hcell hm1 hx hm HL hg2;go_wp2;go_roundw
   case rel=>exact⟨j+1,L++[(x,j)],by omega,by go_num,hm2,HL2,hb2⟩
   case measure=>simp [intOf];omega
  ·have hjn:j=xs.length:=by omega
   subst hjn;have HE:Hid (L.map (·.1)=xs):=by show _=_;rw [HL.out,List.take_length]
   clear HL;go_wp2;go_ret;exact⟨_,L,rfl,Nat.le_refl _,hm,HE.out,hb⟩
def wthF(xs ys:List Rr):List Rr:=xs.filter (fun x=> !hasR ys x)
theorem wth_yes{xs ys:List Rr}{j:Nat}{x:Rr}(h:xs[j]? =some x)(hb:hasR ys x=true):wthF (xs.take (j+1)) ys=wthF (xs.take j) ys:=by
 rw [wthF,List.take_add_one,h,List.filter_append];simp [wthF,hb]
theorem wth_no{xs ys:List Rr}{j:Nat}{x:Rr}(h:xs[j]? =some x)(hb:hasR ys x=false):wthF (xs.take (j+1)) ys=wthF (xs.take j) ys++[x]:=by
 rw [wthF,List.take_add_one,h,List.filter_append];simp [wthF,hb]
theorem wth_len(xs ys:List Rr)(j:Nat):(wthF (xs.take j) ys).length<=j:=by
 have h1:=List.length_filter_le (fun x=> !hasR ys x) (xs.take j);have h2:=List.length_take_le j xs;unfold wthF;omega
theorem Tryz.infoRw:(Tryz.prog.info? 27).map (fun i=>(i.zero,i.size,i.bytes))=some (some (.agg #[.string ByteArray.empty,.int .i64 0,.int .i64 0,.int .i64 0,.string ByteArray.empty]),5,56):=by kernel_rfl
theorem cell_newW(w:World)(o da:ByteArray)(ty cl tt:Int)(b:Nat)(hb:b=w.heap.size):∀ (j:Nat) (u:Value),[Value.string o,.int .i64 ty,.int .i64 cl,.int .i64 tt,.string da][j]? =some u->(w.alloc (.cells #[.string o,.int .i64 ty,.int .i64 cl,.int .i64 tt,.string da] 27)).cell? ((⟨b,0,none⟩:Addr).add j)=some u:=by
 subst hb;intro j u hj;rw [Nm.addr_add,Nat.zero_add];exact(blk_cell (blk_new w #[.string o,.int .i64 ty,.int .i64 cl,.int .i64 tt,.string da] 27) j).trans (by simpa using hj)
set_option maxRecDepth 100000 in
set_option maxHeartbeats 1600000 in
theorem without_any(v u:Value)(xs ys:List Rr)(w:World)(h:CRow w v xs.length 5 (rvVs xs))(h':CRow w u ys.length 5 (rvVs ys))(hf:∀ x∈xs,RFit x)(hf':∀ x∈ys,RFit x)(hnd:ys.Nodup)(hn:xs.length<=1000000)(hn':ys.length<=1000000):
 Calls Tryz.prog 56 #[v,u] w fun e w'=>∃ z,e=.returned z∧w'.ownsRow w.heap.size 27 5 z (wthF xs ys).length (rvVs (wthF xs ys))∧Below w.heap.size w w':=by
 have hpl:=places_any u ys w h' hf' hnd hn';obtain⟨i0,hi,hz0,hz1,hz2⟩:=info_parts Tryz.infoRw;obtain⟨_,a,cap,rfl,hcap,hmx,hc⟩:=h;have HC:=Nm.hide hc;have HF:=Nm.hide hf;clear hc hf hf' hnd h';go_enter Tryz.func56,Tryz.ntmps56;go_wp2_with (go_at_call 93;refine hpl.mono ?_;rintro e w1 ⟨r,L,rfl,hr,hm,hL,hb1⟩)
 have HL:=Nm.hide hL;clear hL hpl
 go_loopw [6,8,9,10,15] (fun o _ _ _ i wr=>∃ (j:Nat),j<=xs.length∧i=.int .i64 (j:Int)∧wr.ownsRow w1.heap.size 27 5 o (wthF (xs.take j) ys).length (rvVs (wthF (xs.take j) ys))∧Below w1.heap.size w1 wr) (fun _ _ _ _ i _=>xs.length-(intOf i).toNat)
 case atStart=>exact⟨0,Nat.zero_le _,rfl,World.ownsRow_nil _ _ _ _,Below.refl _ _⟩
 case round=>
  obtain⟨j,hj,rfl,hown,hb⟩:=hrel;have hwl:=wth_len xs ys j;have hsz:=hb.size
  by_cases hlt:j<xs.length
  ·obtain⟨x,hx⟩:∃ x,xs[j]? =some x:=⟨_,List.getElem?_eq_getElem hlt⟩;obtain⟨b,off,rfl,hcell⟩:=HC.out (by omega);have hb01:=Nm.below_two hb1 hb;have put:∀ {i:Nat} {z:Value},w.cell? ⟨b,off+i,none⟩=some z->wr.cell? ⟨b,off+i,none⟩=some z:=fun h=>(hb01.cell (World.block_lt_of_cell? w _ h)).trans h
   obtain⟨c0,c1,c2,c3,c4⟩:=rv_cells (fun i y hy=>put (hcell i y hy)) hx;have hm1:RMap (wr.alloc (.cells #[.string x.own,.int .i64 x.ty,.int .i64 x.cl,.int .i64 x.tt,.string x.da] 27)) r L:=hm.kept ((heap_alloc_old _ _ (by have:=hm.lt;omega)).trans (hb.block r hm.lt));obtain⟨n,hget⟩:=hm1.get Tryz.underlying128 (rr_zero _) (HF.out x (List.mem_of_getElem? hx));rw [HL.out] at hget;have i1:(0:Int)<=(j:Int):=by omega
   have i2:(j:Int)<(xs.length:Int):=by omega
   have hbA:=hb.alloc hsz (.cells #[.string x.own,.int .i64 x.ty,.int .i64 x.cl,.int .i64 x.tt,.string x.da] 27);have hownA:=hown.alloc (.cells #[.string x.own,.int .i64 x.ty,.int .i64 x.cl,.int .i64 x.tt,.string x.da] 27)
   cases hh:hasR ys x with
   |true=>
    rw [hh] at hget;have e:=wth_yes hx hh;have hown2:=hownA;rw [<- e] at hown2;clear e put hcell hm1 hx hh;go_wp2;go_roundw
    case rel=>exact⟨j+1,by omega,by go_num,hown2,hbA⟩
    case measure=>simp [intOf];omega
   |false=>
    rw [hh] at hget;have HE:=Nm.hide (wth_no hx hh);clear put hcell hm1 hx hh;obtain⟨oa,oc,rfl⟩:=own_sl hown;generalize wthF (xs.take j) ys=WT at*;go_wp2_with (at_builtin;refine wpList_append_own _ rfl (.tmp 27) (.tmp 29) 28 rfl w1.heap.size 27 i0 _ 5 56 Tryz.underlying28 hi hz0 hz1 hz2 rfl (by decide) _ _ _ rfl (hownA.alloc _) ⟨wr.heap.size+1,0,none⟩ 1 1 [.string x.own,.int .i64 x.ty,.int .i64 x.cl,.int .i64 x.tt,.string x.da] rfl rfl (cell_newW _ _ _ _ _ _ _ (by simp)) (by intro u hu;simp at hu;rcases hu with rfl|rfl|rfl|rfl|rfl<;>rfl) (by unfold maxLen;omega) (by omega) (by simp;omega) ?_;intro va wa hown9 hgrow9 hnl9;clear hnl9)
    have hb9:Below w1.heap.size w1 wa:=(hbA.alloc hbA.size _).grown hgrow9 (by simp;omega) (fun k hk=>(hown.lt k hk).1);have o9:wa.ownsRow w1.heap.size 27 5 va (WT++[x]).length (rvVs (WT++[x])):=by simpa [rvVs,rvV] using hown9
    rw [<- HE.out] at o9;clear hown9 hgrow9;go_wp2;go_roundw
    case rel=>exact⟨j+1,by omega,by go_num,o9,hb9⟩
    case measure=>simp [intOf];omega
  ·have hjn:j=xs.length:=by omega
   subst hjn;rw [List.take_length] at hown;have hown2:=own_base hown (B':=w.heap.size) hb1.size;obtain⟨oa,oc,rfl⟩:=own_sl hown;go_wp2;go_ret;exact⟨_,rfl,hown2,Nm.below_two hb1 hb⟩
end Go.Proofs.YtieobflhfcgliaaGreat
