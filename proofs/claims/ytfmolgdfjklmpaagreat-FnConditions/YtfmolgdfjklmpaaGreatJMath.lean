import Derived.WalkKit
import Derived.Test.YtfmolgdfjklmpaaGreatRows
import Derived.WalkSpells
import Derived.WalkLawsBesides
import Derived.Lib.AppendStr
import Derived.Laws.IdiomStrings
import Derived.Laws.OwnMore
import Derived.Deep.RegionHeld
import Derived.RegionTactic
import Derived.ChangeAlike
import Derived.BigRegion
import Derived.Lib.Bytealg
namespace Go.Proofs.YtfmolgdfjklmpaaGreat.Nm
def splitF:Nat->ByteArray->Option (List ByteArray)
 |0,_=>none
 |f+1,r=>
  if h:0<r.size then
   if r[0].toNat=0 then(if r.size=1 then some [] else none)
   else if 63<r[0].toNat∨r.size<r[0].toNat+1 then none
   else(splitF f (r.extract (r[0].toNat+1) r.size)).map (fun ls=>r.extract 1 (r[0].toNat+1)::ls)
  else none
def split(s:ByteArray):Option (List ByteArray):=if s.size<=255 then splitF 256 s else none
theorem splitF_empty(f:Nat)(r:ByteArray)(h:r.size=0):splitF f r=none:=by
 cases f with
 |zero=>rfl
 |succ f=>rw [splitF,dif_neg (by omega)]
theorem splitF_end(f:Nat)(r:ByteArray)(h:0<r.size)(h0:r[0].toNat=0)(h1:r.size=1):splitF (f+1) r=some []:=by
 rw [splitF,dif_pos h,if_pos h0,if_pos h1]
theorem splitF_zero(f:Nat)(r:ByteArray)(h:0<r.size)(h0:r[0].toNat=0)(h1:r.size≠1):splitF (f+1) r=none:=by
 rw [splitF,dif_pos h,if_pos h0,if_neg h1]
theorem splitF_bad(f:Nat)(r:ByteArray)(h:0<r.size)(h0:r[0].toNat≠0)(h1:63<r[0].toNat∨r.size<r[0].toNat+1):splitF (f+1) r=none:=by
 rw [splitF,dif_pos h,if_neg h0,if_pos h1]
theorem splitF_step(f:Nat)(r:ByteArray)(h:0<r.size)(h0:r[0].toNat≠0)(h1:r[0].toNat<=63)(h2:r[0].toNat+1<=r.size):
 splitF (f+1) r=(splitF f (r.extract (r[0].toNat+1) r.size)).map (fun ls=>r.extract 1 (r[0].toNat+1)::ls):=by
 rw [splitF,dif_pos h,if_neg h0,if_neg (by omega)]
theorem split_long(s:ByteArray)(h:255<s.size):split s=none:=by rw [split,if_neg (by omega)]
theorem split_short(s:ByteArray)(h:s.size<=255):split s=splitF 256 s:=by rw [split,if_pos h]
def At(s:ByteArray)(ls:List ByteArray)(r:ByteArray):Prop:=
 ∃ f,r.size<f∧split s=(splitF f r).map (fun t=>ls++t)
theorem at_start(s:ByteArray)(h:s.size<=255):At s [] s:=⟨256,by omega,by rw [split_short s h];simp⟩
theorem at_empty{s r:ByteArray}{ls:List ByteArray}(h:At s ls r)(h0:r.size=0):split s=none:=by
 obtain⟨f,_,e⟩:=h;rw [e,splitF_empty f r h0];rfl
theorem at_end{s r:ByteArray}{ls:List ByteArray}(h:At s ls r)(hp:0<r.size)(h0:r[0].toNat=0)(h1:r.size=1):split s=some ls:=by
 obtain⟨f,hf,e⟩:=h;obtain⟨g,rfl⟩:∃ g,f=g+1:=⟨f-1,by omega⟩;rw [e,splitF_end g r hp h0 h1];simp
theorem at_zero{s r:ByteArray}{ls:List ByteArray}(h:At s ls r)(hp:0<r.size)(h0:r[0].toNat=0)(h1:r.size≠1):split s=none:=by
 obtain⟨f,hf,e⟩:=h;obtain⟨g,rfl⟩:∃ g,f=g+1:=⟨f-1,by omega⟩;rw [e,splitF_zero g r hp h0 h1];rfl
theorem at_bad{s r:ByteArray}{ls:List ByteArray}(h:At s ls r)(hp:0<r.size)(h0:r[0].toNat≠0)(h1:63<r[0].toNat∨r.size<r[0].toNat+1):split s=none:=by
 obtain⟨f,hf,e⟩:=h;obtain⟨g,rfl⟩:∃ g,f=g+1:=⟨f-1,by omega⟩;rw [e,splitF_bad g r hp h0 h1];rfl
theorem at_step{s r:ByteArray}{ls:List ByteArray}(h:At s ls r)(hp:0<r.size)(h0:r[0].toNat≠0)(h1:r[0].toNat<=63)(h2:r[0].toNat+1<=r.size):
 At s (ls++[r.extract 1 (r[0].toNat+1)]) (r.extract (r[0].toNat+1) r.size):=by
 obtain⟨f,hf,e⟩:=h;obtain⟨g,rfl⟩:∃ g,f=g+1:=⟨f-1,by omega⟩;refine⟨g,by simp;omega,?_⟩;rw [e,splitF_step g r hp h0 h1 h2,Option.map_map];congr 1;funext t;simp
theorem tl_len(r:ByteArray):r.toList.length=r.size:=by rw [ByteArray.toList_eq];simp
theorem tl_one{r:ByteArray}(h:0<r.size)(h1:r.size=1)(h0:r[0].toNat=0):(r.toList==[0])=true:=by
 rw [beq_iff_eq,ByteArray.toList_eq];refine List.ext_getElem (by simpa using h1) ?_;intro i hi hj;have:i=0:=by simpa using hj
 subst this;have e:r.data.toList[0]=r[0]:=rfl;rw [e];exact UInt8.toNat_inj.1 (by simpa using h0)
theorem tl_not_one{r:ByteArray}(h:0<r.size)(h1:¬(r.size=1∧r[0].toNat=0)):(r.toList==[0])=false:=by
 rw [beq_eq_false_iff_ne];intro e;rw [ByteArray.toList_eq] at e;apply h1;refine⟨by have:=congrArg List.length e;simpa using this,?_⟩;have g:r.data.toList[0]? =some 0:=by rw [e];rfl
 have g2:r.data.toList[0]? =some r[0]:=List.getElem?_eq_getElem (by simpa using h);rw [g2] at g;have g3:r[0]=0:=by simpa using g
 rw [g3];rfl
theorem tl_empty{r:ByteArray}(h:r.size=0):r.toList.isEmpty=true:=by
 rw [List.isEmpty_iff,<- List.length_eq_zero_iff,tl_len];exact h
theorem tl_not_empty{r:ByteArray}(h:0<r.size):r.toList.isEmpty=false:=by
 rw [Bool.eq_false_iff];intro e;rw [List.isEmpty_iff,<- List.length_eq_zero_iff,tl_len] at e;omega
theorem one_cell(x:Value)(h:x.oneCell'=true):∀ u:Value,u∈[x]->u.oneCell'=true:=by
 intro u hu;simp at hu;subst hu;exact h
end Go.Proofs.YtfmolgdfjklmpaaGreat.Nm
namespace Go.Proofs.YtfmolgdfjklmpaaGreat
open Go.RowKit
theorem Tryz.infoStr:(Tryz.prog.info? 9).map (fun i=>(i.zero,i.size,i.bytes))=some (some (.string ByteArray.empty),1,16):=by kernel_rfl
theorem own_step{W wr w1:World}{v v':Value}{B e:Nat}{ls:List ByteArray}{x:ByteArray}(hB:B<=wr.heap.size)
 (hown:wr.ownsRow B e 1 v ls.length (ls.map Value.string)) (hbel:Below B W wr) (o:Obj)
 (hown':w1.ownsRow B e 1 v' (ls.length+1) (ls.map Value.string++[.string x])) (hgrow:(wr.alloc o).grownBy w1 v.ownBlock):
 w1.ownsRow B e 1 v' (ls++[x]).length ((ls++[x]).map Value.string)∧Below B W w1:=by
 refine⟨by simpa using hown',?_⟩;refine(hbel.alloc hB o).grown hgrow (by simp;omega) ?_;intro k hk;exact(hown.lt k hk).1
theorem cell_new1(w:World)(x:Value)(e:Nat):∀ (j:Nat) (u:Value),[x][j]? =some u->(w.alloc (.cells #[x] e)).cell? ((⟨w.heap.size,0,none⟩:Addr).add j)=some u:=by
 intro j u hj
 match j,hj with
 |0,hj=>simp at hj;subst hj;simp [Addr.add]
theorem own_below{w w':World}{B e s n:Nat}{v:Value}{xs:List Value}(h:w.ownsRow B e s v n xs)(hb:Below w.heap.size w w'):w'.ownsRow B e s v n xs:=
 h.kept (row:=none) ⟨hb.os,hb.tape,hb.output,hb.size,fun k hk _=>hb.block k hk⟩ (by cases v.ownBlock<;>simp)
theorem own_base{w:World}{B B' e s n:Nat}{v:Value}{xs:List Value}(h:w.ownsRow B e s v n xs)(hb:B'<=B):w.ownsRow B' e s v n xs:=by
 refine⟨h.1,?_⟩
 rcases h.2 with hn|⟨g,cap,cur,hv,hbg,rest⟩
 ·exact .inl hn
 ·exact .inr ⟨g,cap,cur,hv,Nat.le_trans hb hbg,rest⟩
end Go.Proofs.YtfmolgdfjklmpaaGreat
namespace Go.Proofs.YtfmolgdfjklmpaaGreat.Nm
open Go.RowKit
def wsum:List ByteArray->Nat
 |[]=>0
 |l::r=>(1+l.size)+wsum r
def preL:List ByteArray->List UInt8
 |[]=>[]
 |l::r=>(UInt8.ofNat l.size::l.data.toList)++preL r
def joinL(ls:List ByteArray):List UInt8:=preL ls++[0]
theorem hide{p:Prop}(h:p):Hid p:=h
theorem wsum_append(a b:List ByteArray):wsum (a++b)=wsum a+wsum b:=by
 induction a with
 |nil=>simp [wsum]
 |cons x a ih=>simp only [List.cons_append,wsum,ih];omega
theorem preL_append(a b:List ByteArray):preL (a++b)=preL a++preL b:=by
 induction a with
 |nil=>simp [preL]
 |cons x a ih=>simp [preL,ih]
theorem preL_length(ls:List ByteArray):(preL ls).length=wsum ls:=by
 induction ls with
 |nil=>rfl
 |cons x a ih=>simp only [preL,wsum,List.length_append,List.length_cons,ih,Array.length_toList,ByteArray.size_data];omega
theorem joinL_length(ls:List ByteArray):(joinL ls).length=wsum ls+1:=by simp [joinL,preL_length]
theorem length_le_wsum(ls:List ByteArray):ls.length<=wsum ls:=by
 induction ls with
 |nil=>simp
 |cons x a ih=>simp only [wsum,List.length_cons];omega
theorem take_step{α:Type}{ls:List α}{k:Nat}{x:α}(h:ls[k]? =some x):ls.take (k+1)=ls.take k++[x]:=by
 obtain⟨hk,e⟩:=List.getElem?_eq_some_iff.1 h;rw [List.take_succ_eq_append_getElem hk,e]
theorem wsum_step{ls:List ByteArray}{k:Nat}{x:ByteArray}(h:ls[k]? =some x):wsum (ls.take (k+1))=wsum (ls.take k)+(1+x.size):=by
 rw [take_step h,wsum_append];simp [wsum]
theorem preL_step{ls:List ByteArray}{k:Nat}{x:ByteArray}(h:ls[k]? =some x):preL (ls.take (k+1))=preL (ls.take k)++(UInt8.ofNat x.size::x.data.toList):=by
 rw [take_step h,preL_append];simp [preL]
theorem wsum_take_le(ls:List ByteArray)(k:Nat):wsum (ls.take k)<=wsum ls:=by
 have e:=wsum_append (ls.take k) (ls.drop k);rw [List.take_append_drop] at e;omega
def bys(l:List UInt8):List Value:=l.map fun b=>Value.int .u8 b.toNat
theorem bys_append(a b:List UInt8):bys (a++b)=bys a++bys b:=by simp [bys]
theorem bys_length(a:List UInt8):(bys a).length=a.length:=by simp [bys]
def SRow(w:World)(v:Value)(ls:List ByteArray):Prop:=
 ∃ a cap,v=.slice a ls.length cap∧ls.length<=cap∧cap<=maxLen∧(a=none->cap=0)∧
   (ls≠[]->∃ b off,a=some ⟨b,off,none⟩∧∀ i x,ls[i]? =some x->w.cell? ⟨b,off+i,none⟩=some (.string x))
theorem SRow.of_owns{w:World}{B e:Nat}{v:Value}{ls:List ByteArray}(h:w.ownsRow B e 1 v ls.length (ls.map Value.string)):SRow w v ls:=by
 rcases h.2 with⟨rfl,h0⟩|⟨g,cap,cur,rfl,hb,hg,hn,hm,hs,ht⟩
 ·have:ls=[]:=List.length_eq_zero_iff.1 h0;subst this;exact⟨none,0,rfl,by simp,by decide,fun _=>rfl,fun h=>absurd rfl h⟩
 ·refine⟨_,cap,rfl,hn,hm,(fun h=>by cases h),fun _=>⟨g,0,rfl,?_⟩⟩;intro i x hx;obtain⟨hi,e⟩:=List.getElem?_eq_some_iff.1 hx;rw [Nat.zero_add,h.cellAt i (by omega)];simp [hx]
theorem SRow.below{w w':World}{v:Value}{ls:List ByteArray}(h:SRow w v ls)(hb:Below w.heap.size w w'):SRow w' v ls:=by
 obtain⟨a,cap,rfl,h1,h2,h2',h3⟩:=h;refine⟨a,cap,rfl,h1,h2,h2',fun hne=>?_⟩;obtain⟨b,off,rfl,hc⟩:=h3 hne;refine⟨b,off,rfl,fun i x hx=>?_⟩;have:=hc i x hx;rw [hb.cell (World.block_lt_of_cell? w _ this)];exact this
theorem below_two{w w1 w2:World}(h1:Below w.heap.size w w1)(h2:Below w1.heap.size w1 w2):Below w.heap.size w w2:=
 h1.trans (h2.mono h1.size)
theorem bys_step{W wr w1:World}{v v':Value}{B e n m:Nat}{l x:List UInt8}(hB:B<=wr.heap.size)
 (hown:wr.ownsRow B e 1 v n (bys l)) (hbel:Below B W wr)
 (hown':w1.ownsRow B e 1 v' (n+m) (bys l++bys x)) (hgrow:wr.grownBy w1 v.ownBlock):
 w1.ownsRow B e 1 v' (n+m) (bys (l++x))∧Below B W w1:=by
 refine⟨by rw [bys_append];exact hown',?_⟩;exact hbel.grown hgrow hB (fun k hk=>(hown.lt k hk).1)
theorem conv_own{P:Program}{w:World}{B e src dst n:Nat}{v:Value}{l:List UInt8}(hs:P.underlying src=some (.slice e))(he:P.underlying e=some (.int .u8))(hd:P.underlying dst=some .string)
 (h:w.ownsRow B e 1 v n (bys l)) (hp:0<n):
 ∃ g cap,v=.slice (some ⟨g,0,none⟩) n cap∧(convert src dst (.slice (some ⟨g,0,none⟩) n cap)).run P w=.ok (.string ⟨l.toArray⟩) w:=by
 have hn:n=l.length:=by have:=h.1;rw [bys_length] at this;omega
 subst hn
 rcases h.2 with⟨rfl,h0⟩|⟨g,cap,cur,rfl,hb,hg,hnc,hm,hcs,ht⟩
 ·omega
 ·refine⟨g,cap,rfl,run_convert_bytes_back w src dst e ⟨g,0,none⟩ cap l hs he hd ?_⟩;intro j hj;exact h.cells (g:=g) rfl j _ (by simp [bys,hj])
theorem addr_add(b off k:Nat):(⟨b,off,none⟩:Addr).add k=⟨b,off+k,none⟩:=by
 unfold Addr.add;split<;>simp_all
theorem SRow.drop_all{w:World}{a:Option Addr}{ls:List ByteArray}{cap k:Nat}(h:SRow w (.slice a ls.length cap) ls)(hk:cap=k):SRow w (.slice a (ls.length-k) 0) (ls.drop k):=by
 obtain⟨a',cap',e,h1,h2,h3,h4⟩:=h;simp only [Value.slice.injEq] at e;obtain⟨rfl,_,rfl⟩:=e;have hd:ls.drop k=[]:=List.drop_eq_nil_of_le (by omega);rw [hd];exact⟨a,0,by simp;omega,by simp,by decide,fun _=>rfl,fun h=>absurd rfl h⟩
theorem SRow.drop{w:World}{a:Option Addr}{ls:List ByteArray}{cap k:Nat}(h:SRow w (.slice a ls.length cap) ls)(hk:k<=ls.length):
 SRow w (.slice (a.map (fun x=>x.add k)) (ls.length-k) (cap-k)) (ls.drop k):=by
 obtain⟨a',cap',e,h1,h2,h3,h4⟩:=h;simp only [Value.slice.injEq] at e;obtain⟨rfl,_,rfl⟩:=e;refine⟨_,_,by rw [List.length_drop],by rw [List.length_drop];omega,by omega,?_,?_⟩
 ·intro h;simp at h;have:=h3 h;omega
 ·intro hne;obtain⟨b,off,rfl,hc⟩:=h4 (by intro h;rw [h] at hne;simp at hne);refine⟨b,off+k,by simp [addr_add],?_⟩;intro i x hx;rw [List.getElem?_drop] at hx;rw [Nat.add_assoc];exact hc _ _ hx
theorem wsum_drop_le(ls:List ByteArray)(k:Nat):wsum (ls.drop k)<=wsum ls:=by
 have e:=wsum_append (ls.take k) (ls.drop k);rw [List.take_append_drop] at e;omega
theorem splitF_size:∀ (f:Nat) (r:ByteArray) (ls:List ByteArray),splitF f r=some ls->wsum ls+1=r.size:=by
 intro f
 induction f with
 |zero=>intro r ls h;simp [splitF] at h
 |succ f ih=>
  intro r ls h
  by_cases hp:0<r.size
  ·by_cases h0:r[0].toNat=0
   ·by_cases h1:r.size=1
    ·rw [splitF_end f r hp h0 h1] at h;simp at h;subst h;simp [wsum];omega
    ·rw [splitF_zero f r hp h0 h1] at h;simp at h
   ·by_cases h1:63<r[0].toNat∨r.size<r[0].toNat+1
    ·rw [splitF_bad f r hp h0 h1] at h;simp at h
    ·rw [splitF_step f r hp h0 (by omega) (by omega)] at h
     cases e:splitF f (r.extract (r[0].toNat+1) r.size) with
     |none=>rw [e] at h;simp at h
     |some t=>
      rw [e] at h;simp at h;have:=ih _ _ e;rw [<- h];simp at this;simp [wsum];omega
  ·rw [splitF_empty _ r (by omega)] at h;simp at h
theorem split_size{s:ByteArray}{ls:List ByteArray}(h:split s=some ls):wsum ls+1=s.size∧s.size<=255:=by
 by_cases hl:s.size<=255
 ·rw [split_short s hl] at h;exact⟨splitF_size _ _ _ h,hl⟩
 ·rw [split_long s (by omega)] at h;simp at h
end Go.Proofs.YtfmolgdfjklmpaaGreat.Nm
namespace Go.Proofs.YtfmolgdfjklmpaaGreat
open Go.RowKit
def CRow(w:World)(v:Value)(n s:Nat)(cs:List Value):Prop:=
 cs.length=n*s∧∃ a cap,v=.slice a n cap∧n<=cap∧cap<=maxLen∧
  (0<n->∃ b off,a=some ⟨b,off,none⟩∧∀ (i:Nat) (x:Value),cs[i]? =some x->w.cell? ⟨b,off+i,none⟩=some x)
theorem CRow.of_owns{w:World}{B e s n:Nat}{v:Value}{cs:List Value}(h:w.ownsRow B e s v n cs):CRow w v n s cs:=by
 refine⟨h.1,?_⟩
 rcases h.2 with⟨rfl,h0⟩|⟨g,cap,cur,rfl,hb,hg,hn,hm,hs,ht⟩
 ·subst h0;exact⟨none,0,rfl,Nat.le_refl _,by decide,fun h=>by omega⟩
 ·refine⟨_,cap,rfl,hn,hm,fun _=>⟨g,0,rfl,?_⟩⟩;intro i x hx;have hi:i<n*s:=by rw [<- h.1];exact(List.getElem?_eq_some_iff.1 hx).1
  rw [Nat.zero_add,h.cellAt i hi];exact hx
theorem CRow.below{w w':World}{v:Value}{n s:Nat}{cs:List Value}(h:CRow w v n s cs)(hb:Below w.heap.size w w'):CRow w' v n s cs:=by
 obtain⟨h0,a,cap,rfl,h1,h2,h3⟩:=h;refine⟨h0,a,cap,rfl,h1,h2,fun hp=>?_⟩;obtain⟨b,off,rfl,hc⟩:=h3 hp;refine⟨b,off,rfl,fun i x hx=>?_⟩;have:=hc i x hx;rw [hb.cell (World.block_lt_of_cell? w _ this)];exact this
end Go.Proofs.YtfmolgdfjklmpaaGreat
namespace Go.Proofs.YtfmolgdfjklmpaaGreat
open Go.RowKit
set_option linter.unusedVariables false
structure Rr where
 own:ByteArray
 ty:Int
 cl:Int
 tt:Int
 da:ByteArray
def rvV(r:Rr):List Value:=[.string r.own,.int .i64 r.ty,.int .i64 r.cl,.int .i64 r.tt,.string r.da]
def rvVs(xs:List Rr):List Value:=xs.flatMap rvV
theorem rvVs_cons(x:Rr)(xs:List Rr):rvVs (x::xs)=rvV x++rvVs xs:=by simp [rvVs]
theorem rvVs_app(a b:List Rr):rvVs (a++b)=rvVs a++rvVs b:=by simp [rvVs]
theorem rvVs_len(xs:List Rr):(rvVs xs).length=xs.length*5:=by
 induction xs with
 |nil=>rfl
 |cons x xs ih=>
  have:(rvV x).length=5:=rfl;rw [rvVs_cons,List.length_append,ih,List.length_cons,this];omega
theorem rvVs_at:∀ (xs:List Rr) (k j:Nat) (x:Rr),xs[k]? =some x->j<5->(rvVs xs)[k*5+j]? =(rvV x)[j]? :=by
 intro xs
 induction xs with
 |nil=>intro k j x h;simp at h
 |cons y xs ih=>
  intro k j x h hj;have hl:(rvV y).length=5:=rfl
  cases k with
  |zero=>
   simp at h;subst h
   rw [rvVs_cons,Nat.zero_mul,Nat.zero_add,List.getElem?_append_left (by omega)]
  |succ k=>
   simp at h;rw [rvVs_cons,List.getElem?_append_right (by omega),hl,show(k+1)*5+j-5=k*5+j by omega];exact ih k j x h hj
theorem rv_cells{w:World}{xs:List Rr}{b off k:Nat}{x:Rr}(hc:∀ (i:Nat) (y:Value),(rvVs xs)[i]? =some y->w.cell? ⟨b,off+i,none⟩=some y)(h:xs[k]? =some x):
 w.cell? ⟨b,off+k*5,none⟩=some (.string x.own)∧w.cell? ⟨b,off+k*5+1,none⟩=some (.int .i64 x.ty)∧w.cell? ⟨b,off+k*5+2,none⟩=some (.int .i64 x.cl)∧w.cell? ⟨b,off+k*5+3,none⟩=some (.int .i64 x.tt)∧w.cell? ⟨b,off+k*5+4,none⟩=some (.string x.da):=
 ⟨hc (k*5) _ ((rvVs_at xs k 0 x h (by decide)).trans rfl),hc (k*5+1) _ ((rvVs_at xs k 1 x h (by decide)).trans rfl),hc (k*5+2) _ ((rvVs_at xs k 2 x h (by decide)).trans rfl),hc (k*5+3) _ ((rvVs_at xs k 3 x h (by decide)).trans rfl),hc (k*5+4) _ ((rvVs_at xs k 4 x h (by decide)).trans rfl)⟩
end Go.Proofs.YtfmolgdfjklmpaaGreat
namespace Go.Proofs.YtfmolgdfjklmpaaGreat.Nm
open Go.RowKit
def low(c:UInt8):UInt8:=if 65<=c.toNat∧c.toNat<=90 then UInt8.ofNat (c.toNat+32) else c
def smallL(l:List UInt8):List UInt8:=l.map low
def small(s:ByteArray):ByteArray:=⟨(smallL s.data.toList).toArray⟩
theorem low_up{c:UInt8}(h:65<=c.toNat∧c.toNat<=90):((low c).toNat:Int)=(c.toNat:Int)+32:=by
 rw [low,if_pos h];simp;omega
theorem low_id{c:UInt8}(h:¬(65<=c.toNat∧c.toNat<=90)):low c=c:=by rw [low,if_neg h]
theorem small_data(s:ByteArray):(small s).data.toList=smallL s.data.toList:=by simp [small]
theorem small_size(s:ByteArray):(small s).size=s.size:=by
 have:(small s).data.toList.length=s.data.toList.length:=by rw [small_data];simp [smallL]
 simpa using this
theorem ba_ext{a b:ByteArray}(h:a.data.toList=b.data.toList):a=b:=by
 apply ByteArray.ext;exact Array.toList_inj.1 h
theorem smallL_step{l:List UInt8}{k:Nat}{c:UInt8}(h:l[k]? =some c):smallL (l.take (k+1))=smallL (l.take k)++[low c]:=by
 rw [take_step h];simp [smallL]
theorem get_data{x:ByteArray}{j:Nat}(h:j<x.size):x.data.toList[j]? =some x[j]:=by
 rw [List.getElem?_eq_getElem (by simpa using h)];rfl
theorem cut_data(r:ByteArray)(h:0<r.size)(n:Nat):
 r.data.toList=r[0]::((r.extract 1 (n+1)).data.toList++(r.extract (n+1) r.size).data.toList):=by
 have e0:r.data.toList=r[0]::r.data.toList.drop 1:=by
  have hl:0<r.data.toList.length:=by simpa using h
  have:=List.drop_eq_getElem_cons (i:=0) hl;rw [List.drop_zero] at this;exact this
 rw [e0];congr 1;have e1:(r.extract 1 (n+1)).data.toList=(r.data.toList.drop 1).take n:=by simp
 have e2:(r.extract (n+1) r.size).data.toList=(r.data.toList.drop 1).drop n:=by
  simp only [ByteArray.data_extract,Array.toList_extract,List.drop_drop];rw [List.extract_eq_take_drop,List.take_of_length_le (by simp)];congr 1;omega
 rw [e1,e2,List.take_append_drop]
theorem splitF_join:∀ (f:Nat) (r:ByteArray) (ls:List ByteArray),splitF f r=some ls->joinL ls=r.data.toList∧∀ x∈ls,1<=x.size∧x.size<=63:=by
 intro f
 induction f with
 |zero=>intro r ls h;simp [splitF] at h
 |succ f ih=>
  intro r ls h
  by_cases hp:0<r.size
  ·by_cases h0:r[0].toNat=0
   ·by_cases h1:r.size=1
    ·rw [splitF_end f r hp h0 h1] at h;simp at h;subst h;refine⟨?_,by simp⟩;have e:=cut_data r hp 0;have z:r[0]=0:=UInt8.toNat_inj.1 (by simpa using h0);rw [e,z];have e1:(r.extract 1 (0+1)).data.toList=[]:=by simp
     have e2:(r.extract (0+1) r.size).data.toList=[]:=by simp [h1]
     rw [e1,e2];rfl
    ·rw [splitF_zero f r hp h0 h1] at h;simp at h
   ·by_cases h1:63<r[0].toNat∨r.size<r[0].toNat+1
    ·rw [splitF_bad f r hp h0 h1] at h;simp at h
    ·rw [splitF_step f r hp h0 (by omega) (by omega)] at h
     cases e:splitF f (r.extract (r[0].toNat+1) r.size) with
     |none=>rw [e] at h;simp at h
     |some t=>
      rw [e] at h;simp at h;obtain⟨i1,i2⟩:=ih _ _ e;have hsz:(r.extract 1 (r[0].toNat+1)).size=r[0].toNat:=by simp;omega
      rw [<- h];constructor
      ·rw [cut_data r hp r[0].toNat,<- i1];simp only [joinL,preL,hsz];simp
      ·intro x hx
       rcases List.mem_cons.1 hx with rfl|hx
       ·rw [hsz];omega
       ·exact i2 x hx
  ·rw [splitF_empty _ r (by omega)] at h;simp at h
theorem split_join{s:ByteArray}{ls:List ByteArray}(h:split s=some ls):joinL ls=s.data.toList∧∀ x∈ls,1<=x.size∧x.size<=63:=by
 by_cases hl:s.size<=255
 ·rw [split_short s hl] at h;exact splitF_join _ _ _ h
 ·rw [split_long s (by omega)] at h;simp at h
theorem low_len{n:Nat}(h:n<=63):low (UInt8.ofNat n)=UInt8.ofNat n:=by
 apply low_id
 simp;omega
theorem preL_small(ls:List ByteArray)(h:∀ x∈ls,x.size<=63):preL (ls.map small)=smallL (preL ls):=by
 induction ls with
 |nil=>rfl
 |cons x r ih=>
  have hx:=h x (List.mem_cons_self);have:=ih (fun y hy=>h y (List.mem_cons_of_mem _ hy));simp only [List.map_cons,preL,small_size,small_data,this];simp [smallL,low_len hx]
theorem joinL_small{s:ByteArray}{ls:List ByteArray}(h:split s=some ls):(⟨(joinL (ls.map small)).toArray⟩:ByteArray)=small s:=by
 obtain⟨h1,h2⟩:=split_join h;apply ba_ext;rw [small_data,<- h1];simp only [joinL];rw [preL_small ls (fun x hx=>(h2 x hx).2)];simp [smallL,low]
theorem wsum_small(ls:List ByteArray):wsum (ls.map small)=wsum ls:=by
 induction ls with
 |nil=>rfl
 |cons x r ih=>simp only [List.map_cons,wsum,small_size,ih]
def foldS(s:ByteArray):ByteArray:=if(split s).isSome then small s else ByteArray.empty
theorem foldS_none{s:ByteArray}(h:split s=none):foldS s=ByteArray.empty:=by simp [foldS,h]
theorem foldS_some{s:ByteArray}{ls:List ByteArray}(h:split s=some ls):foldS s=small s:=by simp [foldS,h]
end Go.Proofs.YtfmolgdfjklmpaaGreat.Nm
namespace Go.Proofs.YtfmolgdfjklmpaaGreat.Nm
open Go.RowKit
def cmpI(a b:Int):Int:=if a<b then -1 else if b<a then 1 else 0
def ordL(a b:List UInt8):Int:=if Op.bytesLess a b=true then -1 else if a=b then 0 else 1
theorem cmpI_lt{a b:Int}(h:a<b):cmpI a b= -1:=if_pos h
theorem cmpI_gt{a b:Int}(h:b<a):cmpI a b=1:=by rw [cmpI,if_neg (by omega),if_pos h]
theorem cmpI_eq{a b:Int}(h:a=b):cmpI a b=0:=by rw [cmpI,if_neg (by omega),if_neg (by omega)]
theorem cmpI_ne{a b:Int}(h:a≠b):cmpI a b≠0:=by
 by_cases h1:a<b
 ·rw [cmpI_lt h1];decide
 ·rw [cmpI_gt (by omega)];decide
theorem ordL_nil:ordL [] []=0:=rfl
theorem ordL_left(y:UInt8)(b:List UInt8):ordL [] (y::b)= -1:=rfl
theorem ordL_right(x:UInt8)(a:List UInt8):ordL (x::a) []=1:=rfl
theorem ordL_same(x:UInt8)(a b:List UInt8):ordL (x::a) (x::b)=ordL a b:=by
 simp [ordL,Op.bytesLess]
theorem ordL_ne{x y:UInt8}(a b:List UInt8)(h:x≠y):ordL (x::a) (y::b)=cmpI x.toNat y.toNat:=by
 have hn:x.toNat≠y.toNat:=fun e=>h (UInt8.toNat_inj.1 e)
 by_cases hl:x<y
 ·have hl':(x.toNat:Int)<(y.toNat:Int):=by have:=UInt8.lt_iff_toNat_lt.1 hl;omega
  rw [cmpI_lt hl'];simp [ordL,Op.bytesLess,hl]
 ·have hl':(y.toNat:Int)<(x.toNat:Int):=by
   have:¬x.toNat<y.toNat:=fun e=>hl (UInt8.lt_iff_toNat_lt.2 e)
   omega
  rw [cmpI_gt hl'];simp [ordL,Op.bytesLess,hl,h]
theorem ord_at:∀ (k:Nat) (a b:List UInt8) (x y:UInt8),a.take k=b.take k->a[k]? =some x->b[k]? =some y->x≠y->ordL a b=cmpI x.toNat y.toNat:=by
 intro k
 induction k with
 |zero=>
  intro a b x y _ hx hy hne
  cases a with
  |nil=>simp at hx
  |cons c a=>
   cases b with
   |nil=>simp at hy
   |cons d b=>
    simp at hx hy;subst hx hy
    exact ordL_ne a b hne
 |succ k ih=>
  intro a b x y ht hx hy hne
  cases a with
  |nil=>simp at hx
  |cons c a=>
   cases b with
   |nil=>simp at hy
   |cons d b=>
    simp at ht hx hy;obtain⟨rfl,ht⟩:=ht;rw [ordL_same];exact ih a b x y ht hx hy hne
theorem ord_end:∀ (k:Nat) (a b:List UInt8),a.take k=b.take k->k<=a.length->k<=b.length->(k=a.length∨k=b.length)->ordL a b=cmpI a.length b.length:=by
 intro k
 induction k with
 |zero=>
  intro a b _ _ _ h
  cases a with
  |nil=>
   cases b with
   |nil=>rfl
   |cons d b=>rw [ordL_left,cmpI_lt (by simp)]
  |cons c a=>
   cases b with
   |nil=>rw [ordL_right,cmpI_gt (by simp)]
   |cons d b=>simp at h
 |succ k ih=>
  intro a b ht h1 h2 h
  cases a with
  |nil=>simp at h1
  |cons c a=>
   cases b with
   |nil=>simp at h2
   |cons d b=>
    simp at ht h1 h2 h;obtain⟨rfl,ht⟩:=ht;rw [ordL_same,ih a b ht h1 h2 h];simp only [List.length_cons,cmpI];congr 1
    ·simp
    ·congr 1;simp
theorem take_snoc_eq{a b:List UInt8}{k:Nat}{x y:UInt8}(h:a.take k=b.take k)(hx:a[k]? =some x)(hy:b[k]? =some y)(e:x=y):a.take (k+1)=b.take (k+1):=by
 rw [take_step hx,take_step hy,h,e]
theorem small_get{x:ByteArray}{j:Nat}(h:j<x.size):(smallL x.data.toList)[j]? =some (low x[j]):=by
 simp only [smallL,List.getElem?_map,get_data h,Option.map_some]
theorem smallL_length(x:ByteArray):(smallL x.data.toList).length=x.size:=by simp [smallL]
def ordS(x y:ByteArray):Int:=ordL (smallL x.data.toList) (smallL y.data.toList)
def cmpRev:List ByteArray->List ByteArray->Int
 |[],[]=>0
 |[],_::_=> -1
 |_::_,[]=>1
 |x::a,y::b=>if ordS x y=0 then cmpRev a b else ordS x y
def cmpLs(xs ys:List ByteArray):Int:=cmpRev xs.reverse ys.reverse
theorem cmp_stop{a b:List ByteArray}{k:Nat}{x y:ByteArray}(hx:a[k]? =some x)(hy:b[k]? =some y)(h:ordS x y≠0):cmpRev (a.drop k) (b.drop k)=ordS x y:=by
 obtain⟨h1,rfl⟩:=List.getElem?_eq_some_iff.1 hx;obtain⟨h2,rfl⟩:=List.getElem?_eq_some_iff.1 hy;rw [List.drop_eq_getElem_cons h1,List.drop_eq_getElem_cons h2,cmpRev,if_neg h]
theorem cmp_go{a b:List ByteArray}{k:Nat}{x y:ByteArray}(hx:a[k]? =some x)(hy:b[k]? =some y)(h:ordS x y=0):cmpRev (a.drop k) (b.drop k)=cmpRev (a.drop (k+1)) (b.drop (k+1)):=by
 obtain⟨h1,rfl⟩:=List.getElem?_eq_some_iff.1 hx;obtain⟨h2,rfl⟩:=List.getElem?_eq_some_iff.1 hy;rw [List.drop_eq_getElem_cons h1,List.drop_eq_getElem_cons h2,cmpRev,if_pos h]
theorem cmp_end{a b:List ByteArray}{k:Nat}(h1:k<=a.length)(h2:k<=b.length)(h:k=a.length∨k=b.length):cmpRev (a.drop k) (b.drop k)=cmpI a.length b.length:=by
 rcases h with h|h
 ·rw [List.drop_of_length_le (by omega)]
  by_cases e:k=b.length
  ·rw [List.drop_of_length_le (by omega),cmpI_eq (by omega)];rfl
  ·rw [List.drop_eq_getElem_cons (by omega:k<b.length),cmpI_lt (by omega)];rfl
 ·rw [List.drop_of_length_le (l:=b) (by omega)]
  by_cases e:k=a.length
  ·rw [List.drop_of_length_le (by omega),cmpI_eq (by omega)];rfl
  ·rw [List.drop_eq_getElem_cons (by omega:k<a.length),cmpI_gt (by omega)];rfl
theorem rev_get{ls:List ByteArray}{k:Nat}(h:k<ls.length){x:ByteArray}(hx:ls[ls.length-(k+1)]? =some x):ls.reverse[k]? =some x:=by
 rw [List.getElem?_reverse h,<- hx];congr 1;omega
def cmpS(a b:ByteArray):Int:=
 match split a,split b with
 |some xs,some ys=>cmpLs xs ys
 |_,_=>0
end Go.Proofs.YtfmolgdfjklmpaaGreat.Nm
namespace Go.Proofs.YtfmolgdfjklmpaaGreat
open Go.RowKit
set_option linter.unusedVariables false
theorem hgr_step{w w1 w2:World}{g:Nat}(h:w.grownBy w1 (some g))(h2:w1.grownBy w2 (some g)):w.grownBy w2 (some g):=
 ⟨h2.os.trans h.os,h2.tape.trans h.tape,h2.output.trans h.output,Nat.le_trans h.size h2.size,fun k hk hne=>(h2.block k (Nat.lt_of_lt_of_le hk h.size) hne).trans (h.block k hk hne)⟩
theorem hgr_below{w w1 w2:World}{g:Nat}(h:w.grownBy w1 (some g))(h2:Below w1.heap.size w1 w2):w.grownBy w2 (some g):=
 ⟨h2.os.trans h.os,h2.tape.trans h.tape,h2.output.trans h.output,Nat.le_trans h.size h2.size,fun k hk hne=>
  (h2.block k (Nat.lt_of_lt_of_le hk h.size)).trans (h.block k hk hne)⟩
def Blk(w:World)(b:Nat)(cs:Array Value)(T:TypeId):Prop:=w.heap[b]? =some (.cells cs T (0,0))
theorem blk_lt{w:World}{b:Nat}{cs:Array Value}{T:TypeId}(h:Blk w b cs T):b<w.heap.size:=(Array.getElem?_eq_some_iff.1 h).1
theorem blk_grown{w w1:World}{b:Nat}{cs:Array Value}{T:TypeId}{row:Option Nat}(h:Blk w b cs T)(hg:w.grownBy w1 row)(hr:row≠some b):Blk w1 b cs T:=by
 unfold Blk;rw [hg.block b (blk_lt h) (fun e=>hr e.symm)];exact h
theorem blk_below{w w1:World}{b:Nat}{cs:Array Value}{T:TypeId}(h:Blk w b cs T)(hb:Below w.heap.size w w1):Blk w1 b cs T:=by
 unfold Blk;rw [hb.block b (blk_lt h)];exact h
theorem blk_new(w:World)(cs:Array Value)(T:TypeId):Blk (w.alloc (.cells cs T)) w.heap.size cs T:=by
 unfold Blk;show(w.heap.push _)[w.heap.size]? =_;simp
theorem blk_alloc{w:World}{b:Nat}{cs:Array Value}{T:TypeId}(h:Blk w b cs T)(o:Obj):Blk (w.alloc o) b cs T:=
 blk_below h ((Below.refl _ _).alloc (Nat.le_refl _) o)
theorem blk_cell{w:World}{b:Nat}{cs:Array Value}{T:TypeId}(h:Blk w b cs T)(i:Nat):w.cell? ⟨b,i,none⟩=cs[i]? :=cell_of_row _ _ _ _ _ _ h
theorem blk_frozen{w:World}{b:Nat}{cs:Array Value}{T:TypeId}(h:Blk w b cs T)(i:Nat):w.frozen? ⟨b,i,none⟩=false:=frozen_of_row w b i _ _ h
theorem blk_set{w:World}{b:Nat}{cs:Array Value}{T:TypeId}(h:Blk w b cs T)(i:Nat)(v:Value):Blk (w.setCell ⟨b,i,none⟩ v) b (cs.setIfInBounds i v) T:=heap_setCell_same w b i _ _ v h
theorem blk_far{w:World}{b c i:Nat}{cs:Array Value}{T:TypeId}{v:Value}(h:Blk w b cs T)(hne:b≠c):Blk (w.setCell ⟨c,i,none⟩ v) b cs T:=by
 unfold Blk;rw [heap_setCell_other w ⟨c,i,none⟩ b _ (by simpa using hne)];exact h
def setAll(w:World)(b i:Nat):List Value->World
 |[]=>w
 |v::vs=>setAll (w.setCell ⟨b,i,none⟩ v) b (i+1) vs
theorem setAll_same{b:Nat}{T:TypeId}:∀ (vs old pre:List Value) (w:World),Blk w b (pre++old).toArray T->old.length=vs.length->Blk (setAll w b pre.length vs) b (pre++vs).toArray T:=by
 intro vs
 induction vs with
 |nil=>
  intro old pre w h hl;have:old=[]:=List.length_eq_zero_iff.1 hl;subst this
  exact h
 |cons v vs ih=>
  intro old pre w h hl
  cases old with
  |nil=>simp at hl
  |cons x old=>
   have h2:=blk_set h pre.length v;have e:(pre++x::old).toArray.setIfInBounds pre.length v=((pre++[v])++old).toArray:=by simp
   rw [e] at h2;have h3:=ih old (pre++[v]) _ h2 (by simpa using hl);rw [List.length_append] at h3;simpa [setAll] using h3
theorem setAll_new{b:Nat}{T:TypeId}{old:Array Value}(vs:List Value){w:World}(h:Blk w b old T)(hl:old.size=vs.length):Blk (setAll w b 0 vs) b vs.toArray T:=by
 have:=setAll_same vs old.toList [] w (by simpa using h) (by simpa using hl);simpa using this
theorem blk_drew{w:World}{b:Nat}{cs:Array Value}{T:TypeId}(h:Blk w b cs T):Blk w.drew b cs T:=h
def rowCs(rs:List (Value×Value)):List Value:=rs.flatMap fun p=>[p.1,p.2]
theorem rowCs_at:∀ (rs:List (Value×Value)) (k j:Nat) (x:Value×Value),rs[k]? =some x->j<2->(rowCs rs)[k*2+j]? =[x.1,x.2][j]? :=by
 intro rs
 induction rs with
 |nil=>intro k j x h;simp at h
 |cons y rs ih=>
  intro k j x h hj;have e:rowCs (y::rs)=[y.1,y.2]++rowCs rs:=by simp [rowCs]
  cases k with
  |zero=>
   simp at h;subst h
   rw [e,Nat.zero_mul,Nat.zero_add,List.getElem?_append_left (by simpa using hj)]
  |succ k=>
   simp at h;rw [e,List.getElem?_append_right (by simp;omega),show(k+1)*2+j - [y.1,y.2].length=k*2+j by simp;omega];exact ih k j x h hj
def Fnd(n:Nat)(cf:Nat->Int)(k:Nat):Prop:=k<=n∧(∀ i,i<k->cf i<0)∧(∀ i,k<=i->i<n->0<=cf i)
theorem Fnd.unique{n:Nat}{cf:Nat->Int}{a b:Nat}(ha:Fnd n cf a)(hb:Fnd n cf b):a=b:=by
 obtain⟨a1,a2,a3⟩:=ha;obtain⟨b1,b2,b3⟩:=hb
 rcases Nat.lt_trichotomy a b with h|h|h
 ·have h1:=b2 a h;have h2:=a3 a (Nat.le_refl _) (by omega);omega
 ·exact h
 ·have h1:=a2 b h;have h2:=b3 b (Nat.le_refl _) (by omega);omega
theorem rowCs_take(rs:List (Value×Value))(k:Nat):rowCs (rs.take k)=(rowCs rs).take (k*2):=by
 induction rs generalizing k with
 |nil=>simp [rowCs]
 |cons x rs ih=>
  have e:∀ z zs,rowCs (z::zs)=[z.1,z.2]++rowCs zs:=by intro z zs;simp [rowCs]
  cases k with
  |zero=>simp [rowCs]
  |succ k=>
   rw [List.take_succ_cons,e,e,ih,List.take_append,List.take_of_length_le (l:=[x.1,x.2]) (i:=(k+1)*2) (by simp;omega),show(k+1)*2 - [x.1,x.2].length=k*2 by simp;omega]
theorem rowCs_drop(rs:List (Value×Value))(k:Nat):rowCs (rs.drop k)=(rowCs rs).drop (k*2):=by
 induction rs generalizing k with
 |nil=>simp [rowCs]
 |cons x rs ih=>
  have e:∀ z zs,rowCs (z::zs)=[z.1,z.2]++rowCs zs:=by intro z zs;simp [rowCs]
  cases k with
  |zero=>simp
  |succ k=>
   rw [List.drop_succ_cons,e,ih,List.drop_append,List.drop_of_length_le (l:=[x.1,x.2]) (i:=(k+1)*2) (by simp;omega),show(k+1)*2 - [x.1,x.2].length=k*2 by simp;omega,List.nil_append]
theorem rowCs_ins(rs:List (Value×Value))(k:Nat)(a b:Value):(rowCs rs).take (k*2)++[a,b]++(rowCs rs).drop (k*2)=rowCs (rs.take k++[(a,b)]++rs.drop k):=by
 rw [<- rowCs_take,<- rowCs_drop];simp [rowCs]
theorem rowCs_one{rs:List (Value×Value)}(h:∀ p∈rs,p.1.oneCell'=true∧p.2.oneCell'=true):∀ u∈rowCs rs,u.oneCell'=true:=by
 intro u hu;simp only [rowCs,List.mem_flatMap] at hu;obtain⟨p,hp,hu⟩:=hu;simp at hu
 rcases hu with rfl|rfl
 ·exact(h p hp).1
 ·exact(h p hp).2
structure Kp2 (g:Nat) (rb:Option Nat) (w w':World):Prop where
 os:w'.os=w.os
 tape:w'.tape=w.tape
 output:w'.output=w.output
 size:w.heap.size<=w'.heap.size
 block:∀ k,k<w.heap.size->k≠g->rb≠some k->w'.heap[k]? =w.heap[k]?
theorem Kp2.blk{g b:Nat}{rb:Option Nat}{w w':World}{cs:Array Value}{T:TypeId}(h:Kp2 g rb w w')(hb:Blk w b cs T)(h1:b≠g)(h2:rb≠some b):Blk w' b cs T:=(h.block b (blk_lt hb) h1 h2).trans hb
theorem isNaN64_any(a:Int)(w:World):Calls Tryz.prog 178 #[.int .i64 a] w fun e w'=>e=.returned (.bool false)∧w'=w:=by
 have e:(a != a)=false:=by simp
 go_enter Tryz.func178,Tryz.ntmps178;go_wp2;go_ret;exact⟨rfl,rfl⟩
theorem cmp64_any(a b:Int)(w:World):Calls Tryz.prog 148 #[.int .i64 a,.int .i64 b] w fun e w'=>e=.returned (.int .i64 (Nm.cmpI a b))∧w'=w:=by
 have h1:=fun x W=>isNaN64_any x W
 by_cases hlt:a<b
 ·rw [Nm.cmpI_lt hlt];go_enter Tryz.func148,Tryz.ntmps148;go_wp2_with (go_at_call 178;refine(h1 _ _).mono ?_;rintro e w' ⟨rfl,hw'⟩;obtain rfl:=hw'.symm)
  go_ret;exact⟨rfl,rfl⟩
 ·by_cases hgt:b<a
  ·rw [Nm.cmpI_gt hgt];go_enter Tryz.func148,Tryz.ntmps148;go_wp2_with (go_at_call 178;refine(h1 _ _).mono ?_;rintro e w' ⟨rfl,hw'⟩;obtain rfl:=hw'.symm)
   go_ret;exact⟨rfl,rfl⟩
  ·obtain rfl:a=b:=by omega
   rw [Nm.cmpI_eq rfl];go_enter Tryz.func148,Tryz.ntmps148;go_wp2_with (go_at_call 178;refine(h1 _ _).mono ?_;rintro e w' ⟨rfl,hw'⟩;obtain rfl:=hw'.symm)
   go_ret;exact⟨rfl,rfl⟩
theorem own_sl{w:World}{B e s n:Nat}{v:Value}{xs:List Value}(h:w.ownsRow B e s v n xs):∃ a cap,v=.slice a n cap:=by
 rcases h.2 with⟨rfl,rfl⟩|⟨g,cap,cur,rfl,_⟩
 ·exact⟨_,_,rfl⟩
 ·exact⟨_,_,rfl⟩
theorem own_far{W:World}{B e s n g i:Nat}{v y:Value}{xs:List Value}(h:W.ownsRow B e s v n xs)(hg:v.ownBlock≠some g):(W.setCell ⟨g,i,none⟩ y).ownsRow B e s v n xs:=by
 refine⟨h.1,?_⟩
 rcases h.2 with h0|⟨g',cap,cur,rfl,hb,hh,r⟩
 ·exact .inl h0
 ·refine .inr ⟨g',cap,cur,rfl,hb,?_,r⟩;rw [heap_setCell_other W ⟨g,i,none⟩ g' _ (fun e=>hg (by simp [Value.ownBlock,e]))];exact hh
theorem own_far_lt{W:World}{B e s n g i:Nat}{v y:Value}{xs:List Value}(h:W.ownsRow B e s v n xs)(hg:g<B):(W.setCell ⟨g,i,none⟩ y).ownsRow B e s v n xs:=by
 refine own_far h (fun e=>?_);have:=(h.lt g e).1;omega
end Go.Proofs.YtfmolgdfjklmpaaGreat
namespace Go.Proofs.YtfmolgdfjklmpaaGreat
open Go
section
variable {P:Program}{ops:Array Oper}{Q:Exit->Act->World->Prop}{md:Region.Mode}{S:World->Prop}{L:Nat}
def wpAnyL(P:Program)(md:Region.Mode)(ops:Array Oper)(Q:Exit->Act->World->Prop)(S:World->Prop)(L:Nat):Nat->Array Bool->Act->World->Prop
 |0,listed,a,w=>Region.ready md ops listed=[]∧Q .normal a w
 |fuel+1,listed,a,w=>
  (Region.ready md ops listed=[]->Q .normal a w)∧
  ∀ i∈Region.ready md ops listed,wpOp P ops Q i (fun a' w'=>(i=L∨S w')∧wpAnyL P md ops Q S L fuel (listed.setIfInBounds i true) a' w') a w
theorem wpAny_of_last:∀ (fuel:Nat) (listed:Array Bool) (a:Act) (w:World),wpAnyL P md ops Q S L fuel listed a w->wpAny P md ops Q fuel listed a w
 |0,_,_,_,h=>h
 |fuel+1,_,_,_,h=>⟨h.1,fun i hi=>wpOp_mono (fun a' w' h'=>wpAny_of_last fuel _ a' w' h'.2) (h.2 i hi)⟩
def waitsFor(md:Region.Mode)(ops:Array Oper)(L i:Nat):Bool:=match ops[L]? with
 |some o=>o.after.any (fun e=>Region.binds md e&&e.on==i)
 |none=>true
theorem ready_free{listed:Array Bool}{i j:Nat}{oj:Oper}(hi:i∈Region.ready md ops listed)(hj:j∈Region.ready md ops listed)(ho:ops[j]? =some oj):∀ e∈oj.after,Region.binds md e=true->e.on≠i:=by
 rintro e he hb rfl;obtain⟨_,o,ho2,hall⟩:=mem_ready.1 hj;obtain rfl:oj=o:=Option.some.inj (ho.symm.trans ho2);have h1:=hall e he hb;have h0:=(mem_ready.1 hi).1;rw [Array.getD_eq_getD_getElem?] at h0 h1
 cases hx:listed[e.on]? with
 |none=>rw [hx] at h1;cases h1
 |some b=>rw [hx] at h0 h1;simp only [Option.getD_some] at h0 h1;rw [h0] at h1;cases h1
theorem last_waits{listed:Array Bool}{i j:Nat}(hL:waitsFor md ops L i=true)(hi:i∈Region.ready md ops listed)(hj:j∈Region.ready md ops listed):j≠L:=by
 rintro rfl;obtain⟨_,o,ho,_⟩:=mem_ready.1 hj;rw [waitsFor,ho] at hL;simp only [Array.any_eq_true',Bool.and_eq_true,beq_iff_eq] at hL;obtain⟨e,he,hb,h⟩:=hL;exact ready_free hi hj ho e he hb h
def Untouched(md:Region.Mode)(ops:Array Oper)(oi:Oper)(i:Nat)(listed:Array Bool):Prop:=∀ j oj,ops[j]? =some oj->j≠i->listed.getD j true=false->(∀ e∈oj.after,Region.binds md e=true->e.on≠i)->oi.apart ops oj=true
theorem Untouched.more{oi:Oper}{i j:Nat}{listed:Array Bool}(h:Untouched md ops oi i listed)(hj:listed.getD j true=false):Untouched md ops oi i (listed.setIfInBounds j true):=by
 intro k ok hk hki hun;refine h k ok hk hki ?_
 rcases Nat.decEq j k with hne|rfl
 ·rw [getD_set_ne true hne] at hun;exact hun
 ·exact hj
theorem wpAnyL_first{i:Nat}{oi:Oper}{v:Value}(hi:ops[i]? =some oi)(hsel:∀ (j:Nat) (o:Oper) cs b,ops[j]? =some o->o.op≠ .select cs b)
 (hQ:∀ c a w,Q (.panic c) (a.put oi.dst v) w->Q (.panic c) a w) (hL:waitsFor md ops L i=true) (fuel:Nat):
 ∀ (listed:Array Bool) (a:Act) (w:World),Untouched md ops oi i listed->i∈Region.ready md ops listed->YieldsIf P ops S oi v a->S w->
   wpAnyL P md ops Q S L fuel (listed.setIfInBounds i true) (a.put oi.dst v) w->wpAnyL P md ops Q S L (fuel+1) listed a w:=by
 induction fuel with
 |zero=>
  intro listed a w _ hr hy hS H;refine⟨fun h=>absurd (h▸hr) (by simp),fun j hj=>?_⟩
  rcases Nat.decEq j i with hne|rfl
  ·exact absurd (H.1▸ready_mono hj hne) (by simp)
  ·exact hy.wpOp hi hS ⟨.inr hS,H⟩
 |succ fuel ih=>
  intro listed a w hun hr hy hS H;refine⟨fun h=>absurd (h▸hr) (by simp),fun j hj=>?_⟩
  rcases Nat.decEq j i with hne|rfl
  ·obtain⟨hju,oj,hoj,_⟩:=mem_ready.1 hj;have hstep:=wpOp_putIf hoj (hun j oj hoj hne hju (ready_free hr hj hoj)) (fun cs b=>hsel i oi cs b hi) (fun cs b=>hsel j oj cs b hoj) hQ hy (H.2 j (ready_mono hj hne));refine wpOp_mono (fun a' w' ⟨hy',hS',hW⟩=>?_) hstep;have hSw:=hS'.resolve_left (last_waits hL hr hj);exact⟨.inr hSw,ih _ a' w' (hun.more hju) (ready_mono hr (Ne.symm hne)) hy' hSw (by rw [Array.setIfInBounds_comm _ _ hne];exact hW)⟩
  ·exact hy.wpOp hi hS ⟨.inr hS,H⟩
theorem wpAnyL_take{i:Nat}{oi:Oper}{v:Value}{fuel:Nat}{listed:Array Bool}{a:Act}{w:World}(hi:ops[i]? =some oi)
 (hs:Region.noSelect ops=true) (hf:Region.free md ops listed i=true) (hr:(Region.ready md ops listed).contains i=true) (hL:waitsFor md ops L i=true)
 (hQ:∀ c a w,Q (.panic c) (a.put oi.dst v) w->Q (.panic c) a w) (hy:YieldsIf P ops S oi v a) (hS:S w)
 (h:wpAnyL P md ops Q S L fuel (listed.setIfInBounds i true) (a.put oi.dst v) w):wpAnyL P md ops Q S L (fuel+1) listed a w:=
 wpAnyL_first hi (Region.noSelect_spec hs) hQ hL fuel listed a w (Region.free_spec hi hf) (by simpa using hr) hy hS h
theorem tkL{i:Nat}{oi:Oper}{v:Value}{fuel:Nat}{listed:Array Bool}{a:Act}{w:World}(hi:ops[i]? =some oi)
 (hy:∀ w,S w->(execOp a.eval oi).run P w=.ok (.value v) w) (h:wpAnyL P md ops Q S L fuel (listed.setIfInBounds i true) (a.put oi.dst v) w)
 (hs:Region.noSelect ops=true:=by kernel_rfl) (hf:Region.free md ops listed i=true:=by kernel_rfl) (hr:(Region.ready md ops listed).contains i=true:=by kernel_rfl) (hL:waitsFor md ops L i=true:=by kernel_rfl)
 (hQ:∀ c a w,Q (.panic c) (a.put oi.dst v) w->Q (.panic c) a w:=by exact fun _ _ _ h=>h) (hw:Region.wanted oi (yielded ops a.tmps)=true:=by rfl) (hS:S w:=by assumption):wpAnyL P md ops Q S L (fuel+1) listed a w:=
 wpAnyL_take hi hs hf hr hL hQ (Or.inl ⟨hw,hy⟩) hS h
theorem tkA(i:Nat){oi:Oper}{v:Value}{fuel:Nat}{listed:Array Bool}{a:Act}{w:World}(hi:ops[i]? =some oi)
 (h:wpAnyL P md ops Q S L fuel (listed.setIfInBounds i true) (a.put oi.dst v) w) (hy:∀ w,S w->(execOp a.eval oi).run P w=.ok (.value v) w:=by intro w hSw;go_simp;try (with_reducible rfl))
 (hs:Region.noSelect ops=true:=by kernel_rfl) (hf:Region.free md ops listed i=true:=by kernel_rfl) (hr:(Region.ready md ops listed).contains i=true:=by kernel_rfl) (hL:waitsFor md ops L i=true:=by kernel_rfl)
 (hQ:∀ c a w,Q (.panic c) (a.put oi.dst v) w->Q (.panic c) a w:=by exact fun _ _ _ h=>h) (hw:Region.wanted oi (yielded ops a.tmps)=true:=by rfl) (hS:S w:=by assumption):wpAnyL P md ops Q S L (fuel+1) listed a w:=
 wpAnyL_take hi hs hf hr hL hQ (Or.inl ⟨hw,hy⟩) hS h
theorem tkB(i:Nat){oi:Oper}{v:Value}{fuel:Nat}{listed:Array Bool}{a:Act}{w:World}(hi:ops[i]? =some oi)
 (h:wpAnyL P md ops Q S L fuel (listed.setIfInBounds i true) (a.put oi.dst v) w) (hy:∀ w,S w->(execOp a.eval oi).run P w=.ok (.value v) w:=by intro w hSw;obtain⟨s0,s1⟩:=hSw;go_simp;try (with_reducible rfl))
 (hs:Region.noSelect ops=true:=by kernel_rfl) (hf:Region.free md ops listed i=true:=by kernel_rfl) (hr:(Region.ready md ops listed).contains i=true:=by kernel_rfl) (hL:waitsFor md ops L i=true:=by kernel_rfl)
 (hQ:∀ c a w,Q (.panic c) (a.put oi.dst v) w->Q (.panic c) a w:=by exact fun _ _ _ h=>h) (hw:Region.wanted oi (yielded ops a.tmps)=true:=by rfl) (hS:S w:=by assumption):wpAnyL P md ops Q S L (fuel+1) listed a w:=
 wpAnyL_take hi hs hf hr hL hQ (Or.inl ⟨hw,hy⟩) hS h
theorem tkC(i:Nat){oi:Oper}{v:Value}{fuel:Nat}{listed:Array Bool}{a:Act}{w:World}(hi:ops[i]? =some oi)
 (h:wpAnyL P md ops Q S L fuel (listed.setIfInBounds i true) (a.put oi.dst v) w) (hy:∀ w,S w->(execOp a.eval oi).run P w=.ok (.value v) w:=by intro w hSw;obtain⟨s0,s1,s2⟩:=hSw;go_simp;try (with_reducible rfl))
 (hs:Region.noSelect ops=true:=by kernel_rfl) (hf:Region.free md ops listed i=true:=by kernel_rfl) (hr:(Region.ready md ops listed).contains i=true:=by kernel_rfl) (hL:waitsFor md ops L i=true:=by kernel_rfl)
 (hQ:∀ c a w,Q (.panic c) (a.put oi.dst v) w->Q (.panic c) a w:=by exact fun _ _ _ h=>h) (hw:Region.wanted oi (yielded ops a.tmps)=true:=by rfl) (hS:S w:=by assumption):wpAnyL P md ops Q S L (fuel+1) listed a w:=
 wpAnyL_take hi hs hf hr hL hQ (Or.inl ⟨hw,hy⟩) hS h
theorem tkD(i:Nat){oi:Oper}{v:Value}{fuel:Nat}{listed:Array Bool}{a:Act}{w:World}(hi:ops[i]? =some oi)
 (h:wpAnyL P md ops Q S L fuel (listed.setIfInBounds i true) (a.put oi.dst v) w) (hy:∀ w,S w->(execOp a.eval oi).run P w=.ok (.value v) w:=by intro w hSw;obtain⟨s0,s1,s2,s3⟩:=hSw;go_simp;try (with_reducible rfl))
 (hs:Region.noSelect ops=true:=by kernel_rfl) (hf:Region.free md ops listed i=true:=by kernel_rfl) (hr:(Region.ready md ops listed).contains i=true:=by kernel_rfl) (hL:waitsFor md ops L i=true:=by kernel_rfl)
 (hQ:∀ c a w,Q (.panic c) (a.put oi.dst v) w->Q (.panic c) a w:=by exact fun _ _ _ h=>h) (hw:Region.wanted oi (yielded ops a.tmps)=true:=by rfl) (hS:S w:=by assumption):wpAnyL P md ops Q S L (fuel+1) listed a w:=
 wpAnyL_take hi hs hf hr hL hQ (Or.inl ⟨hw,hy⟩) hS h
theorem wpAnyL_one{i:Nat}{o:Oper}{fuel:Nat}{listed:Array Bool}{a:Act}{w:World}(hr:Region.ready md ops listed=[i])(ho:ops[i]? =some o)
 (h:∀ K':Act->World->Prop,Shut (∀ a w,S w->(S w->wpAnyL P md ops Q S L fuel (listed.setIfInBounds i true) a w)->K' a w)->if Region.wanted o (yielded ops a.tmps)=true then Oper.wp P o a w K' Q else K' (a.put o.dst undef) w):
 wpAnyL P md ops Q S L (fuel+1) listed a w:=by
 refine⟨fun h0=>(by rw [hr] at h0;cases h0),fun j hj=>?_⟩;rw [hr] at hj;obtain rfl:j=i:=by simpa using hj
 exact wpOp_step ho (fun K' hK=>h K' (fun a w hS hW=>hK a w ⟨.inr hS,hW hS⟩))
theorem wpAnyL_end{o:Oper}{fuel:Nat}{listed:Array Bool}{a:Act}{w:World}(hr:Region.ready md ops listed=[L])(ho:ops[L]? =some o)(he:Region.ready md ops (listed.setIfInBounds L true)=[])
 (h:∀ K':Act->World->Prop,Shut (∀ a w,Q .normal a w->K' a w)->if Region.wanted o (yielded ops a.tmps)=true then Oper.wp P o a w K' Q else K' (a.put o.dst undef) w):
 wpAnyL P md ops Q S L (fuel+1) listed a w:=by
 refine⟨fun h0=>(by rw [hr] at h0;cases h0),fun j hj=>?_⟩;rw [hr] at hj;obtain rfl:j=L:=by simpa using hj
 refine wpOp_step ho (fun K' hK=>h K' (fun a w hq=>hK a w ⟨.inl rfl,?_⟩))
 cases fuel with
 |zero=>exact⟨he,hq⟩
 |succ n=>exact⟨fun _=>hq,by rw [he];intro i hi;cases hi⟩
theorem wp_region_last{id:Nat}{a:Act}{w:World}(S:World->Prop)(L:Nat)(hm:P.follows .mixedOrders=true)(hS:S w.drew)
 (h:S w.drew->wpAnyL P .any ops Q S L ops.size (Array.replicate ops.size false) a w.drew):(Code.region id ops true).wp P Q a w:=
 wp_region_any hm (wpAny_of_last _ _ _ _ (h hS))
end
end Go.Proofs.YtfmolgdfjklmpaaGreat
namespace Go.Proofs.YtfmolgdfjklmpaaGreat
open Go
section
variable {P:Program}{ops:Array Oper}{Q:Exit->Act->World->Prop}{md:Region.Mode}{S:World->Prop}{L:Nat}
theorem wpAnyL_done{fuel:Nat}{listed:Array Bool}{a:Act}{w:World}(hr:Region.ready md ops listed=[])(hq:Q .normal a w):wpAnyL P md ops Q S L fuel listed a w:=by
 cases fuel with
 |zero=>exact⟨hr,hq⟩
 |succ n=>exact⟨fun _=>hq,by rw [hr];intro i hi;cases hi⟩
theorem wpAnyL_two{i j:Nat}{o o':Oper}{fuel:Nat}{listed:Array Bool}{a:Act}{w:World}(hr:Region.ready md ops listed=[i,j])(ho:ops[i]? =some o)(ho':ops[j]? =some o')
 (h:∀ K':Act->World->Prop,Shut (∀ a w,S w->(S w->wpAnyL P md ops Q S L fuel (listed.setIfInBounds i true) a w)->K' a w)->if Region.wanted o (yielded ops a.tmps)=true then Oper.wp P o a w K' Q else K' (a.put o.dst undef) w)
 (h':∀ K':Act->World->Prop,Shut (∀ a w,S w->(S w->wpAnyL P md ops Q S L fuel (listed.setIfInBounds j true) a w)->K' a w)->if Region.wanted o' (yielded ops a.tmps)=true then Oper.wp P o' a w K' Q else K' (a.put o'.dst undef) w):
 wpAnyL P md ops Q S L (fuel+1) listed a w:=by
 refine⟨fun h0=>(by rw [hr] at h0;cases h0),fun k hk=>?_⟩;rw [hr] at hk
 rcases(show k=i∨k=j by simpa using hk) with rfl|rfl
 ·exact wpOp_step ho (fun K' hK=>h K' (fun a w hS hW=>hK a w ⟨.inr hS,hW hS⟩))
 ·exact wpOp_step ho' (fun K' hK=>h' K' (fun a w hS hW=>hK a w ⟨.inr hS,hW hS⟩))
end
end Go.Proofs.YtfmolgdfjklmpaaGreat
namespace Go.Proofs.YtfmolgdfjklmpaaGreat
open Go.RowKit
set_option maxRecDepth 100000 in
set_option maxHeartbeats 400000 in
theorem foldByte_any(c:UInt8)(w:World):
 Calls Tryz.prog 133 #[.int .u8 c.toNat] w fun e w'=>e=.returned (.int .u8 (Nm.low c).toNat)∧w'=w:=by
 have hcl:(c.toNat:Int)<256:=by have:=c.toNat_lt;omega
 by_cases hup:65<=c.toNat∧c.toNat<=90
 ·have HL:=Nm.hide (Nm.low_up hup);have d1:decide ((65:Int)<=(c.toNat:Int))=true:=by simp;omega
  have d2:decide ((c.toNat:Int)<=90)=true:=by simp;omega
  have hb1:(c.toNat:Int)<=90:=by omega
  clear hup;go_enter Tryz.func133,Tryz.ntmps133;go_wp2;go_ret;rw [HL.out];exact⟨rfl,rfl⟩
 ·have HL:=Nm.hide (Nm.low_id hup)
  by_cases hlo:65<=c.toNat
  ·have d1:decide ((65:Int)<=(c.toNat:Int))=true:=by simp;omega
   have d2:decide ((c.toNat:Int)<=90)=false:=by simp;omega
   clear hup;go_enter Tryz.func133,Tryz.ntmps133;go_wp2;go_ret;rw [HL.out];exact⟨rfl,rfl⟩
  ·have d1:decide ((65:Int)<=(c.toNat:Int))=false:=by simp;omega
   clear hup;go_enter Tryz.func133,Tryz.ntmps133;go_wp2;go_ret;rw [HL.out];exact⟨rfl,rfl⟩
end Go.Proofs.YtfmolgdfjklmpaaGreat
namespace Go.Proofs.YtfmolgdfjklmpaaGreat.Dt
open Go.RowKit
def alnumB(c:UInt8):Bool:=(decide (48<=c.toNat)&&decide (c.toNat<=57))||((decide (97<=c.toNat)&&decide (c.toNat<=122))||(decide (65<=c.toNat)&&decide (c.toNat<=90)))
def txtS(s:ByteArray):ByteArray:=
 if h:0<s.size then(if s[0].toNat+1<=s.size then s.extract 0 (s[0].toNat+1) else ByteArray.empty) else ByteArray.empty
def nameF:Nat->ByteArray->Nat->ByteArray
 |0,_,_=>ByteArray.empty
 |f+1,s,i=>
  if h:i<s.size∧i<255 then
   if s[i].toNat=0 then s.extract 0 (i+1)
   else if 63<s[i].toNat then ByteArray.empty
   else nameF f s (i+s[i].toNat+1)
  else ByteArray.empty
def nameAtS(s:ByteArray):ByteArray:=nameF 256 s 0
theorem nameF_enough:∀ (f g:Nat) (s:ByteArray) (i:Nat),255<f+i->255<g+i->nameF f s i=nameF g s i:=by
 intro f
 induction f with
 |zero=>
  intro g s i hf hg
  cases g with
  |zero=>rfl
  |succ g=>rw [nameF,nameF,dif_neg (by omega)]
 |succ f ih=>
  intro g s i hf hg
  cases g with
  |zero=>rw [nameF,nameF,dif_neg (by omega)]
  |succ g=>
   rw [nameF,nameF]
   by_cases h:i<s.size∧i<255
   ·rw [dif_pos h,dif_pos h,ih g s _ (by omega) (by omega)]
   ·rw [dif_neg h,dif_neg h]
def formS(t:Int):ByteArray:=
 if t=1 then⟨#[98,98,98,98]⟩
 else if t=2∨t=5∨t=12∨t=39 then⟨#[110]⟩
 else if t=6 then⟨#[110,110,98,98,98,98,98,98,98,98,98,98,98,98,98,98,98,98,98,98,98,98]⟩
 else if t=13 then⟨#[116,116]⟩
 else if t=15 then⟨#[98,98,110]⟩
 else if t=16 then⟨#[115]⟩
 else if t=28 then⟨#[98,98,98,98,98,98,98,98,98,98,98,98,98,98,98,98]⟩
 else if t=33 then⟨#[98,98,98,98,98,98,110]⟩
 else if t=35 then⟨#[98,98,98,98,116,116,116,110]⟩
 else if t=47 then⟨#[110,109]⟩
 else if t=257 then⟨#[98,99]⟩
 else⟨#[42]⟩
end Go.Proofs.YtfmolgdfjklmpaaGreat.Dt
namespace Go.Proofs.YtfmolgdfjklmpaaGreat
open Go.RowKit
set_option linter.unusedVariables false
def mapF:Nat->Int->ByteArray->Bool
 |0,_,_=>true
 |f+1,last,s=>
  if s.size=0 then true
  else if h:2<=s.size then
   if h2:last<(s[0].toNat:Int)∧1<=s[1].toNat∧s[1].toNat<=32∧s[1].toNat+2<=s.size then
    if s[s[1].toNat+1].toNat=0 then false else mapF f (s[0].toNat:Int) (s.extract (s[1].toNat+2) s.size)
   else false
  else false
theorem mapF_enough:∀ (f g:Nat) (last:Int) (s:ByteArray),s.size<f->s.size<g->mapF f last s=mapF g last s:=by
 intro f
 induction f with
 |zero=>intro g last s hf;omega
 |succ f ih=>
  intro g last s hf hg
  cases g with
  |zero=>omega
  |succ g=>
   rw [mapF,mapF]
   by_cases h0:s.size=0
   ·rw [if_pos h0,if_pos h0]
   rw [if_neg h0,if_neg h0]
   by_cases h:2<=s.size
   ·rw [dif_pos h,dif_pos h]
    by_cases h2:last<(s[0].toNat:Int)∧1<=s[1].toNat∧s[1].toNat<=32∧s[1].toNat+2<=s.size
    ·rw [dif_pos h2,dif_pos h2]
     by_cases h3:s[s[1].toNat+1].toNat=0
     ·rw [if_pos h3,if_pos h3]
     ·rw [if_neg h3,if_neg h3];have he:(s.extract (s[1].toNat+2) s.size).size=s.size-(s[1].toNat+2):=by simp
      exact ih g _ _ (by omega) (by omega)
    ·rw [dif_neg h2,dif_neg h2]
   ·rw [dif_neg h,dif_neg h]
def mapS(s:ByteArray):Bool:=mapF (s.size+1) (-1) s
theorem map_end{f:Nat}{last:Int}{s:ByteArray}(h:s.size=0):mapF (f+1) last s=true:=by rw [mapF,if_pos h]
theorem map_one{f:Nat}{last:Int}{s:ByteArray}(h:s.size=1):mapF (f+1) last s=false:=by rw [mapF,if_neg (by omega),dif_neg (by omega)]
theorem map_no{f:Nat}{last:Int}{s:ByteArray}(h:2<=s.size)(h2:¬(last<(s[0].toNat:Int)∧1<=s[1].toNat∧s[1].toNat<=32∧s[1].toNat+2<=s.size)):mapF (f+1) last s=false:=by
 rw [mapF,if_neg (by omega),dif_pos h,dif_neg h2]
theorem map_zero{f:Nat}{last:Int}{s:ByteArray}(h:2<=s.size)(h2:last<(s[0].toNat:Int)∧1<=s[1].toNat∧s[1].toNat<=32∧s[1].toNat+2<=s.size)(h3:(s[s[1].toNat+1]'(by omega)).toNat=0):mapF (f+1) last s=false:=by
 rw [mapF,if_neg (by omega),dif_pos h,dif_pos h2,if_pos h3]
theorem map_step{last:Int}{s:ByteArray}(h:2<=s.size)(h2:last<(s[0].toNat:Int)∧1<=s[1].toNat∧s[1].toNat<=32∧s[1].toNat+2<=s.size)(h3:(s[s[1].toNat+1]'(by omega)).toNat≠0):
 mapF (s.size+1) last s=mapF ((s.extract (s[1].toNat+2) s.size).size+1) (s[0].toNat:Int) (s.extract (s[1].toNat+2) s.size):=by
 rw [mapF,if_neg (by omega),dif_pos h,dif_pos h2,if_neg h3];have he:(s.extract (s[1].toNat+2) s.size).size=s.size-(s[1].toNat+2):=by simp
 exact mapF_enough _ _ _ _ (by omega) (by omega)
theorem not_empty{s:ByteArray}(h:0<s.size):(s.toList==[])=false∧(s.toList != [])=true:=by
 have:s.toList≠[]:=by
  rw [ByteArray.toList_eq];intro e;have h9:=congrArg List.length e;rw [Array.length_toList] at h9;have h8:s.size=0:=h9;omega
 simp [this]
theorem beq_empty{s:ByteArray}(h:s.size=0):(s.toList==[])=true∧(s.toList != [])=false:=by
 have:s.toList=[]:=List.length_eq_zero_iff.1 (by rw [Nm.tl_len];exact h);simp [this]
end Go.Proofs.YtfmolgdfjklmpaaGreat
namespace Go.Proofs.YtfmolgdfjklmpaaGreat.Dt
open Go.RowKit
def txsF:Nat->ByteArray->Nat
 |0,_=>0
 |f+1,d=>if(txtS d).size=0 then 0 else(txtS d).size+txsF f (d.extract (txtS d).size d.size)
theorem txt_le(d:ByteArray):(txtS d).size<=d.size:=by
 unfold txtS;split
 ·split
  ·simp;omega
  ·simp
 ·simp
theorem txsF_enough:∀ (f g:Nat) (d:ByteArray),d.size<f->d.size<g->txsF f d=txsF g d:=by
 intro f
 induction f with
 |zero=>intro g d hf;omega
 |succ f ih=>
  intro g d hf hg
  cases g with
  |zero=>omega
  |succ g=>
   rw [txsF,txsF]
   by_cases h:(txtS d).size=0
   ·rw [if_pos h,if_pos h]
   ·have:=txt_le d;rw [if_neg h,if_neg h,ih g _ (by simp;omega) (by simp;omega)]
def txsS(d:ByteArray):Nat:=txsF (d.size+1) d
theorem txs_none{d:ByteArray}(h:(txtS d).size=0):txsS d=0:=by rw [txsS,txsF,if_pos h]
theorem txs_step{d:ByteArray}(h:(txtS d).size≠0):txsS d=(txtS d).size+txsS (d.extract (txtS d).size d.size):=by
 have:=txt_le d;rw [txsS,txsF,if_neg h,txsF_enough _ ((d.extract (txtS d).size d.size).size+1) _ (by simp;omega) (by simp)];rfl
theorem txsF_le:∀ (f:Nat) (d:ByteArray),txsF f d<=d.size:=by
 intro f
 induction f with
 |zero=>intro d;simp [txsF]
 |succ f ih=>
  intro d;rw [txsF];split
  ·omega
  ·have:=ih (d.extract (txtS d).size d.size);have h2:=txt_le d;simp at this;omega
theorem txs_le(d:ByteArray):txsS d<=d.size:=txsF_le _ d
def tagB(d:ByteArray):Bool:=decide (2<=(txtS d).size)&&decide ((txtS d).size<=16)&&((txtS d).data.toList.drop 1).all alnumB
abbrev Pc:Type:=Option (Option (Option (Option (Option (Option (Option (Option Nat)))))))
abbrev Pc.nm:Pc:=none
abbrev Pc.tx:Pc:=some none
abbrev Pc.txs:Pc:=some (some none)
abbrev Pc.txe:Pc:=some (some (some none))
abbrev Pc.tag:Pc:=some (some (some (some none)))
abbrev Pc.tagr:Pc:=some (some (some (some (some none))))
abbrev Pc.mp:Pc:=some (some (some (some (some (some none)))))
abbrev Pc.rs:Pc:=some (some (some (some (some (some (some none))))))
abbrev Pc.bs(n:Nat):Pc:=some (some (some (some (some (some (some (some n)))))))
theorem Pc.elim{P:Pc->Prop}(p:Pc)(nm:P Pc.nm)(bs:∀ n,P (Pc.bs n))(tx:P Pc.tx)(txs:P Pc.txs)(txe:P Pc.txe)(tag:P Pc.tag)(tagr:P Pc.tagr)(mp:P Pc.mp)(rs:P Pc.rs):P p:=by
 rcases p with _|_|_|_|_|_|_|_|n
 ·exact nm
 ·exact tx
 ·exact txs
 ·exact txe
 ·exact tag
 ·exact tagr
 ·exact mp
 ·exact rs
 ·exact bs n
def Pc.isN:Pc->Bool
 |none=>true
 |some _=>false
def sz:Pc->ByteArray->Option Nat
 |none,d=>if(nameAtS d).size=0 then none else some (nameAtS d).size
 |some none,d=>if(txtS d).size=0 then none else some (txtS d).size
 |some (some none),d=>if txsS d=0 then none else some (txsS d)
 |some (some (some none)),d=>if txsS d=0∨txsS d≠d.size then none else some d.size
 |some (some (some (some none))),d=>if tagB d then some (txtS d).size else none
 |some (some (some (some (some none)))),d=>if tagB d then some d.size else none
 |some (some (some (some (some (some none))))),d=>if mapS d then some d.size else none
 |some (some (some (some (some (some (some none)))))),d=>some d.size
 |some (some (some (some (some (some (some (some n))))))),d=>if n<=d.size then some n else none
theorem nameF_le:∀ (f:Nat) (s:ByteArray) (i:Nat),(nameF f s i).size<=s.size:=by
 intro f
 induction f with
 |zero=>intro s i;simp [nameF]
 |succ f ih=>
  intro s i;rw [nameF];split
  ·split
   ·simp;omega
   ·split
    ·simp
    ·exact ih _ _
  ·simp
theorem name_le(s:ByteArray):(nameAtS s).size<=s.size:=nameF_le _ _ _
theorem sz_le{p:Pc}{d:ByteArray}{n:Nat}(h:sz p d=some n):n<=d.size:=by
 have h1:=name_le d;have h2:=txt_le d;have h3:=txs_le d;cases p using Pc.elim<;>simp only [sz] at h
 all_goals first
  |(split at h
    ·simp at h
    ·simp at h;omega)
  |(split at h
    ·simp at h;omega
    ·simp at h)
  |(simp at h;omega)
def parts:List Pc->ByteArray->Option (List ByteArray)
 |[],d=>if d.size=0 then some [] else none
 |p::r,d=>
  match sz p d with
  |none=>none
  |some n=>(parts r (d.extract n d.size)).map (fun l=>d.extract 0 n::l)
def spans:List Pc->Nat->ByteArray->Option (List (Nat×Nat))
 |[],_,d=>if d.size=0 then some [] else none
 |p::r,a,d=>
  match sz p d with
  |none=>none
  |some n=>(spans r (a+n) (d.extract n d.size)).map (fun l=>if p.isN then(a,a+n)::l else l)
def spansOf:List Pc->List ByteArray->Nat->List (Nat×Nat)
 |p::r,x::xs,a=>if p.isN then(a,a+x.size)::spansOf r xs (a+x.size) else spansOf r xs (a+x.size)
 |_,_,_=>[]
theorem spans_of_parts:∀ (fs:List Pc) (d:ByteArray) (a:Nat),spans fs a d=(parts fs d).map (fun ps=>spansOf fs ps a):=by
 intro fs
 induction fs with
 |nil=>intro d a;rw [spans,parts];split<;>simp [spansOf]
 |cons p r ih=>
  intro d a;rw [spans,parts]
  cases h:sz p d with
  |none=>simp
  |some n=>
   have hn:=sz_le h;simp only [ih]
   cases parts r (d.extract n d.size) with
   |none=>simp
   |some l=>
    have:(d.extract 0 n).size=n:=by simp;omega
    simp [spansOf,this]
theorem spans_bs(m n:Nat)(r:List Pc)(a:Nat)(d:ByteArray):spans (.bs m::.bs n::r) a d=spans (.bs (m+n)::r) a d:=by
 rw [spans,spans];simp only [sz]
 by_cases h:m<=d.size
 ·rw [if_pos h];simp only [spans,sz];have e:(d.extract m d.size).size=d.size-m:=by simp
  rw [e]
  by_cases h2:m+n<=d.size
  ·rw [if_pos (by omega),if_pos h2]
   have e2:(d.extract m d.size).extract n (d.size-m)=d.extract (m+n) d.size:=by
    rw [ByteArray.extract_extract];congr 1;omega
   simp only [e2,Pc.isN,Nat.add_assoc];simp
  ·rw [if_neg (by omega),if_neg h2];simp
 ·rw [if_neg h,if_neg (by omega)]
theorem spans_tag(a:Nat)(d:ByteArray):spans [.tagr] a d=spans [.tag,.rs] a d:=by
 have h2:=txt_le d;simp only [spans,sz]
 by_cases h:tagB d
 ·simp [h,Pc.isN]
 ·simp [h]
theorem spans_txs(a:Nat)(d:ByteArray):spans [.txs] a d=spans [.txe] a d:=by
 have h3:=txs_le d;simp only [spans,sz]
 by_cases h:txsS d=0
 ·simp [h]
 ·by_cases h2:txsS d=d.size
  ·have h4:d.size≠0:=by omega
   simp [h2,h4,Pc.isN]
  ·simp [h,h2]
   omega
def letP(c:UInt8):Pc:=
 if c=110 then .nm else if c=98 then .bs 1 else if c=116 then .tx else if c=115 then .txs else if c=99 then .tagr else if c=109 then .mp else .rs
def specP(t:Int):List Pc:=(formS t).data.toList.map letP
def implP(t:Int):List Pc:=
 if t=1 then [.bs 4]
 else if t=28 then [.bs 16]
 else if t=2∨t=5∨t=12∨t=39 then [.nm]
 else if t=15 then [.bs 2,.nm]
 else if t=6 then [.nm,.nm,.bs 20]
 else if t=33 then [.bs 6,.nm]
 else if t=16 then [.txe]
 else if t=13 then [.tx,.tx]
 else if t=35 then [.bs 4,.tx,.tx,.tx,.nm]
 else if t=257 then [.bs 1,.tag,.rs]
 else if t=47 then [.nm,.mp]
 else [.rs]
theorem spans_cons{p:Pc}{r r':List Pc}(h:∀ a d,spans r a d=spans r' a d)(a:Nat)(d:ByteArray):spans (p::r) a d=spans (p::r') a d:=by
 rw [spans,spans]
 cases sz p d with
 |none=>rfl
 |some n=>simp only [h]
theorem forms_agree(t:Int)(a:Nat)(d:ByteArray):spans (specP t) a d=spans (implP t) a d:=by
 unfold specP implP formS
 by_cases h1:t=1
 ·subst h1;simp [letP,spans_bs]
 by_cases h2:t=2∨t=5∨t=12∨t=39
 ·have:t≠28:=by omega
  simp [h1,h2,this,letP]
 by_cases h3:t=6
 ·subst h3;simp [letP]
  refine spans_cons (fun a d=>?_) a d;refine spans_cons (fun a d=>?_) a d;simp [spans_bs]
 by_cases h4:t=13
 ·subst h4;simp [letP]
 by_cases h5:t=15
 ·subst h5;simp [letP,spans_bs]
 by_cases h6:t=16
 ·subst h6;simp [letP,spans_txs]
 by_cases h7:t=28
 ·subst h7;simp [letP,spans_bs]
 by_cases h8:t=33
 ·subst h8;simp [letP,spans_bs]
 by_cases h9:t=35
 ·subst h9;simp [letP,spans_bs]
 by_cases h10:t=47
 ·subst h10;simp [letP]
 by_cases h11:t=257
 ·subst h11;simp [letP]
  exact spans_cons (fun a d=>spans_tag a d) a d
 simp [h1,h2,h3,h4,h5,h6,h7,h8,h9,h10,h11,letP]
end Go.Proofs.YtfmolgdfjklmpaaGreat.Dt
namespace Go.Proofs.YtfmolgdfjklmpaaGreat.Dt
open Go.RowKit
set_option linter.unusedVariables false
theorem ext_get{s:ByteArray}{i e:Nat}(h:i<e)(he:e<=s.size):(s.extract i e)[0]'(by simp;omega)=s[i]:=by
 rw [ByteArray.getElem_extract];simp
theorem ext_ext{s:ByteArray}{i e n:Nat}(h:i+n<=e)(he:e<=s.size):(s.extract i e).extract n (s.extract i e).size=s.extract (i+n) e:=by
 rw [ByteArray.extract_extract];congr 1;simp
 omega
theorem nameF_name:∀ (f:Nat) (s:ByteArray) (i:Nat),(nameF f s i).size≠0->
 ∃ e,i<e∧e<=255∧e<=s.size∧nameF f s i=s.extract 0 e∧∀ g,e-i<g->(Nm.splitF g (s.extract i e)).isSome=true:=by
 intro f
 induction f with
 |zero=>intro s i h;simp [nameF] at h
 |succ f ih=>
  intro s i h;rw [nameF] at h ⊢
  by_cases h1:i<s.size∧i<255
  ·rw [dif_pos h1] at h ⊢
   by_cases h2:s[i].toNat=0
   ·rw [if_pos h2];refine⟨i+1,by omega,by omega,by omega,rfl,?_⟩;intro g hg;obtain⟨g,rfl⟩:∃ k,g=k+1:=⟨g-1,by omega⟩;rw [Nm.splitF_end g _ (by simp;omega) (by rw [ext_get (by omega) (by omega)];exact h2) (by simp;omega)];rfl
   ·rw [if_neg h2] at h ⊢
    by_cases h3:63<s[i].toNat
    ·rw [if_pos h3] at h;simp at h
    ·rw [if_neg h3] at h ⊢;obtain⟨e,e1,e2,e3,e4,e5⟩:=ih s _ h;refine⟨e,by omega,e2,e3,e4,?_⟩;intro g hg;obtain⟨g,rfl⟩:∃ k,g=k+1:=⟨g-1,by omega⟩;have hp:0<(s.extract i e).size:=by simp;omega
     have h0:(s.extract i e)[0]=s[i]:=ext_get (by omega) e3;rw [Nm.splitF_step g _ hp (by rw [h0];exact h2) (by rw [h0];omega) (by rw [h0];simp;omega),h0,ext_ext (by omega) e3];have:=e5 g (by omega);rw [show i+(s[i].toNat+1)=i+s[i].toNat+1 by omega];simpa using this
  ·rw [dif_neg h1] at h;simp at h
theorem nameAt_name{s:ByteArray}(h:(nameAtS s).size≠0):(Nm.split (nameAtS s)).isSome=true:=by
 obtain⟨e,e1,e2,e3,e4,e5⟩:=nameF_name 256 s 0 h;have e6:nameAtS s=s.extract 0 e:=e4;rw [e6,Nm.split_short _ (by simp;omega)];exact e5 256 (by omega)
theorem ext_all(s:ByteArray):s.extract 0 s.size=s:=by simp
theorem splitF_nameF:∀ (g:Nat) (f:Nat) (s:ByteArray) (i:Nat),s.size<=255->255<f+i->i<=s.size->(Nm.splitF g (s.extract i s.size)).isSome=true->nameF f s i=s:=by
 intro g
 induction g with
 |zero=>intro f s i _ _ _ h;simp [Nm.splitF] at h
 |succ g ih=>
  intro f s i hs hf hi h
  by_cases hp:i<s.size
  ·obtain⟨f,rfl⟩:∃ k,f=k+1:=⟨f-1,by omega⟩;have hz:(s.extract i s.size).size=s.size-i:=by simp
   have hq:0<(s.extract i s.size).size:=by omega
   have h0:(s.extract i s.size)[0]=s[i]:=ext_get hp (Nat.le_refl _);rw [nameF,dif_pos ⟨hp,by omega⟩]
   by_cases h2:s[i].toNat=0
   ·rw [if_pos h2]
    by_cases h3:(s.extract i s.size).size=1
    ·rw [show i+1=s.size by omega];exact ext_all s
    ·rw [Nm.splitF_zero g _ hq (by rw [h0];exact h2) h3] at h;simp at h
   ·rw [if_neg h2]
    by_cases h3:63<s[i].toNat∨s.size-i<s[i].toNat+1
    ·rw [Nm.splitF_bad g _ hq (by rw [h0];exact h2) (by rw [h0,hz];exact h3)] at h;simp at h
    ·rw [if_neg (by omega)];rw [Nm.splitF_step g _ hq (by rw [h0];exact h2) (by rw [h0];omega) (by rw [h0,hz];omega),h0,ext_ext (by omega) (Nat.le_refl _)] at h;refine ih f s _ hs (by omega) (by omega) ?_;rw [show i+(s[i].toNat+1)=i+s[i].toNat+1 by omega] at h;simpa using h
  ·rw [Nm.splitF_empty _ _ (by simp;omega)] at h;simp at h
theorem name_iff(s:ByteArray):(Nm.split s).isSome=true↔(nameAtS s).size≠0∧(nameAtS s).size=s.size:=by
 constructor
 ·intro h
  by_cases hl:s.size<=255
  ·rw [Nm.split_short s hl] at h;have e:nameAtS s=s:=splitF_nameF 256 256 s 0 hl (by omega) (by omega) (by simpa using h);rw [e];refine⟨?_,rfl⟩;intro h0;rw [Nm.splitF_empty _ _ h0] at h;simp at h
  ·rw [Nm.split_long s (by omega)] at h;simp at h
 ·rintro⟨h0,h⟩
  obtain⟨e,e1,e2,e3,e4,e5⟩:=nameF_name 256 s 0 h0;have e6:nameAtS s=s.extract 0 e:=e4;have e7:e=s.size:=by rw [e6] at h;simp at h;omega
  have e8:nameAtS s=s:=by rw [e6,e7];exact ext_all s
  have:=nameAt_name h0
  rwa [e8] at this
def catL(ps:List ByteArray):List UInt8:=(ps.map (fun x=>x.data.toList)).flatten
def foldL:List Pc->List ByteArray->List UInt8
 |p::r,x::xs=>(if p.isN then Nm.smallL x.data.toList else x.data.toList)++foldL r xs
 |_,_=>[]
theorem ext_cat(d:ByteArray)(n:Nat)(h:n<=d.size):(d.extract 0 n).data.toList++(d.extract n d.size).data.toList=d.data.toList:=by
 have e1:(d.extract 0 n).data.toList=d.data.toList.take n:=by simp
 have e2:(d.extract n d.size).data.toList=d.data.toList.drop n:=by
  simp only [ByteArray.data_extract,Array.toList_extract];rw [List.extract_eq_take_drop,List.take_of_length_le (by simp)]
 rw [e1,e2,List.take_append_drop]
theorem parts_cat:∀ (fs:List Pc) (d:ByteArray) (ps:List ByteArray),parts fs d=some ps->fs.length=ps.length∧catL ps=d.data.toList∧
 ∀ (i:Nat) (p:Pc) (x:ByteArray),fs[i]? =some p->ps[i]? =some x->p.isN=true->(Nm.split x).isSome=true:=by
 intro fs
 induction fs with
 |nil=>
  intro d ps h;rw [parts] at h
  split at h
  ·rename_i h0;simp at h;subst h;refine⟨rfl,?_,?_⟩
   ·have:d.data.toList.length=0:=by simpa using h0
    rw [List.length_eq_zero_iff.1 this];rfl
   ·intro i p x h;simp at h
  ·simp at h
 |cons p r ih=>
  intro d ps h;rw [parts] at h
  cases hs:sz p d with
  |none=>rw [hs] at h;simp at h
  |some n=>
   rw [hs] at h;have hn:=sz_le hs
   cases hr:parts r (d.extract n d.size) with
   |none=>simp [hr] at h
   |some l=>
    simp [hr] at h
    obtain⟨i1,i2,i3⟩:=ih _ _ hr;subst h;refine⟨by simp [i1],?_,?_⟩
    ·have:catL (d.extract 0 n::l)=(d.extract 0 n).data.toList++catL l:=by simp [catL]
     rw [this,i2,ext_cat d n hn]
    ·intro i q x hq hx hN
     cases i with
     |zero=>
      simp at hq hx;subst hq;subst hx;cases p using Pc.elim<;>simp [Pc.isN] at hN
      simp only [sz] at hs
      split at hs
      ·simp at hs
      ·rename_i h0;simp at hs;obtain⟨e,e1,e2,e3,e4,e5⟩:=nameF_name 256 d 0 h0;have e6:nameAtS d=d.extract 0 e:=e4;have e7:e=n:=by rw [e6] at hs;simp at hs;omega
       rw [<- e7,<- e6]
       exact nameAt_name h0
     |succ i=>
      simp at hq hx;exact i3 i q x hq hx hN
def lowIn(s:Nat×Nat)(l:List UInt8):List UInt8:=l.take s.1++(Nm.smallL ((l.drop s.1).take (s.2-s.1))++l.drop s.2)
def lowAll(sp:List (Nat×Nat))(l:List UInt8):List UInt8:=sp.foldl (fun l s=>lowIn s l) l
theorem lowAll_parts:∀ (fs:List Pc) (ps:List ByteArray) (pre:List UInt8),fs.length=ps.length->lowAll (spansOf fs ps pre.length) (pre++catL ps)=pre++foldL fs ps:=by
 intro fs
 induction fs with
 |nil=>
  intro ps pre h;have:ps=[]:=List.length_eq_zero_iff.1 (by simpa using h.symm);subst this
  simp [spansOf,lowAll,foldL,catL]
 |cons p r ih=>
  intro ps pre h
  cases ps with
  |nil=>simp at h
  |cons x xs=>
   have hl:r.length=xs.length:=by simpa using h
   have hx:x.data.toList.length=x.size:=by simp
   have hc:catL (x::xs)=x.data.toList++catL xs:=by simp [catL]
   rw [spansOf,hc,foldL]
   cases hN:p.isN with
   |true=>
    simp only [if_true]
    have e1:lowIn (pre.length,pre.length+x.size) (pre++(x.data.toList++catL xs))=(pre++Nm.smallL x.data.toList)++catL xs:=by
     have k1:(pre++(x.data.toList++catL xs)).take pre.length=pre:=List.take_left' rfl;have k2:(pre++(x.data.toList++catL xs)).drop pre.length=x.data.toList++catL xs:=List.drop_left' rfl;have k3:(x.data.toList++catL xs).take x.size=x.data.toList:=List.take_left' hx
     have k4:(pre++(x.data.toList++catL xs)).drop (pre.length+x.size)=catL xs:=by
      rw [<- List.append_assoc];exact List.drop_left' (by rw [List.length_append,hx])
     simp only [lowIn];rw [k1,k2,Nat.add_sub_cancel_left,k3,k4,List.append_assoc]
    have e2:lowAll ((pre.length,pre.length+x.size)::spansOf r xs (pre.length+x.size)) (pre++(x.data.toList++catL xs))=lowAll (spansOf r xs (pre.length+x.size)) ((pre++Nm.smallL x.data.toList)++catL xs):=by
     rw [<- e1];rfl
    have e3:pre.length+x.size=(pre++Nm.smallL x.data.toList).length:=by simp [Nm.smallL]
    rw [e2,e3,ih xs _ hl]
    simp
   |false=>
    simp only [if_false,Bool.false_eq_true];have e3:pre.length+x.size=(pre++x.data.toList).length:=by simp
    rw [e3,<- List.append_assoc,ih xs _ hl];simp
def foldDS(t:Int)(d:ByteArray):ByteArray:=
 match spans (implP t) 0 d with
 |none=>ByteArray.empty
 |some sp=>⟨(lowAll sp d.data.toList).toArray⟩
theorem foldDS_some{t:Int}{d:ByteArray}{ps:List ByteArray}(h:parts (specP t) d=some ps):foldDS t d=⟨(foldL (specP t) ps).toArray⟩:=by
 obtain⟨h1,h2,h3⟩:=parts_cat _ _ _ h;rw [foldDS,<- forms_agree,spans_of_parts,h];have:=lowAll_parts (specP t) ps [] h1;simp only [List.length_nil,List.nil_append] at this;rw [h2] at this;simp only [Option.map_some,this]
end Go.Proofs.YtfmolgdfjklmpaaGreat.Dt
namespace Go.Proofs.YtfmolgdfjklmpaaGreat.Dt
open Go.RowKit
def PAt(fs:List Pc)(d0:ByteArray)(ps:List ByteArray)(r:List Pc)(d:ByteArray):Prop:=
 parts fs d0=(parts r d).map (fun t=>ps++t)
theorem pat_start(fs:List Pc)(d0:ByteArray):PAt fs d0 [] fs d0:=by simp [PAt]
theorem pat_end{fs:List Pc}{d0 d:ByteArray}{ps:List ByteArray}(h:PAt fs d0 ps [] d)(h0:d.size=0):parts fs d0=some ps:=by
 rw [h,parts,if_pos h0];simp
theorem pat_left{fs:List Pc}{d0 d:ByteArray}{ps:List ByteArray}(h:PAt fs d0 ps [] d)(h0:d.size≠0):parts fs d0=none:=by
 rw [h,parts,if_neg h0];rfl
theorem pat_none{fs r:List Pc}{p:Pc}{d0 d:ByteArray}{ps:List ByteArray}(h:PAt fs d0 ps (p::r) d)(h0:sz p d=none):parts fs d0=none:=by
 rw [h,parts,h0];rfl
theorem pat_step{fs r:List Pc}{p:Pc}{d0 d x:ByteArray}{ps:List ByteArray}{n:Nat}(h:PAt fs d0 ps (p::r) d)(h0:sz p d=some n)(hx:d.extract 0 n=x):PAt fs d0 (ps++[x]) r (d.extract x.size d.size):=by
 have hn:=sz_le h0;have e:x.size=n:=by rw [<- hx];simp;omega
 rw [PAt,h,parts,h0,Option.map_map,hx,e];congr 1;funext t;simp
theorem drop_let{f:ByteArray}{k:Nat}(hk:k<f.size):(f.data.toList.map letP).drop k=letP f[k]::(f.data.toList.map letP).drop (k+1):=by
 have hl:k<(f.data.toList.map letP).length:=by simpa using hk
 rw [List.drop_eq_getElem_cons hl];simp
 rfl
theorem name_ext(d:ByteArray)(h:(nameAtS d).size≠0):d.extract 0 (nameAtS d).size=nameAtS d:=by
 obtain⟨e,e1,e2,e3,e4,e5⟩:=nameF_name 256 d 0 h;have e6:nameAtS d=d.extract 0 e:=e4;have e7:(nameAtS d).size=e:=by rw [e6];simp;omega
 rw [e7,e6]
theorem txt_ext(d:ByteArray):d.extract 0 (txtS d).size=txtS d:=by
 by_cases h:0<d.size
 ·by_cases h1:d[0].toNat+1<=d.size
  ·have e:txtS d=d.extract 0 (d[0].toNat+1):=by rw [txtS,dif_pos h,if_pos h1]
   have e7:(txtS d).size=d[0].toNat+1:=by rw [e];simp;omega
   rw [e7,e]
  ·have e:txtS d=ByteArray.empty:=by rw [txtS,dif_pos h,if_neg h1]
   rw [e];simp
 ·have e:txtS d=ByteArray.empty:=by rw [txtS,dif_neg h]
  rw [e];simp
theorem ext_none(d:ByteArray):d.extract d.size d.size=ByteArray.empty:=by
 apply Nm.ba_ext;simp
def TAt(d p:ByteArray):Prop:=p.size<=d.size∧d.extract 0 p.size=p∧txsS d=p.size+txsS (d.extract p.size d.size)
theorem tat_start(d:ByteArray):TAt d ⟨#[]⟩:=by
 have e:(⟨#[]⟩:ByteArray).size=0:=rfl;refine⟨by omega,?_,?_⟩
 ·rw [e];apply Nm.ba_ext;simp
 ·rw [e];simp
theorem tat_end{d p:ByteArray}(h:TAt d p)(h0:(txtS (d.extract p.size d.size)).size=0):txsS d=p.size:=by
 rw [h.2.2,txs_none h0];rfl
theorem tat_step{d p:ByteArray}(h:TAt d p)(h0:(txtS (d.extract p.size d.size)).size≠0):TAt d (p++txtS (d.extract p.size d.size)):=by
 obtain⟨h1,h2,h3⟩:=h;have ht:=txt_le (d.extract p.size d.size);have hte:=txt_ext (d.extract p.size d.size);generalize hT:txtS (d.extract p.size d.size)=T at*;have hz:(p++T).size=p.size+T.size:=by simp
 have hd:(d.extract p.size d.size).size=d.size-p.size:=by simp
 refine⟨by omega,?_,?_⟩
 ·apply Nm.ba_ext;rw [hz];have e1:(p++T).data.toList=p.data.toList++T.data.toList:=by simp
  rw [e1,<- hte]
  conv=>rhs;arg 1;rw [<- h2]
  simp only [ByteArray.data_extract,Array.toList_extract,List.extract_eq_take_drop];simp
  rw [List.take_add];congr 1;rw [List.take_take,Nat.min_eq_left (by omega)]
 ·rw [hz,h3,txs_step (by rw [hT];exact h0),hT];have e:(d.extract p.size d.size).extract T.size (d.extract p.size d.size).size=d.extract (p.size+T.size) d.size:=ext_ext (by omega) (Nat.le_refl _);rw [e];omega
theorem tag_short{d:ByteArray}(h:(txtS d).size<2∨16<(txtS d).size):tagB d=false:=by
 rw [tagB]
 rcases h with h|h
 ·simp;omega
 ·simp;omega
theorem tag_bad{d:ByteArray}{k:Nat}(hk:1<=k)(hl:k<(txtS d).size)(h:alnumB (txtS d)[k]=false):tagB d=false:=by
 rw [tagB,Bool.and_eq_false_iff];right;rw [List.all_eq_false];refine⟨(txtS d)[k],?_,by simp [h]⟩
 have:((txtS d).data.toList.drop 1)[k-1]? =some (txtS d)[k]:=by
  rw [List.getElem?_drop,show 1+(k-1)=k by omega];exact Nm.get_data hl
 exact List.mem_of_getElem? this
theorem tag_good{d:ByteArray}(h2:2<=(txtS d).size)(h16:(txtS d).size<=16)(h:∀ j,1<=j->(hj:j<(txtS d).size)->alnumB (txtS d)[j]=true):tagB d=true:=by
 rw [tagB];simp only [h2,h16,decide_true,Bool.true_and,List.all_eq_true];intro c hc;obtain⟨i,hi⟩:=List.getElem?_of_mem hc;rw [List.getElem?_drop] at hi
 have hl:1+i<(txtS d).size:=by
  have:=(List.getElem?_eq_some_iff.1 hi).1;simpa using this
 rw [Nm.get_data hl] at hi;simp at hi;rw [<- hi];exact h _ (by omega) hl
end Go.Proofs.YtfmolgdfjklmpaaGreat.Dt
namespace Go.Proofs.YtfmolgdfjklmpaaGreat
open Go.RowKit
def BRow(w:World)(g:Nat)(l:List UInt8):Prop:=∀ j c,l[j]? =some c->w.cell? ⟨g,j,none⟩=some (.int .u8 c.toNat)∧w.frozen? ⟨g,j,none⟩=false
theorem BRow.set{w:World}{g k:Nat}{l:List UInt8}{d:UInt8}(h:BRow w g l)(hk:k<l.length):BRow (w.setCell ⟨g,k,none⟩ (.int .u8 d.toNat)) g (l.set k d):=by
 intro j c hj;obtain⟨x,hx⟩:∃ x,l[k]? =some x:=⟨_,List.getElem?_eq_getElem hk⟩
 by_cases e:k=j
 ·subst e;rw [List.getElem?_set_self hk] at hj;simp at hj;subst hj;exact⟨World.cell?_setCell_same _ _ _ (h k x hx).1,by rw [World.frozen?_setCell];exact(h k x hx).2⟩
 ·rw [List.getElem?_set_ne e] at hj;refine⟨?_,by rw [World.frozen?_setCell];exact(h j c hj).2⟩;rw [World.cell?_setCell_other w ⟨g,k,none⟩ ⟨g,j,none⟩ _ (by intro h;cases h;exact e rfl)];exact(h j c hj).1
theorem new_bytes(s:ByteArray)(w:World):∃ cap W,s.size<=cap∧(s.size<=maxLen->cap<=maxLen)∧
 (convert 9 22 (.string s)).run Tryz.prog w=.ok (.slice (some ⟨w.heap.size,0,none⟩) s.size cap) W∧BRow W w.heap.size s.data.toList∧Below w.heap.size w W:=by
 refine⟨_,_,grownCap_ge w s.size 0 5,grownCap_le_maxLen w s.size 0 5,run_bytes_of_string w 9 22 5 s Tryz.underlying9 Tryz.underlying22 Tryz.underlying5,?_,?_⟩
 ·intro j c hj
  have hj':j<s.data.size:=by
   have:=(List.getElem?_eq_some_iff.1 hj).1;simpa using this
  have hc:s.data[j]=c:=by
   have:=(List.getElem?_eq_some_iff.1 hj).2;simpa using this
  constructor
  ·have e:=cell_of_row (w.drew.alloc (.cells (bytesRow s (grownCap w s.size 0 5)) 5 ((bytesRow s (grownCap w s.size 0 5)).size,(bytesRow s (grownCap w s.size 0 5)).size+1))) w.heap.size j _ 5 _ (heap_alloc_new w.drew _);rw [e,bytesRow_at s _ j hj',hc]
  ·have e:=World.frozen?_alloc_mark w.drew (bytesRow s (grownCap w s.size 0 5)) 5 (bytesRow s (grownCap w s.size 0 5)).size ((bytesRow s (grownCap w s.size 0 5)).size+1) j;rw [show w.heap.size=w.drew.heap.size from rfl,e];have:s.data.size<=(bytesRow s (grownCap w s.size 0 5)).size:=by simp [bytesRow]
   simp;omega
 ·exact((Below.refl _ w).drew).alloc (Nat.le_refl _) _
end Go.Proofs.YtfmolgdfjklmpaaGreat
namespace Go.Proofs.YtfmolgdfjklmpaaGreat
open Go.RowKit
theorem conv_one(n:Int)(W:World):
 (convert 22 9 (.slice (some ⟨W.heap.size,0,none⟩) 1 1)).run Tryz.prog (W.alloc (.cells #[.int .u8 n] 5))=.ok (.string ⟨#[UInt8.ofNat n.toNat]⟩) (W.alloc (.cells #[.int .u8 n] 5)):=by
 rw [run_convert_bytes_string _ 22 9 5 _ _ _ Tryz.underlying22 Tryz.underlying5 Tryz.underlying9];have hl:=run_loadCells_list (P:=Tryz.prog) (W.alloc (.cells #[.int .u8 n] 5)) ⟨W.heap.size,0,none⟩ ([n].map (Value.int .u8)) (fun j v hj=>cell_one_new W (.int .u8 n) 5 j v hj);rw [run_bytesToString _ _ 1 1 [n] hl];rfl
theorem conv_one_drew(n:Int)(W:World):
 (convert 22 9 (.slice (some ⟨W.heap.size,0,none⟩) 1 1)).run Tryz.prog (W.alloc (.cells #[.int .u8 n] 5)).drew=.ok (.string ⟨#[UInt8.ofNat n.toNat]⟩) (W.alloc (.cells #[.int .u8 n] 5)).drew:=
 conv_one n W.drew
theorem ret_str{a b:ByteArray}(h:a=b):Ending.returned (.string a)=.returned (.string b):=by rw [h]
theorem byte_mod(n:Nat):UInt8.ofNat (n % 256)=UInt8.ofNat n:=by
 apply UInt8.toNat_inj.1;simp
theorem ba_ext{a b:ByteArray}(h:a.data.toList=b.data.toList):a=b:=by
 apply ByteArray.ext;exact Array.toList_inj.1 h
theorem size_list(s:ByteArray):s.data.toList.length=s.size:=by simp
end Go.Proofs.YtfmolgdfjklmpaaGreat
namespace Go.Proofs.YtfmolgdfjklmpaaGreat
open Go.RowKit
theorem cmpS_left{a b:ByteArray}(h:Nm.split a=none):Nm.cmpS a b=0:=by simp [Nm.cmpS,h]
theorem cmpS_right{a b:ByteArray}(h:Nm.split b=none):Nm.cmpS a b=0:=by
 cases ha:Nm.split a<;>simp [Nm.cmpS,h,ha]
theorem cmpS_some{a b:ByteArray}{xs ys:List ByteArray}(ha:Nm.split a=some xs)(hb:Nm.split b=some ys):Nm.cmpS a b=Nm.cmpLs xs ys:=by simp [Nm.cmpS,ha,hb]
end Go.Proofs.YtfmolgdfjklmpaaGreat
namespace Go.Proofs.YtfmolgdfjklmpaaGreat
open Go.RowKit
set_option maxRecDepth 100000 in
set_option maxHeartbeats 400000 in
theorem l01Order_any(a b:ByteArray)(w:World):
 Calls Tryz.prog 142 #[.string a,.string b] w fun e w'=>e=.returned (.int .i64 (Nm.ordL a.toList b.toList))∧w'=w:=by
 cases h1:Op.bytesLess a.toList b.toList with
 |true=>
  have HC:Hid (Nm.ordL a.toList b.toList= -1):=by show _=_;simp [Nm.ordL,h1]
  go_enter Tryz.func142,Tryz.ntmps142;go_wp2;go_ret;rw [HC.out]
  exact⟨rfl,rfl⟩
 |false=>
  cases h2:(a.toList==b.toList) with
  |true=>
   have HC:Hid (Nm.ordL a.toList b.toList=0):=by show _=_;rw [Nm.ordL,if_neg (by simp [h1]),if_pos (beq_iff_eq.1 h2)]
   go_enter Tryz.func142,Tryz.ntmps142;go_wp2;go_ret;rw [HC.out]
   exact⟨rfl,rfl⟩
  |false=>
   have HC:Hid (Nm.ordL a.toList b.toList=1):=by show _=_;simp [Nm.ordL,h1,beq_eq_false_iff_ne.1 h2]
   go_enter Tryz.func142,Tryz.ntmps142;go_wp2;go_ret;rw [HC.out];exact⟨rfl,rfl⟩
end Go.Proofs.YtfmolgdfjklmpaaGreat
namespace Go.Proofs.YtfmolgdfjklmpaaGreat
open Go.RowKit
end Go.Proofs.YtfmolgdfjklmpaaGreat
namespace Go.Proofs.YtfmolgdfjklmpaaGreat
open Go.RowKit
theorem mk_size(l:List UInt8):(⟨l.toArray⟩:ByteArray).size=l.length:=by show l.toArray.size=_;simp
end Go.Proofs.YtfmolgdfjklmpaaGreat
namespace Go.Proofs.YtfmolgdfjklmpaaGreat.Nm
open Go.RowKit
def marks:List UInt8:=[46,92,34,59,40,41,64,36]
theorem bys_mark(c:UInt8):[Value.int .u8 (c.toNat:Int)]=bys [c]:=rfl
end Go.Proofs.YtfmolgdfjklmpaaGreat.Nm
namespace Go.Proofs.YtfmolgdfjklmpaaGreat.Nm
open Go.RowKit
section
variable {s:ByteArray}{st:Bool}{k:Nat}{now:List UInt8}{done:List ByteArray}
end
end Go.Proofs.YtfmolgdfjklmpaaGreat.Nm
namespace Go.Proofs.YtfmolgdfjklmpaaGreat
open Go.RowKit
end Go.Proofs.YtfmolgdfjklmpaaGreat
