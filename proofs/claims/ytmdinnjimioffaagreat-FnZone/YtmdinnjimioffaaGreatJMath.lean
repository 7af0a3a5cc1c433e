import Derived.WalkKit
import Derived.Lib.AppendStr
import Derived.Laws.IdiomStrings
namespace Go.Proofs.YtmdinnjimioffaaGreat.Nm
def splitF:Nat->ByteArray->Option (List ByteArray)
 |0,_=>none
 |f+1,r=>
  if h:0<r.size then
   if r[0].toNat=0 then(if r.size=1 then some [] else none)
   else if 63<r[0].toNat∨r.size<r[0].toNat+1 then none
   else(splitF f (r.extract (r[0].toNat+1) r.size)).map (fun ls=>r.extract 1 (r[0].toNat+1)::ls)
  else none
def split(s:ByteArray):Option (List ByteArray):=if s.size<=255 then splitF 256 s else none
theorem splitF_empty(f:Nat)(r:ByteArray)(h:r.size=0):splitF f r=none:=by
 cases f with
 |zero=>rfl
 |succ f=>rw [splitF,dif_neg (by omega)]
theorem splitF_end(f:Nat)(r:ByteArray)(h:0<r.size)(h0:r[0].toNat=0)(h1:r.size=1):splitF (f+1) r=some []:=by
 rw [splitF,dif_pos h,if_pos h0,if_pos h1]
theorem splitF_zero(f:Nat)(r:ByteArray)(h:0<r.size)(h0:r[0].toNat=0)(h1:r.size≠1):splitF (f+1) r=none:=by
 rw [splitF,dif_pos h,if_pos h0,if_neg h1]
theorem splitF_bad(f:Nat)(r:ByteArray)(h:0<r.size)(h0:r[0].toNat≠0)(h1:63<r[0].toNat∨r.size<r[0].toNat+1):splitF (f+1) r=none:=by
 rw [splitF,dif_pos h,if_neg h0,if_pos h1]
theorem splitF_step(f:Nat)(r:ByteArray)(h:0<r.size)(h0:r[0].toNat≠0)(h1:r[0].toNat<=63)(h2:r[0].toNat+1<=r.size):
 splitF (f+1) r=(splitF f (r.extract (r[0].toNat+1) r.size)).map (fun ls=>r.extract 1 (r[0].toNat+1)::ls):=by
 rw [splitF,dif_pos h,if_neg h0,if_neg (by omega)]
theorem split_long(s:ByteArray)(h:255<s.size):split s=none:=by rw [split,if_neg (by omega)]
theorem split_short(s:ByteArray)(h:s.size<=255):split s=splitF 256 s:=by rw [split,if_pos h]
def At(s:ByteArray)(ls:List ByteArray)(r:ByteArray):Prop:=
 ∃ f,r.size<f∧split s=(splitF f r).map (fun t=>ls++t)
theorem at_start(s:ByteArray)(h:s.size<=255):At s [] s:=⟨256,by omega,by rw [split_short s h];simp⟩
theorem at_empty{s r:ByteArray}{ls:List ByteArray}(h:At s ls r)(h0:r.size=0):split s=none:=by
 obtain⟨f,_,e⟩:=h;rw [e,splitF_empty f r h0];rfl
theorem at_end{s r:ByteArray}{ls:List ByteArray}(h:At s ls r)(hp:0<r.size)(h0:r[0].toNat=0)(h1:r.size=1):split s=some ls:=by
 obtain⟨f,hf,e⟩:=h;obtain⟨g,rfl⟩:∃ g,f=g+1:=⟨f-1,by omega⟩;rw [e,splitF_end g r hp h0 h1];simp
theorem at_zero{s r:ByteArray}{ls:List ByteArray}(h:At s ls r)(hp:0<r.size)(h0:r[0].toNat=0)(h1:r.size≠1):split s=none:=by
 obtain⟨f,hf,e⟩:=h;obtain⟨g,rfl⟩:∃ g,f=g+1:=⟨f-1,by omega⟩;rw [e,splitF_zero g r hp h0 h1];rfl
theorem at_bad{s r:ByteArray}{ls:List ByteArray}(h:At s ls r)(hp:0<r.size)(h0:r[0].toNat≠0)(h1:63<r[0].toNat∨r.size<r[0].toNat+1):split s=none:=by
 obtain⟨f,hf,e⟩:=h;obtain⟨g,rfl⟩:∃ g,f=g+1:=⟨f-1,by omega⟩;rw [e,splitF_bad g r hp h0 h1];rfl
theorem at_step{s r:ByteArray}{ls:List ByteArray}(h:At s ls r)(hp:0<r.size)(h0:r[0].toNat≠0)(h1:r[0].toNat<=63)(h2:r[0].toNat+1<=r.size):
 At s (ls++[r.extract 1 (r[0].toNat+1)]) (r.extract (r[0].toNat+1) r.size):=by
 obtain⟨f,hf,e⟩:=h;obtain⟨g,rfl⟩:∃ g,f=g+1:=⟨f-1,by omega⟩;refine⟨g,by simp;omega,?_⟩;rw [e,splitF_step g r hp h0 h1 h2,Option.map_map];congr 1;funext t;simp
theorem tl_len(r:ByteArray):r.toList.length=r.size:=by rw [ByteArray.toList_eq];simp
theorem tl_one{r:ByteArray}(h:0<r.size)(h1:r.size=1)(h0:r[0].toNat=0):(r.toList==[0])=true:=by
 rw [beq_iff_eq,ByteArray.toList_eq];refine List.ext_getElem (by simpa using h1) ?_;intro i hi hj;have:i=0:=by simpa using hj
 subst this;have e:r.data.toList[0]=r[0]:=rfl;rw [e];exact UInt8.toNat_inj.1 (by simpa using h0)
theorem tl_not_one{r:ByteArray}(h:0<r.size)(h1:¬(r.size=1∧r[0].toNat=0)):(r.toList==[0])=false:=by
 rw [beq_eq_false_iff_ne];intro e;rw [ByteArray.toList_eq] at e;apply h1;refine⟨by have:=congrArg List.length e;simpa using this,?_⟩;have g:r.data.toList[0]? =some 0:=by rw [e];rfl
 have g2:r.data.toList[0]? =some r[0]:=List.getElem?_eq_getElem (by simpa using h);rw [g2] at g;have g3:r[0]=0:=by simpa using g
 rw [g3];rfl
theorem tl_empty{r:ByteArray}(h:r.size=0):r.toList.isEmpty=true:=by
 rw [List.isEmpty_iff,<- List.length_eq_zero_iff,tl_len];exact h
theorem tl_not_empty{r:ByteArray}(h:0<r.size):r.toList.isEmpty=false:=by
 rw [Bool.eq_false_iff];intro e;rw [List.isEmpty_iff,<- List.length_eq_zero_iff,tl_len] at e;omega
theorem one_cell(x:Value)(h:x.oneCell'=true):∀ u:Value,u∈[x]->u.oneCell'=true:=by
 intro u hu;simp at hu;subst hu;exact h
end Go.Proofs.YtmdinnjimioffaaGreat.Nm
namespace Go.Proofs.YtmdinnjimioffaaGreat.Nm
open Go.RowKit
def wsum:List ByteArray->Nat
 |[]=>0
 |l::r=>(1+l.size)+wsum r
def preL:List ByteArray->List UInt8
 |[]=>[]
 |l::r=>(UInt8.ofNat l.size::l.data.toList)++preL r
def joinL(ls:List ByteArray):List UInt8:=preL ls++[0]
theorem hide{p:Prop}(h:p):Hid p:=h
theorem wsum_append(a b:List ByteArray):wsum (a++b)=wsum a+wsum b:=by
 induction a with
 |nil=>simp [wsum]
 |cons x a ih=>simp only [List.cons_append,wsum,ih];omega
theorem preL_append(a b:List ByteArray):preL (a++b)=preL a++preL b:=by
 induction a with
 |nil=>simp [preL]
 |cons x a ih=>simp [preL,ih]
theorem preL_length(ls:List ByteArray):(preL ls).length=wsum ls:=by
 induction ls with
 |nil=>rfl
 |cons x a ih=>simp only [preL,wsum,List.length_append,List.length_cons,ih,Array.length_toList,ByteArray.size_data];omega
theorem joinL_length(ls:List ByteArray):(joinL ls).length=wsum ls+1:=by simp [joinL,preL_length]
theorem length_le_wsum(ls:List ByteArray):ls.length<=wsum ls:=by
 induction ls with
 |nil=>simp
 |cons x a ih=>simp only [wsum,List.length_cons];omega
theorem take_step{α:Type}{ls:List α}{k:Nat}{x:α}(h:ls[k]? =some x):ls.take (k+1)=ls.take k++[x]:=by
 obtain⟨hk,e⟩:=List.getElem?_eq_some_iff.1 h;rw [List.take_succ_eq_append_getElem hk,e]
theorem wsum_step{ls:List ByteArray}{k:Nat}{x:ByteArray}(h:ls[k]? =some x):wsum (ls.take (k+1))=wsum (ls.take k)+(1+x.size):=by
 rw [take_step h,wsum_append];simp [wsum]
theorem preL_step{ls:List ByteArray}{k:Nat}{x:ByteArray}(h:ls[k]? =some x):preL (ls.take (k+1))=preL (ls.take k)++(UInt8.ofNat x.size::x.data.toList):=by
 rw [take_step h,preL_append];simp [preL]
theorem wsum_take_le(ls:List ByteArray)(k:Nat):wsum (ls.take k)<=wsum ls:=by
 have e:=wsum_append (ls.take k) (ls.drop k);rw [List.take_append_drop] at e;omega
def bys(l:List UInt8):List Value:=l.map fun b=>Value.int .u8 b.toNat
theorem bys_append(a b:List UInt8):bys (a++b)=bys a++bys b:=by simp [bys]
theorem bys_length(a:List UInt8):(bys a).length=a.length:=by simp [bys]
def SRow(w:World)(v:Value)(ls:List ByteArray):Prop:=
 ∃ a cap,v=.slice a ls.length cap∧ls.length<=cap∧cap<=maxLen∧(a=none->cap=0)∧
   (ls≠[]->∃ b off,a=some ⟨b,off,none⟩∧∀ i x,ls[i]? =some x->w.cell? ⟨b,off+i,none⟩=some (.string x))
theorem SRow.of_owns{w:World}{B e:Nat}{v:Value}{ls:List ByteArray}(h:w.ownsRow B e 1 v ls.length (ls.map Value.string)):SRow w v ls:=by
 rcases h.2 with⟨rfl,h0⟩|⟨g,cap,cur,rfl,hb,hg,hn,hm,hs,ht⟩
 ·have:ls=[]:=List.length_eq_zero_iff.1 h0;subst this;exact⟨none,0,rfl,by simp,by decide,fun _=>rfl,fun h=>absurd rfl h⟩
 ·refine⟨_,cap,rfl,hn,hm,(fun h=>by cases h),fun _=>⟨g,0,rfl,?_⟩⟩;intro i x hx;obtain⟨hi,e⟩:=List.getElem?_eq_some_iff.1 hx;rw [Nat.zero_add,h.cellAt i (by omega)];simp [hx]
theorem SRow.below{w w':World}{v:Value}{ls:List ByteArray}(h:SRow w v ls)(hb:Below w.heap.size w w'):SRow w' v ls:=by
 obtain⟨a,cap,rfl,h1,h2,h2',h3⟩:=h;refine⟨a,cap,rfl,h1,h2,h2',fun hne=>?_⟩;obtain⟨b,off,rfl,hc⟩:=h3 hne;refine⟨b,off,rfl,fun i x hx=>?_⟩;have:=hc i x hx;rw [hb.cell (World.block_lt_of_cell? w _ this)];exact this
theorem below_two{w w1 w2:World}(h1:Below w.heap.size w w1)(h2:Below w1.heap.size w1 w2):Below w.heap.size w w2:=
 h1.trans (h2.mono h1.size)
theorem bys_step{W wr w1:World}{v v':Value}{B e n m:Nat}{l x:List UInt8}(hB:B<=wr.heap.size)
 (hown:wr.ownsRow B e 1 v n (bys l)) (hbel:Below B W wr)
 (hown':w1.ownsRow B e 1 v' (n+m) (bys l++bys x)) (hgrow:wr.grownBy w1 v.ownBlock):
 w1.ownsRow B e 1 v' (n+m) (bys (l++x))∧Below B W w1:=by
 refine⟨by rw [bys_append];exact hown',?_⟩;exact hbel.grown hgrow hB (fun k hk=>(hown.lt k hk).1)
theorem conv_own{P:Program}{w:World}{B e src dst n:Nat}{v:Value}{l:List UInt8}(hs:P.underlying src=some (.slice e))(he:P.underlying e=some (.int .u8))(hd:P.underlying dst=some .string)
 (h:w.ownsRow B e 1 v n (bys l)) (hp:0<n):
 ∃ g cap,v=.slice (some ⟨g,0,none⟩) n cap∧(convert src dst (.slice (some ⟨g,0,none⟩) n cap)).run P w=.ok (.string ⟨l.toArray⟩) w:=by
 have hn:n=l.length:=by have:=h.1;rw [bys_length] at this;omega
 subst hn
 rcases h.2 with⟨rfl,h0⟩|⟨g,cap,cur,rfl,hb,hg,hnc,hm,hcs,ht⟩
 ·omega
 ·refine⟨g,cap,rfl,run_convert_bytes_back w src dst e ⟨g,0,none⟩ cap l hs he hd ?_⟩;intro j hj;exact h.cells (g:=g) rfl j _ (by simp [bys,hj])
theorem addr_add(b off k:Nat):(⟨b,off,none⟩:Addr).add k=⟨b,off+k,none⟩:=by
 unfold Addr.add;split<;>simp_all
theorem SRow.drop_all{w:World}{a:Option Addr}{ls:List ByteArray}{cap k:Nat}(h:SRow w (.slice a ls.length cap) ls)(hk:cap=k):SRow w (.slice a (ls.length-k) 0) (ls.drop k):=by
 obtain⟨a',cap',e,h1,h2,h3,h4⟩:=h;simp only [Value.slice.injEq] at e;obtain⟨rfl,_,rfl⟩:=e;have hd:ls.drop k=[]:=List.drop_eq_nil_of_le (by omega);rw [hd];exact⟨a,0,by simp;omega,by simp,by decide,fun _=>rfl,fun h=>absurd rfl h⟩
theorem SRow.drop{w:World}{a:Option Addr}{ls:List ByteArray}{cap k:Nat}(h:SRow w (.slice a ls.length cap) ls)(hk:k<=ls.length):
 SRow w (.slice (a.map (fun x=>x.add k)) (ls.length-k) (cap-k)) (ls.drop k):=by
 obtain⟨a',cap',e,h1,h2,h3,h4⟩:=h;simp only [Value.slice.injEq] at e;obtain⟨rfl,_,rfl⟩:=e;refine⟨_,_,by rw [List.length_drop],by rw [List.length_drop];omega,by omega,?_,?_⟩
 ·intro h;simp at h;have:=h3 h;omega
 ·intro hne;obtain⟨b,off,rfl,hc⟩:=h4 (by intro h;rw [h] at hne;simp at hne);refine⟨b,off+k,by simp [addr_add],?_⟩;intro i x hx;rw [List.getElem?_drop] at hx;rw [Nat.add_assoc];exact hc _ _ hx
theorem wsum_drop_le(ls:List ByteArray)(k:Nat):wsum (ls.drop k)<=wsum ls:=by
 have e:=wsum_append (ls.take k) (ls.drop k);rw [List.take_append_drop] at e;omega
theorem splitF_size:∀ (f:Nat) (r:ByteArray) (ls:List ByteArray),splitF f r=some ls->wsum ls+1=r.size:=by
 intro f
 induction f with
 |zero=>intro r ls h;simp [splitF] at h
 |succ f ih=>
  intro r ls h
  by_cases hp:0<r.size
  ·by_cases h0:r[0].toNat=0
   ·by_cases h1:r.size=1
    ·rw [splitF_end f r hp h0 h1] at h;simp at h;subst h;simp [wsum];omega
    ·rw [splitF_zero f r hp h0 h1] at h;simp at h
   ·by_cases h1:63<r[0].toNat∨r.size<r[0].toNat+1
    ·rw [splitF_bad f r hp h0 h1] at h;simp at h
    ·rw [splitF_step f r hp h0 (by omega) (by omega)] at h
     cases e:splitF f (r.extract (r[0].toNat+1) r.size) with
     |none=>rw [e] at h;simp at h
     |some t=>
      rw [e] at h;simp at h;have:=ih _ _ e;rw [<- h];simp at this;simp [wsum];omega
  ·rw [splitF_empty _ r (by omega)] at h;simp at h
theorem split_size{s:ByteArray}{ls:List ByteArray}(h:split s=some ls):wsum ls+1=s.size∧s.size<=255:=by
 by_cases hl:s.size<=255
 ·rw [split_short s hl] at h;exact⟨splitF_size _ _ _ h,hl⟩
 ·rw [split_long s (by omega)] at h;simp at h
end Go.Proofs.YtmdinnjimioffaaGreat.Nm
