import Derived.Test.YthdpacepbbcocaaGreatRows
import Derived.WalkSpells
import Derived.WalkLawsBesides
import Derived.Deep.RegionHeld3
import Derived.Deep.RegionLaw
import Derived.Lib.BufferWrite
import Derived.Lib.AppendZerosOnto
import Derived.Lib.Overlaps
import Derived.Deep.OwnRows
import Derived.OpenShut
import Derived.Lib.Split
import Derived.Deep.Upon
set_option linter.unusedVariables false
set_option maxRecDepth 100000
set_option maxHeartbeats 800000
namespace Go.Proofs.YthdpacepbbcocaaGreat
open Go.RowKit
theorem bY{α:Type _}{l:List α}{i:Nat}(h:i<l.length):l[i]? =some l[i]:=List.getElem?_eq_getElem h
theorem dK{α:Type _}{l:List α}{i:Nat}{a:α}(h:l[i]? =some a):∃ h:i<l.length,l[i]=a:=List.getElem?_eq_some_iff.1 h
theorem bP{α:Type _}{l:List α}{i:Nat}{a:α}(h:l[i]? =some a):a∈l:=List.mem_of_getElem? h
theorem aN(n:Nat):n<=n:=Nat.le_refl n
theorem aK(B:Nat)(w:World):Below B w w:=Below.refl B w
theorem aV{a b:Prop}(x:a)(y:b):a∧b:=⟨x,y⟩
theorem dC{α:Type _}[BEq α][LawfulBEq α]{a b:α}:(a==b)=false↔a≠b:=beq_eq_false_iff_ne
theorem dO(n:Nat):0<=n:=Nat.zero_le n
theorem eB(w:World)(a:Addr){u:Value}(h:w.cell? a=some u):a.block<w.heap.size:=World.block_lt_of_cell? w a h
theorem gQ{α:Type _}{a b:α}(h:some a=some b):a=b:=Option.some.inj h
theorem jU{p:Prop}[Decidable p](h:¬p):decide p=false:=decide_eq_false h
theorem nD{p:Prop}[Decidable p](h:p):decide p=true:=decide_eq_true h
theorem iL{a b c:Nat}(h:a<=b)(g:b<=c):a<=c:=Nat.le_trans h g
theorem sP{a b c:Nat}(h:a<b)(g:b<=c):a<c:=Nat.lt_of_lt_of_le h g
theorem fV(w:World)(o:Obj):(w.alloc o).heap.size=w.heap.size+1:=World.size_alloc w o
theorem nG{α:Type _}{l m:List α}:(l++m).length=l.length+m.length:=List.length_append
theorem jV{a b:ByteArray}:(a++b).size=a.size+b.size:=ByteArray.size_append
theorem iG(a:Option Addr)(n c:Nat)(b:Option Addr)(m d:Nat):(Value.slice a n c=Value.slice b m d)=(a=b∧n=m∧c=d):=Value.slice.injEq a n c b m d
theorem jS{α:Type _}{a:α}{s t:List α}(h:a∈s++t):a∈s∨a∈t:=List.mem_append.1 h
theorem lS{α β:Type _}{b:β}{f:α->β}{l:List α}(h:b∈List.map f l):∃ a,a∈l∧f a=b:=List.mem_map.1 h
theorem gD{P:Program}{fn:Func}{R:Ending->World->Prop}{a:Act}{w:World}{v:Value}(h:Sem.run P (results fn a.tmps) w=Result.ok v w)(hd:a.defers=[])(hr:R (.returned v) w):bodyPost P fn R .ret a w:=bodyPost_ret h hd hr
theorem mP{α:Type _}(a b:α):(some a=some b)=(a=b):=Option.some.injEq a b
end Go.Proofs.YthdpacepbbcocaaGreat
namespace Go.Proofs.YthdpacepbbcocaaGreat.Nm
def iW:Nat->ByteArray->Option (List ByteArray)
 |0,_=>none
 |f+1,r=>
  if h:0<r.size then
   if r[0].toNat=0 then(if r.size=1 then some [] else none)
   else if 63<r[0].toNat∨r.size<r[0].toNat+1 then none
   else(iW f (r.extract (r[0].toNat+1) r.size)).map (fun ls=>r.extract 1 (r[0].toNat+1)::ls)
  else none
def split(s:ByteArray):Option (List ByteArray):=if s.size<=255 then iW 256 s else none
theorem rQ(f:Nat)(r:ByteArray)(h:r.size=0):iW f r=none:=by
 cases f with
 |zero=>rfl
 |succ f=>rw [iW,dif_neg (by omega)]
theorem wI(f:Nat)(r:ByteArray)(h:0<r.size)(h0:r[0].toNat=0)(h1:r.size=1):iW (f+1) r=some []:=by
 rw [iW,dif_pos h,if_pos h0,if_pos h1]
theorem xU(f:Nat)(r:ByteArray)(h:0<r.size)(h0:r[0].toNat=0)(h1:r.size≠1):iW (f+1) r=none:=by
 rw [iW,dif_pos h,if_pos h0,if_neg h1]
theorem AQ(f:Nat)(r:ByteArray)(h:0<r.size)(h0:r[0].toNat≠0)(h1:63<r[0].toNat∨r.size<r[0].toNat+1):iW (f+1) r=none:=by
 rw [iW,dif_pos h,if_neg h0,if_pos h1]
theorem qR(f:Nat)(r:ByteArray)(h:0<r.size)(h0:r[0].toNat≠0)(h1:r[0].toNat<=63)(h2:r[0].toNat+1<=r.size):
 iW (f+1) r=(iW f (r.extract (r[0].toNat+1) r.size)).map (fun ls=>r.extract 1 (r[0].toNat+1)::ls):=by
 rw [iW,dif_pos h,if_neg h0,if_neg (by omega)]
theorem AR(s:ByteArray)(h:255<s.size):split s=none:=by rw [split,if_neg (by omega)]
theorem qU(s:ByteArray)(h:s.size<=255):split s=iW 256 s:=by rw [split,if_pos h]
def At(s:ByteArray)(ls:List ByteArray)(r:ByteArray):Prop:=
 ∃ f,r.size<f∧split s=(iW f r).map (fun t=>ls++t)
theorem UN(s:ByteArray)(h:s.size<=255):At s [] s:=⟨256,by omega,by rw [qU s h];simp⟩
theorem UO{s r:ByteArray}{ls:List ByteArray}(h:At s ls r)(h0:r.size=0):split s=none:=by
 obtain⟨f,_,e⟩:=h;rw [e,rQ f r h0];rfl
theorem at_end{s r:ByteArray}{ls:List ByteArray}(h:At s ls r)(hp:0<r.size)(h0:r[0].toNat=0)(h1:r.size=1):split s=some ls:=by
 obtain⟨f,hf,e⟩:=h;obtain⟨g,rfl⟩:∃ g,f=g+1:=⟨f-1,by omega⟩;rw [e,wI g r hp h0 h1];simp
theorem aAd{s r:ByteArray}{ls:List ByteArray}(h:At s ls r)(hp:0<r.size)(h0:r[0].toNat=0)(h1:r.size≠1):split s=none:=by
 obtain⟨f,hf,e⟩:=h;obtain⟨g,rfl⟩:∃ g,f=g+1:=⟨f-1,by omega⟩;rw [e,xU g r hp h0 h1];rfl
theorem Td{s r:ByteArray}{ls:List ByteArray}(h:At s ls r)(hp:0<r.size)(h0:r[0].toNat≠0)(h1:63<r[0].toNat∨r.size<r[0].toNat+1):split s=none:=by
 obtain⟨f,hf,e⟩:=h;obtain⟨g,rfl⟩:∃ g,f=g+1:=⟨f-1,by omega⟩;rw [e,AQ g r hp h0 h1];rfl
theorem aAe{s r:ByteArray}{ls:List ByteArray}(h:At s ls r)(hp:0<r.size)(h0:r[0].toNat≠0)(h1:r[0].toNat<=63)(h2:r[0].toNat+1<=r.size):
 At s (ls++[r.extract 1 (r[0].toNat+1)]) (r.extract (r[0].toNat+1) r.size):=by
 obtain⟨f,hf,e⟩:=h;obtain⟨g,rfl⟩:∃ g,f=g+1:=⟨f-1,by omega⟩;refine⟨g,by simp;omega,?_⟩;rw [e,qR g r hp h0 h1 h2,Option.map_map];congr 1;funext t;simp
theorem Te(r:ByteArray):r.toList.length=r.size:=by rw [ByteArray.toList_eq];simp
theorem aMe{r:ByteArray}(h:0<r.size)(h1:r.size=1)(h0:r[0].toNat=0):(r.toList==[0])=true:=by
 rw [beq_iff_eq,ByteArray.toList_eq];refine List.ext_getElem (by simpa using h1) ?_;intro i hi hj;have:i=0:=by simpa using hj
 subst this;have e:r.data.toList[0]=r[0]:=rfl;rw [e];exact UInt8.toNat_inj.1 (by simpa using h0)
theorem Tf{r:ByteArray}(h:0<r.size)(h1:¬(r.size=1∧r[0].toNat=0)):(r.toList==[0])=false:=by
 rw [beq_eq_false_iff_ne];intro e;rw [ByteArray.toList_eq] at e;apply h1;refine⟨by have:=congrArg List.length e;simpa using this,?_⟩;have g:r.data.toList[0]? =some 0:=by rw [e];rfl
 have g2:r.data.toList[0]? =some r[0]:=List.getElem?_eq_getElem (by simpa using h);rw [g2] at g;have g3:r[0]=0:=by simpa using g
 rw [g3];rfl
theorem UQ{r:ByteArray}(h:r.size=0):r.toList.isEmpty=true:=by
 rw [List.isEmpty_iff,<- List.length_eq_zero_iff,Te];exact h
theorem LF{r:ByteArray}(h:0<r.size):r.toList.isEmpty=false:=by
 rw [Bool.eq_false_iff];intro e;rw [List.isEmpty_iff,<- List.length_eq_zero_iff,Te] at e;omega
theorem one_cell(x:Value)(h:x.oneCell'=true):∀ u:Value,u∈[x]->u.oneCell'=true:=by
 intro u hu;simp at hu;subst hu;exact h
end Go.Proofs.YthdpacepbbcocaaGreat.Nm
namespace Go.Proofs.YthdpacepbbcocaaGreat
open Go.RowKit
theorem Tryz.AU:(Tryz.prog.info? 9).map (fun i=>(i.zero,i.size,i.bytes))=some (some (.string ByteArray.empty),1,16):=by kernel_rfl
theorem nK{W wr w1:World}{v v':Value}{B e:Nat}{ls:List ByteArray}{x:ByteArray}(hB:B<=wr.heap.size)
 (aU:wr.ownsRow B e 1 v ls.length (ls.map Value.string)) (aJ:Below B W wr) (o:Obj)
 (dD:w1.ownsRow B e 1 v' (ls.length+1) (ls.map Value.string++[.string x])) (bZ:(wr.alloc o).grownBy w1 v.ownBlock):
 w1.ownsRow B e 1 v' (ls++[x]).length ((ls++[x]).map Value.string)∧Below B W w1:=by
 refine⟨by simpa using dD,?_⟩;refine(aJ.alloc hB o).grown bZ (by simp;omega) ?_;intro k hk;exact(aU.lt k hk).1
theorem iR(w:World)(x:Value)(e:Nat):∀ (j:Nat) (u:Value),[x][j]? =some u->(w.alloc (.cells #[x] e)).cell? ((⟨w.heap.size,0,none⟩:Addr).add j)=some u:=by
 intro j u hj
 match j,hj with
 |0,hj=>simp at hj;subst hj;simp [Addr.add]
theorem own_below{w w':World}{B e s n:Nat}{v:Value}{xs:List Value}(h:w.ownsRow B e s v n xs)(hb:Below w.heap.size w w'):w'.ownsRow B e s v n xs:=
 h.kept (row:=none) ⟨hb.os,hb.tape,hb.output,hb.size,fun k hk _=>hb.block k hk⟩ (by cases v.ownBlock<;>simp)
theorem fQ{w:World}{B B' e s n:Nat}{v:Value}{xs:List Value}(h:w.ownsRow B e s v n xs)(hb:B'<=B):w.ownsRow B' e s v n xs:=by
 refine⟨h.1,?_⟩
 rcases h.2 with hn|⟨g,cap,cur,hv,ZU,rest⟩
 ·exact .inl hn
 exact .inr ⟨g,cap,cur,hv,Nat.le_trans hb ZU,rest⟩
end Go.Proofs.YthdpacepbbcocaaGreat
namespace Go.Proofs.YthdpacepbbcocaaGreat.Nm
open Go.RowKit
def dP:List ByteArray->Nat
 |[]=>0
 |l::r=>(1+l.size)+dP r
def vF:List ByteArray->List UInt8
 |[]=>[]
 |l::r=>(UInt8.ofNat l.size::l.data.toList)++vF r
def joinL(ls:List ByteArray):List UInt8:=vF ls++[0]
theorem aF{p:Prop}(h:p):Hid p:=h
theorem qV(a b:List ByteArray):dP (a++b)=dP a+dP b:=by
 induction a with
 |nil=>simp [dP]
 |cons x a ih=>simp only [List.cons_append,dP,ih];omega
theorem Js(a b:List ByteArray):vF (a++b)=vF a++vF b:=by
 induction a with
 |nil=>simp [vF]
 |cons x a ih=>simp [vF,ih]
theorem QK(ls:List ByteArray):(vF ls).length=dP ls:=by
 induction ls with
 |nil=>rfl
 |cons x a ih=>simp only [vF,dP,List.length_append,List.length_cons,ih,Array.length_toList,ByteArray.size_data];omega
theorem rT(ls:List ByteArray):(joinL ls).length=dP ls+1:=by simp [joinL,QK]
theorem gJ(ls:List ByteArray):ls.length<=dP ls:=by
 induction ls with
 |nil=>simp
 |cons x a ih=>simp only [dP,List.length_cons];omega
theorem mH{α:Type}{ls:List α}{k:Nat}{x:α}(h:ls[k]? =some x):ls.take (k+1)=ls.take k++[x]:=by
 obtain⟨hk,e⟩:=List.getElem?_eq_some_iff.1 h;rw [List.take_succ_eq_append_getElem hk,e]
theorem Cc{ls:List ByteArray}{k:Nat}{x:ByteArray}(h:ls[k]? =some x):dP (ls.take (k+1))=dP (ls.take k)+(1+x.size):=by
 rw [mH h,qV];simp [dP]
theorem aBi{ls:List ByteArray}{k:Nat}{x:ByteArray}(h:ls[k]? =some x):vF (ls.take (k+1))=vF (ls.take k)++(UInt8.ofNat x.size::x.data.toList):=by
 rw [mH h,Js];simp [vF]
theorem AV(ls:List ByteArray)(k:Nat):dP (ls.take k)<=dP ls:=by
 have e:=qV (ls.take k) (ls.drop k);rw [List.take_append_drop] at e;omega
def QL(l:List UInt8):List Value:=l.map fun b=>Value.int .u8 b.toNat
theorem JP(a b:List UInt8):QL (a++b)=QL a++QL b:=by simp [QL]
theorem AX(a:List UInt8):(QL a).length=a.length:=by simp [QL]
def dX(w:World)(v:Value)(ls:List ByteArray):Prop:=
 ∃ a cap,v=.slice a ls.length cap∧ls.length<=cap∧cap<=maxLen∧(a=none->cap=0)∧
   (ls≠[]->∃ b off,a=some ⟨b,off,none⟩∧∀ i x,ls[i]? =some x->w.cell? ⟨b,off+i,none⟩=some (.string x))
theorem dX.aS{w:World}{B e:Nat}{v:Value}{ls:List ByteArray}(h:w.ownsRow B e 1 v ls.length (ls.map Value.string)):dX w v ls:=by
 rcases h.2 with⟨rfl,h0⟩|⟨g,cap,cur,rfl,hb,hg,hn,hm,hs,ht⟩
 ·have:ls=[]:=List.length_eq_zero_iff.1 h0;subst this;exact⟨none,0,rfl,by simp,by decide,fun _=>rfl,fun h=>absurd rfl h⟩
 refine⟨_,cap,rfl,hn,hm,(fun h=>by cases h),fun _=>⟨g,0,rfl,?_⟩⟩;intro i x hx;obtain⟨hi,e⟩:=List.getElem?_eq_some_iff.1 hx;rw [Nat.zero_add,h.cellAt i (by omega)];simp [hx]
theorem dX.below{w w':World}{v:Value}{ls:List ByteArray}(h:dX w v ls)(hb:Below w.heap.size w w'):dX w' v ls:=by
 obtain⟨a,cap,rfl,h1,h2,Sb,h3⟩:=h;refine⟨a,cap,rfl,h1,h2,Sb,fun dQ=>?_⟩;obtain⟨b,off,rfl,hc⟩:=h3 dQ;refine⟨b,off,rfl,fun i x hx=>?_⟩;have:=hc i x hx;rw [hb.cell (World.block_lt_of_cell? w _ this)];exact this
theorem aC{w w1 w2:World}(h1:Below w.heap.size w w1)(h2:Below w1.heap.size w1 w2):Below w.heap.size w w2:=
 h1.trans (h2.mono h1.size)
theorem UR{W wr w1:World}{v v':Value}{B e n m:Nat}{l x:List UInt8}(hB:B<=wr.heap.size)
 (aU:wr.ownsRow B e 1 v n (QL l)) (aJ:Below B W wr)
 (dD:w1.ownsRow B e 1 v' (n+m) (QL l++QL x)) (bZ:wr.grownBy w1 v.ownBlock):
 w1.ownsRow B e 1 v' (n+m) (QL (l++x))∧Below B W w1:=by
 refine⟨by rw [JP];exact dD,?_⟩;exact aJ.grown bZ hB (fun k hk=>(aU.lt k hk).1)
theorem LG{P:Program}{w:World}{B e src dst n:Nat}{v:Value}{l:List UInt8}(hs:P.underlying src=some (.slice e))(he:P.underlying e=some (.int .u8))(hd:P.underlying dst=some .string)
 (h:w.ownsRow B e 1 v n (QL l)) (hp:0<n):
 ∃ g cap,v=.slice (some ⟨g,0,none⟩) n cap∧(convert src dst (.slice (some ⟨g,0,none⟩) n cap)).run P w=.ok (.string ⟨l.toArray⟩) w:=by
 have hn:n=l.length:=by have:=h.1;rw [AX] at this;omega
 subst hn
 rcases h.2 with⟨rfl,h0⟩|⟨g,cap,cur,rfl,hb,hg,YX,hm,oZ,ht⟩
 ·omega
 refine⟨g,cap,rfl,run_convert_bytes_back w src dst e ⟨g,0,none⟩ cap l hs he hd ?_⟩;intro j hj;exact h.cells (g:=g) rfl j _ (by simp [QL,hj])
theorem addr_add(b off k:Nat):(⟨b,off,none⟩:Addr).add k=⟨b,off+k,none⟩:=by
 unfold Addr.add;split<;>simp_all
theorem dX.UT{w:World}{a:Option Addr}{ls:List ByteArray}{cap k:Nat}(h:dX w (.slice a ls.length cap) ls)(hk:cap=k):dX w (.slice a (ls.length-k) 0) (ls.drop k):=by
 obtain⟨a',cap',e,h1,h2,h3,h4⟩:=h;simp only [Value.slice.injEq] at e;obtain⟨rfl,_,rfl⟩:=e;have hd:ls.drop k=[]:=List.drop_eq_nil_of_le (by omega);rw [hd];exact⟨a,0,by simp;omega,by simp,by decide,fun _=>rfl,fun h=>absurd rfl h⟩
theorem dX.drop{w:World}{a:Option Addr}{ls:List ByteArray}{cap k:Nat}(h:dX w (.slice a ls.length cap) ls)(hk:k<=ls.length):
 dX w (.slice (a.map (fun x=>x.add k)) (ls.length-k) (cap-k)) (ls.drop k):=by
 obtain⟨a',cap',e,h1,h2,h3,h4⟩:=h;simp only [Value.slice.injEq] at e;obtain⟨rfl,_,rfl⟩:=e;refine⟨_,_,by rw [List.length_drop],by rw [List.length_drop];omega,by omega,?_,?_⟩
 ·intro h;simp at h;have:=h3 h;omega
 intro dQ;obtain⟨b,off,rfl,hc⟩:=h4 (by intro h;rw [h] at dQ;simp at dQ);refine⟨b,off+k,by simp [addr_add],?_⟩;intro i x hx;rw [List.getElem?_drop] at hx;rw [Nat.add_assoc];exact hc _ _ hx
theorem vG(ls:List ByteArray)(k:Nat):dP (ls.drop k)<=dP ls:=by
 have e:=qV (ls.take k) (ls.drop k);rw [List.take_append_drop] at e;omega
theorem Jt:∀ (f:Nat) (r:ByteArray) (ls:List ByteArray),iW f r=some ls->dP ls+1=r.size:=by
 intro f
 induction f with
 |zero=>intro r ls h;simp [iW] at h
 |succ f ih=>
  intro r ls h
  by_cases hp:0<r.size
  ·by_cases h0:r[0].toNat=0
   ·by_cases h1:r.size=1
    ·rw [wI f r hp h0 h1] at h;simp at h;subst h;simp [dP];omega
    rw [xU f r hp h0 h1] at h;simp at h
   by_cases h1:63<r[0].toNat∨r.size<r[0].toNat+1
   ·rw [AQ f r hp h0 h1] at h;simp at h
   rw [qR f r hp h0 (by omega) (by omega)] at h
   cases e:iW f (r.extract (r[0].toNat+1) r.size) with
   |none=>rw [e] at h;simp at h
   |some t=>
    rw [e] at h;simp at h;have:=ih _ _ e;rw [<- h];simp at this;simp [dP];omega
  rw [rQ _ r (by omega)] at h;simp at h
theorem gW{s:ByteArray}{ls:List ByteArray}(h:split s=some ls):dP ls+1=s.size∧s.size<=255:=by
 by_cases hl:s.size<=255
 ·rw [qU s hl] at h;exact⟨Jt _ _ _ h,hl⟩
 rw [AR s (by omega)] at h;simp at h
end Go.Proofs.YthdpacepbbcocaaGreat.Nm
namespace Go.Proofs.YthdpacepbbcocaaGreat
open Go.RowKit
def bS(w:World)(v:Value)(n s:Nat)(cs:List Value):Prop:=
 cs.length=n*s∧∃ a cap,v=.slice a n cap∧n<=cap∧cap<=maxLen∧
  (0<n->∃ b off,a=some ⟨b,off,none⟩∧∀ (i:Nat) (x:Value),cs[i]? =some x->w.cell? ⟨b,off+i,none⟩=some x)
theorem bS.aS{w:World}{B e s n:Nat}{v:Value}{cs:List Value}(h:w.ownsRow B e s v n cs):bS w v n s cs:=by
 refine⟨h.1,?_⟩
 rcases h.2 with⟨rfl,h0⟩|⟨g,cap,cur,rfl,hb,hg,hn,hm,hs,ht⟩
 ·subst h0;exact⟨none,0,rfl,Nat.le_refl _,by decide,fun h=>by omega⟩
 refine⟨_,cap,rfl,hn,hm,fun _=>⟨g,0,rfl,?_⟩⟩;intro i x hx;have hi:i<n*s:=by rw [<- h.1];exact(List.getElem?_eq_some_iff.1 hx).1
 rw [Nat.zero_add,h.cellAt i hi];exact hx
theorem bS.below{w w':World}{v:Value}{n s:Nat}{cs:List Value}(h:bS w v n s cs)(hb:Below w.heap.size w w'):bS w' v n s cs:=by
 obtain⟨h0,a,cap,rfl,h1,h2,h3⟩:=h;refine⟨h0,a,cap,rfl,h1,h2,fun hp=>?_⟩;obtain⟨b,off,rfl,hc⟩:=h3 hp;refine⟨b,off,rfl,fun i x hx=>?_⟩;have:=hc i x hx;rw [hb.cell (World.block_lt_of_cell? w _ this)];exact this
structure Rr where
 own:ByteArray
 ty:Int
 cl:Int
 tt:Int
 da:ByteArray
def Ju(r:Rr):List Value:=[.string r.own,.int .i64 r.ty,.int .i64 r.cl,.int .i64 r.tt,.string r.da]
def bK(xs:List Rr):List Value:=xs.flatMap Ju
theorem OP(x:Rr)(xs:List Rr):bK (x::xs)=Ju x++bK xs:=by simp [bK]
theorem jX(a b:List Rr):bK (a++b)=bK a++bK b:=by simp [bK]
theorem pU(xs:List Rr):(bK xs).length=xs.length*5:=by
 induction xs with
 |nil=>rfl
 |cons x xs ih=>
  have:(Ju x).length=5:=rfl;rw [OP,List.length_append,ih,List.length_cons,this];omega
theorem LH:∀ (xs:List Rr) (k j:Nat) (x:Rr),xs[k]? =some x->j<5->(bK xs)[k*5+j]? =(Ju x)[j]? :=by
 intro xs
 induction xs with
 |nil=>intro k j x h;simp at h
 |cons y xs ih=>
  intro k j x h hj;have hl:(Ju y).length=5:=rfl
  cases k with
  |zero=>
   simp at h;subst h
   rw [OP,Nat.zero_mul,Nat.zero_add,List.getElem?_append_left (by omega)]
  |succ k=>
   simp at h;rw [OP,List.getElem?_append_right (by omega),hl,show(k+1)*5+j-5=k*5+j by omega];exact ih k j x h hj
theorem gT{w:World}{xs:List Rr}{b off k:Nat}{x:Rr}(hc:∀ (i:Nat) (y:Value),(bK xs)[i]? =some y->w.cell? ⟨b,off+i,none⟩=some y)(h:xs[k]? =some x):
 w.cell? ⟨b,off+k*5,none⟩=some (.string x.own)∧w.cell? ⟨b,off+k*5+1,none⟩=some (.int .i64 x.ty)∧w.cell? ⟨b,off+k*5+2,none⟩=some (.int .i64 x.cl)∧w.cell? ⟨b,off+k*5+3,none⟩=some (.int .i64 x.tt)∧w.cell? ⟨b,off+k*5+4,none⟩=some (.string x.da):=
 ⟨hc (k*5) _ ((LH xs k 0 x h (by decide)).trans rfl),hc (k*5+1) _ ((LH xs k 1 x h (by decide)).trans rfl),hc (k*5+2) _ ((LH xs k 2 x h (by decide)).trans rfl),hc (k*5+3) _ ((LH xs k 3 x h (by decide)).trans rfl),hc (k*5+4) _ ((LH xs k 4 x h (by decide)).trans rfl)⟩
theorem zG{w w1 w2:World}{g:Nat}(h:w.grownBy w1 (some g))(h2:w1.grownBy w2 (some g)):w.grownBy w2 (some g):=
 ⟨h2.os.trans h.os,h2.tape.trans h.tape,h2.output.trans h.output,Nat.le_trans h.size h2.size,fun k hk dQ=>(h2.block k (Nat.lt_of_lt_of_le hk h.size) dQ).trans (h.block k hk dQ)⟩
theorem aBj{w w1 w2:World}{g:Nat}(h:w.grownBy w1 (some g))(h2:Below w1.heap.size w1 w2):w.grownBy w2 (some g):=
 ⟨h2.os.trans h.os,h2.tape.trans h.tape,h2.output.trans h.output,Nat.le_trans h.size h2.size,fun k hk dQ=>
  (h2.block k (Nat.lt_of_lt_of_le hk h.size)).trans (h.block k hk dQ)⟩
def bG(w:World)(b:Nat)(cs:Array Value)(T:TypeId):Prop:=w.heap[b]? =some (.cells cs T (0,0))
theorem bU{w:World}{b:Nat}{cs:Array Value}{T:TypeId}(h:bG w b cs T):b<w.heap.size:=(Array.getElem?_eq_some_iff.1 h).1
theorem aP{w w1:World}{b:Nat}{cs:Array Value}{T:TypeId}{row:Option Nat}(h:bG w b cs T)(hg:w.grownBy w1 row)(hr:row≠some b):bG w1 b cs T:=by
 unfold bG;rw [hg.block b (bU h) (fun e=>hr e.symm)];exact h
theorem aB{w w1:World}{b:Nat}{cs:Array Value}{T:TypeId}(h:bG w b cs T)(hb:Below w.heap.size w w1):bG w1 b cs T:=by
 unfold bG;rw [hb.block b (bU h)];exact h
theorem aH(w:World)(cs:Array Value)(T:TypeId):bG (w.alloc (.cells cs T)) w.heap.size cs T:=by
 unfold bG;show(w.heap.push _)[w.heap.size]? =_;simp
theorem aR{w:World}{b:Nat}{cs:Array Value}{T:TypeId}(h:bG w b cs T)(o:Obj):bG (w.alloc o) b cs T:=
 aB h ((Below.refl _ _).alloc (Nat.le_refl _) o)
theorem aA{w:World}{b:Nat}{cs:Array Value}{T:TypeId}(h:bG w b cs T)(i:Nat):w.cell? ⟨b,i,none⟩=cs[i]? :=cell_of_row _ _ _ _ _ _ h
theorem aG{w:World}{b:Nat}{cs:Array Value}{T:TypeId}(h:bG w b cs T)(i:Nat):w.frozen? ⟨b,i,none⟩=false:=frozen_of_row w b i _ _ h
theorem aI{w:World}{b:Nat}{cs:Array Value}{T:TypeId}(h:bG w b cs T)(i:Nat)(v:Value):bG (w.setCell ⟨b,i,none⟩ v) b (cs.setIfInBounds i v) T:=heap_setCell_same w b i _ _ v h
theorem aW{w:World}{b c i:Nat}{cs:Array Value}{T:TypeId}{v:Value}(h:bG w b cs T)(dQ:b≠c):bG (w.setCell ⟨c,i,none⟩ v) b cs T:=by
 unfold bG;rw [heap_setCell_other w ⟨c,i,none⟩ b _ (by simpa using dQ)];exact h
def cO(w:World)(b i:Nat):List Value->World
 |[]=>w
 |v::vs=>cO (w.setCell ⟨b,i,none⟩ v) b (i+1) vs
theorem Jv{b:Nat}{T:TypeId}:∀ (vs old pre:List Value) (w:World),bG w b (pre++old).toArray T->old.length=vs.length->bG (cO w b pre.length vs) b (pre++vs).toArray T:=by
 intro vs
 induction vs with
 |nil=>
  intro old pre w h hl;have:old=[]:=List.length_eq_zero_iff.1 hl;subst this
  exact h
 |cons v vs ih=>
  intro old pre w h hl
  cases old with
  |nil=>simp at hl
  |cons x old=>
   have h2:=aI h pre.length v;have e:(pre++x::old).toArray.setIfInBounds pre.length v=((pre++[v])++old).toArray:=by simp
   rw [e] at h2;have h3:=ih old (pre++[v]) _ h2 (by simpa using hl);rw [List.length_append] at h3;simpa [cO] using h3
theorem dJ{b:Nat}{T:TypeId}{old:Array Value}(vs:List Value){w:World}(h:bG w b old T)(hl:old.size=vs.length):bG (cO w b 0 vs) b vs.toArray T:=by
 have:=Jv vs old.toList [] w (by simpa using h) (by simpa using hl);simpa using this
theorem sW{b c:Nat}{T:TypeId}{cs:Array Value}(dQ:b≠c):∀ (vs:List Value) (i:Nat) (w:World),bG w b cs T->bG (cO w c i vs) b cs T:=by
 intro vs
 induction vs with
 |nil=>intro i w h;exact h
 |cons v vs ih=>intro i w h;exact ih (i+1) _ (aW h dQ)
theorem dS{w:World}{b:Nat}{cs:Array Value}{T:TypeId}(h:bG w b cs T):bG w.drew b cs T:=h
theorem aT{w:World}{B e s n:Nat}{v:Value}{xs:List Value}(h:w.ownsRow B e s v n xs):∃ a cap,v=.slice a n cap:=by
 rcases h.2 with⟨rfl,rfl⟩|⟨g,cap,cur,rfl,_⟩
 ·exact⟨_,_,rfl⟩
 exact⟨_,_,rfl⟩
theorem eU{W:World}{B e s n g i:Nat}{v y:Value}{xs:List Value}(h:W.ownsRow B e s v n xs)(hg:v.ownBlock≠some g):(W.setCell ⟨g,i,none⟩ y).ownsRow B e s v n xs:=by
 refine⟨h.1,?_⟩
 rcases h.2 with h0|⟨g',cap,cur,rfl,hb,hh,r⟩
 ·exact .inl h0
 refine .inr ⟨g',cap,cur,rfl,hb,?_,r⟩;rw [heap_setCell_other W ⟨g,i,none⟩ g' _ (fun e=>hg (by simp [Value.ownBlock,e]))];exact hh
theorem nL{W:World}{B e s n g i:Nat}{v y:Value}{xs:List Value}(h:W.ownsRow B e s v n xs)(hg:g<B):(W.setCell ⟨g,i,none⟩ y).ownsRow B e s v n xs:=by
 refine eU h fun e=>?_;have:=(h.lt g e).1;omega
theorem aMf{W:World}{B e s n B' e' s' m g cap:Nat}{v:Value}{xs ys:List Value}(h:W.ownsRow B e s v n xs)(h':W.ownsRow B' e' s' (.slice (some ⟨g,0,none⟩) m cap) m ys)(dQ:e≠e'):v.ownBlock≠some g:=by
 intro he
 rcases h'.2 with⟨h0,_⟩|⟨g',cap',cur',e1,_,hh',_⟩
 ·cases h0
 cases e1
 rcases h.2 with⟨rfl,_⟩|⟨g2,aMg,aOn,rfl,_,hh,_⟩
 ·cases he
 simp only [Value.ownBlock,Option.some.injEq] at he;subst he;rw [hh] at hh';simp only [Option.some.injEq,Obj.cells.injEq] at hh';exact dQ hh'.2.1
def aI0:List ByteArray->Nat
 |[]=>0
 |l::r=>l.size+aI0 r
open Go
section
variable {P:Program}{ops:Array Oper}{Q:Exit->Act->World->Prop}{md:Region.Mode}{S:World->Prop}{L:Nat}
def wpAnyL(P:Program)(md:Region.Mode)(ops:Array Oper)(Q:Exit->Act->World->Prop)(S:World->Prop)(L:Nat):Nat->Array Bool->Act->World->Prop
 |0,listed,a,w=>Region.ready md ops listed=[]∧Q .normal a w
 |fuel+1,listed,a,w=>
  (Region.ready md ops listed=[]->Q .normal a w)∧
  ∀ i∈Region.ready md ops listed,wpOp P ops Q i (fun a' w'=>(i=L∨S w')∧wpAnyL P md ops Q S L fuel (listed.setIfInBounds i true) a' w') a w
theorem JA:∀ (fuel:Nat) (listed:Array Bool) (a:Act) (w:World),wpAnyL P md ops Q S L fuel listed a w->wpAny P md ops Q fuel listed a w
 |0,_,_,_,h=>h
 |fuel+1,_,_,_,h=>⟨h.1,fun i hi=>wpOp_mono (fun a' w' h'=>JA fuel _ a' w' h'.2) (h.2 i hi)⟩
def waitsFor(md:Region.Mode)(ops:Array Oper)(L i:Nat):Bool:=match ops[L]? with
 |some o=>o.after.any (fun e=>Region.binds md e&&e.on==i)
 |none=>true
theorem JQ{listed:Array Bool}{i j:Nat}{oj:Oper}(hi:i∈Region.ready md ops listed)(hj:j∈Region.ready md ops listed)(ho:ops[j]? =some oj):∀ e∈oj.after,Region.binds md e=true->e.on≠i:=by
 rintro e he hb rfl;obtain⟨_,o,ho2,pJ⟩:=mem_ready.1 hj;obtain rfl:oj=o:=Option.some.inj (ho.symm.trans ho2);have h1:=pJ e he hb;have h0:=(mem_ready.1 hi).1;rw [Array.getD_eq_getD_getElem?] at h0 h1
 cases hx:listed[e.on]? with
 |none=>rw [hx] at h1;cases h1
 |some b=>rw [hx] at h0 h1;simp only [Option.getD_some] at h0 h1;rw [h0] at h1;cases h1
theorem UU{listed:Array Bool}{i j:Nat}(hL:waitsFor md ops L i=true)(hi:i∈Region.ready md ops listed)(hj:j∈Region.ready md ops listed):j≠L:=by
 rintro rfl;obtain⟨_,o,ho,_⟩:=mem_ready.1 hj;rw [waitsFor,ho] at hL;simp only [Array.any_eq_true',Bool.and_eq_true,beq_iff_eq] at hL;obtain⟨e,he,hb,h⟩:=hL;exact JQ hi hj ho e he hb h
def zH(md:Region.Mode)(ops:Array Oper)(oi:Oper)(i:Nat)(listed:Array Bool):Prop:=∀ j oj,ops[j]? =some oj->j≠i->listed.getD j true=false->(∀ e∈oj.after,Region.binds md e=true->e.on≠i)->oi.apart ops oj=true
theorem zH.more{oi:Oper}{i j:Nat}{listed:Array Bool}(h:zH md ops oi i listed)(hj:listed.getD j true=false):zH md ops oi i (listed.setIfInBounds j true):=by
 intro k ok hk hki hun;refine h k ok hk hki ?_
 rcases Nat.decEq j k with dQ|rfl
 ·rw [getD_set_ne true dQ] at hun;exact hun
 exact hj
theorem wpAnyL_first{i:Nat}{oi:Oper}{v:Value}(hi:ops[i]? =some oi)(aEq:∀ (j:Nat) (o:Oper) cs b,ops[j]? =some o->o.op≠ .select cs b)
 (hQ:∀ c a w,Q (.panic c) (a.put oi.dst v) w->Q (.panic c) a w) (hL:waitsFor md ops L i=true) (fuel:Nat):
 ∀ (listed:Array Bool) (a:Act) (w:World),zH md ops oi i listed->i∈Region.ready md ops listed->YieldsIf P ops S oi v a->S w->
   wpAnyL P md ops Q S L fuel (listed.setIfInBounds i true) (a.put oi.dst v) w->wpAnyL P md ops Q S L (fuel+1) listed a w:=by
 induction fuel with
 |zero=>
  intro listed a w _ hr hy hS H;refine⟨fun h=>absurd (h▸hr) (by simp),fun j hj=>?_⟩
  rcases Nat.decEq j i with dQ|rfl
  ·exact absurd (H.1▸ready_mono hj dQ) (by simp)
  exact hy.wpOp hi hS ⟨.inr hS,H⟩
 |succ fuel ih=>
  intro listed a w hun hr hy hS H;refine⟨fun h=>absurd (h▸hr) (by simp),fun j hj=>?_⟩
  rcases Nat.decEq j i with dQ|rfl
  ·obtain⟨hju,oj,hoj,_⟩:=mem_ready.1 hj;have xV:=wpOp_putIf hoj (hun j oj hoj dQ hju (JQ hr hj hoj)) (fun cs b=>aEq i oi cs b hi) (fun cs b=>aEq j oj cs b hoj) hQ hy (H.2 j (ready_mono hj dQ));refine wpOp_mono (fun a' w' ⟨hy',Tg,hW⟩=>?_) xV;have vH:=Tg.resolve_left (UU hL hr hj);exact⟨.inr vH,ih _ a' w' (hun.more hju) (ready_mono hr (Ne.symm dQ)) hy' vH (by rw [Array.setIfInBounds_comm _ _ dQ];exact hW)⟩
  exact hy.wpOp hi hS ⟨.inr hS,H⟩
theorem jK{i:Nat}{oi:Oper}{v:Value}{fuel:Nat}{listed:Array Bool}{a:Act}{w:World}(hi:ops[i]? =some oi)
 (hs:Region.noSelect ops=true) (hf:Region.free md ops listed i=true) (hr:(Region.ready md ops listed).contains i=true) (hL:waitsFor md ops L i=true)
 (hQ:∀ c a w,Q (.panic c) (a.put oi.dst v) w->Q (.panic c) a w) (hy:YieldsIf P ops S oi v a) (hS:S w)
 (h:wpAnyL P md ops Q S L fuel (listed.setIfInBounds i true) (a.put oi.dst v) w):wpAnyL P md ops Q S L (fuel+1) listed a w:=
 wpAnyL_first hi (Region.noSelect_spec hs) hQ hL fuel listed a w (Region.free_spec hi hf) (by simpa using hr) hy hS h
theorem tkL{i:Nat}{oi:Oper}{v:Value}{fuel:Nat}{listed:Array Bool}{a:Act}{w:World}(hi:ops[i]? =some oi)
 (hy:∀ w,S w->(execOp a.eval oi).run P w=.ok (.value v) w) (h:wpAnyL P md ops Q S L fuel (listed.setIfInBounds i true) (a.put oi.dst v) w)
 (hs:Region.noSelect ops=true:=by kernel_rfl) (hf:Region.free md ops listed i=true:=by kernel_rfl) (hr:(Region.ready md ops listed).contains i=true:=by kernel_rfl) (hL:waitsFor md ops L i=true:=by kernel_rfl)
 (hQ:∀ c a w,Q (.panic c) (a.put oi.dst v) w->Q (.panic c) a w:=by exact fun _ _ _ h=>h) (hw:Region.wanted oi (yielded ops a.tmps)=true:=by rfl) (hS:S w:=by assumption):wpAnyL P md ops Q S L (fuel+1) listed a w:=
 jK hi hs hf hr hL hQ (Or.inl ⟨hw,hy⟩) hS h
theorem Ti{i:Nat}{o:Oper}{fuel:Nat}{listed:Array Bool}{a:Act}{w:World}(hr:Region.ready md ops listed=[i])(ho:ops[i]? =some o)
 (h:∀ K':Act->World->Prop,Shut (∀ a w,S w->(S w->wpAnyL P md ops Q S L fuel (listed.setIfInBounds i true) a w)->K' a w)->if Region.wanted o (yielded ops a.tmps)=true then Oper.wp P o a w K' Q else K' (a.put o.dst undef) w):
 wpAnyL P md ops Q S L (fuel+1) listed a w:=by
 refine⟨fun h0=>(by rw [hr] at h0;cases h0),fun j hj=>?_⟩;rw [hr] at hj;obtain rfl:j=i:=by simpa using hj
 exact wpOp_step ho (fun K' hK=>h K' (fun a w hS hW=>hK a w ⟨.inr hS,hW hS⟩))
theorem jN{o:Oper}{fuel:Nat}{listed:Array Bool}{a:Act}{w:World}(hr:Region.ready md ops listed=[L])(ho:ops[L]? =some o)(he:Region.ready md ops (listed.setIfInBounds L true)=[])
 (h:∀ K':Act->World->Prop,Shut (∀ a w,Q .normal a w->K' a w)->if Region.wanted o (yielded ops a.tmps)=true then Oper.wp P o a w K' Q else K' (a.put o.dst undef) w):
 wpAnyL P md ops Q S L (fuel+1) listed a w:=by
 refine⟨fun h0=>(by rw [hr] at h0;cases h0),fun j hj=>?_⟩;rw [hr] at hj;obtain rfl:j=L:=by simpa using hj
 refine wpOp_step ho (fun K' hK=>h K' (fun a w hq=>hK a w ⟨.inl rfl,?_⟩))
 cases fuel with
 |zero=>exact⟨he,hq⟩
 |succ n=>exact⟨fun _=>hq,by rw [he];intro i hi;cases hi⟩
theorem UV{id:Nat}{a:Act}{w:World}(S:World->Prop)(L:Nat)(hm:P.follows .mixedOrders=true)(hS:S w.drew)
 (h:S w.drew->wpAnyL P .any ops Q S L ops.size (Array.replicate ops.size false) a w.drew):(Code.region id ops true).wp P Q a w:=
 wp_region_any hm (JA _ _ _ _ (h hS))
end
section
variable {P:Program}{ops:Array Oper}{Q:Exit->Act->World->Prop}{md:Region.Mode}{S:World->Prop}{L:Nat}
theorem Jw{fuel:Nat}{listed:Array Bool}{a:Act}{w:World}(hr:Region.ready md ops listed=[])(hq:Q .normal a w):wpAnyL P md ops Q S L fuel listed a w:=by
 cases fuel with
 |zero=>exact⟨hr,hq⟩
 |succ n=>exact⟨fun _=>hq,by rw [hr];intro i hi;cases hi⟩
theorem Tj{i j:Nat}{o o':Oper}{fuel:Nat}{listed:Array Bool}{a:Act}{w:World}(hr:Region.ready md ops listed=[i,j])(ho:ops[i]? =some o)(CW:ops[j]? =some o')
 (h:∀ K':Act->World->Prop,Shut (∀ a w,S w->(S w->wpAnyL P md ops Q S L fuel (listed.setIfInBounds i true) a w)->K' a w)->if Region.wanted o (yielded ops a.tmps)=true then Oper.wp P o a w K' Q else K' (a.put o.dst undef) w)
 (h':∀ K':Act->World->Prop,Shut (∀ a w,S w->(S w->wpAnyL P md ops Q S L fuel (listed.setIfInBounds j true) a w)->K' a w)->if Region.wanted o' (yielded ops a.tmps)=true then Oper.wp P o' a w K' Q else K' (a.put o'.dst undef) w):
 wpAnyL P md ops Q S L (fuel+1) listed a w:=by
 refine⟨fun h0=>(by rw [hr] at h0;cases h0),fun k hk=>?_⟩;rw [hr] at hk
 rcases(show k=i∨k=j by simpa using hk) with rfl|rfl
 ·exact wpOp_step ho (fun K' hK=>h K' (fun a w hS hW=>hK a w ⟨.inr hS,hW hS⟩))
 exact wpOp_step CW (fun K' hK=>h' K' (fun a w hS hW=>hK a w ⟨.inr hS,hW hS⟩))
end
section
variable {P:Program}{ops:Array Oper}{Q:Exit->Act->World->Prop}{md:Region.Mode}{S:World->Prop}{L:Nat}
theorem kO(i:Nat){oi:Oper}{v:Value}{fuel:Nat}{listed:Array Bool}{a:Act}{w:World}(hi:ops[i]? =some oi)
 (h:wpAnyL P md ops Q S L fuel (listed.setIfInBounds i true) (a.put oi.dst v) w) (hy:∀ w,S w->(execOp a.eval oi).run P w=.ok (.value v) w:=by intro W pE;have Sc:=(fun i=>aA pE i);go_simp;try (with_reducible rfl))
 (hs:Region.noSelect ops=true:=by kernel_rfl) (hf:Region.free md ops listed i=true:=by kernel_rfl) (hr:(Region.ready md ops listed).contains i=true:=by kernel_rfl) (hL:waitsFor md ops L i=true:=by kernel_rfl)
 (hQ:∀ c a w,Q (.panic c) (a.put oi.dst v) w->Q (.panic c) a w:=by exact fun _ _ _ h=>h) (hw:Region.wanted oi (yielded ops a.tmps)=true:=by kernel_rfl) (hS:S w:=by assumption):wpAnyL P md ops Q S L (fuel+1) listed a w:=
 tkL hi hy h hs hf hr hL hQ hw hS
theorem kP(i:Nat){oi:Oper}{v:Value}{fuel:Nat}{listed:Array Bool}{a:Act}{w:World}(hi:ops[i]? =some oi)
 (h:wpAnyL P md ops Q S L fuel (listed.setIfInBounds i true) (a.put oi.dst v) w) (hy:∀ w,S w->(execOp a.eval oi).run P w=.ok (.value v) w:=by intro W pE;obtain⟨s1,s2⟩:=pE;have Sc:=(fun i=>aA s1 i);have OQ:=(fun i=>aA s2 i);go_simp;try (with_reducible rfl))
 (hs:Region.noSelect ops=true:=by kernel_rfl) (hf:Region.free md ops listed i=true:=by kernel_rfl) (hr:(Region.ready md ops listed).contains i=true:=by kernel_rfl) (hL:waitsFor md ops L i=true:=by kernel_rfl)
 (hQ:∀ c a w,Q (.panic c) (a.put oi.dst v) w->Q (.panic c) a w:=by exact fun _ _ _ h=>h) (hw:Region.wanted oi (yielded ops a.tmps)=true:=by kernel_rfl) (hS:S w:=by assumption):wpAnyL P md ops Q S L (fuel+1) listed a w:=
 tkL hi hy h hs hf hr hL hQ hw hS
theorem kQ(i:Nat){oi:Oper}{v:Value}{fuel:Nat}{listed:Array Bool}{a:Act}{w:World}(hi:ops[i]? =some oi)
 (h:wpAnyL P md ops Q S L fuel (listed.setIfInBounds i true) (a.put oi.dst v) w) (hy:∀ w,S w->(execOp a.eval oi).run P w=.ok (.value v) w:=by intro W pE;obtain⟨s1,s2,s3⟩:=pE;have Sc:=(fun i=>aA s1 i);have OQ:=(fun i=>aA s2 i);go_simp;try (with_reducible rfl))
 (hs:Region.noSelect ops=true:=by kernel_rfl) (hf:Region.free md ops listed i=true:=by kernel_rfl) (hr:(Region.ready md ops listed).contains i=true:=by kernel_rfl) (hL:waitsFor md ops L i=true:=by kernel_rfl)
 (hQ:∀ c a w,Q (.panic c) (a.put oi.dst v) w->Q (.panic c) a w:=by exact fun _ _ _ h=>h) (hw:Region.wanted oi (yielded ops a.tmps)=true:=by kernel_rfl) (hS:S w:=by assumption):wpAnyL P md ops Q S L (fuel+1) listed a w:=
 tkL hi hy h hs hf hr hL hQ hw hS
theorem kB(i:Nat){oi:Oper}{v:Value}{fuel:Nat}{listed:Array Bool}{a:Act}{w:World}(hi:ops[i]? =some oi)
 (h:wpAnyL P md ops Q S L fuel (listed.setIfInBounds i true) (a.put oi.dst v) w) (hy:∀ w,S w->(execOp a.eval oi).run P w=.ok (.value v) w:=by intro W pE;(repeat obtain⟨_,pE⟩:_∧_:=pE);go_simp;try (with_reducible rfl))
 (hs:Region.noSelect ops=true:=by kernel_rfl) (hf:Region.free md ops listed i=true:=by kernel_rfl) (hr:(Region.ready md ops listed).contains i=true:=by kernel_rfl) (hL:waitsFor md ops L i=true:=by kernel_rfl)
 (hQ:∀ c a w,Q (.panic c) (a.put oi.dst v) w->Q (.panic c) a w:=by exact fun _ _ _ h=>h) (hw:Region.wanted oi (yielded ops a.tmps)=true:=by kernel_rfl) (hS:S w:=by assumption):wpAnyL P md ops Q S L (fuel+1) listed a w:=
 tkL hi hy h hs hf hr hL hQ hw hS
theorem kS(i:Nat){oi:Oper}{fuel:Nat}{listed:Array Bool}{a:Act}{w:World}(hi:ops[i]? =some oi)
 (h:wpAnyL P md ops Q S L fuel (listed.setIfInBounds i true) (a.put oi.dst undef) w)
 (hs:Region.noSelect ops=true:=by kernel_rfl) (hf:Region.free md ops listed i=true:=by kernel_rfl) (hr:(Region.ready md ops listed).contains i=true:=by kernel_rfl) (hL:waitsFor md ops L i=true:=by kernel_rfl)
 (hQ:∀ c a w,Q (.panic c) (a.put oi.dst undef) w->Q (.panic c) a w:=by exact fun _ _ _ h=>h) (hw:Region.wanted oi (yielded ops a.tmps)=false:=by kernel_rfl) (hS:S w:=by assumption):wpAnyL P md ops Q S L (fuel+1) listed a w:=
 jK hi hs hf hr hL hQ (Or.inr ⟨hw,rfl⟩) hS h
theorem kN{listed:Array Bool}{a:Act}{w:World}{fuel:Nat}(hq:Q .normal a w)(hr:Region.ready md ops listed=[]:=by kernel_rfl):wpAnyL P md ops Q S L fuel listed a w:=Jw hr hq
theorem k1(i:Nat){o:Oper}{fuel:Nat}{listed:Array Bool}{a:Act}{w:World}(ho:ops[i]? =some o)
 (h:∀ K':Act->World->Prop,Shut (∀ a w,S w->(S w->wpAnyL P md ops Q S L fuel (listed.setIfInBounds i true) a w)->K' a w)->if Region.wanted o (yielded ops a.tmps)=true then Oper.wp P o a w K' Q else K' (a.put o.dst undef) w)
 (hr:Region.ready md ops listed=[i]:=by kernel_rfl):wpAnyL P md ops Q S L (fuel+1) listed a w:=Ti hr ho h
theorem k2(i j:Nat){o o':Oper}{fuel:Nat}{listed:Array Bool}{a:Act}{w:World}(ho:ops[i]? =some o)(CW:ops[j]? =some o')
 (h:∀ K':Act->World->Prop,Shut (∀ a w,S w->(S w->wpAnyL P md ops Q S L fuel (listed.setIfInBounds i true) a w)->K' a w)->if Region.wanted o (yielded ops a.tmps)=true then Oper.wp P o a w K' Q else K' (a.put o.dst undef) w)
 (h':∀ K':Act->World->Prop,Shut (∀ a w,S w->(S w->wpAnyL P md ops Q S L fuel (listed.setIfInBounds j true) a w)->K' a w)->if Region.wanted o' (yielded ops a.tmps)=true then Oper.wp P o' a w K' Q else K' (a.put o'.dst undef) w)
 (hr:Region.ready md ops listed=[i,j]:=by kernel_rfl):wpAnyL P md ops Q S L (fuel+1) listed a w:=Tj hr ho CW h h'
theorem kR{id:Nat}{a:Act}{w:World}(S:World->Prop)(L:Nat)(hS:S w.drew)
 (h:S w.drew->wpAnyL P .any ops Q S L ops.size (Array.replicate ops.size false) a w.drew) (hm:P.follows .mixedOrders=true:=by kernel_rfl):(Code.region id ops true).wp P Q a w:=UV S L hm hS h
end
section
variable {P:Program}{ops:Array Oper}{Q:Exit->Act->World->Prop}{md:Region.Mode}{S:World->Prop}{Ls:List Nat}
def wpAnyS(P:Program)(md:Region.Mode)(ops:Array Oper)(Q:Exit->Act->World->Prop)(S:World->Prop)(Ls:List Nat):Nat->Array Bool->Act->World->Prop
 |0,listed,a,w=>Region.ready md ops listed=[]∧Q .normal a w
 |fuel+1,listed,a,w=>
  (Region.ready md ops listed=[]->Q .normal a w)∧
  ∀ i∈Region.ready md ops listed,wpOp P ops Q i (fun a' w'=>(i∈Ls∨S w')∧wpAnyS P md ops Q S Ls fuel (listed.setIfInBounds i true) a' w') a w
theorem UW:∀ (fuel:Nat) (listed:Array Bool) (a:Act) (w:World),wpAnyS P md ops Q S Ls fuel listed a w->wpAny P md ops Q fuel listed a w
 |0,_,_,_,h=>h
 |fuel+1,_,_,_,h=>⟨h.1,fun i hi=>wpOp_mono (fun a' w' h'=>UW fuel _ a' w' h'.2) (h.2 i hi)⟩
theorem Tk{listed:Array Bool}{i j:Nat}(hL:Ls.all (fun L=>waitsFor md ops L i)=true)(hi:i∈Region.ready md ops listed)(hj:j∈Region.ready md ops listed):j∉Ls:=fun h=>UU (List.all_eq_true.1 hL j h) hi hj rfl
theorem wpAnyS_first{i:Nat}{oi:Oper}{v:Value}(hi:ops[i]? =some oi)(aEq:∀ (j:Nat) (o:Oper) cs b,ops[j]? =some o->o.op≠ .select cs b)
 (hQ:∀ c a w,Q (.panic c) (a.put oi.dst v) w->Q (.panic c) a w) (hL:Ls.all (fun L=>waitsFor md ops L i)=true) (fuel:Nat):
 ∀ (listed:Array Bool) (a:Act) (w:World),zH md ops oi i listed->i∈Region.ready md ops listed->YieldsIf P ops S oi v a->S w->
   wpAnyS P md ops Q S Ls fuel (listed.setIfInBounds i true) (a.put oi.dst v) w->wpAnyS P md ops Q S Ls (fuel+1) listed a w:=by
 induction fuel with
 |zero=>
  intro listed a w _ hr hy hS H;refine⟨fun h=>absurd (h▸hr) (by simp),fun j hj=>?_⟩
  rcases Nat.decEq j i with dQ|rfl
  ·exact absurd (H.1▸ready_mono hj dQ) (by simp)
  exact hy.wpOp hi hS ⟨.inr hS,H⟩
 |succ fuel ih=>
  intro listed a w hun hr hy hS H;refine⟨fun h=>absurd (h▸hr) (by simp),fun j hj=>?_⟩
  rcases Nat.decEq j i with dQ|rfl
  ·obtain⟨hju,oj,hoj,_⟩:=mem_ready.1 hj;have xV:=wpOp_putIf hoj (hun j oj hoj dQ hju (JQ hr hj hoj)) (fun cs b=>aEq i oi cs b hi) (fun cs b=>aEq j oj cs b hoj) hQ hy (H.2 j (ready_mono hj dQ));refine wpOp_mono (fun a' w' ⟨hy',Tg,hW⟩=>?_) xV;have vH:=Tg.resolve_left (Tk hL hr hj);exact⟨.inr vH,ih _ a' w' (hun.more hju) (ready_mono hr (Ne.symm dQ)) hy' vH (by rw [Array.setIfInBounds_comm _ _ dQ];exact hW)⟩
  exact hy.wpOp hi hS ⟨.inr hS,H⟩
theorem cK{i:Nat}{oi:Oper}{v:Value}{fuel:Nat}{listed:Array Bool}{a:Act}{w:World}(hi:ops[i]? =some oi)
 (hs:Region.noSelect ops=true) (hf:Region.free md ops listed i=true) (hr:(Region.ready md ops listed).contains i=true) (hL:Ls.all (fun L=>waitsFor md ops L i)=true)
 (hQ:∀ c a w,Q (.panic c) (a.put oi.dst v) w->Q (.panic c) a w) (hy:YieldsIf P ops S oi v a) (hS:S w)
 (h:wpAnyS P md ops Q S Ls fuel (listed.setIfInBounds i true) (a.put oi.dst v) w):wpAnyS P md ops Q S Ls (fuel+1) listed a w:=
 wpAnyS_first hi (Region.noSelect_spec hs) hQ hL fuel listed a w (Region.free_spec hi hf) (by simpa using hr) hy hS h
theorem JR{i:Nat}{o:Oper}{fuel:Nat}{listed:Array Bool}{a:Act}{w:World}(hr:Region.ready md ops listed=[i])(ho:ops[i]? =some o)
 (h:∀ K':Act->World->Prop,Shut (∀ a w,S w->(S w->wpAnyS P md ops Q S Ls fuel (listed.setIfInBounds i true) a w)->K' a w)->if Region.wanted o (yielded ops a.tmps)=true then Oper.wp P o a w K' Q else K' (a.put o.dst undef) w):
 wpAnyS P md ops Q S Ls (fuel+1) listed a w:=by
 refine⟨fun h0=>(by rw [hr] at h0;cases h0),fun j hj=>?_⟩;rw [hr] at hj;obtain rfl:j=i:=by simpa using hj
 exact wpOp_step ho (fun K' hK=>h K' (fun a w hS hW=>hK a w ⟨.inr hS,hW hS⟩))
theorem QM{i:Nat}{o:Oper}{fuel:Nat}{listed:Array Bool}{a:Act}{w:World}(hr:Region.ready md ops listed=[i])(ho:ops[i]? =some o)(hl:Ls.contains i=true)
 (h:∀ K':Act->World->Prop,Shut (∀ a w,wpAnyS P md ops Q S Ls fuel (listed.setIfInBounds i true) a w->K' a w)->if Region.wanted o (yielded ops a.tmps)=true then Oper.wp P o a w K' Q else K' (a.put o.dst undef) w):
 wpAnyS P md ops Q S Ls (fuel+1) listed a w:=by
 refine⟨fun h0=>(by rw [hr] at h0;cases h0),fun j hj=>?_⟩;rw [hr] at hj;obtain rfl:j=i:=by simpa using hj
 exact wpOp_step ho (fun K' hK=>h K' (fun a w hW=>hK a w ⟨.inl (by simpa using hl),hW⟩))
theorem ED{fuel:Nat}{listed:Array Bool}{a:Act}{w:World}(hr:Region.ready md ops listed=[])(hq:Q .normal a w):wpAnyS P md ops Q S Ls fuel listed a w:=by
 cases fuel with
 |zero=>exact⟨hr,hq⟩
 |succ n=>exact⟨fun _=>hq,by rw [hr];intro i hi;cases hi⟩
theorem EE{id:Nat}{a:Act}{w:World}(S:World->Prop)(Ls:List Nat)(hm:P.follows .mixedOrders=true)(hS:S w.drew)
 (h:S w.drew->wpAnyS P .any ops Q S Ls ops.size (Array.replicate ops.size false) a w.drew):(Code.region id ops true).wp P Q a w:=
 wp_region_any hm (UW _ _ _ _ (h hS))
end
theorem iX{P:Program}{ops:Array Oper}{o:Oper}{a:Act}{w:World}{K:Act->World->Prop}{Q:Exit->Act->World->Prop}{E:Prop}(Ce:o.guard=none)(s x:Operand)(t:TypeId)
 (ho:o.op=.call {callee:=.builtin .append,args:=#[s,x],argTypes:=#[t,t]})
 (base:Nat) (e:TypeId) (i:TypeInfo) (z:Value) (size bytes:Nat) (ht:P.underlying t=some (.slice e)) (hi:P.info? e=some i) (hz:i.zero=some z)
 (Jy:i.size=size) (hby:i.bytes=bytes) (KS:z.cells.size=size) (pQ:0<size)
 (v:Value) (n:Nat) (xs:List Value) (hs:a.eval s=v) (aU:w.ownsRow base e size v n xs)
 (ad:Addr) (m c:Nat) (news:List Value) (hx:a.eval x=.slice (some ad) m c) (hl:news.length=m*size) (Cf:∀ j u,news[j]? =some u->w.cell? (ad.add j)=some u) (h1:∀ u∈news,u.oneCell'=true)
 (h63:n+m<=maxLen) (UX:(n+m)*bytes<=140737488355328) (Jz:base<=w.heap.size)
 (h:∀ v' w',w'.ownsRow base e size v' (n+m) (xs++news)->w.grownBy w' v.ownBlock->(v'=.slice none 0 0↔v=.slice none 0 0∧m=0)->K (a.put o.dst v') w'):
 if Region.wanted o (yielded ops a.tmps)=true then Oper.wp P o a w K Q else E:=by
 have hw:Region.wanted o (yielded ops a.tmps)=true:=by simp [Region.wanted,Ce]
 rw [if_pos hw];exact wp_append_own w s x t ho base e i z size bytes ht hi hz Jy hby KS pQ v n xs hs aU ad m c news hx hl Cf h1 h63 UX Jz h
theorem Tryz.aI1:(Tryz.prog.info? 5).map (fun i=>(i.zero,i.size,i.bytes))=some (some (.int .u8 0),1,1):=by kernel_rfl
theorem zI(s:ByteArray)(w:World)(hs:s.size<=1000000000):
 Calls Tryz.prog 114 #[.string s] w fun e w'=>e=.returned (.string s)∧Below w.heap.size w w':=by
 by_cases h0:s.size=0
 ·have hs0:s=⟨#[]⟩:=by
   apply ByteArray.ext;exact Array.eq_empty_of_size_eq_zero h0
  subst hs0;go_enter Tryz.func114,Tryz.ntmps114;go_wp2;go_ret;exact⟨rfl,Below.refl _ _⟩
 obtain⟨i0,hi,iJ,fP,fZ⟩:=info_parts Tryz.aI1;have aOo:(Tryz.prog.info? 5).map (·.size)=some 1:=by rw [hi];simp [fP]
 have hco:Tryz.prog.cellsOf 5=1:=by simp [Program.cellsOf,hi,fP]
 obtain⟨M,hM⟩:∃ M,M=madeCells (Value.int .u8 0).cells (((s.size:Nat):Int).toNat*i0.size):=⟨_,rfl⟩;have hMs:M.size=s.size:=by rw [hM,size_madeCells,fP];simp
 have hmk:∀ W:World,(Instr.makeSlice 22 (.int .i64 (s.size:Int)) (.int .i64 (s.size:Int))).run Tryz.prog W=.ok (.slice (some ⟨W.heap.size,0,none⟩) s.size s.size) (W.alloc (.cells M 5)):=by
  intro W;have h:=run_make (P:=Tryz.prog) W 22 5 i0 (.int .u8 0) Tryz.underlying22 hi iJ .i64 .i64 (s.size:Int) (s.size:Int) (by omega) (by omega) (by rw [fZ];omega) (by omega);rw [<- hM] at h;simpa using h
 clear hM;have QN:=Lib.run_copy_row_string (P:=Tryz.prog) (w.alloc (.cells M 5)) 22 9 3 5 w.heap.size 0 s.size s.size s M 5 Tryz.underlying22 aOo (heap_alloc_new w _) (Nat.le_refl _) (by omega);obtain⟨Y,hY⟩:∃ Y,Y=(M.toList.take 0++Lib.byteCells s.data.toList++M.toList.drop (0+s.size)).toArray:=⟨_,rfl⟩;rw [<- hY] at QN
 have hYl:Y.toList=Lib.byteCells s.data.toList:=by
  rw [hY,List.toList_toArray,List.take_zero,List.nil_append,List.drop_of_length_le (by rw [Array.length_toList];omega),List.append_nil]
 have hgY:((w.alloc (.cells M 5)).setRow w.heap.size Y).heap[w.heap.size]? =some (.cells Y 5 (0,0)):=setRow_heap _ _ M _ 5 (0,0) (heap_alloc_new w _);have hlen:s.data.toList.length=s.size:=by simp
 have hYs:Y.size=s.size:=by rw [<- Array.length_toList,hYl,Lib.byteCells_length,hlen]
 have dQ:s.data.toList≠[]:=fun e=>h0 (by rw [<- hlen,e];rfl)
 have hUS:=Lib.run_unsafeString_row (P:=Tryz.prog) ((w.alloc (.cells M 5)).setRow w.heap.size Y) 218 3 9 5 Tryz.underlying218 hco w.heap.size Y.size (by unfold World.shape?;rw [hgY]) s.data.toList dQ (by omega) (by omega)
  (by
   intro j x hx;rw [Nm.addr_add,Nat.zero_add,cell_of_row _ _ _ _ _ _ hgY,<- Array.getElem?_toList,hYl]
   simp only [Lib.byteCells,List.getElem?_map,hx,Option.map_some])
 rw [hlen] at hUS;clear hY;go_enter Tryz.func114,Tryz.ntmps114;go_wp2;go_ret;have fF:Below w.heap.size w (w.alloc (.cells M 5)):=(Below.refl _ w).alloc (Nat.le_refl _) _;have iE:Below w.heap.size (w.alloc (.cells M 5)) ((w.alloc (.cells M 5)).setRow w.heap.size Y):=⟨rfl,rfl,rfl,by simp,fun k hk=>setRow_other _ _ _ _ (by omega)⟩;exact⟨rfl,Lib.below_freeze (fF.trans iE) (p:=⟨w.heap.size,0,none⟩) (Nat.le_refl _) _⟩
end Go.Proofs.YthdpacepbbcocaaGreat
namespace Go.Proofs.YthdpacepbbcocaaGreat.Dt
open Go.RowKit
def jG(c:UInt8):Bool:=(decide (48<=c.toNat)&&decide (c.toNat<=57))||((decide (97<=c.toNat)&&decide (c.toNat<=122))||(decide (65<=c.toNat)&&decide (c.toNat<=90)))
def fG(s:ByteArray):ByteArray:=
 if h:0<s.size then(if s[0].toNat+1<=s.size then s.extract 0 (s[0].toNat+1) else ByteArray.empty) else ByteArray.empty
def fJ:Nat->ByteArray->Nat->ByteArray
 |0,_,_=>ByteArray.empty
 |f+1,s,i=>
  if h:i<s.size∧i<255 then
   if s[i].toNat=0 then s.extract 0 (i+1)
   else if 63<s[i].toNat then ByteArray.empty
   else fJ f s (i+s[i].toNat+1)
  else ByteArray.empty
def dG(s:ByteArray):ByteArray:=fJ 256 s 0
theorem LJ:∀ (f g:Nat) (s:ByteArray) (i:Nat),255<f+i->255<g+i->fJ f s i=fJ g s i:=by
 intro f
 induction f with
 |zero=>
  intro g s i hf hg
  cases g with
  |zero=>rfl
  |succ g=>rw [fJ,fJ,dif_neg (by omega)]
 |succ f ih=>
  intro g s i hf hg
  cases g with
  |zero=>rw [fJ,fJ,dif_neg (by omega)]
  |succ g=>
   rw [fJ,fJ]
   by_cases h:i<s.size∧i<255
   ·rw [dif_pos h,dif_pos h,ih g s _ (by omega) (by omega)]
   rw [dif_neg h,dif_neg h]
def mY(t:Int):ByteArray:=
 if t=1 then⟨#[98,98,98,98]⟩
 else if t=2∨t=5∨t=12∨t=39 then⟨#[110]⟩
 else if t=6 then⟨#[110,110,98,98,98,98,98,98,98,98,98,98,98,98,98,98,98,98,98,98,98,98]⟩
 else if t=13 then⟨#[116,116]⟩
 else if t=15 then⟨#[98,98,110]⟩
 else if t=16 then⟨#[115]⟩
 else if t=28 then⟨#[98,98,98,98,98,98,98,98,98,98,98,98,98,98,98,98]⟩
 else if t=33 then⟨#[98,98,98,98,98,98,110]⟩
 else if t=35 then⟨#[98,98,98,98,116,116,116,110]⟩
 else if t=47 then⟨#[110,109]⟩
 else if t=257 then⟨#[98,99]⟩
 else⟨#[42]⟩
end Go.Proofs.YthdpacepbbcocaaGreat.Dt
namespace Go.Proofs.YthdpacepbbcocaaGreat
open Go.RowKit
def AY:Nat->Int->ByteArray->Bool
 |0,_,_=>true
 |f+1,last,s=>
  if s.size=0 then true
  else if h:2<=s.size then
   if h2:last<(s[0].toNat:Int)∧1<=s[1].toNat∧s[1].toNat<=32∧s[1].toNat+2<=s.size then
    if s[s[1].toNat+1].toNat=0 then false else AY f (s[0].toNat:Int) (s.extract (s[1].toNat+2) s.size)
   else false
  else false
theorem Ka:∀ (f g:Nat) (last:Int) (s:ByteArray),s.size<f->s.size<g->AY f last s=AY g last s:=by
 intro f
 induction f with
 |zero=>intro g last s hf;omega
 |succ f ih=>
  intro g last s hf hg
  cases g with
  |zero=>omega
  |succ g=>
   rw [AY,AY]
   by_cases h0:s.size=0
   ·rw [if_pos h0,if_pos h0]
   rw [if_neg h0,if_neg h0]
   by_cases h:2<=s.size
   ·rw [dif_pos h,dif_pos h]
    by_cases h2:last<(s[0].toNat:Int)∧1<=s[1].toNat∧s[1].toNat<=32∧s[1].toNat+2<=s.size
    ·rw [dif_pos h2,dif_pos h2]
     by_cases h3:s[s[1].toNat+1].toNat=0
     ·rw [if_pos h3,if_pos h3]
     rw [if_neg h3,if_neg h3];have he:(s.extract (s[1].toNat+2) s.size).size=s.size-(s[1].toNat+2):=by simp
     exact ih g _ _ (by omega) (by omega)
    rw [dif_neg h2,dif_neg h2]
   rw [dif_neg h,dif_neg h]
def Em(s:ByteArray):Bool:=AY (s.size+1) (-1) s
theorem aAf{f:Nat}{last:Int}{s:ByteArray}(h:s.size=0):AY (f+1) last s=true:=by rw [AY,if_pos h]
theorem aAg{f:Nat}{last:Int}{s:ByteArray}(h:s.size=1):AY (f+1) last s=false:=by rw [AY,if_neg (by omega),dif_neg (by omega)]
theorem EF{f:Nat}{last:Int}{s:ByteArray}(h:2<=s.size)(h2:¬(last<(s[0].toNat:Int)∧1<=s[1].toNat∧s[1].toNat<=32∧s[1].toNat+2<=s.size)):AY (f+1) last s=false:=by
 rw [AY,if_neg (by omega),dif_pos h,dif_neg h2]
theorem Kb{f:Nat}{last:Int}{s:ByteArray}(h:2<=s.size)(h2:last<(s[0].toNat:Int)∧1<=s[1].toNat∧s[1].toNat<=32∧s[1].toNat+2<=s.size)(h3:(s[s[1].toNat+1]'(by omega)).toNat=0):AY (f+1) last s=false:=by
 rw [AY,if_neg (by omega),dif_pos h,dif_pos h2,if_pos h3]
theorem Kc{last:Int}{s:ByteArray}(h:2<=s.size)(h2:last<(s[0].toNat:Int)∧1<=s[1].toNat∧s[1].toNat<=32∧s[1].toNat+2<=s.size)(h3:(s[s[1].toNat+1]'(by omega)).toNat≠0):
 AY (s.size+1) last s=AY ((s.extract (s[1].toNat+2) s.size).size+1) (s[0].toNat:Int) (s.extract (s[1].toNat+2) s.size):=by
 rw [AY,if_neg (by omega),dif_pos h,dif_pos h2,if_neg h3];have he:(s.extract (s[1].toNat+2) s.size).size=s.size-(s[1].toNat+2):=by simp
 exact Ka _ _ _ _ (by omega) (by omega)
theorem jM{s:ByteArray}(h:0<s.size):(s.toList==[])=false∧(s.toList != [])=true:=by
 have:s.toList≠[]:=by
  rw [ByteArray.toList_eq];intro e;have h9:=congrArg List.length e;rw [Array.length_toList] at h9;have h8:s.size=0:=h9;omega
 simp [this]
theorem mI{s:ByteArray}(h:s.size=0):(s.toList==[])=true∧(s.toList != [])=false:=by
 have:s.toList=[]:=List.length_eq_zero_iff.1 (by rw [Nm.Te];exact h);simp [this]
end Go.Proofs.YthdpacepbbcocaaGreat
namespace Go.Proofs.YthdpacepbbcocaaGreat.Nm
open Go.RowKit
def low(c:UInt8):UInt8:=if 65<=c.toNat∧c.toNat<=90 then UInt8.ofNat (c.toNat+32) else c
def eO(l:List UInt8):List UInt8:=l.map low
def small(s:ByteArray):ByteArray:=⟨(eO s.data.toList).toArray⟩
theorem En{c:UInt8}(h:65<=c.toNat∧c.toNat<=90):((low c).toNat:Int)=(c.toNat:Int)+32:=by
 rw [low,if_pos h];simp;omega
theorem JS{c:UInt8}(h:¬(65<=c.toNat∧c.toNat<=90)):low c=c:=by rw [low,if_neg h]
theorem dY(s:ByteArray):(small s).data.toList=eO s.data.toList:=by simp [small]
theorem qH(s:ByteArray):(small s).size=s.size:=by
 have:(small s).data.toList.length=s.data.toList.length:=by rw [dY];simp [eO]
 simpa using this
theorem kI{a b:ByteArray}(h:a.data.toList=b.data.toList):a=b:=by
 apply ByteArray.ext;exact Array.toList_inj.1 h
theorem Ke{l:List UInt8}{k:Nat}{c:UInt8}(h:l[k]? =some c):eO (l.take (k+1))=eO (l.take k)++[low c]:=by
 rw [mH h];simp [eO]
theorem iZ{x:ByteArray}{j:Nat}(h:j<x.size):x.data.toList[j]? =some x[j]:=by
 rw [List.getElem?_eq_getElem (by simpa using h)];rfl
theorem Kg(r:ByteArray)(h:0<r.size)(n:Nat):
 r.data.toList=r[0]::((r.extract 1 (n+1)).data.toList++(r.extract (n+1) r.size).data.toList):=by
 have e0:r.data.toList=r[0]::r.data.toList.drop 1:=by
  have hl:0<r.data.toList.length:=by simpa using h
  have:=List.drop_eq_getElem_cons (i:=0) hl;rw [List.drop_zero] at this;exact this
 rw [e0];congr 1;have e1:(r.extract 1 (n+1)).data.toList=(r.data.toList.drop 1).take n:=by simp
 have e2:(r.extract (n+1) r.size).data.toList=(r.data.toList.drop 1).drop n:=by
  simp only [ByteArray.data_extract,Array.toList_extract,List.drop_drop];rw [List.extract_eq_take_drop,List.take_of_length_le (by simp)];congr 1;omega
 rw [e1,e2,List.take_append_drop]
theorem Kh:∀ (f:Nat) (r:ByteArray) (ls:List ByteArray),iW f r=some ls->joinL ls=r.data.toList∧∀ x∈ls,1<=x.size∧x.size<=63:=by
 intro f
 induction f with
 |zero=>intro r ls h;simp [iW] at h
 |succ f ih=>
  intro r ls h
  by_cases hp:0<r.size
  ·by_cases h0:r[0].toNat=0
   ·by_cases h1:r.size=1
    ·rw [wI f r hp h0 h1] at h;simp at h;subst h;refine⟨?_,by simp⟩;have e:=Kg r hp 0;have z:r[0]=0:=UInt8.toNat_inj.1 (by simpa using h0);rw [e,z];have e1:(r.extract 1 (0+1)).data.toList=[]:=by simp
     have e2:(r.extract (0+1) r.size).data.toList=[]:=by simp [h1]
     rw [e1,e2];rfl
    rw [xU f r hp h0 h1] at h;simp at h
   by_cases h1:63<r[0].toNat∨r.size<r[0].toNat+1
   ·rw [AQ f r hp h0 h1] at h;simp at h
   rw [qR f r hp h0 (by omega) (by omega)] at h
   cases e:iW f (r.extract (r[0].toNat+1) r.size) with
   |none=>rw [e] at h;simp at h
   |some t=>
    rw [e] at h;simp at h;obtain⟨i1,i2⟩:=ih _ _ e;have pQ:(r.extract 1 (r[0].toNat+1)).size=r[0].toNat:=by simp;omega
    rw [<- h];constructor
    ·rw [Kg r hp r[0].toNat,<- i1];simp only [joinL,vF,pQ];simp
    intro x hx
    rcases List.mem_cons.1 hx with rfl|hx
    ·rw [pQ];omega
    exact i2 x hx
  rw [rQ _ r (by omega)] at h;simp at h
theorem kJ{s:ByteArray}{ls:List ByteArray}(h:split s=some ls):joinL ls=s.data.toList∧∀ x∈ls,1<=x.size∧x.size<=63:=by
 by_cases hl:s.size<=255
 ·rw [qU s hl] at h;exact Kh _ _ _ h
 rw [AR s (by omega)] at h;simp at h
theorem aI2{n:Nat}(h:n<=63):low (UInt8.ofNat n)=UInt8.ofNat n:=by
 apply JS
 simp;omega
theorem UY(ls:List ByteArray)(h:∀ x∈ls,x.size<=63):vF (ls.map small)=eO (vF ls):=by
 induction ls with
 |nil=>rfl
 |cons x r ih=>
  have hx:=h x (List.mem_cons_self);have:=ih (fun y hy=>h y (List.mem_cons_of_mem _ hy));simp only [List.map_cons,vF,qH,dY,this];simp [eO,aI2 hx]
theorem uE{s:ByteArray}{ls:List ByteArray}(h:split s=some ls):(⟨(joinL (ls.map small)).toArray⟩:ByteArray)=small s:=by
 obtain⟨h1,h2⟩:=kJ h;apply kI;rw [dY,<- h1];simp only [joinL];rw [UY ls (fun x hx=>(h2 x hx).2)];simp [eO,low]
theorem AZ(ls:List ByteArray):dP (ls.map small)=dP ls:=by
 induction ls with
 |nil=>rfl
 |cons x r ih=>simp only [List.map_cons,dP,qH,ih]
def cZ(s:ByteArray):ByteArray:=if(split s).isSome then small s else ByteArray.empty
theorem JU{s:ByteArray}(h:split s=none):cZ s=ByteArray.empty:=by simp [cZ,h]
theorem nM{s:ByteArray}{ls:List ByteArray}(h:split s=some ls):cZ s=small s:=by simp [cZ,h]
end Go.Proofs.YthdpacepbbcocaaGreat.Nm
namespace Go.Proofs.YthdpacepbbcocaaGreat.Dt
open Go.RowKit
def UZ:Nat->ByteArray->Nat
 |0,_=>0
 |f+1,d=>if(fG d).size=0 then 0 else(fG d).size+UZ f (d.extract (fG d).size d.size)
theorem sZ(d:ByteArray):(fG d).size<=d.size:=by
 unfold fG;split
 ·split
  ·simp;omega
  simp
 simp
theorem Ki:∀ (f g:Nat) (d:ByteArray),d.size<f->d.size<g->UZ f d=UZ g d:=by
 intro f
 induction f with
 |zero=>intro g d hf;omega
 |succ f ih=>
  intro g d hf hg
  cases g with
  |zero=>omega
  |succ g=>
   rw [UZ,UZ]
   by_cases h:(fG d).size=0
   ·rw [if_pos h,if_pos h]
   have:=sZ d;rw [if_neg h,if_neg h,ih g _ (by simp;omega) (by simp;omega)]
def BA(d:ByteArray):Nat:=UZ (d.size+1) d
theorem VA{d:ByteArray}(h:(fG d).size=0):BA d=0:=by rw [BA,UZ,if_pos h]
theorem Kj{d:ByteArray}(h:(fG d).size≠0):BA d=(fG d).size+BA (d.extract (fG d).size d.size):=by
 have:=sZ d;rw [BA,UZ,if_neg h,Ki _ ((d.extract (fG d).size d.size).size+1) _ (by simp;omega) (by simp)];rfl
theorem aI3:∀ (f:Nat) (d:ByteArray),UZ f d<=d.size:=by
 intro f
 induction f with
 |zero=>intro d;simp [UZ]
 |succ f ih=>
  intro d;rw [UZ];split
  ·omega
  have:=ih (d.extract (fG d).size d.size);have h2:=sZ d;simp at this;omega
theorem aEr(d:ByteArray):BA d<=d.size:=aI3 _ d
def OT(d:ByteArray):Bool:=decide (2<=(fG d).size)&&decide ((fG d).size<=16)&&((fG d).data.toList.drop 1).all jG
abbrev Pc:Type:=Option (Option (Option (Option (Option (Option (Option (Option Nat)))))))
abbrev Pc.nm:Pc:=none
abbrev Pc.tx:Pc:=some none
abbrev Pc.txs:Pc:=some (some none)
abbrev Pc.txe:Pc:=some (some (some none))
abbrev Pc.tag:Pc:=some (some (some (some none)))
abbrev Pc.SK:Pc:=some (some (some (some (some none))))
abbrev Pc.mp:Pc:=some (some (some (some (some (some none)))))
abbrev Pc.rs:Pc:=some (some (some (some (some (some (some none))))))
abbrev Pc.bs(n:Nat):Pc:=some (some (some (some (some (some (some (some n)))))))
theorem Pc.elim{P:Pc->Prop}(p:Pc)(nm:P Pc.nm)(bs:∀ n,P (Pc.bs n))(tx:P Pc.tx)(txs:P Pc.txs)(txe:P Pc.txe)(tag:P Pc.tag)(SK:P Pc.SK)(mp:P Pc.mp)(rs:P Pc.rs):P p:=by
 rcases p with _|_|_|_|_|_|_|_|n
 ·exact nm
 ·exact tx
 ·exact txs
 ·exact txe
 ·exact tag
 ·exact SK
 ·exact mp
 ·exact rs
 exact bs n
def Pc.JV:Pc->Bool
 |none=>true
 |some _=>false
def sz:Pc->ByteArray->Option Nat
 |none,d=>if(dG d).size=0 then none else some (dG d).size
 |some none,d=>if(fG d).size=0 then none else some (fG d).size
 |some (some none),d=>if BA d=0 then none else some (BA d)
 |some (some (some none)),d=>if BA d=0∨BA d≠d.size then none else some d.size
 |some (some (some (some none))),d=>if OT d then some (fG d).size else none
 |some (some (some (some (some none)))),d=>if OT d then some d.size else none
 |some (some (some (some (some (some none))))),d=>if Em d then some d.size else none
 |some (some (some (some (some (some (some none)))))),d=>some d.size
 |some (some (some (some (some (some (some (some n))))))),d=>if n<=d.size then some n else none
theorem aEs:∀ (f:Nat) (s:ByteArray) (i:Nat),(fJ f s i).size<=s.size:=by
 intro f
 induction f with
 |zero=>intro s i;simp [fJ]
 |succ f ih=>
  intro s i;rw [fJ];split
  ·split
   ·simp;omega
   split
   ·simp
   exact ih _ _
  simp
theorem TP(s:ByteArray):(dG s).size<=s.size:=aEs _ _ _
theorem Kk{p:Pc}{d:ByteArray}{n:Nat}(h:sz p d=some n):n<=d.size:=by
 have h1:=TP d;have h2:=sZ d;have h3:=aEr d;cases p using Pc.elim<;>simp only [sz] at h
 all_goals first
  |(split at h
    ·simp at h
    simp at h;omega)
  |(split at h
    ·simp at h;omega
    simp at h)
  |(simp at h;omega)
def parts:List Pc->ByteArray->Option (List ByteArray)
 |[],d=>if d.size=0 then some [] else none
 |p::r,d=>
  match sz p d with
  |none=>none
  |some n=>(parts r (d.extract n d.size)).map (fun l=>d.extract 0 n::l)
def spans:List Pc->Nat->ByteArray->Option (List (Nat×Nat))
 |[],_,d=>if d.size=0 then some [] else none
 |p::r,a,d=>
  match sz p d with
  |none=>none
  |some n=>(spans r (a+n) (d.extract n d.size)).map (fun l=>if p.JV then(a,a+n)::l else l)
def spansOf:List Pc->List ByteArray->Nat->List (Nat×Nat)
 |p::r,x::xs,a=>if p.JV then(a,a+x.size)::spansOf r xs (a+x.size) else spansOf r xs (a+x.size)
 |_,_,_=>[]
theorem nN:∀ (fs:List Pc) (d:ByteArray) (a:Nat),spans fs a d=(parts fs d).map (fun ps=>spansOf fs ps a):=by
 intro fs
 induction fs with
 |nil=>intro d a;rw [spans,parts];split<;>simp [spansOf]
 |cons p r ih=>
  intro d a;rw [spans,parts]
  cases h:sz p d with
  |none=>simp
  |some n=>
   have hn:=Kk h;simp only [ih]
   cases parts r (d.extract n d.size) with
   |none=>simp
   |some l=>
    have:(d.extract 0 n).size=n:=by simp;omega
    simp [spansOf,this]
theorem zJ(m n:Nat)(r:List Pc)(a:Nat)(d:ByteArray):spans (.bs m::.bs n::r) a d=spans (.bs (m+n)::r) a d:=by
 rw [spans,spans];simp only [sz]
 by_cases h:m<=d.size
 ·rw [if_pos h];simp only [spans,sz];have e:(d.extract m d.size).size=d.size-m:=by simp
  rw [e]
  by_cases h2:m+n<=d.size
  ·rw [if_pos (by omega),if_pos h2]
   have e2:(d.extract m d.size).extract n (d.size-m)=d.extract (m+n) d.size:=by
    rw [ByteArray.extract_extract];congr 1;omega
   simp only [e2,Pc.JV,Nat.add_assoc];simp
  rw [if_neg (by omega),if_neg h2];simp
 rw [if_neg h,if_neg (by omega)]
theorem aBk(a:Nat)(d:ByteArray):spans [.SK] a d=spans [.tag,.rs] a d:=by
 have h2:=sZ d;simp only [spans,sz]
 by_cases h:OT d
 ·simp [h,Pc.JV]
 simp [h]
theorem aBl(a:Nat)(d:ByteArray):spans [.txs] a d=spans [.txe] a d:=by
 have h3:=aEr d;simp only [spans,sz]
 by_cases h:BA d=0
 ·simp [h]
 by_cases h2:BA d=d.size
 ·have h4:d.size≠0:=by omega
  simp [h2,h4,Pc.JV]
 simp [h,h2]
 omega
def sQ(c:UInt8):Pc:=
 if c=110 then .nm else if c=98 then .bs 1 else if c=116 then .tx else if c=115 then .txs else if c=99 then .SK else if c=109 then .mp else .rs
def pV(t:Int):List Pc:=(mY t).data.toList.map sQ
def lM(t:Int):List Pc:=
 if t=1 then [.bs 4]
 else if t=28 then [.bs 16]
 else if t=2∨t=5∨t=12∨t=39 then [.nm]
 else if t=15 then [.bs 2,.nm]
 else if t=6 then [.nm,.nm,.bs 20]
 else if t=33 then [.bs 6,.nm]
 else if t=16 then [.txe]
 else if t=13 then [.tx,.tx]
 else if t=35 then [.bs 4,.tx,.tx,.tx,.nm]
 else if t=257 then [.bs 1,.tag,.rs]
 else if t=47 then [.nm,.mp]
 else [.rs]
theorem JW{p:Pc}{r r':List Pc}(h:∀ a d,spans r a d=spans r' a d)(a:Nat)(d:ByteArray):spans (p::r) a d=spans (p::r') a d:=by
 rw [spans,spans]
 cases sz p d with
 |none=>rfl
 |some n=>simp only [h]
theorem uF(t:Int)(a:Nat)(d:ByteArray):spans (pV t) a d=spans (lM t) a d:=by
 unfold pV lM mY
 by_cases h1:t=1
 ·subst h1;simp [sQ,zJ]
 by_cases h2:t=2∨t=5∨t=12∨t=39
 ·have:t≠28:=by omega
  simp [h1,h2,this,sQ]
 by_cases h3:t=6
 ·subst h3;simp [sQ]
  refine JW (fun a d=>?_) a d;refine JW (fun a d=>?_) a d;simp [zJ]
 by_cases h4:t=13
 ·subst h4;simp [sQ]
 by_cases h5:t=15
 ·subst h5;simp [sQ,zJ]
 by_cases h6:t=16
 ·subst h6;simp [sQ,aBl]
 by_cases h7:t=28
 ·subst h7;simp [sQ,zJ]
 by_cases h8:t=33
 ·subst h8;simp [sQ,zJ]
 by_cases h9:t=35
 ·subst h9;simp [sQ,zJ]
 by_cases h10:t=47
 ·subst h10;simp [sQ]
 by_cases h11:t=257
 ·subst h11;simp [sQ]
  exact JW (fun a d=>aBk a d) a d
 simp [h1,h2,h3,h4,h5,h6,h7,h8,h9,h10,h11,sQ]
theorem ext_get{s:ByteArray}{i e:Nat}(h:i<e)(he:e<=s.size):(s.extract i e)[0]'(by simp;omega)=s[i]:=by
 rw [ByteArray.getElem_extract];simp
theorem LK{s:ByteArray}{i e n:Nat}(h:i+n<=e)(he:e<=s.size):(s.extract i e).extract n (s.extract i e).size=s.extract (i+n) e:=by
 rw [ByteArray.extract_extract];congr 1;simp
 omega
theorem BB:∀ (f:Nat) (s:ByteArray) (i:Nat),(fJ f s i).size≠0->
 ∃ e,i<e∧e<=255∧e<=s.size∧fJ f s i=s.extract 0 e∧∀ g,e-i<g->(Nm.iW g (s.extract i e)).isSome=true:=by
 intro f
 induction f with
 |zero=>intro s i h;simp [fJ] at h
 |succ f ih=>
  intro s i h;rw [fJ] at h ⊢
  by_cases h1:i<s.size∧i<255
  ·rw [dif_pos h1] at h ⊢
   by_cases h2:s[i].toNat=0
   ·rw [if_pos h2];refine⟨i+1,by omega,by omega,by omega,rfl,?_⟩;intro g hg;obtain⟨g,rfl⟩:∃ k,g=k+1:=⟨g-1,by omega⟩;rw [Nm.wI g _ (by simp;omega) (by rw [ext_get (by omega) (by omega)];exact h2) (by simp;omega)];rfl
   rw [if_neg h2] at h ⊢
   by_cases h3:63<s[i].toNat
   ·rw [if_pos h3] at h;simp at h
   rw [if_neg h3] at h ⊢;obtain⟨e,e1,e2,e3,e4,e5⟩:=ih s _ h;refine⟨e,by omega,e2,e3,e4,?_⟩;intro g hg;obtain⟨g,rfl⟩:∃ k,g=k+1:=⟨g-1,by omega⟩;have hp:0<(s.extract i e).size:=by simp;omega
   have h0:(s.extract i e)[0]=s[i]:=ext_get (by omega) e3;rw [Nm.qR g _ hp (by rw [h0];exact h2) (by rw [h0];omega) (by rw [h0];simp;omega),h0,LK (by omega) e3];have:=e5 g (by omega);rw [show i+(s[i].toNat+1)=i+s[i].toNat+1 by omega];simpa using this
  rw [dif_neg h1] at h;simp at h
theorem QO{s:ByteArray}(h:(dG s).size≠0):(Nm.split (dG s)).isSome=true:=by
 obtain⟨e,e1,e2,e3,e4,e5⟩:=BB 256 s 0 h;have e6:dG s=s.extract 0 e:=e4;rw [e6,Nm.qU _ (by simp;omega)];exact e5 256 (by omega)
theorem GG(s:ByteArray):s.extract 0 s.size=s:=by simp
theorem Eo:∀ (g:Nat) (f:Nat) (s:ByteArray) (i:Nat),s.size<=255->255<f+i->i<=s.size->(Nm.iW g (s.extract i s.size)).isSome=true->fJ f s i=s:=by
 intro g
 induction g with
 |zero=>intro f s i _ _ _ h;simp [Nm.iW] at h
 |succ g ih=>
  intro f s i hs hf hi h
  by_cases hp:i<s.size
  ·obtain⟨f,rfl⟩:∃ k,f=k+1:=⟨f-1,by omega⟩;have hz:(s.extract i s.size).size=s.size-i:=by simp
   have hq:0<(s.extract i s.size).size:=by omega
   have h0:(s.extract i s.size)[0]=s[i]:=ext_get hp (Nat.le_refl _);rw [fJ,dif_pos ⟨hp,by omega⟩]
   by_cases h2:s[i].toNat=0
   ·rw [if_pos h2]
    by_cases h3:(s.extract i s.size).size=1
    ·rw [show i+1=s.size by omega];exact GG s
    rw [Nm.xU g _ hq (by rw [h0];exact h2) h3] at h;simp at h
   rw [if_neg h2]
   by_cases h3:63<s[i].toNat∨s.size-i<s[i].toNat+1
   ·rw [Nm.AQ g _ hq (by rw [h0];exact h2) (by rw [h0,hz];exact h3)] at h;simp at h
   rw [if_neg (by omega)];rw [Nm.qR g _ hq (by rw [h0];exact h2) (by rw [h0];omega) (by rw [h0,hz];omega),h0,LK (by omega) (Nat.le_refl _)] at h;refine ih f s _ hs (by omega) (by omega) ?_;rw [show i+(s[i].toNat+1)=i+s[i].toNat+1 by omega] at h;simpa using h
  rw [Nm.rQ _ _ (by simp;omega)] at h;simp at h
theorem LM(s:ByteArray):(Nm.split s).isSome=true↔(dG s).size≠0∧(dG s).size=s.size:=by
 constructor
 ·intro h
  by_cases hl:s.size<=255
  ·rw [Nm.qU s hl] at h;have e:dG s=s:=Eo 256 256 s 0 hl (by omega) (by omega) (by simpa using h);rw [e];refine⟨?_,rfl⟩;intro h0;rw [Nm.rQ _ _ h0] at h;simp at h
  rw [Nm.AR s (by omega)] at h;simp at h
 rintro⟨h0,h⟩
 obtain⟨e,e1,e2,e3,e4,e5⟩:=BB 256 s 0 h0;have e6:dG s=s.extract 0 e:=e4;have e7:e=s.size:=by rw [e6] at h;simp at h;omega
 have e8:dG s=s:=by rw [e6,e7];exact GG s
 have:=QO h0
 rwa [e8] at this
def nP(ps:List ByteArray):List UInt8:=(ps.map (fun x=>x.data.toList)).flatten
def EG:List Pc->List ByteArray->List UInt8
 |p::r,x::xs=>(if p.JV then Nm.eO x.data.toList else x.data.toList)++EG r xs
 |_,_=>[]
theorem aI4(d:ByteArray)(n:Nat)(h:n<=d.size):(d.extract 0 n).data.toList++(d.extract n d.size).data.toList=d.data.toList:=by
 have e1:(d.extract 0 n).data.toList=d.data.toList.take n:=by simp
 have e2:(d.extract n d.size).data.toList=d.data.toList.drop n:=by
  simp only [ByteArray.data_extract,Array.toList_extract];rw [List.extract_eq_take_drop,List.take_of_length_le (by simp)]
 rw [e1,e2,List.take_append_drop]
theorem Cg:∀ (fs:List Pc) (d:ByteArray) (ps:List ByteArray),parts fs d=some ps->fs.length=ps.length∧nP ps=d.data.toList∧
 ∀ (i:Nat) (p:Pc) (x:ByteArray),fs[i]? =some p->ps[i]? =some x->p.JV=true->(Nm.split x).isSome=true:=by
 intro fs
 induction fs with
 |nil=>
  intro d ps h;rw [parts] at h
  split at h
  ·rename_i h0;simp at h;subst h;refine⟨rfl,?_,?_⟩
   ·have:d.data.toList.length=0:=by simpa using h0
    rw [List.length_eq_zero_iff.1 this];rfl
   intro i p x h;simp at h
  simp at h
 |cons p r ih=>
  intro d ps h;rw [parts] at h
  cases hs:sz p d with
  |none=>rw [hs] at h;simp at h
  |some n=>
   rw [hs] at h;have hn:=Kk hs
   cases hr:parts r (d.extract n d.size) with
   |none=>simp [hr] at h
   |some l=>
    simp [hr] at h
    obtain⟨i1,i2,i3⟩:=ih _ _ hr;subst h;refine⟨by simp [i1],?_,?_⟩
    ·have:nP (d.extract 0 n::l)=(d.extract 0 n).data.toList++nP l:=by simp [nP]
     rw [this,i2,aI4 d n hn]
    intro i q x hq hx hN
    cases i with
    |zero=>
     simp at hq hx;subst hq;subst hx;cases p using Pc.elim<;>simp [Pc.JV] at hN
     simp only [sz] at hs
     split at hs
     ·simp at hs
     rename_i h0;simp at hs;obtain⟨e,e1,e2,e3,e4,e5⟩:=BB 256 d 0 h0;have e6:dG d=d.extract 0 e:=e4;have e7:e=n:=by rw [e6] at hs;simp at hs;omega
     rw [<- e7,<- e6]
     exact QO h0
    |succ i=>
     simp at hq hx;exact i3 i q x hq hx hN
def uX(s:Nat×Nat)(l:List UInt8):List UInt8:=l.take s.1++(Nm.eO ((l.drop s.1).take (s.2-s.1))++l.drop s.2)
def nQ(sp:List (Nat×Nat))(l:List UInt8):List UInt8:=sp.foldl (fun l s=>uX s l) l
theorem Ep:∀ (fs:List Pc) (ps:List ByteArray) (pre:List UInt8),fs.length=ps.length->nQ (spansOf fs ps pre.length) (pre++nP ps)=pre++EG fs ps:=by
 intro fs
 induction fs with
 |nil=>
  intro ps pre h;have:ps=[]:=List.length_eq_zero_iff.1 (by simpa using h.symm);subst this
  simp [spansOf,nQ,EG,nP]
 |cons p r ih=>
  intro ps pre h
  cases ps with
  |nil=>simp at h
  |cons x xs=>
   have hl:r.length=xs.length:=by simpa using h
   have hx:x.data.toList.length=x.size:=by simp
   have hc:nP (x::xs)=x.data.toList++nP xs:=by simp [nP]
   rw [spansOf,hc,EG]
   cases hN:p.JV with
   |true=>
    simp only [if_true]
    have e1:uX (pre.length,pre.length+x.size) (pre++(x.data.toList++nP xs))=(pre++Nm.eO x.data.toList)++nP xs:=by
     have k1:(pre++(x.data.toList++nP xs)).take pre.length=pre:=List.take_left' rfl;have k2:(pre++(x.data.toList++nP xs)).drop pre.length=x.data.toList++nP xs:=List.drop_left' rfl;have k3:(x.data.toList++nP xs).take x.size=x.data.toList:=List.take_left' hx
     have k4:(pre++(x.data.toList++nP xs)).drop (pre.length+x.size)=nP xs:=by
      rw [<- List.append_assoc];exact List.drop_left' (by rw [List.length_append,hx])
     simp only [uX];rw [k1,k2,Nat.add_sub_cancel_left,k3,k4,List.append_assoc]
    have e2:nQ ((pre.length,pre.length+x.size)::spansOf r xs (pre.length+x.size)) (pre++(x.data.toList++nP xs))=nQ (spansOf r xs (pre.length+x.size)) ((pre++Nm.eO x.data.toList)++nP xs):=by
     rw [<- e1];rfl
    have e3:pre.length+x.size=(pre++Nm.eO x.data.toList).length:=by simp [Nm.eO]
    rw [e2,e3,ih xs _ hl]
    simp
   |false=>
    simp only [if_false,Bool.false_eq_true];have e3:pre.length+x.size=(pre++x.data.toList).length:=by simp
    rw [e3,<- List.append_assoc,ih xs _ hl];simp
def Er(t:Int)(d:ByteArray):ByteArray:=
 match spans (lM t) 0 d with
 |none=>ByteArray.empty
 |some sp=>⟨(nQ sp d.data.toList).toArray⟩
theorem Kl{t:Int}{d:ByteArray}{ps:List ByteArray}(h:parts (pV t) d=some ps):Er t d=⟨(EG (pV t) ps).toArray⟩:=by
 obtain⟨h1,h2,h3⟩:=Cg _ _ _ h;rw [Er,<- uF,nN,h];have:=Ep (pV t) ps [] h1;simp only [List.length_nil,List.nil_append] at this;rw [h2] at this;simp only [Option.map_some,this]
end Go.Proofs.YthdpacepbbcocaaGreat.Dt
namespace Go.Proofs.YthdpacepbbcocaaGreat
open Go.RowKit
theorem Km(n:Nat)(h:n<9223372036854775808):IntKind.i64.wrap (n:Int)=(n:Int):=by
 have e:(n:Int) % 2 ^ 64=n:=Int.emod_eq_of_lt (by omega) (by omega);simp only [IntKind.wrap,IntKind.bits,IntKind.signed,e];rw [if_neg];simp
 omega
theorem Tm(a b:Nat)(ha:a<9223372036854775808)(hb:b<9223372036854775808):bits .or .i64 (a:Int) (b:Int)=((a|||b:Nat):Int):=by
 have hx:a|||b<2 ^ 63:=Nat.or_lt_two_pow (by omega) (by omega)
 show IntKind.i64.wrap ((BitVec.ofInt 64 (a:Int)|||BitVec.ofInt 64 (b:Int)).toNat:Int)=_
 rw [BitVec.toNat_or,ofInt_u64 a (by omega),ofInt_u64 b (by omega)];exact Km _ (by omega)
theorem aI5(i a b:Nat)(h:b<2 ^ i)(ha:2 ^ i*a+b<9223372036854775808):bits .or .i64 ((2 ^ i*a:Nat):Int) (b:Int)=((2 ^ i*a+b:Nat):Int):=by
 rw [Tm _ _ (by omega) (by omega),<- Nat.two_pow_add_eq_or_of_lt h]
theorem vI(c:UInt8)(w:World):
 Calls Tryz.prog 180 #[.int .u8 c.toNat] w fun e w'=>e=.returned (.int .u8 (Nm.low c).toNat)∧w'=w:=by
 have xW:(c.toNat:Int)<256:=by have:=c.toNat_lt;omega
 by_cases Sd:65<=c.toNat∧c.toNat<=90
 ·have HL:=Nm.aF (Nm.En Sd);have d1:decide ((65:Int)<=(c.toNat:Int))=true:=by simp;omega
  have d2:decide ((c.toNat:Int)<=90)=true:=by simp;omega
  have fF:(c.toNat:Int)<=90:=by omega
  clear Sd;go_enter Tryz.func180,Tryz.ntmps180;go_wp2;go_ret;rw [HL.out];exact⟨rfl,rfl⟩
 have HL:=Nm.aF (Nm.JS Sd)
 by_cases hlo:65<=c.toNat
 ·have d1:decide ((65:Int)<=(c.toNat:Int))=true:=by simp;omega
  have d2:decide ((c.toNat:Int)<=90)=false:=by simp;omega
  clear Sd;go_enter Tryz.func180,Tryz.ntmps180;go_wp2;go_ret;rw [HL.out];exact⟨rfl,rfl⟩
 have d1:decide ((65:Int)<=(c.toNat:Int))=false:=by simp;omega
 clear Sd;go_enter Tryz.func180,Tryz.ntmps180;go_wp2;go_ret;rw [HL.out];exact⟨rfl,rfl⟩
theorem BF(n m:Int)(w:World):Calls Tryz.prog 85 #[.int .i64 n,.int .i64 m] w fun e w'=>e=.returned (.bool (decide (0<=n)&&decide (n<=m)))∧w'=w:=by
 by_cases h0:0<=n
 ·by_cases h1:n<=m
  ·have e:(decide (0<=n)&&decide (n<=m))=true:=by simp [h0,h1]
   rw [e];clear e;go_enter Tryz.func85,Tryz.ntmps85;go_wp2;go_ret;exact⟨rfl,rfl⟩
  have YZ:m<n:=by omega
  have e:(decide (0<=n)&&decide (n<=m))=false:=by simp [h0,h1]
  rw [e];clear e;go_enter Tryz.func85,Tryz.ntmps85;go_wp2;go_ret;exact⟨rfl,rfl⟩
 have Sg:n<0:=by omega
 have e:(decide (0<=n)&&decide (n<=m))=false:=by simp [h0]
 rw [e];clear e;go_enter Tryz.func85,Tryz.ntmps85;go_wp2;go_ret;exact⟨rfl,rfl⟩
end Go.Proofs.YthdpacepbbcocaaGreat
namespace Go.Proofs.YthdpacepbbcocaaGreat.Nm
open Go.RowKit
def pK(a b:Int):Int:=if a<b then -1 else if b<a then 1 else 0
def iD(a b:List UInt8):Int:=if Op.bytesLess a b=true then -1 else if a=b then 0 else 1
theorem oJ{a b:Int}(h:a<b):pK a b= -1:=if_pos h
theorem oK{a b:Int}(h:b<a):pK a b=1:=by rw [pK,if_neg (by omega),if_pos h]
theorem tX{a b:Int}(h:a=b):pK a b=0:=by rw [pK,if_neg (by omega),if_neg (by omega)]
theorem aI6{a b:Int}(h:a≠b):pK a b≠0:=by
 by_cases h1:a<b
 ·rw [oJ h1];decide
 rw [oK (by omega)];decide
theorem aEt:iD [] []=0:=rfl
theorem Ci(y:UInt8)(b:List UInt8):iD [] (y::b)= -1:=rfl
theorem JX(x:UInt8)(a:List UInt8):iD (x::a) []=1:=rfl
theorem vS(x:UInt8)(a b:List UInt8):iD (x::a) (x::b)=iD a b:=by
 simp [iD,Op.bytesLess]
theorem vJ{x y:UInt8}(a b:List UInt8)(h:x≠y):iD (x::a) (y::b)=pK x.toNat y.toNat:=by
 have hn:x.toNat≠y.toNat:=fun e=>h (UInt8.toNat_inj.1 e)
 by_cases hl:x<y
 ·have Es:(x.toNat:Int)<(y.toNat:Int):=by have:=UInt8.lt_iff_toNat_lt.1 hl;omega
  rw [oJ Es];simp [iD,Op.bytesLess,hl]
 have Es:(y.toNat:Int)<(x.toNat:Int):=by
  have:¬x.toNat<y.toNat:=fun e=>hl (UInt8.lt_iff_toNat_lt.2 e)
  omega
 rw [oK Es];simp [iD,Op.bytesLess,hl,h]
theorem aMh:∀ (k:Nat) (a b:List UInt8) (x y:UInt8),a.take k=b.take k->a[k]? =some x->b[k]? =some y->x≠y->iD a b=pK x.toNat y.toNat:=by
 intro k
 induction k with
 |zero=>
  intro a b x y _ hx hy dQ
  cases a with
  |nil=>simp at hx
  |cons c a=>
   cases b with
   |nil=>simp at hy
   |cons d b=>
    simp at hx hy;subst hx hy
    exact vJ a b dQ
 |succ k ih=>
  intro a b x y ht hx hy dQ
  cases a with
  |nil=>simp at hx
  |cons c a=>
   cases b with
   |nil=>simp at hy
   |cons d b=>
    simp at ht hx hy;obtain⟨rfl,ht⟩:=ht;rw [vS];exact ih a b x y ht hx hy dQ
theorem aI7:∀ (k:Nat) (a b:List UInt8),a.take k=b.take k->k<=a.length->k<=b.length->(k=a.length∨k=b.length)->iD a b=pK a.length b.length:=by
 intro k
 induction k with
 |zero=>
  intro a b _ _ _ h
  cases a with
  |nil=>
   cases b with
   |nil=>rfl
   |cons d b=>rw [Ci,oJ (by simp)]
  |cons c a=>
   cases b with
   |nil=>rw [JX,oK (by simp)]
   |cons d b=>simp at h
 |succ k ih=>
  intro a b ht h1 h2 h
  cases a with
  |nil=>simp at h1
  |cons c a=>
   cases b with
   |nil=>simp at h2
   |cons d b=>
    simp at ht h1 h2 h;obtain⟨rfl,ht⟩:=ht;rw [vS,ih a b ht h1 h2 h];simp only [List.length_cons,pK];congr 1
    ·simp
    congr 1;simp
theorem Et{a b:List UInt8}{k:Nat}{x y:UInt8}(h:a.take k=b.take k)(hx:a[k]? =some x)(hy:b[k]? =some y)(e:x=y):a.take (k+1)=b.take (k+1):=by
 rw [mH hx,mH hy,h,e]
theorem GH{x:ByteArray}{j:Nat}(h:j<x.size):(eO x.data.toList)[j]? =some (low x[j]):=by
 simp only [eO,List.getElem?_map,iZ h,Option.map_some]
theorem mJ(x:ByteArray):(eO x.data.toList).length=x.size:=by simp [eO]
def jA(x y:ByteArray):Int:=iD (eO x.data.toList) (eO y.data.toList)
def dV:List ByteArray->List ByteArray->Int
 |[],[]=>0
 |[],_::_=> -1
 |_::_,[]=>1
 |x::a,y::b=>if jA x y=0 then dV a b else jA x y
def bJ(xs ys:List ByteArray):Int:=dV xs.reverse ys.reverse
theorem Kn{a b:List ByteArray}{k:Nat}{x y:ByteArray}(hx:a[k]? =some x)(hy:b[k]? =some y)(h:jA x y≠0):dV (a.drop k) (b.drop k)=jA x y:=by
 obtain⟨h1,rfl⟩:=List.getElem?_eq_some_iff.1 hx;obtain⟨h2,rfl⟩:=List.getElem?_eq_some_iff.1 hy;rw [List.drop_eq_getElem_cons h1,List.drop_eq_getElem_cons h2,dV,if_neg h]
theorem aEu{a b:List ByteArray}{k:Nat}{x y:ByteArray}(hx:a[k]? =some x)(hy:b[k]? =some y)(h:jA x y=0):dV (a.drop k) (b.drop k)=dV (a.drop (k+1)) (b.drop (k+1)):=by
 obtain⟨h1,rfl⟩:=List.getElem?_eq_some_iff.1 hx;obtain⟨h2,rfl⟩:=List.getElem?_eq_some_iff.1 hy;rw [List.drop_eq_getElem_cons h1,List.drop_eq_getElem_cons h2,dV,if_pos h]
theorem aAh{a b:List ByteArray}{k:Nat}(h1:k<=a.length)(h2:k<=b.length)(h:k=a.length∨k=b.length):dV (a.drop k) (b.drop k)=pK a.length b.length:=by
 rcases h with h|h
 ·rw [List.drop_of_length_le (by omega)]
  by_cases e:k=b.length
  ·rw [List.drop_of_length_le (by omega),tX (by omega)];rfl
  rw [List.drop_eq_getElem_cons (by omega:k<b.length),oJ (by omega)];rfl
 rw [List.drop_of_length_le (l:=b) (by omega)]
 by_cases e:k=a.length
 ·rw [List.drop_of_length_le (by omega),tX (by omega)];rfl
 rw [List.drop_eq_getElem_cons (by omega:k<a.length),oK (by omega)];rfl
theorem TQ{ls:List ByteArray}{k:Nat}(h:k<ls.length){x:ByteArray}(hx:ls[ls.length-(k+1)]? =some x):ls.reverse[k]? =some x:=by
 rw [List.getElem?_reverse h,<- hx];congr 1;omega
def rU(a b:ByteArray):Int:=
 match split a,split b with
 |some xs,some ys=>bJ xs ys
 |_,_=>0
end Go.Proofs.YthdpacepbbcocaaGreat.Nm
namespace Go.Proofs.YthdpacepbbcocaaGreat
open Go.RowKit
def eD(rs:List (Value×Value)):List Value:=rs.flatMap fun p=>[p.1,p.2]
theorem eY:∀ (rs:List (Value×Value)) (k j:Nat) (x:Value×Value),rs[k]? =some x->j<2->(eD rs)[k*2+j]? =[x.1,x.2][j]? :=by
 intro rs
 induction rs with
 |nil=>intro k j x h;simp at h
 |cons y rs ih=>
  intro k j x h hj;have e:eD (y::rs)=[y.1,y.2]++eD rs:=by simp [eD]
  cases k with
  |zero=>
   simp at h;subst h
   rw [e,Nat.zero_mul,Nat.zero_add,List.getElem?_append_left (by simpa using hj)]
  |succ k=>
   simp at h;rw [e,List.getElem?_append_right (by simp;omega),show(k+1)*2+j - [y.1,y.2].length=k*2+j by simp;omega];exact ih k j x h hj
def EH(n:Nat)(cf:Nat->Int)(k:Nat):Prop:=k<=n∧(∀ i,i<k->cf i<0)∧(∀ i,k<=i->i<n->0<=cf i)
theorem EH.unique{n:Nat}{cf:Nat->Int}{a b:Nat}(ha:EH n cf a)(hb:EH n cf b):a=b:=by
 obtain⟨a1,a2,a3⟩:=ha;obtain⟨b1,b2,b3⟩:=hb
 rcases Nat.lt_trichotomy a b with h|h|h
 ·have h1:=b2 a h;have h2:=a3 a (Nat.le_refl _) (by omega);omega
 ·exact h
 have h1:=a2 b h;have h2:=b3 b (Nat.le_refl _) (by omega);omega
theorem Tn(rs:List (Value×Value))(k:Nat):eD (rs.take k)=(eD rs).take (k*2):=by
 induction rs generalizing k with
 |nil=>simp [eD]
 |cons x rs ih=>
  have e:∀ z zs,eD (z::zs)=[z.1,z.2]++eD zs:=by intro z zs;simp [eD]
  cases k with
  |zero=>simp [eD]
  |succ k=>
   rw [List.take_succ_cons,e,e,ih,List.take_append,List.take_of_length_le (l:=[x.1,x.2]) (i:=(k+1)*2) (by simp;omega),show(k+1)*2 - [x.1,x.2].length=k*2 by simp;omega]
theorem Tp(rs:List (Value×Value))(k:Nat):eD (rs.drop k)=(eD rs).drop (k*2):=by
 induction rs generalizing k with
 |nil=>simp [eD]
 |cons x rs ih=>
  have e:∀ z zs,eD (z::zs)=[z.1,z.2]++eD zs:=by intro z zs;simp [eD]
  cases k with
  |zero=>simp
  |succ k=>
   rw [List.drop_succ_cons,e,ih,List.drop_append,List.drop_of_length_le (l:=[x.1,x.2]) (i:=(k+1)*2) (by simp;omega),show(k+1)*2 - [x.1,x.2].length=k*2 by simp;omega,List.nil_append]
theorem OU(rs:List (Value×Value))(k:Nat)(a b:Value):(eD rs).take (k*2)++[a,b]++(eD rs).drop (k*2)=eD (rs.take k++[(a,b)]++rs.drop k):=by
 rw [<- Tn,<- Tp];simp [eD]
theorem OV{rs:List (Value×Value)}(h:∀ p∈rs,p.1.oneCell'=true∧p.2.oneCell'=true):∀ u∈eD rs,u.oneCell'=true:=by
 intro u hu;simp only [eD,List.mem_flatMap] at hu;obtain⟨p,hp,hu⟩:=hu;simp at hu
 rcases hu with rfl|rfl
 ·exact(h p hp).1
 exact(h p hp).2
structure Kp2 (g:Nat) (rb:Option Nat) (w w':World):Prop where
 os:w'.os=w.os
 tape:w'.tape=w.tape
 output:w'.output=w.output
 size:w.heap.size<=w'.heap.size
 block:∀ k,k<w.heap.size->k≠g->rb≠some k->w'.heap[k]? =w.heap[k]?
theorem Kp2.dL{g b:Nat}{rb:Option Nat}{w w':World}{cs:Array Value}{T:TypeId}(h:Kp2 g rb w w')(hb:bG w b cs T)(h1:b≠g)(h2:rb≠some b):bG w' b cs T:=(h.block b (bU hb) h1 h2).trans hb
theorem Ko(a:Int)(w:World):Calls Tryz.prog 184 #[.int .i64 a] w fun e w'=>e=.returned (.bool false)∧w'=w:=by
 have e:(a != a)=false:=by simp
 go_enter Tryz.func184,Tryz.ntmps184;go_wp2;go_ret;exact⟨rfl,rfl⟩
theorem aBm(a b:Int)(w:World):Calls Tryz.prog 164 #[.int .i64 a,.int .i64 b] w fun e w'=>e=.returned (.int .i64 (Nm.pK a b))∧w'=w:=by
 have h1:=fun x W=>Ko x W
 by_cases bV:a<b
 ·rw [Nm.oJ bV];go_enter Tryz.func164,Tryz.ntmps164;go_wp2_with (go_at_call 184;refine(h1 _ _).mono ?_;rintro e w' ⟨rfl,hw'⟩;obtain rfl:=hw'.symm)
  go_ret;exact⟨rfl,rfl⟩
 by_cases hgt:b<a
 ·rw [Nm.oK hgt];go_enter Tryz.func164,Tryz.ntmps164;go_wp2_with (go_at_call 184;refine(h1 _ _).mono ?_;rintro e w' ⟨rfl,hw'⟩;obtain rfl:=hw'.symm)
  go_ret;exact⟨rfl,rfl⟩
 obtain rfl:a=b:=by omega
 rw [Nm.tX rfl];go_enter Tryz.func164,Tryz.ntmps164;go_wp2_with (go_at_call 184;refine(h1 _ _).mono ?_;rintro e w' ⟨rfl,hw'⟩;obtain rfl:=hw'.symm)
 go_ret;exact⟨rfl,rfl⟩
theorem Tq:∀ l:List UInt8,Op.bytesLess l l=false:=by
 intro l
 induction l with
 |nil=>rfl
 |cons x l ih=>simp [Op.bytesLess,ih]
theorem qW(a b:List UInt8):Nm.iD a b=0↔a=b:=by
 constructor
 ·intro h
  by_cases h1:Op.bytesLess a b=true
  ·rw [Nm.iD,if_pos h1] at h;omega
  rw [Nm.iD,if_neg h1] at h
  by_cases h2:a=b
  ·exact h2
  rw [if_neg h2] at h;omega
 intro h;subst h;rw [Nm.iD,if_neg (by simp [Tq]),if_pos rfl]
def jB(a b:ByteArray):Bool:=(Nm.split a).isSome&&(Nm.split b).isSome&&decide (Nm.jA a b=0)
theorem aBn{a b:ByteArray}(h:Nm.split a=none):jB a b=false:=by simp [jB,h]
theorem Tt{a b:ByteArray}(h:Nm.split b=none):jB a b=false:=by simp [jB,h]
theorem OX{a b:ByteArray}{xs ys:List ByteArray}(ha:Nm.split a=some xs)(hb:Nm.split b=some ys):jB a b=decide (Nm.jA a b=0):=by simp [jB,ha,hb]
theorem aBo{a:ByteArray}{xs:List ByteArray}(h:Nm.split a=some xs):(Nm.small a).toList.isEmpty=false:=by
 apply Nm.LF;rw [Nm.qH];have:=Nm.gW h;omega
theorem aEv(a b:ByteArray):((Nm.small a).toList==(Nm.small b).toList)=decide (Nm.jA a b=0):=by
 rw [Bool.eq_iff_iff];simp only [beq_iff_eq,decide_eq_true_eq,Nm.jA,qW];rw [ByteArray.toList_eq,ByteArray.toList_eq,Nm.dY,Nm.dY]
theorem aBp:∀ (zs:List ByteArray) (f:Nat) (r:ByteArray),r.data.toList=Nm.joinL zs->(∀ x∈zs,1<=x.size∧x.size<=63)->r.size<f->Nm.iW f r=some zs:=by
 intro zs
 induction zs with
 |nil=>
  intro f r hd _ hf;have pQ:r.size=1:=by have:=congrArg List.length hd;simpa [Nm.joinL,Nm.vF] using this
  have hp:0<r.size:=by omega
  have h0:r[0].toNat=0:=by
   have e:=Nm.iZ hp;rw [hd] at e;have:r[0]=0:=by simpa [Nm.joinL,Nm.vF] using e.symm
   rw [this];rfl
  obtain⟨g,rfl⟩:∃ g,f=g+1:=⟨f-1,by omega⟩
  exact Nm.wI g r hp h0 pQ
 |cons x t ih=>
  intro f r hd hx hf;have KT:=hx x List.mem_cons_self
  have hlen:r.size=(1+x.size)+Nm.dP t+1:=by
   have:=congrArg List.length hd;rw [Nm.rT] at this;simp only [Nm.dP] at this;simpa using this
  have hp:0<r.size:=by omega
  have e0:r[0]=UInt8.ofNat x.size:=by
   have e:=Nm.iZ hp;rw [hd] at e;simpa [Nm.joinL,Nm.vF] using e.symm
  have hn:r[0].toNat=x.size:=by rw [e0];simp;omega
  have Tu:r.data.toList=UInt8.ofNat x.size::(x.data.toList++Nm.joinL t):=by rw [hd];simp [Nm.joinL,Nm.vF]
  have xl:x.data.toList.length=x.size:=by simp
  have c1:r.extract 1 (x.size+1)=x:=by
   apply Nm.kI;have e1:(r.extract 1 (x.size+1)).data.toList=(r.data.toList.drop 1).take x.size:=by simp
   rw [e1,Tu,List.drop_succ_cons,List.drop_zero,<- xl,List.take_left]
  have c2:(r.extract (x.size+1) r.size).data.toList=Nm.joinL t:=by
   have e2:(r.extract (x.size+1) r.size).data.toList=(r.data.toList.drop 1).drop x.size:=by
    simp only [ByteArray.data_extract,Array.toList_extract,List.drop_drop];rw [List.extract_eq_take_drop,List.take_of_length_le (by simp)];congr 1;omega
   rw [e2,Tu,List.drop_succ_cons,List.drop_zero,<- xl,List.drop_left]
  obtain⟨g,rfl⟩:∃ g,f=g+1:=⟨f-1,by omega⟩;rw [Nm.qR g r hp (by omega) (by omega) (by omega),hn,c1,ih g _ c2 (fun y hy=>hx y (List.mem_cons_of_mem _ hy)) (by simp;omega)];rfl
theorem tY{zs:List ByteArray}(h:∀ x∈zs,1<=x.size∧x.size<=63)(hw:Nm.dP zs<=254):Nm.split ⟨(Nm.joinL zs).toArray⟩=some zs:=by
 have pQ:(ByteArray.mk (Nm.joinL zs).toArray).size=Nm.dP zs+1:=by
  show(Nm.joinL zs).toArray.size=_
  rw [List.size_toArray,Nm.rT]
 rw [Nm.qU _ (by omega)];exact aBp zs 256 _ (by simp) h (by omega)
theorem Cj(x y:ByteArray):Nm.jA x y=0↔Nm.small x=Nm.small y:=by
 rw [Nm.jA,qW];constructor
 ·intro h;apply Nm.kI;rw [Nm.dY,Nm.dY,h]
 intro h;rw [<- Nm.dY,<- Nm.dY,h]
theorem Kq:∀ (a b:List ByteArray),Nm.dV a b=0↔a.map Nm.small=b.map Nm.small:=by
 intro a
 induction a with
 |nil=>
  intro b
  cases b with
  |nil=>simp [Nm.dV]
  |cons y b=>simp [Nm.dV]
 |cons x a ih=>
  intro b
  cases b with
  |nil=>simp [Nm.dV]
  |cons y b=>
   rw [Nm.dV]
   by_cases h:Nm.jA x y=0
   ·rw [if_pos h,ih b];simp [(Cj x y).1 h]
   rw [if_neg h];have dQ:Nm.small x≠Nm.small y:=fun e=>h ((Cj x y).2 e)
   simp [h,dQ]
theorem nR(a b:List ByteArray):Nm.bJ a b=0↔a.map Nm.small=b.map Nm.small:=by
 rw [Nm.bJ,Kq,List.map_reverse,List.map_reverse];constructor
 ·intro h;exact List.reverse_inj.1 h
 intro h;rw [h]
theorem LP{zs:List ByteArray}(h:∀ x∈zs,1<=x.size∧x.size<=63):Nm.eO (Nm.joinL zs)=Nm.joinL (zs.map Nm.small):=by
 simp only [Nm.joinL];rw [Nm.UY zs (fun x hx=>(h x hx).2)];simp [Nm.eO,Nm.low]
theorem aEw{a b:List ByteArray}(ha:∀ x∈a,1<=x.size∧x.size<=63)(hb:∀ x∈b,1<=x.size∧x.size<=63)(wa:Nm.dP a<=254)(wb:Nm.dP b<=254)(h:Nm.joinL a=Nm.joinL b):a=b:=by
 have h1:=tY ha wa;have h2:=tY hb wb;rw [h] at h1;rw [h1] at h2;exact Option.some.inj h2
theorem VB{zs:List ByteArray}(h:∀ x∈zs,1<=x.size∧x.size<=63):∀ x∈zs.map Nm.small,1<=x.size∧x.size<=63:=by
 intro x hx;obtain⟨y,hy,rfl⟩:=List.mem_map.1 hx;rw [Nm.qH];exact h y hy
def dZ(xs ys:List ByteArray):Bool:=decide (ys.length<=xs.length)&&decide (Nm.bJ (xs.drop (xs.length-ys.length)) ys=0)
theorem Kr{zs ys:List ByteArray}{b:ByteArray}(hz:∀ x∈zs,1<=x.size∧x.size<=63)(wz:Nm.dP zs<=254)(hb:Nm.split b=some ys):
 Nm.jA ⟨(Nm.joinL zs).toArray⟩ b=0↔Nm.bJ zs ys=0:=by
 obtain⟨hj,hy⟩:=Nm.kJ hb;obtain⟨wy,wy2⟩:=Nm.gW hb;rw [Nm.jA,qW,nR];simp only
 rw [<- hj,LP hz,LP hy];constructor
 ·intro h;exact aEw (VB hz) (VB hy) (by rw [Nm.AZ];omega) (by rw [Nm.AZ];omega) h
 intro h;rw [h]
def fT(a b:ByteArray):Bool:=
 match Nm.split a,Nm.split b with
 |some xs,some ys=>dZ xs ys
 |_,_=>false
theorem Eu{a b:ByteArray}(h:Nm.split a=none):fT a b=false:=by simp [fT,h]
theorem ZV{a b:ByteArray}(h:Nm.split b=none):fT a b=false:=by
 cases ha:Nm.split a<;>simp [fT,h,ha]
theorem vK{a b:ByteArray}{xs ys:List ByteArray}(ha:Nm.split a=some xs)(hb:Nm.split b=some ys):fT a b=dZ xs ys:=by simp [fT,ha,hb]
theorem aAi{xs:List ByteArray}(h:∀ x∈xs,1<=x.size∧x.size<=63)(k:Nat):∀ x∈xs.drop k,1<=x.size∧x.size<=63:=
 fun x hx=>h x (List.mem_of_mem_drop hx)
theorem Tv{xs ys:List ByteArray}{a b:ByteArray}(ha:Nm.split a=some xs)(hb:Nm.split b=some ys)(hl:ys.length<=xs.length):
 jB ⟨(Nm.joinL (xs.drop (xs.length-ys.length))).toArray⟩ b=dZ xs ys:=by
 have hx:=(Nm.kJ ha).2;have hw:=Nm.gW ha;have hd:=Nm.vG xs (xs.length-ys.length);have hs:=tY (aAi hx (xs.length-ys.length)) (by omega);rw [OX hs hb,dZ];simp only [hl,decide_true,Bool.true_and];rw [Bool.eq_iff_iff];simp only [decide_eq_true_eq];exact Kr (aAi hx _) (by omega) hb
theorem fU{P:Program}(w:World)(dT sT ty elem:TypeId)(g o dLen dCap:Nat)(a:Addr)(sLen sCap:Nat)(cur:Array Value)(t:TypeId)(cs:List Value)(sz:Nat)
 (hu:P.underlying dT=some (.slice elem)) (hs:(P.info? elem).map (·.size)=some sz)
 (hg:w.heap[g]? =some (.cells cur t (0,0))) (hn:cs.length=Nat.min sLen dLen*sz)
 (jT:∀ j v,cs[j]? =some v->w.cell? (a.add j)=some v) (Ev:o+cs.length<=cur.size) (h1:∀ v∈cs,v.oneCell'=true):
 (Builtin.copy_ #[dT,sT] ty #[.slice (some ⟨g,o,none⟩) dLen dCap,.slice (some a) sLen sCap]).run P w=
  .ok (goInt (Nat.min sLen dLen)) (w.setRow g (cur.toList.take o++cs++cur.toList.drop (o+cs.length)).toArray):=by
 have hl:=run_loadCells_list (P:=P) w a cs jT;have oG:=run_storeCells_at P g o t cs 0 cur w hg (by simpa using Ev) h1
 cases hq:P.info? elem with
 |none=>simp [hq] at hs
 |some i=>
  have hi:i.size=sz:=by simpa [hq] using hs
  simp [Builtin.copy_,run_underlying hu,Builtin.lenOf,Builtin.firstCells,sizeOf,typeInfo,hq,hi,<- hn,hl,oG]
theorem uT{P:Program}{ops:Array Oper}{rest:List Oper}{o:Oper}{a:Act}{w:World}{Q:Exit->Act->World->Prop}(Ce:o.guard=none)(s x:Operand)(t t2:TypeId)
 (ho:o.op=.call {callee:=.builtin .append,args:=#[s,x],argTypes:=#[t,t2]}) (v u v':Value) (w':World) (hs:a.eval s=v) (hx:a.eval x=u)
 (hr:(Builtin.append_ #[t,t2] o.type #[v,u]).run P w=.ok v' w') (h:wpList P ops Q rest (a.put o.dst v') w'):wpList P ops Q (o::rest) a w:=
 wpList_plain Ce fun _ hK=>by
  unfold Oper.wp execOp;simp only [ho,resolve,invoke,builtin,Sem.run_bind,Sem.run_pure,Result.andThen_ok,List.map_toArray,List.map_cons,List.map_nil,hs,hx,hr];exact hK _ _ h
theorem iY{w:World}{g:Nat}{cur:Array Value}{t:TypeId}(hg:bG w g cur t)(cs:Array Value):bG (w.setRow g cs) g cs t:=by
 unfold bG at*;have bV:=(Array.getElem?_eq_some_iff.1 hg).1;have he:=(Array.getElem?_eq_some_iff.1 hg).2;simp [World.setRow,Array.getElem?_modify,hg]
theorem setRow_size(w:World)(g:Nat)(cs:Array Value):(w.setRow g cs).heap.size=w.heap.size:=by simp [World.setRow]
theorem oM(w:World)(g:Nat)(cs:Array Value):w.grownBy (w.setRow g cs) (some g):=
 ⟨rfl,rfl,rfl,by rw [setRow_size];exact Nat.le_refl _,fun k hk dQ=>setRow_other w g k cs (fun e=>dQ (by rw [e]))⟩
theorem tC{w:World}{B e s g n cap:Nat}{cur:Array Value}{xs:List Value}(hg:bG w g cur e)(hB:B<=g)(hn:n<=cap)(hm:cap<=maxLen)(hs:cur.size=cap*s)(ht:cur.toList.take (n*s)=xs):w.ownsRow B e s (.slice (some ⟨g,0,none⟩) n cap) n xs:=by
 refine⟨?_,.inr ⟨g,cap,cur,rfl,hB,hg,hn,hm,hs,ht⟩⟩;rw [<- ht,List.length_take,Array.length_toList,hs,Nat.min_eq_left (Nat.mul_le_mul_right _ hn)]
theorem VC{cur xs:List Value}{i n cap:Nat}(x0 x1:Value)(xW:cur.length=cap*2)(ht:cur.take (n*2)=xs)(hi:i<n)(hr:n+1<=cap):
 ∀ c1,c1=cur.take ((i+1)*2)++xs.drop (i*2)++cur.drop ((i+1)*2+(xs.drop (i*2)).length)->c1.length=cap*2∧∀ c2,c2=c1.take (i*2)++[x0,x1]++c1.drop (i*2+[x0,x1].length)->c2.length=cap*2∧c2.take ((n+1)*2)=xs.take (i*2)++[x0,x1]++xs.drop (i*2):=by
 intro c1 h1;have DZ:xs.length=n*2:=by rw [<- ht,List.length_take];omega
 have pF:(xs.drop (i*2)).length=(n-i)*2:=by rw [List.length_drop,DZ];omega
 have htl:(cur.take ((i+1)*2)).length=(i+1)*2:=by rw [List.length_take];omega
 have CX:c1.length=cap*2:=by rw [h1];simp only [List.length_append,htl,pF,List.length_drop];omega
 refine⟨CX,fun c2 h2=>?_⟩
 have e1:c1.take (i*2)=xs.take (i*2):=by
  rw [h1,List.append_assoc,List.take_append,htl,List.take_take,show i*2-(i+1)*2=0 by omega,List.take_zero,List.append_nil,<- ht,List.take_take];congr 1;omega
 have e2:c1.drop (i*2+[x0,x1].length)=xs.drop (i*2)++cur.drop ((i+1)*2+(xs.drop (i*2)).length):=by
  rw [show i*2+[x0,x1].length=(i+1)*2 by simp;omega,h1,List.append_assoc,List.drop_append,htl,Nat.sub_self,List.drop_zero,List.drop_of_length_le (Nat.le_of_eq htl),List.nil_append]
 have hxt:(xs.take (i*2)).length=i*2:=by rw [List.length_take,DZ];omega
 rw [e1,e2] at h2;have hl3:(xs.take (i*2)++[x0,x1]++xs.drop (i*2)).length=(n+1)*2:=by simp only [List.length_append,hxt,pF,List.length_cons,List.length_nil];omega
 have e3:c2=(xs.take (i*2)++[x0,x1]++xs.drop (i*2))++cur.drop ((i+1)*2+(xs.drop (i*2)).length):=by rw [h2];simp only [List.append_assoc]
 refine⟨?_,?_⟩
 ·rw [e3,List.length_append,hl3,List.length_drop,xW,pF];omega
 rw [e3,<- hl3,List.take_left]
theorem VD{xs z:List Value}{i n cap:Nat}(x0 x1:Value)(DZ:xs.length=n*2)(hi:i<n)(hr:n+1<=cap)(hz:(xs.take (i*2)++z).length=cap*2):
 ∀ c1,c1=(xs.take (i*2)++z).take (i*2)++[x0,x1]++(xs.take (i*2)++z).drop (i*2+[x0,x1].length)->c1.length=cap*2∧∀ c2,c2=c1.take ((i+1)*2)++xs.drop (i*2)++c1.drop ((i+1)*2+(xs.drop (i*2)).length)->c2.length=cap*2∧c2.take ((n+1)*2)=xs.take (i*2)++[x0,x1]++xs.drop (i*2):=by
 intro c1 h1;have hxt:(xs.take (i*2)).length=i*2:=by rw [List.length_take,DZ];omega
 have pF:(xs.drop (i*2)).length=(n-i)*2:=by rw [List.length_drop,DZ];omega
 have e1:(xs.take (i*2)++z).take (i*2)=xs.take (i*2):=by
  have:=List.take_left (l₁:=xs.take (i*2)) (l₂:=z);rw [hxt] at this;exact this
 rw [e1] at h1
 have CX:c1.length=cap*2:=by
  rw [h1];simp only [List.length_append,hxt,List.length_drop,List.length_cons,List.length_nil] at hz ⊢;omega
 refine⟨CX,fun c2 h2=>?_⟩;have EI:(xs.take (i*2)++[x0,x1]).length=(i+1)*2:=by simp only [List.length_append,hxt,List.length_cons,List.length_nil];omega
 have e2:c1.take ((i+1)*2)=xs.take (i*2)++[x0,x1]:=by rw [h1,<- EI,List.take_left]
 rw [e2] at h2;have hl3:(xs.take (i*2)++[x0,x1]++xs.drop (i*2)).length=(n+1)*2:=by rw [List.length_append,EI,pF];omega
 refine⟨?_,?_⟩
 ·rw [h2,List.length_append,hl3,List.length_drop,CX,pF];omega
 rw [h2,<- hl3,List.take_left]
def EJ(w:World)(g:Nat)(l:List UInt8):Prop:=∀ j c,l[j]? =some c->w.cell? ⟨g,j,none⟩=some (.int .u8 c.toNat)∧w.frozen? ⟨g,j,none⟩=false
theorem EJ.set{w:World}{g k:Nat}{l:List UInt8}{d:UInt8}(h:EJ w g l)(hk:k<l.length):EJ (w.setCell ⟨g,k,none⟩ (.int .u8 d.toNat)) g (l.set k d):=by
 intro j c hj;obtain⟨x,hx⟩:∃ x,l[k]? =some x:=⟨_,List.getElem?_eq_getElem hk⟩
 by_cases e:k=j
 ·subst e;rw [List.getElem?_set_self hk] at hj;simp at hj;subst hj;exact⟨World.cell?_setCell_same _ _ _ (h k x hx).1,by rw [World.frozen?_setCell];exact(h k x hx).2⟩
 rw [List.getElem?_set_ne e] at hj;refine⟨?_,by rw [World.frozen?_setCell];exact(h j c hj).2⟩;rw [World.cell?_setCell_other w ⟨g,k,none⟩ ⟨g,j,none⟩ _ (by intro h;cases h;exact e rfl)];exact(h j c hj).1
theorem Ck(s:ByteArray)(w:World):∃ cap W,s.size<=cap∧(s.size<=maxLen->cap<=maxLen)∧
 (convert 9 22 (.string s)).run Tryz.prog w=.ok (.slice (some ⟨w.heap.size,0,none⟩) s.size cap) W∧EJ W w.heap.size s.data.toList∧Below w.heap.size w W:=by
 refine⟨_,_,grownCap_ge w s.size 0 5,grownCap_le_maxLen w s.size 0 5,run_bytes_of_string w 9 22 5 s Tryz.underlying9 Tryz.underlying22 Tryz.underlying5,?_,?_⟩
 ·intro j c hj
  have Ew:j<s.data.size:=by
   have:=(List.getElem?_eq_some_iff.1 hj).1;simpa using this
  have hc:s.data[j]=c:=by
   have:=(List.getElem?_eq_some_iff.1 hj).2;simpa using this
  constructor
  ·have e:=cell_of_row (w.drew.alloc (.cells (bytesRow s (grownCap w s.size 0 5)) 5 ((bytesRow s (grownCap w s.size 0 5)).size,(bytesRow s (grownCap w s.size 0 5)).size+1))) w.heap.size j _ 5 _ (heap_alloc_new w.drew _);rw [e,bytesRow_at s _ j Ew,hc]
  have e:=World.frozen?_alloc_mark w.drew (bytesRow s (grownCap w s.size 0 5)) 5 (bytesRow s (grownCap w s.size 0 5)).size ((bytesRow s (grownCap w s.size 0 5)).size+1) j;rw [show w.heap.size=w.drew.heap.size from rfl,e];have:s.data.size<=(bytesRow s (grownCap w s.size 0 5)).size:=by simp [bytesRow]
  simp;omega
 exact((Below.refl _ w).drew).alloc (Nat.le_refl _) _
theorem EK(n:Int)(W:World):
 (convert 22 9 (.slice (some ⟨W.heap.size,0,none⟩) 1 1)).run Tryz.prog (W.alloc (.cells #[.int .u8 n] 5))=.ok (.string ⟨#[UInt8.ofNat n.toNat]⟩) (W.alloc (.cells #[.int .u8 n] 5)):=by
 rw [run_convert_bytes_string _ 22 9 5 _ _ _ Tryz.underlying22 Tryz.underlying5 Tryz.underlying9];have hl:=run_loadCells_list (P:=Tryz.prog) (W.alloc (.cells #[.int .u8 n] 5)) ⟨W.heap.size,0,none⟩ ([n].map (Value.int .u8)) (fun j v hj=>cell_one_new W (.int .u8 n) 5 j v hj);rw [run_bytesToString _ _ 1 1 [n] hl];rfl
theorem ZW(n:Int)(W:World):
 (convert 22 9 (.slice (some ⟨W.heap.size,0,none⟩) 1 1)).run Tryz.prog (W.alloc (.cells #[.int .u8 n] 5)).drew=.ok (.string ⟨#[UInt8.ofNat n.toNat]⟩) (W.alloc (.cells #[.int .u8 n] 5)).drew:=
 EK n W.drew
theorem aI8{a b:ByteArray}(h:a=b):Ending.returned (.string a)=.returned (.string b):=by rw [h]
theorem aEx(n:Nat):UInt8.ofNat (n % 256)=UInt8.ofNat n:=by
 apply UInt8.toNat_inj.1;simp
theorem kI{a b:ByteArray}(h:a.data.toList=b.data.toList):a=b:=by
 apply ByteArray.ext;exact Array.toList_inj.1 h
theorem aBq(s:ByteArray):s.data.toList.length=s.size:=by simp
open Go
theorem wJ{P:Program}{ops:Array Oper}{o:Oper}{a:Act}{w:World}{K:Act->World->Prop}{Q:Exit->Act->World->Prop}{E:Prop}(Ce:o.guard=none)(s x:Operand)(t:TypeId)
 (ho:o.op=.call {callee:=.builtin .append,args:=#[s,x],argTypes:=#[t,t]})
 (base:Nat) (e:TypeId) (i:TypeInfo) (z:Value) (size bytes:Nat) (ht:P.underlying t=some (.slice e)) (hi:P.info? e=some i) (hz:i.zero=some z)
 (Jy:i.size=size) (hby:i.bytes=bytes) (KS:z.cells.size=size) (pQ:0<size)
 (v:Value) (n:Nat) (xs:List Value) (hs:a.eval s=v) (aU:w.ownsRow base e size v n xs)
 (ad:Addr) (m c:Nat) (news:List Value) (hx:a.eval x=.slice (some ad) m c) (hl:news.length=m*size) (Cf:∀ j u,news[j]? =some u->w.cell? (ad.add j)=some u) (h1:∀ u∈news,u.oneCell'=true)
 (h63:n+m<=maxLen) (UX:(n+m)*bytes<=140737488355328) (Jz:base<=w.heap.size)
 (h:∀ v' w',w'.ownsRow base e size v' (n+m) (xs++news)->w.grownBy w' v.ownBlock->(v'=.slice none 0 0↔v=.slice none 0 0∧m=0)->(v'.ownBlock=v.ownBlock∨v'.ownBlock=some w.heap.size)->K (a.put o.dst v') w'):
 if Region.wanted o (yielded ops a.tmps)=true then Oper.wp P o a w K Q else E:=by
 have hw:Region.wanted o (yielded ops a.tmps)=true:=by simp [Region.wanted,Ce]
 rw [if_pos hw];obtain⟨v',w',hr,h2,h3,h4,h5⟩:=run_append_own_at (P:=P) w base t o.type e i z size bytes ht hi hz Jy hby KS pQ v n xs aU ad m c news hl Cf h1 h63 UX Jz;unfold Oper.wp execOp;simp only [ho,resolve,invoke,builtin,Sem.run_bind,Sem.run_pure,Result.andThen_ok,List.map_toArray,List.map_cons,List.map_nil,hs,hx,hr];exact h v' w' h2 h3 h4 h5
end Go.Proofs.YthdpacepbbcocaaGreat
namespace Go.Proofs.YthdpacepbbcocaaGreat.Nm
open Go.RowKit
def marks:List UInt8:=[46,92,34,59,40,41,64,36]
theorem aEy(c:UInt8):[Value.int .u8 (c.toNat:Int)]=QL [c]:=rfl
end Go.Proofs.YthdpacepbbcocaaGreat.Nm
namespace Go.Proofs.YthdpacepbbcocaaGreat
open Go.RowKit
abbrev Wd:=BitVec 32
def wV(x:Wd):Value:=.int .u32 (x.toNat:Int)
def aAj(x:Wd)(n:Nat):Wd:=(x>>>n)|||(x<<<(32-n))
def s0W(x:Wd):Wd:=aAj x 7 ^^^ aAj x 18 ^^^ (x>>>3)
def s1W(y:Wd):Wd:=aAj y 17 ^^^ aAj y 19 ^^^ (y>>>10)
def wF(m:Nat->Wd)(i:Nat):Wd:=if h:i<16 then m i else wF m (i-16)+s0W (wF m (i-15))+wF m (i-7)+s1W (wF m (i-2))
structure Sv where
 a:Wd
 b:Wd
 c:Wd
 d:Wd
 e:Wd
 f:Wd
 g:Wd
 h:Wd
def H0:Sv:=⟨1779033703,3144134277,1013904242,2773480762,1359893119,2600822924,528734635,1541459225⟩
def wA(m:Nat->Wd)(i:Nat):Array Value:=((List.range 64).map fun j=>if j<i then wV (wF m j) else .int .u32 0).toArray
def aOp(w:World)(a:Option Addr)(len cap:Nat)(zs:List Int):Prop:=
 (a=none∧len=0∧cap=0∧zs=[])∨
 ∃ x,a=some x∧len<=cap∧cap<=maxLen∧zs.length=cap∧(∀ i,i<zs.length->w.cell? (x.add i)=some (.int .u8 (zs.getD i 0)))∧∀ n∈zs,(Lit.int .u8 n).wf=true
theorem aOq{z:Int}(h:(Lit.int .u8 z).wf=true):((UInt8.ofNat z.toNat).toNat:Int)=z:=by
 have h2:=bounds_u8 h;simp
 omega
theorem aSq{w:World}{a:Option Addr}{n cap:Nat}{zs:List Int}(h:aOp w a n cap zs):∃ l:List UInt8,l.length=n∧bS w (.slice a n cap) n 1 (Nm.QL l):=by
 rcases h with⟨rfl,rfl,rfl,rfl⟩|⟨x,rfl,hl,hm,hz,hc,hw⟩
 ·exact⟨[],rfl,rfl,none,0,rfl,Nat.le_refl _,by decide,fun h=>by omega⟩
 have hlen:((zs.take n).map (fun z=>UInt8.ofNat z.toNat)).length=n:=by simp;omega
 refine⟨(zs.take n).map (fun z=>UInt8.ofNat z.toNat),hlen,by rw [Nm.AX,hlen,Nat.mul_one],some x,cap,rfl,hl,hm,fun hp=>?_⟩
 have hs:x.spot=none:=by
  have:=World.cell?_spot (hc 0 (by omega));simpa [Addr.add] using this
 obtain⟨b,off,sp⟩:=x;simp only at hs
 subst hs;refine⟨b,off,rfl,fun i y hy=>?_⟩
 have hi:i<n:=by
  have:=(List.getElem?_eq_some_iff.1 hy).1
  rwa [Nm.AX,hlen] at this
 rw [<- Nm.addr_add,hc i (by omega),<- hy];have hz:zs[i]? =some (zs.getD i 0):=by rw [List.getD_eq_getElem?_getD,List.getElem?_eq_getElem (by omega)];rfl
 rw [Nm.QL,List.getElem?_map,List.getElem?_map,List.getElem?_take,if_pos hi,hz];simp only [Option.map_some];rw [aOq (hw _ (List.mem_of_getElem? hz))]
theorem Tryz.aMi:(Tryz.prog.info? 5).map (fun i=>(i.zero,i.size,i.bytes))=some (some (.int .u8 0),1,1):=by kernel_rfl
abbrev aSr(w:World)(v:Value)(l:List UInt8):Prop:=bS w v l.length 1 (Nm.QL l)
end Go.Proofs.YthdpacepbbcocaaGreat
namespace Go.Proofs.YthdpacepbbcocaaGreat.Nm
open Go.RowKit
section
variable {s:ByteArray}{st:Bool}{k:Nat}{now:List UInt8}{done:List ByteArray}
end
end Go.Proofs.YthdpacepbbcocaaGreat.Nm
namespace Go.Proofs.YthdpacepbbcocaaGreat
open Go.RowKit
theorem Tryz.aOr:(Tryz.prog.info? 5).map (fun i=>(i.zero,i.size,i.bytes))=some (some (.int .u8 0),1,1):=by kernel_rfl
abbrev aAk(t:Nat):Prop:=t=2∨t=5∨t=6∨t=12∨t=15
