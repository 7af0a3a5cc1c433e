import Derived.Test.YtlddifpnkeafpaaGreatRows
import Derived.WalkSpells
import Derived.WalkLawsBesides
import Derived.Lib.BufferWrite
import Derived.Lib.AppendZerosOnto
import Derived.Lib.Overlaps
import Derived.Deep.OwnRows
import Derived.OpenShut
set_option linter.unusedVariables false
set_option maxRecDepth 100000
set_option maxHeartbeats 800000
namespace Go.Proofs.YtlddifpnkeafpaaGreat
open Go.RowKit
variable {B b c cap e f g i k n:Nat}{P:Program}{T:TypeId}{W w w' w1 w2 wr:World}{a last:Int}{cs:Array Value}{d r x:ByteArray}{l:List UInt8}{ls:List ByteArray}{v v':Value}{xs:List Value}
theorem gF{α:Type _}{l:List α}(h:i<l.length):l[i]? =some l[i]:=List.getElem?_eq_getElem h
theorem dL{α:Type _}{l:List α}{a:α}(h:l[i]? =some a):∃ h:i<l.length,l[i]=a:=List.getElem?_eq_some_iff.1 h
theorem dA{α:Type _}{l:List α}{a:α}(h:l[i]? =some a):a∈l:=List.mem_of_getElem? h
theorem aI(n:Nat):n<=n:=Nat.le_refl n
theorem aJ(B:Nat)(w:World):Below B w w:=Below.refl B w
theorem aV{a b:Prop}(x:a)(y:b):a∧b:=⟨x,y⟩
theorem fC{α:Type _}[BEq α][LawfulBEq α]{a b:α}:(a==b)=false↔a≠b:=beq_eq_false_iff_ne
theorem dR(n:Nat):0<=n:=Nat.zero_le n
theorem fD(w:World)(a:Addr){u:Value}(h:w.cell? a=some u):a.block<w.heap.size:=World.block_lt_of_cell? w a h
theorem jI{α:Type _}{a b:α}(h:some a=some b):a=b:=Option.some.inj h
theorem oF{p:Prop}[Decidable p](h:¬p):decide p=false:=decide_eq_false h
theorem oI{p:Prop}[Decidable p](h:p):decide p=true:=decide_eq_true h
theorem jN{a:Nat}(h:a<=b)(g:b<=c):a<=c:=Nat.le_trans h g
theorem vF{a:Nat}(h:a<b)(g:b<=c):a<c:=Nat.lt_of_lt_of_le h g
theorem jO(w:World)(o:Obj):(w.alloc o).heap.size=w.heap.size+1:=World.size_alloc w o
theorem oJ{α:Type _}{l m:List α}:(l++m).length=l.length+m.length:=List.length_append
theorem kU{a b:ByteArray}:(a++b).size=a.size+b.size:=ByteArray.size_append
theorem gK(a:Option Addr)(n c:Nat)(b:Option Addr)(m d:Nat):(Value.slice a n c=Value.slice b m d)=(a=b∧n=m∧c=d):=Value.slice.injEq a n c b m d
theorem iU{α:Type _}{a:α}{s t:List α}(h:a∈s++t):a∈s∨a∈t:=List.mem_append.1 h
theorem kJ{α β:Type _}{b:β}{f:α->β}{l:List α}(h:b∈List.map f l):∃ a,a∈l∧f a=b:=List.mem_map.1 h
theorem eB{fn:Func}{R:Ending->World->Prop}{a:Act}(h:Sem.run P (results fn a.tmps) w=Result.ok v w)(hd:a.defers=[])(hr:R (.returned v) w):bodyPost P fn R .ret a w:=bodyPost_ret h hd hr
theorem mV{α:Type _}(a b:α):(some a=some b)=(a=b):=Option.some.injEq a b
theorem gQ{α:Type _}{l:List α}(h:i<l.length):∃ x,l[i]? =some x:=⟨_,List.getElem?_eq_getElem h⟩
theorem fE(k:Nat):(0:Int)<=(k:Int):=by omega
namespace Nm
def jK:Nat->ByteArray->Option (List ByteArray)
 |0,_=>none
 |f+1,r=>
  if h:0<r.size then
   if r[0].toNat=0 then(if r.size=1 then some [] else none)
   else if 63<r[0].toNat∨r.size<r[0].toNat+1 then none
   else(jK f (r.extract (r[0].toNat+1) r.size)).map (fun ls=>r.extract 1 (r[0].toNat+1)::ls)
  else none
def split(s:ByteArray):Option (List ByteArray):=if s.size<=255 then jK 256 s else none
theorem sP(f:Nat)(r:ByteArray)(h:r.size=0):jK f r=none:=by
 cases f with
 |zero=>rfl
 |succ f=>rw [jK,dif_neg (by omega)]
theorem xS(f:Nat)(r:ByteArray)(h:0<r.size)(h0:r[0].toNat=0)(h1:r.size=1):jK (f+1) r=some []:=by
 rw [jK,dif_pos h,if_pos h0,if_pos h1]
theorem zK(f:Nat)(r:ByteArray)(h:0<r.size)(h0:r[0].toNat=0)(h1:r.size≠1):jK (f+1) r=none:=by
 rw [jK,dif_pos h,if_pos h0,if_neg h1]
theorem DF(f:Nat)(r:ByteArray)(h:0<r.size)(h0:r[0].toNat≠0)(h1:63<r[0].toNat∨r.size<r[0].toNat+1):jK (f+1) r=none:=by
 rw [jK,dif_pos h,if_neg h0,if_pos h1]
theorem rP(f:Nat)(r:ByteArray)(h:0<r.size)(h0:r[0].toNat≠0)(h1:r[0].toNat<=63)(h2:r[0].toNat+1<=r.size):
 jK (f+1) r=(jK f (r.extract (r[0].toNat+1) r.size)).map (fun ls=>r.extract 1 (r[0].toNat+1)::ls):=by
 rw [jK,dif_pos h,if_neg h0,if_neg (by omega)]
theorem DI(s:ByteArray)(h:255<s.size):split s=none:=by rw [split,if_neg (by omega)]
theorem rQ(s:ByteArray)(h:s.size<=255):split s=jK 256 s:=by rw [split,if_pos h]
def At(s:ByteArray)(ls:List ByteArray)(r:ByteArray):Prop:=
 ∃ f,r.size<f∧split s=(jK f r).map (fun t=>ls++t)
theorem YE(s:ByteArray)(h:s.size<=255):At s [] s:=⟨256,by omega,by rw [rQ s h];simp⟩
theorem YF{s:ByteArray}(h:At s ls r)(h0:r.size=0):split s=none:=by
 obtain⟨f,_,e⟩:=h;rw [e,sP f r h0];rfl
theorem at_end{s:ByteArray}(h:At s ls r)(hp:0<r.size)(h0:r[0].toNat=0)(h1:r.size=1):split s=some ls:=by
 obtain⟨f,hf,e⟩:=h;obtain⟨g,rfl⟩:∃ g,f=g+1:=⟨f-1,by omega⟩;rw [e,xS g r hp h0 h1];simp
theorem J4{s:ByteArray}(h:At s ls r)(hp:0<r.size)(h0:r[0].toNat=0)(h1:r.size≠1):split s=none:=by
 obtain⟨f,hf,e⟩:=h;obtain⟨g,rfl⟩:∃ g,f=g+1:=⟨f-1,by omega⟩;rw [e,zK g r hp h0 h1];rfl
theorem Wo{s:ByteArray}(h:At s ls r)(hp:0<r.size)(h0:r[0].toNat≠0)(h1:63<r[0].toNat∨r.size<r[0].toNat+1):split s=none:=by
 obtain⟨f,hf,e⟩:=h;obtain⟨g,rfl⟩:∃ g,f=g+1:=⟨f-1,by omega⟩;rw [e,DF g r hp h0 h1];rfl
theorem J5{s:ByteArray}(h:At s ls r)(hp:0<r.size)(h0:r[0].toNat≠0)(h1:r[0].toNat<=63)(h2:r[0].toNat+1<=r.size):
 At s (ls++[r.extract 1 (r[0].toNat+1)]) (r.extract (r[0].toNat+1) r.size):=by
 obtain⟨f,hf,e⟩:=h;obtain⟨g,rfl⟩:∃ g,f=g+1:=⟨f-1,by omega⟩;refine⟨g,by simp;omega,?_⟩;rw [e,rP g r hp h0 h1 h2,Option.map_map];congr 1;funext t;simp
theorem Wp(r:ByteArray):r.toList.length=r.size:=by rw [ByteArray.toList_eq];simp
theorem aKi(h:0<r.size)(h1:r.size=1)(h0:r[0].toNat=0):(r.toList==[0])=true:=by
 rw [beq_iff_eq,ByteArray.toList_eq];refine List.ext_getElem (by simpa using h1) ?_;intro i hi hj;have:i=0:=by simpa using hj
 subst this;have e:r.data.toList[0]=r[0]:=rfl;rw [e];exact UInt8.toNat_inj.1 (by simpa using h0)
theorem Wq(h:0<r.size)(h1:¬(r.size=1∧r[0].toNat=0)):(r.toList==[0])=false:=by
 rw [beq_eq_false_iff_ne];intro e;rw [ByteArray.toList_eq] at e;apply h1;refine⟨by have:=congrArg List.length e;simpa using this,?_⟩;have g:r.data.toList[0]? =some 0:=by rw [e];rfl
 have g2:r.data.toList[0]? =some r[0]:=List.getElem?_eq_getElem (by simpa using h);rw [g2] at g;have g3:r[0]=0:=by simpa using g
 rw [g3];rfl
theorem YG(h:r.size=0):r.toList.isEmpty=true:=by
 rw [List.isEmpty_iff,<- List.length_eq_zero_iff,Wp];exact h
theorem OL(h:0<r.size):r.toList.isEmpty=false:=by
 rw [Bool.eq_false_iff];intro e;rw [List.isEmpty_iff,<- List.length_eq_zero_iff,Wp] at e;omega
theorem one_cell(x:Value)(h:x.oneCell'=true):∀ u:Value,u∈[x]->u.oneCell'=true:=by
 intro u hu;simp at hu;subst hu;exact h
end Nm
theorem Tryz.wM:(Tryz.prog.info? 9).map (fun i=>(i.zero,i.size,i.bytes))=some (some (.string ByteArray.empty),1,16):=by kernel_rfl
theorem lY(hB:B<=wr.heap.size)
 (aU:wr.ownsRow B e 1 v ls.length (ls.map Value.string)) (aG:Below B W wr) (o:Obj)
 (dE:w1.ownsRow B e 1 v' (ls.length+1) (ls.map Value.string++[.string x])) (bU:(wr.alloc o).grownBy w1 v.ownBlock):
 w1.ownsRow B e 1 v' (ls++[x]).length ((ls++[x]).map Value.string)∧Below B W w1:=by
 refine⟨by simpa using dE,?_⟩;refine(aG.alloc hB o).grown bU (by simp;omega) ?_;intro k hk;exact(aU.lt k hk).1
theorem lZ(w:World)(x:Value)(e:Nat):∀ (j:Nat) (u:Value),[x][j]? =some u->(w.alloc (.cells #[x] e)).cell? ((⟨w.heap.size,0,none⟩:Addr).add j)=some u:=by
 intro j u hj
 match j,hj with
 |0,hj=>simp at hj;subst hj;simp [Addr.add]
theorem own_below{s:Nat}(h:w.ownsRow B e s v n xs)(hb:Below w.heap.size w w'):w'.ownsRow B e s v n xs:=
 h.kept (row:=none) ⟨hb.os,hb.tape,hb.output,hb.size,fun k hk _=>hb.block k hk⟩ (by cases v.ownBlock<;>simp)
theorem fM{B' s:Nat}(h:w.ownsRow B e s v n xs)(hb:B'<=B):w.ownsRow B' e s v n xs:=by
 refine⟨h.1,?_⟩
 rcases h.2 with hn|⟨g,cap,cur,hv,Dj,rest⟩
 ·exact .inl hn
 exact .inr ⟨g,cap,cur,hv,Nat.le_trans hb Dj,rest⟩
namespace Nm
def cK:List ByteArray->Nat
 |[]=>0
 |l::r=>(1+l.size)+cK r
def uE:List ByteArray->List UInt8
 |[]=>[]
 |l::r=>(UInt8.ofNat l.size::l.data.toList)++uE r
def joinL(ls:List ByteArray):List UInt8:=uE ls++[0]
theorem aD{p:Prop}(h:p):Hid p:=h
theorem mP(a b:List ByteArray):cK (a++b)=cK a+cK b:=by
 induction a with
 |nil=>simp [cK]
 |cons x a ih=>simp only [List.cons_append,cK,ih];omega
theorem Ng(a b:List ByteArray):uE (a++b)=uE a++uE b:=by
 induction a with
 |nil=>simp [uE]
 |cons x a ih=>simp [uE,ih]
theorem UK(ls:List ByteArray):(uE ls).length=cK ls:=by
 induction ls with
 |nil=>rfl
 |cons x a ih=>simp only [uE,cK,List.length_append,List.length_cons,ih,Array.length_toList,ByteArray.size_data];omega
theorem mW(ls:List ByteArray):(joinL ls).length=cK ls+1:=by simp [joinL,UK]
theorem bL(ls:List ByteArray):ls.length<=cK ls:=by
 induction ls with
 |nil=>simp
 |cons x a ih=>simp only [cK,List.length_cons];omega
theorem jJ{α:Type}{ls:List α}{x:α}(h:ls[k]? =some x):ls.take (k+1)=ls.take k++[x]:=by
 obtain⟨hk,e⟩:=List.getElem?_eq_some_iff.1 h;rw [List.take_succ_eq_append_getElem hk,e]
theorem JY(h:ls[k]? =some x):cK (ls.take (k+1))=cK (ls.take k)+(1+x.size):=by
 rw [jJ h,mP];simp [cK]
theorem Gb(h:ls[k]? =some x):uE (ls.take (k+1))=uE (ls.take k)++(UInt8.ofNat x.size::x.data.toList):=by
 rw [jJ h,Ng];simp [uE]
theorem jT(ls:List ByteArray)(k:Nat):cK (ls.take k)<=cK ls:=by
 have e:=mP (ls.take k) (ls.drop k);rw [List.take_append_drop] at e;omega
def LF(l:List UInt8):List Value:=l.map fun b=>Value.int .u8 b.toNat
theorem DJ(a b:List UInt8):LF (a++b)=LF a++LF b:=by simp [LF]
theorem xU(a:List UInt8):(LF a).length=a.length:=by simp [LF]
def bP(w:World)(v:Value)(ls:List ByteArray):Prop:=
 ∃ a cap,v=.slice a ls.length cap∧ls.length<=cap∧cap<=maxLen∧(a=none->cap=0)∧
   (ls≠[]->∃ b off,a=some ⟨b,off,none⟩∧∀ i x,ls[i]? =some x->w.cell? ⟨b,off+i,none⟩=some (.string x))
theorem bP.aP(h:w.ownsRow B e 1 v ls.length (ls.map Value.string)):bP w v ls:=by
 rcases h.2 with⟨rfl,h0⟩|⟨g,cap,cur,rfl,hb,hg,hn,hm,hs,ht⟩
 ·have:ls=[]:=List.length_eq_zero_iff.1 h0;subst this;exact⟨none,0,rfl,by simp,by decide,fun _=>rfl,fun h=>absurd rfl h⟩
 refine⟨_,cap,rfl,hn,hm,(fun h=>by cases h),fun _=>⟨g,0,rfl,?_⟩⟩;intro i x hx;obtain⟨hi,e⟩:=List.getElem?_eq_some_iff.1 hx;rw [Nat.zero_add,h.cellAt i (by omega)];simp [hx]
theorem bP.below(h:bP w v ls)(hb:Below w.heap.size w w'):bP w' v ls:=by
 obtain⟨a,cap,rfl,h1,h2,Ws,h3⟩:=h;refine⟨a,cap,rfl,h1,h2,Ws,fun dM=>?_⟩;obtain⟨b,off,rfl,hc⟩:=h3 dM;refine⟨b,off,rfl,fun i x hx=>?_⟩;have:=hc i x hx;rw [hb.cell (World.block_lt_of_cell? w _ this)];exact this
theorem aC(h1:Below w.heap.size w w1)(h2:Below w1.heap.size w1 w2):Below w.heap.size w w2:=
 h1.trans (h2.mono h1.size)
theorem GA{m:Nat}{x:List UInt8}(hB:B<=wr.heap.size)
 (aU:wr.ownsRow B e 1 v n (LF l)) (aG:Below B W wr)
 (dE:w1.ownsRow B e 1 v' (n+m) (LF l++LF x)) (bU:wr.grownBy w1 v.ownBlock):
 w1.ownsRow B e 1 v' (n+m) (LF (l++x))∧Below B W w1:=by
 refine⟨by rw [DJ];exact dE,?_⟩;exact aG.grown bU hB (fun k hk=>(aU.lt k hk).1)
theorem OM(hB:B<=wr.heap.size)
 (aU:wr.ownsRow B e 1 v n (LF l)) (aG:Below B W wr)
 (dE:w1.ownsRow B e 1 v' (n+x.size) (LF l++Go.Lib.strCells x)) (bU:wr.grownBy w1 v.ownBlock):
 w1.ownsRow B e 1 v' (n+x.size) (LF (l++x.data.toList))∧Below B W w1:=
 GA hB aU aG dE bU
theorem OP{src dst:Nat}(hs:P.underlying src=some (.slice e))(he:P.underlying e=some (.int .u8))(hd:P.underlying dst=some .string)
 (h:w.ownsRow B e 1 v n (LF l)) (hp:0<n):
 ∃ g cap,v=.slice (some ⟨g,0,none⟩) n cap∧(convert src dst (.slice (some ⟨g,0,none⟩) n cap)).run P w=.ok (.string ⟨l.toArray⟩) w:=by
 have hn:n=l.length:=by have:=h.1;rw [xU] at this;omega
 subst hn
 rcases h.2 with⟨rfl,h0⟩|⟨g,cap,cur,rfl,hb,hg,Nh,hm,rT,ht⟩
 ·omega
 refine⟨g,cap,rfl,run_convert_bytes_back w src dst e ⟨g,0,none⟩ cap l hs he hd ?_⟩;intro j hj;exact h.cells (g:=g) rfl j _ (by simp [LF,hj])
theorem addr_add(b off k:Nat):(⟨b,off,none⟩:Addr).add k=⟨b,off+k,none⟩:=by
 unfold Addr.add;split<;>simp_all
theorem bP.AY{a:Option Addr}(h:bP w (.slice a ls.length cap) ls)(hk:cap=k):bP w (.slice a (ls.length-k) 0) (ls.drop k):=by
 obtain⟨a',cap',e,h1,h2,h3,h4⟩:=h;simp only [Value.slice.injEq] at e;obtain⟨rfl,_,rfl⟩:=e;have hd:ls.drop k=[]:=List.drop_eq_nil_of_le (by omega);rw [hd];exact⟨a,0,by simp;omega,by simp,by decide,fun _=>rfl,fun h=>absurd rfl h⟩
theorem bP.drop{a:Option Addr}(h:bP w (.slice a ls.length cap) ls)(hk:k<=ls.length):
 bP w (.slice (a.map (fun x=>x.add k)) (ls.length-k) (cap-k)) (ls.drop k):=by
 obtain⟨a',cap',e,h1,h2,h3,h4⟩:=h;simp only [Value.slice.injEq] at e;obtain⟨rfl,_,rfl⟩:=e;refine⟨_,_,by rw [List.length_drop],by rw [List.length_drop];omega,by omega,?_,?_⟩
 ·intro h;simp at h;have:=h3 h;omega
 intro dM;obtain⟨b,off,rfl,hc⟩:=h4 (by intro h;rw [h] at dM;simp at dM);refine⟨b,off+k,by simp [addr_add],?_⟩;intro i x hx;rw [List.getElem?_drop] at hx;rw [Nat.add_assoc];exact hc _ _ hx
theorem pG(ls:List ByteArray)(k:Nat):cK (ls.drop k)<=cK ls:=by
 have e:=mP (ls.take k) (ls.drop k);rw [List.take_append_drop] at e;omega
theorem Ni:∀ (f:Nat) (r:ByteArray) (ls:List ByteArray),jK f r=some ls->cK ls+1=r.size:=by
 intro f
 induction f with
 |zero=>intro r ls h;simp [jK] at h
 |succ f ih=>
  intro r ls h
  by_cases hp:0<r.size
  ·by_cases h0:r[0].toNat=0
   ·by_cases h1:r.size=1
    ·rw [xS f r hp h0 h1] at h;simp at h;subst h;simp [cK];omega
    rw [zK f r hp h0 h1] at h;simp at h
   by_cases h1:63<r[0].toNat∨r.size<r[0].toNat+1
   ·rw [DF f r hp h0 h1] at h;simp at h
   rw [rP f r hp h0 (by omega) (by omega)] at h
   cases e:jK f (r.extract (r[0].toNat+1) r.size) with
   |none=>rw [e] at h;simp at h
   |some t=>
    rw [e] at h;simp at h;have:=ih _ _ e;rw [<- h];simp at this;simp [cK];omega
  rw [sP _ r (by omega)] at h;simp at h
theorem dK{s:ByteArray}(h:split s=some ls):cK ls+1=s.size∧s.size<=255:=by
 by_cases hl:s.size<=255
 ·rw [rQ s hl] at h;exact⟨Ni _ _ _ h,hl⟩
 rw [DI s (by omega)] at h;simp at h
end Nm
def dZ(w:World)(v:Value)(n s:Nat)(cs:List Value):Prop:=
 cs.length=n*s∧∃ a cap,v=.slice a n cap∧n<=cap∧cap<=maxLen∧
  (0<n->∃ b off,a=some ⟨b,off,none⟩∧∀ (i:Nat) (x:Value),cs[i]? =some x->w.cell? ⟨b,off+i,none⟩=some x)
theorem dZ.aP{s:Nat}{cs:List Value}(h:w.ownsRow B e s v n cs):dZ w v n s cs:=by
 refine⟨h.1,?_⟩
 rcases h.2 with⟨rfl,h0⟩|⟨g,cap,cur,rfl,hb,hg,hn,hm,hs,ht⟩
 ·subst h0;exact⟨none,0,rfl,Nat.le_refl _,by decide,fun h=>by omega⟩
 refine⟨_,cap,rfl,hn,hm,fun _=>⟨g,0,rfl,?_⟩⟩;intro i x hx;have hi:i<n*s:=by rw [<- h.1];exact(List.getElem?_eq_some_iff.1 hx).1
 rw [Nat.zero_add,h.cellAt i hi];exact hx
theorem dZ.below{s:Nat}{cs:List Value}(h:dZ w v n s cs)(hb:Below w.heap.size w w'):dZ w' v n s cs:=by
 obtain⟨h0,a,cap,rfl,h1,h2,h3⟩:=h;refine⟨h0,a,cap,rfl,h1,h2,fun hp=>?_⟩;obtain⟨b,off,rfl,hc⟩:=h3 hp;refine⟨b,off,rfl,fun i x hx=>?_⟩;have:=hc i x hx;rw [hb.cell (World.block_lt_of_cell? w _ this)];exact this
theorem AZ(h:w.grownBy w1 (some g))(h2:w1.grownBy w2 (some g)):w.grownBy w2 (some g):=
 ⟨h2.os.trans h.os,h2.tape.trans h.tape,h2.output.trans h.output,Nat.le_trans h.size h2.size,fun k hk dM=>(h2.block k (Nat.lt_of_lt_of_le hk h.size) dM).trans (h.block k hk dM)⟩
theorem V_(h:w.grownBy w1 (some g))(h2:Below w1.heap.size w1 w2):w.grownBy w2 (some g):=
 ⟨h2.os.trans h.os,h2.tape.trans h.tape,h2.output.trans h.output,Nat.le_trans h.size h2.size,fun k hk dM=>
  (h2.block k (Nat.lt_of_lt_of_le hk h.size)).trans (h.block k hk dM)⟩
def bW(w:World)(b:Nat)(cs:Array Value)(T:TypeId):Prop:=w.heap[b]? =some (.cells cs T (0,0))
theorem cO(h:bW w b cs T):b<w.heap.size:=(Array.getElem?_eq_some_iff.1 h).1
theorem aO{row:Option Nat}(h:bW w b cs T)(hg:w.grownBy w1 row)(hr:row≠some b):bW w1 b cs T:=by
 unfold bW;rw [hg.block b (cO h) (fun e=>hr e.symm)];exact h
theorem aB(h:bW w b cs T)(hb:Below w.heap.size w w1):bW w1 b cs T:=by
 unfold bW;rw [hb.block b (cO h)];exact h
theorem aK(w:World)(cs:Array Value)(T:TypeId):bW (w.alloc (.cells cs T)) w.heap.size cs T:=by
 unfold bW;show(w.heap.push _)[w.heap.size]? =_;simp
theorem bD(h:bW w b cs T)(o:Obj):bW (w.alloc o) b cs T:=
 aB h ((Below.refl _ _).alloc (Nat.le_refl _) o)
theorem aA(h:bW w b cs T)(i:Nat):w.cell? ⟨b,i,none⟩=cs[i]? :=cell_of_row _ _ _ _ _ _ h
theorem aF(h:bW w b cs T)(i:Nat):w.frozen? ⟨b,i,none⟩=false:=frozen_of_row w b i _ _ h
theorem aM(h:bW w b cs T)(i:Nat)(v:Value):bW (w.setCell ⟨b,i,none⟩ v) b (cs.setIfInBounds i v) T:=heap_setCell_same w b i _ _ v h
theorem eU(h:bW w b cs T)(dM:b≠c):bW (w.setCell ⟨c,i,none⟩ v) b cs T:=by
 unfold bW;rw [heap_setCell_other w ⟨c,i,none⟩ b _ (by simpa using dM)];exact h
def bG(w:World)(b i:Nat):List Value->World
 |[]=>w
 |v::vs=>bG (w.setCell ⟨b,i,none⟩ v) b (i+1) vs
theorem Nj:∀ (vs old pre:List Value) (w:World),bW w b (pre++old).toArray T->old.length=vs.length->bW (bG w b pre.length vs) b (pre++vs).toArray T:=by
 intro vs
 induction vs with
 |nil=>
  intro old pre w h hl;have:old=[]:=List.length_eq_zero_iff.1 hl;subst this
  exact h
 |cons v vs ih=>
  intro old pre w h hl
  cases old with
  |nil=>simp at hl
  |cons x old=>
   have h2:=aM h pre.length v;have e:(pre++x::old).toArray.setIfInBounds pre.length v=((pre++[v])++old).toArray:=by simp
   rw [e] at h2;have h3:=ih old (pre++[v]) _ h2 (by simpa using hl);rw [List.length_append] at h3;simpa [bG] using h3
theorem dH{old:Array Value}(vs:List Value)(h:bW w b old T)(hl:old.size=vs.length):bW (bG w b 0 vs) b vs.toArray T:=by
 have:=Nj vs old.toList [] w (by simpa using h) (by simpa using hl);simpa using this
theorem fO(h:bW w b cs T):bW w.drew b cs T:=h
namespace Nm
def low(c:UInt8):UInt8:=if 65<=c.toNat∧c.toNat<=90 then UInt8.ofNat (c.toNat+32) else c
def eX(l:List UInt8):List UInt8:=l.map low
def small(s:ByteArray):ByteArray:=⟨(eX s.data.toList).toArray⟩
theorem Im{c:UInt8}(h:65<=c.toNat∧c.toNat<=90):((low c).toNat:Int)=(c.toNat:Int)+32:=by
 rw [low,if_pos h];simp;omega
theorem MX{c:UInt8}(h:¬(65<=c.toNat∧c.toNat<=90)):low c=c:=by rw [low,if_neg h]
theorem eF(s:ByteArray):(small s).data.toList=eX s.data.toList:=by simp [small]
theorem qW(s:ByteArray):(small s).size=s.size:=by
 have:(small s).data.toList.length=s.data.toList.length:=by rw [eF];simp [eX]
 simpa using this
theorem lL{a b:ByteArray}(h:a.data.toList=b.data.toList):a=b:=by
 apply ByteArray.ext;exact Array.toList_inj.1 h
theorem Nk{c:UInt8}(h:l[k]? =some c):eX (l.take (k+1))=eX (l.take k)++[low c]:=by
 rw [jJ h];simp [eX]
theorem lF{j:Nat}(h:j<x.size):x.data.toList[j]? =some x[j]:=by
 rw [List.getElem?_eq_getElem (by simpa using h)];rfl
theorem Nl(r:ByteArray)(h:0<r.size)(n:Nat):
 r.data.toList=r[0]::((r.extract 1 (n+1)).data.toList++(r.extract (n+1) r.size).data.toList):=by
 have e0:r.data.toList=r[0]::r.data.toList.drop 1:=by
  have hl:0<r.data.toList.length:=by simpa using h
  have:=List.drop_eq_getElem_cons (i:=0) hl;rw [List.drop_zero] at this;exact this
 rw [e0];congr 1;have e1:(r.extract 1 (n+1)).data.toList=(r.data.toList.drop 1).take n:=by simp
 have e2:(r.extract (n+1) r.size).data.toList=(r.data.toList.drop 1).drop n:=by
  simp only [ByteArray.data_extract,Array.toList_extract,List.drop_drop];rw [List.extract_eq_take_drop,List.take_of_length_le (by simp)];congr 1;omega
 rw [e1,e2,List.take_append_drop]
theorem Nn:∀ (f:Nat) (r:ByteArray) (ls:List ByteArray),jK f r=some ls->joinL ls=r.data.toList∧∀ x∈ls,1<=x.size∧x.size<=63:=by
 intro f
 induction f with
 |zero=>intro r ls h;simp [jK] at h
 |succ f ih=>
  intro r ls h
  by_cases hp:0<r.size
  ·by_cases h0:r[0].toNat=0
   ·by_cases h1:r.size=1
    ·rw [xS f r hp h0 h1] at h;simp at h;subst h;refine⟨?_,by simp⟩;have e:=Nl r hp 0;have z:r[0]=0:=UInt8.toNat_inj.1 (by simpa using h0);rw [e,z];have e1:(r.extract 1 (0+1)).data.toList=[]:=by simp
     have e2:(r.extract (0+1) r.size).data.toList=[]:=by simp [h1]
     rw [e1,e2];rfl
    rw [zK f r hp h0 h1] at h;simp at h
   by_cases h1:63<r[0].toNat∨r.size<r[0].toNat+1
   ·rw [DF f r hp h0 h1] at h;simp at h
   rw [rP f r hp h0 (by omega) (by omega)] at h
   cases e:jK f (r.extract (r[0].toNat+1) r.size) with
   |none=>rw [e] at h;simp at h
   |some t=>
    rw [e] at h;simp at h;obtain⟨i1,i2⟩:=ih _ _ e;have qA:(r.extract 1 (r[0].toNat+1)).size=r[0].toNat:=by simp;omega
    rw [<- h];constructor
    ·rw [Nl r hp r[0].toNat,<- i1];simp only [joinL,uE,qA];simp
    intro x hx
    rcases List.mem_cons.1 hx with rfl|hx
    ·rw [qA];omega
    exact i2 x hx
  rw [sP _ r (by omega)] at h;simp at h
theorem jB{s:ByteArray}(h:split s=some ls):joinL ls=s.data.toList∧∀ x∈ls,1<=x.size∧x.size<=63:=by
 by_cases hl:s.size<=255
 ·rw [rQ s hl] at h;exact Nn _ _ _ h
 rw [DI s (by omega)] at h;simp at h
theorem aHe(h:n<=63):low (UInt8.ofNat n)=UInt8.ofNat n:=by
 apply MX
 simp;omega
theorem YH(ls:List ByteArray)(h:∀ x∈ls,x.size<=63):uE (ls.map small)=eX (uE ls):=by
 induction ls with
 |nil=>rfl
 |cons x r ih=>
  have hx:=h x (List.mem_cons_self);have:=ih (fun y hy=>h y (List.mem_cons_of_mem _ hy));simp only [List.map_cons,uE,qW,eF,this];simp [eX,aHe hx]
theorem vG{s:ByteArray}(h:split s=some ls):(⟨(joinL (ls.map small)).toArray⟩:ByteArray)=small s:=by
 obtain⟨h1,h2⟩:=jB h;apply lL;rw [eF,<- h1];simp only [joinL];rw [YH ls (fun x hx=>(h2 x hx).2)];simp [eX,low]
theorem DK(ls:List ByteArray):cK (ls.map small)=cK ls:=by
 induction ls with
 |nil=>rfl
 |cons x r ih=>simp only [List.map_cons,cK,qW,ih]
def dV(s:ByteArray):ByteArray:=if(split s).isSome then small s else ByteArray.empty
theorem MZ{s:ByteArray}(h:split s=none):dV s=ByteArray.empty:=by simp [dV,h]
theorem oK{s:ByteArray}(h:split s=some ls):dV s=small s:=by simp [dV,h]
def pI(a b:Int):Int:=if a<b then -1 else if b<a then 1 else 0
def iV(a b:List UInt8):Int:=if Op.bytesLess a b=true then -1 else if a=b then 0 else 1
theorem pJ{b:Int}(h:a<b):pI a b= -1:=if_pos h
theorem pK{b:Int}(h:b<a):pI a b=1:=by rw [pI,if_neg (by omega),if_pos h]
theorem vC{b:Int}(h:a=b):pI a b=0:=by rw [pI,if_neg (by omega),if_neg (by omega)]
theorem aHf{b:Int}(h:a≠b):pI a b≠0:=by
 by_cases h1:a<b
 ·rw [pJ h1];decide
 rw [pK (by omega)];decide
theorem aCu:iV [] []=0:=rfl
theorem Gc(y:UInt8)(b:List UInt8):iV [] (y::b)= -1:=rfl
theorem NA(x:UInt8)(a:List UInt8):iV (x::a) []=1:=rfl
theorem xE(x:UInt8)(a b:List UInt8):iV (x::a) (x::b)=iV a b:=by
 simp [iV,Op.bytesLess]
theorem wN{x y:UInt8}(a b:List UInt8)(h:x≠y):iV (x::a) (y::b)=pI x.toNat y.toNat:=by
 have hn:x.toNat≠y.toNat:=fun e=>h (UInt8.toNat_inj.1 e)
 by_cases hl:x<y
 ·have J6:(x.toNat:Int)<(y.toNat:Int):=by have:=UInt8.lt_iff_toNat_lt.1 hl;omega
  rw [pJ J6];simp [iV,Op.bytesLess,hl]
 have J6:(y.toNat:Int)<(x.toNat:Int):=by
  have:¬x.toNat<y.toNat:=fun e=>hl (UInt8.lt_iff_toNat_lt.2 e)
  omega
 rw [pK J6];simp [iV,Op.bytesLess,hl,h]
theorem aKj:∀ (k:Nat) (a b:List UInt8) (x y:UInt8),a.take k=b.take k->a[k]? =some x->b[k]? =some y->x≠y->iV a b=pI x.toNat y.toNat:=by
 intro k
 induction k with
 |zero=>
  intro a b x y _ hx hy dM
  cases a with
  |nil=>simp at hx
  |cons c a=>
   cases b with
   |nil=>simp at hy
   |cons d b=>
    simp at hx hy;subst hx hy
    exact wN a b dM
 |succ k ih=>
  intro a b x y ht hx hy dM
  cases a with
  |nil=>simp at hx
  |cons c a=>
   cases b with
   |nil=>simp at hy
   |cons d b=>
    simp at ht hx hy;obtain⟨rfl,ht⟩:=ht;rw [xE];exact ih a b x y ht hx hy dM
theorem aHg:∀ (k:Nat) (a b:List UInt8),a.take k=b.take k->k<=a.length->k<=b.length->(k=a.length∨k=b.length)->iV a b=pI a.length b.length:=by
 intro k
 induction k with
 |zero=>
  intro a b _ _ _ h
  cases a with
  |nil=>
   cases b with
   |nil=>rfl
   |cons d b=>rw [Gc,pJ (by simp)]
  |cons c a=>
   cases b with
   |nil=>rw [NA,pK (by simp)]
   |cons d b=>simp at h
 |succ k ih=>
  intro a b ht h1 h2 h
  cases a with
  |nil=>simp at h1
  |cons c a=>
   cases b with
   |nil=>simp at h2
   |cons d b=>
    simp at ht h1 h2 h;obtain⟨rfl,ht⟩:=ht;rw [xE,ih a b ht h1 h2 h];simp only [List.length_cons,pI];congr 1
    ·simp
    congr 1;simp
theorem Io{a b:List UInt8}{x y:UInt8}(h:a.take k=b.take k)(hx:a[k]? =some x)(hy:b[k]? =some y)(e:x=y):a.take (k+1)=b.take (k+1):=by
 rw [jJ hx,jJ hy,h,e]
theorem JZ{j:Nat}(h:j<x.size):(eX x.data.toList)[j]? =some (low x[j]):=by
 simp only [eX,List.getElem?_map,lF h,Option.map_some]
theorem nI(x:ByteArray):(eX x.data.toList).length=x.size:=by simp [eX]
def jP(x y:ByteArray):Int:=iV (eX x.data.toList) (eX y.data.toList)
def dW:List ByteArray->List ByteArray->Int
 |[],[]=>0
 |[],_::_=> -1
 |_::_,[]=>1
 |x::a,y::b=>if jP x y=0 then dW a b else jP x y
def aN(xs ys:List ByteArray):Int:=dW xs.reverse ys.reverse
theorem Np{a b:List ByteArray}{y:ByteArray}(hx:a[k]? =some x)(hy:b[k]? =some y)(h:jP x y≠0):dW (a.drop k) (b.drop k)=jP x y:=by
 obtain⟨h1,rfl⟩:=List.getElem?_eq_some_iff.1 hx;obtain⟨h2,rfl⟩:=List.getElem?_eq_some_iff.1 hy;rw [List.drop_eq_getElem_cons h1,List.drop_eq_getElem_cons h2,dW,if_neg h]
theorem aCv{a b:List ByteArray}{y:ByteArray}(hx:a[k]? =some x)(hy:b[k]? =some y)(h:jP x y=0):dW (a.drop k) (b.drop k)=dW (a.drop (k+1)) (b.drop (k+1)):=by
 obtain⟨h1,rfl⟩:=List.getElem?_eq_some_iff.1 hx;obtain⟨h2,rfl⟩:=List.getElem?_eq_some_iff.1 hy;rw [List.drop_eq_getElem_cons h1,List.drop_eq_getElem_cons h2,dW,if_pos h]
theorem J7{a b:List ByteArray}(h1:k<=a.length)(h2:k<=b.length)(h:k=a.length∨k=b.length):dW (a.drop k) (b.drop k)=pI a.length b.length:=by
 rcases h with h|h
 ·rw [List.drop_of_length_le (by omega)]
  by_cases e:k=b.length
  ·rw [List.drop_of_length_le (by omega),vC (by omega)];rfl
  rw [List.drop_eq_getElem_cons (by omega:k<b.length),pJ (by omega)];rfl
 rw [List.drop_of_length_le (l:=b) (by omega)]
 by_cases e:k=a.length
 ·rw [List.drop_of_length_le (by omega),vC (by omega)];rfl
 rw [List.drop_eq_getElem_cons (by omega:k<a.length),pK (by omega)];rfl
theorem WZ(h:k<ls.length)(hx:ls[ls.length-(k+1)]? =some x):ls.reverse[k]? =some x:=by
 rw [List.getElem?_reverse h,<- hx];congr 1;omega
def sH(a b:ByteArray):Int:=
 match split a,split b with
 |some xs,some ys=>aN xs ys
 |_,_=>0
end Nm
theorem aT{s:Nat}(h:w.ownsRow B e s v n xs):∃ a cap,v=.slice a n cap:=by
 rcases h.2 with⟨rfl,rfl⟩|⟨g,cap,cur,rfl,_⟩
 ·exact⟨_,_,rfl⟩
 exact⟨_,_,rfl⟩
theorem dY{s:Nat}{y:Value}(h:W.ownsRow B e s v n xs)(hg:v.ownBlock≠some g):(W.setCell ⟨g,i,none⟩ y).ownsRow B e s v n xs:=by
 refine⟨h.1,?_⟩
 rcases h.2 with h0|⟨g',cap,cur,rfl,hb,hh,r⟩
 ·exact .inl h0
 refine .inr ⟨g',cap,cur,rfl,hb,?_,r⟩;rw [heap_setCell_other W ⟨g,i,none⟩ g' _ (fun e=>hg (by simp [Value.ownBlock,e]))];exact hh
theorem YI{s:Nat}{y:Value}(h:W.ownsRow B e s v n xs)(hg:g<B):(W.setCell ⟨g,i,none⟩ y).ownsRow B e s v n xs:=by
 refine dY h fun e=>?_;have:=(h.lt g e).1;omega
theorem Tryz.aHh:(Tryz.prog.info? 5).map (fun i=>(i.zero,i.size,i.bytes))=some (some (.int .u8 0),1,1):=by kernel_rfl
theorem xG(s:ByteArray)(w:World)(hs:s.size<=1000000000):
 Calls Tryz.prog 97 #[.string s] w fun e w'=>e=.returned (.string s)∧Below w.heap.size w w':=by
 by_cases h0:s.size=0
 ·have Nq:s=⟨#[]⟩:=by
   apply ByteArray.ext;exact Array.eq_empty_of_size_eq_zero h0
  subst Nq;go_enter Tryz.func97,Tryz.ntmps97;go_wp2;go_ret;exact⟨rfl,Below.refl _ _⟩
 obtain⟨i0,hi,iQ,iH,iI⟩:=info_parts Tryz.aHh;have aM0:(Tryz.prog.info? 5).map (·.size)=some 1:=by rw [hi];simp [iH]
 have hco:Tryz.prog.cellsOf 5=1:=by simp [Program.cellsOf,hi,iH]
 obtain⟨M,hM⟩:∃ M,M=madeCells (Value.int .u8 0).cells (((s.size:Nat):Int).toNat*i0.size):=⟨_,rfl⟩;have hMs:M.size=s.size:=by rw [hM,size_madeCells,iH];simp
 have hmk:∀ W:World,(Instr.makeSlice 22 (.int .i64 (s.size:Int)) (.int .i64 (s.size:Int))).run Tryz.prog W=.ok (.slice (some ⟨W.heap.size,0,none⟩) s.size s.size) (W.alloc (.cells M 5)):=by
  intro W;have h:=run_make (P:=Tryz.prog) W 22 5 i0 (.int .u8 0) Tryz.underlying22 hi iQ .i64 .i64 (s.size:Int) (s.size:Int) (by omega) (by omega) (by rw [iI];omega) (by omega);rw [<- hM] at h;simpa using h
 clear hM;have RN:=Lib.run_copy_row_string (P:=Tryz.prog) (w.alloc (.cells M 5)) 22 9 3 5 w.heap.size 0 s.size s.size s M 5 Tryz.underlying22 aM0 (heap_alloc_new w _) (Nat.le_refl _) (by omega);obtain⟨Y,hY⟩:∃ Y,Y=(M.toList.take 0++Lib.byteCells s.data.toList++M.toList.drop (0+s.size)).toArray:=⟨_,rfl⟩;rw [<- hY] at RN
 have hYl:Y.toList=Lib.byteCells s.data.toList:=by
  rw [hY,List.toList_toArray,List.take_zero,List.nil_append,List.drop_of_length_le (by rw [Array.length_toList];omega),List.append_nil]
 have hgY:((w.alloc (.cells M 5)).setRow w.heap.size Y).heap[w.heap.size]? =some (.cells Y 5 (0,0)):=setRow_heap _ _ M _ 5 (0,0) (heap_alloc_new w _);have hlen:s.data.toList.length=s.size:=by simp
 have hYs:Y.size=s.size:=by rw [<- Array.length_toList,hYl,Lib.byteCells_length,hlen]
 have dM:s.data.toList≠[]:=fun e=>h0 (by rw [<- hlen,e];rfl)
 have hUS:=Lib.run_unsafeString_row (P:=Tryz.prog) ((w.alloc (.cells M 5)).setRow w.heap.size Y) 220 3 9 5 Tryz.underlying220 hco w.heap.size Y.size (by unfold World.shape?;rw [hgY]) s.data.toList dM (by omega) (by omega)
  (by
   intro j x hx;rw [Nm.addr_add,Nat.zero_add,cell_of_row _ _ _ _ _ _ hgY,<- Array.getElem?_toList,hYl]
   simp only [Lib.byteCells,List.getElem?_map,hx,Option.map_some])
 rw [hlen] at hUS;clear hY;go_enter Tryz.func97,Tryz.ntmps97;go_wp2;go_ret;have fJ:Below w.heap.size w (w.alloc (.cells M 5)):=(Below.refl _ w).alloc (Nat.le_refl _) _;have jW:Below w.heap.size (w.alloc (.cells M 5)) ((w.alloc (.cells M 5)).setRow w.heap.size Y):=⟨rfl,rfl,rfl,by simp,fun k hk=>setRow_other _ _ _ _ (by omega)⟩;exact⟨rfl,Lib.below_freeze (fJ.trans jW) (p:=⟨w.heap.size,0,none⟩) (Nat.le_refl _) _⟩
theorem wO(c:UInt8)(w:World):
 Calls Tryz.prog 160 #[.int .u8 c.toNat] w fun e w'=>e=.returned (.int .u8 (Nm.low c).toNat)∧w'=w:=by
 have sI:(c.toNat:Int)<256:=by have:=c.toNat_lt;omega
 by_cases hup:65<=c.toNat∧c.toNat<=90
 ·have HL:=Nm.aD (Nm.Im hup);have d1:decide ((65:Int)<=(c.toNat:Int))=true:=by simp;omega
  have d2:decide ((c.toNat:Int)<=90)=true:=by simp;omega
  have fJ:(c.toNat:Int)<=90:=by omega
  clear hup;go_enter Tryz.func160,Tryz.ntmps160;go_wp2;go_ret;rw [HL.out];exact⟨rfl,rfl⟩
 have HL:=Nm.aD (Nm.MX hup)
 by_cases hlo:65<=c.toNat
 ·have d1:decide ((65:Int)<=(c.toNat:Int))=true:=by simp;omega
  have d2:decide ((c.toNat:Int)<=90)=false:=by simp;omega
  clear hup;go_enter Tryz.func160,Tryz.ntmps160;go_wp2;go_ret;rw [HL.out];exact⟨rfl,rfl⟩
 have d1:decide ((65:Int)<=(c.toNat:Int))=false:=by simp;omega
 clear hup;go_enter Tryz.func160,Tryz.ntmps160;go_wp2;go_ret;rw [HL.out];exact⟨rfl,rfl⟩
theorem gH(w:World)(dT sT ty elem:TypeId)(g o dLen dCap:Nat)(a:Addr)(sLen sCap:Nat)(cur:Array Value)(t:TypeId)(cs:List Value)(sz:Nat)
 (hu:P.underlying dT=some (.slice elem)) (hs:(P.info? elem).map (·.size)=some sz)
 (hg:w.heap[g]? =some (.cells cur t (0,0))) (hn:cs.length=Nat.min sLen dLen*sz)
 (kK:∀ j v,cs[j]? =some v->w.cell? (a.add j)=some v) (Ip:o+cs.length<=cur.size) (h1:∀ v∈cs,v.oneCell'=true):
 (Builtin.copy_ #[dT,sT] ty #[.slice (some ⟨g,o,none⟩) dLen dCap,.slice (some a) sLen sCap]).run P w=
  .ok (goInt (Nat.min sLen dLen)) (w.setRow g (cur.toList.take o++cs++cur.toList.drop (o+cs.length)).toArray):=by
 have hl:=run_loadCells_list (P:=P) w a cs kK;have mI:=run_storeCells_at P g o t cs 0 cur w hg (by simpa using Ip) h1
 cases hq:P.info? elem with
 |none=>simp [hq] at hs
 |some i=>
  have hi:i.size=sz:=by simpa [hq] using hs
  simp [Builtin.copy_,run_underlying hu,Builtin.lenOf,Builtin.firstCells,sizeOf,typeInfo,hq,hi,<- hn,hl,mI]
theorem vV{ops:Array Oper}{rest:List Oper}{o:Oper}{a:Act}{Q:Exit->Act->World->Prop}(W9:o.guard=none)(s x:Operand)(t t2:TypeId)
 (ho:o.op=.call {callee:=.builtin .append,args:=#[s,x],argTypes:=#[t,t2]}) (v u v':Value) (w':World) (hs:a.eval s=v) (hx:a.eval x=u)
 (hr:(Builtin.append_ #[t,t2] o.type #[v,u]).run P w=.ok v' w') (h:wpList P ops Q rest (a.put o.dst v') w'):wpList P ops Q (o::rest) a w:=
 wpList_plain W9 fun _ hK=>by
  unfold Oper.wp execOp;simp only [ho,resolve,invoke,builtin,Sem.run_bind,Sem.run_pure,Result.andThen_ok,List.map_toArray,List.map_cons,List.map_nil,hs,hx,hr];exact hK _ _ h
theorem jL{cur:Array Value}{t:TypeId}(hg:bW w g cur t)(cs:Array Value):bW (w.setRow g cs) g cs t:=by
 unfold bW at*;simp [World.setRow,Array.getElem?_modify,hg]
theorem setRow_size(w:World)(g:Nat)(cs:Array Value):(w.setRow g cs).heap.size=w.heap.size:=by simp [World.setRow]
theorem pM(w:World)(g:Nat)(cs:Array Value):w.grownBy (w.setRow g cs) (some g):=
 ⟨rfl,rfl,rfl,by rw [setRow_size];exact Nat.le_refl _,fun k hk dM=>setRow_other w g k cs (fun e=>dM (by rw [e]))⟩
theorem uK{s:Nat}{cur:Array Value}(hg:bW w g cur e)(hB:B<=g)(hn:n<=cap)(hm:cap<=maxLen)(hs:cur.size=cap*s)(ht:cur.toList.take (n*s)=xs):w.ownsRow B e s (.slice (some ⟨g,0,none⟩) n cap) n xs:=by
 refine⟨?_,.inr ⟨g,cap,cur,rfl,hB,hg,hn,hm,hs,ht⟩⟩;rw [<- ht,List.length_take,Array.length_toList,hs,Nat.min_eq_left (Nat.mul_le_mul_right _ hn)]
theorem YJ{cur:List Value}(x0 x1:Value)(sI:cur.length=cap*2)(ht:cur.take (n*2)=xs)(hi:i<n)(hr:n+1<=cap):
 ∀ c1,c1=cur.take ((i+1)*2)++xs.drop (i*2)++cur.drop ((i+1)*2+(xs.drop (i*2)).length)->c1.length=cap*2∧∀ c2,c2=c1.take (i*2)++[x0,x1]++c1.drop (i*2+[x0,x1].length)->c2.length=cap*2∧c2.take ((n+1)*2)=xs.take (i*2)++[x0,x1]++xs.drop (i*2):=by
 intro c1 h1;have DN:xs.length=n*2:=by rw [<- ht,List.length_take];omega
 have nV:(xs.drop (i*2)).length=(n-i)*2:=by rw [List.length_drop,DN];omega
 have htl:(cur.take ((i+1)*2)).length=(i+1)*2:=by rw [List.length_take];omega
 have GD:c1.length=cap*2:=by rw [h1];simp only [List.length_append,htl,nV,List.length_drop];omega
 refine⟨GD,fun c2 h2=>?_⟩
 have e1:c1.take (i*2)=xs.take (i*2):=by
  rw [h1,List.append_assoc,List.take_append,htl,List.take_take,show i*2-(i+1)*2=0 by omega,List.take_zero,List.append_nil,<- ht,List.take_take];congr 1;omega
 have e2:c1.drop (i*2+[x0,x1].length)=xs.drop (i*2)++cur.drop ((i+1)*2+(xs.drop (i*2)).length):=by
  rw [show i*2+[x0,x1].length=(i+1)*2 by simp;omega,h1,List.append_assoc,List.drop_append,htl,Nat.sub_self,List.drop_zero,List.drop_of_length_le (Nat.le_of_eq htl),List.nil_append]
 have hxt:(xs.take (i*2)).length=i*2:=by rw [List.length_take,DN];omega
 rw [e1,e2] at h2;have hl3:(xs.take (i*2)++[x0,x1]++xs.drop (i*2)).length=(n+1)*2:=by simp only [List.length_append,hxt,nV,List.length_cons,List.length_nil];omega
 have e3:c2=(xs.take (i*2)++[x0,x1]++xs.drop (i*2))++cur.drop ((i+1)*2+(xs.drop (i*2)).length):=by rw [h2];simp only [List.append_assoc]
 refine⟨?_,?_⟩
 ·rw [e3,List.length_append,hl3,List.length_drop,sI,nV];omega
 rw [e3,<- hl3,List.take_left]
theorem YK{z:List Value}(x0 x1:Value)(DN:xs.length=n*2)(hi:i<n)(hr:n+1<=cap)(hz:(xs.take (i*2)++z).length=cap*2):
 ∀ c1,c1=(xs.take (i*2)++z).take (i*2)++[x0,x1]++(xs.take (i*2)++z).drop (i*2+[x0,x1].length)->c1.length=cap*2∧∀ c2,c2=c1.take ((i+1)*2)++xs.drop (i*2)++c1.drop ((i+1)*2+(xs.drop (i*2)).length)->c2.length=cap*2∧c2.take ((n+1)*2)=xs.take (i*2)++[x0,x1]++xs.drop (i*2):=by
 intro c1 h1;have hxt:(xs.take (i*2)).length=i*2:=by rw [List.length_take,DN];omega
 have nV:(xs.drop (i*2)).length=(n-i)*2:=by rw [List.length_drop,DN];omega
 have e1:(xs.take (i*2)++z).take (i*2)=xs.take (i*2):=by
  have:=List.take_left (l₁:=xs.take (i*2)) (l₂:=z);rw [hxt] at this;exact this
 rw [e1] at h1
 have GD:c1.length=cap*2:=by
  rw [h1];simp only [List.length_append,hxt,List.length_drop,List.length_cons,List.length_nil] at hz ⊢;omega
 refine⟨GD,fun c2 h2=>?_⟩;have BA:(xs.take (i*2)++[x0,x1]).length=(i+1)*2:=by simp only [List.length_append,hxt,List.length_cons,List.length_nil];omega
 have e2:c1.take ((i+1)*2)=xs.take (i*2)++[x0,x1]:=by rw [h1,<- BA,List.take_left]
 rw [e2] at h2;have hl3:(xs.take (i*2)++[x0,x1]++xs.drop (i*2)).length=(n+1)*2:=by rw [List.length_append,BA,nV];omega
 refine⟨?_,?_⟩
 ·rw [h2,List.length_append,hl3,List.length_drop,GD,nV];omega
 rw [h2,<- hl3,List.take_left]
namespace Dt
def jU(c:UInt8):Bool:=(decide (48<=c.toNat)&&decide (c.toNat<=57))||((decide (97<=c.toNat)&&decide (c.toNat<=122))||(decide (65<=c.toNat)&&decide (c.toNat<=90)))
def fP(s:ByteArray):ByteArray:=
 if h:0<s.size then(if s[0].toNat+1<=s.size then s.extract 0 (s[0].toNat+1) else ByteArray.empty) else ByteArray.empty
def fU:Nat->ByteArray->Nat->ByteArray
 |0,_,_=>ByteArray.empty
 |f+1,s,i=>
  if h:i<s.size∧i<255 then
   if s[i].toNat=0 then s.extract 0 (i+1)
   else if 63<s[i].toNat then ByteArray.empty
   else fU f s (i+s[i].toNat+1)
  else ByteArray.empty
def dQ(s:ByteArray):ByteArray:=fU 256 s 0
theorem OQ:∀ (f g:Nat) (s:ByteArray) (i:Nat),255<f+i->255<g+i->fU f s i=fU g s i:=by
 intro f
 induction f with
 |zero=>
  intro g s i hf hg
  cases g with
  |zero=>rfl
  |succ g=>rw [fU,fU,dif_neg (by omega)]
 |succ f ih=>
  intro g s i hf hg
  cases g with
  |zero=>rw [fU,fU,dif_neg (by omega)]
  |succ g=>
   rw [fU,fU]
   by_cases h:i<s.size∧i<255
   ·rw [dif_pos h,dif_pos h,ih g s _ (by omega) (by omega)]
   rw [dif_neg h,dif_neg h]
def nW(t:Int):ByteArray:=
 if t=1 then⟨#[98,98,98,98]⟩
 else if t=2∨t=5∨t=12∨t=39 then⟨#[110]⟩
 else if t=6 then⟨#[110,110,98,98,98,98,98,98,98,98,98,98,98,98,98,98,98,98,98,98,98,98]⟩
 else if t=13 then⟨#[116,116]⟩
 else if t=15 then⟨#[98,98,110]⟩
 else if t=16 then⟨#[115]⟩
 else if t=28 then⟨#[98,98,98,98,98,98,98,98,98,98,98,98,98,98,98,98]⟩
 else if t=33 then⟨#[98,98,98,98,98,98,110]⟩
 else if t=35 then⟨#[98,98,98,98,116,116,116,110]⟩
 else if t=47 then⟨#[110,109]⟩
 else if t=257 then⟨#[98,99]⟩
 else⟨#[42]⟩
end Dt
def DR:Nat->Int->ByteArray->Bool
 |0,_,_=>true
 |f+1,last,s=>
  if s.size=0 then true
  else if h:2<=s.size then
   if h2:last<(s[0].toNat:Int)∧1<=s[1].toNat∧s[1].toNat<=32∧s[1].toNat+2<=s.size then
    if s[s[1].toNat+1].toNat=0 then false else DR f (s[0].toNat:Int) (s.extract (s[1].toNat+2) s.size)
   else false
  else false
theorem Nr:∀ (f g:Nat) (last:Int) (s:ByteArray),s.size<f->s.size<g->DR f last s=DR g last s:=by
 intro f
 induction f with
 |zero=>intro g last s hf;omega
 |succ f ih=>
  intro g last s hf hg
  cases g with
  |zero=>omega
  |succ g=>
   rw [DR,DR]
   by_cases h0:s.size=0
   ·rw [if_pos h0,if_pos h0]
   rw [if_neg h0,if_neg h0]
   by_cases h:2<=s.size
   ·rw [dif_pos h,dif_pos h]
    by_cases h2:last<(s[0].toNat:Int)∧1<=s[1].toNat∧s[1].toNat<=32∧s[1].toNat+2<=s.size
    ·rw [dif_pos h2,dif_pos h2]
     by_cases h3:s[s[1].toNat+1].toNat=0
     ·rw [if_pos h3,if_pos h3]
     rw [if_neg h3,if_neg h3];have he:(s.extract (s[1].toNat+2) s.size).size=s.size-(s[1].toNat+2):=by simp
     exact ih g _ _ (by omega) (by omega)
    rw [dif_neg h2,dif_neg h2]
   rw [dif_neg h,dif_neg h]
def Iq(s:ByteArray):Bool:=DR (s.size+1) (-1) s
theorem J9{s:ByteArray}(h:s.size=0):DR (f+1) last s=true:=by rw [DR,if_pos h]
theorem J_{s:ByteArray}(h:s.size=1):DR (f+1) last s=false:=by rw [DR,if_neg (by omega),dif_neg (by omega)]
theorem GG{s:ByteArray}(h:2<=s.size)(h2:¬(last<(s[0].toNat:Int)∧1<=s[1].toNat∧s[1].toNat<=32∧s[1].toNat+2<=s.size)):DR (f+1) last s=false:=by
 rw [DR,if_neg (by omega),dif_pos h,dif_neg h2]
theorem Ns{s:ByteArray}(h:2<=s.size)(h2:last<(s[0].toNat:Int)∧1<=s[1].toNat∧s[1].toNat<=32∧s[1].toNat+2<=s.size)(h3:(s[s[1].toNat+1]'(by omega)).toNat=0):DR (f+1) last s=false:=by
 rw [DR,if_neg (by omega),dif_pos h,dif_pos h2,if_pos h3]
theorem Nt{s:ByteArray}(h:2<=s.size)(h2:last<(s[0].toNat:Int)∧1<=s[1].toNat∧s[1].toNat<=32∧s[1].toNat+2<=s.size)(h3:(s[s[1].toNat+1]'(by omega)).toNat≠0):
 DR (s.size+1) last s=DR ((s.extract (s[1].toNat+2) s.size).size+1) (s[0].toNat:Int) (s.extract (s[1].toNat+2) s.size):=by
 rw [DR,if_neg (by omega),dif_pos h,dif_pos h2,if_neg h3];have he:(s.extract (s[1].toNat+2) s.size).size=s.size-(s[1].toNat+2):=by simp
 exact Nr _ _ _ _ (by omega) (by omega)
theorem iR{s:ByteArray}(h:0<s.size):(s.toList==[])=false∧(s.toList != [])=true:=by
 have:s.toList≠[]:=by
  rw [ByteArray.toList_eq];intro e;have h9:=congrArg List.length e;rw [Array.length_toList] at h9;have h8:s.size=0:=h9;omega
 simp [this]
theorem nJ{s:ByteArray}(h:s.size=0):(s.toList==[])=true∧(s.toList != [])=false:=by
 have:s.toList=[]:=List.length_eq_zero_iff.1 (by rw [Nm.Wp];exact h);simp [this]
namespace Dt
def YL:Nat->ByteArray->Nat
 |0,_=>0
 |f+1,d=>if(fP d).size=0 then 0 else(fP d).size+YL f (d.extract (fP d).size d.size)
theorem uL(d:ByteArray):(fP d).size<=d.size:=by
 unfold fP;split
 ·split
  ·simp;omega
  simp
 simp
theorem Nu:∀ (f g:Nat) (d:ByteArray),d.size<f->d.size<g->YL f d=YL g d:=by
 intro f
 induction f with
 |zero=>intro g d hf;omega
 |succ f ih=>
  intro g d hf hg
  cases g with
  |zero=>omega
  |succ g=>
   rw [YL,YL]
   by_cases h:(fP d).size=0
   ·rw [if_pos h,if_pos h]
   have:=uL d;rw [if_neg h,if_neg h,ih g _ (by simp;omega) (by simp;omega)]
def DT(d:ByteArray):Nat:=YL (d.size+1) d
theorem YM(h:(fP d).size=0):DT d=0:=by rw [DT,YL,if_pos h]
theorem Nv(h:(fP d).size≠0):DT d=(fP d).size+DT (d.extract (fP d).size d.size):=by
 have:=uL d;rw [DT,YL,if_neg h,Nu _ ((d.extract (fP d).size d.size).size+1) _ (by simp;omega) (by simp)];rfl
theorem aHi:∀ (f:Nat) (d:ByteArray),YL f d<=d.size:=by
 intro f
 induction f with
 |zero=>intro d;simp [YL]
 |succ f ih=>
  intro d;rw [YL];split
  ·omega
  have:=ih (d.extract (fP d).size d.size);have h2:=uL d;simp at this;omega
theorem aCw(d:ByteArray):DT d<=d.size:=aHi _ d
def RO(d:ByteArray):Bool:=decide (2<=(fP d).size)&&decide ((fP d).size<=16)&&((fP d).data.toList.drop 1).all jU
abbrev Pc:Type:=Option (Option (Option (Option (Option (Option (Option (Option Nat)))))))
abbrev Pc.nm:Pc:=none
abbrev Pc.tx:Pc:=some none
abbrev Pc.txs:Pc:=some (some none)
abbrev Pc.txe:Pc:=some (some (some none))
abbrev Pc.tag:Pc:=some (some (some (some none)))
abbrev Pc.VX:Pc:=some (some (some (some (some none))))
abbrev Pc.mp:Pc:=some (some (some (some (some (some none)))))
abbrev Pc.rs:Pc:=some (some (some (some (some (some (some none))))))
abbrev Pc.bs(n:Nat):Pc:=some (some (some (some (some (some (some (some n)))))))
theorem Pc.elim{P:Pc->Prop}(p:Pc)(nm:P Pc.nm)(bs:∀ n,P (Pc.bs n))(tx:P Pc.tx)(txs:P Pc.txs)(txe:P Pc.txe)(tag:P Pc.tag)(VX:P Pc.VX)(mp:P Pc.mp)(rs:P Pc.rs):P p:=by
 rcases p with _|_|_|_|_|_|_|_|n
 ·exact nm
 ·exact tx
 ·exact txs
 ·exact txe
 ·exact tag
 ·exact VX
 ·exact mp
 ·exact rs
 exact bs n
def Pc.NB:Pc->Bool
 |none=>true
 |some _=>false
def sz:Pc->ByteArray->Option Nat
 |none,d=>if(dQ d).size=0 then none else some (dQ d).size
 |some none,d=>if(fP d).size=0 then none else some (fP d).size
 |some (some none),d=>if DT d=0 then none else some (DT d)
 |some (some (some none)),d=>if DT d=0∨DT d≠d.size then none else some d.size
 |some (some (some (some none))),d=>if RO d then some (fP d).size else none
 |some (some (some (some (some none)))),d=>if RO d then some d.size else none
 |some (some (some (some (some (some none))))),d=>if Iq d then some d.size else none
 |some (some (some (some (some (some (some none)))))),d=>some d.size
 |some (some (some (some (some (some (some (some n))))))),d=>if n<=d.size then some n else none
theorem Nw:∀ (f:Nat) (s:ByteArray) (i:Nat),(fU f s i).size<=s.size:=by
 intro f
 induction f with
 |zero=>intro s i;simp [fU]
 |succ f ih=>
  intro s i;rw [fU];split
  ·split
   ·simp;omega
   split
   ·simp
   exact ih _ _
  simp
theorem K3(s:ByteArray):(dQ s).size<=s.size:=Nw _ _ _
theorem Ny{p:Pc}(h:sz p d=some n):n<=d.size:=by
 have h1:=K3 d;have h2:=uL d;have h3:=aCw d;cases p using Pc.elim<;>simp only [sz] at h
 all_goals first
  |(split at h
    ·simp at h
    simp at h;omega)
  |(split at h
    ·simp at h;omega
    simp at h)
  |(simp at h;omega)
def parts:List Pc->ByteArray->Option (List ByteArray)
 |[],d=>if d.size=0 then some [] else none
 |p::r,d=>
  match sz p d with
  |none=>none
  |some n=>(parts r (d.extract n d.size)).map (fun l=>d.extract 0 n::l)
def spans:List Pc->Nat->ByteArray->Option (List (Nat×Nat))
 |[],_,d=>if d.size=0 then some [] else none
 |p::r,a,d=>
  match sz p d with
  |none=>none
  |some n=>(spans r (a+n) (d.extract n d.size)).map (fun l=>if p.NB then(a,a+n)::l else l)
def spansOf:List Pc->List ByteArray->Nat->List (Nat×Nat)
 |p::r,x::xs,a=>if p.NB then(a,a+x.size)::spansOf r xs (a+x.size) else spansOf r xs (a+x.size)
 |_,_,_=>[]
theorem oM:∀ (fs:List Pc) (d:ByteArray) (a:Nat),spans fs a d=(parts fs d).map (fun ps=>spansOf fs ps a):=by
 intro fs
 induction fs with
 |nil=>intro d a;rw [spans,parts];split<;>simp [spansOf]
 |cons p r ih=>
  intro d a;rw [spans,parts]
  cases h:sz p d with
  |none=>simp
  |some n=>
   have hn:=Ny h;simp only [ih]
   cases parts r (d.extract n d.size) with
   |none=>simp
   |some l=>
    have:(d.extract 0 n).size=n:=by simp;omega
    simp [spansOf,this]
theorem BB(m n:Nat)(r:List Pc)(a:Nat)(d:ByteArray):spans (.bs m::.bs n::r) a d=spans (.bs (m+n)::r) a d:=by
 rw [spans,spans];simp only [sz]
 by_cases h:m<=d.size
 ·rw [if_pos h];simp only [spans,sz];have e:(d.extract m d.size).size=d.size-m:=by simp
  rw [e]
  by_cases h2:m+n<=d.size
  ·rw [if_pos (by omega),if_pos h2]
   have e2:(d.extract m d.size).extract n (d.size-m)=d.extract (m+n) d.size:=by
    rw [ByteArray.extract_extract];congr 1;omega
   simp only [e2,Pc.NB,Nat.add_assoc];simp
  rw [if_neg (by omega),if_neg h2];simp
 rw [if_neg h,if_neg (by omega)]
theorem W_(a:Nat)(d:ByteArray):spans [.VX] a d=spans [.tag,.rs] a d:=by
 have h2:=uL d;simp only [spans,sz]
 by_cases h:RO d
 ·simp [h,Pc.NB]
 simp [h]
theorem X0(a:Nat)(d:ByteArray):spans [.txs] a d=spans [.txe] a d:=by
 have h3:=aCw d;simp only [spans,sz]
 by_cases h:DT d=0
 ·simp [h]
 by_cases h2:DT d=d.size
 ·have h4:d.size≠0:=by omega
  simp [h2,h4,Pc.NB]
 simp [h,h2]
 omega
def uF(c:UInt8):Pc:=
 if c=110 then .nm else if c=98 then .bs 1 else if c=116 then .tx else if c=115 then .txs else if c=99 then .VX else if c=109 then .mp else .rs
def qH(t:Int):List Pc:=(nW t).data.toList.map uF
def nX(t:Int):List Pc:=
 if t=1 then [.bs 4]
 else if t=28 then [.bs 16]
 else if t=2∨t=5∨t=12∨t=39 then [.nm]
 else if t=15 then [.bs 2,.nm]
 else if t=6 then [.nm,.nm,.bs 20]
 else if t=33 then [.bs 6,.nm]
 else if t=16 then [.txe]
 else if t=13 then [.tx,.tx]
 else if t=35 then [.bs 4,.tx,.tx,.tx,.nm]
 else if t=257 then [.bs 1,.tag,.rs]
 else if t=47 then [.nm,.mp]
 else [.rs]
theorem NC{p:Pc}{r r':List Pc}(h:∀ a d,spans r a d=spans r' a d)(a:Nat)(d:ByteArray):spans (p::r) a d=spans (p::r') a d:=by
 rw [spans,spans]
 cases sz p d with
 |none=>rfl
 |some n=>simp only [h]
theorem vH(t:Int)(a:Nat)(d:ByteArray):spans (qH t) a d=spans (nX t) a d:=by
 unfold qH nX nW
 by_cases h1:t=1
 ·subst h1;simp [uF,BB]
 by_cases h2:t=2∨t=5∨t=12∨t=39
 ·have:t≠28:=by omega
  simp [h1,h2,this,uF]
 by_cases h3:t=6
 ·subst h3;simp [uF]
  refine NC (fun a d=>?_) a d;refine NC (fun a d=>?_) a d;simp [BB]
 by_cases h4:t=13
 ·subst h4;simp [uF]
 by_cases h5:t=15
 ·subst h5;simp [uF,BB]
 by_cases h6:t=16
 ·subst h6;simp [uF,X0]
 by_cases h7:t=28
 ·subst h7;simp [uF,BB]
 by_cases h8:t=33
 ·subst h8;simp [uF,BB]
 by_cases h9:t=35
 ·subst h9;simp [uF,BB]
 by_cases h10:t=47
 ·subst h10;simp [uF]
 by_cases h11:t=257
 ·subst h11;simp [uF]
  exact NC (fun a d=>W_ a d) a d
 simp [h1,h2,h3,h4,h5,h6,h7,h8,h9,h10,h11,uF]
end Dt
structure Rr where
 own:ByteArray
 ty:Int
 cl:Int
 tt:Int
 da:ByteArray
def rvV(r:Rr):List Value:=[.string r.own,.int .i64 r.ty,.int .i64 r.cl,.int .i64 r.tt,.string r.da]
def jC(xs:List Rr):List Value:=xs.flatMap rvV
theorem RP(x:Rr)(xs:List Rr):jC (x::xs)=rvV x++jC xs:=by simp [jC]
theorem sQ(a b:List Rr):jC (a++b)=jC a++jC b:=by simp [jC]
theorem aCx(xs:List Rr):(jC xs).length=xs.length*5:=by
 induction xs with
 |nil=>rfl
 |cons x xs ih=>
  have:(rvV x).length=5:=rfl;rw [RP,List.length_append,ih,List.length_cons,this];omega
theorem OT:∀ (xs:List Rr) (k j:Nat) (x:Rr),xs[k]? =some x->j<5->(jC xs)[k*5+j]? =(rvV x)[j]? :=by
 intro xs
 induction xs with
 |nil=>intro k j x h;simp at h
 |cons y xs ih=>
  intro k j x h hj;have hl:(rvV y).length=5:=rfl
  cases k with
  |zero=>
   simp at h;subst h
   rw [RP,Nat.zero_mul,Nat.zero_add,List.getElem?_append_left (by omega)]
  |succ k=>
   simp at h;rw [RP,List.getElem?_append_right (by omega),hl,show(k+1)*5+j-5=k*5+j by omega];exact ih k j x h hj
theorem BF{xs:List Rr}{off:Nat}{x:Rr}(hc:∀ (i:Nat) (y:Value),(jC xs)[i]? =some y->w.cell? ⟨b,off+i,none⟩=some y)(h:xs[k]? =some x):
 w.cell? ⟨b,off+k*5,none⟩=some (.string x.own)∧w.cell? ⟨b,off+k*5+1,none⟩=some (.int .i64 x.ty)∧w.cell? ⟨b,off+k*5+2,none⟩=some (.int .i64 x.cl)∧w.cell? ⟨b,off+k*5+3,none⟩=some (.int .i64 x.tt)∧w.cell? ⟨b,off+k*5+4,none⟩=some (.string x.da):=
 ⟨hc (k*5) _ ((OT xs k 0 x h (by decide)).trans rfl),hc (k*5+1) _ ((OT xs k 1 x h (by decide)).trans rfl),hc (k*5+2) _ ((OT xs k 2 x h (by decide)).trans rfl),hc (k*5+3) _ ((OT xs k 3 x h (by decide)).trans rfl),hc (k*5+4) _ ((OT xs k 4 x h (by decide)).trans rfl)⟩
def aM1(w:World)(a:Option Addr)(len cap:Nat)(zs:List Int):Prop:=
 (a=none∧len=0∧cap=0∧zs=[])∨
 ∃ x,a=some x∧len<=cap∧cap<=maxLen∧zs.length=cap∧(∀ i,i<zs.length->w.cell? (x.add i)=some (.int .u8 (zs.getD i 0)))∧∀ n∈zs,(Lit.int .u8 n).wf=true
theorem aM2{z:Int}(h:(Lit.int .u8 z).wf=true):((UInt8.ofNat z.toNat).toNat:Int)=z:=by
 have h2:=bounds_u8 h;simp
 omega
theorem aQj{a:Option Addr}{zs:List Int}(h:aM1 w a n cap zs):∃ l:List UInt8,l.length=n∧dZ w (.slice a n cap) n 1 (Nm.LF l):=by
 rcases h with⟨rfl,rfl,rfl,rfl⟩|⟨x,rfl,hl,hm,hz,hc,hw⟩
 ·exact⟨[],rfl,rfl,none,0,rfl,Nat.le_refl _,by decide,fun h=>by omega⟩
 have hlen:((zs.take n).map (fun z=>UInt8.ofNat z.toNat)).length=n:=by simp;omega
 refine⟨(zs.take n).map (fun z=>UInt8.ofNat z.toNat),hlen,by rw [Nm.xU,hlen,Nat.mul_one],some x,cap,rfl,hl,hm,fun hp=>?_⟩
 have hs:x.spot=none:=by
  have:=World.cell?_spot (hc 0 (by omega));simpa [Addr.add] using this
 obtain⟨b,off,sp⟩:=x;simp only at hs
 subst hs;refine⟨b,off,rfl,fun i y hy=>?_⟩
 have hi:i<n:=by
  have:=(List.getElem?_eq_some_iff.1 hy).1
  rwa [Nm.xU,hlen] at this
 rw [<- Nm.addr_add,hc i (by omega),<- hy];have hz:zs[i]? =some (zs.getD i 0):=by rw [List.getD_eq_getElem?_getD,List.getElem?_eq_getElem (by omega)];rfl
 rw [Nm.LF,List.getElem?_map,List.getElem?_map,List.getElem?_take,if_pos hi,hz];simp only [Option.map_some];rw [aM2 (hw _ (List.mem_of_getElem? hz))]
theorem Tryz.aKk:(Tryz.prog.info? 5).map (fun i=>(i.zero,i.size,i.bytes))=some (some (.int .u8 0),1,1):=by kernel_rfl
abbrev aQk(w:World)(v:Value)(l:List UInt8):Prop:=dZ w v l.length 1 (Nm.LF l)
abbrev Wd:=BitVec 32
def wV(x:Wd):Value:=.int .u32 (x.toNat:Int)
def K4(x:Wd)(n:Nat):Wd:=(x>>>n)|||(x<<<(32-n))
def s0W(x:Wd):Wd:=K4 x 7 ^^^ K4 x 18 ^^^ (x>>>3)
def s1W(y:Wd):Wd:=K4 y 17 ^^^ K4 y 19 ^^^ (y>>>10)
def wF(m:Nat->Wd)(i:Nat):Wd:=if h:i<16 then m i else wF m (i-16)+s0W (wF m (i-15))+wF m (i-7)+s1W (wF m (i-2))
structure Sv where
 a:Wd
 b:Wd
 c:Wd
 d:Wd
 e:Wd
 f:Wd
 g:Wd
 h:Wd
def H0:Sv:=⟨1779033703,3144134277,1013904242,2773480762,1359893119,2600822924,528734635,1541459225⟩
def wA(m:Nat->Wd)(i:Nat):Array Value:=((List.range 64).map fun j=>if j<i then wV (wF m j) else .int .u32 0).toArray
abbrev K5(t:Nat):Prop:=t=2∨t=5∨t=6∨t=12∨t=15
