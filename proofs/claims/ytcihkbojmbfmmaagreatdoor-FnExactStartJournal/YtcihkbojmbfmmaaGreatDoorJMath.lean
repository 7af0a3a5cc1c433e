import Derived.WalkKit
import Derived.Test.YtcihkbojmbfmmaaGreatDoorRows
import Derived.WalkSpells
import Derived.WalkLawsBesides
import Derived.Lib.AppendStr
import Derived.Laws.IdiomStrings
import Derived.Laws.OwnMore
import Derived.Lib.BufferWrite
import Derived.Lib.UnsafeStr
import Derived.Laws.MakeOwn
import Derived.Deep.RegionHeld
namespace Go.Proofs.YtcihkbojmbfmmaaGreatDoor.Nm
def splitF:Nat->ByteArray->Option (List ByteArray)
 |0,_=>none
 |f+1,r=>
  if h:0<r.size then
   if r[0].toNat=0 then(if r.size=1 then some [] else none)
   else if 63<r[0].toNat∨r.size<r[0].toNat+1 then none
   else(splitF f (r.extract (r[0].toNat+1) r.size)).map (fun ls=>r.extract 1 (r[0].toNat+1)::ls)
  else none
def split(s:ByteArray):Option (List ByteArray):=if s.size<=255 then splitF 256 s else none
theorem splitF_empty(f:Nat)(r:ByteArray)(h:r.size=0):splitF f r=none:=by
 cases f with
 |zero=>rfl
 |succ f=>rw [splitF,dif_neg (by omega)]
theorem splitF_end(f:Nat)(r:ByteArray)(h:0<r.size)(h0:r[0].toNat=0)(h1:r.size=1):splitF (f+1) r=some []:=by
 rw [splitF,dif_pos h,if_pos h0,if_pos h1]
theorem splitF_zero(f:Nat)(r:ByteArray)(h:0<r.size)(h0:r[0].toNat=0)(h1:r.size≠1):splitF (f+1) r=none:=by
 rw [splitF,dif_pos h,if_pos h0,if_neg h1]
theorem splitF_bad(f:Nat)(r:ByteArray)(h:0<r.size)(h0:r[0].toNat≠0)(h1:63<r[0].toNat∨r.size<r[0].toNat+1):splitF (f+1) r=none:=by
 rw [splitF,dif_pos h,if_neg h0,if_pos h1]
theorem splitF_step(f:Nat)(r:ByteArray)(h:0<r.size)(h0:r[0].toNat≠0)(h1:r[0].toNat<=63)(h2:r[0].toNat+1<=r.size):
 splitF (f+1) r=(splitF f (r.extract (r[0].toNat+1) r.size)).map (fun ls=>r.extract 1 (r[0].toNat+1)::ls):=by
 rw [splitF,dif_pos h,if_neg h0,if_neg (by omega)]
theorem split_long(s:ByteArray)(h:255<s.size):split s=none:=by rw [split,if_neg (by omega)]
theorem split_short(s:ByteArray)(h:s.size<=255):split s=splitF 256 s:=by rw [split,if_pos h]
def At(s:ByteArray)(ls:List ByteArray)(r:ByteArray):Prop:=
 ∃ f,r.size<f∧split s=(splitF f r).map (fun t=>ls++t)
theorem at_start(s:ByteArray)(h:s.size<=255):At s [] s:=⟨256,by omega,by rw [split_short s h];simp⟩
theorem at_empty{s r:ByteArray}{ls:List ByteArray}(h:At s ls r)(h0:r.size=0):split s=none:=by
 obtain⟨f,_,e⟩:=h;rw [e,splitF_empty f r h0];rfl
theorem at_end{s r:ByteArray}{ls:List ByteArray}(h:At s ls r)(hp:0<r.size)(h0:r[0].toNat=0)(h1:r.size=1):split s=some ls:=by
 obtain⟨f,hf,e⟩:=h;obtain⟨g,rfl⟩:∃ g,f=g+1:=⟨f-1,by omega⟩;rw [e,splitF_end g r hp h0 h1];simp
theorem at_zero{s r:ByteArray}{ls:List ByteArray}(h:At s ls r)(hp:0<r.size)(h0:r[0].toNat=0)(h1:r.size≠1):split s=none:=by
 obtain⟨f,hf,e⟩:=h;obtain⟨g,rfl⟩:∃ g,f=g+1:=⟨f-1,by omega⟩;rw [e,splitF_zero g r hp h0 h1];rfl
theorem at_bad{s r:ByteArray}{ls:List ByteArray}(h:At s ls r)(hp:0<r.size)(h0:r[0].toNat≠0)(h1:63<r[0].toNat∨r.size<r[0].toNat+1):split s=none:=by
 obtain⟨f,hf,e⟩:=h;obtain⟨g,rfl⟩:∃ g,f=g+1:=⟨f-1,by omega⟩;rw [e,splitF_bad g r hp h0 h1];rfl
theorem at_step{s r:ByteArray}{ls:List ByteArray}(h:At s ls r)(hp:0<r.size)(h0:r[0].toNat≠0)(h1:r[0].toNat<=63)(h2:r[0].toNat+1<=r.size):
 At s (ls++[r.extract 1 (r[0].toNat+1)]) (r.extract (r[0].toNat+1) r.size):=by
 obtain⟨f,hf,e⟩:=h;obtain⟨g,rfl⟩:∃ g,f=g+1:=⟨f-1,by omega⟩;refine⟨g,by simp;omega,?_⟩;rw [e,splitF_step g r hp h0 h1 h2,Option.map_map];congr 1;funext t;simp
theorem tl_len(r:ByteArray):r.toList.length=r.size:=by rw [ByteArray.toList_eq];simp
theorem tl_one{r:ByteArray}(h:0<r.size)(h1:r.size=1)(h0:r[0].toNat=0):(r.toList==[0])=true:=by
 rw [beq_iff_eq,ByteArray.toList_eq];refine List.ext_getElem (by simpa using h1) ?_;intro i hi hj;have:i=0:=by simpa using hj
 subst this;have e:r.data.toList[0]=r[0]:=rfl;rw [e];exact UInt8.toNat_inj.1 (by simpa using h0)
theorem tl_not_one{r:ByteArray}(h:0<r.size)(h1:¬(r.size=1∧r[0].toNat=0)):(r.toList==[0])=false:=by
 rw [beq_eq_false_iff_ne];intro e;rw [ByteArray.toList_eq] at e;apply h1;refine⟨by have:=congrArg List.length e;simpa using this,?_⟩;have g:r.data.toList[0]? =some 0:=by rw [e];rfl
 have g2:r.data.toList[0]? =some r[0]:=List.getElem?_eq_getElem (by simpa using h);rw [g2] at g;have g3:r[0]=0:=by simpa using g
 rw [g3];rfl
theorem tl_empty{r:ByteArray}(h:r.size=0):r.toList.isEmpty=true:=by
 rw [List.isEmpty_iff,<- List.length_eq_zero_iff,tl_len];exact h
theorem tl_not_empty{r:ByteArray}(h:0<r.size):r.toList.isEmpty=false:=by
 rw [Bool.eq_false_iff];intro e;rw [List.isEmpty_iff,<- List.length_eq_zero_iff,tl_len] at e;omega
theorem one_cell(x:Value)(h:x.oneCell'=true):∀ u:Value,u∈[x]->u.oneCell'=true:=by
 intro u hu;simp at hu;subst hu;exact h
end Go.Proofs.YtcihkbojmbfmmaaGreatDoor.Nm
namespace Go.Proofs.YtcihkbojmbfmmaaGreatDoor
open Go.RowKit
theorem Tryz.infoStr:(Tryz.prog.info? 9).map (fun i=>(i.zero,i.size,i.bytes))=some (some (.string ByteArray.empty),1,16):=by kernel_rfl
theorem own_step{W wr w1:World}{v v':Value}{B e:Nat}{ls:List ByteArray}{x:ByteArray}(hB:B<=wr.heap.size)
 (hown:wr.ownsRow B e 1 v ls.length (ls.map Value.string)) (hbel:Below B W wr) (o:Obj)
 (hown':w1.ownsRow B e 1 v' (ls.length+1) (ls.map Value.string++[.string x])) (hgrow:(wr.alloc o).grownBy w1 v.ownBlock):
 w1.ownsRow B e 1 v' (ls++[x]).length ((ls++[x]).map Value.string)∧Below B W w1:=by
 refine⟨by simpa using hown',?_⟩;refine(hbel.alloc hB o).grown hgrow (by simp;omega) ?_;intro k hk;exact(hown.lt k hk).1
theorem cell_new1(w:World)(x:Value)(e:Nat):∀ (j:Nat) (u:Value),[x][j]? =some u->(w.alloc (.cells #[x] e)).cell? ((⟨w.heap.size,0,none⟩:Addr).add j)=some u:=by
 intro j u hj
 match j,hj with
 |0,hj=>simp at hj;subst hj;simp [Addr.add]
theorem own_below{w w':World}{B e s n:Nat}{v:Value}{xs:List Value}(h:w.ownsRow B e s v n xs)(hb:Below w.heap.size w w'):w'.ownsRow B e s v n xs:=
 h.kept (row:=none) ⟨hb.os,hb.tape,hb.output,hb.size,fun k hk _=>hb.block k hk⟩ (by cases v.ownBlock<;>simp)
theorem own_base{w:World}{B B' e s n:Nat}{v:Value}{xs:List Value}(h:w.ownsRow B e s v n xs)(hb:B'<=B):w.ownsRow B' e s v n xs:=by
 refine⟨h.1,?_⟩
 rcases h.2 with hn|⟨g,cap,cur,hv,hbg,rest⟩
 ·exact .inl hn
 ·exact .inr ⟨g,cap,cur,hv,Nat.le_trans hb hbg,rest⟩
end Go.Proofs.YtcihkbojmbfmmaaGreatDoor
namespace Go.Proofs.YtcihkbojmbfmmaaGreatDoor.Nm
open Go.RowKit
def wsum:List ByteArray->Nat
 |[]=>0
 |l::r=>(1+l.size)+wsum r
def preL:List ByteArray->List UInt8
 |[]=>[]
 |l::r=>(UInt8.ofNat l.size::l.data.toList)++preL r
def joinL(ls:List ByteArray):List UInt8:=preL ls++[0]
theorem hide{p:Prop}(h:p):Hid p:=h
theorem wsum_append(a b:List ByteArray):wsum (a++b)=wsum a+wsum b:=by
 induction a with
 |nil=>simp [wsum]
 |cons x a ih=>simp only [List.cons_append,wsum,ih];omega
theorem preL_append(a b:List ByteArray):preL (a++b)=preL a++preL b:=by
 induction a with
 |nil=>simp [preL]
 |cons x a ih=>simp [preL,ih]
theorem preL_length(ls:List ByteArray):(preL ls).length=wsum ls:=by
 induction ls with
 |nil=>rfl
 |cons x a ih=>simp only [preL,wsum,List.length_append,List.length_cons,ih,Array.length_toList,ByteArray.size_data];omega
theorem joinL_length(ls:List ByteArray):(joinL ls).length=wsum ls+1:=by simp [joinL,preL_length]
theorem length_le_wsum(ls:List ByteArray):ls.length<=wsum ls:=by
 induction ls with
 |nil=>simp
 |cons x a ih=>simp only [wsum,List.length_cons];omega
theorem take_step{α:Type}{ls:List α}{k:Nat}{x:α}(h:ls[k]? =some x):ls.take (k+1)=ls.take k++[x]:=by
 obtain⟨hk,e⟩:=List.getElem?_eq_some_iff.1 h;rw [List.take_succ_eq_append_getElem hk,e]
theorem wsum_step{ls:List ByteArray}{k:Nat}{x:ByteArray}(h:ls[k]? =some x):wsum (ls.take (k+1))=wsum (ls.take k)+(1+x.size):=by
 rw [take_step h,wsum_append];simp [wsum]
theorem preL_step{ls:List ByteArray}{k:Nat}{x:ByteArray}(h:ls[k]? =some x):preL (ls.take (k+1))=preL (ls.take k)++(UInt8.ofNat x.size::x.data.toList):=by
 rw [take_step h,preL_append];simp [preL]
theorem wsum_take_le(ls:List ByteArray)(k:Nat):wsum (ls.take k)<=wsum ls:=by
 have e:=wsum_append (ls.take k) (ls.drop k);rw [List.take_append_drop] at e;omega
def bys(l:List UInt8):List Value:=l.map fun b=>Value.int .u8 b.toNat
theorem bys_append(a b:List UInt8):bys (a++b)=bys a++bys b:=by simp [bys]
theorem bys_length(a:List UInt8):(bys a).length=a.length:=by simp [bys]
def SRow(w:World)(v:Value)(ls:List ByteArray):Prop:=
 ∃ a cap,v=.slice a ls.length cap∧ls.length<=cap∧cap<=maxLen∧(a=none->cap=0)∧
   (ls≠[]->∃ b off,a=some ⟨b,off,none⟩∧∀ i x,ls[i]? =some x->w.cell? ⟨b,off+i,none⟩=some (.string x))
theorem SRow.of_owns{w:World}{B e:Nat}{v:Value}{ls:List ByteArray}(h:w.ownsRow B e 1 v ls.length (ls.map Value.string)):SRow w v ls:=by
 rcases h.2 with⟨rfl,h0⟩|⟨g,cap,cur,rfl,hb,hg,hn,hm,hs,ht⟩
 ·have:ls=[]:=List.length_eq_zero_iff.1 h0;subst this;exact⟨none,0,rfl,by simp,by decide,fun _=>rfl,fun h=>absurd rfl h⟩
 ·refine⟨_,cap,rfl,hn,hm,(fun h=>by cases h),fun _=>⟨g,0,rfl,?_⟩⟩;intro i x hx;obtain⟨hi,e⟩:=List.getElem?_eq_some_iff.1 hx;rw [Nat.zero_add,h.cellAt i (by omega)];simp [hx]
theorem SRow.below{w w':World}{v:Value}{ls:List ByteArray}(h:SRow w v ls)(hb:Below w.heap.size w w'):SRow w' v ls:=by
 obtain⟨a,cap,rfl,h1,h2,h2',h3⟩:=h;refine⟨a,cap,rfl,h1,h2,h2',fun hne=>?_⟩;obtain⟨b,off,rfl,hc⟩:=h3 hne;refine⟨b,off,rfl,fun i x hx=>?_⟩;have:=hc i x hx;rw [hb.cell (World.block_lt_of_cell? w _ this)];exact this
theorem below_two{w w1 w2:World}(h1:Below w.heap.size w w1)(h2:Below w1.heap.size w1 w2):Below w.heap.size w w2:=
 h1.trans (h2.mono h1.size)
theorem bys_step{W wr w1:World}{v v':Value}{B e n m:Nat}{l x:List UInt8}(hB:B<=wr.heap.size)
 (hown:wr.ownsRow B e 1 v n (bys l)) (hbel:Below B W wr)
 (hown':w1.ownsRow B e 1 v' (n+m) (bys l++bys x)) (hgrow:wr.grownBy w1 v.ownBlock):
 w1.ownsRow B e 1 v' (n+m) (bys (l++x))∧Below B W w1:=by
 refine⟨by rw [bys_append];exact hown',?_⟩;exact hbel.grown hgrow hB (fun k hk=>(hown.lt k hk).1)
theorem conv_own{P:Program}{w:World}{B e src dst n:Nat}{v:Value}{l:List UInt8}(hs:P.underlying src=some (.slice e))(he:P.underlying e=some (.int .u8))(hd:P.underlying dst=some .string)
 (h:w.ownsRow B e 1 v n (bys l)) (hp:0<n):
 ∃ g cap,v=.slice (some ⟨g,0,none⟩) n cap∧(convert src dst (.slice (some ⟨g,0,none⟩) n cap)).run P w=.ok (.string ⟨l.toArray⟩) w:=by
 have hn:n=l.length:=by have:=h.1;rw [bys_length] at this;omega
 subst hn
 rcases h.2 with⟨rfl,h0⟩|⟨g,cap,cur,rfl,hb,hg,hnc,hm,hcs,ht⟩
 ·omega
 ·refine⟨g,cap,rfl,run_convert_bytes_back w src dst e ⟨g,0,none⟩ cap l hs he hd ?_⟩;intro j hj;exact h.cells (g:=g) rfl j _ (by simp [bys,hj])
theorem addr_add(b off k:Nat):(⟨b,off,none⟩:Addr).add k=⟨b,off+k,none⟩:=by
 unfold Addr.add;split<;>simp_all
theorem SRow.drop_all{w:World}{a:Option Addr}{ls:List ByteArray}{cap k:Nat}(h:SRow w (.slice a ls.length cap) ls)(hk:cap=k):SRow w (.slice a (ls.length-k) 0) (ls.drop k):=by
 obtain⟨a',cap',e,h1,h2,h3,h4⟩:=h;simp only [Value.slice.injEq] at e;obtain⟨rfl,_,rfl⟩:=e;have hd:ls.drop k=[]:=List.drop_eq_nil_of_le (by omega);rw [hd];exact⟨a,0,by simp;omega,by simp,by decide,fun _=>rfl,fun h=>absurd rfl h⟩
theorem SRow.drop{w:World}{a:Option Addr}{ls:List ByteArray}{cap k:Nat}(h:SRow w (.slice a ls.length cap) ls)(hk:k<=ls.length):
 SRow w (.slice (a.map (fun x=>x.add k)) (ls.length-k) (cap-k)) (ls.drop k):=by
 obtain⟨a',cap',e,h1,h2,h3,h4⟩:=h;simp only [Value.slice.injEq] at e;obtain⟨rfl,_,rfl⟩:=e;refine⟨_,_,by rw [List.length_drop],by rw [List.length_drop];omega,by omega,?_,?_⟩
 ·intro h;simp at h;have:=h3 h;omega
 ·intro hne;obtain⟨b,off,rfl,hc⟩:=h4 (by intro h;rw [h] at hne;simp at hne);refine⟨b,off+k,by simp [addr_add],?_⟩;intro i x hx;rw [List.getElem?_drop] at hx;rw [Nat.add_assoc];exact hc _ _ hx
theorem wsum_drop_le(ls:List ByteArray)(k:Nat):wsum (ls.drop k)<=wsum ls:=by
 have e:=wsum_append (ls.take k) (ls.drop k);rw [List.take_append_drop] at e;omega
theorem splitF_size:∀ (f:Nat) (r:ByteArray) (ls:List ByteArray),splitF f r=some ls->wsum ls+1=r.size:=by
 intro f
 induction f with
 |zero=>intro r ls h;simp [splitF] at h
 |succ f ih=>
  intro r ls h
  by_cases hp:0<r.size
  ·by_cases h0:r[0].toNat=0
   ·by_cases h1:r.size=1
    ·rw [splitF_end f r hp h0 h1] at h;simp at h;subst h;simp [wsum];omega
    ·rw [splitF_zero f r hp h0 h1] at h;simp at h
   ·by_cases h1:63<r[0].toNat∨r.size<r[0].toNat+1
    ·rw [splitF_bad f r hp h0 h1] at h;simp at h
    ·rw [splitF_step f r hp h0 (by omega) (by omega)] at h
     cases e:splitF f (r.extract (r[0].toNat+1) r.size) with
     |none=>rw [e] at h;simp at h
     |some t=>
      rw [e] at h;simp at h;have:=ih _ _ e;rw [<- h];simp at this;simp [wsum];omega
  ·rw [splitF_empty _ r (by omega)] at h;simp at h
theorem split_size{s:ByteArray}{ls:List ByteArray}(h:split s=some ls):wsum ls+1=s.size∧s.size<=255:=by
 by_cases hl:s.size<=255
 ·rw [split_short s hl] at h;exact⟨splitF_size _ _ _ h,hl⟩
 ·rw [split_long s (by omega)] at h;simp at h
end Go.Proofs.YtcihkbojmbfmmaaGreatDoor.Nm
namespace Go.Proofs.YtcihkbojmbfmmaaGreatDoor
open Go.RowKit
def CRow(w:World)(v:Value)(n s:Nat)(cs:List Value):Prop:=
 cs.length=n*s∧∃ a cap,v=.slice a n cap∧n<=cap∧cap<=maxLen∧
  (0<n->∃ b off,a=some ⟨b,off,none⟩∧∀ (i:Nat) (x:Value),cs[i]? =some x->w.cell? ⟨b,off+i,none⟩=some x)
theorem CRow.of_owns{w:World}{B e s n:Nat}{v:Value}{cs:List Value}(h:w.ownsRow B e s v n cs):CRow w v n s cs:=by
 refine⟨h.1,?_⟩
 rcases h.2 with⟨rfl,h0⟩|⟨g,cap,cur,rfl,hb,hg,hn,hm,hs,ht⟩
 ·subst h0;exact⟨none,0,rfl,Nat.le_refl _,by decide,fun h=>by omega⟩
 ·refine⟨_,cap,rfl,hn,hm,fun _=>⟨g,0,rfl,?_⟩⟩;intro i x hx;have hi:i<n*s:=by rw [<- h.1];exact(List.getElem?_eq_some_iff.1 hx).1
  rw [Nat.zero_add,h.cellAt i hi];exact hx
theorem CRow.below{w w':World}{v:Value}{n s:Nat}{cs:List Value}(h:CRow w v n s cs)(hb:Below w.heap.size w w'):CRow w' v n s cs:=by
 obtain⟨h0,a,cap,rfl,h1,h2,h3⟩:=h;refine⟨h0,a,cap,rfl,h1,h2,fun hp=>?_⟩;obtain⟨b,off,rfl,hc⟩:=h3 hp;refine⟨b,off,rfl,fun i x hx=>?_⟩;have:=hc i x hx;rw [hb.cell (World.block_lt_of_cell? w _ this)];exact this
end Go.Proofs.YtcihkbojmbfmmaaGreatDoor
namespace Go.Proofs.YtcihkbojmbfmmaaGreatDoor
open Go.RowKit
def ssum:List ByteArray->Nat
 |[]=>0
 |l::r=>l.size+ssum r
theorem ssum_append(a b:List ByteArray):ssum (a++b)=ssum a+ssum b:=by
 induction a with
 |nil=>simp [ssum]
 |cons x a ih=>simp only [List.cons_append,ssum,ih];omega
theorem ssum_step{ls:List ByteArray}{k:Nat}{x:ByteArray}(h:ls[k]? =some x):ssum (ls.take (k+1))=ssum (ls.take k)+x.size:=by
 rw [Nm.take_step h,ssum_append];simp [ssum]
theorem ssum_take_le(ls:List ByteArray)(k:Nat):ssum (ls.take k)<=ssum ls:=by
 have e:=ssum_append (ls.take k) (ls.drop k);rw [List.take_append_drop] at e;omega
def szS(ls:List ByteArray)(L:Int):Int:=if(ls.length:Int)+(ssum ls:Int)<=L then L-ls.length-ssum ls else -1
set_option maxRecDepth 100000 in
set_option maxHeartbeats 800000 in
theorem szStringS_any(v:Value)(ls:List ByteArray)(L:Int)(w:World)(h:Nm.SRow w v ls)(hx:∀ x∈ls,x.size<=maxLen)(h0:0<=L)(h1:L<=1048576):
 Calls Tryz.prog 42 #[v,.int .i64 L] w fun e w'=>e=.returned (.int .i64 (szS ls L))∧w'=w:=by
 obtain⟨a,cap,rfl,hcap,hmx,hnl,hc⟩:=h;unfold maxLen at hmx hx;clear hnl
 by_cases hm:L<ls.length
 ·have HS:Hid (szS ls L= -1):=if_neg (by omega);have hl:(ls.length:Int)<=9223372036854775807:=by omega
  have hm':L-(ls.length:Int)<0:=by omega
  clear hx hc;go_enter Tryz.func42,Tryz.ntmps42;go_wp2;go_ret;rw [HS.out];exact⟨rfl,rfl⟩
 ·have hl:(ls.length:Int)<=1048576:=by omega
  have hm':(0:Int)<=L-(ls.length:Int):=by omega
  go_enter Tryz.func42,Tryz.ntmps42;go_wp2
  go_loop [1,5] (fun t i=>∃ k:Nat,k<=ls.length∧i=.int .i64 k∧t=.int .i64 (L-ls.length-ssum (ls.take k))∧(ls.length:Int)+ssum (ls.take k)<=L) (fun _ i=>ls.length-(intOf i).toNat)
  case atStart=>exact⟨0,Nat.zero_le _,rfl,by simp [ssum],by simp [ssum];omega⟩
  case round=>
   obtain⟨k,hk,rfl,rfl,hle⟩:=hrel
   by_cases hlt:k<ls.length
   ·obtain⟨x,hxk⟩:∃ x,ls[k]? =some x:=⟨_,List.getElem?_eq_getElem hlt⟩;obtain⟨b,off,rfl,hcell⟩:=hc (by intro h;rw [h] at hlt;simp at hlt);have hcx:=hcell k x hxk;have hxs:=hx x (List.mem_of_getElem? hxk);have HS:Hid (ssum (ls.take (k+1))=ssum (ls.take k)+x.size):=ssum_step hxk;have hs1:Hid (ssum (ls.take (k+1))<=ssum ls):=ssum_take_le ls (k+1);clear hxk hcell hc hx
    by_cases hb:L-ls.length-ssum (ls.take k)-x.size<0
    ·have HZ:Hid (szS ls L= -1):=if_neg (by have:=HS.out;have:=hs1.out;omega);go_wp2;go_ret;rw [HZ.out];exact⟨rfl,rfl⟩
    ·have hb':0<=L-ls.length-ssum (ls.take k)-x.size:=by omega
     clear hb;go_wp2
     go_round
     case rel=>exact⟨k+1,by omega,by go_num,by rw [HS.out];go_num,by rw [HS.out];omega⟩
     case measure=>simp [intOf];omega
   ·have hkl:k=ls.length:=by omega
    subst hkl;rw [List.take_length] at*;have HZ:Hid (szS ls L=L-ls.length-ssum ls):=if_pos (by omega);clear hx hc hlt;go_wp2;go_ret;rw [HZ.out];exact⟨rfl,rfl⟩
theorem made_str(n:Nat):(madeCells (Value.string ByteArray.empty).cells (n*1)).toList=List.replicate n (.string ByteArray.empty):=by
 rw [Nat.mul_one];exact toList_madeCells_one _ n
theorem set_step{ls:List ByteArray}{k:Nat}{x:ByteArray}(h:ls[k]? =some x)(z:Value):
 ((ls.take k).map Value.string++List.replicate (ls.length-k) z).set k (.string x)=(ls.take (k+1)).map Value.string++List.replicate (ls.length-(k+1)) z:=by
 have hk:k<ls.length:=(List.getElem?_eq_some_iff.1 h).1;have hl:((ls.take k).map Value.string).length=k:=by simp;omega
 obtain⟨m,hm⟩:∃ m,ls.length-k=m+1:=⟨ls.length-k-1,by omega⟩;have hm':ls.length-(k+1)=m:=by omega
 rw [hm,hm',Nm.take_step h,List.set_append_right _ _ (by omega),hl];simp [List.replicate_succ]
set_option maxRecDepth 100000 in
set_option maxHeartbeats 800000 in
theorem toStringS_any(v:Value)(ls:List ByteArray)(w:World)(h:Nm.SRow w v ls)(hlen:ls.length<=1048576):
 Calls Tryz.prog 57 #[v] w fun e w'=>∃ u,e=.returned u∧w'.ownsRow w.heap.size 9 1 u ls.length (ls.map Value.string)∧Below w.heap.size w w':=by
 obtain⟨i0,hi,hz0,hz1,hz2⟩:=info_parts Tryz.infoStr;obtain⟨a,cap,rfl,hcap,hmx,hnl,hc⟩:=h;unfold maxLen at hmx;clear hnl;go_enter Tryz.func57,Tryz.ntmps57;go_wp2_with (at_make;refine wpList_make_full _ rfl (.tmp 6) (.tmp 6) 48 rfl w.heap.size 9 i0 (.string ByteArray.empty) 1 Tryz.underlying48 hi hz0 hz1 .i64 .i64 _ _ ls.length rfl rfl rfl rfl (by rw [hz2];omega) (by unfold maxLen;omega) (Nat.le_refl _) ?_;intro w2 hown0 hgrow0)
 rw [made_str] at hown0
 go_loopw [4] (fun i wr=>∃ k:Nat,k<=ls.length∧i=.int .i64 k∧wr.ownsRow w.heap.size 9 1 (.slice (some ⟨w.heap.size,0,none⟩) ls.length ls.length) ls.length ((ls.take k).map Value.string++List.replicate (ls.length-k) (.string ByteArray.empty))∧Below w.heap.size w wr)
  (fun i _=>ls.length-(intOf i).toNat)
 case atStart=>exact⟨0,Nat.zero_le _,rfl,by simpa using hown0,(Below.refl _ w).grown hgrow0 (Nat.le_refl _) (fun k hk=>by cases hk)⟩
 case round=>
  obtain⟨k,hk,rfl,hown,hbel⟩:=hrel;clear hown0 hgrow0
  by_cases hlt:k<ls.length
  ·obtain⟨x,hx⟩:∃ x,ls[k]? =some x:=⟨_,List.getElem?_eq_getElem hlt⟩;obtain⟨b,off,rfl,hcell⟩:=hc (by intro h;rw [h] at hlt;simp at hlt);have hcx:wr.cell? ⟨b,off+k,none⟩=some (.string x):=(hbel.cell (World.block_lt_of_cell? w _ (hcell k x hx))).trans (hcell k x hx);have hst:=hown.stored k (.string x);rw [set_step hx] at hst;have hfz:=hown.frozenAt k
   obtain⟨y,hy⟩:∃ y,wr.cell? ⟨w.heap.size,k,none⟩=some y:=by
    rw [hown.cellAt k (by omega)];exact⟨_,List.getElem?_eq_getElem (by simp;omega)⟩
   have HR:=Nm.hide hst;have HB:Hid (Below w.heap.size w (wr.setCell ⟨w.heap.size,k,none⟩ (.string x))):=hbel.setCell (Nat.le_refl _) _;clear hx hcell hc hst hown;go_wp2;go_roundw
   case rel=>exact⟨k+1,by omega,by go_num,HR.out.1,HB.out⟩
   case measure=>simp [intOf];omega
  ·have hkl:k=ls.length:=by omega
   subst hkl;clear hc hlt;go_wp2;go_ret;exact⟨_,rfl,by simpa using hown,hbel⟩
end Go.Proofs.YtcihkbojmbfmmaaGreatDoor
namespace Go.Proofs.YtcihkbojmbfmmaaGreatDoor
open Go.RowKit
set_option linter.unusedVariables false
structure Sz where
 own:ByteArray
 ty:Int
 tt:Int
 da:List ByteArray
abbrev Zp:Type:=Sz×Value
def zpV(p:Zp):List Value:=[.string p.1.own,.int .i64 p.1.ty,.int .i64 p.1.tt,p.2]
def zpVs(ps:List Zp):List Value:=ps.flatMap zpV
theorem zpVs_cons(x:Zp)(xs:List Zp):zpVs (x::xs)=zpV x++zpVs xs:=by simp [zpVs]
theorem zpVs_app(a b:List Zp):zpVs (a++b)=zpVs a++zpVs b:=by simp [zpVs]
theorem zpVs_len(xs:List Zp):(zpVs xs).length=xs.length*4:=by
 induction xs with
 |nil=>rfl
 |cons x xs ih=>
  have:(zpV x).length=4:=rfl;rw [zpVs_cons,List.length_append,ih,List.length_cons,this];omega
theorem zpVs_at:∀ (xs:List Zp) (k j:Nat) (x:Zp),xs[k]? =some x->j<4->(zpVs xs)[k*4+j]? =(zpV x)[j]? :=by
 intro xs
 induction xs with
 |nil=>intro k j x h;simp at h
 |cons y xs ih=>
  intro k j x h hj;have hl:(zpV y).length=4:=rfl
  cases k with
  |zero=>
   simp at h;subst h
   rw [zpVs_cons,Nat.zero_mul,Nat.zero_add,List.getElem?_append_left (by omega)]
  |succ k=>
   simp at h;rw [zpVs_cons,List.getElem?_append_right (by omega),hl,show(k+1)*4+j-4=k*4+j by omega];exact ih k j x h hj
theorem zp_cells{w:World}{xs:List Zp}{b off k:Nat}{x:Zp}(hc:∀ (i:Nat) (y:Value),(zpVs xs)[i]? =some y->w.cell? ⟨b,off+i,none⟩=some y)(h:xs[k]? =some x):
 w.cell? ⟨b,off+k*4,none⟩=some (.string x.1.own)∧w.cell? ⟨b,off+k*4+1,none⟩=some (.int .i64 x.1.ty)∧w.cell? ⟨b,off+k*4+2,none⟩=some (.int .i64 x.1.tt)∧w.cell? ⟨b,off+k*4+3,none⟩=some x.2:=
 ⟨hc (k*4) _ ((zpVs_at xs k 0 x h (by decide)).trans rfl),hc (k*4+1) _ ((zpVs_at xs k 1 x h (by decide)).trans rfl),hc (k*4+2) _ ((zpVs_at xs k 2 x h (by decide)).trans rfl),hc (k*4+3) _ ((zpVs_at xs k 3 x h (by decide)).trans rfl)⟩
def ZRow(w:World)(v:Value)(ps:List Zp):Prop:=CRow w v ps.length 4 (zpVs ps)∧∀ p∈ps,Nm.SRow w p.2 p.1.da
theorem ZRow.below{w W:World}{v:Value}{ps:List Zp}(h:ZRow w v ps)(hb:Below w.heap.size w W):ZRow W v ps:=⟨h.1.below hb,fun p hp=>(h.2 p hp).below hb⟩
def zs1(s:Sz):Nat:=s.own.size+(s.da.length+ssum s.da)
def zsum:List Zp->Nat
 |[]=>0
 |x::xs=>zs1 x.1+zsum xs
theorem zsum_step:∀ (xs:List Zp) (k:Nat) (x:Zp),xs[k]? =some x->zsum (xs.take (k+1))=zsum (xs.take k)+zs1 x.1:=by
 intro xs
 induction xs with
 |nil=>intro k x h;simp at h
 |cons y xs ih=>
  intro k x h
  cases k with
  |zero=>simp at h;subst h;simp [zsum]
  |succ k=>
   simp at h;have:=ih k x h;simp only [List.take_succ_cons,zsum];omega
theorem zsum_take_le:∀ (xs:List Zp) (k:Nat),zsum (xs.take k)<=zsum xs:=by
 intro xs
 induction xs with
 |nil=>intro k;simp [zsum]
 |cons y xs ih=>
  intro k
  cases k with
  |zero=>simp [zsum]
  |succ k=>have:=ih k;simp only [List.take_succ_cons,zsum];omega
theorem zsum_mem:∀ (xs:List Zp) (x:Zp),x∈xs->zs1 x.1<=zsum xs:=by
 intro xs
 induction xs with
 |nil=>intro x h;simp at h
 |cons y xs ih=>
  intro x h
  rcases List.mem_cons.1 h with rfl|h
  ·simp only [zsum];omega
  ·have:=ih x h;simp only [zsum];omega
def szZ1(s:Sz)(L:Int):Int:=if(zs1 s:Int)<=L then L-zs1 s else -1
def szZS(ps:List Zp)(L:Int):Int:=if(ps.length:Int)+(zsum ps:Int)<=L then L-ps.length-zsum ps else -1
def szZ(a:ByteArray)(ps:List Zp)(L:Int):Int:=if(a.size:Int)+ps.length+(zsum ps:Int)<=L then L-a.size-ps.length-zsum ps else -1
def ZFit(ps:List Zp):Prop:=∀ p∈ps,p.1.own.size<=maxLen∧∀ x∈p.1.da,x.size<=maxLen
structure Rr where
 own:ByteArray
 ty:Int
 cl:Int
 tt:Int
 da:ByteArray
def rvV(r:Rr):List Value:=[.string r.own,.int .i64 r.ty,.int .i64 r.cl,.int .i64 r.tt,.string r.da]
def rvVs(xs:List Rr):List Value:=xs.flatMap rvV
theorem rvVs_cons(x:Rr)(xs:List Rr):rvVs (x::xs)=rvV x++rvVs xs:=by simp [rvVs]
theorem rvVs_app(a b:List Rr):rvVs (a++b)=rvVs a++rvVs b:=by simp [rvVs]
theorem rvVs_len(xs:List Rr):(rvVs xs).length=xs.length*5:=by
 induction xs with
 |nil=>rfl
 |cons x xs ih=>
  have:(rvV x).length=5:=rfl;rw [rvVs_cons,List.length_append,ih,List.length_cons,this];omega
theorem rvVs_at:∀ (xs:List Rr) (k j:Nat) (x:Rr),xs[k]? =some x->j<5->(rvVs xs)[k*5+j]? =(rvV x)[j]? :=by
 intro xs
 induction xs with
 |nil=>intro k j x h;simp at h
 |cons y xs ih=>
  intro k j x h hj;have hl:(rvV y).length=5:=rfl
  cases k with
  |zero=>
   simp at h;subst h
   rw [rvVs_cons,Nat.zero_mul,Nat.zero_add,List.getElem?_append_left (by omega)]
  |succ k=>
   simp at h;rw [rvVs_cons,List.getElem?_append_right (by omega),hl,show(k+1)*5+j-5=k*5+j by omega];exact ih k j x h hj
theorem rv_cells{w:World}{xs:List Rr}{b off k:Nat}{x:Rr}(hc:∀ (i:Nat) (y:Value),(rvVs xs)[i]? =some y->w.cell? ⟨b,off+i,none⟩=some y)(h:xs[k]? =some x):
 w.cell? ⟨b,off+k*5,none⟩=some (.string x.own)∧w.cell? ⟨b,off+k*5+1,none⟩=some (.int .i64 x.ty)∧w.cell? ⟨b,off+k*5+2,none⟩=some (.int .i64 x.cl)∧w.cell? ⟨b,off+k*5+3,none⟩=some (.int .i64 x.tt)∧w.cell? ⟨b,off+k*5+4,none⟩=some (.string x.da):=
 ⟨hc (k*5) _ ((rvVs_at xs k 0 x h (by decide)).trans rfl),hc (k*5+1) _ ((rvVs_at xs k 1 x h (by decide)).trans rfl),hc (k*5+2) _ ((rvVs_at xs k 2 x h (by decide)).trans rfl),hc (k*5+3) _ ((rvVs_at xs k 3 x h (by decide)).trans rfl),hc (k*5+4) _ ((rvVs_at xs k 4 x h (by decide)).trans rfl)⟩
def recsOf(s:Sz):List Rr:=s.da.map fun d=>⟨s.own,s.ty,1,s.tt,d⟩
def recsAll(ps:List Zp):List Rr:=ps.flatMap fun p=>recsOf p.1
def dsum:List Zp->Nat
 |[]=>0
 |x::xs=>x.1.da.length+dsum xs
def zoneRecs(ps:List Zp):List Rr:=if 500<ps.length∨500<dsum ps then [] else recsAll ps
theorem recsOf_len(s:Sz):(recsOf s).length=s.da.length:=by simp [recsOf]
theorem recsOf_get{s:Sz}{k:Nat}{d:ByteArray}(h:s.da[k]? =some d):(recsOf s).take (k+1)=(recsOf s).take k++[⟨s.own,s.ty,1,s.tt,d⟩]:=by
 rw [List.take_add_one];congr 1;simp [recsOf,h]
theorem dsum_step:∀ (xs:List Zp) (k:Nat) (x:Zp),xs[k]? =some x->dsum (xs.take (k+1))=dsum (xs.take k)+x.1.da.length:=by
 intro xs
 induction xs with
 |nil=>intro k x h;simp at h
 |cons y xs ih=>
  intro k x h
  cases k with
  |zero=>simp at h;subst h;simp [dsum]
  |succ k=>
   simp at h;have:=ih k x h;simp only [List.take_succ_cons,dsum];omega
theorem dsum_take_le:∀ (xs:List Zp) (k:Nat),dsum (xs.take k)<=dsum xs:=by
 intro xs
 induction xs with
 |nil=>intro k;simp [dsum]
 |cons y xs ih=>
  intro k
  cases k with
  |zero=>simp [dsum]
  |succ k=>have:=ih k;simp only [List.take_succ_cons,dsum];omega
theorem dsum_le(ps:List Zp):dsum ps<=zsum ps:=by
 induction ps with
 |nil=>simp [dsum,zsum]
 |cons y ps ih=>simp only [dsum,zsum,zs1];omega
theorem recsAll_step{ps:List Zp}{k:Nat}{x:Zp}(h:ps[k]? =some x):recsAll (ps.take (k+1))=recsAll (ps.take k)++recsOf x.1:=by
 rw [List.take_add_one,h];simp [recsAll]
theorem recsAll_len(ps:List Zp):(recsAll ps).length=dsum ps:=by
 induction ps with
 |nil=>rfl
 |cons y ps ih=>
  have:recsAll (y::ps)=recsOf y.1++recsAll ps:=by simp [recsAll]
  rw [this,List.length_append,recsOf_len,ih,dsum]
theorem zoneRecs_same{ps qs:List Zp}(h:qs.map (·.1)=ps.map (·.1)):zoneRecs qs=zoneRecs ps:=by
 have hl:qs.length=ps.length:=by have:=congrArg List.length h;simpa using this
 have e1:∀ xs:List Zp,recsAll xs=(xs.map (·.1)).flatMap recsOf:=by intro xs;simp [recsAll,List.flatMap_map]
 have e2:∀ xs:List Zp,dsum xs=((xs.map (·.1)).map fun s=>s.da.length).sum:=by
  intro xs
  induction xs with
  |nil=>rfl
  |cons y xs ih=>simp only [dsum,List.map_cons,List.sum_cons,ih]
 unfold zoneRecs;rw [hl,e2 qs,e2 ps,h,e1 qs,e1 ps,h]
theorem rv_one(r:Rr):∀ u∈rvV r,u.oneCell'=true:=by
 intro u hu;simp [rvV] at hu
 rcases hu with rfl|rfl|rfl|rfl|rfl<;>rfl
theorem rvs_one(xs:List Rr):∀ u∈rvVs xs,u.oneCell'=true:=by
 intro u hu;simp only [rvVs,List.mem_flatMap] at hu;obtain⟨r,_,h⟩:=hu;exact rv_one r u h
theorem cell_newV(w:World)(cs:Array Value)(e:Nat):∀ (j:Nat) (u:Value),cs.toList[j]? =some u->(w.alloc (.cells cs e)).cell? ((⟨w.heap.size,0,none⟩:Addr).add j)=some u:=by
 intro j u h;rw [Nm.addr_add,Nat.zero_add];have:(w.alloc (.cells cs e)).heap[w.heap.size]? =some (.cells cs e (0,0)):=by show(w.heap.push _)[w.heap.size]? =_;simp
 rw [cell_of_row _ _ _ _ _ _ this];simpa using h
end Go.Proofs.YtcihkbojmbfmmaaGreatDoor
namespace Go.Proofs.YtcihkbojmbfmmaaGreatDoor.Nm
open Go.RowKit
def low(c:UInt8):UInt8:=if 65<=c.toNat∧c.toNat<=90 then UInt8.ofNat (c.toNat+32) else c
def smallL(l:List UInt8):List UInt8:=l.map low
def small(s:ByteArray):ByteArray:=⟨(smallL s.data.toList).toArray⟩
theorem low_up{c:UInt8}(h:65<=c.toNat∧c.toNat<=90):((low c).toNat:Int)=(c.toNat:Int)+32:=by
 rw [low,if_pos h];simp;omega
theorem low_id{c:UInt8}(h:¬(65<=c.toNat∧c.toNat<=90)):low c=c:=by rw [low,if_neg h]
theorem small_data(s:ByteArray):(small s).data.toList=smallL s.data.toList:=by simp [small]
theorem small_size(s:ByteArray):(small s).size=s.size:=by
 have:(small s).data.toList.length=s.data.toList.length:=by rw [small_data];simp [smallL]
 simpa using this
theorem ba_ext{a b:ByteArray}(h:a.data.toList=b.data.toList):a=b:=by
 apply ByteArray.ext;exact Array.toList_inj.1 h
theorem smallL_step{l:List UInt8}{k:Nat}{c:UInt8}(h:l[k]? =some c):smallL (l.take (k+1))=smallL (l.take k)++[low c]:=by
 rw [take_step h];simp [smallL]
theorem get_data{x:ByteArray}{j:Nat}(h:j<x.size):x.data.toList[j]? =some x[j]:=by
 rw [List.getElem?_eq_getElem (by simpa using h)];rfl
theorem cut_data(r:ByteArray)(h:0<r.size)(n:Nat):
 r.data.toList=r[0]::((r.extract 1 (n+1)).data.toList++(r.extract (n+1) r.size).data.toList):=by
 have e0:r.data.toList=r[0]::r.data.toList.drop 1:=by
  have hl:0<r.data.toList.length:=by simpa using h
  have:=List.drop_eq_getElem_cons (i:=0) hl;rw [List.drop_zero] at this;exact this
 rw [e0];congr 1;have e1:(r.extract 1 (n+1)).data.toList=(r.data.toList.drop 1).take n:=by simp
 have e2:(r.extract (n+1) r.size).data.toList=(r.data.toList.drop 1).drop n:=by
  simp only [ByteArray.data_extract,Array.toList_extract,List.drop_drop];rw [List.extract_eq_take_drop,List.take_of_length_le (by simp)];congr 1;omega
 rw [e1,e2,List.take_append_drop]
theorem splitF_join:∀ (f:Nat) (r:ByteArray) (ls:List ByteArray),splitF f r=some ls->joinL ls=r.data.toList∧∀ x∈ls,1<=x.size∧x.size<=63:=by
 intro f
 induction f with
 |zero=>intro r ls h;simp [splitF] at h
 |succ f ih=>
  intro r ls h
  by_cases hp:0<r.size
  ·by_cases h0:r[0].toNat=0
   ·by_cases h1:r.size=1
    ·rw [splitF_end f r hp h0 h1] at h;simp at h;subst h;refine⟨?_,by simp⟩;have e:=cut_data r hp 0;have z:r[0]=0:=UInt8.toNat_inj.1 (by simpa using h0);rw [e,z];have e1:(r.extract 1 (0+1)).data.toList=[]:=by simp
     have e2:(r.extract (0+1) r.size).data.toList=[]:=by simp [h1]
     rw [e1,e2];rfl
    ·rw [splitF_zero f r hp h0 h1] at h;simp at h
   ·by_cases h1:63<r[0].toNat∨r.size<r[0].toNat+1
    ·rw [splitF_bad f r hp h0 h1] at h;simp at h
    ·rw [splitF_step f r hp h0 (by omega) (by omega)] at h
     cases e:splitF f (r.extract (r[0].toNat+1) r.size) with
     |none=>rw [e] at h;simp at h
     |some t=>
      rw [e] at h;simp at h;obtain⟨i1,i2⟩:=ih _ _ e;have hsz:(r.extract 1 (r[0].toNat+1)).size=r[0].toNat:=by simp;omega
      rw [<- h];constructor
      ·rw [cut_data r hp r[0].toNat,<- i1];simp only [joinL,preL,hsz];simp
      ·intro x hx
       rcases List.mem_cons.1 hx with rfl|hx
       ·rw [hsz];omega
       ·exact i2 x hx
  ·rw [splitF_empty _ r (by omega)] at h;simp at h
theorem split_join{s:ByteArray}{ls:List ByteArray}(h:split s=some ls):joinL ls=s.data.toList∧∀ x∈ls,1<=x.size∧x.size<=63:=by
 by_cases hl:s.size<=255
 ·rw [split_short s hl] at h;exact splitF_join _ _ _ h
 ·rw [split_long s (by omega)] at h;simp at h
theorem low_len{n:Nat}(h:n<=63):low (UInt8.ofNat n)=UInt8.ofNat n:=by
 apply low_id
 simp;omega
theorem preL_small(ls:List ByteArray)(h:∀ x∈ls,x.size<=63):preL (ls.map small)=smallL (preL ls):=by
 induction ls with
 |nil=>rfl
 |cons x r ih=>
  have hx:=h x (List.mem_cons_self);have:=ih (fun y hy=>h y (List.mem_cons_of_mem _ hy));simp only [List.map_cons,preL,small_size,small_data,this];simp [smallL,low_len hx]
theorem joinL_small{s:ByteArray}{ls:List ByteArray}(h:split s=some ls):(⟨(joinL (ls.map small)).toArray⟩:ByteArray)=small s:=by
 obtain⟨h1,h2⟩:=split_join h;apply ba_ext;rw [small_data,<- h1];simp only [joinL];rw [preL_small ls (fun x hx=>(h2 x hx).2)];simp [smallL,low]
theorem wsum_small(ls:List ByteArray):wsum (ls.map small)=wsum ls:=by
 induction ls with
 |nil=>rfl
 |cons x r ih=>simp only [List.map_cons,wsum,small_size,ih]
def foldS(s:ByteArray):ByteArray:=if(split s).isSome then small s else ByteArray.empty
theorem foldS_none{s:ByteArray}(h:split s=none):foldS s=ByteArray.empty:=by simp [foldS,h]
theorem foldS_some{s:ByteArray}{ls:List ByteArray}(h:split s=some ls):foldS s=small s:=by simp [foldS,h]
end Go.Proofs.YtcihkbojmbfmmaaGreatDoor.Nm
namespace Go.Proofs.YtcihkbojmbfmmaaGreatDoor.Nm
open Go.RowKit
def cmpI(a b:Int):Int:=if a<b then -1 else if b<a then 1 else 0
def ordL(a b:List UInt8):Int:=if Op.bytesLess a b=true then -1 else if a=b then 0 else 1
theorem cmpI_lt{a b:Int}(h:a<b):cmpI a b= -1:=if_pos h
theorem cmpI_gt{a b:Int}(h:b<a):cmpI a b=1:=by rw [cmpI,if_neg (by omega),if_pos h]
theorem cmpI_eq{a b:Int}(h:a=b):cmpI a b=0:=by rw [cmpI,if_neg (by omega),if_neg (by omega)]
theorem cmpI_ne{a b:Int}(h:a≠b):cmpI a b≠0:=by
 by_cases h1:a<b
 ·rw [cmpI_lt h1];decide
 ·rw [cmpI_gt (by omega)];decide
theorem ordL_nil:ordL [] []=0:=rfl
theorem ordL_left(y:UInt8)(b:List UInt8):ordL [] (y::b)= -1:=rfl
theorem ordL_right(x:UInt8)(a:List UInt8):ordL (x::a) []=1:=rfl
theorem ordL_same(x:UInt8)(a b:List UInt8):ordL (x::a) (x::b)=ordL a b:=by
 simp [ordL,Op.bytesLess]
theorem ordL_ne{x y:UInt8}(a b:List UInt8)(h:x≠y):ordL (x::a) (y::b)=cmpI x.toNat y.toNat:=by
 have hn:x.toNat≠y.toNat:=fun e=>h (UInt8.toNat_inj.1 e)
 by_cases hl:x<y
 ·have hl':(x.toNat:Int)<(y.toNat:Int):=by have:=UInt8.lt_iff_toNat_lt.1 hl;omega
  rw [cmpI_lt hl'];simp [ordL,Op.bytesLess,hl]
 ·have hl':(y.toNat:Int)<(x.toNat:Int):=by
   have:¬x.toNat<y.toNat:=fun e=>hl (UInt8.lt_iff_toNat_lt.2 e)
   omega
  rw [cmpI_gt hl'];simp [ordL,Op.bytesLess,hl,h]
theorem ord_at:∀ (k:Nat) (a b:List UInt8) (x y:UInt8),a.take k=b.take k->a[k]? =some x->b[k]? =some y->x≠y->ordL a b=cmpI x.toNat y.toNat:=by
 intro k
 induction k with
 |zero=>
  intro a b x y _ hx hy hne
  cases a with
  |nil=>simp at hx
  |cons c a=>
   cases b with
   |nil=>simp at hy
   |cons d b=>
    simp at hx hy;subst hx hy
    exact ordL_ne a b hne
 |succ k ih=>
  intro a b x y ht hx hy hne
  cases a with
  |nil=>simp at hx
  |cons c a=>
   cases b with
   |nil=>simp at hy
   |cons d b=>
    simp at ht hx hy;obtain⟨rfl,ht⟩:=ht;rw [ordL_same];exact ih a b x y ht hx hy hne
theorem ord_end:∀ (k:Nat) (a b:List UInt8),a.take k=b.take k->k<=a.length->k<=b.length->(k=a.length∨k=b.length)->ordL a b=cmpI a.length b.length:=by
 intro k
 induction k with
 |zero=>
  intro a b _ _ _ h
  cases a with
  |nil=>
   cases b with
   |nil=>rfl
   |cons d b=>rw [ordL_left,cmpI_lt (by simp)]
  |cons c a=>
   cases b with
   |nil=>rw [ordL_right,cmpI_gt (by simp)]
   |cons d b=>simp at h
 |succ k ih=>
  intro a b ht h1 h2 h
  cases a with
  |nil=>simp at h1
  |cons c a=>
   cases b with
   |nil=>simp at h2
   |cons d b=>
    simp at ht h1 h2 h;obtain⟨rfl,ht⟩:=ht;rw [ordL_same,ih a b ht h1 h2 h];simp only [List.length_cons,cmpI];congr 1
    ·simp
    ·congr 1;simp
theorem take_snoc_eq{a b:List UInt8}{k:Nat}{x y:UInt8}(h:a.take k=b.take k)(hx:a[k]? =some x)(hy:b[k]? =some y)(e:x=y):a.take (k+1)=b.take (k+1):=by
 rw [take_step hx,take_step hy,h,e]
theorem small_get{x:ByteArray}{j:Nat}(h:j<x.size):(smallL x.data.toList)[j]? =some (low x[j]):=by
 simp only [smallL,List.getElem?_map,get_data h,Option.map_some]
theorem smallL_length(x:ByteArray):(smallL x.data.toList).length=x.size:=by simp [smallL]
def ordS(x y:ByteArray):Int:=ordL (smallL x.data.toList) (smallL y.data.toList)
def cmpRev:List ByteArray->List ByteArray->Int
 |[],[]=>0
 |[],_::_=> -1
 |_::_,[]=>1
 |x::a,y::b=>if ordS x y=0 then cmpRev a b else ordS x y
def cmpLs(xs ys:List ByteArray):Int:=cmpRev xs.reverse ys.reverse
theorem cmp_stop{a b:List ByteArray}{k:Nat}{x y:ByteArray}(hx:a[k]? =some x)(hy:b[k]? =some y)(h:ordS x y≠0):cmpRev (a.drop k) (b.drop k)=ordS x y:=by
 obtain⟨h1,rfl⟩:=List.getElem?_eq_some_iff.1 hx;obtain⟨h2,rfl⟩:=List.getElem?_eq_some_iff.1 hy;rw [List.drop_eq_getElem_cons h1,List.drop_eq_getElem_cons h2,cmpRev,if_neg h]
theorem cmp_go{a b:List ByteArray}{k:Nat}{x y:ByteArray}(hx:a[k]? =some x)(hy:b[k]? =some y)(h:ordS x y=0):cmpRev (a.drop k) (b.drop k)=cmpRev (a.drop (k+1)) (b.drop (k+1)):=by
 obtain⟨h1,rfl⟩:=List.getElem?_eq_some_iff.1 hx;obtain⟨h2,rfl⟩:=List.getElem?_eq_some_iff.1 hy;rw [List.drop_eq_getElem_cons h1,List.drop_eq_getElem_cons h2,cmpRev,if_pos h]
theorem cmp_end{a b:List ByteArray}{k:Nat}(h1:k<=a.length)(h2:k<=b.length)(h:k=a.length∨k=b.length):cmpRev (a.drop k) (b.drop k)=cmpI a.length b.length:=by
 rcases h with h|h
 ·rw [List.drop_of_length_le (by omega)]
  by_cases e:k=b.length
  ·rw [List.drop_of_length_le (by omega),cmpI_eq (by omega)];rfl
  ·rw [List.drop_eq_getElem_cons (by omega:k<b.length),cmpI_lt (by omega)];rfl
 ·rw [List.drop_of_length_le (l:=b) (by omega)]
  by_cases e:k=a.length
  ·rw [List.drop_of_length_le (by omega),cmpI_eq (by omega)];rfl
  ·rw [List.drop_eq_getElem_cons (by omega:k<a.length),cmpI_gt (by omega)];rfl
theorem rev_get{ls:List ByteArray}{k:Nat}(h:k<ls.length){x:ByteArray}(hx:ls[ls.length-(k+1)]? =some x):ls.reverse[k]? =some x:=by
 rw [List.getElem?_reverse h,<- hx];congr 1;omega
def cmpS(a b:ByteArray):Int:=
 match split a,split b with
 |some xs,some ys=>cmpLs xs ys
 |_,_=>0
end Go.Proofs.YtcihkbojmbfmmaaGreatDoor.Nm
namespace Go.Proofs.YtcihkbojmbfmmaaGreatDoor
open Go.RowKit
set_option linter.unusedVariables false
theorem hgr_step{w w1 w2:World}{g:Nat}(h:w.grownBy w1 (some g))(h2:w1.grownBy w2 (some g)):w.grownBy w2 (some g):=
 ⟨h2.os.trans h.os,h2.tape.trans h.tape,h2.output.trans h.output,Nat.le_trans h.size h2.size,fun k hk hne=>(h2.block k (Nat.lt_of_lt_of_le hk h.size) hne).trans (h.block k hk hne)⟩
theorem hgr_below{w w1 w2:World}{g:Nat}(h:w.grownBy w1 (some g))(h2:Below w1.heap.size w1 w2):w.grownBy w2 (some g):=
 ⟨h2.os.trans h.os,h2.tape.trans h.tape,h2.output.trans h.output,Nat.le_trans h.size h2.size,fun k hk hne=>
  (h2.block k (Nat.lt_of_lt_of_le hk h.size)).trans (h.block k hk hne)⟩
def Blk(w:World)(b:Nat)(cs:Array Value)(T:TypeId):Prop:=w.heap[b]? =some (.cells cs T (0,0))
theorem blk_lt{w:World}{b:Nat}{cs:Array Value}{T:TypeId}(h:Blk w b cs T):b<w.heap.size:=(Array.getElem?_eq_some_iff.1 h).1
theorem blk_grown{w w1:World}{b:Nat}{cs:Array Value}{T:TypeId}{row:Option Nat}(h:Blk w b cs T)(hg:w.grownBy w1 row)(hr:row≠some b):Blk w1 b cs T:=by
 unfold Blk;rw [hg.block b (blk_lt h) (fun e=>hr e.symm)];exact h
theorem blk_below{w w1:World}{b:Nat}{cs:Array Value}{T:TypeId}(h:Blk w b cs T)(hb:Below w.heap.size w w1):Blk w1 b cs T:=by
 unfold Blk;rw [hb.block b (blk_lt h)];exact h
theorem blk_new(w:World)(cs:Array Value)(T:TypeId):Blk (w.alloc (.cells cs T)) w.heap.size cs T:=by
 unfold Blk;show(w.heap.push _)[w.heap.size]? =_;simp
theorem blk_alloc{w:World}{b:Nat}{cs:Array Value}{T:TypeId}(h:Blk w b cs T)(o:Obj):Blk (w.alloc o) b cs T:=
 blk_below h ((Below.refl _ _).alloc (Nat.le_refl _) o)
theorem blk_cell{w:World}{b:Nat}{cs:Array Value}{T:TypeId}(h:Blk w b cs T)(i:Nat):w.cell? ⟨b,i,none⟩=cs[i]? :=cell_of_row _ _ _ _ _ _ h
theorem blk_frozen{w:World}{b:Nat}{cs:Array Value}{T:TypeId}(h:Blk w b cs T)(i:Nat):w.frozen? ⟨b,i,none⟩=false:=frozen_of_row w b i _ _ h
theorem blk_set{w:World}{b:Nat}{cs:Array Value}{T:TypeId}(h:Blk w b cs T)(i:Nat)(v:Value):Blk (w.setCell ⟨b,i,none⟩ v) b (cs.setIfInBounds i v) T:=heap_setCell_same w b i _ _ v h
theorem blk_far{w:World}{b c i:Nat}{cs:Array Value}{T:TypeId}{v:Value}(h:Blk w b cs T)(hne:b≠c):Blk (w.setCell ⟨c,i,none⟩ v) b cs T:=by
 unfold Blk;rw [heap_setCell_other w ⟨c,i,none⟩ b _ (by simpa using hne)];exact h
def setAll(w:World)(b i:Nat):List Value->World
 |[]=>w
 |v::vs=>setAll (w.setCell ⟨b,i,none⟩ v) b (i+1) vs
theorem setAll_same{b:Nat}{T:TypeId}:∀ (vs old pre:List Value) (w:World),Blk w b (pre++old).toArray T->old.length=vs.length->Blk (setAll w b pre.length vs) b (pre++vs).toArray T:=by
 intro vs
 induction vs with
 |nil=>
  intro old pre w h hl;have:old=[]:=List.length_eq_zero_iff.1 hl;subst this
  exact h
 |cons v vs ih=>
  intro old pre w h hl
  cases old with
  |nil=>simp at hl
  |cons x old=>
   have h2:=blk_set h pre.length v;have e:(pre++x::old).toArray.setIfInBounds pre.length v=((pre++[v])++old).toArray:=by simp
   rw [e] at h2;have h3:=ih old (pre++[v]) _ h2 (by simpa using hl);rw [List.length_append] at h3;simpa [setAll] using h3
theorem setAll_new{b:Nat}{T:TypeId}{old:Array Value}(vs:List Value){w:World}(h:Blk w b old T)(hl:old.size=vs.length):Blk (setAll w b 0 vs) b vs.toArray T:=by
 have:=setAll_same vs old.toList [] w (by simpa using h) (by simpa using hl);simpa using this
theorem blk_drew{w:World}{b:Nat}{cs:Array Value}{T:TypeId}(h:Blk w b cs T):Blk w.drew b cs T:=h
def rowCs(rs:List (Value×Value)):List Value:=rs.flatMap fun p=>[p.1,p.2]
theorem rowCs_at:∀ (rs:List (Value×Value)) (k j:Nat) (x:Value×Value),rs[k]? =some x->j<2->(rowCs rs)[k*2+j]? =[x.1,x.2][j]? :=by
 intro rs
 induction rs with
 |nil=>intro k j x h;simp at h
 |cons y rs ih=>
  intro k j x h hj;have e:rowCs (y::rs)=[y.1,y.2]++rowCs rs:=by simp [rowCs]
  cases k with
  |zero=>
   simp at h;subst h
   rw [e,Nat.zero_mul,Nat.zero_add,List.getElem?_append_left (by simpa using hj)]
  |succ k=>
   simp at h;rw [e,List.getElem?_append_right (by simp;omega),show(k+1)*2+j - [y.1,y.2].length=k*2+j by simp;omega];exact ih k j x h hj
def Fnd(n:Nat)(cf:Nat->Int)(k:Nat):Prop:=k<=n∧(∀ i,i<k->cf i<0)∧(∀ i,k<=i->i<n->0<=cf i)
theorem Fnd.unique{n:Nat}{cf:Nat->Int}{a b:Nat}(ha:Fnd n cf a)(hb:Fnd n cf b):a=b:=by
 obtain⟨a1,a2,a3⟩:=ha;obtain⟨b1,b2,b3⟩:=hb
 rcases Nat.lt_trichotomy a b with h|h|h
 ·have h1:=b2 a h;have h2:=a3 a (Nat.le_refl _) (by omega);omega
 ·exact h
 ·have h1:=a2 b h;have h2:=b3 b (Nat.le_refl _) (by omega);omega
theorem rowCs_take(rs:List (Value×Value))(k:Nat):rowCs (rs.take k)=(rowCs rs).take (k*2):=by
 induction rs generalizing k with
 |nil=>simp [rowCs]
 |cons x rs ih=>
  have e:∀ z zs,rowCs (z::zs)=[z.1,z.2]++rowCs zs:=by intro z zs;simp [rowCs]
  cases k with
  |zero=>simp [rowCs]
  |succ k=>
   rw [List.take_succ_cons,e,e,ih,List.take_append,List.take_of_length_le (l:=[x.1,x.2]) (i:=(k+1)*2) (by simp;omega),show(k+1)*2 - [x.1,x.2].length=k*2 by simp;omega]
theorem rowCs_drop(rs:List (Value×Value))(k:Nat):rowCs (rs.drop k)=(rowCs rs).drop (k*2):=by
 induction rs generalizing k with
 |nil=>simp [rowCs]
 |cons x rs ih=>
  have e:∀ z zs,rowCs (z::zs)=[z.1,z.2]++rowCs zs:=by intro z zs;simp [rowCs]
  cases k with
  |zero=>simp
  |succ k=>
   rw [List.drop_succ_cons,e,ih,List.drop_append,List.drop_of_length_le (l:=[x.1,x.2]) (i:=(k+1)*2) (by simp;omega),show(k+1)*2 - [x.1,x.2].length=k*2 by simp;omega,List.nil_append]
theorem rowCs_ins(rs:List (Value×Value))(k:Nat)(a b:Value):(rowCs rs).take (k*2)++[a,b]++(rowCs rs).drop (k*2)=rowCs (rs.take k++[(a,b)]++rs.drop k):=by
 rw [<- rowCs_take,<- rowCs_drop];simp [rowCs]
theorem rowCs_one{rs:List (Value×Value)}(h:∀ p∈rs,p.1.oneCell'=true∧p.2.oneCell'=true):∀ u∈rowCs rs,u.oneCell'=true:=by
 intro u hu;simp only [rowCs,List.mem_flatMap] at hu;obtain⟨p,hp,hu⟩:=hu;simp at hu
 rcases hu with rfl|rfl
 ·exact(h p hp).1
 ·exact(h p hp).2
structure Kp2 (g:Nat) (rb:Option Nat) (w w':World):Prop where
 os:w'.os=w.os
 tape:w'.tape=w.tape
 output:w'.output=w.output
 size:w.heap.size<=w'.heap.size
 block:∀ k,k<w.heap.size->k≠g->rb≠some k->w'.heap[k]? =w.heap[k]?
theorem Kp2.blk{g b:Nat}{rb:Option Nat}{w w':World}{cs:Array Value}{T:TypeId}(h:Kp2 g rb w w')(hb:Blk w b cs T)(h1:b≠g)(h2:rb≠some b):Blk w' b cs T:=(h.block b (blk_lt hb) h1 h2).trans hb
theorem isNaN64_any(a:Int)(w:World):Calls Tryz.prog 162 #[.int .i64 a] w fun e w'=>e=.returned (.bool false)∧w'=w:=by
 have e:(a != a)=false:=by simp
 go_enter Tryz.func162,Tryz.ntmps162;go_wp2;go_ret;exact⟨rfl,rfl⟩
theorem cmp64_any(a b:Int)(w:World):Calls Tryz.prog 142 #[.int .i64 a,.int .i64 b] w fun e w'=>e=.returned (.int .i64 (Nm.cmpI a b))∧w'=w:=by
 have h1:=fun x W=>isNaN64_any x W
 by_cases hlt:a<b
 ·rw [Nm.cmpI_lt hlt];go_enter Tryz.func142,Tryz.ntmps142;go_wp2_with (go_at_call 162;refine(h1 _ _).mono ?_;rintro e w' ⟨rfl,hw'⟩;obtain rfl:=hw'.symm)
  go_ret;exact⟨rfl,rfl⟩
 ·by_cases hgt:b<a
  ·rw [Nm.cmpI_gt hgt];go_enter Tryz.func142,Tryz.ntmps142;go_wp2_with (go_at_call 162;refine(h1 _ _).mono ?_;rintro e w' ⟨rfl,hw'⟩;obtain rfl:=hw'.symm)
   go_ret;exact⟨rfl,rfl⟩
  ·obtain rfl:a=b:=by omega
   rw [Nm.cmpI_eq rfl];go_enter Tryz.func142,Tryz.ntmps142;go_wp2_with (go_at_call 162;refine(h1 _ _).mono ?_;rintro e w' ⟨rfl,hw'⟩;obtain rfl:=hw'.symm)
   go_ret;exact⟨rfl,rfl⟩
def cfOf{α:Type}(f:α->Int)(l:List α)(i:Nat):Int:=match l[i]? with
 |some x=>f x
 |none=>0
def posOf{α:Type}(f:α->Int)(l:List α):Nat:=(l.takeWhile fun x=>decide (f x<0)).length
theorem cfOf_at{α:Type}{f:α->Int}{l:List α}{i:Nat}{x:α}(h:l[i]? =some x):cfOf f l i=f x:=by rw [cfOf,h]
theorem posOf_fnd{α:Type}{f:α->Int}:∀ (l:List α),(∀ a b,a<=b->b<l.length->cfOf f l b<0->cfOf f l a<0)->Fnd l.length (cfOf f l) (posOf f l):=by
 intro l
 induction l with
 |nil=>intro _;exact⟨Nat.le_refl _,fun i hi=>by simp [posOf] at hi,fun i _ h2=>by simp at h2⟩
 |cons x l ih=>
  intro hm;have hsh:∀ i,cfOf f (x::l) (i+1)=cfOf f l i:=fun i=>by simp [cfOf]
  have hz:cfOf f (x::l) 0=f x:=rfl
  by_cases hx:f x<0
  ·have hp:posOf f (x::l)=posOf f l+1:=by simp [posOf,hx]
   obtain⟨h1,h2,h3⟩:=ih (fun a b hab hb hc=>by
    have:=hm (a+1) (b+1) (by omega) (by simp;omega) (by rw [hsh];exact hc);rw [hsh] at this
    exact this)
   rw [hp];refine⟨by simp;omega,fun i hi=>?_,fun i h4 h5=>?_⟩
   ·cases i with
    |zero=>exact hx
    |succ i=>rw [hsh];exact h2 i (by omega)
   ·cases i with
    |zero=>omega
    |succ i=>rw [hsh];exact h3 i (by omega) (by simp at h5;omega)
  ·have hp:posOf f (x::l)=0:=by simp [posOf,hx]
   rw [hp];refine⟨Nat.zero_le _,fun i hi=>by omega,fun i _ h5=>?_⟩
   rcases Int.lt_or_le (cfOf f (x::l) i) 0 with h|h
   ·have:=hm 0 i (Nat.zero_le _) h5 h;rw [hz] at this;exact absurd this hx
   ·exact h
def insAt{α:Type}(k:Nat)(x:α)(l:List α):List α:=l.take k++[x]++l.drop k
def isIn{α:Type}(f:α->Int)(l:List α):Bool:=decide (posOf f l<l.length)&&decide (cfOf f l (posOf f l)=0)
def putF{α:Type}(f:α->Int)(x:α)(l:List α):List α:=if isIn f l then l else insAt (posOf f l) x l
theorem isIn_some{α:Type}{f:α->Int}{l:List α}(h:isIn f l=true):∃ x,l[posOf f l]? =some x∧f x=0:=by
 simp only [isIn,Bool.and_eq_true,decide_eq_true_eq] at h;obtain⟨h1,h2⟩:=h;refine⟨_,List.getElem?_eq_getElem h1,?_⟩;rw [cfOf_at (List.getElem?_eq_getElem h1)] at h2;exact h2
theorem isIn_not{α:Type}{f:α->Int}{l:List α}(h:isIn f l=false):¬(posOf f l<l.length∧cfOf f l (posOf f l)=0):=by
 rintro⟨h1,h2⟩
 rw [isIn,decide_eq_true h1,decide_eq_true h2] at h;cases h
theorem mono_of_pair{α:Type}{f:α->Int}{R:α->α->Prop}{l:List α}(hp:l.Pairwise R)(hR:∀ a b,R a b->f b<0->f a<0):∀ a b,a<=b->b<l.length->cfOf f l b<0->cfOf f l a<0:=by
 intro a b hab hb hc
 rcases Nat.lt_or_eq_of_le hab with h|h
 ·have:=List.pairwise_iff_getElem.1 hp a b (by omega) hb h;rw [cfOf_at (List.getElem?_eq_getElem hb)] at hc;rw [cfOf_at (List.getElem?_eq_getElem (by omega:a<l.length))];exact hR _ _ this hc
 ·subst h;exact hc
theorem blk_ne{w:World}{a b:Nat}{c d:Array Value}{T T':TypeId}(h1:Blk w a c T)(h2:Blk w b d T')(hne:T≠T'):a≠b:=by
 intro e;subst e;rw [Blk,h1] at h2;simp only [Option.some.injEq,Obj.cells.injEq] at h2;exact hne h2.2.1
theorem own_nb{W:World}{B e s n b:Nat}{v:Value}{xs:List Value}{cs:Array Value}{T:TypeId}(h:W.ownsRow B e s v n xs)(hb:Blk W b cs T)(hne:e≠T):v.ownBlock≠some b:=by
 intro he
 rcases h.2 with⟨rfl,_⟩|⟨g,cap,cur,rfl,_,hh,_⟩
 ·cases he
 ·simp only [Value.ownBlock,Option.some.injEq] at he;subst he;rw [Blk,hh] at hb;simp only [Option.some.injEq,Obj.cells.injEq] at hb;exact hne hb.2.1
end Go.Proofs.YtcihkbojmbfmmaaGreatDoor
namespace Go.Proofs.YtcihkbojmbfmmaaGreatDoor
open Go.RowKit
theorem bless_self:∀ l:List UInt8,Op.bytesLess l l=false:=by
 intro l
 induction l with
 |nil=>rfl
 |cons x l ih=>simp [Op.bytesLess,ih]
theorem ordL_zero(a b:List UInt8):Nm.ordL a b=0↔a=b:=by
 constructor
 ·intro h
  by_cases h1:Op.bytesLess a b=true
  ·rw [Nm.ordL,if_pos h1] at h;omega
  ·rw [Nm.ordL,if_neg h1] at h
   by_cases h2:a=b
   ·exact h2
   ·rw [if_neg h2] at h;omega
 ·intro h;subst h;rw [Nm.ordL,if_neg (by simp [bless_self]),if_pos rfl]
def sameS(a b:ByteArray):Bool:=(Nm.split a).isSome&&(Nm.split b).isSome&&decide (Nm.ordS a b=0)
theorem same_left{a b:ByteArray}(h:Nm.split a=none):sameS a b=false:=by simp [sameS,h]
theorem same_right{a b:ByteArray}(h:Nm.split b=none):sameS a b=false:=by simp [sameS,h]
theorem same_some{a b:ByteArray}{xs ys:List ByteArray}(ha:Nm.split a=some xs)(hb:Nm.split b=some ys):sameS a b=decide (Nm.ordS a b=0):=by simp [sameS,ha,hb]
theorem small_pos{a:ByteArray}{xs:List ByteArray}(h:Nm.split a=some xs):(Nm.small a).toList.isEmpty=false:=by
 apply Nm.tl_not_empty;rw [Nm.small_size];have:=Nm.split_size h;omega
theorem small_eq(a b:ByteArray):((Nm.small a).toList==(Nm.small b).toList)=decide (Nm.ordS a b=0):=by
 rw [Bool.eq_iff_iff];simp only [beq_iff_eq,decide_eq_true_eq,Nm.ordS,ordL_zero];rw [ByteArray.toList_eq,ByteArray.toList_eq,Nm.small_data,Nm.small_data]
end Go.Proofs.YtcihkbojmbfmmaaGreatDoor
namespace Go.Proofs.YtcihkbojmbfmmaaGreatDoor
open Go.RowKit
theorem splitF_of:∀ (zs:List ByteArray) (f:Nat) (r:ByteArray),r.data.toList=Nm.joinL zs->(∀ x∈zs,1<=x.size∧x.size<=63)->r.size<f->Nm.splitF f r=some zs:=by
 intro zs
 induction zs with
 |nil=>
  intro f r hd _ hf;have hsz:r.size=1:=by have:=congrArg List.length hd;simpa [Nm.joinL,Nm.preL] using this
  have hp:0<r.size:=by omega
  have h0:r[0].toNat=0:=by
   have e:=Nm.get_data hp;rw [hd] at e;have:r[0]=0:=by simpa [Nm.joinL,Nm.preL] using e.symm
   rw [this];rfl
  obtain⟨g,rfl⟩:∃ g,f=g+1:=⟨f-1,by omega⟩
  exact Nm.splitF_end g r hp h0 hsz
 |cons x t ih=>
  intro f r hd hx hf;have hx0:=hx x List.mem_cons_self
  have hlen:r.size=(1+x.size)+Nm.wsum t+1:=by
   have:=congrArg List.length hd;rw [Nm.joinL_length] at this;simp only [Nm.wsum] at this;simpa using this
  have hp:0<r.size:=by omega
  have e0:r[0]=UInt8.ofNat x.size:=by
   have e:=Nm.get_data hp;rw [hd] at e;simpa [Nm.joinL,Nm.preL] using e.symm
  have hn:r[0].toNat=x.size:=by rw [e0];simp;omega
  have hd2:r.data.toList=UInt8.ofNat x.size::(x.data.toList++Nm.joinL t):=by rw [hd];simp [Nm.joinL,Nm.preL]
  have xl:x.data.toList.length=x.size:=by simp
  have c1:r.extract 1 (x.size+1)=x:=by
   apply Nm.ba_ext;have e1:(r.extract 1 (x.size+1)).data.toList=(r.data.toList.drop 1).take x.size:=by simp
   rw [e1,hd2,List.drop_succ_cons,List.drop_zero,<- xl,List.take_left]
  have c2:(r.extract (x.size+1) r.size).data.toList=Nm.joinL t:=by
   have e2:(r.extract (x.size+1) r.size).data.toList=(r.data.toList.drop 1).drop x.size:=by
    simp only [ByteArray.data_extract,Array.toList_extract,List.drop_drop];rw [List.extract_eq_take_drop,List.take_of_length_le (by simp)];congr 1;omega
   rw [e2,hd2,List.drop_succ_cons,List.drop_zero,<- xl,List.drop_left]
  obtain⟨g,rfl⟩:∃ g,f=g+1:=⟨f-1,by omega⟩;rw [Nm.splitF_step g r hp (by omega) (by omega) (by omega),hn,c1,ih g _ c2 (fun y hy=>hx y (List.mem_cons_of_mem _ hy)) (by simp;omega)];rfl
theorem split_of_join{zs:List ByteArray}(h:∀ x∈zs,1<=x.size∧x.size<=63)(hw:Nm.wsum zs<=254):Nm.split ⟨(Nm.joinL zs).toArray⟩=some zs:=by
 have hsz:(ByteArray.mk (Nm.joinL zs).toArray).size=Nm.wsum zs+1:=by
  show(Nm.joinL zs).toArray.size=_
  rw [List.size_toArray,Nm.joinL_length]
 rw [Nm.split_short _ (by omega)];exact splitF_of zs 256 _ (by simp) h (by omega)
theorem ordS_zero(x y:ByteArray):Nm.ordS x y=0↔Nm.small x=Nm.small y:=by
 rw [Nm.ordS,ordL_zero];constructor
 ·intro h;apply Nm.ba_ext;rw [Nm.small_data,Nm.small_data,h]
 ·intro h;rw [<- Nm.small_data,<- Nm.small_data,h]
theorem cmpRev_zero:∀ (a b:List ByteArray),Nm.cmpRev a b=0↔a.map Nm.small=b.map Nm.small:=by
 intro a
 induction a with
 |nil=>
  intro b
  cases b with
  |nil=>simp [Nm.cmpRev]
  |cons y b=>simp [Nm.cmpRev]
 |cons x a ih=>
  intro b
  cases b with
  |nil=>simp [Nm.cmpRev]
  |cons y b=>
   rw [Nm.cmpRev]
   by_cases h:Nm.ordS x y=0
   ·rw [if_pos h,ih b];simp [(ordS_zero x y).1 h]
   ·rw [if_neg h];have hne:Nm.small x≠Nm.small y:=fun e=>h ((ordS_zero x y).2 e)
    simp [h,hne]
theorem cmpLs_zero(a b:List ByteArray):Nm.cmpLs a b=0↔a.map Nm.small=b.map Nm.small:=by
 rw [Nm.cmpLs,cmpRev_zero,List.map_reverse,List.map_reverse];constructor
 ·intro h;exact List.reverse_inj.1 h
 ·intro h;rw [h]
theorem smallL_joinL{zs:List ByteArray}(h:∀ x∈zs,1<=x.size∧x.size<=63):Nm.smallL (Nm.joinL zs)=Nm.joinL (zs.map Nm.small):=by
 simp only [Nm.joinL];rw [Nm.preL_small zs (fun x hx=>(h x hx).2)];simp [Nm.smallL,Nm.low]
theorem join_inj{a b:List ByteArray}(ha:∀ x∈a,1<=x.size∧x.size<=63)(hb:∀ x∈b,1<=x.size∧x.size<=63)(wa:Nm.wsum a<=254)(wb:Nm.wsum b<=254)(h:Nm.joinL a=Nm.joinL b):a=b:=by
 have h1:=split_of_join ha wa;have h2:=split_of_join hb wb;rw [h] at h1;rw [h1] at h2;exact Option.some.inj h2
theorem small_ok{zs:List ByteArray}(h:∀ x∈zs,1<=x.size∧x.size<=63):∀ x∈zs.map Nm.small,1<=x.size∧x.size<=63:=by
 intro x hx;obtain⟨y,hy,rfl⟩:=List.mem_map.1 hx;rw [Nm.small_size];exact h y hy
def underB(xs ys:List ByteArray):Bool:=decide (ys.length<=xs.length)&&decide (Nm.cmpLs (xs.drop (xs.length-ys.length)) ys=0)
theorem ord_join{zs ys:List ByteArray}{b:ByteArray}(hz:∀ x∈zs,1<=x.size∧x.size<=63)(wz:Nm.wsum zs<=254)(hb:Nm.split b=some ys):
 Nm.ordS ⟨(Nm.joinL zs).toArray⟩ b=0↔Nm.cmpLs zs ys=0:=by
 obtain⟨hj,hy⟩:=Nm.split_join hb;obtain⟨wy,wy2⟩:=Nm.split_size hb;rw [Nm.ordS,ordL_zero,cmpLs_zero];simp only
 rw [<- hj,smallL_joinL hz,smallL_joinL hy];constructor
 ·intro h;exact join_inj (small_ok hz) (small_ok hy) (by rw [Nm.wsum_small];omega) (by rw [Nm.wsum_small];omega) h
 ·intro h;rw [h]
def isUnderS(a b:ByteArray):Bool:=
 match Nm.split a,Nm.split b with
 |some xs,some ys=>underB xs ys
 |_,_=>false
theorem isUnder_left{a b:ByteArray}(h:Nm.split a=none):isUnderS a b=false:=by simp [isUnderS,h]
theorem isUnder_right{a b:ByteArray}(h:Nm.split b=none):isUnderS a b=false:=by
 cases ha:Nm.split a<;>simp [isUnderS,h,ha]
theorem isUnder_some{a b:ByteArray}{xs ys:List ByteArray}(ha:Nm.split a=some xs)(hb:Nm.split b=some ys):isUnderS a b=underB xs ys:=by simp [isUnderS,ha,hb]
theorem drop_ok{xs:List ByteArray}(h:∀ x∈xs,1<=x.size∧x.size<=63)(k:Nat):∀ x∈xs.drop k,1<=x.size∧x.size<=63:=
 fun x hx=>h x (List.mem_of_mem_drop hx)
theorem under_same{xs ys:List ByteArray}{a b:ByteArray}(ha:Nm.split a=some xs)(hb:Nm.split b=some ys)(hl:ys.length<=xs.length):
 sameS ⟨(Nm.joinL (xs.drop (xs.length-ys.length))).toArray⟩ b=underB xs ys:=by
 have hx:=(Nm.split_join ha).2;have hw:=Nm.split_size ha;have hd:=Nm.wsum_drop_le xs (xs.length-ys.length);have hs:=split_of_join (drop_ok hx (xs.length-ys.length)) (by omega);rw [same_some hs hb,underB];simp only [hl,decide_true,Bool.true_and];rw [Bool.eq_iff_iff];simp only [decide_eq_true_eq];exact ord_join (drop_ok hx _) (by omega) hb
end Go.Proofs.YtcihkbojmbfmmaaGreatDoor
namespace Go.Proofs.YtcihkbojmbfmmaaGreatDoor
open Go.RowKit
theorem cmpI_anti(a b:Int):Nm.cmpI b a= -Nm.cmpI a b:=by
 unfold Nm.cmpI
 split<;>split<;>first|omega|(split<;>omega)|skip
 all_goals simp_all<;>omega
theorem cmpI_le{a b:Int}(h:a≠b):Nm.cmpI a b<=0↔a<b:=by
 by_cases h1:a<b
 ·rw [Nm.cmpI_lt h1];simp [h1]
 ·rw [Nm.cmpI_gt (by omega)];simp [h1]
theorem ordL_anti:∀ (a b:List UInt8),Nm.ordL b a= -Nm.ordL a b
 |[],[]=>rfl
 |[],y::b=>rfl
 |x::a,[]=>rfl
 |x::a,y::b=>by
  by_cases h:x=y
  ·subst h;rw [Nm.ordL_same,Nm.ordL_same];exact ordL_anti a b
  ·rw [Nm.ordL_ne a b h,Nm.ordL_ne b a (Ne.symm h)];exact cmpI_anti _ _
theorem ordL_range(a b:List UInt8): -1<=Nm.ordL a b∧Nm.ordL a b<=1:=by
 unfold Nm.ordL;split
 ·omega
 ·split<;>omega
theorem ordL_trans:∀ (a b c:List UInt8),Nm.ordL a b<=0->Nm.ordL b c<=0->Nm.ordL a c<=0
 |[],b,[],_,_=>by rw [Nm.ordL_nil];decide
 |[],b,z::c,_,_=>by rw [Nm.ordL_left];decide
 |x::a,[],c,h,_=>by rw [Nm.ordL_right] at h;omega
 |x::a,y::b,[],_,h=>by rw [Nm.ordL_right] at h;omega
 |x::a,y::b,z::c,h1,h2=>by
  have inj:∀ {p q:UInt8},p≠q->(p.toNat:Int)≠(q.toNat:Int):=fun h e=>h (UInt8.toNat_inj.1 (by omega))
  by_cases hxy:x=y
  ·subst hxy
   by_cases hyz:x=z
   ·subst hyz;rw [Nm.ordL_same] at h1 h2 ⊢;exact ordL_trans a b c h1 h2
   ·rw [Nm.ordL_ne _ _ hyz] at h2 ⊢;exact h2
  ·rw [Nm.ordL_ne _ _ hxy,cmpI_le (inj hxy)] at h1
   by_cases hyz:y=z
   ·subst hyz;rw [Nm.ordL_ne _ _ hxy,cmpI_le (inj hxy)];exact h1
   ·rw [Nm.ordL_ne _ _ hyz,cmpI_le (inj hyz)] at h2;have hxz:x≠z:=fun e=>by subst e;omega
    rw [Nm.ordL_ne _ _ hxz,cmpI_le (inj hxz)];omega
theorem ordS_anti(x y:ByteArray):Nm.ordS y x= -Nm.ordS x y:=ordL_anti _ _
theorem ordS_swap{x y:ByteArray}(h:Nm.ordS x y=0)(z:ByteArray):Nm.ordS x z=Nm.ordS y z∧Nm.ordS z x=Nm.ordS z y:=by
 have e:=(ordL_zero _ _).1 h;unfold Nm.ordS;rw [e];exact⟨rfl,rfl⟩
theorem cmpRev_anti:∀ (a b:List ByteArray),Nm.cmpRev b a= -Nm.cmpRev a b
 |[],[]=>rfl
 |[],y::b=>rfl
 |x::a,[]=>rfl
 |x::a,y::b=>by
  rw [Nm.cmpRev,Nm.cmpRev,ordS_anti x y]
  by_cases h:Nm.ordS x y=0
  ·rw [if_pos h,if_pos (by omega)];exact cmpRev_anti a b
  ·rw [if_neg h,if_neg (by omega)]
theorem cmpRev_range:∀ (a b:List ByteArray),-1<=Nm.cmpRev a b∧Nm.cmpRev a b<=1
 |[],[]=>by rw [Nm.cmpRev];decide
 |[],y::b=>by rw [Nm.cmpRev];decide
 |x::a,[]=>by rw [Nm.cmpRev];decide
 |x::a,y::b=>by
  rw [Nm.cmpRev];split
  ·exact cmpRev_range a b
  ·exact ordL_range _ _
theorem cmpRev_trans:∀ (a b c:List ByteArray),Nm.cmpRev a b<=0->Nm.cmpRev b c<=0->Nm.cmpRev a c<=0
 |[],b,[],_,_=>by rw [Nm.cmpRev];decide
 |[],b,z::c,_,_=>by rw [Nm.cmpRev];decide
 |x::a,[],c,h,_=>by rw [Nm.cmpRev] at h;omega
 |x::a,y::b,[],_,h=>by rw [Nm.cmpRev] at h;omega
 |x::a,y::b,z::c,h1,h2=>by
  rw [Nm.cmpRev] at h1 h2 ⊢
  by_cases hxy:Nm.ordS x y=0
  ·rw [if_pos hxy] at h1;rw [(ordS_swap hxy z).1]
   by_cases hyz:Nm.ordS y z=0
   ·rw [if_pos hyz] at h2 ⊢;exact cmpRev_trans a b c h1 h2
   ·rw [if_neg hyz] at h2 ⊢;exact h2
  ·rw [if_neg hxy] at h1
   by_cases hyz:Nm.ordS y z=0
   ·rw [<- (ordS_swap hyz x).2,if_neg hxy];exact h1
   ·rw [if_neg hyz] at h2;have h3:Nm.ordS x z<=0:=ordL_trans _ _ _ h1 h2
    have hxz:Nm.ordS x z≠0:=by
     intro e;have e1:=(ordS_swap e y).1;have e2:=ordS_anti y z;omega
    rw [if_neg hxz];exact h3
theorem cmpLs_anti(a b:List ByteArray):Nm.cmpLs b a= -Nm.cmpLs a b:=cmpRev_anti _ _
theorem cmpLs_range(a b:List ByteArray): -1<=Nm.cmpLs a b∧Nm.cmpLs a b<=1:=cmpRev_range _ _
theorem cmpLs_trans{a b c:List ByteArray}(h1:Nm.cmpLs a b<=0)(h2:Nm.cmpLs b c<=0):Nm.cmpLs a c<=0:=cmpRev_trans _ _ _ h1 h2
theorem cmpLs_trans'{a b c:List ByteArray}(h1:0<=Nm.cmpLs a b)(h2:0<=Nm.cmpLs b c):0<=Nm.cmpLs a c:=by
 have e1:=cmpLs_anti a b;have e2:=cmpLs_anti b c;have e3:=cmpLs_anti a c;have:=cmpLs_trans (a:=c) (b:=b) (c:=a) (by omega) (by omega);omega
end Go.Proofs.YtcihkbojmbfmmaaGreatDoor
namespace Go.Proofs.YtcihkbojmbfmmaaGreatDoor
open Go.RowKit
set_option linter.unusedVariables false
theorem own_sl{w:World}{B e s n:Nat}{v:Value}{xs:List Value}(h:w.ownsRow B e s v n xs):∃ a cap,v=.slice a n cap:=by
 rcases h.2 with⟨rfl,rfl⟩|⟨g,cap,cur,rfl,_⟩
 ·exact⟨_,_,rfl⟩
 ·exact⟨_,_,rfl⟩
theorem own_far{W:World}{B e s n g i:Nat}{v y:Value}{xs:List Value}(h:W.ownsRow B e s v n xs)(hg:v.ownBlock≠some g):(W.setCell ⟨g,i,none⟩ y).ownsRow B e s v n xs:=by
 refine⟨h.1,?_⟩
 rcases h.2 with h0|⟨g',cap,cur,rfl,hb,hh,r⟩
 ·exact .inl h0
 ·refine .inr ⟨g',cap,cur,rfl,hb,?_,r⟩;rw [heap_setCell_other W ⟨g,i,none⟩ g' _ (fun e=>hg (by simp [Value.ownBlock,e]))];exact hh
theorem own_far_lt{W:World}{B e s n g i:Nat}{v y:Value}{xs:List Value}(h:W.ownsRow B e s v n xs)(hg:g<B):(W.setCell ⟨g,i,none⟩ y).ownsRow B e s v n xs:=by
 refine own_far h (fun e=>?_);have:=(h.lt g e).1;omega
theorem own_ne{W:World}{B e s n B' e' s' m g cap:Nat}{v:Value}{xs ys:List Value}(h:W.ownsRow B e s v n xs)(h':W.ownsRow B' e' s' (.slice (some ⟨g,0,none⟩) m cap) m ys)(hne:e≠e'):v.ownBlock≠some g:=by
 intro he
 rcases h'.2 with⟨h0,_⟩|⟨g',cap',cur',e1,_,hh',_⟩
 ·cases h0
 ·cases e1
  rcases h.2 with⟨rfl,_⟩|⟨g2,cap2,cur2,rfl,_,hh,_⟩
  ·cases he
  ·simp only [Value.ownBlock,Option.some.injEq] at he;subst he;rw [hh] at hh';simp only [Option.some.injEq,Obj.cells.injEq] at hh';exact hne hh'.2.1
structure GSe where
 blk:Nat
 hd:Nat
 rv:Value
 ty:Int
 tt:Int
 fi:Nat
 da:List (ByteArray×ByteArray)
structure GOw where
 blk:Nat
 hd:Nat
 rv:Value
 lv:Value
 lab:List ByteArray
 nm:ByteArray
 ss:List GSe
def ptr(b:Nat):Value:=.pointer (some ⟨b,0,none⟩)
def daRs(l:List (ByteArray×ByteArray)):List (Value×Value):=l.map fun p=>(.string p.1,.string p.2)
def seRs(l:List GSe):List (Value×Value):=l.map fun s=>(.int .i64 s.ty,ptr s.blk)
def owRs(l:List GOw):List (Value×Value):=l.map fun o=>(o.lv,ptr o.blk)
def cmpSv:Value:=.func (.func 146) #[] #[]
def cmpIv:Value:=.func (.func 142) #[] #[]
def cmpLv:Value:=.func (.func 109) #[] #[]
def fpS(s:GSe):List Nat:=s.blk::s.hd::s.rv.ownBlock.toList
def fpO(o:GOw):List Nat:=o.blk::o.hd::(o.rv.ownBlock.toList++o.ss.flatMap fpS)
def fpT(th:Nat)(rv:Value)(os:List GOw):List Nat:=th::(rv.ownBlock.toList++os.flatMap fpO)
structure SeAt (w:World) (B:Nat) (s:GSe):Prop where
 node:Blk w s.blk #[.int .i64 s.tt,.int .i64 (s.fi:Int),ptr s.hd] 165
 head:Blk w s.hd #[cmpSv,s.rv] 223
 rows:w.ownsRow B 226 2 s.rv (daRs s.da).length (rowCs (daRs s.da))
structure OwAt (w:World) (B:Nat) (o:GOw):Prop where
 node:Blk w o.blk #[.string o.nm,o.lv,ptr o.hd] 140
 head:Blk w o.hd #[cmpIv,o.rv] 183
 rows:w.ownsRow B 185 2 o.rv (seRs o.ss).length (rowCs (seRs o.ss))
 sets:∀ s∈o.ss,SeAt w B s
structure TrAt (w:World) (B th:Nat) (rv:Value) (os:List GOw):Prop where
 head:Blk w th #[cmpLv,rv] 176
 rows:w.ownsRow B 178 2 rv (owRs os).length (rowCs (owRs os))
 owners:∀ o∈os,OwAt w B o
 nodup:(fpT th rv os).Nodup
theorem blk_keep{w w':World}{b:Nat}{cs:Array Value}{T:TypeId}(h:Blk w b cs T)(he:w'.heap[b]? =w.heap[b]?):Blk w' b cs T:=he.trans h
theorem own_keep{w w':World}{B e s n:Nat}{v:Value}{xs:List Value}(h:w.ownsRow B e s v n xs)(he:∀ b∈v.ownBlock.toList,w'.heap[b]? =w.heap[b]?):w'.ownsRow B e s v n xs:=by
 refine⟨h.1,?_⟩
 rcases h.2 with h0|⟨q,cap,cur,rfl,hb,hh,r⟩
 ·exact .inl h0
 ·exact .inr ⟨q,cap,cur,rfl,hb,(he q (by simp [Value.ownBlock])).trans hh,r⟩
theorem SeAt.keep{w w':World}{B:Nat}{s:GSe}(h:SeAt w B s)(he:∀ b∈fpS s,w'.heap[b]? =w.heap[b]?):SeAt w' B s:=
 ⟨blk_keep h.node (he _ (by simp [fpS])),blk_keep h.head (he _ (by simp [fpS])),own_keep h.rows (fun b hb=>he b (by simp only [fpS,List.mem_cons];exact .inr (.inr hb)))⟩
theorem OwAt.keep{w w':World}{B:Nat}{o:GOw}(h:OwAt w B o)(he:∀ b∈fpO o,w'.heap[b]? =w.heap[b]?):OwAt w' B o:=
 ⟨blk_keep h.node (he _ (by simp [fpO])),blk_keep h.head (he _ (by simp [fpO])),own_keep h.rows (fun b hb=>he b (by simp only [fpO,List.mem_cons,List.mem_append];exact .inr (.inr (.inl hb)))),
  fun s hs=>(h.sets s hs).keep (fun b hb=>he b (by simp only [fpO,List.mem_cons,List.mem_append,List.mem_flatMap];exact .inr (.inr (.inr ⟨s,hs,hb⟩))))⟩
theorem TrAt.keep{w w':World}{B th:Nat}{rv:Value}{os:List GOw}(h:TrAt w B th rv os)(he:∀ b∈fpT th rv os,w'.heap[b]? =w.heap[b]?):TrAt w' B th rv os:=
 ⟨blk_keep h.head (he _ (by simp [fpT])),own_keep h.rows (fun b hb=>he b (by simp only [fpT,List.mem_cons,List.mem_append];exact .inr (.inl hb))),
  fun o ho=>(h.owners o ho).keep (fun b hb=>he b (by simp only [fpT,List.mem_cons,List.mem_append,List.mem_flatMap];exact .inr (.inr ⟨o,ho,hb⟩))),h.nodup⟩
theorem own_lt{w:World}{B e s n:Nat}{v:Value}{xs:List Value}(h:w.ownsRow B e s v n xs):∀ b∈v.ownBlock.toList,b<w.heap.size:=by
 intro b hb
 cases hv:v.ownBlock with
 |none=>rw [hv] at hb;simp at hb
 |some q=>
  rw [hv] at hb;simp at hb;subst hb;exact(h.lt _ hv).2
theorem SeAt.lt{w:World}{B:Nat}{s:GSe}(h:SeAt w B s):∀ b∈fpS s,b<w.heap.size:=by
 intro b hb;simp only [fpS,List.mem_cons] at hb
 rcases hb with rfl|rfl|hb
 ·exact blk_lt h.node
 ·exact blk_lt h.head
 ·exact own_lt h.rows b hb
theorem OwAt.lt{w:World}{B:Nat}{o:GOw}(h:OwAt w B o):∀ b∈fpO o,b<w.heap.size:=by
 intro b hb;simp only [fpO,List.mem_cons,List.mem_append,List.mem_flatMap] at hb
 rcases hb with rfl|rfl|hb|⟨s,hs,hb⟩
 ·exact blk_lt h.node
 ·exact blk_lt h.head
 ·exact own_lt h.rows b hb
 ·exact(h.sets s hs).lt b hb
theorem TrAt.lt{w:World}{B th:Nat}{rv:Value}{os:List GOw}(h:TrAt w B th rv os):∀ b∈fpT th rv os,b<w.heap.size:=by
 intro b hb;simp only [fpT,List.mem_cons,List.mem_append,List.mem_flatMap] at hb
 rcases hb with rfl|hb|⟨o,ho,hb⟩
 ·exact blk_lt h.head
 ·exact own_lt h.rows b hb
 ·exact(h.owners o ho).lt b hb
theorem TrAt.below{w w':World}{B th:Nat}{rv:Value}{os:List GOw}(h:TrAt w B th rv os)(hb:Below w.heap.size w w'):TrAt w' B th rv os:=
 h.keep (fun b hm=>hb.block b (h.lt b hm))
structure Outs (fp:List Nat) (w w':World):Prop where
 os:w'.os=w.os
 tape:w'.tape=w.tape
 output:w'.output=w.output
 size:w.heap.size<=w'.heap.size
 block:∀ k,k<w.heap.size->k∉fp->w'.heap[k]? =w.heap[k]?
theorem Outs.below{fp:List Nat}{w w':World}(h:Below w.heap.size w w'):Outs fp w w':=⟨h.os,h.tape,h.output,h.size,fun k hk _=>h.block k hk⟩
theorem Outs.trans{fp fp':List Nat}{w w1 w2:World}(h:Outs fp w w1)(h2:Outs fp' w1 w2)(hs:∀ k∈fp',k∈fp∨w.heap.size<=k):Outs fp w w2:=
 ⟨h2.os.trans h.os,h2.tape.trans h.tape,h2.output.trans h.output,Nat.le_trans h.size h2.size,fun k hk hn=>by
  rw [h2.block k (Nat.lt_of_lt_of_le hk h.size) (fun hm=>by rcases hs k hm with h1|h1;exact hn h1;omega)]
  exact h.block k hk hn⟩
theorem Outs.wide{fp fp':List Nat}{w w':World}(h:Outs fp w w')(hs:∀ k∈fp,k∈fp'):Outs fp' w w':=⟨h.os,h.tape,h.output,h.size,fun k hk hn=>h.block k hk (fun hm=>hn (hs k hm))⟩
end Go.Proofs.YtcihkbojmbfmmaaGreatDoor
namespace Go.Proofs.YtcihkbojmbfmmaaGreatDoor
open Go.RowKit
theorem Tryz.infoU8c:(Tryz.prog.info? 5).map (fun i=>(i.zero,i.size,i.bytes))=some (some (.int .u8 0),1,1):=by kernel_rfl
set_option maxRecDepth 100000 in
set_option maxHeartbeats 800000 in
theorem clone_any(s:ByteArray)(w:World)(hs:s.size<=1000000000):
 Calls Tryz.prog 93 #[.string s] w fun e w'=>e=.returned (.string s)∧Below w.heap.size w w':=by
 by_cases h0:s.size=0
 ·have hs0:s=⟨#[]⟩:=by
   apply ByteArray.ext;exact Array.eq_empty_of_size_eq_zero h0
  subst hs0;go_enter Tryz.func93,Tryz.ntmps93;go_wp2;go_ret;exact⟨rfl,Below.refl _ _⟩
 ·obtain⟨i0,hi,hz0,hz1,hz2⟩:=info_parts Tryz.infoU8c;have hinfo:(Tryz.prog.info? 5).map (·.size)=some 1:=by rw [hi];simp [hz1]
  have hco:Tryz.prog.cellsOf 5=1:=by simp [Program.cellsOf,hi,hz1]
  obtain⟨M,hM⟩:∃ M,M=madeCells (Value.int .u8 0).cells (((s.size:Nat):Int).toNat*i0.size):=⟨_,rfl⟩;have hMs:M.size=s.size:=by rw [hM,size_madeCells,hz1];simp
  have hmk:∀ W:World,(Instr.makeSlice 26 (.int .i64 (s.size:Int)) (.int .i64 (s.size:Int))).run Tryz.prog W=.ok (.slice (some ⟨W.heap.size,0,none⟩) s.size s.size) (W.alloc (.cells M 5)):=by
   intro W;have h:=run_make (P:=Tryz.prog) W 26 5 i0 (.int .u8 0) Tryz.underlying26 hi hz0 .i64 .i64 (s.size:Int) (s.size:Int) (by omega) (by omega) (by rw [hz2];omega) (by omega);rw [<- hM] at h;simpa using h
  clear hM;have hcp:=Lib.run_copy_row_string (P:=Tryz.prog) (w.alloc (.cells M 5)) 26 9 3 5 w.heap.size 0 s.size s.size s M 5 Tryz.underlying26 hinfo (heap_alloc_new w _) (Nat.le_refl _) (by omega);obtain⟨Y,hY⟩:∃ Y,Y=(M.toList.take 0++Lib.byteCells s.data.toList++M.toList.drop (0+s.size)).toArray:=⟨_,rfl⟩;rw [<- hY] at hcp
  have hYl:Y.toList=Lib.byteCells s.data.toList:=by
   rw [hY,List.toList_toArray,List.take_zero,List.nil_append,List.drop_of_length_le (by rw [Array.length_toList];omega),List.append_nil]
  have hgY:((w.alloc (.cells M 5)).setRow w.heap.size Y).heap[w.heap.size]? =some (.cells Y 5 (0,0)):=setRow_heap _ _ M _ 5 (0,0) (heap_alloc_new w _);have hlen:s.data.toList.length=s.size:=by simp
  have hYs:Y.size=s.size:=by rw [<- Array.length_toList,hYl,Lib.byteCells_length,hlen]
  have hne:s.data.toList≠[]:=fun e=>h0 (by rw [<- hlen,e];rfl)
  have hUS:=Lib.run_unsafeString_row (P:=Tryz.prog) ((w.alloc (.cells M 5)).setRow w.heap.size Y) 150 3 9 5 Tryz.underlying150 hco w.heap.size Y.size (by unfold World.shape?;rw [hgY]) s.data.toList hne (by omega) (by omega)
   (by
    intro j x hx;rw [Nm.addr_add,Nat.zero_add,cell_of_row _ _ _ _ _ _ hgY,<- Array.getElem?_toList,hYl]
    simp only [Lib.byteCells,List.getElem?_map,hx,Option.map_some])
  rw [hlen] at hUS;clear hY;go_enter Tryz.func93,Tryz.ntmps93;go_wp2;go_ret;have hb1:Below w.heap.size w (w.alloc (.cells M 5)):=(Below.refl _ w).alloc (Nat.le_refl _) _;have hb2:Below w.heap.size (w.alloc (.cells M 5)) ((w.alloc (.cells M 5)).setRow w.heap.size Y):=⟨rfl,rfl,rfl,by simp,fun k hk=>setRow_other _ _ _ _ (by omega)⟩;exact⟨rfl,Lib.below_freeze (hb1.trans hb2) (p:=⟨w.heap.size,0,none⟩) (Nat.le_refl _) _⟩
end Go.Proofs.YtcihkbojmbfmmaaGreatDoor
namespace Go.Proofs.YtcihkbojmbfmmaaGreatDoor
open Go
section
variable {P:Program}{ops:Array Oper}{Q:Exit->Act->World->Prop}{md:Region.Mode}{S:World->Prop}{L:Nat}
def wpAnyL(P:Program)(md:Region.Mode)(ops:Array Oper)(Q:Exit->Act->World->Prop)(S:World->Prop)(L:Nat):Nat->Array Bool->Act->World->Prop
 |0,listed,a,w=>Region.ready md ops listed=[]∧Q .normal a w
 |fuel+1,listed,a,w=>
  (Region.ready md ops listed=[]->Q .normal a w)∧
  ∀ i∈Region.ready md ops listed,wpOp P ops Q i (fun a' w'=>(i=L∨S w')∧wpAnyL P md ops Q S L fuel (listed.setIfInBounds i true) a' w') a w
theorem wpAny_of_last:∀ (fuel:Nat) (listed:Array Bool) (a:Act) (w:World),wpAnyL P md ops Q S L fuel listed a w->wpAny P md ops Q fuel listed a w
 |0,_,_,_,h=>h
 |fuel+1,_,_,_,h=>⟨h.1,fun i hi=>wpOp_mono (fun a' w' h'=>wpAny_of_last fuel _ a' w' h'.2) (h.2 i hi)⟩
def waitsFor(md:Region.Mode)(ops:Array Oper)(L i:Nat):Bool:=match ops[L]? with
 |some o=>o.after.any (fun e=>Region.binds md e&&e.on==i)
 |none=>true
theorem ready_free{listed:Array Bool}{i j:Nat}{oj:Oper}(hi:i∈Region.ready md ops listed)(hj:j∈Region.ready md ops listed)(ho:ops[j]? =some oj):∀ e∈oj.after,Region.binds md e=true->e.on≠i:=by
 rintro e he hb rfl;obtain⟨_,o,ho2,hall⟩:=mem_ready.1 hj;obtain rfl:oj=o:=Option.some.inj (ho.symm.trans ho2);have h1:=hall e he hb;have h0:=(mem_ready.1 hi).1;rw [Array.getD_eq_getD_getElem?] at h0 h1
 cases hx:listed[e.on]? with
 |none=>rw [hx] at h1;cases h1
 |some b=>rw [hx] at h0 h1;simp only [Option.getD_some] at h0 h1;rw [h0] at h1;cases h1
theorem last_waits{listed:Array Bool}{i j:Nat}(hL:waitsFor md ops L i=true)(hi:i∈Region.ready md ops listed)(hj:j∈Region.ready md ops listed):j≠L:=by
 rintro rfl;obtain⟨_,o,ho,_⟩:=mem_ready.1 hj;rw [waitsFor,ho] at hL;simp only [Array.any_eq_true',Bool.and_eq_true,beq_iff_eq] at hL;obtain⟨e,he,hb,h⟩:=hL;exact ready_free hi hj ho e he hb h
def Untouched(md:Region.Mode)(ops:Array Oper)(oi:Oper)(i:Nat)(listed:Array Bool):Prop:=∀ j oj,ops[j]? =some oj->j≠i->listed.getD j true=false->(∀ e∈oj.after,Region.binds md e=true->e.on≠i)->oi.apart ops oj=true
theorem Untouched.more{oi:Oper}{i j:Nat}{listed:Array Bool}(h:Untouched md ops oi i listed)(hj:listed.getD j true=false):Untouched md ops oi i (listed.setIfInBounds j true):=by
 intro k ok hk hki hun;refine h k ok hk hki ?_
 rcases Nat.decEq j k with hne|rfl
 ·rw [getD_set_ne true hne] at hun;exact hun
 ·exact hj
theorem wpAnyL_first{i:Nat}{oi:Oper}{v:Value}(hi:ops[i]? =some oi)(hsel:∀ (j:Nat) (o:Oper) cs b,ops[j]? =some o->o.op≠ .select cs b)
 (hQ:∀ c a w,Q (.panic c) (a.put oi.dst v) w->Q (.panic c) a w) (hL:waitsFor md ops L i=true) (fuel:Nat):
 ∀ (listed:Array Bool) (a:Act) (w:World),Untouched md ops oi i listed->i∈Region.ready md ops listed->YieldsIf P ops S oi v a->S w->
   wpAnyL P md ops Q S L fuel (listed.setIfInBounds i true) (a.put oi.dst v) w->wpAnyL P md ops Q S L (fuel+1) listed a w:=by
 induction fuel with
 |zero=>
  intro listed a w _ hr hy hS H;refine⟨fun h=>absurd (h▸hr) (by simp),fun j hj=>?_⟩
  rcases Nat.decEq j i with hne|rfl
  ·exact absurd (H.1▸ready_mono hj hne) (by simp)
  ·exact hy.wpOp hi hS ⟨.inr hS,H⟩
 |succ fuel ih=>
  intro listed a w hun hr hy hS H;refine⟨fun h=>absurd (h▸hr) (by simp),fun j hj=>?_⟩
  rcases Nat.decEq j i with hne|rfl
  ·obtain⟨hju,oj,hoj,_⟩:=mem_ready.1 hj;have hstep:=wpOp_putIf hoj (hun j oj hoj hne hju (ready_free hr hj hoj)) (fun cs b=>hsel i oi cs b hi) (fun cs b=>hsel j oj cs b hoj) hQ hy (H.2 j (ready_mono hj hne));refine wpOp_mono (fun a' w' ⟨hy',hS',hW⟩=>?_) hstep;have hSw:=hS'.resolve_left (last_waits hL hr hj);exact⟨.inr hSw,ih _ a' w' (hun.more hju) (ready_mono hr (Ne.symm hne)) hy' hSw (by rw [Array.setIfInBounds_comm _ _ hne];exact hW)⟩
  ·exact hy.wpOp hi hS ⟨.inr hS,H⟩
theorem wpAnyL_take{i:Nat}{oi:Oper}{v:Value}{fuel:Nat}{listed:Array Bool}{a:Act}{w:World}(hi:ops[i]? =some oi)
 (hs:Region.noSelect ops=true) (hf:Region.free md ops listed i=true) (hr:(Region.ready md ops listed).contains i=true) (hL:waitsFor md ops L i=true)
 (hQ:∀ c a w,Q (.panic c) (a.put oi.dst v) w->Q (.panic c) a w) (hy:YieldsIf P ops S oi v a) (hS:S w)
 (h:wpAnyL P md ops Q S L fuel (listed.setIfInBounds i true) (a.put oi.dst v) w):wpAnyL P md ops Q S L (fuel+1) listed a w:=
 wpAnyL_first hi (Region.noSelect_spec hs) hQ hL fuel listed a w (Region.free_spec hi hf) (by simpa using hr) hy hS h
theorem tkL{i:Nat}{oi:Oper}{v:Value}{fuel:Nat}{listed:Array Bool}{a:Act}{w:World}(hi:ops[i]? =some oi)
 (hy:∀ w,S w->(execOp a.eval oi).run P w=.ok (.value v) w) (h:wpAnyL P md ops Q S L fuel (listed.setIfInBounds i true) (a.put oi.dst v) w)
 (hs:Region.noSelect ops=true:=by kernel_rfl) (hf:Region.free md ops listed i=true:=by kernel_rfl) (hr:(Region.ready md ops listed).contains i=true:=by kernel_rfl) (hL:waitsFor md ops L i=true:=by kernel_rfl)
 (hQ:∀ c a w,Q (.panic c) (a.put oi.dst v) w->Q (.panic c) a w:=by exact fun _ _ _ h=>h) (hw:Region.wanted oi (yielded ops a.tmps)=true:=by rfl) (hS:S w:=by assumption):wpAnyL P md ops Q S L (fuel+1) listed a w:=
 wpAnyL_take hi hs hf hr hL hQ (Or.inl ⟨hw,hy⟩) hS h
theorem tkA(i:Nat){oi:Oper}{v:Value}{fuel:Nat}{listed:Array Bool}{a:Act}{w:World}(hi:ops[i]? =some oi)
 (h:wpAnyL P md ops Q S L fuel (listed.setIfInBounds i true) (a.put oi.dst v) w) (hy:∀ w,S w->(execOp a.eval oi).run P w=.ok (.value v) w:=by intro w hSw;go_simp;try (with_reducible rfl))
 (hs:Region.noSelect ops=true:=by kernel_rfl) (hf:Region.free md ops listed i=true:=by kernel_rfl) (hr:(Region.ready md ops listed).contains i=true:=by kernel_rfl) (hL:waitsFor md ops L i=true:=by kernel_rfl)
 (hQ:∀ c a w,Q (.panic c) (a.put oi.dst v) w->Q (.panic c) a w:=by exact fun _ _ _ h=>h) (hw:Region.wanted oi (yielded ops a.tmps)=true:=by rfl) (hS:S w:=by assumption):wpAnyL P md ops Q S L (fuel+1) listed a w:=
 wpAnyL_take hi hs hf hr hL hQ (Or.inl ⟨hw,hy⟩) hS h
theorem tkB(i:Nat){oi:Oper}{v:Value}{fuel:Nat}{listed:Array Bool}{a:Act}{w:World}(hi:ops[i]? =some oi)
 (h:wpAnyL P md ops Q S L fuel (listed.setIfInBounds i true) (a.put oi.dst v) w) (hy:∀ w,S w->(execOp a.eval oi).run P w=.ok (.value v) w:=by intro w hSw;obtain⟨s0,s1⟩:=hSw;go_simp;try (with_reducible rfl))
 (hs:Region.noSelect ops=true:=by kernel_rfl) (hf:Region.free md ops listed i=true:=by kernel_rfl) (hr:(Region.ready md ops listed).contains i=true:=by kernel_rfl) (hL:waitsFor md ops L i=true:=by kernel_rfl)
 (hQ:∀ c a w,Q (.panic c) (a.put oi.dst v) w->Q (.panic c) a w:=by exact fun _ _ _ h=>h) (hw:Region.wanted oi (yielded ops a.tmps)=true:=by rfl) (hS:S w:=by assumption):wpAnyL P md ops Q S L (fuel+1) listed a w:=
 wpAnyL_take hi hs hf hr hL hQ (Or.inl ⟨hw,hy⟩) hS h
theorem tkC(i:Nat){oi:Oper}{v:Value}{fuel:Nat}{listed:Array Bool}{a:Act}{w:World}(hi:ops[i]? =some oi)
 (h:wpAnyL P md ops Q S L fuel (listed.setIfInBounds i true) (a.put oi.dst v) w) (hy:∀ w,S w->(execOp a.eval oi).run P w=.ok (.value v) w:=by intro w hSw;obtain⟨s0,s1,s2⟩:=hSw;go_simp;try (with_reducible rfl))
 (hs:Region.noSelect ops=true:=by kernel_rfl) (hf:Region.free md ops listed i=true:=by kernel_rfl) (hr:(Region.ready md ops listed).contains i=true:=by kernel_rfl) (hL:waitsFor md ops L i=true:=by kernel_rfl)
 (hQ:∀ c a w,Q (.panic c) (a.put oi.dst v) w->Q (.panic c) a w:=by exact fun _ _ _ h=>h) (hw:Region.wanted oi (yielded ops a.tmps)=true:=by rfl) (hS:S w:=by assumption):wpAnyL P md ops Q S L (fuel+1) listed a w:=
 wpAnyL_take hi hs hf hr hL hQ (Or.inl ⟨hw,hy⟩) hS h
theorem tkD(i:Nat){oi:Oper}{v:Value}{fuel:Nat}{listed:Array Bool}{a:Act}{w:World}(hi:ops[i]? =some oi)
 (h:wpAnyL P md ops Q S L fuel (listed.setIfInBounds i true) (a.put oi.dst v) w) (hy:∀ w,S w->(execOp a.eval oi).run P w=.ok (.value v) w:=by intro w hSw;obtain⟨s0,s1,s2,s3⟩:=hSw;go_simp;try (with_reducible rfl))
 (hs:Region.noSelect ops=true:=by kernel_rfl) (hf:Region.free md ops listed i=true:=by kernel_rfl) (hr:(Region.ready md ops listed).contains i=true:=by kernel_rfl) (hL:waitsFor md ops L i=true:=by kernel_rfl)
 (hQ:∀ c a w,Q (.panic c) (a.put oi.dst v) w->Q (.panic c) a w:=by exact fun _ _ _ h=>h) (hw:Region.wanted oi (yielded ops a.tmps)=true:=by rfl) (hS:S w:=by assumption):wpAnyL P md ops Q S L (fuel+1) listed a w:=
 wpAnyL_take hi hs hf hr hL hQ (Or.inl ⟨hw,hy⟩) hS h
theorem wpAnyL_one{i:Nat}{o:Oper}{fuel:Nat}{listed:Array Bool}{a:Act}{w:World}(hr:Region.ready md ops listed=[i])(ho:ops[i]? =some o)
 (h:∀ K':Act->World->Prop,Shut (∀ a w,S w->(S w->wpAnyL P md ops Q S L fuel (listed.setIfInBounds i true) a w)->K' a w)->if Region.wanted o (yielded ops a.tmps)=true then Oper.wp P o a w K' Q else K' (a.put o.dst undef) w):
 wpAnyL P md ops Q S L (fuel+1) listed a w:=by
 refine⟨fun h0=>(by rw [hr] at h0;cases h0),fun j hj=>?_⟩;rw [hr] at hj;obtain rfl:j=i:=by simpa using hj
 exact wpOp_step ho (fun K' hK=>h K' (fun a w hS hW=>hK a w ⟨.inr hS,hW hS⟩))
theorem wpAnyL_end{o:Oper}{fuel:Nat}{listed:Array Bool}{a:Act}{w:World}(hr:Region.ready md ops listed=[L])(ho:ops[L]? =some o)(he:Region.ready md ops (listed.setIfInBounds L true)=[])
 (h:∀ K':Act->World->Prop,Shut (∀ a w,Q .normal a w->K' a w)->if Region.wanted o (yielded ops a.tmps)=true then Oper.wp P o a w K' Q else K' (a.put o.dst undef) w):
 wpAnyL P md ops Q S L (fuel+1) listed a w:=by
 refine⟨fun h0=>(by rw [hr] at h0;cases h0),fun j hj=>?_⟩;rw [hr] at hj;obtain rfl:j=L:=by simpa using hj
 refine wpOp_step ho (fun K' hK=>h K' (fun a w hq=>hK a w ⟨.inl rfl,?_⟩))
 cases fuel with
 |zero=>exact⟨he,hq⟩
 |succ n=>exact⟨fun _=>hq,by rw [he];intro i hi;cases hi⟩
theorem wp_region_last{id:Nat}{a:Act}{w:World}(S:World->Prop)(L:Nat)(hm:P.follows .mixedOrders=true)(hS:S w.drew)
 (h:S w.drew->wpAnyL P .any ops Q S L ops.size (Array.replicate ops.size false) a w.drew):(Code.region id ops true).wp P Q a w:=
 wp_region_any hm (wpAny_of_last _ _ _ _ (h hS))
end
end Go.Proofs.YtcihkbojmbfmmaaGreatDoor
namespace Go.Proofs.YtcihkbojmbfmmaaGreatDoor
open Go
section
variable {P:Program}{ops:Array Oper}{Q:Exit->Act->World->Prop}{md:Region.Mode}{S:World->Prop}{L:Nat}
theorem wpAnyL_done{fuel:Nat}{listed:Array Bool}{a:Act}{w:World}(hr:Region.ready md ops listed=[])(hq:Q .normal a w):wpAnyL P md ops Q S L fuel listed a w:=by
 cases fuel with
 |zero=>exact⟨hr,hq⟩
 |succ n=>exact⟨fun _=>hq,by rw [hr];intro i hi;cases hi⟩
theorem wpAnyL_two{i j:Nat}{o o':Oper}{fuel:Nat}{listed:Array Bool}{a:Act}{w:World}(hr:Region.ready md ops listed=[i,j])(ho:ops[i]? =some o)(ho':ops[j]? =some o')
 (h:∀ K':Act->World->Prop,Shut (∀ a w,S w->(S w->wpAnyL P md ops Q S L fuel (listed.setIfInBounds i true) a w)->K' a w)->if Region.wanted o (yielded ops a.tmps)=true then Oper.wp P o a w K' Q else K' (a.put o.dst undef) w)
 (h':∀ K':Act->World->Prop,Shut (∀ a w,S w->(S w->wpAnyL P md ops Q S L fuel (listed.setIfInBounds j true) a w)->K' a w)->if Region.wanted o' (yielded ops a.tmps)=true then Oper.wp P o' a w K' Q else K' (a.put o'.dst undef) w):
 wpAnyL P md ops Q S L (fuel+1) listed a w:=by
 refine⟨fun h0=>(by rw [hr] at h0;cases h0),fun k hk=>?_⟩;rw [hr] at hk
 rcases(show k=i∨k=j by simpa using hk) with rfl|rfl
 ·exact wpOp_step ho (fun K' hK=>h K' (fun a w hS hW=>hK a w ⟨.inr hS,hW hS⟩))
 ·exact wpOp_step ho' (fun K' hK=>h' K' (fun a w hS hW=>hK a w ⟨.inr hS,hW hS⟩))
end
end Go.Proofs.YtcihkbojmbfmmaaGreatDoor
