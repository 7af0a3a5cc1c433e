import Derived.Test.YthdpacepbbcocaaGreatJAls
import Derived.BigQuiet
import Derived.Deep.WholeRow
set_option linter.unusedVariables false
set_option maxRecDepth 100000
set_option maxHeartbeats 800000
namespace Go.Proofs.YthdpacepbbcocaaGreat
open Go.RowKit
theorem Ll{w w2:World}{b:Nat}{r:Rr}(k:bG w2 b #[.string ⟨#[]⟩,.int .i64 0,.int .i64 0,.int .i64 0,.string ⟨#[]⟩] 29)(hb:Below w.heap.size w w2)(GI:w.heap.size<=b):
 bG (((((w2.setCell ⟨b,0,none⟩ (.string r.own)).setCell ⟨b,1,none⟩ (.int .i64 r.ty)).setCell ⟨b,2,none⟩ (.int .i64 r.cl)).setCell ⟨b,3,none⟩ (.int .i64 r.tt)).setCell ⟨b,4,none⟩ (.string r.da)) b #[.string r.own,.int .i64 r.ty,.int .i64 r.cl,.int .i64 r.tt,.string r.da] 29∧
 Below w.heap.size w (((((w2.setCell ⟨b,0,none⟩ (.string r.own)).setCell ⟨b,1,none⟩ (.int .i64 r.ty)).setCell ⟨b,2,none⟩ (.int .i64 r.cl)).setCell ⟨b,3,none⟩ (.int .i64 r.tt)).setCell ⟨b,4,none⟩ (.string r.da)):=by
 have k4:=aI (aI (aI (aI (aI k 0 (.string r.own)) 1 (.int .i64 r.ty)) 2 (.int .i64 r.cl)) 3 (.int .i64 r.tt)) 4 (.string r.da);simp only [List.setIfInBounds_toArray,List.set_cons_zero,List.set_cons_succ] at k4;exact⟨k4,((((hb.setCell (p:=⟨b,0,none⟩) GI _).setCell (p:=⟨b,1,none⟩) GI _).setCell (p:=⟨b,2,none⟩) GI _).setCell (p:=⟨b,3,none⟩) GI _).setCell (p:=⟨b,4,none⟩) GI _⟩
structure Sz where
 own:ByteArray
 ty:Int
 tt:Int
 da:List ByteArray
abbrev Zp:Type:=Sz×Value
def Sj(p:Zp):List Value:=[.string p.1.own,.int .i64 p.1.ty,.int .i64 p.1.tt,p.2]
def pM(ps:List Zp):List Value:=ps.flatMap Sj
theorem GJ(x:Zp)(xs:List Zp):pM (x::xs)=Sj x++pM xs:=by simp [pM]
theorem zN(a b:List Zp):pM (a++b)=pM a++pM b:=by simp [pM]
theorem LW(xs:List Zp):(pM xs).length=xs.length*4:=by
 induction xs with
 |nil=>rfl
 |cons x xs ih=>
  have:(Sj x).length=4:=rfl;rw [GJ,nG,ih,List.length_cons,this];omega
theorem mZ:∀ (xs:List Zp) (k j:Nat) (x:Zp),xs[k]? =some x->j<4->(pM xs)[k*4+j]? =(Sj x)[j]? :=by
 intro xs
 induction xs with
 |nil=>intro k j x h;simp at h
 |cons y xs ih=>
  intro k j x h hj;have hl:(Sj y).length=4:=rfl
  cases k with
  |zero=>
   simp at h;subst h
   rw [GJ,Nat.zero_mul,Nat.zero_add,List.getElem?_append_left (by omega)]
  |succ k=>
   simp at h;rw [GJ,List.getElem?_append_right (by omega),hl,show(k+1)*4+j-4=k*4+j by omega];exact ih k j x h hj
theorem lG{w:World}{xs:List Zp}{b off k:Nat}{x:Zp}(hc:∀ (i:Nat) (y:Value),(pM xs)[i]? =some y->w.cell? ⟨b,off+i,none⟩=some y)(h:xs[k]? =some x):
 w.cell? ⟨b,off+k*4,none⟩=some (.string x.1.own)∧w.cell? ⟨b,off+k*4+1,none⟩=some (.int .i64 x.1.ty)∧w.cell? ⟨b,off+k*4+2,none⟩=some (.int .i64 x.1.tt)∧w.cell? ⟨b,off+k*4+3,none⟩=some x.2:=
 ⟨hc (k*4) _ ((mZ xs k 0 x h (by decide)).trans rfl),hc (k*4+1) _ ((mZ xs k 1 x h (by decide)).trans rfl),hc (k*4+2) _ ((mZ xs k 2 x h (by decide)).trans rfl),hc (k*4+3) _ ((mZ xs k 3 x h (by decide)).trans rfl)⟩
def gI(w:World)(v:Value)(ps:List Zp):Prop:=bS w v ps.length 4 (pM ps)∧∀ p∈ps,Nm.dX w p.2 p.1.da
theorem gI.below{w W:World}{v:Value}{ps:List Zp}(h:gI w v ps)(hb:Below w.heap.size w W):gI W v ps:=⟨h.1.below hb,fun p hp=>(h.2 p hp).below hb⟩
def zs1(s:Sz):Nat:=s.own.size+(s.da.length+aI0 s.da)
def rG:List Zp->Nat
 |[]=>0
 |x::xs=>zs1 x.1+rG xs
theorem Lm:∀ (xs:List Zp) (x:Zp),x∈xs->zs1 x.1<=rG xs:=by
 intro xs
 induction xs with
 |nil=>intro x h;simp at h
 |cons y xs ih=>
  intro x h
  rcases List.mem_cons.1 h with rfl|h
  ·simp only [rG];omega
  have:=ih x h;simp only [rG];omega
end Go.Proofs.YthdpacepbbcocaaGreat
namespace Go.Proofs.YthdpacepbbcocaaGreat.Dt
open Go.RowKit
def PAt(fs:List Pc)(d0:ByteArray)(ps:List ByteArray)(r:List Pc)(d:ByteArray):Prop:=
 parts fs d0=(parts r d).map (fun t=>ps++t)
theorem aBs(fs:List Pc)(d0:ByteArray):PAt fs d0 [] fs d0:=by simp [PAt]
theorem aJa{fs:List Pc}{d0 d:ByteArray}{ps:List ByteArray}(h:PAt fs d0 ps [] d)(h0:d.size=0):parts fs d0=some ps:=by
 rw [h,parts,if_pos h0];simp
theorem aE8{fs:List Pc}{d0 d:ByteArray}{ps:List ByteArray}(h:PAt fs d0 ps [] d)(h0:d.size≠0):parts fs d0=none:=by
 rw [h,parts,if_neg h0];rfl
theorem uG{fs r:List Pc}{p:Pc}{d0 d:ByteArray}{ps:List ByteArray}(h:PAt fs d0 ps (p::r) d)(h0:sz p d=none):parts fs d0=none:=by
 rw [h,parts,h0];rfl
theorem wN{fs r:List Pc}{p:Pc}{d0 d x:ByteArray}{ps:List ByteArray}{n:Nat}(h:PAt fs d0 ps (p::r) d)(h0:sz p d=some n)(hx:d.extract 0 n=x):PAt fs d0 (ps++[x]) r (d.extract x.size d.size):=by
 have hn:=Kk h0;have e:x.size=n:=by rw [<- hx];simp;omega
 rw [PAt,h,parts,h0,Option.map_map,hx,e];congr 1;funext t;simp
theorem aE9{f:ByteArray}{k:Nat}(hk:k<f.size):(f.data.toList.map sQ).drop k=sQ f[k]::(f.data.toList.map sQ).drop (k+1):=by
 have hl:k<(f.data.toList.map sQ).length:=by simpa using hk
 rw [List.drop_eq_getElem_cons hl];simp
 rfl
theorem Lp(d:ByteArray)(h:(dG d).size≠0):d.extract 0 (dG d).size=dG d:=by
 obtain⟨e,e1,e2,e3,e4,e5⟩:=BB 256 d 0 h;have e6:dG d=d.extract 0 e:=e4;have e7:(dG d).size=e:=by rw [e6];simp;omega
 rw [e7,e6]
theorem Fb(d:ByteArray):d.extract 0 (fG d).size=fG d:=by
 by_cases h:0<d.size
 ·by_cases h1:d[0].toNat+1<=d.size
  ·have e:fG d=d.extract 0 (d[0].toNat+1):=by rw [fG,dif_pos h,if_pos h1]
   have e7:(fG d).size=d[0].toNat+1:=by rw [e];simp;omega
   rw [e7,e]
  have e:fG d=ByteArray.empty:=by rw [fG,dif_pos h,if_neg h1]
  rw [e];simp
 have e:fG d=ByteArray.empty:=by rw [fG,dif_neg h]
 rw [e];simp
theorem VI(d:ByteArray):d.extract d.size d.size=ByteArray.empty:=by
 apply Nm.kI;simp
def TAt(d p:ByteArray):Prop:=p.size<=d.size∧d.extract 0 p.size=p∧BA d=p.size+BA (d.extract p.size d.size)
theorem aBt(d:ByteArray):TAt d ⟨#[]⟩:=by
 have e:(⟨#[]⟩:ByteArray).size=0:=rfl;refine⟨by omega,?_,?_⟩
 ·rw [e];apply Nm.kI;simp
 rw [e];simp
theorem aJb{d p:ByteArray}(h:TAt d p)(h0:(fG (d.extract p.size d.size)).size=0):BA d=p.size:=by
 rw [h.2.2,VA h0];rfl
theorem aFa{d p:ByteArray}(h:TAt d p)(h0:(fG (d.extract p.size d.size)).size≠0):TAt d (p++fG (d.extract p.size d.size)):=by
 obtain⟨h1,h2,h3⟩:=h;have ht:=sZ (d.extract p.size d.size);have hte:=Fb (d.extract p.size d.size);generalize hT:fG (d.extract p.size d.size)=T at*;have hz:(p++T).size=p.size+T.size:=by simp
 have hd:(d.extract p.size d.size).size=d.size-p.size:=by simp
 refine⟨by omega,?_,?_⟩
 ·apply Nm.kI;rw [hz];have e1:(p++T).data.toList=p.data.toList++T.data.toList:=by simp
  rw [e1,<- hte]
  conv=>rhs;arg 1;rw [<- h2]
  simp only [ByteArray.data_extract,Array.toList_extract,List.extract_eq_take_drop];simp
  rw [List.take_add];congr 1;rw [List.take_take,Nat.min_eq_left (by omega)]
 rw [hz,h3,Kj (by rw [hT];exact h0),hT];have e:(d.extract p.size d.size).extract T.size (d.extract p.size d.size).size=d.extract (p.size+T.size) d.size:=LK (by omega) (aN _);rw [e];omega
theorem OZ{d:ByteArray}(h:(fG d).size<2∨16<(fG d).size):OT d=false:=by
 rw [OT]
 rcases h with h|h
 ·simp;omega
 simp;omega
theorem aJc{d:ByteArray}{k:Nat}(hk:1<=k)(hl:k<(fG d).size)(h:jG (fG d)[k]=false):OT d=false:=by
 rw [OT,Bool.and_eq_false_iff];right;rw [List.all_eq_false];refine⟨(fG d)[k],?_,by simp [h]⟩
 have:((fG d).data.toList.drop 1)[k-1]? =some (fG d)[k]:=by
  rw [List.getElem?_drop,show 1+(k-1)=k by omega];exact Nm.iZ hl
 exact bP this
theorem aFb{d:ByteArray}(h2:2<=(fG d).size)(h16:(fG d).size<=16)(h:∀ j,1<=j->(hj:j<(fG d).size)->jG (fG d)[j]=true):OT d=true:=by
 rw [OT];simp only [h2,h16,decide_true,Bool.true_and,List.all_eq_true];intro c hc;obtain⟨i,hi⟩:=List.getElem?_of_mem hc;rw [List.getElem?_drop] at hi
 have hl:1+i<(fG d).size:=by
  have:=(dK hi).1;simpa using this
 rw [Nm.iZ hl] at hi;simp at hi;rw [<- hi];exact h _ (by omega) hl
end Go.Proofs.YthdpacepbbcocaaGreat.Dt
namespace Go.Proofs.YthdpacepbbcocaaGreat
open Go.RowKit
def Lr(c:UInt8):Bool:=decide (48<=c.toNat)&&decide (c.toNat<=57)
def Lt(c:UInt8):Bool:=decide (97<=(Nm.low c).toNat)&&decide ((Nm.low c).toNat<=122)
theorem aFc(c:UInt8):Dt.jG c=(Lr c||Lt c):=by
 unfold Dt.jG Lr Lt Nm.low;have hc:=c.toNat_lt
 by_cases h:65<=c.toNat∧c.toNat<=90
 ·rw [if_pos h];have e:(UInt8.ofNat (c.toNat+32)).toNat=c.toNat+32:=by simp;omega
  rw [e,Bool.eq_iff_iff];simp
  omega
 rw [if_neg h,Bool.eq_iff_iff];simp
 omega
theorem Fe(c:UInt8)(w:World):
 Calls Tryz.prog 254 #[.int .u8 c.toNat] w fun e w'=>e=.returned (.bool (Lr c))∧w'=w:=by
 by_cases h1:48<=c.toNat
 ·have d1:decide ((48:Int)<=(c.toNat:Int))=true:=by simp;omega
  have HE:Hid (Lr c=decide ((c.toNat:Int)<=57)):=by
   show _=_
   rw [Lr,nD h1,Bool.true_and,Bool.eq_iff_iff]
   simp;omega
  go_enter Tryz.func254,Tryz.ntmps254;go_wp2;go_ret;rw [HE.out];exact⟨rfl,rfl⟩
 have d1:decide ((48:Int)<=(c.toNat:Int))=false:=by simp;omega
 have HE:Hid (Lr c=false):=by
  show _=_
  rw [Lr,jU h1];rfl
 go_enter Tryz.func254,Tryz.ntmps254;go_wp2;go_ret;rw [HE.out];exact⟨rfl,rfl⟩
theorem Ff(c:UInt8)(w:World):
 Calls Tryz.prog 255 #[.int .u8 c.toNat] w fun e w'=>e=.returned (.bool (Lt c))∧w'=w:=by
 have aX:=vI c
 by_cases h1:97<=(Nm.low c).toNat
 ·have HE:Hid (Lt c=decide (((Nm.low c).toNat:Int)<=122)):=by
   show _=_
   rw [Lt,nD h1,Bool.true_and,Bool.eq_iff_iff]
   simp;omega
  have d1:decide ((97:Int)<=((Nm.low c).toNat:Int))=true:=by simp;omega
  go_enter Tryz.func255,Tryz.ntmps255;go_wp2_with (go_at_call 180;refine(aX _).mono ?_;rintro e w1 ⟨rfl,rfl⟩)
  go_ret;rw [HE.out];exact⟨rfl,rfl⟩
 have d1:decide ((97:Int)<=((Nm.low c).toNat:Int))=false:=by simp;omega
 have HE:Hid (Lt c=false):=by
  show _=_
  rw [Lt,jU h1];rfl
 go_enter Tryz.func255,Tryz.ntmps255;go_wp2_with (go_at_call 180;refine(aX _).mono ?_;rintro e w1 ⟨rfl,rfl⟩)
 go_ret;rw [HE.out];exact⟨rfl,rfl⟩
def Fg(t:ByteArray):Bool:=t.data.toList.all Dt.jG&&(decide (0<t.size)&&decide (t.size<=15))
theorem aFd{t:ByteArray}{j:Nat}(hj:j<t.size)(h:Dt.jG t[j]=false):Fg t=false:=by
 rw [Fg,Bool.and_eq_false_iff];left;rw [List.all_eq_false];exact⟨t[j],bP (Nm.iZ hj),by simp [h]⟩
theorem aBu{t:ByteArray}(h:∀ j,(hj:j<t.size)->Dt.jG t[j]=true):Fg t=(decide (0<t.size)&&decide (t.size<=15)):=by
 rw [Fg]
 have:t.data.toList.all Dt.jG=true:=by
  rw [List.all_eq_true];intro c hc;obtain⟨i,hi⟩:=List.getElem?_of_mem hc
  have hl:i<t.size:=by
   have:=(dK hi).1;simpa using this
  rw [Nm.iZ hl] at hi;simp at hi;rw [<- hi];exact h _ hl
 rw [this,Bool.true_and]
theorem aBv(t:ByteArray)(w:World)(ht:t.size<=1000000000):
 Calls Tryz.prog 253 #[.string t] w fun e w'=>e=.returned (.bool (Fg t))∧w'=w:=by
 go_enter Tryz.func253,Tryz.ntmps253;go_wp2
 go_loop [6] (fun v=>∃ j:Nat,j<=t.size∧v=.int .i64 j∧∀ i,i<j->(hi:i<t.size)->Dt.jG t[i]=true) (fun v=>t.size-(intOf v).toNat)
 case atStart=>exact⟨0,by omega,rfl,fun i h=>by omega⟩
 obtain⟨j,hj,rfl,ha⟩:=hrel
 by_cases bV:j<t.size
 ·have KD:(j:Int)<(t.size:Int):=by omega
  have hd:=Fe t[j];have hl:=Ff t[j];have hor:=aFc t[j]
  cases hA:Lr t[j] with
  |true=>
   have HJ:Hid (∀ i,i<j+1->(hi:i<t.size)->Dt.jG t[i]=true):=by
    show ∀ i,_
    intro i h2 h3
    by_cases e:i=j
    ·subst e;rw [hor,hA];rfl
    exact ha i (by omega) h3
   rw [hA] at hd;clear ha hor hA;go_wp2_with (first|(go_at_call 254;refine(hd _).mono ?_;rintro e w2 ⟨rfl,hw⟩;obtain rfl:w=w2:=hw.symm;clear hw)|(go_at_call 255;refine(hl _).mono ?_;rintro e w2 ⟨rfl,hw⟩;obtain rfl:w=w2:=hw.symm;clear hw))
   go_round
   case rel=>exact⟨j+1,by omega,by go_num,HJ.out⟩
   simp [intOf];omega
  |false=>
   rw [hA] at hd
   cases hB:Lt t[j] with
   |true=>
    have HJ:Hid (∀ i,i<j+1->(hi:i<t.size)->Dt.jG t[i]=true):=by
     show ∀ i,_
     intro i h2 h3
     by_cases e:i=j
     ·subst e;rw [hor,hB];simp
     exact ha i (by omega) h3
    rw [hB] at hl;clear ha hor hA hB;go_wp2_with (first|(go_at_call 254;refine(hd _).mono ?_;rintro e w2 ⟨rfl,hw⟩;obtain rfl:w=w2:=hw.symm;clear hw)|(go_at_call 255;refine(hl _).mono ?_;rintro e w2 ⟨rfl,hw⟩;obtain rfl:w=w2:=hw.symm;clear hw))
    go_round
    case rel=>exact⟨j+1,by omega,by go_num,HJ.out⟩
    simp [intOf];omega
   |false=>
    have HT:=Nm.aF (aFd bV (by rw [hor,hA,hB];rfl));rw [hB] at hl;clear ha hor hA hB;go_wp2_with (first|(go_at_call 254;refine(hd _).mono ?_;rintro e w2 ⟨rfl,hw⟩;obtain rfl:w=w2:=hw.symm;clear hw)|(go_at_call 255;refine(hl _).mono ?_;rintro e w2 ⟨rfl,hw⟩;obtain rfl:w=w2:=hw.symm;clear hw))
    go_ret;rw [HT.out];exact⟨rfl,rfl⟩
 have KD:(t.size:Int)<=(j:Int):=by omega
 have HT:=Nm.aF (aBu (fun i h=>ha i (by omega) h));clear ha
 by_cases h0:0<t.size
 ·have Sg:(0:Int)<(t.size:Int):=by omega
  have HU:Hid (Fg t=decide ((t.size:Int)<=15)):=by
   show _=_
   rw [HT.out,nD h0,Bool.true_and,Bool.eq_iff_iff]
   simp;omega
  clear HT;go_wp2;go_ret;rw [HU.out];exact⟨rfl,rfl⟩
 have Sg:(t.size:Int)<=0:=by omega
 have HU:Hid (Fg t=false):=by
  show _=_
  rw [HT.out,jU h0,Bool.false_and]
 clear HT;go_wp2;go_ret;rw [HU.out];exact⟨rfl,rfl⟩
theorem aMk{d:ByteArray}{n:Nat}(hn:(Dt.fG d).size=n)(_:n≠0):Fg (d.extract 1 n)=Dt.OT d:=by
 have hle:=Dt.sZ d;have he:=Dt.Fb d;rw [hn] at he
 have e1:(d.extract 1 n).data.toList=(Dt.fG d).data.toList.drop 1:=by
  rw [<- he];simp only [ByteArray.data_extract,Array.toList_extract,List.extract_eq_take_drop];simp
  rw [<- List.drop_one,<- List.drop_one,List.drop_take]
 have e2:(d.extract 1 n).size=n-1:=by simp;omega
 rw [Fg,Dt.OT,e1,e2,hn,Bool.eq_iff_iff];simp
 constructor
 ·rintro⟨h1,h2,h3⟩;exact⟨⟨by omega,by omega⟩,h1⟩
 rintro⟨⟨h1,h2⟩,h3⟩;exact⟨h3,by omega,by omega⟩
theorem GK(n m:Int)(w:World):Calls Tryz.prog 34 #[.int .i64 n,.int .i64 m] w fun e w'=>e=.returned (.bool (decide (0<=n)&&decide (n<=m)))∧w'=w:=by
 by_cases h0:0<=n
 ·by_cases h1:n<=m
  ·have e:(decide (0<=n)&&decide (n<=m))=true:=by simp [h0,h1]
   rw [e];clear e;go_enter Tryz.func34,Tryz.ntmps34;go_wp2;go_ret;exact⟨rfl,rfl⟩
  have YZ:m<n:=by omega
  have e:(decide (0<=n)&&decide (n<=m))=false:=by simp [h0,h1]
  rw [e];clear e;go_enter Tryz.func34,Tryz.ntmps34;go_wp2;go_ret;exact⟨rfl,rfl⟩
 have Sg:n<0:=by omega
 have e:(decide (0<=n)&&decide (n<=m))=false:=by simp [h0]
 rw [e];clear e;go_enter Tryz.func34,Tryz.ntmps34;go_wp2;go_ret;exact⟨rfl,rfl⟩
def qI{α:Type}(f:α->Int)(l:List α)(i:Nat):Int:=match l[i]? with
 |some x=>f x
 |none=>0
def posOf{α:Type}(f:α->Int)(l:List α):Nat:=(l.takeWhile fun x=>decide (f x<0)).length
theorem lC{α:Type}{f:α->Int}{l:List α}{i:Nat}{x:α}(h:l[i]? =some x):qI f l i=f x:=by rw [qI,h]
theorem vT{α:Type}{f:α->Int}:∀ (l:List α),(∀ a b,a<=b->b<l.length->qI f l b<0->qI f l a<0)->EH l.length (qI f l) (posOf f l):=by
 intro l
 induction l with
 |nil=>intro _;exact⟨aN _,fun i hi=>by simp [posOf] at hi,fun i _ h2=>by simp at h2⟩
 |cons x l ih=>
  intro hm;have hsh:∀ i,qI f (x::l) (i+1)=qI f l i:=fun i=>by simp [qI]
  have hz:qI f (x::l) 0=f x:=rfl
  by_cases hx:f x<0
  ·have hp:posOf f (x::l)=posOf f l+1:=by simp [posOf,hx]
   obtain⟨h1,h2,h3⟩:=ih (fun a b hab hb hc=>by
    have:=hm (a+1) (b+1) (by omega) (by simp;omega) (by rw [hsh];exact hc);rw [hsh] at this
    exact this)
   rw [hp];refine⟨by simp;omega,fun i hi=>?_,fun i h4 h5=>?_⟩
   ·cases i with
    |zero=>exact hx
    |succ i=>rw [hsh];exact h2 i (by omega)
   cases i with
   |zero=>omega
   |succ i=>rw [hsh];exact h3 i (by omega) (by simp at h5;omega)
  have hp:posOf f (x::l)=0:=by simp [posOf,hx]
  rw [hp];refine⟨dO _,fun i hi=>by omega,fun i _ h5=>?_⟩
  rcases Int.lt_or_le (qI f (x::l) i) 0 with h|h
  ·have:=hm 0 i (dO _) h5 h;rw [hz] at this;exact absurd this hx
  exact h
def lN{α:Type}(k:Nat)(x:α)(l:List α):List α:=l.take k++[x]++l.drop k
def kL{α:Type}(f:α->Int)(l:List α):Bool:=decide (posOf f l<l.length)&&decide (qI f l (posOf f l)=0)
def VJ{α:Type}(f:α->Int)(x:α)(l:List α):List α:=if kL f l then l else lN (posOf f l) x l
theorem zO{α:Type}{f:α->Int}{l:List α}(h:kL f l=true):∃ x,l[posOf f l]? =some x∧f x=0:=by
 simp only [kL,Bool.and_eq_true,decide_eq_true_eq] at h;obtain⟨h1,h2⟩:=h;refine⟨_,bY h1,?_⟩;rw [lC (bY h1)] at h2;exact h2
theorem EM{α:Type}{f:α->Int}{l:List α}(h:kL f l=false):¬(posOf f l<l.length∧qI f l (posOf f l)=0):=by
 rintro⟨h1,h2⟩
 rw [kL,nD h1,nD h2] at h;cases h
theorem oU{α:Type}{f:α->Int}{R:α->α->Prop}{l:List α}(hp:l.Pairwise R)(hR:∀ a b,R a b->f b<0->f a<0):∀ a b,a<=b->b<l.length->qI f l b<0->qI f l a<0:=by
 intro a b hab hb hc
 rcases Nat.lt_or_eq_of_le hab with h|h
 ·have:=List.pairwise_iff_getElem.1 hp a b (by omega) hb h;rw [lC (bY hb)] at hc;rw [lC (bY (by omega:a<l.length))];exact hR _ _ this hc
 subst h;exact hc
theorem VK{w:World}{a b:Nat}{c d:Array Value}{T T':TypeId}(h1:bG w a c T)(h2:bG w b d T')(dQ:T≠T'):a≠b:=by
 intro e;subst e;rw [bG,h1] at h2;simp only [mP,Obj.cells.injEq] at h2;exact dQ h2.2.1
theorem bW{W:World}{B e s n b:Nat}{v:Value}{xs:List Value}{cs:Array Value}{T:TypeId}(h:W.ownsRow B e s v n xs)(hb:bG W b cs T)(dQ:e≠T):v.ownBlock≠some b:=by
 intro he
 rcases h.2 with⟨rfl,_⟩|⟨g,cap,cur,rfl,_,hh,_⟩
 ·cases he
 simp only [Value.ownBlock,mP] at he;subst he;rw [bG,hh] at hb;simp only [mP,Obj.cells.injEq] at hb;exact dQ hb.2.1
theorem aBw(a b:Int):Nm.pK b a= -Nm.pK a b:=by
 unfold Nm.pK
 split<;>split<;>first|omega|(split<;>omega)|skip
 all_goals simp_all<;>omega
theorem TS{a b:Int}(h:a≠b):Nm.pK a b<=0↔a<b:=by
 by_cases h1:a<b
 ·rw [Nm.oJ h1];simp [h1]
 rw [Nm.oK (by omega)];simp [h1]
theorem qX:∀ (a b:List UInt8),Nm.iD b a= -Nm.iD a b
 |[],[]=>rfl
 |[],y::b=>rfl
 |x::a,[]=>rfl
 |x::a,y::b=>by
  by_cases h:x=y
  ·subst h;rw [Nm.vS,Nm.vS];exact qX a b
  rw [Nm.vJ a b h,Nm.vJ b a (Ne.symm h)];exact aBw _ _
theorem Tz(a b:List UInt8): -1<=Nm.iD a b∧Nm.iD a b<=1:=by
 unfold Nm.iD;split
 ·omega
 split<;>omega
theorem tH:∀ (a b c:List UInt8),Nm.iD a b<=0->Nm.iD b c<=0->Nm.iD a c<=0
 |[],b,[],_,_=>by rw [Nm.aEt];decide
 |[],b,z::c,_,_=>by rw [Nm.Ci];decide
 |x::a,[],c,h,_=>by rw [Nm.JX] at h;omega
 |x::a,y::b,[],_,h=>by rw [Nm.JX] at h;omega
 |x::a,y::b,z::c,h1,h2=>by
  have inj:∀ {p q:UInt8},p≠q->(p.toNat:Int)≠(q.toNat:Int):=fun h e=>h (UInt8.toNat_inj.1 (by omega))
  by_cases TU:x=y
  ·subst TU
   by_cases Lu:x=z
   ·subst Lu;rw [Nm.vS] at h1 h2 ⊢;exact tH a b c h1 h2
   rw [Nm.vJ _ _ Lu] at h2 ⊢;exact h2
  rw [Nm.vJ _ _ TU,TS (inj TU)] at h1
  by_cases Lu:y=z
  ·subst Lu;rw [Nm.vJ _ _ TU,TS (inj TU)];exact h1
  rw [Nm.vJ _ _ Lu,TS (inj Lu)] at h2;have Jf:x≠z:=fun e=>by subst e;omega
  rw [Nm.vJ _ _ Jf,TS (inj Jf)];omega
theorem GL(x y:ByteArray):Nm.jA y x= -Nm.jA x y:=qX _ _
theorem zP{x y:ByteArray}(h:Nm.jA x y=0)(z:ByteArray):Nm.jA x z=Nm.jA y z∧Nm.jA z x=Nm.jA z y:=by
 have e:=(qW _ _).1 h;unfold Nm.jA;rw [e];exact⟨rfl,rfl⟩
theorem QT:∀ (a b:List ByteArray),Nm.dV b a= -Nm.dV a b
 |[],[]=>rfl
 |[],y::b=>rfl
 |x::a,[]=>rfl
 |x::a,y::b=>by
  rw [Nm.dV,Nm.dV,GL x y]
  by_cases h:Nm.jA x y=0
  ·rw [if_pos h,if_pos (by omega)];exact QT a b
  rw [if_neg h,if_neg (by omega)]
theorem LX:∀ (a b:List ByteArray),-1<=Nm.dV a b∧Nm.dV a b<=1
 |[],[]=>by rw [Nm.dV];decide
 |[],y::b=>by rw [Nm.dV];decide
 |x::a,[]=>by rw [Nm.dV];decide
 |x::a,y::b=>by
  rw [Nm.dV];split
  ·exact LX a b
  exact Tz _ _
theorem LY:∀ (a b c:List ByteArray),Nm.dV a b<=0->Nm.dV b c<=0->Nm.dV a c<=0
 |[],b,[],_,_=>by rw [Nm.dV];decide
 |[],b,z::c,_,_=>by rw [Nm.dV];decide
 |x::a,[],c,h,_=>by rw [Nm.dV] at h;omega
 |x::a,y::b,[],_,h=>by rw [Nm.dV] at h;omega
 |x::a,y::b,z::c,h1,h2=>by
  rw [Nm.dV] at h1 h2 ⊢
  by_cases TU:Nm.jA x y=0
  ·rw [if_pos TU] at h1;rw [(zP TU z).1]
   by_cases Lu:Nm.jA y z=0
   ·rw [if_pos Lu] at h2 ⊢;exact LY a b c h1 h2
   rw [if_neg Lu] at h2 ⊢;exact h2
  rw [if_neg TU] at h1
  by_cases Lu:Nm.jA y z=0
  ·rw [<- (zP Lu x).2,if_neg TU];exact h1
  rw [if_neg Lu] at h2;have h3:Nm.jA x z<=0:=tH _ _ _ h1 h2
  have Jf:Nm.jA x z≠0:=by
   intro e;have e1:=(zP e y).1;have e2:=GL y z;omega
  rw [if_neg Jf];exact h3
theorem gF(a b:List ByteArray):Nm.bJ b a= -Nm.bJ a b:=QT _ _
theorem QU(a b:List ByteArray): -1<=Nm.bJ a b∧Nm.bJ a b<=1:=LX _ _
theorem nU{a b c:List ByteArray}(h1:Nm.bJ a b<=0)(h2:Nm.bJ b c<=0):Nm.bJ a c<=0:=LY _ _ _ h1 h2
theorem LZ{a b c:List ByteArray}(h1:0<=Nm.bJ a b)(h2:0<=Nm.bJ b c):0<=Nm.bJ a c:=by
 have e1:=gF a b;have e2:=gF b c;have e3:=gF a c;have:=nU (a:=c) (b:=b) (c:=a) (by omega) (by omega);omega
theorem Lv{a b:ByteArray}{xs ys:List ByteArray}(ha:Nm.split a=some xs)(hb:Nm.split b=some ys):jB a b=decide (Nm.bJ xs ys=0):=by
 have ja:=Nm.kJ ha;have wa:=Nm.gW ha;have h1:=Kr ja.2 (by omega) hb
 have ea:(⟨(Nm.joinL xs).toArray⟩:ByteArray)=a:=by
  apply ByteArray.ext;apply Array.toList_inj.1;simpa using ja.1
 rw [OX ha hb];rw [ea] at h1;simp only [h1]
theorem QV(a b:UInt8)(w:World):
 Calls Tryz.prog 179 #[.int .u8 a.toNat,.int .u8 b.toNat] w fun e w'=>e=.returned (.int .i64 (Nm.pK a.toNat b.toNat))∧w'=w:=by
 have ha:((a.toNat:Int) != (a.toNat:Int))=false:=by simp
 have hb:((b.toNat:Int) != (b.toNat:Int))=false:=by simp
 by_cases h1:(a.toNat:Int)<(b.toNat:Int)
 ·have HC:=Nm.aF (Nm.oJ h1);have d1:decide ((a.toNat:Int)<(b.toNat:Int))=true:=by simpa using h1
  go_enter Tryz.func179,Tryz.ntmps179;go_wp2;go_ret;rw [HC.out];exact⟨rfl,rfl⟩
 have d1:decide ((a.toNat:Int)<(b.toNat:Int))=false:=by simpa using h1
 by_cases h2:(b.toNat:Int)<(a.toNat:Int)
 ·have HC:=Nm.aF (Nm.oK h2);have d2:decide ((b.toNat:Int)<(a.toNat:Int))=true:=by simpa using h2
  go_enter Tryz.func179,Tryz.ntmps179;go_wp2;go_ret;rw [HC.out];exact⟨rfl,rfl⟩
 have HC:=Nm.aF (Nm.tX (show(a.toNat:Int)=(b.toNat:Int) by omega));have d2:decide ((b.toNat:Int)<(a.toNat:Int))=false:=by simpa using h2
 go_enter Tryz.func179,Tryz.ntmps179;go_wp2;go_ret;rw [HC.out];exact⟨rfl,rfl⟩
theorem BH(a b:Int)(w:World):
 Calls Tryz.prog 158 #[.int .i64 a,.int .i64 b] w fun e w'=>e=.returned (.int .i64 (Nm.pK a b))∧w'=w:=by
 have ha:(a != a)=false:=by simp
 have hb:(b != b)=false:=by simp
 by_cases h1:a<b
 ·have HC:=Nm.aF (Nm.oJ h1);go_enter Tryz.func158,Tryz.ntmps158;go_wp2;go_ret;rw [HC.out];exact⟨rfl,rfl⟩
 by_cases h2:b<a
 ·have HC:=Nm.aF (Nm.oK h2);go_enter Tryz.func158,Tryz.ntmps158;go_wp2;go_ret;rw [HC.out];exact⟨rfl,rfl⟩
 have HC:=Nm.aF (Nm.tX (show a=b by omega));go_enter Tryz.func158,Tryz.ntmps158;go_wp2;go_ret;rw [HC.out];exact⟨rfl,rfl⟩
theorem yA(a b:ByteArray)(w:World)(ha:a.size<=1000000000):
 Calls Tryz.prog 157 #[.string a,.string b] w fun e w'=>e=.returned (.int .i64 (Nm.jA a b))∧∃ m,w'=w.drewN m:=by
 go_enter Tryz.func157,Tryz.ntmps157;go_wp2
 go_loopw [5] (fun i wr=>∃ k:Nat,k<=a.size∧k<=b.size∧i=.int .i64 k∧Hid ((Nm.eO a.data.toList).take k=(Nm.eO b.data.toList).take k)∧∃ m,Hid (wr=w.drewN m))
  (fun i _=>a.size-(intOf i).toNat)
 case atStart=>exact⟨0,dO _,dO _,rfl,by show _=_;simp,0,rfl⟩
 obtain⟨k,hka,hkb,rfl,HT,m,HW⟩:=hrel
 by_cases h1:k<a.size∧k<b.size
 ·obtain⟨h1,h2⟩:=h1;have d1:decide ((k:Int)<(a.size:Int))=true:=by simp;omega
  have d2:decide ((k:Int)<(b.size:Int))=true:=by simp;omega
  have i1:(k:Int)<(a.size:Int):=by omega
  have i2:(k:Int)<(b.size:Int):=by omega
  by_cases he:Nm.low a[k]=Nm.low b[k]
  ·have HN:Hid ((Nm.eO a.data.toList).take (k+1)=(Nm.eO b.data.toList).take (k+1)):=Nm.Et HT.out (Nm.GH h1) (Nm.GH h2) he;have hc:(Nm.pK (Nm.low a[k]).toNat (Nm.low b[k]).toNat != 0)=false:=by rw [Nm.tX (by rw [he])];rfl
   clear he;go_wp2;go_quiet (first|(go_at_call 180;exact Calls.quiet_of_same (vI _ _))|(go_at_call 179;exact Calls.quiet_of_same (QV _ _ _)))
   go_wp2;go_roundw
   case rel=>exact⟨k+1,by omega,by omega,by go_num,HN,_,by show _=_;rw [HW.out,World.drewN_drewN]⟩
   simp [intOf];omega
  have HO:Hid (Nm.jA a b=Nm.pK (Nm.low a[k]).toNat (Nm.low b[k]).toNat):=Nm.aMh k _ _ _ _ HT.out (Nm.GH h1) (Nm.GH h2) he
  have hc:(Nm.pK (Nm.low a[k]).toNat (Nm.low b[k]).toNat != 0)=true:=by
   rw [bne_iff_ne];exact Nm.aI6 (fun e=>he (UInt8.toNat_inj.1 (by omega)))
  clear he;go_wp2;go_quiet (first|(go_at_call 180;exact Calls.quiet_of_same (vI _ _))|(go_at_call 179;exact Calls.quiet_of_same (QV _ _ _)))
  go_wp2;go_ret;rw [HO.out];exact⟨rfl,_,by rw [HW.out,World.drewN_drewN]⟩
 have HO:Hid (Nm.jA a b=Nm.pK a.size b.size):=by
  show _=_
  have:=Nm.aI7 k _ _ HT.out (by rw [Nm.mJ];omega) (by rw [Nm.mJ];omega) (by rw [Nm.mJ,Nm.mJ];omega);rw [Nm.mJ,Nm.mJ] at this;exact this
 by_cases h2:k<a.size
 ·have g2:b.size<=k:=by omega
  have d2:decide (k<b.size)=false:=by simp;omega
  clear h1;go_wp2_with fail
  refine(BH _ _ _).mono ?_;rintro e w3 ⟨rfl,rfl⟩;go_wp2;go_ret;rw [HO.out];exact⟨rfl,_,HW.out⟩
 have g2:a.size<=k:=by omega
 have d2:decide (k<a.size)=false:=by simp;omega
 clear h1;go_wp2_with fail
 refine(BH _ _ _).mono ?_;rintro e w3 ⟨rfl,rfl⟩;go_wp2;go_ret;rw [HO.out];exact⟨rfl,_,HW.out⟩
theorem VL(w:World)(m:Nat)(a:Addr):(w.drewN m).cell? a=w.cell? a:=by simp
theorem QW(v u:Value)(xs ys:List ByteArray)(w:World)(h:Nm.dX w v xs)(h':Nm.dX w u ys)(Lx:∀ x∈xs,x.size<=1000000000)(hlx:xs.length<=1000000000)(hly:ys.length<=1000000000):
 Calls Tryz.prog 133 #[v,u] w fun e w'=>e=.returned (.int .i64 (Nm.bJ xs ys))∧∃ m,w'=w.drewN m:=by
 obtain⟨a,cap,rfl,gY,kK,TV,hc⟩:=h;obtain⟨a',cap',rfl,VM,PD,aMl,DF⟩:=h';clear TV aMl;go_enter Tryz.func133,Tryz.ntmps133;go_wp2
 go_loopw [5] (fun i wr=>∃ k:Nat,k<=xs.length∧k<=ys.length∧i=.int .i64 ((k:Int)+1)∧Hid (Nm.bJ xs ys=Nm.dV (xs.reverse.drop k) (ys.reverse.drop k))∧∃ m,Hid (wr=w.drewN m))
  (fun i _=>xs.length+1-(intOf i).toNat)
 case atStart=>exact⟨0,dO _,dO _,rfl,by show _=_;simp [Nm.bJ],0,rfl⟩
 obtain⟨k,hka,hkb,rfl,HT,m,HW⟩:=hrel
 by_cases h1:k<xs.length∧k<ys.length
 ·obtain⟨h1,h2⟩:=h1;have i1:(k:Int)+1<=(xs.length:Int):=by omega
  have i2:(k:Int)+1<=(ys.length:Int):=by omega
  obtain⟨x,hx⟩:∃ x,xs[xs.length-(k+1)]? =some x:=⟨_,bY (by omega)⟩;obtain⟨y,hy⟩:∃ y,ys[ys.length-(k+1)]? =some y:=⟨_,bY (by omega)⟩;obtain⟨b,off,rfl,aL⟩:=hc (by intro h;rw [h] at h1;simp at h1);obtain⟨b',off',rfl,kU⟩:=DF (by intro h;rw [h] at h2;simp at h2);have yB:wr.cell? ⟨b,off+(xs.length-(k+1)),none⟩=some (.string x):=by rw [HW.out,VL];exact aL _ _ hx
  have hcy:wr.cell? ⟨b',off'+(ys.length-(k+1)),none⟩=some (.string y):=by rw [HW.out,VL];exact kU _ _ hy
  have Jf:=Lx x (bP hx);have q1:(0:Int)<=(xs.length:Int)-((k:Int)+1):=by omega
  have q2:(xs.length:Int)-((k:Int)+1)<(xs.length:Int):=by omega
  have q3:((xs.length:Int)-((k:Int)+1)).toNat=xs.length-(k+1):=by omega
  have q4:(0:Int)<=(ys.length:Int)-((k:Int)+1):=by omega
  have q5:(ys.length:Int)-((k:Int)+1)<(ys.length:Int):=by omega
  have q6:((ys.length:Int)-((k:Int)+1)).toNat=ys.length-(k+1):=by omega
  have hrx:=Nm.TQ h1 hx;have hry:=Nm.TQ h2 hy
  by_cases he:Nm.jA x y=0
  ·have HN:Hid (Nm.bJ xs ys=Nm.dV (xs.reverse.drop (k+1)) (ys.reverse.drop (k+1))):=HT.out.trans (Nm.aEu hrx hry he);have Ac:=fun W=>yA x y W Jf
   rw [he] at Ac;have hz:((0:Int) != 0)=false:=rfl;clear he hx hy hrx hry aL kU hc DF Lx;go_wp2;go_quiet ((go_at_call 157;exact Calls.quiet_of (Ac _)))
   go_wp2;go_roundw
   case rel=>exact⟨k+1,by omega,by omega,by go_num,HN,_,by show _=_;rw [HW.out,World.drewN_drewN]⟩
   simp [intOf];omega
  have HO:Hid (Nm.bJ xs ys=Nm.jA x y):=HT.out.trans (Nm.Kn hrx hry he);have Ac:=fun W=>yA x y W Jf
  have hz:(Nm.jA x y != 0)=true:=by rw [bne_iff_ne];exact he
  generalize Nm.jA x y=o at*;clear he hx hy hrx hry aL kU hc DF Lx;go_wp2;go_quiet ((go_at_call 157;exact Calls.quiet_of (Ac _)))
  go_wp2;go_ret;rw [HO.out];exact⟨rfl,_,by rw [HW.out,World.drewN_drewN]⟩
 have HO:Hid (Nm.bJ xs ys=Nm.pK xs.length ys.length):=by
  show _=_
  rw [HT.out,Nm.aAh (by simpa using hka) (by simpa using hkb) (by simp;omega)];simp
 clear hc DF Lx
 by_cases h2:k<xs.length
 ·have g1:(k:Int)+1<=(xs.length:Int):=by omega
  have g2:(ys.length:Int)<(k:Int)+1:=by omega
  clear h1;go_wp2_with fail
  refine(BH _ _ _).mono ?_;rintro e w3 ⟨rfl,rfl⟩;go_wp2;go_ret;rw [HO.out];exact⟨rfl,_,HW.out⟩
 have g1:(xs.length:Int)<(k:Int)+1:=by omega
 clear h1;go_wp2_with fail
 refine(BH _ _ _).mono ?_;rintro e w3 ⟨rfl,rfl⟩;go_wp2;go_ret;rw [HO.out];exact⟨rfl,_,HW.out⟩
theorem Tryz.aJd:(Tryz.prog.info? 5).map (fun i=>(i.zero,i.size,i.bytes))=some (some (.int .u8 0),1,1):=by kernel_rfl
theorem aFe(c:Nat)(W:World):(convert 22 9 (.slice (some ⟨c,0,none⟩) 0 0)).run Tryz.prog W=.ok (.string ByteArray.empty) W:=by
 exact run_convert_bytes_back W 22 9 5 ⟨c,0,none⟩ 0 [] Tryz.underlying22 Tryz.underlying5 Tryz.underlying9 (by intro j hj;simp at hj)
theorem MC(s:ByteArray)(w:World)(hs:s.size<=1000000000):
 Calls Tryz.prog 97 #[.string s] w fun e w'=>e=.returned (.string (Nm.small s))∧Below w.heap.size w w':=by
 obtain⟨j0,hj,k0,k1,k2⟩:=info_parts Tryz.aJd
 by_cases hz:s.size=0
 ·have hc:=fun W=>aFe w.heap.size W
  have HE:Hid (Nm.small s=ByteArray.empty):=by
   show _=_
   apply Nm.kI;rw [Nm.dY,List.length_eq_zero_iff.1 (show s.data.toList.length=0 by simpa using hz)];rfl
  have hz':(s.size:Int)<=0:=by omega
  go_enter Tryz.func97,Tryz.ntmps97;go_wp2
  go_loop [3,4] (fun v i=>v=.slice (some ⟨w.heap.size,0,none⟩) 0 0∧i=.int .i64 0) (fun _ _=>0)
  case atStart=>exact⟨rfl,rfl⟩
  obtain⟨rfl,rfl⟩:=hrel;go_wp2;go_ret;rw [HE.out];exact⟨rfl,(aK _ _).alloc (aN _) _⟩
 go_enter Tryz.func97,Tryz.ntmps97;go_wp2
 go_loopw [3,4] (fun v i wr=>∃ k:Nat,k<=s.size∧i=.int .i64 k∧wr.ownsRow w.heap.size 5 1 v k (Nm.QL (Nm.eO (s.data.toList.take k)))∧Below w.heap.size w wr)
  (fun _ i _=>s.size-(intOf i).toNat)
 case atStart=>exact⟨0,dO _,rfl,World.ownsRow_made w #[] 0 (aN _) (by decide) rfl,(aK _ _).alloc (aN _) _⟩
 obtain⟨k,hk,rfl,aU,aJ⟩:=hrel;have pQ:=aJ.size
 by_cases bV:k<s.size
 ·have HS:=Nm.aF (Nm.Ke (Nm.iZ bV));have xW:(s[k].toNat:Int)<256:=by have:=s[k].toNat_lt;omega
  by_cases Sd:65<=s[k].toNat∧s[k].toNat<=90
  ·have HL:=Nm.aF (Nm.En Sd);have d1:decide ((65:Int)<=(s[k].toNat:Int))=true:=by simp;omega
   have d2:decide ((s[k].toNat:Int)<=90)=true:=by simp;omega
   have fF:(s[k].toNat:Int)<=90:=by omega
   clear Sd;go_wp2_with (at_builtin;refine wpList_append_own _ rfl (.tmp 24) (.tmp 26) 22 rfl w.heap.size 5 j0 (.int .u8 0) 1 1 Tryz.underlying22 hj k0 k1 k2 rfl (by decide) _ _ _ rfl (aU.alloc _) ⟨wr.heap.size,0,none⟩ 1 1 [.int .u8 ((s[k].toNat:Int)+32)] rfl rfl (cell_one_new _ _ _) (Nm.one_cell _ rfl) (by unfold maxLen;omega) (by omega) (by simp;omega) ?_;intro vb wb dW EN Fh;clear Fh;rw [<- HL.out] at dW;have R2:=Nm.UR (x:=[Nm.low s[k]]) (by simp;omega) (aU.alloc _) (aJ.alloc pQ _) dW EN;clear dW EN)
   go_roundw
   case rel=>exact⟨k+1,by omega,by go_num,by rw [HS.out];exact R2.1,R2.2⟩
   simp [intOf];omega
  have HL:=Nm.aF (Nm.JS Sd)
  by_cases hlo:65<=s[k].toNat
  ·have d1:decide ((65:Int)<=(s[k].toNat:Int))=true:=by simp;omega
   have d2:decide ((s[k].toNat:Int)<=90)=false:=by simp;omega
   clear Sd;go_wp2_with (at_builtin;refine wpList_append_own _ rfl (.tmp 24) (.tmp 26) 22 rfl w.heap.size 5 j0 (.int .u8 0) 1 1 Tryz.underlying22 hj k0 k1 k2 rfl (by decide) _ _ _ rfl (aU.alloc _) ⟨wr.heap.size,0,none⟩ 1 1 [.int .u8 (s[k].toNat:Int)] rfl rfl (cell_one_new _ _ _) (Nm.one_cell _ rfl) (by unfold maxLen;omega) (by omega) (by simp;omega) ?_;intro vb wb dW EN Fh;clear Fh;have R2:=Nm.UR (x:=[s[k]]) (by simp;omega) (aU.alloc _) (aJ.alloc pQ _) dW EN;clear dW EN)
   go_roundw
   case rel=>exact⟨k+1,by omega,by go_num,by rw [HS.out,HL.out];exact R2.1,R2.2⟩
   simp [intOf];omega
  have d1:decide ((65:Int)<=(s[k].toNat:Int))=false:=by simp;omega
  clear Sd;go_wp2_with (at_builtin;refine wpList_append_own _ rfl (.tmp 24) (.tmp 26) 22 rfl w.heap.size 5 j0 (.int .u8 0) 1 1 Tryz.underlying22 hj k0 k1 k2 rfl (by decide) _ _ _ rfl (aU.alloc _) ⟨wr.heap.size,0,none⟩ 1 1 [.int .u8 (s[k].toNat:Int)] rfl rfl (cell_one_new _ _ _) (Nm.one_cell _ rfl) (by unfold maxLen;omega) (by omega) (by simp;omega) ?_;intro vb wb dW EN Fh;clear Fh;have R2:=Nm.UR (x:=[s[k]]) (by simp;omega) (aU.alloc _) (aJ.alloc pQ _) dW EN;clear dW EN)
  go_roundw
  case rel=>exact⟨k+1,by omega,by go_num,by rw [HS.out,HL.out];exact R2.1,R2.2⟩
  simp [intOf];omega
 have nS:k=s.size:=by omega
 subst nS;obtain⟨g,cp,rfl,TR⟩:=Nm.LG (P:=Tryz.prog) Tryz.underlying22 Tryz.underlying5 Tryz.underlying9 aU (by omega);rw [List.take_of_length_le (by simp)] at TR;have he:(⟨(Nm.eO s.data.toList).toArray⟩:ByteArray)=Nm.small s:=rfl;rw [he] at TR;clear aU bV he;go_wp2;go_ret;exact⟨rfl,aJ⟩
def RB(w:World)(g:Nat)(r:Rr):Prop:=w.cell? ⟨g,0,none⟩=some (.string r.own)∧w.cell? ⟨g,1,none⟩=some (.int .i64 r.ty)∧w.cell? ⟨g,2,none⟩=some (.int .i64 r.cl)∧w.cell? ⟨g,3,none⟩=some (.int .i64 r.tt)∧w.cell? ⟨g,4,none⟩=some (.string r.da)
theorem RB.below{w W:World}{g:Nat}{r:Rr}(h:RB w g r)(hb:Below w.heap.size w W):RB W g r:=by
 obtain⟨a,b,c,d,e⟩:=h;have put:∀ {O:Nat} {z:Value},w.cell? ⟨g,O,none⟩=some z->W.cell? ⟨g,O,none⟩=some z:=fun h=>(hb.cell (eB w _ h)).trans h
 exact⟨put a,put b,put c,put d,put e⟩
theorem RB.new(w:World)(r:Rr)(t:Nat):RB (w.alloc (.cells #[.string r.own,.int .i64 r.ty,.int .i64 r.cl,.int .i64 r.tt,.string r.da] t)) w.heap.size r:=by
 refine⟨?_,?_,?_,?_,?_⟩<;>simp
def put2(n:Nat):List UInt8:=[UInt8.ofNat (n / 256),UInt8.ofNat (n % 256)]
theorem put2_step{W wr w1:World}{v v':Value}{B e n:Nat}{l:List Value}{x:Value}(hB:B<=wr.heap.size)
 (aU:wr.ownsRow B e 1 v n l) (aJ:Below B W wr) (o:Obj) (bZ:(wr.alloc o).grownBy w1 v.ownBlock)
 (dD:w1.ownsRow B e 1 v' (n+1) (l++[x])):
 w1.ownsRow B e 1 v' (n+1) (l++[x])∧Below B W w1:=by
 refine⟨dD,?_⟩;refine(aJ.alloc hB o).grown bZ (by simp;omega) ?_;intro k hk;exact(aU.lt k hk).1
def VN(x:Int):UInt8:=UInt8.ofNat (x % 256).toNat
theorem aBx(x:Int):((VN x).toNat:Int)=x % 256:=by
 have h1:0<=x % 256:=by omega
 have h2:x % 256<256:=by omega
 have:(VN x).toNat=(x % 256).toNat:=by simp [VN];omega
 rw [this];omega
def Ma(n:Int):List UInt8:=[VN (n / 16777216),VN (n / 65536),VN (n / 256),VN n]
theorem Ua(n:Int):Nm.QL (Ma n)=[.int .u8 (n / 16777216 % 256),.int .u8 (n / 65536 % 256),.int .u8 (n / 256 % 256),.int .u8 (n % 256)]:=by
 simp [Nm.QL,Ma,aBx]
theorem ME{W wr w1:World}{v v':Value}{B e n:Nat}{l:List Value}{x:Value}(hB:B<=wr.heap.size)
 (aU:wr.ownsRow B e 1 v n l) (aJ:Below B W wr) (o:Obj) (bZ:(wr.alloc o).grownBy w1 v.ownBlock)
 (dD:w1.ownsRow B e 1 v' (n+1) (l++[x])):
 w1.ownsRow B e 1 v' (n+1) (l++[x])∧Below B W w1:=by
 refine⟨dD,?_⟩;refine(aJ.alloc hB o).grown bZ (by simp;omega) ?_;intro k hk;exact(aU.lt k hk).1
theorem Ub(n:Int)(w:World)(h0:0<=n)(h1:n<=4294967295):
 Calls Tryz.prog 91 #[.int .i64 n,.int .i64 4] w fun e w'=>e=.returned (.string ⟨(Ma n).toArray⟩)∧Below w.heap.size w w':=by
 obtain⟨i0,hi,iJ,fP,fZ⟩:=info_parts Tryz.aOr;have oZ:=Ua n;have e:n / 16777216 % 256=n / 16777216:=by omega
 rw [e] at oZ;clear e;go_enter Tryz.func91,Tryz.ntmps91;go_wp2
 go_loopw [5,6] (fun v i wr=>∃ j:Nat,j<=4∧i=.int .i64 (3-(j:Int))∧wr.ownsRow w.heap.size 5 1 v j ([Value.int .u8 (n / 16777216),.int .u8 (n / 65536 % 256),.int .u8 (n / 256 % 256),.int .u8 (n % 256)].take j)∧Below w.heap.size w wr)
  (fun _ i _=>(intOf i+1).toNat)
 case atStart=>exact⟨0,by omega,rfl,World.ownsRow_made w #[] 0 (aN _) (by decide) rfl,(aK _ _).alloc (aN _) _⟩
 obtain⟨j,hj,rfl,aU,aJ⟩:=hrel;have pQ:=aJ.size;obtain rfl|rfl|rfl|rfl|rfl:j=0∨j=1∨j=2∨j=3∨j=4:=by omega
 ·simp only [List.take_zero,Int.sub_zero,Int.cast_ofNat_Int] at aU ⊢;go_wp2_with (at_builtin;refine wpList_append_own _ rfl (.tmp 14) (.tmp 21) 22 rfl w.heap.size 5 i0 (.int .u8 0) 1 1 Tryz.underlying22 hi iJ fP fZ rfl (by decide) _ _ _ rfl (aU.alloc _) ⟨wr.heap.size,0,none⟩ 1 1 [.int .u8 (n / 16777216)] rfl rfl (iR _ _ _) (Nm.one_cell _ rfl) (by unfold maxLen;omega) (by omega) (by simp;omega) ?_)
  intro v' w1 dD bZ _;have R:=ME pQ aU aJ _ bZ dD;clear dD bZ aU aJ;go_wp2;go_roundw
  case rel=>exact⟨1,by omega,by go_num,R.1,R.2⟩
  simp [intOf]
 ·simp only [List.take_succ_cons,List.take_zero] at aU ⊢;go_wp2_with (at_builtin;refine wpList_append_own _ rfl (.tmp 14) (.tmp 21) 22 rfl w.heap.size 5 i0 (.int .u8 0) 1 1 Tryz.underlying22 hi iJ fP fZ rfl (by decide) _ _ _ rfl (aU.alloc _) ⟨wr.heap.size,0,none⟩ 1 1 [.int .u8 (n / 65536 % 256)] rfl rfl (iR _ _ _) (Nm.one_cell _ rfl) (by unfold maxLen;omega) (by omega) (by simp;omega) ?_)
  intro v' w1 dD bZ _;have R:=ME pQ aU aJ _ bZ dD;clear dD bZ aU aJ;go_wp2;go_roundw
  case rel=>exact⟨2,by omega,by go_num,R.1,R.2⟩
  simp [intOf]
 ·simp only [List.take_succ_cons,List.take_zero] at aU ⊢;go_wp2_with (at_builtin;refine wpList_append_own _ rfl (.tmp 14) (.tmp 21) 22 rfl w.heap.size 5 i0 (.int .u8 0) 1 1 Tryz.underlying22 hi iJ fP fZ rfl (by decide) _ _ _ rfl (aU.alloc _) ⟨wr.heap.size,0,none⟩ 1 1 [.int .u8 (n / 256 % 256)] rfl rfl (iR _ _ _) (Nm.one_cell _ rfl) (by unfold maxLen;omega) (by omega) (by simp;omega) ?_)
  intro v' w1 dD bZ _;have R:=ME pQ aU aJ _ bZ dD;clear dD bZ aU aJ;go_wp2;go_roundw
  case rel=>exact⟨3,by omega,by go_num,R.1,R.2⟩
  simp [intOf]
 ·simp only [List.take_succ_cons,List.take_zero] at aU ⊢;go_wp2_with (at_builtin;refine wpList_append_own _ rfl (.tmp 14) (.tmp 21) 22 rfl w.heap.size 5 i0 (.int .u8 0) 1 1 Tryz.underlying22 hi iJ fP fZ rfl (by decide) _ _ _ rfl (aU.alloc _) ⟨wr.heap.size,0,none⟩ 1 1 [.int .u8 (n % 256)] rfl rfl (iR _ _ _) (Nm.one_cell _ rfl) (by unfold maxLen;omega) (by omega) (by simp;omega) ?_)
  intro v' w1 dD bZ _;have R:=ME pQ aU aJ _ bZ dD;clear dD bZ aU aJ;go_wp2;go_roundw
  case rel=>exact⟨4,by omega,by go_num,R.1,R.2⟩
  simp [intOf]
 simp only [List.take_succ_cons,List.take_zero] at aU ⊢;rw [<- oZ] at aU;have HC:=Nm.LG (P:=Tryz.prog) (src:=22) (dst:=9) Tryz.underlying22 Tryz.underlying5 Tryz.underlying9 aU (by omega);obtain⟨g,cap,rfl,TR⟩:=HC;clear aU;go_wp2;go_ret;exact⟨rfl,aJ⟩
theorem VO{P:Program}{ops:Array Oper}{rest:List Oper}{o:Oper}{a:Act}{w:World}{Q:Exit->Act->World->Prop}(Ce:o.guard=none)(s x:Operand)(t t2:TypeId)
 (ho:o.op=.call {callee:=.builtin .append,args:=#[s,x],argTypes:=#[t,t2]}) (v u v':Value) (w':World) (hs:a.eval s=v) (hx:a.eval x=u)
 (hr:(Builtin.append_ #[t,t2] o.type #[v,u]).run P w=.ok v' w') (h:wpList P ops Q rest (a.put o.dst v') w'):wpList P ops Q (o::rest) a w:=
 wpList_plain Ce fun _ hK=>by
  unfold Oper.wp execOp;simp only [ho,resolve,invoke,builtin,Sem.run_bind,Sem.run_pure,Result.andThen_ok,List.map_toArray,List.map_cons,List.map_nil,hs,hx,hr];exact hK _ _ h
