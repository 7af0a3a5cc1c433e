import Derived.Test.YtlddifpnkeafpaaGreatJOrdK
import Derived.Test.YtlddifpnkeafpaaGreatJTbPS
set_option linter.unusedVariables false
set_option maxRecDepth 100000
set_option maxHeartbeats 2000000
namespace Go.Proofs.YtlddifpnkeafpaaGreat
variable {B e k:Nat}{W w:World}{ps:List Zp}{u v:Value}
section
open Go.RowKit
theorem Pz(tb g:Nat)(rv:Value)(k d t:ByteArray)(w:World)(kb:bW w tb #[.pointer (some ⟨g,0,none⟩)] 175)(kg:bW w g #[Gp,rv] 234):
 Calls Tryz.prog 200 #[.agg #[.string k,.string d],.string t,.pointer (some ⟨tb,0,none⟩)] w fun e w'=>e=.returned (.int .i64 (Nm.iV k.data.toList t.data.toList))∧Below w.heap.size w w':=by
 have hB:=(aJ w.heap.size w).alloc (aI _) (.cells #[.string k,.string d] 236);have rb:=aA (aB kb hB)
 have rg:=aA (aB kg hB)
 have hc:=fun W=>Ja k t W
 unfold Gp at rg;generalize Nm.iV k.data.toList t.data.toList=C at*;go_enter Tryz.func200,Tryz.ntmps200;go_wp2;go_quiet ((go_at_call 171;exact Calls.quiet_of_same (hc _)))
 go_wp2;go_ret;exact⟨rfl,Go.below_drewN hB _⟩
theorem VB(tb g:Nat)(rv pv:Value)(k t:Int)(w:World)(kb:bW w tb #[.pointer (some ⟨g,0,none⟩)] 126)(kg:bW w g #[UW,rv] 193):
 Calls Tryz.prog 177 #[.agg #[.int .i64 k,pv],.int .i64 t,.pointer (some ⟨tb,0,none⟩)] w fun e w'=>e=.returned (.int .i64 (Nm.pI k t))∧Below w.heap.size w w':=by
 have hB:=(aJ w.heap.size w).alloc (aI _) (.cells #[.int .i64 k,pv] 195);have rb:=aA (aB kb hB)
 have rg:=aA (aB kg hB)
 have hc:=fun W=>X3 k t W
 unfold UW at rg;generalize Nm.pI k t=C at*;go_enter Tryz.func177,Tryz.ntmps177;go_wp2;go_quiet ((go_at_call 167;exact Calls.quiet_of_same (hc _)))
 go_wp2;go_ret;exact⟨rfl,Go.below_drewN hB _⟩
theorem IG(tb g:Nat)(rv pv kv tv:Value)(ks ts:List ByteArray)(w:World)(kb:bW w tb #[.pointer (some ⟨g,0,none⟩)] 100)(kg:bW w g #[wI,rv] 163)
 (hk:Nm.bP w kv ks) (ht:Nm.bP w tv ts) (hks:∀ x∈ks,x.size<=1000000000) (mK:ks.length<=1000000000) (htl:ts.length<=1000000000):
 Calls Tryz.prog 134 #[.agg #[kv,pv],tv,.pointer (some ⟨tb,0,none⟩)] w fun e w'=>e=.returned (.int .i64 (Nm.aN ks ts))∧Below w.heap.size w w':=by
 have hB:=(aJ w.heap.size w).alloc (aI _) (.cells #[kv,pv] 165);have rb:=aA (aB kb hB)
 have rg:=aA (aB kg hB)
 have hc:=fun m=>UX kv tv ks ts _ (hk.below (Go.below_drewN hB m)) (ht.below (Go.below_drewN hB m)) hks mK htl
 unfold wI at rg;obtain⟨ka,kc,rfl,_⟩:=hk;obtain⟨ta,tc,rfl,_⟩:=ht;generalize Nm.aN ks ts=C at*;go_enter Tryz.func134,Tryz.ntmps134;go_wp2;go_quiet ((go_at_call 94;exact Calls.quiet_of (hc _)))
 go_wp2;go_ret;exact⟨rfl,Go.below_drewN hB _⟩
structure It where
 r:Rr
 fo:ByteArray
 dt:ByteArray
 out:Bool
def FI(x:It):List Value:=[.string x.r.own,.int .i64 x.r.ty,.int .i64 x.r.cl,.int .i64 x.r.tt,.string x.r.da,.string x.fo,.string x.dt,.bool x.out]
def fK(l:List It):List Value:=l.flatMap FI
theorem xJ(l:List It)(x:It):fK (l++[x])=fK l++FI x:=by simp [fK]
theorem Qa(l:List It):(fK l).length=l.length*8:=by
 induction l with
 |nil=>rfl
 |cons x l ih=>
  have e:fK (x::l)=FI x++fK l:=by simp [fK]
  rw [e,oJ,ih];simp [FI]
  omega
theorem wT:∀ (xs:List It) (k j:Nat) (x:It),xs[k]? =some x->j<8->(fK xs)[k*8+j]? =(FI x)[j]? :=by
 intro xs
 induction xs with
 |nil=>intro k j x h;simp at h
 |cons y xs ih=>
  intro k j x h hj;have e:fK (y::xs)=FI y++fK xs:=by simp [fK]
  have hl:(FI y).length=8:=rfl
  cases k with
  |zero=>
   simp at h;subst h
   rw [e,Nat.zero_mul,Nat.zero_add,List.getElem?_append_left (by omega)]
  |succ k=>
   simp at h;rw [e,List.getElem?_append_right (by omega),hl,show(k+1)*8+j-8=k*8+j by omega];exact ih k j x h hj
def gZ(l:List It)(fo:ByteArray)(t:Int):Bool:=l.any fun x=> !x.out&&decide (x.fo=fo)&&decide (x.r.ty=t)
def dC(p:Nat->It->Bool)(l:List It):Option Nat:=(List.range l.length).find? fun i=>match l[i]? with
 |some x=>p i x
 |none=>false
theorem nL{p:Nat->It->Bool}{l:List It}{x:It}(gI:∀ i,i<k->∀ y,l[i]? =some y->p i y=false)(hk:l[k]? =some x)(hp:p k x=true):dC p l=some k:=by
 have bY:=(dL hk).1;rw [dC,List.find?_eq_some_iff_getElem];refine⟨by rw [hk];exact hp,k,by simpa using bY,by simp,fun j hj=>?_⟩;have NG:j<l.length:=by omega
 simp only [List.getElem_range];rw [gF NG];simp [gI j hj _ (gF NG)]
theorem nM{p:Nat->It->Bool}{l:List It}(gI:∀ i,i<l.length->∀ y,l[i]? =some y->p i y=false):dC p l=none:=by
 rw [dC,List.find?_eq_none];intro i hi;simp at hi;rw [gF hi];simp [gI i hi _ (gF hi)]
def II(s:ByteArray):Bool:=decide (1<s.size)&&decide (s.extract 0 2=⟨#[1,42]⟩)
def fZ(l:List It)(fo:ByteArray):Int×Int:=
 match dC (fun i x=> !x.out&&decide (x.r.ty=6)&&(decide (x.fo≠fo)||gZ (l.take i) fo 6)) l with
 |some i=>(20,i)
 |none=>if !gZ l fo 6 then(20,-1) else if !gZ l fo 2 then(21,-1) else
  match dC (fun _ x=> !x.out&&II x.fo&&(decide (x.r.ty=2)||decide (x.r.ty=39))) l with
  |some i=>(26,i)
  |none=>match dC (fun i x=> !x.out&&(decide (x.r.ty=5)||decide (x.r.ty=39))&&gZ (l.take i) x.fo x.r.ty) l with
   |some i=>(23,i)
   |none=>match dC (fun _ x=> !x.out&&decide (x.r.ty≠5)&&decide (x.r.ty≠47)&&gZ l x.fo 5) l with
    |some i=>(23,i)
    |none=>match dC (fun _ x=> !x.out&&l.any fun y=> !y.out&&decide (y.r.ty=39)&&decide (y.fo≠x.fo)&&cZ x.fo y.fo) l with
     |some i=>(25,i)
     |none=>(0,0)
theorem fQ{xs:List It}{b off:Nat}{x:It}(hc:∀ (i:Nat) (y:Value),(fK xs)[i]? =some y->w.cell? ⟨b,off+i,none⟩=some y)(h:xs[k]? =some x):
 w.cell? ⟨b,off+k*8,none⟩=some (.string x.r.own)∧w.cell? ⟨b,off+k*8+1,none⟩=some (.int .i64 x.r.ty)∧w.cell? ⟨b,off+k*8+2,none⟩=some (.int .i64 x.r.cl)∧w.cell? ⟨b,off+k*8+3,none⟩=some (.int .i64 x.r.tt)∧w.cell? ⟨b,off+k*8+4,none⟩=some (.string x.r.da)∧w.cell? ⟨b,off+k*8+5,none⟩=some (.string x.fo)∧w.cell? ⟨b,off+k*8+6,none⟩=some (.string x.dt)∧w.cell? ⟨b,off+k*8+7,none⟩=some (.bool x.out):=
 ⟨hc (k*8) _ ((wT xs k 0 x h (by decide)).trans rfl),hc (k*8+1) _ ((wT xs k 1 x h (by decide)).trans rfl),hc (k*8+2) _ ((wT xs k 2 x h (by decide)).trans rfl),hc (k*8+3) _ ((wT xs k 3 x h (by decide)).trans rfl),hc (k*8+4) _ ((wT xs k 4 x h (by decide)).trans rfl),hc (k*8+5) _ ((wT xs k 5 x h (by decide)).trans rfl),hc (k*8+6) _ ((wT xs k 6 x h (by decide)).trans rfl),hc (k*8+7) _ ((wT xs k 7 x h (by decide)).trans rfl)⟩
theorem aAc{l:List It}{x:It}(fo:ByteArray)(t:Int)(h:l[k]? =some x):gZ (l.take (k+1)) fo t=(gZ (l.take k) fo t||(!x.out&&decide (x.fo=fo)&&decide (x.r.ty=t))):=by
 obtain⟨hi,e⟩:=dL h;rw [List.take_succ_eq_append_getElem hi,e];simp [gZ]
theorem ba_eq(a b:ByteArray):(a.toList==b.toList)=decide (a=b):=by
 by_cases h:a=b
 ·subst h;simp
 rw [oF h,fC];intro e;apply h;rw [ByteArray.toList_eq,ByteArray.toList_eq] at e;cases a;cases b
 congr 1;exact Array.toList_inj.1 e
theorem yI(v:Value)(l:List It)(n:Nat)(fo:ByteArray)(t:Int)(w:World)(h:dZ w v l.length 8 (fK l))(hn:n<=l.length)(hl:l.length<=1000000):
 Calls Tryz.prog 126 #[v,.int .i64 (n:Int),.string fo,.int .i64 t] w fun e w'=>e=.returned (.bool (gZ (l.take n) fo t))∧w'=w:=by
 obtain⟨_,a,cap,rfl,gT,kV,hc⟩:=h;unfold maxLen at kV;go_enter Tryz.func126,Tryz.ntmps126;go_wp2
 go_loop [9] (fun i=>∃ k:Nat,k<=n∧i=.int .i64 k∧Hid (gZ (l.take k) fo t=false)) (fun i=>n-(intOf i).toNat)
 ·exact⟨0,dR _,rfl,rfl⟩
 obtain⟨k,hk,rfl,HA⟩:=hrel
 by_cases bY:k<n
 ·obtain⟨x,qF⟩:∃ x,l[k]? =some x:=⟨_,gF (by omega)⟩;obtain⟨b,off,rfl,aH⟩:=hc (by omega);obtain⟨c0,c1,c2,c3,c4,c5,c6,c7⟩:=fQ aH qF;have i1:=fE k
  have i2:(k:Int)<(l.length:Int):=by omega
  have i3:(k:Int)<(n:Int):=by omega
  have mI:=aAc fo t qF;have e0:=ba_eq x.fo fo;have e1:(x.r.ty==t)=decide (x.r.ty=t):=by by_cases h:x.r.ty=t<;>simp [h]
  rw [HA.out,Bool.false_or,<- e0,<- e1] at mI;have HST:=Nm.aD mI;clear hc aH qF mI e0 e1 HA;obtain⟨⟨o,ty,cl,tt,da⟩,f1,d1,ou⟩:=x;simp only at*
  have WF:gZ (l.take (k+1)) fo t=true->gZ (l.take n) fo t=true:=by
   intro h1
   have e:l.take n=l.take (k+1)++(l.drop (k+1)).take (n-(k+1)):=by
    conv=>lhs;rw [show n=(k+1)+(n-(k+1)) by omega]
    rw [List.take_add]
   rw [e];simp only [gZ,List.any_append,Bool.or_eq_true] at h1 ⊢;exact .inl h1
  have aDy:=Nm.aD WF;clear WF
  cases hO:ou with
  |true=>
   subst hO;have HN:Hid (gZ (l.take (k+1)) fo t=false):=by show _=_;rw [HST.out];rfl
   clear HST aDy;go_wp2
   go_round
   ·exact⟨k+1,by omega,by go_num,HN⟩
   simp [intOf];omega
  |false=>
   subst hO;cases hF:(f1.toList==fo.toList)
   ·have HN:Hid (gZ (l.take (k+1)) fo t=false):=by show _=_;rw [HST.out,hF];rfl
    clear HST aDy;go_wp2
    go_round
    ·exact⟨k+1,by omega,by go_num,HN⟩
    simp [intOf];omega
   cases hT:(ty==t)
   ·have HN:Hid (gZ (l.take (k+1)) fo t=false):=by show _=_;rw [HST.out,hF,hT];rfl
    clear HST aDy;go_wp2
    go_round
    ·exact⟨k+1,by omega,by go_num,HN⟩
    simp [intOf];omega
   have HN:Hid (gZ (l.take n) fo t=true):=aDy.out (by rw [HST.out,hF,hT];rfl);clear HST aDy;go_wp2;go_ret;exact⟨by rw [HN.out];rfl,rfl⟩
 obtain rfl:k=n:=by omega
 have i3:(k:Int)<=(k:Int):=by omega
 clear hc;go_wp2;go_ret;exact⟨by rw [HA.out];rfl,rfl⟩
def vX(l:List It)(fo:ByteArray):ByteArray:=match l.find? (fun x=>decide (x.fo=fo)) with
 |some x=>x.r.own
 |none=>fo
theorem Jq(v:Value)(l:List It)(fo:ByteArray)(w:World)(h:dZ w v l.length 8 (fK l))(hl:l.length<=1000000):
 Calls Tryz.prog 85 #[v,.string fo] w fun e w'=>e=.returned (.string (vX l fo))∧w'=w:=by
 obtain⟨_,a,cap,rfl,gT,kV,hc⟩:=h;unfold maxLen at kV;go_enter Tryz.func85,Tryz.ntmps85;go_wp2
 go_loop [5] (fun i=>∃ k:Nat,k<=l.length∧i=.int .i64 k∧Hid (∀ j y,j<k->l[j]? =some y->decide (y.fo=fo)=false)) (fun i=>l.length-(intOf i).toNat)
 ·exact⟨0,dR _,rfl,by show ∀ _,_;intro j y hj;omega⟩
 obtain⟨k,hk,rfl,HA⟩:=hrel
 by_cases bY:k<l.length
 ·obtain⟨x,qF⟩:=gQ bY;obtain⟨b,off,rfl,aH⟩:=hc (by omega);obtain⟨c0,c1,c2,c3,c4,c5,c6,c7⟩:=fQ aH qF;have i1:=fE k
  have i2:(k:Int)<(l.length:Int):=by omega
  have e0:=ba_eq x.fo fo;have HXK:=Nm.aD qF;clear hc aH qF;cases hF:decide (x.fo=fo)
  ·have HA2:Hid (∀ j y,j<k+1->l[j]? =some y->decide (y.fo=fo)=false):=by
    show ∀ _,_
    intro j y hj hy
    by_cases hjk:j=k
    ·subst hjk;rw [HXK.out] at hy;obtain rfl:=jI hy;exact hF
    exact HA.out j y (by omega) hy
   rw [hF] at e0;clear hF;obtain⟨⟨o,ty,cl,tt,da⟩,f1,d1,ou⟩:=x;simp only at*
   go_wp2
   go_round
   ·exact⟨k+1,by omega,by go_num,HA2⟩
   simp [intOf];omega
  have HO:Hid (vX l fo=x.r.own):=by
   show _=_
   have:l.find? (fun x=>decide (x.fo=fo))=some x:=by
    rw [List.find?_eq_some_iff_getElem];obtain⟨vT,e⟩:=dL HXK.out;refine⟨hF,k,vT,e,fun j hj=>?_⟩;have:=HA.out j l[j] hj (gF (by omega));simp only [this];decide
   rw [vX,this]
  rw [hF] at e0;clear hF;obtain⟨⟨o,ty,cl,tt,da⟩,f1,d1,ou⟩:=x;simp only at*
  go_wp2;go_ret;exact⟨by rw [HO.out];rfl,rfl⟩
 obtain rfl:k=l.length:=by omega
 have HO:Hid (vX l fo=fo):=by
  show _=_
  have:l.find? (fun x=>decide (x.fo=fo))=none:=by
   rw [List.find?_eq_none];intro x hx;obtain⟨j,hj,e⟩:=List.getElem_of_mem hx;have:=HA.out j x hj (by rw [gF hj,e]);simpa using this
  rw [vX,this]
 clear hc;go_wp2;go_ret;exact⟨by rw [HO.out];rfl,rfl⟩
theorem aAd(x y:ByteArray):Nm.iV (Nm.small x).toList (Nm.small y).toList=Nm.jP x y:=by
 rw [ByteArray.toList_eq,ByteArray.toList_eq,Nm.eF,Nm.eF];rfl
theorem IJ(a b:ByteArray)(w:World)(ha:a.size<=maxLen)(hb:b.size<=maxLen):
 Calls Tryz.prog 158 #[.string a,.string b] w fun e w'=>e=.returned (.int .i64 (Nm.sH a b))∧Below w.heap.size w w':=by
 have WA:=gL a w ha;have rW:=fun W=>gL b W hb
 cases IE:Nm.split a with
 |none=>
  have HA:=Nm.aD (Y8 (b:=b) IE);rw [IE] at WA;clear IE;go_enter Tryz.func158,Tryz.ntmps158;go_wp2_with fail
  refine WA.mono ?_;rintro e w1 ⟨v,rfl,aU,aG⟩;go_wp2_with fail
  refine(rW _).mono ?_;rintro e w2 ⟨v2,rfl,dO,gX⟩;go_wp2;go_ret;rw [HA.out]
  exact⟨rfl,Nm.aC aG gX⟩
 |some xs=>
  rw [IE] at WA
  cases LM:Nm.split b with
  |none=>
   have HA:=Nm.aD (Xg (a:=a) LM);rw [LM] at rW;clear IE LM;go_enter Tryz.func158,Tryz.ntmps158;go_wp2_with fail
   refine WA.mono ?_;rintro e w1 ⟨v,rfl,aU,aG⟩;go_wp2_with fail
   refine(rW _).mono ?_;rintro e w2 ⟨v2,rfl,dO,gX⟩;go_wp2;go_ret;rw [HA.out]
   exact⟨rfl,Nm.aC aG gX⟩
  |some ys=>
   have HA:=Nm.aD (Y9 IE LM);have Pf:=(Nm.jB IE).2;have hys:=(Nm.jB LM).2;have hza:=Nm.dK IE;have Eh:=Nm.dK LM;have hla:=Nm.bL xs;have EM:=Nm.bL ys;rw [LM] at rW;clear IE LM;go_enter Tryz.func158,Tryz.ntmps158;go_wp2_with fail
   refine WA.mono ?_;rintro e w1 ⟨v,rfl,aU,aG⟩;go_wp2_with fail
   refine(rW _).mono ?_;rintro e w2 ⟨v2,rfl,dO,gX⟩;have r1:=(Nm.bP.aP aU).below gX;have r2:=Nm.bP.aP dO;simp only [Option.getD_some] at r1 r2;have WE:=Nm.aC aG gX;obtain⟨a1,Qb,rfl,ZP,aH2,PE,mQ⟩:=r1;obtain⟨a2,aH3,rfl,PN,aAe,GR,vI⟩:=r2;clear aU dO WA rW PE GR aG gX;go_wp2
   go_loopw [9] (fun i wr=>∃ k:Nat,k<=xs.length∧k<=ys.length∧i=.int .i64 ((k:Int)+1)∧Hid (Nm.aN xs ys=Nm.dW (xs.reverse.drop k) (ys.reverse.drop k))∧Below w2.heap.size w2 wr)
    (fun i _=>xs.length+1-(intOf i).toNat)
   ·exact⟨0,dR _,dR _,rfl,by show _=_;simp [Nm.aN],aJ _ _⟩
   obtain⟨k,hka,hkb,rfl,HT,hbr⟩:=hrel
   by_cases h1:k<xs.length∧k<ys.length
   ·obtain⟨h1,h2⟩:=h1;have i1:(k:Int)+1<=(xs.length:Int):=by omega
    have i2:(k:Int)+1<=(ys.length:Int):=by omega
    obtain⟨x,hx⟩:∃ x,xs[xs.length-(k+1)]? =some x:=⟨_,gF (by omega)⟩;obtain⟨y,hy⟩:∃ y,ys[ys.length-(k+1)]? =some y:=⟨_,gF (by omega)⟩;obtain⟨b1,Qc,rfl,Xj⟩:=mQ (by intro h;rw [h] at h1;simp at h1);obtain⟨b2,aAf,rfl,Xk⟩:=vI (by intro h;rw [h] at h2;simp at h2);have M8:=Xj _ _ hx;have hy2:=Xk _ _ hy;have vS:wr.cell? ⟨b1,Qc+(xs.length-(k+1)),none⟩=some (.string x):=(hbr.cell (fD w2 _ M8)).trans M8;have hcy:wr.cell? ⟨b2,aAf+(ys.length-(k+1)),none⟩=some (.string y):=(hbr.cell (fD w2 _ hy2)).trans hy2;have X8:=Pf x (dA hx);have Xa:=hys y (dA hy);have q1:(0:Int)<=(xs.length:Int)-((k:Int)+1):=by omega
    have q2:(xs.length:Int)-((k:Int)+1)<(xs.length:Int):=by omega
    have q3:((xs.length:Int)-((k:Int)+1)).toNat=xs.length-(k+1):=by omega
    have q4:(0:Int)<=(ys.length:Int)-((k:Int)+1):=by omega
    have q5:(ys.length:Int)-((k:Int)+1)<(ys.length:Int):=by omega
    have q6:((ys.length:Int)-((k:Int)+1)).toNat=ys.length-(k+1):=by omega
    have p1:IntKind.i64.wrap ((xs.length:Int)-((k:Int)+1))=(xs.length:Int)-((k:Int)+1):=wrap_small _ (by omega) (by omega);have p2:IntKind.i64.wrap ((ys.length:Int)-((k:Int)+1))=(ys.length:Int)-((k:Int)+1):=wrap_small _ (by omega) (by omega);have hrx:=Nm.WZ h1 hx;have hry:=Nm.WZ h2 hy
    have xK:∀ (z:ByteArray) (W:World),z.size<=63->(W.cell? ⟨b1,Qc+(xs.length-(k+1)),none⟩=some (.string x)∧W.cell? ⟨b2,aAf+(ys.length-(k+1)),none⟩=some (.string y)∧Below w2.heap.size w2 W)->
     Calls Tryz.prog 73 #[.string z] W fun e w'=>e=.returned (.string (Nm.small z))∧(w'.cell? ⟨b1,Qc+(xs.length-(k+1)),none⟩=some (.string x)∧w'.cell? ⟨b2,aAf+(ys.length-(k+1)),none⟩=some (.string y)∧Below w2.heap.size w2 w'):=by
     intro z W hz hS;refine(PK z W (by omega)).mono ?_;rintro e w' ⟨rfl,ZQ⟩;have qA:=hS.2.2.size;exact⟨rfl,(ZQ.cell (fD W _ hS.1)).trans hS.1,(ZQ.cell (fD W _ hS.2.1)).trans hS.2.1,hS.2.2.trans (ZQ.mono qA)⟩
    have hor:=fun W=>Jk (Nm.small x) (Nm.small y) W
    rw [aAd] at hor;have FV:wr.drew.cell? ⟨b1,Qc+(xs.length-(k+1)),none⟩=some (.string x)∧wr.drew.cell? ⟨b2,aAf+(ys.length-(k+1)),none⟩=some (.string y)∧Below w2.heap.size w2 wr.drew:=⟨vS,hcy,hbr.drew⟩
    by_cases he:Nm.jP x y=0
    ·have HN:Hid (Nm.aN xs ys=Nm.dW (xs.reverse.drop (k+1)) (ys.reverse.drop (k+1))):=HT.out.trans (Nm.aCv hrx hry he);rw [he] at hor;have hz:((0:Int) != 0)=false:=rfl;clear he hx hy hrx hry Xj Xk mQ vI Pf hys M8 hy2;go_wp2;go_region_held3 (fun w'=>w'.cell? ⟨b1,Qc+(xs.length-(k+1)),none⟩=some (.string x)∧w'.cell? ⟨b2,aAf+(ys.length-(k+1)),none⟩=some (.string y)∧Below w2.heap.size w2 w') (first|assumption|exact FV) ((first|(go_at_call 73;refine(xK _ _ (by omega) (by first|assumption|exact FV)).mono ?_;rintro e w' ⟨rfl,MJ⟩)|(go_at_call 181;refine(hor _).mono ?_;rintro e w' ⟨rfl,rfl⟩)))
     go_wp2;go_roundw
     ·exact⟨k+1,by omega,by omega,by go_num,HN,MJ.2.2⟩
     simp [intOf];omega
    have HO:Hid (Nm.aN xs ys=Nm.jP x y):=HT.out.trans (Nm.Np hrx hry he);have hz:(Nm.jP x y != 0)=true:=by rw [bne_iff_ne];exact he
    generalize Nm.jP x y=o at*;clear he hx hy hrx hry Xj Xk mQ vI Pf hys M8 hy2;go_wp2;go_region_held3 (fun w'=>w'.cell? ⟨b1,Qc+(xs.length-(k+1)),none⟩=some (.string x)∧w'.cell? ⟨b2,aAf+(ys.length-(k+1)),none⟩=some (.string y)∧Below w2.heap.size w2 w') (first|assumption|exact FV) ((first|(go_at_call 73;refine(xK _ _ (by omega) (by first|assumption|exact FV)).mono ?_;rintro e w' ⟨rfl,MJ⟩)|(go_at_call 181;refine(hor _).mono ?_;rintro e w' ⟨rfl,rfl⟩)))
    go_wp2;go_ret;rw [HA.out,HO.out];exact⟨rfl,Nm.aC WE MJ.2.2⟩
   have HO:Hid (Nm.aN xs ys=Nm.pI xs.length ys.length):=by
    show _=_
    rw [HT.out,Nm.J7 (by simpa using hka) (by simpa using hkb) (by simp;omega)];simp
   clear mQ vI Pf hys
   have BR:(xs.length<ys.length∧Hid (Nm.pI xs.length ys.length= -1))∨(ys.length<xs.length∧Hid (Nm.pI xs.length ys.length=1))∨(xs.length=ys.length∧Hid (Nm.pI xs.length ys.length=0)):=by
    rcases Nat.lt_trichotomy xs.length ys.length with h|h|h
    ·exact .inl ⟨h,Nm.pJ (by omega)⟩
    ·exact .inr (.inr ⟨h,Nm.vC (by omega)⟩)
    exact .inr (.inl ⟨h,Nm.pK (by omega)⟩)
   rcases BR with⟨hl,HC⟩|⟨hl,HC⟩|⟨hl,HC⟩
   ·have g1:(xs.length:Int)<(k:Int)+1:=by omega
    clear h1;go_wp2;go_ret;rw [HA.out,HO.out,HC.out];exact⟨rfl,Nm.aC WE hbr⟩
   ·have g1:(k:Int)+1<=(xs.length:Int):=by omega
    have g2:(ys.length:Int)<(k:Int)+1:=by omega
    clear h1;go_wp2;go_ret;rw [HA.out,HO.out,HC.out];exact⟨rfl,Nm.aC WE hbr⟩
   have g1:(xs.length:Int)<(k:Int)+1:=by omega
   have g2:ys.length<=xs.length:=by omega
   clear h1 hl;go_wp2;go_ret;rw [HA.out,HO.out,HC.out];exact⟨rfl,Nm.aC WE hbr⟩
theorem VC{xs ys:List ByteArray}(h:xs.length<ys.length):aQ xs ys=false:=by
 rw [aQ,oF (by omega)];rfl
theorem Xl{xs ys:List ByteArray}(h:ys.length<=xs.length):aQ xs ys=decide (Nm.aN (xs.drop (xs.length-ys.length)) ys=0):=by
 rw [aQ,oI h];rfl
theorem xL(v u:Value)(xs ys:List ByteArray)(w:World)(h:Nm.bP w v xs)(h':Nm.bP w u ys)(Pf:∀ x∈xs,x.size<=1000000000)(hlx:xs.length<=1000000000)(hly:ys.length<=1000000000):
 Calls Tryz.prog 53 #[v,u] w fun e w'=>e=.returned (.bool (aQ xs ys))∧∃ m,w'=w.drewN m:=by
 have dI:=h;obtain⟨a,cap,rfl,gT,kV,FC,hc⟩:=h;have hu:=h';obtain⟨a',cap',rfl,UY,PM,Jj,AX⟩:=h';clear hc AX FC Jj
 by_cases hl:xs.length<ys.length
 ·have HA:=Nm.aD (VC hl);have hd:decide ((0:Int)<=(xs.length:Int)-(ys.length:Int))=false:=by simp;omega
  clear dI hu;go_enter Tryz.func53,Tryz.ntmps53;go_wp2;go_ret;rw [HA.out];exact⟨rfl,0,rfl⟩
 have HA:=Nm.aD (Xl (xs:=xs) (ys:=ys) (by omega));obtain⟨d,hd⟩:∃ d,d=xs.length-ys.length:=⟨_,rfl⟩;rw [<- hd] at HA;have hq:(xs.length:Int)-(ys.length:Int)=(d:Int):=by omega
 have nV:d<=xs.length:=by omega
 have hg:decide ((0:Int)<=(d:Int))=true:=by simp
 have Jr:=fun V hr=>UX V (.slice a' ys.length cap') (xs.drop d) ys w hr hu (fun x hx=>Pf x (List.mem_of_mem_drop hx)) (by rw [List.length_drop];omega) hly
 have EN:=fun e:cap=d=>dI.AY e
 have XB:=dI.drop (k:=d) nV;generalize Nm.aN (xs.drop d) ys=o at*;have HD:Hid ((o==0)=decide (o=0)):=by show _=_;rw [Bool.eq_iff_iff];simp
 clear hd hl Pf dI hu
 by_cases SQ:cap=d
 ·have Hc:=Jr _ (EN SQ);clear Jr EN XB;subst SQ;rw [show xs.length-cap=0 by omega] at Hc;go_enter Tryz.func53,Tryz.ntmps53;go_wp2_with fail
  refine Hc.mono ?_;rintro e w1 ⟨rfl,m,rfl⟩;go_wp2;go_ret;rw [HA.out,<- HD.out];exact⟨rfl,_,rfl⟩
 have Hc:=Jr _ XB;clear Jr EN XB;go_enter Tryz.func53,Tryz.ntmps53;go_wp2_with fail
 refine Hc.mono ?_;rintro e w1 ⟨rfl,m,rfl⟩;go_wp2;go_ret;rw [HA.out,<- HD.out];exact⟨rfl,_,rfl⟩
open Go.Shelf
attribute [local go_sem] Oper.semAt_some
theorem aDz{α:Type}(ka:α->Option Addr)(kn kc:α->Nat)(vf:α->Addr)(F:Fence)(n:Nat)(h7:F.fn 111)(sJ:F.round=none)(hn:1<=n)(l tb g n₀ b off cap:Nat)(lK:Value)(zs:List α)(hl:zs.length<=1000000)(gT:zs.length<=cap∧cap<=maxLen)(hb:b<n₀)(J Jx:List α->World->Prop)
 (hJ:∀ s W W',J s W->W.grownBy W' none->J s W')
 (hY:∀ pre x W,J pre W->pre.length<zs.length->YieldAt F (n-1) Tryz.prog l #[(Value.slice (ka x) (kn x) (kc x)),(Value.pointer (some (vf x)))] W fun e W'=>
  (e=.returned (.bool true)∧J (pre++[x]) W'∧Below n₀ W W')∨(e=.returned (.bool false)∧Jx (pre++[x]) W'))
 (W:World) (kb:W.cell? ⟨tb,0,none⟩=some (.pointer (some ⟨g,0,none⟩))) (kg:W.cell? ⟨g,1,none⟩=some (.slice (some ⟨b,off,none⟩) zs.length cap))
 (hc:∀ (i:Nat) (x:α),zs[i]? =some x->W.cell? ⟨b,off+i*2,none⟩=some (Value.slice (ka x) (kn x) (kc x))∧W.cell? ⟨b,off+i*2+1,none⟩=some (Value.pointer (some (vf x)))) (hn₀:n₀<=W.heap.size) (h0:J [] W):
 CallsIn F n Tryz.prog 111 #[.func (.yield l) #[] #[],.pointer (some ⟨tb,0,none⟩)] W fun e W'=>(∃ v,e=.returned v)∧
  ((∃ ys,ys=zs∧J ys W')∨(∃ pre,pre<+:zs∧Jx pre W')):=by
 obtain⟨ZP,PN⟩:=gT;unfold maxLen at PN;refine callsIn_of_wp Tryz.func111 rfl h7 ?_ sJ;simp only [Tryz.ntmps111,List.size_toArray,List.length_cons,List.length_nil,Nat.reduceAdd,Nat.reduceSub,Array.replicate_succ,Array.replicate_zero,List.push_toArray,List.append_toArray,List.nil_append,List.cons_append]
 gi_wp2
 gi_loopw [10] (fun i wr=>∃ k:Nat,k<=zs.length∧i=.int .i64 k∧J (zs.take k) wr∧Below n₀ W wr)
  (fun i _=>zs.length-(intOf i).toNat)
 ·exact⟨0,dR _,rfl,by simpa using h0,aJ _ _⟩
 obtain⟨k,hk,rfl,Po,Pp⟩:=hrel
 by_cases bY:k<zs.length
 ·obtain⟨x,hx⟩:=gQ bY;obtain⟨c0,c1⟩:=hc k x hx;have d0:wr.cell? ⟨b,off+k*2,none⟩=some (Value.slice (ka x) (kn x) (kc x)):=(Pp.cell (p:=⟨b,off+k*2,none⟩) hb).trans c0;have d1:wr.cell? ⟨b,off+k*2+1,none⟩=some (Value.pointer (some (vf x))):=(Pp.cell (p:=⟨b,off+k*2+1,none⟩) hb).trans c1;have XI:∀ o:Obj,wr.grownBy (wr.alloc o) none:=fun o=>⟨rfl,rfl,rfl,by simp,fun q hq _=>heap_alloc_old wr _ hq⟩
  obtain⟨fn,tmps,assign,body,hy,hR⟩:=hY _ x (wr.alloc (.cells #[(Value.slice (ka x) (kn x) (kc x)),(Value.pointer (some (vf x)))] 165)) (hJ _ _ _ Po (XI _)) (by rw [List.length_take];omega);have n1:=fE k
  have n2:(k:Int)<(zs.length:Int):=by omega
  have WE:Below n₀ W (wr.alloc (.cells #[(Value.slice (ka x) (kn x) (kc x)),(Value.pointer (some (vf x)))] 165)):=Pp.alloc (jN hn₀ Pp.size) _
  have HT:Hid (zs.take (k+1)=zs.take k++[x]):=by
   obtain⟨vT,e⟩:=dL hx;show _=_
   rw [List.take_succ_eq_append_getElem vT,e]
  clear hc c0 c1 hx
  gi_wp2
  refine hR.mono ?_;rintro e W3 (⟨rfl,hJ3,hk3⟩|⟨rfl,aDs⟩)
  ·gi_wp2
   go_roundw
   ·exact⟨k+1,by omega,by go_num,by rw [HT.out];exact hJ3,WE.trans hk3⟩
   simp [intOf];omega
  gi_wp2
  refine eB (results_none rfl _ _ _) rfl ?_;exact⟨⟨_,rfl⟩,.inr ⟨_,by rw [<- HT.out];exact List.take_prefix _ _,aDs⟩⟩
 obtain rfl:k=zs.length:=by omega
 have n2:(zs.length:Int)<=(zs.length:Int):=by omega
 rw [List.take_length] at Po;clear hc
 gi_wp2
 go_end0
 exact⟨⟨_,rfl⟩,.inl ⟨_,rfl,Po⟩⟩
end
section
open Go.RowKit Go.Shelf
attribute [local go_sem] Oper.semAt_some
def Js{α:Type}(kf:α->Int)(vf:α->Addr)(n₀:Nat)(W:World)(sv:Value)(zs:List α):Prop:=
 (sv=.slice none 0 0∧zs=[])∨∃ b off cap,sv=.slice (some ⟨b,off,none⟩) zs.length cap∧b<n₀∧(zs.length<=cap∧cap<=maxLen)∧
  ∀ (i:Nat) (x:α),zs[i]? =some x->W.cell? ⟨b,off+i*2,none⟩=some (Value.int .i64 (kf x))∧W.cell? ⟨b,off+i*2+1,none⟩=some (Value.pointer (some (vf x)))
theorem Js.below{α:Type}{kf:α->Int}{vf:α->Addr}{n₀:Nat}{W':World}{sv:Value}{zs:List α}(h:Js kf vf n₀ W sv zs)(hB:Below n₀ W W'):Js kf vf n₀ W' sv zs:=by
 rcases h with h|⟨b,off,cap,e,hb,RN,hc⟩
 ·exact .inl h
 exact .inr ⟨b,off,cap,e,hb,RN,fun i x hx=>⟨(hB.cell (p:=⟨b,off+i*2,none⟩) hb).trans (hc i x hx).1,(hB.cell (p:=⟨b,off+i*2+1,none⟩) hb).trans (hc i x hx).2⟩⟩
theorem ZU{α:Type}(kf:α->Int)(vf:α->Addr)(zs:List α)(h:w.ownsRow B e 2 v zs.length (eO (zs.map fun x=>((Value.int .i64 (kf x)),(Value.pointer (some (vf x))))))):Js kf vf w.heap.size w v zs:=by
 have h':=h
 rcases h.2 with⟨rfl,h0⟩|⟨q,cap,cur,rfl,hb,hh,mQ,vI,rT,ht⟩
 ·exact .inl ⟨rfl,List.length_eq_zero_iff.1 h0⟩
 refine .inr ⟨q,0,cap,rfl,(Array.getElem?_eq_some_iff.1 hh).1,⟨mQ,vI⟩,fun i x hx=>?_⟩;have hi:=(dL hx).1;have hm:(zs.map fun x=>((Value.int .i64 (kf x)),(Value.pointer (some (vf x)))))[i]? =some ((Value.int .i64 (kf x)),(Value.pointer (some (vf x)))):=by simp [hx]
 have a0:=eY _ i 0 _ hm (by decide);have a1:=eY _ i 1 _ hm (by decide);have c0:=h'.cellAt (i*2) (by omega);have c1:=h'.cellAt (i*2+1) (by omega);exact⟨by rw [Nat.zero_add,c0];exact a0,by rw [Nat.zero_add,c1];exact a1⟩
theorem aAg{α:Type}(F:Fence)(n:Nat)(h7:F.fn 131)(sJ:F.round=none)(l tb g:Nat)(J:List α->World->Prop)(W:World)
 (kb:W.cell? ⟨tb,0,none⟩=some (.pointer (some ⟨g,0,none⟩))) (kg:W.cell? ⟨g,1,none⟩=some (.slice none 0 0)) (h0:J [] W):
 CallsIn F n Tryz.prog 131 #[.func (.yield l) #[] #[],.pointer (some ⟨tb,0,none⟩)] W fun e W'=>(∃ v,e=.returned v)∧J [] W':=by
 refine callsIn_of_wp Tryz.func131 rfl h7 ?_ sJ;simp only [Tryz.ntmps131,List.size_toArray,List.length_cons,List.length_nil,Nat.reduceAdd,Nat.reduceSub,Array.replicate_succ,Array.replicate_zero,List.push_toArray,List.append_toArray,List.nil_append,List.cons_append]
 gi_wp2
 gi_loopw [10] (fun i wr=>i=.int .i64 0∧J [] wr) (fun _ _=>0)
 ·exact⟨rfl,h0⟩
 obtain⟨rfl,Po⟩:=hrel
 gi_wp2
 go_end0
 exact⟨⟨_,rfl⟩,Po⟩
theorem Jt(F:Fence)(n:Nat)(h6:F.fn 96)(sJ:F.round=none)(p:Option Addr)(w:World):
 CallsIn F n Tryz.prog 96 #[.pointer p] w fun e w'=>e=.returned (.func (.func 131) #[] #[.pointer (some ⟨w.heap.size,0,none⟩)])∧w'=w.alloc (.cells #[.pointer p] 126):=by
 refine callsIn_of_wp Tryz.func96 rfl h6 ?_ sJ;simp only [Tryz.ntmps96,List.size_toArray,List.length_cons,List.length_nil,Nat.reduceAdd,Nat.reduceSub,Array.replicate_succ,Array.replicate_zero,List.push_toArray,List.append_toArray,List.nil_append,List.cons_append]
 gi_wp2
 go_ret;exact⟨rfl,rfl⟩
theorem SS{α:Type}(kf:α->Int)(vf:α->Addr)(F:Fence)(n:Nat)(h7:F.fn 131)(sJ:F.round=none)(hn:1<=n)(tb g n₀:Nat)(sv:Value)(zs:List α)(hl:zs.length<=1000000)(w:World)(htb:tb<w.heap.size)(hg:g<n₀)(hn₀:n₀<=w.heap.size)
 (kb:w.cell? ⟨tb,0,none⟩=some (.pointer (some ⟨g,0,none⟩))) (kg:w.cell? ⟨g,1,none⟩=some sv) (hR:Js kf vf n₀ w sv zs):
 SeqStopsK F n Tryz.prog 131 #[.pointer (some ⟨tb,0,none⟩)] (fun x:α=>#[(Value.int .i64 (kf x)),(Value.pointer (some (vf x)))]) (Below n₀) (fun ys=>ys=zs) (fun pre=>pre<+:zs) zs.length w:=fun l J Jx W hW hJ _ hY h0=>by
 have kb':=(hW.cell (p:=⟨tb,0,none⟩) htb).trans kb;have M9:=(hW.cell (p:=⟨g,1,none⟩) (vF hg hn₀)).trans kg
 rcases hR.below (hW.mono hn₀) with⟨rfl,rfl⟩|⟨b,off,cap,rfl,hb,RN,rT⟩
 ·exact(aAg F n h7 sJ l tb g J W kb' M9 h0).mono fun e W' ⟨he,hj⟩=>⟨he,.inl ⟨_,rfl,hj⟩⟩
 exact aDt kf vf F n h7 sJ hn l tb g n₀ b off cap (.pointer none) zs hl RN hb J Jx (fun s W1 W2 hs qB=>hJ s W1 W2 none hs qB (fun r e=>by cases e)) hY W kb' M9 rT (jN hn₀ hW.size) h0
end
open Go.RowKit
theorem iF{W1:World}{s m:Nat}{b:Option Nat}{xs:List Value}(h:W.ownsRow B e s v m xs)(hg:W.grownBy W1 b)(ha:∀ g,b=some g->v.ownBlock≠some g):W1.ownsRow B e s v m xs:=by
 refine h.kept hg ?_
 cases b with
 |none=>
  cases hv:v.ownBlock with
  |none=>exact .inl rfl
  |some k=>right;simp
 |some k=>right;exact ha k rfl
theorem jZ{s m B' e' s' m':Nat}{xs ys:List Value}(h:W.ownsRow B e s v m xs)(h':W.ownsRow B' e' s' u m' ys)(dM:e≠e'):∀ g,u.ownBlock=some g->v.ownBlock≠some g:=by
 intro g hu hv
 rcases h'.2 with⟨rfl,_⟩|⟨g',cap',cur',rfl,_,hh',_⟩
 ·cases hu
 rcases h.2 with⟨rfl,_⟩|⟨g2,aH3,aQp,rfl,_,hh,_⟩
 ·cases hv
 simp only [Value.ownBlock,mV] at hu hv;subst hu;subst hv;rw [hh] at hh';simp only [mV,Obj.cells.injEq] at hh';exact dM hh'.2.1
structure dF (w:World) (B:Nat) (v:Value) (ps:List Zp):Prop where
 outer:w.ownsRow B 42 4 v ps.length (lG ps)
 inner:∀ (i:Nat) (p:Zp),ps[i]? =some p->w.ownsRow B 9 1 p.2 p.1.da.length (p.1.da.map Value.string)
 apart:∀ (i j:Nat) (p q:Zp),ps[i]? =some p->ps[j]? =some q->i≠j->∀ g,p.2.ownBlock=some g->q.2.ownBlock≠some g
theorem dF.nil(w:World)(B:Nat):dF w B (.slice none 0 0) []:=⟨World.ownsRow_nil _ _ _ _,by simp,by simp⟩
theorem dF.below{w':World}(h:dF w B v ps)(hb:Below w.heap.size w w'):dF w' B v ps:=
 ⟨own_below h.outer hb,fun i p hp=>own_below (h.inner i p hp) hb,h.apart⟩
theorem dF.base{B':Nat}(h:dF w B v ps)(hb:B'<=B):dF w B' v ps:=
 ⟨fM h.outer hb,fun i p hp=>fM (h.inner i p hp) hb,h.apart⟩
theorem dF.beside{w':World}{b:Option Nat}(h:dF w B v ps)(hg:w.grownBy w' b)(hv:∀ g,b=some g->v.ownBlock≠some g)(hi:∀ g,b=some g->∀ p∈ps,p.2.ownBlock≠some g):dF w' B v ps:=
 ⟨iF h.outer hg hv,fun i p hp=>iF (h.inner i p hp) hg (fun g e=>hi g e p (dA hp)),h.apart⟩
theorem dF.far{g i:Nat}{y:Value}(h:dF w B v ps)(hg:g<B):dF (w.setCell ⟨g,i,none⟩ y) B v ps:=
 ⟨YI h.outer hg,fun i p hp=>YI (h.inner i p hp) hg,h.apart⟩
theorem qZ{α:Type}{xs:List α}{y x:α}{i:Nat}(hx:(xs++[y])[i]? =some x):(i<xs.length∧xs[i]? =some x)∨(i=xs.length∧x=y):=by
 by_cases hi:i<xs.length
 ·rw [List.getElem?_append_left hi] at hx;exact .inl ⟨hi,hx⟩
 rw [List.getElem?_append_right (by omega)] at hx
 have h0:i-xs.length=0:=by
  rcases Nat.eq_zero_or_pos (i-xs.length) with h|h
  ·exact h
  rw [List.getElem?_eq_none (by simp;omega)] at hx;cases hx
 rw [h0] at hx;simp at hx;exact .inr ⟨by omega,hx.symm⟩
theorem dF.snoc{w2:World}{v':Value}{s:Sz}(h:dF w B v ps)
 (hu:w.ownsRow B 9 1 u s.da.length (s.da.map Value.string)) (ha:∀ p∈ps,∀ g,p.2.ownBlock=some g->u.ownBlock≠some g)
 (ho:w2.ownsRow B 42 4 v' (ps.length+1) (lG ps++YR (s,u))) (hg:w.grownBy w2 v.ownBlock):dF w2 B v' (ps++[(s,u)]):=by
 have e:lG (ps++[(s,u)])=lG ps++YR (s,u):=by simp [lG]
 refine⟨by rw [e];simpa using ho,fun i p hp=>?_,fun i j p q hp hq dM g mD=>?_⟩
 ·rcases qZ hp with⟨_,Gt⟩|⟨_,rfl⟩
  ·have:=h.inner i p Gt;exact iF this hg (jZ this h.outer (by decide))
  exact iF hu hg (jZ hu h.outer (by decide))
 rcases qZ hp with⟨hi,Gt⟩|⟨hi,rfl⟩<;>rcases qZ hq with⟨hj,Vy⟩|⟨hj,rfl⟩
 ·exact h.apart i j p q Gt Vy dM g mD
 ·exact ha p (dA Gt) g mD
 ·intro e;exact ha q (dA Vy) g e mD
 omega
theorem dF.more{w1:World}{g cap:Nat}{u':Value}{s:Sz}{d:ByteArray}(h:dF w B (.slice (some ⟨g,0,none⟩) (ps.length+1) cap) (ps++[(s,u)]))
 (ho:w1.ownsRow B 9 1 u' (s.da.length+1) (s.da.map Value.string++[.string d])) (hg:w.grownBy w1 u.ownBlock) (jH:u'.ownBlock=u.ownBlock∨∀ g,u'.ownBlock=some g->w.heap.size<=g):
 dF (w1.setCell ⟨g,ps.length*4+3,none⟩ u') B (.slice (some ⟨g,0,none⟩) (ps.length+1) cap) (ps++[({s with da:=s.da++[d]},u')]):=by
 have BR:(ps++[(s,u)])[ps.length]? =some (s,u):=by simp
 have hiL:=h.inner _ _ BR
 have o1:w1.ownsRow B 42 4 (.slice (some ⟨g,0,none⟩) (ps.length+1) cap) (ps.length+1) (lG (ps++[(s,u)])):=by
  have:=h.outer;rw [oJ] at this;exact iF this hg (jZ this hiL (by decide))
 have bY:∀ (i:Nat) (p:Zp),ps[i]? =some p->(ps++[(s,u)])[i]? =some p:=fun i p hp=>by rw [List.getElem?_append_left (dL hp).1];exact hp
 have kY:∀ (i:Nat) (p:Zp),ps[i]? =some p->w1.ownsRow B 9 1 p.2 p.1.da.length (p.1.da.map Value.string):=by
  intro i p hp;have nZ:=(dL hp).1;exact iF (h.inner i p (bY i p hp)) hg (fun g' e e'=>h.apart i ps.length p (s,u) (bY i p hp) BR (by omega) g' e' e)
 have aM6:∀ (i:Nat) (p:Zp),ps[i]? =some p->∀ g,p.2.ownBlock=some g->u'.ownBlock≠some g:=by
  intro i p hp g' e e';have nZ:=(dL hp).1
  rcases jH with h1|h1
  ·rw [h1] at e';exact h.apart i ps.length p (s,u) (bY i p hp) BR (by omega) g' e e'
  have h2:=h1 g' e';have h3:=((h.inner i p (bY i p hp)).lt g' e).2;omega
 have e1:(lG (ps++[(s,u)])).set (ps.length*4+3) u'=lG (ps++[({s with da:=s.da++[d]},u')]):=by
  rw [qJ,qJ,List.set_append_right _ _ (by rw [GJ];omega),GJ,show ps.length*4+3-ps.length*4=3 by omega];rfl
 have mI:=o1.stored (ps.length*4+3) u';rw [e1] at mI;have far:∀ {v:Value} {n:Nat} {xs:List Value},w1.ownsRow B 9 1 v n xs->(w1.setCell ⟨g,ps.length*4+3,none⟩ u').ownsRow B 9 1 v n xs:=fun hx=>dY hx (jZ hx o1 (by decide) g rfl)
 refine⟨by simpa using mI.1,fun i p hp=>?_,fun i j p q hp hq dM g' mD=>?_⟩
 ·rcases qZ hp with⟨_,Gt⟩|⟨_,rfl⟩
  ·exact far (kY i p Gt)
  have:=far ho;simpa using this
 rcases qZ hp with⟨hi,Gt⟩|⟨hi,rfl⟩<;>rcases qZ hq with⟨hj,Vy⟩|⟨hj,rfl⟩
 ·exact h.apart i j p q (bY i p Gt) (bY j q Vy) dM g' mD
 ·exact aM6 i p Gt g' mD
 ·intro e;exact aM6 j q Vy g' e mD
 omega
theorem pQ(g:Nat)(a:Option Addr)(n cap:Nat)(w:World)(h:Src w g a n cap):
 Calls Tryz.prog 120 #[.pointer (some ⟨g,0,none⟩)] w fun e w'=>∃ s:ByteArray,e=.returned (.string s)∧s.size<=63∧Src w' g a n cap∧w.grownBy w' (some g):=by
 have OB:=fun(x:Int) (W:World)=>GI x W
 have oG:∀ c:UInt8,(ByteArray.mk #[c]).size=1:=fun _=>rfl
 have oU:(ByteArray.mk #[110,115]).size=2:=rfl;go_enter Tryz.func120,Tryz.ntmps120;go_wp2_with fail
 refine(aW g a n cap 12 _ h (by decide)).mono ?_;rintro e w1 ⟨r,rfl,GU,uG,kK,qB⟩;have wR:=uG (by decide);clear uG h
 rcases(by omega:r=0∨r=1∨r=2∨r=3∨r=4∨r=5∨6<=r) with rfl|rfl|rfl|rfl|rfl|rfl|h6
 ·go_wp2;go_ret;exact⟨_,rfl,by decide,kK,qB⟩
 ·go_wp2_with (first|(go_at_call 18;refine(aW g a n cap 4 _ kK (by decide)).mono ?_;rintro e w2 ⟨q,rfl,IK,uB,wJ,EC⟩;have zT:=uB (by decide);clear uB)|(go_at_call 20;refine(fG g a n cap (1+q) _ wJ (by omega) (by omega)).mono ?_;rintro e w3 ⟨s3,rfl,sO,YX,Iy⟩))
  go_ret;exact⟨_,rfl,by omega,YX,aS (aS qB EC) Iy⟩
 ·go_wp2;go_ret;exact⟨_,rfl,by decide,kK,qB⟩
 ·go_wp2;go_ret;exact⟨_,rfl,by decide,kK,qB⟩
 ·go_wp2;go_ret;exact⟨_,rfl,by decide,kK,qB⟩
 ·go_wp2_with (go_at_call 18;refine(aW g a n cap 3 _ kK (by decide)).mono ?_;rintro e w2 ⟨q,rfl,IK,uB,wJ,EC⟩;have zT:=uB (by decide);clear uB)
  go_ret;exact⟨_,rfl,by rw [kU,oU,oG];decide,aZ wJ ((aJ _ _).alloc (aI _) _),dP (aS qB EC) _⟩
 go_wp2_with (go_at_call 18;refine(aW g a n cap 4 _ kK (by decide)).mono ?_;rintro e w2 ⟨q,rfl,IK,uB,wJ,EC⟩;have zT:=uB (by decide);clear uB)
 go_ret;exact⟨_,rfl,by rw [oG];decide,aZ wJ ((aJ _ _).alloc (aI _) _),dP (aS qB EC) _⟩
theorem put_step{wr w1:World}{v':Value}{n:Nat}{l:List Value}{x:Value}(hB:B<=wr.heap.size)
 (aU:wr.ownsRow B e 1 v n l) (aG:Below B W wr) (o:Obj) (bU:(wr.alloc o).grownBy w1 v.ownBlock)
 (dE:w1.ownsRow B e 1 v' (n+1) (l++[x])):
 w1.ownsRow B e 1 v' (n+1) (l++[x])∧Below B W w1:=by
 refine⟨dE,?_⟩;refine(aG.alloc hB o).grown bU (by simp;omega) ?_;intro k hk;exact(aU.lt k hk).1
