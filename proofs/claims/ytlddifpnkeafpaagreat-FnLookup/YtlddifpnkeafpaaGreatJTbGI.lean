import Derived.Test.YtlddifpnkeafpaaGreatJTrE
import Derived.Laws.AppendOwnNone
import Derived.Test.YtlddifpnkeafpaaGreatJZrI
import Derived.Handy
set_option linter.unusedVariables false
set_option maxRecDepth 100000
set_option maxHeartbeats 1600000
namespace Go.Proofs.YtlddifpnkeafpaaGreat
open Go.RowKit
theorem aIi(g B:Nat)(lK rv key:Value)(rs:List (Value×Value))(cf:Nat->Int)(k:Nat)(p:Value×Value)(w:World)(hg:bW w g #[lK,rv] 193)(h:w.ownsRow B 195 2 rv rs.length (eO rs))(hl:rs.length<=1000000)
 (hf:∀ (tb i:Nat) (p:Value×Value),rs[i]? =some p->∀ W,Below w.heap.size w W->bW W tb #[.pointer (some ⟨g,0,none⟩)] 126->Calls Tryz.prog 177 #[.agg #[p.1,p.2],key,.pointer (some ⟨tb,0,none⟩)] W fun e w'=>e=.returned (.int .i64 (cf i))∧Below W.heap.size W w')
 (hm:∀ a b,a<=b->b<rs.length->cf b<0->cf a<0) (hk:FU rs.length cf k) (hp:rs[k]? =some p) (h0:cf k=0):
 Calls Tryz.prog 114 #[.pointer (some ⟨g,0,none⟩),key] w fun e w'=>e=.returned (.tuple #[p.2,.bool true])∧Below w.heap.size w w':=by
 have nZ:=EB g lK rv key rs cf w hg (dZ.aP h) hl hf hm;have mK:=(dL hp).1;have MI:=eY rs k 1 p hp (by decide);obtain⟨_,a,cap,rfl,gT,kV,hc⟩:=dZ.aP h;obtain⟨b,off,rfl,aH⟩:=hc (by omega);have c1:=aH _ _ MI;have HK:=Nm.aD hk;have H0:=Nm.aD (aV mK h0);unfold maxLen at kV;have n1:=fE k
 have n2:(k:Int)<(rs.length:Int):=by omega
 clear hf hm hk hp h0 h aH hc MI;go_enter Tryz.func114,Tryz.ntmps114;go_wp2_with fail
 refine nZ.mono ?_;rintro e w1 ⟨k',vT,rfl,b1⟩;obtain rfl:=FU.unique HK.out vT;rw [oI H0.out.1,oI H0.out.2];have kg:=aB hg b1;have rg:=aA kg
 have d1:w1.cell? ⟨b,off+k*2+1,none⟩=some p.2:=(b1.cell (fD w _ c1)).trans c1;have tt:(true&&true)=true:=rfl;clear nZ vT c1 H0;go_wp2;go_ret2;exact⟨rfl,b1⟩
theorem aEt(g B:Nat)(lK rv key:Value)(rs:List (Value×Value))(cf:Nat->Int)(k:Nat)(w:World)(hg:bW w g #[lK,rv] 193)(h:w.ownsRow B 195 2 rv rs.length (eO rs))(hl:rs.length<=1000000)
 (hf:∀ (tb i:Nat) (p:Value×Value),rs[i]? =some p->∀ W,Below w.heap.size w W->bW W tb #[.pointer (some ⟨g,0,none⟩)] 126->Calls Tryz.prog 177 #[.agg #[p.1,p.2],key,.pointer (some ⟨tb,0,none⟩)] W fun e w'=>e=.returned (.int .i64 (cf i))∧Below W.heap.size W w')
 (hm:∀ a b,a<=b->b<rs.length->cf b<0->cf a<0) (hk:FU rs.length cf k) (h0:¬(k<rs.length∧cf k=0)):
 Calls Tryz.prog 114 #[.pointer (some ⟨g,0,none⟩),key] w fun e w'=>e=.returned (.tuple #[.pointer none,.bool false])∧Below w.heap.size w w':=by
 have nZ:=EB g lK rv key rs cf w hg (dZ.aP h) hl hf hm;have HK:=Nm.aD hk
 have H0:Hid ((decide (k<rs.length)&&decide (cf k=0))=false):=by
  show _=_
  rw [Bool.and_eq_false_iff]
  by_cases hx:k<rs.length
  ·exact .inr (oF (fun h=>h0 ⟨hx,h⟩))
  exact .inl (oF hx)
 clear hf hm hk h0 h;go_enter Tryz.func114,Tryz.ntmps114;go_wp2_with fail
 refine nZ.mono ?_;rintro e w1 ⟨k',vT,rfl,b1⟩;obtain rfl:=FU.unique HK.out vT;rw [H0.out];clear nZ vT H0;go_wp2;go_ret2;exact⟨rfl,b1⟩
def jX:Nat->List It->List It
 |0,l=>l
 |n+1,l=>if l.length<2 then l else List.merge (jX n (l.take (l.length / 2))) (jX n (l.drop (l.length / 2))) tC
def VI(l:List It):List It:=jX l.length l
variable {B cap g gb gr i k m n rc:Nat}{a:Option Addr}{b l:List It}{c:ByteArray}{ls xs ys:List ByteArray}{v:Value}{w w1 wr:World}{x y:It}
theorem zY(h:l.length<2):jX n l=l:=by
 cases n with
 |zero=>rfl
 |succ n=>rw [jX,if_pos h]
theorem TF(h:¬l.length<2):jX (n+1) l=List.merge (jX n (l.take (l.length / 2))) (jX n (l.drop (l.length / 2))) tC:=by rw [jX,if_neg h]
theorem yK:∀ (n:Nat) (l:List It),(jX n l).Perm l:=by
 intro n
 induction n with
 |zero=>intro l;exact .refl _
 |succ n ih=>
  intro l
  by_cases h:l.length<2
  ·rw [zY h]
  rw [TF h];have h1:(List.merge (jX n (l.take (l.length / 2))) (jX n (l.drop (l.length / 2))) tC).Perm (jX n (l.take (l.length / 2))++jX n (l.drop (l.length / 2))):=List.merge_perm_append _;refine h1.trans ?_;refine((ih _).append (ih _)).trans ?_;rw [List.take_append_drop]
theorem BZ(n:Nat)(l:List It):(jX n l).length=l.length:=(yK n l).length_eq
theorem KN:x∈jX n l↔x∈l:=(yK n l).mem_iff
theorem aAy(l:List It)(h:Nat):fK (l.take h)=(fK l).take (h*8):=by
 induction l generalizing h with
 |nil=>simp [fK]
 |cons x l ih=>
  have e:∀ z zs,fK (z::zs)=FI z++fK zs:=by intro z zs;simp [fK]
  have hl:(FI x).length=8:=rfl
  cases h with
  |zero=>simp [fK]
  |succ h=>
   rw [List.take_succ_cons,e,e,ih,List.take_append,hl,List.take_of_length_le (l:=FI x) (i:=(h+1)*8) (by omega),show(h+1)*8-8=h*8 by omega]
theorem aAz(l:List It)(h:Nat):fK (l.drop h)=(fK l).drop (h*8):=by
 induction l generalizing h with
 |nil=>simp [fK]
 |cons x l ih=>
  have e:∀ z zs,fK (z::zs)=FI z++fK zs:=by intro z zs;simp [fK]
  have hl:(FI x).length=8:=rfl
  cases h with
  |zero=>simp
  |succ h=>
   rw [List.drop_succ_cons,e,ih,List.drop_append,hl,List.drop_of_length_le (l:=FI x) (i:=(h+1)*8) (by omega),show(h+1)*8-8=h*8 by omega,List.nil_append]
theorem aIj{b off h:Nat}(hr:dZ w (.slice (some ⟨b,off,none⟩) n cap) l.length 8 (fK l))(hh:h<=l.length):dZ w (.slice (some ⟨b,off,none⟩) h cap) (l.take h).length 8 (fK (l.take h)):=by
 obtain⟨h0,a,c,e,h1,h2,h3⟩:=hr;simp only [gK] at e;obtain⟨rfl,rfl,rfl⟩:=e;have hl:(l.take h).length=h:=by rw [List.length_take];omega
 rw [hl];refine⟨by rw [Qa,hl],_,_,rfl,by omega,h2,fun hp=>⟨b,off,rfl,fun i x hx=>?_⟩⟩;rw [aAy] at hx;obtain⟨b',off',e,hc⟩:=h3 (by omega);cases e
 refine hc i x ?_;rw [List.getElem?_take] at hx
 split at hx
 ·exact hx
 cases hx
theorem aIk{b off h:Nat}(hr:dZ w (.slice (some ⟨b,off,none⟩) n cap) l.length 8 (fK l))(hh:h<l.length):dZ w (.slice (some ⟨b,off+h*8,none⟩) (l.length-h) (cap-h)) (l.drop h).length 8 (fK (l.drop h)):=by
 obtain⟨h0,a,c,e,h1,h2,h3⟩:=hr;simp only [gK] at e;obtain⟨rfl,rfl,rfl⟩:=e;have hl:(l.drop h).length=l.length-h:=List.length_drop;rw [hl];refine⟨by rw [Qa,hl],_,_,rfl,by omega,by omega,fun hp=>⟨b,off+h*8,rfl,fun i x hx=>?_⟩⟩;rw [aAz,List.getElem?_drop] at hx;obtain⟨b',off',e,hc⟩:=h3 (by omega);cases e
 have:=hc (h*8+i) x hx;rw [Nat.add_assoc];exact this
theorem Yn{a:List It}(hx:a[i]? =some x):List.merge (a.drop i) (b.drop b.length) tC=x::List.merge (a.drop (i+1)) (b.drop b.length) tC:=by
 obtain⟨hi,e⟩:=dL hx;rw [List.drop_length,List.merge_right,List.merge_right,List.drop_eq_getElem_cons hi,e]
theorem aA0{a:List It}(hx:a[i]? =some x)(hy:b[k]? =some y)(h:tC x y=true):List.merge (a.drop i) (b.drop k) tC=x::List.merge (a.drop (i+1)) (b.drop k) tC:=by
 obtain⟨hi,e⟩:=dL hx;obtain⟨hk,e2⟩:=dL hy;rw [List.drop_eq_getElem_cons hi,e,List.drop_eq_getElem_cons hk,e2,List.cons_merge_cons,if_pos h]
theorem aA1{a:List It}(hx:a[i]? =some x)(hy:b[k]? =some y)(h:tC x y=false):List.merge (a.drop i) (b.drop k) tC=y::List.merge (a.drop i) (b.drop (k+1)) tC:=by
 obtain⟨hi,e⟩:=dL hx;obtain⟨hk,e2⟩:=dL hy;rw [List.drop_eq_getElem_cons hi,e,List.drop_eq_getElem_cons hk,e2,List.cons_merge_cons,if_neg (by simp [h])]
theorem Km{a:List It}(hy:b[k]? =some y):List.merge (a.drop a.length) (b.drop k) tC=y::List.merge (a.drop a.length) (b.drop (k+1)) tC:=by
 obtain⟨hk,e⟩:=dL hy;rw [List.drop_length,List.nil_merge,List.nil_merge,List.drop_eq_getElem_cons hk,e]
def oW(t:Int):Bool:=t==0||t==41||(decide (249<=t)&&decide (t<=255))
theorem Yo(t:Int)(w:World):Calls Tryz.prog 162 #[.int .i64 t] w fun e w'=>e=.returned (.bool (oW t))∧w'=w:=by
 by_cases h0:t=0
 ·subst h0;go_enter Tryz.func162,Tryz.ntmps162;go_wp2;go_ret;exact⟨rfl,rfl⟩
 have e0:(t==0)=false:=beq_eq_false_iff_ne.2 h0
 by_cases h1:t=41
 ·subst h1;go_enter Tryz.func162,Tryz.ntmps162;go_wp2;go_ret;exact⟨rfl,rfl⟩
 have e1:(t==41)=false:=beq_eq_false_iff_ne.2 h1
 by_cases h2:249<=t
 ·by_cases h3:t<=255
  ·have HM:Hid (oW t=true):=by show _=_;simp [oW,h2,h3]
   go_enter Tryz.func162,Tryz.ntmps162;go_wp2;go_ret;rw [HM.out];exact⟨rfl,rfl⟩
  have h3':255<t:=by omega
  have HM:Hid (oW t=false):=by show _=_;simp [oW,h0,h1];omega
  go_enter Tryz.func162,Tryz.ntmps162;go_wp2;go_ret;rw [HM.out];exact⟨rfl,rfl⟩
 have Ws:t<249:=by omega
 have HM:Hid (oW t=false):=by show _=_;simp [oW,h0,h1];omega
 go_enter Tryz.func162,Tryz.ntmps162;go_wp2;go_ret;rw [HM.out];exact⟨rfl,rfl⟩
theorem Qz(t:Int)(w:World):Calls Tryz.prog 122 #[.int .i64 t] w fun e w'=>e=.returned (.bool (oW t))∧w'=w:=by
 by_cases h0:t=0
 ·subst h0;go_enter Tryz.func122,Tryz.ntmps122;go_wp2;go_ret;exact⟨rfl,rfl⟩
 have e0:(t==0)=false:=beq_eq_false_iff_ne.2 h0
 by_cases h1:t=41
 ·subst h1;go_enter Tryz.func122,Tryz.ntmps122;go_wp2;go_ret;exact⟨rfl,rfl⟩
 have e1:(t==41)=false:=beq_eq_false_iff_ne.2 h1
 by_cases h2:249<=t
 ·by_cases h3:t<=255
  ·have HM:Hid (oW t=true):=by show _=_;simp [oW,h2,h3]
   go_enter Tryz.func122,Tryz.ntmps122;go_wp2;go_ret;rw [HM.out];exact⟨rfl,rfl⟩
  have h3':255<t:=by omega
  have HM:Hid (oW t=false):=by show _=_;simp [oW,h0,h1];omega
  go_enter Tryz.func122,Tryz.ntmps122;go_wp2;go_ret;rw [HM.out];exact⟨rfl,rfl⟩
 have Ws:t<249:=by omega
 have HM:Hid (oW t=false):=by show _=_;simp [oW,h0,h1];omega
 go_enter Tryz.func122,Tryz.ntmps122;go_wp2;go_ret;rw [HM.out];exact⟨rfl,rfl⟩
def pW(r:Rr)(aL:ByteArray):Int:=
 if(Nm.split r.own).isSome=false then 1 else if r.cl≠1 then 19 else if(decide (0<=r.tt)&&decide (r.tt<=2147483647))=false then 18
 else if oW r.ty=true∨r.ty<0∨65535<r.ty then 6 else if fH r.ty r.da≠0 then 7 else if cZ r.own aL=false then 22 else 0
theorem Yp(r:Rr)(aL:ByteArray)(w:World)(ho:r.own.size<=maxLen)(ha:aL.size<=maxLen):
 Calls Tryz.prog 80 #[.agg #[.string r.own,.int .i64 r.ty,.int .i64 r.cl,.int .i64 r.tt,.string r.da],.string aL] w fun e w'=>e=.returned (.int .i64 (pW r aL))∧Below w.heap.size w w':=by
 have iY:=(aJ w.heap.size w).alloc (aI _) (.cells #[.string r.own,.int .i64 r.ty,.int .i64 r.cl,.int .i64 r.tt,.string r.da] 133);have KO:=RB.new w r 133;have h1:=fun W=>iM r.own W ho
 have h2:=fun W=>Y_ r.tt 2147483647 W
 have h3:=fun W=>Qz r.ty W
 have h4:=fun W=>zV r.ty r.da W
 have h5:=fun W=>iA r.own aL W ho ha
 have MO:=fun(W:World) (hb:Below (w.alloc (.cells #[.string r.own,.int .i64 r.ty,.int .i64 r.cl,.int .i64 r.tt,.string r.da] 133)).heap.size (w.alloc (.cells #[.string r.own,.int .i64 r.ty,.int .i64 r.cl,.int .i64 r.tt,.string r.da] 133)) W)=>(aV (KO.below hb) (Nm.aC iY hb))
 obtain⟨Q,hQ⟩:∃ Q,Q=pW r aL:=⟨_,rfl⟩;rw [<- hQ];unfold pW at hQ;generalize fH r.ty r.da=CC at*;generalize cZ r.own aL=IU at*;generalize (Nm.split r.own).isSome=SO at*;generalize (decide (0<=r.tt)&&decide (r.tt<=2147483647))=TT at*;have hmb:∀ b,oW r.ty=b->True:=fun _ _=>trivial
 generalize oW r.ty=MB at*;clear hmb;obtain⟨o,ty,cl,tt,da⟩:=r;simp only [RB] at*;obtain⟨c0,c1,c2,c3,c4⟩:=KO;cases SO
 ·simp only [if_true] at hQ;subst hQ;clear h2 h3 h4 h5;go_enter Tryz.func80,Tryz.ntmps80;go_wp2_with fail
  refine(h1 _).mono ?_;rintro e w1 ⟨rfl,b1⟩;go_wp2;go_ret;exact⟨rfl,Nm.aC iY b1⟩
 simp only [Bool.true_eq_false,if_false] at hQ
 by_cases sI:cl=1
 ·rw [if_neg (by simpa using sI)] at hQ;subst sI;have ncl:((1:Int) != 1)=false:=rfl;cases TT
  ·simp only [if_true] at hQ;subst hQ;clear h3 h4 h5;go_enter Tryz.func80,Tryz.ntmps80;go_wp2_with fail
   refine(h1 _).mono ?_;rintro e w1 ⟨rfl,b1⟩;obtain⟨⟨d0,d1,d2,d3,d4⟩,e1⟩:=MO w1 b1;clear c0 c1 c2 c3 c4;go_wp2_with fail
   refine(h2 _).mono ?_;rintro e w2 ⟨rfl,rfl⟩;go_wp2;go_ret;exact⟨rfl,e1⟩
  simp only [Bool.true_eq_false,if_false] at hQ
  by_cases hm:MB=true∨ty<0∨65535<ty
  ·rw [if_pos hm] at hQ;subst hQ;clear h4 h5
   cases MB with
   |true=>
    go_enter Tryz.func80,Tryz.ntmps80;go_wp2_with fail
    refine(h1 _).mono ?_;rintro e w1 ⟨rfl,b1⟩;obtain⟨⟨d0,d1,d2,d3,d4⟩,e1⟩:=MO w1 b1;clear c0 c1 c2 c3 c4;go_wp2_with fail
    refine(h2 _).mono ?_;rintro e w2 ⟨rfl,rfl⟩;go_wp2_with fail
    refine(h3 _).mono ?_;rintro e w3 ⟨rfl,rfl⟩;go_wp2;go_ret
    exact⟨rfl,e1⟩
   |false=>
    by_cases NI:ty<0
    ·have n0:decide (ty<0)=true:=oI NI;go_enter Tryz.func80,Tryz.ntmps80;go_wp2_with fail
     refine(h1 _).mono ?_;rintro e w1 ⟨rfl,b1⟩;obtain⟨⟨d0,d1,d2,d3,d4⟩,e1⟩:=MO w1 b1;clear c0 c1 c2 c3 c4;go_wp2_with fail
     refine(h2 _).mono ?_;rintro e w2 ⟨rfl,rfl⟩;go_wp2_with fail
     refine(h3 _).mono ?_;rintro e w3 ⟨rfl,rfl⟩;go_wp2;go_ret;exact⟨rfl,e1⟩
    have ZX:65535<ty:=by
     rcases hm with h|h|h;· cases h
     ·omega
     exact h
    have n0:decide (ty<0)=false:=oF NI;have n1:decide (65535<ty)=true:=oI ZX;go_enter Tryz.func80,Tryz.ntmps80;go_wp2_with fail
    refine(h1 _).mono ?_;rintro e w1 ⟨rfl,b1⟩;obtain⟨⟨d0,d1,d2,d3,d4⟩,e1⟩:=MO w1 b1;clear c0 c1 c2 c3 c4;go_wp2_with fail
    refine(h2 _).mono ?_;rintro e w2 ⟨rfl,rfl⟩;go_wp2_with fail
    refine(h3 _).mono ?_;rintro e w3 ⟨rfl,rfl⟩;go_wp2;go_ret;exact⟨rfl,e1⟩
  rw [if_neg hm] at hQ
  obtain⟨rfl,NI,ZX⟩:MB=false∧0<=ty∧ty<=65535:=by
   refine⟨?_,?_,?_⟩
   ·cases MB with
    |true=>exact absurd (Or.inl rfl) hm
    |false=>rfl
   ·exact Int.not_lt.1 (fun h=>hm (.inr (.inl h)))
   exact Int.not_lt.1 (fun h=>hm (.inr (.inr h)))
  by_cases hc:CC=0
  ·rw [if_neg (by simpa using hc)] at hQ;subst hc;cases IU
   ·simp only [if_true] at hQ;subst hQ;go_enter Tryz.func80,Tryz.ntmps80;go_wp2_with fail
    refine(h1 _).mono ?_;rintro e w1 ⟨rfl,b1⟩;obtain⟨⟨d0,d1,d2,d3,d4⟩,e1⟩:=MO w1 b1;clear c0 c1 c2 c3 c4;go_wp2_with fail
    refine(h2 _).mono ?_;rintro e w2 ⟨rfl,rfl⟩;go_wp2_with fail
    refine(h3 _).mono ?_;rintro e w3 ⟨rfl,rfl⟩;go_wp2_with fail
    refine(h4 _).mono ?_;rintro e w4 ⟨rfl,b4⟩;obtain⟨⟨g0,g1,g2,g3,g4⟩,e4⟩:=MO w4 (Nm.aC b1 b4);clear d0 d1 d2 d3 d4;go_wp2_with fail
    refine(h5 _).mono ?_;rintro e w5 ⟨rfl,b5⟩;go_wp2;go_ret;exact⟨rfl,Nm.aC e4 b5⟩
   simp only [Bool.true_eq_false,if_false] at hQ;subst hQ;go_enter Tryz.func80,Tryz.ntmps80;go_wp2_with fail
   refine(h1 _).mono ?_;rintro e w1 ⟨rfl,b1⟩;obtain⟨⟨d0,d1,d2,d3,d4⟩,e1⟩:=MO w1 b1;clear c0 c1 c2 c3 c4;go_wp2_with fail
   refine(h2 _).mono ?_;rintro e w2 ⟨rfl,rfl⟩;go_wp2_with fail
   refine(h3 _).mono ?_;rintro e w3 ⟨rfl,rfl⟩;go_wp2_with fail
   refine(h4 _).mono ?_;rintro e w4 ⟨rfl,b4⟩;obtain⟨⟨g0,g1,g2,g3,g4⟩,e4⟩:=MO w4 (Nm.aC b1 b4);clear d0 d1 d2 d3 d4;go_wp2_with fail
   refine(h5 _).mono ?_;rintro e w5 ⟨rfl,b5⟩;go_wp2;go_ret;exact⟨rfl,Nm.aC e4 b5⟩
  rw [if_pos (by simpa using hc)] at hQ;subst hQ;have nc:(CC != 0)=true:=by rw [bne_iff_ne];exact hc
  go_enter Tryz.func80,Tryz.ntmps80;go_wp2_with fail
  refine(h1 _).mono ?_;rintro e w1 ⟨rfl,b1⟩;obtain⟨⟨d0,d1,d2,d3,d4⟩,e1⟩:=MO w1 b1;clear c0 c1 c2 c3 c4;go_wp2_with fail
  refine(h2 _).mono ?_;rintro e w2 ⟨rfl,rfl⟩;go_wp2_with fail
  refine(h3 _).mono ?_;rintro e w3 ⟨rfl,rfl⟩;go_wp2_with fail
  refine(h4 _).mono ?_;rintro e w4 ⟨rfl,b4⟩;go_wp2;go_ret;exact⟨rfl,Nm.aC e1 b4⟩
 rw [if_pos (by simpa using sI)] at hQ;subst hQ;have ncl:(cl != 1)=true:=by rw [bne_iff_ne];exact sI
 clear h2 h3 h4 h5;go_enter Tryz.func80,Tryz.ntmps80;go_wp2_with fail
 refine(h1 _).mono ?_;rintro e w1 ⟨rfl,b1⟩;obtain⟨⟨d0,d1,d2,d3,d4⟩,e1⟩:=MO w1 b1;clear c0 c1 c2 c3 c4;go_wp2;go_ret;exact⟨rfl,e1⟩
theorem xO{ad:Addr}(h:Nm.bP w (.slice (some ad) n cap) xs):∀ j u,(xs.map Value.string)[j]? =some u->w.cell? (ad.add j)=some u:=by
 obtain⟨a',cap',e,h1,h2,h3,h4⟩:=h;simp only [gK] at e;obtain⟨rfl,_,rfl⟩:=e;intro j u hj;have dM:xs≠[]:=by intro h;rw [h] at hj;simp at hj
 obtain⟨b,off,e2,hc⟩:=h4 dM;simp only [mV] at e2;subst e2;rw [List.getElem?_map] at hj
 cases hx:xs[j]? with
 |none=>rw [hx] at hj;simp at hj
 |some x=>
  rw [hx] at hj;simp at hj;rw [Nm.addr_add,<- hj];exact hc j x hx
theorem TG(h:Nm.bP w (.slice none n cap) xs):xs=[]∧n=0∧cap=0:=by
 obtain⟨a',cap',e,h1,h2,h3,h4⟩:=h;simp only [gK] at e;obtain⟨rfl,rfl,rfl⟩:=e;have:=h3 rfl;have h0:xs.length=0:=by omega
 exact⟨List.length_eq_zero_iff.1 h0,h0,this⟩
theorem pX(xs:List ByteArray):∀ u∈xs.map Value.string,u.oneCell'=true:=by
 intro u hu;obtain⟨x,_,rfl⟩:=kJ hu;rfl
theorem KP{W:World}{v':Value}{e:Nat}(hB:B<=wr.heap.size)
 (aU:wr.ownsRow B e 1 v n (xs.map Value.string)) (aG:Below B W wr)
 (dE:w1.ownsRow B e 1 v' (n+m) (xs.map Value.string++ys.map Value.string)) (bU:wr.grownBy w1 v.ownBlock):
 w1.ownsRow B e 1 v' (n+m) ((xs++ys).map Value.string)∧Below B W w1:=
 ⟨by rw [List.map_append];exact dE,aG.grown bU hB (fun k hk=>(aU.lt k hk).1)⟩
theorem P8{e:Nat}(h:w1.ownsRow B e 1 v 0 [])(hb:Below B w w1):w1.ownsRow B e 1 v 0 (([]:List ByteArray).map Value.string)∧Below B w w1:=⟨h,hb⟩
theorem Aq(v u:Value)(xs ys:List ByteArray)(w:World)(h:Nm.bP w v xs)(h':Nm.bP w u ys)(hlx:xs.length<=1000000)(hly:ys.length<=1000000):
 Calls Tryz.prog 59 #[v,u] w fun e w'=>∃ t,e=.returned t∧w'.ownsRow w.heap.size 9 1 t (xs++ys).length ((xs++ys).map Value.string)∧Below w.heap.size w w':=by
 obtain⟨i0,hi,iQ,iH,iI⟩:=info_parts Tryz.wM;have hr:=h;have Mw:=h';obtain⟨a,cap,rfl,gT,kV,FC,hc⟩:=h;obtain⟨a',cap',rfl,UY,PM,Jj,AX⟩:=h';clear hc AX FC Jj
 cases a with
 |some ad=>
  cases a' with
  |some ad'=>
   go_enter Tryz.func59,Tryz.ntmps59;go_wp2_with (first|(at_make;refine wpList_make_own _ rfl _ _ 63 rfl w.heap.size 9 i0 (.string ByteArray.empty) 1 Tryz.underlying63 hi iQ iH .i64 .i64 _ (xs.length+ys.length) rfl rfl (by omega) (by rw [iI];omega) (by unfold maxLen;omega) (aI _) ?_;intro w1 xX xY;have fJ:=(aJ w.heap.size w).grown xY (aI _) (fun k hk=>by cases hk);have oG:=fJ.size)|(at_builtin;refine wpList_append_own _ rfl (.tmp 12) (.tmp 13) 63 rfl w.heap.size 9 i0 (.string ByteArray.empty) 1 16 Tryz.underlying63 hi iQ iH iI rfl (by decide) _ _ _ rfl xX ad xs.length cap (xs.map Value.string) rfl (by simp) (xO (hr.below fJ)) (pX _) (by unfold maxLen;omega) (by omega) oG ?_;intro v2 w2 uH GQ PE;clear PE;have R1:=KP (xs:=[]) oG xX fJ uH GQ;clear uH GQ;have oU:=R1.2.size)|(at_builtin;refine wpList_append_own _ rfl (.tmp 15) (.tmp 16) 63 rfl w.heap.size 9 i0 (.string ByteArray.empty) 1 16 Tryz.underlying63 hi iQ iH iI rfl (by decide) _ _ _ rfl R1.1 ad' ys.length cap' (ys.map Value.string) rfl (by simp) (xO (Mw.below R1.2)) (pX _) (by unfold maxLen;omega) (by omega) oU ?_;intro v3 w3 gW Ar aEu;clear aEu;have R3:=KP oU R1.1 R1.2 gW Ar;clear gW Ar))
   go_ret
   exact⟨_,rfl,by simpa using R3.1,R3.2⟩
  |none=>
   obtain⟨rfl,_,rfl⟩:=TG Mw;go_enter Tryz.func59,Tryz.ntmps59;go_wp2_with (first|(at_make;refine wpList_make_own _ rfl _ _ 63 rfl w.heap.size 9 i0 (.string ByteArray.empty) 1 Tryz.underlying63 hi iQ iH .i64 .i64 _ (xs.length) rfl rfl (by omega) (by rw [iI];omega) (by unfold maxLen;omega) (aI _) ?_;intro w1 xX xY;have fJ:=(aJ w.heap.size w).grown xY (aI _) (fun k hk=>by cases hk);have oG:=fJ.size)|(at_builtin;refine wpList_append_own _ rfl (.tmp 12) (.tmp 13) 63 rfl w.heap.size 9 i0 (.string ByteArray.empty) 1 16 Tryz.underlying63 hi iQ iH iI rfl (by decide) _ _ _ rfl xX ad xs.length cap (xs.map Value.string) rfl (by simp) (xO (hr.below fJ)) (pX _) (by unfold maxLen;omega) (by omega) oG ?_;intro v2 w2 uH GQ PE;clear PE;have R1:=KP (xs:=[]) oG xX fJ uH GQ;clear uH GQ;have oU:=R1.2.size)|(at_builtin;refine wpList_append_own_none rfl (.tmp 15) (.tmp 16) 63 rfl w.heap.size 9 i0 1 Tryz.underlying63 hi _ _ _ rfl R1.1 rfl ?_;have R3:=R1))
   go_ret
   exact⟨_,rfl,by simpa using R3.1,R3.2⟩
 |none=>
  obtain⟨rfl,_,rfl⟩:=TG hr
  cases a' with
  |some ad'=>
   go_enter Tryz.func59,Tryz.ntmps59;go_wp2_with (first|(at_make;refine wpList_make_own _ rfl _ _ 63 rfl w.heap.size 9 i0 (.string ByteArray.empty) 1 Tryz.underlying63 hi iQ iH .i64 .i64 _ (ys.length) rfl rfl (by omega) (by rw [iI];omega) (by unfold maxLen;omega) (aI _) ?_;intro w1 xX xY;have fJ:=(aJ w.heap.size w).grown xY (aI _) (fun k hk=>by cases hk);have oG:=fJ.size)|(at_builtin;refine wpList_append_own_none rfl (.tmp 12) (.tmp 13) 63 rfl w.heap.size 9 i0 1 Tryz.underlying63 hi _ _ _ rfl xX rfl ?_;have R1:=P8 xX fJ;have oU:=oG)|(at_builtin;refine wpList_append_own _ rfl (.tmp 15) (.tmp 16) 63 rfl w.heap.size 9 i0 (.string ByteArray.empty) 1 16 Tryz.underlying63 hi iQ iH iI rfl (by decide) _ _ _ rfl R1.1 ad' ys.length cap' (ys.map Value.string) rfl (by simp) (xO (Mw.below R1.2)) (pX _) (by unfold maxLen;omega) (by omega) oU ?_;intro v3 w3 gW Ar aEu;clear aEu;have R3:=KP oU R1.1 R1.2 gW Ar;clear gW Ar))
   go_ret
   exact⟨_,rfl,by simpa using R3.1,R3.2⟩
  |none=>
   obtain⟨rfl,_,rfl⟩:=TG Mw;go_enter Tryz.func59,Tryz.ntmps59;go_wp2_with (first|(at_make;refine wpList_make_own _ rfl _ _ 63 rfl w.heap.size 9 i0 (.string ByteArray.empty) 1 Tryz.underlying63 hi iQ iH .i64 .i64 _ (0) rfl rfl (by omega) (by rw [iI];omega) (by unfold maxLen;omega) (aI _) ?_;intro w1 xX xY;have fJ:=(aJ w.heap.size w).grown xY (aI _) (fun k hk=>by cases hk);have oG:=fJ.size)|(at_builtin;refine wpList_append_own_none rfl (.tmp 12) (.tmp 13) 63 rfl w.heap.size 9 i0 1 Tryz.underlying63 hi _ _ _ rfl xX rfl ?_;have R1:=P8 xX fJ;have oU:=oG)|(at_builtin;refine wpList_append_own_none rfl (.tmp 15) (.tmp 16) 63 rfl w.heap.size 9 i0 1 Tryz.underlying63 hi _ _ _ rfl R1.1 rfl ?_;have R3:=R1))
   go_ret;exact⟨_,rfl,by simpa using R3.1,R3.2⟩
theorem aA2{d:Nat}(h:Nm.bP w (.slice a ls.length cap) ls)(hd:d<=ls.length):Nm.bP w (.slice a d cap) (ls.take d):=by
 obtain⟨a',cap',e,h1,h2,h3,h4⟩:=h;simp only [gK] at e;obtain⟨rfl,_,rfl⟩:=e;have hl:(ls.take d).length=d:=by simp;omega
 refine⟨a,cap,by rw [hl],by omega,h2,h3,fun dM=>?_⟩;obtain⟨b,off,e2,hc⟩:=h4 (by intro h;rw [h] at dM;simp at dM);refine⟨b,off,e2,?_⟩;intro i x hx;refine hc i x ?_;rw [List.getElem?_take] at hx
 split at hx
 ·exact hx
 simp at hx
def zZ(a b c:ByteArray):ByteArray×Int:=
 match Nm.split a,Nm.split b,Nm.split c with
 |some xs,some ys,some zs=>if aQ xs ys=true∧xs.length≠ys.length then lT (xs.take (xs.length-ys.length)++zs) else(ByteArray.empty,22)
 |_,_,_=>(ByteArray.empty,32)
theorem aEv{a b:ByteArray}(h:Nm.split a=none∨Nm.split b=none∨Nm.split c=none):zZ a b c=(ByteArray.empty,32):=by
 unfold zZ;cases ha:Nm.split a<;>cases hb:Nm.split b<;>cases hc:Nm.split c<;>simp_all
theorem aA3{a b:ByteArray}{zs:List ByteArray}(ha:Nm.split a=some xs)(hb:Nm.split b=some ys)(hc:Nm.split c=some zs)(h:¬(aQ xs ys=true∧xs.length≠ys.length)):zZ a b c=(ByteArray.empty,22):=by
 simp only [zZ,ha,hb,hc];rw [if_neg h]
theorem He{a b:ByteArray}{zs:List ByteArray}(ha:Nm.split a=some xs)(hb:Nm.split b=some ys)(hc:Nm.split c=some zs)(h:aQ xs ys=true∧xs.length≠ys.length):zZ a b c=lT (xs.take (xs.length-ys.length)++zs):=by
 simp only [zZ,ha,hb,hc];rw [if_pos h]
theorem aA4(h:(lT ls).2=0):lT ls=(⟨(Nm.joinL ls).toArray⟩,0)∧Nm.cK ls<=254:=by
 by_cases h1:127<ls.length
 ·rw [SG h1] at h;simp at h
 by_cases h2:ls.any BN=true
 ·rw [Pj (by omega) h2] at h;simp at h
 have Ws:ls.any BN=false:=by simpa using h2
 by_cases h3:255<1+Nm.cK ls
 ·rw [SH (by omega) Ws h3] at h;simp at h
 exact⟨SI (by omega) Ws h3,by omega⟩
theorem dF.AU{ps:List Zp}(h:dF w B v ps):gG w v ps:=
 ⟨dZ.aP h.outer,fun p hp=>by obtain⟨i,hi⟩:=List.getElem?_of_mem hp;exact Nm.bP.aP (h.inner i p hi)⟩
theorem TH(s:ByteArray)(n:Int)(w:World)(hs:s.size<=maxLen):
 Calls Tryz.prog 89 #[.string s,.int .i64 n] w fun e w'=>e=.returned (.tuple #[.string (WC s n).1,.int .i64 (WC s n).2])∧Below w.heap.size w w':=by
 have lC:=gL s w hs
 cases hq:Nm.split s with
 |none=>
  have HA:Hid (WC s n=(ByteArray.empty,32)):=by show _=_;simp [WC,hq]
  rw [hq] at lC;clear hq;go_enter Tryz.func89,Tryz.ntmps89;go_wp2_with fail
  refine lC.mono ?_;rintro e w1 ⟨v,rfl,aU,aG⟩;go_wp2;go_ret2;rw [HA.out]
  exact⟨rfl,aG⟩
 |some ls=>
  have hz:=Nm.dK hq;rw [hq] at lC
  by_cases hr:0<=n∧n<=ls.length
  ·have HA:Hid (WC s n=(⟨(Nm.joinL (ls.drop n.toNat)).toArray⟩,0)):=by show _=_;simp [WC,hq,hr]
   clear hq;obtain⟨h0,h1⟩:=hr;obtain⟨k,rfl⟩:=Int.eq_ofNat_of_zero_le h0;go_enter Tryz.func89,Tryz.ntmps89;go_wp2_with fail
   refine lC.mono ?_;rintro e w1 ⟨v,rfl,aU,aG⟩;have dI:=Nm.bP.aP aU;obtain⟨a,cap,rfl,gT,kV,FC,hc⟩:=dI;simp only [Option.getD_some] at aU;have EN:=fun e:cap=k=>(Nm.bP.aP aU).AY e
   have XB:=(Nm.bP.aP aU).drop (k:=k) (by omega);have hwd:=Nm.pG ls k;have hkd:decide ((k:Int)<0)=false:=by simp
   clear aU hc
   by_cases SQ:cap=k
   ·have hd:=EN SQ;clear EN XB;subst SQ;go_wp2_with fail
    refine(bV _ (ls.drop cap) _ hd (by omega)).mono ?_;rintro e w2 ⟨rfl,gX⟩;go_wp2;go_ret2;rw [HA.out];exact⟨rfl,Nm.aC aG gX⟩
   clear EN;go_wp2_with fail
   refine(bV _ (ls.drop k) _ XB (by omega)).mono ?_;rintro e w2 ⟨rfl,gX⟩;go_wp2;go_ret2;rw [HA.out];exact⟨rfl,Nm.aC aG gX⟩
  have HA:Hid (WC s n=(ByteArray.empty,32)):=by show _=_;simp only [WC,hq];rw [if_neg hr]
  clear hq;go_enter Tryz.func89,Tryz.ntmps89;go_wp2_with fail
  refine lC.mono ?_;rintro e w1 ⟨v,rfl,aU,aG⟩;obtain⟨a,cap,rfl,gT,kV,FC,hc⟩:=Nm.bP.aP aU;simp only [Option.getD_some] at aU gT hc
  by_cases h0:n<0
  ·have hd:decide (n<0)=true:=by simp [h0]
   go_wp2;go_ret2;rw [HA.out];exact⟨rfl,aG⟩
  have hd:decide (n<0)=false:=by simp;omega
  have hgt:(ls.length:Int)<n:=by omega
  go_wp2;go_ret2;rw [HA.out];exact⟨rfl,aG⟩
theorem TI(v:Value)(ls:List ByteArray)(w:World)(h:Nm.bP w v ls):
 Calls Tryz.prog 93 #[v] w fun e w'=>e=.returned (.tuple #[.string (lT ls).1,.int .i64 (lT ls).2])∧Below w.heap.size w w':=by
 have Ra:=fun hq=>bV v ls w h hq
 obtain⟨a,cap,rfl,gT,kV,FC,hc⟩:=h;unfold maxLen at kV
 by_cases hm:127<ls.length
 ·have HM:Hid (lT ls=(ByteArray.empty,3)):=SG hm;have hm':(127:Int)<(ls.length:Int):=by omega
  clear Ra;go_enter Tryz.func93,Tryz.ntmps93;go_wp2;go_ret2;rw [HM.out];exact⟨rfl,aJ _ _⟩
 have hm':(ls.length:Int)<=127:=by omega
 go_enter Tryz.func93,Tryz.ntmps93;go_wp2
 go_loop [4] (fun i=>∃ k:Nat,k<=ls.length∧i=.int .i64 k∧Hid ((ls.take k).any BN=false)) (fun i=>ls.length-(intOf i).toNat)
 ·exact⟨0,dR _,rfl,by show _=_;simp⟩
 obtain⟨k,hk,rfl,HG⟩:=hrel
 by_cases bY:k<ls.length
 ·obtain⟨x,hx⟩:=gQ bY;obtain⟨b,off,rfl,aH⟩:=hc (by intro h;rw [h] at bY;simp at bY);have vS:=aH k x hx
  by_cases hb:x.size<1∨63<x.size
  ·have HM:Hid (lT ls=(ByteArray.empty,2)):=Pj (by omega) (aH0 hx hb);clear hx aH hc Ra
   by_cases fJ:x.size<1
   ·have h1:decide ((x.size:Int)<1)=true:=by simp;omega
    clear hb;go_wp2;go_ret2;rw [HM.out];exact⟨rfl,aJ _ _⟩
   have h1:decide ((x.size:Int)<1)=false:=by simp;omega
   have h2:decide ((63:Int)<(x.size:Int))=true:=by simp;omega
   clear hb;go_wp2;go_ret2;rw [HM.out];exact⟨rfl,aJ _ _⟩
  have HN:Hid ((ls.take (k+1)).any BN=false):=aDm hx HG.out hb;have h1:decide ((x.size:Int)<1)=false:=by simp;omega
  have h2:decide ((63:Int)<(x.size:Int))=false:=by simp;omega
  clear hx aH hc Ra hb;go_wp2
  go_round
  ·exact⟨k+1,by omega,by go_num,HN⟩
  simp [intOf];omega
 have mK:k=ls.length:=by omega
 subst mK;rw [List.take_length] at HG;have Xd:=Z8 ls HG.out;have Hj:=Ra (by omega);have NG:=Nm.mW ls;have UZ:(ByteArray.mk (Nm.joinL ls).toArray).size=1+Nm.cK ls:=by rw [<- Gf];simp [NG];omega
 generalize hr:ByteArray.mk (Nm.joinL ls).toArray=r at*;clear Ra hc
 by_cases hl:255<1+Nm.cK ls
 ·have HM:Hid (lT ls=(ByteArray.empty,3)):=SH (by omega) HG.out hl;have hd:decide ((255:Int)<(r.size:Int))=true:=by simp;omega
  clear UZ hr;go_wp2_with fail
  refine Hj.mono ?_;rintro e w2 ⟨rfl,gX⟩;go_wp2;go_ret2;rw [HM.out];exact⟨rfl,gX⟩
 have HM:Hid (lT ls=(r,0)):=by show _=_;rw [<- hr];exact SI (by omega) HG.out hl
 have hd:decide ((255:Int)<(r.size:Int))=false:=by simp;omega
 clear UZ hr;go_wp2_with fail
 refine Hj.mono ?_;rintro e w2 ⟨rfl,gX⟩;go_wp2;go_ret2;rw [HM.out];exact⟨rfl,gX⟩
def rH(w:World)(a:Option Addr)(n:Nat):Prop:=
 n=0∨∃ b off,a=some ⟨b,off,none⟩∧∀ i,i<n->∃ c:Int,w.cell? ⟨b,off+i,none⟩=some (.int .u8 c)∧0<=c∧c<256
def Beg(w wr:World)(a:Option Addr)(n cap:Nat)(st:Int):Prop:=
 wr.heap[w.heap.size]? =some (.cells #[.slice none 0 0,.int .i64 0,.int .u64 0] 53 (0,0))∧
 wr.heap[w.heap.size+1]? =some (.cells #[.slice a n cap,.int .i64 0,.int .u64 st] 53 (0,0))∧Below w.heap.size w wr
theorem aIl{st:Int}(h:Beg w wr a n cap st)(s2:Int):Beg w (wr.setCell ⟨w.heap.size+1,2,none⟩ (.int .u64 s2)) a n cap s2:=by
 obtain⟨h1,h2,h3⟩:=h;refine⟨?_,?_,h3.setCell (by simp) _⟩
 ·rw [heap_setCell_other wr ⟨w.heap.size+1,2,none⟩ w.heap.size _ (by simp)];exact h1
 rw [heap_setCell_same wr (w.heap.size+1) 2 _ _ _ h2];rfl
theorem aEw{st:Int}(h:Beg w wr a n cap st):Beg w wr.drew a n cap st:=⟨h.1,h.2.1,h.2.2.drew⟩
theorem MP(a:Option Addr)(n cap:Nat)(w:World)(h:rH w a n)(hn:n<=1048577):
 Calls Tryz.prog 32 #[.slice a n cap] w fun e w'=>∃ st:Int,e=.returned (.agg #[.slice a n cap,.int .i64 0,.int .u64 st])∧Below w.heap.size w w':=by
 go_enter Tryz.func32,Tryz.ntmps32;go_wp2
 go_loopw [4] (fun i wr=>∃ (k:Nat) (st:Int),k<=n∧i=.int .i64 k∧Beg w wr a n cap st) (fun i _=>n-(intOf i).toNat)
 case atStart=>
  refine⟨0,1469598103934665603,dR _,rfl,?_,?_,((aJ _ _).alloc (aI _) _).alloc (by simp) _⟩
  ·exact((MapKept.heap_alloc (w.alloc _) _).2 _ (by simp)).trans (heap_alloc_new w _)
  have:=heap_alloc_new (w.alloc (.cells #[.slice none 0 0,.int .i64 0,.int .u64 0] 53 (0,0))) (.cells #[.slice a n cap,.int .i64 0,.int .u64 1469598103934665603] 53 (0,0));rw [jO] at this;exact this
 obtain⟨k,st,hk,rfl,aK5⟩:=hrel;have HB:=fun s2=>Nm.aD (aIl aK5 s2)
 have HB0:=Nm.aD aK5.2.2;obtain⟨XT,fJ,aG⟩:=aK5;have c0:=cell_of_row wr (w.heap.size+1) 0 _ _ _ fJ;have c1:=cell_of_row wr (w.heap.size+1) 1 _ _ _ fJ;have c2:=cell_of_row wr (w.heap.size+1) 2 _ _ _ fJ;have f2:=frozen_of_row wr (w.heap.size+1) 2 _ _ fJ;have e0:=cell_of_row wr w.heap.size 0 _ _ _ XT;have e1:=cell_of_row wr w.heap.size 1 _ _ _ XT;have e2:=cell_of_row wr w.heap.size 2 _ _ _ XT;have g0:=frozen_of_row wr w.heap.size 0 _ _ XT;have g1:=frozen_of_row wr w.heap.size 1 _ _ XT;have g2:=frozen_of_row wr w.heap.size 2 _ _ XT;simp at c0 c1 c2 e0 e1 e2
 by_cases bY:k<n
 ·obtain⟨b,off,rfl,gJ⟩:=h.resolve_left (by omega);obtain⟨c,hc,PG,mQ⟩:=gJ k bY;have X9:=fD w _ hc;have hcr:=(aG.cell X9).trans hc;clear XT fJ aG gJ hc h;go_wp2;go_region
  go_wp2;go_roundw
  ·exact⟨k+1,_,by omega,by go_num,aEw (HB _).out⟩
  simp [intOf];omega
 have FE:k=n:=by omega
 subst FE;clear XT fJ aG h;have r0:=fun v=>World.cell?_setCell_same wr ⟨w.heap.size,0,none⟩ v e0
 have r1:=fun u v=>World.cell?_setCell_same (wr.setCell ⟨w.heap.size,0,none⟩ u) ⟨w.heap.size,1,none⟩ v ((World.cell?_setCell_other wr ⟨w.heap.size,0,none⟩ ⟨w.heap.size,1,none⟩ u (by simp)).trans e1)
 have r2:=fun t u v=>World.cell?_setCell_same ((wr.setCell ⟨w.heap.size,0,none⟩ t).setCell ⟨w.heap.size,1,none⟩ u) ⟨w.heap.size,2,none⟩ v ((World.cell?_setCell_other _ ⟨w.heap.size,1,none⟩ ⟨w.heap.size,2,none⟩ u (by simp)).trans ((World.cell?_setCell_other wr ⟨w.heap.size,0,none⟩ ⟨w.heap.size,2,none⟩ t (by simp)).trans e2))
 go_wp2;refine eB (v:=.agg #[.slice a k cap,.int .i64 0,.int .u64 st]) ?_ rfl ⟨st,rfl,((HB0.out.setCell (aI _) _).setCell (aI _) _).setCell (aI _) _⟩;simp [results,Tryz.results32,go_sem,r0,r1,r2,Result.andThen]
theorem Kn(a:Option Addr)(n cap:Nat)(w:World)(h:rH w a n)(hn:n<=1048576):
 Calls Tryz.prog 32 #[.slice a n cap] w fun e w'=>∃ st:Int,e=.returned (.agg #[.slice a n cap,.int .i64 0,.int .u64 st])∧Below w.heap.size w w':=MP a n cap w h (by omega)
theorem yL(h:rH w a n)(hb:Below w.heap.size w w1):rH w1 a n:=by
 rcases h with h|⟨b,off,e,hc⟩
 ·exact .inl h
 refine .inr ⟨b,off,e,fun j hj=>?_⟩;obtain⟨c,mQ,vI⟩:=hc j hj;exact⟨c,(hb.cell (fD w _ mQ)).trans mQ,vI⟩
theorem aIm(h:rH w a n)(hb:Below w.heap.size w w1):qX w1 w.heap.size a n:=by
 rcases h with h|⟨b,off,e,hc⟩
 ·exact .inl h
 rcases Nat.eq_zero_or_pos n with hn|hn
 ·exact .inl hn
 refine .inr ⟨b,off,e,?_,fun j hj=>?_⟩
 ·obtain⟨c,mQ,_⟩:=hc 0 hn;have:b<w.heap.size:=fD w _ mQ;omega
 obtain⟨c,mQ,vI⟩:=hc j hj;exact⟨c,(hb.cell (fD w _ mQ)).trans mQ,vI⟩
theorem Hf(h:rH w a n)(hn:n<=1048577)(st:Int):
 Src (w.alloc (.cells #[.slice a n cap,.int .i64 0,.int .u64 st] 53 (0,0))) w.heap.size a n cap:=
 ⟨0,st,heap_alloc_new w _,Int.le_refl _,Int.natCast_nonneg _,hn,aIm h ((aJ _ _).alloc (aI _) _)⟩
theorem aEx(h:rH w a n)(hn:n<=1048576)(st:Int):
 Src (w.alloc (.cells #[.slice a n cap,.int .i64 0,.int .u64 st] 53 (0,0))) w.heap.size a n cap:=Hf h (by omega) st
def InC(w wr:World)(g:Nat)(a:Option Addr)(n cap gr m rc:Nat)(ls:List ByteArray)(gb:Nat)(l:List UInt8):Prop:=
 wr.ownsRow w.heap.size 9 1 (.slice (some ⟨gr,0,none⟩) m rc) m (ls.map Value.string)∧Src wr g a n cap∧w.grownBy wr (some g)∧IC wr gb l∧gr≠gb∧w.heap.size<=gb
theorem Ko(h:qX w g a n)(hb:w.heap.size<=gb):n=0∨∀ b off,a=some ⟨b,off,none⟩->b≠gb:=by
 rcases Nat.eq_zero_or_pos n with hn|hn
 ·exact .inl hn
 refine .inr fun b off e=>?_
 rcases h with h0|⟨b',off',e',_,hc⟩
 ·omega
 rw [e] at e';simp only [mV,Addr.mk.injEq,and_true] at e';obtain⟨rfl,rfl⟩:=e';obtain⟨c,mQ,_⟩:=hc 0 (by omega);have:b<w.heap.size:=fD w _ mQ;omega
theorem aEy{l:List UInt8}(hg:g<w.heap.size)(h:InC w wr g a n cap gr m rc ls gb l)(hs:Src w1 g a n cap)(qB:wr.grownBy w1 (some g)):InC w w1 g a n cap gr m rc ls gb l:=by
 obtain⟨h1,h2,h3,h4,h5,h6⟩:=h;exact⟨h1.kept qB (lW h1 h2 (by decide)),hs,aS h3 qB,EE h4 qB (by omega),h5,h6⟩
theorem aIn{l:List UInt8}(hg:g<w.heap.size)(gJ:qX w g a n)(h:InC w wr g a n cap gr m rc ls gb l)(hk:k<l.length)(z:Int)(iQ:0<=z)(iH:z<256):
 ∃ l',l'.length=l.length∧InC w (wr.setCell ⟨gb,k,none⟩ (.int .u8 z)) g a n cap gr m rc ls gb l':=by
 obtain⟨h1,h2,h3,h4,h5,h6⟩:=h;obtain⟨d,rfl⟩:=zO iQ iH;refine⟨l.set k d,by simp,h1.kept (row:=some gb) ⟨rfl,rfl,rfl,by simp,fun q _ hq=>heap_setCell_other wr ⟨gb,k,none⟩ q _ (fun e=>hq (by simp [e]))⟩ (.inr (by simpa [Value.ownBlock] using h5)),tH h2 (by omega) (Ko gJ h6),BV h3 h6,h4.set hk,h5,h6⟩
theorem Rc{x y:ByteArray}(h:ls[k]? =some x)(he:y.size=x.size):Nm.cK (ls.set k y)=Nm.cK ls:=by
 have hk:k<ls.length:=(dL h).1;have hx:ls[k]=x:=(dL h).2
 have e1:ls=ls.take k++(x::ls.drop (k+1)):=by
  rw [<- hx,<- List.drop_eq_getElem_cons hk,List.take_append_drop]
 have e2:ls.set k y=ls.take k++(y::ls.drop (k+1)):=by
  rw [List.set_eq_take_append_cons_drop,if_pos hk]
 rw [e2,Nm.mP]
 conv=>rhs;rw [e1,Nm.mP]
 simp [Nm.cK,he]
theorem Yq{l:List UInt8}(hg:g<w.heap.size)(gJ:qX w g a n)(h:InC w wr g a n cap gr m rc ls gb l)(hw:w.heap.size<=gr)(y:ByteArray):
 (wr.setCell ⟨gr,k,none⟩ (.string y)).ownsRow w.heap.size 9 1 (.slice (some ⟨gr,0,none⟩) m rc) m ((ls.set k y).map Value.string)∧Src (wr.setCell ⟨gr,k,none⟩ (.string y)) g a n cap∧w.grownBy (wr.setCell ⟨gr,k,none⟩ (.string y)) (some g):=by
 obtain⟨h1,h2,h3,h4,h5,h6⟩:=h;refine⟨?_,tH h2 (by omega) (Ko gJ hw),BV h3 hw⟩;have:=(h1.stored k (.string y)).1;rw [List.map_set];exact this
theorem aA5{W:World}{l:List UInt8}(h1:wr.ownsRow w.heap.size 9 1 (.slice (some ⟨gr,0,none⟩) m rc) m (ls.map Value.string))(h2:Src wr g a n cap)(h3:w.grownBy wr (some g))(hb:Below wr.heap.size wr W)(hr:IC W wr.heap.size l):
 InC w W g a n cap gr m rc ls wr.heap.size l:=by
 have bY:=h1.lt gr rfl;exact⟨h1.kept (row:=none) ⟨hb.os,hb.tape,hb.output,hb.size,fun k hk _=>hb.block k hk⟩ (.inr (by simp [Value.ownBlock])),aZ h2 hb,bJ h3 hb,hr,by omega,h3.size⟩
theorem IX(g:Nat)(a:Option Addr)(n cap:Nat)(nm:ByteArray)(w:World)(h:Src w g a n cap)(hz:nm.size<=maxLen):
 Calls Tryz.prog 79 #[.pointer (some ⟨g,0,none⟩),.string nm] w fun e w'=>∃ s:ByteArray,e=.returned (.string s)∧s.size<=255∧Src w' g a n cap∧w.grownBy w' (some g):=by
 obtain⟨gJ,zD⟩:=qK h;have lC:=gL nm w hz
 have Xd:Nm.cK ((Nm.split nm).getD [])<=254:=by
  cases hq:Nm.split nm with
  |none=>simp [Nm.cK]
  |some ls=>have:=Nm.dK hq;simp;omega
 generalize (Nm.split nm).getD []=ls at*;generalize (Nm.split nm).isSome=ok at*;go_enter Tryz.func79,Tryz.ntmps79;go_wp2_with fail
 refine lC.mono ?_;rintro e w1 ⟨v,rfl,aU,aG⟩;have oG:=aZ h aG;have mD:=bJ (World.grownBy.refl w (some g)) aG;clear lC h aG
 by_cases hn:ls=[]
 ·subst hn;have hr:=Nm.bP.aP (ls:=[]) aU;have Mw:=hr;obtain⟨ra,rcap,rfl,gT,kV,FC,hc⟩:=Mw;clear aU hc FC;go_wp2
  go_loop [7] (fun i=>i=.int .i64 0) (fun _=>0)
  ·rfl
  subst hrel;go_wp2_with (go_at_call 19;refine(bV _ [] _ hr (by simp [Nm.cK])).mono ?_;rintro e w2 ⟨rfl,gX⟩)
  go_ret;exact⟨_,rfl,by rw [iL];simp [Nm.cK],aZ oG gX,bJ mD gX⟩
 have hlp:0<ls.length:=List.length_pos_iff.2 hn
 obtain⟨gr,rc,cur,rfl,hg⟩:∃ g cap cur,v=.slice (some ⟨g,0,none⟩) ls.length cap∧w.heap.size<=g∧ls.length<=cap∧cap<=maxLen∧w1.heap[g]? =some (.cells cur 9 (0,0)):=by
  rcases aU.2 with⟨rfl,h0⟩|⟨g,cap,cur,rfl,hb,hg,Nh,hm,_⟩
  ·omega
  exact⟨g,cap,cur,rfl,hb,Nh,hm,hg⟩
 obtain⟨hwg,Nh,hm,_⟩:=hg;unfold maxLen at hm;generalize hm0:ls.length=m at*;go_wp2
 go_loopw [7] (fun i wr=>∃ (k:Nat) (ls2:List ByteArray),k<=m∧i=.int .i64 k∧ls2.length=m∧Nm.cK ls2<=254∧wr.ownsRow w.heap.size 9 1 (.slice (some ⟨gr,0,none⟩) m rc) m (ls2.map Value.string)∧Src wr g a n cap∧w.grownBy wr (some g))
  (fun i _=>m-(intOf i).toNat)
 ·exact⟨0,ls,dR _,rfl,hm0,Xd,aU,oG,mD⟩
 obtain⟨k,ls2,hk,rfl,BA,hw2,dO,oU,mM⟩:=hrel;clear aU oG mD Xd hm0 hn
 by_cases bY:k<m
 ·obtain⟨x,hx⟩:∃ x,ls2[k]? =some x:=⟨_,gF (by omega)⟩
  have X8:x.size<=254:=by
   have:=Rc (y:=x) hx rfl;have h1:=Nm.JY hx;have h2:=Nm.jT ls2 (k+1);omega
  have vS:wr.cell? ⟨gr,k,none⟩=some (.string x):=by
   rw [dO.cellAt k (by omega)];simp [hx]
  obtain⟨cp,W,RN,aEe,Jw,dI,WE⟩:=SF x wr;have aEf:=aEe (by unfold maxLen;omega);unfold maxLen at aEf;have aNi:=aA5 dO oU mM WE dI;have DN:x.data.toList.length=x.size:=by simp
  clear aEe dI WE dO oU mM;go_wp2
  go_loopw [9] (fun i w2=>∃ (j:Nat) (l:List UInt8),j<=x.size∧i=.int .i64 j∧l.length=x.size∧InC w w2 g a n cap gr m rc ls2 wr.heap.size l)
   (fun i _=>x.size-(intOf i).toNat)
  ·exact⟨0,_,dR _,rfl,DN,aNi⟩
  rename World=>w2
  obtain⟨j,l,hj,rfl,YQ,kY⟩:=hrel;clear aNi Jw vS
  by_cases hjt:j<x.size
  ·obtain⟨c,hc⟩:∃ c,l[j]? =some c:=⟨_,gF (by omega)⟩;obtain⟨Pd,XF⟩:=kY.2.2.2.1 j c hc;have hc255:(c.toNat:Int)<256:=by have:=c.toNat_lt;omega
   by_cases h97:97<=c.toNat
   ·by_cases aQ4:c.toNat<=122
    ·have d1:decide ((97:Int)<=(c.toNat:Int))=true:=by simp;omega
     have d2:decide ((c.toNat:Int)<=122)=true:=by simp;omega
     have d3:(97:Int)<=(c.toNat:Int):=by omega
     have d4:(c.toNat:Int)<=122:=by omega
     clear h97 aQ4;go_wp2_with fail
     refine(aW g a n cap 3 _ kY.2.1 (by decide)).mono ?_;rintro e w3 ⟨r,rfl,GU,uG,sO,iZ⟩;have aIo:=aEy zD kY sO iZ;obtain⟨aQ5,aQ6⟩:=aIo.2.2.2.1 j c hc;clear Pd XF uG sO iZ
     by_cases hr:r=0
     ·subst hr;obtain⟨l',J6,aNj⟩:=aIn zD gJ aIo (k:=j) (by omega) ((c.toNat:Int)-32) (by omega) (by omega);have HI:=Nm.aD aNj;clear aNj aIo kY hc;go_wp2;go_roundw
      ·exact⟨j+1,l',by omega,by go_num,by omega,HI.out⟩
      simp [intOf];omega
     have Mw:(r==0)=false:=beq_eq_false_iff_ne.2 hr
     clear aQ5 aQ6;go_wp2;go_roundw
     ·exact⟨j+1,l,by omega,by go_num,YQ,aIo⟩
     simp [intOf];omega
    have d1:decide ((97:Int)<=(c.toNat:Int))=true:=by simp;omega
    have d2:decide ((c.toNat:Int)<=122)=false:=by simp;omega
    have d3:(97:Int)<=(c.toNat:Int):=by omega
    have d4:(122:Int)<(c.toNat:Int):=by omega
    go_wp2;go_roundw
    ·exact⟨j+1,l,by omega,by go_num,YQ,kY⟩
    simp [intOf];omega
   have d1:decide ((97:Int)<=(c.toNat:Int))=false:=by simp;omega
   have d3:(c.toNat:Int)<97:=by omega
   go_wp2;go_roundw
   ·exact⟨j+1,l,by omega,by go_num,YQ,kY⟩
   simp [intOf];omega
  have hje:j=x.size:=by omega
  subst hje;have OB:=BU (cap:=cp) (k:=x.size) kY.2.2.2.1 (by omega);have hys:=DV (l.take x.size);generalize ByteArray.mk (l.take x.size).toArray=y at*;have Xa:y.size=x.size:=by rw [hys,List.length_take];omega
  have hcr:w2.cell? ⟨gr,k,none⟩=some (.string x):=by
   rw [kY.1.cellAt k (by omega)];simp [hx]
  have Xi:=kY.1.frozenAt k;have HI:=Nm.aD (Yq (k:=k) zD gJ kY hwg y);have hwy:=Rc hx Xa;clear kY hys hjt;go_wp2;go_roundw
  ·exact⟨k+1,_,by omega,by go_num,by simpa using BA,by omega,HI.out.1,HI.out.2.1,HI.out.2.2⟩
  simp [intOf];omega
 have mK:k=m:=by omega
 subst mK;go_wp2_with (go_at_call 19;refine(bV _ ls2 _ (Nm.bP.aP (by rw [BA];exact dO)) (by omega)).mono ?_;rintro e w3 ⟨rfl,SX⟩)
 go_ret;exact⟨_,rfl,by rw [iL];omega,aZ oU SX,bJ mM SX⟩
theorem PZ{P:Program}(w:World)(base:Nat)(t ty e:TypeId)(i:TypeInfo)(z:Value)(size bytes:Nat)(ht:P.underlying t=some (.slice e))(hi:P.info? e=some i)(hz:i.zero=some z)
 (UZ:i.size=size) (hby:i.bytes=bytes) (uO:z.cells.size=size) (qA:0<size)
 (v:Value) (n:Nat) (xs:List Value) (hn0:0<n) (aU:w.ownsRow base e size v n xs)
 (a:Addr) (m c:Nat) (news:List Value) (hl:news.length=m*size) (Gq:∀ j u,news[j]? =some u->w.cell? (a.add j)=some u) (h1:∀ u∈news,u.oneCell'=true)
 (h63:n+m<=maxLen) (ZM:(n+m)*bytes<=140737488355328) (Pi:base<=w.heap.size):
 ∃ v' w',(Builtin.append_ #[t,t] ty #[v,.slice (some a) m c]).run P w=.ok v' w'∧w'.ownsRow base e size v' (n+m) (xs++news)∧w'.ownsRow base e size v n xs∧w.grownBy w' v.ownBlock:=by
 subst UZ;subst hby;have hlen:(xs++news).length=(n+m)*i.size:=by rw [oJ,aU.1,hl,Nat.add_mul]
 rcases aU.2 with⟨rfl,rfl⟩|⟨g,cap,cur,rfl,Dj,hg,Nh,oN,rT,aJ6⟩
 ·omega
 by_cases zR:n+m<=cap
 ·have Ip:n*i.size+news.length<=cur.size:=by rw [hl,rT,<- Nat.add_mul];exact Nat.mul_le_mul_right _ zR
  have hr:=run_append_room (P:=P) w t ty e i ht hi g n cap cur hg a m c news hl Gq h1 zR Ip
  have DY:(cur.toList.take (n*i.size)++news++cur.toList.drop (n*i.size+news.length)).toArray.size=cap*i.size:=by
   simp only [List.size_toArray,oJ,List.length_take,List.length_drop,Array.length_toList];omega
  refine⟨_,_,hr,⟨hlen,.inr ⟨g,cap,_,rfl,Dj,setRow_heap w g cur _ e _ hg,zR,oN,DY,?_⟩⟩,⟨aU.1,.inr ⟨g,cap,_,rfl,Dj,setRow_heap w g cur _ e _ hg,Nh,oN,DY,?_⟩⟩,⟨rfl,rfl,rfl,by simp,fun k _ hk=>setRow_other w g k _ (fun e=>hk (by simp [Value.ownBlock,e]))⟩⟩
  ·rw [aJ6,<- hlen];exact List.take_left
  show List.take (n*i.size) (cur.toList.take (n*i.size)++news++cur.toList.drop (n*i.size+news.length))=xs
  rw [aJ6,List.append_assoc,<- aU.1];exact List.take_left
 have holds:∀ j u,xs[j]? =some u->w.cell? ((⟨g,0,none⟩:Addr).add j)=some u:=aU.cells (g:=g) rfl;have hr:=run_append_grow (P:=P) w t ty e i z ht hi hz ⟨g,0,none⟩ n cap xs aU.1 holds a m c news hl Gq (by omega) (by simp only [maxLen] at h63;omega) (growslice_fits (by omega) ZM);have K6:=grownCap_ge w (n+m) cap e;have aQ7:grownCap w (n+m) cap e<=maxLen:=grownCap_le_maxLen w (n+m) cap e h63;have hgb:w.grownBy (w.drew.alloc (.cells (xs.toArray++news.toArray++Builtin.zeroCells z.cells (grownCap w (n+m) cap e-(n+m))) e)) none:=⟨rfl,rfl,rfl,by simp,fun k hk _=>Below.heap_alloc w.drew _ k hk⟩;refine⟨_,_,hr,⟨hlen,.inr ⟨w.heap.size,_,_,rfl,Pi,heap_alloc_new w.drew _,K6,aQ7,?_,?_⟩⟩,aU.kept hgb (.inr (by simp [Value.ownBlock])),⟨rfl,rfl,rfl,by simp,fun k hk _=>Below.heap_alloc w.drew _ k hk⟩⟩
 ·simp only [Array.size_append,List.size_toArray,size_zeroCells,uO,aU.1,hl,<- Nat.add_mul];congr 1;omega
 simp only [Array.toList_append,List.append_assoc];rw [<- List.append_assoc,<- hlen];exact List.take_left
def LOK:List UInt8->List ByteArray->Prop
 |[],[]=>True
 |c::cs,x::xs=>((c=110->(Nm.split x).isSome=true)∧(c=98->x.size=1))∧LOK cs xs
 |_,_=>False
theorem LOK.snoc:∀ {cs:List UInt8} {xs:List ByteArray} {c:UInt8} {x:ByteArray},LOK cs xs->(c=110->(Nm.split x).isSome=true)->(c=98->x.size=1)->LOK (cs++[c]) (xs++[x]):=by
 intro cs
 induction cs with
 |nil=>
  intro xs c x h h1 h2
  cases xs with
  |nil=>exact⟨⟨h1,h2⟩,trivial⟩
  |cons y ys=>exact absurd h (by simp [LOK])
 |cons d cs ih=>
  intro xs c x h h1 h2
  cases xs with
  |nil=>exact absurd h (by simp [LOK])
  |cons y ys=>exact⟨h.1,ih h.2 h1 h2⟩
theorem CE(x:ByteArray)(xs:List ByteArray):bA (Dt.oP (x::xs))=x++bA (Dt.oP xs):=by
 apply Nm.lL;simp [bA,Dt.oP]
theorem rest_of(x r:ByteArray):(x++r).extract x.size (x++r).size=r:=by
 apply Nm.lL;rw [XQ,ByteArray.data_append,Array.toList_append,List.drop_left' (by simp),kU,Nat.add_sub_cancel_left,List.take_of_length_le (by simp)]
theorem aIp(x r:ByteArray):(x++r).extract 0 x.size=x:=by
 apply Nm.lL;rw [XQ,ByteArray.data_append,Array.toList_append,List.drop_zero,Nat.sub_zero,List.take_left' (by simp)]
theorem Re:∀ (cs:List UInt8) (xs:List ByteArray),LOK cs xs->(∀ c∈cs,c=110∨c=98)->Dt.parts (cs.map Dt.uF) (bA (Dt.oP xs))=some xs:=by
 intro cs
 induction cs with
 |nil=>
  intro xs h hc
  cases xs with
  |nil=>rfl
  |cons y ys=>exact absurd h (by simp [LOK])
 |cons c cs ih=>
  intro xs h hc
  cases xs with
  |nil=>exact absurd h (by simp [LOK])
  |cons x xs=>
   obtain⟨⟨h1,h2⟩,h3⟩:=h;have hi:=ih xs h3 (fun d hd=>hc d (List.mem_cons_of_mem _ hd))
   have qA:Dt.sz (Dt.uF c) (x++bA (Dt.oP xs))=some x.size:=by
    rcases hc c (List.mem_cons_self ..) with rfl|rfl
    ·have hs:=h1 rfl;have hz:x.size≠0:=by obtain⟨k1,k2⟩:=(Dt.GX x).1 hs;omega
     show Dt.sz .nm _=_
     rw [Dt.sz,Ye hs,if_neg hz]
    have hs:=h2 rfl;show Dt.sz (.bs 1) _=_
    rw [Dt.sz,if_pos (by rw [kU];omega),hs]
   rw [List.map_cons,Dt.parts,CE,qA];simp only
   rw [rest_of,hi,aIp];rfl
theorem Kq{t:Nat}(h:K5 t):∀ c∈(Dt.nW t).data.toList,c=110∨c=98:=by
 rcases h with rfl|rfl|rfl|rfl|rfl<;>decide
theorem Au{t:Nat}(ht:t∈Xh)(hp:K5 t)(h:LOK (Dt.nW t).data.toList xs)(hz:(bA (Dt.oP xs)).size<=65535):fH t (bA (Dt.oP xs))=0:=by
 have hpt:=Re _ xs h (Kq hp);have hr:=M0 ht;exact(KJ (by omega) (by omega) (by rw [<- Dt.vH,Dt.oM,Dt.qH,hpt];rfl)).1
theorem AA(c:UInt8)(B:ByteArray)(h:B.size<=256):1<=((⟨#[c]⟩:ByteArray)++B).size∧((⟨#[c]⟩:ByteArray)++B).size<=257:=by
 rw [kU];have:(⟨#[c]⟩:ByteArray).size=1:=rfl;omega
theorem XU(B:ByteArray)(k:Nat)(h:B.size<=256):(B.extract 0 k).size<=256:=by
 rw [ByteArray.size_extract];omega
theorem EH(g:Nat)(a:Option Addr)(n cap:Nat)(w:World)(h:Src w g a n cap):
 Calls Tryz.prog 179 #[.pointer (some ⟨g,0,none⟩),.int .i64 255] w fun e w'=>∃ s:ByteArray,e=.returned (.string s)∧1<=s.size∧s.size<=257∧Src w' g a n cap∧w.grownBy w' (some g):=by
 have OB:=fun(x:Int) (W:World)=>GI x W
 have oG:∀ c:UInt8,(ByteArray.mk #[c]).size=1:=fun _=>rfl
 go_enter Tryz.func179,Tryz.ntmps179;go_wp2_with fail
 refine(aW g a n cap 9 _ h (by decide)).mono ?_;rintro e w1 ⟨r1,rfl,h10,h11,aQ8,mD⟩;have h12:=h11 (by decide);go_wp2_with fail
 refine(aW g a n cap 25 _ aQ8 (by decide)).mono ?_;rintro e w2 ⟨r2,rfl,h20,h21,aNk,mM⟩;have aAt:=aS mD mM;clear h h11 h21
 by_cases h2:r2=0
 ·subst h2;go_wp2_with fail
  refine(aW g a n cap 256 _ aNk (by decide)).mono ?_;rintro e w3 ⟨r,rfl,GU,uG,hsN,iZ⟩;have wR:=uG (by decide);have hgN:=aS aAt iZ;clear uG
  go_wp2_with first
   |(
    go_at_call 20
    refine(fG g a n cap r _ hsN (by omega) (by omega)).mono ?_;rintro e w4 ⟨T0,rfl,hT0,OD,LH⟩
    have aK6:=aS hgN LH)
   |(
    go_at_call 18
    refine(aW g a n cap 2 _ OD (by decide)).mono ?_;rintro e w5 ⟨r3,rfl,h30,h31,Kr,RH⟩
    have Kt:=aS aK6 RH)
  ·go_ret;refine⟨_,rfl,(AA _ _ (XU _ _ (by decide))).1,(AA _ _ (XU _ _ (by decide))).2,aZ Kr ((aJ _ _).alloc (aI _) _),dP Kt _⟩
  go_ret;refine⟨_,rfl,(AA _ _ (by omega)).1,(AA _ _ (by omega)).2,aZ Kr ((aJ _ _).alloc (aI _) _),dP Kt _⟩
 have Ws:(r2==0)=false:=beq_eq_false_iff_ne.2 h2
 have hsN:=aNk;have hgN:=aAt;have GU:=h10;have wR:r1<256:=by omega
 go_wp2_with first
  |(
   go_at_call 20
   refine(fG g a n cap r1 _ hsN (by omega) (by omega)).mono ?_;rintro e w4 ⟨T0,rfl,hT0,OD,LH⟩
   have aK6:=aS hgN LH)
  |(
   go_at_call 18
   refine(aW g a n cap 2 _ OD (by decide)).mono ?_;rintro e w5 ⟨r3,rfl,h30,h31,Kr,RH⟩
   have Kt:=aS aK6 RH)
 ·go_ret;refine⟨_,rfl,(AA _ _ (XU _ _ (by decide))).1,(AA _ _ (XU _ _ (by decide))).2,aZ Kr ((aJ _ _).alloc (aI _) _),dP Kt _⟩
 go_ret;refine⟨_,rfl,(AA _ _ (by omega)).1,(AA _ _ (by omega)).2,aZ Kr ((aJ _ _).alloc (aI _) _),dP Kt _⟩
theorem Rf{l:List UInt8}(h:w.ownsRow B 5 1 v k (Nm.LF l))(hk:0<k):∃ g m,v=.slice (some ⟨g,0,none⟩) k m∧rH w (some ⟨g,0,none⟩) k∧B<=g:=by
 have hl:l.length=k:=by have:=h.1;rw [Nm.xU] at this;omega
 rcases h.2 with⟨rfl,h0⟩|⟨g,cap,cur,rfl,hb,hg,hn,hm,hs,ht⟩
 ·omega
 refine⟨g,cap,rfl,.inr ⟨g,0,rfl,fun i hi=>?_⟩,hb⟩;obtain⟨x,hx⟩:∃ x,l[i]? =some x:=⟨_,gF (by omega)⟩;refine⟨(x.toNat:Int),?_,by omega,by have:=x.toNat_lt;omega⟩;rw [Nat.zero_add,h.cellAt i (by omega)];simp [Nm.LF,hx]
theorem Av{b:Nat}(h:rH w (some ⟨g,0,none⟩) k)(hg:b≠g):rH (w.setCell ⟨b,i,none⟩ v) (some ⟨g,0,none⟩) k:=by
 rcases h with h|⟨b',off,e,hc⟩
 ·exact .inl h
 refine .inr ⟨b',off,e,fun j hj=>?_⟩;obtain⟨c,h1,h2⟩:=hc j hj;refine⟨c,?_,h2⟩;cases e
 rw [World.cell?_setCell_other w ⟨b,i,none⟩ ⟨g,0+j,none⟩ v (by intro h;cases h;exact hg rfl)];exact h1
theorem Yr(a:Option Addr)(n cap:Nat)(c:UInt8)(w:World)(h:rH w a n)(hn:n<=1048576):
 Calls Tryz.prog 16 #[.slice a n cap,.int .u8 (c.toNat:Int)] w fun e w'=>∃ (st:Int) (b:Option Addr) (m:Nat),e=.returned (.agg #[.slice b (n+1) m,.int .i64 0,.int .u64 st])∧rH w' b (n+1)∧Below w.heap.size w w':=by
 obtain⟨j0,hj,k0,k1,k2⟩:=info_parts Tryz.K7;have kR:=aK w #[.slice none 0 0,.int .i64 0,.int .u64 0] 53;have bR:=(aJ w.heap.size w).alloc (aI _) (.cells #[.slice none 0 0,.int .i64 0,.int .u64 0] 53);have Nq:=World.ownsRow_lit (base:=w.heap.size+1) (e:=5) (size:=1) (w.alloc (.cells #[.slice none 0 0,.int .i64 0,.int .u64 0] 53)) #[.int .u8 (c.toNat:Int)] 1 (by simp) (by decide) rfl;have XT:=(aJ (w.heap.size+1) (w.alloc (.cells #[.slice none 0 0,.int .i64 0,.int .u64 0] 53))).alloc (by simp) (.cells #[.int .u8 (c.toNat:Int)] 5);rw [jO] at Nq;have iQ:(w.alloc (.cells #[.slice none 0 0,.int .i64 0,.int .u64 0] 53)).heap.size=w.heap.size+1:=by simp
 go_enter Tryz.func16,Tryz.ntmps16;go_wp2
 go_loopw [5,6] (fun v i wr=>∃ (k:Nat) (l:List UInt8),k<=n∧i=.int .i64 k∧wr.ownsRow (w.heap.size+1) 5 1 v (k+1) (Nm.LF l)∧Below (w.heap.size+1) (w.alloc (.cells #[.slice none 0 0,.int .i64 0,.int .u64 0] 53)) wr)
  (fun _ i _=>n-(intOf i).toNat)
 ·exact⟨0,[c],dR _,rfl,Nq,XT⟩
 obtain⟨k,l,hk,rfl,aU,aG⟩:=hrel;have qA:=aG.size
 by_cases bY:k<n
 ·obtain⟨b,off,rfl,gJ⟩:=h.resolve_left (by omega);obtain⟨z,hz,aQ9,iH⟩:=gJ k bY;obtain⟨d,rfl⟩:=zO aQ9 iH;have X9:=fD w _ hz;have hcr:=((Nm.aC bR (iQ▸aG)).cell X9).trans hz;obtain⟨g2,m2,rfl,-,-⟩:=Rf aU (by omega);have hA:=aG.alloc (by omega) (.cells #[.int .u8 (d.toNat:Int)] 5);clear gJ hz h kR bR Nq XT;go_wp2_with (at_builtin;refine wpList_append_own _ rfl (.tmp 15) (.tmp 20) 22 rfl (w.heap.size+1) 5 j0 (.int .u8 0) 1 1 Tryz.underlying22 hj k0 k1 k2 rfl (by decide) _ _ _ rfl (aU.alloc _) ⟨wr.heap.size,0,none⟩ 1 1 [.int .u8 (d.toNat:Int)] rfl rfl (cell_one_new _ _ _) (Nm.one_cell _ rfl) (by unfold maxLen;omega) (by omega) (by simp;omega) ?_)
  intro vb wb jR nP _;have b4:=hA.grown nP (by simp at qA ⊢;omega) (fun q hq=>(aU.lt q hq).1);rw [Nm.Oj,<- Nm.DJ] at jR;clear nP aU;go_wp2;go_roundw
  ·exact⟨k+1,_,by omega,by go_num,jR,b4⟩
  simp [intOf];omega
 have FE:k=n:=by omega
 subst FE;obtain⟨g2,m2,rfl,hC,mM⟩:=Rf aU (by omega);have fJ:=Nm.aC bR (iQ▸aG);have kW:=aB kR (iQ▸aG);clear aU h kR bR Nq XT aG bY;go_wp2_with fail
 refine(MP _ (k+1) _ _ hC (by omega)).mono ?_;rintro e w3 ⟨st,rfl,b3⟩;have b03:=Nm.aC fJ b3;have k3:=aB kW b3;have kE:=aM (aM (aM k3 0 (.slice (some ⟨g2,0,none⟩) (k+1) m2)) 1 (.int .i64 0)) 2 (.int .u64 st);have bE:=((b03.setCell (p:=⟨w.heap.size,0,none⟩) (aI _) (.slice (some ⟨g2,0,none⟩) (k+1) m2)).setCell (p:=⟨w.heap.size,1,none⟩) (aI _) (.int .i64 0)).setCell (p:=⟨w.heap.size,2,none⟩) (aI _) (.int .u64 st);have hC3:=yL hC b3;have r3:=aA k3
 have f3:=aF k3
 have rE:=aA kE
 go_wp2;refine eB (v:=.agg #[.slice (some ⟨g2,0,none⟩) (k+1) m2,.int .i64 0,.int .u64 st]) ?_ rfl ⟨st,_,_,rfl,?_,bE⟩
 ·simp [results,Tryz.results16,go_sem,Result.andThen,rE]
 exact Av (Av (Av hC3 (by omega)) (by omega)) (by omega)
