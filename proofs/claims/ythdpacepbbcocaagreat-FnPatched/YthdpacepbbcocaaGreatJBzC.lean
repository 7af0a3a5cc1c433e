import Derived.Test.YthdpacepbbcocaaGreatJICheck
set_option linter.unusedVariables false
set_option maxRecDepth 100000
set_option maxHeartbeats 4000000
namespace Go.Proofs.YthdpacepbbcocaaGreat
open Go.RowKit
theorem aAz:(Tryz.prog.info? 156).map (·.size)=some 3:=by kernel_rfl
theorem Xw(t:Nat)(w:World):(binOp .eql 151 (.pointer (some ⟨t,0,none⟩)) (.pointer (some ⟨t,0,none⟩))).run Tryz.prog w=.ok (.bool true) w:=by
 obtain⟨j,hj,_⟩:=Option.map_eq_some_iff.1 aAz;exact run_eql_ptr_same w _ Tryz.underlying151 hj
theorem Qd{t x:Nat}{w:World}{ca cb:Array Value}{ta tb:TypeId}(h:t≠x)(ha:bG w t ca ta)(hb:bG w x cb tb):
 (binOp .eql 151 (.pointer (some ⟨t,0,none⟩)) (.pointer (some ⟨x,0,none⟩))).run Tryz.prog w=.ok (.bool false) w:=by
 obtain⟨j,hj,hs⟩:=Option.map_eq_some_iff.1 aAz;exact run_eql_ptr_other w Tryz.underlying151 hj (by omega) (fun e=>h (congrArg Addr.block e)) ha hb
theorem Qe(v:Value)(bs:List Nat)(t:Nat)(w:World)(h:bS w v bs.length 1 (bs.map ptr))(QZ:∀ b,b=t∨b∈bs->∃ cs T,bG w b cs T):
 Calls Tryz.prog 173 #[v,.pointer (some ⟨t,0,none⟩)] w fun e w'=>Below w.heap.size w w'∧((t∉bs∧e=.returned (.int .i64 (-1)))∨(t∈bs∧∃ k:Nat,e=.returned (.int .i64 k))):=by
 obtain⟨_,a,cap,rfl,gY,kK,hc⟩:=h;unfold maxLen at kK;go_enter Tryz.func173,Tryz.ntmps173;go_wp2
 go_loopw [8] (fun i wr=>∃ k:Nat,k<=bs.length∧i=.int .i64 k∧t∉bs.take k∧Below w.heap.size w wr) (fun i _=>bs.length-(intOf i).toNat)
 case atStart=>exact⟨0,dO _,rfl,by simp,aK _ _⟩
 obtain⟨k,hk,rfl,lT,aJ⟩:=hrel;have HR:=Nm.aF (aV lT aJ)
 by_cases bV:k<bs.length
 ·obtain⟨x,hx⟩:∃ x,bs[k]? =some x:=⟨_,bY bV⟩;obtain⟨bb,off,rfl,aL⟩:=hc (by omega);have yB:=aL k (.pointer (some ⟨x,0,none⟩)) (by simp [ptr,hx]);have hcr:wr.cell? ⟨bb,off+k,none⟩=some (.pointer (some ⟨x,0,none⟩)):=(aJ.cell (eB w _ yB)).trans yB;have HX:=Nm.aF hx;have i1:(0:Int)<=(k:Int):=by omega
  have i2:(k:Int)<(bs.length:Int):=by omega
  obtain⟨c1,T1,k1⟩:=QZ t (.inl rfl);obtain⟨c2,T2,k2⟩:=QZ x (.inr (bP hx));have K1:=Nm.aF (aV (aB k1 aJ) (aB k2 aJ));clear hc aL yB hx lT aJ k1 k2
  by_cases he:t=x
  ·subst he;have hq:=Xw t wr;clear QZ;go_wp2;go_ret;exact⟨HR.out.2,.inr ⟨bP HX.out,k,rfl⟩⟩
  have hq:=Qd he K1.out.1 K1.out.2;clear QZ;go_wp2;go_roundw
  case rel=>
   refine⟨k+1,by omega,by go_num,?_,HR.out.2⟩;obtain⟨sS,e⟩:=dK HX.out;rw [List.take_succ_eq_append_getElem sS,e];simp only [List.mem_append,List.mem_singleton,not_or];exact⟨HR.out.1,he⟩
  simp [intOf];omega
 have DJ:k=bs.length:=by omega
 subst DJ;clear hc lT aJ;go_wp2;go_ret;have:=HR.out.1;rw [List.take_length] at this;exact⟨HR.out.2,.inl ⟨this,rfl⟩⟩
theorem XI(v:Value)(bs:List Nat)(t:Nat)(w:World)(h:bS w v bs.length 1 (bs.map ptr))(QZ:∀ b,b=t∨b∈bs->∃ cs T,bG w b cs T):
 Calls Tryz.prog 146 #[v,.pointer (some ⟨t,0,none⟩)] w fun e w'=>e=.returned (.bool (decide (t∈bs)))∧Below w.heap.size w w':=by
 have hi:=Qe v bs t w h QZ;obtain⟨_,a,cap,rfl,gY,kK,hc⟩:=h;clear hc;go_enter Tryz.func146,Tryz.ntmps146;go_wp2_with fail
 refine hi.mono ?_;rintro e w1 ⟨b1,⟨hb,rfl⟩|⟨hb,k,rfl⟩⟩
 ·have HB:=Nm.aF hb;clear hb;go_wp2;go_ret;rw [jU HB.out];exact⟨rfl,b1⟩
 have HB:=Nm.aF hb;clear hb;have hk:(0:Int)<=(k:Int):=by omega
 go_wp2;go_ret;rw [nD HB.out];exact⟨rfl,b1⟩
def JJ:List ByteArray->Bool
 |[]=>false
 |x::_=>x.toList==[42]
theorem Xx(v:Value)(ls:List ByteArray)(w:World)(h:Nm.dX w v ls):
 Calls Tryz.prog 140 #[v] w fun e w'=>e=.returned (.bool (JJ ls))∧Below w.heap.size w w':=by
 obtain⟨a,cap,rfl,h1,h2,h3,h4⟩:=h;unfold maxLen at h2
 cases ls with
 |nil=>
  clear h3 h4;go_enter Tryz.func140,Tryz.ntmps140;go_wp2;go_ret
  exact⟨rfl,aK _ _⟩
 |cons x ls=>
  obtain⟨b,off,rfl,hc⟩:=h4 (by simp);have c0:=hc 0 x rfl;simp only [Nat.add_zero] at c0;generalize hn:(x::ls).length=N at*;have n1:(0:Int)<(N:Int):=by simp at hn;omega
  have HN:=Nm.aF hn;clear hc h3 h4 hn;go_enter Tryz.func140,Tryz.ntmps140;go_wp2;go_ret;exact⟨rfl,aK _ _⟩
def iU{α:Type}(P:α->Prop)(l:List α)(i:Nat)(x:α):Prop:=l[i]? =some x∧P x∧∀ (j:Nat) (y:α),j<i->l[j]? =some y->¬P y
theorem iU.lt{α:Type}{P:α->Prop}{l:List α}{i:Nat}{x:α}(h:iU P l i x):i<l.length:=(dK h.1).1
theorem iU.snoc{α:Type}{P:α->Prop}{l:List α}{i:Nat}{x:α}(h:iU P l i x)(y:α):iU P (l++[y]) i x:=by
 have hi:=h.lt;refine⟨by rw [List.getElem?_append_left hi];exact h.1,h.2.1,fun j z hj hz=>?_⟩;rw [List.getElem?_append_left (by omega)] at hz;exact h.2.2 j z hj hz
theorem iU.new{α:Type}{P:α->Prop}{l:List α}{x:α}(lT:∀ y∈l,¬P y)(hx:P x):iU P (l++[x]) l.length x:=
 ⟨by simp,hx,fun j y hj hy=>by rw [List.getElem?_append_left hj] at hy;exact lT y (bP hy)⟩
theorem iU.congr{α:Type}{P Q:α->Prop}{l:List α}{i:Nat}{x:α}(h:iU P l i x)(e:∀ y,P y↔Q y):iU Q l i x:=
 ⟨h.1,(e x).1 h.2.1,fun j y hj hy hq=>h.2.2 j y hj hy ((e y).2 hq)⟩
theorem iU.mem{α:Type}{P:α->Prop}{l:List α}{i:Nat}{x:α}(h:iU P l i x):x∈l:=bP h.1
theorem iU.ex{α:Type}{P:α->Prop}:∀ {l:List α},(∃ x∈l,P x)->∃ i x,iU P l i x:=by
 intro l
 induction l with
 |nil=>rintro⟨x,hx,_⟩;cases hx
 |cons y l ih=>
  rintro⟨x,hx,hp⟩
  by_cases hy:P y
  ·exact⟨0,y,rfl,hy,fun j _ hj=>by omega⟩
  have hx':x∈l:=by
   rcases List.mem_cons.1 hx with rfl|h
   ·exact absurd hp hy
   exact h
  obtain⟨i,z,h1,h2,h3⟩:=ih ⟨x,hx',hp⟩;refine⟨i+1,z,by simpa using h1,h2,fun j u hj hu=>?_⟩
  cases j with
  |zero=>simp at hu;subst hu;exact hy
  |succ j=>exact h3 j u (by omega) (by simpa using hu)
theorem iU.uniq{α:Type}{P:α->Prop}{l:List α}{i j:Nat}{x y:α}(h:iU P l i x)(h':iU P l j y):i=j∧x=y:=by
 have e:i=j:=by
  rcases Nat.lt_trichotomy i j with h1|h1|h1
  ·exact absurd h.2.1 (h'.2.2 i x h1 h.1)
  ·exact h1
  exact absurd h'.2.1 (h.2.2 j y h1 h'.1)
 subst e;have:=h.1.symm.trans h'.1;exact⟨rfl,gQ this⟩
theorem iU.find{α:Type}{P:α->Prop}{l:List α}{i:Nat}{x:α}(h:iU P l i x)(p:α->Bool)(e:∀ y∈l,p y=true↔P y):l.find? p=some x:=by
 rw [List.find?_eq_some_iff_getElem];have hi:=h.lt;refine⟨(e x h.mem).2 h.2.1,i,hi,(dK h.1).2,fun j hj=>?_⟩;have Ew:l[j]? =some l[j]:=bY (by omega);have:=h.2.2 j _ hj Ew;cases hp:p l[j]
 ·rfl
 exact absurd ((e _ (bP Ew)).1 hp) this
theorem uM{α:Type}{f:α->Int}{R:α->α->Prop}:∀ {l:List α},l.Pairwise R->(∀ a b,R a b->f b<=0->f a<0)->
 (kL f l=false∧∃ A C,l=A++C∧posOf f l=A.length∧(∀ a∈A,f a<0)∧∀ c∈C,0<f c)∨
 (kL f l=true∧∃ A o C,l=A++o::C∧posOf f l=A.length∧f o=0∧(∀ a∈A,f a<0)∧∀ c∈C,0<f c):=by
 intro l
 induction l with
 |nil=>intro _ _;exact .inl ⟨rfl,[],[],rfl,rfl,by simp,by simp⟩
 |cons x l ih=>
  intro hp hR;obtain⟨hx,hl⟩:=List.pairwise_cons.1 hp
  by_cases h1:f x<0
  ·have hpo:posOf f (x::l)=posOf f l+1:=by simp [posOf,h1]
   have mK:kL f (x::l)=kL f l:=by
    rw [kL,kL,hpo];congr 1;simp
   rw [mK,hpo]
   rcases ih hl hR with⟨hi,A,C,e,hA,ha,hc⟩|⟨hi,A,o,C,e,hA,h0,ha,hc⟩
   ·refine .inl ⟨hi,x::A,C,by rw [e];rfl,by rw [hA];rfl,fun a hm=>?_,hc⟩
    rcases List.mem_cons.1 hm with rfl|hm
    ·exact h1
    exact ha a hm
   refine .inr ⟨hi,x::A,o,C,by rw [e];rfl,by rw [hA];rfl,h0,fun a hm=>?_,hc⟩
   rcases List.mem_cons.1 hm with rfl|hm
   ·exact h1
   exact ha a hm
  have hpo:posOf f (x::l)=0:=by simp [posOf,h1]
  have hC:∀ c∈l,0<f c:=fun c hc=>by
   rcases Int.lt_or_le 0 (f c) with h|h
   ·exact h
   exact absurd (hR x c (hx c hc) h) h1
  have mK:kL f (x::l)=decide (f x=0):=by
   rw [kL,hpo];simp [qI]
  by_cases h0:f x=0
  ·exact .inr ⟨by rw [mK,nD h0],[],x,l,rfl,hpo,h0,by simp,hC⟩
  refine .inl ⟨by rw [mK,jU h0],[],x::l,rfl,hpo,by simp,fun c hc=>?_⟩
  rcases List.mem_cons.1 hc with rfl|hc
  ·omega
  exact hC c hc
theorem Ho{α:Type}(A C:List α)(x:α):lN A.length x (A++C)=A++x::C:=by simp [lN]
theorem UG{α:Type}(A C:List α)(o x:α):(A++o::C).set A.length x=A++x::C:=by
 rw [List.set_append_right _ _ (aN _)];simp
theorem Qf{a b c:List ByteArray}(h1:Nm.bJ a b<0)(h2:Nm.bJ b c<=0):Nm.bJ a c<0:=by
 have h3:=nU (a:=a) (b:=b) (c:=c) (by omega) h2
 rcases Int.lt_or_eq_of_le h3 with h|h
 ·exact h
 exfalso
 have h4:=gF a c;have h5:=nU (a:=b) (b:=c) (c:=a) h2 (by rw [h4];omega);have h6:=gF a b;omega
theorem gM{a b c:List ByteArray}(h:Nm.bJ a b=0):Nm.bJ a c=Nm.bJ b c:=by
 have rH:=QU a c;have uR:=QU b c;have h':Nm.bJ b a=0:=by rw [gF a b];omega
 have k1:=fun(x:Nm.bJ b c<=0)=>nU (a:=a) (b:=b) (c:=c) (by omega) x
 have k2:=fun(x:Nm.bJ a c<=0)=>nU (a:=b) (b:=a) (c:=c) (by omega) x
 have k3:=fun(x:0<=Nm.bJ b c)=>LZ (a:=a) (b:=b) (c:=c) (by omega) x
 have k4:=fun(x:0<=Nm.bJ a c)=>LZ (a:=b) (b:=a) (c:=c) (by omega) x
 by_cases z1:Nm.bJ b c<=0<;>by_cases z2:0<=Nm.bJ b c<;>by_cases z3:Nm.bJ a c<=0<;>by_cases z4:0<=Nm.bJ a c<;>first|omega|(have:=k1 z1;omega)|(have:=k2 z3;omega)|(have:=k3 z2;omega)|(have:=k4 z4;omega)
theorem dN{a b c:List ByteArray}(h:Nm.bJ a b=0):Nm.bJ c a=Nm.bJ c b:=by
 rw [gF a c,gF b c,gM h]
theorem xC(a:List ByteArray):Nm.bJ a a=0:=(nR a a).2 rfl
theorem Xy{a b:List ByteArray}(h:Nm.bJ a b=0):Nm.bJ b a=0:=by rw [gF a b];omega
theorem Dn(lab:List ByteArray)(a b:eZ)(h:Nm.bJ a.lab b.lab<0)(hb:iP lab b<=0):iP lab a<0:=Qf h hb
theorem Dp(ty:Int)(a b:tZ)(h:a.ty<b.ty)(hb:fE ty b<=0):fE ty a<0:=by
 rw [fE,uI];rw [fE] at hb
 rcases Int.lt_trichotomy b.ty ty with h1|h1|h1
 ·omega
 ·omega
 rw [Nm.oK h1] at hb;omega
theorem Xz{a b c:List UInt8}(h1:Nm.iD a b<0)(h2:Nm.iD b c<=0):Nm.iD a c<0:=by
 have h3:=tH a b c (by omega) h2
 rcases Int.lt_or_eq_of_le h3 with h|h
 ·exact h
 exfalso
 have h4:=qX a c;have h5:=tH b c a h2 (by rw [h4];omega);have h6:=qX a b;omega
theorem aDy(fd:ByteArray)(a b:ByteArray×ByteArray)(h:Nm.iD a.1.data.toList b.1.data.toList<0)(hb:rM fd b<=0):rM fd a<0:=Xz h hb
theorem Dq{fd:ByteArray}{p:ByteArray×ByteArray}:rM fd p=0↔p.1=fd:=by
 rw [rM,qW];exact⟨fun h=>Nm.kI h,fun h=>by rw [h]⟩
theorem Du{ty:Int}{s:tZ}:fE ty s=0↔s.ty=ty:=⟨fun h=>PM h,fun h=>by rw [fE,Nm.tX h]⟩
theorem aKm(c:UInt8):Nm.low (Nm.low c)=Nm.low c:=by
 by_cases h:65<=c.toNat∧c.toNat<=90
 ·have:=Nm.En h;exact Nm.JS (by omega)
 rw [Nm.JS h,Nm.JS h]
theorem RQ(x:ByteArray):Nm.small (Nm.small x)=Nm.small x:=by
 apply Nm.kI;rw [Nm.dY,Nm.dY,Nm.eO,Nm.eO,List.map_map];apply List.map_congr_left;intro c _;exact aKm c
theorem Ya(x y:ByteArray):Nm.jA (Nm.small x) (Nm.small y)=Nm.jA x y:=by
 rw [Nm.jA,Nm.jA,<- Nm.dY,<- Nm.dY,RQ,RQ,Nm.dY,Nm.dY]
theorem NA:∀ (a b:List ByteArray),Nm.dV (a.map Nm.small) (b.map Nm.small)=Nm.dV a b
 |[],[]=>rfl
 |[],y::b=>rfl
 |x::a,[]=>rfl
 |x::a,y::b=>by
  simp only [List.map_cons,Nm.dV,Ya,NA a b]
theorem RX(a b:List ByteArray):Nm.bJ (a.map Nm.small) (b.map Nm.small)=Nm.bJ a b:=by
 rw [Nm.bJ,<- List.map_reverse,<- List.map_reverse,NA,Nm.bJ]
theorem BV(a b:List ByteArray):dZ (a.map Nm.small) (b.map Nm.small)=dZ a b:=by
 rw [dZ,dZ,List.length_map,List.length_map,<- List.map_drop,RX]
theorem RY{a a' b b':List ByteArray}(h1:Nm.bJ a a'=0)(h2:Nm.bJ b b'=0):dZ a b=dZ a' b':=by
 rw [<- BV a b,<- BV a' b',(nR _ _).1 h1,(nR _ _).1 h2]
theorem Qg{a b:List ByteArray}(h:Nm.bJ a b=0):a.length=b.length:=by
 have:=congrArg List.length ((nR _ _).1 h);simpa using this
theorem tN{a:ByteArray}{xs:List ByteArray}(h:Nm.split a=some xs):Nm.split (Nm.cZ a)=some (xs.map Nm.small):=by
 rw [Nm.nM h,<- Nm.uE h];have:=Nm.gW h;exact tY (VB (Nm.kJ h).2) (by rw [Nm.AZ];omega)
theorem zZ{a b:ByteArray}{xs ys:List ByteArray}(ha:Nm.split a=some xs)(hb:Nm.split b=some ys):Nm.cZ a=Nm.cZ b↔Nm.bJ xs ys=0:=by
 constructor
 ·intro h;have h1:=tN ha;rw [h,tN hb] at h1;exact(nR _ _).2 (gQ h1).symm
 intro h;rw [Nm.nM ha,Nm.nM hb,<- Nm.uE ha,<- Nm.uE hb,(nR _ _).1 h]
theorem PY{a b:ByteArray}{xs ys:List ByteArray}(ha:Nm.split a=some xs)(hb:Nm.split b=some ys):Nm.rU (Nm.cZ a) (Nm.cZ b)=Nm.bJ xs ys:=by
 rw [Nm.rU,tN ha,tN hb];exact RX _ _
theorem NB{a b:ByteArray}{xs ys:List ByteArray}(ha:Nm.split a=some xs)(hb:Nm.split b=some ys):fT (Nm.cZ a) (Nm.cZ b)=dZ xs ys:=by
 rw [vK (tN ha) (tN hb)];exact BV _ _
theorem XJ{c:UInt8}:Nm.low c=42↔c=42:=by
 by_cases h:65<=c.toNat∧c.toNat<=90
 ·have h1:=Nm.En h;constructor
  ·intro e;rw [e] at h1;simp at h1;omega
  intro e;rw [e] at h;simp at h
 rw [Nm.JS h]
theorem Yb{a b:List ByteArray}(h:Nm.bJ a b=0):JJ a=JJ b:=by
 have e:=(nR _ _).1 h
 cases a with
 |nil=>
  cases b with
  |nil=>rfl
  |cons y b=>simp at e
 |cons x a=>
  cases b with
  |nil=>simp at e
  |cons y b=>
   simp only [List.map_cons,List.cons.injEq] at e;have e1:=congrArg (fun z:ByteArray=>z.data.toList) e.1;simp only [Nm.dY,Nm.eO] at e1;rw [JJ,JJ,ByteArray.toList_eq,ByteArray.toList_eq,Bool.eq_iff_iff];simp only [beq_iff_eq];generalize x.data.toList=X at*;generalize y.data.toList=Y at*
   have key:∀ Z:List UInt8,Z=[42]↔Z.map Nm.low=[42]:=by
    intro Z
    cases Z with
    |nil=>simp
    |cons z Z=>cases Z with
     |nil=>simp [XJ]
     |cons z' Z=>simp
   rw [key X,key Y,e1]
theorem Yc{a:ByteArray}{xs:List ByteArray}(h:Nm.split a=some xs):yF (Nm.cZ a)=JJ xs:=by
 have hj:=Nm.kJ h;rw [Nm.nM h,<- Nm.uE h,yF]
 cases xs with
 |nil=>rfl
 |cons x t=>
  have hx:=hj.2 x (List.mem_cons_self)
  have e:Nm.joinL ((x::t).map Nm.small)=UInt8.ofNat x.size::((Nm.small x).data.toList++Nm.joinL (t.map Nm.small)):=by
   simp [Nm.joinL,Nm.vF,Nm.qH]
  have hs:1<(ByteArray.mk (Nm.joinL ((x::t).map Nm.small)).toArray).size:=by
   show 1<(Nm.joinL ((x::t).map Nm.small)).toArray.size
   rw [List.size_toArray,e];have:(Nm.small x).data.toList.length=x.size:=by rw [Nm.dY];simp [Nm.eO]
   simp only [List.length_cons,nG,this];omega
  rw [nD hs,Bool.true_and,JJ,Bool.eq_iff_iff,decide_eq_true_eq,beq_iff_eq,ByteArray.toList_eq];have hl:x.data.toList.length=x.size:=by simp
  rw [e,Nm.dY,Nm.eO];generalize x.data.toList=X at*
  cases X with
  |nil=>simp at hl;omega
  |cons c X=>
   have h63:x.size<=63:=hx.2;generalize x.size=n at*;constructor
   ·intro h2;have h3:=congrArg (fun z:ByteArray=>z.data.toList) h2;simp at h3;obtain⟨h4,h5⟩:=h3
    have hn:n=1:=by
     have:=congrArg UInt8.toNat h4;simp at this;omega
    subst hn;simp at hl;subst hl;rw [XJ.1 h5]
   intro h2;simp at h2;obtain⟨rfl,rfl⟩:=h2;simp at hl;subst hl;have h42:Nm.low 42=42:=XJ.2 rfl;apply Nm.kI;simp [h42]
def gH(x:It):List ByteArray:=(Nm.split x.r.own).getD []
def gB(x:It):Prop:=Nm.split x.r.own=some (gH x)∧x.fo=Nm.cZ x.r.own∧x.dt=gK x.r.ty x.r.da∧x.out=false
def DW(lab:List ByteArray)(y:It):Prop:=Nm.bJ (gH y) lab=0
def OfS(lab:List ByteArray)(ty:Int)(y:It):Prop:=DW lab y∧y.r.ty=ty
def Sw(lab:List ByteArray)(ty:Int)(fd:ByteArray)(y:It):Prop:=OfS lab ty y∧y.dt=fd
theorem sI{x y:It}(hx:gB x)(hy:gB y):x.fo=y.fo↔Nm.bJ (gH x) (gH y)=0:=by
 rw [hx.2.1,hy.2.1];exact zZ hx.1 hy.1
structure tO (l:List It) (os:List eZ):Prop where
 sorted:OwS os∧∀ o∈os,Ji o.ss∧∀ s∈o.ss,DaS s.da
 len:os.length<=l.length∧∀ o∈os,o.ss.length<=l.length∧∀ s∈o.ss,s.da.length<=l.length
 own:∀ o∈os,∃ i x,iU (DW o.lab) l i x∧o.nm=x.r.own∧o.lab=gH x
 set:∀ o∈os,∀ s∈o.ss,∃ x,iU (OfS o.lab s.ty) l s.fi x∧s.tt=x.r.tt
 dat:∀ o∈os,∀ s∈o.ss,∀ p∈s.da,∃ i x,iU (Sw o.lab s.ty p.1) l i x∧p.2=x.r.da
 cov:∀ x∈l,∃ o∈os,DW o.lab x∧∃ s∈o.ss,s.ty=x.r.ty∧∃ p∈s.da,p.1=x.dt
theorem tO.nil:tO [] []:=⟨⟨List.Pairwise.nil,by simp⟩,by simp,by simp,by simp,by simp,by simp⟩
theorem tO.trs{l:List It}{os:List eZ}(h:tO l os)(hl:l.length<=400000):TrS os:=
 ⟨h.sorted.1,fun o ho=>⟨(h.sorted.2 o ho).1,by have:=(h.len.2 o ho).1;omega,fun s hs=>⟨(h.sorted.2 o ho).2 s hs,by have:=(h.len.2 o ho).2 s hs;omega⟩⟩⟩
theorem XK{α:Type}{R:α->α->Prop}{A C:List α}{x:α}(h:(A++C).Pairwise R)(ha:∀ a∈A,R a x)(hc:∀ c∈C,R x c):(A++x::C).Pairwise R:=by
 rw [List.pairwise_append] at h ⊢;refine⟨h.1,List.pairwise_cons.2 ⟨hc,h.2.1⟩,fun a hm b hb=>?_⟩
 rcases List.mem_cons.1 hb with rfl|hb
 ·exact ha a hm
 exact h.2.2 a hm b hb
theorem Dv{α:Type}{R:α->α->Prop}{A C:List α}{o:α}(h:(A++o::C).Pairwise R):(A++C).Pairwise R:=by
 refine h.sublist ?_;exact List.Sublist.append_left (List.sublist_cons_self o C) A
structure aPp (own:ByteArray) (lv:Value) (lab:List ByteArray) (ty tt:Int) (at_:Nat) (fd da:ByteArray) (os os':List eZ) (o':eZ) (s':tZ) (fO:Bool):Prop where
 spl:∃ (A C:List eZ) (o1:eZ) (A2 C2:List tZ) (s2:tZ),os'=A++o'::C∧(∀ a∈A,Nm.bJ a.lab lab<0)∧(∀ c∈C,0<Nm.bJ c.lab lab)∧
  o'.dL=o1.dL∧o'.lab=o1.lab∧o'.nm=o1.nm∧o'.lv=o1.lv∧
  ((os=A++o1::C∧Nm.bJ o1.lab lab=0)∨(os=A++C∧o1.lab=lab∧o1.nm=own∧o1.ss=[]∧o1.lv=lv))∧
  o'.ss=A2++s'::C2∧(∀ a∈A2,a.ty<ty)∧(∀ c∈C2,ty<c.ty)∧s'.dL=s2.dL∧s'.ty=ty∧s2.ty=ty∧s'.fi=s2.fi∧s'.tt=s2.tt∧
  (o1.ss=A2++s2::C2∨(o1.ss=A2++C2∧s2.tt=tt∧s2.fi=at_∧s2.da=[]))∧
  ((fO=false∧s'.da=s2.da∧∃ p∈s2.da,p.1=fd)∨(fO=true∧∃ A3 C3,s2.da=A3++C3∧s'.da=A3++(fd,da)::C3∧(∀ a∈A3,Nm.iD a.1.data.toList fd.data.toList<0)∧(∀ c∈C3,0<Nm.iD c.1.data.toList fd.data.toList)))
theorem aKn{own:ByteArray}{lv:Value}{lab:List ByteArray}{ty tt:Int}{at_:Nat}{fd da:ByteArray}{os os':List eZ}{ob sb:Nat}{fO:Bool}(hs:OwS os∧∀ o∈os,Ji o.ss∧∀ s∈o.ss,DaS s.da)(h:aM8 own lv lab ty tt at_ fd da os os' ob sb fO):
 ∃ o' s',aPp own lv lab ty tt at_ fd da os os' o' s' fO∧o'.dL=ob∧s'.dL=sb:=by
 obtain⟨o1,os1,s2,OQ,rv2,rv3,hO,hS,rfl,rfl,hN,hos⟩:=h
 have Af:Ji o1.ss∧∀ s∈o1.ss,DaS s.da:=by
  rcases hO with⟨_,_,h1,_⟩|⟨_,_,_,_,_,h1⟩
  ·exact hs.2 o1 (bP h1)
  rw [h1];exact⟨List.Pairwise.nil,by simp⟩
 have hdd:DaS s2.da:=by
  rcases hS with⟨_,_,h1,_⟩|⟨_,_,_,_,_,h1⟩
  ·exact Af.2 s2 (bP h1)
  rw [h1];exact List.Pairwise.nil
 obtain⟨s',hs'⟩:∃ s':tZ,s'={s2 with rv:=rv3,da:=VJ (rM fd) (fd,da) s2.da}:=⟨_,rfl⟩;rw [<- hs'] at hos
 have pS:∃ (A2 C2:List tZ),OQ.set (posOf (fE ty) o1.ss) s'=A2++s'::C2∧(∀ a∈A2,a.ty<ty)∧(∀ c∈C2,ty<c.ty)∧s2.ty=ty∧(o1.ss=A2++s2::C2∨(o1.ss=A2++C2∧s2.tt=tt∧s2.fi=at_∧s2.da=[])):=by
  have gt:∀ {A:List tZ},(∀ c∈A,0<fE ty c)->∀ c∈A,ty<c.ty:=fun h c hc=>by
   have:=h c hc;rw [fE] at this
   rcases Int.lt_trichotomy c.ty ty with h1|h1|h1
   ·rw [Nm.oJ h1] at this;omega
   ·rw [Nm.tX h1] at this;omega
   exact h1
  have lt:∀ {A:List tZ},(∀ c∈A,fE ty c<0)->∀ c∈A,c.ty<ty:=fun h c hc=>uI.1 (h c hc)
  rcases uM (f:=fE ty) Af.1 (Dp ty) with⟨hi,A,C,e,hp,ha,hc⟩|⟨hi,A,o,C,e,hp,h0,ha,hc⟩
  ·rcases hS with⟨h1,_⟩|⟨_,h2,h3,h4,h5,h6⟩
   ·rw [hi] at h1;cases h1
   refine⟨A,C,?_,lt ha,gt hc,h3,.inr ⟨e,h4,h5,h6⟩⟩;rw [h2,hp,e,Ho,UG]
  rcases hS with⟨_,h2,h3,h4⟩|⟨h1,_⟩
  ·have e2:s2=o:=by
    rw [hp,e,List.getElem?_append_right (aN _)] at h3;simp at h3;exact h3.symm
   subst e2;refine⟨A,C,?_,lt ha,gt hc,h4,.inl e⟩;rw [h2,hp,e,UG]
  rw [hi] at h1;cases h1
 obtain⟨A2,C2,e2,hA2,hC2,hty,aG5⟩:=pS;rw [e2] at hos;obtain⟨o',CW⟩:∃ o':eZ,o'={o1 with rv:=rv2,ss:=A2++s'::C2}:=⟨_,rfl⟩;rw [<- CW] at hos
 have pD:(fO=false∧s'.da=s2.da∧∃ p∈s2.da,p.1=fd)∨(fO=true∧∃ A3 C3,s2.da=A3++C3∧s'.da=A3++(fd,da)::C3∧(∀ a∈A3,Nm.iD a.1.data.toList fd.data.toList<0)∧(∀ c∈C3,0<Nm.iD c.1.data.toList fd.data.toList)):=by
  have e3:s'.da=VJ (rM fd) (fd,da) s2.da:=by rw [hs']
  rcases uM (f:=rM fd) hdd (aDy fd) with⟨hi,A,C,e,hp,ha,hc⟩|⟨hi,A,o,C,e,hp,h0,ha,hc⟩
  ·refine .inr ⟨by rw [hN,hi];rfl,A,C,e,?_,ha,hc⟩;rw [e3,VJ,hi,hp];simp only [Bool.false_eq_true,if_false];rw [e,Ho]
  refine .inl ⟨by rw [hN,hi];rfl,by rw [e3,VJ,hi];rfl,o,by rw [e];simp,Dq.1 h0⟩
 refine⟨o',s',⟨?_⟩,by rw [CW],by rw [hs']⟩
 rcases uM (f:=iP lab) hs.1 (Dn lab) with⟨hi,A,C,e,hp,ha,hc⟩|⟨hi,A,o,C,e,hp,h0,ha,hc⟩
 ·rcases hO with⟨h1,_⟩|⟨_,h2,h3,h4,h5,h6⟩
  ·rw [hi] at h1;cases h1
  refine⟨A,C,o1,A2,C2,s2,?_,ha,hc,by rw [CW],by rw [CW],by rw [CW],by rw [CW],.inr ⟨e,h3,h5,h6,h4⟩,by rw [CW],hA2,hC2,by rw [hs'],by rw [hs'];exact hty,hty,by rw [hs'],by rw [hs'],aG5,pD⟩;rw [hos,h2,hp,e,Ho,UG]
 rcases hO with⟨_,h2,h3,h4⟩|⟨h1,_⟩
 ·have e1:o1=o:=by
   rw [hp,e,List.getElem?_append_right (aN _)] at h3;simp at h3;exact h3.symm
  subst e1;refine⟨A,C,o1,A2,C2,s2,?_,ha,hc,by rw [CW],by rw [CW],by rw [CW],by rw [CW],.inl ⟨e,h4⟩,by rw [CW],hA2,hC2,by rw [hs'],by rw [hs'];exact hty,hty,by rw [hs'],by rw [hs'],aG5,pD⟩;rw [hos,h2,hp,e,UG]
 rw [hi] at h1;cases h1
structure aPq (l:List It) (x:It) (lv:Value) (os os':List eZ) (o':eZ) (s':tZ) (fO:Bool):Prop where
 inv:tO (l++[x]) os'
 CQ:o'∈os'∧DW o'.lab x
 isSet:s'∈o'.ss∧s'.ty=x.r.ty
 nw:fO=true↔ ∀ y∈l,¬Sw (gH x) x.r.ty x.dt y
 kept:∀ o∈os,∃ q∈os',q.dL=o.dL∧q.lab=o.lab∧q.lv=o.lv∧∀ s∈o.ss,∃ t∈q.ss,t.dL=s.dL∧t.ty=s.ty
 uS:∀ q∈os',(∃ o∈os,q.lv=o.lv∧q.lab=o.lab)∨(q.lv=lv∧q.lab=gH x)
theorem jR{α:Type}{A C:List α}{x q:α}(h:q∈A++x::C):q=x∨q∈A∨q∈C:=by
 rcases jS h with h|h
 ·exact .inr (.inl h)
 rcases List.mem_cons.1 h with h|h
 ·exact .inl h
 exact .inr (.inr h)
theorem aPr{l:List It}{x:It}{lv:Value}{os os':List eZ}{o':eZ}{s':tZ}{fO:Bool}(hI:tO l os)(h:aPp x.r.own lv (gH x) x.r.ty x.r.tt l.length x.dt x.r.da os os' o' s' fO):aPq l x lv os os' o' s' fO:=by
 obtain⟨A,C,o1,A2,C2,s2,eos,hA,hC,eb,el,en,ev,hO,ess,hA2,hC2,sb,st,st2,sf,stt,hS,hD⟩:=h.spl
 have aG6:Nm.bJ o1.lab (gH x)=0:=by
  rcases hO with⟨_,h1⟩|⟨_,h1,_⟩
  ·exact h1
  rw [h1];exact xC _
 have isO:∀ y,DW o1.lab y↔DW (gH x) y:=fun y=>by rw [DW,DW,dN aG6]
 have nz:∀ o,(o∈A∨o∈C)->Nm.bJ o.lab (gH x)≠0:=fun o ho=>by
  rcases ho with ho|ho
  ·have:=hA o ho;omega
  have:=hC o ho;omega
 have nt:∀ s,(s∈A2∨s∈C2)->s.ty≠x.r.ty:=fun s hs=>by
  rcases hs with hs|hs
  ·have:=hA2 s hs;omega
  have:=hC2 s hs;omega
 have acO:∀ o,(o∈A∨o∈C)->o∈os:=fun o ho=>by
  rcases hO with⟨e,_⟩|⟨e,_⟩<;>rw [e]<;>rcases ho with ho|ho<;>simp [ho]
 have acS:∀ s,(s∈A2∨s∈C2)->s∈o1.ss:=fun s hs=>by
  rcases hS with e|⟨e,_⟩<;>rw [e]<;>rcases hs with hs|hs<;>simp [hs]
 have aTi:o1.ss≠[]->o1∈os:=fun dQ=>by
  rcases hO with⟨e,_⟩|⟨_,_,_,h1,_⟩
  ·rw [e];simp
  exact absurd h1 dQ
 have mne:∀ {s:tZ},s∈o1.ss->o1∈os:=fun hs=>aTi (List.ne_nil_of_mem hs)
 have aNf:∀ y∈l,DW (gH x) y->o1∈os∧∃ s∈o1.ss,s.ty=y.r.ty∧∃ p∈s.da,p.1=y.dt:=by
  intro y hy h1;obtain⟨o,ho,h2,s,hs,h3,p,hp,h4⟩:=hI.cov y hy;have h5:Nm.bJ o.lab (gH x)=0:=by rw [<- gM h2];exact h1
  rcases hO with⟨e,_⟩|⟨e,_⟩
  ·rw [e] at ho
   rcases jR ho with rfl|ho
   ·exact⟨by rw [e];simp,s,hs,h3,p,hp,h4⟩
   exact absurd h5 (nz o ho)
  rw [e] at ho;exact absurd h5 (nz o (jS ho))
 have aPs:∀ y∈l,OfS (gH x) x.r.ty y->o1.ss=A2++s2::C2∧∃ p∈s2.da,p.1=y.dt:=by
  intro y hy h1;obtain⟨_,s,hs,h3,hp⟩:=aNf y hy h1.1;rw [h1.2] at h3
  rcases hS with e|⟨e,_⟩
  ·rw [e] at hs
   rcases jR hs with rfl|hs
   ·exact⟨e,hp⟩
   exact absurd h3 (nt s hs)
  rw [e] at hs;exact absurd h3 (nt s (jS hs))
 have aTj:∀ y∈l,Sw (gH x) x.r.ty x.dt y->fO=false:=by
  intro y hy h1;obtain⟨_,p,hp,h3⟩:=aPs y hy h1.1;rw [h1.2] at h3;have h0:Nm.iD p.1.data.toList x.dt.data.toList=0:=Dq.2 h3
  rcases hD with⟨h4,_⟩|⟨_,A3,C3,e,_,ha,hc⟩
  ·exact h4
  rw [e] at hp
  rcases jS hp with hp|hp
  ·have:=ha p hp;omega
  have:=hc p hp;omega
 have aPt:s2.da≠[]->s2∈o1.ss:=fun dQ=>by
  rcases hS with e|⟨_,_,_,e⟩
  ·rw [e];simp
  exact absurd e dQ
 have nw:fO=true↔ ∀ y∈l,¬Sw (gH x) x.r.ty x.dt y:=by
  constructor
  ·intro h1 y hy h2;rw [aTj y hy h2] at h1;cases h1
  intro h1
  rcases hD with⟨_,_,p,hp,h3⟩|⟨h2,_⟩
  ·exfalso
   have hs:=aPt (List.ne_nil_of_mem hp);obtain⟨i,y,hy,_⟩:=hI.dat o1 (mne hs) s2 hs p hp;obtain⟨⟨z1,z2⟩,z3⟩:=hy.2.1;exact h1 y hy.mem ⟨⟨(isO y).1 z1,by rw [z2,st2]⟩,by rw [z3,h3]⟩
  exact h2
 have sub3:∀ p∈s2.da,p∈s'.da:=fun p hp=>by
  rcases hD with⟨_,e,_⟩|⟨_,A3,C3,e,e',_⟩
  ·rw [e];exact hp
  rw [e'];rw [e] at hp
  rcases jS hp with hp|hp<;>simp [hp]
 have xp:∃ p∈s'.da,p.1=x.dt:=by
  rcases hD with⟨_,e,p,hp,h3⟩|⟨_,A3,C3,e,e',_⟩
  ·exact⟨p,by rw [e];exact hp,h3⟩
  exact⟨(x.dt,x.r.da),by rw [e'];simp,rfl⟩
 have o'm:o'∈os':=by rw [eos];simp
 have s'm:s'∈o'.ss:=by rw [ess];simp
 have aPu:∀ o,(o∈A∨o∈C)->o∈os':=fun o ho=>by rw [eos];rcases ho with ho|ho<;>simp [ho]
 have aNg:∀ s,(s∈A2∨s∈C2)->s∈o'.ss:=fun s hs=>by rw [ess];rcases hs with hs|hs<;>simp [hs]
 have CQ:DW o'.lab x:=by rw [DW,el];exact Xy aG6
 have aKo:Ji o1.ss∧∀ s∈o1.ss,DaS s.da:=by
  rcases hO with⟨e,_⟩|⟨_,_,_,h1,_⟩
  ·exact hI.sorted.2 o1 (by rw [e];simp)
  rw [h1];exact⟨List.Pairwise.nil,by simp⟩
 have aPv:DaS s2.da:=by
  rcases hS with e|⟨_,_,_,e⟩
  ·exact aKo.2 s2 (by rw [e];simp)
  rw [e];exact List.Pairwise.nil
 have ow:OwS os':=by
  rw [eos];refine XK ?_ (fun a ha=>?_) fun c hc=>?_
  ·rcases hO with⟨e,_⟩|⟨e,_⟩
   ·exact Dv (by rw [<- e];exact hI.sorted.1)
   rw [<- e];exact hI.sorted.1
  ·rw [el,dN aG6];exact hA a ha
  rw [el,gM aG6,gF c.lab];have:=hC c hc;omega
 have se:Ji o'.ss:=by
  rw [ess];refine XK ?_ (fun a ha=>by rw [st];exact hA2 a ha) (fun c hc=>by rw [st];exact hC2 c hc)
  rcases hS with e|⟨e,_⟩
  ·exact Dv (by rw [<- e];exact aKo.1)
  rw [<- e];exact aKo.1
 have da:DaS s'.da:=by
  rcases hD with⟨_,e,_⟩|⟨_,A3,C3,e,e',ha,hc⟩
  ·rw [e];exact aPv
  rw [e'];refine XK (by rw [<- e];exact aPv) ha fun c h1=>?_;rw [qX c.1.data.toList];have:=hc c h1;simp only
  omega
 have l1:os'.length<=os.length+1:=by
  rw [eos]
  rcases hO with⟨e,_⟩|⟨e,_⟩<;>rw [e]<;>simp<;>omega
 have l2:o'.ss.length<=o1.ss.length+1:=by
  rw [ess]
  rcases hS with e|⟨e,_⟩<;>rw [e]<;>simp<;>omega
 have l3:s'.da.length<=s2.da.length+1:=by
  rcases hD with⟨_,e,_⟩|⟨_,A3,C3,e,e',_⟩
  ·rw [e];omega
  rw [e',e];simp;omega
 have l4:o1.ss.length<=l.length∧∀ s∈o1.ss,s.da.length<=l.length:=by
  rcases hO with⟨e,_⟩|⟨_,_,_,h1,_⟩
  ·exact hI.len.2 o1 (by rw [e];simp)
  rw [h1];simp
 have l5:s2.da.length<=l.length:=by
  rcases hS with e|⟨_,_,_,e⟩
  ·exact l4.2 s2 (by rw [e];simp)
  rw [e];simp
 have hll:(l++[x]).length=l.length+1:=by simp
 refine⟨⟨⟨ow,fun q hq=>?_⟩,⟨by have:=hI.len.1;omega,fun q hq=>?_⟩,fun q hq=>?_,fun q hq s hs=>?_,fun q hq s hs p hp=>?_,fun y hy=>?_⟩,⟨o'm,CQ⟩,⟨s'm,st⟩,nw,fun o ho=>?_,fun q hq=>?_⟩
 ·rw [eos] at hq
  rcases jR hq with rfl|hq
  ·refine⟨se,fun s hs=>?_⟩;rw [ess] at hs
   rcases jR hs with rfl|hs
   ·exact da
   exact aKo.2 s (acS s hs)
  exact hI.sorted.2 q (acO q hq)
 ·rw [eos] at hq
  rcases jR hq with rfl|hq
  ·refine⟨by omega,fun s hs=>?_⟩;rw [ess] at hs
   rcases jR hs with rfl|hs
   ·omega
   have:=l4.2 s (acS s hs);omega
  have h1:=hI.len.2 q (acO q hq);exact⟨by omega,fun s hs=>by have:=h1.2 s hs;omega⟩
 ·rw [eos] at hq
  rcases jR hq with rfl|hq
  ·rcases hO with⟨e,_⟩|⟨e,h1,h2,h3,_⟩
   ·obtain⟨i,y,h1,h2,h3⟩:=hI.own o1 (by rw [e];simp);exact⟨i,y,by rw [el];exact h1.snoc x,by rw [en,h2],by rw [el,h3]⟩
   refine⟨l.length,x,iU.new (fun y hy h4=>?_) CQ,by rw [en,h2],by rw [el,h1]⟩;rw [el,isO] at h4;obtain⟨_,s,hs,_⟩:=aNf y hy h4;rw [h3] at hs;cases hs
  obtain⟨i,y,h1,h2⟩:=hI.own q (acO q hq);exact⟨i,y,h1.snoc x,h2⟩
 ·rw [eos] at hq
  rcases jR hq with rfl|hq
  ·rw [ess] at hs
   rcases jR hs with rfl|hs
   ·rcases hS with e|⟨e,h1,h2,h3⟩
    ·have hm:s2∈o1.ss:=by rw [e];simp
     obtain⟨y,h1,h2⟩:=hI.set o1 (mne hm) s2 hm;exact⟨y,by rw [el,st,sf,<- st2];exact h1.snoc x,by rw [stt,h2]⟩
    refine⟨x,?_,by rw [stt,h1]⟩;rw [sf,h2];refine iU.new (fun y hy h4=>?_) ⟨CQ,st.symm⟩;rw [el,st] at h4;have h5:=(aPs y hy ⟨(isO y).1 h4.1,h4.2⟩).1;rw [e] at h5;have h6:s2∈A2++C2:=by rw [h5];simp
    exact nt s2 (jS h6) st2
   obtain⟨y,h1,h2⟩:=hI.set o1 (mne (acS s hs)) s (acS s hs);exact⟨y,by rw [el];exact h1.snoc x,h2⟩
  obtain⟨y,h1,h2⟩:=hI.set q (acO q hq) s hs;exact⟨y,h1.snoc x,h2⟩
 ·rw [eos] at hq
  rcases jR hq with rfl|hq
  ·rw [ess] at hs
   rcases jR hs with rfl|hs
   ·have WE:p∈s2.da∨(fO=true∧p=(x.dt,x.r.da)):=by
     rcases hD with⟨_,e,_⟩|⟨h1,A3,C3,e,e',_⟩
     ·rw [e] at hp;exact .inl hp
     rw [e'] at hp
     rcases jR hp with h2|h2
     ·exact .inr ⟨h1,h2⟩
     rw [e];exact .inl (List.mem_append.2 h2)
    rcases WE with hp|⟨h1,rfl⟩
    ·have hm:=aPt (List.ne_nil_of_mem hp);obtain⟨i,y,h1,h2⟩:=hI.dat o1 (mne hm) s2 hm p hp;exact⟨i,y,by rw [el,st,<- st2];exact h1.snoc x,h2⟩
    refine⟨l.length,x,iU.new (fun y hy h4=>?_) ⟨⟨CQ,st.symm⟩,rfl⟩,rfl⟩;rw [el,st] at h4;exact nw.1 h1 y hy ⟨⟨(isO y).1 h4.1.1,h4.1.2⟩,h4.2⟩
   obtain⟨i,y,h1,h2⟩:=hI.dat o1 (mne (acS s hs)) s (acS s hs) p hp;exact⟨i,y,by rw [el];exact h1.snoc x,h2⟩
  obtain⟨i,y,h1,h2⟩:=hI.dat q (acO q hq) s hs p hp;exact⟨i,y,h1.snoc x,h2⟩
 ·rcases jS hy with hy|hy
  ·obtain⟨o,ho,h2,s,hs,h3,p,hp,h4⟩:=hI.cov y hy
   by_cases hoo:Nm.bJ o.lab (gH x)=0
   ·have h5:DW (gH x) y:=by rw [DW,gM h2];exact hoo
    obtain⟨hm,s,hs,h3,p,hp,h4⟩:=aNf y hy h5;refine⟨o',o'm,by rw [el];exact(isO y).2 h5,?_⟩
    rcases hS with e|⟨e,_⟩
    ·rw [e] at hs
     rcases jR hs with rfl|hs
     ·exact⟨s',s'm,by rw [st,<- st2,h3],p,sub3 p hp,h4⟩
     exact⟨s,aNg s hs,h3,p,hp,h4⟩
    rw [e] at hs;exact⟨s,aNg s (jS hs),h3,p,hp,h4⟩
   have hm:o∈A∨o∈C:=by
    rcases hO with⟨e,_⟩|⟨e,_⟩
    ·rw [e] at ho
     rcases jR ho with rfl|ho
     ·exact absurd aG6 hoo
     exact ho
    rw [e] at ho;exact jS ho
   exact⟨o,aPu o hm,h2,s,hs,h3,p,hp,h4⟩
  obtain rfl:=List.mem_singleton.1 hy;obtain⟨p,hp,h1⟩:=xp;exact⟨o',o'm,CQ,s',s'm,st,p,hp,h1⟩
 ·have hm:o=o1∨o∈A∨o∈C:=by
   rcases hO with⟨e,_⟩|⟨e,_⟩
   ·rw [e] at ho;exact jR ho
   rw [e] at ho;exact .inr (jS ho)
  rcases hm with rfl|hm
  ·refine⟨o',o'm,eb,el,ev,fun s hs=>?_⟩
   have hm2:s=s2∨s∈A2∨s∈C2:=by
    rcases hS with e|⟨e,_⟩
    ·rw [e] at hs;exact jR hs
    rw [e] at hs;exact .inr (jS hs)
   rcases hm2 with rfl|hm2
   ·exact⟨s',s'm,sb,by rw [st,st2]⟩
   exact⟨s,aNg s hm2,rfl,rfl⟩
  exact⟨o,aPu o hm,rfl,rfl,rfl,fun s hs=>⟨s,hs,rfl,rfl⟩⟩
 rw [eos] at hq
 rcases jR hq with rfl|hq
 ·rcases hO with⟨e,_⟩|⟨_,h1,_,_,h2⟩
  ·exact .inl ⟨o1,by rw [e];simp,ev,el⟩
  exact .inr ⟨by rw [ev,h2],by rw [el,h1]⟩
 exact .inl ⟨q,acO q hq,rfl,rfl⟩
def zC:List ByteArray->List ByteArray->Bool
 |[],_=>true
 |_::_,[]=>false
 |x::a,y::b=>decide (Nm.jA x y=0)&&zC a b
theorem Qh:∀ (a c:List ByteArray),zC a c=(decide (a.length<=c.length)&&decide (Nm.dV (c.take a.length) a=0))
 |[],c=>by simp [zC,Nm.dV]
 |x::a,[]=>by simp [zC]
 |x::a,y::c=>by
  have e:Nm.jA y x=0↔Nm.jA x y=0:=by rw [GL x y];omega
  rw [zC,Qh a c];simp only [List.length_cons,List.take_succ_cons,Nm.dV]
  by_cases h:Nm.jA x y=0
  ·simp [h,e.2 h]
  have h':¬Nm.jA y x=0:=fun z=>h (e.1 z)
  simp [h,h']
theorem PZ(xs ys:List ByteArray):dZ xs ys=zC ys.reverse xs.reverse:=by
 rw [Qh,dZ,List.length_reverse,List.length_reverse,Nm.bJ]
 by_cases h:ys.length<=xs.length
 ·have e:(xs.drop (xs.length-ys.length)).reverse=xs.reverse.take ys.length:=by
   rw [List.take_reverse]
  rw [e]
 rw [jU h,Bool.false_and,Bool.false_and]
theorem Qi:∀ (a b c:List ByteArray),zC a c=true->Nm.dV a b<=0->Nm.dV b c<=0->zC a b=true
 |[],b,c,_,_,_=>by simp [zC]
 |x::a,b,[],h,_,_=>by simp [zC] at h
 |x::a,[],z::c,h,h1,_=>by simp [Nm.dV] at h1
 |x::a,y::b,z::c,h,h1,h2=>by
  simp only [zC,Bool.and_eq_true,decide_eq_true_eq] at h ⊢;obtain⟨h3,h4⟩:=h;rw [Nm.dV] at h1 h2;have e1:=(zP h3 y).2;have e2:=GL x y
  by_cases TU:Nm.jA x y=0
  ·rw [if_pos TU] at h1;rw [if_pos (by omega)] at h2;exact⟨TU,Qi a b c h4 h1 h2⟩
  rw [if_neg TU] at h1;rw [if_neg (by omega)] at h2;omega
theorem XL:∀ (a b c:List ByteArray),zC a b=true->zC b c=true->zC a c=true
 |[],b,c,_,_=>by simp [zC]
 |x::a,[],c,h,_=>by simp [zC] at h
 |x::a,y::b,[],_,h=>by simp [zC] at h
 |x::a,y::b,z::c,h1,h2=>by
  simp only [zC,Bool.and_eq_true,decide_eq_true_eq] at h1 h2 ⊢;exact⟨by rw [(zP h1.1 z).1];exact h2.1,XL a b c h1.2 h2.2⟩
theorem aA0:∀ (a c:List ByteArray),zC a c=true->Nm.dV a c<=0
 |[],[],_=>by simp [Nm.dV]
 |[],y::c,_=>by simp [Nm.dV]
 |x::a,[],h=>by simp [zC] at h
 |x::a,y::c,h=>by
  simp only [zC,Bool.and_eq_true,decide_eq_true_eq] at h;rw [Nm.dV,if_pos h.1];exact aA0 a c h.2
theorem aDz{n t o:List ByteArray}(h:dZ n t=true)(h1:Nm.bJ t o<0)(h2:Nm.bJ o n<0):dZ o t=true:=by
 rw [PZ] at h ⊢;exact Qi _ _ _ h (by rw [Nm.bJ] at h1;omega) (by rw [Nm.bJ] at h2;omega)
theorem Qj{a b c:List ByteArray}(h1:dZ a b=true)(h2:dZ b c=true):dZ a c=true:=by
 rw [PZ] at h1 h2 ⊢;exact XL _ _ _ h2 h1
theorem aG7{a b:List ByteArray}(h:dZ a b=true):Nm.bJ b a<=0:=by
 rw [PZ] at h;exact aA0 _ _ h
theorem aD0{a b:List ByteArray}(h:dZ a b=true):b.length<a.length↔Nm.bJ a b≠0:=by
 simp only [dZ,Bool.and_eq_true,decide_eq_true_eq] at h;constructor
 ·intro h1 h2;have:=Qg h2;omega
 intro h1
 rcases Nat.lt_or_eq_of_le h.1 with h2|h2
 ·exact h2
 exfalso
 apply h1;have:=h.2;rw [h2,Nat.sub_self,List.drop_zero] at this;exact this
def vE(o:eZ):Bool:=kL (fE 39) o.ss
def qE(acc:Option eZ×List eZ)(o:eZ):Option eZ×List eZ:=match acc.1 with
 |some q=>if dZ o.lab q.lab then(some q,acc.2++[o]) else if vE o then(some o,acc.2) else(some q,acc.2)
 |none=>if vE o then(some o,acc.2) else(none,acc.2)
def iI(os:List eZ):Option eZ×List eZ:=os.foldl qE (none,[])
theorem AA(os:List eZ)(o:eZ):iI (os++[o])=qE (iI os) o:=by simp [iI,List.foldl_append]
structure aG8 (pre:List eZ):Prop where
 tail:∀ q,(iI pre).1=some q->q∈pre∧vE q=true
 out:∀ o∈pre,(o∈(iI pre).2↔ ∃ q∈pre,vE q=true∧Nm.bJ o.lab q.lab≠0∧dZ o.lab q.lab=true)
 sub:∀ o∈(iI pre).2,o∈pre
 cov:∀ q∈pre,vE q=true->∃ t,(iI pre).1=some t∧∀ n,(∀ p∈pre,Nm.bJ p.lab n<0)->dZ n q.lab=true->dZ n t.lab=true
theorem NC{α:Type}{P:List α->Prop}(h0:P [])(h1:∀ l a,P l->P (l++[a]))(l:List α):P l:=by
 have h:∀ m:List α,P m.reverse:=by
  intro m
  induction m with
  |nil=>exact h0
  |cons a m ih=>rw [List.reverse_cons];exact h1 _ _ ih
 have h2:=h l.reverse
 rwa [List.reverse_reverse] at h2
theorem aA1:∀ (pre:List eZ),OwS pre->aG8 pre:=by
 refine NC (P:=fun pre=>OwS pre->aG8 pre) ?_ ?_
 ·intro _;exact⟨by simp [iI],by simp,by simp [iI],by simp⟩
 intro pre o ih hs;obtain⟨nJ,_,oI⟩:=List.pairwise_append.1 hs;have bV:∀ p∈pre,Nm.bJ p.lab o.lab<0:=fun p hp=>oI p hp o (by simp)
 have I:=ih nJ
 have dQ:∀ p∈pre,p≠o:=fun p hp e=>by
  have:=bV p hp;rw [e,xC] at this;omega
 have up:∀ p∈pre,dZ p.lab o.lab=false:=fun p hp=>by
  cases h:dZ p.lab o.lab
  ·rfl
  have h1:=aG7 h;have h2:=bV p hp;have h3:=gF p.lab o.lab;omega
 have strict:∀ q∈pre,Nm.bJ o.lab q.lab≠0:=fun q hq=>by have h1:=bV q hq;have h2:=gF q.lab o.lab;omega
 have key:(∃ q∈pre,vE q=true∧dZ o.lab q.lab=true)↔ ∃ t,(iI pre).1=some t∧dZ o.lab t.lab=true:=by
  constructor
  ·rintro⟨q,hq,h1,h2⟩
   obtain⟨t,ht,h3⟩:=I.cov q hq h1;exact⟨t,ht,h3 o.lab bV h2⟩
  rintro⟨t,ht,h2⟩
  exact⟨t,(I.tail t ht).1,(I.tail t ht).2,h2⟩
 have outs:∀ (p:eZ) (t':Option eZ) (out':List eZ),p∈pre->(p∈out'↔p∈(iI pre).2)->(p∈out'↔ ∃ q∈pre++[o],vE q=true∧Nm.bJ p.lab q.lab≠0∧dZ p.lab q.lab=true):=by
  intro p t' out' hp he;rw [he,I.out p hp];constructor
  ·rintro⟨q,hq,h⟩;exact⟨q,by simp [hq],h⟩
  rintro⟨q,hq,h1,h2,h3⟩
  rcases jS hq with hq|hq
  ·exact⟨q,hq,h1,h2,h3⟩
  obtain rfl:=List.mem_singleton.1 hq;rw [up p hp] at h3;cases h3
 by_cases hk:∃ q∈pre,vE q=true∧dZ o.lab q.lab=true
 ·obtain⟨t,ht,hu⟩:=key.1 hk
  have e:iI (pre++[o])=(some t,(iI pre).2++[o]):=by
   rw [AA,qE,ht];simp [hu]
  refine⟨fun q hq=>?_,fun p hp=>?_,fun p hp=>?_,fun q hq h1=>?_⟩
  ·rw [e] at hq;obtain rfl:=gQ hq;exact⟨by simp [(I.tail t ht).1],(I.tail t ht).2⟩
  ·rw [e]
   rcases jS hp with hp|hp
   ·exact outs p none _ hp (by simp [dQ p hp])
   obtain rfl:=List.mem_singleton.1 hp;refine⟨fun _=>?_,fun _=>by simp⟩;obtain⟨q,hq,h1,h2⟩:=hk;exact⟨q,by simp [hq],h1,strict q hq,h2⟩
  ·rw [e] at hp
   rcases jS hp with hp|hp
   ·simp [I.sub p hp]
   simp at hp;simp [hp]
  rw [e];refine⟨t,rfl,fun n hn h2=>?_⟩
  rcases jS hq with hq|hq
  ·obtain⟨t2,ht2,h3⟩:=I.cov q hq h1;rw [ht] at ht2;obtain rfl:=gQ ht2;exact h3 n (fun p hp=>hn p (by simp [hp])) h2
  obtain rfl:=List.mem_singleton.1 hq;exact Qj h2 hu
 have lT:¬∃ t,(iI pre).1=some t∧dZ o.lab t.lab=true:=fun h=>hk (key.2 h)
 have e2:(iI (pre++[o])).2=(iI pre).2∧(iI (pre++[o])).1=if vE o then some o else(iI pre).1:=by
  rw [AA,qE]
  cases ht:(iI pre).1 with
  |none=>cases h:vE o<;>simp
  |some t=>
   have hu:dZ o.lab t.lab=false:=by
    cases h:dZ o.lab t.lab
    ·rfl
    exact absurd ⟨t,ht,h⟩ lT
   cases h:vE o<;>simp [hu]
 refine⟨fun q hq=>?_,fun p hp=>?_,fun p hp=>?_,fun q hq h1=>?_⟩
 ·rw [e2.2] at hq
  by_cases h:vE o=true
  ·rw [if_pos h] at hq;obtain rfl:=gQ hq;exact⟨by simp,h⟩
  rw [if_neg h] at hq;exact⟨by simp [(I.tail q hq).1],(I.tail q hq).2⟩
 ·rw [e2.1]
  rcases jS hp with hp|hp
  ·exact outs p none _ hp Iff.rfl
  obtain rfl:=List.mem_singleton.1 hp;constructor
  ·intro h1;exact absurd rfl (dQ _ (I.sub _ h1))
  rintro⟨q,hq,h1,h2,h3⟩
  rcases jS hq with hq|hq
  ·exact absurd ⟨q,hq,h1,h3⟩ hk
  obtain rfl:=List.mem_singleton.1 hq;exact absurd (xC _) h2
 ·rw [e2.1] at hp;simp [I.sub p hp]
 rw [e2.2]
 by_cases h:vE o=true
 ·rw [if_pos h];refine⟨o,rfl,fun n hn h2=>?_⟩
  rcases jS hq with hq|hq
  ·exfalso
   refine hk ⟨q,hq,h1,aDz h2 (bV q hq) (hn o (by simp))⟩
  obtain rfl:=List.mem_singleton.1 hq;exact h2
 rw [if_neg h]
 rcases jS hq with hq|hq
 ·obtain⟨t,ht,h3⟩:=I.cov q hq h1;exact⟨t,ht,fun n hn=>h3 n (fun p hp=>hn p (by simp [hp]))⟩
 obtain rfl:=List.mem_singleton.1 hq;exact absurd h1 h
theorem XM{x y:It}(hx:gB x)(hy:gB y):lV x y=true↔OfS (gH x) x.r.ty y:=by
 simp only [lV,Bool.and_eq_true,decide_eq_true_eq,OfS,DW];rw [sI hy hx]
theorem ND{l:List It}{x:It}(hl:∀ y∈l,gB y)(hx:gB x):jI l x=true↔ ∃ y∈l,Sw (gH x) x.r.ty x.dt y:=by
 rw [jI,List.any_eq_true];constructor
 ·rintro⟨y,hy,h⟩
  simp only [Bool.and_eq_true,decide_eq_true_eq] at h;exact⟨y,hy,(XM hx (hl y hy)).1 h.1,h.2⟩
 rintro⟨y,hy,h⟩
 refine⟨y,hy,?_⟩;simp only [Bool.and_eq_true,decide_eq_true_eq];exact⟨(XM hx (hl y hy)).2 h.1,h.2⟩
def XN(l:List It)(i:Nat):Bool:=match l[i]? with
 |some x=> !jI (l.take i) x
 |none=>false
structure TF (l:List It) (os:List eZ) (ks:List Ld):Prop where
 ats:ks.map (·.at_)=(List.range l.length).filter (XN l)
 ok:∀ k∈ks,∃ x,l[k.at_]? =some x∧k.ty=x.r.ty∧∃ o∈os,o.dL=k.ob∧DW o.lab x∧∃ s∈o.ss,s.dL=k.sb∧s.ty=x.r.ty
theorem TF.nil:TF [] [] []:=⟨rfl,by simp⟩
theorem TF.len{l:List It}{os:List eZ}{ks:List Ld}(h:TF l os ks):ks.length<=l.length:=by
 have:=congrArg List.length h.ats;rw [List.length_map] at this;rw [this];exact iL (List.length_filter_le _ _) (by simp)
theorem TF.step{l:List It}{x:It}{lv:Value}{os os':List eZ}{o':eZ}{s':tZ}{fO:Bool}{ks:List Ld}(h:TF l os ks)(hl:∀ y∈l,gB y)(hx:gB x)(hR:aPq l x lv os os' o' s' fO):
 TF (l++[x]) os' (if fO=true then ks++[⟨l.length,x.r.ty,o'.dL,s'.dL⟩] else ks):=by
 have aKp:fO= !jI l x:=by
  have h1:=hR.nw;have h2:=ND hl hx
  cases hd:jI l x with
  |true=>
   obtain⟨y,hy,h3⟩:=h2.1 hd;cases hi:fO
   ·rfl
   exact absurd h3 (h1.1 hi y hy)
  |false=>
   refine h1.2 fun y hy h3=>?_;have:=h2.2 ⟨y,hy,h3⟩;rw [hd] at this;cases this
 have aPw:(List.range (l++[x]).length).filter (XN (l++[x]))=(List.range l.length).filter (XN l)++(if fO=true then [l.length] else []):=by
  rw [nG,List.length_singleton,List.range_succ,List.filter_append];congr 1
  ·apply List.filter_congr;intro i hi;have Jg:i<l.length:=by simpa using hi
   rw [XN,XN,List.getElem?_append_left Jg,List.take_append_of_le_length (by omega)]
  rw [List.filter_cons,XN,List.getElem?_append_right (aN _),List.take_left']
  ·simp only [Nat.sub_self,List.getElem?_cons_zero,aKp];cases jI l x<;>rfl
  rfl
 have old:∀ k∈ks,∃ z,(l++[x])[k.at_]? =some z∧k.ty=z.r.ty∧∃ o∈os',o.dL=k.ob∧DW o.lab z∧∃ s∈o.ss,s.dL=k.sb∧s.ty=z.r.ty:=by
  intro k hk;obtain⟨z,h1,h2,o,ho,h3,h4,s,hs,h5,h6⟩:=h.ok k hk;obtain⟨q,hq,q1,q2,_,q3⟩:=hR.kept o ho;obtain⟨t,ht,t1,t2⟩:=q3 s hs;exact⟨z,by rw [List.getElem?_append_left (dK h1).1];exact h1,h2,q,hq,by rw [q1,h3],by rw [q2];exact h4,t,ht,by rw [t1,h5],by rw [t2,h6]⟩
 cases hi:fO
 ·refine⟨?_,by simpa [hi] using old⟩;rw [aPw,hi];simp [h.ats]
 refine⟨?_,fun k hk=>?_⟩
 ·rw [aPw,hi];simp [h.ats]
 simp only [if_true,List.mem_append,List.mem_singleton] at hk
 rcases hk with hk|rfl
 ·exact old k hk
 exact⟨x,by simp,rfl,o',hR.CQ.1,rfl,hR.CQ.2,s',hR.isSet.1,rfl,hR.isSet.2⟩
def QA(l:List It)(p:Nat->It->Bool)(k:Ld):Bool:=match l[k.at_]? with
 |some x=>p k.at_ x
 |none=>false
theorem Qk{α:Type}{p q:α->Bool}:∀ {l:List α},(∀ x∈l,p x=q x)->l.find? p=l.find? q:=by
 intro l
 induction l with
 |nil=>intro _;rfl
 |cons x l ih=>
  intro h;rw [List.find?_cons,List.find?_cons,h x (by simp),ih (fun y hy=>h y (by simp [hy]))]
theorem aG9{l:List It}{os:List eZ}{ks:List Ld}(hK:TF l os ks)(hl:∀ y∈l,gB y)(p:Nat->It->Bool)(hp:∀ i x,x.out=true->p i x=false)(code:Int):
 zY (QA l p) code ks=match bL p (zB l) with
  |some i=>.tuple #[.int .i64 code,.int .i64 (i:Int)]
  |none=>.tuple #[.int .i64 0,.int .i64 0]:=by
 have e:bL p (zB l)=(ks.find? (QA l p)).map (·.at_):=by
  have e1:ks.find? (QA l p)=ks.find? ((fun i=>match l[i]? with|some x=>p i x|none=>false)∘(·.at_)):=rfl;rw [e1,<- List.find?_map,hK.ats,List.find?_filter,bL,iM];apply Qk;intro i hi;have Jg:i<l.length:=by simpa using hi
  have hx:l[i]? =some l[i]:=bY Jg;rw [jJ hx,XN,hx];have hg:=hl l[i] (bP hx);simp only
  by_cases hd:jI (l.take i) l[i]=true
  ·rw [hp i (iQ (jI (l.take i) l[i]) l[i]) (by simp [iQ,hd])];simp [hd]
  have ZE:jI (l.take i) l[i]=false:=by simpa using hd
  have:iQ (jI (l.take i) l[i]) l[i]=l[i]:=by rw [ZE];simp [iQ]
  rw [this];simp [ZE]
 rw [e,zY]
 cases ks.find? (QA l p) with
 |none=>rfl
 |some x=>rfl
theorem uN{l:List It}(hl:∀ y∈l,gB y)(i:Nat)(fo:ByteArray)(t:Int):fH ((zB l).take i) fo t=true↔ ∃ (j:Nat) (y:It),j<i∧l[j]? =some y∧y.fo=fo∧y.r.ty=t:=by
 rw [fH,List.any_eq_true];constructor
 ·rintro⟨z,hz,h⟩
  obtain⟨j,hj⟩:=List.getElem?_of_mem hz;have LU:=(dK hj).1;rw [List.length_take,iM] at LU;rw [List.getElem?_take_of_lt (by omega)] at hj;have hx:l[j]? =some l[j]:=bY (by omega);rw [jJ hx] at hj;obtain rfl:=gQ hj;simp only [iQ,Bool.and_eq_true] at h;exact⟨j,l[j],by omega,hx,of_decide_eq_true h.1.2,of_decide_eq_true h.2⟩
 rintro⟨j0,y0,hj0,hy0,h1,h2⟩
 obtain⟨j,y,hF⟩:=iU.ex (P:=fun y:It=>y.fo=fo∧y.r.ty=t) (l:=l.take i) ⟨y0,bP (i:=j0) (by rw [List.getElem?_take_of_lt hj0];exact hy0),h1,h2⟩;have hji:j<i:=by have:=hF.lt;rw [List.length_take] at this;omega
 have hy:l[j]? =some y:=by have:=hF.1;rw [List.getElem?_take_of_lt hji] at this;exact this
 have hd:jI (l.take j) y=false:=by
  cases hd:jI (l.take j) y
  ·rfl
  exfalso
  rw [jI,List.any_eq_true] at hd;obtain⟨z,hz,h⟩:=hd;simp only [lV,Bool.and_eq_true,decide_eq_true_eq] at h;obtain⟨m,hm⟩:=List.getElem?_of_mem hz;have hml:=(dK hm).1;rw [List.length_take] at hml;rw [List.getElem?_take_of_lt (by omega)] at hm;exact hF.2.2 m z (by omega) (by rw [List.getElem?_take_of_lt (by omega)];exact hm) ⟨h.1.1.trans hF.2.1.1,h.1.2.trans hF.2.1.2⟩
 refine⟨y,bP (i:=j) ?_,?_⟩
 ·rw [List.getElem?_take_of_lt hji,jJ hy,hd];simp [iQ]
 have:=(hl y (bP hy)).2.2.2;simp [this,hF.2.1.1,hF.2.1.2]
theorem sJ{l:List It}(hl:∀ y∈l,gB y)(fo:ByteArray)(t:Int):fH (zB l) fo t=true↔ ∃ y∈l,y.fo=fo∧y.r.ty=t:=by
 have h:=uN hl l.length fo t;rw [List.take_of_length_le (by rw [iM];exact aN _)] at h;rw [h];constructor
 ·rintro⟨j,y,_,hy,h1⟩;exact⟨y,bP hy,h1⟩
 rintro⟨y,hy,h1⟩
 obtain⟨j,hj⟩:=List.getElem?_of_mem hy;exact⟨j,y,(dK hj).1,hj,h1⟩
theorem NE{ss:List tZ}(h:Ji ss)(t:Int):kL (fE t) ss=true↔ ∃ s∈ss,s.ty=t:=by
 rcases uM (f:=fE t) h (Dp t) with⟨hi,A,C,e,hp,ha,hc⟩|⟨hi,A,o,C,e,hp,h0,ha,hc⟩
 ·rw [hi];refine Iff.intro (fun h=>by cases h) fun h9=>?_;obtain⟨s,hs,h1⟩:=h9;have h0:fE t s=0:=Du.2 h1;rw [e] at hs
  rcases jS hs with hs|hs
  ·have:=ha s hs;omega
  have:=hc s hs;omega
 rw [hi];exact⟨fun _=>⟨o,by rw [e];simp,Du.1 h0⟩,fun _=>rfl⟩
theorem aHa{os:List eZ}(h:OwS os∧∀ o∈os,Ji o.ss)(lab:List ByteArray)(t:Int):XB lab t os=true↔ ∃ o∈os,Nm.bJ o.lab lab=0∧∃ s∈o.ss,s.ty=t:=by
 rcases uM (f:=iP lab) h.1 (Dn lab) with⟨hi,A,C,e,hp,ha,hc⟩|⟨hi,A,o,C,e,hp,h0,ha,hc⟩
 ·have e9:XB lab t os=false:=by
   rw [XB]
   cases os[posOf (iP lab) os]? with
   |none=>rfl
   |some o=>rw [hi];rfl
  rw [e9];refine Iff.intro (fun h=>by cases h) fun h9=>?_;obtain⟨q,hq,h1,_⟩:=h9;rw [e] at hq
  rcases jS hq with hq|hq
  ·have:=ha q hq;rw [iP] at this;omega
  have:=hc q hq;rw [iP] at this;omega
 have hg:os[posOf (iP lab) os]? =some o:=by
  rw [hp,e,List.getElem?_append_right (aN _)];simp
 have hm:o∈os:=bP hg;have e9:XB lab t os=kL (fE t) o.ss:=by rw [XB,hg,hi];rfl
 rw [e9,NE (h.2 o hm)];constructor
 ·exact fun h=>⟨o,hm,h0,h⟩
 rintro⟨q,hq,h1,h2⟩
 rw [e] at hq
 rcases jR hq with rfl|hq|hq
 ·exact h2
 ·have:=ha q hq;rw [iP] at this;omega
 have:=hc q hq;rw [iP] at this;omega
theorem tO.sets{l:List It}{os:List eZ}(h:tO l os)(lab:List ByteArray)(t:Int):(∃ o∈os,Nm.bJ o.lab lab=0∧∃ s∈o.ss,s.ty=t)↔ ∃ y∈l,OfS lab t y:=by
 constructor
 ·rintro⟨o,ho,h1,s,hs,h2⟩
  obtain⟨y,hy,_⟩:=h.set o ho s hs;exact⟨y,hy.mem,by rw [DW,<- dN h1];exact hy.2.1.1,by rw [hy.2.1.2,h2]⟩
 rintro⟨y,hy,h1⟩
 obtain⟨o,ho,h2,s,hs,h3,_⟩:=h.cov y hy;exact⟨o,ho,by rw [<- gM h2];exact h1.1,s,hs,by rw [h3,h1.2]⟩
theorem tO.has{l:List It}{os:List eZ}(h:tO l os)(hl:∀ y∈l,gB y){a:ByteArray}{lab:List ByteArray}(ha:Nm.split a=some lab)(t:Int):XB lab t os=fH (zB l) (Nm.cZ a) t:=by
 rw [Bool.eq_iff_iff,aHa ⟨h.sorted.1,fun o ho=>(h.sorted.2 o ho).1⟩,h.sets,sJ hl];constructor
 ·rintro⟨y,hy,h1,h2⟩
  exact⟨y,hy,by rw [(hl y hy).2.1];exact(zZ (hl y hy).1 ha).2 h1,h2⟩
 rintro⟨y,hy,h1,h2⟩
 rw [(hl y hy).2.1] at h1;exact⟨y,hy,(zZ (hl y hy).1 ha).1 h1,h2⟩
theorem tO.one{l:List It}{os:List eZ}(h:tO l os){o q:eZ}(ho:o∈os)(hq:q∈os)(e:Nm.bJ o.lab q.lab=0):o=q:=by
 obtain⟨i,hi⟩:=List.getElem?_of_mem ho;obtain⟨j,hj⟩:=List.getElem?_of_mem hq;have Jg:=dK hi;have Ew:=dK hj;have hp:=List.pairwise_iff_getElem.1 h.sorted.1
 rcases Nat.lt_trichotomy i j with h1|h1|h1
 ·have:=hp i j Jg.1 Ew.1 h1;rw [Jg.2,Ew.2] at this;omega
 ·subst h1;rw [hi] at hj;exact gQ hj
 have:=hp j i Ew.1 Jg.1 h1;rw [Jg.2,Ew.2] at this;have h2:=gF o.lab q.lab;omega
theorem XO{l:List It}{os:List eZ}(hT:tO l os)(hl:∀ y∈l,gB y){i:Nat}{x:It}{o:eZ}{s:tZ}(hx:l[i]? =some x)(ho:o∈os)(Dy:DW o.lab x)(hs:s∈o.ss)(oG:s.ty=x.r.ty):((i:Int) != (s.fi:Int))=fH ((zB l).take i) x.fo x.r.ty:=by
 obtain⟨y,hF,_⟩:=hT.set o ho s hs
 have hle:s.fi<=i:=by
  rcases Nat.lt_or_ge i s.fi with h|h
  ·exact absurd ⟨Dy,oG.symm⟩ (hF.2.2 i x h hx)
  exact h
 rw [Bool.eq_iff_iff,uN hl];have EB:=hl x (bP hx);constructor
 ·intro h;have dQ:s.fi≠i:=by intro e;rw [e] at h;simp at h
  have Jp:=hl y hF.mem;refine⟨s.fi,y,by omega,hF.1,?_,?_⟩
  ·rw [sI Jp EB,dN Dy];exact hF.2.1.1
  rw [hF.2.1.2,oG]
 rintro⟨j,z,hj,hz,h1,h2⟩
 have Vi:=hl z (bP hz);have NF:OfS o.lab s.ty z:=⟨by rw [DW,<- dN Dy];exact(sI Vi EB).1 h1,by rw [h2,oG]⟩
 have:s.fi<=j:=by
  rcases Nat.lt_or_ge j s.fi with h|h
  ·exact absurd NF (hF.2.2 j z h hz)
  exact h
 rw [bne_iff_ne];omega
theorem aHb{l:List It}{os:List eZ}(hT:tO l os)(hl:∀ y∈l,gB y){aM:ByteArray}{al:List ByteArray}(ha:Nm.split aM=some al)(hu:∀ y∈l,fT y.r.own aM=true){i:Nat}{x:It}{o:eZ}{s:tZ}(hx:l[i]? =some x)(ho:o∈os)(Dy:DW o.lab x)(hs:s∈o.ss)(oG:s.ty=x.r.ty):
 (x.r.ty==6&&(decide (al.length<o.lab.length)||((i:Int) != (s.fi:Int))))=EA (zB l) (Nm.cZ aM) i x:=by
 have EB:=hl x (bP hx);have hun:dZ (gH x) al=true:=by have:=hu x (bP hx);rwa [vK EB.1 ha] at this
 rw [XO hT hl hx ho Dy hs oG,EA,EB.2.2.2];simp only [Bool.not_false,Bool.true_and]
 by_cases h6:x.r.ty=6
 ·rw [h6];simp only [beq_self_eq_true,Bool.true_and,decide_true];have yN:x.fo=Nm.cZ aM↔Nm.bJ (gH x) al=0:=by rw [EB.2.1];exact zZ EB.1 ha
  have hle:al.length<o.lab.length↔x.fo≠Nm.cZ aM:=by rw [<- Qg Dy,aD0 hun,Ne,Ne,yN]
  by_cases h:x.fo=Nm.cZ aM
  ·rw [<- h];have h':¬al.length<o.lab.length:=fun z=>hle.1 z h
   simp [h']
  have h':al.length<o.lab.length:=hle.2 h;simp [h',h]
 simp [h6]
theorem aD1{l:List It}{os:List eZ}(hT:tO l os)(hl:∀ y∈l,gB y){i:Nat}{x:It}{o:eZ}(hx:l[i]? =some x)(ho:o∈os)(Dy:DW o.lab x):((x.r.ty==2||x.r.ty==39)&&JJ o.lab)=KX x:=by
 have EB:=hl x (bP hx);rw [KX,EB.2.2.2,EB.2.1,Yc EB.1,Yb Dy];simp only [Bool.not_false,Bool.true_and];rw [Bool.and_comm];congr 1
theorem Ql{l:List It}{os:List eZ}(hT:tO l os)(hl:∀ y∈l,gB y){i:Nat}{x:It}{o:eZ}{s:tZ}(hx:l[i]? =some x)(ho:o∈os)(Dy:DW o.lab x)(hs:s∈o.ss)(oG:s.ty=x.r.ty):((x.r.ty==5||x.r.ty==39)&&((i:Int) != (s.fi:Int)))=MJ (zB l) i x:=by
 have EB:=hl x (bP hx);rw [XO hT hl hx ho Dy hs oG,MJ,EB.2.2.2];simp only [Bool.not_false,Bool.true_and];congr 1
theorem Yd{l:List It}{os:List eZ}(hT:tO l os)(hl:∀ y∈l,gB y){i:Nat}{x:It}{o:eZ}(hx:l[i]? =some x)(ho:o∈os)(Dy:DW o.lab x):(x.r.ty != 5&&x.r.ty != 47&&kL (fE 5) o.ss)=KG (zB l) x:=by
 have EB:=hl x (bP hx)
 have e:kL (fE 5) o.ss=fH (zB l) x.fo 5:=by
  rw [Bool.eq_iff_iff,NE (hT.sorted.2 o ho).1,sJ hl];constructor
  ·rintro⟨s,hs,h1⟩
   obtain⟨y,hF,_⟩:=hT.set o ho s hs;refine⟨y,hF.mem,?_,by rw [hF.2.1.2,h1]⟩;rw [sI (hl y hF.mem) EB,dN Dy];exact hF.2.1.1
  rintro⟨y,hy,h1,h2⟩
  have h3:Nm.bJ (gH y) o.lab=0:=by rw [<- dN Dy];exact(sI (hl y hy) EB).1 h1
  obtain⟨q,hq,h4,s,hs,h5,_⟩:=hT.cov y hy;obtain rfl:=hT.one ho hq (by rw [<- gM h3];exact h4);exact⟨s,hs,by rw [h5,h2]⟩
 rw [e,KG,EB.2.2.2];simp only [Bool.not_false,Bool.true_and];have z:∀ a b:Int,(a != b)=decide (a≠b):=fun a b=>by rw [Bool.eq_iff_iff];simp
 rw [z,z]
theorem Ye{l:List It}{os:List eZ}(hT:tO l os)(hl:∀ y∈l,gB y){i:Nat}{x:It}{o:eZ}(hx:l[i]? =some x)(ho:o∈os)(Dy:DW o.lab x)(aKq:∀ q∈os,q.dL=o.dL->q=o):decide (o.dL∈(iI os).2.map (·.dL))=PQ (zB l) x:=by
 have EB:=hl x (bP hx);have I:=aA1 os hT.sorted.1
 have h1:o.dL∈(iI os).2.map (·.dL)↔o∈(iI os).2:=by
  rw [List.mem_map];constructor
  ·rintro⟨q,hq,e⟩
   rw [<- aKq q (I.sub q hq) e];exact hq
  intro h;exact⟨o,h,rfl⟩
 rw [Bool.eq_iff_iff,decide_eq_true_eq,h1,I.out o ho,PQ,EB.2.2.2];simp only [Bool.not_false,Bool.true_and];rw [List.any_eq_true];constructor
 ·rintro⟨q,hq,h2,h3,h4⟩
  obtain⟨s,hs,h5⟩:=(NE (hT.sorted.2 q hq).1 39).1 h2;obtain⟨y,hF,_⟩:=hT.set q hq s hs;have Jp:=hl y hF.mem;have hyq:Nm.bJ (gH y) q.lab=0:=hF.2.1.1;refine⟨y,bP (i:=s.fi) ?_,?_⟩
  ·rw [jJ hF.1]
   have hd:jI (l.take s.fi) y=false:=by
    cases hd:jI (l.take s.fi) y
    ·rfl
    exfalso
    rw [ND (fun z hz=>hl z (List.mem_of_mem_take hz)) Jp] at hd;obtain⟨z,hz,⟨h6,h7⟩,_⟩:=hd;obtain⟨m,hm⟩:=List.getElem?_of_mem hz;have hml:=(dK hm).1;rw [List.length_take] at hml;rw [List.getElem?_take_of_lt (by omega)] at hm;exact hF.2.2 m z (by omega) hm ⟨by rw [DW,<- dN hyq];exact h6,by rw [h7];exact hF.2.1.2⟩
   rw [hd];simp [iQ]
  have e1:Nm.bJ (gH x) (gH y)=Nm.bJ o.lab q.lab:=by rw [gM Dy,dN hyq]
  have e2:y.fo≠x.fo:=fun e=>h3 (by rw [<- e1];exact(sI EB Jp).1 e.symm)
  have e3:fT x.fo y.fo=true:=by rw [EB.2.1,Jp.2.1,NB EB.1 Jp.1,RY Dy hyq];exact h4
  have e4:y.r.ty=39:=by rw [hF.2.1.2,h5]
  rw [Sn,Jp.2.2.2,e4,e3];simp [e2]
 rintro⟨z,hz,h2⟩
 obtain⟨j,hj⟩:=List.getElem?_of_mem hz;have LU:=(dK hj).1;rw [iM] at LU;have hy:l[j]? =some l[j]:=bY LU;rw [jJ hy] at hj;obtain rfl:=gQ hj;have Jp:=hl l[j] (bP hy);simp only [Sn,iQ,Bool.and_eq_true] at h2;obtain⟨⟨⟨_,h3'⟩,h4'⟩,h5⟩:=h2;have h3:l[j].r.ty=39:=of_decide_eq_true h3';have h4:l[j].fo≠x.fo:=of_decide_eq_true h4';obtain⟨q,hq,h6,s,hs,h7,_⟩:=hT.cov l[j] (bP hy);have h6':Nm.bJ (gH l[j]) q.lab=0:=h6;refine⟨q,hq,(NE (hT.sorted.2 q hq).1 39).2 ⟨s,hs,by rw [h7,h3]⟩,fun e=>h4 ?_,?_⟩
 ·refine((sI EB Jp).2 ?_).symm;rw [gM Dy,dN h6'];exact e
 rw [EB.2.1,Jp.2.1,NB EB.1 Jp.1,RY Dy h6'] at h5;exact h5
def Bf(a b:It):Prop:=sD a b=true
theorem aHc(a b:List UInt8):Op.bytesLess a b=true↔Nm.iD a b<0:=by
 unfold Nm.iD;constructor
 ·intro h;rw [if_pos h];decide
 intro h
 by_cases h1:Op.bytesLess a b=true
 ·exact h1
 rw [if_neg h1] at h
 by_cases h2:a=b
 ·rw [if_pos h2] at h;omega
 rw [if_neg h2] at h;omega
theorem Hq{a b:ByteArray}(h:Nm.rU a b≠0):∃ xs ys,Nm.split a=some xs∧Nm.split b=some ys∧Nm.rU a b=Nm.bJ xs ys:=by
 unfold Nm.rU at h ⊢
 cases ha:Nm.split a with
 |none=>rw [ha] at h;exact absurd rfl h
 |some xs=>
  cases hb:Nm.split b with
  |none=>rw [ha,hb] at h;exact absurd rfl h
  |some ys=>exact⟨xs,ys,rfl,rfl,rfl⟩
theorem IB(a:ByteArray):Nm.rU a a=0:=by
 by_cases h:Nm.rU a a=0
 ·exact h
 obtain⟨xs,ys,h1,h2,h3⟩:=Hq h;rw [h1] at h2;obtain rfl:=gQ h2;rw [h3,xC]
theorem Yf{a b c:ByteArray}(h1:Nm.rU a b<0)(h2:Nm.rU b c<0):Nm.rU a c<0:=by
 obtain⟨xs,ys,a1,b1,e1⟩:=Hq (show Nm.rU a b≠0 by omega);obtain⟨ys',zs,b2,c1,e2⟩:=Hq (show Nm.rU b c≠0 by omega);rw [b1] at b2;obtain rfl:=gQ b2;have:Nm.rU a c=Nm.bJ xs zs:=by rw [Nm.rU,a1,c1]
 rw [this];rw [e1] at h1;rw [e2] at h2;exact wT h1 h2
theorem FK(a b:It):Bf a b↔(a.fo=b.fo∧a.r.ty=b.r.ty∧Nm.iD a.dt.data.toList b.dt.data.toList<0)∨(a.fo=b.fo∧a.r.ty<b.r.ty)∨(Nm.rU a.fo b.fo<0):=by
 unfold Bf sD
 by_cases hf:a.fo=b.fo
 ·rw [if_pos hf];have h0:¬Nm.rU a.fo b.fo<0:=by rw [hf,IB];omega
  by_cases ht:a.r.ty=b.r.ty
  ·rw [if_pos ht,aHc,ByteArray.toList_eq,ByteArray.toList_eq];constructor
   ·intro h;exact .inl ⟨hf,ht,h⟩
   rintro(h|h|h)
   ·exact h.2.2
   ·omega
   exact absurd h h0
  rw [if_neg ht,decide_eq_true_eq];constructor
  ·intro h;exact .inr (.inl ⟨hf,h⟩)
  rintro(h|h|h)
  ·exact absurd h.2.1 ht
  ·exact h.2
  exact absurd h h0
 rw [if_neg hf,decide_eq_true_eq];constructor
 ·intro h;exact .inr (.inr h)
 rintro(h|h|h)
 ·exact absurd h.1 hf
 ·exact absurd h.1 hf
 exact h
theorem FL{a b c:It}(h1:Bf a b)(h2:Bf b c):Bf a c:=by
 rw [FK] at*
 rcases h1 with⟨f1,t1,d1⟩|⟨f1,t1⟩|f1<;>rcases h2 with⟨f2,t2,d2⟩|⟨f2,t2⟩|f2
 ·exact .inl ⟨f1.trans f2,t1.trans t2,JF d1 d2⟩
 ·exact .inr (.inl ⟨f1.trans f2,by omega⟩)
 ·exact .inr (.inr (by rw [f1];exact f2))
 ·exact .inr (.inl ⟨f1.trans f2,by omega⟩)
 ·exact .inr (.inl ⟨f1.trans f2,by omega⟩)
 ·exact .inr (.inr (by rw [f1];exact f2))
 ·exact .inr (.inr (by rw [<- f2];exact f1))
 ·exact .inr (.inr (by rw [<- f2];exact f1))
 exact .inr (.inr (Yf f1 f2))
theorem QB(a:It):¬Bf a a:=by
 rw [FK]
 rintro(h|h|h)
 ·have:=(qW a.dt.data.toList a.dt.data.toList).2 rfl;omega
 ·omega
 rw [IB] at h;omega
theorem QC{α:Type}{R:α->α->Prop}(irr:∀ a,¬R a a)(tr:∀ a b c,R a b->R b c->R a c):∀ (l1 l2:List α),l1.Pairwise R->l2.Pairwise R->(∀ x,x∈l1↔x∈l2)->l1=l2:=by
 intro l1
 induction l1 with
 |nil=>
  intro l2 _ _ h
  cases l2 with
  |nil=>rfl
  |cons b l2=>exact absurd ((h b).2 (by simp)) (by simp)
 |cons a l1 ih=>
  intro l2 h1 h2 h
  cases l2 with
  |nil=>exact absurd ((h a).1 (by simp)) (by simp)
  |cons b l2=>
   obtain⟨a1,p1⟩:=List.pairwise_cons.1 h1;obtain⟨b1,p2⟩:=List.pairwise_cons.1 h2
   have e:a=b:=by
    rcases List.mem_cons.1 ((h a).1 (by simp)) with e|ha
    ·exact e
    rcases List.mem_cons.1 ((h b).2 (by simp)) with e|hb
    ·exact e.symm
    exact absurd (tr _ _ _ (a1 b hb) (b1 a ha)) (irr a)
   subst e;rw [ih l2 p1 p2 (fun x=>?_)];constructor
   ·intro hx
    rcases List.mem_cons.1 ((h x).1 (by simp [hx])) with e|h3
    ·exact absurd (a1 x hx) (by rw [e];exact irr a)
    exact h3
   intro hx
   rcases List.mem_cons.1 ((h x).2 (by simp [hx])) with e|h3
   ·exact absurd (b1 x hx) (by rw [e];exact irr a)
   exact h3
theorem aHd:∀ (A B:List It),A.Pairwise Bf->B.Pairwise Bf->(∀ a∈A,∀ b∈B,Bf a b∨Bf b a)->(List.merge A B sD).Pairwise Bf:=by
 intro A
 induction A with
 |nil=>intro B _ hB _;rw [List.nil_merge];exact hB
 |cons a A ihA=>
  intro B
  induction B with
  |nil=>intro hA _ _;rw [List.merge_right];exact hA
  |cons b B ihB=>
   intro hA hB hc;obtain⟨a1,p1⟩:=List.pairwise_cons.1 hA;obtain⟨b1,p2⟩:=List.pairwise_cons.1 hB;rw [List.cons_merge_cons]
   by_cases h:sD a b=true
   ·rw [if_pos h];refine List.pairwise_cons.2 ⟨fun x hx=>?_,ihA (b::B) p1 hB (fun x hx y hy=>hc x (by simp [hx]) y hy)⟩
    rcases List.mem_merge.1 hx with hx|hx
    ·exact a1 x hx
    rcases List.mem_cons.1 hx with rfl|hx
    ·exact h
    exact FL h (b1 x hx)
   rw [if_neg h]
   have hba:Bf b a:=by
    rcases hc a (by simp) b (by simp) with h1|h1
    ·exact absurd h1 h
    exact h1
   refine List.pairwise_cons.2 ⟨fun x hx=>?_,ihB hA p2 (fun x hx y hy=>hc x hx y (by simp [hy]))⟩
   rcases List.mem_merge.1 hx with hx|hx
   ·rcases List.mem_cons.1 hx with rfl|hx
    ·exact hba
    exact FL hba (a1 x hx)
   exact b1 x hx
theorem aHe{α:Type}{R:α->α->Prop}{l:List α}(h:l.length<2):l.Pairwise R:=by
 cases l with
 |nil=>exact List.Pairwise.nil
 |cons a l=>cases l with
  |nil=>exact List.pairwise_singleton _ _
  |cons b l=>simp at h;omega
theorem Qm:∀ (n:Nat) (l:List It),l.length<=n+1->l.Pairwise (fun a b=>Bf a b∨Bf b a)->(jL n l).Pairwise Bf:=by
 intro n
 induction n with
 |zero=>intro l hl _;rw [yJ (by omega)];exact aHe (by omega)
 |succ n ih=>
  intro l hl hp
  by_cases h:l.length<2
  ·rw [yJ h];exact aHe h
  rw [PP h];have hp2:=hp;rw [<- List.take_append_drop (l.length / 2) l,List.pairwise_append] at hp2;refine aHd _ _ (ih _ (by rw [List.length_take];omega) hp2.1) (ih _ (by rw [List.length_drop];omega) hp2.2.1) fun a ha b hb=>?_;exact hp2.2.2 a ((wW _ _).mem_iff.1 ha) b ((wW _ _).mem_iff.1 hb)
theorem Yg{x y:It}(hx:gB x)(hy:gB y)(h:¬Sw (gH y) y.r.ty y.dt x):Bf x y∨Bf y x:=by
 rw [FK,FK]
 by_cases hf:x.fo=y.fo
 ·have ho:DW (gH y) x:=(sI hx hy).1 hf
  rcases Int.lt_trichotomy x.r.ty y.r.ty with h1|h1|h1
  ·exact .inl (.inr (.inl ⟨hf,h1⟩))
  ·have hd:Nm.iD x.dt.data.toList y.dt.data.toList≠0:=fun e=>h ⟨⟨ho,h1⟩,Nm.kI ((qW _ _).1 e)⟩
   have ha:=qX x.dt.data.toList y.dt.data.toList
   rcases Int.lt_or_le (Nm.iD x.dt.data.toList y.dt.data.toList) 0 with h2|h2
   ·exact .inl (.inl ⟨hf,h1,h2⟩)
   exact .inr (.inl ⟨hf.symm,h1.symm,by omega⟩)
  exact .inr (.inr (.inl ⟨hf.symm,h1⟩))
 have h1:Nm.rU x.fo y.fo=Nm.bJ (gH x) (gH y):=by rw [hx.2.1,hy.2.1,PY hx.1 hy.1]
 have h2:Nm.rU y.fo x.fo=Nm.bJ (gH y) (gH x):=by rw [hx.2.1,hy.2.1,PY hy.1 hx.1]
 have h3:=gF (gH x) (gH y);have h4:Nm.bJ (gH x) (gH y)≠0:=fun e=>hf ((sI hx hy).2 e)
 rcases Int.lt_or_le (Nm.bJ (gH x) (gH y)) 0 with h5|h5
 ·exact .inl (.inr (.inr (by omega)))
 exact .inr (.inr (.inr (by omega)))
theorem aHf(x:It):Sw (gH x) x.r.ty x.dt x:=⟨⟨xC _,rfl⟩,rfl⟩
theorem vP{α:Type}{l:List α}{i:Nat}{z:α}(h:z∈l.take i):∃ m,m<i∧l[m]? =some z:=by
 obtain⟨m,hm⟩:=List.getElem?_of_mem h;have hml:=(dK hm).1;rw [List.length_take] at hml;rw [List.getElem?_take_of_lt (by omega)] at hm;exact⟨m,by omega,hm⟩
theorem Qn{l:List It}(hl:∀ y∈l,gB y)(x:It):x∈(zB l).filter (fun x=> !x.out)↔ ∃ i,iU (Sw (gH x) x.r.ty x.dt) l i x:=by
 rw [List.mem_filter];constructor
 ·rintro⟨hx,ho⟩
  obtain⟨i,hi⟩:=List.getElem?_of_mem hx;have DC:=(dK hi).1;rw [iM] at DC;have hy:l[i]? =some l[i]:=bY DC;have hg:=hl l[i] (bP hy);rw [jJ hy] at hi;have e:=gQ hi
  have hd:jI (l.take i) l[i]=false:=by
   rw [<- e] at ho;simp only [iQ,Bool.not_eq_true',Bool.or_eq_false_iff] at ho;exact ho.2
  have e2:l[i]=x:=by rw [<- e,hd];simp [iQ]
  rw [<- e2];refine⟨i,hy,aHf _,fun j z hj hz h=>?_⟩;have:=(ND (fun z hz=>hl z (List.mem_of_mem_take hz)) hg).2 ⟨z,bP (i:=j) (by rw [List.getElem?_take_of_lt hj];exact hz),h⟩;rw [hd] at this;cases this
 rintro⟨i,hF⟩
 have hg:=hl x hF.mem
 have hd:jI (l.take i) x=false:=by
  cases hd:jI (l.take i) x
  ·rfl
  obtain⟨z,hz,h⟩:=(ND (fun z hz=>hl z (List.mem_of_mem_take hz)) hg).1 hd;obtain⟨m,hm,hz⟩:=vP hz;exact absurd h (hF.2.2 m z hm hz)
 refine⟨bP (i:=i) ?_,by rw [hg.2.2.2];rfl⟩;rw [jJ hF.1,hd];simp [iQ]
theorem aA2{l:List It}(hl:∀ y∈l,gB y):((zB l).filter (fun x=> !x.out)).Pairwise (fun a b=>Bf a b∨Bf b a):=by
 rw [List.pairwise_filter,List.pairwise_iff_getElem];intro i j hi hj hij ha hb;rw [iM] at hi hj;have gi:l[i]? =some l[i]:=bY hi;have gj:l[j]? =some l[j]:=bY hj;have ei:=(dK (jJ gi)).2;have ej:=(dK (jJ gj)).2;rw [ei] at ha ⊢;rw [ej] at hb ⊢;have hgi:=hl l[i] (bP gi);have hgj:=hl l[j] (bP gj);simp only [iQ,Bool.not_eq_true',Bool.or_eq_false_iff] at ha hb;have di:iQ (jI (l.take i) l[i]) l[i]=l[i]:=by rw [ha.2];simp [iQ]
 have dj:iQ (jI (l.take j) l[j]) l[j]=l[j]:=by rw [hb.2];simp [iQ]
 rw [di,dj];refine Yg hgi hgj fun h=>?_;have:=(ND (fun z hz=>hl z (List.mem_of_mem_take hz)) hgj).2 ⟨l[i],bP (i:=i) (by rw [List.getElem?_take_of_lt hij];exact gi),h⟩;rw [hb.2] at this;cases this
def aKr(lab:List ByteArray)(ty:Int)(fd:ByteArray)(y:It):Bool:=decide (Nm.bJ (gH y) lab=0)&&decide (y.r.ty=ty)&&decide (y.dt=fd)
theorem aHg{lab:List ByteArray}{ty:Int}{fd:ByteArray}{y:It}:aKr lab ty fd y=true↔Sw lab ty fd y:=by
 simp only [aKr,Bool.and_eq_true,decide_eq_true_eq,Sw,OfS,DW]
def it0:It:=⟨⟨ByteArray.empty,0,0,0,ByteArray.empty⟩,ByteArray.empty,ByteArray.empty,false⟩
def itA(l:List It)(o:eZ)(s:tZ)(p:ByteArray×ByteArray):It:=(l.find? (aKr o.lab s.ty p.1)).getD it0
theorem tQ{l:List It}{os:List eZ}(hT:tO l os){o:eZ}{s:tZ}{p:ByteArray×ByteArray}(ho:o∈os)(hs:s∈o.ss)(hp:p∈s.da):∃ i,iU (Sw o.lab s.ty p.1) l i (itA l o s p)∧p.2=(itA l o s p).r.da:=by
 obtain⟨i,x,hF,h2⟩:=hT.dat o ho s hs p hp;have:itA l o s p=x:=by rw [itA,hF.find (aKr o.lab s.ty p.1) (fun y _=>aHg)];rfl
 rw [this];exact⟨i,hF,h2⟩
def grT(os:List eZ):List (eZ×tZ):=os.flatMap fun o=>o.ss.map fun s=>(o,s)
def itG(l:List It)(g:eZ×tZ):List It:=g.2.da.map (itA l g.1 g.2)
theorem uB{os:List eZ}{g:eZ×tZ}:g∈grT os↔g.1∈os∧g.2∈g.1.ss:=by
 simp only [grT,List.mem_flatMap,List.mem_map];constructor
 ·rintro⟨o,ho,s,hs,rfl⟩;exact⟨ho,hs⟩
 rintro⟨h1,h2⟩;exact⟨g.1,h1,g.2,h2,rfl⟩
theorem yQ{l:List It}{os:List eZ}(hT:tO l os){g:eZ×tZ}(hg:g∈grT os){x:It}(hx:x∈itG l g):∃ p∈g.2.da,x=itA l g.1 g.2 p∧x∈l∧Sw g.1.lab g.2.ty p.1 x:=by
 obtain⟨h1,h2⟩:=uB.1 hg;simp only [itG,List.mem_map] at hx;obtain⟨p,hp,rfl⟩:=hx;obtain⟨i,hF,_⟩:=tQ hT h1 h2 hp;exact⟨p,hp,rfl,hF.mem,hF.2.1⟩
theorem UH{x y:It}{lab:List ByteArray}(hx:gB x)(hy:gB y)(h1:DW lab x)(h2:DW lab y):x.fo=y.fo:=by
 rw [sI hx hy,dN (show Nm.bJ (gH y) lab=0 from h2)];exact h1
theorem aL4{l:List It}{os:List eZ}(hT:tO l os)(hl:∀ y∈l,gB y):(grT os).Pairwise (fun g h=>∀ x∈itG l g,∀ y∈itG l h,Bf x y∧(x.fo≠y.fo∨x.r.ty≠y.r.ty)):=by
 rw [grT,List.pairwise_flatMap];constructor
 ·intro o ho;rw [List.pairwise_map];refine List.Pairwise.imp_of_mem ?_ (hT.sorted.2 o ho).1;intro s t hs ht oG x hx y hy;obtain⟨p,hp,_,DZ,FC⟩:=yQ hT (uB.2 ⟨ho,hs⟩) hx;obtain⟨q,hq,_,hyl,Qo⟩:=yQ hT (uB.2 ⟨ho,ht⟩) hy;have hty:x.r.ty<y.r.ty:=by rw [FC.1.2,Qo.1.2];exact oG
  exact⟨(FK x y).2 (.inr (.inl ⟨UH (hl x DZ) (hl y hyl) FC.1.1 Qo.1.1,hty⟩)),.inr (by omega)⟩
 refine List.Pairwise.imp_of_mem ?_ hT.sorted.1;intro o q ho hq hoq g hg h hh x hx y hy;simp only [List.mem_map] at hg hh;obtain⟨s,hs,rfl⟩:=hg;obtain⟨t,ht,rfl⟩:=hh;obtain⟨p,hp,_,DZ,FC⟩:=yQ hT (uB.2 ⟨ho,hs⟩) hx;obtain⟨p',VQ,_,hyl,Qo⟩:=yQ hT (uB.2 ⟨hq,ht⟩) hy;have EB:=hl x DZ;have Jp:=hl y hyl
 have h1:Nm.rU x.fo y.fo<0:=by
  rw [EB.2.1,Jp.2.1,PY EB.1 Jp.1,gM FC.1.1,dN Qo.1.1];exact hoq
 refine⟨(FK x y).2 (.inr (.inr h1)),.inl (fun e=>?_)⟩;rw [e,IB] at h1;omega
theorem aPx{l:List It}{os:List eZ}(hT:tO l os)(hl:∀ y∈l,gB y):((grT os).flatMap (itG l)).Pairwise Bf:=by
 rw [List.pairwise_flatMap];refine⟨fun g hg=>?_,(aL4 hT hl).imp (fun h x hx y hy=>(h x hx y hy).1)⟩;obtain⟨ho,hs⟩:=uB.1 hg;rw [itG,List.pairwise_map];refine List.Pairwise.imp_of_mem ?_ ((hT.sorted.2 g.1 ho).2 g.2 hs);intro p q hp hq hpq;obtain⟨i,hF,_⟩:=tQ hT ho hs hp;obtain⟨j,hG,_⟩:=tQ hT ho hs hq;have h1:=hF.2.1;have h2:=hG.2.1;refine(FK _ _).2 (.inl ⟨UH (hl _ hF.mem) (hl _ hG.mem) h1.1.1 h2.1.1,by rw [h1.1.2,h2.1.2],?_⟩);rw [h1.2,h2.2];exact hpq
theorem aNh{l:List It}{os:List eZ}(hT:tO l os)(hl:∀ y∈l,gB y)(x:It):x∈(grT os).flatMap (itG l)↔ ∃ i,iU (Sw (gH x) x.r.ty x.dt) l i x:=by
 rw [List.mem_flatMap];constructor
 ·rintro⟨g,hg,hx⟩
  obtain⟨p,hp,e,_,hD⟩:=yQ hT hg hx;obtain⟨ho,hs⟩:=uB.1 hg;obtain⟨i,hF,_⟩:=tQ hT ho hs hp;rw [<- e] at hF;refine⟨i,hF.congr (fun y=>?_)⟩;simp only [Sw,OfS,DW];rw [hD.1.2,hD.2,dN (show Nm.bJ (gH x) g.1.lab=0 from hD.1.1)]
 rintro⟨i,hF⟩
 obtain⟨o,ho,h1,s,hs,h2,p,hp,h3⟩:=hT.cov x hF.mem;refine⟨(o,s),uB.2 ⟨ho,hs⟩,?_⟩;rw [itG,List.mem_map];refine⟨p,hp,?_⟩;obtain⟨j,hG,_⟩:=tQ hT ho hs hp
 have:iU (Sw o.lab s.ty p.1) l i x:=hF.congr (fun y=>by
  simp only [Sw,OfS,DW]
  rw [h2,h3,dN (show Nm.bJ (gH x) o.lab=0 from h1)])
 exact(hG.uniq this).2
theorem aD2{l0 jQ P gs Q:List It}{x0:It}(e:jQ=P++((x0::gs)++Q))(aA3:∀ y∈gs,y.fo=x0.fo∧y.r.ty=x0.r.ty)(EU:∀ z∈P,z.fo≠x0.fo∨z.r.ty≠x0.r.ty):
 ∀ m,m<=gs.length->kW l0 jQ (P.length+1+m)=kW l0 jQ P.length++[⟨nW l0 x0.fo,x0.r.ty,x0.r.tt,x0.r.da::(gs.take m).map (·.r.da)⟩]:=by
 have xO:∀ k,k<(x0::gs).length->jQ[P.length+k]? =(x0::gs)[k]? :=fun k hk=>by
  rw [e,List.getElem?_append_right (by omega),List.getElem?_append_left (by omega)];congr 1;omega
 intro m
 induction m with
 |zero=>
  intro _;have h0:jQ[P.length]? =some x0:=xO 0 (by simp)
  have hn:gL jQ P.length x0=true:=by
   cases hP:P.length with
   |zero=>rfl
   |succ k=>
    have hk:k<P.length:=by omega
    have hz:jQ[k]? =some P[k]:=by rw [e,List.getElem?_append_left hk,bY hk]
    rw [gL,hz]
    rcases EU P[k] (List.getElem_mem hk) with h|h<;>simp [h]
  rw [Nat.add_zero,nX h0 hn]
  rfl
 |succ m ih=>
  intro hm;have hy:gs[m]? =some gs[m]:=bY (by omega)
  have h1:jQ[P.length+1+m]? =some gs[m]:=by
   have:=xO (m+1) (by simp;omega);rw [show P.length+1+m=P.length+(m+1) by omega,this];simp [hy]
  have hk:∀ z,(x0::gs)[m]? =some z->z.fo=x0.fo∧z.r.ty=x0.r.ty:=fun z hz=>by
   rcases List.mem_cons.1 (bP hz) with rfl|h
   ·exact⟨rfl,rfl⟩
   exact aA3 z h
  obtain⟨z,hz⟩:∃ z,(x0::gs)[m]? =some z:=⟨_,bY (by simp;omega)⟩;have hy2:=aA3 gs[m] (List.getElem_mem (by omega))
  have hn:gL jQ (P.length+1+m) gs[m]=false:=by
   rw [show P.length+1+m=(P.length+m)+1 by omega,gL,xO m (by simp;omega),hz];simp [(hk z hz).1,(hk z hz).2,hy2.1,hy2.2]
  have:=sH h1 hn (ih (by omega));rw [show P.length+1+(m+1)=P.length+1+m+1 by omega,this];rw [List.take_succ_eq_append_getElem (show m<gs.length by omega),List.map_append];rfl
theorem aKs{γ:Type}{l0:List It}(G:List γ)(f:γ->List It)(toS:γ->Sz)(dQ:∀ g∈G,f g≠[])(aA3:∀ g∈G,∀ x∈f g,∀ y∈f g,y.fo=x.fo∧y.r.ty=x.r.ty)
 (hp:G.Pairwise (fun g h=>∀ x∈f g,∀ y∈f h,x.fo≠y.fo∨x.r.ty≠y.r.ty)) (hS:∀ g∈G,∀ x0 gs,f g=x0::gs->toS g=⟨nW l0 x0.fo,x0.r.ty,x0.r.tt,(f g).map (·.r.da)⟩):
 ∀ k,k<=G.length->kW l0 (G.flatMap f) ((G.take k).flatMap f).length=(G.take k).map toS:=by
 intro k
 induction k with
 |zero=>intro _;rfl
 |succ k ih=>
  intro hk;have hg:k<G.length:=by omega
  have hm:G[k]∈G:=List.getElem_mem hg
  obtain⟨x0,gs,hf⟩:∃ x0 gs,f G[k]=x0::gs:=by
   cases h:f G[k] with
   |nil=>exact absurd h (dQ _ hm)
   |cons x0 gs=>exact⟨x0,gs,rfl⟩
  have eG:G=G.take k++(G[k]::G.drop (k+1)):=by rw [<- List.drop_eq_getElem_cons hg,List.take_append_drop]
  have e1:G.flatMap f=(G.take k).flatMap f++((x0::gs)++(G.drop (k+1)).flatMap f):=by
   conv=>lhs;rw [eG]
   rw [List.flatMap_append,List.flatMap_cons,hf]
  have e2:G.take (k+1)=G.take k++[G[k]]:=List.take_succ_eq_append_getElem hg;have KT:x0∈f G[k]:=by rw [hf];simp
  have hh:=aD2 (l0:=l0) e1 (fun y hy=>aA3 _ hm x0 KT y (by rw [hf];simp [hy])) (fun z hz=>by
   obtain⟨g,oN,fZ⟩:=List.mem_flatMap.1 hz;obtain⟨j,hj,hgj⟩:=vP oN;have LU:=dK hgj;have h9:=List.pairwise_iff_getElem.1 hp j k LU.1 hg hj;rw [LU.2] at h9
   exact h9 z fZ x0 KT) gs.length (aN _)
  have e3:((G.take (k+1)).flatMap f).length=((G.take k).flatMap f).length+1+gs.length:=by
   rw [e2,List.flatMap_append,nG,List.flatMap_cons,hf];simp
   omega
  rw [e3,hh,ih (by omega),e2,List.map_append,List.map_cons,List.map_nil,hS _ hm x0 gs hf,hf];simp
def szT(g:eZ×tZ):Sz:=⟨g.1.nm,g.2.ty,g.2.tt,g.2.da.map (·.2)⟩
def xD(os:List eZ):List Sz:=(grT os).map szT
theorem aA4{list:List Rr}{os:List eZ}(hT:tO (list.map aQ) os)(hl:∀ y∈list.map aQ,gB y)(Yh:∀ (i:Nat) (x:It),(list.map aQ)[i]? =some x->qO ((list.map aQ).take i) x=false):mW list=xD os:=by
 obtain⟨l,hle⟩:∃ l,l=list.map aQ:=⟨_,rfl⟩;have e0:xB list=(zB l).filter (fun x=> !x.out):=by rw [hle];rfl
 have e9:bD list=zB l:=by rw [hle];rfl
 rw [<- hle] at hT hl Yh
 have e1:fK list=(grT os).flatMap (itG l):=by
  refine QC (R:=Bf) QB (fun _ _ _=>FL) _ _ ?_ (aPx hT hl) fun x=>?_
  ·rw [fK,EY,e0];exact Qm _ _ (by omega) (aA2 hl)
  rw [fK,EY,e0,(wW _ _).mem_iff,Qn hl,aNh hT hl]
 rw [mW,e9,e1];have h:=aKs (l0:=zB l) (grT os) (itG l) szT (fun g hg=>?_) (fun g hg x hx y hy=>?_) ((aL4 hT hl).imp (fun h x hx y hy=>(h x hx y hy).2)) (fun g hg x0 gs e=>?_) (grT os).length (aN _)
 ·rw [List.take_length] at h;exact h
 ·obtain⟨ho,hs⟩:=uB.1 hg;obtain⟨y,hF,_⟩:=hT.set g.1 ho g.2 hs;obtain⟨q,hq,h1,t,ht,h2,p,hp,h3⟩:=hT.cov y hF.mem;have e2:g.1=q:=hT.one ho hq (by rw [<- gM (show Nm.bJ (gH y) g.1.lab=0 from hF.2.1.1)];exact h1);have e3:g.2=t:=(hT.sorted.2 g.1 ho).1.one hs (by rw [e2];exact ht) (by rw [h2,hF.2.1.2]);rw [itG,e3];intro e;rw [List.map_eq_nil_iff] at e;rw [e] at hp;cases hp
 ·obtain⟨p,_,_,DZ,FC⟩:=yQ hT hg hx;obtain⟨q,_,_,hyl,Qo⟩:=yQ hT hg hy;exact⟨UH (hl y hyl) (hl x DZ) Qo.1.1 FC.1.1,by rw [Qo.1.2,FC.1.2]⟩
 obtain⟨ho,hs⟩:=uB.1 hg;have KT:x0∈itG l g:=by rw [e];simp
 obtain⟨p,hp,ex,DZ,FC⟩:=yQ hT hg KT;have EB:=hl x0 DZ
 have eo:nW (zB l) x0.fo=g.1.nm:=by
  obtain⟨i,y,hF,h2,_⟩:=hT.own g.1 ho
  have hG:iU (fun z:It=>z.fo=x0.fo) (zB l) i (iQ (jI (l.take i) y) y):=by
   refine⟨jJ hF.1,show y.fo=x0.fo from UH (hl y hF.mem) EB hF.2.1 FC.1.1,fun j z hj hz hzf=>?_⟩;have LU:=(dK hz).1;rw [iM] at LU;have hy:l[j]? =some l[j]:=bY LU;rw [jJ hy] at hz;obtain rfl:=gQ hz;have Vi:=hl l[j] (bP hy);refine hF.2.2 j l[j] hj hy ?_;have h5:Nm.bJ (gH l[j]) (gH x0)=0:=(sI Vi EB).1 hzf;rw [DW,gM h5];exact FC.1.1
  rw [nW,hG.find (fun z=>decide (z.fo=x0.fo)) (fun z _=>by simp),h2];rfl
 have et:x0.r.tt=g.2.tt:=by
  obtain⟨y,hF,h2⟩:=hT.set g.1 ho g.2 hs;obtain⟨j,hG,_⟩:=tQ hT ho hs hp;rw [<- ex] at hG;have hm:=Yh j x0 hG.1
  rcases Nat.lt_trichotomy g.2.fi j with h3|h3|h3
  ·have Jp:=hl y hF.mem;have hk:lV x0 y=true:=(XM EB Jp).2 ⟨by rw [DW,dN (show Nm.bJ (gH x0) g.1.lab=0 from FC.1.1)];exact hF.2.1.1,by rw [hF.2.1.2,FC.1.2]⟩
   have hf:=vM (p:=lV x0) h3 hF.1 hk (fun m z hm hz=>by
    cases hb:lV x0 z
    ·rfl
    exfalso
    have Vi:=hl z (bP hz);have h6:=(XM EB Vi).1 hb
    exact hF.2.2 m z hm hz ⟨by rw [DW,<- dN (show Nm.bJ (gH x0) g.1.lab=0 from FC.1.1)];exact h6.1,by rw [h6.2,FC.1.2]⟩)
   rw [qO,hf] at hm;simp at hm;rw [h2,hm]
  ·rw [h3] at hF;have:=hF.1.symm.trans hG.1;rw [h2,gQ this]
  exact absurd FC.1 (hF.2.2 j x0 h3 hG.1)
 rw [szT,eo,FC.1.2,et];congr 1;rw [itG,List.map_map];refine(List.map_congr_left (fun q hq=>?_)).symm;obtain⟨j,_,h⟩:=tQ hT ho hs hq;exact h.symm
open Go.Shelf
attribute [local go_sem] Oper.semAt_some
def Zst(B:Nat)(aM:ByteArray)(Zb Rb:Nat)(W:World)(ss:List Sz):Prop:=
 ∃ v ps,bG W Zb #[.string aM,v] 25∧bG W Rb #[.string ⟨#[]⟩,.slice none 0 0] 25∧ps.map (·.1)=ss∧dH W B v ps
theorem FM{W:World}{B e s n r:Nat}{v:Value}{xs:List Value}(h:W.ownsRow B e s v n xs)(hr:∃ o:Obj,W.heap[r]? =some o∧o.isCells=false):v.ownBlock≠some r:=by
 intro he
 rcases h.2 with⟨rfl,_⟩|⟨g,cap,cur,rfl,_,hh,_⟩
 ·cases he
 simp only [Value.ownBlock,mP] at he;subst he;obtain⟨o,h1,h2⟩:=hr;rw [hh] at h1;cases h1
 cases h2
theorem FO{W:World}{b r:Nat}{cs:Array Value}{T:TypeId}(h:bG W b cs T)(hr:∃ o:Obj,W.heap[r]? =some o∧o.isCells=false):b≠r:=by
 intro he;subst he;obtain⟨o,h1,h2⟩:=hr;rw [bG] at h;rw [h] at h1;cases h1
 cases h2
theorem xE(W:World)(b i:Nat)(v:Value):W.grownBy (W.setCell ⟨b,i,none⟩ v) (some b):=
 ⟨rfl,rfl,rfl,(KeepsWalks.setCell W _ v).size,fun k _ hk=>Below.heap_setCell _ _ _ k (fun e=>hk (by rw [e]))⟩
theorem aA5{β:Type}(B:Nat)(aM:ByteArray)(Zb Rb:Nat)(f:β->List Sz):Own (fun s W=>Zst B aM Zb Rb W (f s)):=by
 rintro s X Y row ⟨v,ps,h1,h2,h3,h4⟩ hg eF;refine⟨v,ps,aP h1 hg (fun e=>FO h1 (eF Zb e) rfl),aP h2 hg (fun e=>FO h2 (eF Rb e) rfl),h3,h4.beside hg (fun g e=>FM h4.outer (eF g e)) (fun g e p hp=>?_)⟩;obtain⟨i,hi⟩:=List.getElem?_of_mem hp;exact FM (h4.inner i p hi) (eF g e)
theorem Ea{B:Nat}{aM:ByteArray}{Zb Rb:Nat}{W W':World}{ss:List Sz}(h:Zst B aM Zb Rb W ss)(hb:Below W.heap.size W W'):Zst B aM Zb Rb W' ss:=by
 obtain⟨v,ps,h1,h2,h3,h4⟩:=h;exact⟨v,ps,aB h1 hb,aB h2 hb,h3,h4.below hb⟩
theorem qZ{W W':World}(h:Below W.heap.size W W'):KeepsOthers W W':=⟨h.size,fun k o hk _=>(h.block k (Array.getElem?_eq_some_iff.1 hk).1).trans hk⟩
theorem aHh{B:Nat}{aM:ByteArray}{Zb Rb:Nat}{W w1:World}{tmp:Obj}{v v' u:Value}{ps:List Zp}{s:Sz}(h1:bG W Zb #[.string aM,v] 25)(h2:bG W Rb #[.string ⟨#[]⟩,.slice none 0 0] 25)(h4:dH W B v ps)(hB:B<=Zb)(hBW:B<=W.heap.size)(dQ:Zb≠Rb)
 (hu:W.ownsRow B 9 1 u s.da.length (s.da.map Value.string)) (ha:∀ p∈ps,∀ g,p.2.ownBlock=some g->u.ownBlock≠some g)
 (ho:w1.ownsRow B 60 4 v' (ps.length+1) (pM ps++Sj (s,u))) (hg:(W.alloc tmp).grownBy w1 v.ownBlock):
 bG w1 Zb #[.string aM,v] 25∧Zst B aM Zb Rb (w1.setCell ⟨Zb,1,none⟩ v') (ps.map (·.1)++[s])∧KeepsOthers W (w1.setCell ⟨Zb,1,none⟩ v')∧Below B W (w1.setCell ⟨Zb,1,none⟩ v')∧∀ b cs T,bG W b cs T->60≠T->b≠Zb->bG (w1.setCell ⟨Zb,1,none⟩ v') b cs T:=by
 have Hr:Below W.heap.size W (W.alloc tmp):=(aK _ W).alloc (aN _) tmp;have YZ:=aB h1 Hr;have Sb:=aB h2 Hr;have h4':=h4.below Hr;have hu':=own_below hu Hr;have k1:bG w1 Zb #[.string aM,v] 25:=aP YZ hg (fun e=>bW h4'.outer YZ (by decide) e);have k2:bG w1 Rb #[.string ⟨#[]⟩,.slice none 0 0] 25:=aP Sb hg (fun e=>bW h4'.outer Sb (by decide) e);have z:=h4'.snoc hu' ha ho hg;have e1:=aI k1 1 v';simp only [List.setIfInBounds_toArray,List.set_cons_zero,List.set_cons_succ] at e1;have hgs:=xE w1 Zb 1 v';refine⟨k1,⟨v',ps++[(s,u)],e1,aP k2 hgs (fun e=>by cases e;exact dQ rfl),by simp,?_⟩,?_,?_,fun b cs T hb hT vY=>?_⟩
 ·refine z.beside hgs (fun g e=>by cases e;exact bW z.outer k1 (by decide)) fun g e p hp=>?_;cases e
  obtain⟨i,hi⟩:=List.getElem?_of_mem hp;exact bW (z.inner i p hi) k1 (by decide)
 ·refine((KeepsOthers.alloc W tmp).trans (KeepsOthers.of_grownBy hg fun j o ej hj=>?_)).trans (KeepsOthers.of_grownBy hgs fun j o ej hj=>?_)
  ·cases ho:o.isCells with
   |true=>rfl
   |false=>exact absurd ej (FM h4'.outer ⟨o,hj,ho⟩)
  cases ho:o.isCells with
  |true=>rfl
  |false=>cases ej;exact absurd rfl (FO k1 ⟨o,hj,ho⟩)
 ·refine((((aK B W).alloc hBW tmp).grown hg (by simp;omega) fun j ej=>?_)).setCell (p:=⟨Zb,1,none⟩) hB v';exact(h4'.outer.lt j ej).1
 exact aP (aP (aB hb Hr) hg (fun e=>bW h4'.outer (aB hb Hr) hT e)) hgs (fun e=>by cases e;exact vY rfl)
def OI:Value->Option Addr
 |.slice a _ _=>a
 |_=>none
def OJ:Value->Nat
 |.slice _ n _=>n
 |_=>0
def OL:Value->Nat
 |.slice _ _ c=>c
 |_=>0
theorem aA6{w:World}{v:Value}{l:List ByteArray}(h:Nm.dX w v l):v=.slice (OI v) (OJ v) (OL v):=by
 obtain⟨a,cap,rfl,_⟩:=h;rfl
theorem XP(os:List eZ)(o:eZ):xD (os++[o])=xD os++o.ss.map fun s=>szT (o,s):=by
 simp [xD,grT]
theorem aD3:∀ (os:List eZ),(∀ o∈os,o.ss.length<=400000)->(xD os).length<=os.length*400000:=by
 refine NC ?_ ?_
 ·intro _;simp [xD,grT]
 intro l o ih h;rw [XP];have h1:=ih (fun q hq=>h q (by simp [hq]));have h2:=h o (by simp);simp only [nG,List.length_map,List.length_singleton];omega
theorem aKt(F:Fence)(n:Nat)(h1:F.fn 79)(h2:F.fn 114)(h3:F.fn 115)(h4:F.fn 148)(h5:F.fn 116)(h6:F.fn 149)(h7:F.fn 117)(xK:F.round=none)(hn:9<=n)
 (bb oo th:Nat) (rv:Value) (os:List eZ) (B:Nat) (aM:ByteArray) (w:World) (h:uU w B th rv os) (hd:TrS os) (hl:os.length<=400000) (xR:CK w (jP th rv os) os) (hc:w.cell? ⟨bb,oo+1,none⟩=some (ptr th))
 (xW:∀ m W,CallsIn F m Tryz.prog 114 #[.string aM] W fun e w'=>e=.returned (.string aM)∧Below W.heap.size W w')
 (Vr:∀ (o:eZ) (s:tZ) (m:Nat) (W:World),o∈os->s∈o.ss->Below w.heap.size w W->CallsIn F m Tryz.prog 117 #[ptr o.dL,.int .i64 s.ty] W fun e w'=>∃ v,e=.returned (.tuple #[.agg #[.string o.nm,.int .i64 s.ty,.int .i64 s.tt,v],.bool true])∧w'.ownsRow W.heap.size 9 1 v s.da.length (s.da.map fun p=>.string p.2)∧Below W.heap.size W w'):
 CallsIn F n Tryz.prog 79 #[.pointer (some ⟨bb,oo,none⟩),.string aM] w fun e W'=>∃ v ps,e=.returned (.agg #[.string aM,v])∧ps.map (·.1)=xD os∧dH W' w.heap.size v ps∧Below w.heap.size w W':=by
 obtain⟨i0,hi,iJ,fP,fZ⟩:=info_parts Tryz.Fw;refine callsIn_of_wp_marks Tryz.func79 rfl h1 ?_ xK;simp only [Tryz.ntmps79,List.size_toArray,List.length_cons,List.length_nil,Nat.reduceAdd,Nat.reduceSub,Array.replicate_succ,Array.replicate_zero,List.push_toArray,List.append_toArray,List.nil_append,List.cons_append];have kR:=aH w #[.string ⟨#[]⟩,.slice none 0 0] 25;have b0:=(aK w.heap.size w).alloc (aN _) (.cells #[.string ⟨#[]⟩,.slice none 0 0] 25);have hth:th<w.heap.size:=bU h.head;have n1:1<=n:=by omega
 have MU:bb<w.heap.size:=eB w _ hc;unfold ptr at hc Vr;have HX:=Nm.aF (aV h (aV hd (aV xR Vr)));clear h hd xR Vr
 gi_wp2_with (
  gi_at_call 114
  refine(xW _ _).mono ?_;rintro e w1 ⟨rfl,b1⟩;have b1':=Nm.aC b0 b1;have aPy:Hid (w.heap.size+1<=w1.heap.size):=by have:=b1.size;rw [fV] at this;exact this
  have Sr:=aB kR b1;have c1:=(b1'.cell (p:=⟨bb,oo+1,none⟩) MU).trans hc;clear kR b0 b1;have CP:=aR Sr (.cells #[.string aM,.slice none 0 0] 25);have kZ2:=aH w1 #[.string aM,.slice none 0 0] 25;have b2:=b1'.alloc b1'.size (.cells #[.string aM,.slice none 0 0] 25)
  have c2:=(b2.cell (p:=⟨bb,oo+1,none⟩) MU).trans hc)
 refine(aAu F (n-1) h3 xK _ _).mono ?_;rintro e w3 ⟨rfl,rfl⟩
 gi_wp2
 have AP:=aR CP (.cells #[.pointer (some ⟨th,0,none⟩)] 117);have kZ3:=aR kZ2 (.cells #[.pointer (some ⟨th,0,none⟩)] 117);have kT3:=aH (w1.alloc (.cells #[.string aM,.slice none 0 0] 25)) #[.pointer (some ⟨th,0,none⟩)] 117;have b3:=b2.alloc b2.size (.cells #[.pointer (some ⟨th,0,none⟩)] 117);rw [fV] at kT3;obtain⟨W0,lF⟩:∃ W0,(w1.alloc (.cells #[.string aM,.slice none 0 0] 25)).alloc (.cells #[.pointer (some ⟨th,0,none⟩)] 117)=W0:=⟨_,rfl⟩;have pQ:W0.heap.size=w1.heap.size+2:=by rw [<- lF];simp
 have CJ:=b1'.size;rw [lF] at AP kZ3 kT3 b3 ⊢;clear lF CP kZ2 b2 c2 c1 Sr;have hza:os.attach.length=os.length:=List.length_attach
 have hR0:Vb (fun x:{o:eZ // o∈os}=>OI x.1.lv) (fun x=>OJ x.1.lv) (fun x=>OL x.1.lv) (fun x=>⟨x.1.dL,0,none⟩) w.heap.size w rv os.attach:=by
  refine Nh _ _ _ _ (B:=B) (e:=189) _ ?_;have hr:=HX.out.1.rows
  have e1:(os.attach.map fun x:{o:eZ // o∈os}=>((Value.slice (OI x.1.lv) (OJ x.1.lv) (OL x.1.lv)),(Value.pointer (some (⟨x.1.dL,0,none⟩:Addr)))))=mR os:=by
   rw [mR]
   conv=>rhs;rw [<- List.attach_map_subtype_val os]
   rw [List.map_map];refine List.map_congr_left fun x _=>?_;simp only [Function.comp,ptr];rw [<- aA6 (HX.out.2.2.1 x.1 x.2).row]
  rw [e1];rw [show(mR os).length=os.attach.length by simp [mR]] at hr;exact hr
 have kh3:W0.cell? ⟨th,1,none⟩=some rv:=(b3.cell (p:=⟨th,1,none⟩) hth).trans ((aA HX.out.1.head 1).trans rfl)
 refine wpIn_rangeFunc_ownH xK n1 (gf:=148) (lb:=#[.pointer (some ⟨w1.heap.size+1,0,none⟩)]) rfl h4 (enters_of Tryz.func148 (by kernel_rfl) rfl)
  (Db (fun x:{o:eZ // o∈os}=>OI x.1.lv) (fun x=>OJ x.1.lv) (fun x=>OL x.1.lv) (fun x=>⟨x.1.dL,0,none⟩) F (n-1) h4 xK (by omega) (w1.heap.size+1) th w.heap.size rv os.attach (by omega) W0 (by omega) hth (by omega) ((aA kT3 0).trans rfl) kh3 (hR0.below b3)) belowK_t (belowK_b (by omega)) (aK _ _) (fun _=>rfl)
  (fun pre W=>Zst w.heap.size aM w1.heap.size w.heap.size W (xD (pre.map (·.1)))∧(Below w.heap.size w W∧w1.heap.size+2<=W.heap.size))
  (fun _ _ _=>False)
  (OwnFrom.and (Own.from (aA5 _ _ _ _ (fun pre:List {o:eZ // o∈os}=>xD (pre.map (·.1)))) _) (OwnFrom.and (ownFrom_below (aN _) (by omega)) (fun _ _ _ _ hs hg _=>iL hs hg.size)))
  (fun _ _ _ _ _ hs _ _=>hs)
  ⟨⟨.slice none 0 0,[],kZ3,AP,rfl,dH.nil _ _⟩,b3,by omega⟩
  (fun x a' W=>∃ Bx,w1.heap.size+1<Bx∧bG W Bx #[.pointer (some ⟨x.1.dL,0,none⟩)] 151∧a'={tmps:=#[.pointer (some ⟨bb,oo,none⟩),.string aM,undef,undef,.pointer (some ⟨w.heap.size,0,none⟩),.pointer (some ⟨w1.heap.size,0,none⟩),undef,.pointer (some ⟨Bx,0,none⟩),undef,undef,undef,.string aM,.string aM,.agg #[.string aM,.slice none 0 0],.pointer (some ⟨bb,oo,none⟩),.pointer (some ⟨bb,oo,none⟩),.pointer (some ⟨bb,oo+1,none⟩),.pointer (some ⟨th,0,none⟩),.func (.func 148) #[] #[.pointer (some ⟨w1.heap.size+1,0,none⟩)],.slice (OI x.1.lv) (OJ x.1.lv) (OL x.1.lv),.pointer (some ⟨x.1.dL,0,none⟩),undef,undef,undef,undef,undef,undef,undef,undef,undef,undef,undef,undef,undef,undef,undef,undef,undef,undef,undef,undef],defers:=[]})
  (fun x a' _ X Y row hs hg hr=>by obtain⟨Bx,h1,h2,h3⟩:=hs;exact⟨Bx,h1,aP h2 hg (fun e=>FO h2 (hr Bx e).2 rfl),h3⟩)
  ?assign ?body ?done ?stop
 case assign=>
  rintro l pre x W K ⟨fP,xL,nJ⟩ hK;have HS:=Nm.aF nJ;clear nJ
  gi_wp2
  exact hK _ _ ((KeepsOthers.alloc _ _).from _) ((aK _ W).alloc xL.size _) ⟨Ea fP ((aK _ W).alloc (aN _) _),xL.alloc xL.size _,by have:=HS.out;simp;omega⟩ ⟨W.heap.size,by have:=HS.out;omega,aH W _ _,rfl⟩
 case body=>
  rintro l pre x a' W EI ⟨r,hr⟩ ⟨KS,xL,nJ⟩ ⟨Bx,hBx,bX,rfl⟩ bV;have ow:=HX.out.1.mU x.1 x.2;have hxd:=HX.out.2.1.2 x.1 x.2;have cX:=(aA bX 0).trans rfl;have cN:W.cell? ⟨x.1.dL,2,none⟩=some (.pointer (some ⟨x.1.hd,0,none⟩)):=(xL.cell (p:=⟨x.1.dL,2,none⟩) (bU ow.node)).trans ((aA ow.node 2).trans rfl);have n2:1<=n-1-1:=by omega
  have HS:=Nm.aF (aV nJ (aV EI (aV bV hBx)));clear nJ EI bV hBx
  gi_wp2_with (gi_at_call 116;refine(CallsIn.inRound l (aKb F (n-1-1-1) h5 xK _ _)).mono ?_;rintro e w' ⟨rfl,rfl⟩)
  have hsW:=xL.size;have Gn:=(Array.getElem?_eq_some_iff.1 hr).1;have bA:=(aK w.heap.size W).alloc hsW (.cells #[.pointer (some ⟨x.1.hd,0,none⟩)] 154);have bA':=(aK W.heap.size W).alloc (aN _) (.cells #[.pointer (some ⟨x.1.hd,0,none⟩)] 154);have kN:=aH W #[.pointer (some ⟨x.1.hd,0,none⟩)] 154;have hr':(W.alloc (.cells #[.pointer (some ⟨x.1.hd,0,none⟩)] 154)).heap[l]? =some (.loop r):=(Below.heap_alloc W _ l Gn).trans hr;have Sm:x.1.ss.attach.length=x.1.ss.length:=List.length_attach
  have hR1:aCs (fun s:{s:tZ // s∈x.1.ss}=>s.1.ty) (fun s=>⟨s.1.dL,0,none⟩) w.heap.size w x.1.rv x.1.ss.attach:=by
   refine aGg _ _ (B:=B) (e:=196) _ ?_;have hr:=ow.rows
   have e1:(x.1.ss.attach.map fun s:{s:tZ // s∈x.1.ss}=>((Value.int .i64 s.1.ty),(Value.pointer (some (⟨s.1.dL,0,none⟩:Addr)))))=mQ x.1.ss:=by
    rw [mQ]
    conv=>rhs;rw [<- List.attach_map_subtype_val x.1.ss]
    rw [List.map_map];rfl
   rw [e1];rw [show(mQ x.1.ss).length=x.1.ss.attach.length by simp [mQ]] at hr;exact hr
  have Bi:=xL.trans bA;have khI:(W.alloc (.cells #[.pointer (some ⟨x.1.hd,0,none⟩)] 154)).cell? ⟨x.1.hd,1,none⟩=some x.1.rv:=(Bi.cell (p:=⟨x.1.hd,1,none⟩) (bU ow.head)).trans ((aA ow.head 1).trans rfl)
  have HL:(xD (pre.map (·.1))).length<=160000000000:=by
   have h1:=aD3 (pre.map (·.1)) (fun o ho=>by
    obtain⟨y,_,rfl⟩:=lS ho
    exact(HX.out.2.1.2 y.1 y.2).2.1)
   have:=HS.out.2.2.1;rw [List.length_map] at h1;omega
  refine wpIn_rangeFunc_ownN (l₀:=l) (r₀:=r) rfl hr' n2 (gf:=149) (lb:=#[.pointer (some ⟨W.heap.size,0,none⟩)]) rfl h6 (enters_of Tryz.func149 (by kernel_rfl) rfl)
   ((aCu (fun s:{s:tZ // s∈x.1.ss}=>s.1.ty) (fun s=>⟨s.1.dL,0,none⟩) F (n-1-1-1) h6 xK (by omega) W.heap.size x.1.hd w.heap.size x.1.rv x.1.ss.attach (by have:=hxd.2.1;omega) _ (by simp) (bU ow.head) (by simp;omega) ((aA kN 0).trans rfl) khI (hR1.below Bi)).inRound l) belowK_t (belowK_b (by simp;omega)) (aK _ _) (fun _=>rfl)
   (fun pre' W'=>(Zst w.heap.size aM w1.heap.size w.heap.size W' (xD (pre.map (·.1))++pre'.map fun s=>szT (x.1,s.1))∧bG W' Bx #[.pointer (some ⟨x.1.dL,0,none⟩)] 151)∧(Below w.heap.size W W'∧KeepsFrom W0.heap.size W W'))
   (fun _ _ _=>False)
   (OwnFrom.and (OwnFrom.and (Own.from (aA5 _ _ _ _ (fun pre':List {s:tZ // s∈x.1.ss}=>xD (pre.map (·.1))++pre'.map fun s=>szT (x.1,s.1))) _) (fun _ X Y row hs hg hr=>aP hs hg (fun e=>FO hs (hr Bx e).2 rfl))) (OwnFrom.and (ownFrom_below hsW (by simp;omega)) (ownFrom_keepsFrom (by simp))))
   (fun _ _ _ _ _ hs _ _=>hs)
   ⟨⟨by simpa using Ea KS bA',aB bX bA'⟩,bA,(KeepsOthers.alloc _ _).from _⟩
   (fun s a'' _=>a''={tmps:=#[.pointer (some ⟨bb,oo,none⟩),.string aM,undef,undef,.pointer (some ⟨w.heap.size,0,none⟩),.pointer (some ⟨w1.heap.size,0,none⟩),undef,.pointer (some ⟨Bx,0,none⟩),.int .i64 s.1.ty,undef,undef,.string aM,.string aM,.agg #[.string aM,.slice none 0 0],.pointer (some ⟨bb,oo,none⟩),.pointer (some ⟨bb,oo,none⟩),.pointer (some ⟨bb,oo+1,none⟩),.pointer (some ⟨th,0,none⟩),.func (.func 148) #[] #[.pointer (some ⟨w1.heap.size+1,0,none⟩)],.slice (OI x.1.lv) (OJ x.1.lv) (OL x.1.lv),.pointer (some ⟨x.1.dL,0,none⟩),.pointer (some ⟨x.1.dL,0,none⟩),.pointer (some ⟨x.1.dL,0,none⟩),.pointer (some ⟨x.1.dL,2,none⟩),.pointer (some ⟨x.1.hd,0,none⟩),.func (.func 149) #[] #[.pointer (some ⟨W.heap.size,0,none⟩)],.int .i64 s.1.ty,.pointer (some ⟨s.1.dL,0,none⟩),undef,undef,undef,undef,undef,undef,undef,undef,undef,undef,undef,undef,undef],defers:=[]})
   (fun _ _ _ _ _ _ hs _ _=>hs)
   ?assign2 ?body2 ?done2 ?stop2
  case assign2=>
   rintro l2 pre' y W' K hi hK
   gi_wp2
   exact hK _ _ (KeepsFrom.refl _ _) (aK _ _) hi rfl
  case body2=>
   rintro l2 pre' s a'' W' _ _ ⟨⟨fZ,bX2⟩,hBW,hKF⟩ rfl aPz;obtain⟨v,ps,k1,k2,e3,z4⟩:=fZ;obtain⟨va,vc,rfl⟩:=aT z4.outer;have hB3:=xL.trans hBW;have cX2:=(aA bX2 0).trans rfl;have oG:=HX.out.2.2.2 x.1 s.1 (n-1-1-1-1-1) W' x.2 s.2 hB3
   have RI:ps.length<=160000400000:=by
    have h1:=congrArg List.length e3;simp only [List.length_map,nG] at h1;have:=hxd.2.1;omega
   have HQ:=Nm.aF (aV e3 (aV hBW (aV hKF (aV hB3 (aV HL aPz)))));have aP0:=hB3.size;clear e3 hBW hKF hB3 HL aPz cX cN KS bX hr hr' Gn bA bA' kN hR1 Bi khI Sm hxd ow xL hsW;have n3:1<=n-1-1-1-1:=by omega
   gi_wp2_with (first
    |(gi_at_call 117
      refine(CallsIn.inRound l2 (CallsIn.inRound l oG)).mono ?_;rintro e w4 ⟨u,rfl,hu,b4⟩;obtain⟨ua,uc,rfl⟩:=aT hu;have b5:=b4.alloc b4.size (.cells #[.string x.1.nm,.int .i64 s.1.ty,.int .i64 s.1.tt,.slice ua s.1.da.length uc] 60);have b6:Below W'.heap.size W' ((w4.alloc (.cells #[.string x.1.nm,.int .i64 s.1.ty,.int .i64 s.1.tt,.slice ua s.1.da.length uc] 60)).alloc (.cells #[.string x.1.nm,.int .i64 s.1.ty,.int .i64 s.1.tt,.slice ua s.1.da.length uc] 60)):=b5.alloc b5.size _;have c5:=(aA (aB k1 b5) 1).trans rfl;have z6:=(z4.below b6).outer
      have hu5:(w4.alloc (.cells #[.string x.1.nm,.int .i64 s.1.ty,.int .i64 s.1.tt,.slice ua s.1.da.length uc] 60)).ownsRow w.heap.size 9 1 (.slice ua s.1.da.length uc) (szT (x.1,s.1)).da.length ((szT (x.1,s.1)).da.map Value.string):=by
       have h9:=fQ (own_below hu ((aK _ w4).alloc (aN _) (.cells #[.string x.1.nm,.int .i64 s.1.ty,.int .i64 s.1.tt,.slice ua s.1.da.length uc] 60))) aP0;simpa [szT,List.map_map,Function.comp_def] using h9
      have pW:∀ p∈ps,∀ g,p.2.ownBlock=some g->(Value.slice ua s.1.da.length uc).ownBlock≠some g:=fun p hp g e e'=>by
       obtain⟨i,hi⟩:=List.getElem?_of_mem hp;have h8:=((z4.inner i p hi).lt g e).2;have h9:=(hu.lt g e').1;omega
      have HU:=Nm.aF (aV hu5 pW)
      clear hu5 pW hu b4)
    |(gi_at_builtin
      refine wpListIn_append_own _ rfl _ _ 23 rfl w.heap.size 60 i0 (.agg #[.string ByteArray.empty,.int .i64 0,.int .i64 0,.slice none 0 0]) 4 56 Tryz.underlying23 hi iJ fP fZ rfl (by decide) _ _ _ rfl z6 ⟨w4.heap.size+1,0,none⟩ 1 1 [.string x.1.nm,.int .i64 s.1.ty,.int .i64 s.1.tt,.slice ua s.1.da.length uc] rfl rfl (by have h9:=dU (w4.alloc (.cells #[.string x.1.nm,.int .i64 s.1.ty,.int .i64 s.1.tt,.slice ua s.1.da.length uc] 60)) #[.string x.1.nm,.int .i64 s.1.ty,.int .i64 s.1.tt,.slice ua s.1.da.length uc] 60;rw [fV] at h9;exact h9) (by intro u hu;simp at hu;rcases hu with rfl|rfl|rfl|rfl<;>rfl) (by unfold maxLen;omega) (by omega) (by have:=b6.size;omega) ?_;intro v' w7 dD bZ _;obtain⟨g',cap',rfl⟩:=ownsRow_succ dD;have zm:=aHh (aM:=aM) (s:=szT (x.1,s.1)) (aB k1 b5) (aB k2 b5) (z4.below b5) (by have:=aPy.out;omega) (by have:=b5.size;omega) (by have:=aPy.out;omega) HU.out.1 HU.out.2 dD bZ;obtain⟨q1,q2,q3,q4,q5⟩:=zm;have c7:=fun i=>aA q1 i
      have f7:=fun i=>aG q1 i))
   obtain⟨e3,hBW,hKF,hB3,_⟩:=HQ.out;have hKb:=(qZ b5).trans q3;have hBb:=(b5.mono aP0).trans q4;refine⟨hKb.from _,hBb,⟨?_,q5 _ _ _ (aB bX2 b5) (by decide) (by have:=HS.out.2.2.2;omega)⟩,hBW.trans hBb,hKF.trans (hKb.from _)⟩;rw [e3] at q2;rw [List.map_append,<- List.append_assoc];exact q2
  case done2=>
   rintro ys' W' rfl ⟨⟨fZ,bX2⟩,hBW,hKF⟩;have HS2:=Nm.aF hKF.size
   gi_wp2
   refine⟨hKF,hBW,?_,xL.trans hBW,by have:=HS2.out;have:=HS.out.1;omega⟩
   have e5:xD ((pre++[x]).map (·.1))=xD (pre.map (·.1))++x.1.ss.attach.map fun s=>szT (x.1,s.1):=by
    rw [List.map_append,List.map_cons,List.map_nil,XP];congr 1
    conv=>lhs;rw [<- List.attach_map_subtype_val x.1.ss]
    rw [List.map_map];rfl
   rw [e5];exact fZ
  rintro c pre' W' _ h;exact h.elim
 case done=>
  rintro D zs W hD rfl ⟨KS,xL,nJ⟩ hK;rw [List.attach_map_subtype_val] at KS;obtain⟨v,ps,k1,k2,e3,z4⟩:=KS;obtain⟨va,vc,rfl⟩:=aT z4.outer;have r1:=fun i=>aA k1 i
  have r2:=fun i=>aA k2 i
  have f2:=fun i=>aG k2 i
  gi_wp2
  have hDn:D≠w.heap.size:=by omega
  have k5:=aI (aI k2 0 (.string aM)) 1 (.slice va ps.length vc);simp only [List.setIfInBounds_toArray,List.set_cons_zero,List.set_cons_succ] at k5;have hK5:((W.setCell ⟨w.heap.size,0,none⟩ (.string aM)).setCell ⟨w.heap.size,1,none⟩ (.slice va ps.length vc)).heap[D]? =some (.deferred (some [])):=(heap_setCell_other _ ⟨w.heap.size,1,none⟩ D _ hDn).trans ((heap_setCell_other _ ⟨w.heap.size,0,none⟩ D _ hDn).trans hK);have b5:=(xL.setCell (p:=⟨w.heap.size,0,none⟩) (aN _) (.string aM)).setCell (p:=⟨w.heap.size,1,none⟩) (aN _) (.slice va ps.length vc)
  have z5:=(z4.beside (xE W w.heap.size 0 (.string aM)) (fun g e=>by cases e;exact bW z4.outer k2 (by decide)) (fun g e p hp=>by
   cases e
   obtain⟨i,hi⟩:=List.getElem?_of_mem hp
   exact bW (z4.inner i p hi) k2 (by decide)))
  have k2':=aI k2 0 (.string aM)
  have z6:=(z5.beside (xE _ w.heap.size 1 (.slice va ps.length vc)) (fun g e=>by cases e;exact bW z5.outer k2' (by decide)) (fun g e p hp=>by
   cases e
   obtain⟨i,hi⟩:=List.getElem?_of_mem hp
   exact bW (z5.inner i p hi) k2' (by decide)))
  clear r1 r2 f2 k1 k2 k2' z4 z5 hK xL;generalize (W.setCell ⟨w.heap.size,0,none⟩ (.string aM)).setCell ⟨w.heap.size,1,none⟩ (.slice va ps.length vc)=W5 at*;refine⟨by simp,.inl ⟨_,_,rfl,run_takeDeferred hK5,?_⟩⟩;have b6:=b5.trans (belowK_b (w:=w) (aN _) W5 D _ (.deferred none) (by omega) hK5 rfl rfl);have k6:bG (W5.putObj D (.deferred none)) w.heap.size _ _:=aP k5 (grownBy_putObj' W5 D _) (fun e=>by cases e;exact hDn rfl)
  have z7:dH (W5.putObj D (.deferred none)) w.heap.size (.slice va ps.length vc) ps:=z6.beside (grownBy_putObj' W5 D _) (fun g e=>by cases e;exact FM z6.outer ⟨_,hK5,rfl⟩) (fun g e p hp=>by
   cases e
   obtain⟨i,hi⟩:=List.getElem?_of_mem hp
   exact FM (z6.inner i p hi) ⟨_,hK5,rfl⟩)
  refine⟨.agg #[.string aM,.slice va ps.length vc],?_,_,ps,rfl,e3,z7,b6⟩;have r:=fun i=>aA k6 i
  simp [results,Tryz.results79,go_sem,Result.andThen,r]
 rintro D c pre W _ _ h _;exact h.elim
theorem Qp(bb oo th:Nat)(rv:Value)(os:List eZ)(B:Nat)(aM:ByteArray)(w:World)(h:uU w B th rv os)(hd:TrS os)(hl:os.length<=400000)(xR:CK w (jP th rv os) os)(hc:w.cell? ⟨bb,oo+1,none⟩=some (ptr th))(ha:aM.size<=1000000000):
 Calls Tryz.prog 79 #[.pointer (some ⟨bb,oo,none⟩),.string aM] w fun e W'=>∃ v ps,e=.returned (.agg #[.string aM,v])∧ps.map (·.1)=xD os∧dH W' w.heap.size v ps∧Below w.heap.size w W':=
 (callsIn_wide (n:=9)).1 (aKt Fence.wide 9 trivial trivial trivial trivial trivial trivial trivial rfl (by omega) bb oo th rv os B aM w h hd hl xR hc
  (fun m W=>callsIn_wide.2 (zI aM W ha))
  (fun o s m W ho hs hW=>callsIn_wide.2 (Hl o s B W ((h.mU o ho).below hW) (by have:=(hd.2 o ho).2.1;omega) (hd.2 o ho).1 hs (by have:=((hd.2 o ho).2.2 s hs).2;omega))))
end Go.Proofs.YthdpacepbbcocaaGreat
namespace Go.Proofs.YthdpacepbbcocaaGreat
open Go.RowKit Go.Shelf
attribute [local go_sem] Oper.semAt_some
theorem aKu:(Tryz.prog.info? 151).map (fun i=>(i.zero,i.size,i.bytes))=some (some (.pointer none),1,8):=by kernel_rfl
def tailV:Option eZ->Value
 |none=>.slice none 0 0
 |some q=>.slice (OI q.lv) (OJ q.lv) (OL q.lv)
theorem aHi:∀ (pre:List eZ) (q:eZ),(iI pre).1=some q->q∈pre:=by
 refine NC ?_ ?_
 ·intro q h;simp [iI] at h
 intro l o ih q h;rw [AA,qE] at h
 cases ht:(iI l).1 with
 |none=>
  rw [ht] at h;simp only at h
  split at h
  ·simp at h;simp [h]
  simp at h
 |some t=>
  rw [ht] at h;have:=ih t ht;simp only at h
  split at h
  ·simp at h;rw [<- h];simp [this]
  split at h
  ·simp at h;simp [h]
  simp at h;rw [<- h];simp [this]
theorem aHj:∀ (pre:List eZ),(iI pre).2.length<=pre.length:=by
 refine NC ?_ ?_
 ·simp [iI]
 intro l o ih;rw [AA,qE,nG,List.length_singleton]
 cases (iI l).1 with
 |none=>
  simp only
  split
  ·simp;omega
  simp;omega
 |some t=>
  simp only
  split
  ·simp;omega
  split
  ·simp;omega
  simp;omega
theorem Bl(F:Fence)(n:Nat)(h1:F.fn 144)(h2:F.fn 160)(h3:F.fn 115)(h4:F.fn 148)(h5:F.fn 143)(xK:F.round=none)(hn:6<=n)
 (bb oo th:Nat) (rv:Value) (os:List eZ) (B:Nat) (w:World) (h:uU w B th rv os) (hl:os.length<=400000) (xR:CK w (jP th rv os) os) (hc:w.cell? ⟨bb,oo+1,none⟩=some (ptr th))
 (hun:∀ (o q:eZ) (m:Nat) (W:World),o∈os->q∈os->Below w.heap.size w W->CallsIn F m Tryz.prog 160 #[.slice (OI o.lv) (OJ o.lv) (OL o.lv),.slice (OI q.lv) (OJ q.lv) (OL q.lv)] W fun e w'=>e=.returned (.bool (dZ o.lab q.lab))∧Below W.heap.size W w')
 (aP1:∀ (o:eZ) (m:Nat) (W:World),o∈os->Below w.heap.size w W->CallsIn F m Tryz.prog 143 #[.pointer (some ⟨o.dL,0,none⟩),.int .i64 39] W fun e w'=>e=.returned (.bool (vE o))∧Below W.heap.size W w'):
 CallsIn F n Tryz.prog 144 #[.pointer (some ⟨bb,oo,none⟩)] w fun e W'=>∃ v,e=.returned v∧W'.ownsRow w.heap.size 151 1 v (iI os).2.length ((iI os).2.map fun o=>ptr o.dL)∧Below w.heap.size w W':=by
 have n1:1<=n:=by omega
 obtain⟨i0,hi,iJ,fP,fZ⟩:=info_parts aKu;have hth:th<w.heap.size:=bU h.head;have MU:bb<w.heap.size:=eB w _ hc;unfold ptr at hc;have HX:=Nm.aF (aV h (aV xR (aV hun aP1)));clear h xR hun aP1;have c3:(((w.alloc (.cells #[.slice none 0 0] 181)).alloc (.cells #[.slice none 0 0] 116)).alloc (.cells #[.bool false] 4)).cell? ⟨bb,oo+1,none⟩=some (.pointer (some ⟨th,0,none⟩)):=((((aK w.heap.size w).alloc (aN _) _).alloc (by simp) _).alloc (by simp;omega) _).cell (p:=⟨bb,oo+1,none⟩) MU|>.trans hc
 refine callsIn_of_wp_marks Tryz.func144 rfl h1 ?_ xK;simp only [Tryz.ntmps144,List.size_toArray,List.length_cons,List.length_nil,Nat.reduceAdd,Nat.reduceSub,Array.replicate_succ,Array.replicate_zero,List.push_toArray,List.append_toArray,List.nil_append,List.cons_append]
 gi_wp2_with (gi_at_call 115;refine(aAu F (n-1) h3 xK _ _).mono ?_;rintro e w' ⟨rfl,rfl⟩)
 have bO:=((Boxed.new w 181 (.slice none 0 0)).alloc (.cells #[.slice none 0 0] 116)).alloc (.cells #[.bool false] 4);have bT:=(Boxed.new (w.alloc (.cells #[.slice none 0 0] 181)) 116 (.slice none 0 0)).alloc (.cells #[.bool false] 4);have bF:=Boxed.new ((w.alloc (.cells #[.slice none 0 0] 181)).alloc (.cells #[.slice none 0 0] 116)) 4 (.bool false);have bI:=Boxed.new (((w.alloc (.cells #[.slice none 0 0] 181)).alloc (.cells #[.slice none 0 0] 116)).alloc (.cells #[.bool false] 4)) 117 (.pointer (some ⟨th,0,none⟩));have bO:=bO.alloc (.cells #[.pointer (some ⟨th,0,none⟩)] 117);have bT:=bT.alloc (.cells #[.pointer (some ⟨th,0,none⟩)] 117);have bF:=bF.alloc (.cells #[.pointer (some ⟨th,0,none⟩)] 117);simp only [fV] at bT bF bI;have b3:Below w.heap.size w ((((w.alloc (.cells #[.slice none 0 0] 181)).alloc (.cells #[.slice none 0 0] 116)).alloc (.cells #[.bool false] 4)).alloc (.cells #[.pointer (some ⟨th,0,none⟩)] 117)):=((((aK w.heap.size w).alloc (aN _) _).alloc (by simp) _).alloc (by simp;omega) _).alloc (by simp;omega) _;have pQ:((((w.alloc (.cells #[.slice none 0 0] 181)).alloc (.cells #[.slice none 0 0] 116)).alloc (.cells #[.bool false] 4)).alloc (.cells #[.pointer (some ⟨th,0,none⟩)] 117)).heap.size=w.heap.size+4:=by simp
 obtain⟨W0,lF⟩:∃ W0,(((w.alloc (.cells #[.slice none 0 0] 181)).alloc (.cells #[.slice none 0 0] 116)).alloc (.cells #[.bool false] 4)).alloc (.cells #[.pointer (some ⟨th,0,none⟩)] 117)=W0:=⟨_,rfl⟩;rw [lF] at bO bT bF bI b3 pQ ⊢;clear lF c3;have hza:os.attach.length=os.length:=List.length_attach
 have hR0:Vb (fun x:{o:eZ // o∈os}=>OI x.1.lv) (fun x=>OJ x.1.lv) (fun x=>OL x.1.lv) (fun x=>⟨x.1.dL,0,none⟩) w.heap.size w rv os.attach:=by
  refine Nh _ _ _ _ (B:=B) (e:=189) _ ?_;have hr:=HX.out.1.rows
  have e1:(os.attach.map fun x:{o:eZ // o∈os}=>((Value.slice (OI x.1.lv) (OJ x.1.lv) (OL x.1.lv)),(Value.pointer (some (⟨x.1.dL,0,none⟩:Addr)))))=mR os:=by
   rw [mR]
   conv=>rhs;rw [<- List.attach_map_subtype_val os]
   rw [List.map_map];refine List.map_congr_left fun x _=>?_;simp only [Function.comp,ptr];rw [<- aA6 (HX.out.2.1 x.1 x.2).row]
  rw [e1];rw [show(mR os).length=os.attach.length by simp [mR]] at hr;exact hr
 have kh3:W0.cell? ⟨th,1,none⟩=some rv:=(b3.cell (p:=⟨th,1,none⟩) hth).trans ((aA HX.out.1.head 1).trans rfl)
 refine wpIn_rangeFunc_ownG xK n1 (gf:=148) (lb:=#[.pointer (some ⟨w.heap.size+1+1+1,0,none⟩)]) rfl h4 (enters_of Tryz.func148 (by kernel_rfl) rfl)
  (Db (fun x:{o:eZ // o∈os}=>OI x.1.lv) (fun x=>OJ x.1.lv) (fun x=>OL x.1.lv) (fun x=>⟨x.1.dL,0,none⟩) F (n-1) h4 xK (by omega) (w.heap.size+1+1+1) th w.heap.size rv os.attach (by omega) W0 (by omega) hth (by omega) bI.cell kh3 (hR0.below b3)) belowK_t (belowK_b (by omega)) (aK _ _) (fun _=>rfl)
  (fun pre W=>((∃ v,Boxed W w.heap.size 181 v∧W.ownsRow w.heap.size 151 1 v (iI (pre.map (·.1))).2.length ((iI (pre.map (·.1))).2.map fun o=>ptr o.dL)∧True)∧(Boxed W (w.heap.size+1) 116 (tailV (iI (pre.map (·.1))).1)∧Boxed W (w.heap.size+1+1) 4 (.bool (iI (pre.map (·.1))).1.isSome)))∧Below w.heap.size w W)
  (fun _ _ _=>False)
  (OwnFrom.and (OwnFrom.and (Own.from (holdsRow_own w.heap.size w.heap.size 181 151 1 (fun pre:List {o:eZ // o∈os}=>(iI (pre.map (·.1))).2.length) (fun pre=>(iI (pre.map (·.1))).2.map fun o=>ptr o.dL) (fun pre v=>True)) _) (OwnFrom.and (Own.from (boxed_own _ _ (fun pre:List {o:eZ // o∈os}=>tailV (iI (pre.map (·.1))).1)) _) (Own.from (boxed_own _ _ (fun pre:List {o:eZ // o∈os}=>Value.bool (iI (pre.map (·.1))).1.isSome)) _))) (ownFrom_below (aN _) (by omega)))
  (fun _ _ _ _ _ hs _ _=>hs)
  ⟨⟨⟨_,bO,World.ownsRow_nil _ _ _ _,trivial⟩,bT,bF⟩,b3⟩
  (fun x=>{tmps:=#[.pointer (some ⟨bb,oo,none⟩),undef,.slice none 0 0,.pointer (some ⟨w.heap.size,0,none⟩),.pointer (some ⟨w.heap.size+1,0,none⟩),.pointer (some ⟨w.heap.size+1+1,0,none⟩),.slice (OI x.1.lv) (OJ x.1.lv) (OL x.1.lv),.pointer (some ⟨x.1.dL,0,none⟩),.pointer (some ⟨bb,oo,none⟩),.pointer (some ⟨bb,oo,none⟩),.pointer (some ⟨bb,oo+1,none⟩),.pointer (some ⟨th,0,none⟩),.func (.func 148) #[] #[.pointer (some ⟨w.heap.size+1+1+1,0,none⟩)],.slice (OI x.1.lv) (OJ x.1.lv) (OL x.1.lv),.pointer (some ⟨x.1.dL,0,none⟩),undef,undef,undef,undef,undef,undef,undef,undef,undef,undef,undef,undef,undef,undef,undef,undef],defers:=[]}) ?assign ?body ?done ?stop
 case assign=>
  intro l x W K hK
  gi_wp2
  exact hK
 case body=>
  rintro l pre x W ⟨⟨⟨v,hv,eF,-⟩,hT,hF⟩,hB⟩ bV;have eS:iI ((pre++[x]).map (·.1))=qE (iI (pre.map (·.1))) x.1:=by rw [List.map_append,List.map_cons,List.map_nil,AA]
  have hln:=aHj (pre.map (·.1));rw [List.length_map] at hln
  have wX:∀ q,(iI (pre.map (·.1))).1=some q->q∈os:=fun q hq=>by
   obtain⟨y,_,rfl⟩:=lS (aHi _ q hq);exact y.2
  have n2:1<=n-1-1:=by omega
  have hm:os.attach.length<=maxLen:=by unfold maxLen;omega
  have HE:=Nm.aF eS;clear eS;generalize iI (pre.map (·.1))=ST at eF hT hF hln wX HE;obtain⟨t,out⟩:=ST;simp only at eF hT hF hln wX
  have HLN:=Nm.aF (aV hln bV);clear hln;have cF:=hF.cell
  cases t with
  |none=>
   simp only [tailV,Option.isSome_none] at hT hF cF;clear wX
   cases h39:vE x.1 with
   |true=>
    have hh:=HX.out.2.2.2 x.1 (n-1-1-1) W x.2 hB;rw [h39] at hh;have e9:iI ((pre++[x]).map (·.1))=(some x.1,out):=by rw [HE.out];simp [qE,h39]
    have HE9:=Nm.aF e9;clear h39 e9 HE
    gi_wp2_with (
     gi_at_call 143
     refine(CallsIn.inRound l hh).mono ?_;rintro e w2 ⟨rfl,b2⟩;have OM:Boxed w2 _ _ _:=aB hT b2;have Ht:Boxed w2 _ _ _:=aB hF b2;have FI:Boxed w2 _ _ _:=aB hv b2;have AB:=own_below eF b2;have cT2:=OM.cell;have fT2:=OM.frozen;have cF2:=Ht.cell
     have fF2:=Ht.frozen)
    have k2:=(qZ b2).trans ((KeepsOthers.setCell w2 ⟨w.heap.size+1,0,none⟩ (.slice (OI x.1.lv) (OJ x.1.lv) (OL x.1.lv))).trans (KeepsOthers.setCell _ ⟨w.heap.size+1+1,0,none⟩ (.bool true)));have bb2:=((b2.mono hB.size).setCell (p:=⟨w.heap.size+1,0,none⟩) (by simp) (.slice (OI x.1.lv) (OJ x.1.lv) (OL x.1.lv))).setCell (p:=⟨w.heap.size+1+1,0,none⟩) (by simp;omega) (.bool true);refine⟨k2.from _,bb2,?_,hB.trans bb2⟩;rw [HE9.out];have o2:=eU (i:=0) (y:=.slice (OI x.1.lv) (OJ x.1.lv) (OL x.1.lv)) AB (bW AB OM (by decide));have hF3:=Ht.other (show w.heap.size+1+1≠w.heap.size+1 by omega) (.slice (OI x.1.lv) (OJ x.1.lv) (OL x.1.lv));have hv3:=FI.other (show w.heap.size≠w.heap.size+1 by omega) (.slice (OI x.1.lv) (OJ x.1.lv) (OL x.1.lv));have hT3:=OM.set (.slice (OI x.1.lv) (OJ x.1.lv) (OL x.1.lv))
    exact⟨⟨_,hv3.other (by omega) _,eU o2 (bW o2 hF3 (by decide)),trivial⟩,hT3.other (by omega) _,hF3.set _⟩
   |false=>
    have hh:=HX.out.2.2.2 x.1 (n-1-1-1) W x.2 hB;rw [h39] at hh;have e9:iI ((pre++[x]).map (·.1))=(none,out):=by rw [HE.out];simp [qE,h39]
    have HE9:=Nm.aF e9;clear h39 e9 HE
    gi_wp2_with (
     gi_at_call 143
     refine(CallsIn.inRound l hh).mono ?_;rintro e w2 ⟨rfl,b2⟩;have OM:Boxed w2 _ _ _:=aB hT b2;have Ht:Boxed w2 _ _ _:=aB hF b2;have FI:Boxed w2 _ _ _:=aB hv b2
     have AB:=own_below eF b2)
    refine⟨(qZ b2).from _,b2.mono hB.size,?_,hB.trans (b2.mono hB.size)⟩;rw [HE9.out]
    exact⟨⟨_,FI,AB,trivial⟩,OM,Ht⟩
  |some q=>
   simp only [tailV,Option.isSome_some] at hT hF cF;have hq:=wX q rfl;clear wX;have cT:=hT.cell
   cases hu:dZ x.1.lab q.lab with
   |true=>
    have hh:=HX.out.2.2.1 x.1 q (n-1-1-1) W x.2 hq hB;rw [hu] at hh;have e9:iI ((pre++[x]).map (·.1))=(some q,out++[x.1]):=by rw [HE.out];simp [qE,hu]
    have HE9:=Nm.aF e9;clear hu e9 HE
    gi_wp2_with (first
     |(gi_at_call 160
       refine(CallsIn.inRound l hh).mono ?_;rintro e w2 ⟨rfl,b2⟩;have OM:Boxed w2 _ _ _:=aB hT b2;have Ht:Boxed w2 _ _ _:=aB hF b2;have FI:Boxed w2 _ _ _:=aB hv b2;have AB:=own_below eF b2;have oI:=b2.size
       have cv2:=FI.cell)
     |(gi_at_builtin
       refine wpListIn_append_own _ rfl _ _ 181 rfl w.heap.size 151 i0 (.pointer none) 1 8 Tryz.underlying181 hi iJ fP fZ rfl (by decide) _ _ _ rfl (AB.alloc _) ⟨w2.heap.size,0,none⟩ 1 1 [.pointer (some ⟨x.1.dL,0,none⟩)] rfl rfl (cell_one_new _ _ _) (by simp [Value.oneCell']) (by unfold maxLen;have:=HLN.out;omega) (by have:=HLN.out;omega) (by have:=hB.size;simp;omega) ?_;intro v' w3 dD bZ _;obtain⟨g',cap',rfl⟩:=ownsRow_succ dD;have pW:=FI.appended (by decide) AB (by have:=hB.size;omega) (aN _) dD bZ;obtain⟨q1,q2,q3,q4,q5⟩:=pW;have cv3:=q1.cell
       have fv3:=q1.frozen))
    have hra:(w2.alloc (.cells #[.pointer (some ⟨x.1.dL,0,none⟩)] 151)).ownsRow w.heap.size 151 1 v out.length (out.map fun o=>ptr o.dL):=AB.alloc _;have aP2:bG (w2.alloc (.cells #[.pointer (some ⟨x.1.dL,0,none⟩)] 151)) (w.heap.size+1) #[.slice (OI q.lv) (OJ q.lv) (OL q.lv)] 116:=aR OM _;have aP3:bG (w2.alloc (.cells #[.pointer (some ⟨x.1.dL,0,none⟩)] 151)) (w.heap.size+1+1) #[.bool true] 4:=aR Ht _;have hT3:Boxed w3 (w.heap.size+1) 116 (.slice (OI q.lv) (OJ q.lv) (OL q.lv)):=aP aP2 bZ (bW hra aP2 (by decide));have hF3:Boxed w3 (w.heap.size+1+1) 4 (.bool true):=aP aP3 bZ (bW hra aP3 (by decide));have kk:=(qZ b2).trans q4;have bk:=(b2.mono hB.size).trans q5;refine⟨kk.from _,bk,?_,hB.trans bk⟩;rw [HE9.out]
    exact⟨⟨_,q2,by simpa [ptr] using q3,trivial⟩,hT3.other (by omega) _,hF3.other (by omega) _⟩
   |false=>
    have hh:=HX.out.2.2.1 x.1 q (n-1-1-1) W x.2 hq hB;rw [hu] at hh;have hg:=fun W' (hW:Below w.heap.size w W')=>HX.out.2.2.2 x.1 (n-1-1-1) W' x.2 hW
    cases h39:vE x.1 with
    |true=>
     rw [h39] at hg;have e9:iI ((pre++[x]).map (·.1))=(some x.1,out):=by rw [HE.out];simp [qE,hu,h39]
     have HE9:=Nm.aF e9;clear hu h39 e9 HE
     gi_wp2_with (first
      |(gi_at_call 160
        refine(CallsIn.inRound l hh).mono ?_
        rintro e w1 ⟨rfl,b1⟩)
      |(gi_at_call 143
        refine(CallsIn.inRound l (hg _ (hB.trans (b1.mono hB.size)))).mono ?_;rintro e w2 ⟨rfl,b12⟩;have b2:=Nm.aC b1 b12;have OM:Boxed w2 _ _ _:=aB hT b2;have Ht:Boxed w2 _ _ _:=aB hF b2;have FI:Boxed w2 _ _ _:=aB hv b2;have AB:=own_below eF b2;have cT2:=OM.cell;have fT2:=OM.frozen;have cF2:=Ht.cell
        have fF2:=Ht.frozen))
     have k2:=(qZ b2).trans ((KeepsOthers.setCell w2 ⟨w.heap.size+1,0,none⟩ (.slice (OI x.1.lv) (OJ x.1.lv) (OL x.1.lv))).trans (KeepsOthers.setCell _ ⟨w.heap.size+1+1,0,none⟩ (.bool true)));have bb2:=((b2.mono hB.size).setCell (p:=⟨w.heap.size+1,0,none⟩) (by simp) (.slice (OI x.1.lv) (OJ x.1.lv) (OL x.1.lv))).setCell (p:=⟨w.heap.size+1+1,0,none⟩) (by simp;omega) (.bool true);refine⟨k2.from _,bb2,?_,hB.trans bb2⟩;rw [HE9.out];have o2:=eU (i:=0) (y:=.slice (OI x.1.lv) (OJ x.1.lv) (OL x.1.lv)) AB (bW AB OM (by decide));have hF3:=Ht.other (show w.heap.size+1+1≠w.heap.size+1 by omega) (.slice (OI x.1.lv) (OJ x.1.lv) (OL x.1.lv));have hv3:=FI.other (show w.heap.size≠w.heap.size+1 by omega) (.slice (OI x.1.lv) (OJ x.1.lv) (OL x.1.lv));have hT3:=OM.set (.slice (OI x.1.lv) (OJ x.1.lv) (OL x.1.lv))
     exact⟨⟨_,hv3.other (by omega) _,eU o2 (bW o2 hF3 (by decide)),trivial⟩,hT3.other (by omega) _,hF3.set _⟩
    |false=>
     rw [h39] at hg;have e9:iI ((pre++[x]).map (·.1))=(some q,out):=by rw [HE.out];simp [qE,hu,h39]
     have HE9:=Nm.aF e9;clear hu h39 e9 HE
     gi_wp2_with (first
      |(gi_at_call 160
        refine(CallsIn.inRound l hh).mono ?_
        rintro e w1 ⟨rfl,b1⟩)
      |(gi_at_call 143
        refine(CallsIn.inRound l (hg _ (hB.trans (b1.mono hB.size)))).mono ?_;rintro e w2 ⟨rfl,b12⟩;have b2:=Nm.aC b1 b12;have OM:Boxed w2 _ _ _:=aB hT b2;have Ht:Boxed w2 _ _ _:=aB hF b2;have FI:Boxed w2 _ _ _:=aB hv b2
        have AB:=own_below eF b2))
     refine⟨(qZ b2).from _,b2.mono hB.size,?_,hB.trans (b2.mono hB.size)⟩;rw [HE9.out];exact⟨⟨_,FI,AB,trivial⟩,OM,Ht⟩
 case done=>
  rintro D ys W hD rfl ⟨⟨⟨v,hv,eF,-⟩,hT,hF⟩,hB⟩ hK;rw [List.attach_map_subtype_val] at eF;have hc:=hv.cell
  gi_wp2
  refine⟨by simp,.inl ⟨_,_,rfl,run_takeDeferred hK,?_⟩⟩;exact⟨_,results_tmp rfl _ _ _,v,rfl,ownsRow_putObj eF _ hK rfl,hB.trans (belowK_b (w:=w) (aN _) W D _ _ (by omega) hK rfl rfl)⟩
 rintro D c pre W _ _ h _;exact h.elim
theorem XQ(bb oo th:Nat)(rv:Value)(os:List eZ)(B:Nat)(w:World)(h:uU w B th rv os)(hd:TrS os)(hl:os.length<=400000)(xR:CK w (jP th rv os) os)(hc:w.cell? ⟨bb,oo+1,none⟩=some (ptr th)):
 Calls Tryz.prog 144 #[.pointer (some ⟨bb,oo,none⟩)] w fun e W'=>∃ v,e=.returned v∧W'.ownsRow w.heap.size 151 1 v (iI os).2.length ((iI os).2.map fun o=>ptr o.dL)∧Below w.heap.size w W':=
 (callsIn_wide (n:=6)).1 (Bl Fence.wide 6 trivial trivial trivial trivial trivial rfl (by omega) bb oo th rv os B w h hl xR hc
  (fun o q m W ho hq hW=>callsIn_wide.2 (by
   have lo:=xR o ho;have lq:=xR q hq;have hu:=Da o.lv q.lv o.lab q.lab W (lo.row.below hW) (lq.row.below hW) lo.fit.1 lo.fit.2 lq.fit.2;rw [aA6 lo.row,aA6 lq.row] at hu;refine hu.mono ?_;rintro e w' ⟨rfl,m',rfl⟩
   exact⟨rfl,Go.below_drewN (aK _ _) _⟩))
  (fun o m W ho hW=>callsIn_wide.2 (BU o B 39 W ((h.mU o ho).below hW) (by have:=(hd.2 o ho).2.1;omega) (hd.2 o ho).1)))
end Go.Proofs.YthdpacepbbcocaaGreat
namespace Go.Proofs.YthdpacepbbcocaaGreat
open Go.RowKit
def AC(c i:Int):Ending:=.returned (.tuple #[.int .i64 c,.int .i64 i])
theorem qB{W:World}{b i:Nat}{v:Value}:dM [b] W (W.setCell ⟨b,i,none⟩ v):=⟨rfl,rfl,rfl,by simp,fun k _ hk=>heap_setCell_other W ⟨b,i,none⟩ k _ (by simpa using hk)⟩
theorem Bn(bb:Nat)(la:Option Addr)(ln lc:Nat)(aM:ByteArray)(w:World)(hk:bG w bb #[.slice la ln lc,.string aM,.slice none 0 0,.slice none 0 0,.pointer none,.slice none 0 0] 122)(ha:aM.size<=maxLen):
 Calls Tryz.prog 105 #[.pointer (some ⟨bb,0,none⟩)] w fun e w'=>
  (Nm.split aM=none∧e=AC 32 (-1)∧Below w.heap.size w w')∨(Nm.split aM≠none∧500<ln∧e=AC 12 (-1)∧Below w.heap.size w w')∨
  (∃ xs aa ac th,Nm.split aM=some xs∧ln<=500∧e=AC 0 0∧dM [bb] w w'∧bG w' bb #[.slice la ln lc,.string aM,.slice none 0 0,.slice aa xs.length ac,ptr th,.slice none 0 0] 122∧bG w' th #[wQ,.slice none 0 0] 187∧w'.ownsRow w.heap.size 9 1 (.slice aa xs.length ac) xs.length (xs.map Value.string)∧w.heap.size<=th):=by
 have rk:=fun i=>aA hk i
 have hs:=JG aM w ha;have Me:=bU hk
 cases nA:Nm.split aM with
 |none=>
  rw [nA] at hs;simp only [Option.isSome_none,Option.getD_none] at hs;clear nA;go_enter Tryz.func105,Tryz.ntmps105;go_wp2_with fail
  refine hs.mono ?_;rintro e w1 ⟨v,rfl,ho,b1⟩;clear hs;go_wp2;go_ret2
  exact .inl ⟨trivial,rfl,b1⟩
 |some xs=>
  rw [nA] at hs;simp only [Option.isSome_some,Option.getD_some] at hs
  by_cases hln:500<ln
  ·have i1:(500:Int)<(ln:Int):=by omega
   have HL:=Nm.aF hln;clear nA hln;go_enter Tryz.func105,Tryz.ntmps105;go_wp2_with fail
   refine hs.mono ?_;rintro e w1 ⟨v,rfl,ho,b1⟩;have rk1:=fun i=>aA (aB hk b1) i
   clear hs rk;go_wp2;go_ret2;exact .inr (.inl ⟨by simp,HL.out,rfl,b1⟩)
  have i1:¬(500:Int)<(ln:Int):=by omega
  have HL:=Nm.aF hln;clear nA hln;go_enter Tryz.func105,Tryz.ntmps105;go_wp2_with fail
  refine hs.mono ?_;rintro e w1 ⟨v,rfl,ho,b1⟩;obtain⟨aa,ac,rfl⟩:=aT ho;have k1:=aB hk b1;have rk1:=fun i=>aA k1 i
  have b2:=(aK w1.heap.size w1).alloc (aN _) (.cells #[wQ,.slice none 0 0] 187);have kt:=aH w1 #[wQ,.slice none 0 0] 187;have k2:=aB k1 b2;have rk2:=fun i=>aA k2 i
  have fk2:=fun i=>aG k2 i
  have o2:=own_below ho b2;have hn:=Ah (.func 133) w1;unfold ptr at hn;unfold wQ at kt rk2 fk2;clear hs rk;go_wp2_with (go_at_call 132;refine hn.mono ?_;rintro e w2 ⟨rfl,rfl⟩)
  go_ret2;have k3:=aI (aI k2 3 (.slice aa xs.length ac)) 4 (.pointer (some ⟨w1.heap.size,0,none⟩));simp only [List.setIfInBounds_toArray,List.set_cons_zero,List.set_cons_succ] at k3;have dQ:bb≠w1.heap.size:=by have:=b1.size;omega
  refine .inr (.inr ⟨xs,aa,ac,w1.heap.size,rfl,by have:=HL.out;omega,rfl,?_,k3,?_,?_,b1.size⟩)
  ·have h9:=(dM.below (fp:=[bb]) (Nm.aC b1 b2)).trans (qB (b:=bb) (i:=3) (v:=.slice aa xs.length ac)) (fun k hk=>.inl hk);exact h9.trans (qB (b:=bb) (i:=4) (v:=.pointer (some ⟨w1.heap.size,0,none⟩))) (fun k hk=>.inl hk)
  ·exact aP (aP kt (xE _ bb 3 _) (fun e=>by cases e;exact dQ rfl)) (xE _ bb 4 _) (fun e=>by cases e;exact dQ rfl)
  have o3:=eU (i:=3) (y:=.slice aa xs.length ac) o2 (bW o2 k2 (by decide));exact eU o3 (bW o3 (aI k2 3 (.slice aa xs.length ac)) (by decide))
