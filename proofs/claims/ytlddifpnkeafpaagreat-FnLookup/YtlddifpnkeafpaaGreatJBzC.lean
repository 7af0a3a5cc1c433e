import Derived.Test.YtlddifpnkeafpaaGreatJTrH
set_option linter.unusedVariables false
set_option maxRecDepth 100000
set_option maxHeartbeats 4000000
namespace Go.Proofs.YtlddifpnkeafpaaGreat
variable {B i n:Nat}{W w:World}{a b c lab xs ys:List ByteArray}{aL fd:ByteArray}{fV:Bool}{ks:List Ld}{l:List It}{lv v:Value}{o:dG}{os os':List dG}{x y:It}
section
open Go.RowKit
theorem P9:(Tryz.prog.info? 128).map (·.size)=some 3:=by kernel_rfl
theorem Yu(t:Nat)(w:World):(binOp .eql 103 (.pointer (some ⟨t,0,none⟩)) (.pointer (some ⟨t,0,none⟩))).run Tryz.prog w=.ok (.bool true) w:=by
 obtain⟨j,hj,_⟩:=Option.map_eq_some_iff.1 P9;exact run_eql_ptr_same w _ Tryz.underlying103 hj
theorem Rn{t x:Nat}{ca cb:Array Value}{ta tb:TypeId}(h:t≠x)(ha:bW w t ca ta)(hb:bW w x cb tb):
 (binOp .eql 103 (.pointer (some ⟨t,0,none⟩)) (.pointer (some ⟨x,0,none⟩))).run Tryz.prog w=.ok (.bool false) w:=by
 obtain⟨j,hj,hs⟩:=Option.map_eq_some_iff.1 P9;exact run_eql_ptr_other w Tryz.underlying103 hj (by omega) (fun e=>h (congrArg Addr.block e)) ha hb
theorem Ro(v:Value)(bs:List Nat)(t:Nat)(w:World)(h:dZ w v bs.length 1 (bs.map ptr))(UO:∀ b,b=t∨b∈bs->∃ cs T,bW w b cs T):
 Calls Tryz.prog 175 #[v,.pointer (some ⟨t,0,none⟩)] w fun e w'=>Below w.heap.size w w'∧((t∉bs∧e=.returned (.int .i64 (-1)))∨(t∈bs∧∃ k:Nat,e=.returned (.int .i64 k))):=by
 obtain⟨_,a,cap,rfl,gT,kV,hc⟩:=h;unfold maxLen at kV;go_enter Tryz.func175,Tryz.ntmps175;go_wp2
 go_loopw [8] (fun i wr=>∃ k:Nat,k<=bs.length∧i=.int .i64 k∧t∉bs.take k∧Below w.heap.size w wr) (fun i _=>bs.length-(intOf i).toNat)
 ·exact⟨0,dR _,rfl,by simp,aJ _ _⟩
 obtain⟨k,hk,rfl,gI,aG⟩:=hrel;have HR:=Nm.aD (aV gI aG)
 by_cases bY:k<bs.length
 ·obtain⟨x,hx⟩:=gQ bY;obtain⟨bb,off,rfl,aH⟩:=hc (by omega);have vS:=aH k (.pointer (some ⟨x,0,none⟩)) (by simp [ptr,hx]);have hcr:wr.cell? ⟨bb,off+k,none⟩=some (.pointer (some ⟨x,0,none⟩)):=(aG.cell (fD w _ vS)).trans vS;have HX:=Nm.aD hx;have i1:=fE k
  have i2:(k:Int)<(bs.length:Int):=by omega
  obtain⟨c1,T1,k1⟩:=UO t (.inl rfl);obtain⟨c2,T2,k2⟩:=UO x (.inr (dA hx));have K1:=Nm.aD (aV (aB k1 aG) (aB k2 aG));clear hc aH vS hx gI aG k1 k2
  by_cases he:t=x
  ·subst he;have hq:=Yu t wr;clear UO;go_wp2;go_ret;exact⟨HR.out.2,.inr ⟨dA HX.out,k,rfl⟩⟩
  have hq:=Rn he K1.out.1 K1.out.2;clear UO;go_wp2;go_roundw
  case rel=>
   refine⟨k+1,by omega,by go_num,?_,HR.out.2⟩;obtain⟨vT,e⟩:=dL HX.out;rw [List.take_succ_eq_append_getElem vT,e];simp only [List.mem_append,List.mem_singleton,not_or];exact⟨HR.out.1,he⟩
  simp [intOf];omega
 have FE:k=bs.length:=by omega
 subst FE;clear hc gI aG;go_wp2;go_ret;have:=HR.out.1;rw [List.take_length] at this;exact⟨HR.out.2,.inl ⟨this,rfl⟩⟩
theorem Bc(v:Value)(bs:List Nat)(t:Nat)(w:World)(h:dZ w v bs.length 1 (bs.map ptr))(UO:∀ b,b=t∨b∈bs->∃ cs T,bW w b cs T):
 Calls Tryz.prog 147 #[v,.pointer (some ⟨t,0,none⟩)] w fun e w'=>e=.returned (.bool (decide (t∈bs)))∧Below w.heap.size w w':=by
 have hi:=Ro v bs t w h UO;obtain⟨_,a,cap,rfl,gT,kV,hc⟩:=h;clear hc;go_enter Tryz.func147,Tryz.ntmps147;go_wp2_with fail
 refine hi.mono ?_;rintro e w1 ⟨b1,⟨hb,rfl⟩|⟨hb,k,rfl⟩⟩
 ·have HB:=Nm.aD hb;clear hb;go_wp2;go_ret;rw [oF HB.out];exact⟨rfl,b1⟩
 have HB:=Nm.aD hb;clear hb;have hk:=fE k
 go_wp2;go_ret;rw [oI HB.out];exact⟨rfl,b1⟩
def MQ:List ByteArray->Bool
 |[]=>false
 |x::_=>x.toList==[42]
theorem Yv(v:Value)(ls:List ByteArray)(w:World)(h:Nm.bP w v ls):
 Calls Tryz.prog 142 #[v] w fun e w'=>e=.returned (.bool (MQ ls))∧Below w.heap.size w w':=by
 obtain⟨a,cap,rfl,h1,h2,h3,h4⟩:=h;unfold maxLen at h2
 cases ls with
 |nil=>
  clear h3 h4;go_enter Tryz.func142,Tryz.ntmps142;go_wp2;go_ret
  exact⟨rfl,aJ _ _⟩
 |cons x ls=>
  obtain⟨b,off,rfl,hc⟩:=h4 (by simp);have c0:=hc 0 x rfl;simp only [Nat.add_zero] at c0;generalize hn:(x::ls).length=N at*;have n1:(0:Int)<(N:Int):=by simp at hn;omega
  clear hc h3 h4 hn;go_enter Tryz.func142,Tryz.ntmps142;go_wp2;go_ret;exact⟨rfl,aJ _ _⟩
def iJ{α:Type}(P:α->Prop)(l:List α)(i:Nat)(x:α):Prop:=l[i]? =some x∧P x∧∀ (j:Nat) (y:α),j<i->l[j]? =some y->¬P y
theorem iJ.lt{α:Type}{P:α->Prop}{l:List α}{x:α}(h:iJ P l i x):i<l.length:=(dL h.1).1
theorem iJ.snoc{α:Type}{P:α->Prop}{l:List α}{x:α}(h:iJ P l i x)(y:α):iJ P (l++[y]) i x:=by
 have hi:=h.lt;refine⟨by rw [List.getElem?_append_left hi];exact h.1,h.2.1,fun j z hj hz=>?_⟩;rw [List.getElem?_append_left (by omega)] at hz;exact h.2.2 j z hj hz
theorem iJ.new{α:Type}{P:α->Prop}{l:List α}{x:α}(gI:∀ y∈l,¬P y)(hx:P x):iJ P (l++[x]) l.length x:=
 ⟨by simp,hx,fun j y hj hy=>by rw [List.getElem?_append_left hj] at hy;exact gI y (dA hy)⟩
theorem iJ.congr{α:Type}{P Q:α->Prop}{l:List α}{x:α}(h:iJ P l i x)(e:∀ y,P y↔Q y):iJ Q l i x:=
 ⟨h.1,(e x).1 h.2.1,fun j y hj hy hq=>h.2.2 j y hj hy ((e y).2 hq)⟩
theorem iJ.mem{α:Type}{P:α->Prop}{l:List α}{x:α}(h:iJ P l i x):x∈l:=dA h.1
theorem iJ.ex{α:Type}{P:α->Prop}:∀ {l:List α},(∃ x∈l,P x)->∃ i x,iJ P l i x:=by
 intro l
 induction l with
 |nil=>rintro⟨x,hx,_⟩;cases hx
 |cons y l ih=>
  rintro⟨x,hx,hp⟩
  by_cases hy:P y
  ·exact⟨0,y,rfl,hy,fun j _ hj=>by omega⟩
  have hx':x∈l:=by
   rcases List.mem_cons.1 hx with rfl|h
   ·exact absurd hp hy
   exact h
  obtain⟨i,z,h1,h2,h3⟩:=ih ⟨x,hx',hp⟩;refine⟨i+1,z,by simpa using h1,h2,fun j u hj hu=>?_⟩
  cases j with
  |zero=>simp at hu;subst hu;exact hy
  |succ j=>exact h3 j u (by omega) (by simpa using hu)
theorem iJ.uniq{α:Type}{P:α->Prop}{l:List α}{j:Nat}{x y:α}(h:iJ P l i x)(h':iJ P l j y):i=j∧x=y:=by
 have e:i=j:=by
  rcases Nat.lt_trichotomy i j with h1|h1|h1
  ·exact absurd h.2.1 (h'.2.2 i x h1 h.1)
  ·exact h1
  exact absurd h'.2.1 (h.2.2 j y h1 h'.1)
 subst e;have:=h.1.symm.trans h'.1;exact⟨rfl,jI this⟩
theorem iJ.find{α:Type}{P:α->Prop}{l:List α}{x:α}(h:iJ P l i x)(p:α->Bool)(e:∀ y∈l,p y=true↔P y):l.find? p=some x:=by
 rw [List.find?_eq_some_iff_getElem];have hi:=h.lt;refine⟨(e x h.mem).2 h.2.1,i,hi,(dL h.1).2,fun j hj=>?_⟩;have OE:l[j]? =some l[j]:=gF (by omega);have:=h.2.2 j _ hj OE;cases hp:p l[j]
 ·rfl
 exact absurd ((e _ (dA OE)).1 hp) this
theorem sG{α:Type}{f:α->Int}{R:α->α->Prop}:∀ {l:List α},l.Pairwise R->(∀ a b,R a b->f b<=0->f a<0)->
 (gY f l=false∧∃ A C,l=A++C∧posOf f l=A.length∧(∀ a∈A,f a<0)∧∀ c∈C,0<f c)∨
 (gY f l=true∧∃ A o C,l=A++o::C∧posOf f l=A.length∧f o=0∧(∀ a∈A,f a<0)∧∀ c∈C,0<f c):=by
 intro l
 induction l with
 |nil=>intro _ _;exact .inl ⟨rfl,[],[],rfl,rfl,by simp,by simp⟩
 |cons x l ih=>
  intro hp hR;obtain⟨hx,hl⟩:=List.pairwise_cons.1 hp
  by_cases h1:f x<0
  ·have hpo:posOf f (x::l)=posOf f l+1:=by simp [posOf,h1]
   have kY:gY f (x::l)=gY f l:=by
    rw [gY,gY,hpo];congr 1;simp
   rw [kY,hpo]
   rcases ih hl hR with⟨hi,A,C,e,hA,ha,hc⟩|⟨hi,A,o,C,e,hA,h0,ha,hc⟩
   ·refine .inl ⟨hi,x::A,C,by rw [e];rfl,by rw [hA];rfl,fun a hm=>?_,hc⟩
    rcases List.mem_cons.1 hm with rfl|hm
    ·exact h1
    exact ha a hm
   refine .inr ⟨hi,x::A,o,C,by rw [e];rfl,by rw [hA];rfl,h0,fun a hm=>?_,hc⟩
   rcases List.mem_cons.1 hm with rfl|hm
   ·exact h1
   exact ha a hm
  have hpo:posOf f (x::l)=0:=by simp [posOf,h1]
  have hC:∀ c∈l,0<f c:=fun c hc=>by
   rcases Int.lt_or_le 0 (f c) with h|h
   ·exact h
   exact absurd (hR x c (hx c hc) h) h1
  have kY:gY f (x::l)=decide (f x=0):=by
   rw [gY,hpo];simp [pO]
  by_cases h0:f x=0
  ·exact .inr ⟨by rw [kY,oI h0],[],x,l,rfl,hpo,h0,by simp,hC⟩
  refine .inl ⟨by rw [kY,oF h0],[],x::l,rfl,hpo,by simp,fun c hc=>?_⟩
  rcases List.mem_cons.1 hc with rfl|hc
  ·omega
  exact hC c hc
theorem Kw{α:Type}(A C:List α)(x:α):mR A.length x (A++C)=A++x::C:=by simp [mR]
theorem XX{α:Type}(A C:List α)(o x:α):(A++o::C).set A.length x=A++x::C:=by
 rw [List.set_append_right _ _ (aI _)];simp
theorem Rp(h1:Nm.aN a b<0)(h2:Nm.aN b c<=0):Nm.aN a c<0:=by
 have h3:=iD (a:=a) (b:=b) (c:=c) (by omega) h2
 rcases Int.lt_or_eq_of_le h3 with h|h
 ·exact h
 exfalso
 have h4:=dU a c;have h5:=iD (a:=b) (b:=c) (c:=a) h2 (by rw [h4];omega);have h6:=dU a b;omega
theorem dB(h:Nm.aN a b=0):Nm.aN a c=Nm.aN b c:=by
 have uG:=UN a c;have wR:=UN b c;have h':Nm.aN b a=0:=by rw [dU a b];omega
 have k1:=fun(x:Nm.aN b c<=0)=>iD (a:=a) (b:=b) (c:=c) (by omega) x
 have k2:=fun(x:Nm.aN a c<=0)=>iD (a:=b) (b:=a) (c:=c) (by omega) x
 have k3:=fun(x:0<=Nm.aN b c)=>OY (a:=a) (b:=b) (c:=c) (by omega) x
 have k4:=fun(x:0<=Nm.aN a c)=>OY (a:=b) (b:=a) (c:=c) (by omega) x
 by_cases z1:Nm.aN b c<=0<;>by_cases z2:0<=Nm.aN b c<;>by_cases z3:Nm.aN a c<=0<;>by_cases z4:0<=Nm.aN a c<;>first|omega|(have:=k1 z1;omega)|(have:=k2 z3;omega)|(have:=k3 z2;omega)|(have:=k4 z4;omega)
theorem bQ(h:Nm.aN a b=0):Nm.aN c a=Nm.aN c b:=by
 rw [dU a c,dU b c,dB h]
theorem fA(a:List ByteArray):Nm.aN a a=0:=(lM a a).2 rfl
theorem iC(h:Nm.aN a b=0):Nm.aN b a=0:=by rw [dU a b];omega
theorem TK(lab:List ByteArray)(a b:dG)(h:Nm.aN a.lab b.lab<0)(hb:dX lab b<=0):dX lab a<0:=Rp h hb
theorem Hl(ty:Int)(a b:nY)(h:a.ty<b.ty)(hb:eP ty b<=0):eP ty a<0:=by
 rw [eP,vL];rw [eP] at hb
 rcases Int.lt_trichotomy b.ty ty with h1|h1|h1
 ·omega
 ·omega
 rw [Nm.pK h1] at hb;omega
theorem Yw{a b c:List UInt8}(h1:Nm.iV a b<0)(h2:Nm.iV b c<=0):Nm.iV a c<0:=by
 have h3:=uN a b c (by omega) h2
 rcases Int.lt_or_eq_of_le h3 with h|h
 ·exact h
 exfalso
 have h4:=rU a c;have h5:=uN b c a h2 (by rw [h4];omega);have h6:=rU a b;omega
theorem aA8(fd:ByteArray)(a b:ByteArray×ByteArray)(h:Nm.iV a.1.data.toList b.1.data.toList<0)(hb:sK fd b<=0):sK fd a<0:=Yw h hb
theorem Hm{p:ByteArray×ByteArray}:sK fd p=0↔p.1=fd:=by
 rw [sK,uM];exact⟨fun h=>Nm.lL h,fun h=>by rw [h]⟩
theorem Ho{ty:Int}{s:nY}:eP ty s=0↔s.ty=ty:=⟨fun h=>SY h,fun h=>by rw [eP,Nm.vC h]⟩
theorem aIt(c:UInt8):Nm.low (Nm.low c)=Nm.low c:=by
 by_cases h:65<=c.toNat∧c.toNat<=90
 ·have:=Nm.Im h;exact Nm.MX (by omega)
 rw [Nm.MX h,Nm.MX h]
theorem VJ(x:ByteArray):Nm.small (Nm.small x)=Nm.small x:=by
 apply Nm.lL;rw [Nm.eF,Nm.eF,Nm.eX,Nm.eX,List.map_map];apply List.map_congr_left;intro c _;exact aIt c
theorem Yx(x y:ByteArray):Nm.jP (Nm.small x) (Nm.small y)=Nm.jP x y:=by
 rw [Nm.jP,Nm.jP,<- Nm.eF,<- Nm.eF,VJ,VJ,Nm.eF,Nm.eF]
theorem QB:∀ (a b:List ByteArray),Nm.dW (a.map Nm.small) (b.map Nm.small)=Nm.dW a b
 |[],[]=>rfl
 |[],y::b=>rfl
 |x::a,[]=>rfl
 |x::a,y::b=>by
  simp only [List.map_cons,Nm.dW,Yx,QB a b]
theorem VK(a b:List ByteArray):Nm.aN (a.map Nm.small) (b.map Nm.small)=Nm.aN a b:=by
 rw [Nm.aN,<- List.map_reverse,<- List.map_reverse,QB,Nm.aN]
theorem EJ(a b:List ByteArray):aQ (a.map Nm.small) (b.map Nm.small)=aQ a b:=by
 rw [aQ,aQ,List.length_map,List.length_map,<- List.map_drop,VK]
theorem JA{a' b':List ByteArray}(h1:Nm.aN a a'=0)(h2:Nm.aN b b'=0):aQ a b=aQ a' b':=by
 rw [<- EJ a b,<- EJ a' b',(lM _ _).1 h1,(lM _ _).1 h2]
theorem nG(h:Nm.aN a b=0):a.length=b.length:=by
 have:=congrArg List.length ((lM _ _).1 h);simpa using this
theorem uU{a:ByteArray}(h:Nm.split a=some xs):Nm.split (Nm.dV a)=some (xs.map Nm.small):=by
 rw [Nm.oK h,<- Nm.vG h];have:=Nm.dK h;exact qI (YP (Nm.jB h).2) (by rw [Nm.DK];omega)
theorem CJ{a b:ByteArray}(ha:Nm.split a=some xs)(hb:Nm.split b=some ys):Nm.dV a=Nm.dV b↔Nm.aN xs ys=0:=by
 constructor
 ·intro h;have h1:=uU ha;rw [h,uU hb] at h1;exact(lM _ _).2 (jI h1).symm
 intro h;rw [Nm.oK ha,Nm.oK hb,<- Nm.vG ha,<- Nm.vG hb,(lM _ _).1 h]
theorem TM{a b:ByteArray}(ha:Nm.split a=some xs)(hb:Nm.split b=some ys):Nm.sH (Nm.dV a) (Nm.dV b)=Nm.aN xs ys:=by
 rw [Nm.sH,uU ha,uU hb];exact VK _ _
theorem QC{a b:ByteArray}(ha:Nm.split a=some xs)(hb:Nm.split b=some ys):cZ (Nm.dV a) (Nm.dV b)=aQ xs ys:=by
 rw [bZ (uU ha) (uU hb)];exact EJ _ _
theorem Bd{c:UInt8}:Nm.low c=42↔c=42:=by
 by_cases h:65<=c.toNat∧c.toNat<=90
 ·have h1:=Nm.Im h;constructor
  ·intro e;rw [e] at h1;simp at h1;omega
  intro e;rw [e] at h;simp at h
 rw [Nm.MX h]
theorem Yy(h:Nm.aN a b=0):MQ a=MQ b:=by
 have e:=(lM _ _).1 h
 cases a with
 |nil=>
  cases b with
  |nil=>rfl
  |cons y b=>simp at e
 |cons x a=>
  cases b with
  |nil=>simp at e
  |cons y b=>
   simp only [List.map_cons,List.cons.injEq] at e;have e1:=congrArg (fun z:ByteArray=>z.data.toList) e.1;simp only [Nm.eF,Nm.eX] at e1;rw [MQ,MQ,ByteArray.toList_eq,ByteArray.toList_eq,Bool.eq_iff_iff];simp only [beq_iff_eq];generalize x.data.toList=X at*;generalize y.data.toList=Y at*
   have key:∀ Z:List UInt8,Z=[42]↔Z.map Nm.low=[42]:=by
    intro Z
    cases Z with
    |nil=>simp
    |cons z Z=>cases Z with
     |nil=>simp [Bd]
     |cons z' Z=>simp
   rw [key X,key Y,e1]
theorem Yz{a:ByteArray}(h:Nm.split a=some xs):II (Nm.dV a)=MQ xs:=by
 have hj:=Nm.jB h;rw [Nm.oK h,<- Nm.vG h,II]
 cases xs with
 |nil=>rfl
 |cons x t=>
  have hx:=hj.2 x (List.mem_cons_self)
  have e:Nm.joinL ((x::t).map Nm.small)=UInt8.ofNat x.size::((Nm.small x).data.toList++Nm.joinL (t.map Nm.small)):=by
   simp [Nm.joinL,Nm.uE,Nm.qW]
  have hs:1<(ByteArray.mk (Nm.joinL ((x::t).map Nm.small)).toArray).size:=by
   show 1<(Nm.joinL ((x::t).map Nm.small)).toArray.size
   rw [List.size_toArray,e];have:(Nm.small x).data.toList.length=x.size:=by rw [Nm.eF];simp [Nm.eX]
   simp only [List.length_cons,oJ,this];omega
  rw [oI hs,Bool.true_and,MQ,Bool.eq_iff_iff,decide_eq_true_eq,beq_iff_eq,ByteArray.toList_eq];have hl:x.data.toList.length=x.size:=by simp
  rw [e,Nm.eF,Nm.eX];generalize x.data.toList=X at*
  cases X with
  |nil=>simp at hl;omega
  |cons c X=>
   have h63:x.size<=63:=hx.2;generalize x.size=n at*;constructor
   ·intro h2;have h3:=congrArg (fun z:ByteArray=>z.data.toList) h2;simp at h3;obtain⟨h4,h5⟩:=h3
    have hn:n=1:=by
     have:=congrArg UInt8.toNat h4;simp at this;omega
    subst hn;simp at hl;subst hl;rw [Bd.1 h5]
   intro h2;simp at h2;obtain⟨rfl,rfl⟩:=h2;simp at hl;subst hl;have h42:Nm.low 42=42:=Bd.2 rfl;apply Nm.lL;simp [h42]
def gN(x:It):List ByteArray:=(Nm.split x.r.own).getD []
def iN(x:It):Prop:=Nm.split x.r.own=some (gN x)∧x.fo=Nm.dV x.r.own∧x.dt=oV x.r.ty x.r.da∧x.out=false
def FK(lab:List ByteArray)(y:It):Prop:=Nm.aN (gN y) lab=0
def OfS(lab:List ByteArray)(ty:Int)(y:It):Prop:=FK lab y∧y.r.ty=ty
def We(lab:List ByteArray)(ty:Int)(fd:ByteArray)(y:It):Prop:=OfS lab ty y∧y.dt=fd
theorem tQ(hx:iN x)(hy:iN y):x.fo=y.fo↔Nm.aN (gN x) (gN y)=0:=by
 rw [hx.2.1,hy.2.1];exact CJ hx.1 hy.1
structure rJ (l:List It) (os:List dG):Prop where
 sorted:Jz os∧∀ o∈os,VE o.ss∧∀ s∈o.ss,DaS s.da
 len:os.length<=l.length∧∀ o∈os,o.ss.length<=l.length∧∀ s∈o.ss,s.da.length<=l.length
 own:∀ o∈os,∃ i x,iJ (FK o.lab) l i x∧o.nm=x.r.own∧o.lab=gN x
 set:∀ o∈os,∀ s∈o.ss,∃ x,iJ (OfS o.lab s.ty) l s.fi x∧s.tt=x.r.tt
 dat:∀ o∈os,∀ s∈o.ss,∀ p∈s.da,∃ i x,iJ (We o.lab s.ty p.1) l i x∧p.2=x.r.da
 cov:∀ x∈l,∃ o∈os,FK o.lab x∧∃ s∈o.ss,s.ty=x.r.ty∧∃ p∈s.da,p.1=x.dt
theorem rJ.nil:rJ [] []:=⟨⟨List.Pairwise.nil,by simp⟩,by simp,by simp,by simp,by simp,by simp⟩
theorem rJ.trs(h:rJ l os)(hl:l.length<=400000):Yk os:=
 ⟨h.sorted.1,fun o ho=>⟨(h.sorted.2 o ho).1,by have:=(h.len.2 o ho).1;omega,fun s hs=>⟨(h.sorted.2 o ho).2 s hs,by have:=(h.len.2 o ho).2 s hs;omega⟩⟩⟩
theorem Be{α:Type}{R:α->α->Prop}{A C:List α}{x:α}(h:(A++C).Pairwise R)(ha:∀ a∈A,R a x)(hc:∀ c∈C,R x c):(A++x::C).Pairwise R:=by
 rw [List.pairwise_append] at h ⊢;refine⟨h.1,List.pairwise_cons.2 ⟨hc,h.2.1⟩,fun a hm b hb=>?_⟩
 rcases List.mem_cons.1 hb with rfl|hb
 ·exact ha a hm
 exact h.2.2 a hm b hb
theorem Hq{α:Type}{R:α->α->Prop}{A C:List α}{o:α}(h:(A++o::C).Pairwise R):(A++C).Pairwise R:=by
 refine h.sublist ?_;exact List.Sublist.append_left (List.sublist_cons_self o C) A
structure aNl (own:ByteArray) (lv:Value) (lab:List ByteArray) (ty tt:Int) (at_:Nat) (fd da:ByteArray) (os os':List dG) (o':dG) (s':nY) (fV:Bool):Prop where
 spl:∃ (A C:List dG) (o1:dG) (A2 C2:List nY) (s2:nY),os'=A++o'::C∧(∀ a∈A,Nm.aN a.lab lab<0)∧(∀ c∈C,0<Nm.aN c.lab lab)∧
  o'.dS=o1.dS∧o'.lab=o1.lab∧o'.nm=o1.nm∧o'.lv=o1.lv∧
  ((os=A++o1::C∧Nm.aN o1.lab lab=0)∨(os=A++C∧o1.lab=lab∧o1.nm=own∧o1.ss=[]∧o1.lv=lv))∧
  o'.ss=A2++s'::C2∧(∀ a∈A2,a.ty<ty)∧(∀ c∈C2,ty<c.ty)∧s'.dS=s2.dS∧s'.ty=ty∧s2.ty=ty∧s'.fi=s2.fi∧s'.tt=s2.tt∧
  (o1.ss=A2++s2::C2∨(o1.ss=A2++C2∧s2.tt=tt∧s2.fi=at_∧s2.da=[]))∧
  ((fV=false∧s'.da=s2.da∧∃ p∈s2.da,p.1=fd)∨(fV=true∧∃ A3 C3,s2.da=A3++C3∧s'.da=A3++(fd,da)::C3∧(∀ a∈A3,Nm.iV a.1.data.toList fd.data.toList<0)∧(∀ c∈C3,0<Nm.iV c.1.data.toList fd.data.toList)))
theorem aIu{own:ByteArray}{ty tt:Int}{at_:Nat}{da:ByteArray}{ob sb:Nat}(hs:Jz os∧∀ o∈os,VE o.ss∧∀ s∈o.ss,DaS s.da)(h:aKx own lv lab ty tt at_ fd da os os' ob sb fV):
 ∃ o' s',aNl own lv lab ty tt at_ fd da os os' o' s' fV∧o'.dS=ob∧s'.dS=sb:=by
 obtain⟨o1,os1,s2,LK,rv2,rv3,hO,hS,rfl,rfl,hN,Za⟩:=h
 have XE:VE o1.ss∧∀ s∈o1.ss,DaS s.da:=by
  rcases hO with⟨_,_,h1,_⟩|⟨_,_,_,_,_,h1⟩
  ·exact hs.2 o1 (dA h1)
  rw [h1];exact⟨List.Pairwise.nil,by simp⟩
 have Gv:DaS s2.da:=by
  rcases hS with⟨_,_,h1,_⟩|⟨_,_,_,_,_,h1⟩
  ·exact XE.2 s2 (dA h1)
  rw [h1];exact List.Pairwise.nil
 obtain⟨s',Xq⟩:∃ s':nY,s'={s2 with rv:=rv3,da:=ZI (sK fd) (fd,da) s2.da}:=⟨_,rfl⟩;rw [<- Xq] at Za
 have pS:∃ (A2 C2:List nY),LK.set (posOf (eP ty) o1.ss) s'=A2++s'::C2∧(∀ a∈A2,a.ty<ty)∧(∀ c∈C2,ty<c.ty)∧s2.ty=ty∧(o1.ss=A2++s2::C2∨(o1.ss=A2++C2∧s2.tt=tt∧s2.fi=at_∧s2.da=[])):=by
  have gt:∀ {A:List nY},(∀ c∈A,0<eP ty c)->∀ c∈A,ty<c.ty:=fun h c hc=>by
   have:=h c hc;rw [eP] at this
   rcases Int.lt_trichotomy c.ty ty with h1|h1|h1
   ·rw [Nm.pJ h1] at this;omega
   ·rw [Nm.vC h1] at this;omega
   exact h1
  have lt:∀ {A:List nY},(∀ c∈A,eP ty c<0)->∀ c∈A,c.ty<ty:=fun h c hc=>vL.1 (h c hc)
  rcases sG (f:=eP ty) XE.1 (Hl ty) with⟨hi,A,C,e,hp,ha,hc⟩|⟨hi,A,o,C,e,hp,h0,ha,hc⟩
  ·rcases hS with⟨h1,_⟩|⟨_,h2,h3,h4,h5,h6⟩
   ·rw [hi] at h1;cases h1
   refine⟨A,C,?_,lt ha,gt hc,h3,.inr ⟨e,h4,h5,h6⟩⟩;rw [h2,hp,e,Kw,XX]
  rcases hS with⟨_,h2,h3,h4⟩|⟨h1,_⟩
  ·have e2:s2=o:=by
    rw [hp,e,List.getElem?_append_right (aI _)] at h3;simp at h3;exact h3.symm
   subst e2;refine⟨A,C,?_,lt ha,gt hc,h4,.inl e⟩;rw [h2,hp,e,XX]
  rw [hi] at h1;cases h1
 obtain⟨A2,C2,e2,hA2,hC2,tT,aE3⟩:=pS;rw [e2] at Za;obtain⟨o',OA⟩:∃ o':dG,o'={o1 with rv:=rv2,ss:=A2++s'::C2}:=⟨_,rfl⟩;rw [<- OA] at Za
 have pD:(fV=false∧s'.da=s2.da∧∃ p∈s2.da,p.1=fd)∨(fV=true∧∃ A3 C3,s2.da=A3++C3∧s'.da=A3++(fd,da)::C3∧(∀ a∈A3,Nm.iV a.1.data.toList fd.data.toList<0)∧(∀ c∈C3,0<Nm.iV c.1.data.toList fd.data.toList)):=by
  have e3:s'.da=ZI (sK fd) (fd,da) s2.da:=by rw [Xq]
  rcases sG (f:=sK fd) Gv (aA8 fd) with⟨hi,A,C,e,hp,ha,hc⟩|⟨hi,A,o,C,e,hp,h0,ha,hc⟩
  ·refine .inr ⟨by rw [hN,hi];rfl,A,C,e,?_,ha,hc⟩;rw [e3,ZI,hi,hp];simp only [Bool.false_eq_true,if_false];rw [e,Kw]
  refine .inl ⟨by rw [hN,hi];rfl,by rw [e3,ZI,hi];rfl,o,by rw [e];simp,Hm.1 h0⟩
 refine⟨o',s',⟨?_⟩,by rw [OA],by rw [Xq]⟩
 rcases sG (f:=dX lab) hs.1 (TK lab) with⟨hi,A,C,e,hp,ha,hc⟩|⟨hi,A,o,C,e,hp,h0,ha,hc⟩
 ·rcases hO with⟨h1,_⟩|⟨_,h2,h3,h4,h5,h6⟩
  ·rw [hi] at h1;cases h1
  refine⟨A,C,o1,A2,C2,s2,?_,ha,hc,by rw [OA],by rw [OA],by rw [OA],by rw [OA],.inr ⟨e,h3,h5,h6,h4⟩,by rw [OA],hA2,hC2,by rw [Xq],by rw [Xq];exact tT,tT,by rw [Xq],by rw [Xq],aE3,pD⟩;rw [Za,h2,hp,e,Kw,XX]
 rcases hO with⟨_,h2,h3,h4⟩|⟨h1,_⟩
 ·have e1:o1=o:=by
   rw [hp,e,List.getElem?_append_right (aI _)] at h3;simp at h3;exact h3.symm
  subst e1;refine⟨A,C,o1,A2,C2,s2,?_,ha,hc,by rw [OA],by rw [OA],by rw [OA],by rw [OA],.inl ⟨e,h4⟩,by rw [OA],hA2,hC2,by rw [Xq],by rw [Xq];exact tT,tT,by rw [Xq],by rw [Xq],aE3,pD⟩;rw [Za,h2,hp,e,XX]
 rw [hi] at h1;cases h1
structure aNm (l:List It) (x:It) (lv:Value) (os os':List dG) (o':dG) (s':nY) (fV:Bool):Prop where
 inv:rJ (l++[x]) os'
 ET:o'∈os'∧FK o'.lab x
 isSet:s'∈o'.ss∧s'.ty=x.r.ty
 nw:fV=true↔ ∀ y∈l,¬We (gN x) x.r.ty x.dt y
 kept:∀ o∈os,∃ q∈os',q.dS=o.dS∧q.lab=o.lab∧q.lv=o.lv∧∀ s∈o.ss,∃ t∈q.ss,t.dS=s.dS∧t.ty=s.ty
 vU:∀ q∈os',(∃ o∈os,q.lv=o.lv∧q.lab=o.lab)∨(q.lv=lv∧q.lab=gN x)
theorem kI{α:Type}{A C:List α}{x q:α}(h:q∈A++x::C):q=x∨q∈A∨q∈C:=by
 rcases iU h with h|h
 ·exact .inr (.inl h)
 rcases List.mem_cons.1 h with h|h
 ·exact .inl h
 exact .inr (.inr h)
theorem aNn{o':dG}{s':nY}(hI:rJ l os)(h:aNl x.r.own lv (gN x) x.r.ty x.r.tt l.length x.dt x.r.da os os' o' s' fV):aNm l x lv os os' o' s' fV:=by
 obtain⟨A,C,o1,A2,C2,s2,eos,hA,hC,eb,el,en,ev,hO,ess,hA2,hC2,sb,st,st2,sf,stt,hS,hD⟩:=h.spl
 have aE4:Nm.aN o1.lab (gN x)=0:=by
  rcases hO with⟨_,h1⟩|⟨_,h1,_⟩
  ·exact h1
  rw [h1];exact fA _
 have isO:∀ y,FK o1.lab y↔FK (gN x) y:=fun y=>by rw [FK,FK,bQ aE4]
 have nz:∀ o,(o∈A∨o∈C)->Nm.aN o.lab (gN x)≠0:=fun o ho=>by
  rcases ho with ho|ho
  ·have:=hA o ho;omega
  have:=hC o ho;omega
 have nt:∀ s,(s∈A2∨s∈C2)->s.ty≠x.r.ty:=fun s hs=>by
  rcases hs with hs|hs
  ·have:=hA2 s hs;omega
  have:=hC2 s hs;omega
 have acO:∀ o,(o∈A∨o∈C)->o∈os:=fun o ho=>by
  rcases hO with⟨e,_⟩|⟨e,_⟩<;>rw [e]<;>rcases ho with ho|ho<;>simp [ho]
 have acS:∀ s,(s∈A2∨s∈C2)->s∈o1.ss:=fun s hs=>by
  rcases hS with e|⟨e,_⟩<;>rw [e]<;>rcases hs with hs|hs<;>simp [hs]
 have aRa:o1.ss≠[]->o1∈os:=fun dM=>by
  rcases hO with⟨e,_⟩|⟨_,_,_,h1,_⟩
  ·rw [e];simp
  exact absurd h1 dM
 have mne:∀ {s:nY},s∈o1.ss->o1∈os:=fun hs=>aRa (List.ne_nil_of_mem hs)
 have aK8:∀ y∈l,FK (gN x) y->o1∈os∧∃ s∈o1.ss,s.ty=y.r.ty∧∃ p∈s.da,p.1=y.dt:=by
  intro y hy h1;obtain⟨o,ho,h2,s,hs,h3,p,hp,h4⟩:=hI.cov y hy;have h5:Nm.aN o.lab (gN x)=0:=by rw [<- dB h2];exact h1
  rcases hO with⟨e,_⟩|⟨e,_⟩
  ·rw [e] at ho
   rcases kI ho with rfl|ho
   ·exact⟨by rw [e];simp,s,hs,h3,p,hp,h4⟩
   exact absurd h5 (nz o ho)
  rw [e] at ho;exact absurd h5 (nz o (iU ho))
 have aNo:∀ y∈l,OfS (gN x) x.r.ty y->o1.ss=A2++s2::C2∧∃ p∈s2.da,p.1=y.dt:=by
  intro y hy h1;obtain⟨_,s,hs,h3,hp⟩:=aK8 y hy h1.1;rw [h1.2] at h3
  rcases hS with e|⟨e,_⟩
  ·rw [e] at hs
   rcases kI hs with rfl|hs
   ·exact⟨e,hp⟩
   exact absurd h3 (nt s hs)
  rw [e] at hs;exact absurd h3 (nt s (iU hs))
 have aRb:∀ y∈l,We (gN x) x.r.ty x.dt y->fV=false:=by
  intro y hy h1;obtain⟨_,p,hp,h3⟩:=aNo y hy h1.1;rw [h1.2] at h3;have h0:Nm.iV p.1.data.toList x.dt.data.toList=0:=Hm.2 h3
  rcases hD with⟨h4,_⟩|⟨_,A3,C3,e,_,ha,hc⟩
  ·exact h4
  rw [e] at hp
  rcases iU hp with hp|hp
  ·have:=ha p hp;omega
  have:=hc p hp;omega
 have aNp:s2.da≠[]->s2∈o1.ss:=fun dM=>by
  rcases hS with e|⟨_,_,_,e⟩
  ·rw [e];simp
  exact absurd e dM
 have nw:fV=true↔ ∀ y∈l,¬We (gN x) x.r.ty x.dt y:=by
  constructor
  ·intro h1 y hy h2;rw [aRb y hy h2] at h1;cases h1
  intro h1
  rcases hD with⟨_,_,p,hp,h3⟩|⟨h2,_⟩
  ·exfalso
   have hs:=aNp (List.ne_nil_of_mem hp);obtain⟨i,y,hy,_⟩:=hI.dat o1 (mne hs) s2 hs p hp;obtain⟨⟨z1,z2⟩,z3⟩:=hy.2.1;exact h1 y hy.mem ⟨⟨(isO y).1 z1,by rw [z2,st2]⟩,by rw [z3,h3]⟩
  exact h2
 have sub3:∀ p∈s2.da,p∈s'.da:=fun p hp=>by
  rcases hD with⟨_,e,_⟩|⟨_,A3,C3,e,e',_⟩
  ·rw [e];exact hp
  rw [e'];rw [e] at hp
  rcases iU hp with hp|hp<;>simp [hp]
 have xp:∃ p∈s'.da,p.1=x.dt:=by
  rcases hD with⟨_,e,p,hp,h3⟩|⟨_,A3,C3,e,e',_⟩
  ·exact⟨p,by rw [e];exact hp,h3⟩
  exact⟨(x.dt,x.r.da),by rw [e'];simp,rfl⟩
 have o'm:o'∈os':=by rw [eos];simp
 have s'm:s'∈o'.ss:=by rw [ess];simp
 have aNq:∀ o,(o∈A∨o∈C)->o∈os':=fun o ho=>by rw [eos];rcases ho with ho|ho<;>simp [ho]
 have aK9:∀ s,(s∈A2∨s∈C2)->s∈o'.ss:=fun s hs=>by rw [ess];rcases hs with hs|hs<;>simp [hs]
 have ET:FK o'.lab x:=by rw [FK,el];exact iC aE4
 have aIv:VE o1.ss∧∀ s∈o1.ss,DaS s.da:=by
  rcases hO with⟨e,_⟩|⟨_,_,_,h1,_⟩
  ·exact hI.sorted.2 o1 (by rw [e];simp)
  rw [h1];exact⟨List.Pairwise.nil,by simp⟩
 have aNr:DaS s2.da:=by
  rcases hS with e|⟨_,_,_,e⟩
  ·exact aIv.2 s2 (by rw [e];simp)
  rw [e];exact List.Pairwise.nil
 have ow:Jz os':=by
  rw [eos];refine Be ?_ (fun a ha=>?_) fun c hc=>?_
  ·rcases hO with⟨e,_⟩|⟨e,_⟩
   ·exact Hq (by rw [<- e];exact hI.sorted.1)
   rw [<- e];exact hI.sorted.1
  ·rw [el,bQ aE4];exact hA a ha
  rw [el,dB aE4,dU c.lab];have:=hC c hc;omega
 have se:VE o'.ss:=by
  rw [ess];refine Be ?_ (fun a ha=>by rw [st];exact hA2 a ha) (fun c hc=>by rw [st];exact hC2 c hc)
  rcases hS with e|⟨e,_⟩
  ·exact Hq (by rw [<- e];exact aIv.1)
  rw [<- e];exact aIv.1
 have da:DaS s'.da:=by
  rcases hD with⟨_,e,_⟩|⟨_,A3,C3,e,e',ha,hc⟩
  ·rw [e];exact aNr
  rw [e'];refine Be (by rw [<- e];exact aNr) ha fun c h1=>?_;rw [rU c.1.data.toList];have:=hc c h1;simp only
  omega
 have l1:os'.length<=os.length+1:=by
  rw [eos]
  rcases hO with⟨e,_⟩|⟨e,_⟩<;>rw [e]<;>simp<;>omega
 have l2:o'.ss.length<=o1.ss.length+1:=by
  rw [ess]
  rcases hS with e|⟨e,_⟩<;>rw [e]<;>simp<;>omega
 have l3:s'.da.length<=s2.da.length+1:=by
  rcases hD with⟨_,e,_⟩|⟨_,A3,C3,e,e',_⟩
  ·rw [e];omega
  rw [e',e];simp;omega
 have l4:o1.ss.length<=l.length∧∀ s∈o1.ss,s.da.length<=l.length:=by
  rcases hO with⟨e,_⟩|⟨_,_,_,h1,_⟩
  ·exact hI.len.2 o1 (by rw [e];simp)
  rw [h1];simp
 have l5:s2.da.length<=l.length:=by
  rcases hS with e|⟨_,_,_,e⟩
  ·exact l4.2 s2 (by rw [e];simp)
  rw [e];simp
 have YQ:(l++[x]).length=l.length+1:=by simp
 refine⟨⟨⟨ow,fun q hq=>?_⟩,⟨by have:=hI.len.1;omega,fun q hq=>?_⟩,fun q hq=>?_,fun q hq s hs=>?_,fun q hq s hs p hp=>?_,fun y hy=>?_⟩,⟨o'm,ET⟩,⟨s'm,st⟩,nw,fun o ho=>?_,fun q hq=>?_⟩
 ·rw [eos] at hq
  rcases kI hq with rfl|hq
  ·refine⟨se,fun s hs=>?_⟩;rw [ess] at hs
   rcases kI hs with rfl|hs
   ·exact da
   exact aIv.2 s (acS s hs)
  exact hI.sorted.2 q (acO q hq)
 ·rw [eos] at hq
  rcases kI hq with rfl|hq
  ·refine⟨by omega,fun s hs=>?_⟩;rw [ess] at hs
   rcases kI hs with rfl|hs
   ·omega
   have:=l4.2 s (acS s hs);omega
  have h1:=hI.len.2 q (acO q hq);exact⟨by omega,fun s hs=>by have:=h1.2 s hs;omega⟩
 ·rw [eos] at hq
  rcases kI hq with rfl|hq
  ·rcases hO with⟨e,_⟩|⟨e,h1,h2,h3,_⟩
   ·obtain⟨i,y,h1,h2,h3⟩:=hI.own o1 (by rw [e];simp);exact⟨i,y,by rw [el];exact h1.snoc x,by rw [en,h2],by rw [el,h3]⟩
   refine⟨l.length,x,iJ.new (fun y hy h4=>?_) ET,by rw [en,h2],by rw [el,h1]⟩;rw [el,isO] at h4;obtain⟨_,s,hs,_⟩:=aK8 y hy h4;rw [h3] at hs;cases hs
  obtain⟨i,y,h1,h2⟩:=hI.own q (acO q hq);exact⟨i,y,h1.snoc x,h2⟩
 ·rw [eos] at hq
  rcases kI hq with rfl|hq
  ·rw [ess] at hs
   rcases kI hs with rfl|hs
   ·rcases hS with e|⟨e,h1,h2,h3⟩
    ·have hm:s2∈o1.ss:=by rw [e];simp
     obtain⟨y,h1,h2⟩:=hI.set o1 (mne hm) s2 hm;exact⟨y,by rw [el,st,sf,<- st2];exact h1.snoc x,by rw [stt,h2]⟩
    refine⟨x,?_,by rw [stt,h1]⟩;rw [sf,h2];refine iJ.new (fun y hy h4=>?_) ⟨ET,st.symm⟩;rw [el,st] at h4;have h5:=(aNo y hy ⟨(isO y).1 h4.1,h4.2⟩).1;rw [e] at h5;have h6:s2∈A2++C2:=by rw [h5];simp
    exact nt s2 (iU h6) st2
   obtain⟨y,h1,h2⟩:=hI.set o1 (mne (acS s hs)) s (acS s hs);exact⟨y,by rw [el];exact h1.snoc x,h2⟩
  obtain⟨y,h1,h2⟩:=hI.set q (acO q hq) s hs;exact⟨y,h1.snoc x,h2⟩
 ·rw [eos] at hq
  rcases kI hq with rfl|hq
  ·rw [ess] at hs
   rcases kI hs with rfl|hs
   ·have Af:p∈s2.da∨(fV=true∧p=(x.dt,x.r.da)):=by
     rcases hD with⟨_,e,_⟩|⟨h1,A3,C3,e,e',_⟩
     ·rw [e] at hp;exact .inl hp
     rw [e'] at hp
     rcases kI hp with h2|h2
     ·exact .inr ⟨h1,h2⟩
     rw [e];exact .inl (List.mem_append.2 h2)
    rcases Af with hp|⟨h1,rfl⟩
    ·have hm:=aNp (List.ne_nil_of_mem hp);obtain⟨i,y,h1,h2⟩:=hI.dat o1 (mne hm) s2 hm p hp;exact⟨i,y,by rw [el,st,<- st2];exact h1.snoc x,h2⟩
    refine⟨l.length,x,iJ.new (fun y hy h4=>?_) ⟨⟨ET,st.symm⟩,rfl⟩,rfl⟩;rw [el,st] at h4;exact nw.1 h1 y hy ⟨⟨(isO y).1 h4.1.1,h4.1.2⟩,h4.2⟩
   obtain⟨i,y,h1,h2⟩:=hI.dat o1 (mne (acS s hs)) s (acS s hs) p hp;exact⟨i,y,by rw [el];exact h1.snoc x,h2⟩
  obtain⟨i,y,h1,h2⟩:=hI.dat q (acO q hq) s hs p hp;exact⟨i,y,h1.snoc x,h2⟩
 ·rcases iU hy with hy|hy
  ·obtain⟨o,ho,h2,s,hs,h3,p,hp,h4⟩:=hI.cov y hy
   by_cases hoo:Nm.aN o.lab (gN x)=0
   ·have h5:FK (gN x) y:=by rw [FK,dB h2];exact hoo
    obtain⟨hm,s,hs,h3,p,hp,h4⟩:=aK8 y hy h5;refine⟨o',o'm,by rw [el];exact(isO y).2 h5,?_⟩
    rcases hS with e|⟨e,_⟩
    ·rw [e] at hs
     rcases kI hs with rfl|hs
     ·exact⟨s',s'm,by rw [st,<- st2,h3],p,sub3 p hp,h4⟩
     exact⟨s,aK9 s hs,h3,p,hp,h4⟩
    rw [e] at hs;exact⟨s,aK9 s (iU hs),h3,p,hp,h4⟩
   have hm:o∈A∨o∈C:=by
    rcases hO with⟨e,_⟩|⟨e,_⟩
    ·rw [e] at ho
     rcases kI ho with rfl|ho
     ·exact absurd aE4 hoo
     exact ho
    rw [e] at ho;exact iU ho
   exact⟨o,aNq o hm,h2,s,hs,h3,p,hp,h4⟩
  obtain rfl:=List.mem_singleton.1 hy;obtain⟨p,hp,h1⟩:=xp;exact⟨o',o'm,ET,s',s'm,st,p,hp,h1⟩
 ·have hm:o=o1∨o∈A∨o∈C:=by
   rcases hO with⟨e,_⟩|⟨e,_⟩
   ·rw [e] at ho;exact kI ho
   rw [e] at ho;exact .inr (iU ho)
  rcases hm with rfl|hm
  ·refine⟨o',o'm,eb,el,ev,fun s hs=>?_⟩
   have hm2:s=s2∨s∈A2∨s∈C2:=by
    rcases hS with e|⟨e,_⟩
    ·rw [e] at hs;exact kI hs
    rw [e] at hs;exact .inr (iU hs)
   rcases hm2 with rfl|hm2
   ·exact⟨s',s'm,sb,by rw [st,st2]⟩
   exact⟨s,aK9 s hm2,rfl,rfl⟩
  exact⟨o,aNq o hm,rfl,rfl,rfl,fun s hs=>⟨s,hs,rfl,rfl⟩⟩
 rw [eos] at hq
 rcases kI hq with rfl|hq
 ·rcases hO with⟨e,_⟩|⟨_,h1,_,_,h2⟩
  ·exact .inl ⟨o1,by rw [e];simp,ev,el⟩
  exact .inr ⟨by rw [ev,h2],by rw [el,h1]⟩
 exact .inl ⟨q,acO q hq,rfl,rfl⟩
def AV:List ByteArray->List ByteArray->Bool
 |[],_=>true
 |_::_,[]=>false
 |x::a,y::b=>decide (Nm.jP x y=0)&&AV a b
theorem Rq:∀ (a c:List ByteArray),AV a c=(decide (a.length<=c.length)&&decide (Nm.dW (c.take a.length) a=0))
 |[],c=>by simp [AV,Nm.dW]
 |x::a,[]=>by simp [AV]
 |x::a,y::c=>by
  have e:Nm.jP y x=0↔Nm.jP x y=0:=by rw [KA x y];omega
  rw [AV,Rq a c];simp only [List.length_cons,List.take_succ_cons,Nm.dW]
  by_cases h:Nm.jP x y=0
  ·simp [h,e.2 h]
  have h':¬Nm.jP y x=0:=fun z=>h (e.1 z)
  simp [h,h']
theorem TN(xs ys:List ByteArray):aQ xs ys=AV ys.reverse xs.reverse:=by
 rw [Rq,aQ,List.length_reverse,List.length_reverse,Nm.aN]
 by_cases h:ys.length<=xs.length
 ·have e:(xs.drop (xs.length-ys.length)).reverse=xs.reverse.take ys.length:=by
   rw [List.take_reverse]
  rw [e]
 rw [oF h,Bool.false_and,Bool.false_and]
theorem Rs:∀ (a b c:List ByteArray),AV a c=true->Nm.dW a b<=0->Nm.dW b c<=0->AV a b=true
 |[],b,c,_,_,_=>by simp [AV]
 |x::a,b,[],h,_,_=>by simp [AV] at h
 |x::a,[],z::c,h,h1,_=>by simp [Nm.dW] at h1
 |x::a,y::b,z::c,h,h1,h2=>by
  simp only [AV,Bool.and_eq_true,decide_eq_true_eq] at h ⊢;obtain⟨h3,h4⟩:=h;rw [Nm.dW] at h1 h2;have e1:=(BH h3 y).2;have e2:=KA x y
  by_cases XD:Nm.jP x y=0
  ·rw [if_pos XD] at h1;rw [if_pos (by omega)] at h2;exact⟨XD,Rs a b c h4 h1 h2⟩
  rw [if_neg XD] at h1;rw [if_neg (by omega)] at h2;omega
theorem Bg:∀ (a b c:List ByteArray),AV a b=true->AV b c=true->AV a c=true
 |[],b,c,_,_=>by simp [AV]
 |x::a,[],c,h,_=>by simp [AV] at h
 |x::a,y::b,[],_,h=>by simp [AV] at h
 |x::a,y::b,z::c,h1,h2=>by
  simp only [AV,Bool.and_eq_true,decide_eq_true_eq] at h1 h2 ⊢;exact⟨by rw [(BH h1.1 z).1];exact h2.1,Bg a b c h1.2 h2.2⟩
theorem P_:∀ (a c:List ByteArray),AV a c=true->Nm.dW a c<=0
 |[],[],_=>by simp [Nm.dW]
 |[],y::c,_=>by simp [Nm.dW]
 |x::a,[],h=>by simp [AV] at h
 |x::a,y::c,h=>by
  simp only [AV,Bool.and_eq_true,decide_eq_true_eq] at h;rw [Nm.dW,if_pos h.1];exact P_ a c h.2
theorem TP{n t o:List ByteArray}(h:aQ n t=true)(h1:Nm.aN t o<0)(h2:Nm.aN o n<0):aQ o t=true:=by
 rw [TN] at h ⊢;exact Rs _ _ _ h (by rw [Nm.aN] at h1;omega) (by rw [Nm.aN] at h2;omega)
theorem VL(h1:aQ a b=true)(h2:aQ b c=true):aQ a c=true:=by
 rw [TN] at h1 h2 ⊢;exact Bg _ _ _ h2 h1
theorem CK(h:aQ a b=true):Nm.aN b a<=0:=by
 rw [TN] at h;exact P_ _ _ h
theorem Hr(h:aQ a b=true):b.length<a.length↔Nm.aN a b≠0:=by
 simp only [aQ,Bool.and_eq_true,decide_eq_true_eq] at h;constructor
 ·intro h1 h2;have:=nG h2;omega
 intro h1
 rcases Nat.lt_or_eq_of_le h.1 with h2|h2
 ·exact h2
 exfalso
 apply h1;have:=h.2;rw [h2,Nat.sub_self,List.drop_zero] at this;exact this
def wL(o:dG):Bool:=gY (eP 39) o.ss
def qU(acc:Option dG×List dG)(o:dG):Option dG×List dG:=match acc.1 with
 |some q=>if aQ o.lab q.lab then(some q,acc.2++[o]) else if wL o then(some o,acc.2) else(some q,acc.2)
 |none=>if wL o then(some o,acc.2) else(none,acc.2)
def jA(os:List dG):Option dG×List dG:=os.foldl qU (none,[])
theorem CO(os:List dG)(o:dG):jA (os++[o])=qU (jA os) o:=by simp [jA,List.foldl_append]
structure aE5 (pre:List dG):Prop where
 tail:∀ q,(jA pre).1=some q->q∈pre∧wL q=true
 out:∀ o∈pre,(o∈(jA pre).2↔ ∃ q∈pre,wL q=true∧Nm.aN o.lab q.lab≠0∧aQ o.lab q.lab=true)
 sub:∀ o∈(jA pre).2,o∈pre
 cov:∀ q∈pre,wL q=true->∃ t,(jA pre).1=some t∧∀ n,(∀ p∈pre,Nm.aN p.lab n<0)->aQ n q.lab=true->aQ n t.lab=true
theorem vP{α:Type}{P:List α->Prop}(h0:P [])(h1:∀ l a,P l->P (l++[a]))(l:List α):P l:=by
 have h:∀ m:List α,P m.reverse:=by
  intro m
  induction m with
  |nil=>exact h0
  |cons a m ih=>rw [List.reverse_cons];exact h1 _ _ ih
 have h2:=h l.reverse
 rwa [List.reverse_reverse] at h2
theorem Q3:∀ (pre:List dG),Jz pre->aE5 pre:=by
 refine vP (P:=fun pre=>Jz pre->aE5 pre) ?_ ?_
 ·intro _;exact⟨by simp [jA],by simp,by simp [jA],by simp⟩
 intro pre o ih hs;obtain⟨oG,_,oU⟩:=List.pairwise_append.1 hs;have bY:∀ p∈pre,Nm.aN p.lab o.lab<0:=fun p hp=>oU p hp o (by simp)
 have I:=ih oG
 have dM:∀ p∈pre,p≠o:=fun p hp e=>by
  have:=bY p hp;rw [e,fA] at this;omega
 have up:∀ p∈pre,aQ p.lab o.lab=false:=fun p hp=>by
  cases h:aQ p.lab o.lab
  ·rfl
  have h1:=CK h;have h2:=bY p hp;have h3:=dU p.lab o.lab;omega
 have strict:∀ q∈pre,Nm.aN o.lab q.lab≠0:=fun q hq=>by have h1:=bY q hq;have h2:=dU q.lab o.lab;omega
 have key:(∃ q∈pre,wL q=true∧aQ o.lab q.lab=true)↔ ∃ t,(jA pre).1=some t∧aQ o.lab t.lab=true:=by
  constructor
  ·rintro⟨q,hq,h1,h2⟩
   obtain⟨t,ht,h3⟩:=I.cov q hq h1;exact⟨t,ht,h3 o.lab bY h2⟩
  rintro⟨t,ht,h2⟩
  exact⟨t,(I.tail t ht).1,(I.tail t ht).2,h2⟩
 have outs:∀ (p:dG) (t':Option dG) (out':List dG),p∈pre->(p∈out'↔p∈(jA pre).2)->(p∈out'↔ ∃ q∈pre++[o],wL q=true∧Nm.aN p.lab q.lab≠0∧aQ p.lab q.lab=true):=by
  intro p t' out' hp he;rw [he,I.out p hp];constructor
  ·rintro⟨q,hq,h⟩;exact⟨q,by simp [hq],h⟩
  rintro⟨q,hq,h1,h2,h3⟩
  rcases iU hq with hq|hq
  ·exact⟨q,hq,h1,h2,h3⟩
  obtain rfl:=List.mem_singleton.1 hq;rw [up p hp] at h3;cases h3
 by_cases hk:∃ q∈pre,wL q=true∧aQ o.lab q.lab=true
 ·obtain⟨t,ht,hu⟩:=key.1 hk
  have e:jA (pre++[o])=(some t,(jA pre).2++[o]):=by
   rw [CO,qU,ht];simp [hu]
  refine⟨fun q hq=>?_,fun p hp=>?_,fun p hp=>?_,fun q hq h1=>?_⟩
  ·rw [e] at hq;obtain rfl:=jI hq;exact⟨by simp [(I.tail t ht).1],(I.tail t ht).2⟩
  ·rw [e]
   rcases iU hp with hp|hp
   ·exact outs p none _ hp (by simp [dM p hp])
   obtain rfl:=List.mem_singleton.1 hp;refine⟨fun _=>?_,fun _=>by simp⟩;obtain⟨q,hq,h1,h2⟩:=hk;exact⟨q,by simp [hq],h1,strict q hq,h2⟩
  ·rw [e] at hp
   rcases iU hp with hp|hp
   ·simp [I.sub p hp]
   simp at hp;simp [hp]
  rw [e];refine⟨t,rfl,fun n hn h2=>?_⟩
  rcases iU hq with hq|hq
  ·obtain⟨t2,ht2,h3⟩:=I.cov q hq h1;rw [ht] at ht2;obtain rfl:=jI ht2;exact h3 n (fun p hp=>hn p (by simp [hp])) h2
  obtain rfl:=List.mem_singleton.1 hq;exact VL h2 hu
 have gI:¬∃ t,(jA pre).1=some t∧aQ o.lab t.lab=true:=fun h=>hk (key.2 h)
 have e2:(jA (pre++[o])).2=(jA pre).2∧(jA (pre++[o])).1=if wL o then some o else(jA pre).1:=by
  rw [CO,qU]
  cases ht:(jA pre).1 with
  |none=>cases h:wL o<;>simp
  |some t=>
   have hu:aQ o.lab t.lab=false:=by
    cases h:aQ o.lab t.lab
    ·rfl
    exact absurd ⟨t,ht,h⟩ gI
   cases h:wL o<;>simp [hu]
 refine⟨fun q hq=>?_,fun p hp=>?_,fun p hp=>?_,fun q hq h1=>?_⟩
 ·rw [e2.2] at hq
  by_cases h:wL o=true
  ·rw [if_pos h] at hq;obtain rfl:=jI hq;exact⟨by simp,h⟩
  rw [if_neg h] at hq;exact⟨by simp [(I.tail q hq).1],(I.tail q hq).2⟩
 ·rw [e2.1]
  rcases iU hp with hp|hp
  ·exact outs p none _ hp Iff.rfl
  obtain rfl:=List.mem_singleton.1 hp;constructor
  ·intro h1;exact absurd rfl (dM _ (I.sub _ h1))
  rintro⟨q,hq,h1,h2,h3⟩
  rcases iU hq with hq|hq
  ·exact absurd ⟨q,hq,h1,h3⟩ hk
  obtain rfl:=List.mem_singleton.1 hq;exact absurd (fA _) h2
 ·rw [e2.1] at hp;simp [I.sub p hp]
 rw [e2.2]
 by_cases h:wL o=true
 ·rw [if_pos h];refine⟨o,rfl,fun n hn h2=>?_⟩
  rcases iU hq with hq|hq
  ·exfalso
   refine hk ⟨q,hq,h1,TP h2 (bY q hq) (hn o (by simp))⟩
  obtain rfl:=List.mem_singleton.1 hq;exact h2
 rw [if_neg h]
 rcases iU hq with hq|hq
 ·obtain⟨t,ht,h3⟩:=I.cov q hq h1;exact⟨t,ht,fun n hn=>h3 n (fun p hp=>hn p (by simp [hp]))⟩
 obtain rfl:=List.mem_singleton.1 hq;exact absurd h1 h
theorem Bh(hx:iN x)(hy:iN y):tF x y=true↔OfS (gN x) x.r.ty y:=by
 simp only [tF,Bool.and_eq_true,decide_eq_true_eq,OfS,FK];rw [tQ hy hx]
theorem QD(hl:∀ y∈l,iN y)(hx:iN x):pU l x=true↔ ∃ y∈l,We (gN x) x.r.ty x.dt y:=by
 rw [pU,List.any_eq_true];constructor
 ·rintro⟨y,hy,h⟩
  simp only [Bool.and_eq_true,decide_eq_true_eq] at h;exact⟨y,hy,(Bh hx (hl y hy)).1 h.1,h.2⟩
 rintro⟨y,hy,h⟩
 refine⟨y,hy,?_⟩;simp only [Bool.and_eq_true,decide_eq_true_eq];exact⟨(Bh hx (hl y hy)).2 h.1,h.2⟩
def Bi(l:List It)(i:Nat):Bool:=match l[i]? with
 |some x=> !pU (l.take i) x
 |none=>false
structure WM (l:List It) (os:List dG) (ks:List Ld):Prop where
 ats:ks.map (·.at_)=(List.range l.length).filter (Bi l)
 ok:∀ k∈ks,∃ x,l[k.at_]? =some x∧k.ty=x.r.ty∧∃ o∈os,o.dS=k.ob∧FK o.lab x∧∃ s∈o.ss,s.dS=k.sb∧s.ty=x.r.ty
theorem WM.nil:WM [] [] []:=⟨rfl,by simp⟩
theorem WM.len(h:WM l os ks):ks.length<=l.length:=by
 have:=congrArg List.length h.ats;rw [List.length_map] at this;rw [this];exact jN (List.length_filter_le _ _) (by simp)
theorem WM.step{o':dG}{s':nY}(h:WM l os ks)(hl:∀ y∈l,iN y)(hx:iN x)(hR:aNm l x lv os os' o' s' fV):
 WM (l++[x]) os' (if fV=true then ks++[⟨l.length,x.r.ty,o'.dS,s'.dS⟩] else ks):=by
 have Zc:fV= !pU l x:=by
  have h1:=hR.nw;have h2:=QD hl hx
  cases hd:pU l x with
  |true=>
   obtain⟨y,hy,h3⟩:=h2.1 hd;cases hi:fV
   ·rfl
   exact absurd h3 (h1.1 hi y hy)
  |false=>
   refine h1.2 fun y hy h3=>?_;have:=h2.2 ⟨y,hy,h3⟩;rw [hd] at this;cases this
 have aNs:(List.range (l++[x]).length).filter (Bi (l++[x]))=(List.range l.length).filter (Bi l)++(if fV=true then [l.length] else []):=by
  rw [oJ,List.length_singleton,List.range_succ,List.filter_append];congr 1
  ·apply List.filter_congr;intro i hi;have ML:i<l.length:=by simpa using hi
   rw [Bi,Bi,List.getElem?_append_left ML,List.take_append_of_le_length (by omega)]
  rw [List.filter_cons,Bi,List.getElem?_append_right (aI _),List.take_left']
  ·simp only [Nat.sub_self,List.getElem?_cons_zero,Zc];cases pU l x<;>rfl
  rfl
 have old:∀ k∈ks,∃ z,(l++[x])[k.at_]? =some z∧k.ty=z.r.ty∧∃ o∈os',o.dS=k.ob∧FK o.lab z∧∃ s∈o.ss,s.dS=k.sb∧s.ty=z.r.ty:=by
  intro k hk;obtain⟨z,h1,h2,o,ho,h3,h4,s,hs,h5,h6⟩:=h.ok k hk;obtain⟨q,hq,q1,q2,_,q3⟩:=hR.kept o ho;obtain⟨t,ht,t1,t2⟩:=q3 s hs;exact⟨z,by rw [List.getElem?_append_left (dL h1).1];exact h1,h2,q,hq,by rw [q1,h3],by rw [q2];exact h4,t,ht,by rw [t1,h5],by rw [t2,h6]⟩
 cases hi:fV
 ·refine⟨?_,by simpa [hi] using old⟩;rw [aNs,hi];simp [h.ats]
 refine⟨?_,fun k hk=>?_⟩
 ·rw [aNs,hi];simp [h.ats]
 simp only [if_true,List.mem_append,List.mem_singleton] at hk
 rcases hk with hk|rfl
 ·exact old k hk
 exact⟨x,by simp,rfl,o',hR.ET.1,rfl,hR.ET.2,s',hR.isSet.1,rfl,hR.isSet.2⟩
def TQ(l:List It)(p:Nat->It->Bool)(k:Ld):Bool:=match l[k.at_]? with
 |some x=>p k.at_ x
 |none=>false
theorem Rt{α:Type}{p q:α->Bool}:∀ {l:List α},(∀ x∈l,p x=q x)->l.find? p=l.find? q:=by
 intro l
 induction l with
 |nil=>intro _;rfl
 |cons x l ih=>
  intro h;rw [List.find?_cons,List.find?_cons,h x (by simp),ih (fun y hy=>h y (by simp [hy]))]
theorem aE6(hK:WM l os ks)(hl:∀ y∈l,iN y)(p:Nat->It->Bool)(hp:∀ i x,x.out=true->p i x=false)(code:Int):
 CG (TQ l p) code ks=match dC p (FX l) with
  |some i=>.tuple #[.int .i64 code,.int .i64 (i:Int)]
  |none=>.tuple #[.int .i64 0,.int .i64 0]:=by
 have e:dC p (FX l)=(ks.find? (TQ l p)).map (·.at_):=by
  have e1:ks.find? (TQ l p)=ks.find? ((fun i=>match l[i]? with|some x=>p i x|none=>false)∘(·.at_)):=rfl;rw [e1,<- List.find?_map,hK.ats,List.find?_filter,dC,kG];apply Rt;intro i hi;have ML:i<l.length:=by simpa using hi
  have hx:l[i]? =some l[i]:=gF ML;rw [mY hx,Bi,hx];simp only
  by_cases hd:pU (l.take i) l[i]=true
  ·rw [hp i (qG (pU (l.take i) l[i]) l[i]) (by simp [qG,hd])];simp [hd]
  have Eb:pU (l.take i) l[i]=false:=by simpa using hd
  have:qG (pU (l.take i) l[i]) l[i]=l[i]:=by rw [Eb];simp [qG]
  rw [this];simp [Eb]
 rw [e,CG]
 cases ks.find? (TQ l p) with
 |none=>rfl
 |some x=>rfl
theorem Ru(hl:∀ y∈l,iN y)(i:Nat)(fo:ByteArray)(t:Int):gZ ((FX l).take i) fo t=true↔ ∃ (j:Nat) (y:It),j<i∧l[j]? =some y∧y.fo=fo∧y.r.ty=t:=by
 rw [gZ,List.any_eq_true];constructor
 ·rintro⟨z,hz,h⟩
  obtain⟨j,hj⟩:=List.getElem?_of_mem hz;have NG:=(dL hj).1;rw [List.length_take,kG] at NG;rw [List.getElem?_take_of_lt (by omega)] at hj;have hx:l[j]? =some l[j]:=gF (by omega);rw [mY hx] at hj;obtain rfl:=jI hj;simp only [qG,Bool.and_eq_true] at h;exact⟨j,l[j],by omega,hx,of_decide_eq_true h.1.2,of_decide_eq_true h.2⟩
 rintro⟨j0,y0,hj0,hy0,h1,h2⟩
 obtain⟨j,y,hF⟩:=iJ.ex (P:=fun y:It=>y.fo=fo∧y.r.ty=t) (l:=l.take i) ⟨y0,dA (i:=j0) (by rw [List.getElem?_take_of_lt hj0];exact hy0),h1,h2⟩;have hji:j<i:=by have:=hF.lt;rw [List.length_take] at this;omega
 have hy:l[j]? =some y:=by have:=hF.1;rw [List.getElem?_take_of_lt hji] at this;exact this
 have hd:pU (l.take j) y=false:=by
  cases hd:pU (l.take j) y
  ·rfl
  exfalso
  rw [pU,List.any_eq_true] at hd;obtain⟨z,hz,h⟩:=hd;simp only [tF,Bool.and_eq_true,decide_eq_true_eq] at h;obtain⟨m,hm⟩:=List.getElem?_of_mem hz;have Fe:=(dL hm).1;rw [List.length_take] at Fe;rw [List.getElem?_take_of_lt (by omega)] at hm;exact hF.2.2 m z (by omega) (by rw [List.getElem?_take_of_lt (by omega)];exact hm) ⟨h.1.1.trans hF.2.1.1,h.1.2.trans hF.2.1.2⟩
 refine⟨y,dA (i:=j) ?_,?_⟩
 ·rw [List.getElem?_take_of_lt hji,mY hy,hd];simp [qG]
 have:=(hl y (dA hy)).2.2.2;simp [this,hF.2.1.1,hF.2.1.2]
theorem Bj(hl:∀ y∈l,iN y)(fo:ByteArray)(t:Int):gZ (FX l) fo t=true↔ ∃ y∈l,y.fo=fo∧y.r.ty=t:=by
 have h:=Ru hl l.length fo t;rw [List.take_of_length_le (by rw [kG];exact aI _)] at h;rw [h];constructor
 ·rintro⟨j,y,_,hy,h1⟩;exact⟨y,dA hy,h1⟩
 rintro⟨y,hy,h1⟩
 obtain⟨j,hj⟩:=List.getElem?_of_mem hy;exact⟨j,y,(dL hj).1,hj,h1⟩
theorem yN{ss:List nY}(h:VE ss)(t:Int):gY (eP t) ss=true↔ ∃ s∈ss,s.ty=t:=by
 rcases sG (f:=eP t) h (Hl t) with⟨hi,A,C,e,hp,ha,hc⟩|⟨hi,A,o,C,e,hp,h0,ha,hc⟩
 ·rw [hi];refine Iff.intro (fun h=>by cases h) fun h9=>?_;obtain⟨s,hs,h1⟩:=h9;have h0:eP t s=0:=Ho.2 h1;rw [e] at hs
  rcases iU hs with hs|hs
  ·have:=ha s hs;omega
  have:=hc s hs;omega
 rw [hi];exact⟨fun _=>⟨o,by rw [e];simp,Ho.1 h0⟩,fun _=>rfl⟩
theorem JC(h:Jz os∧∀ o∈os,VE o.ss)(lab:List ByteArray)(t:Int):EI lab t os=true↔ ∃ o∈os,Nm.aN o.lab lab=0∧∃ s∈o.ss,s.ty=t:=by
 rcases sG (f:=dX lab) h.1 (TK lab) with⟨hi,A,C,e,hp,ha,hc⟩|⟨hi,A,o,C,e,hp,h0,ha,hc⟩
 ·have e9:EI lab t os=false:=by
   rw [EI]
   cases os[posOf (dX lab) os]? with
   |none=>rfl
   |some o=>rw [hi];rfl
  rw [e9];refine Iff.intro (fun h=>by cases h) fun h9=>?_;obtain⟨q,hq,h1,_⟩:=h9;rw [e] at hq
  rcases iU hq with hq|hq
  ·have:=ha q hq;rw [dX] at this;omega
  have:=hc q hq;rw [dX] at this;omega
 have hg:os[posOf (dX lab) os]? =some o:=by
  rw [hp,e,List.getElem?_append_right (aI _)];simp
 have hm:o∈os:=dA hg;have e9:EI lab t os=gY (eP t) o.ss:=by rw [EI,hg,hi];rfl
 rw [e9,yN (h.2 o hm)];constructor
 ·exact fun h=>⟨o,hm,h0,h⟩
 rintro⟨q,hq,h1,h2⟩
 rw [e] at hq
 rcases kI hq with rfl|hq|hq
 ·exact h2
 ·have:=ha q hq;rw [dX] at this;omega
 have:=hc q hq;rw [dX] at this;omega
theorem rJ.sets(h:rJ l os)(lab:List ByteArray)(t:Int):(∃ o∈os,Nm.aN o.lab lab=0∧∃ s∈o.ss,s.ty=t)↔ ∃ y∈l,OfS lab t y:=by
 constructor
 ·rintro⟨o,ho,h1,s,hs,h2⟩
  obtain⟨y,hy,_⟩:=h.set o ho s hs;exact⟨y,hy.mem,by rw [FK,<- bQ h1];exact hy.2.1.1,by rw [hy.2.1.2,h2]⟩
 rintro⟨y,hy,h1⟩
 obtain⟨o,ho,h2,s,hs,h3,_⟩:=h.cov y hy;exact⟨o,ho,by rw [<- dB h2];exact h1.1,s,hs,by rw [h3,h1.2]⟩
theorem rJ.has(h:rJ l os)(hl:∀ y∈l,iN y){a:ByteArray}(ha:Nm.split a=some lab)(t:Int):EI lab t os=gZ (FX l) (Nm.dV a) t:=by
 rw [Bool.eq_iff_iff,JC ⟨h.sorted.1,fun o ho=>(h.sorted.2 o ho).1⟩,h.sets,Bj hl];constructor
 ·rintro⟨y,hy,h1,h2⟩
  exact⟨y,hy,by rw [(hl y hy).2.1];exact(CJ (hl y hy).1 ha).2 h1,h2⟩
 rintro⟨y,hy,h1,h2⟩
 rw [(hl y hy).2.1] at h1;exact⟨y,hy,(CJ (hl y hy).1 ha).1 h1,h2⟩
theorem rJ.one(h:rJ l os){q:dG}(ho:o∈os)(hq:q∈os)(e:Nm.aN o.lab q.lab=0):o=q:=by
 obtain⟨i,hi⟩:=List.getElem?_of_mem ho;obtain⟨j,hj⟩:=List.getElem?_of_mem hq;have ML:=dL hi;have OE:=dL hj;have hp:=List.pairwise_iff_getElem.1 h.sorted.1
 rcases Nat.lt_trichotomy i j with h1|h1|h1
 ·have:=hp i j ML.1 OE.1 h1;rw [ML.2,OE.2] at this;omega
 ·subst h1;rw [hi] at hj;exact jI hj
 have:=hp j i OE.1 ML.1 h1;rw [ML.2,OE.2] at this;have h2:=dU o.lab q.lab;omega
theorem Bl(hT:rJ l os)(hl:∀ y∈l,iN y){s:nY}(hx:l[i]? =some x)(ho:o∈os)(Ht:FK o.lab x)(hs:s∈o.ss)(mI:s.ty=x.r.ty):((i:Int) != (s.fi:Int))=gZ ((FX l).take i) x.fo x.r.ty:=by
 obtain⟨y,hF,_⟩:=hT.set o ho s hs
 have hle:s.fi<=i:=by
  rcases Nat.lt_or_ge i s.fi with h|h
  ·exact absurd ⟨Ht,mI.symm⟩ (hF.2.2 i x h hx)
  exact h
 rw [Bool.eq_iff_iff,Ru hl];have JD:=hl x (dA hx);constructor
 ·intro h;have dM:s.fi≠i:=by intro e;rw [e] at h;simp at h
  have VM:=hl y hF.mem;refine⟨s.fi,y,by omega,hF.1,?_,?_⟩
  ·rw [tQ VM JD,bQ Ht];exact hF.2.1.1
  rw [hF.2.1.2,mI]
 rintro⟨j,z,hj,hz,h1,h2⟩
 have XL:=hl z (dA hz);have Q4:OfS o.lab s.ty z:=⟨by rw [FK,<- bQ Ht];exact(tQ XL JD).1 h1,by rw [h2,mI]⟩
 have:s.fi<=j:=by
  rcases Nat.lt_or_ge j s.fi with h|h
  ·exact absurd Q4 (hF.2.2 j z h hz)
  exact h
 rw [bne_iff_ne];omega
theorem aE7(hT:rJ l os)(hl:∀ y∈l,iN y){al:List ByteArray}(ha:Nm.split aL=some al)(hu:∀ y∈l,cZ y.r.own aL=true){s:nY}(hx:l[i]? =some x)(ho:o∈os)(Ht:FK o.lab x)(hs:s∈o.ss)(mI:s.ty=x.r.ty):
 (x.r.ty==6&&(decide (al.length<o.lab.length)||((i:Int) != (s.fi:Int))))=XM (FX l) (Nm.dV aL) i x:=by
 have JD:=hl x (dA hx);have XA:aQ (gN x) al=true:=by have:=hu x (dA hx);rwa [bZ JD.1 ha] at this
 rw [Bl hT hl hx ho Ht hs mI,XM,JD.2.2.2];simp only [Bool.not_false,Bool.true_and]
 by_cases h6:x.r.ty=6
 ·rw [h6];simp only [beq_self_eq_true,Bool.true_and,decide_true];have FL:x.fo=Nm.dV aL↔Nm.aN (gN x) al=0:=by rw [JD.2.1];exact CJ JD.1 ha
  have hle:al.length<o.lab.length↔x.fo≠Nm.dV aL:=by rw [<- nG Ht,Hr XA,Ne,Ne,FL]
  by_cases h:x.fo=Nm.dV aL
  ·rw [<- h];have h':¬al.length<o.lab.length:=fun z=>hle.1 z h
   simp [h']
  have h':al.length<o.lab.length:=hle.2 h;simp [h',h]
 simp [h6]
theorem aA9(hT:rJ l os)(hl:∀ y∈l,iN y)(hx:l[i]? =some x)(ho:o∈os)(Ht:FK o.lab x):((x.r.ty==2||x.r.ty==39)&&MQ o.lab)=XN x:=by
 have JD:=hl x (dA hx);rw [XN,JD.2.2.2,JD.2.1,Yz JD.1,Yy Ht];simp only [Bool.not_false,Bool.true_and];rw [Bool.and_comm];congr 1
theorem Rv(hT:rJ l os)(hl:∀ y∈l,iN y){s:nY}(hx:l[i]? =some x)(ho:o∈os)(Ht:FK o.lab x)(hs:s∈o.ss)(mI:s.ty=x.r.ty):((x.r.ty==5||x.r.ty==39)&&((i:Int) != (s.fi:Int)))=Ej (FX l) i x:=by
 have JD:=hl x (dA hx);rw [Bl hT hl hx ho Ht hs mI,Ej,JD.2.2.2];simp only [Bool.not_false,Bool.true_and];congr 1
theorem Zd(hT:rJ l os)(hl:∀ y∈l,iN y)(hx:l[i]? =some x)(ho:o∈os)(Ht:FK o.lab x):(x.r.ty != 5&&x.r.ty != 47&&gY (eP 5) o.ss)=XO (FX l) x:=by
 have JD:=hl x (dA hx)
 have e:gY (eP 5) o.ss=gZ (FX l) x.fo 5:=by
  rw [Bool.eq_iff_iff,yN (hT.sorted.2 o ho).1,Bj hl];constructor
  ·rintro⟨s,hs,h1⟩
   obtain⟨y,hF,_⟩:=hT.set o ho s hs;refine⟨y,hF.mem,?_,by rw [hF.2.1.2,h1]⟩;rw [tQ (hl y hF.mem) JD,bQ Ht];exact hF.2.1.1
  rintro⟨y,hy,h1,h2⟩
  have h3:Nm.aN (gN y) o.lab=0:=by rw [<- bQ Ht];exact(tQ (hl y hy) JD).1 h1
  obtain⟨q,hq,h4,s,hs,h5,_⟩:=hT.cov y hy;obtain rfl:=hT.one ho hq (by rw [<- dB h3];exact h4);exact⟨s,hs,by rw [h5,h2]⟩
 rw [e,XO,JD.2.2.2];simp only [Bool.not_false,Bool.true_and];have z:∀ a b:Int,(a != b)=decide (a≠b):=fun a b=>by rw [Bool.eq_iff_iff];simp
 rw [z,z]
theorem Ze(hT:rJ l os)(hl:∀ y∈l,iN y)(hx:l[i]? =some x)(ho:o∈os)(Ht:FK o.lab x)(aIw:∀ q∈os,q.dS=o.dS->q=o):decide (o.dS∈(jA os).2.map (·.dS))=Dm (FX l) x:=by
 have JD:=hl x (dA hx);have I:=Q3 os hT.sorted.1
 have h1:o.dS∈(jA os).2.map (·.dS)↔o∈(jA os).2:=by
  rw [List.mem_map];constructor
  ·rintro⟨q,hq,e⟩
   rw [<- aIw q (I.sub q hq) e];exact hq
  intro h;exact⟨o,h,rfl⟩
 rw [Bool.eq_iff_iff,decide_eq_true_eq,h1,I.out o ho,Dm,JD.2.2.2];simp only [Bool.not_false,Bool.true_and];rw [List.any_eq_true];constructor
 ·rintro⟨q,hq,h2,h3,h4⟩
  obtain⟨s,hs,h5⟩:=(yN (hT.sorted.2 q hq).1 39).1 h2;obtain⟨y,hF,_⟩:=hT.set q hq s hs;have VM:=hl y hF.mem;have hyq:Nm.aN (gN y) q.lab=0:=hF.2.1.1;refine⟨y,dA (i:=s.fi) ?_,?_⟩
  ·rw [mY hF.1]
   have hd:pU (l.take s.fi) y=false:=by
    cases hd:pU (l.take s.fi) y
    ·rfl
    exfalso
    rw [QD (fun z hz=>hl z (List.mem_of_mem_take hz)) VM] at hd;obtain⟨z,hz,⟨h6,h7⟩,_⟩:=hd;obtain⟨m,hm⟩:=List.getElem?_of_mem hz;have Fe:=(dL hm).1;rw [List.length_take] at Fe;rw [List.getElem?_take_of_lt (by omega)] at hm;exact hF.2.2 m z (by omega) hm ⟨by rw [FK,<- bQ hyq];exact h6,by rw [h7];exact hF.2.1.2⟩
   rw [hd];simp [qG]
  have e1:Nm.aN (gN x) (gN y)=Nm.aN o.lab q.lab:=by rw [dB Ht,bQ hyq]
  have e2:y.fo≠x.fo:=fun e=>h3 (by rw [<- e1];exact(tQ JD VM).1 e.symm)
  have e3:cZ x.fo y.fo=true:=by rw [JD.2.1,VM.2.1,QC JD.1 VM.1,JA Ht hyq];exact h4
  have e4:y.r.ty=39:=by rw [hF.2.1.2,h5]
  rw [be5,VM.2.2.2,e4,e3];simp [e2]
 rintro⟨z,hz,h2⟩
 obtain⟨j,hj⟩:=List.getElem?_of_mem hz;have NG:=(dL hj).1;rw [kG] at NG;have hy:l[j]? =some l[j]:=gF NG;rw [mY hy] at hj;obtain rfl:=jI hj;have VM:=hl l[j] (dA hy);simp only [be5,qG,Bool.and_eq_true] at h2;obtain⟨⟨⟨_,h3'⟩,Mt⟩,h5⟩:=h2;have h3:l[j].r.ty=39:=of_decide_eq_true h3';have h4:l[j].fo≠x.fo:=of_decide_eq_true Mt;obtain⟨q,hq,h6,s,hs,h7,_⟩:=hT.cov l[j] (dA hy);have h6':Nm.aN (gN l[j]) q.lab=0:=h6;refine⟨q,hq,(yN (hT.sorted.2 q hq).1 39).2 ⟨s,hs,by rw [h7,h3]⟩,fun e=>h4 ?_,?_⟩
 ·refine((tQ JD VM).2 ?_).symm;rw [dB Ht,bQ h6'];exact e
 rw [JD.2.1,VM.2.1,QC JD.1 VM.1,JA Ht h6'] at h5;exact h5
def Bf(a b:It):Prop:=tC a b=true
theorem aE8(a b:List UInt8):Op.bytesLess a b=true↔Nm.iV a b<0:=by
 unfold Nm.iV;constructor
 ·intro h;rw [if_pos h];decide
 intro h
 by_cases h1:Op.bytesLess a b=true
 ·exact h1
 rw [if_neg h1] at h
 by_cases h2:a=b
 ·rw [if_pos h2] at h;omega
 rw [if_neg h2] at h;omega
theorem Ky{a b:ByteArray}(h:Nm.sH a b≠0):∃ xs ys,Nm.split a=some xs∧Nm.split b=some ys∧Nm.sH a b=Nm.aN xs ys:=by
 unfold Nm.sH at h ⊢
 cases ha:Nm.split a with
 |none=>rw [ha] at h;exact absurd rfl h
 |some xs=>
  cases hb:Nm.split b with
  |none=>rw [ha,hb] at h;exact absurd rfl h
  |some ys=>exact⟨xs,ys,rfl,rfl,rfl⟩
theorem uV(a:ByteArray):Nm.sH a a=0:=by
 by_cases h:Nm.sH a a=0
 ·exact h
 obtain⟨xs,ys,h1,h2,h3⟩:=Ky h;rw [h1] at h2;obtain rfl:=jI h2;rw [h3,fA]
theorem Bn{a b c:ByteArray}(h1:Nm.sH a b<0)(h2:Nm.sH b c<0):Nm.sH a c<0:=by
 obtain⟨xs,ys,a1,b1,e1⟩:=Ky (show Nm.sH a b≠0 by omega);obtain⟨ys',zs,b2,c1,e2⟩:=Ky (show Nm.sH b c≠0 by omega);rw [b1] at b2;obtain rfl:=jI b2;have:Nm.sH a c=Nm.aN xs zs:=by rw [Nm.sH,a1,c1]
 rw [this];rw [e1] at h1;rw [e2] at h2;exact mG h1 h2
theorem JE(a b:It):Bf a b↔(a.fo=b.fo∧a.r.ty=b.r.ty∧Nm.iV a.dt.data.toList b.dt.data.toList<0)∨(a.fo=b.fo∧a.r.ty<b.r.ty)∨(Nm.sH a.fo b.fo<0):=by
 unfold Bf tC
 by_cases hf:a.fo=b.fo
 ·rw [if_pos hf];have h0:¬Nm.sH a.fo b.fo<0:=by rw [hf,uV];omega
  by_cases ht:a.r.ty=b.r.ty
  ·rw [if_pos ht,aE8,ByteArray.toList_eq,ByteArray.toList_eq];constructor
   ·intro h;exact .inl ⟨hf,ht,h⟩
   rintro(h|h|h)
   ·exact h.2.2
   ·omega
   exact absurd h h0
  rw [if_neg ht,decide_eq_true_eq];constructor
  ·intro h;exact .inr (.inl ⟨hf,h⟩)
  rintro(h|h|h)
  ·exact absurd h.2.1 ht
  ·exact h.2
  exact absurd h h0
 rw [if_neg hf,decide_eq_true_eq];constructor
 ·intro h;exact .inr (.inr h)
 rintro(h|h|h)
 ·exact absurd h.1 hf
 ·exact absurd h.1 hf
 exact h
theorem Bo{a b c:It}(h1:Bf a b)(h2:Bf b c):Bf a c:=by
 rw [JE] at*
 rcases h1 with⟨f1,t1,d1⟩|⟨f1,t1⟩|f1<;>rcases h2 with⟨f2,t2,d2⟩|⟨f2,t2⟩|f2
 ·exact .inl ⟨f1.trans f2,t1.trans t2,MK d1 d2⟩
 ·exact .inr (.inl ⟨f1.trans f2,by omega⟩)
 ·exact .inr (.inr (by rw [f1];exact f2))
 ·exact .inr (.inl ⟨f1.trans f2,by omega⟩)
 ·exact .inr (.inl ⟨f1.trans f2,by omega⟩)
 ·exact .inr (.inr (by rw [f1];exact f2))
 ·exact .inr (.inr (by rw [<- f2];exact f1))
 ·exact .inr (.inr (by rw [<- f2];exact f1))
 exact .inr (.inr (Bn f1 f2))
theorem aBa(a:It):¬Bf a a:=by
 rw [JE]
 rintro(h|h|h)
 ·have:=(uM a.dt.data.toList a.dt.data.toList).2 rfl;omega
 ·omega
 rw [uV] at h;omega
theorem Hu{α:Type}{R:α->α->Prop}(irr:∀ a,¬R a a)(tr:∀ a b c,R a b->R b c->R a c):∀ (l1 l2:List α),l1.Pairwise R->l2.Pairwise R->(∀ x,x∈l1↔x∈l2)->l1=l2:=by
 intro l1
 induction l1 with
 |nil=>
  intro l2 _ _ h
  cases l2 with
  |nil=>rfl
  |cons b l2=>exact absurd ((h b).2 (by simp)) (by simp)
 |cons a l1 ih=>
  intro l2 h1 h2 h
  cases l2 with
  |nil=>exact absurd ((h a).1 (by simp)) (by simp)
  |cons b l2=>
   obtain⟨a1,p1⟩:=List.pairwise_cons.1 h1;obtain⟨b1,p2⟩:=List.pairwise_cons.1 h2
   have e:a=b:=by
    rcases List.mem_cons.1 ((h a).1 (by simp)) with e|ha
    ·exact e
    rcases List.mem_cons.1 ((h b).2 (by simp)) with e|hb
    ·exact e.symm
    exact absurd (tr _ _ _ (a1 b hb) (b1 a ha)) (irr a)
   subst e;rw [ih l2 p1 p2 (fun x=>?_)];constructor
   ·intro hx
    rcases List.mem_cons.1 ((h x).1 (by simp [hx])) with e|h3
    ·exact absurd (a1 x hx) (by rw [e];exact irr a)
    exact h3
   intro hx
   rcases List.mem_cons.1 ((h x).2 (by simp [hx])) with e|h3
   ·exact absurd (b1 x hx) (by rw [e];exact irr a)
   exact h3
theorem aE9:∀ (A B:List It),A.Pairwise Bf->B.Pairwise Bf->(∀ a∈A,∀ b∈B,Bf a b∨Bf b a)->(List.merge A B tC).Pairwise Bf:=by
 intro A
 induction A with
 |nil=>intro B _ hB _;rw [List.nil_merge];exact hB
 |cons a A ihA=>
  intro B
  induction B with
  |nil=>intro hA _ _;rw [List.merge_right];exact hA
  |cons b B ihB=>
   intro hA hB hc;obtain⟨a1,p1⟩:=List.pairwise_cons.1 hA;obtain⟨b1,p2⟩:=List.pairwise_cons.1 hB;rw [List.cons_merge_cons]
   by_cases h:tC a b=true
   ·rw [if_pos h];refine List.pairwise_cons.2 ⟨fun x hx=>?_,ihA (b::B) p1 hB (fun x hx y hy=>hc x (by simp [hx]) y hy)⟩
    rcases List.mem_merge.1 hx with hx|hx
    ·exact a1 x hx
    rcases List.mem_cons.1 hx with rfl|hx
    ·exact h
    exact Bo h (b1 x hx)
   rw [if_neg h]
   have hba:Bf b a:=by
    rcases hc a (by simp) b (by simp) with h1|h1
    ·exact absurd h1 h
    exact h1
   refine List.pairwise_cons.2 ⟨fun x hx=>?_,ihB hA p2 (fun x hx y hy=>hc x hx y (by simp [hy]))⟩
   rcases List.mem_merge.1 hx with hx|hx
   ·rcases List.mem_cons.1 hx with rfl|hx
    ·exact hba
    exact Bo hba (a1 x hx)
   exact b1 x hx
theorem Kz{α:Type}{R:α->α->Prop}{l:List α}(h:l.length<2):l.Pairwise R:=by
 cases l with
 |nil=>exact List.Pairwise.nil
 |cons a l=>cases l with
  |nil=>exact List.pairwise_singleton _ _
  |cons b l=>simp at h;omega
theorem Rw:∀ (n:Nat) (l:List It),l.length<=n+1->l.Pairwise (fun a b=>Bf a b∨Bf b a)->(jX n l).Pairwise Bf:=by
 intro n
 induction n with
 |zero=>intro l hl _;rw [zY (by omega)];exact Kz (by omega)
 |succ n ih=>
  intro l hl hp
  by_cases h:l.length<2
  ·rw [zY h];exact Kz h
  rw [TF h];have hp2:=hp;rw [<- List.take_append_drop (l.length / 2) l,List.pairwise_append] at hp2;refine aE9 _ _ (ih _ (by rw [List.length_take];omega) hp2.1) (ih _ (by rw [List.length_drop];omega) hp2.2.1) fun a ha b hb=>?_;exact hp2.2.2 a ((yK _ _).mem_iff.1 ha) b ((yK _ _).mem_iff.1 hb)
theorem Zf(hx:iN x)(hy:iN y)(h:¬We (gN y) y.r.ty y.dt x):Bf x y∨Bf y x:=by
 rw [JE,JE]
 by_cases hf:x.fo=y.fo
 ·have ho:FK (gN y) x:=(tQ hx hy).1 hf
  rcases Int.lt_trichotomy x.r.ty y.r.ty with h1|h1|h1
  ·exact .inl (.inr (.inl ⟨hf,h1⟩))
  ·have hd:Nm.iV x.dt.data.toList y.dt.data.toList≠0:=fun e=>h ⟨⟨ho,h1⟩,Nm.lL ((uM _ _).1 e)⟩
   have ha:=rU x.dt.data.toList y.dt.data.toList
   rcases Int.lt_or_le (Nm.iV x.dt.data.toList y.dt.data.toList) 0 with h2|h2
   ·exact .inl (.inl ⟨hf,h1,h2⟩)
   exact .inr (.inl ⟨hf.symm,h1.symm,by omega⟩)
  exact .inr (.inr (.inl ⟨hf.symm,h1⟩))
 have h1:Nm.sH x.fo y.fo=Nm.aN (gN x) (gN y):=by rw [hx.2.1,hy.2.1,TM hx.1 hy.1]
 have h2:Nm.sH y.fo x.fo=Nm.aN (gN y) (gN x):=by rw [hx.2.1,hy.2.1,TM hy.1 hx.1]
 have h3:=dU (gN x) (gN y);have h4:Nm.aN (gN x) (gN y)≠0:=fun e=>hf ((tQ hx hy).2 e)
 rcases Int.lt_or_le (Nm.aN (gN x) (gN y)) 0 with h5|h5
 ·exact .inl (.inr (.inr (by omega)))
 exact .inr (.inr (.inr (by omega)))
theorem aFa(x:It):We (gN x) x.r.ty x.dt x:=⟨⟨fA _,rfl⟩,rfl⟩
theorem QE{α:Type}{l:List α}{z:α}(h:z∈l.take i):∃ m,m<i∧l[m]? =some z:=by
 obtain⟨m,hm⟩:=List.getElem?_of_mem h;have Fe:=(dL hm).1;rw [List.length_take] at Fe;rw [List.getElem?_take_of_lt (by omega)] at hm;exact⟨m,by omega,hm⟩
theorem aFb(hl:∀ y∈l,iN y)(x:It):x∈(FX l).filter (fun x=> !x.out)↔ ∃ i,iJ (We (gN x) x.r.ty x.dt) l i x:=by
 rw [List.mem_filter];constructor
 ·rintro⟨hx,ho⟩
  obtain⟨i,hi⟩:=List.getElem?_of_mem hx;have EA:=(dL hi).1;rw [kG] at EA;have hy:l[i]? =some l[i]:=gF EA;have hg:=hl l[i] (dA hy);rw [mY hy] at hi;have e:=jI hi
  have hd:pU (l.take i) l[i]=false:=by
   rw [<- e] at ho;simp only [qG,Bool.not_eq_true',Bool.or_eq_false_iff] at ho;exact ho.2
  have e2:l[i]=x:=by rw [<- e,hd];simp [qG]
  rw [<- e2];refine⟨i,hy,aFa _,fun j z hj hz h=>?_⟩;have:=(QD (fun z hz=>hl z (List.mem_of_mem_take hz)) hg).2 ⟨z,dA (i:=j) (by rw [List.getElem?_take_of_lt hj];exact hz),h⟩;rw [hd] at this;cases this
 rintro⟨i,hF⟩
 have hg:=hl x hF.mem
 have hd:pU (l.take i) x=false:=by
  cases hd:pU (l.take i) x
  ·rfl
  obtain⟨z,hz,h⟩:=(QD (fun z hz=>hl z (List.mem_of_mem_take hz)) hg).1 hd;obtain⟨m,hm,hz⟩:=QE hz;exact absurd h (hF.2.2 m z hm hz)
 refine⟨dA (i:=i) ?_,by rw [hg.2.2.2];rfl⟩;rw [mY hF.1,hd];simp [qG]
theorem Q5(hl:∀ y∈l,iN y):((FX l).filter (fun x=> !x.out)).Pairwise (fun a b=>Bf a b∨Bf b a):=by
 rw [List.pairwise_filter,List.pairwise_iff_getElem];intro i j hi hj hij ha hb;rw [kG] at hi hj;have gi:l[i]? =some l[i]:=gF hi;have gj:l[j]? =some l[j]:=gF hj;have ei:=(dL (mY gi)).2;have ej:=(dL (mY gj)).2;rw [ei] at ha ⊢;rw [ej] at hb ⊢;have hgi:=hl l[i] (dA gi);have hgj:=hl l[j] (dA gj);simp only [qG,Bool.not_eq_true',Bool.or_eq_false_iff] at ha hb;have di:qG (pU (l.take i) l[i]) l[i]=l[i]:=by rw [ha.2];simp [qG]
 have dj:qG (pU (l.take j) l[j]) l[j]=l[j]:=by rw [hb.2];simp [qG]
 rw [di,dj];refine Zf hgi hgj fun h=>?_;have:=(QD (fun z hz=>hl z (List.mem_of_mem_take hz)) hgj).2 ⟨l[i],dA (i:=i) (by rw [List.getElem?_take_of_lt hij];exact gi),h⟩;rw [hb.2] at this;cases this
def aIx(lab:List ByteArray)(ty:Int)(fd:ByteArray)(y:It):Bool:=decide (Nm.aN (gN y) lab=0)&&decide (y.r.ty=ty)&&decide (y.dt=fd)
theorem aFc{ty:Int}:aIx lab ty fd y=true↔We lab ty fd y:=by
 simp only [aIx,Bool.and_eq_true,decide_eq_true_eq,We,OfS,FK]
def it0:It:=⟨⟨ByteArray.empty,0,0,0,ByteArray.empty⟩,ByteArray.empty,ByteArray.empty,false⟩
def itA(l:List It)(o:dG)(s:nY)(p:ByteArray×ByteArray):It:=(l.find? (aIx o.lab s.ty p.1)).getD it0
theorem uW(hT:rJ l os){s:nY}{p:ByteArray×ByteArray}(ho:o∈os)(hs:s∈o.ss)(hp:p∈s.da):∃ i,iJ (We o.lab s.ty p.1) l i (itA l o s p)∧p.2=(itA l o s p).r.da:=by
 obtain⟨i,x,hF,h2⟩:=hT.dat o ho s hs p hp;have:itA l o s p=x:=by rw [itA,hF.find (aIx o.lab s.ty p.1) (fun y _=>aFc)];rfl
 rw [this];exact⟨i,hF,h2⟩
def NM(os:List dG):List (dG×nY):=os.flatMap fun o=>o.ss.map fun s=>(o,s)
def itG(l:List It)(g:dG×nY):List It:=g.2.da.map (itA l g.1 g.2)
theorem fT{g:dG×nY}:g∈NM os↔g.1∈os∧g.2∈g.1.ss:=by
 simp only [NM,List.mem_flatMap,List.mem_map];constructor
 ·rintro⟨o,ho,s,hs,rfl⟩;exact⟨ho,hs⟩
 rintro⟨h1,h2⟩;exact⟨g.1,h1,g.2,h2,rfl⟩
theorem AB(hT:rJ l os){g:dG×nY}(hg:g∈NM os)(hx:x∈itG l g):∃ p∈g.2.da,x=itA l g.1 g.2 p∧x∈l∧We g.1.lab g.2.ty p.1 x:=by
 obtain⟨h1,h2⟩:=fT.1 hg;simp only [itG,List.mem_map] at hx;obtain⟨p,hp,rfl⟩:=hx;obtain⟨i,hF,_⟩:=uW hT h1 h2 hp;exact⟨p,hp,rfl,hF.mem,hF.2.1⟩
theorem XY(hx:iN x)(hy:iN y)(h1:FK lab x)(h2:FK lab y):x.fo=y.fo:=by
 rw [tQ hx hy,bQ (show Nm.aN (gN y) lab=0 from h2)];exact h1
theorem aJ7(hT:rJ l os)(hl:∀ y∈l,iN y):(NM os).Pairwise (fun g h=>∀ x∈itG l g,∀ y∈itG l h,Bf x y∧(x.fo≠y.fo∨x.r.ty≠y.r.ty)):=by
 rw [NM,List.pairwise_flatMap];constructor
 ·intro o ho;rw [List.pairwise_map];refine List.Pairwise.imp_of_mem ?_ (hT.sorted.2 o ho).1;intro s t hs ht mI x hx y hy;obtain⟨p,hp,_,DN,NK⟩:=AB hT (fT.2 ⟨ho,hs⟩) hx;obtain⟨q,hq,_,hyl,Q6⟩:=AB hT (fT.2 ⟨ho,ht⟩) hy;have tT:x.r.ty<y.r.ty:=by rw [NK.1.2,Q6.1.2];exact mI
  exact⟨(JE x y).2 (.inr (.inl ⟨XY (hl x DN) (hl y hyl) NK.1.1 Q6.1.1,tT⟩)),.inr (by omega)⟩
 refine List.Pairwise.imp_of_mem ?_ hT.sorted.1;intro o q ho hq hoq g hg h hh x hx y hy;simp only [List.mem_map] at hg hh;obtain⟨s,hs,rfl⟩:=hg;obtain⟨t,ht,rfl⟩:=hh;obtain⟨p,hp,_,DN,NK⟩:=AB hT (fT.2 ⟨ho,hs⟩) hx;obtain⟨p',Gt,_,hyl,Q6⟩:=AB hT (fT.2 ⟨hq,ht⟩) hy;have JD:=hl x DN;have VM:=hl y hyl
 have h1:Nm.sH x.fo y.fo<0:=by
  rw [JD.2.1,VM.2.1,TM JD.1 VM.1,dB NK.1.1,bQ Q6.1.1];exact hoq
 refine⟨(JE x y).2 (.inr (.inr h1)),.inl (fun e=>?_)⟩;rw [e,uV] at h1;omega
theorem aNt(hT:rJ l os)(hl:∀ y∈l,iN y):((NM os).flatMap (itG l)).Pairwise Bf:=by
 rw [List.pairwise_flatMap];refine⟨fun g hg=>?_,(aJ7 hT hl).imp (fun h x hx y hy=>(h x hx y hy).1)⟩;obtain⟨ho,hs⟩:=fT.1 hg;rw [itG,List.pairwise_map];refine List.Pairwise.imp_of_mem ?_ ((hT.sorted.2 g.1 ho).2 g.2 hs);intro p q hp hq hpq;obtain⟨i,hF,_⟩:=uW hT ho hs hp;obtain⟨j,hG,_⟩:=uW hT ho hs hq;have h1:=hF.2.1;have h2:=hG.2.1;refine(JE _ _).2 (.inl ⟨XY (hl _ hF.mem) (hl _ hG.mem) h1.1.1 h2.1.1,by rw [h1.1.2,h2.1.2],?_⟩);rw [h1.2,h2.2];exact hpq
theorem aLa(hT:rJ l os)(hl:∀ y∈l,iN y)(x:It):x∈(NM os).flatMap (itG l)↔ ∃ i,iJ (We (gN x) x.r.ty x.dt) l i x:=by
 rw [List.mem_flatMap];constructor
 ·rintro⟨g,hg,hx⟩
  obtain⟨p,hp,e,_,hD⟩:=AB hT hg hx;obtain⟨ho,hs⟩:=fT.1 hg;obtain⟨i,hF,_⟩:=uW hT ho hs hp;rw [<- e] at hF;refine⟨i,hF.congr (fun y=>?_)⟩;simp only [We,OfS,FK];rw [hD.1.2,hD.2,bQ (show Nm.aN (gN x) g.1.lab=0 from hD.1.1)]
 rintro⟨i,hF⟩
 obtain⟨o,ho,h1,s,hs,h2,p,hp,h3⟩:=hT.cov x hF.mem;refine⟨(o,s),fT.2 ⟨ho,hs⟩,?_⟩;rw [itG,List.mem_map];refine⟨p,hp,?_⟩;obtain⟨j,hG,_⟩:=uW hT ho hs hp
 have:iJ (We o.lab s.ty p.1) l i x:=hF.congr (fun y=>by
  simp only [We,OfS,FK]
  rw [h2,h3,bQ (show Nm.aN (gN x) o.lab=0 from h1)])
 exact(hG.uniq this).2
theorem aBb{l0 iT P gs Q:List It}{x0:It}(e:iT=P++((x0::gs)++Q))(Q7:∀ y∈gs,y.fo=x0.fo∧y.r.ty=x0.r.ty)(BR:∀ z∈P,z.fo≠x0.fo∨z.r.ty≠x0.r.ty):
 ∀ m,m<=gs.length->nS l0 iT (P.length+1+m)=nS l0 iT P.length++[⟨vX l0 x0.fo,x0.r.ty,x0.r.tt,x0.r.da::(gs.take m).map (·.r.da)⟩]:=by
 have NJ:∀ k,k<(x0::gs).length->iT[P.length+k]? =(x0::gs)[k]? :=fun k hk=>by
  rw [e,List.getElem?_append_right (by omega),List.getElem?_append_left (by omega)];congr 1;omega
 intro m
 induction m with
 |zero=>
  intro _;have h0:iT[P.length]? =some x0:=NJ 0 (by simp)
  have hn:jM iT P.length x0=true:=by
   cases hP:P.length with
   |zero=>rfl
   |succ k=>
    have hk:k<P.length:=by omega
    have hz:iT[k]? =some P[k]:=by rw [e,List.getElem?_append_left hk,gF hk]
    rw [jM,hz]
    rcases BR P[k] (List.getElem_mem hk) with h|h<;>simp [h]
  rw [Nat.add_zero,tO h0 hn]
  rfl
 |succ m ih=>
  intro hm;have hy:gs[m]? =some gs[m]:=gF (by omega)
  have h1:iT[P.length+1+m]? =some gs[m]:=by
   have:=NJ (m+1) (by simp;omega);rw [show P.length+1+m=P.length+(m+1) by omega,this];simp [hy]
  have hk:∀ z,(x0::gs)[m]? =some z->z.fo=x0.fo∧z.r.ty=x0.r.ty:=fun z hz=>by
   rcases List.mem_cons.1 (dA hz) with rfl|h
   ·exact⟨rfl,rfl⟩
   exact Q7 z h
  obtain⟨z,hz⟩:∃ z,(x0::gs)[m]? =some z:=⟨_,gF (by simp;omega)⟩;have hy2:=Q7 gs[m] (List.getElem_mem (by omega))
  have hn:jM iT (P.length+1+m) gs[m]=false:=by
   rw [show P.length+1+m=(P.length+m)+1 by omega,jM,NJ m (by simp;omega),hz];simp [(hk z hz).1,(hk z hz).2,hy2.1,hy2.2]
  have:=yM h1 hn (ih (by omega));rw [show P.length+1+(m+1)=P.length+1+m+1 by omega,this];rw [List.take_succ_eq_append_getElem (show m<gs.length by omega),List.map_append];rfl
theorem aIy{γ:Type}{l0:List It}(G:List γ)(f:γ->List It)(toS:γ->Sz)(dM:∀ g∈G,f g≠[])(Q7:∀ g∈G,∀ x∈f g,∀ y∈f g,y.fo=x.fo∧y.r.ty=x.r.ty)
 (hp:G.Pairwise (fun g h=>∀ x∈f g,∀ y∈f h,x.fo≠y.fo∨x.r.ty≠y.r.ty)) (hS:∀ g∈G,∀ x0 gs,f g=x0::gs->toS g=⟨vX l0 x0.fo,x0.r.ty,x0.r.tt,(f g).map (·.r.da)⟩):
 ∀ k,k<=G.length->nS l0 (G.flatMap f) ((G.take k).flatMap f).length=(G.take k).map toS:=by
 intro k
 induction k with
 |zero=>intro _;rfl
 |succ k ih=>
  intro hk;have hg:k<G.length:=by omega
  have hm:G[k]∈G:=List.getElem_mem hg
  obtain⟨x0,gs,hf⟩:∃ x0 gs,f G[k]=x0::gs:=by
   cases h:f G[k] with
   |nil=>exact absurd h (dM _ hm)
   |cons x0 gs=>exact⟨x0,gs,rfl⟩
  have eG:G=G.take k++(G[k]::G.drop (k+1)):=by rw [<- List.drop_eq_getElem_cons hg,List.take_append_drop]
  have e1:G.flatMap f=(G.take k).flatMap f++((x0::gs)++(G.drop (k+1)).flatMap f):=by
   conv=>lhs;rw [eG]
   rw [List.flatMap_append,List.flatMap_cons,hf]
  have e2:G.take (k+1)=G.take k++[G[k]]:=List.take_succ_eq_append_getElem hg;have NF:x0∈f G[k]:=by rw [hf];simp
  have hh:=aBb (l0:=l0) e1 (fun y hy=>Q7 _ hm x0 NF y (by rw [hf];simp [hy])) (fun z hz=>by
   obtain⟨g,mM,iI⟩:=List.mem_flatMap.1 hz;obtain⟨j,hj,hgj⟩:=QE mM;have NG:=dL hgj;have h9:=List.pairwise_iff_getElem.1 hp j k NG.1 hg hj;rw [NG.2] at h9
   exact h9 z iI x0 NF) gs.length (aI _)
  have e3:((G.take (k+1)).flatMap f).length=((G.take k).flatMap f).length+1+gs.length:=by
   rw [e2,List.flatMap_append,oJ,List.flatMap_cons,hf];simp
   omega
  rw [e3,hh,ih (by omega),e2,List.map_append,List.map_cons,List.map_nil,hS _ hm x0 gs hf,hf];simp
def mO(g:dG×nY):Sz:=⟨g.1.nm,g.2.ty,g.2.tt,g.2.da.map (·.2)⟩
def eH(os:List dG):List Sz:=(NM os).map mO
theorem QF{list:List Rr}(hT:rJ (list.map bH) os)(hl:∀ y∈list.map bH,iN y)(Zg:∀ (i:Nat) (x:It),(list.map bH)[i]? =some x->uS ((list.map bH).take i) x=false):zI list=eH os:=by
 obtain⟨l,hle⟩:∃ l,l=list.map bH:=⟨_,rfl⟩;have e0:IY list=(FX l).filter (fun x=> !x.out):=by rw [hle];rfl
 have e9:bK list=FX l:=by rw [hle];rfl
 rw [<- hle] at hT hl Zg
 have e1:lU list=(NM os).flatMap (itG l):=by
  refine Hu (R:=Bf) aBa (fun _ _ _=>Bo) _ _ ?_ (aNt hT hl) fun x=>?_
  ·rw [lU,VI,e0];exact Rw _ _ (by omega) (Q5 hl)
  rw [lU,VI,e0,(yK _ _).mem_iff,aFb hl,aLa hT hl]
 rw [zI,e9,e1];have h:=aIy (l0:=FX l) (NM os) (itG l) mO (fun g hg=>?_) (fun g hg x hx y hy=>?_) ((aJ7 hT hl).imp (fun h x hx y hy=>(h x hx y hy).2)) (fun g hg x0 gs e=>?_) (NM os).length (aI _)
 ·rw [List.take_length] at h;exact h
 ·obtain⟨ho,hs⟩:=fT.1 hg;obtain⟨y,hF,_⟩:=hT.set g.1 ho g.2 hs;obtain⟨q,hq,h1,t,ht,h2,p,hp,h3⟩:=hT.cov y hF.mem;have e2:g.1=q:=hT.one ho hq (by rw [<- dB (show Nm.aN (gN y) g.1.lab=0 from hF.2.1.1)];exact h1);have e3:g.2=t:=(hT.sorted.2 g.1 ho).1.one hs (by rw [e2];exact ht) (by rw [h2,hF.2.1.2]);rw [itG,e3];intro e;rw [List.map_eq_nil_iff] at e;rw [e] at hp;cases hp
 ·obtain⟨p,_,_,DN,NK⟩:=AB hT hg hx;obtain⟨q,_,_,hyl,Q6⟩:=AB hT hg hy;exact⟨XY (hl y hyl) (hl x DN) Q6.1.1 NK.1.1,by rw [Q6.1.2,NK.1.2]⟩
 obtain⟨ho,hs⟩:=fT.1 hg;have NF:x0∈itG l g:=by rw [e];simp
 obtain⟨p,hp,ex,DN,NK⟩:=AB hT hg NF;have JD:=hl x0 DN
 have eo:vX (FX l) x0.fo=g.1.nm:=by
  obtain⟨i,y,hF,h2,_⟩:=hT.own g.1 ho
  have hG:iJ (fun z:It=>z.fo=x0.fo) (FX l) i (qG (pU (l.take i) y) y):=by
   refine⟨mY hF.1,show y.fo=x0.fo from XY (hl y hF.mem) JD hF.2.1 NK.1.1,fun j z hj hz Wh=>?_⟩;have NG:=(dL hz).1;rw [kG] at NG;have hy:l[j]? =some l[j]:=gF NG;rw [mY hy] at hz;obtain rfl:=jI hz;have XL:=hl l[j] (dA hy);refine hF.2.2 j l[j] hj hy ?_;have h5:Nm.aN (gN l[j]) (gN x0)=0:=(tQ XL JD).1 Wh;rw [FK,dB h5];exact NK.1.1
  rw [vX,hG.find (fun z=>decide (z.fo=x0.fo)) (fun z _=>by simp),h2];rfl
 have et:x0.r.tt=g.2.tt:=by
  obtain⟨y,hF,h2⟩:=hT.set g.1 ho g.2 hs;obtain⟨j,hG,_⟩:=uW hT ho hs hp;rw [<- ex] at hG;have hm:=Zg j x0 hG.1
  rcases Nat.lt_trichotomy g.2.fi j with h3|h3|h3
  ·have VM:=hl y hF.mem;have hk:tF x0 y=true:=(Bh JD VM).2 ⟨by rw [FK,bQ (show Nm.aN (gN x0) g.1.lab=0 from NK.1.1)];exact hF.2.1.1,by rw [hF.2.1.2,NK.1.2]⟩
   have hf:=ED (p:=tF x0) h3 hF.1 hk (fun m z hm hz=>by
    cases hb:tF x0 z
    ·rfl
    exfalso
    have XL:=hl z (dA hz);have h6:=(Bh JD XL).1 hb
    exact hF.2.2 m z hm hz ⟨by rw [FK,<- bQ (show Nm.aN (gN x0) g.1.lab=0 from NK.1.1)];exact h6.1,by rw [h6.2,NK.1.2]⟩)
   rw [uS,hf] at hm;simp at hm;rw [h2,hm]
  ·rw [h3] at hF;have:=hF.1.symm.trans hG.1;rw [h2,jI this]
  exact absurd NK.1 (hF.2.2 j x0 h3 hG.1)
 rw [mO,eo,NK.1.2,et];congr 1;rw [itG,List.map_map];refine(List.map_congr_left (fun q hq=>?_)).symm;obtain⟨j,_,h⟩:=uW hT ho hs hq;exact h.symm
open Go.Shelf
attribute [local go_sem] Oper.semAt_some
def Zst(B:Nat)(aL:ByteArray)(Zb Rb:Nat)(W:World)(ss:List Sz):Prop:=
 ∃ v ps,bW W Zb #[.string aL,v] 25∧bW W Rb #[.string ⟨#[]⟩,.slice none 0 0] 25∧ps.map (·.1)=ss∧dF W B v ps
theorem qN{e s r:Nat}{xs:List Value}(h:W.ownsRow B e s v n xs)(hr:∃ o:Obj,W.heap[r]? =some o∧o.isCells=false):v.ownBlock≠some r:=by
 intro he
 rcases h.2 with⟨rfl,_⟩|⟨g,cap,cur,rfl,_,hh,_⟩
 ·cases he
 simp only [Value.ownBlock,mV] at he;subst he;obtain⟨o,h1,h2⟩:=hr;rw [hh] at h1;cases h1
 cases h2
theorem qO{b r:Nat}{cs:Array Value}{T:TypeId}(h:bW W b cs T)(hr:∃ o:Obj,W.heap[r]? =some o∧o.isCells=false):b≠r:=by
 intro he;subst he;obtain⟨o,h1,h2⟩:=hr;rw [bW] at h;rw [h] at h1;cases h1
 cases h2
theorem oZ(W:World)(b i:Nat)(v:Value):W.grownBy (W.setCell ⟨b,i,none⟩ v) (some b):=
 ⟨rfl,rfl,rfl,(KeepsWalks.setCell W _ v).size,fun k _ hk=>Below.heap_setCell _ _ _ k (fun e=>hk (by rw [e]))⟩
theorem Q8{β:Type}(B:Nat)(aL:ByteArray)(Zb Rb:Nat)(f:β->List Sz):Own (fun s W=>Zst B aL Zb Rb W (f s)):=by
 rintro s X Y row ⟨v,ps,h1,h2,h3,h4⟩ hg dI;refine⟨v,ps,aO h1 hg (fun e=>qO h1 (dI Zb e) rfl),aO h2 hg (fun e=>qO h2 (dI Rb e) rfl),h3,h4.beside hg (fun g e=>qN h4.outer (dI g e)) (fun g e p hp=>?_)⟩;obtain⟨i,hi⟩:=List.getElem?_of_mem hp;exact qN (h4.inner i p hi) (dI g e)
theorem Hw{Zb Rb:Nat}{W':World}{ss:List Sz}(h:Zst B aL Zb Rb W ss)(hb:Below W.heap.size W W'):Zst B aL Zb Rb W' ss:=by
 obtain⟨v,ps,h1,h2,h3,h4⟩:=h;exact⟨v,ps,aB h1 hb,aB h2 hb,h3,h4.below hb⟩
theorem jY{W':World}(h:Below W.heap.size W W'):KeepsOthers W W':=⟨h.size,fun k o hk _=>(h.block k (Array.getElem?_eq_some_iff.1 hk).1).trans hk⟩
theorem aFd{Zb Rb:Nat}{w1:World}{tmp:Obj}{v' u:Value}{ps:List Zp}{s:Sz}(h1:bW W Zb #[.string aL,v] 25)(h2:bW W Rb #[.string ⟨#[]⟩,.slice none 0 0] 25)(h4:dF W B v ps)(hB:B<=Zb)(La:B<=W.heap.size)(dM:Zb≠Rb)
 (hu:W.ownsRow B 9 1 u s.da.length (s.da.map Value.string)) (ha:∀ p∈ps,∀ g,p.2.ownBlock=some g->u.ownBlock≠some g)
 (ho:w1.ownsRow B 42 4 v' (ps.length+1) (lG ps++YR (s,u))) (hg:(W.alloc tmp).grownBy w1 v.ownBlock):
 bW w1 Zb #[.string aL,v] 25∧Zst B aL Zb Rb (w1.setCell ⟨Zb,1,none⟩ v') (ps.map (·.1)++[s])∧KeepsOthers W (w1.setCell ⟨Zb,1,none⟩ v')∧Below B W (w1.setCell ⟨Zb,1,none⟩ v')∧∀ b cs T,bW W b cs T->42≠T->b≠Zb->bW (w1.setCell ⟨Zb,1,none⟩ v') b cs T:=by
 have Lb:Below W.heap.size W (W.alloc tmp):=(aJ _ W).alloc (aI _) tmp;have ZG:=aB h1 Lb;have Ws:=aB h2 Lb;have Mt:=h4.below Lb;have hu':=own_below hu Lb;have k1:bW w1 Zb #[.string aL,v] 25:=aO ZG hg (fun e=>dD Mt.outer ZG (by decide) e);have k2:bW w1 Rb #[.string ⟨#[]⟩,.slice none 0 0] 25:=aO Ws hg (fun e=>dD Mt.outer Ws (by decide) e);have z:=Mt.snoc hu' ha ho hg;have e1:=aM k1 1 v';simp only [List.setIfInBounds_toArray,List.set_cons_zero,List.set_cons_succ] at e1;have Wi:=oZ w1 Zb 1 v';refine⟨k1,⟨v',ps++[(s,u)],e1,aO k2 Wi (fun e=>by cases e;exact dM rfl),by simp,?_⟩,?_,?_,fun b cs T hb hT yZ=>?_⟩
 ·refine z.beside Wi (fun g e=>by cases e;exact dD z.outer k1 (by decide)) fun g e p hp=>?_;cases e
  obtain⟨i,hi⟩:=List.getElem?_of_mem hp;exact dD (z.inner i p hi) k1 (by decide)
 ·refine((KeepsOthers.alloc W tmp).trans (KeepsOthers.of_grownBy hg fun j o ej hj=>?_)).trans (KeepsOthers.of_grownBy Wi fun j o ej hj=>?_)
  ·cases ho:o.isCells with
   |true=>rfl
   |false=>exact absurd ej (qN Mt.outer ⟨o,hj,ho⟩)
  cases ho:o.isCells with
  |true=>rfl
  |false=>cases ej;exact absurd rfl (qO k1 ⟨o,hj,ho⟩)
 ·refine((((aJ B W).alloc La tmp).grown hg (by simp;omega) fun j ej=>?_)).setCell (p:=⟨Zb,1,none⟩) hB v';exact(Mt.outer.lt j ej).1
 exact aO (aO (aB hb Lb) hg (fun e=>dD Mt.outer (aB hb Lb) hT e)) Wi (fun e=>by cases e;exact yZ rfl)
def KR:Value->Option Addr
 |.slice a _ _=>a
 |_=>none
def KS:Value->Nat
 |.slice _ n _=>n
 |_=>0
def KT:Value->Nat
 |.slice _ _ c=>c
 |_=>0
theorem Rx{l:List ByteArray}(h:Nm.bP w v l):v=.slice (KR v) (KS v) (KT v):=by
 obtain⟨a,cap,rfl,_⟩:=h;rfl
theorem Bp(os:List dG)(o:dG):eH (os++[o])=eH os++o.ss.map fun s=>mO (o,s):=by
 simp [eH,NM]
theorem aBc:∀ (os:List dG),(∀ o∈os,o.ss.length<=400000)->(eH os).length<=os.length*400000:=by
 refine vP ?_ ?_
 ·intro _;simp [eH,NM]
 intro l o ih h;rw [Bp];have h1:=ih (fun q hq=>h q (by simp [hq]));have h2:=h o (by simp);simp only [oJ,List.length_map,List.length_singleton];omega
theorem aIz(F:Fence)(n:Nat)(h1:F.fn 65)(h2:F.fn 97)(h3:F.fn 67)(h4:F.fn 111)(h5:F.fn 96)(h6:F.fn 131)(h7:F.fn 72)(sJ:F.round=none)(hn:9<=n)
 (bb oo th:Nat) (rv:Value) (os:List dG) (B:Nat) (aL:ByteArray) (w:World) (h:nQ w B th rv os) (hd:Yk os) (hl:os.length<=400000) (jD:mU w (jF th rv os) os) (hc:w.cell? ⟨bb,oo+1,none⟩=some (ptr th))
 (sI:∀ m W,CallsIn F m Tryz.prog 97 #[.string aL] W fun e w'=>e=.returned (.string aL)∧Below W.heap.size W w')
 (Ez:∀ (o:dG) (s:nY) (m:Nat) (W:World),o∈os->s∈o.ss->Below w.heap.size w W->CallsIn F m Tryz.prog 72 #[ptr o.dS,.int .i64 s.ty] W fun e w'=>∃ v,e=.returned (.tuple #[.agg #[.string o.nm,.int .i64 s.ty,.int .i64 s.tt,v],.bool true])∧w'.ownsRow W.heap.size 9 1 v s.da.length (s.da.map fun p=>.string p.2)∧Below W.heap.size W w'):
 CallsIn F n Tryz.prog 65 #[.pointer (some ⟨bb,oo,none⟩),.string aL] w fun e W'=>∃ v ps,e=.returned (.agg #[.string aL,v])∧ps.map (·.1)=eH os∧dF W' w.heap.size v ps∧Below w.heap.size w W':=by
 obtain⟨i0,hi,iQ,iH,iI⟩:=info_parts Tryz.XG;refine callsIn_of_wp_marks Tryz.func65 rfl h1 ?_ sJ;simp only [Tryz.ntmps65,List.size_toArray,List.length_cons,List.length_nil,Nat.reduceAdd,Nat.reduceSub,Array.replicate_succ,Array.replicate_zero,List.push_toArray,List.append_toArray,List.nil_append,List.cons_append];have kR:=aK w #[.string ⟨#[]⟩,.slice none 0 0] 25;have b0:=(aJ w.heap.size w).alloc (aI _) (.cells #[.string ⟨#[]⟩,.slice none 0 0] 25);have MR:th<w.heap.size:=cO h.head;have n1:1<=n:=by omega
 have zH:bb<w.heap.size:=fD w _ hc;unfold ptr at hc Ez;have HX:=Nm.aD (aV h (aV hd (aV jD Ez)));clear h hd jD Ez
 gi_wp2_with (
  gi_at_call 97
  refine(sI _ _).mono ?_;rintro e w1 ⟨rfl,b1⟩;have b1':=Nm.aC b0 b1;have aNu:Hid (w.heap.size+1<=w1.heap.size):=by have:=b1.size;rw [jO] at this;exact this
  have RI:=aB kR b1;clear kR b0 b1;have EU:=bD RI (.cells #[.string aL,.slice none 0 0] 25);have WN:=aK w1 #[.string aL,.slice none 0 0] 25;have b2:=b1'.alloc b1'.size (.cells #[.string aL,.slice none 0 0] 25)
  have c2:=(b2.cell (p:=⟨bb,oo+1,none⟩) zH).trans hc)
 refine(Kb F (n-1) h3 sJ _ _).mono ?_;rintro e w3 ⟨rfl,rfl⟩
 gi_wp2
 have FM:=bD EU (.cells #[.pointer (some ⟨th,0,none⟩)] 100);have kZ3:=bD WN (.cells #[.pointer (some ⟨th,0,none⟩)] 100);have kT3:=aK (w1.alloc (.cells #[.string aL,.slice none 0 0] 25)) #[.pointer (some ⟨th,0,none⟩)] 100;have b3:=b2.alloc b2.size (.cells #[.pointer (some ⟨th,0,none⟩)] 100);rw [jO] at kT3;obtain⟨W0,FH⟩:∃ W0,(w1.alloc (.cells #[.string aL,.slice none 0 0] 25)).alloc (.cells #[.pointer (some ⟨th,0,none⟩)] 100)=W0:=⟨_,rfl⟩;have qA:W0.heap.size=w1.heap.size+2:=by rw [<- FH];simp
 have KC:=b1'.size;rw [FH] at FM kZ3 kT3 b3 ⊢;clear FH EU WN b2 c2 RI;have hza:os.attach.length=os.length:=List.length_attach
 have KO:Qp (fun x:{o:dG // o∈os}=>KR x.1.lv) (fun x=>KS x.1.lv) (fun x=>KT x.1.lv) (fun x=>⟨x.1.dS,0,none⟩) w.heap.size w rv os.attach:=by
  refine Ag _ _ _ _ (B:=B) (e:=165) _ ?_;have hr:=HX.out.1.rows
  have e1:(os.attach.map fun x:{o:dG // o∈os}=>((Value.slice (KR x.1.lv) (KS x.1.lv) (KT x.1.lv)),(Value.pointer (some (⟨x.1.dS,0,none⟩:Addr)))))=jS os:=by
   rw [jS]
   conv=>rhs;rw [<- List.attach_map_subtype_val os]
   rw [List.map_map];refine List.map_congr_left fun x _=>?_;simp only [Function.comp,ptr];rw [<- Rx (HX.out.2.2.1 x.1 x.2).row]
  rw [e1];rw [show(jS os).length=os.attach.length by simp [jS]] at hr;exact hr
 have kh3:W0.cell? ⟨th,1,none⟩=some rv:=(b3.cell (p:=⟨th,1,none⟩) MR).trans ((aA HX.out.1.head 1).trans rfl)
 refine wpIn_rangeFunc_ownH sJ n1 (gf:=111) (lb:=#[.pointer (some ⟨w1.heap.size+1,0,none⟩)]) rfl h4 (enters_of Tryz.func111 (by kernel_rfl) rfl)
  (TB (fun x:{o:dG // o∈os}=>KR x.1.lv) (fun x=>KS x.1.lv) (fun x=>KT x.1.lv) (fun x=>⟨x.1.dS,0,none⟩) F (n-1) h4 sJ (by omega) (w1.heap.size+1) th w.heap.size rv os.attach (by omega) W0 (by omega) MR (by omega) ((aA kT3 0).trans rfl) kh3 (KO.below b3)) belowK_t (belowK_b (by omega)) (aJ _ _) (fun _=>rfl)
  (fun pre W=>Zst w.heap.size aL w1.heap.size w.heap.size W (eH (pre.map (·.1)))∧(Below w.heap.size w W∧w1.heap.size+2<=W.heap.size))
  (fun _ _ _=>False)
  (OwnFrom.and (Own.from (Q8 _ _ _ _ (fun pre:List {o:dG // o∈os}=>eH (pre.map (·.1)))) _) (OwnFrom.and (ownFrom_below (aI _) (by omega)) (fun _ _ _ _ hs hg _=>jN hs hg.size)))
  (fun _ _ _ _ _ hs _ _=>hs)
  ⟨⟨.slice none 0 0,[],kZ3,FM,rfl,dF.nil _ _⟩,b3,by omega⟩
  (fun x a' W=>∃ Bx,w1.heap.size+1<Bx∧bW W Bx #[.pointer (some ⟨x.1.dS,0,none⟩)] 103∧a'={tmps:=#[.pointer (some ⟨bb,oo,none⟩),.string aL,undef,undef,.pointer (some ⟨w.heap.size,0,none⟩),.pointer (some ⟨w1.heap.size,0,none⟩),undef,.pointer (some ⟨Bx,0,none⟩),undef,undef,undef,.string aL,.string aL,.agg #[.string aL,.slice none 0 0],.pointer (some ⟨bb,oo,none⟩),.pointer (some ⟨bb,oo,none⟩),.pointer (some ⟨bb,oo+1,none⟩),.pointer (some ⟨th,0,none⟩),.func (.func 111) #[] #[.pointer (some ⟨w1.heap.size+1,0,none⟩)],.slice (KR x.1.lv) (KS x.1.lv) (KT x.1.lv),.pointer (some ⟨x.1.dS,0,none⟩),undef,undef,undef,undef,undef,undef,undef,undef,undef,undef,undef,undef,undef,undef,undef,undef,undef,undef,undef,undef],defers:=[]})
  (fun x a' _ X Y row hs hg hr=>by obtain⟨Bx,h1,h2,h3⟩:=hs;exact⟨Bx,h1,aO h2 hg (fun e=>qO h2 (hr Bx e).2 rfl),h3⟩)
  ?assign ?body ?done ?stop
 case assign=>
  rintro l pre x W K ⟨iH,yY,oG⟩ hK;have HS:=Nm.aD oG;clear oG
  gi_wp2
  exact hK _ _ ((KeepsOthers.alloc _ _).from _) ((aJ _ W).alloc yY.size _) ⟨Hw iH ((aJ _ W).alloc (aI _) _),yY.alloc yY.size _,by have:=HS.out;simp;omega⟩ ⟨W.heap.size,by have:=HS.out;omega,aK W _ _,rfl⟩
 case body=>
  rintro l pre x a' W BA ⟨r,hr⟩ ⟨uO,yY,oG⟩ ⟨Bx,hBx,bX,rfl⟩ bY;have ow:=HX.out.1.jG x.1 x.2;have hxd:=HX.out.2.1.2 x.1 x.2;have cX:=(aA bX 0).trans rfl;have cN:W.cell? ⟨x.1.dS,2,none⟩=some (.pointer (some ⟨x.1.hd,0,none⟩)):=(yY.cell (p:=⟨x.1.dS,2,none⟩) (cO ow.node)).trans ((aA ow.node 2).trans rfl);have n2:1<=n-1-1:=by omega
  have HS:=Nm.aD (aV oG (aV BA (aV bY hBx)));clear oG BA bY hBx
  gi_wp2_with (gi_at_call 96;refine(CallsIn.inRound l (Jt F (n-1-1-1) h5 sJ _ _)).mono ?_;rintro e w' ⟨rfl,rfl⟩)
  have hsW:=yY.size;have Dk:=(Array.getElem?_eq_some_iff.1 hr).1;have bA:=(aJ w.heap.size W).alloc hsW (.cells #[.pointer (some ⟨x.1.hd,0,none⟩)] 126);have bA':=(aJ W.heap.size W).alloc (aI _) (.cells #[.pointer (some ⟨x.1.hd,0,none⟩)] 126);have kN:=aK W #[.pointer (some ⟨x.1.hd,0,none⟩)] 126;have Mw:(W.alloc (.cells #[.pointer (some ⟨x.1.hd,0,none⟩)] 126)).heap[l]? =some (.loop r):=(Below.heap_alloc W _ l Dk).trans hr;have Eh:x.1.ss.attach.length=x.1.ss.length:=List.length_attach
  have Em:Js (fun s:{s:nY // s∈x.1.ss}=>s.1.ty) (fun s=>⟨s.1.dS,0,none⟩) w.heap.size w x.1.rv x.1.ss.attach:=by
   refine ZU _ _ (B:=B) (e:=195) _ ?_;have hr:=ow.rows
   have e1:(x.1.ss.attach.map fun s:{s:nY // s∈x.1.ss}=>((Value.int .i64 s.1.ty),(Value.pointer (some (⟨s.1.dS,0,none⟩:Addr)))))=lQ x.1.ss:=by
    rw [lQ]
    conv=>rhs;rw [<- List.attach_map_subtype_val x.1.ss]
    rw [List.map_map];rfl
   rw [e1];rw [show(lQ x.1.ss).length=x.1.ss.attach.length by simp [lQ]] at hr;exact hr
  have VN:=yY.trans bA;have khI:(W.alloc (.cells #[.pointer (some ⟨x.1.hd,0,none⟩)] 126)).cell? ⟨x.1.hd,1,none⟩=some x.1.rv:=(VN.cell (p:=⟨x.1.hd,1,none⟩) (cO ow.head)).trans ((aA ow.head 1).trans rfl)
  have HL:(eH (pre.map (·.1))).length<=160000000000:=by
   have h1:=aBc (pre.map (·.1)) (fun o ho=>by
    obtain⟨y,_,rfl⟩:=kJ ho
    exact(HX.out.2.1.2 y.1 y.2).2.1)
   have:=HS.out.2.2.1;rw [List.length_map] at h1;omega
  refine wpIn_rangeFunc_ownN (l₀:=l) (r₀:=r) rfl Mw n2 (gf:=131) (lb:=#[.pointer (some ⟨W.heap.size,0,none⟩)]) rfl h6 (enters_of Tryz.func131 (by kernel_rfl) rfl)
   ((SS (fun s:{s:nY // s∈x.1.ss}=>s.1.ty) (fun s=>⟨s.1.dS,0,none⟩) F (n-1-1-1) h6 sJ (by omega) W.heap.size x.1.hd w.heap.size x.1.rv x.1.ss.attach (by have:=hxd.2.1;omega) _ (by simp) (cO ow.head) (by simp;omega) ((aA kN 0).trans rfl) khI (Em.below VN)).inRound l) belowK_t (belowK_b (by simp;omega)) (aJ _ _) (fun _=>rfl)
   (fun pre' W'=>(Zst w.heap.size aL w1.heap.size w.heap.size W' (eH (pre.map (·.1))++pre'.map fun s=>mO (x.1,s.1))∧bW W' Bx #[.pointer (some ⟨x.1.dS,0,none⟩)] 103)∧(Below w.heap.size W W'∧KeepsFrom W0.heap.size W W'))
   (fun _ _ _=>False)
   (OwnFrom.and (OwnFrom.and (Own.from (Q8 _ _ _ _ (fun pre':List {s:nY // s∈x.1.ss}=>eH (pre.map (·.1))++pre'.map fun s=>mO (x.1,s.1))) _) (fun _ X Y row hs hg hr=>aO hs hg (fun e=>qO hs (hr Bx e).2 rfl))) (OwnFrom.and (ownFrom_below hsW (by simp;omega)) (ownFrom_keepsFrom (by simp))))
   (fun _ _ _ _ _ hs _ _=>hs)
   ⟨⟨by simpa using Hw uO bA',aB bX bA'⟩,bA,(KeepsOthers.alloc _ _).from _⟩
   (fun s a'' _=>a''={tmps:=#[.pointer (some ⟨bb,oo,none⟩),.string aL,undef,undef,.pointer (some ⟨w.heap.size,0,none⟩),.pointer (some ⟨w1.heap.size,0,none⟩),undef,.pointer (some ⟨Bx,0,none⟩),.int .i64 s.1.ty,undef,undef,.string aL,.string aL,.agg #[.string aL,.slice none 0 0],.pointer (some ⟨bb,oo,none⟩),.pointer (some ⟨bb,oo,none⟩),.pointer (some ⟨bb,oo+1,none⟩),.pointer (some ⟨th,0,none⟩),.func (.func 111) #[] #[.pointer (some ⟨w1.heap.size+1,0,none⟩)],.slice (KR x.1.lv) (KS x.1.lv) (KT x.1.lv),.pointer (some ⟨x.1.dS,0,none⟩),.pointer (some ⟨x.1.dS,0,none⟩),.pointer (some ⟨x.1.dS,0,none⟩),.pointer (some ⟨x.1.dS,2,none⟩),.pointer (some ⟨x.1.hd,0,none⟩),.func (.func 131) #[] #[.pointer (some ⟨W.heap.size,0,none⟩)],.int .i64 s.1.ty,.pointer (some ⟨s.1.dS,0,none⟩),undef,undef,undef,undef,undef,undef,undef,undef,undef,undef,undef,undef,undef],defers:=[]})
   (fun _ _ _ _ _ _ hs _ _=>hs)
   ?assign2 ?body2 ?done2 ?stop2
  case assign2=>
   rintro l2 pre' y W' K hi hK
   gi_wp2
   exact hK _ _ (KeepsFrom.refl _ _) (aJ _ _) hi rfl
  case body2=>
   rintro l2 pre' s a'' W' _ _ ⟨⟨iI,bX2⟩,La,hKF⟩ rfl aI0;obtain⟨v,ps,k1,k2,e3,z4⟩:=iI;obtain⟨va,vc,rfl⟩:=aT z4.outer;have hB3:=yY.trans La;have cX2:=(aA bX2 0).trans rfl;have mI:=HX.out.2.2.2 x.1 s.1 (n-1-1-1-1-1) W' x.2 s.2 hB3
   have RG:ps.length<=160000400000:=by
    have h1:=congrArg List.length e3;simp only [List.length_map,oJ] at h1;have:=hxd.2.1;omega
   have HQ:=Nm.aD (aV e3 (aV La (aV hKF (aV hB3 (aV HL aI0)))));have aFe:=hB3.size;clear e3 La hKF hB3 HL aI0 cX cN uO bX hr Mw Dk bA bA' kN Em VN khI Eh hxd ow yY hsW;have n3:1<=n-1-1-1-1:=by omega
   gi_wp2_with (first
    |(gi_at_call 72
      refine(CallsIn.inRound l2 (CallsIn.inRound l mI)).mono ?_;rintro e w4 ⟨u,rfl,hu,b4⟩;obtain⟨ua,uc,rfl⟩:=aT hu;have b5:=b4.alloc b4.size (.cells #[.string x.1.nm,.int .i64 s.1.ty,.int .i64 s.1.tt,.slice ua s.1.da.length uc] 42);have b6:Below W'.heap.size W' ((w4.alloc (.cells #[.string x.1.nm,.int .i64 s.1.ty,.int .i64 s.1.tt,.slice ua s.1.da.length uc] 42)).alloc (.cells #[.string x.1.nm,.int .i64 s.1.ty,.int .i64 s.1.tt,.slice ua s.1.da.length uc] 42)):=b5.alloc b5.size _;have c5:=(aA (aB k1 b5) 1).trans rfl;have z6:=(z4.below b6).outer
      have hu5:(w4.alloc (.cells #[.string x.1.nm,.int .i64 s.1.ty,.int .i64 s.1.tt,.slice ua s.1.da.length uc] 42)).ownsRow w.heap.size 9 1 (.slice ua s.1.da.length uc) (mO (x.1,s.1)).da.length ((mO (x.1,s.1)).da.map Value.string):=by
       have h9:=fM (own_below hu ((aJ _ w4).alloc (aI _) (.cells #[.string x.1.nm,.int .i64 s.1.ty,.int .i64 s.1.tt,.slice ua s.1.da.length uc] 42))) aFe;simpa [mO,List.map_map,Function.comp_def] using h9
      have xZ:∀ p∈ps,∀ g,p.2.ownBlock=some g->(Value.slice ua s.1.da.length uc).ownBlock≠some g:=fun p hp g e e'=>by
       obtain⟨i,hi⟩:=List.getElem?_of_mem hp;have h8:=((z4.inner i p hi).lt g e).2;have h9:=(hu.lt g e').1;omega
      have HU:=Nm.aD (aV hu5 xZ)
      clear hu5 xZ hu b4)
    |(gi_at_builtin
      refine wpListIn_append_own _ rfl _ _ 23 rfl w.heap.size 42 i0 (.agg #[.string ByteArray.empty,.int .i64 0,.int .i64 0,.slice none 0 0]) 4 56 Tryz.underlying23 hi iQ iH iI rfl (by decide) _ _ _ rfl z6 ⟨w4.heap.size+1,0,none⟩ 1 1 [.string x.1.nm,.int .i64 s.1.ty,.int .i64 s.1.tt,.slice ua s.1.da.length uc] rfl rfl (by have h9:=eZ (w4.alloc (.cells #[.string x.1.nm,.int .i64 s.1.ty,.int .i64 s.1.tt,.slice ua s.1.da.length uc] 42)) #[.string x.1.nm,.int .i64 s.1.ty,.int .i64 s.1.tt,.slice ua s.1.da.length uc] 42;rw [jO] at h9;exact h9) (by intro u hu;simp at hu;rcases hu with rfl|rfl|rfl|rfl<;>rfl) (by unfold maxLen;omega) (by omega) (by have:=b6.size;omega) ?_;intro v' w7 dE bU _;obtain⟨g',cap',rfl⟩:=ownsRow_succ dE;have zm:=aFd (aL:=aL) (s:=mO (x.1,s.1)) (aB k1 b5) (aB k2 b5) (z4.below b5) (by have:=aNu.out;omega) (by have:=b5.size;omega) (by have:=aNu.out;omega) HU.out.1 HU.out.2 dE bU;obtain⟨q1,q2,q3,q4,q5⟩:=zm;have c7:=aA q1
      have f7:=aF q1))
   obtain⟨e3,La,hKF,hB3,_⟩:=HQ.out;have hKb:=(jY b5).trans q3;have hBb:=(b5.mono aFe).trans q4;refine⟨hKb.from _,hBb,⟨?_,q5 _ _ _ (aB bX2 b5) (by decide) (by have:=HS.out.2.2.2;omega)⟩,La.trans hBb,hKF.trans (hKb.from _)⟩;rw [e3] at q2;rw [List.map_append,<- List.append_assoc];exact q2
  case done2=>
   rintro ys' W' rfl ⟨⟨iI,bX2⟩,La,hKF⟩;have HS2:=Nm.aD hKF.size
   gi_wp2
   refine⟨hKF,La,?_,yY.trans La,by have:=HS2.out;have:=HS.out.1;omega⟩
   have e5:eH ((pre++[x]).map (·.1))=eH (pre.map (·.1))++x.1.ss.attach.map fun s=>mO (x.1,s.1):=by
    rw [List.map_append,List.map_cons,List.map_nil,Bp];congr 1
    conv=>lhs;rw [<- List.attach_map_subtype_val x.1.ss]
    rw [List.map_map];rfl
   rw [e5];exact iI
  rintro c pre' W' _ h;exact h.elim
 case done=>
  rintro D zs W hD rfl ⟨uO,yY,oG⟩ hK;rw [List.attach_map_subtype_val] at uO;obtain⟨v,ps,k1,k2,e3,z4⟩:=uO;obtain⟨va,vc,rfl⟩:=aT z4.outer;have r1:=aA k1
  have r2:=aA k2
  have f2:=aF k2
  gi_wp2
  have hDn:D≠w.heap.size:=by omega
  have k5:=aM (aM k2 0 (.string aL)) 1 (.slice va ps.length vc);simp only [List.setIfInBounds_toArray,List.set_cons_zero,List.set_cons_succ] at k5;have hK5:((W.setCell ⟨w.heap.size,0,none⟩ (.string aL)).setCell ⟨w.heap.size,1,none⟩ (.slice va ps.length vc)).heap[D]? =some (.deferred (some [])):=(heap_setCell_other _ ⟨w.heap.size,1,none⟩ D _ hDn).trans ((heap_setCell_other _ ⟨w.heap.size,0,none⟩ D _ hDn).trans hK);have b5:=(yY.setCell (p:=⟨w.heap.size,0,none⟩) (aI _) (.string aL)).setCell (p:=⟨w.heap.size,1,none⟩) (aI _) (.slice va ps.length vc)
  have z5:=(z4.beside (oZ W w.heap.size 0 (.string aL)) (fun g e=>by cases e;exact dD z4.outer k2 (by decide)) (fun g e p hp=>by
   cases e
   obtain⟨i,hi⟩:=List.getElem?_of_mem hp
   exact dD (z4.inner i p hi) k2 (by decide)))
  have k2':=aM k2 0 (.string aL)
  have z6:=(z5.beside (oZ _ w.heap.size 1 (.slice va ps.length vc)) (fun g e=>by cases e;exact dD z5.outer k2' (by decide)) (fun g e p hp=>by
   cases e
   obtain⟨i,hi⟩:=List.getElem?_of_mem hp
   exact dD (z5.inner i p hi) k2' (by decide)))
  clear r1 r2 f2 k1 k2 k2' z4 z5 hK yY;generalize (W.setCell ⟨w.heap.size,0,none⟩ (.string aL)).setCell ⟨w.heap.size,1,none⟩ (.slice va ps.length vc)=W5 at*;refine⟨by simp,.inl ⟨_,_,rfl,run_takeDeferred hK5,?_⟩⟩;have b6:=b5.trans (belowK_b (w:=w) (aI _) W5 D _ (.deferred none) (by omega) hK5 rfl rfl);have k6:bW (W5.putObj D (.deferred none)) w.heap.size _ _:=aO k5 (grownBy_putObj' W5 D _) (fun e=>by cases e;exact hDn rfl)
  have z7:dF (W5.putObj D (.deferred none)) w.heap.size (.slice va ps.length vc) ps:=z6.beside (grownBy_putObj' W5 D _) (fun g e=>by cases e;exact qN z6.outer ⟨_,hK5,rfl⟩) (fun g e p hp=>by
   cases e
   obtain⟨i,hi⟩:=List.getElem?_of_mem hp
   exact qN (z6.inner i p hi) ⟨_,hK5,rfl⟩)
  refine⟨.agg #[.string aL,.slice va ps.length vc],?_,_,ps,rfl,e3,z7,b6⟩;have r:=aA k6
  simp [results,Tryz.results65,go_sem,Result.andThen,r]
 rintro D c pre W _ _ h _;exact h.elim
theorem aFf(bb oo th:Nat)(rv:Value)(os:List dG)(B:Nat)(aL:ByteArray)(w:World)(h:nQ w B th rv os)(hd:Yk os)(hl:os.length<=400000)(jD:mU w (jF th rv os) os)(hc:w.cell? ⟨bb,oo+1,none⟩=some (ptr th))(ha:aL.size<=1000000000):
 Calls Tryz.prog 65 #[.pointer (some ⟨bb,oo,none⟩),.string aL] w fun e W'=>∃ v ps,e=.returned (.agg #[.string aL,v])∧ps.map (·.1)=eH os∧dF W' w.heap.size v ps∧Below w.heap.size w W':=
 (callsIn_wide (n:=9)).1 (aIz Fence.wide 9 trivial trivial trivial trivial trivial trivial trivial rfl (by omega) bb oo th rv os B aL w h hd hl jD hc
  (fun m W=>callsIn_wide.2 (xG aL W ha))
  (fun o s m W ho hs hW=>callsIn_wide.2 (wX o s B W ((h.jG o ho).below hW) (by have:=(hd.2 o ho).2.1;omega) (hd.2 o ho).1 hs (by have:=((hd.2 o ho).2.2 s hs).2;omega))))
end
section
open Go.RowKit Go.Shelf
attribute [local go_sem] Oper.semAt_some
theorem aI1:(Tryz.prog.info? 103).map (fun i=>(i.zero,i.size,i.bytes))=some (some (.pointer none),1,8):=by kernel_rfl
def tailV:Option dG->Value
 |none=>.slice none 0 0
 |some q=>.slice (KR q.lv) (KS q.lv) (KT q.lv)
theorem aFg:∀ (pre:List dG) (q:dG),(jA pre).1=some q->q∈pre:=by
 refine vP ?_ ?_
 ·intro q h;simp [jA] at h
 intro l o ih q h;rw [CO,qU] at h
 cases ht:(jA l).1 with
 |none=>
  rw [ht] at h;simp only at h
  split at h
  ·simp at h;simp [h]
  simp at h
 |some t=>
  rw [ht] at h;have:=ih t ht;simp only at h
  split at h
  ·simp at h;rw [<- h];simp [this]
  split at h
  ·simp at h;simp [h]
  simp at h;rw [<- h];simp [this]
theorem aFh:∀ (pre:List dG),(jA pre).2.length<=pre.length:=by
 refine vP ?_ ?_
 ·simp [jA]
 intro l o ih;rw [CO,qU,oJ,List.length_singleton]
 cases (jA l).1 with
 |none=>
  simp only
  split
  ·simp;omega
  simp;omega
 |some t=>
  simp only
  split
  ·simp;omega
  split
  ·simp;omega
  simp;omega
theorem Ff(F:Fence)(n:Nat)(h1:F.fn 145)(h2:F.fn 53)(h3:F.fn 67)(h4:F.fn 111)(h5:F.fn 95)(sJ:F.round=none)(hn:6<=n)
 (bb oo th:Nat) (rv:Value) (os:List dG) (B:Nat) (w:World) (h:nQ w B th rv os) (hl:os.length<=400000) (jD:mU w (jF th rv os) os) (hc:w.cell? ⟨bb,oo+1,none⟩=some (ptr th))
 (XA:∀ (o q:dG) (m:Nat) (W:World),o∈os->q∈os->Below w.heap.size w W->CallsIn F m Tryz.prog 53 #[.slice (KR o.lv) (KS o.lv) (KT o.lv),.slice (KR q.lv) (KS q.lv) (KT q.lv)] W fun e w'=>e=.returned (.bool (aQ o.lab q.lab))∧Below W.heap.size W w')
 (Zh:∀ (o:dG) (m:Nat) (W:World),o∈os->Below w.heap.size w W->CallsIn F m Tryz.prog 95 #[.pointer (some ⟨o.dS,0,none⟩),.int .i64 39] W fun e w'=>e=.returned (.bool (wL o))∧Below W.heap.size W w'):
 CallsIn F n Tryz.prog 145 #[.pointer (some ⟨bb,oo,none⟩)] w fun e W'=>∃ v,e=.returned v∧W'.ownsRow w.heap.size 103 1 v (jA os).2.length ((jA os).2.map fun o=>ptr o.dS)∧Below w.heap.size w W':=by
 have n1:1<=n:=by omega
 obtain⟨i0,hi,iQ,iH,iI⟩:=info_parts aI1;have MR:th<w.heap.size:=cO h.head;have zH:bb<w.heap.size:=fD w _ hc;unfold ptr at hc;have HX:=Nm.aD (aV h (aV jD (aV XA Zh)));clear h jD XA Zh;have c3:(((w.alloc (.cells #[.slice none 0 0] 207)).alloc (.cells #[.slice none 0 0] 63)).alloc (.cells #[.bool false] 4)).cell? ⟨bb,oo+1,none⟩=some (.pointer (some ⟨th,0,none⟩)):=((((aJ w.heap.size w).alloc (aI _) _).alloc (by simp) _).alloc (by simp;omega) _).cell (p:=⟨bb,oo+1,none⟩) zH|>.trans hc
 refine callsIn_of_wp_marks Tryz.func145 rfl h1 ?_ sJ;simp only [Tryz.ntmps145,List.size_toArray,List.length_cons,List.length_nil,Nat.reduceAdd,Nat.reduceSub,Array.replicate_succ,Array.replicate_zero,List.push_toArray,List.append_toArray,List.nil_append,List.cons_append]
 gi_wp2_with (gi_at_call 67;refine(Kb F (n-1) h3 sJ _ _).mono ?_;rintro e w' ⟨rfl,rfl⟩)
 have bO:=((Boxed.new w 207 (.slice none 0 0)).alloc (.cells #[.slice none 0 0] 63)).alloc (.cells #[.bool false] 4);have bT:=(Boxed.new (w.alloc (.cells #[.slice none 0 0] 207)) 63 (.slice none 0 0)).alloc (.cells #[.bool false] 4);have bF:=Boxed.new ((w.alloc (.cells #[.slice none 0 0] 207)).alloc (.cells #[.slice none 0 0] 63)) 4 (.bool false);have bI:=Boxed.new (((w.alloc (.cells #[.slice none 0 0] 207)).alloc (.cells #[.slice none 0 0] 63)).alloc (.cells #[.bool false] 4)) 100 (.pointer (some ⟨th,0,none⟩));have bO:=bO.alloc (.cells #[.pointer (some ⟨th,0,none⟩)] 100);have bT:=bT.alloc (.cells #[.pointer (some ⟨th,0,none⟩)] 100);have bF:=bF.alloc (.cells #[.pointer (some ⟨th,0,none⟩)] 100);simp only [jO] at bT bF bI;have b3:Below w.heap.size w ((((w.alloc (.cells #[.slice none 0 0] 207)).alloc (.cells #[.slice none 0 0] 63)).alloc (.cells #[.bool false] 4)).alloc (.cells #[.pointer (some ⟨th,0,none⟩)] 100)):=((((aJ w.heap.size w).alloc (aI _) _).alloc (by simp) _).alloc (by simp;omega) _).alloc (by simp;omega) _;have qA:((((w.alloc (.cells #[.slice none 0 0] 207)).alloc (.cells #[.slice none 0 0] 63)).alloc (.cells #[.bool false] 4)).alloc (.cells #[.pointer (some ⟨th,0,none⟩)] 100)).heap.size=w.heap.size+4:=by simp
 obtain⟨W0,FH⟩:∃ W0,(((w.alloc (.cells #[.slice none 0 0] 207)).alloc (.cells #[.slice none 0 0] 63)).alloc (.cells #[.bool false] 4)).alloc (.cells #[.pointer (some ⟨th,0,none⟩)] 100)=W0:=⟨_,rfl⟩;rw [FH] at bO bT bF bI b3 qA ⊢;clear FH c3;have hza:os.attach.length=os.length:=List.length_attach
 have KO:Qp (fun x:{o:dG // o∈os}=>KR x.1.lv) (fun x=>KS x.1.lv) (fun x=>KT x.1.lv) (fun x=>⟨x.1.dS,0,none⟩) w.heap.size w rv os.attach:=by
  refine Ag _ _ _ _ (B:=B) (e:=165) _ ?_;have hr:=HX.out.1.rows
  have e1:(os.attach.map fun x:{o:dG // o∈os}=>((Value.slice (KR x.1.lv) (KS x.1.lv) (KT x.1.lv)),(Value.pointer (some (⟨x.1.dS,0,none⟩:Addr)))))=jS os:=by
   rw [jS]
   conv=>rhs;rw [<- List.attach_map_subtype_val os]
   rw [List.map_map];refine List.map_congr_left fun x _=>?_;simp only [Function.comp,ptr];rw [<- Rx (HX.out.2.1 x.1 x.2).row]
  rw [e1];rw [show(jS os).length=os.attach.length by simp [jS]] at hr;exact hr
 have kh3:W0.cell? ⟨th,1,none⟩=some rv:=(b3.cell (p:=⟨th,1,none⟩) MR).trans ((aA HX.out.1.head 1).trans rfl)
 refine wpIn_rangeFunc_ownG sJ n1 (gf:=111) (lb:=#[.pointer (some ⟨w.heap.size+1+1+1,0,none⟩)]) rfl h4 (enters_of Tryz.func111 (by kernel_rfl) rfl)
  (TB (fun x:{o:dG // o∈os}=>KR x.1.lv) (fun x=>KS x.1.lv) (fun x=>KT x.1.lv) (fun x=>⟨x.1.dS,0,none⟩) F (n-1) h4 sJ (by omega) (w.heap.size+1+1+1) th w.heap.size rv os.attach (by omega) W0 (by omega) MR (by omega) bI.cell kh3 (KO.below b3)) belowK_t (belowK_b (by omega)) (aJ _ _) (fun _=>rfl)
  (fun pre W=>((∃ v,Boxed W w.heap.size 207 v∧W.ownsRow w.heap.size 103 1 v (jA (pre.map (·.1))).2.length ((jA (pre.map (·.1))).2.map fun o=>ptr o.dS)∧True)∧(Boxed W (w.heap.size+1) 63 (tailV (jA (pre.map (·.1))).1)∧Boxed W (w.heap.size+1+1) 4 (.bool (jA (pre.map (·.1))).1.isSome)))∧Below w.heap.size w W)
  (fun _ _ _=>False)
  (OwnFrom.and (OwnFrom.and (Own.from (holdsRow_own w.heap.size w.heap.size 207 103 1 (fun pre:List {o:dG // o∈os}=>(jA (pre.map (·.1))).2.length) (fun pre=>(jA (pre.map (·.1))).2.map fun o=>ptr o.dS) (fun pre v=>True)) _) (OwnFrom.and (Own.from (boxed_own _ _ (fun pre:List {o:dG // o∈os}=>tailV (jA (pre.map (·.1))).1)) _) (Own.from (boxed_own _ _ (fun pre:List {o:dG // o∈os}=>Value.bool (jA (pre.map (·.1))).1.isSome)) _))) (ownFrom_below (aI _) (by omega)))
  (fun _ _ _ _ _ hs _ _=>hs)
  ⟨⟨⟨_,bO,World.ownsRow_nil _ _ _ _,trivial⟩,bT,bF⟩,b3⟩
  (fun x=>{tmps:=#[.pointer (some ⟨bb,oo,none⟩),undef,.slice none 0 0,.pointer (some ⟨w.heap.size,0,none⟩),.pointer (some ⟨w.heap.size+1,0,none⟩),.pointer (some ⟨w.heap.size+1+1,0,none⟩),.slice (KR x.1.lv) (KS x.1.lv) (KT x.1.lv),.pointer (some ⟨x.1.dS,0,none⟩),.pointer (some ⟨bb,oo,none⟩),.pointer (some ⟨bb,oo,none⟩),.pointer (some ⟨bb,oo+1,none⟩),.pointer (some ⟨th,0,none⟩),.func (.func 111) #[] #[.pointer (some ⟨w.heap.size+1+1+1,0,none⟩)],.slice (KR x.1.lv) (KS x.1.lv) (KT x.1.lv),.pointer (some ⟨x.1.dS,0,none⟩),undef,undef,undef,undef,undef,undef,undef,undef,undef,undef,undef,undef,undef,undef,undef,undef],defers:=[]}) ?assign ?body ?done ?stop
 case assign=>
  intro l x W K hK
  gi_wp2
  exact hK
 case body=>
  rintro l pre x W ⟨⟨⟨v,hv,dI,-⟩,hT,hF⟩,hB⟩ bY;have eS:jA ((pre++[x]).map (·.1))=qU (jA (pre.map (·.1))) x.1:=by rw [List.map_append,List.map_cons,List.map_nil,CO]
  have Zi:=aFh (pre.map (·.1));rw [List.length_map] at Zi
  have BS:∀ q,(jA (pre.map (·.1))).1=some q->q∈os:=fun q hq=>by
   obtain⟨y,_,rfl⟩:=kJ (aFg _ q hq);exact y.2
  have n2:1<=n-1-1:=by omega
  have HE:=Nm.aD eS;clear eS;generalize jA (pre.map (·.1))=ST at dI hT hF Zi BS HE;obtain⟨t,out⟩:=ST;simp only at dI hT hF Zi BS
  have HLN:=Nm.aD (aV Zi bY);clear Zi;have cF:=hF.cell
  cases t with
  |none=>
   simp only [tailV,Option.isSome_none] at hT hF cF;clear BS
   cases Ry:wL x.1 with
   |true=>
    have hh:=HX.out.2.2.2 x.1 (n-1-1-1) W x.2 hB;rw [Ry] at hh;have e9:jA ((pre++[x]).map (·.1))=(some x.1,out):=by rw [HE.out];simp [qU,Ry]
    have HE9:=Nm.aD e9;clear Ry e9 HE
    gi_wp2_with (
     gi_at_call 95
     refine(CallsIn.inRound l hh).mono ?_;rintro e w2 ⟨rfl,b2⟩;have OH:Boxed w2 _ _ _:=aB hT b2;have hF2:Boxed w2 _ _ _:=aB hF b2;have ES:Boxed w2 _ _ _:=aB hv b2;have tJ:=own_below dI b2;have cT2:=OH.cell;have fT2:=OH.frozen;have cF2:=hF2.cell
     have fF2:=hF2.frozen)
    have k2:=(jY b2).trans ((KeepsOthers.setCell w2 ⟨w.heap.size+1,0,none⟩ (.slice (KR x.1.lv) (KS x.1.lv) (KT x.1.lv))).trans (KeepsOthers.setCell _ ⟨w.heap.size+1+1,0,none⟩ (.bool true)));have bb2:=((b2.mono hB.size).setCell (p:=⟨w.heap.size+1,0,none⟩) (by simp) (.slice (KR x.1.lv) (KS x.1.lv) (KT x.1.lv))).setCell (p:=⟨w.heap.size+1+1,0,none⟩) (by simp;omega) (.bool true);refine⟨k2.from _,bb2,?_,hB.trans bb2⟩;rw [HE9.out];have o2:=dY (i:=0) (y:=.slice (KR x.1.lv) (KS x.1.lv) (KT x.1.lv)) tJ (dD tJ OH (by decide));have hF3:=hF2.other (show w.heap.size+1+1≠w.heap.size+1 by omega) (.slice (KR x.1.lv) (KS x.1.lv) (KT x.1.lv));have hv3:=ES.other (show w.heap.size≠w.heap.size+1 by omega) (.slice (KR x.1.lv) (KS x.1.lv) (KT x.1.lv));have hT3:=OH.set (.slice (KR x.1.lv) (KS x.1.lv) (KT x.1.lv))
    exact⟨⟨_,hv3.other (by omega) _,dY o2 (dD o2 hF3 (by decide)),trivial⟩,hT3.other (by omega) _,hF3.set _⟩
   |false=>
    have hh:=HX.out.2.2.2 x.1 (n-1-1-1) W x.2 hB;rw [Ry] at hh;have e9:jA ((pre++[x]).map (·.1))=(none,out):=by rw [HE.out];simp [qU,Ry]
    have HE9:=Nm.aD e9;clear Ry e9 HE
    gi_wp2_with (
     gi_at_call 95
     refine(CallsIn.inRound l hh).mono ?_;rintro e w2 ⟨rfl,b2⟩;have OH:Boxed w2 _ _ _:=aB hT b2;have hF2:Boxed w2 _ _ _:=aB hF b2;have ES:Boxed w2 _ _ _:=aB hv b2
     have tJ:=own_below dI b2)
    refine⟨(jY b2).from _,b2.mono hB.size,?_,hB.trans (b2.mono hB.size)⟩;rw [HE9.out]
    exact⟨⟨_,ES,tJ,trivial⟩,OH,hF2⟩
  |some q=>
   simp only [tailV,Option.isSome_some] at hT hF cF;have hq:=BS q rfl;clear BS;have cT:=hT.cell
   cases hu:aQ x.1.lab q.lab with
   |true=>
    have hh:=HX.out.2.2.1 x.1 q (n-1-1-1) W x.2 hq hB;rw [hu] at hh;have e9:jA ((pre++[x]).map (·.1))=(some q,out++[x.1]):=by rw [HE.out];simp [qU,hu]
    have HE9:=Nm.aD e9;clear hu e9 HE
    gi_wp2_with (first
     |(gi_at_call 53
       refine(CallsIn.inRound l hh).mono ?_;rintro e w2 ⟨rfl,b2⟩;have OH:Boxed w2 _ _ _:=aB hT b2;have hF2:Boxed w2 _ _ _:=aB hF b2;have ES:Boxed w2 _ _ _:=aB hv b2;have tJ:=own_below dI b2;have oU:=b2.size
       have cv2:=ES.cell)
     |(gi_at_builtin
       refine wpListIn_append_own _ rfl _ _ 207 rfl w.heap.size 103 i0 (.pointer none) 1 8 Tryz.underlying207 hi iQ iH iI rfl (by decide) _ _ _ rfl (tJ.alloc _) ⟨w2.heap.size,0,none⟩ 1 1 [.pointer (some ⟨x.1.dS,0,none⟩)] rfl rfl (cell_one_new _ _ _) (by simp [Value.oneCell']) (by unfold maxLen;have:=HLN.out;omega) (by have:=HLN.out;omega) (by have:=hB.size;simp;omega) ?_;intro v' w3 dE bU _;obtain⟨g',cap',rfl⟩:=ownsRow_succ dE;have xZ:=ES.appended (by decide) tJ (by have:=hB.size;omega) (aI _) dE bU;obtain⟨q1,q2,q3,q4,q5⟩:=xZ;have cv3:=q1.cell
       have fv3:=q1.frozen))
    have hra:(w2.alloc (.cells #[.pointer (some ⟨x.1.dS,0,none⟩)] 103)).ownsRow w.heap.size 103 1 v out.length (out.map fun o=>ptr o.dS):=tJ.alloc _;have aNv:bW (w2.alloc (.cells #[.pointer (some ⟨x.1.dS,0,none⟩)] 103)) (w.heap.size+1) #[.slice (KR q.lv) (KS q.lv) (KT q.lv)] 63:=bD OH _;have aNw:bW (w2.alloc (.cells #[.pointer (some ⟨x.1.dS,0,none⟩)] 103)) (w.heap.size+1+1) #[.bool true] 4:=bD hF2 _;have hT3:Boxed w3 (w.heap.size+1) 63 (.slice (KR q.lv) (KS q.lv) (KT q.lv)):=aO aNv bU (dD hra aNv (by decide));have hF3:Boxed w3 (w.heap.size+1+1) 4 (.bool true):=aO aNw bU (dD hra aNw (by decide));have kk:=(jY b2).trans q4;have bk:=(b2.mono hB.size).trans q5;refine⟨kk.from _,bk,?_,hB.trans bk⟩;rw [HE9.out]
    exact⟨⟨_,q2,by simpa [ptr] using q3,trivial⟩,hT3.other (by omega) _,hF3.other (by omega) _⟩
   |false=>
    have hh:=HX.out.2.2.1 x.1 q (n-1-1-1) W x.2 hq hB;rw [hu] at hh;have hg:=fun W' (hW:Below w.heap.size w W')=>HX.out.2.2.2 x.1 (n-1-1-1) W' x.2 hW
    cases Ry:wL x.1 with
    |true=>
     rw [Ry] at hg;have e9:jA ((pre++[x]).map (·.1))=(some x.1,out):=by rw [HE.out];simp [qU,hu,Ry]
     have HE9:=Nm.aD e9;clear hu Ry e9 HE
     gi_wp2_with (first
      |(gi_at_call 53
        refine(CallsIn.inRound l hh).mono ?_
        rintro e w1 ⟨rfl,b1⟩)
      |(gi_at_call 95
        refine(CallsIn.inRound l (hg _ (hB.trans (b1.mono hB.size)))).mono ?_;rintro e w2 ⟨rfl,L_⟩;have b2:=Nm.aC b1 L_;have OH:Boxed w2 _ _ _:=aB hT b2;have hF2:Boxed w2 _ _ _:=aB hF b2;have ES:Boxed w2 _ _ _:=aB hv b2;have tJ:=own_below dI b2;have cT2:=OH.cell;have fT2:=OH.frozen;have cF2:=hF2.cell
        have fF2:=hF2.frozen))
     have k2:=(jY b2).trans ((KeepsOthers.setCell w2 ⟨w.heap.size+1,0,none⟩ (.slice (KR x.1.lv) (KS x.1.lv) (KT x.1.lv))).trans (KeepsOthers.setCell _ ⟨w.heap.size+1+1,0,none⟩ (.bool true)));have bb2:=((b2.mono hB.size).setCell (p:=⟨w.heap.size+1,0,none⟩) (by simp) (.slice (KR x.1.lv) (KS x.1.lv) (KT x.1.lv))).setCell (p:=⟨w.heap.size+1+1,0,none⟩) (by simp;omega) (.bool true);refine⟨k2.from _,bb2,?_,hB.trans bb2⟩;rw [HE9.out];have o2:=dY (i:=0) (y:=.slice (KR x.1.lv) (KS x.1.lv) (KT x.1.lv)) tJ (dD tJ OH (by decide));have hF3:=hF2.other (show w.heap.size+1+1≠w.heap.size+1 by omega) (.slice (KR x.1.lv) (KS x.1.lv) (KT x.1.lv));have hv3:=ES.other (show w.heap.size≠w.heap.size+1 by omega) (.slice (KR x.1.lv) (KS x.1.lv) (KT x.1.lv));have hT3:=OH.set (.slice (KR x.1.lv) (KS x.1.lv) (KT x.1.lv))
     exact⟨⟨_,hv3.other (by omega) _,dY o2 (dD o2 hF3 (by decide)),trivial⟩,hT3.other (by omega) _,hF3.set _⟩
    |false=>
     rw [Ry] at hg;have e9:jA ((pre++[x]).map (·.1))=(some q,out):=by rw [HE.out];simp [qU,hu,Ry]
     have HE9:=Nm.aD e9;clear hu Ry e9 HE
     gi_wp2_with (first
      |(gi_at_call 53
        refine(CallsIn.inRound l hh).mono ?_
        rintro e w1 ⟨rfl,b1⟩)
      |(gi_at_call 95
        refine(CallsIn.inRound l (hg _ (hB.trans (b1.mono hB.size)))).mono ?_;rintro e w2 ⟨rfl,L_⟩;have b2:=Nm.aC b1 L_;have OH:Boxed w2 _ _ _:=aB hT b2;have hF2:Boxed w2 _ _ _:=aB hF b2;have ES:Boxed w2 _ _ _:=aB hv b2
        have tJ:=own_below dI b2))
     refine⟨(jY b2).from _,b2.mono hB.size,?_,hB.trans (b2.mono hB.size)⟩;rw [HE9.out];exact⟨⟨_,ES,tJ,trivial⟩,OH,hF2⟩
 case done=>
  rintro D ys W hD rfl ⟨⟨⟨v,hv,dI,-⟩,hT,hF⟩,hB⟩ hK;rw [List.attach_map_subtype_val] at dI;have hc:=hv.cell
  gi_wp2
  refine⟨by simp,.inl ⟨_,_,rfl,run_takeDeferred hK,?_⟩⟩;exact⟨_,results_tmp rfl _ _ _,v,rfl,ownsRow_putObj dI _ hK rfl,hB.trans (belowK_b (w:=w) (aI _) W D _ _ (by omega) hK rfl rfl)⟩
 rintro D c pre W _ _ h _;exact h.elim
theorem Bq(bb oo th:Nat)(rv:Value)(os:List dG)(B:Nat)(w:World)(h:nQ w B th rv os)(hd:Yk os)(hl:os.length<=400000)(jD:mU w (jF th rv os) os)(hc:w.cell? ⟨bb,oo+1,none⟩=some (ptr th)):
 Calls Tryz.prog 145 #[.pointer (some ⟨bb,oo,none⟩)] w fun e W'=>∃ v,e=.returned v∧W'.ownsRow w.heap.size 103 1 v (jA os).2.length ((jA os).2.map fun o=>ptr o.dS)∧Below w.heap.size w W':=
 (callsIn_wide (n:=6)).1 (Ff Fence.wide 6 trivial trivial trivial trivial trivial rfl (by omega) bb oo th rv os B w h hl jD hc
  (fun o q m W ho hq hW=>callsIn_wide.2 (by
   have lo:=jD o ho;have lq:=jD q hq;have hu:=xL o.lv q.lv o.lab q.lab W (lo.row.below hW) (lq.row.below hW) lo.fit.1 lo.fit.2 lq.fit.2;rw [Rx lo.row,Rx lq.row] at hu;refine hu.mono ?_;rintro e w' ⟨rfl,m',rfl⟩
   exact⟨rfl,Go.below_drewN (aJ _ _) _⟩))
  (fun o m W ho hW=>callsIn_wide.2 (wW o B 39 W ((h.jG o ho).below hW) (by have:=(hd.2 o ho).2.1;omega) (hd.2 o ho).1)))
end
section
open Go.RowKit
def recC(r:Rr)(xs ys:List ByteArray):Int:=
 if r.cl≠1 then 19 else if(decide (0<=r.tt)&&decide (r.tt<=2147483647))=false then 18
 else if(decide (0<=r.ty)&&decide (r.ty<=65535))=false then 6 else if oW r.ty=true then 6 else if fH r.ty r.da≠0 then 7 else if aQ xs ys=false then 22 else 0
theorem WO(r:Rr)(bb:Nat)(v u:Value)(xs ys:List ByteArray)(w:World)(hd:r.da.size<=2000000)(hv:Nm.bP w v xs)(hu:Nm.bP w u ys)(hk:w.cell? ⟨bb,3,none⟩=some u)(Pf:∀ x∈xs,x.size<=1000000000)(hlx:xs.length<=1000000000)(hly:ys.length<=1000000000):
 Calls Tryz.prog 136 #[.pointer (some ⟨bb,0,none⟩),.agg #[.string r.own,.int .i64 r.ty,.int .i64 r.cl,.int .i64 r.tt,.string r.da],v] w fun e w'=>e=.returned (.int .i64 (recC r xs ys))∧Below w.heap.size w w':=by
 have iY:=(aJ w.heap.size w).alloc (aI _) (.cells #[.string r.own,.int .i64 r.ty,.int .i64 r.cl,.int .i64 r.tt,.string r.da] 133);have KO:=RB.new w r 133;have h1:=fun W=>NH r.tt 2147483647 W
 have h2:=fun W=>NH r.ty 65535 W
 have h3:=fun W=>Yo r.ty W
 have h4:=fun W=>QA r.ty r.da W hd
 have h5:=fun W (hW:Below w.heap.size w W)=>xL v u xs ys W (hv.below hW) (hu.below hW) Pf hlx hly
 have hkk:=fun W (hW:Below w.heap.size w W)=>(hW.cell (p:=⟨bb,3,none⟩) (fD w _ hk)).trans hk
 have ev:=hv;obtain⟨va,vc,rfl,_⟩:=ev;have eu:=hu;obtain⟨ua,uc,rfl,_⟩:=eu;obtain⟨Q,hQ⟩:∃ Q,Q=recC r xs ys:=⟨_,rfl⟩;rw [<- hQ];unfold recC at hQ;generalize fH r.ty r.da=CC at*;generalize aQ xs ys=UB at*;generalize (decide (0<=r.tt)&&decide (r.tt<=2147483647))=TT at*;generalize (decide (0<=r.ty)&&decide (r.ty<=65535))=TY at*;have hmb:∀ b,oW r.ty=b->True:=fun _ _=>trivial
 generalize oW r.ty=MB at*;clear hmb hv hu hk;obtain⟨o,ty,cl,tt,da⟩:=r;simp only [RB] at*;obtain⟨c0,c1,c2,c3,c4⟩:=KO
 by_cases sI:cl=1
 ·rw [if_neg (by simpa using sI)] at hQ;subst sI;have ncl:((1:Int) != 1)=false:=rfl;cases TT
  ·simp only [if_true] at hQ;subst hQ;clear h2 h3 h4 h5 hkk;go_enter Tryz.func136,Tryz.ntmps136;go_wp2_with fail
   refine(h1 _).mono ?_;rintro e w1 ⟨rfl,rfl⟩;go_wp2;go_ret;exact⟨rfl,iY⟩
  simp only [Bool.true_eq_false,if_false] at hQ;cases TY
  ·simp only [if_true] at hQ;subst hQ;clear h3 h4 h5 hkk;go_enter Tryz.func136,Tryz.ntmps136;go_wp2_with fail
   refine(h1 _).mono ?_;rintro e w1 ⟨rfl,rfl⟩;go_wp2_with fail
   refine(h2 _).mono ?_;rintro e w1 ⟨rfl,rfl⟩;go_wp2;go_ret;exact⟨rfl,iY⟩
  simp only [Bool.true_eq_false,if_false] at hQ
  cases MB with
  |true=>
   simp only [if_true] at hQ;subst hQ;clear h4 h5 hkk;go_enter Tryz.func136,Tryz.ntmps136;go_wp2_with fail
   refine(h1 _).mono ?_;rintro e w1 ⟨rfl,rfl⟩;go_wp2_with fail
   refine(h2 _).mono ?_;rintro e w1 ⟨rfl,rfl⟩;go_wp2_with fail
   refine(h3 _).mono ?_;rintro e w1 ⟨rfl,rfl⟩;go_wp2;go_ret
   exact⟨rfl,iY⟩
  |false=>
   simp only [Bool.false_eq_true,if_false] at hQ
   by_cases Pd:CC=0
   ·rw [if_neg (by simpa using Pd)] at hQ;subst Pd;have HQ:=Nm.aD hQ;clear hQ;go_enter Tryz.func136,Tryz.ntmps136;go_wp2_with fail
    refine(h1 _).mono ?_;rintro e w1 ⟨rfl,rfl⟩;go_wp2_with fail
    refine(h2 _).mono ?_;rintro e w1 ⟨rfl,rfl⟩;go_wp2_with fail
    refine(h3 _).mono ?_;rintro e w1 ⟨rfl,rfl⟩;go_wp2_with fail
    refine(h4 _).mono ?_;rintro e w2 ⟨rfl,b2⟩;have jW:=Nm.aC iY b2;have k2:=hkk w2 jW;clear hkk;go_wp2_with fail
    refine(h5 _ jW).mono ?_;rintro e w3 ⟨rfl,m,rfl⟩
    cases UB with
    |true=>
     go_wp2;go_ret
     exact⟨by rw [HQ.out];rfl,Go.below_drewN jW _⟩
    |false=>
     go_wp2;go_ret;exact⟨by rw [HQ.out];rfl,Go.below_drewN jW _⟩
   rw [if_pos (by simpa using Pd)] at hQ;subst hQ;have ncc:(CC != 0)=true:=by simpa using Pd
   clear h5 hkk;go_enter Tryz.func136,Tryz.ntmps136;go_wp2_with fail
   refine(h1 _).mono ?_;rintro e w1 ⟨rfl,rfl⟩;go_wp2_with fail
   refine(h2 _).mono ?_;rintro e w1 ⟨rfl,rfl⟩;go_wp2_with fail
   refine(h3 _).mono ?_;rintro e w1 ⟨rfl,rfl⟩;go_wp2_with fail
   refine(h4 _).mono ?_;rintro e w2 ⟨rfl,b2⟩;go_wp2;go_ret;exact⟨rfl,Nm.aC iY b2⟩
 rw [if_pos (by simpa using sI)] at hQ;subst hQ;have ncl:(cl != 1)=true:=by simpa using sI
 clear h1 h2 h3 h4 h5 hkk;go_enter Tryz.func136,Tryz.ntmps136;go_wp2;go_ret;exact⟨rfl,iY⟩
theorem Fg(bb:Nat)(code:Int)(v:Value)(ls:List Ld)(f:Ld->Bool)(w:World)(hk:w.cell? ⟨bb,5,none⟩=some v)(h:dZ w v ls.length 4 (CF ls))(hl:ls.length<=1000000)
 (hf:∀ x∈ls,∀ W,Below w.heap.size w W->Calls Tryz.prog 141 #[.agg #[.int .i64 (x.at_:Int),.int .i64 x.ty,.pointer (some ⟨x.ob,0,none⟩),.pointer (some ⟨x.sb,0,none⟩)]] W fun e w'=>e=.returned (.bool (f x))∧Below W.heap.size W w'):
 Calls Tryz.prog 138 #[.pointer (some ⟨bb,0,none⟩),.int .i64 code,.func (.func 141) #[] #[]] w fun e w'=>e=.returned (CG f code ls)∧Below w.heap.size w w':=by
 obtain⟨_,a,cap,rfl,gT,kV,hc⟩:=h;unfold maxLen at kV;have HF:=Nm.aD hf;clear hf;go_enter Tryz.func138,Tryz.ntmps138;go_wp2
 go_loopw [15] (fun i wr=>∃ k:Nat,k<=ls.length∧i=.int .i64 k∧(∀ j x,j<k->ls[j]? =some x->f x=false)∧Below w.heap.size w wr) (fun i _=>ls.length-(intOf i).toNat)
 ·exact⟨0,dR _,rfl,fun j x hj=>absurd hj (Nat.not_lt_zero _),aJ _ _⟩
 obtain⟨k,vT,rfl,gI,aG⟩:=hrel;have HR:=Nm.aD (aV gI aG)
 by_cases bY:k<ls.length
 ·obtain⟨x,hx⟩:=gQ bY;obtain⟨b,off,rfl,aH⟩:=hc (by omega);have put:∀ {O:Nat} {z:Value},w.cell? ⟨b,O,none⟩=some z->wr.cell? ⟨b,O,none⟩=some z:=fun h=>(aG.cell (fD w _ h)).trans h
  have d0:=put (aH (k*4) _ (sD ls k 0 x hx (by decide)));have d1:=put (aH (k*4+1) _ (sD ls k 1 x hx (by decide)));have d2:=put (aH (k*4+2) _ (sD ls k 2 x hx (by decide)));have d3:=put (aH (k*4+3) _ (sD ls k 3 x hx (by decide)));simp only [<- Nat.add_assoc] at d1 d2 d3;have Br:=HF.out x (dA hx) (wr.alloc (.cells #[.int .i64 (x.at_:Int),.int .i64 x.ty,.pointer (some ⟨x.ob,0,none⟩),.pointer (some ⟨x.sb,0,none⟩)] 201)) (aG.alloc aG.size _);have kb:=aK wr #[.int .i64 (x.at_:Int),.int .i64 x.ty,.pointer (some ⟨x.ob,0,none⟩),.pointer (some ⟨x.sb,0,none⟩)] 201;have fJ:=aG.alloc aG.size (.cells #[.int .i64 (x.at_:Int),.int .i64 x.ty,.pointer (some ⟨x.ob,0,none⟩),.pointer (some ⟨x.sb,0,none⟩)] 201);have HX:=Nm.aD hx;have i1:=fE k
  have i2:(k:Int)<(ls.length:Int):=by omega
  clear hc aH hx gI aG put hk;simp only [jO] at Br;go_wp2_with fail
  refine Br.mono ?_;rintro e w2 ⟨rfl,b2⟩;have kb2:=aB kb (by simpa using b2);have rb2:=aA kb2
  have VN:=Nm.aC fJ (by simpa using b2);clear Br d0 d1 d2 d3
  cases XZ:f x with
  |true=>
   have HV:=Nm.aD XZ;clear XZ;go_wp2;go_region
   all_goals go_wp2
   all_goals go_ret2
   all_goals exact⟨by rw [Az HR.out.1 HX.out HV.out];rfl,VN.drew⟩
  |false=>
   have HV:=Nm.aD XZ;clear XZ;go_wp2;go_roundw
   case rel=>
    refine⟨k+1,by omega,by go_num,fun j y hj hy=>?_,VN⟩
    rcases Nat.lt_succ_iff_lt_or_eq.1 hj with h1|rfl
    ·exact HR.out.1 j y h1 hy
    rw [HX.out] at hy;cases hy;exact HV.out
   simp [intOf];omega
 have FE:k=ls.length:=by omega
 subst FE;clear hc gI aG;go_wp2;go_ret2;exact⟨by rw [Ay HR.out.1];rfl,HR.out.2⟩
theorem WP(bb:Nat)(code:Int)(v:Value)(ls:List Ld)(f:Ld->Bool)(w:World)(hk:w.cell? ⟨bb,5,none⟩=some v)(h:dZ w v ls.length 4 (CF ls))(hl:ls.length<=1000000)
 (hf:∀ x∈ls,∀ W,Below w.heap.size w W->Calls Tryz.prog 143 #[.agg #[.int .i64 (x.at_:Int),.int .i64 x.ty,.pointer (some ⟨x.ob,0,none⟩),.pointer (some ⟨x.sb,0,none⟩)]] W fun e w'=>e=.returned (.bool (f x))∧Below W.heap.size W w'):
 Calls Tryz.prog 138 #[.pointer (some ⟨bb,0,none⟩),.int .i64 code,.func (.func 143) #[] #[]] w fun e w'=>e=.returned (CG f code ls)∧Below w.heap.size w w':=by
 obtain⟨_,a,cap,rfl,gT,kV,hc⟩:=h;unfold maxLen at kV;have HF:=Nm.aD hf;clear hf;go_enter Tryz.func138,Tryz.ntmps138;go_wp2
 go_loopw [15] (fun i wr=>∃ k:Nat,k<=ls.length∧i=.int .i64 k∧(∀ j x,j<k->ls[j]? =some x->f x=false)∧Below w.heap.size w wr) (fun i _=>ls.length-(intOf i).toNat)
 ·exact⟨0,dR _,rfl,fun j x hj=>absurd hj (Nat.not_lt_zero _),aJ _ _⟩
 obtain⟨k,vT,rfl,gI,aG⟩:=hrel;have HR:=Nm.aD (aV gI aG)
 by_cases bY:k<ls.length
 ·obtain⟨x,hx⟩:=gQ bY;obtain⟨b,off,rfl,aH⟩:=hc (by omega);have put:∀ {O:Nat} {z:Value},w.cell? ⟨b,O,none⟩=some z->wr.cell? ⟨b,O,none⟩=some z:=fun h=>(aG.cell (fD w _ h)).trans h
  have d0:=put (aH (k*4) _ (sD ls k 0 x hx (by decide)));have d1:=put (aH (k*4+1) _ (sD ls k 1 x hx (by decide)));have d2:=put (aH (k*4+2) _ (sD ls k 2 x hx (by decide)));have d3:=put (aH (k*4+3) _ (sD ls k 3 x hx (by decide)));simp only [<- Nat.add_assoc] at d1 d2 d3;have Br:=HF.out x (dA hx) (wr.alloc (.cells #[.int .i64 (x.at_:Int),.int .i64 x.ty,.pointer (some ⟨x.ob,0,none⟩),.pointer (some ⟨x.sb,0,none⟩)] 201)) (aG.alloc aG.size _);have kb:=aK wr #[.int .i64 (x.at_:Int),.int .i64 x.ty,.pointer (some ⟨x.ob,0,none⟩),.pointer (some ⟨x.sb,0,none⟩)] 201;have fJ:=aG.alloc aG.size (.cells #[.int .i64 (x.at_:Int),.int .i64 x.ty,.pointer (some ⟨x.ob,0,none⟩),.pointer (some ⟨x.sb,0,none⟩)] 201);have HX:=Nm.aD hx;have i1:=fE k
  have i2:(k:Int)<(ls.length:Int):=by omega
  clear hc aH hx gI aG put hk;simp only [jO] at Br;go_wp2_with fail
  refine Br.mono ?_;rintro e w2 ⟨rfl,b2⟩;have kb2:=aB kb (by simpa using b2);have rb2:=aA kb2
  have VN:=Nm.aC fJ (by simpa using b2);clear Br d0 d1 d2 d3
  cases XZ:f x with
  |true=>
   have HV:=Nm.aD XZ;clear XZ;go_wp2;go_region
   all_goals go_wp2
   all_goals go_ret2
   all_goals exact⟨by rw [Az HR.out.1 HX.out HV.out];rfl,VN.drew⟩
  |false=>
   have HV:=Nm.aD XZ;clear XZ;go_wp2;go_roundw
   case rel=>
    refine⟨k+1,by omega,by go_num,fun j y hj hy=>?_,VN⟩
    rcases Nat.lt_succ_iff_lt_or_eq.1 hj with h1|rfl
    ·exact HR.out.1 j y h1 hy
    rw [HX.out] at hy;cases hy;exact HV.out
   simp [intOf];omega
 have FE:k=ls.length:=by omega
 subst FE;clear hc gI aG;go_wp2;go_ret2;exact⟨by rw [Ay HR.out.1];rfl,HR.out.2⟩
theorem Bt(bb:Nat)(code:Int)(v:Value)(ls:List Ld)(f:Ld->Bool)(w:World)(hk:w.cell? ⟨bb,5,none⟩=some v)(h:dZ w v ls.length 4 (CF ls))(hl:ls.length<=1000000)
 (hf:∀ x∈ls,∀ W,Below w.heap.size w W->Calls Tryz.prog 144 #[.agg #[.int .i64 (x.at_:Int),.int .i64 x.ty,.pointer (some ⟨x.ob,0,none⟩),.pointer (some ⟨x.sb,0,none⟩)]] W fun e w'=>e=.returned (.bool (f x))∧Below W.heap.size W w'):
 Calls Tryz.prog 138 #[.pointer (some ⟨bb,0,none⟩),.int .i64 code,.func (.func 144) #[] #[]] w fun e w'=>e=.returned (CG f code ls)∧Below w.heap.size w w':=by
 obtain⟨_,a,cap,rfl,gT,kV,hc⟩:=h;unfold maxLen at kV;have HF:=Nm.aD hf;clear hf;go_enter Tryz.func138,Tryz.ntmps138;go_wp2
 go_loopw [15] (fun i wr=>∃ k:Nat,k<=ls.length∧i=.int .i64 k∧(∀ j x,j<k->ls[j]? =some x->f x=false)∧Below w.heap.size w wr) (fun i _=>ls.length-(intOf i).toNat)
 ·exact⟨0,dR _,rfl,fun j x hj=>absurd hj (Nat.not_lt_zero _),aJ _ _⟩
 obtain⟨k,vT,rfl,gI,aG⟩:=hrel;have HR:=Nm.aD (aV gI aG)
 by_cases bY:k<ls.length
 ·obtain⟨x,hx⟩:=gQ bY;obtain⟨b,off,rfl,aH⟩:=hc (by omega);have put:∀ {O:Nat} {z:Value},w.cell? ⟨b,O,none⟩=some z->wr.cell? ⟨b,O,none⟩=some z:=fun h=>(aG.cell (fD w _ h)).trans h
  have d0:=put (aH (k*4) _ (sD ls k 0 x hx (by decide)));have d1:=put (aH (k*4+1) _ (sD ls k 1 x hx (by decide)));have d2:=put (aH (k*4+2) _ (sD ls k 2 x hx (by decide)));have d3:=put (aH (k*4+3) _ (sD ls k 3 x hx (by decide)));simp only [<- Nat.add_assoc] at d1 d2 d3;have Br:=HF.out x (dA hx) (wr.alloc (.cells #[.int .i64 (x.at_:Int),.int .i64 x.ty,.pointer (some ⟨x.ob,0,none⟩),.pointer (some ⟨x.sb,0,none⟩)] 201)) (aG.alloc aG.size _);have kb:=aK wr #[.int .i64 (x.at_:Int),.int .i64 x.ty,.pointer (some ⟨x.ob,0,none⟩),.pointer (some ⟨x.sb,0,none⟩)] 201;have fJ:=aG.alloc aG.size (.cells #[.int .i64 (x.at_:Int),.int .i64 x.ty,.pointer (some ⟨x.ob,0,none⟩),.pointer (some ⟨x.sb,0,none⟩)] 201);have HX:=Nm.aD hx;have i1:=fE k
  have i2:(k:Int)<(ls.length:Int):=by omega
  clear hc aH hx gI aG put hk;simp only [jO] at Br;go_wp2_with fail
  refine Br.mono ?_;rintro e w2 ⟨rfl,b2⟩;have kb2:=aB kb (by simpa using b2);have rb2:=aA kb2
  have VN:=Nm.aC fJ (by simpa using b2);clear Br d0 d1 d2 d3
  cases XZ:f x with
  |true=>
   have HV:=Nm.aD XZ;clear XZ;go_wp2;go_region
   all_goals go_wp2
   all_goals go_ret2
   all_goals exact⟨by rw [Az HR.out.1 HX.out HV.out];rfl,VN.drew⟩
  |false=>
   have HV:=Nm.aD XZ;clear XZ;go_wp2;go_roundw
   case rel=>
    refine⟨k+1,by omega,by go_num,fun j y hj hy=>?_,VN⟩
    rcases Nat.lt_succ_iff_lt_or_eq.1 hj with h1|rfl
    ·exact HR.out.1 j y h1 hy
    rw [HX.out] at hy;cases hy;exact HV.out
   simp [intOf];omega
 have FE:k=ls.length:=by omega
 subst FE;clear hc gI aG;go_wp2;go_ret2;exact⟨by rw [Ay HR.out.1];rfl,HR.out.2⟩
open Go.Shelf
attribute [local go_sem] Oper.semAt_some
theorem Rz:(Tryz.prog.info? 2).map (fun i=>(i.zero,i.size,i.bytes))=some (some (.int .i64 0),1,8):=by kernel_rfl
theorem aBd(F:Fence)(n:Nat)(h3:F.fn 71)(h4:F.fn 96)(h5:F.fn 131)(sJ:F.round=none)(hn:3<=n)
 (g:Nat) (sv:Value) (zs:List nY) (hl:zs.length<=1000000) (w:World) (hg:g<w.heap.size) (kg:w.cell? ⟨g,1,none⟩=some sv) (hR:Js (fun p:nY=>p.ty) (fun p=>(⟨p.dS,0,none⟩:Addr)) w.heap.size w sv zs):
 CallsIn F n Tryz.prog 71 #[.pointer (some ⟨g,0,none⟩)] w fun e W'=>∃ v,e=.returned v∧W'.ownsRow w.heap.size 2 1 v zs.length (zs.map fun p=>.int .i64 p.ty)∧Below w.heap.size w W':=by
 have h1:1<=n:=by omega
 obtain⟨i0,hi,iQ,iH,iI⟩:=info_parts Rz;refine callsIn_of_wp_marks Tryz.func71 rfl h3 ?_ sJ;simp only [Tryz.ntmps71,List.size_toArray,List.length_cons,List.length_nil,Nat.reduceAdd,Nat.reduceSub,Array.replicate_succ,Array.replicate_zero,List.push_toArray,List.append_toArray,List.nil_append,List.cons_append]
 gi_wp2_with (gi_at_call 96;refine(Jt F (n-1) h4 sJ _ _).mono ?_;rintro e w' ⟨rfl,rfl⟩)
 have bO:=Boxed.new w 36 (.slice none 0 0);have bN:=Boxed.new (w.alloc (.cells #[.slice none 0 0] 36)) 126 (.pointer (some ⟨g,0,none⟩));rw [jO] at bN;have iY:Below w.heap.size w ((w.alloc (.cells #[.slice none 0 0] 36)).alloc (.cells #[.pointer (some ⟨g,0,none⟩)] 126)):=((aJ _ w).alloc (aI _) _).alloc (by simp) _;have XJ:=(iY.cell (p:=⟨g,1,none⟩) hg).trans kg
 refine wpIn_rangeFunc_ownG sJ h1 (gf:=131) (lb:=#[.pointer (some ⟨w.heap.size+1,0,none⟩)]) rfl h5 (enters_of Tryz.func131 (by kernel_rfl) rfl)
  (SS (fun p:nY=>p.ty) (fun p=>(⟨p.dS,0,none⟩:Addr)) F (n-1) h5 sJ (by omega) (w.heap.size+1) g w.heap.size sv zs hl _ (by simp) hg (by simp;omega) bN.cell XJ (hR.below iY)) belowK_t (belowK_b (by simp;omega)) (aJ _ _) (fun _=>rfl)
  (fun pre W=>(∃ v,Boxed W w.heap.size 36 v∧W.ownsRow w.heap.size 2 1 v pre.length (pre.map fun p=>.int .i64 p.ty)∧True)∧Below w.heap.size w W)
  (fun _ _ _=>False)
  (OwnFrom.and (Own.from (holdsRow_own w.heap.size w.heap.size 36 2 1 (fun pre:List nY=>pre.length) (fun pre=>pre.map fun p=>.int .i64 p.ty) (fun pre v=>True)) _) (ownFrom_below (aI _) (by simp;omega)))
  (fun _ _ _ _ _ hs _ _=>hs)
  ⟨⟨_,bO.alloc _,World.ownsRow_nil _ _ _ _,trivial⟩,iY⟩
  (fun x=>{tmps:=#[.pointer (some ⟨g,0,none⟩),undef,.slice none 0 0,.pointer (some ⟨w.heap.size,0,none⟩),.int .i64 x.ty,.pointer (some ⟨g,0,none⟩),.func (.func 131) #[] #[.pointer (some ⟨w.heap.size+1,0,none⟩)],.int .i64 x.ty,.pointer (some ⟨x.dS,0,none⟩),undef,undef,undef,undef,undef],defers:=[]}) ?assign ?body ?done ?stop
 case assign=>
  intro l x W K hK
  gi_wp2
  exact hK
 case body=>
  rintro l pre x W ⟨⟨v,hv,dI,-⟩,hB⟩ bY;have hc:=hv.cell;have hm:zs.length<=maxLen:=by unfold maxLen;omega
  gi_wp2_with (gi_at_builtin;refine wpListIn_append_own _ rfl _ _ 36 rfl w.heap.size 2 i0 (.int .i64 0) 1 8 Tryz.underlying36 hi iQ iH iI rfl (by decide) _ _ _ rfl (dI.alloc _) ⟨W.heap.size,0,none⟩ 1 1 [.int .i64 x.ty] rfl rfl (cell_one_new _ _ _) (by simp [Value.oneCell']) (by omega) (by omega) (by have:=hB.size;simp;omega) ?_;intro v' w1 dE bU _;obtain⟨g',cap',rfl⟩:=ownsRow_succ dE;obtain⟨hv1,ES,wR,hk2,jW⟩:=hv.appended (by decide) dI hB.size (aI _) dE bU;have mQ:=hv1.cell;have hf1:=hv1.frozen)
  exact⟨hk2.from _,jW,⟨_,ES,by simpa using wR,trivial⟩,hB.trans jW⟩
 case done=>
  rintro D ys W hD rfl ⟨⟨v,hv,dI,-⟩,hB⟩ hK;have hc:=hv.cell
  gi_wp2
  refine⟨by simp,.inl ⟨_,_,rfl,run_takeDeferred hK,?_⟩⟩;exact⟨_,results_tmp rfl _ _ _,v,rfl,ownsRow_putObj dI _ hK rfl,hB.trans (belowK_b (w:=w) (aI _) W D _ _ (by simp at hD;omega) hK rfl rfl)⟩
 rintro D c pre W _ _ h _;exact h.elim
theorem Zj(g:Nat)(sv:Value)(zs:List nY)(hl:zs.length<=1000000)(w:World)(hg:g<w.heap.size)(kg:w.cell? ⟨g,1,none⟩=some sv)(hR:Js (fun p:nY=>p.ty) (fun p=>(⟨p.dS,0,none⟩:Addr)) w.heap.size w sv zs):
 Calls Tryz.prog 71 #[.pointer (some ⟨g,0,none⟩)] w fun e W'=>∃ v,e=.returned v∧W'.ownsRow w.heap.size 2 1 v zs.length (zs.map fun p=>.int .i64 p.ty)∧Below w.heap.size w W':=
 (callsIn_wide (n:=3)).1 (aBd _ 3 trivial trivial trivial rfl (by omega) g sv zs hl w hg kg hR)
end
open Go.RowKit
theorem QG{e:Nat}(x:Value)(hb:B<=w.heap.size):(w.alloc (.cells #[x] e)).ownsRow B e 1 (.slice (some ⟨w.heap.size,0,none⟩) 1 1) 1 [x]:=
 ⟨rfl,.inr ⟨w.heap.size,1,#[x],rfl,hb,heap_alloc_new w _,aI _,by decide,rfl,rfl⟩⟩
theorem Zk{wr:World}{g cap gr m rc k:Nat}{a:Option Addr}{ls:List ByteArray}(hg:g<w.heap.size)(gJ:qX w g a n)(h1:wr.ownsRow w.heap.size 9 1 (.slice (some ⟨gr,0,none⟩) m rc) m (ls.map Value.string))(h2:Src wr g a n cap)(h3:w.grownBy wr (some g))(hw:w.heap.size<=gr)(y:ByteArray):
 (wr.setCell ⟨gr,k,none⟩ (.string y)).ownsRow w.heap.size 9 1 (.slice (some ⟨gr,0,none⟩) m rc) m ((ls.set k y).map Value.string)∧Src (wr.setCell ⟨gr,k,none⟩ (.string y)) g a n cap∧w.grownBy (wr.setCell ⟨gr,k,none⟩ (.string y)) (some g):=by
 refine⟨?_,tH h2 (by omega) (Ko gJ hw),BV h3 hw⟩;have:=(h1.stored k (.string y)).1;rw [List.map_set];exact this
theorem Hy{w3 w4:World}{g cap:Nat}{a:Option Addr}{v4:Value}{o:Obj}{x:ByteArray}{ls:List ByteArray}(bY:g<w.heap.size)(gJ:qX w g a n)(hs:Src w3 g a n cap)(hg:w.grownBy w3 (some g))
 (aU:w4.ownsRow w.heap.size 9 1 v4 (1+ls.length) ([Value.string x]++ls.map Value.string)) (bU:(w3.alloc o).grownBy w4 (Value.slice (some ⟨w3.heap.size,0,none⟩) 1 1).ownBlock):
 Nm.bP w4 v4 (x::ls)∧Src w4 g a n cap∧w.grownBy w4 (some g):=by
 have dI:∀ q,(Value.slice (some ⟨w3.heap.size,0,none⟩) 1 1).ownBlock=some q->w.heap.size<=q:=by
  intro q hq;simp [Value.ownBlock] at hq
  have:=hg.size;omega
 refine⟨?_,KF (aZ hs ((aJ _ _).alloc (aI _) _)) bU dI bY gJ,BJ (dP hg _) bU dI⟩;apply Nm.bP.aP (B:=w.heap.size) (e:=9);rw [show(x::ls).length=1+ls.length by simp;omega];exact aU
theorem AC(g:Nat)(a:Option Addr)(n cap:Nat)(nm:ByteArray)(w:World)(h:Src w g a n cap)(hz:nm.size<=2000):
 Calls Tryz.prog 76 #[.pointer (some ⟨g,0,none⟩),.string nm] w fun e w'=>∃ s:ByteArray,e=.returned (.string s)∧s.size<=2000∧Src w' g a n cap∧w.grownBy w' (some g):=by
 obtain⟨gJ,zD⟩:=qK h;obtain⟨i0,hi,iQ,iH,iI⟩:=info_parts Tryz.wM;have hnz:nm.size<=maxLen:=by unfold maxLen;omega
 have lC:=gL nm w hnz
 cases hq:Nm.split nm with
 |none=>
  rw [hq] at lC;simp only [Option.getD_none,Option.isSome_none,List.length_nil,List.map_nil] at lC;go_enter Tryz.func76,Tryz.ntmps76;go_wp2_with fail
  refine lC.mono ?_;rintro e w1 ⟨v,rfl,aU,aG⟩;go_wp2;go_ret
  exact⟨_,rfl,hz,aZ h aG,bJ (World.grownBy.refl w (some g)) aG⟩
 |some ls=>
  have Xd:Nm.cK ls<=254:=by have:=Nm.dK hq;omega
  rw [hq] at lC;simp only [Option.getD_some,Option.isSome_some] at lC;clear hq;go_enter Tryz.func76,Tryz.ntmps76;go_wp2_with fail
  refine lC.mono ?_;rintro e w1 ⟨v,rfl,aU,aG⟩;have oG:=aZ h aG;have mD:=bJ (World.grownBy.refl w (some g)) aG;clear lC h aG;go_wp2_with fail
  refine(aW g a n cap 5 _ oG (by decide)).mono ?_;rintro e w2 ⟨r,rfl,GU,uG,oU,EC⟩;have wR:=uG (by decide);have dO:=aU.kept EC (lW aU oG (by decide));have mM:=aS mD EC;clear aU oG mD EC uG
  rcases(by omega:r=0∨r=1∨(r=2∨r=3)∨r=4) with rfl|rfl|hr|rfl
  ·go_wp2_with fail
   refine(IX g a n cap nm _ oU hnz).mono ?_;rintro e w3 ⟨s,rfl,hs,sO,iZ⟩;go_wp2;go_ret;exact⟨_,rfl,by omega,sO,aS mM iZ⟩
  ·have hr:=Nm.bP.aP dO;obtain⟨ra,rc,rfl,gT,kV,FC,hc⟩:=Nm.bP.aP dO;clear hc FC;have EN:=fun e:rc=1=>hr.AY e
   by_cases hn:ls.length=0
   ·clear dO EN;obtain rfl:=List.length_eq_zero_iff.1 hn;clear hn;simp only [List.length_nil] at hr;go_wp2_with fail
    refine(bV _ [] _ hr (by omega)).mono ?_;rintro e w9 ⟨rfl,xN⟩;have hj:=iL [];have CV:=aZ oU xN;have nA:=bJ mM xN;generalize ByteArray.mk (Nm.joinL []).toArray=J at*
    by_cases hJ:255<J.size
    ·have Zl:(255:Int)<(J.size:Int):=by omega
     clear hj;go_wp2;go_ret;exact⟨_,rfl,hz,CV,nA⟩
    have Zl:(J.size:Int)<=255:=by omega
    clear hj;go_wp2;go_ret;exact⟨_,rfl,by omega,CV,nA⟩
   have hlp:(0:Int)<(ls.length:Int):=by omega
   have XB:=hr.drop (k:=1) (by omega);have hwd:=Nm.pG ls 1;clear dO
   by_cases SQ:rc=1
   ·have hd:=EN SQ;clear EN XB;subst SQ;have e0:ls.length-1=0:=by omega
    rw [e0] at hd;go_wp2_with fail
    refine(bV _ (ls.drop 1) _ hd (by omega)).mono ?_;rintro e w9 ⟨rfl,xN⟩;go_wp2;go_ret;exact⟨_,rfl,by rw [iL];simp only [List.drop_one] at hwd;omega,aZ oU xN,bJ mM xN⟩
   clear EN;have hd3:Nm.bP w2 (.slice (Option.map (fun x=>({block:=x.block,off:=x.off+1,spot:=none}:Addr)) ra) (ls.length-1) (rc-1)) (ls.drop 1):=by simpa [Addr.add] using XB
   clear XB;go_wp2_with fail
   refine(bV _ (ls.drop 1) _ hd3 (by omega)).mono ?_;rintro e w9 ⟨rfl,xN⟩;go_wp2;go_ret;exact⟨_,rfl,by rw [iL];simp only [List.drop_one] at hwd;omega,aZ oU xN,bJ mM xN⟩
  ·have hlw:=Nm.bL ls
   rcases hr with rfl|rfl
   ·rcases dO.2 with⟨rfl,h0⟩|⟨gr,rc,cur,rfl,hb,AQ,Nh,hm,_⟩
    ·obtain rfl:=List.length_eq_zero_iff.1 h0;clear dO h0;go_wp2_with fail
     refine(pQ g a n cap _ oU).mono ?_;rintro e w3 ⟨x,rfl,hx,sO,iZ⟩;have QH:=aS mM iZ;have YY:=QH.size;have lN:=QG (w:=w3) (B:=w.heap.size) (e:=9) (.string x) YY;have hR:=Nm.bP.aP (ls:=[x]) lN;have hsR:=aZ sO ((aJ _ _).alloc (aI _) (.cells #[.string x] 9 (0,0)));have hgR:=dP QH (.cells #[.string x] 9 (0,0));have hwx:Nm.cK [x]<=400:=by simp [Nm.cK];omega
     try simp only [List.length_cons,List.length_nil] at hR
     go_wp2_with (at_builtin;refine wpList_append_own_none rfl (.tmp 36) (.tmp 37) 32 rfl w.heap.size 9 i0 1 Tryz.underlying32 hi _ _ _ rfl lN rfl ?_)
     refine(bV _ [x] _ hR (by omega)).mono ?_;rintro e w9 ⟨rfl,xN⟩;have hj:=iL [x];have CV:=aZ hsR xN;have nA:=bJ hgR xN;generalize ByteArray.mk (Nm.joinL [x]).toArray=J at*
     by_cases hJ:255<J.size
     ·have Zl:(255:Int)<(J.size:Int):=by omega
      clear hj;go_wp2;go_ret;exact⟨_,rfl,hz,CV,nA⟩
     have Zl:(J.size:Int)<=255:=by omega
     clear hj;go_wp2;go_ret;exact⟨_,rfl,by omega,CV,nA⟩
    unfold maxLen at hm;clear AQ;go_wp2_with fail
    refine(pQ g a n cap _ oU).mono ?_;rintro e w3 ⟨x,rfl,hx,sO,iZ⟩;have gW:=dO.kept iZ (lW dO oU (by decide));have QH:=aS mM iZ;have YY:=QH.size;have hr3:=Nm.bP.aP (gW.alloc (.cells #[.string x] 9 (0,0)));have hwx:Nm.cK (x::ls)<=400:=by simp [Nm.cK];omega
    clear dO gW;go_wp2_with (at_builtin;refine wpList_append_own _ rfl (.tmp 36) (.tmp 37) 32 rfl w.heap.size 9 i0 (.string ByteArray.empty) 1 16 Tryz.underlying32 hi iQ iH iI rfl (by decide) _ _ _ rfl (QG (.string x) YY) ⟨gr,0,none⟩ ls.length rc (ls.map Value.string) rfl (by simp) (xO hr3) (pX _) (by unfold maxLen;omega) (by omega) (by simp;omega) ?_;intro v4 w4 jR nP Iz;clear Iz;have R:=Hy zD gJ sO QH jR nP;obtain⟨hR,hsR,hgR⟩:=R;clear jR nP hr3)
    refine(bV _ (x::ls) _ hR (by omega)).mono ?_;rintro e w9 ⟨rfl,xN⟩;have hj:=iL (x::ls);have CV:=aZ hsR xN;have nA:=bJ hgR xN;generalize ByteArray.mk (Nm.joinL (x::ls)).toArray=J at*
    by_cases hJ:255<J.size
    ·have Zl:(255:Int)<(J.size:Int):=by omega
     clear hj;go_wp2;go_ret;exact⟨_,rfl,hz,CV,nA⟩
    have Zl:(J.size:Int)<=255:=by omega
    clear hj;go_wp2;go_ret;exact⟨_,rfl,by omega,CV,nA⟩
   rcases dO.2 with⟨rfl,h0⟩|⟨gr,rc,cur,rfl,hb,AQ,Nh,hm,_⟩
   ·obtain rfl:=List.length_eq_zero_iff.1 h0;clear dO h0;go_wp2_with fail
    refine(pQ g a n cap _ oU).mono ?_;rintro e w3 ⟨x,rfl,hx,sO,iZ⟩;have QH:=aS mM iZ;have YY:=QH.size;have lN:=QG (w:=w3) (B:=w.heap.size) (e:=9) (.string x) YY;have hR:=Nm.bP.aP (ls:=[x]) lN;have hsR:=aZ sO ((aJ _ _).alloc (aI _) (.cells #[.string x] 9 (0,0)));have hgR:=dP QH (.cells #[.string x] 9 (0,0));have hwx:Nm.cK [x]<=400:=by simp [Nm.cK];omega
    try simp only [List.length_cons,List.length_nil] at hR
    go_wp2_with (at_builtin;refine wpList_append_own_none rfl (.tmp 36) (.tmp 37) 32 rfl w.heap.size 9 i0 1 Tryz.underlying32 hi _ _ _ rfl lN rfl ?_)
    refine(bV _ [x] _ hR (by omega)).mono ?_;rintro e w9 ⟨rfl,xN⟩;have hj:=iL [x];have CV:=aZ hsR xN;have nA:=bJ hgR xN;generalize ByteArray.mk (Nm.joinL [x]).toArray=J at*
    by_cases hJ:255<J.size
    ·have Zl:(255:Int)<(J.size:Int):=by omega
     clear hj;go_wp2;go_ret;exact⟨_,rfl,hz,CV,nA⟩
    have Zl:(J.size:Int)<=255:=by omega
    clear hj;go_wp2;go_ret;exact⟨_,rfl,by omega,CV,nA⟩
   unfold maxLen at hm;clear AQ;go_wp2_with fail
   refine(pQ g a n cap _ oU).mono ?_;rintro e w3 ⟨x,rfl,hx,sO,iZ⟩;have gW:=dO.kept iZ (lW dO oU (by decide));have QH:=aS mM iZ;have YY:=QH.size;have hr3:=Nm.bP.aP (gW.alloc (.cells #[.string x] 9 (0,0)));have hwx:Nm.cK (x::ls)<=400:=by simp [Nm.cK];omega
   clear dO gW;go_wp2_with (at_builtin;refine wpList_append_own _ rfl (.tmp 36) (.tmp 37) 32 rfl w.heap.size 9 i0 (.string ByteArray.empty) 1 16 Tryz.underlying32 hi iQ iH iI rfl (by decide) _ _ _ rfl (QG (.string x) YY) ⟨gr,0,none⟩ ls.length rc (ls.map Value.string) rfl (by simp) (xO hr3) (pX _) (by unfold maxLen;omega) (by omega) (by simp;omega) ?_;intro v4 w4 jR nP Iz;clear Iz;have R:=Hy zD gJ sO QH jR nP;obtain⟨hR,hsR,hgR⟩:=R;clear jR nP hr3)
   refine(bV _ (x::ls) _ hR (by omega)).mono ?_;rintro e w9 ⟨rfl,xN⟩;have hj:=iL (x::ls);have CV:=aZ hsR xN;have nA:=bJ hgR xN;generalize ByteArray.mk (Nm.joinL (x::ls)).toArray=J at*
   by_cases hJ:255<J.size
   ·have Zl:(255:Int)<(J.size:Int):=by omega
    clear hj;go_wp2;go_ret;exact⟨_,rfl,hz,CV,nA⟩
   have Zl:(J.size:Int)<=255:=by omega
   clear hj;go_wp2;go_ret;exact⟨_,rfl,by omega,CV,nA⟩
  rcases dO.2 with⟨rfl,h0⟩|⟨gr,rc,cur,rfl,hb,AQ,Nh,hm,_⟩
  ·obtain rfl:=List.length_eq_zero_iff.1 h0;have hr:=Nm.bP.aP (ls:=[]) dO;clear dO h0;go_wp2_with fail
   refine(bV _ [] _ hr (by omega)).mono ?_;rintro e w9 ⟨rfl,xN⟩;have hj:=iL [];have CV:=aZ oU xN;have nA:=bJ mM xN;generalize ByteArray.mk (Nm.joinL []).toArray=J at*
   by_cases hJ:255<J.size
   ·have Zl:(255:Int)<(J.size:Int):=by omega
    clear hj;go_wp2;go_ret;exact⟨_,rfl,hz,CV,nA⟩
   have Zl:(J.size:Int)<=255:=by omega
   clear hj;go_wp2;go_ret;exact⟨_,rfl,by omega,CV,nA⟩
  unfold maxLen at hm
  cases ls with
  |nil=>
   have hr:=Nm.bP.aP (ls:=[]) dO;simp only [List.length_nil] at hr;clear dO AQ;go_wp2_with fail
   refine(bV _ [] _ hr (by omega)).mono ?_;rintro e w9 ⟨rfl,xN⟩;have hj:=iL [];have CV:=aZ oU xN;have nA:=bJ mM xN;generalize ByteArray.mk (Nm.joinL []).toArray=J at*
   by_cases hJ:255<J.size
   ·have Zl:(255:Int)<(J.size:Int):=by omega
    clear hj;go_wp2;go_ret;exact⟨_,rfl,hz,CV,nA⟩
   have Zl:(J.size:Int)<=255:=by omega
   clear hj;go_wp2;go_ret
   exact⟨_,rfl,by omega,CV,nA⟩
  |cons y t=>
   have hlp:(0:Int)<((y::t).length:Int):=by simp only [List.length_cons];omega
   have hlw:=Nm.bL (y::t);have hwt:Nm.cK (y::t)=1+y.size+Nm.cK t:=by simp [Nm.cK]
   generalize hm0:(y::t).length=m at*;clear AQ;go_wp2_with fail
   refine(pQ g a n cap _ oU).mono ?_;rintro e w3 ⟨x,rfl,hx,sO,iZ⟩;have gW:=dO.kept iZ (lW dO oU (by decide));have QH:=aS mM iZ;have hc3:w3.cell? ⟨gr,0,none⟩=some (.string y):=by rw [gW.cellAt 0 (by omega)];rfl
   have hf3:=gW.frozenAt 0;have R:=Zk (k:=0) zD gJ gW sO QH hb x;have h9:=R.1;rw [show m=(x::t).length from hm0.symm] at h9;have hR:=Nm.bP.aP (ls:=x::t) h9;clear h9;have hwx:Nm.cK (x::t)<=400:=by simp [Nm.cK];omega
   have hsR:=R.2.1;have hgR:=R.2.2;rw [show(x::t).length=m from hm0] at hR;clear dO gW R QH iZ sO;go_wp2_with fail
   refine(bV _ (x::t) _ hR (by omega)).mono ?_;rintro e w9 ⟨rfl,xN⟩;have hj:=iL (x::t);have CV:=aZ hsR xN;have nA:=bJ hgR xN;generalize ByteArray.mk (Nm.joinL (x::t)).toArray=J at*
   by_cases hJ:255<J.size
   ·have Zl:(255:Int)<(J.size:Int):=by omega
    clear hj;go_wp2;go_ret;exact⟨_,rfl,hz,CV,nA⟩
   have Zl:(J.size:Int)<=255:=by omega
   clear hj;go_wp2;go_ret;exact⟨_,rfl,by omega,CV,nA⟩
