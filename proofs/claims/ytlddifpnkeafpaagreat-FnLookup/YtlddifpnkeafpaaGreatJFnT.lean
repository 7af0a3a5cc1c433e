import Derived.Test.YtlddifpnkeafpaaGreatJTiN
set_option linter.unusedVariables false
set_option maxRecDepth 100000
set_option maxHeartbeats 1600000
namespace Go.Proofs.YtlddifpnkeafpaaGreat
open Go.RowKit
def VO(lab:List ByteArray)(os:List dG):Bool:=match os[posOf (dX lab) os]? with
 |some o=>aQ o.lab lab
 |none=>false
variable {al lab y:List ByteArray}{o:ByteArray}{os:List dG}{ps:List Zp}
theorem Lt(h:Jz os)(lab:List ByteArray):VO lab os=true↔ ∃ o∈os,aQ o.lab lab=true:=by
 have mF:=lI (f:=dX lab) h (fun a b Pe hb=>mG Pe hb);obtain⟨f1,f2,f3⟩:=rV os mF;rw [VO];constructor
 ·cases hq:os[posOf (dX lab) os]? with
  |none=>intro h;cases h
  |some o=>intro hu;exact⟨o,dA hq,hu⟩
 rintro⟨o,ho,hu⟩
 obtain⟨k,hk⟩:=List.getElem?_of_mem ho;have mK:=dL hk;have hle:=CK hu
 have Wl:posOf (dX lab) os<=k:=by
  rcases Nat.lt_or_ge k (posOf (dX lab) os) with h1|h1
  ·have:=f2 k h1;rw [jV hk,dX] at this;have h2:=dU lab o.lab;omega
  exact h1
 have nZ:posOf (dX lab) os<os.length:=by have:=mK.1;omega
 have hq:os[posOf (dX lab) os]? =some os[posOf (dX lab) os]:=gF nZ;have K6:=f3 _ (aI _) nZ;rw [jV hq,dX] at K6;rw [hq];show aQ _ lab=true
 rcases Nat.lt_or_eq_of_le Wl with h1|h1
 ·have bY:=List.pairwise_iff_getElem.1 h _ k nZ mK.1 h1;rw [mK.2] at bY
  rcases Int.lt_or_le 0 (Nm.aN os[posOf (dX lab) os].lab lab) with h2|h2
  ·exact TP hu (by have:=dU lab os[posOf (dX lab) os].lab;omega) bY
  exact pE (by omega)
 have:os[posOf (dX lab) os]=o:=by
  rw [<- mK.2];congr 1
 rw [this];exact hu
theorem VP(bb oo th:Nat)(rv:Value)(os:List dG)(B:Nat)(na:Option Addr)(nl nc:Nat)(lab:List ByteArray)(w:World)(h:nQ w B th rv os)(hl:os.length<=500000)(hd:Yk os)(jD:mU w (jF th rv os) os)(hn:Nm.bP w (.slice na nl nc) lab)(FC:lab.length<=1000000000)(hc:w.cell? ⟨bb,oo+1,none⟩=some (ptr th))(zH:bb<w.heap.size):
 Calls Tryz.prog 60 #[.pointer (some ⟨bb,oo,none⟩),.slice na nl nc] w fun e w'=>e=.returned (.bool (VO lab os))∧Below w.heap.size w w':=by
 have nV:(jS os).length=os.length:=by simp [jS]
 have XF:∀ (tb i:Nat) (p:Value×Value),(jS os)[i]? =some p->∀ W,Below w.heap.size w W->bW W tb #[.pointer (some ⟨th,0,none⟩)] 100->Calls Tryz.prog 134 #[.agg #[p.1,p.2],.slice na nl nc,.pointer (some ⟨tb,0,none⟩)] W fun e w'=>e=.returned (.int .i64 (pO (dX lab) os i))∧Below W.heap.size W w':=by
  intro tb i p hp W hW kb;simp only [jS,List.getElem?_map,Option.map_eq_some_iff] at hp;obtain⟨q,hq,rfl⟩:=hp;rw [jV hq];have zT:=jD q (dA hq);exact IG tb th rv (ptr q.dS) q.lv (.slice na nl nc) q.lab lab W kb (aB h.head hW) (zT.row.below hW) (hn.below hW) zT.fit.1 zT.fit.2 FC
 have mF:=lI (f:=dX lab) hd.1 (fun a b Pe hb=>mG Pe hb);have zG:=rV os mF;have dI:dZ w rv (jS os).length 2 (eO (jS os)):=dZ.aP h.rows;have nZ:=yH th wI rv (.slice na nl nc) (jS os) (pO (dX lab) os) w h.head dI (by omega) XF (by rw [nV];exact mF);rw [nV] at nZ;have HU:Hid (∀ (q:dG) (hq:q∈os) W (hW:Below w.heap.size w W),Calls Tryz.prog 53 #[q.lv,.slice na nl nc] W fun e w'=>e=.returned (.bool (aQ q.lab lab))∧Below W.heap.size W w'):=fun q hq W hW=>(xL q.lv (.slice na nl nc) q.lab lab W ((jD q hq).row.below hW) (hn.below hW) (jD q hq).fit.1 (jD q hq).fit.2 FC).mono (by rintro e w' ⟨he,m,rfl⟩;exact⟨he,Go.below_drewN (aJ _ _) _⟩)
 have HV:Hid (∀ q∈os,∃ a n c,q.lv=.slice a n c):=fun q hq=>by obtain⟨a,c,e,_⟩:=(jD q hq).row;exact⟨a,_,c,e⟩
 have HR:=Nm.aD (fun W (hW:Below w.heap.size w W)=>aV (aB h.head hW) (dI.below hW));have HC:Hid (∀ W,Below w.heap.size w W->W.cell? ⟨bb,oo+1,none⟩=some (ptr th)):=fun W hW=>by rw [<- hc];exact hW.cell (p:=⟨bb,oo+1,none⟩) zH
 have HF:=Nm.aD zG;unfold ptr at hc HC;clear h hd jD hn XF mF zG dI;go_enter Tryz.func60,Tryz.ntmps60;go_wp2_with fail
 refine nZ.mono ?_;rintro e w1 ⟨k,hk,rfl,b1⟩;have hkk:k=posOf (dX lab) os:=FU.unique hk HF.out;have HT:Hid (VO lab os=match os[k]? with|some o=>aQ o.lab lab|none=>false):=by show _=_;rw [VO,hkk]
 obtain⟨kh,kr⟩:=HR.out w1 b1;have mQ:=HC.out w1 b1;have rh:=aA kh
 obtain⟨_,ra,rc,rfl,_,_,hrc⟩:=kr;rw [nV] at*;have n0:=fE k
 generalize (decide (k<os.length)&&decide (pO (dX lab) os k=0))=FB at*;clear nZ hk hkk HF hc kh
 by_cases bY:k<os.length
 ·obtain⟨q,hq⟩:=gQ bY;have hqm:=dA hq;obtain⟨b,off,rfl,aH⟩:=hrc (by omega);have d0:=aH (k*2) _ ((eY (jS os) k 0 (q.lv,ptr q.dS) (by simp [jS,hq]) (by decide)).trans rfl);have XA:=HU.out q hqm w1 b1;obtain⟨qa,qn,qc,hqv⟩:=HV.out q hqm;rw [hqv] at d0 XA;have n2:(k:Int)<(os.length:Int):=by omega
  have HE:Hid (VO lab os=aQ q.lab lab):=by show _=_;rw [HT.out,hq]
  generalize aQ q.lab lab=UB at*;clear aH hrc hq hqv HT HU HV hqm HR HC;go_wp2_with fail
  refine XA.mono ?_;rintro e w2 ⟨rfl,b2⟩;go_wp2;go_ret;exact⟨by rw [HE.out];rfl,Nm.aC b1 b2⟩
 have n2:(os.length:Int)<=(k:Int):=by omega
 have HE:Hid (VO lab os=false):=by show _=_;rw [HT.out,List.getElem?_eq_none (by omega)]
 clear hrc HT HU HV HR HC;go_wp2;go_ret;exact⟨by rw [HE.out];rfl,b1⟩
def iG(os:List dG):List ByteArray->List ByteArray
 |[]=>[]
 |x::xs=>if VO (x::xs) os=true then x::xs else iG os xs
theorem Ui(h:VO y os=true):iG os y=y:=by
 cases y with
 |nil=>rfl
 |cons x xs=>rw [iG,if_pos h]
theorem aLr(h:VO y os=false)(hex:∃ j,j<=y.length∧VO (y.drop j) os=true):0<y.length∧iG os y=iG os (y.drop 1)∧∃ j,j<=(y.drop 1).length∧VO ((y.drop 1).drop j) os=true:=by
 obtain⟨j,hj,ht⟩:=hex
 cases j with
 |zero=>rw [List.drop_zero,h] at ht;cases ht
 |succ j=>
  cases y with
  |nil=>simp at hj
  |cons x xs=>
   refine⟨by simp,?_,j,by simpa using hj,by simpa using ht⟩;rw [iG,if_neg (by rw [h];decide)];rfl
def G_:Value->Nat
 |.slice _ k _=>k
 |_=>0
theorem aCi{w:World}{b off n cap:Nat}(h:Nm.bP w (.slice (some ⟨b,off,none⟩) n cap) y)(hn:0<n):n=y.length∧n<=cap∧(cap=1->Nm.bP w (.slice (some ⟨b,off,none⟩) 0 0) (y.drop 1))∧Nm.bP w (.slice (some ⟨b,off+1,none⟩) (n-1) (cap-1)) (y.drop 1):=by
 have e:n=y.length:=by
  obtain⟨a',cap',e,_⟩:=h;simp only [gK] at e;exact e.2.1
 have hc:n<=cap:=by
  obtain⟨a',cap',e2,h1,_⟩:=h;simp only [gK] at e2;omega
 subst e;refine⟨rfl,hc,fun gT=>?_,h.drop (k:=1) (by omega)⟩;have:=h.AY gT;rw [show y.length-1=0 by omega] at this;exact this
theorem Uj{w:World}{v:Value}(h:Nm.bP w v y)(hy:0<y.length):∃ b off cap,v=.slice (some ⟨b,off,none⟩) y.length cap:=by
 obtain⟨a,cap,rfl,_,_,_,hc⟩:=h;obtain⟨b,off,rfl,_⟩:=hc (by intro e;subst e;simp at hy);exact⟨b,off,cap,rfl⟩
theorem EX(bb oo th:Nat)(rv:Value)(os:List dG)(B:Nat)(nv:Value)(lab:List ByteArray)(w:World)(h:nQ w B th rv os)(hl:os.length<=500000)(hd:Yk os)(jD:mU w (jF th rv os) os)(hn:Nm.bP w nv lab)(FC:lab.length<=1000)(hc:w.cell? ⟨bb,oo+1,none⟩=some (ptr th))(zH:bb<w.heap.size)(hex:∃ j,j<=lab.length∧VO (lab.drop j) os=true):
 Calls Tryz.prog 56 #[.pointer (some ⟨bb,oo,none⟩),nv] w fun e w'=>∃ v,e=.returned v∧Nm.bP w' v (iG os lab)∧Below w.heap.size w w':=by
 have HI:Hid (∀ W,Below w.heap.size w W->∀ a n c y,Nm.bP W (.slice a n c) y->y.length<=1000->Calls Tryz.prog 60 #[.pointer (some ⟨bb,oo,none⟩),.slice a n c] W fun e w'=>e=.returned (.bool (VO y os))∧Below W.heap.size W w'):=fun W hW a n c y hy hyl=>VP bb oo th rv os B a n c y W (h.below hW) hl hd (fun o ho=>(jD o ho).outs (dN.below hW) (fun b hb=>.inl hb)) hy (by omega) (by rw [<- hc];exact hW.cell (p:=⟨bb,oo+1,none⟩) zH) (by have:=hW.size;omega)
 obtain⟨R,hR⟩:∃ R,R=iG os lab:=⟨_,rfl⟩;rw [<- hR];have HS:=Nm.aD (aV hn (aV hR.symm hex));obtain⟨na,nc,rfl,_⟩:=hn;clear h hd jD hc hex hR;go_enter Tryz.func56,Tryz.ntmps56;go_wp2
 go_loopw [1] (fun v wr=>∃ y:List ByteArray,Nm.bP wr v y∧y.length<=1000∧iG os y=R∧(∃ j,j<=y.length∧VO (y.drop j) os=true)∧Below w.heap.size w wr) (fun v _=>G_ v)
 ·exact⟨_,HS.out.1,FC,HS.out.2.1,HS.out.2.2,aJ _ _⟩
 obtain⟨y,hy,hyl,hyR,hyx,aG⟩:=hrel;have HY:=Nm.aD (aV hyR hyx);have HY2:=Nm.aD hy;obtain⟨ya,yc,rfl,_⟩:=hy;have hit:=HI.out _ aG _ _ _ y HY2.out hyl;clear hyR hyx
 cases hU:VO y os with
 |true=>
  rw [hU] at hit;have HN:=Nm.aD (Ui hU);clear hU;go_wp2_with fail
  refine hit.mono ?_;rintro e w1 ⟨rfl,b1⟩;go_wp2;go_ret;refine⟨_,rfl,?_,Nm.aC aG b1⟩;rw [<- HY.out.1,HN.out]
  exact HY2.out.below b1
 |false=>
  rw [hU] at hit;obtain⟨aKu,hgo,aPn⟩:=aLr hU HY.out.2;have HG:=Nm.aD (aV hgo aPn);clear hU hgo aPn;obtain⟨yb,yo,yc2,ev⟩:=Uj HY2.out aKu;simp only [gK,true_and] at ev;obtain⟨rfl,rfl⟩:=ev;have lN:=aCi HY2.out aKu;have sI:=lN.2.1;have HO:=Nm.aD lN;clear lN;have GD:(1:Int)<=(y.length:Int):=by omega
  by_cases mQ:yc=1
  ·subst mQ;have HS1:=Nm.aD (HO.out.2.2.1 rfl);go_wp2_with (go_at_call 60;refine hit.mono ?_;rintro e w1 ⟨rfl,b1⟩)
   go_roundw
   ·exact⟨y.drop 1,HS1.out.below b1,by simp;omega,by rw [<- HG.out.1];exact HY.out.1,HG.out.2,Nm.aC aG b1⟩
   simp only [G_];omega
  have hgt:1<yc:=by omega
  go_wp2_with (go_at_call 60;refine hit.mono ?_;rintro e w1 ⟨rfl,b1⟩)
  go_roundw
  ·exact⟨y.drop 1,(HO.out.2.2.2).below b1,by simp;omega,by rw [<- HG.out.1];exact HY.out.1,HG.out.2,Nm.aC aG b1⟩
  simp only [G_];omega
def vR(os:List dG)(lab:List ByteArray):Nat->Option dG
 |0=>none
 |n+1=>if EI (lab.drop n) 2 os=true then os[posOf (dX (lab.drop n)) os]? else vR os lab n
def cutV:Option dG->Value
 |some o=>.tuple #[ptr o.dS,.bool true]
 |none=>.tuple #[.pointer none,.bool false]
theorem VQ(bb oo th:Nat)(rv:Value)(os:List dG)(B:Nat)(na:Option Addr)(nc:Nat)(lab:List ByteArray)(aa:Option Addr)(an ac:Nat)(w:World)(h:nQ w B th rv os)(hl:os.length<=500000)(hd:Yk os)(jD:mU w (jF th rv os) os)(hn:Nm.bP w (.slice na lab.length nc) lab)(FC:lab.length<=1000)(hc:w.cell? ⟨bb,oo+1,none⟩=some (ptr th))(hca:w.cell? ⟨bb,oo,none⟩=some (.slice aa an ac))(zH:bb<w.heap.size)(han:an<=lab.length):
 Calls Tryz.prog 54 #[.pointer (some ⟨bb,oo,none⟩),.slice na lab.length nc] w fun e w'=>e=.returned (cutV (vR os lab (lab.length-an)))∧Below w.heap.size w w':=by
 have HG:Hid (∀ W,Below w.heap.size w W->∀ a n c y,Nm.bP W (.slice a n c) y->y.length<=1000->Calls Tryz.prog 70 #[ptr th,.slice a n c] W fun e w'=>Below W.heap.size W w'∧((gY (dX y) os=true∧∃ o,os[posOf (dX y) os]? =some o∧Nm.aN o.lab y=0∧e=.returned (.tuple #[ptr o.dS,.bool true]))∨(gY (dX y) os=false∧e=.returned (.tuple #[.pointer none,.bool false])))):=fun W hW a n c y hy hyl=>tN th rv os B (.slice a n c) y W (h.below hW) hl hd.1 (fun o ho=>(jD o ho).outs (dN.below hW) (fun b hb=>.inl hb)) hy (by omega)
 have HH:Hid (∀ o∈os,∀ W,Below w.heap.size w W->Calls Tryz.prog 95 #[ptr o.dS,.int .i64 2] W fun e w'=>e=.returned (.bool (gY (eP 2) o.ss))∧Below W.heap.size W w'):=fun o ho W hW=>wW o B 2 W ((h.below hW).jG o ho) (by have:=(hd.2 o ho).2.1;omega) (hd.2 o ho).1
 have HC:Hid (∀ W,Below w.heap.size w W->W.cell? ⟨bb,oo+1,none⟩=some (ptr th)):=fun W hW=>by rw [<- hc];exact hW.cell (p:=⟨bb,oo+1,none⟩) zH
 have HS:=Nm.aD hn;unfold ptr at HG HH HC;have YZ:lab.length<=nc:=by obtain⟨a',c',e2,h1,_⟩:=hn;simp only [gK] at e2;omega
 obtain⟨R,hR⟩:∃ R,R=vR os lab (lab.length-an):=⟨_,rfl⟩;rw [<- hR];have HR:=Nm.aD hR;clear h hd jD hc hn hR;have e1:(lab.length:Int)-(an:Int)-1=(((lab.length-an:Nat):Int))-1:=by omega
 have HE1:=Nm.aD e1;clear e1;go_enter Tryz.func54,Tryz.ntmps54;go_wp2
 go_loopw [6] (fun i wr=>∃ n:Nat,n<=lab.length∧i=.int .i64 ((n:Int)-1)∧vR os lab n=R∧Below w.heap.size w wr) (fun i _=>(intOf i+1).toNat)
 ·exact⟨lab.length-an,by omega,by rw [<- HE1.out],HR.out.symm,aJ _ _⟩
 obtain⟨n,hnn,rfl,hcR,aG⟩:=hrel
 cases n with
 |zero=>
  have HQ:Hid (R=none):=by show _=_;rw [<- hcR];rfl
  have i0:((0:Nat):Int)-1<0:=by omega
  clear hcR;go_wp2;go_ret2
  exact⟨by rw [HQ.out];rfl,aG⟩
 |succ n=>
  have e2:((n+1:Nat):Int)-1=(n:Int):=by omega
  rw [e2];have HCR:=Nm.aD hcR;have i0:=fE n
  have i1:(n:Int)<=(lab.length:Int):=by omega
  have i2:n<nc:=by omega
  clear hcR e2;obtain⟨b,off,cap,ev⟩:=Uj HS.out (by omega);simp only [gK,true_and] at ev;obtain⟨rfl,rfl⟩:=ev
  have El:Nm.bP wr.drew (.slice (some ⟨b,off+n,none⟩) (lab.length-n) (nc-n)) (lab.drop n):=by
   have:=(HS.out.drop (k:=n) (by omega)).below aG.drew;simp only [Option.map_some,Nm.addr_add] at this;exact this
  have i3:¬nc=n:=by omega
  go_wp2;refine kR (fun X=>X.cell? ⟨bb,oo+1,none⟩=some (.pointer (some ⟨th,0,none⟩))) 1000 (HC.out _ aG.drew) fun aY=>?_;refine kB 0 rfl ?_;refine kB 1 rfl ?_;refine kB 2 rfl ?_;refine kB 3 rfl ?_;refine kB 4 rfl ?_;refine kB 5 rfl ?_;refine kB 6 rfl ?_;refine k1 7 rfl fun K hK=>?_
  go_simp
  try simp only [if_neg i3]
  refine(HG.out _ aG.drew _ _ _ (lab.drop n) El (by simp;omega)).mono ?_;rintro e w1 ⟨b1,⟨kY,o,ho,oN,rfl⟩|⟨kY,rfl⟩⟩
  ·have JJ:=Nm.aC aG.drew b1;have hom:=dA ho;have Zh:=HH.out o hom w1 JJ
   have HT:Hid (vR os lab (n+1)=if gY (eP 2) o.ss=true then some o else vR os lab n):=by
    show _=_
    rw [vR,EI,ho];simp only [kY,Bool.true_and]
   clear ho oN kY hom b1;go_wp2_with fail
   refine hK.out _ _ (HC.out _ JJ) fun hH=>?_;clear hK K;refine kB 8 rfl ?_;refine kB 9 rfl ?_;refine kB 10 rfl ?_;refine k1 11 rfl fun K hK=>?_
   go_simp;refine hK.out _ _ (HC.out _ JJ) fun hH2=>?_;clear hK K;refine k1 12 rfl fun K hK=>?_
   go_simp;refine hK.out _ _ (HC.out _ JJ) fun hH3=>?_;clear hK K;refine kN ?_;clear hH hH2 hH3 aY El
   cases hi:gY (eP 2) o.ss with
   |true=>
    rw [hi] at Zh;have HQ:Hid (R=some o):=by show _=_;rw [<- HCR.out,HT.out,hi];rfl
    clear hi;go_wp2_with fail
    refine Zh.mono ?_;rintro e w2 ⟨rfl,b2⟩;go_wp2;go_ret2
    exact⟨by rw [HQ.out];rfl,Nm.aC JJ b2⟩
   |false=>
    rw [hi] at Zh;have HQ:Hid (vR os lab n=R):=by show _=_;rw [<- HCR.out,HT.out,hi];rfl
    clear hi;go_wp2_with (go_at_call 95;refine Zh.mono ?_;rintro e w2 ⟨rfl,b2⟩)
    go_roundw
    ·exact⟨n,by omega,by go_num,HQ.out,Nm.aC JJ b2⟩
    simp [intOf]
  have JJ:=Nm.aC aG.drew b1
  have HQ:Hid (vR os lab n=R):=by
   show _=_
   rw [<- HCR.out,vR,EI]
   cases os[posOf (dX (lab.drop n)) os]? with
   |none=>rfl
   |some o=>simp [kY]
  clear kY b1;go_wp2_with fail
  refine hK.out _ _ (HC.out _ JJ) fun hH=>?_;clear hK K;refine kB 8 rfl ?_;refine kB 9 rfl ?_;refine kB 10 rfl ?_;refine k1 11 rfl fun K hK=>?_
  go_simp;refine hK.out _ _ (HC.out _ JJ) fun hH2=>?_;clear hK K;refine k1 12 rfl fun K hK=>?_
  go_simp;refine hK.out _ _ (HC.out _ JJ) fun hH3=>?_;clear hK K;refine kN ?_;clear hH hH2 hH3 aY El;go_wp2;go_roundw
  ·exact⟨n,by omega,by go_num,HQ.out,JJ⟩
  simp [intOf]
structure Nd where
 kd:Int
 iK:ByteArray
 cut:ByteArray
 ty:List Int
def nd0:Nd:=⟨0,⟨#[]⟩,⟨#[]⟩,[]⟩
def sM(x:ByteArray):Nat:=((Nm.split x).getD []).length
def pF(o name:ByteArray)(s:Sz):Bool:=decide (s.ty=2)&& !eQ s.own o&&cZ name s.own
def mZ(o name best:ByteArray)(s:Sz):ByteArray:=if(pF o name s&&(decide (best=⟨#[]⟩)||decide (sM s.own<sM best)))=true then s.own else best
def uY(ss:List Sz)(o name:ByteArray):ByteArray:=ss.foldl (mZ o name) ⟨#[]⟩
def rO(ss:List Sz)(name:ByteArray):List Int:=(ss.filter fun s=>eQ s.own name).map (·.ty)
def xA(th:ByteArray->Bool):List ByteArray->List ByteArray
 |[]=>[]
 |x::xs=>if th (mJ (x::xs))=true then x::xs else xA th xs
def R8(name iK cut:ByteArray)(ty:List Int):Int:=
 if cut≠⟨#[]⟩ then(if eQ cut name=true then 4 else 5) else if 0<ty.length then 3 else if iK=name then 2 else 1
def tX(ps:List Zp)(o name:ByteArray):Nd:=
 if cZ name o=true then
  ⟨R8 name (mJ (xA (wZ ps o) ((Nm.split name).getD []))) (uY (ps.map (·.1)) o name) (rO (ps.map (·.1)) name),mJ (xA (wZ ps o) ((Nm.split name).getD [])),uY (ps.map (·.1)) o name,rO (ps.map (·.1)) name⟩
 else nd0
def ndR(ps:List Zp)(o name:ByteArray):Nd×Int:=if AO ps o=true∧(Nm.split name).isSome=true then(tX ps o name,0) else(nd0,32)
def tyT(os:List dG)(lab:List ByteArray):List Int:=if gY (dX lab) os=true then(match os[posOf (dX lab) os]? with|some q=>q.ss.map (·.ty)|none=>[]) else []
def Uk:Option dG->ByteArray
 |some q=>q.nm
 |none=>⟨#[]⟩
def kdT(lab iK:List ByteArray)(cut:Option dG)(own:Bool):Int:=match cut with
 |some q=>if q.lab.length=lab.length then 4 else 5
 |none=>if own=true then 3 else if iK.length=lab.length then 2 else 1
def ndT(os:List dG)(al lab:List ByteArray):Nd:=
 if aQ lab al=true then⟨kdT lab (iG os lab) (vR os lab (lab.length-al.length)) (gY (dX lab) os),mJ (iG os lab),Uk (vR os lab (lab.length-al.length)),tyT os lab⟩ else nd0
theorem Lu{name:ByteArray}(hz:AO ps o=true)(ha:Nm.split o=some al)(hn:Nm.split name=some lab)(hu:aQ lab al=true):∃ j,j<=lab.length∧wZ ps o (mJ (lab.drop j))=true:=by
 obtain⟨p,hp,xs,h1,h2⟩:=R6 hz ha;obtain⟨u1,u2⟩:=dJ.1 hu;have hj:=((iP hn).drop (lab.length-al.length)).jo;refine⟨lab.length-al.length,by omega,?_⟩;rw [wZ,bZ hj ha,pE u2,Bool.true_and,List.any_eq_true];refine⟨p,hp,?_⟩;rw [bZ h1 hj];exact pE (by rw [bQ u2];exact h2)
theorem TZ.aRx(h:TZ os o al)(uO:ps.map (·.1)=eH os)(P:ByteArray->Bool):(ps.any fun p=>P p.1.own)=true↔ ∃ q∈os,P q.nm=true:=by
 have e:(ps.any fun p=>P p.1.own)=(eH os).any fun z=>P z.own:=by rw [<- uO,List.any_map];rfl
 rw [e,List.any_eq_true];constructor
 ·rintro⟨z,hz,hp⟩
  obtain⟨g,hg,rfl⟩:=kJ hz;exact⟨g.1,(fT.1 hg).1,hp⟩
 rintro⟨q,hq,hp⟩
 obtain⟨s,hs⟩:=h.full q hq;exact⟨mO (q,s),List.mem_map_of_mem (fT.2 ⟨hq,hs⟩),hp⟩
theorem TZ.th(h:TZ os o al)(uO:ps.map (·.1)=eH os)(hy:Gl y)(hu:aQ y al=true):VO y os=wZ ps o (mJ y):=by
 rw [wZ,bZ hy.jo h.ap,hu,Bool.true_and];apply Bool.eq_iff_iff.2;rw [Lt h.iT.1,h.aRx uO (fun x=>cZ x (mJ y))]
 constructor<;>rintro⟨q,hq,hp⟩<;>refine⟨q,hq,?_⟩
 ·rw [bZ (h.nm q hq) hy.jo];exact hp
 rw [bZ (h.nm q hq) hy.jo] at hp;exact hp
theorem TZ.aLs(h:TZ os o al)(hu:Nm.aN y al=0):VO y os=true:=by
 obtain⟨q,hq,e⟩:=h.top;exact(Lt h.iT.1 y).2 ⟨q,hq,pE (by rw [bQ hu];exact e)⟩
theorem TZ.iK(h:TZ os o al)(uO:ps.map (·.1)=eH os):∀ (y:List ByteArray),Gl y->aQ y al=true->iG os y=xA (wZ ps o) y
 |[],_,_=>rfl
 |x::xs,hy,hu=>by
  rw [iG,xA,h.th uO hy hu]
  cases hq:wZ ps o (mJ (x::xs)) with
  |true=>rfl
  |false=>
   simp only [Bool.false_eq_true,if_false];refine h.iK uO xs hy.tail ?_;obtain⟨u1,u2⟩:=dJ.1 hu
   rcases Nat.lt_or_ge al.length (x::xs).length with h1|h1
   ·exact NU hu (k:=1) (by omega)
   rw [show(x::xs).length-al.length=0 by omega,List.drop_zero] at u2;have:=h.aLs u2;rw [h.th uO hy hu,hq] at this;cases this
theorem TZ.hex(h:TZ os o al)(hu:aQ lab al=true):∃ j,j<=lab.length∧VO (lab.drop j) os=true:=by
 obtain⟨u1,u2⟩:=dJ.1 hu;exact⟨lab.length-al.length,by omega,h.aLs u2⟩
theorem JK(h:Jz os)(lab:List ByteArray):(gY (dX lab) os=true∧∃ q∈os,os[posOf (dX lab) os]? =some q∧Nm.aN q.lab lab=0)∨(gY (dX lab) os=false∧∀ q∈os,Nm.aN q.lab lab≠0):=by
 rcases sG (f:=dX lab) h (TK lab) with⟨hi,A,C,e,hp,ha,hc⟩|⟨hi,A,o,C,e,hp,h0,ha,hc⟩
 ·refine .inr ⟨hi,fun q hq h1=>?_⟩;rw [e] at hq
  rcases iU hq with hq|hq
  ·have:=ha q hq;rw [dX] at this;omega
  have:=hc q hq;rw [dX] at this;omega
 obtain⟨x,hx,h0⟩:=uP hi;exact .inl ⟨hi,x,dA hx,hx,h0⟩
def tyF(lab:List ByteArray)(q:dG):List Int:=if Nm.aN q.lab lab=0 then q.ss.map (·.ty) else []
theorem Ul{name:ByteArray}(hn:Nm.split name=some lab):∀ (os:List dG),(∀ q∈os,Nm.split q.nm=some q.lab)->rO (eH os) name=os.flatMap (tyF lab)
 |[],_=>rfl
 |q::os,h=>by
  have ih:=Ul hn os (fun r hr=>h r (List.mem_cons_of_mem _ hr))
  have e1:eH (q::os)=(q.ss.map fun s=>mO (q,s))++eH os:=by
   simp [eH,NM,List.flatMap_cons,List.map_append,List.map_map,Function.comp_def]
  have e2:rO (eH (q::os)) name=rO (q.ss.map fun s=>mO (q,s)) name++rO (eH os) name:=by
   rw [e1,rO,rO,rO,List.filter_append,List.map_append]
  rw [e2,ih,List.flatMap_cons];congr 1;have hs:eQ q.nm name=decide (Nm.aN q.lab lab=0):=nC (h q List.mem_cons_self) hn;rw [rO,tyF]
  by_cases hc:Nm.aN q.lab lab=0
  ·rw [if_pos hc,List.filter_eq_self.2 (fun z hz=>by obtain⟨s,-,rfl⟩:=kJ hz;show eQ q.nm name=true;rw [hs];simpa using hc)];rw [List.map_map];rfl
  rw [if_neg hc,List.filter_eq_nil_iff.2 (fun z hz=>by obtain⟨s,-,rfl⟩:=kJ hz;show ¬eQ q.nm name=true;rw [hs];simpa using hc)];rfl
theorem R9(h:∀ q∈os,Nm.aN q.lab lab≠0):os.flatMap (tyF lab)=[]:=by
 rw [List.flatMap_eq_nil_iff];intro q hq;rw [tyF,if_neg (h q hq)]
theorem Um:∀ {os:List dG},Jz os->∀ q∈os,Nm.aN q.lab lab=0->os.flatMap (tyF lab)=q.ss.map (·.ty)
 |[],_,_,hq,_=>by cases hq
 |r::os,h,q,hq,h0=>by
  obtain⟨h1,h2⟩:=List.pairwise_cons.1 h;rw [List.flatMap_cons]
  rcases List.mem_cons.1 hq with rfl|hq
  ·rw [R9 (lab:=lab) (fun x hx e=>by have:=h1 x hx;rw [dB h0,] at this;have h9:=iC e;omega),tyF,if_pos h0,List.append_nil]
  have:=h1 q hq;rw [Um h2 q hq h0,tyF,if_neg (fun e=>by rw [dB e] at this;have h9:=iC h0;omega)];rfl
theorem TZ.ty{name:ByteArray}(h:TZ os o al)(hn:Nm.split name=some lab):tyT os lab=rO (eH os) name∧(gY (dX lab) os=true↔0<(rO (eH os) name).length):=by
 rw [Ul hn os h.nm,tyT]
 rcases JK h.iT.1 lab with⟨hi,q,hq,hp,h0⟩|⟨hi,gI⟩
 ·rw [Um h.iT.1 q hq h0,hi,hp];refine⟨rfl,fun _=>?_,fun _=>rfl⟩;obtain⟨s,hs⟩:=h.full q hq;have:=List.length_pos_of_mem hs;simpa using this
 rw [R9 gI,hi];simp
theorem CS(hs:Jz os∧∀ q∈os,VE q.ss):∀ (n:Nat),(vR os lab n=none∧∀ m,m<n->EI (lab.drop m) 2 os=false)∨(∃ m q,m<n∧vR os lab n=some q∧q∈os∧Nm.aN q.lab (lab.drop m)=0∧(∃ s∈q.ss,s.ty=2)∧∀ m',m<m'->m'<n->EI (lab.drop m') 2 os=false)
 |0=>.inl ⟨rfl,fun m hm=>by omega⟩
 |n+1=>by
  cases hh:EI (lab.drop n) 2 os with
  |true=>
   refine .inr ⟨n,?_⟩;obtain⟨q,hq,h0,h2⟩:=(JC hs _ _).1 hh
   rcases JK hs.1 (lab.drop n) with⟨hi,r,hr,hp,GU⟩|⟨hi,gI⟩
   ·have El:∃ s∈r.ss,s.ty=2:=by
     rw [EI,hp,hi] at hh;exact(yN (hs.2 r hr) 2).1 hh
    exact⟨r,by omega,by rw [vR,if_pos hh];exact hp,hr,GU,El,fun m' h1 h2=>by omega⟩
   exact absurd h0 (gI q hq)
  |false=>
   have e:vR os lab (n+1)=vR os lab n:=by rw [vR,if_neg (by rw [hh];decide)]
   rw [e]
   rcases CS hs n with⟨h1,h2⟩|⟨m,q,h1,h2,h3,h4,h5,h6⟩
   ·refine .inl ⟨h1,fun m hm=>?_⟩
    rcases Nat.lt_or_ge m n with h|h
    ·exact h2 m h
    obtain rfl:m=n:=by omega
    exact hh
   refine .inr ⟨m,q,by omega,h2,h3,h4,h5,fun m' ha hb=>?_⟩
   rcases Nat.lt_or_ge m' n with h|h
   ·exact h6 m' ha h
   obtain rfl:m'=n:=by omega
   exact hh
theorem Cm(o name best:ByteArray)(s:Sz):(mZ o name best s=s.own∧pF o name s=true∧(best=⟨#[]⟩∨sM s.own<sM best))∨(mZ o name best s=best∧(pF o name s=false∨(best≠⟨#[]⟩∧sM best<=sM s.own))):=by
 rw [mZ];split
 ·rename_i h;simp only [Bool.and_eq_true,Bool.or_eq_true,decide_eq_true_eq] at h;exact .inl ⟨rfl,h⟩
 rename_i h;refine .inr ⟨rfl,?_⟩;cases hc:pF o name s
 ·exact .inl rfl
 rw [hc] at h;simp only [Bool.true_and,Bool.or_eq_true,decide_eq_true_eq,not_or,Nat.not_lt] at h;exact .inr h
theorem EK(o name:ByteArray)(dM:∀ s:Sz,pF o name s=true->s.own≠⟨#[]⟩)(ss:List Sz):(uY ss o name=⟨#[]⟩∧∀ s∈ss,pF o name s=false)∨(∃ s∈ss,uY ss o name=s.own∧pF o name s=true∧∀ t∈ss,pF o name t=true->sM s.own<=sM t.own):=by
 refine vP (P:=fun ss=>(uY ss o name=⟨#[]⟩∧∀ s∈ss,pF o name s=false)∨(∃ s∈ss,uY ss o name=s.own∧pF o name s=true∧∀ t∈ss,pF o name t=true->sM s.own<=sM t.own)) (.inl ⟨rfl,by simp⟩) (fun l a ih=>?_) ss;have e:uY (l++[a]) o name=mZ o name (uY l o name) a:=by simp [uY,List.foldl_append]
 rw [e]
 rcases ih with⟨h1,h2⟩|⟨s,hs,h1,h2,h3⟩
 ·rw [h1]
  rcases Cm o name ⟨#[]⟩ a with⟨e1,e2,e3⟩|⟨e1,e2|⟨e2,-⟩⟩
  ·refine .inr ⟨a,by simp,e1,e2,fun t ht hc=>?_⟩
   rcases iU ht with ht|ht
   ·rw [h2 t ht] at hc;cases hc
   rw [List.mem_singleton.1 ht];exact aI _
  ·refine .inl ⟨e1,fun s hs=>?_⟩
   rcases iU hs with hs|hs
   ·exact h2 s hs
   rw [List.mem_singleton.1 hs];exact e2
  exact absurd rfl e2
 rw [h1]
 rcases Cm o name s.own a with⟨e1,e2,e3⟩|⟨e1,e2⟩
 ·have e4:sM a.own<sM s.own:=by
   rcases e3 with e3|e3
   ·exact absurd e3 (dM s h2)
   exact e3
  refine .inr ⟨a,by simp,e1,e2,fun t ht hc=>?_⟩
  rcases iU ht with ht|ht
  ·have:=h3 t ht hc;omega
  rw [List.mem_singleton.1 ht];exact aI _
 refine .inr ⟨s,by simp [hs],e1,h2,fun t ht hc=>?_⟩
 rcases iU ht with ht|ht
 ·exact h3 t ht hc
 rw [List.mem_singleton.1 ht] at hc ⊢
 rcases e2 with e2|e2
 ·rw [e2] at hc;cases hc
 exact e2.2
theorem Un{a:ByteArray}{xs:List ByteArray}(h:Nm.split a=some xs):a≠⟨#[]⟩:=by
 rintro rfl;have:=(Nm.dK h).1;simp [ByteArray.size] at this
theorem Lv{name:ByteArray}{s:Sz}(h:pF o name s=true):s.own≠⟨#[]⟩:=by
 rw [pF,Bool.and_eq_true] at h;intro e;have h2:=h.2;rw [MH (by rw [e];cases hq:Nm.split ⟨#[]⟩ with|none=>rfl|some xs=>exact absurd rfl (Un hq))] at h2;cases h2
theorem R_{a:ByteArray}{xs:List ByteArray}(h:Nm.split a=some xs):sM a=xs.length:=by rw [sM,h];rfl
theorem TZ.aLt{name:ByteArray}(h:TZ os o al)(hn:Nm.split name=some lab){q:dG}{s:nY}(hq:q∈os):pF o name (mO (q,s))=true↔s.ty=2∧al.length<q.lab.length∧aQ lab q.lab=true:=by
 have e1:eQ q.nm o=decide (Nm.aN q.lab al=0):=nC (h.nm q hq) h.ap;have e2:cZ name q.nm=aQ lab q.lab:=bZ hn (h.nm q hq)
 show(decide (s.ty=2)&& !eQ q.nm o&&cZ name q.nm)=true↔_
 rw [e1,e2,Hr (h.und q hq)];simp only [Bool.and_eq_true,decide_eq_true_eq,Bool.not_eq_true',decide_eq_false_iff_not];rw [and_assoc]
theorem TZ.cut{name:ByteArray}(h:TZ os o al)(hn:Nm.split name=some lab)(hu:aQ lab al=true):Uk (vR os lab (lab.length-al.length))=uY (eH os) o name:=by
 have XI:=(dJ.1 hu).1
 rcases CS (lab:=lab) h.iT (lab.length-al.length) with⟨c1,c2⟩|⟨m,q,c1,c2,c3,c4,⟨s,hs,oU⟩,c6⟩
 ·rw [c1]
  rcases EK o name (fun s hs=>Lv hs) (eH os) with⟨z1,z2⟩|⟨z,hz,z1,z2,z3⟩
  ·rw [z1];rfl
  exfalso
  obtain⟨g,hg,rfl⟩:=kJ hz;obtain⟨g1,g2⟩:=fT.1 hg;obtain⟨k1,k2,k3⟩:=(h.aLt hn g1).1 z2;obtain⟨u1,u2⟩:=dJ.1 k3;have h1:=c2 (lab.length-g.1.lab.length) (by omega);rw [(JC h.iT _ _).2 ⟨g.1,g1,iC u2,g.2,g2,k1⟩] at h1;cases h1
 rw [c2];have hlq:q.lab.length=lab.length-m:=by rw [nG c4,List.length_drop]
 have hcq:pF o name (mO (q,s))=true:=(h.aLt hn c3).2 ⟨oU,by omega,dJ.2 ⟨by omega,by rw [hlq,show lab.length-(lab.length-m)=m by omega];exact iC c4⟩⟩
 rcases EK o name (fun s hs=>Lv hs) (eH os) with⟨z1,z2⟩|⟨z,hz,z1,z2,z3⟩
 ·rw [z2 _ (List.mem_map_of_mem (fT.2 ⟨c3,hs⟩))] at hcq;cases hcq
 obtain⟨g,hg,rfl⟩:=kJ hz;obtain⟨g1,g2⟩:=fT.1 hg;obtain⟨k1,k2,k3⟩:=(h.aLt hn g1).1 z2;obtain⟨u1,u2⟩:=dJ.1 k3;have hle:sM g.1.nm<=sM q.nm:=z3 _ (List.mem_map_of_mem (fT.2 ⟨c3,hs⟩)) hcq;rw [R_ (h.nm g.1 g1),R_ (h.nm q c3)] at hle
 have K6:¬m<lab.length-g.1.lab.length:=fun bY=>by
  have h1:=c6 (lab.length-g.1.lab.length) bY (by omega);rw [(JC h.iT _ _).2 ⟨g.1,g1,iC u2,g.2,g2,k1⟩] at h1;cases h1
 have hm:lab.length-g.1.lab.length=m:=by omega
 rw [hm] at u2;have e:=h.one q c3 g.1 g1 (by rw [dB c4];exact u2);rw [z1,e];rfl
theorem Cn(os:List dG):∀ (y:List ByteArray),∃ k,k<=y.length∧iG os y=y.drop k
 |[]=>⟨0,aI _,rfl⟩
 |x::xs=>by
  rw [iG];split
  ·exact⟨0,dR _,rfl⟩
  obtain⟨k,hk,e⟩:=Cn os xs;exact⟨k+1,by simpa using hk,by rw [e];rfl⟩
theorem Co(name iK:ByteArray)(ty:List Int):R8 name iK ⟨#[]⟩ ty=if 0<ty.length then 3 else if iK=name then 2 else 1:=by rw [R8,if_neg (by simp)]
theorem Uo{name iK cut:ByteArray}{ty:List Int}(h:cut≠⟨#[]⟩):R8 name iK cut ty=if eQ cut name=true then 4 else 5:=by rw [R8,if_pos h]
theorem TZ.nd{name:ByteArray}(h:TZ os o al)(uO:ps.map (·.1)=eH os)(hn:Nm.split name=some lab):ndT os al lab=tX ps o name:=by
 have hg:=iP hn;rw [ndT,tX,bZ hn h.ap,hn];cases hu:aQ lab al
 ·rfl
 simp only [if_true,Option.getD_some];rw [uO,<- h.iK uO lab hg hu,<- h.cut hn hu,<- (h.ty hn).1];congr 1;obtain⟨k,hk,ek⟩:=Cn os lab;have tT:=(h.ty hn).2;rw [<- (h.ty hn).1] at tT
 rcases CS (lab:=lab) h.iT (lab.length-al.length) with⟨c1,c2⟩|⟨m,q,c1,c2,c3,c4,-,c6⟩
 ·rw [c1,kdT,Uk,Co]
  cases hi:gY (dX lab) os with
  |true=>simp only [if_true,if_pos (tT.1 hi)]
  |false=>
   have hnt:¬0<(tyT os lab).length:=fun e=>by rw [tT.2 e] at hi;cases hi
   simp only [Bool.false_eq_true,if_false,if_neg hnt]
   have e2:(iG os lab).length=lab.length↔mJ (iG os lab)=name:=by
    rw [ek];constructor
    ·intro e;rw [List.length_drop] at e
     rcases Nat.eq_zero_or_pos k with rfl|Ke
     ·rw [List.drop_zero];exact vQ hn
     have h0:lab.length=0:=by omega
     rw [show lab.drop k=lab by rw [List.length_eq_zero_iff.1 h0];simp];exact vQ hn
    intro e;rw [aLp (hg.drop k) hg (by rw [e,vQ hn])]
   by_cases hc:(iG os lab).length=lab.length
   ·rw [if_pos hc,if_pos (e2.1 hc)]
   rw [if_neg hc,if_neg (fun e=>hc (e2.2 e))]
 rw [c2,kdT,Uk,Uo (Un (h.nm q c3)),nC (h.nm q c3) hn];have hlq:q.lab.length=lab.length-m:=by rw [nG c4,List.length_drop]
 by_cases hm:q.lab.length=lab.length
 ·have e:lab.drop m=lab:=by
   rcases Nat.eq_zero_or_pos m with rfl|h0
   ·rfl
   have h1:lab.length=0:=by omega
   rw [List.length_eq_zero_iff.1 h1];simp
  rw [e] at c4;rw [if_pos hm,if_pos (by simpa using c4)]
 rw [if_neg hm,if_neg (fun e=>hm (nG (by simpa using e)))]
