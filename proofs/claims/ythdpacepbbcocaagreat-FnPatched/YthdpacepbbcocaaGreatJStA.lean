import Derived.Test.YthdpacepbbcocaaGreatJZrI
import Derived.Test.YthdpacepbbcocaaGreatDlE
import Derived.Test.YthdpacepbbcocaaGreatJFoldN
import Derived.Handy
set_option linter.unusedVariables false
set_option maxRecDepth 100000
set_option maxHeartbeats 3200000
namespace Go.Proofs.YthdpacepbbcocaaGreat
open Go.RowKit
theorem Dh(r:Rr)(w:World):
 Calls Tryz.prog 47 #[.agg #[.string r.own,.int .i64 r.ty,.int .i64 r.cl,.int .i64 r.tt,.string r.da]] w fun e w'=>e=.returned (.bool (xM r))∧Below w.heap.size w w':=by
 have hB:=(aK w.heap.size w).alloc (aN _) (.cells #[.string r.own,.int .i64 r.ty,.int .i64 r.cl,.int .i64 r.tt,.string r.da] 29);obtain⟨o,ty,cl,tt,da⟩:=r;simp only at*
 have e1:(ty==6)=decide (ty=6):=by by_cases h:ty=6<;>simp [h]
 go_enter Tryz.func47,Tryz.ntmps47;go_wp2;go_ret;exact⟨rfl,hB⟩
def Vn(xs:List Rr):Int:=match xs.findIdx? (xM) with
 |some k=>k
 |none=> -1
theorem MS(v:Value)(xs:List Rr)(w:World)(h:bS w v xs.length 5 (bK xs)):
 Calls Tryz.prog 81 #[v,.func (.func 47) #[] #[]] w fun e w'=>e=.returned (.int .i64 (Vn xs))∧Below w.heap.size w w':=by
 obtain⟨_,a,cap,rfl,gY,kK,hc⟩:=h;unfold maxLen at kK;go_enter Tryz.func81,Tryz.ntmps81;go_wp2
 go_loopw [8] (fun i wr=>∃ k:Nat,k<=xs.length∧i=.int .i64 k∧Hid (∀ j y,j<k->xs[j]? =some y->xM y=false)∧Below w.heap.size w wr) (fun i _=>xs.length-(intOf i).toNat)
 case atStart=>exact⟨0,dO _,rfl,by show ∀ _,_;intro j y hj;omega,aK _ _⟩
 obtain⟨k,hk,rfl,HA,aJ⟩:=hrel
 by_cases bV:k<xs.length
 ·obtain⟨x,nI⟩:∃ x,xs[k]? =some x:=⟨_,bY bV⟩;obtain⟨b,off,rfl,aL⟩:=hc (by omega);obtain⟨c0,c1,c2,c3,c4⟩:=gT aL nI;have put:∀ {O:Nat} {z:Value},w.cell? ⟨b,O,none⟩=some z->wr.cell? ⟨b,O,none⟩=some z:=fun h=>(aJ.cell (eB w _ h)).trans h
  replace c0:=put c0
  replace c1:=put c1
  replace c2:=put c2
  replace c3:=put c3
  replace c4:=put c4
  have jW:=Dh x wr;have i1:(0:Int)<=(k:Int):=by omega
  have i2:(k:Int)<(xs.length:Int):=by omega
  have HXK:=Nm.aF nI;cases Ay:xM x
  ·have HA2:Hid (∀ j y,j<k+1->xs[j]? =some y->xM y=false):=by
    show ∀ _,_
    intro j y hj hy
    by_cases hjk:j=k
    ·subst hjk;rw [HXK.out] at hy;obtain rfl:=gQ hy;exact Ay
    exact HA.out j y (by omega) hy
   rw [Ay] at jW;clear Ay nI aL hc put;obtain⟨o,ty,cl,tt,da⟩:=x;simp only at*
   go_wp2_with fail
   refine jW.mono ?_;rintro e w1 ⟨rfl,fF⟩;have aGo:=Nm.aC aJ fF;go_wp2;go_roundw
   case rel=>exact⟨k+1,by omega,by go_num,HA2,aGo⟩
   simp [intOf];omega
  have HO:Hid (Vn xs=(k:Int)):=by
   show _=_
   have:xs.findIdx? (xM)=some k:=by
    rw [List.findIdx?_eq_some_iff_getElem];obtain⟨sS,e⟩:=dK HXK.out;refine⟨sS,by rw [e];exact Ay,fun j hj=>?_⟩;have:=HA.out j xs[j] hj (bY (by omega));simp only [this];decide
   rw [Vn,this]
  rw [Ay] at jW;clear Ay nI aL hc put;obtain⟨o,ty,cl,tt,da⟩:=x;simp only at*
  go_wp2_with fail
  refine jW.mono ?_;rintro e w1 ⟨rfl,fF⟩;have aGo:=Nm.aC aJ fF;go_wp2;go_ret;exact⟨by rw [HO.out];rfl,aGo⟩
 have nS:k=xs.length:=by omega
 have HO:Hid (Vn xs= -1):=by
  show _=_
  have:xs.findIdx? (xM)=none:=by
   rw [List.findIdx?_eq_none_iff];intro x hx;obtain⟨j,hj,e⟩:=List.getElem_of_mem hx;exact HA.out j x (by omega) (by rw [bY hj,e])
  rw [Vn,this]
 subst nS;have i2:¬(xs.length:Int)<(xs.length:Int):=by omega
 clear hc;go_wp2;go_ret;exact⟨by rw [HO.out];rfl,aJ⟩
theorem aGp{xs:List Rr}{r:Rr}(h:xs.find? xM=some r):∃ k:Nat,k<xs.length∧xs[k]? =some r∧Vn xs=(k:Int):=by
 obtain⟨hp,k,hk,e,bV⟩:=List.find?_eq_some_iff_getElem.1 h
 have hf:xs.findIdx? xM=some k:=by
  rw [List.findIdx?_eq_some_iff_getElem];exact⟨hk,by rw [e];exact hp,fun j hj=>by have:=bV j hj;simpa using this⟩
 exact⟨k,hk,by rw [bY hk,e],by rw [Vn,hf]⟩
theorem aGq{w:World}{B e s n:Nat}{v:Value}{xs:List Value}(h:w.ownsRow B e s v n xs)(hn:0<n):∃ g c,v=.slice (some ⟨g,0,none⟩) n c:=by
 rcases h.2 with⟨_,h0⟩|⟨g,c,_,e,_⟩
 ·omega
 exact⟨g,c,e⟩
theorem TA{P:Program}{t ty e:TypeId}{i:TypeInfo}(ht:P.underlying t=some (.slice e))(hi:P.info? e=some i)(ad:Option Addr)(n c:Nat)(hn:n<=c)(w:World):
 (Builtin.append_ #[t,t] ty #[.slice ad n c,.slice none 0 0]).run P w=.ok (.slice ad n c) w:=by
 have hs:Go.Src P i.size t (.slice none 0 0) 0 [] w:=Go.Src.ofNil w ht 0
 cases ad with
 |none=>simp [Builtin.append_,run_underlying ht,sizeOf,typeInfo,hi,hs.len,hn,hs.cells]
 |some a=>simp [Builtin.append_,run_underlying ht,sizeOf,typeInfo,hi,hs.len,hn,hs.cells,storeCells]
theorem KL{P:Program}{ops:Array Oper}{rest:List Oper}{o:Oper}{a:Act}{Q:Exit->Act->World->Prop}(w:World)(Ce:o.guard=none)(s x:Operand)(t:TypeId)
 (ho:o.op=.call {callee:=.builtin .append,args:=#[s,x],argTypes:=#[t,t]}) (e:TypeId) (i:TypeInfo) (ht:P.underlying t=some (.slice e)) (hi:P.info? e=some i) (ad:Option Addr) (n c:Nat)
 (hs:a.eval s=.slice ad n c) (hx:a.eval x=.slice none 0 0) (hn:n<=c) (h:wpList P ops Q rest (a.put o.dst (.slice ad n c)) w):wpList P ops Q (o::rest) a w:=by
 refine wpList_plain Ce fun K hK=>?_
 have hr:=TA (P:=P) (ty:=o.type) ht hi ad n c hn w;unfold Oper.wp execOp;simp only [ho,resolve,invoke,builtin,Sem.run_bind,Sem.run_pure,Result.andThen_ok,List.map_toArray,List.map_cons,List.map_nil,hs,hx,hr];exact hK _ _ h
theorem vC(o:ByteArray)(v:Value)(ps:List Zp)(w:World)(h:gI w v ps)(hs:rG ps<=1048576)(hf:∀ p∈ps,∀ x∈p.1.da,x.size<=1048576):
 Calls Tryz.prog 76 #[.agg #[.string o,v]] w fun e w'=>∃ u,e=.returned u∧w'.ownsRow w.heap.size 29 5 u (aD ps).length (bK (aD ps))∧Below w.heap.size w w':=by
 obtain⟨i0,hi,iJ,fP,fZ⟩:=info_parts Tryz.aAx
 have pG:∀ p∈ps,p.1.own.size<=1048576∧p.1.da.length<=1048576:=by
  intro p hp;have:=Lm ps p hp;unfold zs1 at this;omega
 obtain⟨RS,Vk⟩:∃ R,R=aD ps:=⟨_,rfl⟩;rw [<- Vk];unfold aD at Vk;have jF:=(aK w.heap.size w).alloc (aN _) (.cells #[.string o,v] 25);have MP:=aH w #[.string o,v] 25;have CO:=h;have xQ:=Nk o v ps _ (h.below jF) (fun p hp=>(pG p hp).2);obtain⟨⟨_,a,cap,rfl,gY,kK,_⟩,_⟩:=h;unfold maxLen at kK
 by_cases Gu:ps.length<=500∧jD ps<=500
 ·rw [nD Gu] at xQ;have aGm:RS=dI ps:=by rw [Vk,if_neg (by omega)]
  obtain⟨nJ,oI⟩:=Gu;have aOy:(ps.length:Int)<=500:=by omega
  clear Vk;have hdd:∀ k,jD (ps.take k)<=500:=fun k=>by have:=vN ps k;omega
  have Gn:=fun k=>uK (ps.take k)
  have xV:=fun(k:Nat) (x:Zp) (h:ps[k]? =some x)=>MO h
  have Vl:=fun(k:Nat) (x:Zp) (h:ps[k]? =some x)=>GY ps k x h
  go_enter Tryz.func76,Tryz.ntmps76;go_wp2_with (go_at_call 103;refine xQ.mono ?_;rintro e w1 ⟨rfl,fF⟩;have q1:w1.cell? ⟨w.heap.size,1,none⟩=some (.slice a ps.length cap):=(aA (aB MP fF) 1).trans rfl)
  have xL:=Nm.aC jF fF;clear xQ jF MP fF q1
  go_loopw [3,12] (fun vo vi wr=>∃ k:Nat,k<=ps.length∧vi=.int .i64 k∧wr.ownsRow w.heap.size 29 5 vo (dI (ps.take k)).length (bK (dI (ps.take k)))∧Below w.heap.size w wr) (fun _ vi _=>ps.length-(intOf vi).toNat)
  case atStart=>exact⟨0,dO _,rfl,⟨rfl,.inl ⟨rfl,rfl⟩⟩,xL⟩
  obtain⟨k,hk,rfl,oO,aJ⟩:=hrel;clear xL
  by_cases bV:k<ps.length
  ·obtain⟨x,nI⟩:∃ x,ps[k]? =some x:=⟨_,bY bV⟩;obtain⟨⟨_,a',cap',hv,_,_,hc⟩,Jk⟩:=CO.below aJ;simp only [iG] at hv;obtain⟨rfl,_,rfl⟩:=hv;obtain⟨b,off,rfl,aL⟩:=hc (by omega);obtain⟨c0,c1,c2,c3⟩:=lG aL nI;have wX:=bP nI;obtain⟨dva,dvc,hdv⟩:∃ a c,x.2=.slice a x.1.da.length c:=by obtain⟨a,c,e,_⟩:=Jk x wX;exact⟨a,c,e⟩
   have hBa:=(aK wr.heap.size wr).alloc (aN _) (.cells #[.string x.1.own,.int .i64 x.1.ty,.int .i64 x.1.tt,x.2] 60);have jW:=Nl x.1 x.2 _ ((Jk x wX).below hBa) (pG x wX).2 (pG x wX).1 (hf x wX);have Me:Below w.heap.size w (wr.alloc (.cells #[.string x.1.own,.int .i64 x.1.ty,.int .i64 x.1.tt,x.2] 60)):=aJ.alloc aJ.size _;have oO1:=own_below oO hBa;have nA:=xV k x nI;have hld:=Vl k x nI;have IM:=hdd (k+1);have hl0:=Gn k;have CX:=qP x.1;have i1:(0:Int)<=(k:Int):=by omega
   have i2:(k:Int)<(ps.length:Int):=by omega
   have hlen:(dI (ps.take k)).length+(fA x.1).length<=500:=by omega
   have HT:Hid (bK (dI (ps.take k))++bK (fA x.1)=bK (dI (ps.take (k+1)))):=by show _=_;rw [nA,jX]
   have HL:Hid ((dI (ps.take k)).length+(fA x.1).length=(dI (ps.take (k+1))).length):=by show _=_;rw [nA,nG]
   have h1c:=aJ9 (fA x.1);have aPd:=pU (fA x.1);have aM4:x.1.da=[]->fA x.1=[]:=by intro h;simp [fA,h]
   clear aL hc Jk xV Vl Gn hdd nA hld hl0 wX nI;generalize dI (ps.take k)=R0 at*;generalize hR1:dI (ps.take (k+1))=R1 at*;generalize fA x.1=R2 at*
   by_cases Jn:x.1.da=[]
   ·have hR2:=aM4 Jn;subst hR2;have aL2:Calls Tryz.prog 104 #[.agg #[.string x.1.own,.int .i64 x.1.ty,.int .i64 x.1.tt,x.2]] (wr.alloc (.cells #[.string x.1.own,.int .i64 x.1.ty,.int .i64 x.1.tt,x.2] 60)) fun e w'=>e=.returned (.slice none 0 0)∧Below (wr.alloc (.cells #[.string x.1.own,.int .i64 x.1.ty,.int .i64 x.1.tt,x.2] 60)).heap.size (wr.alloc (.cells #[.string x.1.own,.int .i64 x.1.ty,.int .i64 x.1.tt,x.2] 60)) w':=jW.mono (by rintro e w' ⟨u,rfl,_,hn,hb⟩;exact⟨by rw [hn Jn],hb⟩)
    clear jW Jn aM4;obtain⟨⟨o1,ty,tt,da⟩,dv⟩:=x;simp only at c0 c1 c2 c3 aL2 Me oO1 hdv
    subst hdv;obtain⟨oa,oc,hov⟩:=aT oO;subst hov
    have hoc:R0.length<=oc:=by
     rcases oO.2 with⟨h0,h1⟩|⟨g,c,_,h0,_,_,h1,_⟩
     ·rw [h1];exact dO _
     simp only [iG] at h0;omega
    go_wp2_with (first|(go_at_call 104;refine aL2.mono ?_;rintro e w2 ⟨rfl,iE⟩;have oO2:=own_below oO1 iE;have MU:=Nm.aC Me iE)|(at_builtin;refine KL _ rfl (.tmp 16) (.tmp 18) 30 rfl 29 i0 Tryz.underlying30 hi oa R0.length oc rfl rfl hoc ?_))
    have eT:=HT.out;rw [show bK ([]:List Rr)=[] from rfl,List.append_nil] at eT;have rF:=oO2;rw [eT] at rF;have hL:=HL.out;simp at hL;go_roundw
    case rel=>exact⟨k+1,by omega,by go_num,by rw [hR1,<- hL];exact rF,MU⟩
    simp [intOf];omega
   have hm:0<R2.length:=by
    rw [CX]
    cases hq:x.1.da with
    |nil=>exact absurd hq Jn
    |cons _ _=>simp
   clear aM4 Jn CX;obtain⟨⟨o1,ty,tt,da⟩,dv⟩:=x;simp only at c0 c1 c2 c3 jW Me oO1 hdv
   subst hdv;obtain⟨oa,oc,hov⟩:=aT oO;subst hov;go_wp2_with (first|(go_at_call 104;refine jW.mono ?_;rintro e w2 ⟨u,rfl,hu,_,iE⟩;obtain⟨ug,uc,hg⟩:=aGq hu hm;subst hg;have oO2:=own_below oO1 iE;have MU:=Nm.aC Me iE)|(at_builtin;refine wpList_append_own _ rfl (.tmp 16) (.tmp 18) 30 rfl w.heap.size 29 i0 _ 5 56 Tryz.underlying30 hi iJ fP fZ rfl (by decide) (.slice oa R0.length oc) R0.length (bK R0) rfl oO2 ⟨ug,0,none⟩ R2.length uc (bK R2) rfl aPd (fun j y hy=>by rw [Nm.addr_add,Nat.zero_add,hu.cellAt j (by have:=(dK hy).1;omega)];exact hy) h1c (by unfold maxLen;omega) (by omega) MU.size ?_;intro va wa rF iF oP))
   rw [HT.out,HL.out] at rF;have b9:Below w.heap.size w wa:=MU.grown iF MU.size (fun g hg=>(oO2.lt g hg).1);go_wp2;go_roundw
   case rel=>exact⟨k+1,by omega,by go_num,by rw [hR1];exact rF,b9⟩
   simp [intOf];omega
  have nS:k=ps.length:=by omega
  subst nS;have i2:(ps.length:Int)<=(ps.length:Int):=by omega
  rw [List.take_length,<- aGm] at oO;clear CO xV Vl Gn hdd aGm pG hf;go_wp2;go_ret;exact⟨_,rfl,oO,aJ⟩
 rw [jU Gu] at xQ;obtain rfl:RS=[]:=by rw [Vk,if_pos (by omega)]
 clear Vk CO Gu;go_enter Tryz.func76,Tryz.ntmps76;go_wp2_with (go_at_call 103;refine xQ.mono ?_;rintro e w1 ⟨rfl,fF⟩)
 go_ret;exact⟨_,rfl,⟨rfl,.inl ⟨rfl,rfl⟩⟩,Nm.aC jF fF⟩
theorem Nu{w w':World}{b p:Nat}{cs:Array Value}{T:TypeId}(k:bG w b cs T)(h:DI p w w')(dQ:b≠p):bG w' b cs T:=(h.block b (bU k) dQ).trans k
theorem Vo{w w':World}{p B:Nat}(h:DI p w w')(hp:B<=p)(hB:B<=w.heap.size):Below B w w':=
 ⟨h.os,h.tape,h.output,h.size,fun k hk=>h.block k (by omega) (by omega)⟩
theorem aCx(B g cap:Nat)(xs:List Rr)(i j:Nat)(w:World)(aU:w.ownsRow B 29 5 (.slice (some ⟨g,0,none⟩) xs.length cap) xs.length (bK xs))(hij:i<j)(hj:j<=xs.length)(hn:xs.length<=1048576):
 Calls Tryz.prog 82 #[.slice (some ⟨g,0,none⟩) xs.length cap,.int .i64 (i:Int),.int .i64 (j:Int)] w fun e w'=>e=.returned (.slice (some ⟨g,0,none⟩) (i+(xs.length-j)) cap)∧w'.ownsRow B 29 5 (.slice (some ⟨g,0,none⟩) (i+(xs.length-j)) cap) (xs.take i++xs.drop j).length (bK (xs.take i++xs.drop j))∧DI g w w':=by
 by_cases hcj:cap=j
 ·have hc:xs.length<=cap:=by
   rcases aU.2 with⟨e0,_⟩|⟨g',cap',cur,e0,_,_,YX,_⟩
   ·cases e0
   simp only [iG] at e0;omega
  have e1:xs.length=j:=by omega
  subst hcj;rw [e1] at aU ⊢;rw [List.drop_of_length_le (by omega),List.append_nil,Nat.sub_self,Nat.add_zero];exact Gq B g cap i xs w e1 aU hij (by omega)
 exact Nc B g cap xs i j w aU hij hj hn hcj
theorem Nv(o:ByteArray)(v:Value)(ps:List Zp)(r:Rr)(k:Nat)(w:World)(h:gI w v ps)(hs:rG ps<=1048576)(hf:∀ p∈ps,∀ x∈p.1.da,x.size<=1048576)(hrk:(aD ps)[k]? =some r)(hsk:Vn (aD ps)=(k:Int))(hn:(aD ps).length<=500):
 Calls Tryz.prog 40 #[.agg #[.string o,v]] w fun e w'=>∃ (ua:Option Addr) (uc:Nat),e=.returned (.tuple #[.agg #[.string r.own,.int .i64 r.ty,.int .i64 r.cl,.int .i64 r.tt,.string r.da],.slice ua (k+((aD ps).length-(k+1))) uc])∧w'.ownsRow w.heap.size 29 5 (.slice ua (k+((aD ps).length-(k+1))) uc) ((aD ps).take k++(aD ps).drop (k+1)).length (bK ((aD ps).take k++(aD ps).drop (k+1)))∧Below w.heap.size w w':=by
 obtain⟨va,vc,rfl⟩:∃ va vc,v=.slice va ps.length vc:=by obtain⟨⟨_,a,c,e,_⟩,_⟩:=h;exact⟨a,c,e⟩
 have hk:=(dK hrk).1;have b0:=(aK w.heap.size w).alloc (aN _) (.cells #[.string o,.slice va ps.length vc] 25);have b1:=b0.alloc b0.size (.cells #[.string ⟨#[]⟩,.int .i64 0,.int .i64 0,.int .i64 0,.string ⟨#[]⟩] 29);have k0:=aR (aH w #[.string o,.slice va ps.length vc] 25) (.cells #[.string ⟨#[]⟩,.int .i64 0,.int .i64 0,.int .i64 0,.string ⟨#[]⟩] 29);have kR:=aH (w.alloc (.cells #[.string o,.slice va ps.length vc] 25)) #[.string ⟨#[]⟩,.int .i64 0,.int .i64 0,.int .i64 0,.string ⟨#[]⟩] 29;rw [fV] at kR;have Jo:=vC o (.slice va ps.length vc) ps _ (h.below b1) hs hf;have r0:=fun i=>aA k0 i
 have hix:=fun v W (hW:bS W v (aD ps).length 5 (bK (aD ps)))=>MS v (aD ps) W hW
 rw [hsk] at hix;obtain⟨j,hj⟩:∃ j,j=k+1:=⟨_,rfl⟩;have pF:=fun B g cap W aU=>aCx B g cap (aD ps) k j W aU (by omega) (by omega) (by omega)
 have hkj:(k:Int)+1=(j:Int):=by omega
 have hjb:j<=501:=by omega
 rw [<- hj];clear hj;clear h hf hs hsk;generalize aD ps=xs at*;go_enter Tryz.func40,Tryz.ntmps40;go_wp2_with fail
 refine Jo.mono ?_;rintro e w1 ⟨u,rfl,mF,fF⟩;have mO:=Nm.aC b1 fF;have Sr:=aB kR fF;obtain⟨ua,uc,eu⟩:=aT mF;subst eu;have EB:w.heap.size+2<=w1.heap.size:=by have:=fF.size;simp at this;exact this
 rw [show(((w.alloc (.cells #[.string o,.slice va ps.length vc] 25)).alloc (.cells #[.string ⟨#[]⟩,.int .i64 0,.int .i64 0,.int .i64 0,.string ⟨#[]⟩] 29)).heap.size)=w.heap.size+2 by simp] at mF;clear Jo k0 r0 b0 b1 kR fF;go_wp2_with fail
 refine(hix _ w1 (bS.aS mF)).mono ?_;rintro e w2 ⟨rfl,iE⟩;have Nw:=own_below mF iE;have CP:=aB Sr iE;have vO:=Nm.aC mO iE
 obtain⟨gl,rfl,ZJ⟩:∃ gl,ua=some ⟨gl,0,none⟩∧w.heap.size+2<=gl:=by
  rcases Nw.2 with⟨h1,h2⟩|⟨g',cap',cur,h1,h2,_⟩
  ·omega
  simp only [iG] at h1;exact⟨g',h1.1,h2⟩
 have hgl2:gl<w2.heap.size:=(Nw.lt gl rfl).2;obtain⟨_,a9,c9,e9,_,_,De⟩:=bS.aS Nw;simp only [iG] at e9;obtain⟨rfl,_,rfl⟩:=e9;obtain⟨gb,go,e9,aL⟩:=De (by omega);simp only [mP,Addr.mk.injEq,and_true] at e9;obtain⟨rfl,rfl⟩:=e9;obtain⟨d0,d1,d2,d3,d4⟩:=gT aL hrk;simp only [Nat.zero_add] at d0 d1 d2 d3 d4;have n1:(0:Int)<=(k:Int):=by omega
 have n2:(k:Int)<(xs.length:Int):=by omega
 have hwj:IntKind.i64.wrap (j:Int)=(j:Int):=Go.wrap_small _ (by omega) (by omega);have kP:=aH w2 #[.string r.own,.int .i64 r.ty,.int .i64 r.cl,.int .i64 r.tt,.string r.da] 29;have b3:=(aK w2.heap.size w2).alloc (aN _) (.cells #[.string r.own,.int .i64 r.ty,.int .i64 r.cl,.int .i64 r.tt,.string r.da] 29);have Vp:=own_below Nw b3;have AP:=aB CP b3;have TB:=Nm.aC vO b3;have hS:∀ W,bG W w2.heap.size #[.string r.own,.int .i64 r.ty,.int .i64 r.cl,.int .i64 r.tt,.string r.da] 29->(W.cell? ⟨w2.heap.size,0,none⟩=some (.string r.own)∧W.cell? ⟨w2.heap.size,1,none⟩=some (.int .i64 r.ty)∧W.cell? ⟨w2.heap.size,2,none⟩=some (.int .i64 r.cl)∧W.cell? ⟨w2.heap.size,3,none⟩=some (.int .i64 r.tt)∧W.cell? ⟨w2.heap.size,4,none⟩=some (.string r.da)):=fun W hW=>⟨(aA hW 0).trans rfl,(aA hW 1).trans rfl,(aA hW 2).trans rfl,(aA hW 3).trans rfl,(aA hW 4).trans rfl⟩
 have GV:=hS _ (dS kP);have aX:=pF _ _ _ _ (own_below Vp ((aK _ _).drew));clear pF hix aL De mF Nw Sr CP mO vO iE hrk;go_wp2;refine kR (fun X=>(X.cell? ⟨w2.heap.size,0,none⟩=some (.string r.own)∧X.cell? ⟨w2.heap.size,1,none⟩=some (.int .i64 r.ty)∧X.cell? ⟨w2.heap.size,2,none⟩=some (.int .i64 r.cl)∧X.cell? ⟨w2.heap.size,3,none⟩=some (.int .i64 r.tt)∧X.cell? ⟨w2.heap.size,4,none⟩=some (.string r.da))) 1000 GV fun aO=>?_;refine kB 0 rfl ?_;refine kB 1 rfl ?_;refine kB 2 rfl ?_;refine kB 3 rfl ?_;refine kB 4 rfl ?_;refine k1 5 rfl fun K hK=>?_
 go_simp;refine aX.mono ?_;rintro e w4 ⟨rfl,jC,hO⟩;have kP4:=Nu (dS kP) hO (by omega);have ZK:=Nu (dS AP) hO (by omega);have xS:Below w.heap.size w w4:=(TB.drew).trans (Vo hO (by omega) (by have:=TB.size;simpa using this));go_wp2_with fail
 refine hK.out _ _ (hS _ kP4) fun hH=>?_;clear hK K;have rk4:=fun i=>aA ZK i
 have fk4:=fun i=>aG ZK i
 obtain⟨k5,RO⟩:=Ll (r:=r) ZK xS (Nat.le_succ _);have kP5:=aW (i:=4) (v:=.string r.da) (aW (i:=3) (v:=.int .i64 r.tt) (aW (i:=2) (v:=.int .i64 r.cl) (aW (i:=1) (v:=.int .i64 r.ty) (aW (i:=0) (v:=.string r.own) kP4 (c:=w.heap.size+1) (by omega)) (c:=w.heap.size+1) (by omega)) (c:=w.heap.size+1) (by omega)) (c:=w.heap.size+1) (by omega)) (c:=w.heap.size+1) (by omega);have uZ:=fQ (nL (g:=w.heap.size+1) (i:=4) (y:=.string r.da) (nL (g:=w.heap.size+1) (i:=3) (y:=.int .i64 r.tt) (nL (g:=w.heap.size+1) (i:=2) (y:=.int .i64 r.cl) (nL (g:=w.heap.size+1) (i:=1) (y:=.int .i64 r.ty) (nL (g:=w.heap.size+1) (i:=0) (y:=.string r.own) jC (by omega)) (by omega)) (by omega)) (by omega)) (by omega)) (B':=w.heap.size) (by omega);refine k1 6 rfl fun K hK=>?_
 go_simp;refine hK.out _ _ (hS _ kP5) fun hH2=>?_;clear hK K;refine k1 7 rfl fun K hK=>?_
 go_simp;refine hK.out _ _ (hS _ kP5) fun hH3=>?_;clear hK K;refine kN ?_;have rk:=fun i=>aA k5 i
 have HB:=Nm.aF (aV uZ RO);clear hH hH2 hH3 aO hS GV kP kP4 kP5 AP ZK k5 RO xS rk4 fk4 aX jC uZ;go_wp2_with fail
 refine gD (v:=.tuple #[.agg #[.string r.own,.int .i64 r.ty,.int .i64 r.cl,.int .i64 r.tt,.string r.da],.slice (some ⟨gl,0,none⟩) (k+(xs.length-j)) uc]) ?_ rfl ⟨_,_,rfl,HB.out.1,HB.out.2⟩;simp [results,Tryz.f40,go_sem,rk]
def KM(w:World)(a:Option Addr)(n:Nat):Prop:=
 n=0∨∃ b off,a=some ⟨b,off,none⟩∧∀ i,i<n->∃ c:Int,w.cell? ⟨b,off+i,none⟩=some (.int .u8 c)∧0<=c∧c<256
def Beg(w wr:World)(a:Option Addr)(n cap:Nat)(st:Int):Prop:=
 wr.heap[w.heap.size]? =some (.cells #[.slice none 0 0,.int .i64 0,.int .u64 0] 41 (0,0))∧
 wr.heap[w.heap.size+1]? =some (.cells #[.slice a n cap,.int .i64 0,.int .u64 st] 41 (0,0))∧Below w.heap.size w wr
theorem aKf{w wr:World}{a:Option Addr}{n cap:Nat}{st:Int}(h:Beg w wr a n cap st)(s2:Int):Beg w (wr.setCell ⟨w.heap.size+1,2,none⟩ (.int .u64 s2)) a n cap s2:=by
 obtain⟨h1,h2,h3⟩:=h;refine⟨?_,?_,h3.setCell (by simp) _⟩
 ·rw [heap_setCell_other wr ⟨w.heap.size+1,2,none⟩ w.heap.size _ (by simp)];exact h1
 rw [heap_setCell_same wr (w.heap.size+1) 2 _ _ _ h2];rfl
theorem aGr{w wr:World}{a:Option Addr}{n cap:Nat}{st:Int}(h:Beg w wr a n cap st):Beg w wr.drew a n cap st:=⟨h.1,h.2.1,h.2.2.drew⟩
theorem Gv(a:Option Addr)(n cap:Nat)(w:World)(h:KM w a n)(hn:n<=1048576):
 Calls Tryz.prog 9 #[.slice a n cap] w fun e w'=>∃ st:Int,e=.returned (.agg #[.slice a n cap,.int .i64 0,.int .u64 st])∧Below w.heap.size w w':=by
 go_enter Tryz.func9,Tryz.ntmps9;go_wp2
 go_loopw [4] (fun i wr=>∃ (k:Nat) (st:Int),k<=n∧i=.int .i64 k∧Beg w wr a n cap st) (fun i _=>n-(intOf i).toNat)
 case atStart=>
  refine⟨0,1469598103934665603,dO _,rfl,?_,?_,((aK _ _).alloc (aN _) _).alloc (by simp) _⟩
  ·exact((MapKept.heap_alloc (w.alloc _) _).2 _ (by simp)).trans (heap_alloc_new w _)
  have:=heap_alloc_new (w.alloc (.cells #[.slice none 0 0,.int .i64 0,.int .u64 0] 41 (0,0))) (.cells #[.slice a n cap,.int .i64 0,.int .u64 1469598103934665603] 41 (0,0));rw [fV] at this;exact this
 obtain⟨k,st,hk,rfl,aM5⟩:=hrel;have HB:=fun s2=>Nm.aF (aKf aM5 s2)
 have HB0:=Nm.aF aM5.2.2;obtain⟨ZY,fF,aJ⟩:=aM5;have c0:=cell_of_row wr (w.heap.size+1) 0 _ _ _ fF;have c1:=cell_of_row wr (w.heap.size+1) 1 _ _ _ fF;have c2:=cell_of_row wr (w.heap.size+1) 2 _ _ _ fF;have f2:=frozen_of_row wr (w.heap.size+1) 2 _ _ fF;have e0:=cell_of_row wr w.heap.size 0 _ _ _ ZY;have e1:=cell_of_row wr w.heap.size 1 _ _ _ ZY;have e2:=cell_of_row wr w.heap.size 2 _ _ _ ZY;have g0:=frozen_of_row wr w.heap.size 0 _ _ ZY;have g1:=frozen_of_row wr w.heap.size 1 _ _ ZY;have g2:=frozen_of_row wr w.heap.size 2 _ _ ZY;simp at c0 c1 c2 e0 e1 e2
 by_cases bV:k<n
 ·obtain⟨b,off,rfl,iB⟩:=h.resolve_left (by omega);obtain⟨c,hc,VU,iK⟩:=iB k bV;have Me:=eB w _ hc;have hcr:=(aJ.cell Me).trans hc;clear ZY fF aJ iB hc h;go_wp2;go_region
  go_wp2;go_roundw
  case rel=>exact⟨k+1,_,by omega,by go_num,aGr (HB _).out⟩
  simp [intOf];omega
 have DJ:k=n:=by omega
 subst DJ;clear ZY fF aJ h;have r0:=fun v=>World.cell?_setCell_same wr ⟨w.heap.size,0,none⟩ v e0
 have r1:=fun u v=>World.cell?_setCell_same (wr.setCell ⟨w.heap.size,0,none⟩ u) ⟨w.heap.size,1,none⟩ v ((World.cell?_setCell_other wr ⟨w.heap.size,0,none⟩ ⟨w.heap.size,1,none⟩ u (by simp)).trans e1)
 have r2:=fun t u v=>World.cell?_setCell_same ((wr.setCell ⟨w.heap.size,0,none⟩ t).setCell ⟨w.heap.size,1,none⟩ u) ⟨w.heap.size,2,none⟩ v ((World.cell?_setCell_other _ ⟨w.heap.size,1,none⟩ ⟨w.heap.size,2,none⟩ u (by simp)).trans ((World.cell?_setCell_other wr ⟨w.heap.size,0,none⟩ ⟨w.heap.size,2,none⟩ t (by simp)).trans e2))
 go_wp2;refine gD (v:=.agg #[.slice a k cap,.int .i64 0,.int .u64 st]) ?_ rfl ⟨st,rfl,((HB0.out.setCell (aN _) _).setCell (aN _) _).setCell (aN _) _⟩;simp [results,Tryz.results9,go_sem,r0,r1,r2,Result.andThen]
def IQ:List ByteArray:=[⟨(Nm.joinL [⟨#[122]⟩,⟨#[101,120,97,109,112,108,101]⟩]).toArray⟩,⟨(Nm.joinL [⟨#[69,120,97,109,112,108,101]⟩]).toArray⟩,⟨#[0]⟩,⟨(Nm.joinL [⟨#[101,120,97,109,112,108,101]⟩]).toArray⟩]
theorem UE{s:ByteArray}(h:s∈IQ):1<=s.size∧s.size<=20:=by
 simp only [IQ,List.mem_cons,List.not_mem_nil,or_false] at h
 rcases h with rfl|rfl|rfl|rfl<;>decide
theorem Ny(g:Nat)(a:Option Addr)(n cap:Nat)(w:World)(h:Src w g a n cap):
 Calls Tryz.prog 54 #[.pointer (some ⟨g,0,none⟩)] w fun e w'=>∃ s:ByteArray,e=.returned (.string s)∧s∈IQ∧Src w' g a n cap∧w.grownBy w' (some g):=by
 go_enter Tryz.func54,Tryz.ntmps54;go_wp2_with fail
 refine(aY g a n cap 6 _ h (by decide)).mono ?_;rintro e w1 ⟨r,rfl,OD,rH,jT,nH⟩;have uR:=rH (by decide);clear rH h
 by_cases e0:r=0
 ·subst e0;have hj:=cB _ [⟨#[122]⟩,⟨#[101,120,97,109,112,108,101]⟩] _ (aLz w1 ⟨#[122]⟩ ⟨#[101,120,97,109,112,108,101]⟩) (by decide);have hz:(⟨(Nm.joinL [⟨#[122]⟩,⟨#[101,120,97,109,112,108,101]⟩]).toArray⟩:ByteArray)∈IQ:=by simp [IQ]
  generalize (⟨(Nm.joinL [⟨#[122]⟩,⟨#[101,120,97,109,112,108,101]⟩]).toArray⟩:ByteArray)=J at*;have HZ:=Nm.aF hz;clear hz;go_wp2_with fail
  refine hj.mono ?_;rintro e w2 ⟨rfl,b2⟩;go_wp2;go_ret;exact⟨_,rfl,HZ.out,bH (Gm jT _) b2,bM (dR nH _) b2⟩
 have q0:(r==0)=false:=by rw [dC];exact e0
 by_cases e1:r=1
 ·subst e1;have hj:=cB _ [⟨#[69,120,97,109,112,108,101]⟩] _ (Dc w1 ⟨#[69,120,97,109,112,108,101]⟩) (by decide);have hz:(⟨(Nm.joinL [⟨#[69,120,97,109,112,108,101]⟩]).toArray⟩:ByteArray)∈IQ:=by simp [IQ]
  generalize (⟨(Nm.joinL [⟨#[69,120,97,109,112,108,101]⟩]).toArray⟩:ByteArray)=J at*;have HZ:=Nm.aF hz;clear hz e0;go_wp2_with fail
  refine hj.mono ?_;rintro e w2 ⟨rfl,b2⟩;go_wp2;go_ret;exact⟨_,rfl,HZ.out,bH (Gm jT _) b2,bM (dR nH _) b2⟩
 have q1:(r==1)=false:=by rw [dC];exact e1
 by_cases e2:r=2
 ·subst e2;go_wp2;go_ret;exact⟨_,rfl,by simp [IQ],jT,nH⟩
 have q2:(r==2)=false:=by rw [dC];exact e2
 have hj:=cB _ [⟨#[101,120,97,109,112,108,101]⟩] _ (Dc w1 ⟨#[101,120,97,109,112,108,101]⟩) (by decide);have hz:(⟨(Nm.joinL [⟨#[101,120,97,109,112,108,101]⟩]).toArray⟩:ByteArray)∈IQ:=by simp [IQ]
 generalize (⟨(Nm.joinL [⟨#[101,120,97,109,112,108,101]⟩]).toArray⟩:ByteArray)=J at*;have HZ:=Nm.aF hz;clear hz e0 e1 e2;go_wp2_with fail
 refine hj.mono ?_;rintro e w2 ⟨rfl,b2⟩;go_wp2;go_ret;exact⟨_,rfl,HZ.out,bH (Gm jT _) b2,bM (dR nH _) b2⟩
def LOK:List UInt8->List ByteArray->Prop
 |[],[]=>True
 |c::cs,x::xs=>((c=110->(Nm.split x).isSome=true)∧(c=98->x.size=1))∧LOK cs xs
 |_,_=>False
theorem LOK.snoc:∀ {cs:List UInt8} {xs:List ByteArray} {c:UInt8} {x:ByteArray},LOK cs xs->(c=110->(Nm.split x).isSome=true)->(c=98->x.size=1)->LOK (cs++[c]) (xs++[x]):=by
 intro cs
 induction cs with
 |nil=>
  intro xs c x h h1 h2
  cases xs with
  |nil=>exact⟨⟨h1,h2⟩,trivial⟩
  |cons y ys=>exact absurd h (by simp [LOK])
 |cons d cs ih=>
  intro xs c x h h1 h2
  cases xs with
  |nil=>exact absurd h (by simp [LOK])
  |cons y ys=>exact⟨h.1,ih h.2 h1 h2⟩
theorem zW(x:ByteArray)(xs:List ByteArray):bA (Dt.nP (x::xs))=x++bA (Dt.nP xs):=by
 apply Nm.kI;simp [bA,Dt.nP]
theorem rest_of(x r:ByteArray):(x++r).extract x.size (x++r).size=r:=by
 apply Nm.kI;rw [UD,ByteArray.data_append,Array.toList_append,List.drop_left' (by simp),jV,Nat.add_sub_cancel_left,List.take_of_length_le (by simp)]
theorem aKg(x r:ByteArray):(x++r).extract 0 x.size=x:=by
 apply Nm.kI;rw [UD,ByteArray.data_append,Array.toList_append,List.drop_zero,Nat.sub_zero,List.take_left' (by simp)]
theorem Nz:∀ (cs:List UInt8) (xs:List ByteArray),LOK cs xs->(∀ c∈cs,c=110∨c=98)->Dt.parts (cs.map Dt.sQ) (bA (Dt.nP xs))=some xs:=by
 intro cs
 induction cs with
 |nil=>
  intro xs h hc
  cases xs with
  |nil=>rfl
  |cons y ys=>exact absurd h (by simp [LOK])
 |cons c cs ih=>
  intro xs h hc
  cases xs with
  |nil=>exact absurd h (by simp [LOK])
  |cons x xs=>
   obtain⟨⟨h1,h2⟩,h3⟩:=h;have hi:=ih xs h3 (fun d hd=>hc d (List.mem_cons_of_mem _ hd))
   have pQ:Dt.sz (Dt.sQ c) (x++bA (Dt.nP xs))=some x.size:=by
    rcases hc c (List.mem_cons_self ..) with rfl|rfl
    ·have hs:=h1 rfl;have hz:x.size≠0:=by obtain⟨k1,k2⟩:=(Dt.LM x).1 hs;omega
     show Dt.sz .nm _=_
     rw [Dt.sz,Vd hs,if_neg hz]
    have hs:=h2 rfl;show Dt.sz (.bs 1) _=_
    rw [Dt.sz,if_pos (by rw [jV];omega),hs]
   rw [List.map_cons,Dt.parts,zW,pQ];simp only
   rw [rest_of,hi,aKg];rfl
theorem Gw{t:Nat}(h:aAk t):∀ c∈(Dt.mY t).data.toList,c=110∨c=98:=by
 rcases h with rfl|rfl|rfl|rfl|rfl<;>decide
theorem WS{t:Nat}{xs:List ByteArray}(ht:t∈aMq)(hp:aAk t)(h:LOK (Dt.mY t).data.toList xs)(hz:(bA (Dt.nP xs)).size<=65535):bQ t (bA (Dt.nP xs))=0:=by
 have hpt:=Nz _ xs h (Gw hp);have hr:=aJq ht;exact(GU (by omega) (by omega) (by rw [<- Dt.uF,Dt.nN,Dt.pV,hpt];rfl)).1
def aAy(t:Int):Bool:=decide (t=6)||(decide (t=5)||decide (t=39))
theorem Oa(t:Int)(w:World):
 Calls Tryz.prog 122 #[.int .i64 t] w fun e w'=>e=.returned (.bool (aAy t))∧Below w.heap.size w w':=by
 by_cases h6:t=6
 ·subst h6;go_enter Tryz.func122,Tryz.ntmps122;go_wp2;go_ret;exact⟨rfl,aK _ _⟩
 have n6:(t==6)=false:=by rw [dC];exact h6
 by_cases h5:t=5
 ·subst h5;clear h6 n6;go_enter Tryz.func122,Tryz.ntmps122;go_wp2;go_ret;exact⟨rfl,aK _ _⟩
 have n5:(t==5)=false:=by rw [dC];exact h5
 have e:aAy t=(t==39):=by
  rw [aAy,jU h6,jU h5,Bool.false_or,Bool.false_or]
  by_cases h:t=39<;>simp [h]
 rw [e];clear h6 h5 e;go_enter Tryz.func122,Tryz.ntmps122;go_wp2;go_ret;exact⟨rfl,aK _ _⟩
theorem Gx(o name:ByteArray)(v:Value)(ps:List Zp)(w:World)(h:gI w v ps)(hl:ps.length<=1048576)(hf:∀ p∈ps,p.1.own.size<=1048576)(hn:name.size<=maxLen):
 Calls Tryz.prog 121 #[.agg #[.string o,v],.string name] w fun e w'=>∃ s:ByteArray,e=.returned (.string s)∧(s=name∨∃ p∈ps,s=p.1.own)∧Below w.heap.size w w':=by
 obtain⟨va,vc,rfl⟩:∃ va vc,v=.slice va ps.length vc:=by obtain⟨⟨_,a,c,e,_⟩,_⟩:=h;exact⟨a,c,e⟩
 have b0:=(aK w.heap.size w).alloc (aN _) (.cells #[.string o,.slice va ps.length vc] 25);have k0:=aH w #[.string o,.slice va ps.length vc] 25;have HZ:=Nm.aF (fun W (hW:Below w.heap.size w W)=>h.below hW);have HF:=Nm.aF hf;have HG:Hid (∀ W,Below w.heap.size w W->w.heap.size<=W.heap.size):=fun W hW=>hW.size
 clear h hf;go_enter Tryz.func121,Tryz.ntmps121;go_wp2_with fail
 generalize Ab:w.heap.size=g at*;have HGG:=Nm.aF Ab;clear Ab
 go_loopw [5] (fun i wr=>∃ (j:Nat),j<=ps.length∧i=.int .i64 j∧Below g w wr∧bG wr g #[.string o,.slice va ps.length vc] 25) (fun i _=>ps.length-(intOf i).toNat)
 case atStart=>exact⟨0,dO _,rfl,b0,k0⟩
 clear b0 k0;obtain⟨j,hj,rfl,hb,kz⟩:=hrel;have hgw:=HG.out _ hb;have rz:=fun i=>aA kz i
 by_cases bV:j<ps.length
 ·obtain⟨q,hq⟩:∃ q,ps[j]? =some q:=⟨_,bY bV⟩;have Jo:=HZ.out _ hb;obtain⟨⟨_,a9,c9,e9,_,_,De⟩,hd9⟩:=Jo;simp only [iG] at e9;obtain⟨rfl,_,rfl⟩:=e9;obtain⟨b,off,rfl,aL⟩:=De (by omega);obtain⟨d0,d1,d2,d3⟩:=lG aL hq;have hqm:=bP hq;have hfq:=HF.out q hqm;have n1:(0:Int)<=(j:Int):=by omega
  have n2:(j:Int)<(ps.length:Int):=by omega
  have xQ:=gU q.1.own name wr (by unfold maxLen;omega) hn;have HQ:Hid (∃ p∈ps,q.1.own=p.1.own):=⟨q,hqm,rfl⟩;clear De hd9 aL hq d1 d2 d3 hqm hfq;obtain⟨⟨x,ty,tt,ds⟩,u⟩:=q;simp only at d0 xQ HQ
  cases BL:jB x name with
  |true=>
   rw [BL] at xQ;go_wp2_with fail
   refine xQ.mono ?_;rintro e w1 ⟨rfl,b1⟩;have rz1:=fun i=>aA (aB kz b1) i
   have f0:=(b1.cell (eB wr _ d0)).trans d0;have mO:=hb.trans (b1.mono hgw);clear rz d0 xQ kz;go_wp2;go_ret
   exact⟨x,rfl,.inr HQ.out,by rw [HGG.out];exact mO⟩
  |false=>
   rw [BL] at xQ;go_wp2_with (go_at_call 72;refine xQ.mono ?_;rintro e w1 ⟨rfl,b1⟩)
   go_roundw
   case rel=>exact⟨j+1,bV,by go_num,hb.trans (b1.mono hgw),aB kz b1⟩
   simp [intOf];omega
 obtain rfl:j=ps.length:=by omega
 have i9:(ps.length:Int)<=(ps.length:Int):=by omega
 go_wp2;go_ret;exact⟨name,rfl,.inl rfl,by rw [HGG.out];exact hb⟩
