import Derived.Test.YtlddifpnkeafpaaGreatJTrN
import Derived.Test.YtlddifpnkeafpaaGreatJTrP
import Derived.Test.YtlddifpnkeafpaaGreatJTbIS
set_option linter.unusedVariables false
set_option maxHeartbeats 3200000
set_option maxRecDepth 100000
namespace Go.Proofs.YtlddifpnkeafpaaGreat
open Go.RowKit
def sK(fd:ByteArray)(p:ByteArray×ByteArray):Int:=Nm.iV p.1.data.toList fd.data.toList
def DaS(l:List (ByteArray×ByteArray)):Prop:=l.Pairwise fun a b=>Nm.iV a.1.data.toList b.1.data.toList<0
theorem MK{a b c:List UInt8}(h1:Nm.iV a b<0)(h2:Nm.iV b c<0):Nm.iV a c<0:=by
 have h3:=uN a b c (by omega) (by omega)
 rcases Int.lt_or_eq_of_le h3 with h|h
 ·exact h
 exfalso
 have h4:=rU a c;have h5:=uN b c a (by omega) (by rw [h4];omega);have h6:=rU a b;omega
theorem aD2(s:nY)(B nb rb:Nat)(fd da:ByteArray)(r0 r1 r2 r3:Value)(w:World)(h:Ec w B s)(hB:B<=w.heap.size)(hl:s.da.length<=500000)(hd:DaS s.da)(kn:bW w nb #[.bool false] 4)(kr:bW w rb #[r0,r1,r2,r3,.string da] 133)(hs:da.size<=1000000000):
 Calls Tryz.prog 172 #[ptr s.hd,.string fd,.func (.func 174) #[] #[ptr nb,ptr rb]] w fun e w'=>∃ v rv',e=.returned (.string v)∧Ec w' B {s with rv:=rv',da:=ZI (sK fd) (fd,da) s.da}∧bW w' nb #[.bool (!gY (sK fd) s.da)] 4∧dN (nb::xH s) w w'∧∀ b∈rv'.ownBlock.toList,b∈xH s∨w.heap.size<=b:=by
 have nV:(zF s.da).length=s.da.length:=by simp [zF]
 have XF:∀ (tb i:Nat) (p:Value×Value),(zF s.da)[i]? =some p->∀ W,Below w.heap.size w W->bW W tb #[.pointer (some ⟨s.hd,0,none⟩)] 175->Calls Tryz.prog 200 #[.agg #[p.1,p.2],.string fd,.pointer (some ⟨tb,0,none⟩)] W fun e w'=>e=.returned (.int .i64 (pO (sK fd) s.da i))∧Below W.heap.size W w':=by
  intro tb i p hp W hW kb;simp only [zF,List.getElem?_map,Option.map_eq_some_iff] at hp;obtain⟨q,hq,rfl⟩:=hp;rw [jV hq];exact Pz tb s.hd s.rv q.1 q.2 fd W kb (aB h.head hW)
 have mF:=lI (f:=sK fd) hd (fun a b Pe hb=>MK Pe hb);have zG:=rV s.da mF
 cases kY:gY (sK fd) s.da with
 |true=>
  obtain⟨x,hx,NF⟩:=uP kY;have hx':(zF s.da)[posOf (sK fd) s.da]? =some (.string x.1,.string x.2):=by simp [zF,hx]
  refine(Qe s.hd B Gp s.rv (.string fd) _ (zF s.da) (pO (sK fd) s.da) (posOf (sK fd) s.da) _ w h.head h.rows (by omega) XF (by rw [nV];exact mF) (by rw [nV];exact zG) hx' (by rw [jV hx];exact NF)).mono ?_;rintro e w' ⟨rfl,hb⟩;refine⟨x.2,s.rv,rfl,?_,?_,dN.below hb,fun b AR=>.inl (by simp only [xH,List.mem_cons];exact .inr (.inr AR))⟩
  ·rw [ZI,if_pos kY];exact h.keep (fun b hm=>hb.block b (h.lt b hm))
  exact aB kn hb
 |false=>
  have WG:=Ju s.hd B Gp s.rv fd #[ptr nb,ptr rb] (zF s.da) (pO (sK fd) s.da) (posOf (sK fd) s.da) w (some nb) (fun ux W w'=>ux=da∧bW w' nb #[.bool true] 4) h.head h.rows (by omega) XF (by rw [nV];exact mF) (by rw [nV];exact zG) (by rw [nV];exact IB kY)
   (fun p hp=>by
    simp only [zF,List.mem_map] at hp;obtain⟨q,_,rfl⟩:=hp
    exact⟨rfl,rfl⟩) hB
   (fun W hW=>aDw nb rb false da r0 r1 r2 r3 W (aB kn hW) (aB kr hW) hs) (fun e=>ZJ kn h.head (by decide) (jI e)) (fun x hx e=>dD h.rows kn (by decide) (by rw [hx,<- e]))
  refine WG.mono ?_;rintro e w' ⟨ux,W,w1,rv',rfl,hW,mD,⟨rfl,kn1⟩,M9,OA,hK,Xm⟩;have aM7:=ZJ kn h.node (by decide);have Px:=ZJ h.node h.head (by decide);have node1:bW w1 s.dS _ _:=aO (aB h.node hW) mD (fun e=>aM7 (jI e));have node2:=hK.dS node1 Px (dD h.rows h.node (by decide));have kn2:=hK.dS kn1 (ZJ kn h.head (by decide)) (dD h.rows kn (by decide));refine⟨ux,rv',rfl,?_,kn2,?_,?_⟩
  ·rw [ZI,if_neg (by simp [kY])];refine⟨node2,M9,?_⟩;have e1:zF (mR (posOf (sK fd) s.da) (fd,ux) s.da)=(zF s.da).take (posOf (sK fd) s.da)++[(Value.string fd,Value.string ux)]++(zF s.da).drop (posOf (sK fd) s.da):=by simp [zF,mR]
   show w'.ownsRow B _ 2 rv' (zF (mR (posOf (sK fd) s.da) (fd,ux) s.da)).length (eO (zF (mR (posOf (sK fd) s.da) (fd,ux) s.da)))
   rw [e1]
   have hle:((zF s.da).take (posOf (sK fd) s.da)++[(Value.string fd,Value.string ux)]++(zF s.da).drop (posOf (sK fd) s.da)).length=(zF s.da).length+1:=by
    have:=zG.1;simp
    omega
   rw [hle];exact OA
  ·refine⟨hK.os.trans (mD.os.trans hW.os),hK.tape.trans (mD.tape.trans hW.tape),hK.output.trans (mD.output.trans hW.output),jN hW.size (jN mD.size hK.size),fun k hk hn=>?_⟩;simp only [xH,List.mem_cons,not_or] at hn;obtain⟨n1,n2,n3,n4⟩:=hn;rw [hK.block k (vF hk (jN hW.size mD.size)) n3 (fun e=>n4 (by rw [e];simp)),mD.block k (vF hk hW.size) (by simpa using n1)];exact hW.block k hk
  intro b hb
  rcases Xm with h1|h1
  ·rw [h1] at hb;exact .inl (by simp only [xH,List.mem_cons];exact .inr (.inr hb))
  right
  cases hr:rv'.ownBlock with
  |none=>rw [hr] at hb;simp at hb
  |some q=>
   rw [hr] at hb;simp at hb;subst hb;have:=h1 _ hr;have:=mD.size;have:=hW.size;omega
theorem SV{t:Int}{d:ByteArray}:fH t d=0↔ ∃ sp,BP t d=some sp:=by
 by_cases h:t<0∨65535<t
 ·obtain⟨h1,h2⟩:=KH (d:=d) h;rw [h1,h2];simp
 by_cases h1:65535<d.size
 ·obtain⟨h2,h3⟩:=KI h h1;rw [h2,h3];simp
 cases hq:Dt.spans (Dt.nX t) 0 d with
 |none=>obtain⟨h2,h3⟩:=SN h h1 hq;rw [h2,h3];simp
 |some sp=>obtain⟨h2,h3⟩:=KJ h h1 hq;rw [h2,h3];simp
theorem Xn{t:Int}{d:ByteArray}(h:fH t d=0):∃ ps,Dt.parts (Dt.qH t) d=some ps∧BP t d=some (Dt.spansOf (Dt.qH t) ps 0)∧d.size<=65535:=by
 obtain⟨sp,lC⟩:=SV.1 h
 by_cases ht:t<0∨65535<t
 ·rw [(KH (d:=d) ht).2] at lC;cases lC
 by_cases h1:65535<d.size
 ·rw [(KI ht h1).2] at lC;cases lC
 have e:BP t d=Dt.spans (Dt.nX t) 0 d:=by rw [BP,if_neg ht,if_neg h1]
 rw [e,<- Dt.vH,Dt.oM] at lC
 cases hq:Dt.parts (Dt.qH t) d with
 |none=>rw [hq] at lC;simp at lC
 |some ps=>
  refine⟨ps,rfl,?_,by omega⟩;rw [e,<- Dt.vH,Dt.oM,hq];rfl
theorem aH4:∀ (ps:List ByteArray) (x:ByteArray),x∈ps->x.size<=(Dt.oP ps).length:=by
 intro ps
 induction ps with
 |nil=>intro x h;simp at h
 |cons y ps ih=>
  intro x h;have e:(Dt.oP (y::ps)).length=y.size+(Dt.oP ps).length:=by simp [Dt.oP]
  rcases List.mem_cons.1 h with rfl|h
  ·omega
  have:=ih x h;omega
theorem N8(c:UInt8):(Dt.uF c).NB=decide (c.toNat=110):=by
 by_cases h:c=110
 ·subst h;rfl
 have h':c.toNat≠110:=fun e=>h (UInt8.toNat_inj.1 (by simpa using e))
 simp only [h',decide_false];unfold Dt.uF;rw [if_neg h]
 repeat' split
 all_goals rfl
theorem aAi:∀ (fs:List Dt.Pc) (a:Nat) (d:ByteArray) (sp:List (Nat×Nat)),Dt.spans fs a d=some sp->sp.length<=fs.length:=by
 intro fs
 induction fs with
 |nil=>
  intro a d sp h;rw [Dt.spans] at h
  split at h
  ·simp at h;subst h;simp
  simp at h
 |cons p r ih=>
  intro a d sp h;rw [Dt.spans] at h
  cases hq:Dt.sz p d with
  |none=>rw [hq] at h;simp at h
  |some n=>
   rw [hq] at h
   cases hr:Dt.spans r (a+n) (d.extract n d.size) with
   |none=>simp [hr] at h
   |some l=>
    have:=ih _ _ _ hr;simp [hr] at h
    subst h;cases p.NB<;>simp<;>omega
theorem aH5(t:Int)(d:ByteArray):((BP t d).getD []).length<=5:=by
 cases h:BP t d with
 |none=>simp
 |some sp=>
  rw [BP] at h
  split at h
  ·cases h
  split at h
  ·cases h
  have h1:=aAi _ _ _ _ h;have h2:=Gs t
  simp;omega
variable {g k n:Nat}{w:World}
theorem Qg{sp:List (Nat×Nat)}{x:Nat×Nat}(h:sp[k]? =some x):(spanCells sp)[k*2]? =some (.int .i64 (x.1:Int))∧(spanCells sp)[k*2+1]? =some (.int .i64 (x.2:Int)):=by
 induction sp generalizing k with
 |nil=>simp at h
 |cons y sp ih=>
  cases k with
  |zero=>simp at h;subst h;simp [spanCells]
  |succ k=>
   simp at h;have:=ih h;have e:spanCells (y::sp)=[.int .i64 (y.1:Int),.int .i64 (y.2:Int)]++spanCells sp:=by simp [spanCells]
   rw [e,show(k+1)*2=k*2+2 by omega,show k*2+2+1=(k*2+1)+2 by omega];simpa using this
theorem aD3:∀ (fs:List Dt.Pc) (a:Nat) (d:ByteArray) (sp:List (Nat×Nat)),Dt.spans fs a d=some sp->∀ s∈sp,a<=s.1∧s.1<=s.2∧s.2<=a+d.size:=by
 intro fs
 induction fs with
 |nil=>
  intro a d sp h;rw [Dt.spans] at h
  split at h
  ·simp at h;subst h;simp
  simp at h
 |cons p r ih=>
  intro a d sp h;rw [Dt.spans] at h
  cases hq:Dt.sz p d with
  |none=>rw [hq] at h;simp at h
  |some n=>
   have hn:=Dt.Ny hq;rw [hq] at h
   cases hr:Dt.spans r (a+n) (d.extract n d.size) with
   |none=>simp [hr] at h
   |some l=>
    have hi:=ih _ _ _ hr;have hz:(d.extract n d.size).size=d.size-n:=by simp
    have hi2:∀ s∈l,a<=s.1∧s.1<=s.2∧s.2<=a+d.size:=by
     intro s hs;have:=hi s hs;omega
    simp [hr] at h
    subst h;cases p.NB
    ·simpa using hi2
    intro s hs;simp at hs
    rcases hs with rfl|hs
    ·simp;omega
    exact hi2 s hs
theorem ZV(a b:Nat)(l:List UInt8)(h:a<=b)(hb:b<=l.length):(Dt.wH (a,b) l).length=l.length:=by
 simp [Dt.wH,Nm.eX];omega
theorem Qh(a:Nat)(l:List UInt8):Dt.wH (a,a) l=l:=by
 simp [Dt.wH,Nm.eX]
theorem Xo(a i:Nat)(l:List UInt8)(h:a<=i)(hi:i<l.length):(Dt.wH (a,i) l)[i]? =l[i]? :=by
 have h1:(l.take a++Nm.eX ((l.drop a).take (i-a))).length=i:=by simp [Nm.eX];omega
 simp only [Dt.wH];rw [<- List.append_assoc,List.getElem?_append_right (by omega),h1,Nat.sub_self,List.getElem?_drop,Nat.add_zero]
theorem Xp(a i:Nat)(l:List UInt8)(c:UInt8)(h:a<=i)(hc:l[i]? =some c):(Dt.wH (a,i) l).set i (Nm.low c)=Dt.wH (a,i+1) l:=by
 obtain⟨hi,he⟩:=dL hc;have h1:(l.take a++Nm.eX ((l.drop a).take (i-a))).length=i:=by simp [Nm.eX];omega
 have h2:(l.drop a).take (i+1-a)=(l.drop a).take (i-a)++[c]:=by
  rw [show i+1-a=(i-a)+1 by omega];apply Nm.jJ;rw [List.getElem?_drop,show a+(i-a)=i by omega];exact hc
 simp only [Dt.wH];rw [<- List.append_assoc,List.set_append_right _ _ (by omega),h1,Nat.sub_self,h2,List.drop_eq_getElem_cons hi,List.set_cons_zero];simp [Nm.eX]
theorem Qi:∀ (sp:List (Nat×Nat)) (l:List UInt8),(∀ s∈sp,s.1<=s.2∧s.2<=l.length)->(Dt.oQ sp l).length=l.length:=by
 intro sp
 induction sp with
 |nil=>intro l _;rfl
 |cons s sp ih=>
  intro l h;have h0:=h s (List.mem_cons_self);have e:=ZV s.1 s.2 l h0.1 h0.2
  show(Dt.oQ sp (Dt.wH s l)).length=l.length
  rw [ih,e];intro s' Xq;rw [e];exact h s' (List.mem_cons_of_mem _ Xq)
theorem Jv{sp:List (Nat×Nat)}{s:Nat×Nat}(h:sp[k]? =some s)(l:List UInt8):Dt.oQ (sp.take (k+1)) l=Dt.wH s (Dt.oQ (sp.take k) l):=by
 rw [Nm.jJ h,Dt.oQ,List.foldl_append];rfl
theorem Xr(s:ByteArray)(w:World):∃ cap W,s.size<=cap∧(s.size<=maxLen->cap<=maxLen)∧
 (convert 9 22 (.string s)).run Tryz.prog w=.ok (.slice (some ⟨w.heap.size,0,none⟩) s.size cap) W∧IC W w.heap.size s.data.toList∧Below w.heap.size w W∧w.heap.size<W.heap.size:=by
 obtain⟨cap,W,h1,h2,h3,h4,h5⟩:=SF s w;refine⟨cap,W,h1,h2,h3,h4,h5,?_⟩;have hr:=run_bytes_of_string w 9 22 5 s Tryz.underlying9 Tryz.underlying22 Tryz.underlying5;rw [h3] at hr;cases hr
 simp
theorem IC.alloc{l:List UInt8}(h:IC w g l)(hg:g<w.heap.size)(o:Obj):IC (w.alloc o) g l:=by
 intro j c hj;obtain⟨h1,h2⟩:=h j c hj;have hb:Below w.heap.size w (w.alloc o):=(aJ _ _).alloc (aI _) _;refine⟨(hb.cell hg).trans h1,?_⟩;have e:=hb.block g hg;simp only [World.frozen?,e];exact h2
theorem IC.str{cap:Nat}{l:List UInt8}(h:IC w g l)(hl:l.length=n):(convert 22 9 (.slice (some ⟨g,0,none⟩) n cap)).run Tryz.prog w=.ok (.string ⟨l.toArray⟩) w:=by
 subst hl;refine run_convert_bytes_back w 22 9 5 ⟨g,0,none⟩ cap l Tryz.underlying22 Tryz.underlying5 Tryz.underlying9 ?_;intro j hj;rw [Nm.addr_add,Nat.zero_add];exact(h j _ (gF hj)).1
theorem Ei(d:ByteArray)(v:Value)(sp:List (Nat×Nat))(w:World)(dI:dZ w v sp.length 2 (spanCells sp))(lC:∀ s∈sp,s.1<=s.2∧s.2<=d.size)(hd:d.size<=1000000000)(hl:sp.length<=1000000):
 Calls Tryz.prog 190 #[.string d,v] w fun e w'=>e=.returned (.string ⟨(Dt.oQ sp d.data.toList).toArray⟩)∧Below w.heap.size w w':=by
 obtain⟨cap,W,gT,kV,Jw,hbr,aG,hgW⟩:=Xr d w;obtain⟨_,a,capv,rfl,hcapv,hmxv,hc⟩:=dI;have PM:=kV (by unfold maxLen;omega);unfold maxLen at PM;have nV:d.data.toList.length=d.size:=by simp
 have YQ:∀ k,(Dt.oQ (sp.take k) d.data.toList).length=d.size:=by
  intro k;rw [Qi,nV];intro s hs;rw [nV];exact lC s (List.mem_of_mem_take hs)
 clear kV;go_enter Tryz.func190,Tryz.ntmps190;go_wp2
 go_loopw [13] (fun i wr=>∃ k:Nat,k<=sp.length∧i=.int .i64 k∧IC wr w.heap.size (Dt.oQ (sp.take k) d.data.toList)∧w.heap.size<wr.heap.size∧Below w.heap.size w wr)
  (fun i _=>sp.length-(intOf i).toNat)
 case atStart=>
  exact⟨0,dR _,rfl,by simpa [Dt.oQ] using hbr,hgW,aG⟩
 obtain⟨k,hk,rfl,UO,XL,BM⟩:=hrel;clear Jw hbr aG
 by_cases bY:k<sp.length
 ·obtain⟨x,hx⟩:=gQ bY;obtain⟨s1,s2⟩:=Qg hx;obtain⟨NK,M8⟩:=lC x (dA hx);have HST:=Nm.aD (Jv hx d.data.toList);have Pw:=YQ k;generalize Dt.oQ (sp.take k) d.data.toList=l at*;obtain⟨b,off,rfl,aH⟩:=hc (by omega);have put:∀ {B O:Nat} {z:Value},w.cell? ⟨B,O,none⟩=some z->wr.cell? ⟨B,O,none⟩=some z:=fun h=>(BM.cell (fD w _ h)).trans h
  have c1:=put (aH _ _ s1);have c2:=put (aH _ _ s2);rw [<- Nat.add_assoc] at c2;clear hc aH s1 s2 put hx;obtain⟨wo,hwo⟩:∃ wo,wo=wr:=⟨wr,rfl⟩;subst hwo;have iY:=UO.alloc XL (.cells #[.int .i64 (x.1:Int),.int .i64 (x.2:Int)] 251);have FH:Below w.heap.size w (wo.alloc (.cells #[.int .i64 (x.1:Int),.int .i64 (x.2:Int)] 251)):=BM.alloc (by omega) _;have hC0:(wo.alloc (.cells #[.int .i64 (x.1:Int),.int .i64 (x.2:Int)] 251)).cell? ⟨wo.heap.size,1,none⟩=some (.int .i64 (x.2:Int)):=by rw [World.cell?_alloc_new];rfl
  have iQ:wo.heap.size<(wo.alloc (.cells #[.int .i64 (x.1:Int),.int .i64 (x.2:Int)] 251)).heap.size:=by simp
  go_wp2
  go_loopw [8] (fun v wq=>∃ i:Nat,x.1<=i∧i<=x.2∧v=.int .i64 i∧IC wq w.heap.size (Dt.wH (x.1,i) l)∧wq.cell? ⟨wo.heap.size,1,none⟩=some (.int .i64 (x.2:Int))∧wo.heap.size<wq.heap.size∧Below w.heap.size w wq)
   (fun v _=>x.2-(intOf v).toNat)
  ·exact⟨x.1,aI _,NK,rfl,by rw [Qh];exact iY,hC0,iQ,FH⟩
  obtain⟨i,hi1,hi2,rfl,OG,hcq,hzq,aJ4⟩:=hrel;clear iY FH hC0 iQ c1 c2 UO
  by_cases EA:i<x.2
  ·have aQs:(i:Int)<(x.2:Int):=by omega
   have hid:i<d.size:=by omega
   have hid':(i:Int)<(d.size:Int):=by omega
   obtain⟨c,hlc⟩:∃ c,l[i]? =some c:=⟨_,gF (by omega)⟩;have hgi:(Dt.wH (x.1,i) l)[i]? =some c:=(Xo x.1 i l hi1 (by omega)).trans hlc;obtain⟨mQ,vI⟩:=OG i c hgi;have ZQ:=OG.set (k:=i) (d:=Nm.low c) (by rw [ZV _ _ _ hi1 (by omega)];omega);rw [Xp _ _ _ _ hi1 hlc] at ZQ;have HBS:=Nm.aD ZQ
   have HC:Hid ((wr.setCell ⟨w.heap.size,i,none⟩ (.int .u8 (Nm.low c).toNat)).cell? ⟨wo.heap.size,1,none⟩=some (.int .i64 (x.2:Int))):=by
    show _=_
    rw [World.cell?_setCell_other wr ⟨w.heap.size,i,none⟩ ⟨wo.heap.size,1,none⟩ _ (by intro h;have:=congrArg Addr.block h;simp at this;omega)];exact hcq
   have HW:Hid (Below w.heap.size w (wr.setCell ⟨w.heap.size,i,none⟩ (.int .u8 (Nm.low c).toNat))):=aJ4.setCell (aI _) _;have HZ:Hid (wo.heap.size<(wr.setCell ⟨w.heap.size,i,none⟩ (.int .u8 (Nm.low c).toNat)).heap.size):=by show _<_;simpa using hzq
   clear ZQ hgi OG hlc;go_wp2_with (go_at_call 160;refine(wO _ _).mono ?_;rintro e w3 ⟨rfl,hw⟩;obtain rfl:wr=w3:=hw.symm;clear hw)
   go_roundw
   ·exact⟨i+1,by omega,by omega,by go_num,HBS.out,HC.out,HZ.out,HW.out⟩
   simp [intOf];omega
  have aQs:(x.2:Int)<=(i:Int):=by omega
  obtain rfl:i=x.2:=by omega
  rw [show((x.1,x.2):Nat×Nat)=x from rfl,<- HST.out] at OG;have HBQ:=Nm.aD OG;have hgq:w.heap.size<wr.heap.size:=by omega
  clear OG EA;go_wp2;go_roundw
  ·exact⟨k+1,by omega,by go_num,HBQ.out,hgq,aJ4⟩
  simp [intOf];omega
 have SE:(sp.length:Int)<=(k:Int):=by omega
 rw [List.take_of_length_le (by omega)] at UO;have hl0:=YQ sp.length;rw [List.take_of_length_le (by omega)] at hl0;obtain⟨R,HR,hstr⟩:∃ R,Hid (R=(⟨(Dt.oQ sp d.data.toList).toArray⟩:ByteArray))∧(convert 22 9 (.slice (some ⟨w.heap.size,0,none⟩) d.size cap)).run Tryz.prog wr=.ok (.string R) wr:=⟨_,rfl,UO.str (cap:=cap) hl0⟩;clear UO hc hl0;go_wp2;go_ret;rw [<- HR.out];exact⟨rfl,BM⟩
theorem iA(a b:ByteArray)(w:World)(ha:a.size<=maxLen)(hb:b.size<=maxLen):
 Calls Tryz.prog 12 #[.string a,.string b] w fun e w'=>e=.returned (.bool (cZ a b))∧Below w.heap.size w w':=by
 have WA:=gL a w ha;have rW:=fun W=>gL b W hb
 cases IE:Nm.split a with
 |none=>
  have HA:=Nm.aD (Ir (b:=b) IE);rw [IE] at WA;clear IE;go_enter Tryz.func12,Tryz.ntmps12;go_wp2_with fail
  refine WA.mono ?_;rintro e w1 ⟨v,rfl,aU,aG⟩;go_wp2_with fail
  refine(rW _).mono ?_;rintro e w2 ⟨v2,rfl,dO,gX⟩;go_wp2;go_ret;rw [HA.out]
  exact⟨rfl,Nm.aC aG gX⟩
 |some xs=>
  rw [IE] at WA
  cases LM:Nm.split b with
  |none=>
   have HA:=Nm.aD (MH (a:=a) LM);rw [LM] at rW;clear IE LM;go_enter Tryz.func12,Tryz.ntmps12;go_wp2_with fail
   refine WA.mono ?_;rintro e w1 ⟨v,rfl,aU,aG⟩;go_wp2_with fail
   refine(rW _).mono ?_;rintro e w2 ⟨v2,rfl,dO,gX⟩;go_wp2;go_ret;rw [HA.out]
   exact⟨rfl,Nm.aC aG gX⟩
  |some ys=>
   have HA:=Nm.aD (bZ IE LM);have Xt:=Wy IE LM;have hza:=Nm.dK IE;have Eh:=Nm.dK LM;have hla:=Nm.bL xs;have EM:=Nm.bL ys;rw [LM] at rW;clear IE LM;go_enter Tryz.func12,Tryz.ntmps12;go_wp2_with fail
   refine WA.mono ?_;rintro e w1 ⟨v,rfl,aU,aG⟩;go_wp2_with fail
   refine(rW _).mono ?_;rintro e w2 ⟨v2,rfl,dO,gX⟩;have r1:=(Nm.bP.aP aU).below gX;have r2:=Nm.bP.aP dO;simp only [Option.getD_some] at r1 r2;have WE:=Nm.aC aG gX;obtain⟨a1,Qb,rfl,ZP,aH2,PE,mQ⟩:=r1;obtain⟨a2,aH3,rfl,PN,aAe,GR,vI⟩:=r2;have dI:Nm.bP w2 (.slice a1 xs.length Qb) xs:=⟨a1,Qb,rfl,ZP,aH2,PE,mQ⟩;clear aU dO WA rW PE GR aG gX mQ vI
   by_cases hl:xs.length<ys.length
   ·have HU:=Nm.aD (VC hl);have hd:decide (xs.length<ys.length)=true:=by simpa using hl
    clear dI;go_wp2;go_ret;rw [HA.out,HU.out];exact⟨rfl,WE⟩
   have HU:=Nm.aD (Xt (by omega))
   have XE:=fun W=>gM ⟨(Nm.joinL (xs.drop (xs.length-ys.length))).toArray⟩ b W (by
    show(Nm.joinL (xs.drop (xs.length-ys.length))).toArray.size<=maxLen
    rw [List.size_toArray,Nm.mW];have:=Nm.pG xs (xs.length-ys.length);unfold maxLen
    omega) hb
   obtain⟨d,hd⟩:∃ d,d=xs.length-ys.length:=⟨_,rfl⟩;rw [<- hd] at HU XE;have hq:(xs.length:Int)-(ys.length:Int)=(d:Int):=by omega
   have nV:d<=xs.length:=by omega
   have hyx:ys.length<=xs.length:=by omega
   have hwd:=Nm.pG xs d;have VD:=fun V hr=>bV V (xs.drop d) w2 hr (by omega)
   have EN:=fun e:Qb=d=>dI.AY e
   have XB:=dI.drop (k:=d) nV;have Gv:decide (xs.length<ys.length)=false:=by simp;omega
   generalize ByteArray.mk (Nm.joinL (xs.drop d)).toArray=J at*;clear hd hl dI Xt
   by_cases SQ:Qb=d
   ·have Hc:=VD _ (EN SQ);clear VD EN XB;subst SQ;rw [show xs.length-Qb=0 by omega] at Hc;go_wp2_with fail
    refine Hc.mono ?_;rintro e w3 ⟨rfl,qC⟩;go_wp2_with fail
    refine(XE _).mono ?_;rintro e w4 ⟨rfl,EO⟩;go_wp2;go_ret;rw [HA.out,<- HU.out];exact⟨rfl,Nm.aC WE (Nm.aC qC EO)⟩
   have Hc:=VD _ XB;clear VD EN XB;go_wp2_with fail
   refine Hc.mono ?_;rintro e w3 ⟨rfl,qC⟩;go_wp2_with fail
   refine(XE _).mono ?_;rintro e w4 ⟨rfl,EO⟩;go_wp2;go_ret;rw [HA.out,<- HU.out];exact⟨rfl,Nm.aC WE (Nm.aC qC EO)⟩
def XM(l:List It)(fo:ByteArray)(i:Nat)(x:It):Bool:= !x.out&&decide (x.r.ty=6)&&(decide (x.fo≠fo)||gZ (l.take i) fo 6)
def XN(x:It):Bool:= !x.out&&II x.fo&&(decide (x.r.ty=2)||decide (x.r.ty=39))
def Ej(l:List It)(i:Nat)(x:It):Bool:= !x.out&&(decide (x.r.ty=5)||decide (x.r.ty=39))&&gZ (l.take i) x.fo x.r.ty
def XO(l:List It)(x:It):Bool:= !x.out&&decide (x.r.ty≠5)&&decide (x.r.ty≠47)&&gZ l x.fo 5
def be5(x y:It):Bool:= !y.out&&decide (y.r.ty=39)&&decide (y.fo≠x.fo)&&cZ x.fo y.fo
def Dm(l:List It)(x:It):Bool:= !x.out&&l.any fun y=>be5 x y
theorem pR(l:List It)(fo:ByteArray):fZ l fo=
 match dC (XM l fo) l with
 |some i=>(20,i)
 |none=>if !gZ l fo 6 then(20,-1) else if !gZ l fo 2 then(21,-1) else
  match dC (fun _ x=>XN x) l with
  |some i=>(26,i)
  |none=>match dC (Ej l) l with
   |some i=>(23,i)
   |none=>match dC (fun _ x=>XO l x) l with
    |some i=>(23,i)
    |none=>match dC (fun _ x=>Dm l x) l with
     |some i=>(25,i)
     |none=>(0,0):=rfl
theorem gU{p:Nat->It->Bool}{l:List It}{x:It}(gI:∀ (i:Nat) (y:It),i<k->l[i]? =some y->p i y=false)(hk:l[k]? =some x)(hp:p k x=false):∀ (i:Nat) (y:It),i<k+1->l[i]? =some y->p i y=false:=by
 intro i y hi hy
 by_cases h:i=k
 ·subst h;rw [hk] at hy;obtain rfl:=jI hy;exact hp
 exact gI i y (by omega) hy
theorem PT{p:It->Bool}{l:List It}{y:It}(h:(l.take k).any p=false)(hk:l[k]? =some y)(hp:p y=false):(l.take (k+1)).any p=false:=by
 obtain⟨hi,e⟩:=dL hk;rw [List.take_succ_eq_append_getElem hi,e,List.any_append,h];simp [hp]
theorem ZW(s:ByteArray)(w:World)(hs:s.size<=maxLen):Calls Tryz.prog 127 #[.string s] w fun e w'=>e=.returned (.bool (II s))∧w'=w:=by
 unfold maxLen at hs;obtain⟨Q,hQ⟩:∃ Q,Q=II s:=⟨_,rfl⟩;rw [<- hQ];unfold II at hQ
 by_cases h1:1<s.size
 ·have i1:(1:Int)<(s.size:Int):=by omega
  rw [oI h1,Bool.true_and,<- ba_eq] at hQ;have HQ:=Nm.aD hQ;clear hQ;go_enter Tryz.func127,Tryz.ntmps127;go_wp2;go_ret;exact⟨by rw [HQ.out,show(⟨#[1,42]⟩:ByteArray).toList=[1,42] from by rw [ByteArray.toList_eq]];rfl,rfl⟩
 have i1:(s.size:Int)<=1:=by omega
 rw [oF h1,Bool.false_and] at hQ;subst hQ;go_enter Tryz.func127,Tryz.ntmps127;go_wp2;go_ret;exact⟨rfl,rfl⟩
theorem wK(o:ByteArray)(v:Value)(ps:List Zp)(w:World)(h:gG w v ps)(hs:wP ps<=1048576)(hl:ps.length<=1048576):
 Calls Tryz.prog 42 #[.agg #[.string o,v]] w fun e w'=>∃ u,e=.returned u∧w'.ownsRow w.heap.size 133 5 u (aR ps).length (jC (aR ps))∧Below w.heap.size w w':=by
 obtain⟨RS,Xu⟩:∃ R,R=aR ps:=⟨_,rfl⟩;rw [<- Xu];unfold aR at Xu;have iY:=(aJ w.heap.size w).alloc (aI _) (.cells #[.string o,v] 25);have PQ:=aK w #[.string o,v] 25;have dI:=h.below iY;have EP:=h;have aAh:(w.alloc (.cells #[.string o,v] 25)).heap.size=w.heap.size+1:=by simp
 have o0:=World.ownsRow_lit (base:=(w.alloc (.cells #[.string o,v] 25)).heap.size) (e:=133) (size:=5) (w.alloc (.cells #[.string o,v] 25)) #[] 0 (aI _) (by decide) rfl;obtain⟨⟨_,a,cap,rfl,gT,kV,_⟩,_⟩:=h;unfold maxLen at kV
 by_cases ZX:500<ps.length
 ·have aD4:(500:Int)<(ps.length:Int):=by omega
  obtain rfl:RS=[]:=by rw [Xu,if_pos (.inl ZX)]
  clear Xu dI;go_enter Tryz.func42,Tryz.ntmps42;go_wp2;go_ret;refine⟨_,rfl,?_,iY.alloc iY.size _⟩;rw [aAh] at o0;exact fM o0 (by omega)
 have aD4:(ps.length:Int)<=500:=by omega
 have aKr:=fun W (hW:Below (w.alloc (.cells #[.string o,.slice a ps.length cap] 25)).heap.size (w.alloc (.cells #[.string o,.slice a ps.length cap] 25)) W)=>PR o (.slice a ps.length cap) ps W (dI.below hW) hs hl
 by_cases hd:500<jQ ps
 ·have Eb:(500:Int)<(jQ ps:Int):=by omega
  obtain rfl:RS=[]:=by rw [Xu,if_pos (.inr hd)]
  clear Xu dI;generalize jQ ps=D at*;go_enter Tryz.func42,Tryz.ntmps42;go_wp2_with (go_at_call 40;refine(aKr _ ((aJ _ _).alloc (aI _) _)).mono ?_;rintro e w1 ⟨rfl,fJ⟩)
  go_ret;refine⟨_,rfl,?_,Nm.aC (iY.alloc iY.size _) fJ⟩;have o1:=own_below o0 fJ;rw [aAh] at o1;exact fM o1 (by omega)
 have Eb:(jQ ps:Int)<=500:=by omega
 have aD5:RS=gD ps:=by rw [Xu,if_neg (by omega)]
 clear Xu;have Gv:∀ k,jQ (ps.take k)<=500:=fun k=>by have:=wQ ps k;omega
 have Dk:=fun k=>zM (ps.take k)
 have zL:=fun(k:Nat) (x:Zp) (h:ps[k]? =some x)=>OZ h
 have Xv:=fun(k:Nat) (x:Zp) (h:ps[k]? =some x)=>KE ps k x h
 have Jw:=aKr;generalize hDP:jQ ps=D at Jw Eb;go_enter Tryz.func42,Tryz.ntmps42;go_wp2_with (go_at_call 40;refine(Jw _ ((aJ _ _).alloc (aI _) _)).mono ?_;rintro e w1 ⟨rfl,fJ⟩)
 have aQt:=aB (bD PQ (.cells #[] 133)) fJ;have yY:=Nm.aC (iY.alloc iY.size (.cells #[] 133)) fJ;have o1:=own_below o0 fJ;have aM8:Below (w.alloc (.cells #[.string o,.slice a ps.length cap] 25)).heap.size (w.alloc (.cells #[.string o,.slice a ps.length cap] 25)) w1:=Nm.aC ((aJ _ _).alloc (aI _) _) fJ;have IM:=dI.below aM8;rw [aAh] at o1;clear aKr Jw fJ aM8 o0 dI PQ iY aAh;obtain⟨wb,hwb⟩:∃ wb,wb=w1:=⟨w1,rfl⟩
 go_loopw [3,4] (fun vo vi wr=>∃ k:Nat,k<=ps.length∧vi=.int .i64 k∧wr.ownsRow (w.heap.size+1) 133 5 vo (gD (ps.take k)).length (jC (gD (ps.take k)))∧Below (w.heap.size+1) w1 wr) (fun _ vi _=>ps.length-(intOf vi).toNat)
 ·exact⟨0,dR _,rfl,o1,aJ _ _⟩
 obtain⟨k,hk,rfl,oO,aG⟩:=hrel;clear o1;have hW:Below w.heap.size w wr:=yY.trans (aG.mono (by omega));have hbr:bW wr w.heap.size #[.string o,.slice a ps.length cap] 25:=(aG.block _ (by omega)).trans aQt;have q1:wr.cell? ⟨w.heap.size,1,none⟩=some (.slice a ps.length cap):=(aA hbr 1).trans rfl;have hwsz:w.heap.size+1<=wr.heap.size:=cO hbr
 by_cases bY:k<ps.length
 ·obtain⟨x,qF⟩:=gQ bY;obtain⟨⟨_,a',cap',hv,_,_,hc⟩,El⟩:=EP.below hW;simp only [gK] at hv;obtain⟨rfl,_,rfl⟩:=hv;obtain⟨b,off,rfl,aH⟩:=hc (by omega);obtain⟨c0,c1,c2,c3⟩:=iE aH qF;have BS:=dA qF;have DN:x.1.da.length<=1048576:=by have:=Oe ps x BS;unfold zs1 at this;omega
  have lN:=PP x.1 x.2 wr (El x BS) DN;have lC:=zL k x qF;have hld:=Xv k x qF;have EN:=Gv (k+1);have hl0:=Dk k;have GD:=xW x.1;have VD:=fun U W (h1:W.ownsRow (w.heap.size+1) 133 5 _ (gD (ps.take k)).length (jC (gD (ps.take k)))) (h2:W.ownsRow wr.heap.size 133 5 U (iW x.1).length (jC (iW x.1))) hB=>Qf _ U (gD (ps.take k)) (iW x.1) (w.heap.size+1) wr.heap.size W h1 h2 hB (fun g hg=>(oO.lt g hg).2) (by omega)
  rw [<- lC] at VD;have i1:=fE k
  have i2:(k:Int)<(ps.length:Int):=by omega
  clear aH hc El EP zL Xv Dk Gv lC hld hl0 GD BS qF;generalize gD (ps.take k)=R0 at*;generalize Em:gD (ps.take (k+1))=R1 at*;generalize iW x.1=R2 at*;obtain⟨⟨o1,ty,tt,da⟩,dv⟩:=x;simp only at c0 c1 c2 c3 lN
  obtain⟨oa,oc,qY⟩:=aT oO;subst qY;go_wp2_with (first|(go_at_call 87;refine lN.mono ?_;rintro e w2 ⟨u,rfl,hu,jW⟩;have oO2:=own_below oO jW)|(go_at_call 86;refine(VD _ _ oO2 hu (by have:=jW.size;omega)).mono ?_;rintro e w3 ⟨u3,rfl,hu3,SX⟩))
  go_roundw
  ·exact⟨k+1,by omega,by go_num,by rw [Em];exact hu3,(aG.trans (jW.mono (by omega))).trans SX⟩
  simp [intOf];omega
 have mK:k=ps.length:=by omega
 subst mK;have i2:(ps.length:Int)<=(ps.length:Int):=by omega
 rw [List.take_length,<- aD5] at oO;clear EP zL Xv Dk Gv aD5;go_wp2;go_ret;exact⟨_,rfl,fM oO (by omega),hW⟩
theorem N9(l:List UInt8):(⟨l.toArray⟩:ByteArray).size=l.length:=by simp [ByteArray.size]
theorem IP(ls:List ByteArray):(⟨(Nm.joinL ls).toArray⟩:ByteArray).size=Nm.cK ls+1:=by rw [N9,Nm.mW]
theorem Aa(w:World)(ls:List ByteArray)(hl:ls.length<=maxLen):Nm.bP (w.alloc (.cells (ls.map Value.string).toArray 9)) (.slice (some ⟨w.heap.size,0,none⟩) ls.length ls.length) ls:=by
 refine⟨_,_,rfl,aI _,hl,fun h=>absurd h (by simp),fun _=>⟨_,_,rfl,fun i x hx=>?_⟩⟩;have k:=aK w (ls.map Value.string).toArray 9;rw [Nat.zero_add,aA k i];simp [hx]
def uQ(ls:List ByteArray)(ab:ByteArray):ByteArray:=(⟨(Nm.joinL ls).toArray⟩:ByteArray).extract 0 (Nm.cK ls)++ab
theorem wU(ls:List ByteArray)(ab:ByteArray):(uQ ls ab).size=Nm.cK ls+ab.size:=by
 rw [uQ,kU,ByteArray.size_extract,IP];omega
theorem zU(v:Value)(ls:List ByteArray)(ab:ByteArray)(w:World)(h:Nm.bP w v ls)(hl:Nm.cK ls<=100000)(ha:ab.size<=1000000):
 Calls Tryz.prog 77 #[v,.string ab] w fun e w'=>e=.returned (.string (uQ ls ab))∧Below w.heap.size w w':=by
 have hj:=fun W (hW:Below w.heap.size w W)=>bV v ls W (h.below hW) (by omega)
 have hs:=IP ls
 have HE:Hid (∀ J:ByteArray,(⟨(Nm.joinL ls).toArray⟩:ByteArray)=J->uQ ls ab=J.extract 0 (Nm.cK ls)++ab):=by
  rintro J rfl;rfl
 obtain⟨J,hJ⟩:∃ J:ByteArray,(⟨(Nm.joinL ls).toArray⟩:ByteArray)=J:=⟨_,rfl⟩;have HE2:=Nm.aD (HE.out J hJ);rw [HE2.out];simp only [hJ] at hj hs;have h1:(1:Int)<=(J.size:Int):=by omega
 have h2:J.size<=100001:=by omega
 have h3:(J.size:Int)-1<=(J.size:Int):=by omega
 obtain⟨X,hX⟩:∃ X,X=Nm.cK ls:=⟨_,rfl⟩;rw [<- hX];have HS:Hid (J.size-1=X):=by show _=_;omega
 obtain⟨va,vn,vc,rfl⟩:∃ a n c,v=.slice a n c:=by obtain⟨a,c,e,_⟩:=h;exact⟨a,_,c,e⟩
 clear h hs HE HE2 hJ hX;go_enter Tryz.func77,Tryz.ntmps77;go_wp2_with fail
 refine(hj _ (aJ _ _)).mono ?_;rintro e w1 ⟨rfl,b1⟩;go_wp2_with fail
 refine(hj _ b1).mono ?_;rintro e w2 ⟨rfl,b2⟩;have bw:=Nm.aC b1 b2;clear b1 b2 hj;go_wp2;go_ret;refine⟨?_,bw⟩;rw [<- HS.out];rfl
theorem uR(v:Value)(ls:List ByteArray)(ab:ByteArray)(w:World)(h:Nm.bP w v ls)(hl:Nm.cK ls<=100000)(ha:ab.size<=1000000):
 Calls Tryz.prog 77 #[v,.string ab] w fun e w'=>∃ s:ByteArray,e=.returned (.string s)∧s.size=Nm.cK ls+ab.size∧Below w.heap.size w w':=
 (zU v ls ab w h hl ha).mono fun e w' ⟨h1,h2⟩=>⟨_,h1,wU ls ab,h2⟩
theorem Gw(w:World)(x:ByteArray):Nm.bP (w.alloc (.cells #[.string x] 9)) (.slice (some ⟨w.heap.size,0,none⟩) 1 1) [x]:=Aa w [x] (show 1<=maxLen by decide)
theorem N_(w:World)(x y:ByteArray):Nm.bP (w.alloc (.cells #[.string x,.string y] 9)) (.slice (some ⟨w.heap.size,0,none⟩) 2 2) [x,y]:=Aa w [x,y] (show 2<=maxLen by decide)
theorem aM9(w:World)(x y z:ByteArray):Nm.bP (w.alloc (.cells #[.string x,.string y,.string z] 9)) (.slice (some ⟨w.heap.size,0,none⟩) 3 3) [x,y,z]:=Aa w [x,y,z] (show 3<=maxLen by decide)
theorem Jy{cap:Nat}{a:Option Addr}(h:Src w g a n cap)(o:Obj):Src (w.alloc o) g a n cap:=aZ h ((aJ _ _).alloc (aI _) _)
theorem vK{w':World}{B e:Nat}{v:Value}{xs:List Value}(h:w.ownsRow B e 1 v n xs)(hb:Below w.heap.size w w'):w'.ownsRow B e 1 v n xs:=by
 refine⟨h.1,?_⟩
 rcases h.2 with h0|⟨g,cap,cur,h1,h2,h3,h4⟩
 ·exact .inl h0
 exact .inr ⟨g,cap,cur,h1,h2,by rw [hb.block g (Array.getElem?_eq_some_iff.1 h3).1];exact h3,h4⟩
def LP:List ByteArray:=[⟨(Nm.joinL [⟨#[122]⟩,⟨#[101,120,97,109,112,108,101]⟩]).toArray⟩,⟨(Nm.joinL [⟨#[69,120,97,109,112,108,101]⟩]).toArray⟩,⟨#[0]⟩,⟨(Nm.joinL [⟨#[101,120,97,109,112,108,101]⟩]).toArray⟩]
theorem XP{s:ByteArray}(h:s∈LP):1<=s.size∧s.size<=20:=by
 simp only [LP,List.mem_cons,List.not_mem_nil,or_false] at h
 rcases h with rfl|rfl|rfl|rfl<;>decide
theorem Qj(g:Nat)(a:Option Addr)(n cap:Nat)(w:World)(h:Src w g a n cap):
 Calls Tryz.prog 116 #[.pointer (some ⟨g,0,none⟩)] w fun e w'=>∃ s:ByteArray,e=.returned (.string s)∧s∈LP∧Src w' g a n cap∧w.grownBy w' (some g):=by
 go_enter Tryz.func116,Tryz.ntmps116;go_wp2_with fail
 refine(aW g a n cap 6 _ h (by decide)).mono ?_;rintro e w1 ⟨r,rfl,GU,uG,kK,qB⟩;have wR:=uG (by decide);clear uG h
 by_cases e0:r=0
 ·subst e0;have hj:=bV _ [⟨#[122]⟩,⟨#[101,120,97,109,112,108,101]⟩] _ (N_ w1 ⟨#[122]⟩ ⟨#[101,120,97,109,112,108,101]⟩) (by decide);have hz:(⟨(Nm.joinL [⟨#[122]⟩,⟨#[101,120,97,109,112,108,101]⟩]).toArray⟩:ByteArray)∈LP:=by simp [LP]
  generalize (⟨(Nm.joinL [⟨#[122]⟩,⟨#[101,120,97,109,112,108,101]⟩]).toArray⟩:ByteArray)=J at*;have HZ:=Nm.aD hz;clear hz;go_wp2_with fail
  refine hj.mono ?_;rintro e w2 ⟨rfl,b2⟩;go_wp2;go_ret;exact⟨_,rfl,HZ.out,aZ (Jy kK _) b2,bJ (dP qB _) b2⟩
 have q0:(r==0)=false:=beq_eq_false_iff_ne.2 e0
 by_cases e1:r=1
 ·subst e1;have hj:=bV _ [⟨#[69,120,97,109,112,108,101]⟩] _ (Gw w1 ⟨#[69,120,97,109,112,108,101]⟩) (by decide);have hz:(⟨(Nm.joinL [⟨#[69,120,97,109,112,108,101]⟩]).toArray⟩:ByteArray)∈LP:=by simp [LP]
  generalize (⟨(Nm.joinL [⟨#[69,120,97,109,112,108,101]⟩]).toArray⟩:ByteArray)=J at*;have HZ:=Nm.aD hz;clear hz e0;go_wp2_with fail
  refine hj.mono ?_;rintro e w2 ⟨rfl,b2⟩;go_wp2;go_ret;exact⟨_,rfl,HZ.out,aZ (Jy kK _) b2,bJ (dP qB _) b2⟩
 have q1:(r==1)=false:=beq_eq_false_iff_ne.2 e1
 by_cases e2:r=2
 ·subst e2;go_wp2;go_ret;exact⟨_,rfl,by simp [LP],kK,qB⟩
 have q2:(r==2)=false:=beq_eq_false_iff_ne.2 e2
 have hj:=bV _ [⟨#[101,120,97,109,112,108,101]⟩] _ (Gw w1 ⟨#[101,120,97,109,112,108,101]⟩) (by decide);have hz:(⟨(Nm.joinL [⟨#[101,120,97,109,112,108,101]⟩]).toArray⟩:ByteArray)∈LP:=by simp [LP]
 generalize (⟨(Nm.joinL [⟨#[101,120,97,109,112,108,101]⟩]).toArray⟩:ByteArray)=J at*;have HZ:=Nm.aD hz;clear hz e0 e1 e2;go_wp2_with fail
 refine hj.mono ?_;rintro e w2 ⟨rfl,b2⟩;go_wp2;go_ret;exact⟨_,rfl,HZ.out,aZ (Jy kK _) b2,bJ (dP qB _) b2⟩
def Ab(v n:Nat):List UInt8:=(List.range n).map fun i=>UInt8.ofNat (v / 2 ^ (8*(n-1-i)))
theorem Qk(v n:Nat):(Ab v n).length=n:=by simp [Ab]
theorem aAj{v j:Nat}(h:j<n):Nm.LF ((Ab v n).take (j+1))=Nm.LF ((Ab v n).take j)++[.int .u8 ((v:Int) / 2 ^ (8*(n-1-j)) % 256)]:=by
 have hx:(Ab v n)[j]? =some (UInt8.ofNat (v / 2 ^ (8*(n-1-j)))):=by simp [Ab,h]
 have e:((UInt8.ofNat (v / 2 ^ (8*(n-1-j)))).toNat:Int)=(v:Int) / 2 ^ (8*(n-1-j)) % 256:=by
  rw [UInt8.toNat_ofNat',Int.natCast_emod,Int.natCast_ediv,Int.natCast_pow];rfl
 rw [List.take_add_one,hx,Nm.DJ,<- e];rfl
theorem Ql(v n:Nat)(w:World)(hv:v<=4611686018427387904)(Xw:1<=n)(hn:n<=8):
 Calls Tryz.prog 151 #[.int .i64 (v:Int),.int .i64 (n:Int)] w fun e w'=>e=.returned (.string ⟨(Ab v n).toArray⟩)∧Below w.heap.size w w':=by
 obtain⟨j0,hj,k0,k1,k2⟩:=info_parts Tryz.aKk;have i3:(n:Int)<=8:=by omega
 have i4:(1:Int)<=(n:Int):=by omega
 have sJ:=World.ownsRow_made (base:=w.heap.size) (size:=1) (e:=5) w #[] 0 (aI _) (by decide) rfl;have hBs:=(aJ w.heap.size w).alloc (aI _) (.cells #[] 5);go_enter Tryz.func151,Tryz.ntmps151;go_wp2
 go_loopw [5,6] (fun u i wr=>∃ j:Nat,j<=n∧i=.int .i64 ((n:Int)-1-(j:Int))∧wr.ownsRow w.heap.size 5 1 u j (Nm.LF ((Ab v n).take j))∧Below w.heap.size w wr) (fun _ i _=>(intOf i+1).toNat)
 ·exact⟨0,by omega,by congr 1;omega,sJ,hBs⟩
 clear sJ hBs;obtain⟨j,hj8,rfl,aU,aG⟩:=hrel;obtain⟨xa,xc,rfl⟩:=aT aU;have hBr:=aG.size
 by_cases bY:j<n
 ·obtain⟨i,hi⟩:∃ i:Nat,(n:Int)-1-(j:Int)=(i:Int):=⟨n-1-j,by omega⟩;have hi7:i<=7:=by omega
  rw [hi];have i1:=fE i
  have HT:=Nm.aD (show Nm.LF ((Ab v n).take (j+1))=Nm.LF ((Ab v n).take j)++[.int .u8 ((v:Int) / 2 ^ (8*i) % 256)] by
   have h7:n-1-j=i:=by omega
   rw [aAj bY,h7])
  have HI:=Nm.aD hi;clear hi;go_wp2_with (at_builtin;refine wpList_append_own _ rfl (.tmp 14) (.tmp 21) 22 rfl w.heap.size 5 j0 (.int .u8 0) 1 1 Tryz.underlying22 hj k0 k1 k2 rfl (by decide) _ _ _ rfl (aU.alloc _) ⟨wr.heap.size,0,none⟩ 1 1 [.int .u8 ((v:Int) / 2 ^ (8*i) % 256)] rfl rfl (cell_one_new _ _ _) (Nm.one_cell _ rfl) (by unfold maxLen;omega) (by omega) (by simp;omega) ?_;intro vb wb ER aD6 aQu;clear aQu)
  rw [<- HT.out] at ER;have dI:∀ q,Value.ownBlock (.slice xa j xc)=some q->w.heap.size<=q:=fun q hq=>(aU.lt q hq).1
  have hB8:Below w.heap.size w wb:=(aG.alloc hBr _).grown aD6 (by rw [jO];omega) dI;obtain⟨za,zc,rfl⟩:=aT ER;clear aD6 aU aG;have hi:=HI.out;go_roundw
  ·exact⟨j+1,by omega,by go_num,ER,hB8⟩
  simp [intOf]
 obtain rfl:j=n:=by omega
 rw [List.take_of_length_le (by rw [Qk];omega)] at aU;have HC:=Nm.OP (P:=Tryz.prog) (src:=22) (dst:=9) Tryz.underlying22 Tryz.underlying5 Tryz.underlying9 aU (by omega);obtain⟨g,cap,hv',OB⟩:=HC;cases hv'
 go_wp2;go_ret;exact⟨rfl,aG⟩
theorem XQ(d:ByteArray)(a b:Nat):(d.extract a b).data.toList=(d.data.toList.drop a).take (b-a):=by
 simp [ByteArray.data_extract,Array.toList_extract,List.extract_eq_take_drop]
