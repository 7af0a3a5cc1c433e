import Derived.Test.YtlddifpnkeafpaaGreatJTiN
set_option linter.unusedVariables false
set_option maxRecDepth 100000
set_option maxHeartbeats 1600000
namespace Go.Proofs.YtlddifpnkeafpaaGreat
open Go.RowKit
variable {N i j n:Nat}{aL o:ByteArray}{al lab x:List ByteArray}{iT:List It}{os:List dG}{p:Zp}{ps:List Zp}{xs:List Rr}
theorem aLu(h:Jz os){o q:dG}(ho:o∈os)(hq:q∈os)(e:Nm.aN o.lab q.lab=0):o=q:=by
 obtain⟨i,hi⟩:=List.getElem?_of_mem ho;obtain⟨j,hj⟩:=List.getElem?_of_mem hq;have ML:=dL hi;have OE:=dL hj;have hp:=List.pairwise_iff_getElem.1 h
 rcases Nat.lt_trichotomy i j with h1|h1|h1
 ·have:=hp i j ML.1 OE.1 h1;rw [ML.2,OE.2] at this;omega
 ·subst h1;rw [hi] at hj;exact jI hj
 have:=hp j i OE.1 ML.1 h1;rw [ML.2,OE.2] at this;have h2:=dU o.lab q.lab;omega
theorem VR(o:dG)(ty:Int)(B:Nat)(w:World)(h:yB w B o)(hl:o.ss.length<=500000)(hd:VE o.ss)(hn:gY (eP ty) o.ss=false):
 Calls Tryz.prog 72 #[ptr o.dS,.int .i64 ty] w (G9 none w):=by
 have iY:=(aJ w.heap.size w).alloc (aI _) (.cells #[.string ⟨#[]⟩,.int .i64 0,.int .i64 0,.slice none 0 0] 42);have kZ:=aK w #[.string ⟨#[]⟩,.int .i64 0,.int .i64 0,.slice none 0 0] 42;have h1:=h.below iY
 have hg:=(NL o B ty _ h1 hl hd).mono (R':=fun e w'=>Below (w.heap.size+1) (w.alloc (.cells #[.string ⟨#[]⟩,.int .i64 0,.int .i64 0,.slice none 0 0] 42)) w'∧e=.returned (.tuple #[.pointer none,.bool false])) (by
  rintro e w' ⟨hb,⟨h2,_⟩|⟨_,rfl⟩⟩
  ·rw [hn] at h2;cases h2
  exact⟨by simpa using hb,rfl⟩)
 have rn:=aA h1.node
 unfold ptr at hg rn ⊢;clear h h1 hd hn;go_enter Tryz.func72,Tryz.ntmps72;go_wp2_with fail
 refine hg.mono ?_;rintro e w1 ⟨fJ,rfl⟩;have gP:Below w.heap.size w w1:=iY.trans (fJ.mono (Nat.le_succ _));have KQ:bW w1 w.heap.size _ _:=aB kZ (by simpa using fJ);have rz:=aA KQ
 have fz:=aF KQ
 obtain⟨k4,-,nN⟩:=pY (x:=⟨#[]⟩) (ty:=0) (tt:=0) KQ (World.ownsRow_nil w1 0 9 1) (by simp [Value.ownBlock]) gP (aI _);have rk:=aA k4
 clear hg rn fJ kZ KQ;go_wp2_with fail
 refine eB (v:=.tuple #[.agg #[.string ⟨#[]⟩,.int .i64 0,.int .i64 0,.slice none 0 0],.bool false]) ?_ rfl (JI nN);simp [results,Tryz.f72,go_sem,rk]
theorem Uq(o:dG)(s:nY)(B:Nat)(w:World)(h:yB w B o)(hl:o.ss.length<=500000)(hd:VE o.ss)(hs:s∈o.ss)(hsl:s.da.length<=1000000):
 Calls Tryz.prog 72 #[ptr o.dS,.int .i64 s.ty] w (G9 (some (mO (o,s))) w):=by
 refine(wX o s B w h hl hd hs hsl).mono ?_;rintro e w' ⟨v,rfl,ho,hb⟩;refine⟨v,rfl,?_,hb⟩;simpa [mO,List.map_map,Function.comp_def] using ho
def TsP(os:List dG)(lab:List ByteArray)(ty:Int)(w:World)(e:Ending)(w':World):Prop:=
 (∃ o s,o∈os∧s∈o.ss∧Nm.aN o.lab lab=0∧s.ty=ty∧G9 (some (mO (o,s))) w e w')∨
 ((∀ o∈os,Nm.aN o.lab lab=0->∀ s∈o.ss,s.ty≠ty)∧G9 none w e w')
theorem VS(bb oo th:Nat)(rv:Value)(os:List dG)(B:Nat)(na:Option Addr)(nl nc:Nat)(lab:List ByteArray)(ty:Int)(w:World)(h:nQ w B th rv os)(hl:os.length<=500000)(hd:Yk os)(jD:mU w (jF th rv os) os)(hn:Nm.bP w (.slice na nl nc) lab)(FC:lab.length<=1000000000)(hc:w.cell? ⟨bb,oo+1,none⟩=some (ptr th))(zH:bb<w.heap.size):
 Calls Tryz.prog 29 #[.pointer (some ⟨bb,oo,none⟩),.slice na nl nc,.int .i64 ty] w (TsP os lab ty w):=by
 have iY:=(aJ w.heap.size w).alloc (aI _) (.cells #[.string ⟨#[]⟩,.int .i64 0,.int .i64 0,.slice none 0 0] 42);have kZ:=aK w #[.string ⟨#[]⟩,.int .i64 0,.int .i64 0,.slice none 0 0] 42;have aKb:mU (w.alloc (.cells #[.string ⟨#[]⟩,.int .i64 0,.int .i64 0,.slice none 0 0] 42)) (jF th rv os) os:=fun o ho=>(jD o ho).outs (dN.below iY) (fun b hb=>.inl hb)
 have hg:=tN th rv os B (.slice na nl nc) lab _ (h.below iY) hl hd.1 aKb (hn.below iY) FC;have rT:∀ W,Below w.heap.size w W->W.cell? ⟨bb,oo+1,none⟩=some (ptr th):=fun W hW=>by rw [<- hc];exact hW.cell (p:=⟨bb,oo+1,none⟩) zH
 have PG:=rT _ iY
 have HO:Hid (∀ o∈os,∀ W,Below w.heap.size w W->(∃ s∈o.ss,s.ty=ty∧Calls Tryz.prog 72 #[ptr o.dS,.int .i64 ty] W (G9 (some (mO (o,s))) W))∨((∀ s∈o.ss,s.ty≠ty)∧Calls Tryz.prog 72 #[ptr o.dS,.int .i64 ty] W (G9 none W))):=by
  intro o ho W hW;have XB:=hd.2 o ho;have hoA:=(h.below hW).jG o ho
  cases kY:gY (eP ty) o.ss with
  |true=>
   obtain⟨s,hs,rfl⟩:=(yN XB.1 ty).1 kY
   exact .inl ⟨s,hs,rfl,Uq o s B W hoA (by omega) XB.1 hs (by have:=(XB.2.2 s hs).2;omega)⟩
  |false=>
   refine .inr ⟨fun s hs e=>?_,VR o ty B W hoA (by omega) XB.1 kY⟩;rw [(yN XB.1 ty).2 ⟨s,hs,e⟩] at kY;cases kY
 have HN:Hid (gY (dX lab) os=false->∀ o∈os,Nm.aN o.lab lab=0->∀ s∈o.ss,s.ty≠ty):=by
  intro gI o ho h1 s hs h2;have:=(JC ⟨hd.1,fun o ho=>(hd.2 o ho).1⟩ lab ty).2 ⟨o,ho,h1,s,hs,h2⟩;rw [EI] at this
  cases hq:os[posOf (dX lab) os]? with
  |none=>rw [hq] at this;cases this
  |some q=>rw [hq,gI] at this;cases this
 have HS:Hid (Jz os):=hd.1;unfold ptr at PG hg HO;clear h hd jD hn aKb rT hc;go_enter Tryz.func29,Tryz.ntmps29;go_wp2_with fail
 refine hg.mono ?_;rintro e w1 ⟨fJ,⟨kY,o,ho,oN,rfl⟩|⟨kY,rfl⟩⟩
 ·have gP:Below w.heap.size w w1:=Nm.aC iY fJ;have KQ:bW w1 w.heap.size _ _:=aB kZ fJ;have hom:=dA ho;have HCM:=Nm.aD (aV oN hom)
  rcases HO.out o hom w1 gP with⟨s,hs,mI,aX⟩|⟨gI,aX⟩
  ·have HR:=Nm.aD (aV hs mI);clear hg kY ho oN hom hs mI HO fJ kZ PG;go_wp2_with fail
   refine aX.mono ?_;rintro e w2 ⟨v,rfl,qY,b2⟩;obtain⟨va,vc,rfl⟩:=aT qY;have WN:=aB KQ b2;have rz:=aA WN
   have fz:=aF WN
   have bY:w.heap.size<w1.heap.size:=cO KQ;obtain⟨k4,BQ,nN⟩:=pY (x:=(mO (o,s)).own) (ty:=(mO (o,s)).ty) (tt:=(mO (o,s)).tt) WN qY (fun e=>by have:=(qY.lt _ e).1;omega) (Nm.aC gP b2) (aI _);have rk:=aA k4
   have HP:Hid (TsP os lab ty w (.returned (.tuple #[.agg #[.string (mO (o,s)).own,.int .i64 (mO (o,s)).ty,.int .i64 (mO (o,s)).tt,.slice va (mO (o,s)).da.length vc],.bool true])) _):=.inl ⟨o,s,HCM.out.2,HR.out.1,HCM.out.1,HR.out.2,_,rfl,fM BQ gP.size,nN⟩;simp only [Option.getD_some,Option.isSome_some];simp only [Option.getD_some] at rk;generalize mO (o,s)=Z at*;clear KQ WN bY k4 BQ nN qY aX;go_wp2_with fail
   refine eB (v:=.tuple #[.agg #[.string Z.own,.int .i64 Z.ty,.int .i64 Z.tt,.slice va Z.da.length vc],.bool true]) ?_ rfl HP.out;simp [results,Tryz.f29,go_sem,rk]
  have HR:=Nm.aD gI
  have HQ:Hid (∀ q∈os,Nm.aN q.lab lab=0->∀ s∈q.ss,s.ty≠ty):=by
   intro q hq IK s hs;have:q=o:=aLu HS.out hq hom (by rw [bQ (iC oN)] at IK;exact IK);subst this;exact gI s hs
  clear hg kY ho oN hom gI HO fJ kZ PG;go_wp2_with fail
  refine aX.mono ?_;rintro e w2 ⟨v,rfl,qY,b2⟩;obtain⟨va,vc,rfl⟩:=aT qY;have WN:=aB KQ b2;have rz:=aA WN
  have fz:=aF WN
  have bY:w.heap.size<w1.heap.size:=cO KQ;obtain⟨k4,BQ,nN⟩:=pY (x:=⟨#[]⟩) (ty:=0) (tt:=0) WN qY (fun e=>by have:=(qY.lt _ e).1;omega) (Nm.aC gP b2) (aI _);have rk:=aA k4
  have HP:Hid (TsP os lab ty w (.returned (.tuple #[.agg #[.string ⟨#[]⟩,.int .i64 0,.int .i64 0,.slice va 0 vc],.bool false])) _):=.inr ⟨HQ.out,_,rfl,fM BQ gP.size,nN⟩;simp only [Option.getD_none,Option.isSome_none,Ck,List.length_nil] at rk ⊢;clear KQ WN bY k4 BQ nN qY aX;go_wp2_with fail
  refine eB (v:=.tuple #[.agg #[.string ⟨#[]⟩,.int .i64 0,.int .i64 0,.slice va 0 vc],.bool false]) ?_ rfl HP.out;simp [results,Tryz.f29,go_sem,rk]
 have gP:Below w.heap.size w w1:=Nm.aC iY fJ;have KQ:bW w1 w.heap.size _ _:=aB kZ fJ;have rz:=aA KQ
 have fz:=aF KQ
 obtain⟨k4,-,nN⟩:=pY (x:=⟨#[]⟩) (ty:=0) (tt:=0) KQ (World.ownsRow_nil w1 0 9 1) (by simp [Value.ownBlock]) gP (aI _);have rk:=aA k4
 have HP:=Nm.aD (HN.out kY);clear hg kY kZ KQ fJ PG k4;go_wp2_with fail
 refine eB (v:=.tuple #[.agg #[.string ⟨#[]⟩,.int .i64 0,.int .i64 0,.slice none 0 0],.bool false]) ?_ rfl (.inr ⟨HP.out,JI nN⟩);simp [results,Tryz.f29,go_sem,rk]
def JL(last:List ByteArray)(out:List (List ByteArray))(y:List ByteArray):List (List ByteArray):=if(decide (0<out.length)&&aQ last y)=true then out else out++[y]
def ME(last lab:List ByteArray):Nat->List (List ByteArray)->List (List ByteArray)
 |0,out=>out
 |n+1,out=>ME last lab n (JL last out (lab.drop n))
def Ia(al:List ByteArray)(s:List (List ByteArray)×List ByteArray)(lab:List ByteArray):List (List ByteArray)×List ByteArray:=(ME s.2 lab (lab.length-al.length+1) s.1,lab)
def JM(al:List ByteArray)(os:List dG):List (List ByteArray)×List ByteArray:=(os.map (·.lab)).foldl (Ia al) ([],[])
theorem JN(al:List ByteArray)(os:List dG)(q:dG):JM al (os++[q])=Ia al (JM al os) q.lab:=by
 simp [JM,List.foldl_append]
def NmF(os:List dG)(al x:List ByteArray):Prop:=∃ i q,iJ (fun r:dG=>aQ r.lab x=true) os i q∧al.length<=x.length∧x=q.lab.drop (q.lab.length-x.length)
def uJ(p:List ByteArray->Bool)(lab:List ByteArray):Nat->List (List ByteArray)
 |0=>[]
 |n+1=>(if p (lab.drop n)=true then [] else [lab.drop n])++uJ p lab n
theorem JO{p p':List ByteArray->Bool}:∀ (n:Nat),(∀ k,k<n->p (lab.drop k)=p' (lab.drop k))->uJ p lab n=uJ p' lab n
 |0,_=>rfl
 |n+1,h=>by rw [uJ,uJ,h n (by omega),JO n (fun k hk=>h k (by omega))]
theorem TV{p:List ByteArray->Bool}:∀ {n:Nat},x∈uJ p lab n↔ ∃ k,k<n∧x=lab.drop k∧p x=false
 |0=>by simp [uJ]
 |n+1=>by
  rw [uJ,List.mem_append,TV (n:=n)];constructor
  ·rintro(h|⟨k,hk,e,hp⟩)
   ·split at h
    ·cases h
    rename_i hp;have e:=List.mem_singleton.1 h;exact⟨n,by omega,e,by rw [e];simpa using hp⟩
   exact⟨k,by omega,e,hp⟩
  rintro⟨k,hk,e,hp⟩
  rcases Nat.lt_or_ge k n with h|h
  ·exact .inr ⟨k,h,e,hp⟩
  obtain rfl:k=n:=by omega
  left;rw [<- e,if_neg (by rw [hp];decide)];exact List.mem_singleton.2 rfl
theorem KW{last:List ByteArray}:∀ (n:Nat) (out:List (List ByteArray)),0<out.length->ME last lab n out=out++uJ (aQ last) lab n
 |0,out,_=>by simp [ME,uJ]
 |n+1,out,h=>by
  rw [ME,uJ,JL];simp only [h,decide_true,Bool.true_and];split
  ·rw [KW n out h];rfl
  rw [KW n _ (by simp)];simp
theorem KX(lab:List ByteArray){k:Nat}(h:j<=k)(hk:k<=lab.length):aQ (lab.drop j) (lab.drop k)=true:=by
 refine dJ.2 ⟨by simp;omega,?_⟩;rw [List.drop_drop,List.length_drop,List.length_drop,show j+(lab.length-j-(lab.length-k))=k by omega];exact fA _
theorem aLv(lab:List ByteArray){k:Nat}(h:j<k)(hk:k<=lab.length):Nm.aN (lab.drop k) (lab.drop j)<0:=by
 have h1:=CK (KX lab (Nat.le_of_lt h) hk)
 rcases Int.lt_or_eq_of_le h1 with h2|h2
 ·exact h2
 have:=nG h2;simp at this;omega
theorem Ur{p:List ByteArray->Bool}:∀ (n:Nat),n<=lab.length+1->(uJ p lab n).Pairwise fun a b=>Nm.aN a b<0
 |0,_=>List.Pairwise.nil
 |n+1,h=>by
  rw [uJ];refine List.pairwise_append.2 ⟨?_,Ur n (by omega),fun a ha b hb=>?_⟩
  ·split
   ·exact List.Pairwise.nil
   exact List.pairwise_singleton _ _
  obtain⟨k,hk,rfl,-⟩:=TV.1 hb
  split at ha
  ·cases ha
  rw [List.mem_singleton.1 ha];exact aLv lab hk (by omega)
theorem Cq{t o n:List ByteArray}(h:aQ n t=true)(h1:Nm.aN t o<=0)(h2:Nm.aN o n<0):aQ o t=true:=by
 rcases Int.lt_or_eq_of_le h1 with h3|h3
 ·exact TP h h3 h2
 exact pE (iC h3)
structure NmI (al:List ByteArray) (pre:List dG):Prop where
 pw:(JM al pre).1.Pairwise fun a b=>Nm.aN a b<0
 mem:∀ x,x∈(JM al pre).1↔NmF pre al x
 last:∀ q,pre.getLast? =some q->(JM al pre).2=q.lab
 ne:pre≠[]->0<(JM al pre).1.length
theorem aLw(al:List ByteArray)(os:List dG):Jz os->(∀ q∈os,aQ q.lab al=true)->NmI al os:=by
 refine vP (P:=fun os=>Jz os->(∀ q∈os,aQ q.lab al=true)->NmI al os) ?_ (fun pre q ih hS hU=>?_) os
 ·intro _ _;refine⟨List.Pairwise.nil,fun x=>⟨fun h=>(by cases h),?_⟩,by simp,by simp⟩
  rintro⟨i,q,hF,-⟩
  simp [iJ] at hF
 obtain⟨MJ,-,Yd⟩:=List.pairwise_append.1 hS;have hI:=ih MJ (fun r hr=>hU r (List.mem_append_left _ hr));have hq:=hU q (by simp);have XI:=(dJ.1 hq).1;have bY:∀ r∈pre,Nm.aN r.lab q.lab<0:=fun r hr=>Yd r hr q (by simp)
 have hE:ME (JM al pre).2 q.lab (q.lab.length-al.length+1) (JM al pre).1=(JM al pre).1++uJ (fun y=>pre.any fun r=>aQ r.lab y) q.lab (q.lab.length-al.length+1):=by
  rcases List.eq_nil_or_concat pre with rfl|⟨pre',r0,rfl⟩
  ·show ME [] q.lab (q.lab.length-al.length+1) []=[]++_
   rw [ME,uJ];simp only [JL,List.length_nil,Nat.lt_irrefl,decide_false,Bool.false_and,Bool.false_eq_true,if_false,List.any_nil,List.nil_append];rw [KW _ _ (by simp)];congr 1;refine JO _ fun k hk=>?_;rw [aQ];simp
   omega
  have dM:pre'++[r0]≠[]:=by simp
  rw [List.concat_eq_append] at*;rw [KW _ _ (hI.ne dM),hI.last r0 (by simp)];congr 1;refine JO _ fun k hk=>?_;apply Bool.eq_iff_iff.2;rw [List.any_eq_true];constructor
  ·exact fun h=>⟨r0,by simp,h⟩
  rintro⟨r,hr,h⟩
  have hqk:aQ q.lab (q.lab.drop k)=true:=by
   have:=KX q.lab (dR k) (by omega)
   rwa [List.drop_zero] at this
  rcases iU hr with Mw|Mw
  ·have h1:=(List.pairwise_append.1 MJ).2.2 r Mw r0 (by simp);refine Cq hqk ?_ (bY r0 (by simp));have h2:=CK h;exact iD h2 (by omega)
  rw [List.mem_singleton.1 Mw] at h;exact h
 have hT:JM al (pre++[q])=((JM al pre).1++uJ (fun y=>pre.any fun r=>aQ r.lab y) q.lab (q.lab.length-al.length+1),q.lab):=by
  rw [JN,Ia,hE]
 have aF4:∀ x,x∈uJ (fun y=>pre.any fun r=>aQ r.lab y) q.lab (q.lab.length-al.length+1)↔ ∃ k,k<=q.lab.length-al.length∧x=q.lab.drop k∧∀ r∈pre,aQ r.lab x=false:=by
  intro x;rw [TV];constructor
  ·rintro⟨k,h1,h2,h3⟩
   refine⟨k,by omega,h2,fun r hr=>?_⟩;rw [List.any_eq_false] at h3;simpa using h3 r hr
  rintro⟨k,h1,h2,h3⟩
  refine⟨k,by omega,h2,?_⟩;rw [List.any_eq_false];intro r hr;rw [h3 r hr];decide
 have aLx:∀ x i r,iJ (fun r:dG=>aQ r.lab x=true) (pre++[q]) i r↔iJ (fun r:dG=>aQ r.lab x=true) pre i r∨(i=pre.length∧r=q∧aQ q.lab x=true∧∀ r∈pre,aQ r.lab x=false):=by
  intro x i r;constructor
  ·rintro⟨h1,h2,h3⟩
   rcases Nat.lt_or_ge i pre.length with h|h
   ·left;rw [List.getElem?_append_left h] at h1;exact⟨h1,h2,fun j y hj hy=>h3 j y hj (by rw [List.getElem?_append_left (by omega)];exact hy)⟩
   right;rw [List.getElem?_append_right h] at h1
   have hi:i-pre.length=0:=by
    have:=(dL h1).1;simp at this;omega
   rw [hi] at h1;simp at h1;subst h1;refine⟨by omega,rfl,h2,fun r hr=>?_⟩;obtain⟨j,hj⟩:=List.getElem?_of_mem hr;have NG:=(dL hj).1;have:=h3 j r (by omega) (by rw [List.getElem?_append_left NG];exact hj);simpa using this
  rintro(h|⟨rfl,rfl,h2,h3⟩)
  ·exact h.snoc q
  exact iJ.new (fun y hy=>by rw [h3 y hy];decide) h2
 refine⟨?_,fun x=>?_,fun r hr=>?_,fun _=>?_⟩
 ·rw [hT];refine List.pairwise_append.2 ⟨hI.pw,Ur _ (by omega),fun x hx y hy=>?_⟩;obtain⟨i,r,hF,DN,ex⟩:=(hI.mem x).1 hx;obtain⟨k,hk,ey,gI⟩:=(aF4 y).1 hy;have hrm:=hF.mem
  rcases Int.lt_or_le (Nm.aN x y) 0 with h|h
  ·exact h
  exfalso
  have h1:Nm.aN y x<=0:=by have:=dU x y;omega
  have h2:=CK hF.2.1
  have hqy:aQ q.lab y=true:=by
   have:=KX q.lab (dR k) (by omega);rw [List.drop_zero,<- ey] at this;exact this
  have h3:=gI r hrm;rw [Cq hqy (iD h1 h2) (bY r hrm)] at h3;cases h3
 ·rw [hT];show x∈(JM al pre).1++_↔_
  rw [List.mem_append,hI.mem,aF4];constructor
  ·rintro(⟨i,r,hF,h1,h2⟩|⟨k,hk,ex,gI⟩)
   ·exact⟨i,r,(aLx x i r).2 (.inl hF),h1,h2⟩
   have DN:x.length=q.lab.length-k:=by rw [ex,List.length_drop]
   refine⟨pre.length,q,(aLx x _ q).2 (.inr ⟨rfl,rfl,?_,gI⟩),by omega,by rw [DN,show q.lab.length-(q.lab.length-k)=k by omega];exact ex⟩;have:=KX q.lab (dR k) (by omega);rw [List.drop_zero,<- ex] at this;exact this
  rintro⟨i,r,hF,h1,h2⟩
  rcases(aLx x i r).1 hF with hF|⟨-,rfl,h3,h4⟩
  ·exact .inl ⟨i,r,hF,h1,h2⟩
  exact .inr ⟨_,by omega,h2,h4⟩
 ·rw [hT];simp at hr;rw [hr]
 rw [hT];simp only [oJ]
 rcases List.eq_nil_or_concat pre with rfl|⟨pre',r0,rfl⟩
 ·have:q.lab.drop (q.lab.length-al.length)∈uJ (fun y=>([]:List dG).any fun r=>aQ r.lab y) q.lab (q.lab.length-al.length+1):=(aF4 _).2 ⟨_,aI _,rfl,by simp⟩;have:=List.length_pos_of_mem this;omega
 have:=hI.ne (by simp);omega
abbrev Ne:Type:=List ByteArray×Bool
def aF5(al lab:List ByteArray):List Ne:=(List.range (lab.length-al.length+1)).map fun k=>(lab.drop k,decide (k=0))
def Fs(al:List ByteArray)(ls:List (List ByteArray)):List Ne:=ls.flatMap (aF5 al)
def Wm(a b:Ne):Bool:=decide (Nm.aN a.1 b.1<=0)
def zJ:Nat->List Ne->List Ne
 |0,l=>l
 |n+1,l=>if l.length<2 then l else List.merge (zJ n (l.take (l.length / 2))) (zJ n (l.drop (l.length / 2))) Wm
def TW(s:List (List ByteArray)×Option (List ByteArray))(e:Ne):List (List ByteArray)×Option (List ByteArray):=match s.2 with
 |none=>(s.1++[e.1],some e.1)
 |some p=>if Nm.aN p e.1≠0 then(s.1++[e.1],some e.1) else if e.2=true then(s.1.dropLast++[e.1],some e.1) else(s.1,some e.1)
def Lx(l:List Ne):List (List ByteArray)×Option (List ByteArray):=l.foldl TW ([],none)
theorem QS(l:List Ne)(e:Ne):Lx (l++[e])=TW (Lx l) e:=by simp [Lx,List.foldl_append]
variable {S g l:List Ne}{e:Ne}
theorem NW(h:l.length<2):zJ n l=l:=by
 cases n with
 |zero=>rfl
 |succ n=>rw [zJ,if_pos h]
theorem Cr(h:¬l.length<2):zJ (n+1) l=List.merge (zJ n (l.take (l.length / 2))) (zJ n (l.drop (l.length / 2))) Wm:=by rw [zJ,if_neg h]
theorem aCj:∀ (n:Nat) (l:List Ne),(zJ n l).Perm l:=by
 intro n
 induction n with
 |zero=>intro l;exact .refl _
 |succ n ih=>
  intro l
  by_cases h:l.length<2
  ·rw [NW h]
  rw [Cr h];have h1:(List.merge (zJ n (l.take (l.length / 2))) (zJ n (l.drop (l.length / 2))) Wm).Perm (zJ n (l.take (l.length / 2))++zJ n (l.drop (l.length / 2))):=List.merge_perm_append _;refine h1.trans ?_;refine((ih _).append (ih _)).trans ?_;rw [List.take_append_drop]
theorem JP{x:Ne}:x∈zJ n l↔x∈l:=(aCj n l).mem_iff
theorem tY{a b:Ne}:Wm a b=true↔Nm.aN a.1 b.1<=0:=by rw [Wm];simp
theorem aCk:∀ (A B:List Ne),A.Pairwise (fun a b=>Wm a b=true)->B.Pairwise (fun a b=>Wm a b=true)->(List.merge A B Wm).Pairwise (fun a b=>Wm a b=true):=by
 intro A
 induction A with
 |nil=>intro B _ hB;rw [List.nil_merge];exact hB
 |cons a A ihA=>
  intro B
  induction B with
  |nil=>intro hA _;rw [List.merge_right];exact hA
  |cons b B ihB=>
   intro hA hB;obtain⟨ha,hA'⟩:=List.pairwise_cons.1 hA;obtain⟨hb,hB'⟩:=List.pairwise_cons.1 hB;rw [List.cons_merge_cons]
   by_cases h:Wm a b=true
   ·rw [if_pos h];refine List.pairwise_cons.2 ⟨fun z hz=>?_,ihA _ hA' hB⟩
    rcases iU ((List.merge_perm_append _).mem_iff.1 hz) with hz|hz
    ·exact ha z hz
    rcases List.mem_cons.1 hz with rfl|hz
    ·exact h
    exact tY.2 (iD (tY.1 h) (tY.1 (hb z hz)))
   rw [if_neg h]
   have hba:Nm.aN b.1 a.1<=0:=by
    rw [tY] at h;have:=dU a.1 b.1;omega
   refine List.pairwise_cons.2 ⟨fun z hz=>?_,ihB hA hB'⟩
   rcases iU ((List.merge_perm_append _).mem_iff.1 hz) with hz|hz
   ·rcases List.mem_cons.1 hz with rfl|hz
    ·exact tY.2 hba
    exact tY.2 (iD hba (tY.1 (ha z hz)))
   exact hb z hz
theorem Ma:∀ (n:Nat) (l:List Ne),l.length<=n+1->(zJ n l).Pairwise (fun a b=>Wm a b=true):=by
 intro n
 induction n with
 |zero=>intro l h;rw [zJ];exact Kz (by omega)
 |succ n ih=>
  intro l h
  by_cases hs:l.length<2
  ·rw [NW hs];exact Kz hs
  rw [Cr hs];exact aCk _ _ (ih _ (by simp;omega)) (ih _ (by simp;omega))
def FT(y:List ByteArray)(e:Ne):Bool:=decide (Nm.aN e.1 y=0)
theorem Fu(y:List ByteArray):∀ (A B:List Ne),A.Pairwise (fun a b=>Wm a b=true)->(List.merge A B Wm).filter (FT y)=A.filter (FT y)++B.filter (FT y):=by
 intro A
 induction A with
 |nil=>intro B _;rw [List.nil_merge];rfl
 |cons a A ihA=>
  intro B
  induction B with
  |nil=>intro hA;rw [List.merge_right];simp
  |cons b B ihB=>
   intro hA;obtain⟨ha,hA'⟩:=List.pairwise_cons.1 hA;rw [List.cons_merge_cons]
   by_cases h:Wm a b=true
   ·rw [if_pos h,List.filter_cons,List.filter_cons,ihA _ hA']
    split<;>rfl
   rw [if_neg h,List.filter_cons,ihB hA,List.filter_cons (xs:=B)];split
   ·rename_i hb;have XT:Nm.aN b.1 y=0:=by simpa [FT] using hb
    have e:(a::A).filter (FT y)=[]:=by
     rw [List.filter_eq_nil_iff];intro z hz hzy;have iQ:Nm.aN z.1 y=0:=by simpa [FT] using hzy
     have Eh:Nm.aN z.1 b.1=0:=by rw [dB iQ];exact iC XT
     apply h;rw [tY]
     rcases List.mem_cons.1 hz with rfl|hz
     ·omega
     exact iD (tY.1 (ha z hz)) (by omega)
    rw [e];rfl
   rfl
theorem Us(y:List ByteArray):∀ (n:Nat) (l:List Ne),l.length<=n+1->(zJ n l).filter (FT y)=l.filter (FT y):=by
 intro n
 induction n with
 |zero=>intro l _;rfl
 |succ n ih=>
  intro l h
  by_cases hs:l.length<2
  ·rw [NW hs]
  rw [Cr hs,Fu y _ _ (Ma n _ (by simp;omega)),ih _ (by simp;omega),ih _ (by simp;omega),<- List.filter_append,List.take_append_drop]
def Ut(g:List Ne):List ByteArray:=match (g.filter (·.2)).getLast? with
 |some e=>e.1
 |none=>match g.head? with
  |some e=>e.1
  |none=>[]
theorem Uu(h:e.2=true):Ut (g++[e])=e.1:=by
 rw [Ut,List.filter_append];simp [h]
theorem aLy(h:e.2=false)(hg:g≠[]):Ut (g++[e])=Ut g:=by
 rw [Ut,Ut,List.filter_append];have e1:[e].filter (·.2)=[]:=by simp [h]
 rw [e1,List.append_nil]
 cases g with
 |nil=>exact absurd rfl hg
 |cons x g=>rfl
theorem aJd(e:Ne):Ut [e]=e.1:=by
 cases h:e.2 with
 |true=>exact Uu (g:=[]) h
 |false=>rw [Ut];simp [h]
theorem Mc(hg:g≠[]):(∃ e∈g,e.2=true∧Ut g=e.1)∨(∃ e,g.head? =some e∧Ut g=e.1):=by
 rw [Ut]
 cases hq:(g.filter (·.2)).getLast? with
 |some e=>
  have hm:=List.mem_filter.1 (List.mem_of_getLast? hq)
  exact .inl ⟨e,hm.1,hm.2,rfl⟩
 |none=>
  cases g with
  |nil=>exact absurd rfl hg
  |cons x g=>exact .inr ⟨x,rfl,rfl⟩
theorem Uv{a b c:List ByteArray}(h1:Nm.aN a b<=0)(h2:Nm.aN b c<0):Nm.aN a c<0:=by
 rcases Int.lt_or_le (Nm.aN a c) 0 with h|h
 ·exact h
 have h3:Nm.aN c a<=0:=by have:=dU a c;omega
 have h4:=iD h3 h1;have:=dU b c;omega
structure DdI (S:List Ne):Prop where
 pw:(Lx S).1.Pairwise fun a b=>Nm.aN a b<0
 prev:(Lx S).2=S.getLast?.map (·.1)
 lst:∀ e,S.getLast? =some e->∃ L x,(Lx S).1=L++[x]∧Nm.aN x e.1=0
 mem:∀ x,x∈(Lx S).1↔(∃ e∈S,Nm.aN e.1 x=0)∧x=Ut (S.filter (FT x))
theorem vE:FT x e=true↔Nm.aN e.1 x=0:=by rw [FT];simp
theorem NY(h:¬Nm.aN e.1 x=0):(S++[e]).filter (FT x)=S.filter (FT x):=by
 rw [List.filter_append];have:[e].filter (FT x)=[]:=by rw [List.filter_eq_nil_iff];intro z hz hq;rw [List.mem_singleton.1 hz] at hq;exact h (vE.1 hq)
 rw [this,List.append_nil]
theorem UA(h:Nm.aN e.1 x=0):(S++[e]).filter (FT x)=S.filter (FT x)++[e]:=by
 rw [List.filter_append];have:[e].filter (FT x)=[e]:=by rw [List.filter_eq_self];intro z hz;rw [List.mem_singleton.1 hz];exact vE.2 h
 rw [this]
theorem H5(h:¬Nm.aN e.1 x=0):(∃ z∈S++[e],Nm.aN z.1 x=0)↔ ∃ z∈S,Nm.aN z.1 x=0:=by
 constructor
 ·rintro⟨z,hz,h0⟩
  rcases iU hz with hz|hz
  ·exact⟨z,hz,h0⟩
  rw [List.mem_singleton.1 hz] at h0;exact absurd h0 h
 rintro⟨z,hz,h0⟩
 exact⟨z,List.mem_append_left _ hz,h0⟩
theorem aF6(S:List Ne):S.Pairwise (fun a b=>Wm a b=true)->DdI S:=by
 refine vP (P:=fun S=>S.Pairwise (fun a b=>Wm a b=true)->DdI S) ?_ (fun S e ih hS=>?_) S
 ·intro _;exact⟨List.Pairwise.nil,rfl,by simp,by simp [Lx]⟩
 obtain⟨MJ,-,Yd⟩:=List.pairwise_append.1 hS;have hI:=ih MJ;have hle:∀ z∈S,Nm.aN z.1 e.1<=0:=fun z hz=>tY.1 (Yd z hz e (by simp))
 have S_:=fA e.1
 have Zc:(∀ z∈S,Nm.aN z.1 e.1<0)->Lx (S++[e])=((Lx S).1++[e.1],some e.1)->DdI (S++[e]):=by
  intro bY hT
  have gI:∀ x,Nm.aN e.1 x=0->¬∃ z∈S,Nm.aN z.1 x=0:=by
   rintro x hx ⟨z,hz,h0⟩;have:=bY z hz;rw [dB h0,bQ hx,fA] at this;omega
  refine⟨?_,by rw [hT];simp,fun e' he'=>?_,fun x=>?_⟩
  ·rw [hT];refine List.pairwise_append.2 ⟨hI.pw,List.pairwise_singleton _ _,fun x hx y hy=>?_⟩;rw [List.mem_singleton.1 hy];obtain⟨⟨z,hz,h0⟩,-⟩:=(hI.mem x).1 hx;rw [<- dB h0];exact bY z hz
  ·rw [hT];simp at he';exact⟨(Lx S).1,e.1,rfl,by rw [<- he'];exact S_⟩
  rw [hT];show x∈(Lx S).1++[e.1]↔_
  rw [List.mem_append,hI.mem]
  by_cases hx:Nm.aN e.1 x=0
  ·have Pp:=gI x hx
   have hf:S.filter (FT x)=[]:=by
    rw [List.filter_eq_nil_iff];exact fun z hz hq=>Pp ⟨z,hz,vE.1 hq⟩
   rw [UA hx,hf,List.nil_append,aJd];constructor
   ·rintro(⟨h,-⟩|h)
    ·exact absurd h Pp
    exact⟨⟨e,by simp,hx⟩,List.mem_singleton.1 h⟩
   rintro⟨-,h⟩
   exact .inr (List.mem_singleton.2 h)
  rw [NY hx,H5 hx];constructor
  ·rintro(h|h)
   ·exact h
   rw [List.mem_singleton.1 h] at hx;exact absurd S_ hx
  exact fun h=>.inl h
 cases hl:S.getLast? with
 |none=>
  have FV:S=[]:=by simpa using hl
  refine Zc (by rw [FV];simp) ?_
  rw [QS,TW,hI.prev,hl];rfl
 |some p=>
  have hpm:=List.mem_of_getLast? hl
  have BR:∀ z∈S,Nm.aN z.1 p.1<=0:=by
   intro z hz;obtain⟨S',rfl⟩:=List.getLast?_eq_some_iff.1 hl
   rcases iU hz with hz|hz
   ·exact tY.1 ((List.pairwise_append.1 MJ).2.2 z hz p (by simp))
   rw [List.mem_singleton.1 hz,fA];omega
  by_cases hpe:Nm.aN p.1 e.1=0
  ·obtain⟨L,x0,hL,NF⟩:=hI.lst p hl;have aJe:Nm.aN x0 e.1=0:=by rw [dB NF];exact hpe
   have hpw:=hI.pw;rw [hL] at hpw;obtain⟨BX,-,hp2⟩:=List.pairwise_append.1 hpw
   cases hf:e.2 with
   |true=>
    have hT:Lx (S++[e])=(L++[e.1],some e.1):=by
     rw [QS,TW,hI.prev,hl];simp only [Option.map_some];rw [if_neg (by simpa using hpe),if_pos hf,hL];simp
    refine⟨?_,by rw [hT];simp,fun e' he'=>?_,fun x=>?_⟩
    ·rw [hT];refine List.pairwise_append.2 ⟨BX,List.pairwise_singleton _ _,fun a ha y hy=>?_⟩;rw [List.mem_singleton.1 hy,<- bQ aJe];exact hp2 a ha x0 (by simp)
    ·rw [hT];simp at he';exact⟨L,e.1,rfl,by rw [<- he'];exact S_⟩
    rw [hT];show x∈L++[e.1]↔_
    by_cases hx:Nm.aN e.1 x=0
    ·rw [UA hx,Uu hf];constructor
     ·intro h
      rcases iU h with h|h
      ·have:=hp2 x h x0 (by simp);rw [bQ aJe,bQ hx,fA] at this;omega
      exact⟨⟨e,by simp,hx⟩,List.mem_singleton.1 h⟩
     rintro⟨-,h⟩
     exact List.mem_append_right _ (List.mem_singleton.2 h)
    rw [NY hx,H5 hx,<- hI.mem,hL,List.mem_append,List.mem_append];constructor
    ·rintro(h|h)
     ·exact .inl h
     rw [List.mem_singleton.1 h] at hx;exact absurd S_ hx
    rintro(h|h)
    ·exact .inl h
    rw [List.mem_singleton.1 h] at hx;exact absurd (iC aJe) hx
   |false=>
    have hT:Lx (S++[e])=((Lx S).1,some e.1):=by
     rw [QS,TW,hI.prev,hl];simp only [Option.map_some];rw [if_neg (by simpa using hpe),if_neg (by rw [hf];decide)]
    refine⟨by rw [hT];exact hI.pw,by rw [hT];simp,fun e' he'=>?_,fun x=>?_⟩
    ·rw [hT];simp at he';exact⟨L,x0,hL,by rw [<- he'];exact aJe⟩
    rw [hT];show x∈(Lx S).1↔_
    rw [hI.mem]
    by_cases hx:Nm.aN e.1 x=0
    ·have hpx:Nm.aN p.1 x=0:=by rw [dB hpe];exact hx
     have dM:S.filter (FT x)≠[]:=fun h=>by
      have:=List.filter_eq_nil_iff.1 h p hpm;exact this (vE.2 hpx)
     rw [UA hx,aLy hf dM];constructor
     ·rintro⟨-,h⟩;exact⟨⟨e,by simp,hx⟩,h⟩
     rintro⟨-,h⟩;exact⟨⟨p,hpm,hpx⟩,h⟩
    rw [NY hx,H5 hx]
  have nZ:Nm.aN p.1 e.1<0:=by have:=hle p hpm;omega
  refine Zc (fun z hz=>Uv (BR z hz) nZ) ?_;rw [QS,TW,hI.prev,hl];simp only [Option.map_some];rw [if_pos hpe]
theorem T9{p:Nat->Bool}{k0:Nat}:∀ (N:Nat),(∀ k,k<N->p k=decide (k=k0))->(List.range N).filter p=if k0<N then [k0] else []
 |0,_=>rfl
 |N+1,h=>by
  rw [List.range_succ,List.filter_append,T9 N (fun k hk=>h k (by omega)),List.filter_cons,h N (by omega)]
  by_cases h1:k0<N
  ·have h2:¬N=k0:=by omega
   have h3:k0<N+1:=by omega
   simp [h1,h2,h3]
  by_cases h2:N=k0
  ·subst h2;simp
  have h3:¬k0<N+1:=by omega
  simp [h1,h2,h3]
def aF7(x lab:List ByteArray):Ne:=(lab.drop (lab.length-x.length),decide (lab.length=x.length))
theorem Uw(XI:al.length<=lab.length)(hx:al.length<=x.length):(aF5 al lab).filter (FT x)=if aQ lab x=true then [aF7 x lab] else []:=by
 rw [aF5,List.filter_map]
 by_cases hu:aQ lab x=true
 ·obtain⟨u1,u2⟩:=dJ.1 hu;rw [if_pos hu,T9 (k0:=lab.length-x.length) _ (fun k hk=>?_),if_pos (by omega)]
  ·simp only [List.map_cons,List.map_nil,aF7];congr 2;apply decide_eq_decide.2;omega
  show FT x (lab.drop k,decide (k=0))=_
  by_cases h:k=lab.length-x.length
  ·rw [oI h];exact vE.2 (by rw [h];exact u2)
  rw [oF h];rw [<- Bool.not_eq_true,vE];intro e;have:=nG e;simp at this;omega
 rw [if_neg hu]
 have e:(List.range (lab.length-al.length+1)).filter (FT x∘fun k=>(lab.drop k,decide (k=0)))=[]:=by
  rw [List.filter_eq_nil_iff];intro k hk hq;have h0:Nm.aN (lab.drop k) x=0:=vE.1 hq;have vT:=List.mem_range.1 hk;have hl:=nG h0;rw [List.length_drop] at hl;apply hu;refine dJ.2 ⟨by omega,?_⟩;rw [<- hl,show lab.length-(lab.length-k)=k by omega];exact h0
 rw [e];rfl
theorem VT(hx:al.length<=x.length):∀ (ls:List (List ByteArray)),(∀ l∈ls,al.length<=l.length)->(Fs al ls).filter (FT x)=(ls.filter (aQ · x)).map (aF7 x)
 |[],_=>rfl
 |l::ls,h=>by
  rw [Fs,List.flatMap_cons,List.filter_append,Uw (h l (by simp)) hx,List.filter_cons];have ih:=VT hx ls (fun z hz=>h z (List.mem_cons_of_mem _ hz));rw [Fs] at ih;rw [ih]
  split<;>rfl
theorem T_(p:List ByteArray->Bool):∀ (os:List dG),(∀ q∈os,∃ s,s∈q.ss)->((NM os).map (·.1.lab)).find? p=(os.find? fun q=>p q.lab).map (·.lab)
 |[],_=>rfl
 |q::os,h=>by
  have ih:=T_ p os (fun r hr=>h r (List.mem_cons_of_mem _ hr));obtain⟨s,hs⟩:=h q (by simp);rw [NM,List.flatMap_cons,List.map_append,List.find?_append,List.find?_cons];rw [NM] at ih;rw [ih]
  cases hp:p q.lab with
  |true=>
   cases hq:q.ss with
   |nil=>rw [hq] at hs;cases hs
   |cons s0 ss=>simp [hp]
  |false=>
   have e:((q.ss.map fun s=>(q,s)).map (·.1.lab)).find? p=none:=by
    rw [List.find?_eq_none];intro z hz;rw [List.map_map] at hz;obtain⟨s',-,rfl⟩:=kJ hz;simp [hp]
   rw [e];rfl
theorem Ib(h:TZ os o al)(hx:al.length<=x.length){q0:dG}(hF:iJ (fun r:dG=>aQ r.lab x=true) os i q0):Ut ((Fs al ((NM os).map (·.1.lab))).filter (FT x))=q0.lab.drop (q0.lab.length-x.length):=by
 have hls:∀ l∈(NM os).map (·.1.lab),∃ q∈os,l=q.lab:=by
  intro l hl;obtain⟨g,hg,rfl⟩:=kJ hl;exact⟨g.1,(fT.1 hg).1,rfl⟩
 rw [VT hx _ (fun l hl=>by obtain⟨q,hq,rfl⟩:=hls l hl;exact(dJ.1 (h.und q hq)).1)]
 have Na:((NM os).map (·.1.lab)).find? (aQ · x)=some q0.lab:=by
  rw [T_ _ os h.full,hF.find (fun q=>aQ q.lab x) (fun y hy=>Iff.rfl)];rfl
 have dM:(((NM os).map (·.1.lab)).filter (aQ · x)).map (aF7 x)≠[]:=by
  intro e;have e2:=List.map_eq_nil_iff.1 e;have e3:=List.filter_eq_nil_iff.1 e2 _ (List.mem_of_find?_eq_some Na);exact e3 (List.find?_some (p:=(aQ · x)) Na)
 rcases Mc dM with⟨e,he,hfl,hl⟩|⟨e,he,hl⟩
 ·rw [hl];obtain⟨lab,IQ,rfl⟩:=kJ he;obtain⟨hm,hu⟩:=List.mem_filter.1 IQ;obtain⟨q,hq,rfl⟩:=hls lab hm;have hlen:q.lab.length=x.length:=by simpa [aF7] using hfl
  obtain⟨u1,u2⟩:=dJ.1 hu;rw [hlen,Nat.sub_self,List.drop_zero] at u2;have h1:=CK hF.2.1;have h2:Nm.aN q.lab q0.lab<=0:=by rw [dB u2];exact h1
  have h3:Nm.aN q0.lab q.lab<=0:=by
   obtain⟨j,hj⟩:=List.getElem?_of_mem hq;have hi:=dL hF.1;have OE:=dL hj
   rcases Nat.lt_trichotomy i j with h|h'|h'
   ·have:=List.pairwise_iff_getElem.1 (TZ.iT (by assumption)).1 i j hi.1 OE.1 h;rw [hi.2,OE.2] at this;omega
   ·subst h';rw [hF.1] at hj;rw [jI hj,fA];omega
   exact absurd hu (hF.2.2 j q h' hj)
  have h4:q0=q:=h.one q0 hF.mem q hq (by have:=dU q.lab q0.lab;omega);rw [h4];rfl
 rw [hl];rw [List.head?_map,List.head?_filter,Na] at he;rw [<- jI he];rfl
theorem aF8(h:TZ os o al)(n:Nat)(hn:(Fs al ((NM os).map (·.1.lab))).length<=n+1):(Lx (zJ n (Fs al ((NM os).map (·.1.lab))))).1=(JM al os).1:=by
 have hD:=aF6 _ (Ma n _ hn);have hN:=aLw al os h.iT.1 h.und;refine Hu (R:=fun a b=>Nm.aN a b<0) (fun a=>by rw [fA];omega) (fun a b c h1 h2=>mG h1 h2) _ _ hD.pw hN.pw fun x=>?_;rw [hD.mem,hN.mem,Us x n _ hn];constructor
 ·rintro⟨⟨e,he,h0⟩,hx⟩
  have he':=JP.1 he;obtain⟨l,hl,hel⟩:=List.mem_flatMap.1 he';obtain⟨g,hg,rfl⟩:=kJ hl;obtain⟨k,hk,rfl⟩:=kJ hel;have vT:=List.mem_range.1 hk;have hq:=(fT.1 hg).1;have XI:=(dJ.1 (h.und g.1 hq)).1;have hlen:=nG h0;simp only [List.length_drop] at hlen;have hu:aQ g.1.lab x=true:=dJ.2 ⟨by omega,by rw [<- hlen,show g.1.lab.length-(g.1.lab.length-k)=k by omega];exact h0⟩;obtain⟨i,q0,hF⟩:=iJ.ex (P:=fun r:dG=>aQ r.lab x=true) ⟨g.1,hq,hu⟩;have hxa:al.length<=x.length:=by omega
  exact⟨i,q0,hF,hxa,by rw [<- Ib h hxa hF];exact hx⟩
 rintro⟨i,q,hF,hxa,ex⟩
 refine⟨?_,by rw [Ib h hxa hF];exact ex⟩;have hq:=hF.mem;obtain⟨s,hs⟩:=h.full q hq;have hul:=(dJ.1 hF.2.1).1;refine⟨(q.lab.drop (q.lab.length-x.length),decide (q.lab.length-x.length=0)),JP.2 (List.mem_flatMap.2 ⟨q.lab,List.mem_map.2 ⟨(q,s),fT.2 ⟨hq,hs⟩,rfl⟩,List.mem_map.2 ⟨_,List.mem_range.2 (by omega),rfl⟩⟩),?_⟩;show Nm.aN (q.lab.drop (q.lab.length-x.length)) x=0
 rw [<- ex];exact fA _
def QT(iT:List It):Nat->List (ByteArray×Int)
 |0=>[]
 |k+1=>match iT[k]? with
  |some x=>if jM iT k x then QT iT k++[(x.fo,x.r.ty)] else QT iT k
  |none=>QT iT k
theorem aJf(l iT:List It):∀ (k:Nat),k<=iT.length->(nS l iT k).map (fun s=>(s.own,s.ty))=(QT iT k).map fun q=>(vX l q.1,q.2):=by
 intro k
 induction k with
 |zero=>intro _;rfl
 |succ k ih=>
  intro hk;have ih':=ih (by omega);obtain⟨x,hx⟩:∃ x,iT[k]? =some x:=⟨_,gF (by omega)⟩
  cases hn:jM iT k x with
  |true=>
   rw [tO hx hn,QT,hx]
   simp [hn,ih']
  |false=>
   have Ke:0<k:=by
    rcases Nat.eq_zero_or_pos k with h|h
    ·subst h;simp [jM] at hn
    exact h
   obtain⟨qs,s,e⟩:=xP (l:=l) (iT:=iT) k Ke (by omega);rw [yM hx hn e,QT,hx];rw [e] at ih';simpa [hn] using ih'
theorem U0:∀ {k:Nat} {q:ByteArray×Int},q∈QT iT k->∃ j y,j<k∧iT[j]? =some y∧q=(y.fo,y.r.ty):=by
 intro k
 induction k with
 |zero=>intro q h;simp [QT] at h
 |succ k ih=>
  intro q h
  have old:q∈QT iT k->∃ j y,j<k+1∧iT[j]? =some y∧q=(y.fo,y.r.ty):=fun h=>by
   obtain⟨j,y,h1,h2,h3⟩:=ih h;exact⟨j,y,by omega,h2,h3⟩
  rw [QT] at h
  cases hx:iT[k]? with
  |none=>rw [hx] at h;exact old h
  |some x=>
   rw [hx] at h;simp only at h
   split at h
   ·rcases iU h with h|h
    ·exact old h
    simp at h;exact⟨k,x,by omega,hx,h⟩
   exact old h
theorem aLz{a b c:It}(h1:Bf a b)(h2:Bf b c)(hf:a.fo=c.fo)(ht:a.r.ty=c.r.ty):b.fo=c.fo∧b.r.ty=c.r.ty:=by
 rw [JE] at h1 h2
 have n1:¬Nm.sH a.fo b.fo<0:=by
  intro h
  rcases h2 with⟨e,_⟩|⟨e,_⟩|h3
  ·rw [e,hf,uV] at h;omega
  ·rw [e,hf,uV] at h;omega
  have:=Bn h h3;rw [hf,uV] at this;omega
 have e1:a.fo=b.fo:=by
  rcases h1 with⟨e,_⟩|⟨e,_⟩|h
  ·exact e
  ·exact e
  exact absurd h n1
 have e2:b.fo=c.fo:=by rw [<- e1,hf]
 have n2:¬Nm.sH b.fo c.fo<0:=by rw [e2,uV];omega
 have t1:a.r.ty<=b.r.ty:=by
  rcases h1 with⟨_,e,_⟩|⟨_,e⟩|h
  ·omega
  ·omega
  exact absurd h n1
 have t2:b.r.ty<=c.r.ty:=by
  rcases h2 with⟨_,e,_⟩|⟨_,e⟩|h
  ·omega
  ·omega
  exact absurd h n2
 exact⟨e2,by omega⟩
theorem aL0(hpw:iT.Pairwise Bf):∀ (k:Nat),k<=iT.length->(QT iT k).Nodup:=by
 intro k
 induction k with
 |zero=>intro _;exact List.nodup_nil
 |succ k ih=>
  intro hk;have ih':=ih (by omega);obtain⟨x,hx⟩:∃ x,iT[k]? =some x:=⟨_,gF (by omega)⟩;have hxe:=(dL hx).2;rw [QT,hx];simp only
  split
  ·rename_i hn;rw [List.nodup_append];refine⟨ih',by simp,fun q hq q' Vy e=>?_⟩;simp at Vy;subst Vy;obtain⟨j,y,h1,h2,h3⟩:=U0 hq;rw [e] at h3;obtain⟨e1,e2⟩:=Prod.mk.inj h3;have hye:=(dL h2).2;have Ke:0<k:=by omega
   obtain⟨z,hz⟩:∃ z,iT[k-1]? =some z:=⟨_,gF (by omega)⟩;have hze:=(dL hz).2
   have hzx:¬(z.fo=x.fo∧z.r.ty=x.r.ty):=by
    intro hh;obtain⟨m,rfl⟩:∃ m,k=m+1:=⟨k-1,by omega⟩;rw [Nat.add_sub_cancel] at hz;simp [jM,hz,hh.1,hh.2] at hn
   rcases Nat.lt_or_eq_of_le (show j<=k-1 by omega) with h|h
   ·have p1:=List.pairwise_iff_getElem.1 hpw j (k-1) (by omega) (by omega) h;have p2:=List.pairwise_iff_getElem.1 hpw (k-1) k (by omega) (by omega) (by omega);rw [hye,hze] at p1;rw [hze,hxe] at p2;exact hzx (aLz p1 p2 e1.symm e2.symm)
   subst h;rw [h2] at hz;obtain rfl:=jI hz;exact hzx ⟨e1.symm,e2.symm⟩
  exact ih'
theorem Ic:∀ (l:List Rr) (i:Nat),gB aL l i=none->∀ r∈l,pW r aL=0
 |[],i,_,r,hr=>by simp at hr
 |x::l,i,h,r,hr=>by
  rw [gB] at h
  split at h
  ·rename_i h0
   rcases List.mem_cons.1 hr with rfl|hr
   ·exact h0
   exact Ic l (i+1) h r hr
  cases h
theorem aF9{list:List Rr}(h:(iX list aL).1=0):∀ r∈list,pW r aL=0:=by
 rw [iX] at h
 split at h
 ·exact absurd h (by simp)
 split at h
 ·exact absurd h (by simp)
 cases hb:gB aL list 0 with
 |none=>exact Ic _ _ hb
 |some c=>
  exfalso
  rw [hb] at h
  have nz:∀ (l:List Rr) (i:Nat) (c:Int) (j:Nat),gB aL l i=some (c,j)->c≠0:=by
   intro l
   induction l with
   |nil=>intro i c j h;simp [gB] at h
   |cons x l ih=>
    intro i c j h;rw [gB] at h
    split at h
    ·exact ih _ _ _ h
    rename_i hn;simp at h;rw [<- h.1];exact hn
  exact nz _ _ c.1 c.2 hb h
theorem Ie{r:Rr}(h:pW r aL=0):(Nm.split r.own).isSome=true:=by
 rw [pW] at h
 split at h
 ·exact absurd h (by simp)
 rename_i hn
 cases hh:(Nm.split r.own).isSome with
 |true=>rfl
 |false=>exact absurd hh hn
theorem aJg{l:List It}(hg:∀ x∈l,x.fo=Nm.dV x.r.own){x:It}(h:x∈l):∃ y∈l,vX l x.fo=y.r.own∧y.fo=x.fo:=by
 rw [vX]
 cases e:l.find? (fun y=>decide (y.fo=x.fo)) with
 |some y=>
  have h2:=List.find?_some e;simp at h2
  exact⟨y,List.mem_of_find?_eq_some e,rfl,h2⟩
 |none=>
  have:=List.find?_eq_none.1 e x h;simp at this
theorem aJh(hz:AO ps o=true){q:Zp}(hi:ps[i]? =some p)(hj:ps[j]? =some q)(ht:p.1.ty=q.1.ty)(hs:eQ p.1.own q.1.own=true):i=j:=by
 obtain⟨hc,hb⟩:=qR hz;have h1:=aF9 hc
 have Tz:∀ y∈(aR ps).map bH,iN y:=by
  intro y hy;obtain⟨r,hr,rfl⟩:=kJ hy;exact CP (Ie (h1 r hr))
 have hpw:(lU (aR ps)).Pairwise Bf:=by
  rw [lU,VI];exact Rw _ _ (by omega) (Q5 Tz)
 have Qm:=aL0 hpw _ (aI _);have hk:=aJf (bK (aR ps)) (lU (aR ps)) _ (aI _);rw [show nS (bK (aR ps)) (lU (aR ps)) (lU (aR ps)).length=ps.map (·.1) from hb] at hk
 have FL:∀ x∈bK (aR ps),x.fo=Nm.dV x.r.own∧(Nm.split x.r.own).isSome=true:=by
  intro x hx;obtain⟨m,hm⟩:=List.getElem?_of_mem hx
  cases hr:(aR ps)[m]? with
  |none=>
   have h3:=(dL hm).1;rw [List.getElem?_eq_none_iff] at hr;simp [bK,FX] at h3
   omega
  |some r=>
   have h3:(bK (aR ps))[m]? =some (qG (pU (((aR ps).map bH).take m) (bH r)) (bH r)):=by
    rw [bK,FX,List.getElem?_mapIdx,List.getElem?_map,hr];rfl
   rw [hm] at h3;obtain rfl:=jI h3;exact⟨rfl,Ie (h1 r (dA hr))⟩
 have key:∀ (m:Nat) (z:Zp),ps[m]? =some z->∃ x∈bK (aR ps),(QT (lU (aR ps)) (lU (aR ps)).length)[m]? =some (x.fo,z.1.ty)∧∃ y∈bK (aR ps),z.1.own=y.r.own∧y.fo=x.fo:=by
  intro m z hm;have h4:=congrArg (fun l=>l[m]?) hk;simp only [List.getElem?_map,hm,Option.map_some] at h4
  cases hq:(QT (lU (aR ps)) (lU (aR ps)).length)[m]? with
  |none=>rw [hq] at h4;cases h4
  |some k=>
   rw [hq] at h4;simp only [Option.map_some,mV,Prod.mk.injEq] at h4;obtain⟨n,x,_,h5,h6⟩:=U0 (dA hq)
   have hx:x∈bK (aR ps):=by
    have:=dA h5;rw [lU,VI] at this;exact(List.mem_filter.1 (KN.1 this)).1
   obtain⟨y,hy,e1,e2⟩:=aJg (fun x hx=>(FL x hx).1) hx;subst h6;refine⟨x,hx,by rw [h4.2],y,hy,?_,e2⟩;rw [h4.1];exact e1
 obtain⟨x,hx,kx,y,hy,ey,fy⟩:=key i p hi;obtain⟨x',hx',kx',y',hy',ey',fy'⟩:=key j q hj
 have hff:x.fo=x'.fo:=by
  rw [<- fy,<- fy',(FL y hy).1,(FL y' hy').1,<- ey,<- ey'];obtain⟨la,hla⟩:=Option.isSome_iff_exists.1 (FL y hy).2;obtain⟨lb,EM⟩:=Option.isSome_iff_exists.1 (FL y' hy').2;rw [<- ey] at hla;rw [<- ey'] at EM;rw [nC hla EM,decide_eq_true_eq] at hs;exact(CJ hla EM).2 hs
 rw [hff,ht] at kx;exact(List.getElem?_inj (dL kx).1 Qm).1 (kx.trans kx'.symm)
def wG(ss:List Sz):Nat:=(ss.map fun s=>s.da.length).sum
theorem Md(a b:List Sz):wG (a++b)=wG a+wG b:=by simp [wG]
theorem aJi(l iT:List It):∀ k,k<=iT.length->wG (nS l iT k)=k:=by
 intro k
 induction k with
 |zero=>intro _;rfl
 |succ k ih=>
  intro hk;have ihk:=ih (by omega);rw [nS,gF (by omega)];simp only
  split
  ·rw [Md,ihk];rfl
  rename_i hn;rw [XV]
  cases hl:(nS l iT k).getLast? with
  |none=>
   rw [List.getLast?_eq_none_iff] at hl;rw [hl] at ihk;have k0:k=0:=ihk.symm;subst k0
   exact absurd rfl hn
  |some s=>
   obtain⟨pre,e⟩:∃ pre,nS l iT k=pre++[s]:=by
    obtain⟨pre,e⟩:=List.getLast?_eq_some_iff.1 hl;exact⟨pre,e⟩
   rw [e] at ihk ⊢;simp only [List.dropLast_concat];rw [Md] at ihk ⊢;simp only [wG,List.map_cons,List.map_nil,List.sum_cons,List.sum_nil,oJ,List.length_cons,List.length_nil] at ihk ⊢;omega
theorem U1(xs:List Rr):(bK xs).length=xs.length:=by simp [bK,FX]
theorem aL1{x:Rr}(h:xs[i]? =some x):(bK xs)[i]? =some (qG (pU ((xs.map bH).take i) (bH x)) (bH x)):=by
 rw [bK,FX,List.getElem?_mapIdx,List.getElem?_map,h];rfl
theorem aPo{x:It}(h:x∈bK xs):x.r∈xs∧x.fo=Nm.dV x.r.own:=by
 obtain⟨i,hi⟩:=List.getElem?_of_mem h
 cases hx:xs[i]? with
 |none=>
  have h1:=(dL hi).1;rw [U1] at h1;rw [List.getElem?_eq_none_iff] at hx
  omega
 |some r=>
  have h2:=aL1 hx;rw [hi] at h2;obtain rfl:=jI h2;exact⟨dA hx,rfl⟩
theorem aL2{l:List It}{x:It}(h:x∈l):∃ y∈l,vX l x.fo=y.r.own:=by
 rw [vX]
 cases e:l.find? (fun y=>decide (y.fo=x.fo)) with
 |some y=>exact⟨y,List.mem_of_find?_eq_some e,rfl⟩
 |none=>
  have:=List.find?_eq_none.1 e x h;simp at this
def ZS(s:Sz):Prop:=s.own.size<=1000∧∀ d∈s.da,d.size<=3200
theorem aL3{l:List It}(hs:∀ x∈iT,x∈l)(hl:∀ x∈l,ZR x.r):∀ (k:Nat),k<=iT.length->∀ s∈nS l iT k,ZS s:=by
 intro k
 induction k with
 |zero=>intro _ s h;simp [nS] at h
 |succ k ih=>
  intro hk;have ih':=ih (by omega);obtain⟨x,hx⟩:∃ x,iT[k]? =some x:=⟨_,gF (by omega)⟩;have DN:=hs x (dA hx)
  cases hn:jM iT k x with
  |true=>
   rw [tO hx hn];intro s h
   rcases iU h with h|h
   ·exact ih' s h
   simp at h;subst h;obtain⟨y,hy,e⟩:=aL2 DN;refine⟨by show(vX l x.fo).size<=1000;rw [e];exact(hl y hy).1,fun d hd=>?_⟩;simp at hd;subst hd
   exact(hl x DN).2
  |false=>
   have Ke:0<k:=by
    rcases Nat.eq_zero_or_pos k with h|h
    ·subst h;simp [jM] at hn
    exact h
   obtain⟨qs,s,e⟩:=xP (l:=l) (iT:=iT) k Ke (by omega);rw [yM hx hn e];rw [e] at ih';intro t ht
   rcases iU ht with h|h
   ·exact ih' t (List.mem_append.2 (.inl h))
   simp at h;subst h;have h3:=ih' s (by simp);refine⟨h3.1,fun d hd=>?_⟩
   rcases iU hd with hd|hd
   ·exact h3.2 d hd
   simp at hd;subst hd;exact(hl x DN).2
theorem aJj{x:It}(h:x∈lU xs):x∈bK xs:=by
 rw [lU,VI] at h;have:=KN.1 h;exact(List.mem_filter.1 this).1
theorem aL4(xs:List Rr):(lU xs).length<=xs.length:=by
 rw [lU,VI,BZ,IY];refine jN (List.length_filter_le _ _) ?_;rw [U1];exact aI _
structure ZB (ps:List Zp) (N:Nat):Prop where
 one:∀ p∈ps,ZS p.1
 len:ps.length<=N
 cnt:wG (ps.map (·.1))<=N
theorem aL5(N:Nat):ZB [] N:=⟨by simp,dR _,dR _⟩
theorem aL6(h:∀ r∈xs,ZR r)(hl:xs.length<=N)(hp:ps.map (·.1)=zI xs):ZB ps N:=by
 have h1:=aL4 xs;have h2:=Aw (l:=bK xs) (iT:=lU xs) (lU xs).length (aI _);have h3:=congrArg List.length hp;rw [List.length_map] at h3;refine⟨fun p Gt=>?_,?_,?_⟩
 ·have hm:p.1∈zI xs:=by rw [<- hp];exact List.mem_map_of_mem Gt
  exact aL3 (fun x hx=>aJj hx) (fun x hx=>h x.r (aPo hx).1) _ (aI _) _ hm
 ·rw [h3];exact jN h2.1 (by omega)
 rw [hp,zI,aJi _ _ _ (aI _)];omega
theorem Me:∀ {l:List ByteArray} {M:Nat},(∀ d∈l,d.size<=M)->aHk l<=M*l.length
 |[],M,_=>dR _
 |d::l,M,h=>by
  have h1:=Me (l:=l) (fun x hx=>h x (List.mem_cons_of_mem _ hx));have h2:=h d (List.mem_cons_self ..);simp only [aHk,List.length_cons,Nat.mul_add,Nat.mul_one];omega
theorem Mf:∀ {ps:List Zp},(∀ p∈ps,ZS p.1)->wP ps<=1000*ps.length+3201*wG (ps.map (·.1))
 |[],_=>dR _
 |p::ps,h=>by
  have h1:=Mf (ps:=ps) (fun x hx=>h x (List.mem_cons_of_mem _ hx));have h2:=h p (List.mem_cons_self ..);have h3:=Me h2.2;have h4:=h2.1;simp only [wP,zs1,List.length_cons,List.map_cons,wG,List.sum_cons,Nat.mul_add] at h1 ⊢;omega
theorem ZB.sum(h:ZB ps N)(hN:N<=240):wP ps<=1048576:=by
 have h1:=Mf h.one;have h2:=h.len;have h3:=h.cnt;omega
structure ZT (ps:List Zp) (N:Nat):Prop where
 one:∀ p∈ps,p.1.own.size<=2000∧∀ d∈p.1.da,d.size<=3200
 len:ps.length<=N
 cnt:wG (ps.map (·.1))<=N
theorem aL7(N:Nat):ZT [] N:=⟨by simp,dR _,dR _⟩
theorem ZB.zt(h:ZB ps N):ZT ps N:=⟨fun p hp=>⟨by have:=(h.one p hp).1;omega,(h.one p hp).2⟩,h.len,h.cnt⟩
theorem ZT.tail(h:ZT (p::ps) N):ZT ps N:=
 ⟨fun q hq=>h.one q (List.mem_cons_of_mem _ hq),by have:=h.len;simp at this;omega,by have:=h.cnt;simp only [wG,List.map_cons,List.sum_cons] at this ⊢;omega⟩
theorem YB:∀ {ps:List Zp} {p:Zp},p∈ps->p.1.da.length<=wG (ps.map (·.1))
 |q::ps,p,h=>by
  rcases List.mem_cons.1 h with rfl|h
  ·simp only [wG,List.map_cons,List.sum_cons];omega
  have:=YB h;simp only [wG,List.map_cons,List.sum_cons] at this ⊢;omega
theorem U2:∀ {ps:List Zp} {j:Nat} {p q:Zp},ps[j]? =some p->q.1.da.length<=p.1.da.length->wG ((ps.set j q).map (·.1))<=wG (ps.map (·.1))
 |[],j,p,q,h,_=>by simp at h
 |r::ps,0,p,q,h,hq=>by
  simp at h;subst h;simp only [List.set_cons_zero,wG,List.map_cons,List.sum_cons]
  omega
 |r::ps,j+1,p,q,h,hq=>by
  have:=U2 (ps:=ps) (j:=j) (p:=p) (q:=q) (by simpa using h) hq;simp only [List.set_cons_succ,wG,List.map_cons,List.sum_cons] at this ⊢;omega
theorem ZT.set{q:Zp}(h:ZT ps N)(hp:ps[j]? =some p)(ho:q.1.own.size<=2000)(hd:∀ d∈q.1.da,d∈p.1.da)(hl:q.1.da.length<=p.1.da.length):ZT (ps.set j q) N:=by
 refine⟨fun r hr=>?_,by rw [List.length_set];exact h.len,jN (U2 hp hl) h.cnt⟩
 rcases List.mem_or_eq_of_mem_set hr with hr|rfl
 ·exact h.one r hr
 exact⟨ho,fun d hq=>(h.one p (dA hp)).2 d (hd d hq)⟩
theorem Ux:∀ {ps:List Zp},(∀ p∈ps,p.1.own.size<=2000∧∀ d∈p.1.da,d.size<=3200)->wP ps<=2000*ps.length+3201*wG (ps.map (·.1))
 |[],_=>dR _
 |p::ps,h=>by
  have h1:=Ux (ps:=ps) (fun x hx=>h x (List.mem_cons_of_mem _ hx));have h2:=h p (List.mem_cons_self ..);have h3:=Me h2.2;have h4:=h2.1;simp only [wP,zs1,List.length_cons,List.map_cons,wG,List.sum_cons,Nat.mul_add] at h1 ⊢;omega
theorem ZT.zl(h:ZT ps N)(hN:N<=200):ZL ps:=by
 have h1:=Ux h.one;have h2:=h.len;have h3:=h.cnt;refine⟨by omega,by omega,fun p hp=>⟨by have:=(h.one p hp).1;omega,by have:=YB hp;omega,fun d hd=>by have:=(h.one p hp).2 d hd;omega⟩⟩
theorem ZB.aPp(h:ZB ps N)(hp:p∈ps)(hN:N<=126):ZL (ps++[p]):=by
 have h0:∀ q∈ps++[p],ZS q.1:=fun q hq=>by
  rcases iU hq with hq|hq
  ·exact h.one q hq
  rw [List.mem_singleton.1 hq];exact h.one p hp
 have h1:=Mf h0;have h2:=h.len;have h3:=h.cnt;have h4:=YB hp;have h5:wG ((ps++[p]).map (·.1))=wG (ps.map (·.1))+p.1.da.length:=by rw [List.map_append,Md];simp [wG]
 have h6:(ps++[p]).length=ps.length+1:=by simp
 rw [h5,h6] at h1;refine⟨by omega,by omega,fun q hq=>⟨by have:=(h0 q hq).1;omega,?_,fun d hd=>by have:=(h0 q hq).2 d hd;omega⟩⟩
 rcases iU hq with hq|hq
 ·have:=YB hq;omega
 rw [List.mem_singleton.1 hq];omega
def Vz(ps:List Zp)(o:ByteArray):Prop:=∃ L,(iX L o).1=0∧ps.map (·.1)=zI L
theorem Cs{list:List Rr}{ap:ByteArray}{w w':World}{e:Ending}{C:Nat}(h:Lp list ap w e w')(hz:∀ r∈list,ZR r)(hl:list.length<=N)(ha:ap.size<=20)(hC:C<=w.heap.size):
 Below w.heap.size w w'∧∃ (o:ByteArray) (v:Value) (ps:List Zp) (c i:Int),e=.returned (.tuple #[.agg #[.string o,v],.int .i64 c,.int .i64 i])∧o.size<=20∧Hid (ZB ps N∧(c=0->(0<ps.length∧Vz ps ap)∧o=ap)∧((iX list ap).1=0->c=0))∧dF w' C v ps:=by
 obtain⟨hb,h1,h2⟩:=h;refine⟨hb,?_⟩
 by_cases hc:(iX list ap).1=0
 ·obtain⟨v,ps,rfl,hp,ho⟩:=h1 hc;exact⟨ap,v,ps,0,0,rfl,ha,⟨aL6 hz hl hp,fun _=>⟨⟨by have h3:=congrArg List.length hp;rw [List.length_map] at h3;rw [h3];exact aIs hc,list,hc,hp⟩,rfl⟩,fun _=>rfl⟩,ho.base hC⟩
 exact⟨_,_,[],_,_,h2 hc,by decide,⟨aL5 N,fun h=>absurd h hc,fun h=>absurd h hc⟩,dF.nil _ _⟩
