import Derived.Test.YtlddifpnkeafpaaGreatJNzP
import Derived.Sort.CutIn
set_option linter.unusedVariables false
set_option maxRecDepth 100000
set_option maxHeartbeats 4000000
namespace Go.Proofs.YtlddifpnkeafpaaGreat
open Go.RowKit Go.Shelf
attribute [local go_sem] Oper.semAt_some
def joV(x:List ByteArray):Value:=.string (mJ x)
def Ik(pre:List dG):Value:=match pre.getLast? with
 |some q=>q.lv
 |none=>.slice none 0 0
theorem Db(pre:List dG)(q:dG):Ik (pre++[q])=q.lv:=by simp [Ik]
theorem aG4{w:World}{al:List ByteArray}{fp:List Nat}{os:List dG}(jD:mU w fp os)(pre:List dG)(hp:∀ q∈pre,q∈os):Nm.bP w (Ik pre) (JM al pre).2:=by
 rcases List.eq_nil_or_concat pre with rfl|⟨L,q,rfl⟩
 ·exact⟨none,0,rfl,aI _,by decide,fun _=>rfl,fun h=>absurd rfl h⟩
 rw [List.concat_eq_append,Db,JN];exact(jD q (hp q (by simp))).row
theorem J2(last y:List ByteArray)(out:List (List ByteArray)):(JL last out y).length<=out.length+1:=by
 rw [JL]
 split<;>simp
theorem Vt(last lab:List ByteArray):∀ (n:Nat) (out:List (List ByteArray)),(ME last lab n out).length<=out.length+n
 |0,out=>aI _
 |n+1,out=>by
  rw [ME];have h1:=Vt last lab n (JL last out (lab.drop n));have h2:=J2 last (lab.drop n) out;omega
theorem aJv(al:List ByteArray)(os:List dG):(∀ q∈os,q.lab.length<=254)->(JM al os).1.length<=255*os.length:=by
 refine vP (P:=fun os=>(∀ q∈os,q.lab.length<=254)->(JM al os).1.length<=255*os.length) (fun _=>aI _) (fun l q ih h=>?_) os;have h1:=ih (fun r hr=>h r (by simp [hr]));have h2:=h q (by simp);rw [JN,Ia,oJ];have h3:=Vt (JM al l).2 q.lab (q.lab.length-al.length+1) (JM al l).1;simp only [List.length_singleton];omega
theorem YD{W w1:World}{tmp:Obj}{B e s n c b:Nat}{v y:Value}{xs:List Value}{cs:Array Value}{T:TypeId}(k:bW W c cs T)(h:W.ownsRow B e s v n xs)(hg:(W.alloc tmp).grownBy w1 v.ownBlock)(hT:e≠T)(hb:c≠b):bW (w1.setCell ⟨b,0,none⟩ y) c cs T:=
 eU (aO (bD k tmp) hg (fun e'=>dD h k hT e')) hb
theorem aG5(F:Fence)(n:Nat)(h1:F.fn 26)(h2:F.fn 53)(h3:F.fn 67)(h4:F.fn 111)(h5:F.fn 68)(sJ:F.round=none)(hn:9<=n)
 (bb oo th:Nat) (rv:Value) (os:List dG) (B:Nat) (aa:Option Addr) (ac:Nat) (al:List ByteArray) (w:World) (h:nQ w B th rv os) (hl:os.length<=400000) (jD:mU w (jF th rv os) os) (DC:∀ q∈os,Gl q.lab∧al.length<=q.lab.length) (hc:w.cell? ⟨bb,oo+1,none⟩=some (ptr th)) (hca:w.cell? ⟨bb,oo,none⟩=some (.slice aa al.length ac))
 (Xt:∀ (u v:Value) (xs ys:List ByteArray) (m:Nat) (W:World),Nm.bP W u xs->Nm.bP W v ys->(∀ x∈xs,x.size<=1000000000)->xs.length<=1000000000->ys.length<=1000000000->CallsIn F m Tryz.prog 53 #[u,v] W fun e w'=>e=.returned (.bool (aQ xs ys))∧Below W.heap.size W w')
 (Vr:∀ (v:Value) (ys:List ByteArray) (m:Nat) (W:World),Nm.bP W v ys->Gl ys->CallsIn F m Tryz.prog 68 #[v] W fun e w'=>e=.returned (.tuple #[.string (mJ ys),.int .i64 0])∧Below W.heap.size W w'):
 CallsIn F n Tryz.prog 26 #[.pointer (some ⟨bb,oo,none⟩)] w fun e W'=>∃ v,e=.returned v∧W'.ownsRow w.heap.size 9 1 v (JM al os).1.length ((JM al os).1.map joV)∧Below w.heap.size w W':=by
 obtain⟨i0,hi,iQ,iH,iI⟩:=info_parts Ri;refine callsIn_of_wp_marks Tryz.func26 rfl h1 ?_ sJ;simp only [Tryz.ntmps26,List.size_toArray,List.length_cons,List.length_nil,Nat.reduceAdd,Nat.reduceSub,Array.replicate_succ,Array.replicate_zero,List.push_toArray,List.append_toArray,List.nil_append,List.cons_append];have MR:th<w.heap.size:=cO h.head;have n1:1<=n:=by omega
 have zH:bb<w.heap.size:=fD w _ hc;unfold ptr at hc;have b0:=(aJ w.heap.size w).alloc (aI _) (.cells #[.pointer (some ⟨bb,oo,none⟩)] 62);have b1:=b0.alloc b0.size (.cells #[.slice none 0 0] 32);have b2:=b1.alloc b1.size (.cells #[.slice none 0 0] 63);have k0:=bD (bD (aK w #[.pointer (some ⟨bb,oo,none⟩)] 62) (.cells #[.slice none 0 0] 32)) (.cells #[.slice none 0 0] 63);have k1:=bD (aK (w.alloc (.cells #[.pointer (some ⟨bb,oo,none⟩)] 62)) #[.slice none 0 0] 32) (.cells #[.slice none 0 0] 63);have k2:=aK ((w.alloc (.cells #[.pointer (some ⟨bb,oo,none⟩)] 62)).alloc (.cells #[.slice none 0 0] 32)) #[.slice none 0 0] 63;rw [jO] at k1;rw [jO,jO] at k2;have c2:=(b2.cell (p:=⟨bb,oo+1,none⟩) zH).trans hc;have r0:=(aA k0 0).trans rfl;have HX:=Nm.aD (aV h (aV jD (aV DC (aV Xt Vr))));clear h jD DC Xt Vr
 gi_wp2_with fail
 refine(Kb F (n-1) h3 sJ _ _).mono ?_;rintro e w3 ⟨rfl,rfl⟩
 gi_wp2
 have kO3:=bD k1 (.cells #[.pointer (some ⟨th,0,none⟩)] 100);have kL3:=bD k2 (.cells #[.pointer (some ⟨th,0,none⟩)] 100);have kP3:=bD k0 (.cells #[.pointer (some ⟨th,0,none⟩)] 100);have kT3:=aK (((w.alloc (.cells #[.pointer (some ⟨bb,oo,none⟩)] 62)).alloc (.cells #[.slice none 0 0] 32)).alloc (.cells #[.slice none 0 0] 63)) #[.pointer (some ⟨th,0,none⟩)] 100;rw [jO,jO,jO] at kT3;have b3:=b2.alloc b2.size (.cells #[.pointer (some ⟨th,0,none⟩)] 100);obtain⟨W0,FH⟩:∃ W0,(((w.alloc (.cells #[.pointer (some ⟨bb,oo,none⟩)] 62)).alloc (.cells #[.slice none 0 0] 32)).alloc (.cells #[.slice none 0 0] 63)).alloc (.cells #[.pointer (some ⟨th,0,none⟩)] 100)=W0:=⟨_,rfl⟩;have qA:W0.heap.size=w.heap.size+4:=by rw [<- FH];simp
 rw [FH] at kO3 kL3 kP3 kT3 b3 ⊢;clear FH k0 k1 k2 b0 b1 b2 c2 r0;have hza:os.attach.length=os.length:=List.length_attach
 have KO:Qp (fun x:{o:dG // o∈os}=>KR x.1.lv) (fun x=>KS x.1.lv) (fun x=>KT x.1.lv) (fun x=>⟨x.1.dS,0,none⟩) w.heap.size w rv os.attach:=by
  refine Ag _ _ _ _ (B:=B) (e:=165) _ ?_;have hr:=HX.out.1.rows
  have e1:(os.attach.map fun x:{o:dG // o∈os}=>((Value.slice (KR x.1.lv) (KS x.1.lv) (KT x.1.lv)),(Value.pointer (some (⟨x.1.dS,0,none⟩:Addr)))))=jS os:=by
   rw [jS]
   conv=>rhs;rw [<- List.attach_map_subtype_val os]
   rw [List.map_map];refine List.map_congr_left fun x _=>?_;simp only [Function.comp,ptr];rw [<- Rx (HX.out.2.1 x.1 x.2).row]
  rw [e1];rw [show(jS os).length=os.attach.length by simp [jS]] at hr;exact hr
 have kh3:W0.cell? ⟨th,1,none⟩=some rv:=(b3.cell (p:=⟨th,1,none⟩) MR).trans ((aA HX.out.1.head 1).trans rfl)
 refine wpIn_rangeFunc_ownG sJ n1 (gf:=111) (lb:=#[.pointer (some ⟨w.heap.size+3,0,none⟩)]) rfl h4 (enters_of Tryz.func111 (by kernel_rfl) rfl)
  (TB (fun x:{o:dG // o∈os}=>KR x.1.lv) (fun x=>KS x.1.lv) (fun x=>KT x.1.lv) (fun x=>⟨x.1.dS,0,none⟩) F (n-1) h4 sJ (by omega) (w.heap.size+3) th w.heap.size rv os.attach (by omega) W0 (by omega) MR (by omega) ((aA kT3 0).trans rfl) kh3 (KO.below b3)) belowK_t (belowK_b (by omega)) (aJ _ _) (fun _=>rfl)
  (fun pre W=>(∃ v,Boxed W (w.heap.size+1) 32 v∧W.ownsRow w.heap.size 9 1 v (JM al (pre.map (·.1))).1.length ((JM al (pre.map (·.1))).1.map joV)∧True)∧((bW W (w.heap.size+2) #[Ik (pre.map (·.1))] 63∧bW W w.heap.size #[.pointer (some ⟨bb,oo,none⟩)] 62)∧Below w.heap.size w W))
  (fun _ _ _=>False)
  (OwnFrom.and (Own.from (holdsRow_own w.heap.size (w.heap.size+1) 32 9 1 (fun pre:List {o:dG // o∈os}=>(JM al (pre.map (·.1))).1.length) (fun pre=>(JM al (pre.map (·.1))).1.map joV) (fun pre v=>True)) _) (OwnFrom.and (OwnFrom.and (fun _ X Y row hs hg hr=>aO hs hg (fun e=>qO hs (hr _ e).2 rfl)) (fun _ X Y row hs hg hr=>aO hs hg (fun e=>qO hs (hr _ e).2 rfl))) (ownFrom_below (aI _) (by omega))))
  (fun _ _ _ _ _ hs _ _=>hs)
  ⟨⟨_,kO3,World.ownsRow_nil _ _ _ _,trivial⟩,⟨kL3,kP3⟩,b3⟩
  (fun x=>{tmps:=#[.pointer (some ⟨bb,oo,none⟩),.pointer (some ⟨w.heap.size,0,none⟩),.slice none 0 0,.pointer (some ⟨w.heap.size+1,0,none⟩),.pointer (some ⟨w.heap.size+2,0,none⟩),.slice (KR x.1.lv) (KS x.1.lv) (KT x.1.lv),undef,undef,undef,.pointer (some ⟨bb,oo,none⟩),.pointer (some ⟨bb,oo,none⟩),.pointer (some ⟨bb,oo+1,none⟩),.pointer (some ⟨th,0,none⟩),.func (.func 111) #[] #[.pointer (some ⟨w.heap.size+3,0,none⟩)],.slice (KR x.1.lv) (KS x.1.lv) (KT x.1.lv),.pointer (some ⟨x.1.dS,0,none⟩),undef,undef,undef,undef,undef,undef,undef,undef,undef,undef,undef,undef,undef,undef,undef,undef,undef,undef,undef,undef,undef,undef,undef,undef,undef,undef,undef,undef,undef,undef,undef,undef,undef,undef,undef],defers:=[]}) ?assign ?body ?done ?stop
 case assign=>
  intro l x W K hK
  gi_wp2
  exact hK
 case body=>
  rintro l pre x W ⟨⟨v,hv,dI,-⟩,⟨kL,kP⟩,hB⟩ bY;have n2:1<=n-1-1:=by omega
  have hrL:=(HX.out.2.1 x.1 x.2).row;obtain⟨DC,XI⟩:=HX.out.2.2.1 x.1 x.2;have YQ:x.1.lab.length<=254:=jN (Nm.bL _) DC.2;have hLR:=aG4 (al:=al) HX.out.2.1 (pre.map (·.1)) (fun q hq=>by obtain⟨y,_,rfl⟩:=kJ hq;exact y.2)
  have hLG:Gl (JM al (pre.map (·.1))).2:=by
   rcases List.eq_nil_or_concat (pre.map (·.1)) with e|⟨L,q,e⟩
   ·rw [e];exact⟨by simp [JM],by simp [JM,Nm.cK]⟩
   have hq:q∈pre.map (·.1):=by rw [e];simp
   obtain⟨y,_,rfl⟩:=kJ hq;rw [e,List.concat_eq_append,JN];exact(HX.out.2.2.1 y.1 y.2).1
  have hN0:(JM al (pre.map (·.1))).1.length<=102000000:=by
   have h1:=aJv al (pre.map (·.1)) (fun q hq=>by
    obtain⟨y,_,rfl⟩:=kJ hq
    exact jN (Nm.bL _) (HX.out.2.2.1 y.1 y.2).1.2)
   rw [List.length_map] at h1;omega
  have e5:JM al ((pre++[x]).map (·.1))=Ia al (JM al (pre.map (·.1))) x.1.lab:=by rw [List.map_append,List.map_cons,List.map_nil,JN]
  have e6:Ik ((pre++[x]).map (·.1))=x.1.lv:=by rw [List.map_append,List.map_cons,List.map_nil,Db]
  rw [Ia] at e5;have ca:=(hB.cell (p:=⟨bb,oo,none⟩) zH).trans hca;have cP:=(aA kP 0).trans rfl;have HLR:=Nm.aD (aV hLR hLG);have HRL:=Nm.aD hrL;obtain⟨LV,hLV⟩:∃ LV,LV=Ik (pre.map (·.1)):=⟨_,rfl⟩;obtain⟨sa,sn,sc,aP8⟩:∃ a n c,LV=.slice a n c:=by rw [hLV];obtain⟨a,c,e,_⟩:=hLR;exact⟨a,_,c,e⟩
  rw [<- hLV] at kL HLR;rw [aP8] at kL HLR;clear hLR hLG hLV aP8 LV;generalize JM al (pre.map (·.1))=ST at*;obtain⟨aP9,last⟩:=ST;simp only at dI HLR hN0 e5
  obtain⟨lab,IQ⟩:∃ lab,lab=x.1.lab:=⟨_,rfl⟩;rw [<- IQ] at DC XI YQ hrL HRL e5;clear IQ;obtain⟨la,lc,hlv,gT,kV,Ac,sI⟩:=hrL;rw [show KR x.1.lv=la by rw [hlv];rfl,show KS x.1.lv=lab.length by rw [hlv];rfl,show KT x.1.lv=lc by rw [hlv];rfl];rw [hlv] at HRL e6;unfold maxLen at kV;clear sI;obtain⟨N0,hN⟩:∃ N0,N0=lab.length-al.length+1:=⟨_,rfl⟩;rw [<- hN] at e5;have hN1:(lab.length:Int)-(al.length:Int)=(N0:Int)-1:=by omega
  have hN2:N0<=255:=by omega
  have hN3:N0<=lab.length+1:=by omega
  obtain⟨R,hR⟩:∃ R,R=ME last lab N0 aP9:=⟨_,rfl⟩;rw [<- hR] at e5;have HE:=Nm.aD (aV e5 e6);have HR:=Nm.aD hR;have HN1:=Nm.aD hN1;obtain⟨va,vc,rfl⟩:=aT dI;clear hR hN hN1 e5 e6 hlv
  gi_wp2
  gi_loopw [6] (fun i wr=>∃ (k:Nat) (out:List (List ByteArray)) (v:Value),k<=N0∧i=.int .i64 ((k:Int)-1)∧Hid (ME last lab k out=R)∧out.length+k<=102000255∧Boxed wr (w.heap.size+1) 32 v∧wr.ownsRow w.heap.size 9 1 v out.length (out.map joV)∧bW wr (w.heap.size+2) #[.slice sa sn sc] 63∧bW wr w.heap.size #[.pointer (some ⟨bb,oo,none⟩)] 62∧KeepsOthers W wr∧Below w.heap.size W wr) (fun i _=>(intOf i+1).toNat)
  ·exact⟨N0,aP9,_,aI _,by first|rw [HN1.out]|(rw [HN1.out];go_num),HR.out.symm,by omega,hv,dI,kL,kP,KeepsOthers.refl _,aJ _ _⟩
  clear hv dI kL kP ca cP;obtain⟨k,out,v,hk,rfl,HK,Nc,hv,dI,kL,kP,hKO,La⟩:=hrel;obtain⟨va,vc,rfl⟩:=aT dI;have hBw:=hB.trans La;have aCn:=HRL.out.below hBw;have aMp:=HLR.out.1.below hBw;have hcO:=hv.cell;have hcL:=(aA kL 0).trans rfl;have hfL:=aF kL 0
  cases k with
  |zero=>
   have i0:((0:Nat):Int)-1<0:=by omega
   have HF:Hid (out=R):=HK.out;clear HK aCn aMp hcO
   gi_wp2
   have k9:=aM kL 0 (.slice la lab.length lc);simp only [List.setIfInBounds_toArray,List.set_cons_zero] at k9;have b9:=La.setCell (p:=⟨w.heap.size+2,0,none⟩) (Nat.le_add_right _ _) (.slice la lab.length lc);refine⟨(hKO.trans (KeepsOthers.setCell _ _ _)).from _,b9,⟨_,eU hv (by omega),?_,trivial⟩,⟨?_,eU kP (by omega)⟩,hB.trans b9⟩
   ·rw [HE.out.1];show World.ownsRow _ _ _ _ _ R.length (R.map joV)
    rw [<- HF.out];exact dY dI (dD dI kL (by decide))
   rw [HE.out.2]
   exact k9
  |succ m=>
   have e2:((m+1:Nat):Int)-1=(m:Int):=by omega
   rw [e2];have j0:=fE m
   have Fe:m<=lab.length:=by omega
   have j1:(m:Int)<=(lab.length:Int):=by omega
   have VM:=DC.drop m;have HSK:Hid ((decide (0<out.length)&&aQ last (lab.drop m))=true->ME last lab m out=R):=fun hq=>by have:=HK.out;rw [ME,JL,if_pos hq] at this;exact this
   have HAP:Hid ((decide (0<out.length)&&aQ last (lab.drop m))=false->ME last lab m (out++[lab.drop m])=R):=fun hq=>by have:=HK.out;rw [ME,JL,if_neg (by rw [hq];decide)] at this;exact this
   clear HK e2;have hsw:w.heap.size<=wr.heap.size:=hBw.size;obtain⟨sva,Vu⟩:∃ sva,sva=(if lc=m then la else la.map (fun x=>x.add m)):=⟨_,rfl⟩
   have El:Nm.bP wr (.slice sva (lab.length-m) (lc-m)) (lab.drop m):=by
    rw [Vu]
    by_cases oN:lc=m
    ·rw [if_pos oN,oN,Nat.sub_self];exact aCn.AY oN
    rw [if_neg oN];exact aCn.drop Fe
   have HSR:=Nm.aD El;clear El aCn;have HSV:=Nm.aD Vu;clear Vu
   gi_wp2
   gi_cut [37] from 51 (fun v wx=>v=.bool (decide (0<out.length)&&aQ last (lab.drop m))∧Below wr.heap.size wr wx)
   case first=>
    by_cases aR2:out.length=0
    ·have WG:out=[]:=List.length_eq_zero_iff.1 aR2;subst WG;simp only [List.length_nil,List.map_nil] at dI hv hcO ⊢
     gi_region_with (fail)
     all_goals
      gi_wp2_with fail
      gi_meet
      exact⟨by simp,(aJ _ _).drew⟩
    have p1:(0:Int)<(out.length:Int):=by omega
    have p2:decide (0<out.length)=true:=by simp;omega
    have aX:=fun a c W (hW:Below wr.heap.size wr W) (hy:Nm.bP wr (.slice a (lab.length-m) c) (lab.drop m))=>CallsIn.inRound l (HX.out.2.2.2.1 (.slice sa sn sc) (.slice a (lab.length-m) c) last (lab.drop m) (n-1-1-1) W (aMp.below hW) (hy.below hW) (fun x hx=>by have:=(HLR.out.2.1 x hx).2;omega) (by have h1:=HLR.out.2.2;have h2:=Nm.bL last;omega) (by rw [List.length_drop];omega))
    generalize aQ last (lab.drop m)=UB at*
    by_cases oN:lc=m
    ·have Vu:=HSV.out;rw [if_pos oN] at Vu;obtain rfl:m=lab.length:=by omega
     subst oN;subst Vu;have EG:=aX _ _ _ ((aJ _ _).drew) HSR.out;rw [Nat.sub_self] at EG;clear aX HSR gT Fe j1 VM HSK HAP HX HLR HRL HE HR
     gi_region_with (gi_at_call 53;refine EG.mono ?_;rintro e w4 ⟨rfl,b4⟩)
     all_goals
      gi_wp2_with fail
      gi_meet
      exact⟨by rw [p2];rfl,Nm.aC (aJ _ _).drew b4⟩
    have Vu:=HSV.out;rw [if_neg oN] at Vu
    obtain⟨ad,had⟩:∃ ad,la=some ad:=by
     cases la with
     |none=>have:=Ac rfl;omega
     |some ad=>exact⟨ad,rfl⟩
    subst had;simp only [Option.map_some] at Vu;subst Vu;have aI0:m<lc:=by omega
    have EG:=aX _ _ _ ((aJ _ _).drew) HSR.out
    gi_region_with (gi_at_call 53;refine EG.mono ?_;rintro e w4 ⟨rfl,b4⟩)
    all_goals
     gi_wp2_with fail
     gi_meet
     exact⟨by rw [p2];rfl,Nm.aC (aJ _ _).drew b4⟩
   obtain⟨rfl,bC⟩:=hcut;have hvC:Boxed wc (w.heap.size+1) 32 (.slice va out.length vc):=aB hv bC;have Vv:=own_below dI bC;have kLC:=aB kL bC;have kPC:=aB kP bC;have aG6:=hKO.trans (jY bC);have aG7:=La.trans (bC.mono hsw);have aJw:w.heap.size<=wc.heap.size:=jN hsw bC.size;have aQa:=HSR.out.below bC;have aJx:=Nm.aD aQa;clear hv dI kL kP hKO La hcO hcL hfL aMp HSR aQa
   cases hq:(decide (0<out.length)&&aQ last (lab.drop m)) with
   |true=>
    have HK2:=Nm.aD (HSK.out hq);clear hq HSK HAP
    gi_wp2
    go_roundw
    ·exact⟨m,out,_,by omega,by go_num,HK2,by omega,hvC,Vv,kLC,kPC,aG6,aG7⟩
    simp [intOf]
   |false=>
    have HK2:=Nm.aD (HAP.out hq);clear hq HSK HAP;obtain⟨Y,hY⟩:∃ Y,Y=lab.drop m:=⟨_,rfl⟩;rw [<- hY] at HK2 aJx VM;clear hY
    by_cases oN:lc=m
    ·have Vu:=HSV.out;rw [if_pos oN] at Vu;obtain rfl:m=lab.length:=by omega
     subst oN;subst Vu;rw [Nat.sub_self] at aJx;have C8:=CallsIn.inRound l (HX.out.2.2.2.2 _ Y (n-1-1-1) wc aJx.out VM)
     gi_wp2_with fail
     refine C8.mono ?_;rintro e w5 ⟨rfl,b5⟩;have hv5:Boxed w5 (w.heap.size+1) 32 (.slice va out.length vc):=aB hvC b5;have RA:=own_below Vv b5;have kL5:=aB kLC b5;have kP5:=aB kPC b5;have aMq:=aG6.trans (jY b5);have aMr:=aG7.trans (b5.mono aJw);have aMs:w.heap.size<=w5.heap.size:=jN aJw b5.size;have hc5:=hv5.cell;clear hvC Vv kLC kPC aG6 aG7 C8 b5
     gi_wp2_with (gi_at_builtin;refine wpListIn_append_own _ rfl _ _ 32 rfl w.heap.size 9 i0 (.string ByteArray.empty) 1 16 Tryz.underlying32 hi iQ iH iI rfl (by decide) _ _ _ rfl (RA.alloc _) ⟨w5.heap.size,0,none⟩ 1 1 [.string (mJ Y)] rfl rfl (cell_one_new _ _ _) (by simp [Value.oneCell']) (by unfold maxLen;omega) (by omega) (by simp;omega) ?_;intro v' w6 dE bU _;obtain⟨g',cap',rfl⟩:=ownsRow_succ dE;obtain⟨hv1,ES,wR,hk2,jW⟩:=hv5.appended (by decide) RA aMs (Nat.le_succ _) dE bU;have mQ:=hv1.cell;have hf1:=hv1.frozen;have kL6:=YD kL5 RA bU (b:=w.heap.size+1) (y:=.slice (some ⟨g',0,none⟩) (out.length+1) cap') (by decide) (by omega);have kP6:=YD kP5 RA bU (b:=w.heap.size+1) (y:=.slice (some ⟨g',0,none⟩) (out.length+1) cap') (by decide) (by omega))
     go_roundw
     ·exact⟨(lab.length),out++[Y],_,by omega,by go_num,HK2,by simp;omega,ES,by simpa [joV] using wR,kL6,kP6,aMq.trans hk2,aMr.trans jW⟩
     simp [intOf]
    have Vu:=HSV.out;rw [if_neg oN] at Vu
    obtain⟨ad,had⟩:∃ ad,la=some ad:=by
     cases la with
     |none=>have:=Ac rfl;omega
     |some ad=>exact⟨ad,rfl⟩
    subst had;simp only [Option.map_some] at Vu;subst Vu;have aI0:m<lc:=by omega
    have C8:=CallsIn.inRound l (HX.out.2.2.2.2 _ Y (n-1-1-1) wc aJx.out VM)
    gi_wp2_with fail
    refine C8.mono ?_;rintro e w5 ⟨rfl,b5⟩;have hv5:Boxed w5 (w.heap.size+1) 32 (.slice va out.length vc):=aB hvC b5;have RA:=own_below Vv b5;have kL5:=aB kLC b5;have kP5:=aB kPC b5;have aMq:=aG6.trans (jY b5);have aMr:=aG7.trans (b5.mono aJw);have aMs:w.heap.size<=w5.heap.size:=jN aJw b5.size;have hc5:=hv5.cell;clear hvC Vv kLC kPC aG6 aG7 C8 b5
    gi_wp2_with (gi_at_builtin;refine wpListIn_append_own _ rfl _ _ 32 rfl w.heap.size 9 i0 (.string ByteArray.empty) 1 16 Tryz.underlying32 hi iQ iH iI rfl (by decide) _ _ _ rfl (RA.alloc _) ⟨w5.heap.size,0,none⟩ 1 1 [.string (mJ Y)] rfl rfl (cell_one_new _ _ _) (by simp [Value.oneCell']) (by unfold maxLen;omega) (by omega) (by simp;omega) ?_;intro v' w6 dE bU _;obtain⟨g',cap',rfl⟩:=ownsRow_succ dE;obtain⟨hv1,ES,wR,hk2,jW⟩:=hv5.appended (by decide) RA aMs (Nat.le_succ _) dE bU;have mQ:=hv1.cell;have hf1:=hv1.frozen;have kL6:=YD kL5 RA bU (b:=w.heap.size+1) (y:=.slice (some ⟨g',0,none⟩) (out.length+1) cap') (by decide) (by omega);have kP6:=YD kP5 RA bU (b:=w.heap.size+1) (y:=.slice (some ⟨g',0,none⟩) (out.length+1) cap') (by decide) (by omega))
    go_roundw
    ·exact⟨m,out++[Y],_,by omega,by go_num,HK2,by simp;omega,ES,by simpa [joV] using wR,kL6,kP6,aMq.trans hk2,aMr.trans jW⟩
    simp [intOf]
 case done=>
  rintro D ys W hD rfl ⟨⟨v,hv,dI,-⟩,-,hB⟩ hK;rw [List.attach_map_subtype_val] at dI;have hc:=hv.cell
  gi_wp2
  refine⟨by simp,.inl ⟨_,_,rfl,run_takeDeferred hK,?_⟩⟩;exact⟨_,results_tmp rfl _ _ _,v,rfl,ownsRow_putObj dI _ hK rfl,hB.trans (belowK_b (w:=w) (aI _) W D _ _ (by omega) hK rfl rfl)⟩
 rintro D c pre W _ _ h _;exact h.elim
theorem aCs(bb oo th:Nat)(rv:Value)(os:List dG)(B:Nat)(aa:Option Addr)(ac:Nat)(al:List ByteArray)(w:World)(h:nQ w B th rv os)(hl:os.length<=400000)(jD:mU w (jF th rv os) os)(DC:∀ q∈os,Gl q.lab∧al.length<=q.lab.length)(hc:w.cell? ⟨bb,oo+1,none⟩=some (ptr th))(hca:w.cell? ⟨bb,oo,none⟩=some (.slice aa al.length ac)):
 Calls Tryz.prog 26 #[.pointer (some ⟨bb,oo,none⟩)] w fun e W'=>∃ v,e=.returned v∧W'.ownsRow w.heap.size 9 1 v (JM al os).1.length ((JM al os).1.map joV)∧Below w.heap.size w W':=
 (callsIn_wide (n:=9)).1 (aG5 Fence.wide 9 trivial trivial trivial trivial trivial rfl (by omega) bb oo th rv os B aa ac al w h hl jD DC hc hca
  (fun u v xs ys m W h1 h2 h3 h4 h5=>callsIn_wide.2 ((xL u v xs ys W h1 h2 h3 h4 h5).mono (by rintro e w' ⟨he,m,rfl⟩;exact⟨he,Go.below_drewN (aJ _ _) _⟩)))
  (fun v ys m W h1 h2=>callsIn_wide.2 (by have:=PD v ys W h1 (by have:=h2.2;omega);rwa [GM h2.2,GN h2.2] at this)))
