import Derived.Test.YthdpacepbbcocaaGreatAdZ
set_option linter.unusedVariables false
set_option maxRecDepth 100000
set_option maxHeartbeats 6400000
namespace Go.Proofs.YthdpacepbbcocaaGreat
open Go.RowKit
structure La (w:World) (o:ByteArray) (v:Value) (s:ByteArray) (t c u:Int) (d:ByteArray) (W:World):Prop where
 z:bG W w.heap.size #[.string o,v] 25
 r:bG W (w.heap.size+1) #[.string s,.int .i64 t,.int .i64 c,.int .i64 u,.string d] 29
 q:bG W (w.heap.size+1+1) #[.string ByteArray.empty,.slice none 0 0] 25
 b:Below w.heap.size w W
section
variable {w W W1:World}{o:ByteArray}{v:Value}{s d:ByteArray}{t c u:Int}
theorem La.below(h:La w o v s t c u d W)(hb:Below W.heap.size W W1):La w o v s t c u d W1:=⟨aB h.z hb,aB h.r hb,aB h.q hb,Nm.aC h.b hb⟩
theorem La.lt(h:La w o v s t c u d W):w.heap.size+1+1<W.heap.size:=bU h.q
theorem La.alloc(h:La w o v s t c u d W)(x:Obj):La w o v s t c u d (W.alloc x):=h.below ((aK _ _).alloc (aN _) _)
theorem La.app{B m e k:Nat}{x:Value}{xs:List Value}(h:La w o v s t c u d W)(hr:W.ownsRow B e k x m xs)(hB:w.heap.size+1+1<B)(hg:W.grownBy W1 x.ownBlock):La w o v s t c u d W1:=by
 have f:∀ {b:Nat},b<=w.heap.size+1+1->x.ownBlock≠some b:=fun hb e=>by have:=(hr.lt _ e).1;omega
 exact⟨aP h.z hg (f (by omega)),aP h.r hg (f (by omega)),aP h.q hg (f (by omega)),h.b.grown hg (by have:=h.lt;omega) (fun g hk=>by have:=(hr.lt g hk).1;omega)⟩
theorem La.spell(h:La w o v s t c u d W)(s':ByteArray):La w o v s' t c u d (W.setCell ⟨w.heap.size+1,0,none⟩ (.string s')):=by
 refine⟨aW h.z (by omega),?_,aW h.q (by omega),h.b.setCell (p:=⟨w.heap.size+1,0,none⟩) (by show w.heap.size<=w.heap.size+1;omega) _⟩;simpa using aI h.r 0 (.string s')
theorem La.far(h:La w o v s t c u d W){b i:Nat}{x:Value}(hb:w.heap.size+1+1<b):La w o v s t c u d (W.setCell ⟨b,i,none⟩ x):=
 ⟨aW h.z (by omega),aW h.r (by omega),aW h.q (by omega),h.b.setCell (p:=⟨b,i,none⟩) (by show w.heap.size<=b;omega) _⟩
theorem La.start(w:World)(o:ByteArray)(v:Value)(s d:ByteArray)(t c u:Int):La w o v s t c u d (((w.alloc (.cells #[.string o,v] 25)).alloc (.cells #[.string s,.int .i64 t,.int .i64 c,.int .i64 u,.string d] 29)).alloc (.cells #[.string ByteArray.empty,.slice none 0 0] 25)):=by
 have kr:=aR (aH (w.alloc (.cells #[.string o,v] 25)) #[.string s,.int .i64 t,.int .i64 c,.int .i64 u,.string d] 29) (.cells #[.string ByteArray.empty,.slice none 0 0] 25);have kq:=aH ((w.alloc (.cells #[.string o,v] 25)).alloc (.cells #[.string s,.int .i64 t,.int .i64 c,.int .i64 u,.string d] 29)) #[.string ByteArray.empty,.slice none 0 0] 25;rw [fV] at kr;rw [fV,fV] at kq;exact⟨aR (aR (aH w _ _) _) _,kr,kq,(((aK _ _).alloc (aN _) _).alloc (by simp) _).alloc (by simp;omega) _⟩
end
theorem aAb(o:ByteArray)(v:Value)(ps:List Zp)(r:Rr)(N:Nat)(w:World)(h:gI w v ps)(hB:ZB ps N)(hN:N<=200)(hz:pI ps o=true)(ho:o.size<=20)(hr:ZR r):
 Calls Tryz.prog 87 #[.agg #[.string o,v],.agg #[.string r.own,.int .i64 r.ty,.int .i64 r.cl,.int .i64 r.tt,.string r.da]] w (NaP o v ps (N+1) w):=by
 obtain⟨i0,hi,iJ,fP,fZ⟩:=info_parts Tryz.KC;obtain⟨va,vc,rfl⟩:=iV h;obtain⟨ro,rt,rc,ru,rd⟩:=r;obtain⟨rH,uR⟩:=hr;simp only at rH uR ⊢
 have hlen:=YU hB;have JB:=hB.Bu (by omega);have KS:=hB.sum (by omega);have HZR:=Nm.aF (Ir hB);have HZ:=Nm.aF (aV hB hz);have HW:Hid (∀ W,Below w.heap.size w W->gI W (.slice va ps.length vc) ps):=fun W hW=>h.below hW
 have HSE:=Nm.aF (fun W=>FP rd W (by omega));have HSM:=Nm.aF (fun W=>gU ro o W (by unfold maxLen;omega) (by unfold maxLen;omega));have HSN:=Nm.aF (fun(x s:ByteArray) (hx:x.size<=1000) (hs:s.size<=1000) W=>gU x s W (by unfold maxLen;omega) (by unfold maxLen;omega));have HS1:=Nm.aF (fun W (hW:Below w.heap.size w W)=>lZ o (.slice va ps.length vc) ps W (HW.out W hW) JB (hB.fit (by omega)) (by unfold maxLen;omega) hz);have HSP:=Nm.aF (fun W (hW:Below w.heap.size w W)=>Gx o ro (.slice va ps.length vc) ps W (HW.out W hW) JB (fun p hp=>by have:=(hB.one p hp).1;omega) (by unfold maxLen;omega));have HZC:=Nm.aF (fun W (hW:Below w.heap.size w W)=>jE o (.slice va ps.length vc) ps W (HW.out W hW) KS JB);have HOW:Hid (∀ p∈ps,p.1.own.size<=1000):=fun p hp=>(hB.one p hp).1
 generalize CS (eX ps)=SD at*;have L0:=La.start w o (.slice va ps.length vc) ro rd rt rc ru;clear h hB hz KS JB;go_enter Tryz.func87,Tryz.ntmps87;go_upto_if 16 with fail
 go_cut [5,6] from 17 (fun _ _ wx=>La w o (.slice va ps.length vc) ro rt rc ru rd wx)
 case first=>
  have r0:=fun i=>aA L0.r i
  clear HSP HZC HSN HOW HZR hlen
  by_cases h6:rt=6
  ·subst h6;go_wp2_with fail
   refine(HSE.out _).mono ?_;rintro e w1 ⟨rfl,b1⟩;have L1:=L0.below b1;have z1:=fun i=>aA L1.z i
   have r1:=fun i=>aA L1.r i
   generalize (if bQ 6 rd=0 then Hw rd else 0)=sn at*;generalize (if bQ 6 rd=0 then(0:Int) else 7)=s7 at*;clear L0 r0 b1 HSE;have xQ:=HSM.out w1;go_wp2_with fail
   cases hS:jB ro o
   ·rw [hS] at xQ;refine xQ.mono ?_;rintro e w2 ⟨rfl,b2⟩;have L2:=L1.below b2;clear xQ L1 z1 r1 b2 HSM HS1;have LL:=L2;have rz:=fun i=>aA LL.z i
    have rq:=fun i=>aA LL.q i
    have fq:=fun i=>aG LL.q i
    have kE:=aI (aI LL.q 0 (.string o)) 1 (.slice va ps.length vc);have rE:=fun i=>aA kE i
    have bE:=(LL.b.setCell (p:=⟨w.heap.size+1+1,0,none⟩) (by show w.heap.size<=w.heap.size+1+1;omega) (.string o)).setCell (p:=⟨w.heap.size+1+1,1,none⟩) (by show w.heap.size<=w.heap.size+1+1;omega) (.slice va ps.length vc);have HE:=Nm.aF bE;clear kE bE LL;go_wp2;refine gD (v:=.agg #[.string o,.slice va ps.length vc]) ?_ rfl ?_
    rotate_left
    ·exact⟨_,_,rfl,IZ.refl,⟨HZ.out.1.up (Nat.le_succ _),HZ.out.2⟩,HE.out⟩
    simp [results,Tryz.results87,go_sem,Result.andThen,rE]
   rw [hS] at xQ;refine xQ.mono ?_;rintro e w2 ⟨rfl,b2⟩;have L2:=L1.below b2;have z2:=fun i=>aA L2.z i
   have nJ:=HS1.out w2 L2.b;clear xQ L1 z1 r1 b2 HSM HS1;go_wp2_with fail
   refine nJ.mono ?_;rintro e w3 ⟨rfl,b3⟩;have L3:=L2.below b3;have Vu:=lU SD sn w3;clear nJ L2 z2 b3;cases hL:rJ SD sn
   ·rw [hL] at Vu;go_wp2_with fail
    refine Vu.mono ?_;rintro e w4 ⟨rfl,rfl⟩;clear Vu;have LL:=L3;have rz:=fun i=>aA LL.z i
    have rq:=fun i=>aA LL.q i
    have fq:=fun i=>aG LL.q i
    have kE:=aI (aI LL.q 0 (.string o)) 1 (.slice va ps.length vc);have rE:=fun i=>aA kE i
    have bE:=(LL.b.setCell (p:=⟨w.heap.size+1+1,0,none⟩) (by show w.heap.size<=w.heap.size+1+1;omega) (.string o)).setCell (p:=⟨w.heap.size+1+1,1,none⟩) (by show w.heap.size<=w.heap.size+1+1;omega) (.slice va ps.length vc);have HE:=Nm.aF bE;clear kE bE LL;go_wp2;refine gD (v:=.agg #[.string o,.slice va ps.length vc]) ?_ rfl ?_
    rotate_left
    ·exact⟨_,_,rfl,IZ.refl,⟨HZ.out.1.up (Nat.le_succ _),HZ.out.2⟩,HE.out⟩
    simp [results,Tryz.results87,go_sem,Result.andThen,rE]
   rw [hL] at Vu;go_wp2_with fail
   refine Vu.mono ?_;rintro e w4 ⟨rfl,rfl⟩;clear Vu;go_wp2;go_meet;exact L3
  have n6:(rt==6)=false:=by rw [dC];exact h6
  clear h6;go_wp2;go_meet;exact L0
 obtain⟨wd,rfl⟩:∃ x,x=wc:=⟨_,rfl⟩;clear L0 HSE HSM HS1;have z1:=fun i=>aA hcut.z i
 have r1:=fun i=>aA hcut.r i
 have nA:=HSP.out wd hcut.b;clear HSP;go_wp2_with fail
 refine nA.mono ?_;rintro e w1 ⟨s,rfl,hs,b1⟩
 have oI:s.size<=1000:=by
  rcases hs with rfl|⟨p,hp,rfl⟩
  ·omega
  exact HOW.out p hp
 have L1:=hcut.below b1;have L2:=L1.spell s;have f1:=fun i=>aG L1.r i
 have g1:=fun i=>aA L1.r i
 have r2:=fun i=>aA L1.r i
 have z2:=fun i=>aA (L2.alloc (.cells #[] 29)).z i
 have e2:(w1.setCell ⟨w.heap.size+1,0,none⟩ (.string s)).heap.size=w1.heap.size:=by simp
 have o0:=World.ownsRow_lit (base:=w1.heap.size) (e:=29) (size:=5) (w1.setCell ⟨w.heap.size+1,0,none⟩ (.string s)) #[] 0 (by simp) (by decide) rfl;rw [e2] at o0;have L3:=L2.alloc (.cells #[] 29);have hzc:=HZC.out _ L3.b;have hCw:=L1.lt;clear HZC nA hs b1 hcut z1 r1 L1 L2;go_wp2_with fail
 refine hzc.mono ?_;rintro e w3 ⟨u,rfl,mF,b3⟩;have o1:=own_below o0 b3;have L4:=L3.below b3
 have aSc:∀ g,(Value.slice (some ⟨w1.heap.size,0,none⟩) 0 0).ownBlock=some g->u.ownBlock≠some g:=fun g hg e=>by
  have h2:=(mF.lt g e).1;simp [Value.ownBlock] at hg
  simp at h2;omega
 have ou1:=fQ (B':=w1.heap.size) mF (by simp);have hC3:w1.heap.size<=w3.heap.size:=by have:=b3.size;simp at this;omega
 obtain⟨ba,bc,rfl⟩:=aT mF;generalize w1.heap.size=C at*;generalize aD ps=xs at*;clear o0 mF b3 L3 z2 f1 g1 e2 hzc;go_wp2_with fail
 go_loopw [7,9] (fun lv iv wr=>∃ (j:Nat) (WT:List Rr),j<=xs.length∧iv=.int .i64 (j:Int)∧WT.length<=j∧Hid (∀ y∈WT,ZR y)∧wr.ownsRow C 29 5 lv WT.length (bK WT)∧wr.ownsRow C 29 5 (.slice ba xs.length bc) xs.length (bK xs)∧(∀ g,lv.ownBlock=some g->(Value.slice ba xs.length bc).ownBlock≠some g)∧C<=wr.heap.size∧La w o (.slice va ps.length vc) s rt rc ru rd wr) (fun _ i _=>xs.length-(intOf i).toNat)
 case atStart=>exact⟨0,[],dO _,rfl,aN _,(by intro y hy;cases hy),o1,ou1,aSc,hC3,L4⟩
 obtain⟨j,WT,hj,rfl,hwl,HWT,oO,oY,pW,hCr,L⟩:=hrel;clear o1 ou1 aSc L4;obtain⟨oa,oc,rfl⟩:=aT oO
 by_cases bV:j<xs.length
 ·obtain⟨x,hx⟩:∃ x,xs[j]? =some x:=⟨_,bY bV⟩;have Jf:=HZR.out x (bP hx);obtain⟨_,ya,yc,hyv,aAw,aKc,hyc⟩:=bS.aS oY;simp only [iG] at hyv;obtain⟨rfl,-,rfl⟩:=hyv;obtain⟨b,off,rfl,aL⟩:=hyc (by omega);obtain⟨c0,c1,c2,c3,c4⟩:=gT aL hx;obtain⟨xo,xt,xc,xu,xd⟩:=x;obtain⟨FC,VE⟩:=Jf;simp only at c0 c1 c2 c3 c4 FC VE
  have i1:(0:Int)<=(j:Int):=by omega
  have i2:(j:Int)<(xs.length:Int):=by omega
  have LA:=L.alloc (.cells #[.string xo,.int .i64 xt,.int .i64 xc,.int .i64 xu,.string xd] 29);have kA:=aH wr #[.string xo,.int .i64 xt,.int .i64 xc,.int .i64 xu,.string xd] 29;have oOA:=oO.alloc (.cells #[.string xo,.int .i64 xt,.int .i64 xc,.int .i64 xu,.string xd] 29);have oYA:=oY.alloc (.cells #[.string xo,.int .i64 xt,.int .i64 xc,.int .i64 xu,.string xd] 29);have nO:(Value.slice oa WT.length oc).ownBlock≠some wr.heap.size:=fun e=>by have:=(oO.lt _ e).2;omega
  have nY:(Value.slice (some ⟨b,off,none⟩) xs.length bc).ownBlock≠some wr.heap.size:=fun e=>by have:=(oY.lt _ e).2;omega
  have HCX:Hid (C<=wr.heap.size):=hCr;clear aL hyc hx L oO oY hCr;go_upto_region 12 with fail
  generalize wr.alloc (.cells #[.string xo,.int .i64 xt,.int .i64 xc,.int .i64 xu,.string xd] 29)=W5 at*;clear c0 c1 c2 c3 c4;have rx:=fun i=>aA kA i
  have rr:=fun i=>aA LA.r i
  have HP:=Nm.aF pW;have HXZ:Hid (∀ t:Int,ZR ⟨xo,xt,xc,t,xd⟩):=fun t=>⟨FC,VE⟩
  clear pW
  by_cases ht:xt=rt
  ·subst ht;have ZF:=HSN.out xo s FC oI W5;cases hS:jB xo s
   ·rw [hS] at ZF;go_wp2_with fail
    refine ZF.mono ?_;rintro e w6 ⟨rfl,b6⟩;have L6:=LA.below b6;have k6:=aB kA b6;have Ry:=own_below oOA b6;have oY6:=own_below oYA b6;have r6:=fun i=>aA k6 i
    clear ZF LA kA oOA oYA rx rr b6;have hk6:=bU k6;have yB:=HCX.out;go_wp2_with (at_builtin;refine wpList_append_own_at _ rfl (.tmp 86) (.tmp 88) 30 rfl C 29 i0 _ 5 56 Tryz.underlying30 hi iJ fP fZ rfl (by decide) (.slice oa WT.length oc) WT.length (bK WT) rfl (own_below Ry ((aK _ _).alloc (aN _) _)) ⟨(w6).heap.size,0,none⟩ 1 1 [.string xo,.int .i64 xt,.int .i64 xc,.int .i64 xu,.string xd] rfl rfl (dU _ _ _) (by intro u hu;simp at hu;rcases hu with rfl|rfl|rfl|rfl|rfl<;>rfl) (by unfold maxLen;omega) (by omega) (by simp;omega) ?_;intro ZP wa rF iF oP oQ)
    have o9:wa.ownsRow C 29 5 ZP (WT++[(⟨xo,xt,xc,xu,xd⟩:Rr)]).length (bK (WT++[(⟨xo,xt,xc,xu,xd⟩:Rr)])):=by simpa [bK,Ju] using rF
    have qG:=(aK _ _).alloc (aN (w6).heap.size) (.cells #[.string xo,.int .i64 xt,.int .i64 xc,.int .i64 xu,.string xd] 29);have oYa:=own_below oY6 qG;have oOa:=own_below Ry qG;obtain⟨oY9,WN⟩:=UM oYa HP.out iF (by simpa using oQ);have L9:=(L6.below qG).app oOa hCw iF;have DT:C<=wa.heap.size:=by have h1:=iF.size;simp at h1;omega
    clear oQ oP iF rF oYa oOa qG Ry oY6 L6 k6;go_wp2;go_roundw
    case rel=>exact⟨j+1,WT++[(⟨xo,xt,xc,xu,xd⟩:Rr)],bV,by go_num,by simp;omega,BX HWT.out (HXZ.out xu),o9,oY9,WN,DT,L9⟩
    simp [intOf];omega
   rw [hS] at ZF;go_wp2_with fail
   refine ZF.mono ?_;rintro e w6 ⟨rfl,b6⟩;have L6:=LA.below b6;have k6:=aB kA b6;have Ry:=own_below oOA b6;have oY6:=own_below oYA b6;have r6:=fun i=>aA k6 i
   clear ZF LA kA oOA oYA rx rr b6 hS;have Zj:=Oa xt;have IP:=fun W=>lK xt xd W
   have ZA:=fun W=>lK xt rd W
   generalize gK xt xd=FX at*;generalize gK xt rd=FR at*;have HS2:Hid (∀ W,Below w6.heap.size w6 W->bG W (w.heap.size+1) #[.string s,.int .i64 xt,.int .i64 rc,.int .i64 ru,.string rd] 29∧bG W wr.heap.size #[.string xo,.int .i64 xt,.int .i64 xc,.int .i64 xu,.string xd] 29):=fun W hW=>⟨aB L6.r hW,aB k6 hW⟩
   have HK6:=Nm.aF (aV L6 (aV k6 (aV Ry oY6)));clear L6 k6 Ry oY6;go_wp2_with fail
   refine kR (fun X=>bG X (w.heap.size+1) #[.string s,.int .i64 xt,.int .i64 rc,.int .i64 ru,.string rd] 29∧bG X wr.heap.size #[.string xo,.int .i64 xt,.int .i64 xc,.int .i64 xu,.string xd] 29) 1000 (HS2.out _ (aK _ w6).drew) fun aO=>?_;clear r6;refine kP 0 rfl ?_;refine kP 1 rfl ?_;refine k1 2 rfl fun K hK=>?_
   go_simp;refine(Zj _).mono ?_;rintro e w7 ⟨rfl,b7⟩;have b7':=Nm.aC (aK _ w6).drew b7;go_wp2_with fail
   refine hK.out _ _ (HS2.out _ b7') fun aO=>?_;clear hK K Zj b7;refine kP 3 rfl ?_
   cases aAy xt with
   |true=>
    refine kS 4 rfl ?_;refine kS 5 rfl ?_;refine kS 6 rfl ?_;refine kS 7 rfl ?_;refine kS 8 rfl ?_;refine kS 9 rfl ?_;refine kS 10 rfl ?_;refine kS 11 rfl ?_;refine kS 12 rfl ?_;refine kS 13 rfl ?_;refine kS 14 rfl ?_;refine kP 15 rfl ?_;refine kN ?_;have L7:=HK6.out.1.below b7';have o7:=own_below HK6.out.2.2.1 b7';have y7:=own_below HK6.out.2.2.2 b7';have hs7:C<=w7.heap.size:=by have h1:=b7'.size;have h2:=bU HK6.out.2.1;have h3:=HCX.out;omega
    clear aO HK6 HS2 IP ZA b7'
    try go_simp
    go_wp2;go_roundw
    case rel=>exact⟨j+1,WT,bV,by go_num,by omega,HWT,o7,y7,HP.out,hs7,L7⟩
    simp [intOf];omega
   |false=>
    refine kP 4 rfl ?_;refine kP 5 rfl ?_;refine kP 6 rfl ?_;refine kP 7 rfl ?_;refine kP 9 rfl ?_;refine kP 10 rfl ?_;refine kP 11 rfl ?_;refine kP 12 rfl ?_;refine k1 8 rfl fun K hK=>?_
    go_simp;refine(IP _).mono ?_;rintro e w8 ⟨rfl,b8⟩;have b8':=Nm.aC b7' b8;go_wp2_with fail
    refine hK.out _ _ (HS2.out _ b8') fun aO=>?_;clear hK K b8 b7';refine k1 13 rfl fun K hK=>?_
    go_simp;refine(ZA _).mono ?_;rintro e w9 ⟨rfl,b9⟩;have b9':=Nm.aC b8' b9;go_wp2_with fail
    refine hK.out _ _ (HS2.out _ b9') fun aO=>?_;clear hK K b9 b8';generalize hEQ:(FX.toList==FR.toList)=EQ;refine kP 14 rfl ?_;refine kP 15 rfl ?_;refine kN ?_;have L6:=HK6.out.1.below b9';have k6:=aB HK6.out.2.1 b9';have Ry:=own_below HK6.out.2.2.1 b9';have oY6:=own_below HK6.out.2.2.2 b9';clear aO HK6 HS2 IP ZA b9' hEQ
    cases EQ with
    |true=>
     have hs7:C<=w9.heap.size:=by have h2:=bU k6;have h3:=HCX.out;omega
     clear k6
     try go_simp
     go_wp2;go_roundw
     case rel=>exact⟨j+1,WT,bV,by go_num,by omega,HWT,Ry,oY6,HP.out,hs7,L6⟩
     simp [intOf];omega
    |false=>
     have g6:=fun i=>aG k6 i
     have c6:=fun i=>aA k6 i
     have rr6:=fun i=>aA L6.r i
     have hxw:w.heap.size+1+1<wr.heap.size:=by have h1:=HCX.out;omega
     have LT:=L6.far (b:=wr.heap.size) (i:=3) (x:=.int .i64 ru) hxw;have kT:=aI k6 3 (.int .i64 ru);simp only [List.setIfInBounds_toArray,List.set_cons_zero,List.set_cons_succ] at kT;have oT:=eU (i:=3) (y:=.int .i64 ru) Ry nO;have yT:=eU (i:=3) (y:=.int .i64 ru) oY6 nY;have cT:=fun i=>aA kT i
     replace L6:=LT
     replace Ry:=oT
     replace oY6:=yT
     replace k6:=kT
     clear LT oT yT kT
     try go_simp
     go_upto_region 15 with fail
     generalize w9.setCell ⟨wr.heap.size,3,none⟩ (.int .i64 ru)=W9 at*;clear g6 c6 rr6;have hk6:=bU k6;have yB:=HCX.out;go_wp2_with (at_builtin;refine wpList_append_own_at _ rfl (.tmp 86) (.tmp 88) 30 rfl C 29 i0 _ 5 56 Tryz.underlying30 hi iJ fP fZ rfl (by decide) (.slice oa WT.length oc) WT.length (bK WT) rfl (own_below Ry ((aK _ _).alloc (aN _) _)) ⟨(W9).heap.size,0,none⟩ 1 1 [.string xo,.int .i64 xt,.int .i64 xc,.int .i64 ru,.string xd] rfl rfl (dU _ _ _) (by intro u hu;simp at hu;rcases hu with rfl|rfl|rfl|rfl|rfl<;>rfl) (by unfold maxLen;omega) (by omega) (by simp;omega) ?_;intro ZP wa rF iF oP oQ)
     have o9:wa.ownsRow C 29 5 ZP (WT++[(⟨xo,xt,xc,ru,xd⟩:Rr)]).length (bK (WT++[(⟨xo,xt,xc,ru,xd⟩:Rr)])):=by simpa [bK,Ju] using rF
     have qG:=(aK _ _).alloc (aN (W9).heap.size) (.cells #[.string xo,.int .i64 xt,.int .i64 xc,.int .i64 ru,.string xd] 29);have oYa:=own_below oY6 qG;have oOa:=own_below Ry qG;obtain⟨oY9,WN⟩:=UM oYa HP.out iF (by simpa using oQ);have L9:=(L6.below qG).app oOa hCw iF;have DT:C<=wa.heap.size:=by have h1:=iF.size;simp at h1;omega
     clear oQ oP iF rF oYa oOa qG Ry oY6 L6 k6;go_wp2;go_roundw
     case rel=>exact⟨j+1,WT++[(⟨xo,xt,xc,ru,xd⟩:Rr)],bV,by go_num,by simp;omega,BX HWT.out (HXZ.out ru),o9,oY9,WN,DT,L9⟩
     simp [intOf];omega
  have nt:(xt==rt)=false:=by rw [dC];exact ht
  have k6:=kA;have L6:=LA;have Ry:=oOA;have oY6:=oYA;clear ht HSN LA kA oOA oYA;have hk6:=bU k6;have yB:=HCX.out;go_wp2_with (at_builtin;refine wpList_append_own_at _ rfl (.tmp 86) (.tmp 88) 30 rfl C 29 i0 _ 5 56 Tryz.underlying30 hi iJ fP fZ rfl (by decide) (.slice oa WT.length oc) WT.length (bK WT) rfl (own_below Ry ((aK _ _).alloc (aN _) _)) ⟨(W5).heap.size,0,none⟩ 1 1 [.string xo,.int .i64 xt,.int .i64 xc,.int .i64 xu,.string xd] rfl rfl (dU _ _ _) (by intro u hu;simp at hu;rcases hu with rfl|rfl|rfl|rfl|rfl<;>rfl) (by unfold maxLen;omega) (by omega) (by simp;omega) ?_;intro ZP wa rF iF oP oQ)
  have o9:wa.ownsRow C 29 5 ZP (WT++[(⟨xo,xt,xc,xu,xd⟩:Rr)]).length (bK (WT++[(⟨xo,xt,xc,xu,xd⟩:Rr)])):=by simpa [bK,Ju] using rF
  have qG:=(aK _ _).alloc (aN (W5).heap.size) (.cells #[.string xo,.int .i64 xt,.int .i64 xc,.int .i64 xu,.string xd] 29);have oYa:=own_below oY6 qG;have oOa:=own_below Ry qG;obtain⟨oY9,WN⟩:=UM oYa HP.out iF (by simpa using oQ);have L9:=(L6.below qG).app oOa hCw iF;have DT:C<=wa.heap.size:=by have h1:=iF.size;simp at h1;omega
  clear oQ oP iF rF oYa oOa qG Ry oY6 L6 k6;go_wp2;go_roundw
  case rel=>exact⟨j+1,WT++[(⟨xo,xt,xc,xu,xd⟩:Rr)],bV,by go_num,by simp;omega,BX HWT.out (HXZ.out xu),o9,oY9,WN,DT,L9⟩
  simp [intOf];omega
 have nS:j=xs.length:=by omega
 subst nS;have hY:ZR ⟨s,rt,rc,ru,rd⟩:=⟨oI,uR⟩;have hXY:∀ r∈WT++[(⟨s,rt,rc,ru,rd⟩:Rr)],ZR r:=BX HWT.out hY;have hl6:(WT++[(⟨s,rt,rc,ru,rd⟩:Rr)]).length<=N+1:=by simp;omega
 have HBZ:Hid (∀ (u:Value) (W:World),W.ownsRow C 29 5 u (WT++[(⟨s,rt,rc,ru,rd⟩:Rr)]).length (bK (WT++[(⟨s,rt,rc,ru,rd⟩:Rr)]))->w.heap.size<=W.heap.size->Calls Tryz.prog 28 #[u,.string o] W fun e w'=>Below W.heap.size W w'∧∃ (o':ByteArray) (zv:Value) (qs:List Zp) (c i:Int),e=.returned (.tuple #[.agg #[.string o',zv],.int .i64 c,.int .i64 i])∧o'.size<=20∧Hid (ZB qs (N+1)∧(c=0->(0<qs.length∧Vz qs o)∧o'=o))∧dH w' w.heap.size zv qs):=by
  intro u W hu hW;refine(kH _ _ o W (bS.aS hu) (by omega) (by unfold maxLen;omega) (fun r hr=>by have:=(hXY r hr).1;unfold maxLen;omega)).mono ?_;intro e w' hb;obtain⟨b6,o',zv,qs,c,i,h1,h2,h3,h4⟩:=YJ (N:=N+1) hb hXY hl6 ho hW;exact⟨b6,o',zv,qs,c,i,h1,h2,⟨h3.out.1,h3.out.2.1⟩,h4⟩
 have L0:=L.below (aK _ wr).drew;have R0:=own_below oO (aK _ wr).drew;have hsD:C<=wr.drew.heap.size:=hCr;clear oY pW HSN hXY L oO hY hl6;go_upto_region 16 with fail
 go_cut [11,12,13] from 90 (fun yv cv iv wx=>∃ (yb:Nat) (o':ByteArray) (zv:Value) (qs:List Zp) (c i:Int),yv=.pointer (some ⟨yb,0,none⟩)∧cv=.int .i64 c∧iv=.int .i64 i∧o'.size<=20∧Hid (ZB qs (N+1)∧(c=0->(0<qs.length∧Vz qs o)∧o'=o))∧dH wx w.heap.size zv qs∧bG wx yb #[.string o',zv] 25∧La w o (.slice va ps.length vc) s rt rc ru rd wx)
 case first=>
  refine kR (fun X=>bG X w.heap.size #[.string o,.slice va ps.length vc] 25∧bG X (w.heap.size+1) #[.string s,.int .i64 rt,.int .i64 rc,.int .i64 ru,.string rd] 29) 1000 ⟨L0.z,L0.r⟩ fun aO=>?_;generalize wr.drew=x at*;have LL:=L0;have RR:=R0;have ZQ:C<=x.heap.size:=hsD;clear L0 R0 hsD;refine kP 0 rfl ?_;refine kP 1 rfl ?_;refine kP 4 rfl ?_;refine kP 5 rfl ?_;refine k2 2 11 rfl rfl (fun K hK=>?_) fun K hK=>?_
  case' _=>
   go_simp;have ca:=(aK x.heap.size x).alloc (aN _) (.cells #[.string s,.int .i64 rt,.int .i64 rc,.int .i64 ru,.string rd] 29);have kN:=aH x #[.string s,.int .i64 rt,.int .i64 rc,.int .i64 ru,.string rd] 29
   replace LL:=LL.below ca
   replace RR:=own_below RR ca
   replace ZQ:=iL ZQ ca.size
   refine hK.out _ _ ⟨LL.z,LL.r⟩ fun aO=>?_;clear hK K;obtain⟨ad,had⟩:∃ g,g=x.heap.size:=⟨_,rfl⟩;rw [<- had] at kN ⊢;generalize x.alloc (.cells #[.string s,.int .i64 rt,.int .i64 rc,.int .i64 ru,.string rd] 29)=x at*;have KK:=kN;clear kN had ca
  rotate_left 1
  case' _=>
   go_simp;have ca:=(aK x.heap.size x).alloc (aN _) (.cells #[.string ⟨#[]⟩,.slice none 0 0] 25);have kN:=aH x #[.string ⟨#[]⟩,.slice none 0 0] 25;have hyx:=LL.lt
   replace LL:=LL.below ca
   replace RR:=own_below RR ca
   replace ZQ:=iL ZQ ca.size
   refine hK.out _ _ ⟨LL.z,LL.r⟩ fun aO=>?_;clear hK K;obtain⟨yb,hyb⟩:∃ g,g=x.heap.size:=⟨_,rfl⟩;rw [<- hyb] at hyx kN ⊢;generalize x.alloc (.cells #[.string ⟨#[]⟩,.slice none 0 0] 25)=x at*;have YY:=kN;clear kN hyb ca
  all_goals try
   have _:=YY;have _:=RR
   fail_if_success have _:=KK
   refine k1 2 rfl fun K hK=>?_
   go_simp;have ca:=(aK x.heap.size x).alloc (aN _) (.cells #[.string s,.int .i64 rt,.int .i64 rc,.int .i64 ru,.string rd] 29);have kN:=aH x #[.string s,.int .i64 rt,.int .i64 rc,.int .i64 ru,.string rd] 29
   replace LL:=LL.below ca
   replace RR:=own_below RR ca
   replace YY:=aB YY ca
   replace ZQ:=iL ZQ ca.size
   refine hK.out _ _ ⟨LL.z,LL.r⟩ fun aO=>?_;clear hK K;obtain⟨ad,had⟩:∃ g,g=x.heap.size:=⟨_,rfl⟩;rw [<- had] at kN ⊢;generalize x.alloc (.cells #[.string s,.int .i64 rt,.int .i64 rc,.int .i64 ru,.string rd] 29)=x at*;have KK:=kN;clear kN had ca
  all_goals try
   have _:=KK
   fail_if_success have _:=YY
   refine k2 3 11 rfl rfl (fun K hK=>?_) fun K hK=>?_
   case' _=>
    refine iX rfl (.tmp 91) (.tmp 93) 30 rfl C 29 i0 _ 5 56 Tryz.underlying30 hi iJ fP fZ rfl (by decide) (.slice oa WT.length oc) WT.length (bK WT) (by go_simp) RR ⟨ad,0,none⟩ 1 1 [.string s,.int .i64 rt,.int .i64 rc,.int .i64 ru,.string rd] (by go_simp) rfl (fun j z hz=>by rw [Nm.addr_add,Nat.zero_add];exact(aA KK j).trans (by simpa using hz)) (by intro u hu;simp at hu;rcases hu with rfl|rfl|rfl|rfl|rfl<;>rfl) (by unfold maxLen;omega) (by omega) ZQ ?_;intro v5 x aU hg _
    replace LL:=LL.app RR hCw hg
    have RW:x.ownsRow C 29 5 v5 (WT++[(⟨s,rt,rc,ru,rd⟩:Rr)]).length (bK (WT++[(⟨s,rt,rc,ru,rd⟩:Rr)])):=by
     rw [jX,nG];exact aU
    replace ZQ:=iL ZQ hg.size
    refine hK.out _ _ ⟨LL.z,LL.r⟩ fun aO=>?_;clear hK K RR KK aU hg
   rotate_left 1
   case' _=>
    go_simp;have ca:=(aK x.heap.size x).alloc (aN _) (.cells #[.string ⟨#[]⟩,.slice none 0 0] 25);have kN:=aH x #[.string ⟨#[]⟩,.slice none 0 0] 25;have hyx:=LL.lt
    replace LL:=LL.below ca
    replace RR:=own_below RR ca
    replace KK:=aB KK ca
    replace ZQ:=iL ZQ ca.size
    refine hK.out _ _ ⟨LL.z,LL.r⟩ fun aO=>?_;clear hK K;obtain⟨yb,hyb⟩:∃ g,g=x.heap.size:=⟨_,rfl⟩;rw [<- hyb] at hyx kN ⊢;generalize x.alloc (.cells #[.string ⟨#[]⟩,.slice none 0 0] 25)=x at*;have YY:=kN;clear kN hyb ca
  all_goals try
   have _:=KK;have _:=YY;refine k1 3 rfl fun K hK=>?_
   refine iX rfl (.tmp 91) (.tmp 93) 30 rfl C 29 i0 _ 5 56 Tryz.underlying30 hi iJ fP fZ rfl (by decide) (.slice oa WT.length oc) WT.length (bK WT) (by go_simp) RR ⟨ad,0,none⟩ 1 1 [.string s,.int .i64 rt,.int .i64 rc,.int .i64 ru,.string rd] (by go_simp) rfl (fun j z hz=>by rw [Nm.addr_add,Nat.zero_add];exact(aA KK j).trans (by simpa using hz)) (by intro u hu;simp at hu;rcases hu with rfl|rfl|rfl|rfl|rfl<;>rfl) (by unfold maxLen;omega) (by omega) ZQ ?_;intro v5 x aU hg _
   replace LL:=LL.app RR hCw hg
   replace YY:=aP YY hg (bW RR YY (by decide))
   have RW:x.ownsRow C 29 5 v5 (WT++[(⟨s,rt,rc,ru,rd⟩:Rr)]).length (bK (WT++[(⟨s,rt,rc,ru,rd⟩:Rr)])):=by
    rw [jX,nG];exact aU
   replace ZQ:=iL ZQ hg.size
   refine hK.out _ _ ⟨LL.z,LL.r⟩ fun aO=>?_;clear hK K RR KK aU hg
  all_goals try
   have _:=RW
   fail_if_success have _:=YY
   refine k2 6 11 rfl rfl (fun K hK=>?_) fun K hK=>?_
   case' _=>
    go_simp;refine(HBZ.out _ _ RW LL.b.size).mono ?_;rintro e x ⟨B6,o6,zv,q6,c6,i6,rfl,ho6,Sm,OO⟩;obtain⟨za,zc,rfl⟩:=aT OO.outer
    replace LL:=LL.below B6
    replace ZQ:=iL ZQ B6.size
    go_wp2_with fail
    refine hK.out _ _ ⟨LL.z,LL.r⟩ fun aO=>?_;clear hK K B6 RW;refine kP 7 rfl ?_;refine kP 8 rfl ?_;refine kP 9 rfl ?_;refine kP 10 rfl ?_
   rotate_left 1
   case' _=>
    go_simp;have ca:=(aK x.heap.size x).alloc (aN _) (.cells #[.string ⟨#[]⟩,.slice none 0 0] 25);have kN:=aH x #[.string ⟨#[]⟩,.slice none 0 0] 25;have hyx:=LL.lt
    replace LL:=LL.below ca
    replace RW:=own_below RW ca
    replace ZQ:=iL ZQ ca.size
    refine hK.out _ _ ⟨LL.z,LL.r⟩ fun aO=>?_;clear hK K;obtain⟨yb,hyb⟩:∃ g,g=x.heap.size:=⟨_,rfl⟩;rw [<- hyb] at hyx kN ⊢;generalize x.alloc (.cells #[.string ⟨#[]⟩,.slice none 0 0] 25)=x at*;have YY:=kN;clear kN hyb ca
  all_goals try
   have _:=RW;have _:=YY;refine k1 6 rfl fun K hK=>?_
   go_simp;refine(HBZ.out _ _ RW LL.b.size).mono ?_;rintro e x ⟨B6,o6,zv,q6,c6,i6,rfl,ho6,Sm,OO⟩;obtain⟨za,zc,rfl⟩:=aT OO.outer
   replace LL:=LL.below B6
   replace YY:=aB YY B6
   replace ZQ:=iL ZQ B6.size
   go_wp2_with fail
   refine hK.out _ _ ⟨LL.z,LL.r⟩ fun aO=>?_;clear hK K B6 RW;refine kP 7 rfl ?_;refine kP 8 rfl ?_;refine kP 9 rfl ?_;refine kP 10 rfl ?_
  all_goals try
   have _:=OO
   fail_if_success have _:=YY
   refine k1 11 rfl fun K hK=>?_
   go_simp;have ca:=(aK x.heap.size x).alloc (aN _) (.cells #[.string ⟨#[]⟩,.slice none 0 0] 25);have kN:=aH x #[.string ⟨#[]⟩,.slice none 0 0] 25;have hyx:=LL.lt
   replace LL:=LL.below ca
   replace OO:=OO.below ca
   replace ZQ:=iL ZQ ca.size
   refine hK.out _ _ ⟨LL.z,LL.r⟩ fun aO=>?_;clear hK K;obtain⟨yb,hyb⟩:∃ g,g=x.heap.size:=⟨_,rfl⟩;rw [<- hyb] at hyx kN ⊢;generalize x.alloc (.cells #[.string ⟨#[]⟩,.slice none 0 0] 25)=x at*;have YY:=kN;clear kN hyb ca
  all_goals
   have LE:=(LL.far (i:=0) (x:=.string o6) hyx).far (i:=1) (x:=.slice za q6.length zc) hyx;have YE:=aI (aI YY 0 (.string o6)) 1 (.slice za q6.length zc);simp only [List.setIfInBounds_toArray,List.set_cons_zero,List.set_cons_succ] at YE;have OE:=dH.dL (x:=.slice za q6.length zc) (i:=1) (dH.dL (x:=.string o6) (i:=0) OO YY (by decide) (by decide)) (aI YY 0 (.string o6)) (by decide) (by decide);have HE:=Nm.aF (aV Sm (aV OE (aV YE LE)));have cY:=fun i=>aA YY i
   have fY:=fun i=>aG YY i
   clear LE YE OE;refine k1 12 rfl fun K hK=>?_
   go_simp;refine hK.out _ _ ⟨HE.out.2.2.2.z,HE.out.2.2.2.r⟩ fun aO=>?_;clear hK K cY fY;refine kP 13 rfl ?_;refine kP 14 rfl ?_;refine kN ?_;clear aO
   try go_simp
   go_wp2;go_meet;exact⟨_,o6,_,q6,c6,i6,rfl,rfl,rfl,ho6,HE.out.1,HE.out.2.1,HE.out.2.2.1,HE.out.2.2.2⟩
 obtain⟨yb,o',zv,qs,c,i,rfl,rfl,rfl,CW,Sm,NF,kY,L⟩:=hcut;clear L0 R0 HBZ;obtain⟨za,zc,rfl⟩:=aT NF.outer
 by_cases hc:c=0
 ·subst hc;obtain⟨⟨hq,L9,hv1,FI⟩,rfl⟩:=Sm.out.2 rfl;have HZE:Hid (ZB qs (N+1)∧pI qs o'=true):=⟨Sm.out.1,(YR hv1 FI).2⟩;have ry:=fun i=>aA kY i
  have rq:=fun i=>aA L.q i
  have fq:=fun i=>aG L.q i
  have kE:=aI (aI L.q 0 (.string o')) 1 (.slice za qs.length zc);have rE:=fun i=>aA kE i
  have bE:=(L.b.setCell (p:=⟨w.heap.size+1+1,0,none⟩) (by show w.heap.size<=w.heap.size+1+1;omega) (.string o')).setCell (p:=⟨w.heap.size+1+1,1,none⟩) (by show w.heap.size<=w.heap.size+1+1;omega) (.slice za qs.length zc);have zE:=dH.dL (x:=.slice za qs.length zc) (i:=1) (dH.dL (x:=.string o') (i:=0) NF L.q (by decide) (by decide)) (aI L.q 0 (.string o')) (by decide) (by decide);have HE:=Nm.aF (aV zE bE);clear kE bE zE L kY NF Sm hv1 FI HZ;go_wp2;refine gD (v:=.agg #[.string o',.slice za qs.length zc]) ?_ rfl ?_
  rotate_left
  ·exact⟨_,_,rfl,.inr HE.out.1,HZE,HE.out.2⟩
  simp [results,Tryz.results87,go_sem,Result.andThen,rE]
 have nc:(c != 0)=true:=by simp [hc]
 clear kY NF Sm hc;have LL:=L;have rz:=fun i=>aA LL.z i
 have rq:=fun i=>aA LL.q i
 have fq:=fun i=>aG LL.q i
 have kE:=aI (aI LL.q 0 (.string o)) 1 (.slice va ps.length vc);have rE:=fun i=>aA kE i
 have bE:=(LL.b.setCell (p:=⟨w.heap.size+1+1,0,none⟩) (by show w.heap.size<=w.heap.size+1+1;omega) (.string o)).setCell (p:=⟨w.heap.size+1+1,1,none⟩) (by show w.heap.size<=w.heap.size+1+1;omega) (.slice va ps.length vc);have HE:=Nm.aF bE;clear kE bE LL;go_wp2;refine gD (v:=.agg #[.string o,.slice va ps.length vc]) ?_ rfl ?_
 rotate_left
 ·exact⟨_,_,rfl,IZ.refl,⟨HZ.out.1.up (Nat.le_succ _),HZ.out.2⟩,HE.out⟩
 simp [results,Tryz.results87,go_sem,Result.andThen,rE]
