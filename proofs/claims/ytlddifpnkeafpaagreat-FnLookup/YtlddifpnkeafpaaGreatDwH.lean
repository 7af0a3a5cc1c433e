import Derived.Test.YtlddifpnkeafpaaGreatJFsT
set_option linter.unusedVariables false
set_option maxRecDepth 100000
set_option maxHeartbeats 6400000
namespace Go.Proofs.YtlddifpnkeafpaaGreat
open Go.RowKit
theorem Il:∀ (ps:List Zp),jQ ps=wG (ps.map (·.1))
 |[]=>rfl
 |p::ps=>by
  have:=Il ps;simp only [jQ,wG,List.map_cons,List.sum_cons] at this ⊢;omega
theorem aHa{ps:List Zp}{N:Nat}(h:ZB ps N):(∀ r∈aR ps,ZR r)∧(aR ps).length<=N:=by
 unfold aR;split
 ·exact⟨by simp,dR _⟩
 refine⟨fun r hr=>?_,by rw [zM,Il];exact h.cnt⟩;rw [gD,List.mem_flatMap] at hr;obtain⟨p,hp,hr⟩:=hr;rw [iW,List.mem_map] at hr;obtain⟨d,hd,rfl⟩:=hr;exact⟨(h.one p hp).1,(h.one p hp).2 d hd⟩
theorem aHb{W:World}{p:Nat}(x:ByteArray)(hp:p=W.heap.size):(W.alloc (.cells #[.string x] 9)).ownsRow W.heap.size 9 1 (.slice (some ⟨p,0,none⟩) 1 1) 1 [.string x]:=by
 subst hp;exact World.ownsRow_lit (base:=W.heap.size) (e:=9) (size:=1) W #[.string x] 1 (aI _) (by decide) rfl
theorem Vw(X:World){p B:Nat}(x ab:ByteArray)(h:X.ownsRow B 9 1 (.slice (some ⟨p,0,none⟩) 1 1) 1 [.string x])(hx:x.size<=100)(ha:ab.size<=2000):
 Calls Tryz.prog 77 #[.slice (some ⟨p,0,none⟩) 1 1,.string ab] X fun e w'=>∃ s:ByteArray,e=.returned (.string s)∧s.size=1+x.size+ab.size∧Below X.heap.size X w':=
 (uR _ [x] ab X (Nm.bP.aP (ls:=[x]) h) (by simp [Nm.cK];omega) (by omega)).mono fun e w' ⟨s,h1,h2,h3⟩=>⟨s,h1,by rw [h2];simp [Nm.cK],h3⟩
structure Cu (w0:World) (g:Nat) (a:Option Addr) (n cap:Nat) (o:ByteArray) (v:Value) (ps:List Zp) (zb:Nat) (w:World):Prop where
 d:Dr w0 g a n cap w
 z:dF w w0.heap.size v ps
 k:bW w zb #[.string o,v] 25
 r:bW w (zb+1) #[.string ByteArray.empty,.slice none 0 0] 25
section
variable {w0 w w1:World}{g n cap zb:Nat}{a:Option Addr}{o:ByteArray}{v:Value}{ps:List Zp}
theorem Cu.below(h:Cu w0 g a n cap o v ps zb w)(hb:Below w.heap.size w w1):Cu w0 g a n cap o v ps zb w1:=⟨h.d.below hb,h.z.below hb,aB h.k hb,aB h.r hb⟩
theorem Cu.alloc(h:Cu w0 g a n cap o v ps zb w)(x:Obj):Cu w0 g a n cap o v ps zb (w.alloc x):=h.below ((aJ _ _).alloc (aI _) _)
theorem Cu.app{m:Nat}{u:Value}{xs:List Value}(h:Cu w0 g a n cap o v ps zb w)(hr:w.ownsRow w0.heap.size 133 5 u m xs)(hg:w.grownBy w1 u.ownBlock):Cu w0 g a n cap o v ps zb w1:=
 ⟨h.d.row hg (fun k hk=>(hr.lt k hk).1),h.z.other hr (by decide) (by decide) hg,aO h.k hg (dD hr h.k (by decide)),aO h.r hg (dD hr h.r (by decide))⟩
theorem lV.dr{B:Nat}(h:lV w B v ps)(hg:w.grownBy w1 (some g))(hl:g<B):lV w1 B v ps:=
 ⟨iF h.1 hg (fun k e hk=>by have e:=jI e;subst e;have:=(h.1.lt _ hk).1;omega),fun p hp=>iF (h.2 p hp) hg (fun k e hk=>by have e:=jI e;subst e;have:=((h.2 p hp).lt _ hk).1;omega)⟩
end
def CuP(w0:World)(g:Nat)(a:Option Addr)(n cap:Nat)(e:Ending)(w':World):Prop:=∃ (o name:ByteArray) (v:Value) (ps:List Zp),e=.returned (.tuple #[.agg #[.string o,v],.string name])∧o.size<=2000∧name.size<=2000∧ZL ps∧ZKp w' w0.heap.size v ps∧Dr w0 g a n cap w'
theorem Vx{w0:World}{g n cap:Nat}{a:Option Addr}(o:ByteArray)(v:Value)(ps:List Zp)(N:Nat)(w:World)(D:Dr w0 g a n cap w)(hz:dF w w0.heap.size v ps)(hB:ZB ps N)(hN:N<=126)(ho:o.size<=20):
 Calls Tryz.prog 36 #[.pointer (some ⟨g,0,none⟩),.agg #[.string o,v]] w (CuP w0 g a n cap):=by
 obtain⟨i0,hi,iQ,iH,iI⟩:=info_parts Tryz.XH;obtain⟨va,vc,rfl⟩:=aT hz.outer;have DC:=D.lt;have hw:=D.size;obtain⟨zb,Eh⟩:∃ zb,zb=w.heap.size:=⟨_,rfl⟩
 have C0:Cu w0 g a n cap o (.slice va ps.length vc) ps zb ((w.alloc (.cells #[.string o,.slice va ps.length vc] 25)).alloc (.cells #[.string ByteArray.empty,.slice none 0 0] 25)):=by
  subst Eh;have kR:=aK (w.alloc (.cells #[.string o,.slice va ps.length vc] 25)) #[.string ByteArray.empty,.slice none 0 0] 25;rw [jO] at kR;exact⟨(D.alloc _).alloc _,(hz.below ((aJ _ _).alloc (aI _) _)).below ((aJ _ _).alloc (aI _) _),bD (aK w _ _) _,kR⟩
 have hbR:w0.heap.size<=zb+1:=by omega
 have hbZ:w0.heap.size<=zb:=by omega
 have hlen:=hB.len;have aEn:=hB.sum (by omega);obtain⟨hzr,Dk⟩:=aHa hB;have CA:=C0.alloc (.cells #[.string ⟨#[116,111,112]⟩] 9);have r0:=aA CA.k
 rw [Eh] at r0;clear D hz;go_enter Tryz.func36,Tryz.ntmps36;go_wp2_with fail
 refine(Vw _ ⟨#[116,111,112]⟩ o (aHb _ (by simp)) (by decide) (by omega)).mono ?_;rintro e w1 ⟨cut,rfl,zc,b1⟩
 replace zc:cut.size=4+o.size:=zc
 have hcz:cut.size<=24:=by omega
 have C1:=CA.below b1;rw [<- Eh];clear C0 CA b1 zc r0 hw Eh;go_wp2_with fail
 refine(uR _ [⟨#[108,111,119]⟩,⟨#[109,105,100]⟩] cut _ (N_ w1 ⟨#[108,111,119]⟩ ⟨#[109,105,100]⟩) (by decide) (by omega)).mono ?_;rintro e w2 ⟨deep,rfl,zd,b2⟩;have hdz:deep.size<=32:=by rw [zd,show Nm.cK [(⟨#[108,111,119]⟩:ByteArray),⟨#[109,105,100]⟩]=8 from rfl];omega
 have C2:=(C1.alloc (.cells #[.string ⟨#[108,111,119]⟩,.string ⟨#[109,105,100]⟩] 9)).below b2;have r2:=aA C2.k
 clear C1 b2 zd;have aQd:=wK o (.slice va ps.length vc) ps w2 C2.z.AU aEn (by omega);generalize aR ps=L at*;go_wp2_with fail
 refine aQd.mono ?_;rintro e w3 ⟨u,rfl,qV,b3⟩;obtain⟨ua,uc,rfl⟩:=aT qV;have C3:=C2.below b3;have XK:=fM qV C2.d.size;have CA:=C3.alloc (.cells #[.string ⟨#[110,115]⟩] 9);have r3:=aA CA.k
 clear aQd qV b3 C2 r2;go_wp2_with fail
 refine(Vw _ ⟨#[110,115]⟩ o (aHb _ rfl) (by decide) (by omega)).mono ?_;rintro e w4 ⟨d1,rfl,zc,b4⟩
 replace zc:d1.size=3+o.size:=zc
 have EN:d1.size<=23:=by omega
 have C4:=CA.below b4;have BQ:=own_below (XK.alloc (.cells #[.string ⟨#[110,115]⟩] 9)) b4;have OD:=C4.d.size;clear C3 CA b4 zc r3 XK;go_wp2_with (at_builtin;refine wpList_append_own _ rfl (.tmp 21) (.tmp 28) 88 rfl w0.heap.size 133 i0 _ 5 56 Tryz.underlying88 hi iQ iH iI rfl (by decide) _ _ _ rfl (BQ.alloc _) ⟨w4.heap.size,0,none⟩ 1 1 [.string cut,.int .i64 2,.int .i64 1,.int .i64 5,.string d1] rfl rfl (eZ w4 #[.string cut,.int .i64 2,.int .i64 1,.int .i64 5,.string d1] 133) (by intro u hu;simp at hu;rcases hu with rfl|rfl|rfl|rfl|rfl<;>rfl) (by unfold maxLen;omega) (by omega) (by simp;omega) ?_)
 intro v5 w5 vO EL _;have C5:=(C4.alloc (.cells #[.string cut,.int .i64 2,.int .i64 1,.int .i64 5,.string d1] 133)).app (BQ.alloc _) EL;obtain⟨ua5,uc5,rfl⟩:=aT vO;have CA:=C5.alloc (.cells #[.string ⟨#[110,115]⟩] 9);have r5:=aA CA.k
 clear C4 BQ EL OD;go_wp2_with fail
 refine(Vw _ ⟨#[110,115]⟩ o (aHb _ rfl) (by decide) (by omega)).mono ?_;rintro e w6 ⟨d2,rfl,zc,b6⟩
 replace zc:d2.size=3+o.size:=zc
 have XB:d2.size<=23:=by omega
 have C6:=CA.below b6;have ho6:=own_below (vO.alloc (.cells #[.string ⟨#[110,115]⟩] 9)) b6;have Nb:=C6.d.size;clear C5 CA b6 zc r5 vO;go_wp2_with (at_builtin;refine wpList_append_own _ rfl (.tmp 30) (.tmp 37) 88 rfl w0.heap.size 133 i0 _ 5 56 Tryz.underlying88 hi iQ iH iI rfl (by decide) _ _ _ rfl (ho6.alloc _) ⟨w6.heap.size,0,none⟩ 1 1 [.string deep,.int .i64 2,.int .i64 1,.int .i64 5,.string d2] rfl rfl (eZ w6 #[.string deep,.int .i64 2,.int .i64 1,.int .i64 5,.string d2] 133) (by intro u hu;simp at hu;rcases hu with rfl|rfl|rfl|rfl|rfl<;>rfl) (by unfold maxLen;omega) (by omega) (by simp;omega) ?_)
 intro v7 w7 yJ tK _;have C7:=(C6.alloc (.cells #[.string deep,.int .i64 2,.int .i64 1,.int .i64 5,.string d2] 133)).app (ho6.alloc _) tK;obtain⟨ua7,uc7,rfl⟩:=aT yJ
 have ER:w7.ownsRow w0.heap.size 133 5 (.slice ua7 (L.length+1+1) uc7) (L++[(⟨cut,2,1,5,d1⟩:Rr)]++[(⟨deep,2,1,5,d2⟩:Rr)]).length (jC (L++[(⟨cut,2,1,5,d1⟩:Rr)]++[(⟨deep,2,1,5,d2⟩:Rr)])):=by
  rw [sQ,sQ,oJ,oJ,List.append_assoc];exact yJ
 have aMv:∀ r∈L++[(⟨cut,2,1,5,d1⟩:Rr)]++[(⟨deep,2,1,5,d2⟩:Rr)],ZR r:=XW (XW hzr ⟨by show cut.size<=1000;omega,by show d1.size<=3200;omega⟩) ⟨by show deep.size<=1000;omega,by show d2.size<=3200;omega⟩;have BA:(L++[(⟨cut,2,1,5,d1⟩:Rr)]++[(⟨deep,2,1,5,d2⟩:Rr)]).length<=128:=by simp;omega
 have yZ:=oD (.slice ua7 (L.length+1+1) uc7) _ o w7 (dZ.aP ER) (by omega) (by unfold maxLen;omega) (fun r hr=>by have:=(aMv r hr).1;unfold maxLen;omega);have hs7:=C7.d.size;have r7:=aA C7.k
 generalize L++[(⟨cut,2,1,5,d1⟩:Rr)]++[(⟨deep,2,1,5,d2⟩:Rr)]=LL at*;clear C6 ho6 tK Nb yJ ER;go_wp2_with fail
 refine yZ.mono ?_;rintro e w8 hb;obtain⟨b8,o2,zv,qs,c,i,rfl,ho2,aQe,aMw⟩:=Cs (N:=128) hb aMv BA ho hs7;obtain⟨za,zc,rfl⟩:=aT aMw.outer;have bA:=(aJ w8.heap.size w8).alloc (aI _) (.cells #[.string o2,.slice za qs.length zc] 25);have C9:=(C7.below b8).below bA;have ky9:=aK w8 #[.string o2,.slice za qs.length zc] 25;have hz7:=aMw.has.below bA;have aMx:=aQe.out.1.zt.zl (by omega);have aMy:=hB.zt.zl (by omega);have ry:=aA ky9
 have rz:=aA C9.k
 have fz:=aF C9.k
 have ZY:=Nm.aD hz7;have XL:g<zb:=by omega
 clear hb yZ aMv BA hs7 aMw b8 bA C7 r7 aQe hz7
 by_cases hcz:c=0
 case' pos=>
  subst hcz;generalize o2=O at*;generalize qs=PS at*;generalize za=xa at*;generalize zc=xc at*;have HZL:=Nm.aD aMx;have kq:=aM (aM C9.k 0 (.string O)) 1 (.slice xa PS.length xc);simp only [List.setIfInBounds_toArray,List.set_cons_zero,List.set_cons_succ] at kq;have rq:=eU (c:=zb) (i:=1) (v:=.slice xa PS.length xc) (eU (c:=zb) (i:=0) (v:=.string O) C9.r (by omega)) (by omega);have dq:=(C9.d.set hbZ (.string O) (i:=0)).set hbZ (.slice xa PS.length xc) (i:=1);have zq:=lV.dS (x:=.slice xa PS.length xc) (i:=1) (lV.dS (x:=.string O) (i:=0) ZY.out C9.k (by decide) (by decide)) (aM C9.k 0 (.string O)) (by decide) (by decide);clear C9 ky9 ZY aMy aMx hlen aEn hzr Dk iQ iH iI hi
 case' neg=>
  have n9:(c==0)=false:=beq_eq_false_iff_ne.2 hcz
  have hO9:o.size<=2000:=by omega
  generalize o=O at*;generalize ps=PS at*;generalize va=xa at*;generalize vc=xc at*;have HZL:=Nm.aD aMy;have kq:=C9.k;have rq:=C9.r;have dq:=C9.d;have zq:=C9.z.has;clear C9 ky9 ZY aMy aMx aEn hzr Dk iQ iH iI hi hcz ry rz fz
 all_goals
  have HZ:=Nm.aD zq;have HK:=Nm.aD (aV kq rq);have HD:=Nm.aD dq;clear kq rq dq zq;go_wp2_with fail
  refine(aW g a n cap 4 _ HD.out.s (by decide)).mono ?_;rintro e wA ⟨q,rfl,IK,uB,hsA,hgA⟩;have zT:=uB (by decide);have DA:=HD.out.step hsA hgA;have kA:=aO HK.out.1 hgA (by intro e;simp at e;omega);have rA:=aO HK.out.2 hgA (by intro e;simp at e;omega);have ZA:=HZ.out.dr hgA DC;clear HZ HK HD hsA hgA uB
  by_cases p0:q=0
  ·subst p0;have ck:=aA kA
   have cr:=aA rA
   have fr:=aF rA
   have kE:=aM (aM rA 0 (.string O)) 1 (.slice xa PS.length xc);have DE:=(DA.set hbR (.string O) (i:=0)).set hbR (.slice xa PS.length xc) (i:=1);have zE:=lV.dS (x:=.slice xa PS.length xc) (i:=1) (lV.dS (x:=.string O) (i:=0) ZA rA (by decide) (by decide)) (aM rA 0 (.string O)) (by decide) (by decide);have rE:=aA kE
   have HE:=Nm.aD (aV zE DE);go_wp2;refine eB (v:=.tuple #[.agg #[.string O,.slice xa PS.length xc],.string deep]) ?_ rfl ?_
   rotate_left
   ·exact⟨_,_,_,_,rfl,by omega,by omega,HZL.out,HE.out.1.kp,HE.out.2⟩
   simp [results,Tryz.results36,go_sem,Result.andThen,rE]
  by_cases p1:q=1
  ·subst p1;go_wp2_with fail
   have hdw:Below wA.heap.size wA wA.drew:=(aJ _ _).drew;have bx:Below wA.heap.size wA (wA.alloc (.cells #[.string ⟨#[109,105,100]⟩] 9)).drew:=((aJ _ _).alloc (aI _) (.cells #[.string ⟨#[109,105,100]⟩] 9)).drew;have kd:=aB kA hdw;have kx:=aB kA bx;have rx:=aB rA bx;have Dx:=DA.below bx;have Zx:=ZA.below bx;have hlx:(wA.alloc (.cells #[.string ⟨#[109,105,100]⟩] 9)).drew.ownsRow wA.heap.size 9 1 (.slice (some ⟨wA.heap.size,0,none⟩) 1 1) 1 [.string ⟨#[109,105,100]⟩]:=own_below (aHb (W:=wA) ⟨#[109,105,100]⟩ rfl) (aJ _ _).drew;have FV:wA.drew.cell? ⟨zb,0,none⟩=some (.string O)∧wA.drew.cell? ⟨zb,1,none⟩=some (.slice xa PS.length xc):=⟨(aA kd 0).trans rfl,(aA kd 1).trans rfl⟩;have hSx:(wA.alloc (.cells #[.string ⟨#[109,105,100]⟩] 9)).drew.cell? ⟨zb,0,none⟩=some (.string O)∧(wA.alloc (.cells #[.string ⟨#[109,105,100]⟩] 9)).drew.cell? ⟨zb,1,none⟩=some (.slice xa PS.length xc):=⟨(aA kx 0).trans rfl,(aA kx 1).trans rfl⟩;have HSX:=Nm.aD hSx;have HX:=Nm.aD (aV rx (aV Dx (aV Zx kx)));have HLX:=Nm.aD hlx;clear hdw bx kd kA rA DA ZA hSx rx Dx Zx kx hlx;refine kR (fun X=>X.cell? ⟨zb,0,none⟩=some (.string O)∧X.cell? ⟨zb,1,none⟩=some (.slice xa PS.length xc)) 1000 FV fun aY=>?_;refine kB 0 rfl ?_;refine kB 2 rfl ?_;refine k1 1 rfl fun K hK=>?_
   go_simp;refine hK.out _ _ HSX.out fun aY=>?_;clear hK K;refine k1 3 rfl fun K hK=>?_
   go_simp;refine(Vw _ ⟨#[109,105,100]⟩ cut HLX.out (by decide) (by omega)).mono ?_;rintro e wB ⟨nm,rfl,zn,bB⟩;have h9:(⟨#[109,105,100]⟩:ByteArray).size<=3:=by decide
   have WJ:nm.size<=2000:=by omega
   clear h9;have rB:=aB HX.out.1 bB;have DB:=HX.out.2.1.below bB;have ZB9:=HX.out.2.2.1.below bB;have V9:=aB HX.out.2.2.2 bB;have hSB:wB.cell? ⟨zb,0,none⟩=some (.string O)∧wB.cell? ⟨zb,1,none⟩=some (.slice xa PS.length xc):=⟨(aA V9 0).trans rfl,(aA V9 1).trans rfl⟩;have kBs:=eU (c:=zb+1) (i:=1) (v:=.slice xa PS.length xc) (eU (c:=zb+1) (i:=0) (v:=.string O) V9 (by omega)) (by omega);have hSE:((wB.setCell ⟨zb+1,0,none⟩ (.string O)).setCell ⟨zb+1,1,none⟩ (.slice xa PS.length xc)).cell? ⟨zb,0,none⟩=some (.string O)∧((wB.setCell ⟨zb+1,0,none⟩ (.string O)).setCell ⟨zb+1,1,none⟩ (.slice xa PS.length xc)).cell? ⟨zb,1,none⟩=some (.slice xa PS.length xc):=⟨(aA kBs 0).trans rfl,(aA kBs 1).trans rfl⟩;have HSE:=Nm.aD hSE;have HSB:=Nm.aD hSB;have kE:=aM (aM rB 0 (.string O)) 1 (.slice xa PS.length xc);have DE:=(DB.set hbR (.string O) (i:=0)).set hbR (.slice xa PS.length xc) (i:=1);have ZE:=lV.dS (x:=.slice xa PS.length xc) (i:=1) (lV.dS (x:=.string O) (i:=0) ZB9 rB (by decide) (by decide)) (aM rB 0 (.string O)) (by decide) (by decide);have HDE:=Nm.aD (aV DE ZE);have HKE:=Nm.aD kE;have cR:=aA rB
   have fR:=aF rB
   clear hSE hSB kBs V9 DB ZB9 DE ZE kE HX HSX HLX zn bB FV aY;go_wp2_with fail
   refine hK.out _ _ HSB.out fun aY=>?_;clear hK K;refine k1 4 rfl fun K hK=>?_
   go_simp;refine hK.out _ _ HSE.out fun aY=>?_;clear hK K;refine kB 5 rfl ?_;refine kN ?_;clear aY cR fR
   try go_simp
   have rE:=aA HKE.out
   have HE:=Nm.aD (aV HDE.out.2 HDE.out.1);go_wp2;refine eB (v:=.tuple #[.agg #[.string O,.slice xa PS.length xc],.string nm]) ?_ rfl ?_
   rotate_left
   ·exact⟨_,_,_,_,rfl,by omega,by omega,HZL.out,HE.out.1.kp,HE.out.2⟩
   simp [results,Tryz.results36,go_sem,Result.andThen,rE]
  have n0:(q==0)=false:=beq_eq_false_iff_ne.2 p0
  have n1:(q==1)=false:=beq_eq_false_iff_ne.2 p1
  clear p0 p1;go_wp2_with fail
  have hdw:Below wA.heap.size wA wA.drew:=(aJ _ _).drew;have bx:Below wA.heap.size wA (wA.alloc (.cells #[.string ⟨#[120]⟩] 9)).drew:=((aJ _ _).alloc (aI _) (.cells #[.string ⟨#[120]⟩] 9)).drew;have kd:=aB kA hdw;have kx:=aB kA bx;have rx:=aB rA bx;have Dx:=DA.below bx;have Zx:=ZA.below bx;have hlx:(wA.alloc (.cells #[.string ⟨#[120]⟩] 9)).drew.ownsRow wA.heap.size 9 1 (.slice (some ⟨wA.heap.size,0,none⟩) 1 1) 1 [.string ⟨#[120]⟩]:=own_below (aHb (W:=wA) ⟨#[120]⟩ rfl) (aJ _ _).drew;have FV:wA.drew.cell? ⟨zb,0,none⟩=some (.string O)∧wA.drew.cell? ⟨zb,1,none⟩=some (.slice xa PS.length xc):=⟨(aA kd 0).trans rfl,(aA kd 1).trans rfl⟩;have hSx:(wA.alloc (.cells #[.string ⟨#[120]⟩] 9)).drew.cell? ⟨zb,0,none⟩=some (.string O)∧(wA.alloc (.cells #[.string ⟨#[120]⟩] 9)).drew.cell? ⟨zb,1,none⟩=some (.slice xa PS.length xc):=⟨(aA kx 0).trans rfl,(aA kx 1).trans rfl⟩;have HSX:=Nm.aD hSx;have HX:=Nm.aD (aV rx (aV Dx (aV Zx kx)));have HLX:=Nm.aD hlx;clear hdw bx kd kA rA DA ZA hSx rx Dx Zx kx hlx;refine kR (fun X=>X.cell? ⟨zb,0,none⟩=some (.string O)∧X.cell? ⟨zb,1,none⟩=some (.slice xa PS.length xc)) 1000 FV fun aY=>?_;refine kB 0 rfl ?_;refine kB 2 rfl ?_;refine k1 1 rfl fun K hK=>?_
  go_simp;refine hK.out _ _ HSX.out fun aY=>?_;clear hK K;refine k1 3 rfl fun K hK=>?_
  go_simp;refine(Vw _ ⟨#[120]⟩ deep HLX.out (by decide) (by omega)).mono ?_;rintro e wB ⟨nm,rfl,zn,bB⟩;have h9:(⟨#[120]⟩:ByteArray).size<=3:=by decide
  have WJ:nm.size<=2000:=by omega
  clear h9;have rB:=aB HX.out.1 bB;have DB:=HX.out.2.1.below bB;have ZB9:=HX.out.2.2.1.below bB;have V9:=aB HX.out.2.2.2 bB;have hSB:wB.cell? ⟨zb,0,none⟩=some (.string O)∧wB.cell? ⟨zb,1,none⟩=some (.slice xa PS.length xc):=⟨(aA V9 0).trans rfl,(aA V9 1).trans rfl⟩;have kBs:=eU (c:=zb+1) (i:=1) (v:=.slice xa PS.length xc) (eU (c:=zb+1) (i:=0) (v:=.string O) V9 (by omega)) (by omega);have hSE:((wB.setCell ⟨zb+1,0,none⟩ (.string O)).setCell ⟨zb+1,1,none⟩ (.slice xa PS.length xc)).cell? ⟨zb,0,none⟩=some (.string O)∧((wB.setCell ⟨zb+1,0,none⟩ (.string O)).setCell ⟨zb+1,1,none⟩ (.slice xa PS.length xc)).cell? ⟨zb,1,none⟩=some (.slice xa PS.length xc):=⟨(aA kBs 0).trans rfl,(aA kBs 1).trans rfl⟩;have HSE:=Nm.aD hSE;have HSB:=Nm.aD hSB;have kE:=aM (aM rB 0 (.string O)) 1 (.slice xa PS.length xc);have DE:=(DB.set hbR (.string O) (i:=0)).set hbR (.slice xa PS.length xc) (i:=1);have ZE:=lV.dS (x:=.slice xa PS.length xc) (i:=1) (lV.dS (x:=.string O) (i:=0) ZB9 rB (by decide) (by decide)) (aM rB 0 (.string O)) (by decide) (by decide);have HDE:=Nm.aD (aV DE ZE);have HKE:=Nm.aD kE;have cR:=aA rB
  have fR:=aF rB
  clear hSE hSB kBs V9 DB ZB9 DE ZE kE HX HSX HLX zn bB FV aY;go_wp2_with fail
  refine hK.out _ _ HSB.out fun aY=>?_;clear hK K;refine k1 4 rfl fun K hK=>?_
  go_simp;refine hK.out _ _ HSE.out fun aY=>?_;clear hK K;refine kB 5 rfl ?_;refine kN ?_;clear aY cR fR
  try go_simp
  have rE:=aA HKE.out
  have HE:=Nm.aD (aV HDE.out.2 HDE.out.1);go_wp2;refine eB (v:=.tuple #[.agg #[.string O,.slice xa PS.length xc],.string nm]) ?_ rfl ?_
  rotate_left
  ·exact⟨_,_,_,_,rfl,by omega,by omega,HZL.out,HE.out.1.kp,HE.out.2⟩
  simp [results,Tryz.results36,go_sem,Result.andThen,rE]
