import Derived.Test.YthdpacepbbcocaaGreatAdZ
import Derived.Test.YthdpacepbbcocaaGreatDwG
set_option linter.unusedVariables false
set_option maxRecDepth 100000
set_option maxHeartbeats 6400000
namespace Go.Proofs.YthdpacepbbcocaaGreat
open Go.RowKit
def ZGr(w:World)(g:Nat)(v:Value)(ps:List Zp):Prop:=∀ W,w.grownBy W (some g)->gI W v ps
theorem ZGr.step{w w1:World}{g:Nat}{v:Value}{ps:List Zp}(h:ZGr w g v ps)(hg:w.grownBy w1 (some g)):ZGr w1 g v ps:=fun W hW=>h W (aZ hg hW)
theorem ZGr.row{w:World}{g:Nat}{v:Value}{ps:List Zp}(h:ZGr w g v ps):gI w v ps:=h w (World.grownBy.refl _ _)
theorem dH.gr{w:World}{B g:Nat}{v:Value}{ps:List Zp}(h:dH w B v ps)(hl:g<B):ZGr w g v ps:=fun W hW=>(h.dr hW hl).BQ
theorem aIu{ps:List Zp}{o:ByteArray}(hz:pI ps o=true):0<(aD ps).length:=by
 have h1:=aBa (oC hz).1
 cases h:aD ps with
 |nil=>rw [h] at h1;exact absurd h1 (by decide)
 |cons x xs=>simp
theorem aBg(a:Int):∃ sn:Nat,PK a=(sn:Int)∧sn<=4294967295:=by
 unfold PK;split
 ·rename_i h;simp only [Bool.and_eq_true,decide_eq_true_eq] at h;split
  ·exact⟨1,rfl,by decide⟩
  obtain⟨k,rfl⟩:=Int.eq_ofNat_of_zero_le h.1;exact⟨k+1,rfl,by omega⟩
 exact⟨0,rfl,by decide⟩
theorem Jb{o b:ByteArray}(ho:o.size<=20)(hb:b.size<=20):(DX o b).size<=3200:=by
 rw [DX,jV,jV,sG,sG,show Nm.dP [(⟨#[110,115,49]⟩:ByteArray)]=4 from rfl,show Nm.dP [(⟨#[97,100,109,105,110]⟩:ByteArray)]=6 from rfl];omega
def ChP(w:World)(g:Nat)(a:Option Addr)(n cap:Nat)(e:Ending)(w':World):Prop:=∃ r:Rr,e=.returned (.agg #[.string r.own,.int .i64 r.ty,.int .i64 r.cl,.int .i64 r.tt,.string r.da])∧ZR r∧Src w' g a n cap∧w.grownBy w' (some g)
structure Ch (w:World) (g:Nat) (a:Option Addr) (n cap:Nat) (o:ByteArray) (v:Value) (rb:Nat) (r:Array Value) (W:World):Prop where
 z:bG W w.heap.size #[.string o,v] 25
 q:bG W (w.heap.size+1) #[.string ByteArray.empty,.int .i64 0,.int .i64 0,.int .i64 0,.string ByteArray.empty] 29
 k:bG W rb r 29
 d:Dr w g a n cap W
section
variable {w W W1:World}{g n cap rb:Nat}{a:Option Addr}{o:ByteArray}{v:Value}{r:Array Value}
theorem Ch.step(h:Ch w g a n cap o v rb r W)(hb:w.heap.size+1<rb)(hs:Src W1 g a n cap)(hg:W.grownBy W1 (some g)):Ch w g a n cap o v rb r W1:=by
 have:=h.d.lt;exact⟨aP h.z hg (fun e=>by have:=gQ e;omega),aP h.q hg (fun e=>by have:=gQ e;omega),aP h.k hg (fun e=>by have:=gQ e;omega),h.d.step hs hg⟩
theorem Ch.below(h:Ch w g a n cap o v rb r W)(hb:Below W.heap.size W W1):Ch w g a n cap o v rb r W1:=⟨aB h.z hb,aB h.q hb,aB h.k hb,h.d.below hb⟩
theorem Ch.put(h:Ch w g a n cap o v rb r W)(hb:w.heap.size+1<rb)(i:Nat)(x:Value):Ch w g a n cap o v rb (r.setIfInBounds i x) (W.setCell ⟨rb,i,none⟩ x):=
 ⟨aW h.z (by omega),aW h.q (by omega),aI h.k i x,h.d.set (by omega) x⟩
theorem Ch.put5(h:Ch w g a n cap o v rb r W)(hb:w.heap.size+1<rb)(hr:r.size=5)(x0 x1 x2 x3 x4:Value):Ch w g a n cap o v rb #[x0,x1,x2,x3,x4] (cO W rb 0 [x0,x1,x2,x3,x4]):=by
 have h5:=((((h.put hb 0 x0).put hb 1 x1).put hb 2 x2).put hb 3 x3).put hb 4 x4;exact⟨h5.z,h5.q,dJ [x0,x1,x2,x3,x4] h.k hr,h5.d⟩
theorem Ch.fin(h:Ch w g a n cap o v rb r W)(hb:w.heap.size+1<rb)(x0 x1 x2 x3 x4:Value):bG (cO W (w.heap.size+1) 0 [x0,x1,x2,x3,x4]) (w.heap.size+1) #[x0,x1,x2,x3,x4] 29∧Dr w g a n cap (cO W (w.heap.size+1) 0 [x0,x1,x2,x3,x4])∧bG (cO W (w.heap.size+1) 0 [x0,x1,x2,x3,x4]) rb r 29∧bG (cO W (w.heap.size+1) 0 [x0,x1,x2,x3,x4]) w.heap.size #[.string o,v] 25:=
 ⟨dJ [x0,x1,x2,x3,x4] h.q rfl,((((h.d.set (Nat.le_succ _) x0).set (Nat.le_succ _) x1).set (Nat.le_succ _) x2).set (Nat.le_succ _) x3).set (Nat.le_succ _) x4,sW (by omega) [x0,x1,x2,x3,x4] 0 W h.k,sW (by omega) [x0,x1,x2,x3,x4] 0 W h.z⟩
end
theorem Ca(g:Nat)(a:Option Addr)(n cap:Nat)(o:ByteArray)(v:Value)(ps:List Zp)(N:Nat)(w:World)(hs:Src w g a n cap)(h:ZGr w g v ps)(hB:ZB ps N)(hN:N<=200)(hz:pI ps o=true)(CR:1<=o.size)(ho:o.size<=20):
 Calls Tryz.prog 90 #[.pointer (some ⟨g,0,none⟩),.agg #[.string o,v]] w (ChP w g a n cap):=by
 obtain⟨va,vc,rfl⟩:=iV h.row;have hlen:=YU hB;have aO4:=aIu hz;have HZR:=Nm.aF (Ir hB);have HZC:=Nm.aF (fun W (hW:w.grownBy W (some g))=>jE o (.slice va ps.length vc) ps W (h W hW) (hB.sum (by omega)) (hB.Bu (by omega)));have HS1:=Nm.aF (fun W (hW:w.grownBy W (some g))=>lZ o (.slice va ps.length vc) ps W (h W hW) (hB.Bu (by omega)) (hB.fit (by omega)) (by unfold maxLen;omega) hz);generalize CS (eX ps)=SD at*;have kz:=aR (aH w #[.string o,.slice va ps.length vc] 25) (.cells #[.string ByteArray.empty,.int .i64 0,.int .i64 0,.int .i64 0,.string ByteArray.empty] 29);have kq:=aH (w.alloc (.cells #[.string o,.slice va ps.length vc] 25)) #[.string ByteArray.empty,.int .i64 0,.int .i64 0,.int .i64 0,.string ByteArray.empty] 29;rw [fV] at kq;have D0:=((Dr.start hs).alloc (.cells #[.string o,.slice va ps.length vc] 25)).alloc (.cells #[.string ByteArray.empty,.int .i64 0,.int .i64 0,.int .i64 0,.string ByteArray.empty] 29);have r0:=fun i=>aA kz i
 have hzc:=HZC.out _ D0.gr;have ZJ:=D0.lt;generalize aD ps=xs at*;clear h hB hz hs HZC;go_enter Tryz.func90,Tryz.ntmps90;go_wp2_with fail
 refine hzc.mono ?_;rintro e w1 ⟨u,rfl,mF,b1⟩;obtain⟨ua,uc,rfl⟩:=aT mF;have D1:=D0.below b1;have uC:=aB kz b1;have kq1:=aB kq b1;have aOh:=fQ (B':=w.heap.size+1+1) mF (by simp);clear D0 kz kq r0 hzc mF b1;go_wp2_with fail
 refine(aY g a n cap (xs.length:Int) _ D1.s (by omega)).mono ?_;rintro e w2 ⟨j,rfl,j0,j1,oI,oN⟩;obtain⟨j,rfl⟩:=Int.eq_ofNat_of_zero_le j0;have j2:(j:Int)<(xs.length:Int):=j1 (by omega);have D2:=D1.step oI oN;have sV:=aP uC oN (fun e=>by have:=gQ e;omega);have kq2:=aP kq1 oN (fun e=>by have:=gQ e;omega);have Nw:w2.ownsRow (w.heap.size+1+1) 29 5 (.slice ua xs.length uc) xs.length (bK xs):=aOh.kept oN (.inr (fun e=>by have:=(aOh.lt g e).1;omega));clear D1 uC kq1 aOh oI oN j1;obtain⟨x,hx⟩:∃ x,xs[j]? =some x:=⟨_,bY (by omega)⟩;have Jf:=HZR.out x (bP hx);obtain⟨_,ya,yc,hyv,aAw,aKc,hyc⟩:=bS.aS Nw;simp only [iG] at hyv;obtain⟨rfl,-,rfl⟩:=hyv;obtain⟨b,off,rfl,aL⟩:=hyc (by omega);obtain⟨c0,c1,c2,c3,c4⟩:=gT aL hx;obtain⟨ro,rt,rc,ru,rd⟩:=x;obtain⟨rH,uR⟩:=Jf;simp only at c0 c1 c2 c3 c4 rH uR
 have DU:w.heap.size+1<w2.heap.size:=bU kq2
 have H2:Ch w g a n cap o (.slice va ps.length vc) w2.heap.size #[.string ro,.int .i64 rt,.int .i64 rc,.int .i64 ru,.string rd] (w2.alloc (.cells #[.string ro,.int .i64 rt,.int .i64 rc,.int .i64 ru,.string rd] 29)):=
  ⟨aR sV _,aR kq2 _,aH w2 _ _,D2.alloc _⟩
 clear aL hyc hx Nw D2 sV kq2 aO4 hlen HZR;go_wp2_with fail
 obtain⟨rb,hrb⟩:∃ rb,rb=w2.heap.size:=⟨_,rfl⟩;rw [<- hrb] at H2 DU ⊢;clear hrb;refine(aY g a n cap 9 _ H2.d.s (by decide)).mono ?_;rintro e w3 ⟨q,rfl,q0,q1,qD,iA⟩;have q2:=q1 (by decide);have H3:=H2.step DU qD iA;clear H2 qD iA q1 c0 c1 c2 c3 c4
 rcases(by omega:(q=0∨q=1)∨q=2∨q=3∨q=4∨q=5∨(q=6∨q=7∨q=8)) with hq|rfl|rfl|rfl|rfl|hq
 ·have H4:=(H3.put DU 2 (.int .i64 254)).put DU 3 (.int .i64 0);simp only [List.setIfInBounds_toArray,List.set_cons_zero,List.set_cons_succ] at H4;have k3:=fun i=>aA H3.k i
  have g3:=fun i=>aG H3.k i
  rcases hq with rfl|rfl
  all_goals have HE0:=H4
            have ZJ:=HE0.d.lt;have q9:=fun i=>aA HE0.q i
            have f9:=fun i=>aG HE0.q i
            have k9:=fun i=>aA HE0.k i
            have HF:=HE0.fin DU (.string ro) (.int .i64 rt) (.int .i64 254) (.int .i64 0) (.string rd);simp only [cO,Nat.reduceAdd,Nat.zero_add] at HF;obtain⟨kE,dE,-,-⟩:=HF;have rE:=fun i=>aA kE i
            have HE:=Nm.aF dE;clear kE dE HE0;go_wp2;refine gD (v:=.agg #[.string ro,.int .i64 rt,.int .i64 254,.int .i64 0,.string rd]) ?_ rfl ?_
            rotate_left
            ·exact⟨⟨ro,rt,254,0,rd⟩,rfl,(⟨rH,uR⟩:ZR _),HE.out.s,HE.out.gr⟩
            simp [results,Tryz.results90,go_sem,Result.andThen,rE]
 ·have HD:=H3.below (aK _ w3).drew;clear H3;go_wp2_with fail
  refine kR (fun X=>bG X rb #[.string ro,.int .i64 rt,.int .i64 rc,.int .i64 ru,.string rd] 29) 1000 HD.k fun aO=>?_;refine kO 0 rfl ?_;refine kO 1 rfl ?_;refine kO 2 rfl ?_;refine kO 4 rfl ?_;refine kO 5 rfl ?_;refine k1 3 rfl fun K hK=>?_
  go_simp;refine(yR g a n cap ro _ HD.d.s (by unfold maxLen;omega)).mono ?_;rintro e w4 ⟨s,rfl,pQ,VX,QY⟩;have H4:=HD.step DU VX QY;have wM:s.size<=1000:=by omega
  clear HD VX QY;go_wp2_with fail
  refine hK.out _ _ H4.k fun aO=>?_;clear hK K;refine kO 6 rfl ?_;have HE0:=H4;have ZJ:=HE0.d.lt;have q9:=fun i=>aA HE0.q i
  have f9:=fun i=>aG HE0.q i
  have HF:=HE0.fin DU (.string s) (.int .i64 rt) (.int .i64 255) (.int .i64 0) (.string ⟨#[]⟩);simp only [cO,Nat.reduceAdd,Nat.zero_add] at HF;obtain⟨kE,dE,kS,-⟩:=HF;have rE:=fun i=>aA kE i
  have HE:=Nm.aF dE;have HKS:=Nm.aF kS;clear kE dE HE0 kS;refine k1 7 rfl fun K hK=>?_
  go_simp;refine hK.out _ _ HKS.out fun aO=>?_;clear hK K;refine kN ?_
  try go_simp
  go_wp2;refine gD (v:=.agg #[.string s,.int .i64 rt,.int .i64 255,.int .i64 0,.string ⟨#[]⟩]) ?_ rfl ?_
  rotate_left
  ·exact⟨⟨s,rt,255,0,⟨#[]⟩⟩,rfl,(⟨wM,dO _⟩:ZR _),HE.out.s,HE.out.gr⟩
  simp [results,Tryz.results90,go_sem,Result.andThen,rE]
 ·have HE0:=H3;have ZJ:=HE0.d.lt;have q9:=fun i=>aA HE0.q i
  have f9:=fun i=>aG HE0.q i
  have k9:=fun i=>aA HE0.k i
  have HF:=HE0.fin DU (.string ro) (.int .i64 255) (.int .i64 255) (.int .i64 0) (.string ⟨#[]⟩);simp only [cO,Nat.reduceAdd,Nat.zero_add] at HF;obtain⟨kE,dE,-,-⟩:=HF;have rE:=fun i=>aA kE i
  have HE:=Nm.aF dE;clear kE dE HE0;go_wp2;refine gD (v:=.agg #[.string ro,.int .i64 255,.int .i64 255,.int .i64 0,.string ⟨#[]⟩]) ?_ rfl ?_
  rotate_left
  ·exact⟨⟨ro,255,255,0,⟨#[]⟩⟩,rfl,(⟨rH,dO _⟩:ZR _),HE.out.s,HE.out.gr⟩
  simp [results,Tryz.results90,go_sem,Result.andThen,rE]
 ·have z3:=fun i=>aA H3.z i
  have nJ:=HS1.out _ H3.d.gr;go_wp2_with fail
  refine nJ.mono ?_;rintro e w4 ⟨rfl,b4⟩;have H4:=H3.below b4;clear H3 z3 nJ b4 HS1;go_wp2_with fail
  refine(qM SD w4).mono ?_;rintro e w5 ⟨rfl,rfl⟩;obtain⟨sn,ZF,aOi⟩:∃ sn:Nat,PK SD=(sn:Int)∧sn<=4294967295:=aBg SD;rw [ZF];clear ZF;go_wp2_with fail
  refine(aY g a n cap 3 _ H4.d.s (by decide)).mono ?_;rintro e w6 ⟨p,rfl,-,-,hs6,Sq⟩;have H6:=H4.step DU hs6 Sq;clear H4 hs6 Sq
  by_cases hp:p=0
  ·subst hp;go_wp2_with fail
   refine(aY g a n cap 2147483648 _ H6.d.s (by decide)).mono ?_;rintro e w7 ⟨y,rfl,y0,y1,hs7,hg7⟩;have y2:=y1 (by decide);obtain⟨y,rfl⟩:=Int.eq_ofNat_of_zero_le y0;have H7:=H6.step DU hs7 hg7;have hy:y<=4294967295:=by omega
   clear H6 hs7 hg7 y0 y1 y2 aOi;have HD:=(H7).below (aK _ _).drew;go_wp2_with fail
   refine kR (fun X=>bG X w.heap.size #[.string o,.slice va ps.length vc] 25) 1000 HD.z fun aO=>?_;refine kO 0 rfl ?_;refine kO 1 rfl ?_;refine kO 2 rfl ?_;refine kO 3 rfl ?_;refine k1 4 rfl fun K hK=>?_
   go_simp;refine(aY g a n cap 5000 _ HD.d.s (by decide)).mono ?_;rintro e w8 ⟨l8,rfl,l0,l1,hs8,Jm⟩;have l2:=l1 (by decide);obtain⟨l8,rfl⟩:=Int.eq_ofNat_of_zero_le l0;have H8:=HD.step DU hs8 Jm;clear HD hs8 Jm l0 l1;go_wp2_with fail
   refine hK.out _ _ H8.z fun aO=>?_;clear hK K;refine k1 5 rfl fun K hK=>?_
   go_simp;refine(BZ o y l8 3600 _ (by omega) (by have:=hy;omega) (by omega)).mono ?_;rintro e w9 ⟨b9,rfl,tF,b10⟩;have H9:=H8.below b10;have hd:=Jb (b:=b9) ho (by omega);generalize DX o b9=d9 at*;clear H8 b10;go_wp2_with fail
   refine hK.out _ _ H9.z fun aO=>?_;clear hK K;have HE0:=H9;have ZJ:=HE0.d.lt;have q9:=fun i=>aA HE0.q i
   have f9:=fun i=>aG HE0.q i
   have HF:=HE0.fin DU (.string o) (.int .i64 6) (.int .i64 1) (.int .i64 3600) (.string d9);simp only [cO,Nat.reduceAdd,Nat.zero_add] at HF;obtain⟨kE,dE,-,kS⟩:=HF;have rE:=fun i=>aA kE i
   have HE:=Nm.aF dE;have HKS:=Nm.aF kS;clear kE dE HE0 kS;refine k1 6 rfl fun K hK=>?_
   go_simp;refine hK.out _ _ HKS.out fun aO=>?_;clear hK K;refine kN ?_
   try go_simp
   go_wp2;refine gD (v:=.agg #[.string o,.int .i64 6,.int .i64 1,.int .i64 3600,.string d9]) ?_ rfl ?_
   rotate_left
   ·exact⟨⟨o,6,1,3600,d9⟩,rfl,(⟨by show o.size<=1000;omega,hd⟩:ZR _),HE.out.s,HE.out.gr⟩
   simp [results,Tryz.results90,go_sem,Result.andThen,rE]
  have np:(p==0)=false:=by rw [dC];exact hp
  clear hp;have HD:=(H6).below (aK _ _).drew;go_wp2_with fail
  refine kR (fun X=>bG X w.heap.size #[.string o,.slice va ps.length vc] 25) 1000 HD.z fun aO=>?_;refine kO 0 rfl ?_;refine kO 1 rfl ?_;refine kO 2 rfl ?_;refine kO 3 rfl ?_;refine k1 4 rfl fun K hK=>?_
  go_simp;refine(aY g a n cap 5000 _ HD.d.s (by decide)).mono ?_;rintro e w8 ⟨l8,rfl,l0,l1,hs8,Jm⟩;have l2:=l1 (by decide);obtain⟨l8,rfl⟩:=Int.eq_ofNat_of_zero_le l0;have H8:=HD.step DU hs8 Jm;clear HD hs8 Jm l0 l1;go_wp2_with fail
  refine hK.out _ _ H8.z fun aO=>?_;clear hK K;refine k1 5 rfl fun K hK=>?_
  go_simp;refine(BZ o sn l8 3600 _ (by omega) (by have:=aOi;omega) (by omega)).mono ?_;rintro e w9 ⟨b9,rfl,tF,b10⟩;have H9:=H8.below b10;have hd:=Jb (b:=b9) ho (by omega);generalize DX o b9=d9 at*;clear H8 b10;go_wp2_with fail
  refine hK.out _ _ H9.z fun aO=>?_;clear hK K;have HE0:=H9;have ZJ:=HE0.d.lt;have q9:=fun i=>aA HE0.q i
  have f9:=fun i=>aG HE0.q i
  have HF:=HE0.fin DU (.string o) (.int .i64 6) (.int .i64 1) (.int .i64 3600) (.string d9);simp only [cO,Nat.reduceAdd,Nat.zero_add] at HF;obtain⟨kE,dE,-,kS⟩:=HF;have rE:=fun i=>aA kE i
  have HE:=Nm.aF dE;have HKS:=Nm.aF kS;clear kE dE HE0 kS;refine k1 6 rfl fun K hK=>?_
  go_simp;refine hK.out _ _ HKS.out fun aO=>?_;clear hK K;refine kN ?_
  try go_simp
  go_wp2;refine gD (v:=.agg #[.string o,.int .i64 6,.int .i64 1,.int .i64 3600,.string d9]) ?_ rfl ?_
  rotate_left
  ·exact⟨⟨o,6,1,3600,d9⟩,rfl,(⟨by show o.size<=1000;omega,hd⟩:ZR _),HE.out.s,HE.out.gr⟩
  simp [results,Tryz.results90,go_sem,Result.andThen,rE]
 ·go_wp2_with fail
  refine(aY g a n cap 5000 _ H3.d.s (by decide)).mono ?_;rintro e w4 ⟨t4,rfl,-,-,VX,QY⟩;have H4:=H3.step DU VX QY;have H5:=H4.put DU 3 (.int .i64 t4);simp only [List.setIfInBounds_toArray,List.set_cons_zero,List.set_cons_succ] at H5;have k4:=fun i=>aA H4.k i
  have g4:=fun i=>aG H4.k i
  clear H3 VX QY;have HE0:=H5;have ZJ:=HE0.d.lt;have q9:=fun i=>aA HE0.q i
  have f9:=fun i=>aG HE0.q i
  have k9:=fun i=>aA HE0.k i
  have HF:=HE0.fin DU (.string ro) (.int .i64 rt) (.int .i64 rc) (.int .i64 t4) (.string rd);simp only [cO,Nat.reduceAdd,Nat.zero_add] at HF;obtain⟨kE,dE,-,-⟩:=HF;have rE:=fun i=>aA kE i
  have HE:=Nm.aF dE;clear kE dE HE0;go_wp2;refine gD (v:=.agg #[.string ro,.int .i64 rt,.int .i64 rc,.int .i64 t4,.string rd]) ?_ rfl ?_
  rotate_left
  ·exact⟨⟨ro,rt,rc,t4,rd⟩,rfl,(⟨rH,uR⟩:ZR _),HE.out.s,HE.out.gr⟩
  simp [results,Tryz.results90,go_sem,Result.andThen,rE]
 have z3:=fun i=>aA (aR H3.z (.cells #[] 29)) i
 have iA:=H3.d.gr
 have L3:Dl w3 g a n cap (.slice (some ⟨w3.heap.size,0,none⟩) 0 0) [] (w3.alloc (.cells #[] 29)):=
  ⟨(Dr.start H3.d.s).alloc _,World.ownsRow_lit (base:=w3.heap.size) (e:=29) (size:=5) w3 #[] 0 (aN _) (by decide) rfl,by intro r hr;cases hr⟩
 have HQ:Hid (∀ W,w3.grownBy W (some g)->Src W g a n cap->Ch w g a n cap o (.slice va ps.length vc) rb #[.string ro,.int .i64 rt,.int .i64 rc,.int .i64 ru,.string rd] W):=fun W hW hS=>H3.step DU hS hW
 have hpt:=SC _ [] o _ L3 (by simp) CR (by omega)
 rcases hq with rfl|rfl|rfl
 all_goals
  go_wp2_with fail
  refine hpt.mono ?_;rintro e w4 ⟨u4,ys,rfl,⟨-,hyl⟩,L4⟩;obtain⟨ya4,yc4,rfl⟩:=aT L4.r;have hyl2:ys.length<=3:=by simpa using hyl
  have H4:=HQ.out w4 L4.d.gr L4.d.s;clear hpt L3 z3 hyl H3
  by_cases hy0:ys.length=0
  ·have ny:¬(0:Int)<(ys.length:Int):=by omega
   have HE0:=H4;have ZJ:=HE0.d.lt;have q9:=fun i=>aA HE0.q i
   have f9:=fun i=>aG HE0.q i
   have k9:=fun i=>aA HE0.k i
   have HF:=HE0.fin DU (.string ro) (.int .i64 rt) (.int .i64 rc) (.int .i64 ru) (.string rd);simp only [cO,Nat.reduceAdd,Nat.zero_add] at HF;obtain⟨kE,dE,-,-⟩:=HF;have rE:=fun i=>aA kE i
   have HE:=Nm.aF dE;clear kE dE HE0;go_wp2;refine gD (v:=.agg #[.string ro,.int .i64 rt,.int .i64 rc,.int .i64 ru,.string rd]) ?_ rfl ?_
   rotate_left
   ·exact⟨⟨ro,rt,rc,ru,rd⟩,rfl,(⟨rH,uR⟩:ZR _),HE.out.s,HE.out.gr⟩
   simp [results,Tryz.results90,go_sem,Result.andThen,rE]
  have ny:(0:Int)<(ys.length:Int):=by omega
  go_wp2_with fail
  refine(aY g a n cap (ys.length:Int) _ H4.d.s (by omega)).mono ?_;rintro e w5 ⟨j5,rfl,m0,m1,WP,PI⟩;obtain⟨j5,rfl⟩:=Int.eq_ofNat_of_zero_le m0;have m2:(j5:Int)<(ys.length:Int):=m1 ny;have L5:=L4.step WP PI;have H5:=H4.step DU WP PI;clear L4 H4 WP PI m1;obtain⟨y,hy⟩:∃ y,ys[j5]? =some y:=⟨_,bY (by omega)⟩;have Lu:=L5.z y (bP hy);obtain⟨_,ya5,yc5,aSf,hycap5,hymx5,aSg⟩:=bS.aS L5.r;simp only [iG] at aSf;obtain⟨rfl,-,rfl⟩:=aSf;obtain⟨b5,off5,rfl,aIv⟩:=aSg (by omega);obtain⟨c0,c1,c2,c3,c4⟩:=gT aIv hy;obtain⟨yo,yt,yc,yu,yd⟩:=y;obtain⟨Qo,hy2⟩:=Lu;simp only at c0 c1 c2 c3 c4 Qo hy2
  have H6:=H5.put5 DU rfl (.string yo) (.int .i64 yt) (.int .i64 yc) (.int .i64 yu) (.string yd);simp only [cO,Nat.reduceAdd,Nat.zero_add] at H6;have k5:=fun i=>aA H5.k i
  have g5:=fun i=>aG H5.k i
  clear aIv aSg hy L5 H5 HQ;go_wp2_with fail
  refine(aY g a n cap 5 _ H6.d.s (by decide)).mono ?_;rintro e w7 ⟨t7,rfl,t70,t71,hs7,hg7⟩;have t72:=t71 (by decide);have H7:=H6.step DU hs7 hg7;have H8:=H7.put DU 3 (.int .i64 (1000*t7));simp only [List.setIfInBounds_toArray,List.set_cons_zero,List.set_cons_succ] at H8;have k7:=fun i=>aA H7.k i
  have g7:=fun i=>aG H7.k i
  have hw7:IntKind.i64.wrap (1000*t7)=1000*t7:=Go.wrap_small _ (by omega) (by omega);clear H6 hs7 hg7 t71 c0 c1 c2 c3 c4 k5 g5;have HE0:=H8;have ZJ:=HE0.d.lt;have q9:=fun i=>aA HE0.q i
  have f9:=fun i=>aG HE0.q i
  have k9:=fun i=>aA HE0.k i
  have HF:=HE0.fin DU (.string yo) (.int .i64 yt) (.int .i64 yc) (.int .i64 (1000*t7)) (.string yd);simp only [cO,Nat.reduceAdd,Nat.zero_add] at HF;obtain⟨kE,dE,-,-⟩:=HF;have rE:=fun i=>aA kE i
  have HE:=Nm.aF dE;clear kE dE HE0;go_wp2;refine gD (v:=.agg #[.string yo,.int .i64 yt,.int .i64 yc,.int .i64 (1000*t7),.string yd]) ?_ rfl ?_
  rotate_left
  ·exact⟨⟨yo,yt,yc,(1000*t7),yd⟩,rfl,(⟨Qo,hy2⟩:ZR _),HE.out.s,HE.out.gr⟩
  simp [results,Tryz.results90,go_sem,Result.andThen,rE]
def DlP(w:World)(g:Nat)(a:Option Addr)(n cap:Nat)(e:Ending)(w':World):Prop:=∃ (u:Value) (L:List Rr),e=.returned u∧L.length<=4∧Hid (∀ r∈L,ZR r)∧w'.ownsRow w.heap.size 29 5 u L.length (bK L)∧Src w' g a n cap∧w.grownBy w' (some g)
theorem TN(g:Nat)(a:Option Addr)(n cap:Nat)(o:ByteArray)(v:Value)(ps:List Zp)(N:Nat)(w:World)(hs:Src w g a n cap)(h:ZGr w g v ps)(hB:ZB ps N)(hN:N<=200)(hz:pI ps o=true)(CR:1<=o.size)(ho:o.size<=20):
 Calls Tryz.prog 51 #[.pointer (some ⟨g,0,none⟩),.agg #[.string o,v],.int .i64 4] w (DlP w g a n cap):=by
 obtain⟨i0,hi,iJ,fP,fZ⟩:=info_parts Tryz.GM;obtain⟨va,vc,rfl⟩:=iV h.row;have HCH:=Nm.aF (fun W (hS:Src W g a n cap) (hW:w.grownBy W (some g))=>Ca g a n cap o (.slice va ps.length vc) ps N W hS (h.step hW) hB hN hz CR ho);have D0:=(Dr.start hs).alloc (.cells #[.string o,.slice va ps.length vc] 25);have k0:=aH w #[.string o,.slice va ps.length vc] 25;have ZJ:=D0.lt;have o1:=World.ownsRow_lit (base:=w.heap.size) (e:=29) (size:=5) (w.alloc (.cells #[.string o,.slice va ps.length vc] 25)) #[] 0 (by simp) (by decide) rfl;have D1:=D0.alloc (.cells #[] 29);have k1:=aR k0 (.cells #[] 29);clear D0 k0 h hs hB hz;go_enter Tryz.func51,Tryz.ntmps51;go_wp2_with fail
 refine(aY g a n cap 5 _ D1.s (by decide)).mono ?_;rintro e w2 ⟨nn,rfl,n0,n1,oI,oN⟩;obtain⟨nn,rfl⟩:=Int.eq_ofNat_of_zero_le n0;have n2:(nn:Int)<5:=n1 (by decide);have D2:=D1.step oI oN;have o2:=D1.keep o1 oN;have k2:=aP k1 oN (fun e=>by have:=gQ e;omega);rw [fV] at o2;clear D1 o1 k1 oI oN n1 n0;go_wp2_with fail
 go_loopw [7,9] (fun lv iv wr=>∃ (j:Nat) (L:List Rr),j<=nn∧iv=.int .i64 (j:Int)∧L.length<=j∧Hid (∀ r∈L,ZR r)∧wr.ownsRow w.heap.size 29 5 lv L.length (bK L)∧bG wr w.heap.size #[.string o,.slice va ps.length vc] 25∧Dr w g a n cap wr) (fun _ i _=>nn-(intOf i).toNat)
 case atStart=>exact⟨0,[],dO _,rfl,aN _,(by intro r hr;cases hr),o2,k2,D2⟩
 obtain⟨j,L,hj,rfl,hl,HL,oL,kz,D⟩:=hrel;clear o2 k2 D2;obtain⟨la,lc,rfl⟩:=aT oL
 by_cases bV:j<nn
 ·have i2:(j:Int)<(nn:Int):=by omega
  have rz:=fun i=>aA kz i
  have hch:=HCH.out wr D.s D.gr;go_wp2_with fail
  refine hch.mono ?_;rintro e w3 ⟨⟨ro,rt,rc,ru,rd⟩,rfl,hr,qD,iA⟩;have D3:=D.step qD iA;have o3:=D.keep oL iA;have k3:=aP kz iA (fun e=>by have:=gQ e;omega);have hz3:=D3.size;clear hch D oL kz rz qD iA;go_wp2_with (at_builtin;refine wpList_append_own _ rfl (.tmp 20) (.tmp 24) 30 rfl w.heap.size 29 i0 _ 5 56 Tryz.underlying30 hi iJ fP fZ rfl (by decide) _ _ _ rfl (o3.alloc _) ⟨w3.heap.size,0,none⟩ 1 1 [.string ro,.int .i64 rt,.int .i64 rc,.int .i64 ru,.string rd] rfl rfl (dU w3 #[.string ro,.int .i64 rt,.int .i64 rc,.int .i64 ru,.string rd] 29) (by intro u hu;simp at hu;rcases hu with rfl|rfl|rfl|rfl|rfl<;>rfl) (by unfold maxLen;omega) (by omega) (by simp;omega) ?_)
  intro v9 w9 gZ gV _;have D9:=(D3.alloc (.cells #[.string ro,.int .i64 rt,.int .i64 rc,.int .i64 ru,.string rd] 29)).row gV (fun k hk=>(o3.lt k hk).1);have k9:=aP (aR k3 (.cells #[.string ro,.int .i64 rt,.int .i64 rc,.int .i64 ru,.string rd] 29)) gV (bW o3 k3 (by decide))
  have o9:w9.ownsRow w.heap.size 29 5 v9 (L++[(⟨ro,rt,rc,ru,rd⟩:Rr)]).length (bK (L++[(⟨ro,rt,rc,ru,rd⟩:Rr)])):=by
   rw [jX,nG];exact gZ
  clear gV gZ o3 k3 D3 hz3;go_wp2;go_roundw
  case rel=>exact⟨j+1,L++[(⟨ro,rt,rc,ru,rd⟩:Rr)],bV,by go_num,by simp;omega,BX HL.out hr,o9,k9,D9⟩
  simp [intOf];omega
 have KA:j=nn:=by omega
 subst KA;have i3:¬(j:Int)<(j:Int):=by omega
 have hl4:L.length<=4:=by omega
 go_wp2;go_ret;exact⟨_,L,rfl,hl4,HL,oL,D.s,D.gr⟩
theorem SI(g:Nat)(a:Option Addr)(n cap:Nat)(parts:Nat)(w:World)(h:Src w g a n cap)(hp:parts<=70):
 Calls Tryz.prog 13 #[.pointer (some ⟨g,0,none⟩),.int .i64 (parts:Int)] w fun e w'=>∃ (o:ByteArray) (v:Value) (ps:List Zp),e=.returned (.agg #[.string o,v])∧o.size<=20∧(ZB ps (3+3*parts)∧(0<ps.length∧Vz ps o)∧1<=o.size)∧dH w' w.heap.size v ps∧Src w' g a n cap∧w.grownBy w' (some g):=by
 obtain⟨i0,hi,iJ,fP,fZ⟩:=info_parts Tryz.GM;obtain⟨iB,BG⟩:=uH h;have hA:=bH h ((aK _ _).alloc (aN _) (.cells #[.string ByteArray.empty,.slice none 0 0] 25));have hgA:w.grownBy (w.alloc (.cells #[.string ByteArray.empty,.slice none 0 0] 25)) (some g):=dR (World.grownBy.refl _ _) _;have kA:=aH w #[.string ByteArray.empty,.slice none 0 0] 25;have dQ:(some g:Option Nat)≠some w.heap.size:=by intro e;simp at e;omega
 go_enter Tryz.func13,Tryz.ntmps13;go_wp2_with fail
 refine(YM g a n cap parts _ hA (by omega)).mono ?_;rintro e w1 ⟨ap,bb,lv,xs,rfl,pW,MU,aSh,FC,VE,L⟩;obtain⟨Hr,ha2⟩:=UE pW;have HA1:=Nm.aF Hr;have HGO:=Nm.aF (aK5 pW MU)
 obtain⟨x0,x1,HF,KT,aKe⟩:∃ x0 x1,Hid ([x0,x1]=IW ap bb)∧xs[0]? =some x0∧xs[1]? =some x1:=by
  obtain⟨t,rfl⟩:=aSh;exact⟨_,_,rfl,rfl,rfl⟩
 clear pW MU aSh;obtain⟨la,lc,rfl⟩:=aT L.r;have g1:=aZ hgA L.d.gr;have k1:=aP kA L.d.gr dQ;have HB0:Hid (∀ W,w1.grownBy W (some g)->w.grownBy W (some g)∧bG W w.heap.size #[.string ByteArray.empty,.slice none 0 0] 25):=fun W hW=>⟨aZ g1 hW,aP k1 hW dQ⟩
 obtain⟨_,la',lc',ee,gY,kK,hc⟩:=bS.aS L.r;simp only [iG] at ee;obtain⟨rfl,_,rfl⟩:=ee;obtain⟨b,off,rfl,aL⟩:=hc (by omega)
 have ZU:b≠g:=by
  have h1:=(L.r.lt b rfl).1;rw [fV] at h1;omega
 have HC:Hid (∀ (j:Nat) (x:Rr),xs[j]? =some x->∀ W,Dr w1 g a n cap W->W.cell? ⟨b,off+j*5,none⟩=some (.string x.own)∧W.cell? ⟨b,off+j*5+1,none⟩=some (.int .i64 x.ty)∧W.cell? ⟨b,off+j*5+2,none⟩=some (.int .i64 x.cl)∧W.cell? ⟨b,off+j*5+3,none⟩=some (.int .i64 x.tt)∧W.cell? ⟨b,off+j*5+4,none⟩=some (.string x.da)):=by
  intro j x hx W hW;obtain⟨c0,c1,c2,c3,c4⟩:=gT aL hx;exact⟨hW.cell c0 ZU,hW.cell c1 ZU,hW.cell c2 ZU,hW.cell c3 ZU,hW.cell c4 ZU⟩
 have HZ:=Nm.aF L.z;have HBW:Hid (w.heap.size<w1.heap.size):=by have h1:=L.d.size;rw [fV] at h1;show _<_;omega
 have D1:=Dr.start L.d.s;have z0:=L.z x0 (bP KT);have z1:=L.z x1 (bP aKe);obtain⟨c0,c1,c2,c3,c4⟩:=HC.out 0 x0 KT w1 D1;obtain⟨d0,d1,d2,d3,d4⟩:=HC.out 1 x1 aKe w1 D1;have i1:(0:Int)<(xs.length:Int):=by omega
 have i2:(1:Int)<(xs.length:Int):=by omega
 clear hA hgA kA L g1 k1 aL hc h KT aKe;obtain⟨o0,t0,l0,u0,e0⟩:=x0;obtain⟨o1,t1,l1,u1,e1⟩:=x1;simp only [Nat.zero_mul,Nat.add_zero,Nat.one_mul] at c0 c1 c2 c3 c4 d0 d1 d2 d3 d4;go_wp2_with fail
 go_cut [7] from 22 (fun gv wx=>∃ ga gc,gv=.slice ga 2 gc∧wx.ownsRow w1.heap.size 29 5 (.slice ga 2 gc) 2 (bK [⟨o0,t0,l0,u0,e0⟩,⟨o1,t1,l1,u1,e1⟩])∧Dr w1 g a n cap wx)
 case first=>
  have aIw:=World.ownsRow_lit (base:=w1.heap.size) (e:=29) (size:=5) w1.drew #[.string o0,.int .i64 t0,.int .i64 l0,.int .i64 u0,.string e0,.string o1,.int .i64 t1,.int .i64 l1,.int .i64 u1,.string e1] 2 (aN _) (by decide) rfl;have DL:=(D1.below (aK _ _).drew).alloc (.cells #[.string o0,.int .i64 t0,.int .i64 l0,.int .i64 u0,.string e0,.string o1,.int .i64 t1,.int .i64 l1,.int .i64 u1,.string e1] 29);have HLD:=Nm.aF (aV aIw DL);clear aIw DL;go_region
  all_goals
   go_wp2_with fail
   go_meet;exact⟨_,_,rfl,HLD.out.1,HLD.out.2⟩
 obtain⟨ga,gc,rfl,oN,D2⟩:=hcut
 have z2:∀ r∈[(⟨o0,t0,l0,u0,e0⟩:Rr),⟨o1,t1,l1,u1,e1⟩],ZR r:=by
  intro r hr;simp at hr
  rcases hr with rfl|rfl
  ·exact z0
  exact z1
 have vY:=kH (.slice ga 2 gc) [⟨o0,t0,l0,u0,e0⟩,⟨o1,t1,l1,u1,e1⟩] ap wc (bS.aS oN) (by simp) (by unfold maxLen;omega) (fun r hr=>by have:=(z2 r hr).1;unfold maxLen;omega);obtain⟨ys0,HY0⟩:∃ ys,Hid (ys=[(⟨o0,t0,l0,u0,e0⟩:Rr),⟨o1,t1,l1,u1,e1⟩]):=⟨_,rfl⟩;have aSi:=D2.size;clear c0 c1 c2 c3 c4 d0 d1 d2 d3 d4 D1;go_wp2_with fail
 refine vY.mono ?_;rintro e w3 hb;obtain⟨b3,o,zv,ps,c,i,rfl,ho,Sm,NF⟩:=YJ (N:=3+3*parts) hb z2 (by simp;omega) ha2 aSi;obtain⟨za,zc,rfl⟩:=aT NF.outer;have bA:=(aK w3.heap.size w3).alloc (aN _) (.cells #[.string o,.slice za ps.length zc] 25);have kz:=aH w3 #[.string o,.slice za ps.length zc] 25;have D3:=(D2.below b3).below bA;have iA:=own_below (own_below oN b3) bA;have aSj:=NF.below bA;have hz3:=(D2.below b3).size
 have hzq:Hid (ZB ps (3+3*parts)∧(0<ps.length∧Vz ps o)∧1<=o.size):=by
  have h2:=Sm.out.2.1 (Sm.out.2.2 (by rw [HF.out,HGO.out]));exact⟨Sm.out.1,by rw [h2.2];exact h2.1,by rw [h2.2];exact Hr⟩
 clear hb vY D2 oN NF bA b3 aSi Sm HF HGO;go_wp2_with fail
 go_loopw [7,11] (fun gv iv wr=>∃ (k:Nat) (ys:List Rr) (o:ByteArray) (zv:Value) (ps:List Zp),2<=k∧k<=xs.length∧iv=.int .i64 k∧0<ys.length∧ys.length<=k∧Hid (∀ r∈ys,ZR r)∧wr.ownsRow w1.heap.size 29 5 gv ys.length (bK ys)∧o.size<=20∧Hid (ZB ps (3+3*parts)∧(0<ps.length∧Vz ps o)∧1<=o.size)∧dH wr w1.heap.size zv ps∧bG wr w3.heap.size #[.string o,zv] 25∧Dr w1 g a n cap wr) (fun _ i _=>xs.length-(intOf i).toNat)
 case atStart=>exact⟨2,[⟨o0,t0,l0,u0,e0⟩,⟨o1,t1,l1,u1,e1⟩],o,_,ps,aN _,by omega,rfl,by simp,by simp,z2,iA,ho,hzq,aSj,kz,D3⟩
 clear kz D3 iA aSj hzq ho z2;obtain⟨k,ys,o,zv,ps,hk2,hk,rfl,hy0,hyk,HY,eF,ho,HZB,NF,kz,D⟩:=hrel;obtain⟨ra,rc,rfl⟩:=aT eF;obtain⟨za,zc,rfl⟩:=aT NF.outer
 by_cases bV:k<xs.length
 ·obtain⟨x,nI⟩:∃ x,xs[k]? =some x:=⟨_,bY bV⟩;have hzx:=HZ.out x (bP nI);obtain⟨c0,c1,c2,c3,c4⟩:=HC.out k x nI wr D;have j1:(0:Int)<=(k:Int):=by omega
  have j2:(k:Int)<(xs.length:Int):=by omega
  have KS:=D.size;clear nI;obtain⟨ow,ty,cl,tt,da⟩:=x;simp only at c0 c1 c2 c3 c4
  have hrA:=eF.alloc (.cells #[.string ow,.int .i64 ty,.int .i64 cl,.int .i64 tt,.string da] 29);obtain⟨v',w5,hr,uZ,QI,bZ⟩:=MM (P:=Tryz.prog) (wr.alloc (.cells #[.string ow,.int .i64 ty,.int .i64 cl,.int .i64 tt,.string da] 29)) w1.heap.size 30 30 29 i0 _ 5 56 Tryz.underlying30 hi iJ fP fZ rfl (by decide) _ _ _ hy0 hrA ⟨wr.heap.size,0,none⟩ 1 1 [.string ow,.int .i64 ty,.int .i64 cl,.int .i64 tt,.string da] rfl (dU wr #[.string ow,.int .i64 ty,.int .i64 cl,.int .i64 tt,.string da] 29) (by intro u hu;simp at hu;rcases hu with rfl|rfl|rfl|rfl|rfl<;>rfl) (by unfold maxLen;omega) (by omega) (by simp;omega);have D5:=(D.alloc (.cells #[.string ow,.int .i64 ty,.int .i64 cl,.int .i64 tt,.string da] 29)).row bZ (fun q hq=>(eF.lt q hq).1);have aSk:=(NF.below ((aK _ _).alloc (aN _) (.cells #[.string ow,.int .i64 ty,.int .i64 cl,.int .i64 tt,.string da] 29))).other hrA (by decide) (by decide) bZ;have kz5:=aP (aR kz (.cells #[.string ow,.int .i64 ty,.int .i64 cl,.int .i64 tt,.string da] 29)) bZ (bW eF kz (by decide));have hys:∀ r∈ys++[(⟨ow,ty,cl,tt,da⟩:Rr)],ZR r:=BX HY.out hzx
  have sU:w5.ownsRow w1.heap.size 29 5 v' (ys++[(⟨ow,ty,cl,tt,da⟩:Rr)]).length (bK (ys++[(⟨ow,ty,cl,tt,da⟩:Rr)])):=by
   rw [jX,nG];exact uZ
  obtain⟨va,vc,rfl⟩:=aT uZ;have vY:=kH (.slice va (ys.length+1) vc) (ys++[(⟨ow,ty,cl,tt,da⟩:Rr)]) ap w5 (bS.aS sU) (by simp;omega) (by unfold maxLen;omega) (fun r hr=>by have:=(hys r hr).1;unfold maxLen;omega);have WP:=D5.size;clear hrA uZ bZ eF NF kz;go_wp2_with (at_builtin;refine VO rfl (.tmp 42) (.tmp 47) 30 30 rfl _ _ _ w5 rfl rfl hr ?_)
  clear c0 c1 c2 c3 c4 hr;go_wp2_with fail
  refine vY.mono ?_;rintro e w6 hb;obtain⟨b6,o',zv',ps',c',i',rfl,CW,aSl,aOj⟩:=YJ (N:=3+3*parts) hb hys (by simp;omega) ha2 WP;obtain⟨za',zc',rfl⟩:=aT aOj.outer;have bA:=(aK w6.heap.size w6).alloc (aN _) (.cells #[.string o',.slice za' ps'.length zc'] 25);have ZO:=aB (aB kz5 b6) bA;have ky7:=aH w6 #[.string o',.slice za' ps'.length zc'] 25;have D7:=(D5.below b6).below bA;have HS:=Nm.aF (aV hys (aV aSl (aV (own_below (own_below sU b6) bA) (aOj.below bA))));have aIx:=own_below (own_below QI b6) bA;have aSm:=(aSk.below b6).below bA;have ry:=fun i=>aA ky7 i
  have rz:=fun i=>aA ZO i
  have fz:=fun i=>aG ZO i
  clear hb vY sU hys aSl aOj b6 bA QI aSk kz5 D5
  by_cases hcz:c'=0
  ·subst hcz;have aSn:w1.heap.size<=w3.heap.size:=by omega
   have kE:=aI (aI ZO 0 (.string o')) 1 (.slice za' ps'.length zc');have DE:=(D7.set aSn (.string o') (i:=0)).set aSn (.slice za' ps'.length zc') (i:=1);have hoE:=NG (x:=.slice za' ps'.length zc') (i:=1) (NG (x:=.string o') (i:=0) HS.out.2.2.1 ZO (by decide)) (aI ZO 0 (.string o')) (by decide);have hzE:=dH.dL (x:=.slice za' ps'.length zc') (i:=1) (dH.dL (x:=.string o') (i:=0) HS.out.2.2.2 ZO (by decide) (by decide)) (aI ZO 0 (.string o')) (by decide) (by decide);have HE:=Nm.aF (aV kE (aV DE (aV hoE hzE)));clear kE DE hoE hzE D7 aIx aSm ZO;go_wp2;go_roundw
   case rel=>exact⟨k+1,ys++[(⟨ow,ty,cl,tt,da⟩:Rr)],o',_,ps',by omega,bV,by go_num,by simp,by simp;omega,HS.out.1,HE.out.2.2.1,CW,⟨HS.out.2.1.out.1,by rw [(HS.out.2.1.out.2.1 (by trivial)).2];exact(HS.out.2.1.out.2.1 (by trivial)).1,by rw [(HS.out.2.1.out.2.1 (by trivial)).2];exact HA1.out⟩,HE.out.2.2.2,HE.out.1,HE.out.2.1⟩
   simp [intOf];omega
  have n0:(c'==0)=false:=by rw [dC];exact hcz
  clear hcz ry rz fz ky7;go_wp2;go_roundw
  case rel=>exact⟨k+1,ys,o,_,ps,by omega,bV,by go_num,hy0,by omega,HY,aIx,ho,HZB,aSm,ZO,D7⟩
  simp [intOf];omega
 have nS:k=xs.length:=by omega
 subst nS;obtain⟨gw,kB⟩:=HB0.out wr D.gr;have Dw:Dr w g a n cap wr:=⟨D.s,gw,BG,iB⟩;have rB:=fun i=>aA kB i
 have fB:=fun i=>aG kB i
 have rz:=fun i=>aA kz i
 have kE:=aI (aI kB 0 (.string o)) 1 (.slice za ps.length zc);have DE:=(Dw.set (aN _) (.string o) (i:=0)).set (aN _) (.slice za ps.length zc) (i:=1);have hBw:w.heap.size<w1.heap.size:=HBW.out;have hzE:=((NF.far (i:=0) (y:=.string o) hBw).far (i:=1) (y:=.slice za ps.length zc) hBw).base (Nat.le_of_lt hBw);have rE:=fun i=>aA kE i
 have HE:=Nm.aF (aV DE hzE);have i3:¬(xs.length:Int)<(xs.length:Int):=by omega
 clear kE DE hzE Dw gw D NF eF kB;go_wp2;refine gD (v:=.agg #[.string o,.slice za ps.length zc]) ?_ rfl ?_
 rotate_left
 ·refine⟨o,_,rfl,ho,ps,?_⟩
  try simp only [and_assoc]
  exact⟨HZB.out.1,HZB.out.2.1.1,HZB.out.2.1.2,HZB.out.2.2,HE.out.2,HE.out.1.s,HE.out.1.gr⟩
 simp [results,Tryz.results13,go_sem,Result.andThen,rE]
