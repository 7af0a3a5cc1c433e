import Derived.Test.YthdpacepbbcocaaGreatAdP
import Derived.Test.YthdpacepbbcocaaGreatJAdC
set_option linter.unusedVariables false
set_option maxRecDepth 100000
set_option maxHeartbeats 6400000
namespace Go.Proofs.YthdpacepbbcocaaGreat
open Go.RowKit
def NxP(w:World)(g:Nat)(a:Option Addr)(n cap:Nat)(o:ByteArray)(v:Value)(ps:List Zp)(M:Nat)(e:Ending)(w':World):Prop:=∃ v' ps',e=.returned (.agg #[.string o,v'])∧IZ w.heap.size v ps w' v' ps'∧Hid (ZB ps' M)∧Src w' g a n cap∧w.grownBy w' (some g)
structure Nx (w:World) (g:Nat) (a:Option Addr) (n cap:Nat) (o:ByteArray) (v:Value) (W:World):Prop where
 z:bG W w.heap.size #[.string o,v] 25
 q:bG W (w.heap.size+1) #[.string ⟨#[]⟩,.slice none 0 0] 25
 d:Dr w g a n cap W
section
variable {w W W1:World}{g n cap:Nat}{a:Option Addr}{o:ByteArray}{v:Value}
theorem Nx.step(h:Nx w g a n cap o v W)(hs:Src W1 g a n cap)(hg:W.grownBy W1 (some g)):Nx w g a n cap o v W1:=by
 have:=h.d.lt;exact⟨aP h.z hg (fun e=>by have:=gQ e;omega),aP h.q hg (fun e=>by have:=gQ e;omega),h.d.step hs hg⟩
theorem Nx.below(h:Nx w g a n cap o v W)(hb:Below W.heap.size W W1):Nx w g a n cap o v W1:=⟨aB h.z hb,aB h.q hb,h.d.below hb⟩
theorem Nx.alloc(h:Nx w g a n cap o v W)(x:Obj):Nx w g a n cap o v (W.alloc x):=h.below ((aK _ _).alloc (aN _) _)
theorem Nx.set(h:Nx w g a n cap o v W){b i:Nat}(hb:w.heap.size+1<b)(x:Value):Nx w g a n cap o v (W.setCell ⟨b,i,none⟩ x):=
 ⟨aW h.z (by omega),aW h.q (by omega),h.d.set (by omega) x⟩
end
theorem Jc(o:ByteArray)(v:Value)(ps:List Zp)(M:Nat)(hM:M<=200)(hB:ZB ps M)(ho:o.size<=20)(hs:NY ps o):∃ s:Int,∀ w,gI w v ps->Calls Tryz.prog 17 #[.agg #[.string o,v]] w fun e w'=>e=.returned (.int .i64 s)∧Below w.heap.size w w':=by
 obtain⟨s,d,ds,f1,f2,f3⟩:=hs;exact⟨_,fun w h=>JO o v ps s d ds w h (hB.Bu (by omega)) (fun p hp=>⟨(hB.fit (by omega) p hp).1,(hB.fit (by omega) p hp).2.1⟩) (by unfold maxLen;omega) f1 f2 (by omega)⟩
theorem Rz(g:Nat)(a:Option Addr)(n cap:Nat)(o:ByteArray)(v:Value)(ps:List Zp)(N:Nat)(w:World)(hs:Src w g a n cap)(h:ZGr w g v ps)(hB:ZB ps N)(hN:N<=190)(hz:pI ps o=true)(CR:1<=o.size)(ho:o.size<=20):
 Calls Tryz.prog 26 #[.pointer (some ⟨g,0,none⟩),.agg #[.string o,v]] w (NxP w g a n cap o v ps (N+4)):=by
 obtain⟨va,vc,rfl⟩:=iV h.row;have HR:=Nm.aF (fun W (hW:w.grownBy W (some g))=>(h.step hW).row);have HDL:=Nm.aF (fun W (hS:Src W g a n cap) (hW:w.grownBy W (some g))=>TN g a n cap o (.slice va ps.length vc) ps N W hS (h.step hW) hB (by omega) hz CR ho);have HAP:=Nm.aF (fun(L:List Rr) (hL:L.length<=4) (hzL:∀ r∈L,ZR r) (lv:Value) W (hW:w.grownBy W (some g)) (hlv:bS W lv L.length 5 (bK L))=>Iy o (.slice va ps.length vc) lv ps L N W (h.step hW).row hlv hzL hB (by omega) hz ho);have HS1:=Nm.aF (fun W (hW:w.grownBy W (some g))=>lZ o (.slice va ps.length vc) ps W (h.step hW).row (hB.Bu (by omega)) (hB.fit (by omega)) (by unfold maxLen;omega) hz);generalize CS (eX ps)=SD at*;have kz:=aR (aH w #[.string o,.slice va ps.length vc] 25) (.cells #[.string ⟨#[]⟩,.slice none 0 0] 25);have kq:=aH (w.alloc (.cells #[.string o,.slice va ps.length vc] 25)) #[.string ⟨#[]⟩,.slice none 0 0] 25;rw [fV] at kq;have X0:Nx w g a n cap o (.slice va ps.length vc) ((w.alloc (.cells #[.string o,.slice va ps.length vc] 25)).alloc (.cells #[.string ⟨#[]⟩,.slice none 0 0] 25)):=⟨kz,kq,((Dr.start hs).alloc _).alloc _⟩;clear kz kq h hB hz hs;go_enter Tryz.func26,Tryz.ntmps26;go_upto_region 1 with fail
 generalize hWA:(w.alloc (.cells #[.string o,.slice va ps.length vc] 25)).alloc (.cells #[.string ⟨#[]⟩,.slice none 0 0] 25)=WA at*;clear hWA;go_cut [5] from 6 (fun nv wx=>∃ (nb:Nat) (v1:Value) (p1:List Zp),nv=.pointer (some ⟨nb,0,none⟩)∧w.heap.size+1<nb∧Nx w g a n cap o (.slice va ps.length vc) wx∧bG wx nb #[.string o,v1] 25∧IZ w.heap.size (.slice va ps.length vc) ps wx v1 p1∧Hid (ZB p1 (N+4)∧NY p1 o))
 case first=>
  have XD:=X0.below (aK _ _).drew;clear X0;have ZJ:=XD.d.lt;refine kR (fun X=>bG X w.heap.size #[.string o,.slice va ps.length vc] 25) 1000 XD.z fun aO=>?_;refine kO 0 rfl ?_;refine kO 1 rfl ?_;refine kO 2 rfl ?_;refine k2 3 5 rfl rfl (fun K hK=>?_) fun K hK=>?_
  ·go_simp;refine(HDL.out _ (XD).d.s (XD).d.gr).mono ?_;rintro e w3 ⟨u,L,rfl,hL,HL,oL,hsd,Ce⟩;have X3:=(XD).step hsd Ce;go_wp2_with fail
   refine hK.out _ _ X3.z fun aO=>?_;clear hK K;refine k2 4 5 rfl rfl (fun K hK=>?_) fun K hK=>?_
   ·go_simp;have pW:=HAP.out L hL HL.out u _ (X3).d.gr (bS.aS oL);refine pW.mono ?_;rintro e w4 ⟨v4,p4,rfl,nz4,pR,b4⟩;have X4:=(X3).below b4;have z4:=nz4.base (B2:=w.heap.size) (X3).d.size;have h4:Hid (ZB p4 (N+4)∧NY p4 o):=⟨pR.out.1.up (by omega),pR.out.2⟩;obtain⟨ya,yc,rfl⟩:=iV (z4.row (HR.out _ X4.d.gr));clear pW nz4 pR;go_wp2_with fail
    refine hK.out _ _ X4.z fun aO=>?_;clear hK K;refine k1 5 rfl fun K hK=>?_
    go_simp;refine hK.out _ _ (X4.alloc _).z fun aO=>?_;clear hK K;have XE:=X4.alloc (.cells #[.string o,.slice ya p4.length yc] 25);have YE:=aH w4 #[.string o,.slice ya p4.length yc] 25;have zE:=z4.below ((aK _ _).alloc (aN w4.heap.size) (.cells #[.string o,.slice ya p4.length yc] 25));have HE:=Nm.aF (aV XE (aV YE (aV zE h4)));have Bo:w.heap.size+1<w4.heap.size:=bU X4.q;clear XE YE zE X4 z4 h4;refine k1 6 rfl fun K hK=>?_
    go_simp;refine hK.out _ _ HE.out.1.z fun aO=>?_;clear hK K;refine kN ?_;clear aO
    try go_simp
    go_wp2;go_meet;exact⟨_,_,p4,rfl,Bo,HE.out.1,HE.out.2.1,HE.out.2.2.1,HE.out.2.2.2⟩
   go_simp;have Bo:w.heap.size+1<w3.heap.size:=bU X3.q;have Y5:=aH w3 #[.string ⟨#[]⟩,.slice none 0 0] 25;have X5:=X3.alloc (.cells #[.string ⟨#[]⟩,.slice none 0 0] 25);have oL5:=oL.alloc (.cells #[.string ⟨#[]⟩,.slice none 0 0] 25);refine hK.out _ _ X5.z fun aO=>?_;clear hK K X3 oL;refine k1 4 rfl fun K hK=>?_
   have X3:=X5;have oL:=oL5;clear X5 oL5;go_simp;have pW:=HAP.out L hL HL.out u _ (X3).d.gr (bS.aS oL);refine pW.mono ?_;rintro e w4 ⟨v4,p4,rfl,nz4,pR,b4⟩;have X4:=(X3).below b4;have z4:=nz4.base (B2:=w.heap.size) (X3).d.size;have h4:Hid (ZB p4 (N+4)∧NY p4 o):=⟨pR.out.1.up (by omega),pR.out.2⟩;obtain⟨ya,yc,rfl⟩:=iV (z4.row (HR.out _ X4.d.gr));clear pW nz4 pR;go_wp2_with fail
   refine hK.out _ _ X4.z fun aO=>?_;clear hK K;have Y4:=aB Y5 b4;clear Y5;have XE:=(X4.set (i:=0) Bo (.string o)).set (i:=1) Bo (.slice ya p4.length yc);have YE:=aI (aI Y4 0 (.string o)) 1 (.slice ya p4.length yc);simp only [List.setIfInBounds_toArray,List.set_cons_zero,List.set_cons_succ] at YE;have zE:=(z4.dL (i:=0) (x:=.string o) Y4 (by decide) (by decide)).dL (i:=1) (x:=.slice ya p4.length yc) (aI Y4 0 (.string o)) (by decide) (by decide);have HE:=Nm.aF (aV XE (aV YE (aV zE h4)));have cY:=fun i=>aA Y4 i
   have fY:=fun i=>aG Y4 i
   clear XE YE zE X4 z4 h4 Y4;refine k1 6 rfl fun K hK=>?_
   go_simp;refine hK.out _ _ HE.out.1.z fun aO=>?_;clear hK K cY fY;refine kN ?_;clear aO
   try go_simp
   go_wp2;go_meet;exact⟨w3.heap.size,_,p4,rfl,Bo,HE.out.1,HE.out.2.1,HE.out.2.2.1,HE.out.2.2.2⟩
  go_simp;have Bo:w.heap.size+1<WA.heap.size:=bU XD.q;have Y5:bG (WA.drew.alloc (.cells #[.string ⟨#[]⟩,.slice none 0 0] 25)) WA.heap.size #[.string ⟨#[]⟩,.slice none 0 0] 25:=aH WA.drew _ _;have X5:=XD.alloc (.cells #[.string ⟨#[]⟩,.slice none 0 0] 25);refine hK.out _ _ X5.z fun aO=>?_;clear hK K XD;refine k1 3 rfl fun K hK=>?_
  go_simp;refine(HDL.out _ (X5).d.s (X5).d.gr).mono ?_;rintro e w3 ⟨u,L,rfl,hL,HL,oL,hsd,Ce⟩;have X3:=(X5).step hsd Ce;go_wp2_with fail
  refine hK.out _ _ X3.z fun aO=>?_;clear hK K;have Y3:=aP Y5 Ce (fun e=>by have:=gQ e;omega);clear Y5;refine k1 4 rfl fun K hK=>?_
  go_simp;have pW:=HAP.out L hL HL.out u _ (X3).d.gr (bS.aS oL);refine pW.mono ?_;rintro e w4 ⟨v4,p4,rfl,nz4,pR,b4⟩;have X4:=(X3).below b4;have z4:=nz4.base (B2:=w.heap.size) (X3).d.size;have h4:Hid (ZB p4 (N+4)∧NY p4 o):=⟨pR.out.1.up (by omega),pR.out.2⟩;obtain⟨ya,yc,rfl⟩:=iV (z4.row (HR.out _ X4.d.gr));clear pW nz4 pR;go_wp2_with fail
  refine hK.out _ _ X4.z fun aO=>?_;clear hK K;have Y4:=aB Y3 b4;clear Y3;have XE:=(X4.set (i:=0) Bo (.string o)).set (i:=1) Bo (.slice ya p4.length yc);have YE:=aI (aI Y4 0 (.string o)) 1 (.slice ya p4.length yc);simp only [List.setIfInBounds_toArray,List.set_cons_zero,List.set_cons_succ] at YE;have zE:=(z4.dL (i:=0) (x:=.string o) Y4 (by decide) (by decide)).dL (i:=1) (x:=.slice ya p4.length yc) (aI Y4 0 (.string o)) (by decide) (by decide);have HE:=Nm.aF (aV XE (aV YE (aV zE h4)));have cY:=fun i=>aA Y4 i
  have fY:=fun i=>aG Y4 i
  clear XE YE zE X4 z4 h4 Y4;refine k1 6 rfl fun K hK=>?_
  go_simp;refine hK.out _ _ HE.out.1.z fun aO=>?_;clear hK K cY fY;refine kN ?_;clear aO
  try go_simp
  go_wp2;go_meet;exact⟨WA.heap.size,_,p4,rfl,Bo,HE.out.1,HE.out.2.1,HE.out.2.2.1,HE.out.2.2.2⟩
 obtain⟨nb,v1,p1,rfl,Bo,X1,Y1,z1,h1⟩:=hcut;obtain⟨wq,rfl⟩:∃ x,x=wc:=⟨_,rfl⟩;clear X0 HDL;obtain⟨na,nc,rfl⟩:=iV (z1.row (HR.out _ X1.d.gr));obtain⟨SN,hSN⟩:=Jc o (.slice na p1.length nc) p1 (N+4) (by omega) h1.out.1 ho h1.out.2;have HSN:=Nm.aF hSN;have ZJ:=X1.d.lt;have XD:=X1.below (aK _ _).drew;have YD:=aB Y1 (aK _ _).drew;have zD:=z1.below (aK _ _).drew;clear hSN X1 Y1 z1;go_wp2_with fail
 refine kR (fun X=>bG X w.heap.size #[.string o,.slice va ps.length vc] 25∧bG X nb #[.string o,.slice na p1.length nc] 25) 1000 ⟨XD.z,YD⟩ fun aO=>?_;refine kP 0 rfl ?_;refine kP 2 rfl ?_;refine k1 1 rfl fun K hK=>?_
 go_simp;refine(HS1.out _ XD.d.gr).mono ?_;rintro e w2 ⟨rfl,b2⟩;have X2:=XD.below b2;have Y2:=aB YD b2;have z2:=zD.below b2;clear XD YD zD b2;go_wp2_with fail
 refine hK.out _ _ ⟨X2.z,Y2⟩ fun aO=>?_;clear hK K;refine k1 3 rfl fun K hK=>?_
 go_simp;refine(HSN.out _ (z2.row (HR.out _ X2.d.gr))).mono ?_;rintro e w3 ⟨rfl,b3⟩;have X3:=X2.below b3;have Y3:=aB Y2 b3;have z3:=z2.below b3;clear X2 Y2 z2 b3;go_wp2_with fail
 refine hK.out _ _ ⟨X3.z,Y3⟩ fun aO=>?_;clear hK K;refine k1 4 rfl fun K hK=>?_
 go_simp;refine(lU SD SN w3).mono ?_;rintro e w4 ⟨rfl,hw4⟩;obtain rfl:=hw4;generalize rJ SD SN=SL;go_wp2_with fail
 refine hK.out _ _ ⟨X3.z,Y3⟩ fun aO=>?_;clear hK K HSN;refine kP 5 rfl ?_;refine kN ?_;clear aO
 cases SL with
 |true=>
  try go_simp
  have X9r:=X3;have Y9r:=Y3;have z9r:=z3;have H9r:=Nm.aF h1.out.1;have ry:=fun i=>aA Y9r i
  have rq:=fun i=>aA X9r.q i
  have fq:=fun i=>aG X9r.q i
  have kE:=aI (aI X9r.q 0 (.string o)) 1 (.slice na (p1).length nc);have rE:=fun i=>aA kE i
  have dE:=(X9r.d.set (b:=w.heap.size+1) (i:=0) (Nat.le_succ _) (.string o)).set (b:=w.heap.size+1) (i:=1) (Nat.le_succ _) (.slice na (p1).length nc);have zF:=(z9r.dL (i:=0) (x:=.string o) X9r.q (by decide) (by decide)).dL (i:=1) (x:=.slice na (p1).length nc) (aI X9r.q 0 (.string o)) (by decide) (by decide);have HF:=Nm.aF (aV zF dE);clear kE dE zF;go_wp2;refine gD (v:=.agg #[.string o,.slice na (p1).length nc]) ?_ rfl ?_
  rotate_left
  ·exact⟨_,_,rfl,HF.out.1,H9r,HF.out.2.s,HF.out.2.gr⟩
  simp [results,Tryz.results26,go_sem,Result.andThen,rE]
 |false=>
  have rz3:=fun i=>aA X3.z i
  obtain⟨sn,ZF,aOi⟩:=aBg SD;have XD:=X3.below (aK _ _).drew;have YD:=aB Y3 (aK _ _).drew;clear X3 Y3 z3
  try go_simp
  go_wp2_with fail
  refine kR (fun X=>bG X w.heap.size #[.string o,.slice va ps.length vc] 25) 1000 XD.z fun aO=>?_;clear rz3;refine kO 0 rfl ?_;refine kO 1 rfl ?_;refine kO 2 rfl ?_;refine kO 3 rfl ?_;refine k1 4 rfl fun K hK=>?_
  go_simp;refine(HS1.out _ XD.d.gr).mono ?_;rintro e w5 ⟨rfl,b5⟩;have X5:=XD.below b5;have Y5:=aB YD b5;clear XD YD b5;go_wp2_with fail
  refine hK.out _ _ X5.z fun aO=>?_;clear hK K;refine k1 5 rfl fun K hK=>?_
  go_simp;refine(qM SD w5).mono ?_;rintro e w6 ⟨rfl,hw6⟩;obtain rfl:=hw6;rw [ZF];go_wp2_with fail
  refine hK.out _ _ X5.z fun aO=>?_;clear hK K ZF;refine k1 6 rfl fun K hK=>?_
  go_simp;refine(BZ o sn 60 3600 _ (by omega) (by omega) (by omega)).mono ?_;rintro e w7 ⟨b9,rfl,tF,b7⟩;have X7:=X5.below b7;have Y7:=aB Y5 b7;have hd:=Jb (b:=b9) ho (by omega);generalize DX o b9=d9 at*;clear X5 Y5 b7;go_wp2_with fail
  refine hK.out _ _ X7.z fun aO=>?_;clear hK K;refine k1 7 rfl fun K hK=>?_
  go_simp;have X8:=X7.alloc (.cells #[.string o,.int .i64 6,.int .i64 1,.int .i64 3600,.string d9] 29);have Y8:=aR Y7 (.cells #[.string o,.int .i64 6,.int .i64 1,.int .i64 3600,.string d9] 29);have aIw:=World.ownsRow_lit (base:=w7.heap.size) (e:=29) (size:=5) w7 #[.string o,.int .i64 6,.int .i64 1,.int .i64 3600,.string d9] 1 (aN _) (by decide) rfl;have pW:=HAP.out [⟨o,6,1,3600,d9⟩] (by simp) (by intro r hr;simp at hr;subst hr;exact⟨by show o.size<=1000;omega,hd⟩) _ _ X8.d.gr (bS.aS aIw);refine hK.out _ _ X8.z fun aO=>?_;clear hK K X7 Y7 aIw;refine k1 8 rfl fun K hK=>?_
  go_simp;refine pW.mono ?_;rintro e w9 ⟨v9,p9,rfl,nz9,h9,b9'⟩;have X9:=X8.below b9';have Y9:=aB Y8 b9';have z9:=nz9.base (B2:=w.heap.size) X8.d.size;have h9':ZB p9 (N+4):=h9.out.1.up (by simp);obtain⟨ya,yc,rfl⟩:=iV (z9.row (HR.out _ X9.d.gr));have XE:=(X9.set (i:=0) Bo (.string o)).set (i:=1) Bo (.slice ya p9.length yc);have YE:=aI (aI Y9 0 (.string o)) 1 (.slice ya p9.length yc);simp only [List.setIfInBounds_toArray,List.set_cons_zero,List.set_cons_succ] at YE;have zE:=(z9.dL (i:=0) (x:=.string o) Y9 (by decide) (by decide)).dL (i:=1) (x:=.slice ya p9.length yc) (aI Y9 0 (.string o)) (by decide) (by decide);have cY:=fun i=>aA Y9 i
  have fY:=fun i=>aG Y9 i
  clear X8 Y8 pW b9' nz9 h9 z9;go_wp2_with fail
  refine hK.out _ _ X9.z fun aO=>?_;clear hK K;refine k1 9 rfl fun K hK=>?_
  go_simp;refine hK.out _ _ XE.z fun aO=>?_;clear hK K cY fY X9 Y9;refine kN ?_;clear aO
  try go_simp
  have X9r:=XE;have Y9r:=YE;have z9r:=zE;have H9r:=Nm.aF h9';have ry:=fun i=>aA Y9r i
  have rq:=fun i=>aA X9r.q i
  have fq:=fun i=>aG X9r.q i
  have kE:=aI (aI X9r.q 0 (.string o)) 1 (.slice ya (p9).length yc);have rE:=fun i=>aA kE i
  have dE:=(X9r.d.set (b:=w.heap.size+1) (i:=0) (Nat.le_succ _) (.string o)).set (b:=w.heap.size+1) (i:=1) (Nat.le_succ _) (.slice ya (p9).length yc);have zF:=(z9r.dL (i:=0) (x:=.string o) X9r.q (by decide) (by decide)).dL (i:=1) (x:=.slice ya (p9).length yc) (aI X9r.q 0 (.string o)) (by decide) (by decide);have HF:=Nm.aF (aV zF dE);clear kE dE zF;go_wp2;refine gD (v:=.agg #[.string o,.slice ya (p9).length yc]) ?_ rfl ?_
  rotate_left
  ·exact⟨_,_,rfl,HF.out.1,H9r,HF.out.2.s,HF.out.2.gr⟩
  simp [results,Tryz.results26,go_sem,Result.andThen,rE]
