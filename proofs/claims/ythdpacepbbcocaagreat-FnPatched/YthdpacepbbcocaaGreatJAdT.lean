import Derived.Test.YthdpacepbbcocaaGreatAdN
import Derived.Deep.CutBlock
import Derived.Test.YthdpacepbbcocaaGreatJPzD
set_option linter.unusedVariables false
set_option maxRecDepth 100000
set_option maxHeartbeats 6400000
namespace Go.Proofs.YthdpacepbbcocaaGreat
open Go.RowKit
theorem Tryz.aLv:(Tryz.prog.info? 32).map (fun i=>(i.zero,i.size,i.bytes))=some (some (.agg #[.string ByteArray.empty,.int .i64 0,.int .i64 0,.int .i64 0,.string ByteArray.empty,.string ByteArray.empty,.int .i64 0,.int .i64 0,.int .i64 0,.string ByteArray.empty,.slice none 0 0,.slice none 0 0]),12,160):=by kernel_rfl
theorem aOk{ps1 ps2:List Zp}{o1 o2:ByteArray}(h0:(CG ps1 ps2 o1 o2).co=0):pI ps2 o2=true:=by
 cases h:GA ps1 ps2 o1 o2 with
 |true=>simp only [GA,Bool.and_eq_true] at h;exact h.1.2
 |false=>rw [CG,if_pos h] at h0;cases h0
def StZ(o:ByteArray)(v1:Value)(p1:List Zp)(v2:Value)(p2:List Zp)(M:Nat):Prop:=ZB p1 M∧pI p1 o=true∧ZB p2 M∧pI p2 o=true∧((v2=v1∧p2=p1)∨∀ q,v1.ownBlock=some q->v2.ownBlock≠some q)
def StP(w:World)(g:Nat)(a:Option Addr)(n cap:Nat)(e:Ending)(w':World):Prop:=∃ (o:ByteArray) (v1:Value) (p1:List Zp) (v2:Value) (p2:List Zp) (hv:Value),e=.returned (.tuple #[.agg #[.string o,v1],.agg #[.string o,v2],hv])∧o.size<=20∧Hid (StZ o v1 p1 v2 p2 126)∧dH w' w.heap.size v1 p1∧dH w' w.heap.size v2 p2∧Src w' g a n cap∧w.grownBy w' (some g)
structure St (w:World) (g:Nat) (a:Option Addr) (n cap:Nat) (o:ByteArray) (v1:Value) (p1:List Zp) (vz:Value) (pz:List Zp) (zb fb:Nat) (W:World):Prop where
 r6:bG W w.heap.size #[.string ⟨#[]⟩,.slice none 0 0] 25
 r7:bG W (w.heap.size+1) #[.string ⟨#[]⟩,.slice none 0 0] 25
 kz:bG W zb #[.string o,vz] 25
 kf:bG W fb #[.string o,v1] 25
 z1:dH W w.heap.size v1 p1
 zz:dH W w.heap.size vz pz
 d:Dr w g a n cap W
section
variable {w W W1:World}{g n cap zb fb:Nat}{a:Option Addr}{o:ByteArray}{v1 vz:Value}{p1 pz:List Zp}
theorem St.step(h:St w g a n cap o v1 p1 vz pz zb fb W)(hz:w.heap.size+1<zb)(hf:w.heap.size+1<fb)(hs:Src W1 g a n cap)(hg:W.grownBy W1 (some g)):St w g a n cap o v1 p1 vz pz zb fb W1:=by
 have hl:=h.d.lt;have f:∀ {b:Nat},w.heap.size<=b->(some g:Option Nat)≠some b:=fun hb e=>by have:=gQ e;omega
 exact⟨aP h.r6 hg (f (aN _)),aP h.r7 hg (f (by omega)),aP h.kz hg (f (by omega)),aP h.kf hg (f (by omega)),h.z1.dr hg hl,h.zz.dr hg hl,h.d.step hs hg⟩
theorem St.below(h:St w g a n cap o v1 p1 vz pz zb fb W)(hb:Below W.heap.size W W1):St w g a n cap o v1 p1 vz pz zb fb W1:=
 ⟨aB h.r6 hb,aB h.r7 hb,aB h.kz hb,aB h.kf hb,h.z1.below hb,h.zz.below hb,h.d.below hb⟩
theorem St.alloc(h:St w g a n cap o v1 p1 vz pz zb fb W)(x:Obj):St w g a n cap o v1 p1 vz pz zb fb (W.alloc x):=h.below ((aK _ _).alloc (aN _) _)
theorem St.row{hv:Value}{m k:Nat}{xs:List Value}(h:St w g a n cap o v1 p1 vz pz zb fb W)(hr:W.ownsRow w.heap.size 32 k hv m xs)(hg:W.grownBy W1 hv.ownBlock):St w g a n cap o v1 p1 vz pz zb fb W1:=
 ⟨aP h.r6 hg (bW hr h.r6 (by decide)),aP h.r7 hg (bW hr h.r7 (by decide)),aP h.kz hg (bW hr h.kz (by decide)),aP h.kf hg (bW hr h.kf (by decide)),h.z1.other hr (by decide) (by decide) hg,h.zz.other hr (by decide) (by decide) hg,h.d.row hg (fun q hq=>(hr.lt q hq).1)⟩
theorem St.put{vx:Value}{px:List Zp}(h:St w g a n cap o v1 p1 vz pz zb fb W)(hz:w.heap.size+1<zb)(hf:w.heap.size+1<fb)(dQ:zb≠fb)(hx:dH W w.heap.size vx px):St w g a n cap o v1 p1 vx px zb fb ((W.setCell ⟨zb,0,none⟩ (.string o)).setCell ⟨zb,1,none⟩ vx):=by
 refine⟨aW (aW h.r6 (by omega)) (by omega),aW (aW h.r7 (by omega)) (by omega),by simpa using aI (aI h.kz 0 (.string o)) 1 vx,aW (aW h.kf (Ne.symm dQ)) (Ne.symm dQ),?_,?_,(h.d.set (by omega) _).set (by omega) _⟩
 ·exact dH.dL (dH.dL h.z1 h.kz (by decide) (by decide)) (aI h.kz 0 (.string o)) (by decide) (by decide)
 exact dH.dL (dH.dL hx h.kz (by decide) (by decide)) (aI h.kz 0 (.string o)) (by decide) (by decide)
end
theorem aIy{W:World}{B:Nat}{o:ByteArray}{v1 vz v':Value}{p1 pz p':List Zp}{M N:Nat}(h:StZ o v1 p1 vz pz M)(hn:IZ B vz pz W v' p')(h2:∀ q,v1.ownBlock=some q->q<B)(hMN:M<=N)(hB:ZB p' N)(hz:pI p' o=true):StZ o v1 p1 v' p' N:=by
 refine⟨h.1.up hMN,h.2.1,hB,hz,?_⟩
 rcases hn with⟨rfl,rfl⟩|hn
 ·exact h.2.2.2.2
 right;intro q hq e;have:=h2 q hq;have:=(hn.outer.lt q e).1;omega
theorem IZ.own{B C:Nat}{v v1:Value}{ps ps1:List Zp}{w:World}(h:IZ B v ps w v1 ps1)(hz:dH w C v ps)(hB:C<=B):dH w C v1 ps1:=by
 rcases h with⟨rfl,rfl⟩|h
 ·exact hz
 exact h.base hB
theorem Jd(g:Nat)(a:Option Addr)(n cap parts nn:Nat)(w:World)(hs:Src w g a n cap)(hp:parts<=38)(hn:nn<=2):
 Calls Tryz.prog 10 #[.pointer (some ⟨g,0,none⟩),.int .i64 (parts:Int),.int .i64 (nn:Int)] w (StP w g a n cap):=by
 obtain⟨i0,hi,iJ,fP,fZ⟩:=info_parts Tryz.aLv;have k6:=aR (aH w #[.string ⟨#[]⟩,.slice none 0 0] 25) (.cells #[.string ⟨#[]⟩,.slice none 0 0] 25);have k7:=aH (w.alloc (.cells #[.string ⟨#[]⟩,.slice none 0 0] 25)) #[.string ⟨#[]⟩,.slice none 0 0] 25;rw [fV] at k7;have D0:=((Dr.start hs).alloc (.cells #[.string ⟨#[]⟩,.slice none 0 0] 25)).alloc (.cells #[.string ⟨#[]⟩,.slice none 0 0] 25);have ZJ:=D0.lt;clear hs;go_enter Tryz.func10,Tryz.ntmps10;go_wp2_with fail
 refine(SI g a n cap parts _ D0.s (by omega)).mono ?_;rintro e w1 ⟨o,v,ps,rfl,ho,⟨hB,⟨hpp,hV⟩,CR⟩,hz,nJ,rP⟩;obtain⟨va,vc,rfl⟩:=aT hz.outer;have hzk:pI ps o=true:=by obtain⟨L9,hv1,FI⟩:=hV;exact(YR hv1 FI).2
 have D1:=D0.step nJ rP;have k61:=aP k6 rP (fun e=>by have:=gQ e;omega);have k71:=aP k7 rP (fun e=>by have:=gQ e;omega);have aOl:=hz.base (B':=w.heap.size) (by simp;omega);have CJ:w.heap.size+1<w1.heap.size:=bU k71
 have S1:St w g a n cap o (.slice va ps.length vc) ps (.slice va ps.length vc) ps w1.heap.size (w1.heap.size+1) ((w1.alloc (.cells #[.string o,.slice va ps.length vc] 25)).alloc (.cells #[.string o,.slice va ps.length vc] 25)):=by
  have kf:=aH (w1.alloc (.cells #[.string o,.slice va ps.length vc] 25)) #[.string o,.slice va ps.length vc] 25;rw [fV] at kf;have b2:=((aK w1.heap.size w1).alloc (aN _) (.cells #[.string o,.slice va ps.length vc] 25)).alloc (by simp) (.cells #[.string o,.slice va ps.length vc] 25);exact⟨aB k61 b2,aB k71 b2,aR (aH w1 _ _) _,kf,aOl.below b2,aOl.below b2,D1.below b2⟩
 have o1:=World.ownsRow_lit (base:=w.heap.size) (e:=32) (size:=12) ((w1.alloc (.cells #[.string o,.slice va ps.length vc] 25)).alloc (.cells #[.string o,.slice va ps.length vc] 25)) #[] 0 (by simp;omega) (by decide) rfl;have S2:=S1.alloc (.cells #[] 32);have rz1:=fun i=>aA (aH w1 #[.string o,.slice va ps.length vc] 25) i
 have HZ1:Hid (StZ o (.slice va ps.length vc) ps (.slice va ps.length vc) ps 117):=⟨hB.up (by omega),hzk,hB.up (by omega),hzk,.inl ⟨rfl,rfl⟩⟩;simp only [fV] at o1;clear D0 D1 k6 k7 k61 k71 nJ rP hz aOl S1 hB hpp hV hzk;go_wp2_with fail
 have hwz:w.heap.size+1<w1.heap.size+1:=by omega
 have dQ:w1.heap.size≠w1.heap.size+1:=by omega
 clear rz1;generalize w1.heap.size=zb at*
 go_loopw [11,12] (fun hv iv wr=>∃ (j m:Nat) (xs:List Value) (vz:Value) (pz:List Zp),j<=nn∧iv=.int .i64 (j:Int)∧m<=j∧wr.ownsRow w.heap.size 32 12 hv m xs∧Hid (StZ o (.slice va ps.length vc) ps vz pz (117+4*j))∧St w g a n cap o (.slice va ps.length vc) ps vz pz zb (zb+1) wr) (fun _ i _=>nn-(intOf i).toNat)
 case atStart=>exact⟨0,0,[],_,ps,dO _,rfl,aN _,o1,HZ1.out,S2⟩
 obtain⟨j,m,xs,vz,pz,hj,rfl,hm,oH,HZ,S⟩:=hrel;clear o1 S2 HZ1;obtain⟨ha,hc,rfl⟩:=aT oH;obtain⟨za,zc,rfl⟩:=aT S.zz.outer;have rz:=fun i=>aA S.kz i
 by_cases bV:j<nn
 ·have i2:(j:Int)<(nn:Int):=by omega
  have Lj:=Rz g a n cap o (.slice za pz.length zc) pz (117+4*j) wr S.d.s (S.zz.gr ZJ) HZ.out.2.2.1 (by omega) HZ.out.2.2.2.1 CR ho;have aOm:∀ q,(Value.slice va ps.length vc).ownBlock=some q->q<wr.heap.size:=fun q hq=>(S.z1.outer.lt q hq).2
  have hwr:=S.d.size;go_wp2_with fail
  refine Lj.mono ?_;rintro e w3 ⟨v',p',rfl,nz,JD,qD,iA⟩;have S3:=S.step CJ hwz qD iA;have oH3:=S.d.keep oH iA;obtain⟨ya,yc,rfl⟩:=iV (nz.row S3.zz.BQ);have S4:=S3.alloc (.cells #[.string o,.slice ya p'.length yc] 25);have oH4:=oH3.alloc (.cells #[.string o,.slice ya p'.length yc] 25);have kn4:=aH w3 #[.string o,.slice ya p'.length yc] 25;have nz4:=nz.below ((aK w3.heap.size w3).alloc (aN _) (.cells #[.string o,.slice ya p'.length yc] 25));have HB1:=Nm.aF HZ.out.2.2.1;have hdz:=yY o o (.slice za pz.length zc) (.slice ya p'.length yc) pz p' _ S4.zz.BQ (nz4.row S4.zz.BQ) (HB1.out.sum (by omega)) (JD.out.sum (by omega)) (HB1.out.Bu (by omega)) (JD.out.Bu (by omega)) (HB1.out.fit (by omega)) (JD.out.fit (by omega)) (by omega) (by omega);have HDZ:=Nm.aF (aOk (ps1:=pz) (ps2:=p') (o1:=o) (o2:=o));have rz4:=fun i=>aA S4.kz i
  have rn4:=fun i=>aA kn4 i
  have Bo:w.heap.size+1<w3.heap.size:=bU S3.r7;generalize CG pz p' o o=Z at*;obtain⟨co,⟨q0,q1,q2,q3,q4⟩,⟨r0,r1,r2,r3,r4⟩,del,add⟩:=Z;simp only at HDZ
  clear Lj S S3 oH oH3 nz qD iA rz;go_wp2_with fail
  refine hdz.mono ?_;rintro e w5 ⟨d9,a9,rfl,⟨M9,-,od9,oa9,-⟩,b5⟩;obtain⟨da,dc,rfl⟩:=aT od9;obtain⟨aa,ac,rfl⟩:=aT oa9;simp only
  generalize del.length=dn at*;generalize add.length=an at*;have S6:=(S4.below b5).alloc (.cells #[.string q0,.int .i64 q1,.int .i64 q2,.int .i64 q3,.string q4,.string r0,.int .i64 r1,.int .i64 r2,.int .i64 r3,.string r4,.slice da dn dc,.slice aa an ac] 32);have oH6:=(own_below oH4 b5).alloc (.cells #[.string q0,.int .i64 q1,.int .i64 q2,.int .i64 q3,.string q4,.string r0,.int .i64 r1,.int .i64 r2,.int .i64 r3,.string r4,.slice da dn dc,.slice aa an ac] 32);have kn6:=aR (aB kn4 b5) (.cells #[.string q0,.int .i64 q1,.int .i64 q2,.int .i64 q3,.string q4,.string r0,.int .i64 r1,.int .i64 r2,.int .i64 r3,.string r4,.slice da dn dc,.slice aa an ac] 32);have nz6:=(nz4.below b5).below ((aK w5.heap.size w5).alloc (aN _) (.cells #[.string q0,.int .i64 q1,.int .i64 q2,.int .i64 q3,.string q4,.string r0,.int .i64 r1,.int .i64 r2,.int .i64 r3,.string r4,.slice da dn dc,.slice aa an ac] 32));have YN:=aH w5 #[.string q0,.int .i64 q1,.int .i64 q2,.int .i64 q3,.string q4,.string r0,.int .i64 r1,.int .i64 r2,.int .i64 r3,.string r4,.slice da dn dc,.slice aa an ac] 32;clear hdz od9 oa9 b5 S4 oH4 kn4 nz4 rz4 rn4;go_upto_region 9 with fail
  generalize hcb:w5.heap.size=cb at*;clear hcb;generalize w5.alloc (.cells #[.string q0,.int .i64 q1,.int .i64 q2,.int .i64 q3,.string q4,.string r0,.int .i64 r1,.int .i64 r2,.int .i64 r3,.string r4,.slice da dn dc,.slice aa an ac] 32)=W6 at*
  by_cases h0:co=0
  ·subst h0;have hzk:=HDZ.out rfl;have HZ2:=Nm.aF (aIy HZ.out nz6 aOm (N:=117+4*(j+1)) (by omega) (JD.out.up (by omega)) hzk);have rc6:=fun i=>aA YN i
   have h6:=S6.d.size;clear HDZ HZ JD HB1;go_wp2_with (at_builtin;refine wpList_append_own _ rfl (.tmp 37) (.tmp 39) 43 rfl w.heap.size 32 i0 _ 12 160 Tryz.underlying43 hi iJ fP fZ rfl (by decide) _ _ _ rfl (oH6.alloc _) ⟨W6.heap.size,0,none⟩ 1 1 [.string q0,.int .i64 q1,.int .i64 q2,.int .i64 q3,.string q4,.string r0,.int .i64 r1,.int .i64 r2,.int .i64 r3,.string r4,.slice da dn dc,.slice aa an ac] rfl rfl (dU W6 #[.string q0,.int .i64 q1,.int .i64 q2,.int .i64 q3,.string q4,.string r0,.int .i64 r1,.int .i64 r2,.int .i64 r3,.string r4,.slice da dn dc,.slice aa an ac] 32) (by intro u hu;simp at hu;rcases hu with rfl|rfl|rfl|rfl|rfl|rfl|rfl|rfl|rfl|rfl|rfl|rfl<;>rfl) (by unfold maxLen;omega) (by omega) (by simp;omega) ?_)
   intro v9 w9 gZ iF _;have S8:=S6.alloc (.cells #[.string q0,.int .i64 q1,.int .i64 q2,.int .i64 q3,.string q4,.string r0,.int .i64 r1,.int .i64 r2,.int .i64 r3,.string r4,.slice da dn dc,.slice aa an ac] 32);have oH8:=oH6.alloc (.cells #[.string q0,.int .i64 q1,.int .i64 q2,.int .i64 q3,.string q4,.string r0,.int .i64 r1,.int .i64 r2,.int .i64 r3,.string r4,.slice da dn dc,.slice aa an ac] 32);have S9:=S8.row oH8 iF;have kn9:=aP (aR kn6 (.cells #[.string q0,.int .i64 q1,.int .i64 q2,.int .i64 q3,.string q4,.string r0,.int .i64 r1,.int .i64 r2,.int .i64 r3,.string r4,.slice da dn dc,.slice aa an ac] 32)) iF (bW oH6 kn6 (by decide));have nz9:IZ wr.heap.size (.slice za pz.length zc) pz w9 (.slice ya p'.length yc) p':=(nz6.below ((aK W6.heap.size W6).alloc (aN _) (.cells #[.string q0,.int .i64 q1,.int .i64 q2,.int .i64 q3,.string q4,.string r0,.int .i64 r1,.int .i64 r2,.int .i64 r3,.string r4,.slice da dn dc,.slice aa an ac] 32))).imp id (fun h=>h.other oH8 (by decide) (by decide) iF);have SE:=S9.put CJ hwz dQ (nz9.own S9.zz hwr);have aMd:=NG (x:=.slice ya p'.length yc) (i:=1) (NG (x:=.string o) (i:=0) gZ S9.kz (by decide)) (aI S9.kz 0 (.string o)) (by decide);have HE:=Nm.aF (aV SE aMd);have rn9:=fun i=>aA kn9 i
   have rz9:=fun i=>aA S9.kz i
   have fz9:=fun i=>aG S9.kz i
   clear SE aMd S9 S8 oH8 oH6 S6 nz9 nz6 kn9 kn6 gZ iF YN rc6 aOm;go_wp2;go_roundw
   case rel=>exact⟨j+1,m+1,_,_,p',bV,by go_num,by omega,HE.out.2,HZ2,HE.out.1⟩
   simp [intOf];omega
  have n0:(co==0)=false:=by rw [dC];exact h0
  have HZ2:Hid (StZ o (.slice va ps.length vc) ps (.slice za pz.length zc) pz (117+4*(j+1))):=⟨HZ.out.1.up (by omega),HZ.out.2.1,HZ.out.2.2.1.up (by omega),HZ.out.2.2.2⟩;clear h0 HDZ HZ JD HB1 YN kn6 nz6 aOm;go_wp2;go_roundw
  case rel=>exact⟨j+1,m,xs,_,pz,bV,by go_num,by omega,oH6,HZ2,S6⟩
  simp [intOf];omega
 have KA:j=nn:=by omega
 subst KA;have i3:¬(j:Int)<(j:Int):=by omega
 have SD:=S.below (aK _ wr).drew;clear S oH;go_wp2_with fail
 refine kR (fun X=>bG X zb #[.string o,.slice za pz.length zc] 25∧bG X (zb+1) #[.string o,.slice va ps.length vc] 25) 1000 ⟨SD.kz,SD.kf⟩ fun aO=>?_;clear rz;generalize wr.drew=WD at*;refine kP 0 rfl ?_;refine kP 1 rfl ?_;refine kP 2 rfl ?_;have e1:w.heap.size+1≠w.heap.size:=by omega
 have e2:w.heap.size≠w.heap.size+1:=by omega
 have zbA:=aW (c:=w.heap.size) (i:=1) (v:=.slice va ps.length vc) (aW (c:=w.heap.size) (i:=0) (v:=.string o) SD.kz (by omega)) (by omega);have fbA:=aW (c:=w.heap.size) (i:=1) (v:=.slice va ps.length vc) (aW (c:=w.heap.size) (i:=0) (v:=.string o) SD.kf (by omega)) (by omega);have k6A:=aI (aI SD.r6 0 (.string o)) 1 (.slice va ps.length vc);simp only [List.setIfInBounds_toArray,List.set_cons_zero,List.set_cons_succ] at k6A;have k7A:=aW (c:=w.heap.size) (i:=1) (v:=.slice va ps.length vc) (aW (c:=w.heap.size) (i:=0) (v:=.string o) SD.r7 e1) e1;have z1A:=dH.dL (x:=.slice va ps.length vc) (i:=1) (dH.dL (x:=.string o) (i:=0) SD.z1 SD.r6 (by decide) (by decide)) (aI SD.r6 0 (.string o)) (by decide) (by decide);have zzA:=dH.dL (x:=.slice va ps.length vc) (i:=1) (dH.dL (x:=.string o) (i:=0) SD.zz SD.r6 (by decide) (by decide)) (aI SD.r6 0 (.string o)) (by decide) (by decide);have dA:=(SD.d.set (b:=w.heap.size) (i:=0) (aN _) (.string o)).set (b:=w.heap.size) (i:=1) (aN _) (.slice va ps.length vc);have zbB:=aW (c:=w.heap.size+1) (i:=1) (v:=.slice za pz.length zc) (aW (c:=w.heap.size+1) (i:=0) (v:=.string o) zbA (by omega)) (by omega);have fbB:=aW (c:=w.heap.size+1) (i:=1) (v:=.slice za pz.length zc) (aW (c:=w.heap.size+1) (i:=0) (v:=.string o) fbA (by omega)) (by omega);have k7B:=aI (aI k7A 0 (.string o)) 1 (.slice za pz.length zc);have k6B:=aW (c:=w.heap.size+1) (i:=1) (v:=.slice za pz.length zc) (aW (c:=w.heap.size+1) (i:=0) (v:=.string o) k6A e2) e2;have z1B:=dH.dL (x:=.slice za pz.length zc) (i:=1) (dH.dL (x:=.string o) (i:=0) z1A k7A (by decide) (by decide)) (aI k7A 0 (.string o)) (by decide) (by decide);have zzB:=dH.dL (x:=.slice za pz.length zc) (i:=1) (dH.dL (x:=.string o) (i:=0) zzA k7A (by decide) (by decide)) (aI k7A 0 (.string o)) (by decide) (by decide);have dB:=(dA.set (b:=w.heap.size+1) (i:=0) (Nat.le_succ _) (.string o)).set (b:=w.heap.size+1) (i:=1) (Nat.le_succ _) (.slice za pz.length zc);have HE:=Nm.aF (aV z1B (aV zzB dB));have HA:=Nm.aF (aV zbA fbA);have HB2:=Nm.aF (aV zbB fbB);have c6:=fun i=>aA SD.r6 i
 have f6:=fun i=>aG SD.r6 i
 have c7:=fun i=>aA k7A i
 have f7:=fun i=>aG k7A i
 have E6:=fun i=>aA k6B i
 have E7:=fun i=>aA k7B i
 have HZE:Hid (StZ o (.slice va ps.length vc) ps (.slice za pz.length zc) pz 126):=⟨HZ.out.1.up (by omega),HZ.out.2.1,HZ.out.2.2.1.up (by omega),HZ.out.2.2.2⟩;clear zbA fbA k6A k7A z1A zzA dA zbB fbB k7B k6B z1B zzB dB SD HZ;refine k1 3 rfl fun K hK=>?_
 go_simp;refine hK.out _ _ HA.out fun aO=>?_;clear hK K c6 f6;refine k1 4 rfl fun K hK=>?_
 go_simp;refine hK.out _ _ HB2.out fun aO=>?_;clear hK K c7 f7;refine kP 5 rfl ?_;refine kN ?_;clear aO HA HB2
 try go_simp
 go_wp2;refine gD (v:=.tuple #[.agg #[.string o,.slice va ps.length vc],.agg #[.string o,.slice za pz.length zc],.slice ha m hc]) ?_ rfl ?_
 rotate_left
 ·exact⟨_,_,ps,_,pz,_,rfl,ho,HZE,HE.out.1,HE.out.2.1,HE.out.2.2.s,HE.out.2.2.gr⟩
 simp [results,Tryz.results10,go_sem,Result.andThen,E6,E7]
theorem aLw{w W:World}{q:Nat}(h:W.heap[q]? =w.heap[q]?)(hq:q<w.heap.size):q<W.heap.size:=by
 rw [Array.getElem?_eq_getElem hq] at h;exact(Array.getElem?_eq_some_iff.1 h).1
theorem dH.stay{w w':World}{C g:Nat}{v u:Value}{ps qs:List Zp}(h:dH w C v ps)(hu:dH w C u qs)(hf:FrB w g u w')(hg:g<C)(dQ:∀ q,v.ownBlock=some q->u.ownBlock≠some q):XX w' C v ps:=by
 intro W hW
 have f:∀ q,C<=q->q<w.heap.size->u.ownBlock≠some q->(∀ cs,w.heap[q]? ≠some (.cells cs 25 (0,0)))->W.heap[q]? =w.heap[q]? :=fun q h1 h2 h3 h5=>by
  have h4:=hf q h2 (by omega) h3;exact(hW q h1 (aLw h4 h2) fun cs hc=>h5 cs (h4.symm.trans hc)).trans h4
 refine⟨bS.aS (Hz h.outer fun q hq=>f q (h.outer.lt q hq).1 (h.outer.lt q hq).2 (dQ q hq) fun cs hc=>bW h.outer hc (by decide) hq),fun p hp=>?_⟩;obtain⟨i,hi⟩:=List.getElem?_of_mem hp;have mK:=h.inner i p hi;exact Nm.dX.aS (Hz mK fun q hq=>f q (mK.lt q hq).1 (mK.lt q hq).2 (fun e=>jO mK hu.outer (by decide) q e hq) fun cs hc=>bW mK hc (by decide) hq)
theorem GD{w w':World}{g b C:Nat}{u:Value}{qs:List Zp}{cs:Array Value}(hk:bG w b cs 25)(hf:FrB w g u w')(hu:dH w C u qs)(hb:b≠g):bG w' b cs 25:=by
 unfold bG;rw [hf b (bU hk) hb (bW hu.outer hk (by decide))];exact hk
def DdP(w:World)(e:Ending)(w':World):Prop:=∃ (oa ob:ByteArray) (va vb:Value) (pa pb:List Zp),e=.returned (.tuple #[.agg #[.string oa,va],.agg #[.string ob,vb]])∧(oa.size<=2000∧ob.size<=2000)∧(ZL pa∧ZL pb)∧XX w' w.heap.size va pa∧XX w' w.heap.size vb pb∧Below w.heap.size w w'
theorem aBh{ps:List Zp}{o:ByteArray}(hz:pI ps o=true):0<ps.length:=by
 obtain⟨s,ds,-,-,-,f4⟩:=Ip hz;obtain⟨p,hp,-⟩:=lS f4;exact List.length_pos_of_mem hp
structure Dd (w:World) (C ab bb:Nat) (oa ob:ByteArray) (va vb:Value) (pa pb:List Zp) (W:World):Prop where
 r2:bG W w.heap.size #[.string ⟨#[]⟩,.slice none 0 0] 25
 r3:bG W (w.heap.size+1) #[.string ⟨#[]⟩,.slice none 0 0] 25
 ka:bG W ab #[.string oa,va] 25
 kb:bG W bb #[.string ob,vb] 25
 ha:oa.size<=2000
 hb:ob.size<=2000
 la:ZL pa
 lb:ZL pb
 za:XX W C va pa
 zb:XX W C vb pb
 b:Below w.heap.size w W
section
variable {w W W1:World}{C ab bb:Nat}{oa ob:ByteArray}{va vb:Value}{pa pb:List Zp}
theorem Dd.below(h:Dd w C ab bb oa ob va vb pa pb W)(hb:Below W.heap.size W W1):Dd w C ab bb oa ob va vb pa pb W1:=
 ⟨aB h.r2 hb,aB h.r3 hb,aB h.ka hb,aB h.kb hb,h.ha,h.hb,h.la,h.lb,h.za.below hb,h.zb.below hb,Nm.aC h.b hb⟩
theorem Dd.aUa{o:ByteArray}{v:Value}{ps:List Zp}(h:Dd w C ab bb oa ob va vb pa pb W)(h1:w.heap.size+1<ab)(dQ:ab≠bb)(ho:o.size<=2000)(hl:ZL ps)(hz:XX W C v ps):Dd w C ab bb o ob v vb ps pb ((W.setCell ⟨ab,0,none⟩ (.string o)).setCell ⟨ab,1,none⟩ v):=
 ⟨aW (aW h.r2 (by omega)) (by omega),aW (aW h.r3 (by omega)) (by omega),by simpa using aI (aI h.ka 0 (.string o)) 1 v,aW (aW h.kb (Ne.symm dQ)) (Ne.symm dQ),ho,h.hb,hl,h.lb,(hz.dL h.ka).dL (aI h.ka 0 (.string o)),(h.zb.dL h.ka).dL (aI h.ka 0 (.string o)),(h.b.setCell (p:=⟨ab,0,none⟩) (by show w.heap.size<=ab;omega) _).setCell (p:=⟨ab,1,none⟩) (by show w.heap.size<=ab;omega) _⟩
theorem Dd.aSo{o:ByteArray}{v:Value}{ps:List Zp}(h:Dd w C ab bb oa ob va vb pa pb W)(h1:w.heap.size+1<bb)(dQ:ab≠bb)(ho:o.size<=2000)(hl:ZL ps)(hz:XX W C v ps):Dd w C ab bb oa o va v pa ps ((W.setCell ⟨bb,0,none⟩ (.string o)).setCell ⟨bb,1,none⟩ v):=
 ⟨aW (aW h.r2 (by omega)) (by omega),aW (aW h.r3 (by omega)) (by omega),aW (aW h.ka dQ) dQ,by simpa using aI (aI h.kb 0 (.string o)) 1 v,h.ha,ho,h.la,hl,(h.za.dL h.kb).dL (aI h.kb 0 (.string o)),(hz.dL h.kb).dL (aI h.kb 0 (.string o)),(h.b.setCell (p:=⟨bb,0,none⟩) (by show w.heap.size<=bb;omega) _).setCell (p:=⟨bb,1,none⟩) (by show w.heap.size<=bb;omega) _⟩
end
theorem OB(a:Option Addr)(n cap:Nat)(w:World)(h:KM w a n)(hn:n<=1048576):
 Calls Tryz.prog 4 #[.slice a n cap] w (DdP w):=by
 have k2:=aR (aH w #[.string ⟨#[]⟩,.slice none 0 0] 25) (.cells #[.string ⟨#[]⟩,.slice none 0 0] 25);have k3:=aH (w.alloc (.cells #[.string ⟨#[]⟩,.slice none 0 0] 25)) #[.string ⟨#[]⟩,.slice none 0 0] 25;rw [fV] at k3;have b0:=((aK w.heap.size w).alloc (aN _) (.cells #[.string ⟨#[]⟩,.slice none 0 0] 25)).alloc (by simp) (.cells #[.string ⟨#[]⟩,.slice none 0 0] 25);go_enter Tryz.func4,Tryz.ntmps4;go_wp2_with fail
 refine(Gv a n cap _ (XH h b0) hn).mono ?_;rintro e w1 ⟨st,rfl,b1⟩;have b01:=Nm.aC b0 b1;have nJ:=aG3 (cap:=cap) (XH h b01) hn st;have b1A:=b01.alloc b01.size (.cells #[.slice a n cap,.int .i64 0,.int .u64 st] 41 (0,0));have k21:=aR (aB k2 b1) (.cells #[.slice a n cap,.int .i64 0,.int .u64 st] 41 (0,0));have k31:=aR (aB k3 b1) (.cells #[.slice a n cap,.int .i64 0,.int .u64 st] 41 (0,0));obtain⟨g,hg⟩:∃ g,g=w1.heap.size:=⟨_,rfl⟩;have hgw:w.heap.size+1<g:=by have:=bU (aB k3 b1);omega
 rw [<- hg] at nJ;clear k2 k3 b1 b01 h b0;go_wp2_with fail
 rw [<- hg];clear hg;refine(aY g a n cap 9 _ nJ (by decide)).mono ?_;rintro e w2 ⟨r,rfl,r0,r1,oI,oN⟩;have r2:=r1 (by decide);obtain⟨m,rfl⟩:=Int.eq_ofNat_of_zero_le r0;have b2:=b1A.grown oN b1A.size (fun k hk=>by simp at hk;omega);have k22:=aP k21 oN (by intro e;simp at e;omega);have k32:=aP k31 oN (by intro e;simp at e;omega);clear nJ oN b1A k21 k31 r1 r0;go_wp2_with fail
 refine(Ia a n cap w2 hn).mono ?_;rintro e w3 ⟨k,rfl,hk,rfl⟩;obtain⟨M,HM⟩:∃ M:Nat,Hid (M=m+k):=⟨_,rfl⟩
 have hmk:IntKind.i64.wrap ((m:Int)+(k:Int))=(M:Int):=by
  have:=HM.out;rw [Go.wrap_small _ (by omega) (by omega)];omega
 have hM:M<=38:=by
  have:=HM.out;omega
 go_wp2_with fail
 refine(aY g a n cap 2 _ oI (by decide)).mono ?_;rintro e w4 ⟨r,rfl,r0,r1,VX,QY⟩;have r3:=r1 (by decide);have ZJ:=(uH VX).2;obtain⟨c,rfl⟩:=Int.eq_ofNat_of_zero_le r0;obtain⟨NN,HN⟩:∃ NN:Nat,Hid (NN=1+c):=⟨_,rfl⟩
 have hcn:IntKind.i64.wrap (1+(c:Int))=(NN:Int):=by
  have:=HN.out;rw [Go.wrap_small _ (by omega) (by omega)];omega
 have hNN:NN<=2:=by
  have:=HN.out;omega
 have b4:=b2.grown QY b2.size (fun k hk=>by simp at hk;omega);have k24:=aP k22 QY (by intro e;simp at e;omega);have k34:=aP k32 QY (by intro e;simp at e;omega);clear oI QY b2 k22 k32 r0 r1 r2 r3;go_wp2_with fail
 refine(Jd g a n cap M NN w4 VX (by omega) hNN).mono ?_;rintro e w5 ⟨o,v1,p1,v2,p2,hv,rfl,ho,HZ,z1,z2,WP,PI⟩;obtain⟨y1,x1,rfl⟩:=aT z1.outer;obtain⟨y2,x2,rfl⟩:=aT z2.outer;have D5:=(Dr.start VX).step WP PI;have b5:=b4.grown PI b4.size (fun k hk=>by simp at hk;omega);have k25:=aP k24 PI (by intro e;simp at e;omega);have k35:=aP k34 PI (by intro e;simp at e;omega);have qG:=((aK w5.heap.size w5).alloc (aN _) (.cells #[.string o,.slice y1 p1.length x1] 25)).alloc (by simp) (.cells #[.string o,.slice y2 p2.length x2] 25);have hab:w.heap.size+1<w5.heap.size:=bU k35;have hwC:w.heap.size<=w4.heap.size:=b4.size;have hCa:w4.heap.size<=w5.heap.size:=PI.size;have kb6:=aH (w5.alloc (.cells #[.string o,.slice y1 p1.length x1] 25)) #[.string o,.slice y2 p2.length x2] 25;rw [fV] at kb6;have ka6:=aR (aH w5 #[.string o,.slice y1 p1.length x1] 25) (.cells #[.string o,.slice y2 p2.length x2] 25);have k26:=aB k25 qG;have k36:=aB k35 qG;have z16:=z1.below qG;have z26:=z2.below qG;have D6:=D5.below qG;clear k24 k34 k25 k35 z1 z2 D5 b5 qG VX WP PI hmk hcn;go_wp2_with fail
 refine(aY g a n cap 8 _ D6.s (by decide)).mono ?_;rintro e w7 ⟨q,rfl,q0,q1,hs7,hg7⟩;have q2:=q1 (by decide);have k27:=aP k26 hg7 (by intro e;simp at e;omega);have k37:=aP k36 hg7 (by intro e;simp at e;omega);have Jl:g<w4.heap.size:=ZJ;have ka7:=aP ka6 hg7 (by intro e;simp at e;omega);have kb7:=aP kb6 hg7 (by intro e;simp at e;omega);have z17:=z16.dr hg7 Jl;have z27:=z26.dr hg7 Jl;have D7:=D6.step hs7 hg7;have HL:∀ {ps:List Zp},ZB ps 126->ZL ps:=fun h=>h.zt.zl (by omega)
 clear k26 k36 ka6 kb6 z16 z26 D6 hs7 hg7 q1;generalize w5.heap.size=ab at*
 have L7:Dd w w4.heap.size ab (ab+1) o o (.slice y1 p1.length x1) (.slice y2 p2.length x2) p1 p2 w7:=
  ⟨k27,k37,ka7,kb7,by omega,by omega,HL HZ.out.1,HL HZ.out.2.2.1,z17.has.kx,z27.has.kx,b4.grown D7.gr b4.size (fun k hk=>by simp at hk;omega)⟩
 have HB:Hid (∀ W,Dr w4 g a n cap W->Below w.heap.size w W):=fun W hW=>b4.grown hW.gr b4.size (fun k hk=>by simp at hk;omega)
 clear k27 k37 ka7 kb7 HL b4;go_upto_block 0 with fail
 go_cut [22] from 23 (fun _ wx=>∃ (oa ob:ByteArray) (va vb:Value) (pa pb:List Zp),Dd w w4.heap.size ab (ab+1) oa ob va vb pa pb wx)
 case first=>
  rcases(by omega:q=0∨q=1∨q=2∨q=3∨4<=q) with rfl|rfl|rfl|rfl|hq
  ·clear z17 z27 D7 HB;have LD:=(L7).below (aK _ _).drew;go_wp2_with fail
   refine kR (fun X=>bG X ab #[.string o,(.slice y1 p1.length x1)] 25∧bG X (ab+1) #[.string o,(.slice y2 p2.length x2)] 25) 1000 ⟨LD.ka,LD.kb⟩ fun aO=>?_;generalize (w7).drew=WD at*;refine kP 0 rfl ?_;refine kP 1 rfl ?_;have e1:w.heap.size+1≠w.heap.size:=by omega
   have e2:w.heap.size≠w.heap.size+1:=by omega
   have kaA:=aW (c:=w.heap.size) (i:=1) (v:=(.slice y2 p2.length x2)) (aW (c:=w.heap.size) (i:=0) (v:=.string o) LD.ka (by omega)) (by omega);have kbA:=aW (c:=w.heap.size) (i:=1) (v:=(.slice y2 p2.length x2)) (aW (c:=w.heap.size) (i:=0) (v:=.string o) LD.kb (by omega)) (by omega);have k2A:=aI (aI LD.r2 0 (.string o)) 1 (.slice y2 p2.length x2);simp only [List.setIfInBounds_toArray,List.set_cons_zero,List.set_cons_succ] at k2A;have Sa:=aW (c:=w.heap.size) (i:=1) (v:=(.slice y2 p2.length x2)) (aW (c:=w.heap.size) (i:=0) (v:=.string o) LD.r3 e1) e1;have kaB:=aW (c:=w.heap.size+1) (i:=1) (v:=(.slice y1 p1.length x1)) (aW (c:=w.heap.size+1) (i:=0) (v:=.string o) kaA (by omega)) (by omega);have kbB:=aW (c:=w.heap.size+1) (i:=1) (v:=(.slice y1 p1.length x1)) (aW (c:=w.heap.size+1) (i:=0) (v:=.string o) kbA (by omega)) (by omega);have k3B:=aI (aI Sa 0 (.string o)) 1 (.slice y1 p1.length x1);have k2B:=aW (c:=w.heap.size+1) (i:=1) (v:=(.slice y1 p1.length x1)) (aW (c:=w.heap.size+1) (i:=0) (v:=.string o) k2A e2) e2;have zaB:=(((LD.za.dL (i:=0) (x:=.string o) LD.r2).dL (i:=1) (x:=(.slice y2 p2.length x2)) (aI LD.r2 0 (.string o))).dL (i:=0) (x:=.string o) Sa).dL (i:=1) (x:=(.slice y1 p1.length x1)) (aI Sa 0 (.string o));have zbB:=(((LD.zb.dL (i:=0) (x:=.string o) LD.r2).dL (i:=1) (x:=(.slice y2 p2.length x2)) (aI LD.r2 0 (.string o))).dL (i:=0) (x:=.string o) Sa).dL (i:=1) (x:=(.slice y1 p1.length x1)) (aI Sa 0 (.string o));have bB:=(((LD.b.setCell (p:=⟨w.heap.size,0,none⟩) (aN _) (.string o)).setCell (p:=⟨w.heap.size,1,none⟩) (aN _) (.slice y2 p2.length x2)).setCell (p:=⟨w.heap.size+1,0,none⟩) (Nat.le_succ _) (.string o)).setCell (p:=⟨w.heap.size+1,1,none⟩) (Nat.le_succ _) (.slice y1 p1.length x1);have HE:=Nm.aF (aV (zaB.base hwC) (aV (zbB.base hwC) (aV bB (aV (aV LD.ha LD.hb) (aV LD.la LD.lb)))));have HA:=Nm.aF (aV kaA kbA);have HB2:=Nm.aF (aV kaB kbB);have c6:=fun i=>aA LD.r2 i
   have f6:=fun i=>aG LD.r2 i
   have c7:=fun i=>aA Sa i
   have f7:=fun i=>aG Sa i
   have E6:=fun i=>aA k2B i
   have E7:=fun i=>aA k3B i
   clear kaA kbA k2A Sa kaB kbB k3B k2B zaB zbB bB LD;refine k1 2 rfl fun K hK=>?_
   go_simp;refine hK.out _ _ HA.out fun aO=>?_;clear hK K c6 f6;refine k1 3 rfl fun K hK=>?_
   go_simp;refine hK.out _ _ HB2.out fun aO=>?_;clear hK K c7 f7;refine kN ?_;clear aO HA HB2
   try go_simp
   go_wp2;refine gD (v:=.tuple #[.agg #[.string o,(.slice y2 p2.length x2)],.agg #[.string o,(.slice y1 p1.length x1)]]) ?_ rfl ?_
   rotate_left
   ·exact⟨o,o,_,_,p2,p1,rfl,HE.out.2.2.2.1.symm,HE.out.2.2.2.2.symm,HE.out.2.1,HE.out.1,HE.out.2.2.1⟩
   simp [results,Tryz.results4,go_sem,Result.andThen,E6,E7]
  ·go_wp2_with fail
   refine(SI g a n cap 3 w7 D7.s (by omega)).mono ?_;rintro e w8 ⟨o8,v8,p8,rfl,ho8,⟨hB8,-,-⟩,z8,hs8,Jm⟩;obtain⟨y8,x8,rfl⟩:=aT z8.outer;have D8:=D7.step hs8 Jm;have f:∀ {b:Nat},b<g∨g<b->(some g:Option Nat)≠some b:=fun hb e=>by have:=gQ e;omega
   have L8:Dd w w4.heap.size ab (ab+1) o o (.slice y1 p1.length x1) (.slice y2 p2.length x2) p1 p2 w8:=
    ⟨aP L7.r2 Jm (f (by omega)),aP L7.r3 Jm (f (by omega)),aP L7.ka Jm (f (by omega)),aP L7.kb Jm (f (by omega)),L7.ha,L7.hb,L7.la,L7.lb,(z17.dr Jm Jl).has.kx,(z27.dr Jm Jl).has.kx,HB.out _ D8⟩
   have LE:=L8.aSo (o:=o8) (v:=.slice y8 p8.length x8) (ps:=p8) (by omega) (by omega) (by omega) (hB8.zt.zl (by omega)) (z8.has.kx.base D7.size);have kb8:=fun i=>aA L8.kb i
   have fb8:=fun i=>aG L8.kb i
   clear L7 L8 z17 z27 D7 D8 z8 hs8 Jm HB;go_wp2;go_meet;exact⟨_,_,_,_,_,_,LE⟩
  ·have rb7:=fun i=>aA L7.kb i
   go_wp2_with fail
   refine(SH o (.slice y2 p2.length x2) p2 126 w7 D7 z27 HZ.out.2.2.1 (by omega) (aBh HZ.out.2.2.2.1) ho).mono ?_;rintro e w8 ⟨o8,v8,p8,rfl,ho8,hl8,kx8,D8,⟨q8,hlq,kq⟩,fr⟩;obtain⟨y8,x8,rfl⟩:=iV kx8.BQ
   obtain⟨pa,hla,kxa⟩:∃ pa,ZL pa∧XX w8 w4.heap.size (.slice y1 p1.length x1) pa:=by
    rcases HZ.out.2.2.2.2 with⟨e1,-⟩|dQ
    ·exact⟨q8,hlq,by rw [<- e1];exact kq⟩
    exact⟨p1,L7.la,z17.stay z27 fr Jl dQ⟩
   have L8:Dd w w4.heap.size ab (ab+1) o o (.slice y1 p1.length x1) (.slice y2 p2.length x2) pa q8 w8:=
    ⟨GD L7.r2 fr z27 (by omega),GD L7.r3 fr z27 (by omega),GD L7.ka fr z27 (by omega),GD L7.kb fr z27 (by omega),L7.ha,L7.hb,hla,hlq,kxa,kq,HB.out _ D8⟩
   have LE:=L8.aSo (o:=o8) (v:=.slice y8 p8.length x8) (ps:=p8) (by omega) (by omega) ho8 hl8 kx8;have kb8:=fun i=>aA L8.kb i
   have fb8:=fun i=>aG L8.kb i
   clear rb7 L7 L8 z17 z27 D7 D8 kx8 kxa kq fr HB HZ hlq hla;go_wp2;go_meet;exact⟨_,_,_,_,_,_,LE⟩
  ·have rb7:=fun i=>aA L7.ka i
   go_wp2_with fail
   refine(SH o (.slice y1 p1.length x1) p1 126 w7 D7 z17 HZ.out.1 (by omega) (aBh HZ.out.2.1) ho).mono ?_;rintro e w8 ⟨o8,v8,p8,rfl,ho8,hl8,kx8,D8,⟨q8,hlq,kq⟩,fr⟩;obtain⟨y8,x8,rfl⟩:=iV kx8.BQ
   obtain⟨pb,GI,kxb⟩:∃ pb,ZL pb∧XX w8 w4.heap.size (.slice y2 p2.length x2) pb:=by
    rcases HZ.out.2.2.2.2 with⟨e1,-⟩|dQ
    ·exact⟨q8,hlq,by rw [e1];exact kq⟩
    exact⟨p2,L7.lb,z27.stay z17 fr Jl (fun q h2 h1=>dQ q h1 h2)⟩
   have L8:Dd w w4.heap.size ab (ab+1) o o (.slice y1 p1.length x1) (.slice y2 p2.length x2) q8 pb w8:=
    ⟨GD L7.r2 fr z17 (by omega),GD L7.r3 fr z17 (by omega),GD L7.ka fr z17 (by omega),GD L7.kb fr z17 (by omega),L7.ha,L7.hb,hlq,GI,kq,kxb,HB.out _ D8⟩
   have LE:=L8.aUa (o:=o8) (v:=.slice y8 p8.length x8) (ps:=p8) (by omega) (by omega) ho8 hl8 kx8;have kb8:=fun i=>aA L8.ka i
   have fb8:=fun i=>aG L8.ka i
   clear rb7 L7 L8 z17 z27 D7 D8 kx8 kxb kq fr HB HZ hlq GI;go_wp2;go_meet;exact⟨_,_,_,_,_,_,LE⟩
  have n0:(q==0)=false:=by rw [dC];omega
  have n1:(q==1)=false:=by rw [dC];omega
  have n2:(q==2)=false:=by rw [dC];omega
  have n3:(q==3)=false:=by rw [dC];omega
  clear z17 z27 D7 HB hq;go_wp2;go_meet;exact⟨_,_,_,_,_,_,L7⟩
 obtain⟨oa,ob,va,vb,pa,pb,L⟩:=hcut;obtain⟨wx,rfl⟩:∃ x,x=wc:=⟨_,rfl⟩;obtain⟨ca,da,rfl⟩:=iV L.za.BQ;obtain⟨cb,db,rfl⟩:=iV L.zb.BQ;clear L7 z17 z27 D7 HB HZ;have LD:=(L).below (aK _ _).drew;go_wp2_with fail
 refine kR (fun X=>bG X ab #[.string oa,(.slice ca pa.length da)] 25∧bG X (ab+1) #[.string ob,(.slice cb pb.length db)] 25) 1000 ⟨LD.ka,LD.kb⟩ fun aO=>?_;generalize (wx).drew=WD at*;refine kP 0 rfl ?_;refine kP 1 rfl ?_;have e1:w.heap.size+1≠w.heap.size:=by omega
 have e2:w.heap.size≠w.heap.size+1:=by omega
 have kaA:=aW (c:=w.heap.size) (i:=1) (v:=(.slice ca pa.length da)) (aW (c:=w.heap.size) (i:=0) (v:=.string oa) LD.ka (by omega)) (by omega);have kbA:=aW (c:=w.heap.size) (i:=1) (v:=(.slice ca pa.length da)) (aW (c:=w.heap.size) (i:=0) (v:=.string oa) LD.kb (by omega)) (by omega);have k2A:=aI (aI LD.r2 0 (.string oa)) 1 (.slice ca pa.length da);simp only [List.setIfInBounds_toArray,List.set_cons_zero,List.set_cons_succ] at k2A;have Sa:=aW (c:=w.heap.size) (i:=1) (v:=(.slice ca pa.length da)) (aW (c:=w.heap.size) (i:=0) (v:=.string oa) LD.r3 e1) e1;have kaB:=aW (c:=w.heap.size+1) (i:=1) (v:=(.slice cb pb.length db)) (aW (c:=w.heap.size+1) (i:=0) (v:=.string ob) kaA (by omega)) (by omega);have kbB:=aW (c:=w.heap.size+1) (i:=1) (v:=(.slice cb pb.length db)) (aW (c:=w.heap.size+1) (i:=0) (v:=.string ob) kbA (by omega)) (by omega);have k3B:=aI (aI Sa 0 (.string ob)) 1 (.slice cb pb.length db);have k2B:=aW (c:=w.heap.size+1) (i:=1) (v:=(.slice cb pb.length db)) (aW (c:=w.heap.size+1) (i:=0) (v:=.string ob) k2A e2) e2;have zaB:=(((LD.za.dL (i:=0) (x:=.string oa) LD.r2).dL (i:=1) (x:=(.slice ca pa.length da)) (aI LD.r2 0 (.string oa))).dL (i:=0) (x:=.string ob) Sa).dL (i:=1) (x:=(.slice cb pb.length db)) (aI Sa 0 (.string ob));have zbB:=(((LD.zb.dL (i:=0) (x:=.string oa) LD.r2).dL (i:=1) (x:=(.slice ca pa.length da)) (aI LD.r2 0 (.string oa))).dL (i:=0) (x:=.string ob) Sa).dL (i:=1) (x:=(.slice cb pb.length db)) (aI Sa 0 (.string ob));have bB:=(((LD.b.setCell (p:=⟨w.heap.size,0,none⟩) (aN _) (.string oa)).setCell (p:=⟨w.heap.size,1,none⟩) (aN _) (.slice ca pa.length da)).setCell (p:=⟨w.heap.size+1,0,none⟩) (Nat.le_succ _) (.string ob)).setCell (p:=⟨w.heap.size+1,1,none⟩) (Nat.le_succ _) (.slice cb pb.length db);have HE:=Nm.aF (aV (zaB.base hwC) (aV (zbB.base hwC) (aV bB (aV (aV LD.ha LD.hb) (aV LD.la LD.lb)))));have HA:=Nm.aF (aV kaA kbA);have HB2:=Nm.aF (aV kaB kbB);have c6:=fun i=>aA LD.r2 i
 have f6:=fun i=>aG LD.r2 i
 have c7:=fun i=>aA Sa i
 have f7:=fun i=>aG Sa i
 have E6:=fun i=>aA k2B i
 have E7:=fun i=>aA k3B i
 clear kaA kbA k2A Sa kaB kbB k3B k2B zaB zbB bB LD;refine k1 2 rfl fun K hK=>?_
 go_simp;refine hK.out _ _ HA.out fun aO=>?_;clear hK K c6 f6;refine k1 3 rfl fun K hK=>?_
 go_simp;refine hK.out _ _ HB2.out fun aO=>?_;clear hK K c7 f7;refine kN ?_;clear aO HA HB2
 try go_simp
 go_wp2;refine gD (v:=.tuple #[.agg #[.string oa,(.slice ca pa.length da)],.agg #[.string ob,(.slice cb pb.length db)]]) ?_ rfl ?_
 rotate_left
 ·exact⟨oa,ob,_,_,pa,pb,rfl,HE.out.2.2.2.1,HE.out.2.2.2.2,HE.out.1,HE.out.2.1,HE.out.2.2.1⟩
 simp [results,Tryz.results4,go_sem,Result.andThen,E6,E7]
theorem Cb(a:Option Addr)(n cap:Nat)(w:World)(Ty:n<=maxLen)(HD:n<=1048576->Calls Tryz.prog 4 #[.slice a n cap] w (DdP w)):
 Calls Tryz.prog 3 #[.slice a n cap] w fun e w'=>e=.returned (.bool true)∧Below w.heap.size w w':=by
 by_cases hn:1048576<n
 ·have i1:(1048576:Int)<(n:Int):=by omega
  clear HD;go_enter Tryz.func3,Tryz.ntmps3;go_wp2;go_ret;exact⟨rfl,aK _ _⟩
 have i1:¬(1048576:Int)<(n:Int):=by omega
 have hd:=HD (by omega);clear HD hn;go_enter Tryz.func3,Tryz.ntmps3;go_wp2_with fail
 refine hd.mono ?_;rintro e w1 ⟨oa,ob,va,vb,pa,pb,rfl,⟨ha,hb⟩,⟨la,lb⟩,za,zb,b1⟩;obtain⟨xa,ya,rfl⟩:=iV za.BQ;obtain⟨xb,yb,rfl⟩:=iV zb.BQ;have HZ:Hid (∀ W,Below w1.heap.size w1 W->gI W (.slice xa pa.length ya) pa∧gI W (.slice xb pb.length yb) pb):=fun W hW=>⟨(za.below hW).BQ,(zb.below hW).BQ⟩
 have fP:=aSb (ps1:=pa) (ps2:=pb) (o1:=oa) (o2:=ob);have fZ:=fun h=>aLt (ps1:=pa) (ps2:=pb) (o1:=oa) (o2:=ob) h la lb
 have HLA:=Nm.aF la;have HLB:=Nm.aF lb;have bA:=(aK w1.heap.size w1).alloc (aN _) (.cells #[.string oa,.slice xa pa.length ya] 25);have bB:=bA.alloc bA.size (.cells #[.string ob,.slice xb pb.length yb] 25);have ka:=aR (aH w1 #[.string oa,.slice xa pa.length ya] 25) (.cells #[.string ob,.slice xb pb.length yb] 25);have kb:=aH (w1.alloc (.cells #[.string oa,.slice xa pa.length ya] 25)) #[.string ob,.slice xb pb.length yb] 25;rw [fV] at kb;have HF:Hid (∀ p∈pa,p.1.own.size<=1048576∧∀ x∈p.1.da,x.size<=1048576):=fun p hp=>⟨(la.2.2 p hp).1,(la.2.2 p hp).2.2⟩
 have HDS:=Nm.aF (fun W (hW:Below w1.heap.size w1 W)=>yY oa ob (.slice xa pa.length ya) (.slice xb pb.length yb) pa pb W (HZ.out W hW).1 (HZ.out W hW).2 la.1 lb.1 la.2.1 lb.2.1 la.2.2 lb.2.2 (by omega) (by omega));have HDI:=Nm.aF (fun W (hW:Below w1.heap.size w1 W)=>NU oa ob (.slice xa pa.length ya) (.slice xb pb.length yb) pa pb W (HZ.out W hW).1 (HZ.out W hW).2 la.1 lb.1 HF.out (fun p hp=>⟨(lb.2.2 p hp).1,(lb.2.2 p hp).2.2⟩) (by omega) (by omega));generalize CG pa pb oa ob=Z at*;obtain⟨co,⟨q0,q1,q2,q3,q4⟩,⟨r0,r1,r2,r3,r4⟩,del,add⟩:=Z;have H1:=Nm.aF fP;have H2:=Nm.aF fZ;have hds:=HDS.out _ bB;have c3:=fun i=>aA ka i
 have c4:=fun i=>aA kb i
 clear hd za zb bA la lb fP fZ HDS;go_wp2_with fail
 refine hds.mono ?_;rintro e w2 ⟨d2,a2,rfl,⟨M2,-,od2,oa2,-⟩,b2⟩;obtain⟨da2,dc2,rfl⟩:=aT od2;obtain⟨aa2,ac2,rfl⟩:=aT oa2;simp only
 have qG:=b2.alloc b2.size (.cells #[.string q0,.int .i64 q1,.int .i64 q2,.int .i64 q3,.string q4,.string r0,.int .i64 r1,.int .i64 r2,.int .i64 r3,.string r4,.slice da2 del.length dc2,.slice aa2 add.length ac2] 32);have bB2:=Nm.aC bB qG;have ka2:=aB ka qG;have ZH:=aB kb qG;have d3:=fun i=>aA ka2 i
 have d4:=fun i=>aA ZH i
 have hdi:=HDI.out _ bB2;clear hds od2 oa2 b2 qG bB ka kb c3 c4 HDI;go_wp2_with fail
 refine hdi.mono ?_;rintro e w4 ⟨d5,a5,rfl,⟨M5,-,od5,oa5,-⟩,b4⟩;obtain⟨da4,dc4,rfl⟩:=aT od5;obtain⟨aa4,ac4,rfl⟩:=aT oa5;simp only
 have qG:=b4.alloc b4.size (.cells #[.string q0,.int .i64 q1,.int .i64 q2,.int .i64 q3,.string q4,.string r0,.int .i64 r1,.int .i64 r2,.int .i64 r3,.string r4,.slice da4 del.length dc4,.slice aa4 add.length ac4] 32);have bB4:=Nm.aC bB2 qG;have ka4:=aB ka2 qG;have kb4:=aB ZH qG;have kd4:=aH w4 #[.string q0,.int .i64 q1,.int .i64 q2,.int .i64 q3,.string q4,.string r0,.int .i64 r1,.int .i64 r2,.int .i64 r3,.string r4,.slice da4 del.length dc4,.slice aa4 add.length ac4] 32;have od4:=od5.alloc (.cells #[.string q0,.int .i64 q1,.int .i64 q2,.int .i64 q3,.string q4,.string r0,.int .i64 r1,.int .i64 r2,.int .i64 r3,.string r4,.slice da4 del.length dc4,.slice aa4 add.length ac4] 32);have oa4:=oa5.alloc (.cells #[.string q0,.int .i64 q1,.int .i64 q2,.int .i64 q3,.string q4,.string r0,.int .i64 r1,.int .i64 r2,.int .i64 r3,.string r4,.slice da4 del.length dc4,.slice aa4 add.length ac4] 32);have xS:=Nm.aC b1 bB4;have nn:(co != co)=false:=by simp
 clear hdi od5 oa5 b4 qG bB2 ka2 ZH d3 d4
 by_cases h0:co=0
 ·subst h0;obtain⟨rfl,hpt,pG⟩:=H1.out rfl;obtain⟨f1,f2,f3,f4⟩:=H2.out rfl;have hpz:=OA oa (.slice xa pa.length ya) (.slice da4 del.length dc4) (.slice aa4 add.length ac4) pa ⟨q0,q1,q2,q3,q4⟩ ⟨r0,r1,r2,r3,r4⟩ del add _ (HZ.out _ bB4).1 (bS.aS od4) (bS.aS oa4) HLA.out.1 HF.out (by omega) f1 f2 f3 f4;rw [hpt] at hpz;have Ug:=Nm.aF pG;generalize pzL pa ⟨r0,r1,r2,r3,r4⟩ del add=PL at*;have e3:=fun i=>aA ka4 i
  have e4:=fun i=>aA kd4 i
  have e5:=fun i=>aA kb4 i
  have HKB:=Nm.aF (aV kb4 (aV xS bB4));clear hpt pG f1 f2 f3 f4 H1 H2 od4 oa4 ka4 kb4 kd4 xS bB4 HLA HLB HF;generalize del.length=dn at*;generalize add.length=an at*;go_wp2_with fail
  refine hpz.mono ?_;rintro e w6 ⟨oz,vz,rfl,hp,b6⟩;obtain⟨rfl,py,hpy,zy⟩:=hp.1 rfl;obtain⟨xy,yy,rfl⟩:=aT zy.outer;obtain⟨kb4,xS,bB4⟩:=HKB.out;have qG:=(aK w6.heap.size w6).alloc (aN _) (.cells #[.string oz,.slice xy py.length yy] 25);have bB6:=Nm.aC (Nm.aC bB4 b6) qG;have bw6:=Nm.aC (Nm.aC xS b6) qG;have kb6:=aB (aB kb4 b6) qG;have ky6:=aH w6 #[.string oz,.slice xy py.length yy] 25;have hlw:=Ve oz (.slice xy py.length yy) (.slice xb pb.length yb) py pb _ (zy.below qG).BQ (HZ.out _ bB6).2 (by rw [hpy,Ug.out]);have e6:=fun i=>aA kb6 i
  have e7:=fun i=>aA ky6 i
  clear hpz hp zy b6 qG bB6 kb6 ky6 kb4 xS bB4 HKB e3 e4 e5 Ug hpy;go_wp2_with fail
  refine hlw.mono ?_;rintro e w8 ⟨rfl,b8⟩;have bw8:=Nm.aC bw6 b8;clear hlw e6 e7 bw6 b8;go_wp2;go_ret;exact⟨rfl,bw8⟩
 have n0:(co != 0)=true:=by simp [h0]
 clear h0 H1 H2 od4 oa4 ka4 kb4 kd4;go_wp2;go_ret;exact⟨rfl,xS⟩
