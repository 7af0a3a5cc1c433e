import Derived.Test.YtlddifpnkeafpaaGreatJNzP
import Derived.Test.YtlddifpnkeafpaaGreatDwG
import Derived.Test.YtlddifpnkeafpaaGreatDwH
import Derived.Test.YtlddifpnkeafpaaGreatJCzO
set_option linter.unusedVariables false
set_option maxRecDepth 100000
set_option maxHeartbeats 6400000
namespace Go.Proofs.YtlddifpnkeafpaaGreat
open Go.RowKit
theorem e42:([42]:List UInt8)=(⟨#[42]⟩:ByteArray).toList:=by simp [ByteArray.toList_eq]
theorem Ms(g:Nat)(a:Option Addr)(n cap:Nat)(o:ByteArray)(v:Value)(ps:List Zp)(C:Nat)(w:World)(h:Src w g a n cap)(hz:dF w C v ps)(hgC:g<C)(hB:ZB ps 240)(hp:0<ps.length)(ho:o.size<=20)(NS:1<=o.size):
 Calls Tryz.prog 35 #[.pointer (some ⟨g,0,none⟩),.agg #[.string o,v]] w fun e w'=>∃ s:ByteArray,e=.returned (.string s)∧1<=s.size∧s.size<=255∧Src w' g a n cap∧w.grownBy w' (some g):=by
 have HO1:=Nm.aD NS;clear NS;obtain⟨gJ,zD⟩:=qK h;obtain⟨_,va,vc,rfl,gT,kV,hc⟩:=dZ.aP hz.outer;obtain⟨b,off,rfl,aH⟩:=hc hp;have Dj:b≠g:=by have:=(hz.outer.lt b rfl).1;omega
 have D0:=(Dr.start h).alloc (.cells #[.string o,.slice (some ⟨b,off,none⟩) ps.length vc] 25);have k0:=aK w #[.string o,.slice (some ⟨b,off,none⟩) ps.length vc] 25;have XL:(some g:Option Nat)≠some w.heap.size:=by intro e;simp at e;omega
 have HK:Hid (∀ X,(w.alloc (.cells #[.string o,.slice (some ⟨b,off,none⟩) ps.length vc] 25)).grownBy X (some g)->bW X w.heap.size #[.string o,.slice (some ⟨b,off,none⟩) ps.length vc] 25):=fun X hX=>aO k0 hX XL
 have HC:Hid (∀ X,Dr w g a n cap X->∀ (j:Nat) (p:Zp),ps[j]? =some p->X.cell? ⟨b,off+j*4,none⟩=some (.string p.1.own)):=fun X hX j p hj=>hX.cell (iE aH hj).1 Dj
 have HO:Hid (∀ (j:Nat) (p:Zp),ps[j]? =some p->p.1.own.size<=1000):=fun j p hj=>(hB.one p (dA hj)).1
 have nZ:ps.length<=240:=hB.len;have r0:=aA k0
 have n0:((ps.length:Int)==0)=false:=by rw [fC];omega
 clear hc hz hB aH h;go_enter Tryz.func35,Tryz.ntmps35;go_wp2_with fail
 have Ij:Hid (∀ X,Dr w g a n cap X->(w.alloc (.cells #[.string o,.slice (some ⟨b,off,none⟩) ps.length vc] 25)).grownBy X (some g)->X.cell? ⟨w.heap.size,0,none⟩=some (.string o)∧X.cell? ⟨w.heap.size,1,none⟩=some (.slice (some ⟨b,off,none⟩) ps.length vc)∧∀ (j:Nat) (p:Zp),ps[j]? =some p->X.cell? ⟨b,off+j*4,none⟩=some (.string p.1.own)):=fun X hD hX=>⟨(aA (HK.out X hX) 0).trans rfl,(aA (HK.out X hX) 1).trans rfl,HC.out X hD⟩
 have D1:=D0.below (aJ _ _).drew;have g1:(w.alloc (.cells #[.string o,.slice (some ⟨b,off,none⟩) ps.length vc] 25)).grownBy (w.alloc (.cells #[.string o,.slice (some ⟨b,off,none⟩) ps.length vc] 25)).drew (some g):=zN (World.grownBy.refl _ _);clear r0;refine kR (fun X=>X.cell? ⟨w.heap.size,0,none⟩=some (.string o)∧X.cell? ⟨w.heap.size,1,none⟩=some (.slice (some ⟨b,off,none⟩) ps.length vc)∧∀ (j:Nat) (p:Zp),ps[j]? =some p->X.cell? ⟨b,off+j*4,none⟩=some (.string p.1.own)) 1000 (Ij.out _ D1 g1) fun aY=>?_;refine kB 0 rfl ?_;refine kB 1 rfl ?_;refine kB 2 rfl ?_;refine kB 3 rfl ?_;refine kB 4 rfl ?_;refine kB 5 rfl ?_;refine k1 6 rfl fun K hK=>?_
 go_simp;refine(aW g a n cap (ps.length:Int) _ D1.s (by omega)).mono ?_;rintro e w2 ⟨r,rfl,GU,uG,oU,mM⟩;have wR:=uG (by omega);obtain⟨i,rfl⟩:=Int.eq_ofNat_of_zero_le GU;have D2:=D1.step oU mM;have g2:=aS g1 mM;have EA:i<ps.length:=by omega
 obtain⟨p,Mr⟩:=gQ EA;have WJ:=HO.out i p Mr;go_wp2_with fail
 refine hK.out _ _ (Ij.out _ D2 g2) fun aY=>?_;clear hK K;refine kB 7 rfl ?_;refine kB 8 rfl ?_;refine GH (i:=9) (v:=.string p.1.own) rfl (by kernel_rfl) (by kernel_rfl) (by kernel_rfl) (by kernel_rfl) (fun _ _ _ h=>h) (Or.inl ⟨by kernel_rfl,?_⟩) (by assumption) ?_
 ·intro W uA;obtain⟨s1,s2,s3⟩:=uA;have s4:=s3 i p Mr;clear s3;go_simp
  try (with_reducible rfl)
 refine kB 10 rfl ?_;refine kN ?_;have uI:=HK.out _ g2;generalize p.1.own=nm at*;clear Ij HK HC HO D0 D1 g1 oU mM aY Mr k0 uG g2;go_simp;go_wp2_with fail
 refine(aW g a n cap 9 _ D2.s (by decide)).mono ?_;rintro e w3 ⟨q,rfl,IK,uB,sO,iZ⟩;have zT:=uB (by decide);have D3:=D2.step sO iZ;have uD:=aO uI iZ XL;clear uB sO iZ D2 uI
 rcases(by omega:q=6∨(q=0∨q=1∨q=2)∨q=3∨q=4∨q=5∨(q=7∨q=8)) with rfl|h|rfl|rfl|rfl|h
 ·have Xd:Nm.cK ((Nm.split nm).getD [])<=254:=by
   cases hq:Nm.split nm with
   |none=>simp [Nm.cK]
   |some ls=>have:=Nm.dK hq;simp;omega
  have EM:=JU nm w3 (by unfold maxLen;omega);generalize (Nm.split nm).getD []=ls at*;have D3z:=Nm.aD D3.size;have HZB:=Nm.aD (cO uD);go_wp2_with fail
  refine EM.mono ?_;rintro e w4 ⟨u,rfl,qV,b4⟩;obtain⟨ua,uc,rfl⟩:=aT qV;have D4:=D3.below b4;have NQ:=aB uD b4;have aMz:=qV.lt;clear EM D3 uD b4
  cases ls with
  |nil=>
   have hj:=bV _ [] w4 (Nm.bP.aP qV) (by decide);have hz:=IP [];generalize (⟨(Nm.joinL []).toArray⟩:ByteArray)=J at*;have hJ:J.size<=2000:=by rw [hz];decide
   clear hz qV aMz;go_wp2_with fail
   refine hj.mono ?_;rintro e w5 ⟨rfl,b5⟩;have D5:=D4.below b5;have Vp:=aB NQ b5;clear D4 NQ b5 hj;have gI:=iM J w5 (by unfold maxLen;omega);have rz9:=aA Vp
   cases Df:(Nm.split J).isSome with
   |true=>
    have HZ9:Hid (1<=(J).size∧(J).size<=255):=by
     obtain⟨l9,e9⟩:=Option.isSome_iff_exists.1 Df;have:=Nm.dK e9;exact⟨by omega,by omega⟩
    rw [Df] at gI;clear Df;go_wp2_with fail
    refine gI.mono ?_;rintro e w9 ⟨rfl,b9⟩;have D9:=(D5).below b9;go_wp2;go_ret
    exact⟨_,rfl,HZ9.out.1,HZ9.out.2,D9.s,D9.gr⟩
   |false=>
    rw [Df] at gI;clear Df rz9;go_wp2_with fail
    refine gI.mono ?_;rintro e w9 ⟨rfl,b9⟩;have D9:=(D5).below b9;have Dv:=aB Vp b9;have rz9:=aA Dv
    go_wp2;go_ret
    exact⟨_,rfl,HO1.out,by omega,D9.s,D9.gr⟩
  |cons x t=>
   obtain⟨lb,rfl⟩:∃ lb,ua=some ⟨lb,0,none⟩:=by
    rcases qV.2 with⟨e,h0⟩|⟨g1,c1,cur,e,_⟩
    ·simp at h0
    simp only [gK] at e;exact⟨g1,e.1⟩
   obtain⟨M,HM⟩:∃ M,Hid ((x::t).length=M):=⟨_,rfl⟩
   have aCt:w4.ownsRow w3.heap.size 9 1 (.slice (some ⟨lb,0,none⟩) M uc) M ((x::t).map Value.string):=by
    have h:=qV;rw [HM.out] at h;exact h
   have PG:w4.cell? ⟨lb,0,none⟩=some (.string x):=(aCt.cellAt 0 (by have:=HM.out;simp at this;omega)).trans rfl;have hf0:=aCt.frozenAt 0;obtain⟨mI,Wi⟩:=aCt.stored 0 (.string ⟨#[97,110,121]⟩);have aQf:w3.heap.size<=lb:=(qV.lt lb rfl).1;have hM0:(0:Int)<(M:Int):=by have:=HM.out;simp at this;omega
   have hwx:Nm.cK t<=254:=by simp only [Nm.cK] at Xd;omega
   rw [HM.out]
   by_cases hx:x=⟨#[42]⟩
   ·have hxe:(x.toList==[42])=true:=by rw [e42,ba_eq];exact oI hx
    have D4s:=D4.row Wi (fun k hk=>by cases hk;have:=D3z.out;omega);have aQg:=aO NQ Wi (by intro e;simp at e;have:=D3z.out;have:=HZB.out;omega);have hj:=bV (.slice (some ⟨lb,0,none⟩) M uc) (⟨#[97,110,121]⟩::t) (w4.setCell ⟨lb,0,none⟩ (.string ⟨#[97,110,121]⟩)) (Nm.bP.aP (ls:=⟨#[97,110,121]⟩::t) (by rw [show((⟨#[97,110,121]⟩:ByteArray)::t).length=M from HM.out];exact mI)) (by simp only [Nm.cK];show 1+3+_<=_;omega);have hz:=IP (⟨#[97,110,121]⟩::t);generalize (⟨(Nm.joinL (⟨#[97,110,121]⟩::t)).toArray⟩:ByteArray)=J at*;have hJ:J.size<=2000:=by rw [hz];simp only [Nm.cK];show 1+3+_+1<=_;omega
    have HJ:=Nm.aD hj;clear hz mI Wi D4 NQ qV aCt hx hj aMz Xd hwx aQf;go_wp2_with fail
    refine HJ.out.mono ?_;rintro e w5 ⟨rfl,b5⟩;have D5:=D4s.below b5;have Vp:=aB aQg b5;clear D4s aQg b5 HJ PG hf0;have gI:=iM J w5 (by unfold maxLen;omega);have rz9:=aA Vp
    cases Df:(Nm.split J).isSome with
    |true=>
     have HZ9:Hid (1<=(J).size∧(J).size<=255):=by
      obtain⟨l9,e9⟩:=Option.isSome_iff_exists.1 Df;have:=Nm.dK e9;exact⟨by omega,by omega⟩
     rw [Df] at gI;clear Df;go_wp2_with fail
     refine gI.mono ?_;rintro e w9 ⟨rfl,b9⟩;have D9:=(D5).below b9;go_wp2;go_ret
     exact⟨_,rfl,HZ9.out.1,HZ9.out.2,D9.s,D9.gr⟩
    |false=>
     rw [Df] at gI;clear Df rz9;go_wp2_with fail
     refine gI.mono ?_;rintro e w9 ⟨rfl,b9⟩;have D9:=(D5).below b9;have Dv:=aB Vp b9;have rz9:=aA Dv
     go_wp2;go_ret;exact⟨_,rfl,HO1.out,by omega,D9.s,D9.gr⟩
   have hxe:(x.toList==[42])=false:=by rw [e42,ba_eq];exact oF hx
   have hj:=bV (.slice (some ⟨lb,0,none⟩) M uc) (x::t) w4 (Nm.bP.aP (ls:=x::t) (by rw [HM.out];exact aCt)) (by omega);have hz:=IP (x::t);generalize (⟨(Nm.joinL (x::t)).toArray⟩:ByteArray)=J at*;have hJ:J.size<=2000:=by rw [hz];omega
   clear hz mI Wi qV aCt hx aMz Xd hwx aQf;go_wp2_with fail
   refine hj.mono ?_;rintro e w5 ⟨rfl,b5⟩;have D5:=D4.below b5;have Vp:=aB NQ b5;clear D4 NQ b5 hj PG hf0;have gI:=iM J w5 (by unfold maxLen;omega);have rz9:=aA Vp
   cases Df:(Nm.split J).isSome with
   |true=>
    have HZ9:Hid (1<=(J).size∧(J).size<=255):=by
     obtain⟨l9,e9⟩:=Option.isSome_iff_exists.1 Df;have:=Nm.dK e9;exact⟨by omega,by omega⟩
    rw [Df] at gI;clear Df;go_wp2_with fail
    refine gI.mono ?_;rintro e w9 ⟨rfl,b9⟩;have D9:=(D5).below b9;go_wp2;go_ret
    exact⟨_,rfl,HZ9.out.1,HZ9.out.2,D9.s,D9.gr⟩
   |false=>
    rw [Df] at gI;clear Df rz9;go_wp2_with fail
    refine gI.mono ?_;rintro e w9 ⟨rfl,b9⟩;have D9:=(D5).below b9;have Dv:=aB Vp b9;have rz9:=aA Dv
    go_wp2;go_ret;exact⟨_,rfl,HO1.out,by omega,D9.s,D9.gr⟩
 case' inr.inl=>
  rcases h with rfl|rfl|rfl
  all_goals
   go_wp2_with fail
   refine(AC g a n cap nm _ D3.s (by omega)).mono ?_;rintro e w4 ⟨s,rfl,hs,OD,LH⟩;have D4:=D3.step OD LH;have NQ:=aO uD LH XL;clear D3 uD OD LH
 case' inr.inr.inl=>
  go_wp2_with fail
  refine(AC g a n cap nm _ D3.s (by omega)).mono ?_;rintro e w5 ⟨t,rfl,ht,PY,RH⟩;have D5:=D3.step PY RH;have Vp:=aO uD RH XL;clear D3 uD PY RH;go_wp2_with fail
  refine(AC g a n cap t _ D5.s ht).mono ?_;rintro e w4 ⟨s,rfl,hs,OD,LH⟩;have D4:=D5.step OD LH;have NQ:=aO Vp LH XL;clear D5 Vp OD LH
 case' inr.inr.inr.inl=>
  have kzA:=bD uD (.cells #[.string ⟨#[113]⟩,.string ⟨#[119]⟩] 9);have rzA:=aA kzA
  go_wp2_with fail
  refine(uR _ [⟨#[113]⟩,⟨#[119]⟩] o _ (N_ w3 ⟨#[113]⟩ ⟨#[119]⟩) (by decide) (by omega)).mono ?_;rintro e w4 ⟨s,rfl,hs,b4⟩;have D4:=(D3.alloc (.cells #[.string ⟨#[113]⟩,.string ⟨#[119]⟩] 9)).below b4;have NQ:=aB kzA b4;have CV:s.size<=2000:=by rw [hs,show Nm.cK [(⟨#[113]⟩:ByteArray),⟨#[119]⟩]=4 from rfl];omega
  clear D3 uD kzA rzA b4 hs;have hs:=CV;clear CV
 case' inr.inr.inr.inr.inl=>
  go_wp2_with fail
  refine(IW g a n cap _ D3.s).mono ?_;rintro e w4 ⟨s,rfl,_,hs,OD,LH⟩;have D4:=D3.step OD LH;have NQ:=aO uD LH XL;have CV:s.size<=2000:=by omega
  clear D3 uD OD LH hs;have hs:=CV;clear CV
 case' inr.inr.inr.inr.inr=>
  have hs:nm.size<=2000:=by omega
  have D4:=D3;have NQ:=uD;clear D3 uD;generalize nm=s at*;generalize w3=w4 at*
  rcases h with rfl|rfl
 all_goals
  have gI:=iM s w4 (by unfold maxLen;omega);have rz9:=aA NQ
  cases Df:(Nm.split s).isSome with
  |true=>
   have HZ9:Hid (1<=(s).size∧(s).size<=255):=by
    obtain⟨l9,e9⟩:=Option.isSome_iff_exists.1 Df;have:=Nm.dK e9;exact⟨by omega,by omega⟩
   rw [Df] at gI;clear Df;go_wp2_with fail
   refine gI.mono ?_;rintro e w9 ⟨rfl,b9⟩;have D9:=(D4).below b9;go_wp2;go_ret
   exact⟨_,rfl,HZ9.out.1,HZ9.out.2,D9.s,D9.gr⟩
  |false=>
   rw [Df] at gI;clear Df rz9;go_wp2_with fail
   refine gI.mono ?_;rintro e w9 ⟨rfl,b9⟩;have D9:=(D4).below b9;have Dv:=aB NQ b9;have rz9:=aA Dv
   go_wp2;go_ret;exact⟨_,rfl,HO1.out,by omega,D9.s,D9.gr⟩
theorem ZB.aKh{ps:List Zp}{N M:Nat}(h:ZB ps N)(hM:N<=M):ZB ps M:=⟨h.one,jN h.len hM,jN h.cnt hM⟩
def ZaP(w:World)(e:Ending)(w':World):Prop:=∃ (o name:ByteArray) (v:Value) (ps:List Zp),e=.returned (.tuple #[.agg #[.string o,v],.string name])∧o.size<=2000∧name.size<=2000∧ZL ps∧ZKp w' w.heap.size v ps∧Below w.heap.size w w'
theorem Dh(a:Option Addr)(n cap:Nat)(w:World)(h:rH w a n)(hn:n<=1048576):
 Calls Tryz.prog 15 #[.slice a n cap] w (ZaP w):=by
 have kR:=aK w #[.string ByteArray.empty,.slice none 0 0] 25;have bR:=(aJ w.heap.size w).alloc (aI _) (.cells #[.string ByteArray.empty,.slice none 0 0] 25);go_enter Tryz.func15,Tryz.ntmps15;go_wp2_with fail
 refine(Kn a n cap _ (yL h bR) hn).mono ?_;rintro e w1 ⟨st,rfl,b1⟩;have b01:=Nm.aC bR b1;have oG:=aEx (cap:=cap) (yL h b01) hn st;have b1A:=b01.alloc b01.size (.cells #[.slice a n cap,.int .i64 0,.int .u64 st] 53 (0,0));have k1:=bD (aB kR b1) (.cells #[.slice a n cap,.int .i64 0,.int .u64 st] 53 (0,0));obtain⟨g,hg⟩:∃ g,g=w1.heap.size:=⟨_,rfl⟩;have Mv:w.heap.size<g:=by have:=b1.size;simp at this;omega
 rw [<- hg] at oG;clear kR bR b1 b01 h;go_wp2_with fail
 rw [<- hg];clear hg;refine(aW g a n cap 12 _ oG (by decide)).mono ?_;rintro e w2 ⟨r,rfl,r0,r1,oU,mM⟩;have r2:=r1 (by decide);obtain⟨m,rfl⟩:=Int.eq_ofNat_of_zero_le r0;have b2:=b1A.grown mM b1A.size (fun k hk=>by simp at hk;omega);have k2:=aO k1 mM (by intro e;simp at e;omega);clear oG mM b1A k1 r1 r0;go_wp2_with fail
 refine(Kv a n cap w2 hn).mono ?_;rintro e w3 ⟨k,rfl,hk,rfl⟩;obtain⟨M,HM⟩:∃ M:Nat,Hid (M=m+k):=⟨_,rfl⟩
 have hmk:IntKind.i64.wrap ((m:Int)+(k:Int))=(M:Int):=by
  have:=HM.out;rw [Go.wrap_small _ (by omega) (by omega)];omega
 have hM:M<=41:=by
  have:=HM.out;omega
 go_wp2_with fail
 refine(Vo g a n cap M w3 oU (by omega)).mono ?_;rintro e w4 ⟨o,v,ps,rfl,ho,⟨hB,⟨hp,-⟩,NS⟩,hz,OD,LH⟩;obtain⟨va,vc,rfl⟩:=aT hz.outer;have D4:=(Dr.start oU).step OD LH;have DC:=D4.lt;have VN:ZB ps 126:=hB.aKh (by omega);have DA:=D4.alloc (.cells #[.string o,.slice va ps.length vc] 25);have zA:=hz.below ((aJ _ _).alloc (aI _) (.cells #[.string o,.slice va ps.length vc] 25));have kz:=aK w4 #[.string o,.slice va ps.length vc] 25;have rz:=aA kz
 have XL:g<w4.heap.size:=by have:=D4.size;omega
 have HK:Hid (∀ W,Dr w3 g a n cap W->bW W w.heap.size #[.string ByteArray.empty,.slice none 0 0] 25∧Below w.heap.size w W):=fun W hW=>⟨aO k2 hW.gr (by intro e;simp at e;omega),b2.grown hW.gr b2.size (fun k hk=>by simp at hk;omega)⟩
 have HW:Hid (w.heap.size<w3.heap.size):=by show _<_;omega
 clear hmk r2 hk hB k2 b2 OD LH hz D4;go_wp2_with fail
 refine(Ms g a n cap o (.slice va ps.length vc) ps w3.heap.size _ DA.s zA DC (VN.aKh (by decide)) hp ho NS).mono ?_;rintro e w5 ⟨nm,rfl,Xw,hn2,PY,RH⟩;have D5:=DA.step PY RH;have z5:=zA.dr RH DC;have Vp:=aO kz RH (by intro e;simp at e;omega);clear DA zA kz rz PY RH;go_wp2_with fail
 refine(aW g a n cap 6 _ D5.s (by decide)).mono ?_;rintro e w6 ⟨q,rfl,q0,q1,Nb,Fb⟩;have D6:=D5.step Nb Fb;have z6:=z5.dr Fb DC;have kz6:=aO Vp Fb (by intro e;simp at e;omega);clear D5 z5 Vp Nb Fb q1
 by_cases hq:q=0
 ·subst hq;have rz:=aA kz6
  go_wp2_with fail
  refine(Vx o (.slice va ps.length vc) ps 126 w6 D6 z6 VN (by decide) ho).mono ?_;rintro e w7 ⟨o',nm',v',ps',rfl,OA,aHc,yX,Wl,D7⟩;obtain⟨xa,xc,rfl⟩:∃ va vc,v'=.slice va (ps').length vc:=by obtain⟨⟨_,a,c,e,_⟩,_⟩:=(Wl).AU;exact⟨a,c,e⟩
  obtain⟨k9,b9⟩:=HK.out _ D7;have Di:=((Wl).far (g:=w.heap.size) (i:=0) (y:=.string o') HW.out).far (g:=w.heap.size) (i:=1) (y:=.slice xa (ps').length xc) HW.out;have kE:=aM (aM k9 0 (.string o')) 1 (.slice xa (ps').length xc);have bE:=(b9.setCell (p:=⟨w.heap.size,0,none⟩) (aI _) (.string o')).setCell (p:=⟨w.heap.size,1,none⟩) (aI _) (.slice xa (ps').length xc);have HE:=Nm.aD (aV (Di.base (Nat.le_of_lt HW.out)) bE);have r9:=aA k9
  have f9:=aF k9
  have rE:=aA kE
  clear Di bE b9 HK;go_wp2;refine eB (v:=.tuple #[.agg #[.string o',.slice xa (ps').length xc],.string nm']) ?_ rfl ?_
  rotate_left
  ·exact⟨_,_,_,_,rfl,OA,aHc,yX,HE.out.1,HE.out.2⟩
  simp [results,Tryz.results15,go_sem,Result.andThen,rE]
 have nq:(q==0)=false:=beq_eq_false_iff_ne.2 hq
 clear hq;go_wp2_with fail
 refine(aW g a n cap 40 _ D6.s (by decide)).mono ?_;rintro e w7 ⟨q2,rfl,q20,q21,hs7,hg7⟩;have D7:=D6.step hs7 hg7;have z7:=z6.dr hg7 DC;have Cg:=aO kz6 hg7 (by intro e;simp at e;omega);clear D6 z6 kz6 hs7 hg7 q21
 by_cases zT:q2=0
 ·subst zT;go_wp2_with fail
  refine(Kc g a n cap nm _ D7.s Xw (by omega)).mono ?_;rintro e w8 ⟨s,rfl,aHc,hs8,hg8⟩;have D8:=D7.step hs8 hg8;have z8:=z7.dr hg8 DC;have R4:=aO Cg hg8 (by intro e;simp at e;omega);have rz:=aA R4
  clear D7 z7 Cg hs8 hg8;go_wp2_with fail
  refine(VW o (.slice va ps.length vc) ps 126 w8 D8 z8 VN (by decide) hp ho).mono ?_;rintro e w9 ⟨o',v',ps',rfl,OA,yX,hkx,D9,-⟩;have Wl:=hkx.kp;clear rz D8 z8 R4;obtain⟨xa,xc,rfl⟩:∃ va vc,v'=.slice va (ps').length vc:=by obtain⟨⟨_,a,c,e,_⟩,_⟩:=(Wl).AU;exact⟨a,c,e⟩
  obtain⟨k9,b9⟩:=HK.out _ D9;have Di:=((Wl).far (g:=w.heap.size) (i:=0) (y:=.string o') HW.out).far (g:=w.heap.size) (i:=1) (y:=.slice xa (ps').length xc) HW.out;have kE:=aM (aM k9 0 (.string o')) 1 (.slice xa (ps').length xc);have bE:=(b9.setCell (p:=⟨w.heap.size,0,none⟩) (aI _) (.string o')).setCell (p:=⟨w.heap.size,1,none⟩) (aI _) (.slice xa (ps').length xc);have HE:=Nm.aD (aV (Di.base (Nat.le_of_lt HW.out)) bE);have r9:=aA k9
  have f9:=aF k9
  have rE:=aA kE
  clear Di bE b9 HK;go_wp2;refine eB (v:=.tuple #[.agg #[.string o',.slice xa (ps').length xc],.string s]) ?_ rfl ?_
  rotate_left
  ·exact⟨_,_,_,_,rfl,OA,aHc,yX,HE.out.1,HE.out.2⟩
  simp [results,Tryz.results15,go_sem,Result.andThen,rE]
 have nq2:(q2==0)=false:=beq_eq_false_iff_ne.2 zT
 have aHc:nm.size<=2000:=by omega
 have rz:=aA Cg
 clear zT;go_wp2_with fail
 refine(VW o (.slice va ps.length vc) ps 126 w7 D7 z7 VN (by decide) hp ho).mono ?_;rintro e w9 ⟨o',v',ps',rfl,OA,yX,hkx,D9,-⟩;have Wl:=hkx.kp;clear rz D7 z7 Cg;obtain⟨xa,xc,rfl⟩:∃ va vc,v'=.slice va (ps').length vc:=by obtain⟨⟨_,a,c,e,_⟩,_⟩:=(Wl).AU;exact⟨a,c,e⟩
 obtain⟨k9,b9⟩:=HK.out _ D9;have Di:=((Wl).far (g:=w.heap.size) (i:=0) (y:=.string o') HW.out).far (g:=w.heap.size) (i:=1) (y:=.slice xa (ps').length xc) HW.out;have kE:=aM (aM k9 0 (.string o')) 1 (.slice xa (ps').length xc);have bE:=(b9.setCell (p:=⟨w.heap.size,0,none⟩) (aI _) (.string o')).setCell (p:=⟨w.heap.size,1,none⟩) (aI _) (.slice xa (ps').length xc);have HE:=Nm.aD (aV (Di.base (Nat.le_of_lt HW.out)) bE);have r9:=aA k9
 have f9:=aF k9
 have rE:=aA kE
 clear Di bE b9 HK;go_wp2;refine eB (v:=.tuple #[.agg #[.string o',.slice xa (ps').length xc],.string nm]) ?_ rfl ?_
 rotate_left
 ·exact⟨_,_,_,_,rfl,OA,aHc,yX,HE.out.1,HE.out.2⟩
 simp [results,Tryz.results15,go_sem,Result.andThen,rE]
theorem UJ(a:Option Addr)(n cap:Nat)(w:World)(h:rH w a n)(hn:n<=1048576):
 Calls Tryz.prog 4 #[.slice a n cap] w (DlP w):=by
 have kR:=aK w #[.string ByteArray.empty,.slice none 0 0] 25;have bR:=(aJ w.heap.size w).alloc (aI _) (.cells #[.string ByteArray.empty,.slice none 0 0] 25);have hza:=Dh a n cap _ (yL h bR) hn;go_enter Tryz.func4,Tryz.ntmps4;go_wp2_with fail
 refine hza.mono ?_;rintro e w1 ⟨o,nm,v,ps,rfl,ho,WJ,yX,Wl,b1⟩;obtain⟨va,vc,rfl⟩:∃ va vc,v=.slice va ps.length vc:=by obtain⟨⟨_,a,c,e,_⟩,_⟩:=Wl.AU;exact⟨a,c,e⟩
 have k1:=aB kR b1;have b01:=Nm.aC bR b1;rw [jO] at Wl;have kE:=bD k1 (.cells #[.string o,.slice va ps.length vc] 25);have kz:=aK w1 #[.string o,.slice va ps.length vc] 25;have bE:=b01.alloc b01.size (.cells #[.string o,.slice va ps.length vc] 25);have zE:=Wl.AU.below ((aJ _ _).alloc (aI _) (.cells #[.string o,.slice va ps.length vc] 25));have hCE:=yL h bE;obtain⟨zb,Eh⟩:∃ zb,zb=w1.heap.size:=⟨_,rfl⟩;have hzw:w.heap.size<zb:=by have:=b1.size;simp at this;omega
 rw [<- Eh] at kz;clear hza kR bR b1 b01 h k1;go_wp2_with fail
 rw [<- Eh];refine(Yr a n cap 4 _ hCE hn).mono ?_;rintro e w2 ⟨st,b,m,rfl,hC2,b2⟩;have oU:=Hf (cap:=m) hC2 (by omega) st;have k2:=bD (aB kE b2) (.cells #[.slice b (n+1) m,.int .i64 0,.int .u64 st] 53 (0,0));have uI:=bD (aB kz b2) (.cells #[.slice b (n+1) m,.int .i64 0,.int .u64 st] 53 (0,0));have b02:=(Nm.aC bE b2).alloc (by have:=bE.size;have:=b2.size;omega) (.cells #[.slice b (n+1) m,.int .i64 0,.int .u64 st] 53 (0,0));have z2:=(zE.below b2).below ((aJ _ _).alloc (aI _) (.cells #[.slice b (n+1) m,.int .i64 0,.int .u64 st] 53 (0,0)));obtain⟨g,hg⟩:∃ g,g=w2.heap.size:=⟨_,rfl⟩;have Mv:zb<g:=by have:=b2.size;simp at this;omega
 rw [<- hg] at oU
 have HZ:Hid (∀ W,(w2.alloc (.cells #[.slice b (n+1) m,.int .i64 0,.int .u64 st] 53 (0,0))).grownBy W (some g)->ZKp W (w.heap.size+1) (.slice va ps.length vc) ps):=fun W hW W' hW'=>Wl W' (fun b' h1 h2=>by
  have e1:=((aJ _ w1).alloc (aI _) (.cells #[.string o,.slice va ps.length vc] 25)).block b' h2;have e2:=b2.block b' (by simp;omega);have e3:=((aJ _ w2).alloc (aI _) (.cells #[.slice b (n+1) m,.int .i64 0,.int .u64 st] 53 (0,0))).block b' (by have:=b2.size;simp at this;omega);have e4:=hW.block b' (by have:=b2.size;simp at this ⊢;omega) (by intro e;simp at e;omega)
  rw [hW' b' h1 (by have:=hW.size;have:=b2.size;simp at*;omega),e4,e3,e2,e1])
 clear kE bE zE hCE b2 hC2 kz Wl;go_wp2_with fail
 rw [<- hg];clear hg;generalize w2.alloc (.cells #[.slice b (n+1) m,.int .i64 0,.int .u64 st] 53 (0,0))=W2 at*;refine(Jm g b (n+1) m _ oU).mono ?_;rintro e w3 ⟨t,rfl,ht,sO,iZ⟩;go_wp2_with fail
 refine(aW g b (n+1) m 40 _ sO (by decide)).mono ?_;rintro e w4 ⟨r,rfl,r0,r1,OD,LH⟩;have g4:=aS iZ LH;clear oU sO iZ LH r1
 by_cases hr:r=0
 case' pos=>
  subst hr;go_wp2_with fail
  refine(aW g b (n+1) m 2 _ OD (by decide)).mono ?_;rintro e w5 ⟨r,rfl,q0,q1,PY,RH⟩;have g5:=aS g4 RH;have q2:=q1 (by decide);have hw:IntKind.i64.wrap (65536*r)=65536*r:=Go.wrap_small _ (by omega) (by omega);clear OD RH q1 g4;go_wp2_with fail
  clear hw ht r0;generalize 65536*r=Q
 case' neg=>
  have nr:(r==0)=false:=beq_eq_false_iff_ne.2 hr
  go_wp2_with fail
  have PY:=OD;have g5:=g4;clear OD g4 nr hr ht r0;generalize w4=w5 at*;generalize (t:Int)=Q
 all_goals
  refine(aW g b (n+1) m 25 _ PY (by decide)).mono ?_;rintro e w6 ⟨r6,rfl,q60,q61,Nb,Fb⟩;have g6:=aS g5 Fb;clear PY Fb q61 q60 g5;have HE:Hid (∀ W,W2.grownBy W (some g)->bW W zb #[.string o,.slice va ps.length vc] 25∧bW W w.heap.size #[.string ByteArray.empty,.slice none 0 0] 25∧Below w.heap.size w W):=fun W hW=>⟨aO uI hW (by intro e;simp at e;omega),aO k2 hW (by intro e;simp at e;omega),b02.grown hW b02.size (fun k hk=>by simp at hk;omega)⟩
  subst Eh
  by_cases h6:r6=0
  rotate_left
  ·have n6:(r6==0)=false:=beq_eq_false_iff_ne.2 h6
   have g9:=g6;clear g6 h6 Nb;generalize w6=w9 at*;obtain⟨Dv,k9,b9⟩:=HE.out _ g9;have Di:=((HZ.out _ g9).far (g:=w.heap.size) (i:=0) (y:=.string o) (by omega)).far (g:=w.heap.size) (i:=1) (y:=.slice va ps.length vc) (by omega);have kE:=aM (aM k9 0 (.string o)) 1 (.slice va ps.length vc);have bE:=(b9.setCell (p:=⟨w.heap.size,0,none⟩) (aI _) (.string o)).setCell (p:=⟨w.heap.size,1,none⟩) (aI _) (.slice va ps.length vc);have HF:=Nm.aD (aV Di.AU bE);have rz:=aA Dv
   have r9:=aA k9
   have f9:=aF k9
   have rE:=aA kE
   clear Di kE bE k9 b9 Dv HE HZ;go_wp2;refine eB (v:=.tuple #[.agg #[.string o,.slice va ps.length vc],.string nm,.int .i64 Q]) ?_ rfl ?_
   rotate_left
   ·exact⟨_,_,_,_,_,rfl,ho,by omega,yX,HF.out.1,HF.out.2⟩
   simp [results,Tryz.results4,go_sem,Result.andThen,rE]
  subst h6;go_wp2_with fail
  refine(iM nm _ (by unfold maxLen;omega)).mono ?_;rintro e w7 ⟨rfl,b7⟩;have g7:=bJ g6 b7;have hs7:=aZ Nb b7;have rz7:=fun i=>aA (HE.out _ g7).1 i
  clear g6 b7 Nb;cases gI:(Nm.split nm).isSome
  ·have g9:=g7;clear g7 hs7 gI rz7;generalize w7=w9 at*;obtain⟨Dv,k9,b9⟩:=HE.out _ g9;have Di:=((HZ.out _ g9).far (g:=w.heap.size) (i:=0) (y:=.string o) (by omega)).far (g:=w.heap.size) (i:=1) (y:=.slice va ps.length vc) (by omega);have kE:=aM (aM k9 0 (.string o)) 1 (.slice va ps.length vc);have bE:=(b9.setCell (p:=⟨w.heap.size,0,none⟩) (aI _) (.string o)).setCell (p:=⟨w.heap.size,1,none⟩) (aI _) (.slice va ps.length vc);have HF:=Nm.aD (aV Di.AU bE);have rz:=aA Dv
   have r9:=aA k9
   have f9:=aF k9
   have rE:=aA kE
   clear Di kE bE k9 b9 Dv HE HZ;go_wp2;refine eB (v:=.tuple #[.agg #[.string o,.slice va ps.length vc],.string nm,.int .i64 Q]) ?_ rfl ?_
   rotate_left
   ·exact⟨_,_,_,_,_,rfl,ho,by omega,yX,HF.out.1,HF.out.2⟩
   simp [results,Tryz.results4,go_sem,Result.andThen,rE]
  clear gI
  by_cases h60:nm.size<60
  rotate_left
  ·have i60:¬(nm.size:Int)<60:=by omega
   have g9:=g7;clear g7 hs7 h60 rz7;generalize w7=w9 at*;obtain⟨Dv,k9,b9⟩:=HE.out _ g9;have Di:=((HZ.out _ g9).far (g:=w.heap.size) (i:=0) (y:=.string o) (by omega)).far (g:=w.heap.size) (i:=1) (y:=.slice va ps.length vc) (by omega);have kE:=aM (aM k9 0 (.string o)) 1 (.slice va ps.length vc);have bE:=(b9.setCell (p:=⟨w.heap.size,0,none⟩) (aI _) (.string o)).setCell (p:=⟨w.heap.size,1,none⟩) (aI _) (.slice va ps.length vc);have HF:=Nm.aD (aV Di.AU bE);have rz:=aA Dv
   have r9:=aA k9
   have f9:=aF k9
   have rE:=aA kE
   clear Di kE bE k9 b9 Dv HE HZ;go_wp2;refine eB (v:=.tuple #[.agg #[.string o,.slice va ps.length vc],.string nm,.int .i64 Q]) ?_ rfl ?_
   rotate_left
   ·exact⟨_,_,_,_,_,rfl,ho,by omega,yX,HF.out.1,HF.out.2⟩
   simp [results,Tryz.results4,go_sem,Result.andThen,rE]
  have i60:(nm.size:Int)<60:=by omega
  by_cases h0:0<o.size
  rotate_left
  ·have i0:¬(0:Int)<(o.size:Int):=by omega
   have g9:=g7;clear g7 hs7 h60 h0;generalize w7=w9 at*;obtain⟨Dv,k9,b9⟩:=HE.out _ g9;have Di:=((HZ.out _ g9).far (g:=w.heap.size) (i:=0) (y:=.string o) (by omega)).far (g:=w.heap.size) (i:=1) (y:=.slice va ps.length vc) (by omega);have kE:=aM (aM k9 0 (.string o)) 1 (.slice va ps.length vc);have bE:=(b9.setCell (p:=⟨w.heap.size,0,none⟩) (aI _) (.string o)).setCell (p:=⟨w.heap.size,1,none⟩) (aI _) (.slice va ps.length vc);have HF:=Nm.aD (aV Di.AU bE);have rz:=aA Dv
   have r9:=aA k9
   have f9:=aF k9
   have rE:=aA kE
   clear Di kE bE k9 b9 Dv HE HZ;go_wp2;refine eB (v:=.tuple #[.agg #[.string o,.slice va ps.length vc],.string nm,.int .i64 Q]) ?_ rfl ?_
   rotate_left
   ·exact⟨_,_,_,_,_,rfl,ho,by omega,yX,HF.out.1,HF.out.2⟩
   simp [results,Tryz.results4,go_sem,Result.andThen,rE]
  have i0:(0:Int)<(o.size:Int):=by omega
  clear h60 h0;go_wp2_with fail
  refine(fG g b (n+1) m 60 _ hs7 (by decide) (by decide)).mono ?_;rintro e w8 ⟨s1,rfl,z1,hs8,hg8⟩;have g8:=aS g7 hg8;clear hs7 hg8 g7 rz7 i60 i0;go_wp2_with fail
  refine(fG g b (n+1) m 60 _ hs8 (by decide) (by decide)).mono ?_;rintro e w9 ⟨s2,rfl,z2,CV,nA⟩;have g9:=aS g8 nA;clear hs8 nA g8;go_wp2_with fail
  refine(fG g b (n+1) m 60 _ CV (by decide) (by decide)).mono ?_;rintro e P7 ⟨s3,rfl,z3,aR3,aQh⟩;have g10:=aS g9 aQh;have ho:=World.ownsRow_lit (base:=P7.heap.size) (e:=9) (size:=1) P7 #[.string s1,.string s2,.string s3,.string ⟨#[100,110]⟩] 4 (aI _) (by decide) rfl;have hj:=bV (.slice (some ⟨P7.heap.size,0,none⟩) 4 4) [s1,s2,s3,⟨#[100,110]⟩] _ (Nm.bP.aP ho) (by have:(⟨#[100,110]⟩:ByteArray).size=2:=rfl;simp only [Nm.cK];omega);have bA:=(aJ P7.heap.size P7).alloc (aI _) (.cells #[.string s1,.string s2,.string s3,.string ⟨#[100,110]⟩] 9);clear CV aQh g9 ho aR3;go_wp2_with fail
  refine hj.mono ?_;rintro e w11 ⟨rfl,b11⟩;have g11:=bJ g10 (Nm.aC bA b11);obtain⟨aR4,k11,aR5⟩:=HE.out _ g11
  have qA:(⟨(Nm.joinL [s1,s2,s3,⟨#[100,110]⟩]).toArray⟩:ByteArray).size=187:=by
   rw [iL];have:(⟨#[100,110]⟩:ByteArray).size=2:=rfl;simp only [Nm.cK];omega
  generalize (⟨(Nm.joinL [s1,s2,s3,⟨#[100,110]⟩]).toArray⟩:ByteArray)=J at*;clear hj bA b11 g10;have hJ:(J.size:Int)=187:=by omega
  have g9:W2.grownBy w11.drew (some g):=bJ g11 (aJ _ _).drew;clear aR4 k11 aR5;have hN:(J.extract 0 186++o).size<=4000:=by rw [kU,ByteArray.size_extract];omega
  have rz:=fun i=>aA (HE.out _ g9).1 i
  clear g11;go_wp2_with fail
  go_region
  all_goals
   clear rz hJ qA;generalize J.extract 0 186++o=nx at*;generalize w11.drew=w9 at*;obtain⟨Dv,k9,b9⟩:=HE.out _ g9;have Di:=((HZ.out _ g9).far (g:=w.heap.size) (i:=0) (y:=.string o) (by omega)).far (g:=w.heap.size) (i:=1) (y:=.slice va ps.length vc) (by omega);have kE:=aM (aM k9 0 (.string o)) 1 (.slice va ps.length vc);have bE:=(b9.setCell (p:=⟨w.heap.size,0,none⟩) (aI _) (.string o)).setCell (p:=⟨w.heap.size,1,none⟩) (aI _) (.slice va ps.length vc);have HF:=Nm.aD (aV Di.AU bE);have rz:=aA Dv
   have r9:=aA k9
   have f9:=aF k9
   have rE:=aA kE
   clear Di kE bE k9 b9 Dv HE HZ;go_wp2;refine eB (v:=.tuple #[.agg #[.string o,.slice va ps.length vc],.string nx,.int .i64 Q]) ?_ rfl ?_
   rotate_left
   ·exact⟨_,_,_,_,_,rfl,ho,by omega,yX,HF.out.1,HF.out.2⟩
   simp [results,Tryz.results4,go_sem,Result.andThen,rE]
