import Derived.Test.YthdpacepbbcocaaGreatJFsM
import Derived.Test.YthdpacepbbcocaaGreatDwC
set_option linter.unusedVariables false
set_option maxRecDepth 100000
set_option maxHeartbeats 6400000
namespace Go.Proofs.YthdpacepbbcocaaGreat
open Go.RowKit
theorem aLe{ps:List Zp}{name:ByteArray}{t:Int}{j:Nat}{q:Zp}(hq:ps[j]? =some q)(hb:∀ i p,i<j->ps[i]? =some p->(decide (p.1.ty=t)&&jB p.1.own name)=false)(h:(decide (q.1.ty=t)&&jB q.1.own name)=true):rO (ps.map (·.1)) name t=some q.1:=by
 induction ps generalizing j with
 |nil=>simp at hq
 |cons p ps ih=>
  rw [rO,List.map_cons,List.find?_cons]
  cases j with
  |zero=>
   simp only [List.getElem?_cons_zero,mP] at hq;subst hq
   simp only [h]
  |succ j=>
   have h0:=hb 0 p (by omega) rfl;simp only [h0];exact ih (by simpa using hq) (fun i p' hi VQ=>hb (i+1) p' (by omega) (by simpa using VQ))
theorem aIb{ps:List Zp}{name:ByteArray}{t:Int}(hb:∀ i p,i<ps.length->ps[i]? =some p->(decide (p.1.ty=t)&&jB p.1.own name)=false):rO (ps.map (·.1)) name t=none:=by
 rw [rO,List.find?_eq_none];intro z hz;obtain⟨p,hp,rfl⟩:=lS hz;obtain⟨i,hi⟩:=List.getElem?_of_mem hp;rw [hb i p (dK hi).1 hi];simp
theorem FY(o name:ByteArray)(t:Int)(v:Value)(ps:List Zp)(w:World)(h:gI w v ps)(hl:ps.length<=1048576)(hf:∀ p∈ps,p.1.own.size<=1048576∧p.1.da.length<=1048576)(hn:name.size<=maxLen):
 Calls Tryz.prog 35 #[.agg #[.string o,v],.string name,.int .i64 t] w (FsP (rO (ps.map (·.1)) name t) w):=by
 obtain⟨va,vc,rfl⟩:∃ va vc,v=.slice va ps.length vc:=by obtain⟨⟨_,a,c,e,_⟩,_⟩:=h;exact⟨a,c,e⟩
 have b0:=(aK w.heap.size w).alloc (aN _) (.cells #[.string o,.slice va ps.length vc] 25);have b1:=b0.alloc b0.size (.cells #[.string ⟨#[]⟩,.int .i64 0,.int .i64 0,.slice none 0 0] 60);have k0:=aR (aH w #[.string o,.slice va ps.length vc] 25) (.cells #[.string ⟨#[]⟩,.int .i64 0,.int .i64 0,.slice none 0 0] 60);have kS:=aH (w.alloc (.cells #[.string o,.slice va ps.length vc] 25)) #[.string ⟨#[]⟩,.int .i64 0,.int .i64 0,.slice none 0 0] 60;rw [fV] at kS;have HZ:=Nm.aF (fun W (hW:Below w.heap.size w W)=>h.below hW);have HF:=Nm.aF hf;have HG:Hid (∀ W,Below w.heap.size w W->w.heap.size<=W.heap.size):=fun W hW=>hW.size
 clear h hf b0;go_enter Tryz.func35,Tryz.ntmps35;go_wp2_with fail
 generalize Ab:w.heap.size=g at*;have HGG:=Nm.aF Ab;clear Ab
 go_loopw [8] (fun i wr=>∃ (j:Nat),j<=ps.length∧i=.int .i64 j∧Below g w wr∧bG wr g #[.string o,.slice va ps.length vc] 25∧bG wr (g+1) #[.string ⟨#[]⟩,.int .i64 0,.int .i64 0,.slice none 0 0] 60∧∀ i p,i<j->ps[i]? =some p->(decide (p.1.ty=t)&&jB p.1.own name)=false) (fun i _=>ps.length-(intOf i).toNat)
 case atStart=>exact⟨0,dO _,rfl,b1,k0,kS,fun i p hi=>by omega⟩
 clear b1 k0 kS;obtain⟨j,hj,rfl,hb,kz,ks,lT⟩:=hrel;have HNO:=Nm.aF lT;have hgw:=HG.out _ hb;have rz:=fun i=>aA kz i
 clear lT
 by_cases bV:j<ps.length
 ·obtain⟨q,hq⟩:∃ q,ps[j]? =some q:=⟨_,bY bV⟩;have Jo:=HZ.out _ hb;obtain⟨⟨_,a9,c9,e9,_,_,De⟩,hd9⟩:=Jo;simp only [iG] at e9;obtain⟨rfl,_,rfl⟩:=e9;obtain⟨b,off,rfl,aL⟩:=De (by omega);obtain⟨d0,d1,d2,d3⟩:=lG aL hq;have hfq:=HF.out q (bP hq);have Jk:=hd9 q (bP hq);have n1:(0:Int)<=(j:Int):=by omega
  have n2:(j:Int)<(ps.length:Int):=by omega
  have xQ:=gU q.1.own name wr (by unfold maxLen;omega) hn;have HQ:=Nm.aF hq;have HSR:=Nm.aF Jk;clear De hd9 aL hq Jk;obtain⟨⟨x,ty,tt,ds⟩,u⟩:=q;simp only at d0 d1 d2 d3 xQ hfq
  obtain⟨ua,uc,hu⟩:∃ ua uc,u=.slice ua ds.length uc:=by obtain⟨a,c,e,_⟩:=HSR.out;exact⟨a,c,e⟩
  subst hu
  by_cases hty:ty=t
  ·subst hty;have t1:(ty==ty)=true:=by simp
   cases BL:jB x name with
   |true=>
    rw [BL] at xQ;have HR:Hid (rO (ps.map (·.1)) name ty=some ⟨x,ty,tt,ds⟩):=aLe HQ.out HNO.out (by simp [BL]);clear BL;go_wp2_with fail
    refine xQ.mono ?_;rintro e w1 ⟨rfl,b1⟩;have uC:=aB kz b1;have ks1:=aB ks b1;have mO:=hb.trans (b1.mono hgw);have rz1:=fun i=>aA uC i
    have up:=fun {O:Nat} {z:Value} (hz:wr.cell? ⟨b,O,none⟩=some z)=>(b1.cell (eB wr _ hz)).trans hz
    have f0:=up d0;have f1:=up d1;have f2:=up d2;have f3:=up d3;have QN:=FT ⟨x,ty,tt,ds⟩ (.slice ua ds.length uc) w1 (HSR.out.below b1) (by have:=hfq.2;simp only;omega);simp only at QN
    clear rz d0 d1 d2 d3 xQ up kz;go_wp2_with fail
    refine QN.mono ?_;rintro e w2 ⟨u2,rfl,ho2,b2⟩;obtain⟨xa,xc,rfl⟩:=aT ho2;have ks2:=aB ks1 b2;have cz:=fun i=>aA ks2 i
    have fz:=fun i=>aG ks2 i
    have rP:=HG.out _ mO;have vO:=mO.trans (b2.mono rP);rw [<- HGG.out] at vO;obtain⟨k4,Cr,xS⟩:=Ed (x:=x) (ty:=ty) (tt:=tt) ks2 ho2 (fun e=>by have h1:=(ho2.lt _ e).1;have h2:=bU ks1;omega) vO (by rw [HGG.out];exact Nat.le_succ _);have rk:=fun i=>aA k4 i
    have HP0:FsP (some ⟨x,ty,tt,ds⟩) w (.returned (.tuple #[.agg #[.string x,.int .i64 ty,.int .i64 tt,.slice xa ds.length xc],.bool true])) _:=⟨_,rfl,fQ Cr (by rw [HGG.out];exact rP),xS⟩;rw [<- HR.out] at HP0;have HP:=Nm.aF HP0;clear HP0;clear ks ks1 ks2 uC rz1 QN k4 Cr xS ho2 f0 f1 f2 f3;go_wp2_with fail
    refine gD (v:=.tuple #[.agg #[.string x,.int .i64 ty,.int .i64 tt,.slice xa ds.length xc],.bool true]) ?_ rfl HP.out
    simp [results,Tryz.f35,go_sem,rk]
   |false=>
    rw [BL] at xQ
    have HN:Hid (∀ i p,i<j+1->ps[i]? =some p->(decide (p.1.ty=ty)&&jB p.1.own name)=false):=fun i p hi hp=>by
     rcases Nat.lt_or_ge i j with h1|h1
     ·exact HNO.out i p h1 hp
     obtain rfl:i=j:=by omega
     rw [HQ.out] at hp;obtain rfl:=gQ hp;simp [BL]
    clear BL;go_wp2_with (go_at_call 72;refine xQ.mono ?_;rintro e w1 ⟨rfl,b1⟩)
    go_roundw
    case rel=>exact⟨j+1,bV,by go_num,hb.trans (b1.mono hgw),aB kz b1,aB ks b1,HN.out⟩
    simp [intOf];omega
  have t1:(ty==t)=false:=by simp [hty]
  have HN:Hid (∀ i p,i<j+1->ps[i]? =some p->(decide (p.1.ty=t)&&jB p.1.own name)=false):=fun i p hi hp=>by
   rcases Nat.lt_or_ge i j with h1|h1
   ·exact HNO.out i p h1 hp
   obtain rfl:i=j:=by omega
   rw [HQ.out] at hp;obtain rfl:=gQ hp;simp [hty]
  clear hty xQ;go_wp2;go_roundw
  case rel=>exact⟨j+1,bV,by go_num,hb,kz,ks,HN.out⟩
  simp [intOf];omega
 obtain rfl:j=ps.length:=by omega
 have i9:(ps.length:Int)<=(ps.length:Int):=by omega
 have HR:Hid (rO (ps.map (·.1)) name t=none):=aIb HNO.out;have cz:=fun i=>aA ks i
 have fz:=fun i=>aG ks i
 rw [<- HGG.out] at hb;obtain⟨k4,-,xS⟩:=Ed (x:=⟨#[]⟩) (ty:=0) (tt:=0) ks (World.ownsRow_nil wr 0 9 1) (by simp [Value.ownBlock]) hb (by rw [HGG.out];exact Nat.le_succ _);have rk:=fun i=>aA k4 i
 have HP0:=aH2 xS;rw [<- HR.out] at HP0;have HP:=Nm.aF HP0;clear HP0;clear ks k4 xS;go_wp2_with fail
 refine gD (v:=.tuple #[.agg #[.string ⟨#[]⟩,.int .i64 0,.int .i64 0,.slice none 0 0],.bool false]) ?_ rfl HP.out;simp [results,Tryz.f35,go_sem,rk]
theorem YM(g:Nat)(a:Option Addr)(n cap:Nat)(parts:Nat)(w:World)(h:Src w g a n cap)(hp:parts<=1000):
 Calls Tryz.prog 27 #[.pointer (some ⟨g,0,none⟩),.int .i64 (parts:Int)] w fun e w'=>∃ (ap b:ByteArray) (v:Value) (xs:List Rr),e=.returned (.tuple #[.string ap,v])∧ap∈IQ∧b.size=20∧IW ap b<+:xs∧3<=xs.length∧xs.length<=3+3*parts∧Dl w g a n cap v xs w':=by
 obtain⟨i0,hi,iJ,fP,fZ⟩:=info_parts Tryz.GM;have hsw:=(Dr.start h).size;go_enter Tryz.func27,Tryz.ntmps27;go_wp2_with fail
 refine(Ny g a n cap _ h).mono ?_;rintro e w1 ⟨ap,rfl,pW,nJ,rP⟩;obtain⟨Hr,ha2⟩:=UE pW;have HAP:=Nm.aF pW;have D1:=(Dr.start h).step nJ rP;clear nJ rP h;go_wp2_with fail
 refine(aY g a n cap 5000 _ D1.s (by decide)).mono ?_;rintro e w2 ⟨lo,rfl,aT2,aRy,oI,oN⟩;have hlo2:=aRy (by decide);have D2:=D1.step oI oN;clear oI oN D1 aRy;go_wp2_with fail
 refine(aY g a n cap 2147483648 _ D2.s (by decide)).mono ?_;rintro e w3 ⟨sr,rfl,aT3,aRz,qD,iA⟩;have hsr2:=aRz (by decide);have D3:=D2.step qD iA;obtain⟨lo,rfl⟩:=Int.eq_ofNat_of_zero_le aT2;obtain⟨sr,rfl⟩:=Int.eq_ofNat_of_zero_le aT3;clear qD iA D2 aRz;go_wp2_with fail
 refine(BZ ap sr lo 3600 _ (by omega) (by omega) (by omega)).mono ?_;rintro e w4 ⟨b,rfl,hb,b4⟩
 have hd:(DX ap b).size<=3200:=by
  rw [DX,jV,jV,sG,sG,show Nm.dP [(⟨#[110,115,49]⟩:ByteArray)]=4 from rfl,show Nm.dP [(⟨#[97,100,109,105,110]⟩:ByteArray)]=6 from rfl];omega
 have HD0:∃ d,Hid (d=DX ap b):=⟨_,rfl⟩;obtain⟨d,HD⟩:=HD0;rw [<- HD.out] at hd ⊢;have HB:=Nm.aF hb;clear hb;have D4:=D3.below b4;have hz4:=D4.size
 have L4:Dl w g a n cap (.slice (some ⟨w4.heap.size,0,none⟩) 1 1) [⟨ap,6,1,3600,d⟩] (w4.alloc (.cells #[.string ap,.int .i64 6,.int .i64 1,.int .i64 3600,.string d] 29)):=
  ⟨D4.alloc _,World.ownsRow_lit (base:=w.heap.size) (e:=29) (size:=5) w4 #[.string ap,.int .i64 6,.int .i64 1,.int .i64 3600,.string d] 1 hz4 (by decide) rfl,by intro r hr;simp at hr;subst hr;exact⟨by show ap.size<=1000;omega,by show d.size<=3200;omega⟩⟩
 clear D3 D4 b4;go_wp2_with fail
 refine(L4.aRw ⟨#[110,115,49]⟩ ap (by decide) (by omega) (by simp)).mono ?_;rintro e w5 ⟨s5,rfl,WP,z5,L5⟩
 replace z5:s5.size=4+ap.size:=z5
 have y5:s5.size<=100:=by omega
 have HS5:=Nm.aF WP;clear z5 WP;have hz5:=L5.d.size;clear L4;go_wp2_with (at_builtin;refine wpList_append_own _ rfl (.tmp 21) (.tmp 27) 30 rfl w.heap.size 29 i0 _ 5 56 Tryz.underlying30 hi iJ fP fZ rfl (by decide) _ _ _ rfl ((L5.r).alloc _) ⟨w5.heap.size,0,none⟩ 1 1 [.string ap,.int .i64 2,.int .i64 1,.int .i64 3600,.string s5] rfl rfl (dU w5 #[.string ap,.int .i64 2,.int .i64 1,.int .i64 3600,.string s5] 29) (by intro u hu;simp at hu;rcases hu with rfl|rfl|rfl|rfl|rfl<;>rfl) (by unfold maxLen;simp) (by simp) (by simp;omega) ?_)
 intro v6 w6 sU aIc _
 have L6:Dl w g a n cap v6 [⟨ap,6,1,3600,d⟩,⟨ap,2,1,3600,s5⟩] w6:=
  ⟨(L5.d.alloc (.cells #[.string ap,.int .i64 2,.int .i64 1,.int .i64 3600,.string s5] 29)).row aIc (fun k hk=>(L5.r.lt k hk).1),sU,by
    intro r hr;simp at hr
    rcases hr with rfl|rfl
    ·exact⟨by show ap.size<=1000;omega,by show d.size<=3200;omega⟩
    exact⟨by show ap.size<=1000;omega,by show s5.size<=3200;omega⟩⟩
 obtain⟨va6,vc6,rfl⟩:=aT L6.r;clear L5 sU aIc;go_wp2_with fail
 refine(L6.sub1 ⟨#[110,115,49]⟩ ap (by decide) (by omega) (by simp)).mono ?_;rintro e w7 ⟨s7,rfl,z7,L7⟩
 replace z7:s7.size=4+ap.size:=z7
 have y7:s7.size<=100:=by omega
 clear z7;clear L6;go_wp2_with fail
 refine L7.YL.mono ?_;rintro e w8 ⟨d8,rfl,z8,L8⟩;clear L7;go_wp2_with fail
 refine(L8.add s7 1 d8 (by simp) (by omega) (by omega)).mono ?_;rintro e w9 ⟨u9,ys9,rfl,TK,lb9,L9⟩;obtain⟨ZP,vc9,rfl⟩:=aT L9.r;have HL9:Hid (ys9.length=3∧IW ap b<+:ys9):=⟨TK.out.2,by rw [IW,<- HD.out,<- HS5.out];exact TK.out.1⟩;clear L8 TK lb9;go_wp2
 go_loopw [8,9,10] (fun v av iv wr=>∃ (k:Nat) (ab:ByteArray) (xs:List Rr),k<=parts∧iv=.int .i64 k∧av=.string ab∧1<=ab.size∧ab.size<=30∧Hid (IW ap b<+:xs∧3<=xs.length)∧xs.length<=3+3*k∧Dl w g a n cap v xs wr) (fun _ _ i _=>parts-(intOf i).toNat)
 case atStart=>exact⟨0,ap,ys9,dO _,rfl,rfl,Hr,by omega,⟨HL9.out.2,by have:=HL9.out.1;omega⟩,by have:=HL9.out.1;omega,L9⟩
 clear L9 HL9;obtain⟨k,ab,xs,hk,rfl,rfl,fF,iE,FC,VE,L⟩:=hrel;obtain⟨va,vc,rfl⟩:=aT L.r
 by_cases bV:k<parts
 ·have i2:(k:Int)<(parts:Int):=by omega
  go_wp2_with fail
  refine(SC _ xs ab _ L (by omega) fF (by omega)).mono ?_;rintro e wA ⟨u,ys,rfl,Qo,LA⟩;obtain⟨vaA,vcA,rfl⟩:=aT LA.r;have HY:Hid ((IW ap b<+:ys∧3<=ys.length)∧ys.length<=3+3*(k+1)):=⟨⟨FC.out.1.trans Qo.1,by have h1:=Qo.1.length_le;have h2:=FC.out.2;omega⟩,by have:=Qo.2;omega⟩;clear L Qo;go_wp2_with fail
  refine(LA.next 5 (by decide) (by decide)).mono ?_;rintro e wB ⟨r,rfl,OD,rH,LB⟩;clear LA
  by_cases hr:r=0
  ·subst hr;go_wp2_with fail
   refine LB.label.mono ?_;rintro e wC ⟨lb,rfl,CX,EI,LC⟩;clear LB;go_wp2_with fail
   refine(LC.sub1 lb ap (by omega) (by omega) (by simp)).mono ?_;rintro e wD ⟨s,rfl,zs,LD⟩;have nJ:2<=s.size:=by omega
   have i3:(1:Int)<(s.size:Int):=by omega
   have oI:s.size<=30:=by omega
   clear LC zs
   by_cases hc:((s[1].toNat:Int)==42)=true
   ·go_wp2;go_roundw
    case rel=>exact⟨k+1,ap,ys,bV,by go_num,rfl,Hr,by omega,HY.out.1,HY.out.2,LD⟩
    simp [intOf];omega
   have DF:((s[1].toNat:Int)==42)=false:=by simpa using hc
   clear hc;go_wp2;go_roundw
   case rel=>exact⟨k+1,s,ys,bV,by go_num,rfl,by omega,oI,HY.out.1,HY.out.2,LD⟩
   simp [intOf];omega
  have n0:(r==0)=false:=by rw [dC];exact hr
  go_wp2;go_roundw
  case rel=>exact⟨k+1,ab,ys,bV,by go_num,rfl,fF,iE,HY.out.1,HY.out.2,LB⟩
  simp [intOf];omega
 have nS:k=parts:=by omega
 subst nS;have i3:¬(k:Int)<(k:Int):=by omega
 go_wp2;go_ret2;exact⟨ap,b,_,rfl,HAP.out,HB.out,xs,FC.out.1,FC.out.2,VE,L⟩
