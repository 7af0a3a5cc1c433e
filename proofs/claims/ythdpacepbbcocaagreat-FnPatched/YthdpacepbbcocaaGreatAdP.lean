import Derived.Test.YthdpacepbbcocaaGreatJPzN
import Derived.Test.YthdpacepbbcocaaGreatAdA
set_option linter.unusedVariables false
set_option maxRecDepth 100000
set_option maxHeartbeats 6400000
namespace Go.Proofs.YthdpacepbbcocaaGreat
open Go.RowKit
def ApP(o:ByteArray)(v:Value)(ps:List Zp)(M:Nat)(w:World)(e:Ending)(w':World):Prop:=∃ v' ps',e=.returned (.agg #[.string o,v'])∧IZ w.heap.size v ps w' v' ps'∧Hid (ZB ps' M∧NY ps' o)∧Below w.heap.size w w'
structure Ap (w:World) (o:ByteArray) (v vn:Value) (W:World):Prop where
 z:bG W w.heap.size #[.string o,v] 25
 q:bG W (w.heap.size+1) #[.string ByteArray.empty,.slice none 0 0] 25
 k:bG W (w.heap.size+1+1) #[.string o,vn] 25
 b:Below w.heap.size w W
section
variable {w W W1:World}{o:ByteArray}{v vn:Value}
theorem Ap.below(h:Ap w o v vn W)(hb:Below W.heap.size W W1):Ap w o v vn W1:=⟨aB h.z hb,aB h.q hb,aB h.k hb,Nm.aC h.b hb⟩
theorem Ap.lt(h:Ap w o v vn W):w.heap.size+1+1<W.heap.size:=bU h.k
theorem Ap.row(h:Ap w o v vn W){b:Option Nat}(hg:W.grownBy W1 b)(hb:∀ g,b=some g->w.heap.size+1+1<g):Ap w o v vn W1:=by
 have f:∀ {c:Nat},c<=w.heap.size+1+1->b≠some c:=fun hc e=>by have:=hb _ e;omega
 exact⟨aP h.z hg (f (by omega)),aP h.q hg (f (by omega)),aP h.k hg (f (by omega)),h.b.grown hg (by have:=h.lt;omega) (fun g hk=>by have:=hb g hk;omega)⟩
theorem Ap.put(h:Ap w o v vn W)(vx:Value):Ap w o v vx ((W.setCell ⟨w.heap.size+1+1,0,none⟩ (.string o)).setCell ⟨w.heap.size+1+1,1,none⟩ vx):=
 ⟨aW (aW h.z (by omega)) (by omega),aW (aW h.q (by omega)) (by omega),by simpa using aI (aI h.k 0 (.string o)) 1 vx,(h.b.setCell (p:=⟨w.heap.size+1+1,0,none⟩) (by show w.heap.size<=w.heap.size+1+1;omega) _).setCell (p:=⟨w.heap.size+1+1,1,none⟩) (by show w.heap.size<=w.heap.size+1+1;omega) _⟩
theorem Ap.start(w:World)(o:ByteArray)(v:Value):Ap w o v v (((w.alloc (.cells #[.string o,v] 25)).alloc (.cells #[.string ByteArray.empty,.slice none 0 0] 25)).alloc (.cells #[.string o,v] 25)):=by
 have kr:=aR (aH (w.alloc (.cells #[.string o,v] 25)) #[.string ByteArray.empty,.slice none 0 0] 25) (.cells #[.string o,v] 25);have kq:=aH ((w.alloc (.cells #[.string o,v] 25)).alloc (.cells #[.string ByteArray.empty,.slice none 0 0] 25)) #[.string o,v] 25;rw [fV] at kr;rw [fV,fV] at kq;exact⟨aR (aR (aH w _ _) _) _,kr,kq,(((aK _ _).alloc (aN _) _).alloc (by simp) _).alloc (by simp;omega) _⟩
end
theorem Iy(o:ByteArray)(v lv:Value)(ps:List Zp)(L:List Rr)(N:Nat)(w:World)(h:gI w v ps)(hlv:bS w lv L.length 5 (bK L))(hL:∀ r∈L,ZR r)(hB:ZB ps N)(hN:N+L.length<=200)(hz:pI ps o=true)(ho:o.size<=20):
 Calls Tryz.prog 50 #[.agg #[.string o,v],lv] w (ApP o v ps (N+L.length) w):=by
 obtain⟨i0,hi,iJ,fP,fZ⟩:=info_parts Tryz.Fw;obtain⟨va,vc,rfl⟩:=iV h;obtain⟨_,la,lc,rfl,hlcap,hlmx,hlc⟩:=hlv;have HL:=Nm.aF hL;have HLC:=Nm.aF hlc;have HW:Hid (∀ W,Below w.heap.size w W->gI W (.slice va ps.length vc) ps):=fun W hW=>h.below hW
 have HS1:=Nm.aF (fun W (hW:Below w.heap.size w W)=>lZ o (.slice va ps.length vc) ps W (HW.out W hW) (hB.Bu (by omega)) (hB.fit (by omega)) (by unfold maxLen;omega) hz);have Ug:Hid (ps.length<=200):=by have:=hB.len;show _<=_;omega
 have HBZ:=Nm.aF (aV hB hz);generalize CS (eX ps)=SD at*;have A0:=Ap.start w o (.slice va ps.length vc);clear hL hlc h hB hz;go_enter Tryz.func50,Tryz.ntmps50;go_wp2_with fail
 go_loopw [6] (fun iv wr=>∃ (j:Nat) (vn:Value) (pn:List Zp),j<=L.length∧iv=.int .i64 (j:Int)∧Ap w o (.slice va ps.length vc) vn wr∧IZ w.heap.size (.slice va ps.length vc) ps wr vn pn∧Hid (ZB pn (N+j)∧pI pn o=true)) (fun i _=>L.length-(intOf i).toNat)
 case atStart=>exact⟨0,_,ps,dO _,rfl,A0,IZ.refl,HBZ.out⟩
 obtain⟨j,vn,pn,hj,rfl,A,hnz,HB⟩:=hrel;clear A0;have eF:=hnz.row (HW.out _ A.b);obtain⟨na,nc,rfl⟩:=iV eF
 by_cases bV:j<L.length
 ·obtain⟨x,hx⟩:∃ x,L[j]? =some x:=⟨_,bY bV⟩;have Jf:=HL.out x (bP hx);obtain⟨b,off,rfl,aL⟩:=HLC.out (by omega);obtain⟨c0,c1,c2,c3,c4⟩:=gT aL hx
  have HC:Hid (∀ W,Below w.heap.size w W->W.cell? ⟨b,off+j*5,none⟩=some (.string x.own)∧W.cell? ⟨b,off+j*5+1,none⟩=some (.int .i64 x.ty)∧W.cell? ⟨b,off+j*5+2,none⟩=some (.int .i64 x.cl)∧W.cell? ⟨b,off+j*5+3,none⟩=some (.int .i64 x.tt)∧W.cell? ⟨b,off+j*5+4,none⟩=some (.string x.da)):=by
   intro W hW;have put:∀ {i:Nat} {z:Value},w.cell? ⟨b,i,none⟩=some z->W.cell? ⟨b,i,none⟩=some z:=fun h=>(hW.cell (eB w _ h)).trans h
   exact⟨put c0,put c1,put c2,put c3,put c4⟩
  have aOe:=fun W (hW:gI W (.slice na pn.length nc) pn)=>aAb o (.slice na pn.length nc) pn x (N+j) W hW HB.out.1 (by omega) HB.out.2 ho Jf
  have aOf:=fun W (hW:gI W (.slice na pn.length nc) pn)=>Bv o (.slice na pn.length nc) pn x (N+j) W hW HB.out.1 (by omega) HB.out.2 ho Jf.1
  obtain⟨xo,xt,xc,xu,xd⟩:=x;simp only at HC aOe aOf
  clear aL c0 c1 c2 c3 c4 hx Jf;obtain⟨c0,c1,c2,c3,c4⟩:=HC.out wr A.b;have i1:(0:Int)<=(j:Int):=by omega
  have i2:(j:Int)<(L.length:Int):=by omega
  have hwj:IntKind.i64.wrap (j:Int)=(j:Int):=Go.wrap_small _ (by omega) (by omega);have hrD:=eF.below (aK _ wr).drew;have hwr3:=A.lt
  by_cases iK:xc=1
  ·subst iK;clear aOf;go_wp2_with fail
   refine kR (fun X=>X.cell? ⟨b,off+j*5,none⟩=some (.string xo)∧X.cell? ⟨b,off+j*5+1,none⟩=some (.int .i64 xt)∧X.cell? ⟨b,off+j*5+2,none⟩=some (.int .i64 1)∧X.cell? ⟨b,off+j*5+3,none⟩=some (.int .i64 xu)∧X.cell? ⟨b,off+j*5+4,none⟩=some (.string xd)) 1000 (HC.out wr.drew (Nm.aC A.b (aK _ wr).drew)) fun aO=>?_;have AD:=A.below (aK _ wr).drew;have kk:=fun i=>aA AD.k i
   clear c0 c1 c2 c3 c4 A;refine kB 1 rfl ?_;refine kB 2 rfl ?_;refine kB 3 rfl ?_;refine kB 4 rfl ?_;refine k1 0 rfl fun K hK=>?_
   go_simp;refine hK.out _ _ aO fun _=>?_;clear hK K;refine k1 5 rfl fun K hK=>?_
   go_simp;refine((aOe _ hrD)).mono ?_;rintro e w5 ⟨v5,p5,rfl,n5,z5,b5⟩;have A5:=AD.below b5;have hz5:IZ w.heap.size (.slice va ps.length vc) ps w5 v5 p5:=(hnz.below (Nm.aC (aK _ wr).drew b5)).step n5 (by show w.heap.size<=wr.heap.size;omega);obtain⟨ya,yc,rfl⟩:=iV (hz5.row (HW.out _ A5.b));have kk5:=fun i=>aA A5.k i
   have ff5:=fun i=>aG A5.k i
   have AE:=A5.put (.slice ya p5.length yc);have zE:=(hz5.dL (i:=0) (x:=.string o) A5.k (by decide) (by decide)).dL (i:=1) (x:=.slice ya p5.length yc) (aI A5.k 0 (.string o)) (by decide) (by decide);have HE:=Nm.aF (aV AE (aV zE z5));have hc5:=HC.out _ A5.b;clear AE zE hz5 n5 b5 AD kk hnz A5 z5;go_wp2_with fail
   refine hK.out _ _ hc5 fun _=>?_;clear hK K hc5;refine k1 6 rfl fun K hK=>?_
   go_simp;refine hK.out _ _ (HC.out _ HE.out.1.b) fun _=>?_;clear hK K aO kk5 ff5;refine kN ?_
   try go_simp
   go_wp2;go_roundw
   case rel=>exact⟨j+1,_,p5,bV,by go_num,HE.out.1,HE.out.2.1,⟨HE.out.2.2.out.1.up (by omega),HE.out.2.2.out.2⟩⟩
   simp [intOf];omega
  have n1:(xc==1)=false:=by rw [dC];exact iK
  clear aOe iK;go_wp2_with fail
  refine kR (fun X=>X.cell? ⟨b,off+j*5,none⟩=some (.string xo)∧X.cell? ⟨b,off+j*5+1,none⟩=some (.int .i64 xt)∧X.cell? ⟨b,off+j*5+2,none⟩=some (.int .i64 xc)∧X.cell? ⟨b,off+j*5+3,none⟩=some (.int .i64 xu)∧X.cell? ⟨b,off+j*5+4,none⟩=some (.string xd)) 1000 (HC.out wr.drew (Nm.aC A.b (aK _ wr).drew)) fun aO=>?_;have AD:=A.below (aK _ wr).drew;have kk:=fun i=>aA AD.k i
  clear c0 c1 c2 c3 c4 A;refine kB 1 rfl ?_;refine kB 2 rfl ?_;refine kB 3 rfl ?_;refine kB 4 rfl ?_;refine k1 0 rfl fun K hK=>?_
  go_simp;refine hK.out _ _ aO fun _=>?_;clear hK K;refine k1 5 rfl fun K hK=>?_
  go_simp;refine((aOf _ hrD)).mono ?_;rintro e w5 ⟨v5,p5,rfl,n5,z5,b5⟩;have A5:=AD.below b5;have hz5:IZ w.heap.size (.slice va ps.length vc) ps w5 v5 p5:=(hnz.below (Nm.aC (aK _ wr).drew b5)).step n5 (by show w.heap.size<=wr.heap.size;omega);obtain⟨ya,yc,rfl⟩:=iV (hz5.row (HW.out _ A5.b));have kk5:=fun i=>aA A5.k i
  have ff5:=fun i=>aG A5.k i
  have AE:=A5.put (.slice ya p5.length yc);have zE:=(hz5.dL (i:=0) (x:=.string o) A5.k (by decide) (by decide)).dL (i:=1) (x:=.slice ya p5.length yc) (aI A5.k 0 (.string o)) (by decide) (by decide);have HE:=Nm.aF (aV AE (aV zE z5));have hc5:=HC.out _ A5.b;clear AE zE hz5 n5 b5 AD kk hnz A5 z5;go_wp2_with fail
  refine hK.out _ _ hc5 fun _=>?_;clear hK K hc5;refine k1 6 rfl fun K hK=>?_
  go_simp;refine hK.out _ _ (HC.out _ HE.out.1.b) fun _=>?_;clear hK K aO kk5 ff5;refine kN ?_
  try go_simp
  go_wp2;go_roundw
  case rel=>exact⟨j+1,_,p5,bV,by go_num,HE.out.1,HE.out.2.1,⟨HE.out.2.2.out.1.up (by omega),HE.out.2.2.out.2⟩⟩
  simp [intOf];omega
 have nS:j=L.length:=by omega
 subst nS;have HS2:=Nm.aF (fun W (hW:gI W (.slice na pn.length nc) pn)=>lZ o (.slice na pn.length nc) pn W hW (HB.out.1.Bu (by omega)) (HB.out.1.fit (by omega)) (by unfold maxLen;omega) HB.out.2);have HSS:=Nm.aF (fun W (h1:gI W (.slice na pn.length nc) pn) (h2:gI W (.slice va ps.length vc) ps)=>CV o (.slice na pn.length nc) (.slice va ps.length vc) pn ps W h1 h2);have hbp:=HB.out.1.len;have HFU:=Nm.aF (aH9 HB.out.2);have HON:=Nm.aF HB.out.1.one;generalize CB (pn.map (·.1)) (ps.map (·.1))=SZ at*;generalize CS (eX pn)=SN at*;have AD:=A.below (aK _ wr).drew;have HS8:Hid (∀ W,Below wr.drew.heap.size wr.drew W->Ap w o (.slice va ps.length vc) (.slice na pn.length nc) W∧IZ w.heap.size (.slice va ps.length vc) ps W (.slice na pn.length nc) pn):=fun W hW=>⟨AD.below hW,(hnz.below (aK _ wr).drew).below hW⟩
 clear A hnz eF AD;go_wp2_with fail
 refine kR (fun X=>bG X w.heap.size #[.string o,.slice va ps.length vc] 25∧bG X (w.heap.size+1+1) #[.string o,.slice na pn.length nc] 25) 1000 (by have h:=(HS8.out _ (aK _ _)).1;exact⟨h.z,h.k⟩) fun aO=>?_;refine kP 0 rfl ?_;refine kP 1 rfl ?_;refine k1 2 rfl fun K hK=>?_
 go_simp;refine(HSS.out _ ((HS8.out _ (aK _ _)).2.row (HW.out _ (HS8.out _ (aK _ _)).1.b)) (HW.out _ (HS8.out _ (aK _ _)).1.b)).mono ?_;rintro e w5 ⟨rfl,b5⟩;have hh5:=HS8.out _ b5;go_wp2_with fail
 refine hK.out _ _ ⟨hh5.1.z,hh5.1.k⟩ fun aO=>?_;clear hK K HSS;refine kP 3 rfl ?_
 cases SZ with
 |true=>
  refine kS 4 rfl ?_;refine kS 5 rfl ?_;refine kS 6 rfl ?_;refine kS 7 rfl ?_;refine kS 8 rfl ?_;refine kP 9 rfl ?_;refine kN ?_;obtain⟨A9,z9⟩:=hh5;clear aO HS8 HS1 HS2 b5
  try go_simp
  have kk9:=fun i=>aA A9.k i
  have rq:=fun i=>aA A9.q i
  have fq:=fun i=>aG A9.q i
  have kE:=aI (aI A9.q 0 (.string o)) 1 (.slice na pn.length nc);have rE:=fun i=>aA kE i
  have bE:=(A9.b.setCell (p:=⟨w.heap.size+1,0,none⟩) (by show w.heap.size<=w.heap.size+1;omega) (.string o)).setCell (p:=⟨w.heap.size+1,1,none⟩) (by show w.heap.size<=w.heap.size+1;omega) (.slice na pn.length nc);have zE:=(z9.dL (i:=0) (x:=.string o) A9.q (by decide) (by decide)).dL (i:=1) (x:=.slice na pn.length nc) (aI A9.q 0 (.string o)) (by decide) (by decide);have HE:=Nm.aF (aV zE bE);clear kE bE zE A9 z9;go_wp2;refine gD (v:=.agg #[.string o,.slice na pn.length nc]) ?_ rfl ?_
  rotate_left
  ·exact⟨_,_,rfl,HE.out.1,⟨HB.out.1,YV HB.out.1 HB.out.2⟩,HE.out.2⟩
  simp [results,Tryz.results50,go_sem,Result.andThen,rE]
 |false=>
  refine kP 4 rfl ?_;refine kP 6 rfl ?_;refine k1 5 rfl fun K hK=>?_
  go_simp;refine(HS1.out _ hh5.1.b).mono ?_;rintro e w6 ⟨rfl,b6⟩;have b6':=Nm.aC b5 b6;have hh6:=HS8.out _ b6';go_wp2_with fail
  refine hK.out _ _ ⟨hh6.1.z,hh6.1.k⟩ fun aO=>?_;clear hK K hh5 b5 b6;refine k1 7 rfl fun K hK=>?_
  go_simp;refine(HS2.out _ (hh6.2.row (HW.out _ hh6.1.b))).mono ?_;rintro e w7 ⟨rfl,b7⟩;have b7':=Nm.aC b6' b7;have hh7:=HS8.out _ b7';go_wp2_with fail
  refine hK.out _ _ ⟨hh7.1.z,hh7.1.k⟩ fun aO=>?_;clear hK K hh6 b6' b7 HS2;refine k1 8 rfl fun K hK=>?_
  go_simp;refine(lU SD SN w7).mono ?_;rintro e w8 ⟨rfl,hw8⟩;obtain rfl:=hw8;go_wp2_with fail
  refine hK.out _ _ ⟨hh7.1.z,hh7.1.k⟩ fun aO=>?_;clear hK K;generalize rJ SD SN=SL;refine kP 9 rfl ?_;refine kN ?_;obtain⟨A9,z9⟩:=hh7;clear aO HS8 b7'
  cases SL with
  |true=>
   clear HS1
   try go_simp
   have kk9:=fun i=>aA A9.k i
   have rq:=fun i=>aA A9.q i
   have fq:=fun i=>aG A9.q i
   have kE:=aI (aI A9.q 0 (.string o)) 1 (.slice na pn.length nc);have rE:=fun i=>aA kE i
   have bE:=(A9.b.setCell (p:=⟨w.heap.size+1,0,none⟩) (by show w.heap.size<=w.heap.size+1;omega) (.string o)).setCell (p:=⟨w.heap.size+1,1,none⟩) (by show w.heap.size<=w.heap.size+1;omega) (.slice na pn.length nc);have zE:=(z9.dL (i:=0) (x:=.string o) A9.q (by decide) (by decide)).dL (i:=1) (x:=.slice na pn.length nc) (aI A9.q 0 (.string o)) (by decide) (by decide);have HE:=Nm.aF (aV zE bE);clear kE bE zE A9 z9;go_wp2;refine gD (v:=.agg #[.string o,.slice na pn.length nc]) ?_ rfl ?_
   rotate_left
   ·exact⟨_,_,rfl,HE.out.1,⟨HB.out.1,YV HB.out.1 HB.out.2⟩,HE.out.2⟩
   simp [results,Tryz.results50,go_sem,Result.andThen,rE]
  |false=>
   have A8:=A9;have Br:=Nm.aF (fun W (hW:Below w8.heap.size w8 W)=>(z9.below hW).row (HW.out _ (A8.below hW).b));have HAP:=Nm.aF (fun W (hW:Below w8.heap.size w8 W)=>A8.below hW);have kc0:=aH w8 #[.string o,.slice none 0 0] 25;have bw0:=(aK w8.heap.size w8).alloc (aN _) (.cells #[.string o,.slice none 0 0] 25);have kk9:=fun i=>aA A9.k i
   have hw8:=A8.lt;clear A9 z9
   try go_simp
   go_wp2_with fail
   go_loopw [8] (fun iv wr=>∃ (j:Nat) (qs:List Zp) (uo:Value),j<=pn.length∧iv=.int .i64 (j:Int)∧Below w8.heap.size w8 wr∧bG wr w8.heap.size #[.string o,uo] 25∧dH wr w8.heap.size uo qs∧Hid (CqL pn qs j)) (fun i _=>pn.length-(intOf i).toNat)
   case atStart=>exact⟨0,[],_,dO _,rfl,bw0,kc0,dH.nil _ _,aLm _⟩
   obtain⟨j,qs,uo,hj,rfl,Bw,kc,NF,HQL⟩:=hrel;clear kc0 bw0 kk9;have eF:=Br.out _ Bw;have kk:=fun i=>aA (HAP.out _ Bw).k i
   have hql:=Nat.le_of_eq HQL.out.1;obtain⟨ua,uc,rfl⟩:=aT NF.outer
   by_cases bV:j<pn.length
   ·obtain⟨p,hp⟩:∃ p,pn[j]? =some p:=⟨_,bY bV⟩;have hpm:=bP hp;have aIs:=HFU.out p hpm;have jW:=HON.out p hpm;obtain⟨⟨_,pa,pc,hpv,hpcap,hpmx,hpc⟩,hpd⟩:=eF;simp only [iG] at hpv;obtain⟨rfl,-,rfl⟩:=hpv;obtain⟨b,off,rfl,aL⟩:=hpc (by omega);obtain⟨d0,d1,d2,d3⟩:=lG aL hp;have oZ:=FT p.1 p.2 wr (hpd p hpm) (by have h1:=IK hpm;have h2:=HB.out.1.cnt;omega);have n1:(0:Int)<=(j:Int):=by omega
    have n2:(j:Int)<(pn.length:Int):=by omega
    have HHP:=Nm.aF hp;obtain⟨⟨xo,xt,xu,TM⟩,pv⟩:=p;simp only at d0 d1 d2 d3 oZ aIs jW
    clear aL hpc hpd hp hpm;go_wp2_with fail
    refine oZ.mono ?_;rintro e w9 ⟨u,rfl,hu,b9⟩;obtain⟨xa,xc,rfl⟩:=aT hu;have Iq:=aB kc b9;have aSd:=NF.below b9;have Bw9:=Nm.aC Bw b9
    have aSe:∀ p∈qs,∀ g',p.2.ownBlock=some g'->(Value.slice xa TM.length xc).ownBlock≠some g':=fun p hp g' e e'=>by
     obtain⟨i,hi⟩:=List.getElem?_of_mem hp;have h8:=((NF.inner i p hi).lt g' e).2;have h9:=(hu.lt g' e').1;omega
    have hu9:=fQ hu Bw.size;clear oZ kc NF Bw hu b9 d0 d1 d2 d3 kk;obtain⟨sb,BL⟩:∃ sb,sb=w9.heap.size:=⟨_,rfl⟩;have qG:=(aK w9.heap.size w9).alloc (aN _) (.cells #[.string xo,.int .i64 xt,.int .i64 xu,.slice xa TM.length xc] 60);have ks6:=aH w9 #[.string xo,.int .i64 xt,.int .i64 xu,.slice xa TM.length xc] 60;have YN:=aB Iq qG;have Bz:=aSd.below qG;have Bw6:=Nm.aC Bw9 qG;have hu6:=own_below hu9 qG;have aAc:=aSe;rw [<- BL] at ks6;clear Iq aSd Bw9 hu9 qG aSe;go_upto_region 15 with fail
    rw [<- BL];generalize w9.alloc (.cells #[.string xo,.int .i64 xt,.int .i64 xu,.slice xa TM.length xc] 60)=W6 at*;clear BL;have rs6:=fun i=>aA ks6 i
    have hp:=HHP.out
    by_cases h6:xt=6
    ·subst h6
     obtain⟨d0,ds,HDA⟩:∃ d0 ds,Hid (TM=d0::ds):=by
      cases hx:TM with
      |nil=>rw [hx] at aIs;simp at aIs
      |cons a b=>exact⟨a,b,rfl⟩
     obtain⟨ub,rfl⟩:∃ ub,xa=some ⟨ub,0,none⟩:=by
      rcases hu6.2 with⟨h',h2⟩|⟨g',cap',cur',h',_⟩
      ·omega
      simp only [iG] at h';exact⟨_,h'.1⟩
     have cu:W6.cell? ⟨ub,0,none⟩=some (.string d0):=(hu6.cellAt 0 (by omega)).trans (by rw [HDA.out];rfl);have hub:=(hu6.lt ub rfl).1;have hd0:=jW.2 d0 (by rw [HDA.out];simp);have aT7:ub≠sb:=fun e=>bW hu6 ks6 (by decide) (by rw [e];rfl)
     have aT8:ub≠w8.heap.size:=fun e=>bW hu6 YN (by decide) (by rw [e];rfl)
     have aT9:=aMf Bz.outer hu6 (by decide);have HS6:Hid (∀ W,Below W6.heap.size W6 W->bG W sb #[.string xo,.int .i64 6,.int .i64 xu,.slice (some ⟨ub,0,none⟩) TM.length xc] 60∧bG W w.heap.size #[.string o,.slice va ps.length vc] 25∧W.cell? ⟨ub,0,none⟩=some (.string d0)):=fun W hW=>⟨aB ks6 hW,(HAP.out _ (Nm.aC Bw6 hW)).z,(hW.cell (eB W6 _ cu)).trans cu⟩
     have HK6:=Nm.aF (aV YN (aV Bz (aV hu6 aAc)));have i0:(0:Int)<(TM.length:Int):=by omega
     clear YN Bz hu6 aAc ks6 hp cu;go_wp2_with fail
     refine kR (fun X=>bG X sb #[.string xo,.int .i64 6,.int .i64 xu,.slice (some ⟨ub,0,none⟩) TM.length xc] 60∧bG X w.heap.size #[.string o,.slice va ps.length vc] 25∧X.cell? ⟨ub,0,none⟩=some (.string d0)) 1000 (HS6.out _ (aK _ W6).drew) fun aO=>?_;refine kQ 0 rfl ?_;refine kQ 1 rfl ?_;refine kQ 2 rfl ?_;refine kQ 3 rfl ?_;refine kQ 4 rfl ?_;refine k1 5 rfl fun K hK=>?_
     go_simp;refine(HS1.out _ (HAP.out _ (Nm.aC Bw6 (aK _ W6).drew)).b).mono ?_;rintro e wa ⟨rfl,ba⟩;have ba':=Nm.aC (aK _ W6).drew ba;go_wp2_with fail
     refine hK.out _ _ (HS6.out _ ba') fun aO=>?_;clear hK K ba;refine k1 6 rfl fun K hK=>?_
     go_simp;refine(qM SD wa).mono ?_;rintro e wb ⟨rfl,hwb⟩;obtain rfl:=hwb;go_wp2_with fail
     refine hK.out _ _ (HS6.out _ ba') fun aO=>?_;clear hK K;refine k1 7 rfl fun K hK=>?_
     go_simp;refine(KQ d0 (PK SD) wb (by omega)).mono ?_;rintro e wd ⟨rfl,bd⟩;have bd':=Nm.aC ba' bd;have hxd:=aLo d0 (PK SD) hd0;generalize (FU d0 (PK SD)).1=x at*;generalize (FU d0 (PK SD)).2=xcode at*;go_wp2_with fail
     refine hK.out _ _ (HS6.out _ bd') fun aO=>?_;clear hK K ba' bd;refine kQ 8 rfl ?_;refine kQ 9 rfl ?_;refine kQ 10 rfl ?_;refine kQ 11 rfl ?_;refine kQ 12 rfl ?_;refine kN ?_;obtain⟨ksd,-,cud⟩:=HS6.out _ bd';obtain⟨kcq,hzq,huq,aOg⟩:=HK6.out;have kcd:=aB kcq bd';have hzd:=hzq.below bd';have hud:=own_below huq bd';have Bwd:=Nm.aC Bw6 bd';have oG:=hud.stored 0 (.string x);have fud:=hud.frozenAt 0;have ks6:=aW (c:=ub) (i:=0) (v:=.string x) ksd (Ne.symm aT7);have YN:=aW (c:=ub) (i:=0) (v:=.string x) kcd (Ne.symm aT8);have Bz:=hzd.beside oG.2 (fun g e=>by cases e;exact aT9) (fun g e p hp e2=>by cases e;exact aOg p hp ub e2 rfl);have hu7:=oG.1;have Bw7:=Bwd.setCell (p:=⟨ub,0,none⟩) hub (.string x);have rsd:=fun i=>aA ksd i
     clear Bw6 aO HS6 HK6 kcq hzq huq kcd hzd hud oG HS1 ksd
     try go_simp
     go_upto_region 18 with fail
     generalize wd.setCell ⟨ub,0,none⟩ (.string x)=W7 at*;have Bw6:=Bw7;have hp:=HHP.out
     have hu6:W7.ownsRow w8.heap.size 9 1 (.slice (some ⟨ub,0,none⟩) TM.length xc) (x::ds).length ((x::ds).map Value.string):=by
      have e1:(x::ds).length=TM.length:=by rw [HDA.out];rfl
      have e2:(TM.map Value.string).set 0 (.string x)=(x::ds).map Value.string:=by rw [HDA.out];rfl
      rw [e1,<- e2];exact hu7
     have aAc:=aOg;clear Bw7 hu7 aOg rsd cud fud Bwd bd';clear i0;have zo6:=Bz.outer;have rc6:=fun i=>aA YN i
     have rs6:=fun i=>aA ks6 i
     have kk6:=fun i=>aA (A8.below Bw6).k i
     have h86:=Bw6.size;have hql:=Nat.le_of_eq HQL.out.1;go_wp2_with (at_builtin;refine wpList_append_own _ rfl (.tmp 83) (.tmp 85) 23 rfl w8.heap.size 60 i0 _ 4 56 Tryz.underlying23 hi iJ fP fZ rfl (by decide) _ _ _ rfl (zo6.alloc _) ⟨(W7).heap.size,0,none⟩ 1 1 [.string xo,.int .i64 6,.int .i64 xu,(.slice (some ⟨ub,0,none⟩) TM.length xc)] rfl rfl (dU (W7) #[.string xo,.int .i64 6,.int .i64 xu,(.slice (some ⟨ub,0,none⟩) TM.length xc)] 60) (by intro u hu;simp at hu;rcases hu with rfl|rfl|rfl|rfl<;>rfl) (by unfold maxLen;omega) (by omega) (by simp;omega) ?_)
     intro v9 w9 gZ iF _;have qG:=(aK (W7).heap.size (W7)).alloc (aN _) (.cells #[.string xo,.int .i64 6,.int .i64 xu,(.slice (some ⟨ub,0,none⟩) TM.length xc)] 60);have Iq:=aP (aB YN qG) iF (bW (zo6.alloc _) (aB YN qG) (by decide));have zo9:=dH.snoc (s:=⟨xo,6,xu,(x::ds)⟩) (Bz.below qG) (own_below hu6 qG) aAc gZ iF;have Bw9:=(Bw6.alloc h86 (.cells #[.string xo,.int .i64 6,.int .i64 xu,(.slice (some ⟨ub,0,none⟩) TM.length xc)] 60)).grown iF (by simp;omega) (fun k hk=>(zo6.lt k hk).1);obtain⟨ZP,vc9,rfl⟩:=aT gZ;have kE:=aI Iq 1 (.slice ZP (qs.length+1) vc9);simp only [List.setIfInBounds_toArray,List.set_cons_zero,List.set_cons_succ] at kE;have zE:=dH.dL (x:=.slice ZP (qs.length+1) vc9) (i:=1) zo9 Iq (by decide) (by decide);have bE:=Bw9.setCell (p:=⟨w8.heap.size,1,none⟩) (aN _) (.slice ZP (qs.length+1) vc9);have HE:=Nm.aF (aV kE (aV zE (aV bE (Ru HQL.out hp (q:=(⟨xo,6,xu,(x::ds)⟩,(.slice (some ⟨ub,0,none⟩) TM.length xc))) (aOa (p:=⟨xo,6,xu,TM⟩) jW.2 HDA.out hxd)))));have rc9:=fun i=>aA Iq i
     have fc9:=fun i=>aG Iq i
     clear kE zE bE zo9 Bw9 Iq iF gZ zo6 Bz hu6 aAc YN ks6 Bw6 qG;go_wp2;go_roundw
     case rel=>exact⟨j+1,_,_,bV,by go_num,HE.out.2.2.1,HE.out.1,by simpa using HE.out.2.1,HE.out.2.2.2⟩
     simp [intOf];omega
    have n6:(xt==6)=false:=by rw [dC];exact h6
    clear h6;have zo6:=Bz.outer;have rc6:=fun i=>aA YN i
    have rs6:=fun i=>aA ks6 i
    have kk6:=fun i=>aA (A8.below Bw6).k i
    have h86:=Bw6.size;have hql:=Nat.le_of_eq HQL.out.1;go_wp2_with (at_builtin;refine wpList_append_own _ rfl (.tmp 83) (.tmp 85) 23 rfl w8.heap.size 60 i0 _ 4 56 Tryz.underlying23 hi iJ fP fZ rfl (by decide) _ _ _ rfl (zo6.alloc _) ⟨(W6).heap.size,0,none⟩ 1 1 [.string xo,.int .i64 xt,.int .i64 xu,(.slice xa TM.length xc)] rfl rfl (dU (W6) #[.string xo,.int .i64 xt,.int .i64 xu,(.slice xa TM.length xc)] 60) (by intro u hu;simp at hu;rcases hu with rfl|rfl|rfl|rfl<;>rfl) (by unfold maxLen;omega) (by omega) (by simp;omega) ?_)
    intro v9 w9 gZ iF _;have qG:=(aK (W6).heap.size (W6)).alloc (aN _) (.cells #[.string xo,.int .i64 xt,.int .i64 xu,(.slice xa TM.length xc)] 60);have Iq:=aP (aB YN qG) iF (bW (zo6.alloc _) (aB YN qG) (by decide));have zo9:=dH.snoc (s:=⟨xo,xt,xu,TM⟩) (Bz.below qG) (own_below hu6 qG) aAc gZ iF;have Bw9:=(Bw6.alloc h86 (.cells #[.string xo,.int .i64 xt,.int .i64 xu,(.slice xa TM.length xc)] 60)).grown iF (by simp;omega) (fun k hk=>(zo6.lt k hk).1);obtain⟨ZP,vc9,rfl⟩:=aT gZ;have kE:=aI Iq 1 (.slice ZP (qs.length+1) vc9);simp only [List.setIfInBounds_toArray,List.set_cons_zero,List.set_cons_succ] at kE;have zE:=dH.dL (x:=.slice ZP (qs.length+1) vc9) (i:=1) zo9 Iq (by decide) (by decide);have bE:=Bw9.setCell (p:=⟨w8.heap.size,1,none⟩) (aN _) (.slice ZP (qs.length+1) vc9);have HE:=Nm.aF (aV kE (aV zE (aV bE (Ru HQL.out hp (q:=(⟨xo,xt,xu,TM⟩,(.slice xa TM.length xc))) (aLp jW.2)))));have rc9:=fun i=>aA Iq i
    have fc9:=fun i=>aG Iq i
    clear kE zE bE zo9 Bw9 Iq iF gZ zo6 Bz hu6 aAc YN ks6 Bw6 qG;go_wp2;go_roundw
    case rel=>exact⟨j+1,_,_,bV,by go_num,HE.out.2.2.1,HE.out.1,by simpa using HE.out.2.1,HE.out.2.2.2⟩
    simp [intOf];omega
   have KA:j=pn.length:=by omega
   subst KA;have A9:=HAP.out _ Bw;have rq:=fun i=>aA A9.q i
   have fq:=fun i=>aG A9.q i
   have rc:=fun i=>aA kc i
   have kE:=aI (aI A9.q 0 (.string o)) 1 (.slice ua qs.length uc);have rE:=fun i=>aA kE i
   have bE:=(A9.b.setCell (p:=⟨w.heap.size+1,0,none⟩) (by show w.heap.size<=w.heap.size+1;omega) (.string o)).setCell (p:=⟨w.heap.size+1,1,none⟩) (by show w.heap.size<=w.heap.size+1;omega) (.slice ua qs.length uc);have zE:=dH.dL (x:=.slice ua qs.length uc) (i:=1) (dH.dL (x:=.string o) (i:=0) (NF.base (B':=w.heap.size) (by omega)) A9.q (by decide) (by decide)) (aI A9.q 0 (.string o)) (by decide) (by decide);have HE:=Nm.aF (aV zE bE);have i3:¬(pn.length:Int)<(pn.length:Int):=by omega
   clear kE bE zE A9 NF kc eF;go_wp2;refine gD (v:=.agg #[.string o,.slice ua qs.length uc]) ?_ rfl ?_
   rotate_left
   ·exact⟨_,_,rfl,.inr HE.out.1,⟨aN9 HQL.out HB.out.1,aLn HQL.out (YV HB.out.1 HB.out.2)⟩,HE.out.2⟩
   simp [results,Tryz.results50,go_sem,Result.andThen,rE]
