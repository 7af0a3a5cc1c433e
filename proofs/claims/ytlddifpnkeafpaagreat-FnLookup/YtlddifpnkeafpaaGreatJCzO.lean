import Derived.Test.YtlddifpnkeafpaaGreatJFsC
import Derived.Test.YtlddifpnkeafpaaGreatJFsT
set_option linter.unusedVariables false
set_option maxRecDepth 100000
set_option maxHeartbeats 6400000
namespace Go.Proofs.YtlddifpnkeafpaaGreat
open Go.RowKit
theorem aCr(bb:Nat)(la:Option Addr)(lc:Nat)(list:List Rr)(aL:ByteArray)(w:World)(hk:bW w bb #[.slice la list.length lc,.string aL,.slice none 0 0,.slice none 0 0,.pointer none,.slice none 0 0] 113)(h:w.ownsRow 0 133 5 (.slice la list.length lc) list.length (jC list))(ha:aL.size<=1000000000)(ho:∀ r∈list,r.own.size<=1000000000∧r.da.size<=2000000):
 Calls Tryz.prog 63 #[.pointer (some ⟨bb,0,none⟩)] w fun e w'=>e=CW (iX list aL).1 (iX list aL).2∧dN [bb] w w'∧((iX list aL).1=0->∃ th ys aa ac eD rv os kv ks B,P3 list aL bb (.slice la list.length lc) th ys aa ac eD rv os kv ks B w'):=
 aCg bb la lc list aL w hk (dZ.aP h) (fun _ e=>dD h hk (by decide) (by have:=yQ h e;simpa using this)) (fun _ b hb=>vW h b (yQ h hb)) (by unfold maxLen;omega) ho
variable {w:World}
theorem Da{fp:List Nat}{B:Nat}{w':World}(h:dN fp w w')(hB:B<=w.heap.size)(hf:∀ b∈fp,B<=b):Below B w w':=
 ⟨h.os,h.tape,h.output,h.size,fun k hk=>h.block k (by omega) (fun hm=>by have:=hf k hm;omega)⟩
theorem Vn{b:Nat}{x0 x1 x2 x3 x4 x5:Value}:dN [b] w ((((((w.setCell ⟨b,0,none⟩ x0).setCell ⟨b,1,none⟩ x1).setCell ⟨b,2,none⟩ x2).setCell ⟨b,3,none⟩ x3).setCell ⟨b,4,none⟩ x4).setCell ⟨b,5,none⟩ x5):=by
 have t:∀ {A C:World} {i:Nat} {x:Value},dN [b] A C->dN [b] A (C.setCell ⟨b,i,none⟩ x):=fun h=>h.trans qP (fun k hk=>.inl hk)
 exact t (t (t (t (t qP))))
theorem aJr{B b n:Nat}{v:Value}{cs:Array Value}{xs:List Value}{x0 x1 x2 x3 x4 x5:Value}(h:w.ownsRow B 133 5 v n xs)(k:bW w b cs 113):((((((w.setCell ⟨b,0,none⟩ x0).setCell ⟨b,1,none⟩ x1).setCell ⟨b,2,none⟩ x2).setCell ⟨b,3,none⟩ x3).setCell ⟨b,4,none⟩ x4).setCell ⟨b,5,none⟩ x5).ownsRow B 133 5 v n xs:=
 qQ h Vn (fun c hc hm=>dD h k (by decide) (by rw [<- List.mem_singleton.1 hc];simpa using hm))
theorem I7(x:ByteArray)(a:Option Addr)(n c:Nat)(W:World):(Instr.field 25 (.agg #[.string x,.slice a n c]) 1).run Tryz.prog W=.ok (.slice a n c) W:=by kernel_rfl
def aMl(ps:List Zp)(o:ByteArray)(w:World)(e:Ending)(w':World):Prop:=Below w.heap.size w w'∧
 ((AO ps o=false∧e=.returned (.tuple #[.pointer none,.bool false]))∨
 (AO ps o=true∧∃ bb lv th ys aa ac eD rv os kv ks B,e=.returned (.tuple #[.pointer (some ⟨bb,3,none⟩),.bool true])∧P3 (aR ps) o bb lv th ys aa ac eD rv os kv ks B w'))
theorem xD(o:ByteArray)(v:Value)(ps:List Zp)(w:World)(h:gG w v ps)(hs:wP ps<=1048576)(hf:∀ p∈ps,p.1.own.size<=1048576∧∀ x∈p.1.da,x.size<=1048576)(ha:o.size<=1000000000):
 Calls Tryz.prog 25 #[.agg #[.string o,v]] w (aMl ps o w):=by
 have k0:=aK w #[.string o,v] 25;have b0:=(aJ w.heap.size w).alloc (aI _) (.cells #[.string o,v] 25);have hzr:=fun W (hW:Below w.heap.size w W)=>LW o v ps W (h.below hW) hs (fun p hp=>(hf p hp).2)
 have hrf:=Uh hf;have hbt:=fun bb la lc W hk hr=>aCr bb la lc (aR ps) o W hk hr ha (fun r hr=>by have:=hrf r hr;exact⟨by omega,by omega⟩)
 have HZ:Hid (∀ bb lv th ys aa ac eD rv os kv ks B W,P3 (aR ps) o bb lv th ys aa ac eD rv os kv ks B W->Calls Tryz.prog 65 #[.pointer (some ⟨bb,3,none⟩),.string o] W fun e W'=>∃ v qs,e=.returned (.agg #[.string o,v])∧qs.map (·.1)=zI (aR ps)∧dF W' W.heap.size v qs∧Below W.heap.size W W'):=by
  intro bb lv th ys aa ac eD rv os kv ks B W hP;have hl5:=hP.hl;have Nc:=hP.st.inv.len.1;rw [List.length_map] at Nc;rw [QF hP.st.inv hP.vZ.1 hP.mix];exact aFf bb 3 th rv os B o W hP.st.tr (hP.st.inv.trs (by rw [List.length_map];omega)) (by omega) hP.st.lab ((aA hP.kb 4).trans rfl) ha
 have hzv:∃ va vc,v=.slice va ps.length vc:=by obtain⟨⟨_,a,c,e,_⟩,_⟩:=h;exact⟨a,c,e⟩
 obtain⟨va,vc,rfl⟩:=hzv;have HH:=Nm.aD (aV h (aV hzr hbt));obtain⟨E,hE⟩:∃ E,E=iX (aR ps) o:=⟨_,rfl⟩;have HE:=Nm.aD hE;clear h hzr hbt hrf hf hE;go_enter Tryz.func25,Tryz.ntmps25;go_upto_region 1 with fail
 go_cut [4] from 7 to 11 (fun p wx=>∃ (bb:Nat) (la:Option Addr) (lc:Nat),p=.pointer (some ⟨bb,0,none⟩)∧w.heap.size<bb∧bW wx bb #[.slice la (aR ps).length lc,.string o,.slice none 0 0,.slice none 0 0,.pointer none,.slice none 0 0] 113∧wx.ownsRow 0 133 5 (.slice la (aR ps).length lc) (aR ps).length (jC (aR ps))∧Below w.heap.size w wx∧bW wx w.heap.size #[.string o,.slice va ps.length vc] 25)
 case first=>
  have hd:Below w.heap.size w (w.alloc (.cells #[.string o,.slice va ps.length vc] 25)).drew:=b0.drew
  have kS:Hid (∀ X,Below (w.heap.size+1) (w.alloc (.cells #[.string o,.slice va ps.length vc] 25)) X->X.cell? ⟨w.heap.size,0,none⟩=some (.string o)∧X.cell? ⟨w.heap.size,1,none⟩=some (.slice va ps.length vc)):=by
   intro X hX;have kx:=aB k0 (by simpa using hX);exact⟨(aA kx 0).trans rfl,(aA kx 1).trans rfl⟩
  have e0:Below (w.heap.size+1) (w.alloc (.cells #[.string o,.slice va ps.length vc] 25)) (w.alloc (.cells #[.string o,.slice va ps.length vc] 25)).drew:=(aJ _ _).drew;refine kR (fun X=>X.cell? ⟨w.heap.size,0,none⟩=some (.string o)∧X.cell? ⟨w.heap.size,1,none⟩=some (.slice va ps.length vc)) 1000 (kS.out _ e0) fun aY=>?_;refine kB 0 rfl ?_;refine kB 2 rfl ?_;refine kB 3 rfl ?_;refine k2 1 5 rfl rfl (fun K hK=>?_) fun K hK=>?_
  ·go_simp;refine(HH.out.2.1 _ hd).mono ?_;rintro e w1 ⟨u,rfl,aU,b1⟩;obtain⟨la,lc,rfl⟩:=aT aU;have oG:w.heap.size+1<=w1.heap.size:=by have:=b1.size;simpa [World.drew] using this
   have e1:Below (w.heap.size+1) (w.alloc (.cells #[.string o,.slice va ps.length vc] 25)) w1:=e0.trans (b1.mono (by show w.heap.size+1<=(w.alloc _).heap.size;simp));have gP:Below w.heap.size w w1:=Nm.aC b0 (by simpa using e1);go_wp2_with fail
   refine hK.out _ _ (kS.out _ e1) fun aY=>?_;clear hK K;refine kB 4 rfl ?_;refine k1 5 rfl fun K hK=>?_
   go_simp;have bz:=(aJ w1.heap.size w1).alloc (aI _) (.cells #[.slice none 0 0,.string ⟨#[]⟩,.slice none 0 0,.slice none 0 0,.pointer none,.slice none 0 0] 113);have kz:=aK w1 #[.slice none 0 0,.string ⟨#[]⟩,.slice none 0 0,.slice none 0 0,.pointer none,.slice none 0 0] 113;have rz:=aA kz
   have fz:=aF kz
   refine hK.out _ _ (kS.out _ (e1.trans (bz.mono oG))) fun aY=>?_;clear hK K;refine k1 6 rfl fun K hK=>?_
   go_simp;have bn:=(aJ w1.heap.size w1).alloc (aI _) (.cells #[.slice la (aR ps).length lc,.string o,.slice none 0 0,.slice none 0 0,.pointer none,.slice none 0 0] 113);have kn:=aK w1 #[.slice la (aR ps).length lc,.string o,.slice none 0 0,.slice none 0 0,.pointer none,.slice none 0 0] 113;have en:=e1.trans (bn.mono oG);refine hK.out _ _ (kS.out _ en) fun aY=>?_;clear hK K;refine kN ?_;go_wp2_with fail
   go_meet;exact⟨w1.heap.size,la,lc,rfl,by omega,kn,fM (own_below aU bn) (dR _),Nm.aC gP bn,aB k0 (by simpa using en)⟩
  go_simp;have kz0:=aK (w.alloc (.cells #[.string o,.slice va ps.length vc] 25)) #[.slice none 0 0,.string ⟨#[]⟩,.slice none 0 0,.slice none 0 0,.pointer none,.slice none 0 0] 113;rw [jO] at kz0;have kz:=fO kz0;have bA:Below (w.heap.size+1) (w.alloc (.cells #[.string o,.slice va ps.length vc] 25)) ((w.alloc (.cells #[.string o,.slice va ps.length vc] 25)).alloc (.cells #[.slice none 0 0,.string ⟨#[]⟩,.slice none 0 0,.slice none 0 0,.pointer none,.slice none 0 0] 113)).drew:=((aJ _ _).alloc (by simp) _).drew;have bA':Below w.heap.size w ((w.alloc (.cells #[.string o,.slice va ps.length vc] 25)).alloc (.cells #[.slice none 0 0,.string ⟨#[]⟩,.slice none 0 0,.slice none 0 0,.pointer none,.slice none 0 0] 113)).drew:=Nm.aC b0 (by simpa using bA)
  have hsA:((w.alloc (.cells #[.string o,.slice va ps.length vc] 25)).alloc (.cells #[.slice none 0 0,.string ⟨#[]⟩,.slice none 0 0,.slice none 0 0,.pointer none,.slice none 0 0] 113)).drew.heap.size=w.heap.size+2:=by
   show((w.alloc _).alloc _).heap.size=_
   simp
  have HSA:=Nm.aD hsA;clear kz0 hsA;refine hK.out _ _ (kS.out _ bA) fun aY=>?_;clear hK K;refine k1 1 rfl fun K hK=>?_
  go_simp;refine(HH.out.2.1 _ bA').mono ?_;rintro e w1 ⟨u,rfl,aU,b1⟩;obtain⟨la,lc,rfl⟩:=aT aU;have oG:w.heap.size+2<=w1.heap.size:=by have:=b1.size;have:=HSA.out;omega
  have e1:Below (w.heap.size+1) (w.alloc (.cells #[.string o,.slice va ps.length vc] 25)) w1:=bA.trans (b1.mono (by have:=HSA.out;omega));have gP:Below w.heap.size w w1:=Nm.aC b0 (by simpa using e1);have FY:=aB kz b1;have HOW:=Nm.aD aU;clear aU kz b1;go_wp2_with fail
  refine hK.out _ _ (kS.out _ e1) fun aY=>?_;clear hK K;refine kB 4 rfl ?_;refine k1 6 rfl fun K hK=>?_
  have rz:=aA FY
  have fz:=aF FY
  go_simp;have kn:=aM (aM (aM (aM (aM (aM FY 0 (.slice la (aR ps).length lc)) 1 (.string o)) 2 (.slice none 0 0)) 3 (.slice none 0 0)) 4 (.pointer none)) 5 (.slice none 0 0);simp only [List.setIfInBounds_toArray,List.set_cons_zero,List.set_cons_succ] at kn;have on:=aJr (v:=.slice la (aR ps).length lc) (x0:=.slice la (aR ps).length lc) (x1:=.string o) (x2:=.slice none 0 0) (x3:=.slice none 0 0) (x4:=.pointer none) (x5:=.slice none 0 0) HOW.out FY;have oo:dN [w.heap.size+1] w1 ((((((w1.setCell ⟨w.heap.size+1,0,none⟩ (.slice la (aR ps).length lc)).setCell ⟨w.heap.size+1,1,none⟩ (.string o)).setCell ⟨w.heap.size+1,2,none⟩ (.slice none 0 0)).setCell ⟨w.heap.size+1,3,none⟩ (.slice none 0 0)).setCell ⟨w.heap.size+1,4,none⟩ (.pointer none)).setCell ⟨w.heap.size+1,5,none⟩ (.slice none 0 0)):=Vn;have en:=e1.trans (Da oo (by omega) (fun b hb=>by rw [List.mem_singleton.1 hb];exact aI _));clear rz fz FY;refine hK.out _ _ (kS.out _ en) fun aY=>?_;clear hK K;refine kN ?_;go_wp2_with fail
  go_meet;exact⟨w.heap.size+1,la,lc,rfl,by omega,kn,fM on (dR _),Nm.aC b0 (by simpa using en),aB k0 (by simpa using en)⟩
 obtain⟨bb,la,lc,rfl,zH,kb,aU,bwc,kZ⟩:=hcut;have N7:=HH.out.2.2 bb la lc wc kb aU;unfold CW at N7;rw [<- HE.out] at N7;obtain⟨C,I⟩:=E;simp only at N7
 have HB:=Nm.aD (aV zH bwc);clear aU kb bwc zH k0 b0
 by_cases hC:C=0
 ·subst hC;go_wp2_with fail
  refine N7.mono ?_;rintro e w2 ⟨rfl,qV,hp⟩;obtain⟨th,ys,aa,ac,eD,rv,os,kv,ks,B,hP⟩:=hp trivial;have WN:=tV kZ qV (fun hm=>by have:=List.mem_singleton.1 hm;have:=HB.out.1;omega);have b2:Below w.heap.size w w2:=HB.out.2.trans (Da qV HB.out.2.size (fun b hb=>by rw [List.mem_singleton.1 hb];have:=HB.out.1;omega));have HP:=Nm.aD (aV hP b2);clear N7 qV hp hP b2 kZ;go_wp2_with fail
  have kS:Hid (∀ X,Below w2.heap.size w2 X->X.cell? ⟨w.heap.size,0,none⟩=some (.string o)∧X.cell? ⟨w.heap.size,1,none⟩=some (.slice va ps.length vc)):=by
   intro X hX;have kx:=aB WN hX;exact⟨(aA kx 0).trans rfl,(aA kx 1).trans rfl⟩
  have bd:=(aJ w2.heap.size w2).drew;clear WN;go_cut [26] from 18 to 26 (fun p wx=>p=.bool (!FP (zI (aR ps)) (ps.map (·.1)))∧Below w2.heap.size w2 wx)
  case first=>
   refine kR (fun X=>X.cell? ⟨w.heap.size,0,none⟩=some (.string o)∧X.cell? ⟨w.heap.size,1,none⟩=some (.slice va ps.length vc)) 1000 (kS.out _ bd) fun aY=>?_;refine kB 0 rfl ?_;refine kB 1 rfl ?_;refine kB 2 rfl ?_;refine kB 5 rfl ?_;refine kB 6 rfl ?_;refine k1 3 rfl fun K hK=>?_
   go_simp;refine(HZ.out _ _ _ _ _ _ _ _ _ _ _ _ _ (HP.out.1.below bd)).mono ?_;rintro e w3 ⟨zv,qs,rfl,Ud,Q4,b3⟩;obtain⟨za,zc,rfl⟩:=aT Q4.outer;have Fa:=Nm.aC bd b3;have Na:=fun W=>I7 o za qs.length zc W
   go_wp2_with fail
   refine hK.out _ _ (kS.out _ Fa) fun aY=>?_;clear hK K;refine kB 4 rfl ?_;refine k1 7 rfl fun K hK=>?_
   go_simp;refine(Fw _ _ qs ps _ Q4.AU ((HH.out.1.below HP.out.2).below Fa)).mono ?_;rintro e w4 ⟨rfl,b4⟩;rw [Ud];have b4':=Nm.aC Fa b4;go_wp2_with fail
   refine hK.out _ _ (kS.out _ b4') fun aY=>?_;clear hK K;refine kB 8 rfl ?_;refine kN ?_;go_wp2_with fail
   go_meet;exact⟨rfl,b4'⟩
  obtain⟨rfl,b5⟩:=hcut;have hEo:(iX (aR ps) o).1=0:=by rw [<- HE.out]
  cases hq:FP (zI (aR ps)) (ps.map (·.1)) with
  |true=>
   have MM:AO ps o=true:=by rw [AO,oI hEo,hq];rfl
   have Jn:=Nm.aD MM;clear hq MM hEo;go_wp2;go_ret2
   exact⟨Nm.aC HP.out.2 b5,.inr ⟨Jn.out,bb,_,th,ys,aa,ac,eD,rv,os,kv,ks,B,rfl,HP.out.1.below b5⟩⟩
  |false=>
   have MM:AO ps o=false:=by rw [AO,hq,Bool.and_false]
   have Jn:=Nm.aD MM;clear hq MM hEo;go_wp2;go_ret2;exact⟨Nm.aC HP.out.2 b5,.inl ⟨Jn.out,rfl⟩⟩
 have n0:(C != 0)=true:=by simpa using hC
 have MM:AO ps o=false:=by rw [AO,<- HE.out,oF hC];rfl
 have Jn:=Nm.aD MM;clear hC MM;go_wp2_with fail
 refine N7.mono ?_;rintro e w2 ⟨rfl,qV,hp⟩;have b2:Below w.heap.size w w2:=HB.out.2.trans (Da qV HB.out.2.size (fun b hb=>by rw [List.mem_singleton.1 hb];have:=HB.out.1;omega));clear N7 qV hp;go_wp2;go_ret2;exact⟨b2,.inl ⟨Jn.out,rfl⟩⟩
theorem Vo(g:Nat)(a:Option Addr)(n cap:Nat)(parts:Nat)(w:World)(h:Src w g a n cap)(hp:parts<=70):
 Calls Tryz.prog 33 #[.pointer (some ⟨g,0,none⟩),.int .i64 (parts:Int)] w fun e w'=>∃ (o:ByteArray) (v:Value) (ps:List Zp),e=.returned (.agg #[.string o,v])∧o.size<=20∧(ZB ps (3+3*parts)∧(0<ps.length∧Vz ps o)∧1<=o.size)∧dF w' w.heap.size v ps∧Src w' g a n cap∧w.grownBy w' (some g):=by
 obtain⟨i0,hi,iQ,iH,iI⟩:=info_parts Tryz.XH;obtain⟨gJ,zD⟩:=qK h;have hA:=aZ h ((aJ _ _).alloc (aI _) (.cells #[.string ByteArray.empty,.slice none 0 0] 25));have hgA:w.grownBy (w.alloc (.cells #[.string ByteArray.empty,.slice none 0 0] 25)) (some g):=dP (World.grownBy.refl _ _) _;have kA:=aK w #[.string ByteArray.empty,.slice none 0 0] 25;have dM:(some g:Option Nat)≠some w.heap.size:=by intro e;simp at e;omega
 go_enter Tryz.func33,Tryz.ntmps33;go_wp2_with fail
 refine(Cy g a n cap parts _ hA (by omega)).mono ?_;rintro e w1 ⟨ap,bb,lv,xs,rfl,xZ,zH,aPw,NK,M8,L⟩;obtain⟨Lb,ha2⟩:=XP xZ;have HA1:=Nm.aD Lb;have HGO:=Nm.aD (aIr xZ zH)
 obtain⟨x0,x1,HF,NF,aI3⟩:∃ x0 x1,Hid ([x0,x1]=LQ ap bb)∧xs[0]? =some x0∧xs[1]? =some x1:=by
  obtain⟨t,rfl⟩:=aPw;exact⟨_,_,rfl,rfl,rfl⟩
 clear xZ zH aPw;obtain⟨la,lc,rfl⟩:=aT L.r;have g1:=aS hgA L.d.gr;have k1:=aO kA L.d.gr dM;have HB0:Hid (∀ W,w1.grownBy W (some g)->w.grownBy W (some g)∧bW W w.heap.size #[.string ByteArray.empty,.slice none 0 0] 25):=fun W hW=>⟨aS g1 hW,aO k1 hW dM⟩
 obtain⟨_,la',lc',ee,gT,kV,hc⟩:=dZ.aP L.r;simp only [gK] at ee;obtain⟨rfl,_,rfl⟩:=ee;obtain⟨b,off,rfl,aH⟩:=hc (by omega)
 have Dj:b≠g:=by
  have h1:=(L.r.lt b rfl).1;rw [jO] at h1;omega
 have HC:Hid (∀ (j:Nat) (x:Rr),xs[j]? =some x->∀ W,Dr w1 g a n cap W->W.cell? ⟨b,off+j*5,none⟩=some (.string x.own)∧W.cell? ⟨b,off+j*5+1,none⟩=some (.int .i64 x.ty)∧W.cell? ⟨b,off+j*5+2,none⟩=some (.int .i64 x.cl)∧W.cell? ⟨b,off+j*5+3,none⟩=some (.int .i64 x.tt)∧W.cell? ⟨b,off+j*5+4,none⟩=some (.string x.da)):=by
  intro j x hx W hW;obtain⟨c0,c1,c2,c3,c4⟩:=BF aH hx;exact⟨hW.cell c0 Dj,hW.cell c1 Dj,hW.cell c2 Dj,hW.cell c3 Dj,hW.cell c4 Dj⟩
 have HZ:=Nm.aD L.z;have HBW:Hid (w.heap.size<w1.heap.size):=by have h1:=L.d.size;rw [jO] at h1;show _<_;omega
 have D1:=Dr.start L.d.s;have z0:=L.z x0 (dA NF);have z1:=L.z x1 (dA aI3);obtain⟨c0,c1,c2,c3,c4⟩:=HC.out 0 x0 NF w1 D1;obtain⟨d0,d1,d2,d3,d4⟩:=HC.out 1 x1 aI3 w1 D1;have i2:(1:Int)<(xs.length:Int):=by omega
 clear hA hgA kA L g1 k1 aH hc h NF aI3;obtain⟨o0,t0,l0,u0,e0⟩:=x0;obtain⟨o1,t1,l1,u1,e1⟩:=x1;simp only [Nat.zero_mul,Nat.add_zero,Nat.one_mul] at c0 c1 c2 c3 c4 d0 d1 d2 d3 d4;go_wp2_with fail
 go_cut [7] from 22 (fun gv wx=>∃ ga gc,gv=.slice ga 2 gc∧wx.ownsRow w1.heap.size 133 5 (.slice ga 2 gc) 2 (jC [⟨o0,t0,l0,u0,e0⟩,⟨o1,t1,l1,u1,e1⟩])∧Dr w1 g a n cap wx)
 case first=>
  have aPx:=World.ownsRow_lit (base:=w1.heap.size) (e:=133) (size:=5) w1.drew #[.string o0,.int .i64 t0,.int .i64 l0,.int .i64 u0,.string e0,.string o1,.int .i64 t1,.int .i64 l1,.int .i64 u1,.string e1] 2 (aI _) (by decide) rfl;have DL:=(D1.below (aJ _ _).drew).alloc (.cells #[.string o0,.int .i64 t0,.int .i64 l0,.int .i64 u0,.string e0,.string o1,.int .i64 t1,.int .i64 l1,.int .i64 u1,.string e1] 133);have HLD:=Nm.aD (aV aPx DL);clear aPx DL;go_region
  all_goals
   go_wp2_with fail
   go_meet;exact⟨_,_,rfl,HLD.out.1,HLD.out.2⟩
 obtain⟨ga,gc,rfl,mM,D2⟩:=hcut
 have z2:∀ r∈[(⟨o0,t0,l0,u0,e0⟩:Rr),⟨o1,t1,l1,u1,e1⟩],ZR r:=by
  intro r hr;simp at hr
  rcases hr with rfl|rfl
  ·exact z0
  exact z1
 have yZ:=oD (.slice ga 2 gc) [⟨o0,t0,l0,u0,e0⟩,⟨o1,t1,l1,u1,e1⟩] ap wc (dZ.aP mM) (by simp) (by unfold maxLen;omega) (fun r hr=>by have:=(z2 r hr).1;unfold maxLen;omega);obtain⟨ys0,HY0⟩:∃ ys,Hid (ys=[(⟨o0,t0,l0,u0,e0⟩:Rr),⟨o1,t1,l1,u1,e1⟩]):=⟨_,rfl⟩;have aPy:=D2.size;clear c0 c1 c2 c3 c4 d0 d1 d2 d3 d4 D1;go_wp2_with fail
 refine yZ.mono ?_;rintro e w3 hb;obtain⟨b3,o,zv,ps,c,i,rfl,ho,Eh,Q4⟩:=Cs (N:=3+3*parts) hb z2 (by simp;omega) ha2 aPy;obtain⟨za,zc,rfl⟩:=aT Q4.outer;have bA:=(aJ w3.heap.size w3).alloc (aI _) (.cells #[.string o,.slice za ps.length zc] 25);have kz:=aK w3 #[.string o,.slice za ps.length zc] 25;have D3:=(D2.below b3).below bA;have iZ:=own_below (own_below mM b3) bA;have aPz:=Q4.below bA;have hz3:=(D2.below b3).size
 have hzq:Hid (ZB ps (3+3*parts)∧(0<ps.length∧Vz ps o)∧1<=o.size):=by
  have h2:=Eh.out.2.1 (Eh.out.2.2 (by rw [HF.out,HGO.out]));exact⟨Eh.out.1,by rw [h2.2];exact h2.1,by rw [h2.2];exact Lb⟩
 clear hb yZ D2 mM Q4 bA b3 aPy Eh HF HGO;go_wp2_with fail
 go_loopw [7,11] (fun gv iv wr=>∃ (k:Nat) (ys:List Rr) (o:ByteArray) (zv:Value) (ps:List Zp),2<=k∧k<=xs.length∧iv=.int .i64 k∧0<ys.length∧ys.length<=k∧Hid (∀ r∈ys,ZR r)∧wr.ownsRow w1.heap.size 133 5 gv ys.length (jC ys)∧o.size<=20∧Hid (ZB ps (3+3*parts)∧(0<ps.length∧Vz ps o)∧1<=o.size)∧dF wr w1.heap.size zv ps∧bW wr w3.heap.size #[.string o,zv] 25∧Dr w1 g a n cap wr) (fun _ i _=>xs.length-(intOf i).toNat)
 ·exact⟨2,[⟨o0,t0,l0,u0,e0⟩,⟨o1,t1,l1,u1,e1⟩],o,_,ps,aI _,by omega,rfl,by simp,by simp,z2,iZ,ho,hzq,aPz,kz,D3⟩
 clear kz D3 iZ aPz hzq ho z2;obtain⟨k,ys,o,zv,ps,hk2,hk,rfl,hy0,hyk,HY,dI,ho,HZB,Q4,kz,D⟩:=hrel;obtain⟨ra,rc,rfl⟩:=aT dI;obtain⟨za,zc,rfl⟩:=aT Q4.outer
 by_cases bY:k<xs.length
 ·obtain⟨x,qF⟩:=gQ bY;have hzx:=HZ.out x (dA qF);obtain⟨c0,c1,c2,c3,c4⟩:=HC.out k x qF wr D;have j1:=fE k
  have j2:(k:Int)<(xs.length:Int):=by omega
  have uO:=D.size;clear qF;obtain⟨ow,ty,cl,tt,da⟩:=x;simp only at c0 c1 c2 c3 c4
  have hrA:=dI.alloc (.cells #[.string ow,.int .i64 ty,.int .i64 cl,.int .i64 tt,.string da] 133);obtain⟨v',w5,hr,vO,UF,bU⟩:=PZ (P:=Tryz.prog) (wr.alloc (.cells #[.string ow,.int .i64 ty,.int .i64 cl,.int .i64 tt,.string da] 133)) w1.heap.size 88 88 133 i0 _ 5 56 Tryz.underlying88 hi iQ iH iI rfl (by decide) _ _ _ hy0 hrA ⟨wr.heap.size,0,none⟩ 1 1 [.string ow,.int .i64 ty,.int .i64 cl,.int .i64 tt,.string da] rfl (eZ wr #[.string ow,.int .i64 ty,.int .i64 cl,.int .i64 tt,.string da] 133) (by intro u hu;simp at hu;rcases hu with rfl|rfl|rfl|rfl|rfl<;>rfl) (by unfold maxLen;omega) (by omega) (by simp;omega);have D5:=(D.alloc (.cells #[.string ow,.int .i64 ty,.int .i64 cl,.int .i64 tt,.string da] 133)).row bU (fun q hq=>(dI.lt q hq).1);have aP0:=(Q4.below ((aJ _ _).alloc (aI _) (.cells #[.string ow,.int .i64 ty,.int .i64 cl,.int .i64 tt,.string da] 133))).other hrA (by decide) (by decide) bU;have Vp:=aO (bD kz (.cells #[.string ow,.int .i64 ty,.int .i64 cl,.int .i64 tt,.string da] 133)) bU (dD dI kz (by decide));have hys:∀ r∈ys++[(⟨ow,ty,cl,tt,da⟩:Rr)],ZR r:=XW HY.out hzx
  have oC:w5.ownsRow w1.heap.size 133 5 v' (ys++[(⟨ow,ty,cl,tt,da⟩:Rr)]).length (jC (ys++[(⟨ow,ty,cl,tt,da⟩:Rr)])):=by
   rw [sQ,oJ];exact vO
  obtain⟨va,vc,rfl⟩:=aT vO;have yZ:=oD (.slice va (ys.length+1) vc) (ys++[(⟨ow,ty,cl,tt,da⟩:Rr)]) ap w5 (dZ.aP oC) (by simp;omega) (by unfold maxLen;omega) (fun r hr=>by have:=(hys r hr).1;unfold maxLen;omega);have PY:=D5.size;clear hrA vO bU dI Q4 kz;go_wp2_with (at_builtin;refine ZN rfl (.tmp 42) (.tmp 47) 88 88 rfl _ _ _ w5 rfl rfl hr ?_)
  clear c0 c1 c2 c3 c4 hr;go_wp2_with fail
  refine yZ.mono ?_;rintro e w6 hb;obtain⟨b6,o',zv',ps',c',i',rfl,OA,aP1,aMm⟩:=Cs (N:=3+3*parts) hb hys (by simp;omega) ha2 PY;obtain⟨za',zc',rfl⟩:=aT aMm.outer;have bA:=(aJ w6.heap.size w6).alloc (aI _) (.cells #[.string o',.slice za' ps'.length zc'] 25);have Cg:=aB (aB Vp b6) bA;have ky7:=aK w6 #[.string o',.slice za' ps'.length zc'] 25;have D7:=(D5.below b6).below bA;have HS:=Nm.aD (aV hys (aV aP1 (aV (own_below (own_below oC b6) bA) (aMm.below bA))));have aGy:=own_below (own_below UF b6) bA;have aP2:=(aP0.below b6).below bA;have ry:=aA ky7
  have rz:=aA Cg
  have fz:=aF Cg
  clear hb yZ oC hys aP1 aMm b6 bA UF aP0 Vp D5
  by_cases hcz:c'=0
  ·subst hcz;have aP3:w1.heap.size<=w3.heap.size:=by omega
   have kE:=aM (aM Cg 0 (.string o')) 1 (.slice za' ps'.length zc');have DE:=(D7.set aP3 (.string o') (i:=0)).set aP3 (.slice za' ps'.length zc') (i:=1);have hoE:=Rk (x:=.slice za' ps'.length zc') (i:=1) (Rk (x:=.string o') (i:=0) HS.out.2.2.1 Cg (by decide)) (aM Cg 0 (.string o')) (by decide);have hzE:=dF.dS (x:=.slice za' ps'.length zc') (i:=1) (dF.dS (x:=.string o') (i:=0) HS.out.2.2.2 Cg (by decide) (by decide)) (aM Cg 0 (.string o')) (by decide) (by decide);have HE:=Nm.aD (aV kE (aV DE (aV hoE hzE)));clear kE DE hoE hzE D7 aGy aP2 Cg;go_wp2;go_roundw
   ·exact⟨k+1,ys++[(⟨ow,ty,cl,tt,da⟩:Rr)],o',_,ps',by omega,bY,by go_num,by simp,by simp;omega,HS.out.1,HE.out.2.2.1,OA,⟨HS.out.2.1.out.1,by rw [(HS.out.2.1.out.2.1 (by trivial)).2];exact(HS.out.2.1.out.2.1 (by trivial)).1,by rw [(HS.out.2.1.out.2.1 (by trivial)).2];exact HA1.out⟩,HE.out.2.2.2,HE.out.1,HE.out.2.1⟩
   simp [intOf];omega
  have n0:(c'==0)=false:=beq_eq_false_iff_ne.2 hcz
  clear hcz ry rz fz ky7;go_wp2;go_roundw
  ·exact⟨k+1,ys,o,_,ps,by omega,bY,by go_num,hy0,by omega,HY,aGy,ho,HZB,aP2,Cg,D7⟩
  simp [intOf];omega
 have mK:k=xs.length:=by omega
 subst mK;obtain⟨gw,kB⟩:=HB0.out wr D.gr;have Dw:Dr w g a n cap wr:=⟨D.s,gw,zD,gJ⟩;have rB:=aA kB
 have fB:=aF kB
 have rz:=aA kz
 have kE:=aM (aM kB 0 (.string o)) 1 (.slice za ps.length zc);have DE:=(Dw.set (aI _) (.string o) (i:=0)).set (aI _) (.slice za ps.length zc) (i:=1);have hBw:w.heap.size<w1.heap.size:=HBW.out;have hzE:=((Q4.far (i:=0) (y:=.string o) hBw).far (i:=1) (y:=.slice za ps.length zc) hBw).base (Nat.le_of_lt hBw);have rE:=aA kE
 have HE:=Nm.aD (aV DE hzE);have i3:¬(xs.length:Int)<(xs.length:Int):=by omega
 clear kE DE hzE Dw gw D Q4 dI kB;go_wp2;refine eB (v:=.agg #[.string o,.slice za ps.length zc]) ?_ rfl ?_
 rotate_left
 ·refine⟨o,_,rfl,ho,ps,?_⟩
  try simp only [and_assoc]
  exact⟨HZB.out.1,HZB.out.2.1.1,HZB.out.2.1.2,HZB.out.2.2,HE.out.2,HE.out.1.s,HE.out.1.gr⟩
 simp [results,Tryz.results33,go_sem,Result.andThen,rE]
