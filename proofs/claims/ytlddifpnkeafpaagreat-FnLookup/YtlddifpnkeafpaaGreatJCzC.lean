import Derived.Test.YtlddifpnkeafpaaGreatJZoF
import Derived.Test.YtlddifpnkeafpaaGreatJLoM
import Derived.Test.YtlddifpnkeafpaaGreatJCzO
set_option linter.unusedVariables false
set_option maxRecDepth 100000
set_option maxHeartbeats 3200000
namespace Go.Proofs.YtlddifpnkeafpaaGreat
open Go.RowKit
theorem aMo(ps:List Zp):(aR ps).length<=500:=by
 unfold aR;split
 ·simp
 rw [zM];omega
theorem aG3{list:List Rr}{o:ByteArray}(h:(iX list o).1=0):bzO list o=o∧bzZ list o=zI list:=by
 rw [bzO,bzZ,if_pos h,if_pos h];exact⟨rfl,rfl⟩
theorem QZ(o:ByteArray)(v:Value)(ps:List Zp)(w:World)(h:gG w v ps)(hs:wP ps<=1048576)(hl:ps.length<=1048576)(hf:∀ p∈ps,p.1.own.size<=1048576∧∀ x∈p.1.da,x.size<=1048576)(ha:o.size<=maxLen):
 Calls Tryz.prog 21 #[.agg #[.string o,v]] w fun e w'=>e=.returned (.int .i64 (if AO ps o=true then 0 else 32))∧Below w.heap.size w w':=by
 have k0:=aK w #[.string o,v] 25;have b0:=(aJ w.heap.size w).alloc (aI _) (.cells #[.string o,v] 25);have hct:=PR o v ps _ (h.below b0) hs hl;have hzr:=fun W (hW:Below w.heap.size w W)=>wK o v ps W (h.below hW) hs hl
 have Dk:=aMo ps;have hrf:=Uh hf;have yZ:=fun V W hV=>(oD V (aR ps) o W hV (by omega) ha (fun r hr=>by have:=(hrf r hr).1;unfold maxLen;omega)).mono (fun _ _ hp=>aLq hp)
 obtain⟨va,vc,rfl⟩:=mX h;have HH:=Nm.aD (aV h (aV hzr yZ));obtain⟨CZ,hCZ⟩:∃ CZ:Int,CZ=if AO ps o=true then 0 else 32:=⟨_,rfl⟩
 rw [<- hCZ];have HCZ:=Nm.aD hCZ;have r0:=aA k0
 unfold maxLen at ha;clear h hf hs hzr yZ hrf hCZ Dk
 by_cases ZX:500<ps.length
 ·have hC:CZ=32:=by rw [HCZ.out,Lr (.inl ZX)];rfl
  have i1:(500:Int)<(ps.length:Int):=by omega
  subst hC;clear HCZ hct;go_enter Tryz.func21,Tryz.ntmps21;go_wp2;go_ret;exact⟨rfl,b0⟩
 have i1:¬(500:Int)<(ps.length:Int):=by omega
 by_cases aKe:500<jQ ps
 ·have hC:CZ=32:=by rw [HCZ.out,Lr (.inr aKe)];rfl
  have i2:(500:Int)<(jQ ps:Int):=by omega
  subst hC;clear HCZ;go_enter Tryz.func21,Tryz.ntmps21;go_wp2_with (go_at_call 40;refine hct.mono ?_;rintro e w1 ⟨rfl,b1⟩)
  go_ret;exact⟨rfl,Nm.aC b0 b1⟩
 have i2:¬(500:Int)<(jQ ps:Int):=by omega
 go_enter Tryz.func21,Tryz.ntmps21;go_wp2_with (go_at_call 40;refine hct.mono ?_;rintro e w1 ⟨rfl,b1⟩)
 have q1:=aB k0 b1;have gP:=Nm.aC b0 b1
 have kS:Hid (∀ X,Below w1.heap.size w1 X->X.cell? ⟨w.heap.size,0,none⟩=some (.string o)∧X.cell? ⟨w.heap.size,1,none⟩=some (.slice va ps.length vc)):=by
  intro X hX;have kx:=aB q1 hX;exact⟨(aA kx 0).trans rfl,(aA kx 1).trans rfl⟩
 have bd:=(aJ w1.heap.size w1).drew;clear hct r0 k0 b0 b1 i1 i2 ZX aKe;go_cut [3,4,5] from 15 to 23 (fun p c i wx=>∃ (g:Nat) (a:Option Addr) (cc:Nat) (qs:List Zp),p=.pointer (some ⟨g,0,none⟩)∧c=.int .i64 (iX (aR ps) o).1∧bW wx g #[.string (bzO (aR ps) o),.slice a qs.length cc] 25∧qs.map (·.1)=bzZ (aR ps) o∧gG wx (.slice a qs.length cc) qs∧Below w1.heap.size w1 wx)
 case first=>
  refine kR (fun X=>X.cell? ⟨w.heap.size,0,none⟩=some (.string o)∧X.cell? ⟨w.heap.size,1,none⟩=some (.slice va ps.length vc)) 1000 (kS.out _ bd) fun aY=>?_;refine kB 0 rfl ?_;refine kB 2 rfl ?_;refine kB 3 rfl ?_;generalize bzO (aR ps) o=OO at*;generalize bzZ (aR ps) o=ZZ at*;generalize (iX (aR ps) o).1=BC at*;generalize bzI (aR ps) o=BI at*;refine k2 1 9 rfl rfl (fun K hK=>?_) fun K hK=>?_
  ·go_simp;refine(HH.out.2.1 _ (Nm.aC gP bd)).mono ?_;rintro e w2 ⟨u,rfl,aU,b2⟩;obtain⟨ua,uc,rfl⟩:=aT aU;have Wj:=Nm.aC bd b2;go_wp2_with fail
   refine hK.out _ _ (kS.out _ Wj) fun aY=>?_;clear hK K;refine k2 4 9 rfl rfl (fun K hK=>?_) fun K hK=>?_
   ·go_simp;refine(HH.out.2.2 _ _ (dZ.aP aU)).mono ?_;rintro e w3 ⟨a,cc,qs,rfl,Ud,hz,b3⟩;have Fa:=Nm.aC Wj b3;go_wp2_with fail
    refine hK.out _ _ (kS.out _ Fa) fun aY=>?_;clear hK K;refine kB 5 rfl ?_;refine kB 6 rfl ?_;refine kB 7 rfl ?_;refine kB 8 rfl ?_;refine k1 9 rfl fun K hK=>?_
    go_simp;have bz:=(aJ w3.heap.size w3).alloc (aI _) (.cells #[.string ⟨#[]⟩,.slice none 0 0] 25);have kz:=aK w3 #[.string ⟨#[]⟩,.slice none 0 0] 25;have rz:=aA kz
    have fz:=aF kz
    refine hK.out _ _ (kS.out _ (Nm.aC Fa bz)) fun aY=>?_;clear hK K;refine k1 10 rfl fun K hK=>?_
    go_simp;have bn:=(aJ w3.heap.size w3).alloc (aI _) (.cells #[.string OO,.slice a qs.length cc] 25);have kn:=aK w3 #[.string OO,.slice a qs.length cc] 25;have en:=Nm.aC Fa bn;refine hK.out _ _ (kS.out _ en) fun aY=>?_;clear hK K;refine k1 11 rfl fun K hK=>?_
    go_simp;refine hK.out _ _ (kS.out _ en) fun aY=>?_;clear hK K;refine k1 12 rfl fun K hK=>?_
    go_simp;refine hK.out _ _ (kS.out _ en) fun aY=>?_;clear hK K;refine kN ?_;go_wp2_with fail
    go_meet;exact⟨w3.heap.size,a,cc,qs,rfl,rfl,kn,Ud,hz.AU.below bn,en⟩
   go_simp;have bz:=(aJ w2.heap.size w2).alloc (aI _) (.cells #[.string ⟨#[]⟩,.slice none 0 0] 25);have kz:=aK w2 #[.string ⟨#[]⟩,.slice none 0 0] 25;have b2z:=Nm.aC Wj bz;have aKf:=own_below aU bz;have HG:Hid (w1.heap.size<=w2.heap.size∧w2.heap.size<(w2.alloc (.cells #[.string ⟨#[]⟩,.slice none 0 0] 25)).heap.size):=⟨Wj.size,by simp⟩;refine hK.out _ _ (kS.out _ b2z) fun aY=>?_;clear hK K;refine k1 4 rfl fun K hK=>?_
   go_simp;refine(HH.out.2.2 _ _ (dZ.aP aKf)).mono ?_;rintro e w3 ⟨a,cc,qs,rfl,Ud,hz,b3⟩;have Fa:=Nm.aC b2z b3;have uD:=aB kz b3;clear aU aKf kz;go_wp2_with fail
   refine hK.out _ _ (kS.out _ Fa) fun aY=>?_;clear hK K;refine kB 5 rfl ?_;refine kB 6 rfl ?_;refine kB 7 rfl ?_;refine kB 8 rfl ?_;refine k1 10 rfl fun K hK=>?_
   have rz:=aA uD
   have fz:=aF uD
   go_simp;have kn:=aM (aM uD 0 (.string OO)) 1 (.slice a qs.length cc);simp only [List.setIfInBounds_toArray,List.set_cons_zero,List.set_cons_succ] at kn;have hzn:=(hz.far (i:=0) (y:=.string OO) (g:=w2.heap.size) HG.out.2).far (i:=1) (y:=.slice a qs.length cc) (g:=w2.heap.size) HG.out.2;have en:=(Fa.setCell (p:=⟨w2.heap.size,0,none⟩) HG.out.1 (.string OO)).setCell (p:=⟨w2.heap.size,1,none⟩) HG.out.1 (.slice a qs.length cc);clear rz fz uD;refine hK.out _ _ (kS.out _ en) fun aY=>?_;clear hK K;refine k1 11 rfl fun K hK=>?_
   go_simp;refine hK.out _ _ (kS.out _ en) fun aY=>?_;clear hK K;refine k1 12 rfl fun K hK=>?_
   go_simp;refine hK.out _ _ (kS.out _ en) fun aY=>?_;clear hK K;refine kN ?_;go_wp2_with fail
   go_meet;exact⟨w2.heap.size,a,cc,qs,rfl,rfl,kn,Ud,hzn.AU,en⟩
  go_simp;have bz:=((aJ w1.heap.size w1).alloc (aI _) (.cells #[.string ⟨#[]⟩,.slice none 0 0] 25)).drew;have kz:=fO (aK w1 #[.string ⟨#[]⟩,.slice none 0 0] 25)
  have oG:(w1.alloc (.cells #[.string ⟨#[]⟩,.slice none 0 0] 25)).drew.heap.size=w1.heap.size+1:=by
   show(w1.alloc _).heap.size=_
   simp
  have HS1:=Nm.aD oG;clear oG;refine hK.out _ _ (kS.out _ bz) fun aY=>?_;clear hK K;refine k1 1 rfl fun K hK=>?_
  go_simp;refine(HH.out.2.1 _ (Nm.aC gP bz)).mono ?_;rintro e w2 ⟨u,rfl,aU,b2⟩;obtain⟨ua,uc,rfl⟩:=aT aU;have Wj:=Nm.aC bz b2;have uI:=aB kz b2;have HG:Hid (w1.heap.size<=w1.heap.size∧w1.heap.size<w2.heap.size):=⟨aI _,by have:=b2.size;have:=HS1.out;omega⟩;go_wp2_with fail
  refine hK.out _ _ (kS.out _ Wj) fun aY=>?_;clear hK K;refine k1 4 rfl fun K hK=>?_
  go_simp;refine(HH.out.2.2 _ _ (dZ.aP aU)).mono ?_;rintro e w3 ⟨a,cc,qs,rfl,Ud,hz,b3⟩;have Fa:=Nm.aC Wj b3;have uD:=aB uI b3;clear aU kz uI;go_wp2_with fail
  refine hK.out _ _ (kS.out _ Fa) fun aY=>?_;clear hK K;refine kB 5 rfl ?_;refine kB 6 rfl ?_;refine kB 7 rfl ?_;refine kB 8 rfl ?_;refine k1 10 rfl fun K hK=>?_
  have rz:=aA uD
  have fz:=aF uD
  go_simp;have kn:=aM (aM uD 0 (.string OO)) 1 (.slice a qs.length cc);simp only [List.setIfInBounds_toArray,List.set_cons_zero,List.set_cons_succ] at kn;have hzn:=(hz.far (i:=0) (y:=.string OO) (g:=w1.heap.size) HG.out.2).far (i:=1) (y:=.slice a qs.length cc) (g:=w1.heap.size) HG.out.2;have en:=(Fa.setCell (p:=⟨w1.heap.size,0,none⟩) HG.out.1 (.string OO)).setCell (p:=⟨w1.heap.size,1,none⟩) HG.out.1 (.slice a qs.length cc);clear rz fz uD;refine hK.out _ _ (kS.out _ en) fun aY=>?_;clear hK K;refine k1 11 rfl fun K hK=>?_
  go_simp;refine hK.out _ _ (kS.out _ en) fun aY=>?_;clear hK K;refine k1 12 rfl fun K hK=>?_
  go_simp;refine hK.out _ _ (kS.out _ en) fun aY=>?_;clear hK K;refine kN ?_;go_wp2_with fail
  go_meet;exact⟨w1.heap.size,a,cc,qs,rfl,rfl,kn,Ud,hzn.AU,en⟩
 obtain⟨g,a,cc,qs,rfl,rfl,kg,Ud,hz,b5⟩:=hcut;have kZ5:=aB q1 b5;have qA:=WW o (.slice a qs.length cc) (.slice va ps.length vc) qs ps wc hz (HH.out.1.below (Nm.aC gP b5));have rg:=aA kg
 have rZ:=aA kZ5
 have WH:=Nm.aC gP b5
 by_cases hE:(iX (aR ps) o).1=0
 ·obtain⟨e1,e2⟩:=aG3 hE;rw [e1] at rg;rw [Ud,e2] at qA;have hzk:AO ps o=FP (zI (aR ps)) (ps.map (·.1)):=by rw [AO,oI hE];rfl
  rw [hE]
  cases hq:FP (zI (aR ps)) (ps.map (·.1)) with
  |true=>
   have hC:CZ=0:=by rw [HCZ.out,hzk,hq];rfl
   rw [hq] at qA;subst hC;clear HCZ hE e1 e2 hq hzk HH Ud kg kZ5 hz kS bd b5 q1;go_wp2_with (go_at_call 43;refine qA.mono ?_;rintro e w6 ⟨rfl,b6⟩)
   go_ret
   exact⟨rfl,Nm.aC WH b6⟩
  |false=>
   have hC:CZ=32:=by rw [HCZ.out,hzk,hq];rfl
   rw [hq] at qA;subst hC;clear HCZ hE e1 e2 hq hzk HH Ud kg kZ5 hz kS bd b5 q1;go_wp2_with (go_at_call 43;refine qA.mono ?_;rintro e w6 ⟨rfl,b6⟩)
   go_ret;exact⟨rfl,Nm.aC WH b6⟩
 have hC:CZ=32:=by rw [HCZ.out,AO,oF hE];rfl
 have n0:((iX (aR ps) o).1 != 0)=true:=by simpa using hE
 generalize (iX (aR ps) o).1=BC at*;subst hC;clear HCZ hE HH Ud kg kZ5 hz kS bd b5 q1 qA;go_wp2;go_ret;exact⟨rfl,WH⟩
theorem Ml(bb oo th:Nat)(rv:Value)(os:List dG)(B:Nat)(na:Option Addr)(nc:Nat)(lab:List ByteArray)(aa:Option Addr)(ac:Nat)(al:List ByteArray)(w:World)(h:nQ w B th rv os)(hl:os.length<=500000)(hd:Yk os)(jD:mU w (jF th rv os) os)(hn:Nm.bP w (.slice na lab.length nc) lab)(DC:Gl lab)(hc:w.cell? ⟨bb,oo+1,none⟩=some (ptr th))(hca:w.cell? ⟨bb,oo,none⟩=some (.slice aa al.length ac))(ha:Nm.bP w (.slice aa al.length ac) al)(XI:al.length<=1000)(zH:bb<w.heap.size)(hex:aQ lab al=true->∃ j,j<=lab.length∧VO (lab.drop j) os=true):
 Calls Tryz.prog 28 #[.pointer (some ⟨bb,oo,none⟩),.slice na lab.length nc] w (NdV (ndT os al lab) w):=by
 have YQ:lab.length<=254:=jN (Nm.bL lab) DC.2;have b0:=(aJ w.heap.size w).alloc (aI _) (.cells #[.int .i64 0,.string ⟨#[]⟩,.string ⟨#[]⟩,.slice none 0 0] 38);have k0:=aK w #[.int .i64 0,.string ⟨#[]⟩,.string ⟨#[]⟩,.slice none 0 0] 38;have OJ:Hid (∀ W,Below w.heap.size w W->nQ W B th rv os∧mU W (jF th rv os) os):=fun W hW=>⟨h.below hW,fun o ho=>(jD o ho).outs (dN.below hW) (fun b hb=>.inl hb)⟩
 have HC:Hid (∀ W,Below w.heap.size w W->W.cell? ⟨bb,oo,none⟩=some (.slice aa al.length ac)∧W.cell? ⟨bb,oo+1,none⟩=some (ptr th)):=fun W hW=>⟨by rw [<- hca];exact hW.cell (p:=⟨bb,oo,none⟩) zH,by rw [<- hc];exact hW.cell (p:=⟨bb,oo+1,none⟩) zH⟩
 have HU:Hid (∀ W,Below w.heap.size w W->Calls Tryz.prog 53 #[.slice na lab.length nc,.slice aa al.length ac] W fun e w'=>e=.returned (.bool (aQ lab al))∧Below W.heap.size W w'):=fun W hW=>(xL _ _ lab al W (hn.below hW) (ha.below hW) (fun x hx=>by have:=(DC.1 x hx).2;omega) (by omega) (by omega)).mono (by rintro e w' ⟨he,m,rfl⟩;exact⟨he,Go.below_drewN (aJ _ _) _⟩)
 have HL:Hid (aQ lab al=true->∀ W,Below w.heap.size w W->Calls Tryz.prog 56 #[.pointer (some ⟨bb,oo,none⟩),.slice na lab.length nc] W fun e w'=>∃ v,e=.returned v∧Nm.bP w' v (iG os lab)∧Below W.heap.size W w'):=fun hu W hW=>EX bb oo th rv os B _ lab W (OJ.out W hW).1 hl hd (OJ.out W hW).2 (hn.below hW) (by omega) (HC.out W hW).2 (by have:=hW.size;omega) (hex hu)
 obtain⟨kc,hkc,ekc⟩:=Cn os lab;have hgc:Gl (iG os lab):=by rw [ekc];exact DC.drop kc
 have HW:Hid (∀ v W,Nm.bP W v (iG os lab)->Calls Tryz.prog 68 #[v] W fun e w'=>e=.returned (.tuple #[.string (mJ (iG os lab)),.int .i64 0])∧Below W.heap.size W w'):=fun v W hv=>by
  have:=PD v (iG os lab) W hv (by have:=hgc.2;omega)
  rwa [GM hgc.2,GN hgc.2] at this
 have HG:Hid (∀ W,Below w.heap.size w W->Calls Tryz.prog 70 #[ptr th,.slice na lab.length nc] W fun e w'=>Below W.heap.size W w'∧((gY (dX lab) os=true∧∃ o,os[posOf (dX lab) os]? =some o∧Nm.aN o.lab lab=0∧e=.returned (.tuple #[ptr o.dS,.bool true]))∨(gY (dX lab) os=false∧e=.returned (.tuple #[.pointer none,.bool false])))):=fun W hW=>tN th rv os B _ lab W (OJ.out W hW).1 hl hd.1 (OJ.out W hW).2 (hn.below hW) (by omega)
 have HK:Hid (∀ q∈os,∀ W,Below w.heap.size w W->W.cell? ⟨q.dS,2,none⟩=some (ptr q.hd)∧Calls Tryz.prog 71 #[.pointer (some ⟨q.hd,0,none⟩)] W fun e W'=>∃ v,e=.returned v∧W'.ownsRow W.heap.size 2 1 v (q.ss.map (·.ty)).length (intCells (q.ss.map (·.ty)))∧Below W.heap.size W W'):=fun q hq W hW=>by
  have ho:=(OJ.out W hW).1.jG q hq;refine⟨(aA ho.node 2).trans rfl,?_⟩;have dI:=ho.rows;rw [show(lQ q.ss).length=q.ss.length by simp [lQ]] at dI;refine(Zj q.hd q.rv q.ss (by have:=(hd.2 q hq).2.1;omega) W (cO ho.head) ((aA ho.head 1).trans rfl) (ZU _ _ q.ss dI)).mono ?_;rintro e W' ⟨v,rfl,h1,h2⟩;refine⟨v,rfl,?_,h2⟩;rw [List.length_map,intCells,List.map_map];exact h1
 have HX:Hid (aQ lab al=true->∀ W,Below w.heap.size w W->Calls Tryz.prog 54 #[.pointer (some ⟨bb,oo,none⟩),.slice na lab.length nc] W fun e w'=>e=.returned (cutV (vR os lab (lab.length-al.length)))∧Below W.heap.size W w'):=fun hu W hW=>VQ bb oo th rv os B na nc lab aa al.length ac W (OJ.out W hW).1 hl hd (OJ.out W hW).2 (hn.below hW) (by omega) (HC.out W hW).2 (HC.out W hW).1 (by have:=hW.size;omega) (dJ.1 hu).1
 have HM:Hid (∀ q,vR os lab (lab.length-al.length)=some q->∀ W,Below w.heap.size w W->W.cell? ⟨q.dS,0,none⟩=some (.string q.nm)∧∃ a c,W.cell? ⟨q.dS,1,none⟩=some (.slice a q.lab.length c)):=fun q hq W hW=>by
  have hqm:q∈os:=by
   rcases CS (lab:=lab) ⟨hd.1,fun q hq=>(hd.2 q hq).1⟩ (lab.length-al.length) with⟨c1,-⟩|⟨m,r,-,c2,c3,-⟩
   ·rw [c1] at hq;cases hq
   rw [c2] at hq;rw [<- jI hq];exact c3
  have ho:=(OJ.out W hW).1.jG q hqm;obtain⟨a,c,e,-⟩:=((OJ.out W hW).2 q hqm).row;exact⟨(aA ho.node 0).trans rfl,a,c,by rw [<- e];exact(aA ho.node 1).trans rfl⟩
 have HTY:Hid (∀ q,gY (dX lab) os=true->os[posOf (dX lab) os]? =some q->tyT os lab=q.ss.map (·.ty)):=fun q h1 h2=>by rw [tyT,if_pos h1,h2]
 have HTN:Hid (gY (dX lab) os=false->tyT os lab=[]):=fun h1=>by rw [tyT,if_neg (by rw [h1];decide)]
 obtain⟨R,hR⟩:∃ R,R=ndT os al lab:=⟨_,rfl⟩;rw [<- hR];rw [ndT] at hR;unfold ptr at HC HG HK OJ;have FQ:=HU.out _ b0;obtain⟨c0,c1⟩:=HC.out _ b0;clear h hd jD hn hc hca ha hex OJ HU ekc;cases xR:aQ lab al
 ·rw [xR] at hR FQ;have KO:R=⟨0,⟨#[]⟩,⟨#[]⟩,[]⟩:=hR;subst KO;clear xR hR HL HX HG HK HM HTY HTN HW;go_enter Tryz.func28,Tryz.ntmps28;go_wp2_with fail
  refine FQ.mono ?_;rintro e w1 ⟨rfl,b1⟩;have k1:=aB k0 b1;have rz:=aA k1
  have fz:=aF k1
  obtain⟨k4,BQ,nN⟩:=yT (kd:=0) (x:=⟨#[]⟩) (y:=⟨#[]⟩) k1 (World.ownsRow_nil w1 w.heap.size 2 1) (by simp [Value.ownBlock]) (Nm.aC b0 b1) (aI _);have rk:=aA k4
  have HP:Hid (NdV ⟨0,⟨#[]⟩,⟨#[]⟩,[]⟩ w (.returned (.agg #[.int .i64 0,.string ⟨#[]⟩,.string ⟨#[]⟩,.slice none 0 0])) _):=⟨_,rfl,BQ,nN⟩;clear k0 k1 k4 BQ nN FQ c0 c1;go_wp2_with fail
  refine eB (v:=.agg #[.int .i64 0,.string ⟨#[]⟩,.string ⟨#[]⟩,.slice none 0 0]) ?_ rfl HP.out;simp [results,Tryz.f28,go_sem,rk]
 rw [xR] at hR FQ;have HL:=Nm.aD (HL.out xR);have HX:=Nm.aD (HX.out xR);simp only [if_true] at hR;have HR:=Nm.aD hR;clear xR hR;generalize vR os lab (lab.length-al.length)=CT at*;have hCL:(iG os lab).length<=254:=jN (Nm.bL _) hgc.2;clear hgc;go_enter Tryz.func28,Tryz.ntmps28;go_wp2_with fail
 refine FQ.mono ?_;rintro e w1 ⟨rfl,b1⟩;have gP:=Nm.aC b0 b1;have k1:=aB k0 b1;clear FQ c0 c1 k0 b1 b0;go_wp2_with fail
 refine(HL.out _ gP).mono ?_;rintro e w2 ⟨v2,rfl,ES,b2⟩;have kH:=Nm.aC gP b2;have k2:=aB k1 b2;obtain⟨va,vc,ev⟩:∃ va vc,v2=.slice va (iG os lab).length vc:=by obtain⟨a,c,e,_⟩:=ES;exact⟨a,c,e⟩
 subst ev;have C8:=HW.out _ (w2.alloc (.cells #[.int .i64 0,.string ⟨#[]⟩,.string ⟨#[]⟩,.slice none 0 0] 38)) (ES.below ((aJ w2.heap.size w2).alloc (aI _) _));clear ES k1 gP b2 HW HL;generalize mJ (iG os lab)=CB at*;go_wp2_with fail
 refine C8.mono ?_;rintro e w3 ⟨rfl,b3⟩;have s2:=CY.start k2 (aI _) kH b3;have s3:=CY.set1 (y:=.string CB) s2;have rp:=aA s2.k
 have fp:=aF s2.k
 obtain⟨c0,c1⟩:=HC.out _ s3.be;have hg:=HG.out _ s3.be;generalize w2.heap.size=p at*;clear k2 kH b3 s2 C8 c0 HG HC;go_wp2_with fail
 refine hg.mono ?_;rintro e w4 ⟨b4,⟨kY,q,hq,oN,rfl⟩|⟨kY,rfl⟩⟩
 ·have s4:=s3.below b4;have HT:=Nm.aD (HTY.out q kY hq);obtain⟨d2,hk⟩:=HK.out q (dA hq) w4 s4.be;have HI:=Nm.aD kY;clear s3 b4 hg rp fp c1 kY hq oN HK HTY HTN;go_wp2_with fail
  refine hk.mono ?_;rintro e w5 ⟨u,rfl,qV,b5⟩;have s5:=s4.set3 b5 qV;obtain⟨ua,uc,eu⟩:=aT qV;subst eu;have kp:=(s4.below b5).k;have rp:=aA kp
  have fp:=aF kp
  have hx:=HX.out _ s5.be;clear s4 b5 hk qV kp d2 HX;rw [List.length_map] at*;go_wp2_with fail
  refine hx.mono ?_;rintro e w6 ⟨rfl,b6⟩;have s0:=s5.below b6;clear s5 b6 hx rp fp
  cases CT with
  |none=>
   have hN:R=⟨3,CB,⟨#[]⟩,q.ss.map (·.ty)⟩:=by rw [HR.out,kdT,Uk,HI.out,HT.out];rfl
   clear HR HI HM;simp only [cutV];have sF:=(CY.set0 (y:=.int .i64 3) s0);have rp:=aA s0.k
   have fp:=aF s0.k
   have rq:=aA sF.k
   have fz:=aF sF.z
   have rzz:=aA sF.z
   obtain⟨k4,hP⟩:=sF.done;have rk:=aA k4
   rw [<- hN] at hP;have HP:=Nm.aD hP;clear s0 sF k4 hP;go_wp2_with fail
   first|refine eB (v:=.agg #[.int .i64 3,.string CB,.string ⟨#[]⟩,(.slice ua q.ss.length uc)]) ?_ rfl HP.out|done
   simp [results,Tryz.f28,go_sem,rk]
  |some c=>
   have V7:R=⟨if c.lab.length=lab.length then 4 else 5,CB,c.nm,(q.ss.map (·.ty))⟩:=by(rw [HR.out,HT.out];rfl)
   have s6:=s0;obtain⟨d0,-⟩:=HM.out c rfl _ s6.be;have rp6:=aA s6.k
   have fp6:=aF s6.k
   clear s0;have s0:=CY.set2 (y:=.string c.nm) s6;obtain⟨-,ca,cc,d1⟩:=HM.out c rfl _ s0.be;clear HR HI HM s6;simp only [cutV];unfold ptr;generalize c.lab.length=CN at*
   by_cases YZ:CN=lab.length
   ·subst YZ;simp only [if_true] at V7;have sF:=(CY.set0 (y:=.int .i64 4) s0);have rp:=aA s0.k
    have fp:=aF s0.k
    have rq:=aA sF.k
    have fz:=aF sF.z
    have rzz:=aA sF.z
    obtain⟨k4,hP⟩:=sF.done;have rk:=aA k4
    rw [<- V7] at hP;have HP:=Nm.aD hP;clear s0 sF k4 hP;go_wp2_with fail
    first|refine eB (v:=.agg #[.int .i64 4,.string CB,.string (c.nm),(.slice ua q.ss.length uc)]) ?_ rfl HP.out|done
    simp [results,Tryz.f28,go_sem,rk]
   rw [if_neg YZ] at V7;have i1:((CN:Int)==(lab.length:Int))=false:=by simpa using fun e=>YZ (by omega)
   have i2:¬(CN:Int)=(lab.length:Int):=fun e=>YZ (by omega)
   have sF:=(CY.set0 (y:=.int .i64 5) s0);have rp:=aA s0.k
   have fp:=aF s0.k
   have rq:=aA sF.k
   have fz:=aF sF.z
   have rzz:=aA sF.z
   obtain⟨k4,hP⟩:=sF.done;have rk:=aA k4
   rw [<- V7] at hP;have HP:=Nm.aD hP;clear s0 sF k4 hP;go_wp2_with fail
   first|refine eB (v:=.agg #[.int .i64 5,.string CB,.string (c.nm),(.slice ua q.ss.length uc)]) ?_ rfl HP.out|done
   simp [results,Tryz.f28,go_sem,rk]
 have s4:=s3.below b4;have HI:=Nm.aD kY;have HT:=Nm.aD (HTN.out kY);have hx:=HX.out _ s4.be;clear s3 b4 hg rp fp c1 kY HK HTY HTN HX;go_wp2_with fail
 refine hx.mono ?_;rintro e w6 ⟨rfl,b6⟩;have s0:=s4.below b6;clear s4 b6 hx
 cases CT with
 |none=>
  simp only [cutV];have V7:R=⟨if(iG os lab).length=lab.length then 2 else 1,CB,⟨#[]⟩,[]⟩:=by rw [HR.out,kdT,Uk,HI.out,HT.out];rfl
  clear HR HI HM;generalize (iG os lab).length=CL at*
  by_cases sI:CL=lab.length
  ·subst sI;simp only [if_true] at V7;have sF:=(CY.set0 (y:=.int .i64 2) s0);have rp:=aA s0.k
   have fp:=aF s0.k
   have rq:=aA sF.k
   have fz:=aF sF.z
   have rzz:=aA sF.z
   obtain⟨k4,hP⟩:=sF.done;have rk:=aA k4
   rw [<- V7] at hP;have HP:=Nm.aD hP;clear s0 sF k4 hP;go_wp2_with fail
   first|refine eB (v:=.agg #[.int .i64 2,.string CB,.string ⟨#[]⟩,(.slice none 0 0)]) ?_ rfl HP.out|done
   simp [results,Tryz.f28,go_sem,rk]
  rw [if_neg sI] at V7;have i1:((CL:Int)==(lab.length:Int))=false:=by simpa using fun e=>sI (by omega)
  have i2:¬(CL:Int)=(lab.length:Int):=fun e=>sI (by omega)
  have sF:=(CY.set0 (y:=.int .i64 1) s0);have rp:=aA s0.k
  have fp:=aF s0.k
  have rq:=aA sF.k
  have fz:=aF sF.z
  have rzz:=aA sF.z
  obtain⟨k4,hP⟩:=sF.done;have rk:=aA k4
  rw [<- V7] at hP;have HP:=Nm.aD hP;clear s0 sF k4 hP;go_wp2_with fail
  first|refine eB (v:=.agg #[.int .i64 1,.string CB,.string ⟨#[]⟩,(.slice none 0 0)]) ?_ rfl HP.out|done
  simp [results,Tryz.f28,go_sem,rk]
 |some c=>
  have V7:R=⟨if c.lab.length=lab.length then 4 else 5,CB,c.nm,[]⟩:=by(rw [HR.out,HT.out];rfl)
  have s6:=s0;obtain⟨d0,-⟩:=HM.out c rfl _ s6.be;have rp6:=aA s6.k
  have fp6:=aF s6.k
  clear s0;have s0:=CY.set2 (y:=.string c.nm) s6;obtain⟨-,ca,cc,d1⟩:=HM.out c rfl _ s0.be;clear HR HI HM s6;simp only [cutV];unfold ptr;generalize c.lab.length=CN at*
  by_cases YZ:CN=lab.length
  ·subst YZ;simp only [if_true] at V7;have sF:=(CY.set0 (y:=.int .i64 4) s0);have rp:=aA s0.k
   have fp:=aF s0.k
   have rq:=aA sF.k
   have fz:=aF sF.z
   have rzz:=aA sF.z
   obtain⟨k4,hP⟩:=sF.done;have rk:=aA k4
   rw [<- V7] at hP;have HP:=Nm.aD hP;clear s0 sF k4 hP;go_wp2_with fail
   first|refine eB (v:=.agg #[.int .i64 4,.string CB,.string (c.nm),(.slice none 0 0)]) ?_ rfl HP.out|done
   simp [results,Tryz.f28,go_sem,rk]
  rw [if_neg YZ] at V7;have i1:((CN:Int)==(lab.length:Int))=false:=by simpa using fun e=>YZ (by omega)
  have i2:¬(CN:Int)=(lab.length:Int):=fun e=>YZ (by omega)
  have sF:=(CY.set0 (y:=.int .i64 5) s0);have rp:=aA s0.k
  have fp:=aF s0.k
  have rq:=aA sF.k
  have fz:=aF sF.z
  have rzz:=aA sF.z
  obtain⟨k4,hP⟩:=sF.done;have rk:=aA k4
  rw [<- V7] at hP;have HP:=Nm.aD hP;clear s0 sF k4 hP;go_wp2_with fail
  first|refine eB (v:=.agg #[.int .i64 5,.string CB,.string (c.nm),(.slice none 0 0)]) ?_ rfl HP.out|done
  simp [results,Tryz.f28,go_sem,rk]
def NdP(r:Nd×Int)(w:World)(e:Ending)(w':World):Prop:=∃ u,e=.returned (.tuple #[.agg #[.int .i64 r.1.kd,.string r.1.iK,.string r.1.cut,u],.int .i64 r.2])∧w'.ownsRow w.heap.size 2 1 u r.1.ty.length (intCells r.1.ty)∧Below w.heap.size w w'
theorem Vs{w w':World}(h:Below w.heap.size w w'):NdP (nd0,32) w (.returned (.tuple #[.agg #[.int .i64 0,.string ⟨#[]⟩,.string ⟨#[]⟩,.slice none 0 0],.int .i64 32])) w':=
 ⟨_,rfl,World.ownsRow_nil _ _ _ _,h⟩
theorem aJt{ps:List Zp}{o name:ByteArray}{bb:Nat}{lv:Value}{th:Nat}{ys:List ByteArray}{aa:Option Addr}{ac:Nat}{eD rv:Value}{os:List dG}{kv:Value}{ks:List Ld}{B:Nat}{W:World}{lab:List ByteArray}(la:Option Addr)(lc:Nat)(hP:P3 (aR ps) o bb lv th ys aa ac eD rv os kv ks B W)(hz:AO ps o=true)(hn:Nm.split name=some lab)(dI:Nm.bP W (.slice la lab.length lc) lab):
 Calls Tryz.prog 28 #[.pointer (some ⟨bb,3,none⟩),.slice la lab.length lc] W (NdV (tX ps o name) W):=by
 have uO:ps.map (·.1)=eH os:=by rw [<- (qR hz).2,QF hP.st.inv hP.vZ.1 hP.mix]
 have hT:=aF2 hP.st.inv hP.vZ.1 hP.vZ.2 hP.ap hz uO;have Nc:=hP.st.inv.len.1;have hl5:=hP.hl;rw [List.length_map] at Nc;rw [<- hT.nd uO hn];exact Ml bb 3 th rv os B la lc lab aa ac ys W hP.st.tr (by omega) (hP.st.inv.trs (by rw [List.length_map];omega)) hP.st.lab dI (iP hn) ((aA hP.kb 4).trans rfl) ((aA hP.kb 3).trans rfl) hP.av (by have:=(iP hP.ap).2;have:=Nm.bL ys;omega) (cO hP.kb) (fun hu=>hT.hex hu)
theorem UG(o name:ByteArray)(v:Value)(ps:List Zp)(w:World)(h:gG w v ps)(hs:wP ps<=1048576)(hf:∀ p∈ps,p.1.own.size<=1048576∧∀ x∈p.1.da,x.size<=1048576)(ha:o.size<=1000000000)(hn:name.size<=1000000000):
 Calls Tryz.prog 9 #[.agg #[.string o,v],.string name] w (NdP (ndR ps o name) w):=by
 obtain⟨va,vc,rfl⟩:=mX h;have b0:=(aJ w.heap.size w).alloc (aI _) (.cells #[.string o,.slice va ps.length vc] 25);have b1:=b0.alloc b0.size (.cells #[.int .i64 0,.string ⟨#[]⟩,.string ⟨#[]⟩,.slice none 0 0] 38);have k0:=bD (aK w #[.string o,.slice va ps.length vc] 25) (.cells #[.int .i64 0,.string ⟨#[]⟩,.string ⟨#[]⟩,.slice none 0 0] 38);have kS:=aK (w.alloc (.cells #[.string o,.slice va ps.length vc] 25)) #[.int .i64 0,.string ⟨#[]⟩,.string ⟨#[]⟩,.slice none 0 0] 38;rw [jO] at kS;have Ga:=xD o (.slice va ps.length vc) ps _ (h.below b1) hs hf ha;have lC:=fun W=>nK name W (by unfold maxLen;omega)
 have r0:=aA k0
 obtain⟨R,hR⟩:∃ R,R=ndR ps o name:=⟨_,rfl⟩;have HR:=Nm.aD hR;rw [<- hR];clear h hf hs hR;go_enter Tryz.func9,Tryz.ntmps9;go_wp2_with fail
 refine Ga.mono ?_;rintro e w1 ⟨fJ,⟨hz,rfl⟩|⟨hz,bb,lv,th,ys,aa,ac,eD,rv,os,kv,ks,B,rfl,hP⟩⟩
 ·have KO:R=(nd0,32):=by rw [HR.out,ndR,if_neg (by rw [hz];simp)]
  have gP:=Nm.aC b1 fJ;have EY:=aB kS fJ;clear HR hz Ga k0 kS b0 b1 fJ r0;subst KO;go_wp2_with fail
  refine(lC _).mono ?_;rintro e w2 ⟨lv,rfl,qY,b2⟩;generalize (Nm.split name).isSome=SB at*;generalize (Nm.split name).getD []=SL at*;obtain⟨la,lc,rfl⟩:=aT qY;have EZ:=aB EY b2;have rz:=aA EZ
  have fz:=aF EZ
  obtain⟨k4,-,nN⟩:=yT (kd:=0) (x:=⟨#[]⟩) (y:=⟨#[]⟩) EZ (World.ownsRow_nil w2 0 2 1) (by simp [Value.ownBlock]) (Nm.aC gP b2) (Nat.le_succ _);have rk:=aA k4
  clear EY EZ qY k4 lC;go_wp2_with fail
  refine eB (v:=.tuple #[.agg #[.int .i64 0,.string ⟨#[]⟩,.string ⟨#[]⟩,.slice none 0 0],.int .i64 32]) ?_ rfl (Vs nN);simp [results,Tryz.f9,go_sem,rk]
 have gP:=Nm.aC b1 fJ;have EY:=aB kS fJ;clear Ga k0 kS b0 b1 fJ r0;go_wp2_with fail
 refine(lC _).mono ?_;rintro e w2 ⟨lv',rfl,qY,b2⟩;have EZ:=aB EY b2;have kH:=Nm.aC gP b2;have Dn:=hP.below b2
 cases xM:Nm.split name with
 |none=>
  rw [xM] at qY;have KO:R=(nd0,32):=by rw [HR.out,ndR,if_neg (by rw [xM];simp)]
  clear HR hz hP Dn lC xM gP EY;subst KO;obtain⟨la,lc,rfl⟩:=aT qY;simp only [Option.isSome_none,Option.getD_none,List.length_nil] at qY ⊢;have rz:=aA EZ
  have fz:=aF EZ
  obtain⟨k4,-,nN⟩:=yT (kd:=0) (x:=⟨#[]⟩) (y:=⟨#[]⟩) EZ (World.ownsRow_nil w2 0 2 1) (by simp [Value.ownBlock]) kH (Nat.le_succ _);have rk:=aA k4
  clear EZ qY k4;go_wp2_with fail
  refine eB (v:=.tuple #[.agg #[.int .i64 0,.string ⟨#[]⟩,.string ⟨#[]⟩,.slice none 0 0],.int .i64 32]) ?_ rfl (Vs nN)
  simp [results,Tryz.f9,go_sem,rk]
 |some lab=>
  have Em:R=(tX ps o name,0):=by rw [HR.out,ndR,if_pos ⟨hz,by rw [xM];rfl⟩]
  rw [xM] at qY;simp only [Option.getD_some] at qY;obtain⟨la,lc,rfl⟩:=aT qY;have FW:=aJt la lc Dn hz xM (Nm.bP.aP qY);clear HR hz hP Dn lC xM gP EY qY;subst Em;generalize tX ps o name=N at*;obtain⟨kd,x,y,l⟩:=N;simp only [Option.isSome_some];go_wp2_with fail
  refine FW.mono ?_;rintro e w3 ⟨u,rfl,qV,b3⟩;obtain⟨ua,uc,eu⟩:=aT qV;subst eu;have UE:=aB EZ b3;have rz:=aA UE
  have fz:=aF UE
  obtain⟨k4,BQ,nN⟩:=yT (kd:=kd) (x:=x) (y:=y) UE qV (fun e=>by have h1:=(qV.lt _ e).1;have h2:=cO EZ;omega) (Nm.aC kH b3) (Nat.le_succ _);have rk:=aA k4
  have HP:Hid (NdP (⟨kd,x,y,l⟩,0) w (.returned (.tuple #[.agg #[.int .i64 kd,.string x,.string y,.slice ua l.length uc],.int .i64 0])) _):=⟨_,rfl,fM BQ kH.size,nN⟩;clear EZ UE k4 BQ nN qV FW;simp only at*
  go_wp2_with fail
  refine eB (v:=.tuple #[.agg #[.int .i64 kd,.string x,.string y,.slice ua l.length uc],.int .i64 0]) ?_ rfl HP.out;simp [results,Tryz.f9,go_sem,rk]
theorem aJu{ss:List Sz}{name:ByteArray}{t:Int}(h:(Nm.split name).isSome=false):lS ss name t=none:=by
 rw [lS,List.find?_eq_none];intro z hz;simp [eQ,h]
theorem aP6{ps:List Zp}{o name:ByteArray}{t:Int}{bb:Nat}{lv:Value}{th:Nat}{ys:List ByteArray}{aa:Option Addr}{ac:Nat}{eD rv:Value}{os:List dG}{kv:Value}{ks:List Ld}{B:Nat}{W0 W W':World}{e:Ending}{lab:List ByteArray}(hP:P3 (aR ps) o bb lv th ys aa ac eD rv os kv ks B W0)(hz:AO ps o=true)(hn:Nm.split name=some lab)(h:TsP os lab t W e W'):G9 (fsR ps o name t) W e W':=by
 have uO:ps.map (·.1)=eH os:=by rw [<- (qR hz).2,QF hP.st.inv hP.vZ.1 hP.mix]
 rw [fsR,if_pos hz,uO]
 rcases h with⟨o',s,ho,hs,h1,h2,h3⟩|⟨h1,h3⟩
 ·rw [aJc hP.st.inv hP.vZ.1 hn ho hs h1 h2];exact h3
 rw [aF3 hn (fun o ho=>hP.st.inv.nm hP.vZ.1 ho) h1];exact h3
theorem WY(o name:ByteArray)(t:Int)(v:Value)(ps:List Zp)(w:World)(h:gG w v ps)(hs:wP ps<=1048576)(hf:∀ p∈ps,p.1.own.size<=1048576∧∀ x∈p.1.da,x.size<=1048576)(ha:o.size<=1000000000)(hn:name.size<=1000000000):
 Calls Tryz.prog 10 #[.agg #[.string o,v],.string name,.int .i64 t] w (G9 (fsR ps o name t) w):=by
 obtain⟨va,vc,rfl⟩:=mX h;have b0:=(aJ w.heap.size w).alloc (aI _) (.cells #[.string o,.slice va ps.length vc] 25);have b1:=b0.alloc b0.size (.cells #[.string ⟨#[]⟩,.int .i64 0,.int .i64 0,.slice none 0 0] 42);have k0:=bD (aK w #[.string o,.slice va ps.length vc] 25) (.cells #[.string ⟨#[]⟩,.int .i64 0,.int .i64 0,.slice none 0 0] 42);have kS:=aK (w.alloc (.cells #[.string o,.slice va ps.length vc] 25)) #[.string ⟨#[]⟩,.int .i64 0,.int .i64 0,.slice none 0 0] 42;rw [jO] at kS;have Ga:=xD o (.slice va ps.length vc) ps _ (h.below b1) hs hf ha;have lC:=fun W=>nK name W (by unfold maxLen;omega)
 have r0:=aA k0
 obtain⟨R,hR⟩:∃ R,R=fsR ps o name t:=⟨_,rfl⟩;have HR:=Nm.aD hR;rw [<- hR];clear h hf hs hR;go_enter Tryz.func10,Tryz.ntmps10;go_wp2_with fail
 refine Ga.mono ?_;rintro e w1 ⟨fJ,⟨hz,rfl⟩|⟨hz,bb,lv,th,ys,aa,ac,eD,rv,os,kv,ks,B,rfl,hP⟩⟩
 ·have KO:R=none:=by rw [HR.out,fsR,hz];rfl
  have gP:=Nm.aC b1 fJ;have EY:=aB kS fJ;clear HR hz Ga k0 kS b0 b1 fJ r0;subst KO;go_wp2_with fail
  refine(lC _).mono ?_;rintro e w2 ⟨lv,rfl,qY,b2⟩;generalize (Nm.split name).isSome=SB at*;generalize (Nm.split name).getD []=SL at*;obtain⟨la,lc,rfl⟩:=aT qY;have EZ:=aB EY b2;have rz:=aA EZ
  have fz:=aF EZ
  obtain⟨k4,-,nN⟩:=pY (x:=⟨#[]⟩) (ty:=0) (tt:=0) EZ (World.ownsRow_nil w2 0 9 1) (by simp [Value.ownBlock]) (Nm.aC gP b2) (Nat.le_succ _);have rk:=aA k4
  clear EY EZ qY k4 lC;go_wp2_with fail
  refine eB (v:=.tuple #[.agg #[.string ⟨#[]⟩,.int .i64 0,.int .i64 0,.slice none 0 0],.bool false]) ?_ rfl (JI nN);simp [results,Tryz.f10,go_sem,rk]
 have gP:=Nm.aC b1 fJ;have EY:=aB kS fJ;clear Ga k0 kS b0 b1 fJ r0;go_wp2_with fail
 refine(lC _).mono ?_;rintro e w2 ⟨lv',rfl,qY,b2⟩;have EZ:=aB EY b2;have kH:=Nm.aC gP b2;have Dn:=hP.below b2
 cases xM:Nm.split name with
 |none=>
  rw [xM] at qY;have KO:R=none:=by rw [HR.out,fsR,if_pos hz,aJu (by rw [xM];rfl)]
  clear HR hz hP Dn lC xM gP EY;subst KO;obtain⟨la,lc,rfl⟩:=aT qY;simp only [Option.isSome_none,Option.getD_none,List.length_nil] at qY ⊢;have rz:=aA EZ
  have fz:=aF EZ
  obtain⟨k4,-,nN⟩:=pY (x:=⟨#[]⟩) (ty:=0) (tt:=0) EZ (World.ownsRow_nil w2 0 9 1) (by simp [Value.ownBlock]) kH (Nat.le_succ _);have rk:=aA k4
  clear EZ qY k4;go_wp2_with fail
  refine eB (v:=.tuple #[.agg #[.string ⟨#[]⟩,.int .i64 0,.int .i64 0,.slice none 0 0],.bool false]) ?_ rfl (JI nN)
  simp [results,Tryz.f10,go_sem,rk]
 |some lab=>
  rw [xM] at qY;simp only [Option.getD_some] at qY;have YQ:lab.length<=1000000000:=by have:=(QJ xM).2;omega
  obtain⟨la,lc,rfl⟩:=aT qY;have Nc:=Dn.st.inv.len.1;have hl5:=Dn.hl;rw [List.length_map] at Nc;have FW:=VS bb 3 th rv os B la lab.length lc lab t w2 Dn.st.tr (by omega) (Dn.st.inv.trs (by rw [List.length_map];omega)) Dn.st.lab (Nm.bP.aP qY) YQ ((aA Dn.kb 4).trans rfl) (cO Dn.kb);have aP7:=FW.mono (R':=G9 R w2) (fun e W' hq=>by rw [HR.out];exact aP6 Dn hz xM hq);clear HR hz hP Dn lC xM gP EY FW qY Nc hl5;simp only [Option.isSome_some];go_wp2_with fail
  refine aP7.mono ?_;rintro e w3 ⟨u,rfl,qV,b3⟩;obtain⟨ua,uc,rfl⟩:=aT qV;have UE:=aB EZ b3;have rz:=aA UE
  have fz:=aF UE
  obtain⟨k4,BQ,nN⟩:=pY (x:=(R.getD Ck).own) (ty:=(R.getD Ck).ty) (tt:=(R.getD Ck).tt) UE qV (fun e=>by have h1:=(qV.lt _ e).1;have h2:=cO EZ;omega) (Nm.aC kH b3) (Nat.le_succ _);have rk:=aA k4
  have HP:Hid (G9 R w (.returned (.tuple #[.agg #[.string (R.getD Ck).own,.int .i64 (R.getD Ck).ty,.int .i64 (R.getD Ck).tt,.slice ua (R.getD Ck).da.length uc],.bool R.isSome])) _):=⟨_,rfl,fM BQ kH.size,nN⟩;clear EZ UE k4 BQ nN qV aP7;generalize R.isSome=RB at*;generalize R.getD Ck=RZ at*;go_wp2_with fail
  refine eB (v:=.tuple #[.agg #[.string RZ.own,.int .i64 RZ.ty,.int .i64 RZ.tt,.slice ua RZ.da.length uc],.bool RB]) ?_ rfl HP.out;simp [results,Tryz.f10,go_sem,rk]
