import Derived.Test.YthdpacepbbcocaaGreatJCzE
set_option linter.unusedVariables false
set_option maxRecDepth 100000
set_option maxHeartbeats 1600000
namespace Go.Proofs.YthdpacepbbcocaaGreat
open Go.RowKit
theorem YT(s t:Sz)(v u:Value)(w:World)(h:Nm.dX w v s.da)(h':Nm.dX w u t.da):
 Calls Tryz.prog 71 #[.agg #[.string s.own,.int .i64 s.ty,.int .i64 s.tt,v],.agg #[.string t.own,.int .i64 t.ty,.int .i64 t.tt,u]] w fun e w'=>e=.returned (.bool (YH s t))∧Below w.heap.size w w':=by
 have b1:=(aK w.heap.size w).alloc (aN _) (.cells #[.string s.own,.int .i64 s.ty,.int .i64 s.tt,v] 60);have hB:=b1.alloc (by simp) (.cells #[.string t.own,.int .i64 t.ty,.int .i64 t.tt,u] 60);have k1:=aR (aH w #[.string s.own,.int .i64 s.ty,.int .i64 s.tt,v] 60) (.cells #[.string t.own,.int .i64 t.ty,.int .i64 t.tt,u] 60);have k2:=aH (w.alloc (.cells #[.string s.own,.int .i64 s.ty,.int .i64 s.tt,v] 60)) #[.string t.own,.int .i64 t.ty,.int .i64 t.tt,u] 60;rw [fV] at k2;obtain⟨a,cap,rfl,gY,kK,_,hc⟩:=h;obtain⟨a',cap',rfl,VM,PD,_,DF⟩:=h';obtain⟨so,st,stt,sd⟩:=s;obtain⟨to_,tt,ttt,td⟩:=t;unfold maxLen at kK PD;simp only [YH] at*;clear b1
 by_cases h1:so=to_
 ·subst h1;have e1:(so.toList==so.toList)=true:=by simp
  by_cases h2:st=tt
  ·subst h2;have e2:(st != st)=false:=by simp
   by_cases h3:stt=ttt
   ·subst h3;have e3:(stt != stt)=false:=by simp
    by_cases hl:sd.length=td.length
    ·have nl:((sd.length:Int) != (td.length:Int))=false:=by rw [hl];simp
     have HL:=Nm.aF hl;clear hl;go_enter Tryz.func71,Tryz.ntmps71;go_wp2
     go_loopw [5] (fun i wr=>∃ k:Nat,k<=sd.length∧i=.int .i64 k∧sd.take k=td.take k∧Below w.heap.size w wr∧bG wr w.heap.size #[.string so,.int .i64 st,.int .i64 stt,.slice a sd.length cap] 60∧bG wr (w.heap.size+1) #[.string so,.int .i64 st,.int .i64 stt,.slice a' td.length cap'] 60) (fun i _=>sd.length-(intOf i).toNat)
     case atStart=>exact⟨0,dO _,rfl,rfl,hB,k1,k2⟩
     obtain⟨k,hk,rfl,heq,aJ,q1,q2⟩:=hrel;have HR:=Nm.aF (aV heq (aV aJ (aV q1 q2)));have r1:=(aA q1 3).trans rfl;have r2:=(aA q2 3).trans rfl
     by_cases bV:k<sd.length
     ·obtain⟨x,hx⟩:∃ x,sd[k]? =some x:=⟨_,bY bV⟩;obtain⟨y,hy⟩:∃ y,td[k]? =some y:=⟨_,bY (by have:=HL.out;omega)⟩;obtain⟨b,off,rfl,aL⟩:=hc (List.ne_nil_of_mem (bP hx));obtain⟨b',off',rfl,kU⟩:=DF (List.ne_nil_of_mem (bP hy));have c1:=aL k x hx;have c2:=kU k y hy;have d1:=(aJ.cell (eB w _ c1)).trans c1;have d2:=(aJ.cell (eB w _ c2)).trans c2;have i1:(0:Int)<=(k:Int):=by omega
      have i2:(k:Int)<(sd.length:Int):=by omega
      have i3:(k:Int)<(td.length:Int):=by have:=HL.out;omega
      have HX:=Nm.aF (aV hx hy);clear hc DF aL kU c1 c2 hx hy heq aJ k1 k2 q1 q2
      by_cases TU:x=y
      ·subst TU;have e9:(x.toList==x.toList)=true:=by simp
       go_wp2;go_quiet (fail)
       go_wp2;go_roundw
       case rel=>
        obtain⟨KV,ex⟩:=dK HX.out.1;obtain⟨hk2,ey⟩:=dK HX.out.2;exact⟨k+1,by omega,by go_num,by rw [List.take_succ_eq_append_getElem KV,List.take_succ_eq_append_getElem hk2,ex,ey,HR.out.1],Go.below_drewN HR.out.2.1 _,aB HR.out.2.2.1 (Go.below_drewN (aK _ _) _),aB HR.out.2.2.2 (Go.below_drewN (aK _ _) _)⟩
       simp [intOf];omega
      have e9:=IE TU;have HXY:=Nm.aF TU;clear TU;go_wp2;go_quiet (fail)
      go_wp2;go_ret;refine⟨?_,Go.below_drewN HR.out.2.1 _⟩
      have dQ:sd≠td:=fun e=>HXY.out (by
       have h1:=HX.out.1;rw [e,HX.out.2] at h1
       exact(gQ h1).symm)
      simp [dQ]
     have DJ:k=sd.length:=by omega
     subst DJ;clear hc DF heq aJ k1 k2 q1 q2;go_wp2;go_ret;have h1:=HR.out.1;rw [List.take_length,HL.out,List.take_length] at h1;exact⟨by simp [h1],HR.out.2.1⟩
    have nl:((sd.length:Int) != (td.length:Int))=true:=by rw [bne_iff_ne];omega
    have HL:=Nm.aF hl;clear hl hc DF k1 k2;go_enter Tryz.func71,Tryz.ntmps71;go_wp2;go_ret;have dQ:sd≠td:=fun e=>HL.out (by rw [e])
    exact⟨by simp [dQ],hB⟩
   have e3:(stt != ttt)=true:=by simpa using h3
   clear hc DF k1 k2;go_enter Tryz.func71,Tryz.ntmps71;go_wp2;go_ret;exact⟨by simp [h3],hB⟩
  have e2:(st != tt)=true:=by simpa using h2
  clear hc DF k1 k2;go_enter Tryz.func71,Tryz.ntmps71;go_wp2;go_ret;exact⟨by simp [h2],hB⟩
 have e1:=IE h1;clear hc DF k1 k2;go_enter Tryz.func71,Tryz.ntmps71;go_wp2;go_ret;exact⟨by simp [h1],hB⟩
theorem CV(o:ByteArray)(v u:Value)(qs rs:List Zp)(w:World)(h:gI w v qs)(h':gI w u rs):
 Calls Tryz.prog 33 #[.agg #[.string o,v],.agg #[.string o,u]] w fun e w'=>e=.returned (.bool (CB (qs.map (·.1)) (rs.map (·.1))))∧Below w.heap.size w w':=by
 have b1:=(aK w.heap.size w).alloc (aN _) (.cells #[.string o,v] 25);have hB:=b1.alloc (by simp) (.cells #[.string o,u] 25);have k1:=aR (aH w #[.string o,v] 25) (.cells #[.string o,u] 25);have k2:=aH (w.alloc (.cells #[.string o,v] 25)) #[.string o,u] 25;rw [fV] at k2;obtain⟨⟨_,a,cap,rfl,gY,kK,hc⟩,hd⟩:=h;obtain⟨⟨_,a',cap',rfl,VM,PD,DF⟩,ZE⟩:=h';unfold maxLen at kK PD;have e1:(o.toList==o.toList)=true:=by simp
 clear b1
 by_cases hl:qs.length=rs.length
 ·have nl:((qs.length:Int) != (rs.length:Int))=false:=by rw [hl];simp
  have HL:=Nm.aF hl;clear hl;go_enter Tryz.func33,Tryz.ntmps33;go_wp2
  go_loopw [5] (fun i wr=>∃ k:Nat,k<=qs.length∧i=.int .i64 k∧(∀ (j:Nat) (q r:Zp),j<k->qs[j]? =some q->rs[j]? =some r->q.1=r.1)∧Below w.heap.size w wr∧bG wr w.heap.size #[.string o,.slice a qs.length cap] 25∧bG wr (w.heap.size+1) #[.string o,.slice a' rs.length cap'] 25) (fun i _=>qs.length-(intOf i).toNat)
  case atStart=>exact⟨0,dO _,rfl,fun j _ _ hj=>absurd hj (Nat.not_lt_zero _),hB,k1,k2⟩
  obtain⟨k,hk,rfl,heq,aJ,q1,q2⟩:=hrel;have HR:=Nm.aF (aV heq (aV aJ (aV q1 q2)));have r1:=(aA q1 1).trans rfl;have r2:=(aA q2 1).trans rfl
  by_cases bV:k<qs.length
  ·obtain⟨q,hq⟩:∃ q,qs[k]? =some q:=⟨_,bY bV⟩;obtain⟨r,hr⟩:∃ r,rs[k]? =some r:=⟨_,bY (by have:=HL.out;omega)⟩;obtain⟨b,off,rfl,aL⟩:=hc (by omega);obtain⟨b',off',rfl,kU⟩:=DF (by have:=HL.out;omega);obtain⟨c0,c1,c2,c3⟩:=lG aL hq;obtain⟨d0,d1,d2,d3⟩:=lG kU hr;have hdq:=hd q (bP hq);have Be:=ZE r (bP hr);obtain⟨qa,qc,eq,_⟩:=hdq;obtain⟨ra,rc,er,_⟩:=Be;rw [eq] at c3;rw [er] at d3
   have kS:Hid (∀ X,Below wr.heap.size wr X->X.cell? ⟨w.heap.size,1,none⟩=some (.slice (some ⟨b,off,none⟩) qs.length cap)∧X.cell? ⟨w.heap.size+1,1,none⟩=some (.slice (some ⟨b',off',none⟩) rs.length cap')∧X.cell? ⟨b,off+k*4,none⟩=some (.string q.1.own)∧X.cell? ⟨b,off+k*4+1,none⟩=some (.int .i64 q.1.ty)∧X.cell? ⟨b,off+k*4+2,none⟩=some (.int .i64 q.1.tt)∧X.cell? ⟨b,off+k*4+3,none⟩=some (.slice qa q.1.da.length qc)∧X.cell? ⟨b',off'+k*4,none⟩=some (.string r.1.own)∧X.cell? ⟨b',off'+k*4+1,none⟩=some (.int .i64 r.1.ty)∧X.cell? ⟨b',off'+k*4+2,none⟩=some (.int .i64 r.1.tt)∧X.cell? ⟨b',off'+k*4+3,none⟩=some (.slice ra r.1.da.length rc)):=by
    intro X hX;have hwX:=Nm.aC aJ hX;have put:∀ {p:Addr} {z:Value},w.cell? p=some z->X.cell? p=some z:=fun h=>(hwX.cell (eB w _ h)).trans h
    exact⟨(aA (aB q1 hX) 1).trans rfl,(aA (aB q2 hX) 1).trans rfl,put c0,put c1,put c2,put c3,put d0,put d1,put d2,put d3⟩
   have Af:=fun W (hW:Below w.heap.size w W)=>YT q.1 r.1 q.2 r.2 W ((hd q (bP hq)).below hW) ((ZE r (bP hr)).below hW)
   rw [eq,er] at Af;have HX:=Nm.aF (aV hq (aV hr Af));have i1:(0:Int)<=(k:Int):=by omega
   have i2:(k:Int)<(qs.length:Int):=by omega
   have i3:(k:Int)<(rs.length:Int):=by have:=HL.out;omega
   clear hc DF aL kU hq hr heq c0 c1 c2 c3 d0 d1 d2 d3 hd ZE k1 k2 Af eq er q1 q2;go_wp2_with fail
   go_cut [38] from 27 to 38 (fun p wx=>p=.bool (!YH q.1 r.1)∧Below wr.heap.size wr wx)
   case first=>
    refine kR (fun X=>X.cell? ⟨w.heap.size,1,none⟩=some (.slice (some ⟨b,off,none⟩) qs.length cap)∧X.cell? ⟨w.heap.size+1,1,none⟩=some (.slice (some ⟨b',off',none⟩) rs.length cap')∧X.cell? ⟨b,off+k*4,none⟩=some (.string q.1.own)∧X.cell? ⟨b,off+k*4+1,none⟩=some (.int .i64 q.1.ty)∧X.cell? ⟨b,off+k*4+2,none⟩=some (.int .i64 q.1.tt)∧X.cell? ⟨b,off+k*4+3,none⟩=some (.slice qa q.1.da.length qc)∧X.cell? ⟨b',off'+k*4,none⟩=some (.string r.1.own)∧X.cell? ⟨b',off'+k*4+1,none⟩=some (.int .i64 r.1.ty)∧X.cell? ⟨b',off'+k*4+2,none⟩=some (.int .i64 r.1.tt)∧X.cell? ⟨b',off'+k*4+3,none⟩=some (.slice ra r.1.da.length rc)) 1000 (kS.out _ (aK _ wr).drew) fun aO=>?_;refine kB 0 rfl ?_;refine kB 1 rfl ?_;refine kB 2 rfl ?_;refine kB 3 rfl ?_;refine kB 4 rfl ?_;refine kB 5 rfl ?_;refine kB 6 rfl ?_;refine kB 7 rfl ?_;refine kB 8 rfl ?_;refine kB 9 rfl ?_;refine k1 10 rfl fun K hK=>?_
    go_simp;refine(HX.out.2.2 _ aJ.drew).mono ?_;rintro e w2 ⟨rfl,b2⟩;have UJ:=Nm.aC (aK _ wr).drew b2;go_wp2_with fail
    refine hK.out _ _ (kS.out _ UJ) fun aO=>?_;clear hK K;refine kB 11 rfl ?_;refine kN ?_;go_wp2_with fail
    go_meet;exact⟨rfl,UJ⟩
   obtain⟨rfl,b5⟩:=hcut
   cases hE:YH q.1 r.1 with
   |true=>
    have HE:=Nm.aF hE;clear hE;go_wp2;go_roundw
    case rel=>
     refine⟨k+1,by omega,by go_num,fun j x y hj hx hy=>?_,Nm.aC HR.out.2.1 b5,aB HR.out.2.2.1 b5,aB HR.out.2.2.2 b5⟩
     rcases Nat.lt_succ_iff_lt_or_eq.1 hj with h1|rfl
     ·exact HR.out.1 j x y h1 hx hy
     rw [HX.out.1] at hx;rw [HX.out.2.1] at hy;cases hx
     cases hy
     exact NP.1 HE.out
    simp [intOf];omega
   |false=>
    have HE:=Nm.aF hE;clear hE;go_wp2;go_ret;rw [Ra (j:=k) (a:=q.1) (b:=r.1) (by simp [HX.out.1]) (by simp [HX.out.2.1]) HE.out];exact⟨rfl,Nm.aC HR.out.2.1 b5⟩
  have DJ:k=qs.length:=by omega
  subst DJ;clear hc DF heq aJ hd ZE k1 k2 q1 q2;go_wp2;go_ret
  rw [Qz (by simp [HL.out]) (fun j x y hx hy=>by
   simp only [List.getElem?_map,Option.map_eq_some_iff] at hx hy;obtain⟨q,hq,rfl⟩:=hx;obtain⟨r,hr,rfl⟩:=hy
   exact HR.out.1 j q r (dK hq).1 hq hr)]
  exact⟨rfl,HR.out.2.1⟩
 have nl:((qs.length:Int) != (rs.length:Int))=true:=by rw [bne_iff_ne];omega
 have HL:=Nm.aF hl;clear hl hc DF hd ZE k1 k2;go_enter Tryz.func33,Tryz.ntmps33;go_wp2;go_ret;rw [Rc (by simpa using HL.out)];exact⟨rfl,hB⟩
