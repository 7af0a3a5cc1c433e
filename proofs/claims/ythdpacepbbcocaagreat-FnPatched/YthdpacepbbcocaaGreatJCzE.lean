import Derived.Test.YthdpacepbbcocaaGreatJBzD
set_option linter.unusedVariables false
set_option maxRecDepth 100000
set_option maxHeartbeats 3200000
namespace Go.Proofs.YthdpacepbbcocaaGreat
open Go.RowKit
theorem aNz{a b:ByteArray}(h:a≠b):(a.toList != b.toList)=true:=by
 rw [bne_iff_ne,ByteArray.toList_eq,ByteArray.toList_eq];exact fun e=>h (Nm.kI e)
theorem IE{a b:ByteArray}(h:a≠b):(a.toList==b.toList)=false:=by
 have:=aNz h;rw [bne] at this;simpa using this
theorem Il(v u:Value)(xs ys:List ByteArray)(w:World)(h:Nm.dX w v xs)(h':Nm.dX w u ys):
 Calls Tryz.prog 118 #[v,u] w fun e w'=>e=.returned (.bool (decide (xs=ys)))∧Below w.heap.size w w':=by
 obtain⟨a,cap,rfl,gY,kK,_,hc⟩:=h;obtain⟨a',cap',rfl,VM,PD,_,DF⟩:=h';unfold maxLen at kK PD
 by_cases hl:xs.length=ys.length
 ·have nl:((xs.length:Int) != (ys.length:Int))=false:=by rw [hl];simp
  have HL:=Nm.aF hl;clear hl;go_enter Tryz.func118,Tryz.ntmps118;go_wp2
  go_loopw [13] (fun i wr=>∃ k:Nat,k<=xs.length∧i=.int .i64 k∧xs.take k=ys.take k∧Below w.heap.size w wr) (fun i _=>xs.length-(intOf i).toNat)
  case atStart=>exact⟨0,dO _,rfl,rfl,aK _ _⟩
  obtain⟨k,hk,rfl,heq,aJ⟩:=hrel;have HR:=Nm.aF (aV heq aJ)
  by_cases bV:k<xs.length
  ·obtain⟨x,hx⟩:∃ x,xs[k]? =some x:=⟨_,bY bV⟩;obtain⟨y,hy⟩:∃ y,ys[k]? =some y:=⟨_,bY (by have:=HL.out;omega)⟩;obtain⟨b,off,rfl,aL⟩:=hc (List.ne_nil_of_mem (bP hx));obtain⟨b',off',rfl,kU⟩:=DF (List.ne_nil_of_mem (bP hy));have c1:=aL k x hx;have c2:=kU k y hy;have d1:=(aJ.cell (eB w _ c1)).trans c1;have d2:=(aJ.cell (eB w _ c2)).trans c2;have i1:(0:Int)<=(k:Int):=by omega
   have i2:(k:Int)<(xs.length:Int):=by omega
   have i3:(k:Int)<(ys.length:Int):=by have:=HL.out;omega
   have HX:=Nm.aF (aV hx hy);clear hc DF aL kU c1 c2 hx hy heq aJ
   by_cases TU:x=y
   ·subst TU;have e1:(x.toList != x.toList)=false:=by simp
    go_wp2;go_quiet (fail)
    go_wp2;go_roundw
    case rel=>
     obtain⟨KV,ex⟩:=dK HX.out.1;obtain⟨hk2,ey⟩:=dK HX.out.2;refine⟨k+1,by omega,by go_num,by rw [List.take_succ_eq_append_getElem KV,List.take_succ_eq_append_getElem hk2,ex,ey,HR.out.1],Go.below_drewN HR.out.2 _⟩
    simp [intOf];omega
   have e1:=IE TU;have HXY:=Nm.aF TU;clear TU;go_wp2;go_quiet (fail)
   go_wp2;go_ret;refine⟨?_,Go.below_drewN HR.out.2 _⟩
   rw [jU (fun e=>HXY.out (by
    have h1:=HX.out.1;rw [e,HX.out.2] at h1
    exact(gQ h1).symm))]
   rfl
  have DJ:k=xs.length:=by omega
  subst DJ;clear hc DF heq aJ;go_wp2;go_ret;have h1:=HR.out.1;rw [List.take_length,HL.out,List.take_length] at h1;rw [nD h1];exact⟨rfl,HR.out.2⟩
 have nl:((xs.length:Int) != (ys.length:Int))=true:=by rw [bne_iff_ne];omega
 have HL:=Nm.aF hl;clear hl hc DF;go_enter Tryz.func118,Tryz.ntmps118;go_wp2;go_ret;rw [jU (fun e=>HL.out (by rw [e]))];exact⟨rfl,aK _ _⟩
theorem Rj(s t:Sz)(v u:Value)(w:World)(h:Nm.dX w v s.da)(h':Nm.dX w u t.da):
 Calls Tryz.prog 80 #[.agg #[.string s.own,.int .i64 s.ty,.int .i64 s.tt,v],.agg #[.string t.own,.int .i64 t.ty,.int .i64 t.tt,u]] w fun e w'=>e=.returned (.bool (YH s t))∧Below w.heap.size w w':=by
 have hB:=((aK w.heap.size w).alloc (aN _) (.cells #[.string s.own,.int .i64 s.ty,.int .i64 s.tt,v] 60)).alloc (by simp) (.cells #[.string t.own,.int .i64 t.ty,.int .i64 t.tt,u] 60);have he:=Il v u s.da t.da _ (h.below hB) (h'.below hB);obtain⟨a,cap,rfl,_⟩:=h;obtain⟨a',cap',rfl,_⟩:=h';obtain⟨so,st,stt,sd⟩:=s;obtain⟨to_,tt,ttt,td⟩:=t;simp only [YH] at*;generalize decide (sd=td)=DD at*
 by_cases h1:so=to_
 ·subst h1;have e1:(so.toList==so.toList)=true:=by simp
  by_cases h2:st=tt
  ·subst h2;have e2:(st==st)=true:=by simp
   by_cases h3:stt=ttt
   ·subst h3;have e3:(stt==stt)=true:=by simp
    go_enter Tryz.func80,Tryz.ntmps80;go_wp2_with (go_at_call 118;refine he.mono ?_;rintro e w1 ⟨rfl,b1⟩)
    go_ret;exact⟨by simp,Nm.aC hB b1⟩
   have e3:(stt==ttt)=false:=by simpa using h3
   clear he;go_enter Tryz.func80,Tryz.ntmps80;go_wp2;go_ret;exact⟨by simp [h3],hB⟩
  have e2:(st==tt)=false:=by simpa using h2
  clear he;go_enter Tryz.func80,Tryz.ntmps80;go_wp2;go_ret;exact⟨by simp [h2],hB⟩
 have e1:=IE h1;clear he;go_enter Tryz.func80,Tryz.ntmps80;go_wp2;go_ret;exact⟨by simp [h1],hB⟩
theorem Bt(v u:Value)(qs rs:List Zp)(w:World)(h:gI w v qs)(h':gI w u rs):
 Calls Tryz.prog 78 #[v,u,.func (.func 80) #[] #[]] w fun e w'=>e=.returned (.bool (CB (qs.map (·.1)) (rs.map (·.1))))∧Below w.heap.size w w':=by
 obtain⟨⟨_,a,cap,rfl,gY,kK,hc⟩,hd⟩:=h;obtain⟨⟨_,a',cap',rfl,VM,PD,DF⟩,ZE⟩:=h';unfold maxLen at kK PD
 by_cases hl:qs.length=rs.length
 ·have nl:((qs.length:Int) != (rs.length:Int))=false:=by rw [hl];simp
  have HL:=Nm.aF hl;clear hl;go_enter Tryz.func78,Tryz.ntmps78;go_wp2
  go_loopw [17] (fun i wr=>∃ k:Nat,k<=qs.length∧i=.int .i64 k∧(∀ (j:Nat) (q r:Zp),j<k->qs[j]? =some q->rs[j]? =some r->q.1=r.1)∧Below w.heap.size w wr) (fun i _=>qs.length-(intOf i).toNat)
  case atStart=>exact⟨0,dO _,rfl,fun j _ _ hj=>absurd hj (Nat.not_lt_zero _),aK _ _⟩
  obtain⟨k,hk,rfl,heq,aJ⟩:=hrel;have HR:=Nm.aF (aV heq aJ)
  by_cases bV:k<qs.length
  ·obtain⟨q,hq⟩:∃ q,qs[k]? =some q:=⟨_,bY bV⟩;obtain⟨r,hr⟩:∃ r,rs[k]? =some r:=⟨_,bY (by have:=HL.out;omega)⟩;obtain⟨b,off,rfl,aL⟩:=hc (by omega);obtain⟨b',off',rfl,kU⟩:=DF (by have:=HL.out;omega);have put:∀ {p:Addr} {z:Value},w.cell? p=some z->wr.cell? p=some z:=fun h=>(aJ.cell (eB w _ h)).trans h
   obtain⟨c0,c1,c2,c3⟩:=lG aL hq;obtain⟨d0,d1,d2,d3⟩:=lG kU hr;have C0:=put c0;have C1:=put c1;have C2:=put c2;have C3:=put c3;have B1:=(aK wr.heap.size wr).alloc (aN _) (.cells #[.string q.1.own,.int .i64 q.1.ty,.int .i64 q.1.tt,q.2] 60);have D0:=(B1.cell (p:=⟨b',off'+k*4,none⟩) (eB wr _ (put d0))).trans (put d0);have D1:=(B1.cell (p:=⟨b',off'+k*4+1,none⟩) (eB wr _ (put d1))).trans (put d1);have D2:=(B1.cell (p:=⟨b',off'+k*4+2,none⟩) (eB wr _ (put d2))).trans (put d2);have D3:=(B1.cell (p:=⟨b',off'+k*4+3,none⟩) (eB wr _ (put d3))).trans (put d3);have B2:=B1.alloc B1.size (.cells #[.string r.1.own,.int .i64 r.1.ty,.int .i64 r.1.tt,r.2] 60);have Af:=Rj q.1 r.1 q.2 r.2 _ (((hd q (bP hq)).below aJ).below B2) (((ZE r (bP hr)).below aJ).below B2);obtain⟨qa,qc,eq,_⟩:=hd q (bP hq);obtain⟨ra,rc,er,_⟩:=ZE r (bP hr);have HX:=Nm.aF (aV hq hr);have i1:(0:Int)<=(k:Int):=by omega
   have i2:(k:Int)<(qs.length:Int):=by omega
   have i3:(k:Int)<(rs.length:Int):=by have:=HL.out;omega
   have B2':=Nm.aC aJ B2;rw [eq] at C3 Af D0 D1 D2 D3 B2';rw [er] at D3 Af B2';clear hc DF aL kU hq hr heq aJ put c0 c1 c2 c3 d0 d1 d2 d3 hd ZE B1 B2
   cases hE:YH q.1 r.1 with
   |true=>
    rw [hE] at Af;have HE:=Nm.aF hE;clear hE;go_wp2_with (go_at_call 80;refine Af.mono ?_;rintro e w2 ⟨rfl,b2⟩)
    go_roundw
    case rel=>
     refine⟨k+1,by omega,by go_num,fun j x y hj hx hy=>?_,Nm.aC B2' b2⟩
     rcases Nat.lt_succ_iff_lt_or_eq.1 hj with h1|rfl
     ·exact HR.out.1 j x y h1 hx hy
     rw [HX.out.1] at hx;rw [HX.out.2] at hy;cases hx
     cases hy
     exact NP.1 HE.out
    simp [intOf];omega
   |false=>
    rw [hE] at Af;have HE:=Nm.aF hE;clear hE;go_wp2_with (go_at_call 80;refine Af.mono ?_;rintro e w2 ⟨rfl,b2⟩)
    go_ret;rw [Ra (j:=k) (a:=q.1) (b:=r.1) (by simp [HX.out.1]) (by simp [HX.out.2]) HE.out];exact⟨rfl,Nm.aC B2' b2⟩
  have DJ:k=qs.length:=by omega
  subst DJ;clear hc DF heq aJ hd ZE;go_wp2;go_ret
  rw [Qz (by simp [HL.out]) (fun j x y hx hy=>by
   simp only [List.getElem?_map,Option.map_eq_some_iff] at hx hy;obtain⟨q,hq,rfl⟩:=hx;obtain⟨r,hr,rfl⟩:=hy
   exact HR.out.1 j q r (dK hq).1 hq hr)]
  exact⟨rfl,HR.out.2⟩
 have nl:((qs.length:Int) != (rs.length:Int))=true:=by rw [bne_iff_ne];omega
 have HL:=Nm.aF hl;clear hl hc DF hd ZE;go_enter Tryz.func78,Tryz.ntmps78;go_wp2;go_ret;rw [Rc (by simpa using HL.out)];exact⟨rfl,aK _ _⟩
theorem aEh(bb:Nat)(la:Option Addr)(lc:Nat)(list:List Rr)(aM:ByteArray)(w:World)(hk:bG w bb #[.slice la list.length lc,.string aM,.slice none 0 0,.slice none 0 0,.pointer none,.slice none 0 0] 122)(h:w.ownsRow 0 29 5 (.slice la list.length lc) list.length (bK list))(ha:aM.size<=1000000000)(ho:∀ r∈list,r.own.size<=1000000000∧r.da.size<=2000000):
 Calls Tryz.prog 77 #[.pointer (some ⟨bb,0,none⟩)] w fun e w'=>e=AC (eH list aM).1 (eH list aM).2∧dM [bb] w w'∧((eH list aM).1=0->∃ th ys aa ac fC rv os kv ks B,P3 list aM bb (.slice la list.length lc) th ys aa ac fC rv os kv ks B w'):=
 Ec bb la lc list aM w hk (bS.aS h) (fun _ e=>bW h hk (by decide) (by have:=xG h e;simpa using this)) (fun _ b hb=>uV h b (xG h hb)) (by unfold maxLen;omega) ho
theorem YK{fp:List Nat}{B:Nat}{w w':World}(h:dM fp w w')(hB:B<=w.heap.size)(hf:∀ b∈fp,B<=b):Below B w w':=
 ⟨h.os,h.tape,h.output,h.size,fun k hk=>h.block k (by omega) (fun hm=>by have:=hf k hm;omega)⟩
theorem Rk{w:World}{b:Nat}{x0 x1 x2 x3 x4 x5:Value}:dM [b] w ((((((w.setCell ⟨b,0,none⟩ x0).setCell ⟨b,1,none⟩ x1).setCell ⟨b,2,none⟩ x2).setCell ⟨b,3,none⟩ x3).setCell ⟨b,4,none⟩ x4).setCell ⟨b,5,none⟩ x5):=by
 have t:∀ {A C:World} {i:Nat} {x:Value},dM [b] A C->dM [b] A (C.setCell ⟨b,i,none⟩ x):=fun h=>h.trans qB (fun k hk=>.inl hk)
 exact t (t (t (t (t qB))))
theorem aLd{w:World}{B b n:Nat}{v:Value}{cs:Array Value}{xs:List Value}{x0 x1 x2 x3 x4 x5:Value}(h:w.ownsRow B 29 5 v n xs)(k:bG w b cs 122):((((((w.setCell ⟨b,0,none⟩ x0).setCell ⟨b,1,none⟩ x1).setCell ⟨b,2,none⟩ x2).setCell ⟨b,3,none⟩ x3).setCell ⟨b,4,none⟩ x4).setCell ⟨b,5,none⟩ x5).ownsRow B 29 5 v n xs:=
 qC h Rk (fun c hc hm=>bW h k (by decide) (by rw [<- List.mem_singleton.1 hc];simpa using hm))
theorem Zt(x:ByteArray)(a:Option Addr)(n c:Nat)(W:World):(Instr.field 25 (.agg #[.string x,.slice a n c]) 1).run Tryz.prog W=.ok (.slice a n c) W:=by kernel_rfl
def aN0(ps:List Zp)(o:ByteArray)(w:World)(e:Ending)(w':World):Prop:=Below w.heap.size w w'∧
 ((pI ps o=false∧e=.returned (.tuple #[.pointer none,.bool false]))∨
 (pI ps o=true∧∃ bb lv th ys aa ac fC rv os kv ks B,e=.returned (.tuple #[.pointer (some ⟨bb,3,none⟩),.bool true])∧P3 (aD ps) o bb lv th ys aa ac fC rv os kv ks B w'))
theorem Im(o:ByteArray)(v:Value)(ps:List Zp)(w:World)(h:gI w v ps)(hs:rG ps<=1048576)(hf:∀ p∈ps,p.1.own.size<=1048576∧∀ x∈p.1.da,x.size<=1048576)(ha:o.size<=1000000000):
 Calls Tryz.prog 39 #[.agg #[.string o,v]] w (aN0 ps o w):=by
 have k0:=aH w #[.string o,v] 25;have b0:=(aK w.heap.size w).alloc (aN _) (.cells #[.string o,v] 25);have Jo:=fun W (hW:Below w.heap.size w W)=>vC o v ps W (h.below hW) hs (fun p hp=>(hf p hp).2)
 have hrf:=sK hf;have hbt:=fun bb la lc W hk hr=>aEh bb la lc (aD ps) o W hk hr ha (fun r hr=>by have:=hrf r hr;exact⟨by omega,by omega⟩)
 have HZ:Hid (∀ bb lv th ys aa ac fC rv os kv ks B W,P3 (aD ps) o bb lv th ys aa ac fC rv os kv ks B W->Calls Tryz.prog 79 #[.pointer (some ⟨bb,3,none⟩),.string o] W fun e W'=>∃ v qs,e=.returned (.agg #[.string o,v])∧qs.map (·.1)=mW (aD ps)∧dH W' W.heap.size v qs∧Below W.heap.size W W'):=by
  intro bb lv th ys aa ac fC rv os kv ks B W hP;have hl5:=hP.hl;have hol:=hP.st.inv.len.1;rw [List.length_map] at hol;rw [aA4 hP.st.inv hP.NL.1 hP.mix];exact Qp bb 3 th rv os B o W hP.st.tr (hP.st.inv.trs (by rw [List.length_map];omega)) (by omega) hP.st.lab ((aA hP.kb 4).trans rfl) ha
 have hzv:∃ va vc,v=.slice va ps.length vc:=by obtain⟨⟨_,a,c,e,_⟩,_⟩:=h;exact⟨a,c,e⟩
 obtain⟨va,vc,rfl⟩:=hzv;have HH:=Nm.aF (aV h (aV Jo hbt));obtain⟨E,hE⟩:∃ E,E=eH (aD ps) o:=⟨_,rfl⟩;have HE:=Nm.aF hE;clear h Jo hbt hrf hf hE;go_enter Tryz.func39,Tryz.ntmps39;go_upto_region 1 with fail
 go_cut [4] from 7 to 11 (fun p wx=>∃ (bb:Nat) (la:Option Addr) (lc:Nat),p=.pointer (some ⟨bb,0,none⟩)∧w.heap.size<bb∧bG wx bb #[.slice la (aD ps).length lc,.string o,.slice none 0 0,.slice none 0 0,.pointer none,.slice none 0 0] 122∧wx.ownsRow 0 29 5 (.slice la (aD ps).length lc) (aD ps).length (bK (aD ps))∧Below w.heap.size w wx∧bG wx w.heap.size #[.string o,.slice va ps.length vc] 25)
 case first=>
  have hd:Below w.heap.size w (w.alloc (.cells #[.string o,.slice va ps.length vc] 25)).drew:=b0.drew
  have kS:Hid (∀ X,Below (w.heap.size+1) (w.alloc (.cells #[.string o,.slice va ps.length vc] 25)) X->X.cell? ⟨w.heap.size,0,none⟩=some (.string o)∧X.cell? ⟨w.heap.size,1,none⟩=some (.slice va ps.length vc)):=by
   intro X hX;have kx:=aB k0 (by simpa using hX);exact⟨(aA kx 0).trans rfl,(aA kx 1).trans rfl⟩
  have e0:Below (w.heap.size+1) (w.alloc (.cells #[.string o,.slice va ps.length vc] 25)) (w.alloc (.cells #[.string o,.slice va ps.length vc] 25)).drew:=(aK _ _).drew;refine kR (fun X=>X.cell? ⟨w.heap.size,0,none⟩=some (.string o)∧X.cell? ⟨w.heap.size,1,none⟩=some (.slice va ps.length vc)) 1000 (kS.out _ e0) fun aO=>?_;refine kB 0 rfl ?_;refine kB 2 rfl ?_;refine kB 3 rfl ?_;refine k2 1 5 rfl rfl (fun K hK=>?_) fun K hK=>?_
  ·go_simp;refine(HH.out.2.1 _ hd).mono ?_;rintro e w1 ⟨u,rfl,aU,b1⟩;obtain⟨la,lc,rfl⟩:=aT aU;have nJ:w.heap.size+1<=w1.heap.size:=by have:=b1.size;simpa [World.drew] using this
   have e1:Below (w.heap.size+1) (w.alloc (.cells #[.string o,.slice va ps.length vc] 25)) w1:=e0.trans (b1.mono (by show w.heap.size+1<=(w.alloc _).heap.size;simp));have mO:Below w.heap.size w w1:=Nm.aC b0 (by simpa using e1);go_wp2_with fail
   refine hK.out _ _ (kS.out _ e1) fun aO=>?_;clear hK K;refine kB 4 rfl ?_;refine k1 5 rfl fun K hK=>?_
   go_simp;have bz:=(aK w1.heap.size w1).alloc (aN _) (.cells #[.slice none 0 0,.string ⟨#[]⟩,.slice none 0 0,.slice none 0 0,.pointer none,.slice none 0 0] 122);have kz:=aH w1 #[.slice none 0 0,.string ⟨#[]⟩,.slice none 0 0,.slice none 0 0,.pointer none,.slice none 0 0] 122;have rz:=fun i=>aA kz i
   have fz:=fun i=>aG kz i
   refine hK.out _ _ (kS.out _ (e1.trans (bz.mono nJ))) fun aO=>?_;clear hK K;refine k1 6 rfl fun K hK=>?_
   go_simp;have bn:=(aK w1.heap.size w1).alloc (aN _) (.cells #[.slice la (aD ps).length lc,.string o,.slice none 0 0,.slice none 0 0,.pointer none,.slice none 0 0] 122);have kn:=aH w1 #[.slice la (aD ps).length lc,.string o,.slice none 0 0,.slice none 0 0,.pointer none,.slice none 0 0] 122;have en:=e1.trans (bn.mono nJ);refine hK.out _ _ (kS.out _ en) fun aO=>?_;clear hK K;refine kN ?_;go_wp2_with fail
   go_meet;exact⟨w1.heap.size,la,lc,rfl,by omega,kn,fQ (own_below aU bn) (dO _),Nm.aC mO bn,aB k0 (by simpa using en)⟩
  go_simp;have kz0:=aH (w.alloc (.cells #[.string o,.slice va ps.length vc] 25)) #[.slice none 0 0,.string ⟨#[]⟩,.slice none 0 0,.slice none 0 0,.pointer none,.slice none 0 0] 122;rw [fV] at kz0;have kz:=dS kz0;have bA:Below (w.heap.size+1) (w.alloc (.cells #[.string o,.slice va ps.length vc] 25)) ((w.alloc (.cells #[.string o,.slice va ps.length vc] 25)).alloc (.cells #[.slice none 0 0,.string ⟨#[]⟩,.slice none 0 0,.slice none 0 0,.pointer none,.slice none 0 0] 122)).drew:=((aK _ _).alloc (by simp) _).drew;have bA':Below w.heap.size w ((w.alloc (.cells #[.string o,.slice va ps.length vc] 25)).alloc (.cells #[.slice none 0 0,.string ⟨#[]⟩,.slice none 0 0,.slice none 0 0,.pointer none,.slice none 0 0] 122)).drew:=Nm.aC b0 (by simpa using bA)
  have hsA:((w.alloc (.cells #[.string o,.slice va ps.length vc] 25)).alloc (.cells #[.slice none 0 0,.string ⟨#[]⟩,.slice none 0 0,.slice none 0 0,.pointer none,.slice none 0 0] 122)).drew.heap.size=w.heap.size+2:=by
   show((w.alloc _).alloc _).heap.size=_
   simp
  have HSA:=Nm.aF hsA;clear kz0 hsA;refine hK.out _ _ (kS.out _ bA) fun aO=>?_;clear hK K;refine k1 1 rfl fun K hK=>?_
  go_simp;refine(HH.out.2.1 _ bA').mono ?_;rintro e w1 ⟨u,rfl,aU,b1⟩;obtain⟨la,lc,rfl⟩:=aT aU;have nJ:w.heap.size+2<=w1.heap.size:=by have:=b1.size;have:=HSA.out;omega
  have e1:Below (w.heap.size+1) (w.alloc (.cells #[.string o,.slice va ps.length vc] 25)) w1:=bA.trans (b1.mono (by have:=HSA.out;omega));have mO:Below w.heap.size w w1:=Nm.aC b0 (by simpa using e1);have uC:=aB kz b1;have HOW:=Nm.aF aU;clear aU kz b1;go_wp2_with fail
  refine hK.out _ _ (kS.out _ e1) fun aO=>?_;clear hK K;refine kB 4 rfl ?_;refine k1 6 rfl fun K hK=>?_
  have rz:=fun i=>aA uC i
  have fz:=fun i=>aG uC i
  go_simp;have kn:=aI (aI (aI (aI (aI (aI uC 0 (.slice la (aD ps).length lc)) 1 (.string o)) 2 (.slice none 0 0)) 3 (.slice none 0 0)) 4 (.pointer none)) 5 (.slice none 0 0);simp only [List.setIfInBounds_toArray,List.set_cons_zero,List.set_cons_succ] at kn;have on:=aLd (v:=.slice la (aD ps).length lc) (x0:=.slice la (aD ps).length lc) (x1:=.string o) (x2:=.slice none 0 0) (x3:=.slice none 0 0) (x4:=.pointer none) (x5:=.slice none 0 0) HOW.out uC;have oo:dM [w.heap.size+1] w1 ((((((w1.setCell ⟨w.heap.size+1,0,none⟩ (.slice la (aD ps).length lc)).setCell ⟨w.heap.size+1,1,none⟩ (.string o)).setCell ⟨w.heap.size+1,2,none⟩ (.slice none 0 0)).setCell ⟨w.heap.size+1,3,none⟩ (.slice none 0 0)).setCell ⟨w.heap.size+1,4,none⟩ (.pointer none)).setCell ⟨w.heap.size+1,5,none⟩ (.slice none 0 0)):=Rk;have en:=e1.trans (YK oo (by omega) (fun b hb=>by rw [List.mem_singleton.1 hb];exact aN _));clear rz fz uC;refine hK.out _ _ (kS.out _ en) fun aO=>?_;clear hK K;refine kN ?_;go_wp2_with fail
  go_meet;exact⟨w.heap.size+1,la,lc,rfl,by omega,kn,fQ on (dO _),Nm.aC b0 (by simpa using en),aB k0 (by simpa using en)⟩
 obtain⟨bb,la,lc,rfl,MU,kb,aU,bwc,kZ⟩:=hcut;have ZI:=HH.out.2.2 bb la lc wc kb aU;unfold AC at ZI;rw [<- HE.out] at ZI;obtain⟨C,I⟩:=E;simp only at ZI
 have HB:=Nm.aF (aV MU bwc);clear aU kb bwc MU k0 b0
 by_cases hC:C=0
 ·subst hC;go_wp2_with fail
  refine ZI.mono ?_;rintro e w2 ⟨rfl,mF,hp⟩;obtain⟨th,ys,aa,ac,fC,rv,os,kv,ks,B,hP⟩:=hp trivial;have kZ2:=nZ kZ mF (fun hm=>by have:=List.mem_singleton.1 hm;have:=HB.out.1;omega);have b2:Below w.heap.size w w2:=HB.out.2.trans (YK mF HB.out.2.size (fun b hb=>by rw [List.mem_singleton.1 hb];have:=HB.out.1;omega));have HP:=Nm.aF (aV hP b2);clear ZI mF hp hP b2 kZ;go_wp2_with fail
  have kS:Hid (∀ X,Below w2.heap.size w2 X->X.cell? ⟨w.heap.size,0,none⟩=some (.string o)∧X.cell? ⟨w.heap.size,1,none⟩=some (.slice va ps.length vc)):=by
   intro X hX;have kx:=aB kZ2 hX;exact⟨(aA kx 0).trans rfl,(aA kx 1).trans rfl⟩
  have bd:=(aK w2.heap.size w2).drew;clear kZ2;go_cut [26] from 18 to 26 (fun p wx=>p=.bool (!CB (mW (aD ps)) (ps.map (·.1)))∧Below w2.heap.size w2 wx)
  case first=>
   refine kR (fun X=>X.cell? ⟨w.heap.size,0,none⟩=some (.string o)∧X.cell? ⟨w.heap.size,1,none⟩=some (.slice va ps.length vc)) 1000 (kS.out _ bd) fun aO=>?_;refine kB 0 rfl ?_;refine kB 1 rfl ?_;refine kB 2 rfl ?_;refine kB 5 rfl ?_;refine kB 6 rfl ?_;refine k1 3 rfl fun K hK=>?_
   go_simp;refine(HZ.out _ _ _ _ _ _ _ _ _ _ _ _ _ (HP.out.1.below bd)).mono ?_;rintro e w3 ⟨zv,qs,rfl,Qx,NF,b3⟩;obtain⟨za,zc,rfl⟩:=aT NF.outer;have Bg:=Nm.aC bd b3;have Dk:=fun W=>Zt o za qs.length zc W
   go_wp2_with fail
   refine hK.out _ _ (kS.out _ Bg) fun aO=>?_;clear hK K;refine kB 4 rfl ?_;refine k1 7 rfl fun K hK=>?_
   go_simp;refine(Bt _ _ qs ps _ NF.BQ ((HH.out.1.below HP.out.2).below Bg)).mono ?_;rintro e w4 ⟨rfl,b4⟩;rw [Qx];have b4':=Nm.aC Bg b4;go_wp2_with fail
   refine hK.out _ _ (kS.out _ b4') fun aO=>?_;clear hK K;refine kB 8 rfl ?_;refine kN ?_;go_wp2_with fail
   go_meet;exact⟨rfl,b4'⟩
  obtain⟨rfl,b5⟩:=hcut;have hEo:(eH (aD ps) o).1=0:=by rw [<- HE.out]
  cases hq:CB (mW (aD ps)) (ps.map (·.1)) with
  |true=>
   have Ay:pI ps o=true:=by rw [pI,nD hEo,hq];rfl
   have Ez:=Nm.aF Ay;clear hq Ay hEo;go_wp2;go_ret2
   exact⟨Nm.aC HP.out.2 b5,.inr ⟨Ez.out,bb,_,th,ys,aa,ac,fC,rv,os,kv,ks,B,rfl,HP.out.1.below b5⟩⟩
  |false=>
   have Ay:pI ps o=false:=by rw [pI,hq,Bool.and_false]
   have Ez:=Nm.aF Ay;clear hq Ay hEo;go_wp2;go_ret2;exact⟨Nm.aC HP.out.2 b5,.inl ⟨Ez.out,rfl⟩⟩
 have n0:(C != 0)=true:=by simpa using hC
 have Ay:pI ps o=false:=by rw [pI,<- HE.out,jU hC];rfl
 have Ez:=Nm.aF Ay;clear hC Ay;go_wp2_with fail
 refine ZI.mono ?_;rintro e w2 ⟨rfl,mF,hp⟩;have b2:Below w.heap.size w w2:=HB.out.2.trans (YK mF HB.out.2.size (fun b hb=>by rw [List.mem_singleton.1 hb];have:=HB.out.1;omega));clear ZI mF hp;go_wp2;go_ret2;exact⟨b2,.inl ⟨Ez.out,rfl⟩⟩
