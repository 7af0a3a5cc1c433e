import Derived.Test.YtlddifpnkeafpaaGreatJFnT
import Derived.Test.YtlddifpnkeafpaaGreatJFsC
set_option linter.unusedVariables false
set_option maxRecDepth 100000
set_option maxHeartbeats 1600000
namespace Go.Proofs.YtlddifpnkeafpaaGreat
open Go.RowKit
theorem aCo{l iT:List It}:∀ (k:Nat),k<=iT.length->∀ s∈nS l iT k,0<s.da.length:=by
 intro k
 induction k with
 |zero=>intro _;simp [nS]
 |succ k ih=>
  intro hk;have h2:=ih (by omega);obtain⟨x,hx⟩:∃ x,iT[k]? =some x:=⟨_,gF (by omega)⟩
  cases hn:jM iT k x with
  |true=>
   rw [tO hx hn];intro s hs
   rcases iU hs with h|h
   ·exact h2 s h
   simp at h;subst h;simp
  |false=>
   have Ke:0<k:=by
    rcases Nat.eq_zero_or_pos k with h|h
    ·subst h;simp [jM] at hn
    exact h
   obtain⟨qs,s,e⟩:=xP (l:=l) (iT:=iT) k Ke (by omega);rw [yM hx hn e];rw [e] at h2;intro t ht
   rcases iU ht with h|h
   ·exact h2 t (List.mem_append.2 (.inl h))
   simp at h;subst h;simp
theorem Vi{ps:List Zp}{o:ByteArray}(hz:AO ps o=true):∀ p∈ps,0<p.1.da.length:=by
 intro p hp;have hm:p.1∈ps.map (·.1):=List.mem_map.2 ⟨p,hp,rfl⟩;rw [<- (qR hz).2,zI] at hm;exact aCo _ (aI _) _ hm
theorem aCp{ps:List Zp}{name:ByteArray}{j:Nat}{q:Zp}(hq:ps[j]? =some q):rO ((ps.take (j+1)).map (·.1)) name=rO ((ps.take j).map (·.1)) name++(if eQ q.1.own name=true then [q.1.ty] else []):=by
 rw [Nm.jJ hq,List.map_append,rO,rO,List.filter_append,List.map_append];congr 1;simp only [List.map_cons,List.map_nil,List.filter_cons,List.filter_nil]
 split<;>rfl
theorem aGt(l:List Sz)(name:ByteArray):(rO l name).length<=l.length:=by
 rw [rO,List.length_map];exact List.length_filter_le _ _
theorem aJm{W wr w1:World}{v:Value}{B e n:Nat}{l:List Value}(hB:B<=wr.heap.size)
 (aU:wr.ownsRow B e 1 v n l) (aG:Below B W wr) (o:Obj) (bU:(wr.alloc o).grownBy w1 v.ownBlock):Below B W w1:=by
 refine(aG.alloc hB o).grown bU (by simp;omega) ?_;intro k hk;exact(aU.lt k hk).1
theorem Mj(o name:ByteArray)(v:Value)(ps:List Zp)(w:World)(h:gG w v ps)(hl:ps.length<=1048576)(hf:∀ p∈ps,p.1.own.size<=1048576)(hn:name.size<=maxLen):
 Calls Tryz.prog 91 #[.agg #[.string o,v],.string name] w fun e w'=>∃ u,e=.returned u∧w'.ownsRow w.heap.size 2 1 u (rO (ps.map (·.1)) name).length (intCells (rO (ps.map (·.1)) name))∧Below w.heap.size w w':=by
 obtain⟨va,vc,rfl⟩:=mX h;obtain⟨i0,hi,iQ,iH,iI⟩:=info_parts Rz;have b0:=(aJ w.heap.size w).alloc (aI _) (.cells #[.string o,.slice va ps.length vc] 25);have k0:=aK w #[.string o,.slice va ps.length vc] 25;have HSm:=Nm.aD (fun(x:ByteArray) (hx:x.size<=1048576) W=>gM x name W (by unfold maxLen;omega) hn);have HZ:=Nm.aD (fun W (hW:Below w.heap.size w W)=>h.below hW);have HF:=Nm.aD hf;have HG:Hid (∀ W,Below w.heap.size w W->w.heap.size<=W.heap.size):=fun W hW=>hW.size
 have o0:=World.ownsRow_made (base:=w.heap.size) (e:=2) (size:=1) (w.alloc (.cells #[.string o,.slice va ps.length vc] 25)) #[] 0 b0.size (by decide) rfl;rw [jO] at o0;have b1:=b0.alloc b0.size (.cells #[] 2);have k1:=bD k0 (.cells #[] 2);obtain⟨R,hR⟩:∃ R,R=rO (ps.map (·.1)) name:=⟨_,rfl⟩;rw [<- hR];have HR:=Nm.aD hR;clear h hf hR b0 k0;go_enter Tryz.func91,Tryz.ntmps91;go_wp2;generalize AQ:w.heap.size=g at*;have WT:=Nm.aD AQ;clear AQ
 go_loopw [5,6] (fun v i wr=>∃ (j m:Nat) (l:List Int),j<=ps.length∧i=.int .i64 j∧m<=j∧Hid (l.length=m)∧Hid (l=rO ((ps.take j).map (·.1)) name)∧wr.ownsRow g 2 1 v m (intCells l)∧Below g w wr∧bW wr g #[.string o,.slice va ps.length vc] 25) (fun _ i _=>ps.length-(intOf i).toNat)
 ·exact⟨0,0,[],dR _,rfl,aI _,rfl,rfl,o0,b1,k1⟩
 clear b1 k1 o0;obtain⟨j,m,l,hj,rfl,hm,HL,HT,aU,hb,kz⟩:=hrel;have rz:=aA kz
 have Mv:=HG.out _ hb;obtain⟨oa,oc,rfl⟩:=aT aU
 by_cases bY:j<ps.length
 ·obtain⟨q,hq⟩:=gQ bY;obtain⟨⟨_,a9,c9,e9,_,_,CR⟩,NV⟩:=HZ.out _ hb;simp only [gK] at e9;obtain⟨rfl,_,rfl⟩:=e9;obtain⟨b,off,rfl,aH⟩:=CR (by omega);obtain⟨d0,d1,d2,d3⟩:=iE aH hq;have xK:=HSm.out q.1.own (HF.out q (dA hq)) wr;have n1:=fE j
  have n2:(j:Int)<(ps.length:Int):=by omega
  have RJ:Hid (rO ((ps.take (j+1)).map (·.1)) name=l++(if eQ q.1.own name=true then [q.1.ty] else [])):=by show _=_;rw [aCp hq,HT.out]
  clear CR NV aH hq d2 d3;obtain⟨⟨x,ty,tt,ds⟩,u⟩:=q;simp only at d0 d1 xK RJ
  cases rW:eQ x name with
  |true=>
   rw [rW] at xK RJ;simp only [if_true] at RJ;have HCC:Hid (intCells l++[.int .i64 ty]=intCells (l++[ty])):=by show _=_;simp [intCells]
   have HL2:Hid ((l++[ty]).length=m+1):=by show _=_;rw [oJ,HL.out];rfl
   clear rW HT;go_wp2_with fail
   refine xK.mono ?_;rintro e w1 ⟨rfl,b1⟩;have FY:=aB kz b1;have rz1:=aA FY
   have up:=fun {O:Nat} {z:Value} (hz:wr.cell? ⟨b,O,none⟩=some z)=>(b1.cell (fD wr _ hz)).trans hz
   have f1:=up d1;have uH:=own_below aU b1;have gP:=hb.trans (b1.mono Mv);have aGu:=HG.out _ gP;clear up d0 d1 rz kz hb aU xK b1;go_wp2_with (at_builtin;refine wpList_append_own _ rfl (.tmp 23) (.tmp 30) 36 rfl g 2 i0 (.int .i64 0) 1 8 Tryz.underlying36 hi iQ iH iI rfl (by decide) _ _ _ rfl (uH.alloc _) ⟨w1.heap.size,0,none⟩ 1 1 [.int .i64 ty] rfl rfl (lZ _ _ _) (Nm.one_cell _ rfl) (by unfold maxLen;omega) (by omega) (by simp;omega) ?_)
   intro v' w6 oC bU _;rw [HCC.out] at oC;have hb6:=aJm aGu uH gP _ bU;have kz6:=aO (bD FY _) bU (dD uH FY (by decide));clear bU uH FY rz1 gP;go_wp2;go_roundw
   ·exact⟨j+1,m+1,_,bY,by go_num,by omega,HL2,RJ.out.symm,oC,hb6,kz6⟩
   simp [intOf];omega
  |false=>
   rw [rW] at xK RJ;have HT2:Hid (l=rO ((ps.take (j+1)).map (·.1)) name):=by show _=_;rw [RJ.out];simp
   clear rW HT RJ;go_wp2_with (go_at_call 13;refine xK.mono ?_;rintro e w1 ⟨rfl,b1⟩)
   go_roundw
   ·exact⟨j+1,m,l,bY,by go_num,by omega,HL,HT2,own_below aU b1,hb.trans (b1.mono Mv),aB kz b1⟩
   simp [intOf];omega
 obtain rfl:j=ps.length:=by omega
 have HE:Hid (l=R):=by show _=_;rw [HR.out,HT.out,List.take_length]
 go_wp2;go_ret;rw [WT.out];refine⟨_,rfl,?_,hb⟩;rw [<- HE.out,HL.out];exact aU
theorem Cz(s t:Sz)(v u:Value)(w:World)(h:Nm.bP w v s.da)(h':Nm.bP w u t.da):
 Calls Tryz.prog 88 #[.agg #[.string s.own,.int .i64 s.ty,.int .i64 s.tt,v],.agg #[.string t.own,.int .i64 t.ty,.int .i64 t.tt,u]] w fun e w'=>e=.returned (.bool (Ci s t))∧Below w.heap.size w w':=by
 have b1:=(aJ w.heap.size w).alloc (aI _) (.cells #[.string s.own,.int .i64 s.ty,.int .i64 s.tt,v] 42);have hB:=b1.alloc (by simp) (.cells #[.string t.own,.int .i64 t.ty,.int .i64 t.tt,u] 42);have k1:=bD (aK w #[.string s.own,.int .i64 s.ty,.int .i64 s.tt,v] 42) (.cells #[.string t.own,.int .i64 t.ty,.int .i64 t.tt,u] 42);have k2:=aK (w.alloc (.cells #[.string s.own,.int .i64 s.ty,.int .i64 s.tt,v] 42)) #[.string t.own,.int .i64 t.ty,.int .i64 t.tt,u] 42;rw [jO] at k2;obtain⟨a,cap,rfl,gT,kV,_,hc⟩:=h;obtain⟨a',cap',rfl,UY,PM,_,AX⟩:=h';obtain⟨so,st,stt,sd⟩:=s;obtain⟨to_,tt,ttt,td⟩:=t;unfold maxLen at kV PM;simp only [Ci] at*;clear b1
 by_cases h1:so=to_
 ·subst h1;have e1:(so.toList==so.toList)=true:=by simp
  by_cases h2:st=tt
  ·subst h2;have e2:(st != st)=false:=by simp
   by_cases h3:stt=ttt
   ·subst h3;have e3:(stt != stt)=false:=by simp
    by_cases hl:sd.length=td.length
    ·have nl:((sd.length:Int) != (td.length:Int))=false:=by rw [hl];simp
     have HL:=Nm.aD hl;clear hl;go_enter Tryz.func88,Tryz.ntmps88;go_wp2
     go_loopw [5] (fun i wr=>∃ k:Nat,k<=sd.length∧i=.int .i64 k∧sd.take k=td.take k∧Below w.heap.size w wr∧bW wr w.heap.size #[.string so,.int .i64 st,.int .i64 stt,.slice a sd.length cap] 42∧bW wr (w.heap.size+1) #[.string so,.int .i64 st,.int .i64 stt,.slice a' td.length cap'] 42) (fun i _=>sd.length-(intOf i).toNat)
     ·exact⟨0,dR _,rfl,rfl,hB,k1,k2⟩
     obtain⟨k,hk,rfl,heq,aG,q1,q2⟩:=hrel;have HR:=Nm.aD (aV heq (aV aG (aV q1 q2)));have r1:=(aA q1 3).trans rfl;have r2:=(aA q2 3).trans rfl
     by_cases bY:k<sd.length
     ·obtain⟨x,hx⟩:=gQ bY;obtain⟨y,hy⟩:∃ y,td[k]? =some y:=⟨_,gF (by have:=HL.out;omega)⟩;obtain⟨b,off,rfl,aH⟩:=hc (List.ne_nil_of_mem (dA hx));obtain⟨b',off',rfl,nR⟩:=AX (List.ne_nil_of_mem (dA hy));have c1:=aH k x hx;have c2:=nR k y hy;have d1:=(aG.cell (fD w _ c1)).trans c1;have d2:=(aG.cell (fD w _ c2)).trans c2;have i1:=fE k
      have i2:(k:Int)<(sd.length:Int):=by omega
      have i3:(k:Int)<(td.length:Int):=by have:=HL.out;omega
      have HX:=Nm.aD (aV hx hy);clear hc AX aH nR c1 c2 hx hy heq aG k1 k2 q1 q2
      by_cases XD:x=y
      ·subst XD;have e9:(x.toList==x.toList)=true:=by simp
       go_wp2;go_quiet (fail)
       go_wp2;go_roundw
       case rel=>
        obtain⟨LJ,ex⟩:=dL HX.out.1;obtain⟨hk2,ey⟩:=dL HX.out.2;exact⟨k+1,by omega,by go_num,by rw [List.take_succ_eq_append_getElem LJ,List.take_succ_eq_append_getElem hk2,ex,ey,HR.out.1],Go.below_drewN HR.out.2.1 _,aB HR.out.2.2.1 (Go.below_drewN (aJ _ _) _),aB HR.out.2.2.2 (Go.below_drewN (aJ _ _) _)⟩
       simp [intOf];omega
      have e9:=KZ XD;have HXY:=Nm.aD XD;clear XD;go_wp2;go_quiet (fail)
      go_wp2;go_ret;refine⟨?_,Go.below_drewN HR.out.2.1 _⟩
      have dM:sd≠td:=fun e=>HXY.out (by
       have h1:=HX.out.1;rw [e,HX.out.2] at h1
       exact(jI h1).symm)
      simp [dM]
     have FE:k=sd.length:=by omega
     subst FE;clear hc AX heq aG k1 k2 q1 q2;go_wp2;go_ret;have h1:=HR.out.1;rw [List.take_length,HL.out,List.take_length] at h1;exact⟨by simp [h1],HR.out.2.1⟩
    have nl:((sd.length:Int) != (td.length:Int))=true:=by rw [bne_iff_ne];omega
    have HL:=Nm.aD hl;clear hl hc AX k1 k2;go_enter Tryz.func88,Tryz.ntmps88;go_wp2;go_ret;have dM:sd≠td:=fun e=>HL.out (by rw [e])
    exact⟨by simp [dM],hB⟩
   have e3:(stt != ttt)=true:=by simpa using h3
   clear hc AX k1 k2;go_enter Tryz.func88,Tryz.ntmps88;go_wp2;go_ret;exact⟨by simp [h3],hB⟩
  have e2:(st != tt)=true:=by simpa using h2
  clear hc AX k1 k2;go_enter Tryz.func88,Tryz.ntmps88;go_wp2;go_ret;exact⟨by simp [h2],hB⟩
 have e1:=KZ h1;clear hc AX k1 k2;go_enter Tryz.func88,Tryz.ntmps88;go_wp2;go_ret;exact⟨by simp [h1],hB⟩
theorem WW(o:ByteArray)(v u:Value)(qs rs:List Zp)(w:World)(h:gG w v qs)(h':gG w u rs):
 Calls Tryz.prog 43 #[.agg #[.string o,v],.agg #[.string o,u]] w fun e w'=>e=.returned (.bool (FP (qs.map (·.1)) (rs.map (·.1))))∧Below w.heap.size w w':=by
 have b1:=(aJ w.heap.size w).alloc (aI _) (.cells #[.string o,v] 25);have hB:=b1.alloc (by simp) (.cells #[.string o,u] 25);have k1:=bD (aK w #[.string o,v] 25) (.cells #[.string o,u] 25);have k2:=aK (w.alloc (.cells #[.string o,v] 25)) #[.string o,u] 25;rw [jO] at k2;obtain⟨⟨_,a,cap,rfl,gT,kV,hc⟩,hd⟩:=h;obtain⟨⟨_,a',cap',rfl,UY,PM,AX⟩,Eb⟩:=h';unfold maxLen at kV PM;have e1:(o.toList==o.toList)=true:=by simp
 clear b1
 by_cases hl:qs.length=rs.length
 ·have nl:((qs.length:Int) != (rs.length:Int))=false:=by rw [hl];simp
  have HL:=Nm.aD hl;clear hl;go_enter Tryz.func43,Tryz.ntmps43;go_wp2
  go_loopw [5] (fun i wr=>∃ k:Nat,k<=qs.length∧i=.int .i64 k∧(∀ (j:Nat) (q r:Zp),j<k->qs[j]? =some q->rs[j]? =some r->q.1=r.1)∧Below w.heap.size w wr∧bW wr w.heap.size #[.string o,.slice a qs.length cap] 25∧bW wr (w.heap.size+1) #[.string o,.slice a' rs.length cap'] 25) (fun i _=>qs.length-(intOf i).toNat)
  ·exact⟨0,dR _,rfl,fun j _ _ hj=>absurd hj (Nat.not_lt_zero _),hB,k1,k2⟩
  obtain⟨k,hk,rfl,heq,aG,q1,q2⟩:=hrel;have HR:=Nm.aD (aV heq (aV aG (aV q1 q2)));have r1:=(aA q1 1).trans rfl;have r2:=(aA q2 1).trans rfl
  by_cases bY:k<qs.length
  ·obtain⟨q,hq⟩:=gQ bY;obtain⟨r,hr⟩:∃ r,rs[k]? =some r:=⟨_,gF (by have:=HL.out;omega)⟩;obtain⟨b,off,rfl,aH⟩:=hc (by omega);obtain⟨b',off',rfl,nR⟩:=AX (by have:=HL.out;omega);obtain⟨c0,c1,c2,c3⟩:=iE aH hq;obtain⟨d0,d1,d2,d3⟩:=iE nR hr;have hdq:=hd q (dA hq);have hdr:=Eb r (dA hr);obtain⟨qa,qc,eq,_⟩:=hdq;obtain⟨ra,rc,er,_⟩:=hdr;rw [eq] at c3;rw [er] at d3
   have kS:Hid (∀ X,Below wr.heap.size wr X->X.cell? ⟨w.heap.size,1,none⟩=some (.slice (some ⟨b,off,none⟩) qs.length cap)∧X.cell? ⟨w.heap.size+1,1,none⟩=some (.slice (some ⟨b',off',none⟩) rs.length cap')∧X.cell? ⟨b,off+k*4,none⟩=some (.string q.1.own)∧X.cell? ⟨b,off+k*4+1,none⟩=some (.int .i64 q.1.ty)∧X.cell? ⟨b,off+k*4+2,none⟩=some (.int .i64 q.1.tt)∧X.cell? ⟨b,off+k*4+3,none⟩=some (.slice qa q.1.da.length qc)∧X.cell? ⟨b',off'+k*4,none⟩=some (.string r.1.own)∧X.cell? ⟨b',off'+k*4+1,none⟩=some (.int .i64 r.1.ty)∧X.cell? ⟨b',off'+k*4+2,none⟩=some (.int .i64 r.1.tt)∧X.cell? ⟨b',off'+k*4+3,none⟩=some (.slice ra r.1.da.length rc)):=by
    intro X hX;have hwX:=Nm.aC aG hX;have put:∀ {p:Addr} {z:Value},w.cell? p=some z->X.cell? p=some z:=fun h=>(hwX.cell (fD w _ h)).trans h
    exact⟨(aA (aB q1 hX) 1).trans rfl,(aA (aB q2 hX) 1).trans rfl,put c0,put c1,put c2,put c3,put d0,put d1,put d2,put d3⟩
   have XE:=fun W (hW:Below w.heap.size w W)=>Cz q.1 r.1 q.2 r.2 W ((hd q (dA hq)).below hW) ((Eb r (dA hr)).below hW)
   rw [eq,er] at XE;have HX:=Nm.aD (aV hq (aV hr XE));have i1:=fE k
   have i2:(k:Int)<(qs.length:Int):=by omega
   have i3:(k:Int)<(rs.length:Int):=by have:=HL.out;omega
   clear hc AX aH nR hq hr heq c0 c1 c2 c3 d0 d1 d2 d3 hd Eb k1 k2 XE eq er q1 q2;go_wp2_with fail
   go_cut [38] from 27 to 38 (fun p wx=>p=.bool (!Ci q.1 r.1)∧Below wr.heap.size wr wx)
   case first=>
    refine kR (fun X=>X.cell? ⟨w.heap.size,1,none⟩=some (.slice (some ⟨b,off,none⟩) qs.length cap)∧X.cell? ⟨w.heap.size+1,1,none⟩=some (.slice (some ⟨b',off',none⟩) rs.length cap')∧X.cell? ⟨b,off+k*4,none⟩=some (.string q.1.own)∧X.cell? ⟨b,off+k*4+1,none⟩=some (.int .i64 q.1.ty)∧X.cell? ⟨b,off+k*4+2,none⟩=some (.int .i64 q.1.tt)∧X.cell? ⟨b,off+k*4+3,none⟩=some (.slice qa q.1.da.length qc)∧X.cell? ⟨b',off'+k*4,none⟩=some (.string r.1.own)∧X.cell? ⟨b',off'+k*4+1,none⟩=some (.int .i64 r.1.ty)∧X.cell? ⟨b',off'+k*4+2,none⟩=some (.int .i64 r.1.tt)∧X.cell? ⟨b',off'+k*4+3,none⟩=some (.slice ra r.1.da.length rc)) 1000 (kS.out _ (aJ _ wr).drew) fun aY=>?_;refine kB 0 rfl ?_;refine kB 1 rfl ?_;refine kB 2 rfl ?_;refine kB 3 rfl ?_;refine kB 4 rfl ?_;refine kB 5 rfl ?_;refine kB 6 rfl ?_;refine kB 7 rfl ?_;refine kB 8 rfl ?_;refine kB 9 rfl ?_;refine k1 10 rfl fun K hK=>?_
    go_simp;refine(HX.out.2.2 _ aG.drew).mono ?_;rintro e w2 ⟨rfl,b2⟩;have Wj:=Nm.aC (aJ _ wr).drew b2;go_wp2_with fail
    refine hK.out _ _ (kS.out _ Wj) fun aY=>?_;clear hK K;refine kB 11 rfl ?_;refine kN ?_;go_wp2_with fail
    go_meet;exact⟨rfl,Wj⟩
   obtain⟨rfl,b5⟩:=hcut
   cases hE:Ci q.1 r.1 with
   |true=>
    have HE:=Nm.aD hE;clear hE;go_wp2;go_roundw
    case rel=>
     refine⟨k+1,by omega,by go_num,fun j x y hj hx hy=>?_,Nm.aC HR.out.2.1 b5,aB HR.out.2.2.1 b5,aB HR.out.2.2.2 b5⟩
     rcases Nat.lt_succ_iff_lt_or_eq.1 hj with h1|rfl
     ·exact HR.out.1 j x y h1 hx hy
     rw [HX.out.1] at hx;rw [HX.out.2.1] at hy;cases hx
     cases hy
     exact QP.1 HE.out
    simp [intOf];omega
   |false=>
    have HE:=Nm.aD hE;clear hE;go_wp2;go_ret;rw [Uf (j:=k) (a:=q.1) (b:=r.1) (by simp [HX.out.1]) (by simp [HX.out.2.1]) HE.out];exact⟨rfl,Nm.aC HR.out.2.1 b5⟩
  have FE:k=qs.length:=by omega
  subst FE;clear hc AX heq aG hd Eb k1 k2 q1 q2;go_wp2;go_ret
  rw [Ue (by simp [HL.out]) (fun j x y hx hy=>by
   simp only [List.getElem?_map,Option.map_eq_some_iff] at hx hy;obtain⟨q,hq,rfl⟩:=hx;obtain⟨r,hr,rfl⟩:=hy
   exact HR.out.1 j q r (dL hq).1 hq hr)]
  exact⟨rfl,HR.out.2.1⟩
 have nl:((qs.length:Int) != (rs.length:Int))=true:=by rw [bne_iff_ne];omega
 have HL:=Nm.aD hl;clear hl hc AX hd Eb k1 k2;go_enter Tryz.func43,Tryz.ntmps43;go_wp2;go_ret;rw [Ug (by simpa using HL.out)];exact⟨rfl,hB⟩
def fsR(ps:List Zp)(o name:ByteArray)(t:Int):Option Sz:=if AO ps o=true then lS (ps.map (·.1)) name t else none
