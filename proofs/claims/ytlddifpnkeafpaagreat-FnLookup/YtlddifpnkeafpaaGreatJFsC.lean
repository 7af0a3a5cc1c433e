import Derived.Test.YtlddifpnkeafpaaGreatJTiN
import Derived.Test.YtlddifpnkeafpaaGreatDwC
set_option linter.unusedVariables false
set_option maxRecDepth 100000
set_option maxHeartbeats 6400000
namespace Go.Proofs.YtlddifpnkeafpaaGreat
open Go.RowKit
structure Csp (w0 w:World) (g:Nat) (x:ByteArray) (ty tt:Int) (v u:Value) (n:Nat) (xs:List ByteArray):Prop where
 ob:bW w (g+1+1) #[.string x,.int .i64 ty,.int .i64 tt,u] 42
 mb:bW w g #[.string x,.int .i64 ty,.int .i64 tt,v] 42
 zb:bW w (g+1) #[.string ⟨#[]⟩,.int .i64 0,.int .i64 0,.slice none 0 0] 42
 own:w.ownsRow g 9 1 u n (xs.map Value.string)
 be:Below g w0 w
theorem Csp.below{w0 w w':World}{g:Nat}{x:ByteArray}{ty tt:Int}{v u:Value}{n:Nat}{xs:List ByteArray}(c:Csp w0 w g x ty tt v u n xs)(hb:Below w.heap.size w w')(hg:g<=w.heap.size):Csp w0 w' g x ty tt v u n xs:=
 ⟨aB c.ob hb,aB c.mb hb,aB c.zb hb,own_below c.own hb,c.be.trans (hb.mono hg)⟩
theorem Csp.grow{w0 w w':World}{g:Nat}{x:ByteArray}{ty tt:Int}{v u:Value}{n:Nat}{xs:List ByteArray}(c:Csp w0 w g x ty tt v u n xs)(hg:w.grownBy w' u.ownBlock)(hw:g<=w.heap.size):
 bW w' (g+1+1) #[.string x,.int .i64 ty,.int .i64 tt,u] 42∧bW w' g #[.string x,.int .i64 ty,.int .i64 tt,v] 42∧bW w' (g+1) #[.string ⟨#[]⟩,.int .i64 0,.int .i64 0,.slice none 0 0] 42∧Below g w0 w':=
 ⟨aO c.ob hg (dD c.own c.ob (by decide)),aO c.mb hg (dD c.own c.mb (by decide)),aO c.zb hg (dD c.own c.zb (by decide)),c.be.grown hg hw (fun k hk=>(c.own.lt k hk).1)⟩
theorem JV(s:Sz)(v:Value)(w:World)(h:Nm.bP w v s.da)(hl:s.da.length<=100000000):
 Calls Tryz.prog 92 #[.agg #[.string s.own,.int .i64 s.ty,.int .i64 s.tt,v]] w fun e w'=>∃ u,e=.returned (.agg #[.string s.own,.int .i64 s.ty,.int .i64 s.tt,u])∧w'.ownsRow w.heap.size 9 1 u s.da.length (s.da.map Value.string)∧Below w.heap.size w w':=by
 obtain⟨j0,hj,k0,q1,k2⟩:=info_parts Tryz.wM;obtain⟨x,ty,tt,ds⟩:=s;simp only at h hl ⊢
 obtain⟨va,vc,rfl,-,-,-,-⟩:=id h;have iY:=(aJ w.heap.size w).alloc (aI _) (.cells #[.string x,.int .i64 ty,.int .i64 tt,.slice va ds.length vc] 42);have yY:=iY.alloc iY.size (.cells #[.string ⟨#[]⟩,.int .i64 0,.int .i64 0,.slice none 0 0] 42);have VN:=yY.alloc yY.size (.cells #[.string x,.int .i64 ty,.int .i64 tt,.slice none 0 0] 42);have kM0:=bD (aK w #[.string x,.int .i64 ty,.int .i64 tt,.slice va ds.length vc] 42) (.cells #[.string ⟨#[]⟩,.int .i64 0,.int .i64 0,.slice none 0 0] 42);have kM:=bD kM0 (.cells #[.string x,.int .i64 ty,.int .i64 tt,.slice none 0 0] 42);have kZ:=bD (aK (w.alloc (.cells #[.string x,.int .i64 ty,.int .i64 tt,.slice va ds.length vc] 42)) #[.string ⟨#[]⟩,.int .i64 0,.int .i64 0,.slice none 0 0] 42) (.cells #[.string x,.int .i64 ty,.int .i64 tt,.slice none 0 0] 42);have kO:=aK ((w.alloc (.cells #[.string x,.int .i64 ty,.int .i64 tt,.slice va ds.length vc] 42)).alloc (.cells #[.string ⟨#[]⟩,.int .i64 0,.int .i64 0,.slice none 0 0] 42)) #[.string x,.int .i64 ty,.int .i64 tt,.slice none 0 0] 42;rw [jO] at kZ;rw [jO,jO] at kO;have S3:Csp w _ w.heap.size x ty tt (.slice va ds.length vc) (.slice none 0 0) 0 []:=⟨kO,kM,kZ,World.ownsRow_nil _ _ _ _,VN⟩;have hd:=fun W (hW:Below w.heap.size w W)=>h.below hW
 have rr:=aA kM0
 clear h kM kZ kO iY yY VN;go_enter Tryz.func92,Tryz.ntmps92;go_wp2_with fail
 clear rr kM0;generalize AQ:w.heap.size=g at*;have WT:=Nm.aD AQ;clear AQ
 go_loopw [4] (fun i wr=>∃ (k:Nat) (qx:Option Addr) (qy:Nat),k<=ds.length∧i=.int .i64 k∧g<=wr.heap.size∧Csp w wr g x ty tt (.slice va ds.length vc) (.slice qx k qy) k (ds.take k)) (fun i _=>ds.length-(intOf i).toNat)
 ·exact⟨0,none,0,dR _,rfl,by have:=WT.out;simp;omega,S3⟩
 clear S3;obtain⟨k,qx,qy,hk,rfl,Mv,Sk⟩:=hrel;have ccM:=aA Sk.mb
 have ccO:=aA Sk.ob
 by_cases bY:k<ds.length
 ·obtain⟨y,hyk⟩:=gQ bY;obtain⟨a9,c9,e9,_,_,_,CR⟩:=hd wr Sk.be;simp only [gK] at e9;obtain⟨rfl,_,rfl⟩:=e9;obtain⟨b,off,rfl,aH⟩:=CR (by intro e;rw [e] at bY;simp at bY);have d0:=aH k y hyk;have n1:=fE k
  have n2:(k:Int)<(ds.length:Int):=by omega
  have e5:ds.take (k+1)=ds.take k++[y]:=by
   obtain⟨hi,e⟩:=dL hyk;rw [List.take_succ_eq_append_getElem hi,e]
  have HE5:=Nm.aD e5;have HYK:=Nm.aD hyk;clear e5 CR aH hyk;go_wp2;refine kR (fun W=>bW W (g+1+1) #[.string x,.int .i64 ty,.int .i64 tt,.slice qx k qy] 42∧bW W g #[.string x,.int .i64 ty,.int .i64 tt,.slice (some ⟨b,off,none⟩) ds.length vc] 42∧W.cell? ⟨b,off+k,none⟩=some (.string y)) 10 ⟨Sk.ob,Sk.mb,d0⟩ fun aY=>?_;refine NE (i:=0) (v:=?_) rfl ?_ ?_;rotate_left 1
  ·(rintro W ⟨s1,s2,s3⟩;have PL:=(aA s1);have LK:=(aA s2);go_simp;first|done|rfl)
  refine NE (i:=1) (v:=?_) rfl ?_ ?_;rotate_left 1
  ·(rintro W ⟨s1,s2,s3⟩;have PL:=(aA s1);have LK:=(aA s2);go_simp;first|done|rfl)
  refine NE (i:=2) (v:=?_) rfl ?_ ?_;rotate_left 1
  ·(rintro W ⟨s1,s2,s3⟩;have PL:=(aA s1);have LK:=(aA s2);go_simp;first|done|rfl)
  refine NE (i:=3) (v:=?_) rfl ?_ ?_;rotate_left 1
  ·(rintro W ⟨s1,s2,s3⟩;have PL:=(aA s1);have LK:=(aA s2);go_simp;first|done|rfl)
  refine NE (i:=4) (v:=?_) rfl ?_ ?_;rotate_left 1
  ·(rintro W ⟨s1,s2,s3⟩;have PL:=(aA s1);have LK:=(aA s2);go_simp;first|done|rfl)
  refine NE (i:=5) (v:=?_) rfl ?_ ?_;rotate_left 1
  ·(rintro W ⟨s1,s2,s3⟩;have PL:=(aA s1);have LK:=(aA s2);go_simp;first|done|rfl)
  refine NE (i:=6) (v:=?_) rfl ?_ ?_;rotate_left 1
  ·(rintro W ⟨s1,s2,s3⟩;have PL:=(aA s1);have LK:=(aA s2);go_simp;first|done|rfl)
  have hbA:=((aJ wr.heap.size wr).alloc (aI _) (.cells #[.string y] 9)).drew;have SA:=Sk.below hbA Mv;have e0:(wr.alloc (.cells #[.string y] 9)).drew.cell? ⟨b,off+k,none⟩=some (.string y):=(hbA.cell (fD wr _ d0)).trans d0;have hoA:=SA.own;refine k1 7 rfl fun K hK=>?_
  go_simp;refine hK.out _ _ ⟨SA.ob,SA.mb,e0⟩ fun hH2=>?_;clear hK K;refine k1 8 rfl fun K hK=>?_
  refine nD rfl (.tmp 20) (.tmp 26) 32 rfl g 9 j0 (.string ByteArray.empty) 1 16 Tryz.underlying32 hj k0 q1 k2 rfl (by decide) (.slice qx k qy) k ((ds.take k).map Value.string) (by rfl) hoA ⟨wr.heap.size,0,none⟩ 1 1 [.string y] (by rfl) rfl (eZ _ #[.string y] _) (by intro u hu;simp at hu;subst hu;rfl) (by unfold maxLen;omega) (by omega) (by simp;omega) ?_;intro va' wa tL mH BK;clear BK;obtain⟨xb,yb,hvb⟩:=aT tL;subst hvb;obtain⟨ob9,mb9,zb9,be9⟩:=SA.grow mH (by simp;omega);obtain⟨a8,c8,e8,_,_,_,hc8⟩:=hd wa be9;simp only [gK] at e8;obtain⟨rfl,_,rfl⟩:=e8;obtain⟨b8,off8,e7,aGp⟩:=hc8 (by intro e;rw [e] at bY;simp at bY);simp only [mV,Addr.mk.injEq,and_true] at e7;obtain⟨rfl,rfl⟩:=e7;have f0:=aGp k y HYK.out;refine hK.out _ _ ⟨ob9,mb9,f0⟩ fun hH3=>?_;clear hK K;refine NE (i:=9) (v:=?_) rfl ?_ ?_;rotate_left 1
  ·(rintro W ⟨s1,s2,s3⟩;have PL:=(aA s1);have LK:=(aA s2);go_simp;first|done|rfl)
  have g9:=aA ob9
  have h9:=aF ob9
  refine iB (by kernel_rfl) rfl (by kernel_rfl) fun K hK=>?_;go_simp;refine hK.out _ _ ?_;clear hK K
  have aGq:wa.ownsRow g 9 1 (.slice xb (k+1) yb) (k+1) ((ds.take (k+1)).map Value.string):=by
   rw [HE5.out,List.map_append];exact tL
  have S9:Csp w (wa.setCell ⟨g+1+1,3,none⟩ (.slice xb (k+1) yb)) g x ty tt (.slice (some ⟨b,off,none⟩) ds.length vc) (.slice xb (k+1) yb) (k+1) (ds.take (k+1)):=
   ⟨aM ob9 3 _,eU mb9 (by omega),eU zb9 (by omega),dY aGq (dD aGq ob9 (by decide)),be9.setCell (Nat.le_add_right g 2) _⟩
  have HS9:=Nm.aD S9;have HK9:Hid (k+1<=ds.length):=bY
  have HG9:Hid (g<=(wa.setCell ⟨g+1+1,3,none⟩ (.slice xb (k+1) yb)).heap.size):=by
   show _<=_
   have h1:=mH.size;simp at h1 ⊢;omega
  clear S9 aGq ob9 mb9 zb9 be9 SA Sk tL mH hoA e0 hbA f0 d0 g9 h9 hH3 hH2 aY ccM ccO aGp hc8;go_wp2;go_roundw
  ·exact⟨k+1,xb,yb,HK9.out,by go_num,HG9.out,HS9.out⟩
  simp [intOf];omega
 obtain rfl:k=ds.length:=by omega
 rw [List.take_length] at Sk;have cz:=aA Sk.zb
 have fz:=aF Sk.zb
 have k4:=aM (aM (aM (aM Sk.zb 0 (.string x)) 1 (.int .i64 ty)) 2 (.int .i64 tt)) 3 (.slice qx ds.length qy);simp only [List.setIfInBounds_toArray,List.set_cons_zero,List.set_cons_succ] at k4;have dM:=dD Sk.own Sk.zb (by decide);have BQ:=dY (y:=.slice qx ds.length qy) (i:=3) (g:=g+1) (dY (y:=.int .i64 tt) (i:=2) (g:=g+1) (dY (y:=.int .i64 ty) (i:=1) (g:=g+1) (dY (y:=.string x) (i:=0) (g:=g+1) Sk.own dM) dM) dM) dM;have EM:g<=g+1:=Nat.le_succ g;have nN:=(((Sk.be.setCell (p:=⟨g+1,0,none⟩) EM (.string x)).setCell (p:=⟨g+1,1,none⟩) EM (.int .i64 ty)).setCell (p:=⟨g+1,2,none⟩) EM (.int .i64 tt)).setCell (p:=⟨g+1,3,none⟩) EM (.slice qx ds.length qy);have rk:=aA k4
 clear hd k4 dM Sk;go_wp2_with fail
 refine eB (v:=.agg #[.string x,.int .i64 ty,.int .i64 tt,.slice qx ds.length qy]) ?_ rfl ⟨_,rfl,by rw [WT.out];exact BQ,by rw [WT.out];exact nN⟩;simp [results,Tryz.f92,go_sem,rk]
theorem aJl{ps:List Zp}{name:ByteArray}{t:Int}{j:Nat}{q:Zp}(hq:ps[j]? =some q)(hb:∀ i p,i<j->ps[i]? =some p->(decide (p.1.ty=t)&&eQ p.1.own name)=false)(h:(decide (q.1.ty=t)&&eQ q.1.own name)=true):lS (ps.map (·.1)) name t=some q.1:=by
 induction ps generalizing j with
 |nil=>simp at hq
 |cons p ps ih=>
  rw [lS,List.map_cons,List.find?_cons]
  cases j with
  |zero=>
   simp only [List.getElem?_cons_zero,mV] at hq;subst hq
   simp only [h]
  |succ j=>
   have h0:=hb 0 p (by omega) rfl;simp only [h0];exact ih (by simpa using hq) (fun i p' hi Gt=>hb (i+1) p' (by omega) (by simpa using Gt))
theorem aGr{ps:List Zp}{name:ByteArray}{t:Int}(hb:∀ i p,i<ps.length->ps[i]? =some p->(decide (p.1.ty=t)&&eQ p.1.own name)=false):lS (ps.map (·.1)) name t=none:=by
 rw [lS,List.find?_eq_none];intro z hz;obtain⟨p,hp,rfl⟩:=kJ hz;obtain⟨i,hi⟩:=List.getElem?_of_mem hp;rw [hb i p (dL hi).1 hi];simp
theorem Vg(o name:ByteArray)(t:Int)(v:Value)(ps:List Zp)(w:World)(h:gG w v ps)(hl:ps.length<=1048576)(hf:∀ p∈ps,p.1.own.size<=1048576∧p.1.da.length<=1048576)(hn:name.size<=maxLen):
 Calls Tryz.prog 45 #[.agg #[.string o,v],.string name,.int .i64 t] w (G9 (lS (ps.map (·.1)) name t) w):=by
 obtain⟨va,vc,rfl⟩:=mX h;have b0:=(aJ w.heap.size w).alloc (aI _) (.cells #[.string o,.slice va ps.length vc] 25);have b1:=b0.alloc b0.size (.cells #[.string ⟨#[]⟩,.int .i64 0,.int .i64 0,.slice none 0 0] 42);have k0:=bD (aK w #[.string o,.slice va ps.length vc] 25) (.cells #[.string ⟨#[]⟩,.int .i64 0,.int .i64 0,.slice none 0 0] 42);have kS:=aK (w.alloc (.cells #[.string o,.slice va ps.length vc] 25)) #[.string ⟨#[]⟩,.int .i64 0,.int .i64 0,.slice none 0 0] 42;rw [jO] at kS;have HZ:=Nm.aD (fun W (hW:Below w.heap.size w W)=>h.below hW);have HF:=Nm.aD hf;have HG:Hid (∀ W,Below w.heap.size w W->w.heap.size<=W.heap.size):=fun W hW=>hW.size
 clear h hf b0;go_enter Tryz.func45,Tryz.ntmps45;go_wp2_with fail
 generalize AQ:w.heap.size=g at*;have WT:=Nm.aD AQ;clear AQ
 go_loopw [8] (fun i wr=>∃ (j:Nat),j<=ps.length∧i=.int .i64 j∧Below g w wr∧bW wr g #[.string o,.slice va ps.length vc] 25∧bW wr (g+1) #[.string ⟨#[]⟩,.int .i64 0,.int .i64 0,.slice none 0 0] 42∧∀ i p,i<j->ps[i]? =some p->(decide (p.1.ty=t)&&eQ p.1.own name)=false) (fun i _=>ps.length-(intOf i).toNat)
 ·exact⟨0,dR _,rfl,b1,k0,kS,fun i p hi=>by omega⟩
 clear b1 k0 kS;obtain⟨j,hj,rfl,hb,kz,ks,gI⟩:=hrel;have EW:=Nm.aD gI;have Mv:=HG.out _ hb;have rz:=aA kz
 clear gI
 by_cases bY:j<ps.length
 ·obtain⟨q,hq⟩:=gQ bY;have hzr:=HZ.out _ hb;obtain⟨⟨_,a9,c9,e9,_,_,CR⟩,NV⟩:=hzr;simp only [gK] at e9;obtain⟨rfl,_,rfl⟩:=e9;obtain⟨b,off,rfl,aH⟩:=CR (by omega);obtain⟨d0,d1,d2,d3⟩:=iE aH hq;have hfq:=HF.out q (dA hq);have El:=NV q (dA hq);have n1:=fE j
  have n2:(j:Int)<(ps.length:Int):=by omega
  have xK:=gM q.1.own name wr (by unfold maxLen;omega) hn;have HQ:=Nm.aD hq;have HSR:=Nm.aD El;clear CR NV aH hq El;obtain⟨⟨x,ty,tt,ds⟩,u⟩:=q;simp only at d0 d1 d2 d3 xK hfq
  obtain⟨ua,uc,hu⟩:∃ ua uc,u=.slice ua ds.length uc:=by obtain⟨a,c,e,_⟩:=HSR.out;exact⟨a,c,e⟩
  subst hu
  by_cases tT:ty=t
  ·subst tT;have t1:(ty==ty)=true:=by simp
   cases rW:eQ x name with
   |true=>
    rw [rW] at xK;have HR:Hid (lS (ps.map (·.1)) name ty=some ⟨x,ty,tt,ds⟩):=aJl HQ.out EW.out (by simp [rW]);clear rW;go_wp2_with fail
    refine xK.mono ?_;rintro e w1 ⟨rfl,b1⟩;have FY:=aB kz b1;have O7:=aB ks b1;have gP:=hb.trans (b1.mono Mv);have rz1:=aA FY
    have up:=fun {O:Nat} {z:Value} (hz:wr.cell? ⟨b,O,none⟩=some z)=>(b1.cell (fD wr _ hz)).trans hz
    have f0:=up d0;have f1:=up d1;have f2:=up d2;have f3:=up d3;have RN:=JV ⟨x,ty,tt,ds⟩ (.slice ua ds.length uc) w1 (HSR.out.below b1) (by have:=hfq.2;simp only;omega);simp only at RN
    clear rz d0 d1 d2 d3 xK up kz;go_wp2_with fail
    refine RN.mono ?_;rintro e w2 ⟨u2,rfl,ho2,b2⟩;obtain⟨xa,xc,rfl⟩:=aT ho2;have ks2:=aB O7 b2;have cz:=aA ks2
    have fz:=aF ks2
    have mD:=HG.out _ gP;have kH:=gP.trans (b2.mono mD);rw [<- WT.out] at kH;obtain⟨k4,BQ,nN⟩:=pY (x:=x) (ty:=ty) (tt:=tt) ks2 ho2 (fun e=>by have h1:=(ho2.lt _ e).1;have h2:=cO O7;omega) kH (by rw [WT.out];exact Nat.le_succ _);have rk:=aA k4
    have HP0:G9 (some ⟨x,ty,tt,ds⟩) w (.returned (.tuple #[.agg #[.string x,.int .i64 ty,.int .i64 tt,.slice xa ds.length xc],.bool true])) _:=⟨_,rfl,fM BQ (by rw [WT.out];exact mD),nN⟩;rw [<- HR.out] at HP0;have HP:=Nm.aD HP0;clear HP0;clear ks O7 ks2 FY rz1 RN k4 BQ nN ho2 f0 f1 f2 f3;go_wp2_with fail
    refine eB (v:=.tuple #[.agg #[.string x,.int .i64 ty,.int .i64 tt,.slice xa ds.length xc],.bool true]) ?_ rfl HP.out
    simp [results,Tryz.f45,go_sem,rk]
   |false=>
    rw [rW] at xK
    have HN:Hid (∀ i p,i<j+1->ps[i]? =some p->(decide (p.1.ty=ty)&&eQ p.1.own name)=false):=fun i p hi hp=>by
     rcases Nat.lt_or_ge i j with h1|h1
     ·exact EW.out i p h1 hp
     obtain rfl:i=j:=by omega
     rw [HQ.out] at hp;obtain rfl:=jI hp;simp [rW]
    clear rW;go_wp2_with (go_at_call 13;refine xK.mono ?_;rintro e w1 ⟨rfl,b1⟩)
    go_roundw
    ·exact⟨j+1,bY,by go_num,hb.trans (b1.mono Mv),aB kz b1,aB ks b1,HN.out⟩
    simp [intOf];omega
  have t1:(ty==t)=false:=by simp [tT]
  have HN:Hid (∀ i p,i<j+1->ps[i]? =some p->(decide (p.1.ty=t)&&eQ p.1.own name)=false):=fun i p hi hp=>by
   rcases Nat.lt_or_ge i j with h1|h1
   ·exact EW.out i p h1 hp
   obtain rfl:i=j:=by omega
   rw [HQ.out] at hp;obtain rfl:=jI hp;simp [tT]
  clear tT xK;go_wp2;go_roundw
  ·exact⟨j+1,bY,by go_num,hb,kz,ks,HN.out⟩
  simp [intOf];omega
 obtain rfl:j=ps.length:=by omega
 have HR:Hid (lS (ps.map (·.1)) name t=none):=aGr EW.out;have cz:=aA ks
 have fz:=aF ks
 rw [<- WT.out] at hb;obtain⟨k4,-,nN⟩:=pY (x:=⟨#[]⟩) (ty:=0) (tt:=0) ks (World.ownsRow_nil wr 0 9 1) (by simp [Value.ownBlock]) hb (by rw [WT.out];exact Nat.le_succ _);have rk:=aA k4
 have HP0:=JI nN;rw [<- HR.out] at HP0;have HP:=Nm.aD HP0;clear HP0;clear ks k4 nN;go_wp2_with fail
 refine eB (v:=.tuple #[.agg #[.string ⟨#[]⟩,.int .i64 0,.int .i64 0,.slice none 0 0],.bool false]) ?_ rfl HP.out;simp [results,Tryz.f45,go_sem,rk]
theorem aMh{a b:ByteArray}(h:a≠b):(a.toList != b.toList)=true:=by
 rw [bne_iff_ne,ByteArray.toList_eq,ByteArray.toList_eq];exact fun e=>h (Nm.lL e)
theorem KZ{a b:ByteArray}(h:a≠b):(a.toList==b.toList)=false:=by
 have:=aMh h;rw [bne] at this;simpa using this
theorem Mi(v u:Value)(xs ys:List ByteArray)(w:World)(h:Nm.bP w v xs)(h':Nm.bP w u ys):
 Calls Tryz.prog 110 #[v,u] w fun e w'=>e=.returned (.bool (decide (xs=ys)))∧Below w.heap.size w w':=by
 obtain⟨a,cap,rfl,gT,kV,_,hc⟩:=h;obtain⟨a',cap',rfl,UY,PM,_,AX⟩:=h';unfold maxLen at kV PM
 by_cases hl:xs.length=ys.length
 ·have nl:((xs.length:Int) != (ys.length:Int))=false:=by rw [hl];simp
  have HL:=Nm.aD hl;clear hl;go_enter Tryz.func110,Tryz.ntmps110;go_wp2
  go_loopw [13] (fun i wr=>∃ k:Nat,k<=xs.length∧i=.int .i64 k∧xs.take k=ys.take k∧Below w.heap.size w wr) (fun i _=>xs.length-(intOf i).toNat)
  ·exact⟨0,dR _,rfl,rfl,aJ _ _⟩
  obtain⟨k,hk,rfl,heq,aG⟩:=hrel;have HR:=Nm.aD (aV heq aG)
  by_cases bY:k<xs.length
  ·obtain⟨x,hx⟩:=gQ bY;obtain⟨y,hy⟩:∃ y,ys[k]? =some y:=⟨_,gF (by have:=HL.out;omega)⟩;obtain⟨b,off,rfl,aH⟩:=hc (List.ne_nil_of_mem (dA hx));obtain⟨b',off',rfl,nR⟩:=AX (List.ne_nil_of_mem (dA hy));have c1:=aH k x hx;have c2:=nR k y hy;have d1:=(aG.cell (fD w _ c1)).trans c1;have d2:=(aG.cell (fD w _ c2)).trans c2;have i1:=fE k
   have i2:(k:Int)<(xs.length:Int):=by omega
   have i3:(k:Int)<(ys.length:Int):=by have:=HL.out;omega
   have HX:=Nm.aD (aV hx hy);clear hc AX aH nR c1 c2 hx hy heq aG
   by_cases XD:x=y
   ·subst XD;have e1:(x.toList != x.toList)=false:=by simp
    go_wp2;go_quiet (fail)
    go_wp2;go_roundw
    case rel=>
     obtain⟨LJ,ex⟩:=dL HX.out.1;obtain⟨hk2,ey⟩:=dL HX.out.2;refine⟨k+1,by omega,by go_num,by rw [List.take_succ_eq_append_getElem LJ,List.take_succ_eq_append_getElem hk2,ex,ey,HR.out.1],Go.below_drewN HR.out.2 _⟩
    simp [intOf];omega
   have e1:=KZ XD;have HXY:=Nm.aD XD;clear XD;go_wp2;go_quiet (fail)
   go_wp2;go_ret;refine⟨?_,Go.below_drewN HR.out.2 _⟩
   rw [oF (fun e=>HXY.out (by
    have h1:=HX.out.1;rw [e,HX.out.2] at h1
    exact(jI h1).symm))]
   rfl
  have FE:k=xs.length:=by omega
  subst FE;clear hc AX heq aG;go_wp2;go_ret;have h1:=HR.out.1;rw [List.take_length,HL.out,List.take_length] at h1;rw [oI h1];exact⟨rfl,HR.out.2⟩
 have nl:((xs.length:Int) != (ys.length:Int))=true:=by rw [bne_iff_ne];omega
 have HL:=Nm.aD hl;clear hl hc AX;go_enter Tryz.func110,Tryz.ntmps110;go_wp2;go_ret;rw [oF (fun e=>HL.out (by rw [e]))];exact⟨rfl,aJ _ _⟩
theorem Vh(s t:Sz)(v u:Value)(w:World)(h:Nm.bP w v s.da)(h':Nm.bP w u t.da):
 Calls Tryz.prog 66 #[.agg #[.string s.own,.int .i64 s.ty,.int .i64 s.tt,v],.agg #[.string t.own,.int .i64 t.ty,.int .i64 t.tt,u]] w fun e w'=>e=.returned (.bool (Ci s t))∧Below w.heap.size w w':=by
 have hB:=((aJ w.heap.size w).alloc (aI _) (.cells #[.string s.own,.int .i64 s.ty,.int .i64 s.tt,v] 42)).alloc (by simp) (.cells #[.string t.own,.int .i64 t.ty,.int .i64 t.tt,u] 42);have he:=Mi v u s.da t.da _ (h.below hB) (h'.below hB);obtain⟨a,cap,rfl,_⟩:=h;obtain⟨a',cap',rfl,_⟩:=h';obtain⟨so,st,stt,sd⟩:=s;obtain⟨to_,tt,ttt,td⟩:=t;simp only [Ci] at*;generalize decide (sd=td)=DD at*
 by_cases h1:so=to_
 ·subst h1;have e1:(so.toList==so.toList)=true:=by simp
  by_cases h2:st=tt
  ·subst h2;have e2:(st==st)=true:=by simp
   by_cases h3:stt=ttt
   ·subst h3;have e3:(stt==stt)=true:=by simp
    go_enter Tryz.func66,Tryz.ntmps66;go_wp2_with (go_at_call 110;refine he.mono ?_;rintro e w1 ⟨rfl,b1⟩)
    go_ret;exact⟨by simp,Nm.aC hB b1⟩
   have e3:(stt==ttt)=false:=by simpa using h3
   clear he;go_enter Tryz.func66,Tryz.ntmps66;go_wp2;go_ret;exact⟨by simp [h3],hB⟩
  have e2:(st==tt)=false:=by simpa using h2
  clear he;go_enter Tryz.func66,Tryz.ntmps66;go_wp2;go_ret;exact⟨by simp [h2],hB⟩
 have e1:=KZ h1;clear he;go_enter Tryz.func66,Tryz.ntmps66;go_wp2;go_ret;exact⟨by simp [h1],hB⟩
theorem Fw(v u:Value)(qs rs:List Zp)(w:World)(h:gG w v qs)(h':gG w u rs):
 Calls Tryz.prog 64 #[v,u,.func (.func 66) #[] #[]] w fun e w'=>e=.returned (.bool (FP (qs.map (·.1)) (rs.map (·.1))))∧Below w.heap.size w w':=by
 obtain⟨⟨_,a,cap,rfl,gT,kV,hc⟩,hd⟩:=h;obtain⟨⟨_,a',cap',rfl,UY,PM,AX⟩,Eb⟩:=h';unfold maxLen at kV PM
 by_cases hl:qs.length=rs.length
 ·have nl:((qs.length:Int) != (rs.length:Int))=false:=by rw [hl];simp
  have HL:=Nm.aD hl;clear hl;go_enter Tryz.func64,Tryz.ntmps64;go_wp2
  go_loopw [17] (fun i wr=>∃ k:Nat,k<=qs.length∧i=.int .i64 k∧(∀ (j:Nat) (q r:Zp),j<k->qs[j]? =some q->rs[j]? =some r->q.1=r.1)∧Below w.heap.size w wr) (fun i _=>qs.length-(intOf i).toNat)
  ·exact⟨0,dR _,rfl,fun j _ _ hj=>absurd hj (Nat.not_lt_zero _),aJ _ _⟩
  obtain⟨k,hk,rfl,heq,aG⟩:=hrel;have HR:=Nm.aD (aV heq aG)
  by_cases bY:k<qs.length
  ·obtain⟨q,hq⟩:=gQ bY;obtain⟨r,hr⟩:∃ r,rs[k]? =some r:=⟨_,gF (by have:=HL.out;omega)⟩;obtain⟨b,off,rfl,aH⟩:=hc (by omega);obtain⟨b',off',rfl,nR⟩:=AX (by have:=HL.out;omega);have put:∀ {p:Addr} {z:Value},w.cell? p=some z->wr.cell? p=some z:=fun h=>(aG.cell (fD w _ h)).trans h
   obtain⟨c0,c1,c2,c3⟩:=iE aH hq;obtain⟨d0,d1,d2,d3⟩:=iE nR hr;have C0:=put c0;have C1:=put c1;have C2:=put c2;have C3:=put c3;have B1:=(aJ wr.heap.size wr).alloc (aI _) (.cells #[.string q.1.own,.int .i64 q.1.ty,.int .i64 q.1.tt,q.2] 42);have D0:=(B1.cell (p:=⟨b',off'+k*4,none⟩) (fD wr _ (put d0))).trans (put d0);have D1:=(B1.cell (p:=⟨b',off'+k*4+1,none⟩) (fD wr _ (put d1))).trans (put d1);have D2:=(B1.cell (p:=⟨b',off'+k*4+2,none⟩) (fD wr _ (put d2))).trans (put d2);have D3:=(B1.cell (p:=⟨b',off'+k*4+3,none⟩) (fD wr _ (put d3))).trans (put d3);have B2:=B1.alloc B1.size (.cells #[.string r.1.own,.int .i64 r.1.ty,.int .i64 r.1.tt,r.2] 42);have XE:=Vh q.1 r.1 q.2 r.2 _ (((hd q (dA hq)).below aG).below B2) (((Eb r (dA hr)).below aG).below B2);obtain⟨qa,qc,eq,_⟩:=hd q (dA hq);obtain⟨ra,rc,er,_⟩:=Eb r (dA hr);have HX:=Nm.aD (aV hq hr);have i1:=fE k
   have i2:(k:Int)<(qs.length:Int):=by omega
   have i3:(k:Int)<(rs.length:Int):=by have:=HL.out;omega
   have B2':=Nm.aC aG B2;rw [eq] at C3 XE D0 D1 D2 D3 B2';rw [er] at D3 XE B2';clear hc AX aH nR hq hr heq aG put c0 c1 c2 c3 d0 d1 d2 d3 hd Eb B1 B2
   cases hE:Ci q.1 r.1 with
   |true=>
    rw [hE] at XE;have HE:=Nm.aD hE;clear hE;go_wp2_with (go_at_call 66;refine XE.mono ?_;rintro e w2 ⟨rfl,b2⟩)
    go_roundw
    case rel=>
     refine⟨k+1,by omega,by go_num,fun j x y hj hx hy=>?_,Nm.aC B2' b2⟩
     rcases Nat.lt_succ_iff_lt_or_eq.1 hj with h1|rfl
     ·exact HR.out.1 j x y h1 hx hy
     rw [HX.out.1] at hx;rw [HX.out.2] at hy;cases hx
     cases hy
     exact QP.1 HE.out
    simp [intOf];omega
   |false=>
    rw [hE] at XE;have HE:=Nm.aD hE;clear hE;go_wp2_with (go_at_call 66;refine XE.mono ?_;rintro e w2 ⟨rfl,b2⟩)
    go_ret;rw [Uf (j:=k) (a:=q.1) (b:=r.1) (by simp [HX.out.1]) (by simp [HX.out.2]) HE.out];exact⟨rfl,Nm.aC B2' b2⟩
  have FE:k=qs.length:=by omega
  subst FE;clear hc AX heq aG hd Eb;go_wp2;go_ret
  rw [Ue (by simp [HL.out]) (fun j x y hx hy=>by
   simp only [List.getElem?_map,Option.map_eq_some_iff] at hx hy;obtain⟨q,hq,rfl⟩:=hx;obtain⟨r,hr,rfl⟩:=hy
   exact HR.out.1 j q r (dL hq).1 hq hr)]
  exact⟨rfl,HR.out.2⟩
 have nl:((qs.length:Int) != (rs.length:Int))=true:=by rw [bne_iff_ne];omega
 have HL:=Nm.aD hl;clear hl hc AX hd Eb;go_enter Tryz.func64,Tryz.ntmps64;go_wp2;go_ret;rw [Ug (by simpa using HL.out)];exact⟨rfl,aJ _ _⟩
theorem Cy(g:Nat)(a:Option Addr)(n cap:Nat)(parts:Nat)(w:World)(h:Src w g a n cap)(hp:parts<=1000):
 Calls Tryz.prog 74 #[.pointer (some ⟨g,0,none⟩),.int .i64 (parts:Int)] w fun e w'=>∃ (ap b:ByteArray) (v:Value) (xs:List Rr),e=.returned (.tuple #[.string ap,v])∧ap∈LP∧b.size=20∧LQ ap b<+:xs∧3<=xs.length∧xs.length<=3+3*parts∧Dl w g a n cap v xs w':=by
 obtain⟨i0,hi,iQ,iH,iI⟩:=info_parts Tryz.XH;go_enter Tryz.func74,Tryz.ntmps74;go_wp2_with fail
 refine(Qj g a n cap _ h).mono ?_;rintro e w1 ⟨ap,rfl,xZ,oG,mD⟩;obtain⟨Lb,ha2⟩:=XP xZ;have HAP:=Nm.aD xZ;have D1:=(Dr.start h).step oG mD;clear oG mD h;go_wp2_with fail
 refine(aW g a n cap 5000 _ D1.s (by decide)).mono ?_;rintro e w2 ⟨lo,rfl,aRy,aPs,oU,mM⟩;have hlo2:=aPs (by decide);have D2:=D1.step oU mM;clear oU mM D1 aPs;go_wp2_with fail
 refine(aW g a n cap 2147483648 _ D2.s (by decide)).mono ?_;rintro e w3 ⟨sr,rfl,aCn,aPt,sO,iZ⟩;have hsr2:=aPt (by decide);have D3:=D2.step sO iZ;obtain⟨lo,rfl⟩:=Int.eq_ofNat_of_zero_le aRy;obtain⟨sr,rfl⟩:=Int.eq_ofNat_of_zero_le aCn;clear sO iZ D2 aPt;go_wp2_with fail
 refine(Yc ap sr lo 3600 _ (by omega) (by omega) (by omega)).mono ?_;rintro e w4 ⟨b,rfl,hb,b4⟩
 have hd:(TC ap b).size<=3200:=by
  rw [TC,kU,kU,wU,wU,show Nm.cK [(⟨#[110,115,49]⟩:ByteArray)]=4 from rfl,show Nm.cK [(⟨#[97,100,109,105,110]⟩:ByteArray)]=6 from rfl];omega
 have HD0:∃ d,Hid (d=TC ap b):=⟨_,rfl⟩;obtain⟨d,HD⟩:=HD0;rw [<- HD.out] at hd ⊢;have HB:=Nm.aD hb;clear hb;have D4:=D3.below b4;have hz4:=D4.size
 have L4:Dl w g a n cap (.slice (some ⟨w4.heap.size,0,none⟩) 1 1) [⟨ap,6,1,3600,d⟩] (w4.alloc (.cells #[.string ap,.int .i64 6,.int .i64 1,.int .i64 3600,.string d] 133)):=
  ⟨D4.alloc _,World.ownsRow_lit (base:=w.heap.size) (e:=133) (size:=5) w4 #[.string ap,.int .i64 6,.int .i64 1,.int .i64 3600,.string d] 1 hz4 (by decide) rfl,by intro r hr;simp at hr;subst hr;exact⟨by show ap.size<=1000;omega,by show d.size<=3200;omega⟩⟩
 clear D3 D4 b4;go_wp2_with fail
 refine(L4.aPq ⟨#[110,115,49]⟩ ap (by decide) (by omega) (by simp)).mono ?_;rintro e w5 ⟨s5,rfl,PY,z5,L5⟩
 replace z5:s5.size=4+ap.size:=z5
 have y5:s5.size<=100:=by omega
 have HS5:=Nm.aD PY;clear z5 PY;have hz5:=L5.d.size;clear L4;go_wp2_with (at_builtin;refine wpList_append_own _ rfl (.tmp 21) (.tmp 27) 88 rfl w.heap.size 133 i0 _ 5 56 Tryz.underlying88 hi iQ iH iI rfl (by decide) _ _ _ rfl ((L5.r).alloc _) ⟨w5.heap.size,0,none⟩ 1 1 [.string ap,.int .i64 2,.int .i64 1,.int .i64 3600,.string s5] rfl rfl (eZ w5 #[.string ap,.int .i64 2,.int .i64 1,.int .i64 3600,.string s5] 133) (by intro u hu;simp at hu;rcases hu with rfl|rfl|rfl|rfl|rfl<;>rfl) (by unfold maxLen;simp) (by simp) (by simp;omega) ?_)
 intro v6 w6 oC aGs _
 have L6:Dl w g a n cap v6 [⟨ap,6,1,3600,d⟩,⟨ap,2,1,3600,s5⟩] w6:=
  ⟨(L5.d.alloc (.cells #[.string ap,.int .i64 2,.int .i64 1,.int .i64 3600,.string s5] 133)).row aGs (fun k hk=>(L5.r.lt k hk).1),oC,by
    intro r hr;simp at hr
    rcases hr with rfl|rfl
    ·exact⟨by show ap.size<=1000;omega,by show d.size<=3200;omega⟩
    exact⟨by show ap.size<=1000;omega,by show s5.size<=3200;omega⟩⟩
 obtain⟨va6,vc6,rfl⟩:=aT L6.r;clear L5 oC aGs;go_wp2_with fail
 refine(L6.sub1 ⟨#[110,115,49]⟩ ap (by decide) (by omega) (by simp)).mono ?_;rintro e w7 ⟨s7,rfl,z7,L7⟩
 replace z7:s7.size=4+ap.size:=z7
 have y7:s7.size<=100:=by omega
 clear z7;clear L6;go_wp2_with fail
 refine L7.Cx.mono ?_;rintro e w8 ⟨d8,rfl,z8,L8⟩;clear L7;go_wp2_with fail
 refine(L8.add s7 1 d8 (by simp) (by omega) (by omega)).mono ?_;rintro e w9 ⟨u9,ys9,rfl,WV,lb9,L9⟩;obtain⟨va9,vc9,rfl⟩:=aT L9.r;have HL9:Hid (ys9.length=3∧LQ ap b<+:ys9):=⟨WV.out.2,by rw [LQ,<- HD.out,<- HS5.out];exact WV.out.1⟩;clear L8 WV lb9;go_wp2
 go_loopw [8,9,10] (fun v av iv wr=>∃ (k:Nat) (ab:ByteArray) (xs:List Rr),k<=parts∧iv=.int .i64 k∧av=.string ab∧1<=ab.size∧ab.size<=30∧Hid (LQ ap b<+:xs∧3<=xs.length)∧xs.length<=3+3*k∧Dl w g a n cap v xs wr) (fun _ _ i _=>parts-(intOf i).toNat)
 ·exact⟨0,ap,ys9,dR _,rfl,rfl,Lb,by omega,⟨HL9.out.2,by have:=HL9.out.1;omega⟩,by have:=HL9.out.1;omega,L9⟩
 clear L9 HL9;obtain⟨k,ab,xs,hk,rfl,rfl,fJ,jW,NK,M8,L⟩:=hrel;obtain⟨va,vc,rfl⟩:=aT L.r
 by_cases bY:k<parts
 ·have i2:(k:Int)<(parts:Int):=by omega
  go_wp2_with fail
  refine(Vf _ xs ab _ L (by omega) fJ (by omega)).mono ?_;rintro e wA ⟨u,ys,rfl,Q6,LA⟩;obtain⟨vaA,vcA,rfl⟩:=aT LA.r;have HY:Hid ((LQ ap b<+:ys∧3<=ys.length)∧ys.length<=3+3*(k+1)):=⟨⟨NK.out.1.trans Q6.1,by have h1:=Q6.1.length_le;have h2:=NK.out.2;omega⟩,by have:=Q6.2;omega⟩;clear L Q6;go_wp2_with fail
  refine(LA.next 5 (by decide) (by decide)).mono ?_;rintro e wB ⟨r,rfl,GU,uG,LB⟩;clear LA
  by_cases hr:r=0
  ·subst hr;go_wp2_with fail
   refine LB.label.mono ?_;rintro e wC ⟨lb,rfl,GD,BA,LC⟩;clear LB;go_wp2_with fail
   refine(LC.sub1 lb ap (by omega) (by omega) (by simp)).mono ?_;rintro e wD ⟨s,rfl,zs,LD⟩;have oG:2<=s.size:=by omega
   have i3:(1:Int)<(s.size:Int):=by omega
   have oU:s.size<=30:=by omega
   clear LC zs
   by_cases hc:((s[1].toNat:Int)==42)=true
   ·go_wp2;go_roundw
    ·exact⟨k+1,ap,ys,bY,by go_num,rfl,Lb,by omega,HY.out.1,HY.out.2,LD⟩
    simp [intOf];omega
   have AX:((s[1].toNat:Int)==42)=false:=by simpa using hc
   clear hc;go_wp2;go_roundw
   ·exact⟨k+1,s,ys,bY,by go_num,rfl,by omega,oU,HY.out.1,HY.out.2,LD⟩
   simp [intOf];omega
  have n0:(r==0)=false:=beq_eq_false_iff_ne.2 hr
  go_wp2;go_roundw
  ·exact⟨k+1,ab,ys,bY,by go_num,rfl,fJ,jW,HY.out.1,HY.out.2,LB⟩
  simp [intOf];omega
 have mK:k=parts:=by omega
 subst mK;have i3:¬(k:Int)<(k:Int):=by omega
 go_wp2;go_ret2;exact⟨ap,b,_,rfl,HAP.out,HB.out,xs,NK.out.1,NK.out.2,M8,L⟩
