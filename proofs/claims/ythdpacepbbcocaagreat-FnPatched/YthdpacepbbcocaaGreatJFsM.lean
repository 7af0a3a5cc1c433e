import Derived.Test.YthdpacepbbcocaaGreatJTiN
set_option linter.unusedVariables false
set_option maxRecDepth 100000
set_option maxHeartbeats 1600000
namespace Go.Proofs.YthdpacepbbcocaaGreat
open Go.RowKit
def rO(ss:List Sz)(name:ByteArray)(t:Int):Option Sz:=ss.find? fun s=>decide (s.ty=t)&&jB s.own name
def sz0:Sz:=⟨⟨#[]⟩,0,0,[]⟩
def FsP(r:Option Sz)(w:World)(e:Ending)(w':World):Prop:=∃ v,e=.returned (.tuple #[.agg #[.string (r.getD sz0).own,.int .i64 (r.getD sz0).ty,.int .i64 (r.getD sz0).tt,v],.bool r.isSome])∧w'.ownsRow w.heap.size 9 1 v (r.getD sz0).da.length ((r.getD sz0).da.map Value.string)∧Below w.heap.size w w'
theorem aH2{w w':World}(h:Below w.heap.size w w'):FsP none w (.returned (.tuple #[.agg #[.string ⟨#[]⟩,.int .i64 0,.int .i64 0,.slice none 0 0],.bool false])) w':=
 ⟨_,rfl,World.ownsRow_nil _ _ _ _,h⟩
theorem Ed{w w2:World}{b B n:Nat}{x:ByteArray}{ty tt:Int}{v:Value}{xs:List Value}(k:bG w2 b #[.string ⟨#[]⟩,.int .i64 0,.int .i64 0,.slice none 0 0] 60)(ho:w2.ownsRow B 9 1 v n xs)(dQ:v.ownBlock≠some b)(hb:Below w.heap.size w w2)(GI:w.heap.size<=b):
 bG ((((w2.setCell ⟨b,0,none⟩ (.string x)).setCell ⟨b,1,none⟩ (.int .i64 ty)).setCell ⟨b,2,none⟩ (.int .i64 tt)).setCell ⟨b,3,none⟩ v) b #[.string x,.int .i64 ty,.int .i64 tt,v] 60∧
 ((((w2.setCell ⟨b,0,none⟩ (.string x)).setCell ⟨b,1,none⟩ (.int .i64 ty)).setCell ⟨b,2,none⟩ (.int .i64 tt)).setCell ⟨b,3,none⟩ v).ownsRow B 9 1 v n xs∧
 Below w.heap.size w ((((w2.setCell ⟨b,0,none⟩ (.string x)).setCell ⟨b,1,none⟩ (.int .i64 ty)).setCell ⟨b,2,none⟩ (.int .i64 tt)).setCell ⟨b,3,none⟩ v):=by
 have k4:=aI (aI (aI (aI k 0 (.string x)) 1 (.int .i64 ty)) 2 (.int .i64 tt)) 3 v;simp only [List.setIfInBounds_toArray,List.set_cons_zero,List.set_cons_succ] at k4;have Cr:=eU (y:=v) (i:=3) (g:=b) (eU (y:=.int .i64 tt) (i:=2) (g:=b) (eU (y:=.int .i64 ty) (i:=1) (g:=b) (eU (y:=.string x) (i:=0) (g:=b) ho dQ) dQ) dQ) dQ;exact⟨k4,Cr,(((hb.setCell (p:=⟨b,0,none⟩) GI (.string x)).setCell (p:=⟨b,1,none⟩) GI (.int .i64 ty)).setCell (p:=⟨b,2,none⟩) GI (.int .i64 tt)).setCell (p:=⟨b,3,none⟩) GI v⟩
structure Csp (w0 w:World) (g:Nat) (x:ByteArray) (ty tt:Int) (v u:Value) (n:Nat) (xs:List ByteArray):Prop where
 ob:bG w (g+1+1) #[.string x,.int .i64 ty,.int .i64 tt,u] 60
 mb:bG w g #[.string x,.int .i64 ty,.int .i64 tt,v] 60
 zb:bG w (g+1) #[.string ⟨#[]⟩,.int .i64 0,.int .i64 0,.slice none 0 0] 60
 own:w.ownsRow g 9 1 u n (xs.map Value.string)
 be:Below g w0 w
theorem Csp.below{w0 w w':World}{g:Nat}{x:ByteArray}{ty tt:Int}{v u:Value}{n:Nat}{xs:List ByteArray}(c:Csp w0 w g x ty tt v u n xs)(hb:Below w.heap.size w w')(hg:g<=w.heap.size):Csp w0 w' g x ty tt v u n xs:=
 ⟨aB c.ob hb,aB c.mb hb,aB c.zb hb,own_below c.own hb,c.be.trans (hb.mono hg)⟩
theorem Csp.grow{w0 w w':World}{g:Nat}{x:ByteArray}{ty tt:Int}{v u:Value}{n:Nat}{xs:List ByteArray}(c:Csp w0 w g x ty tt v u n xs)(hg:w.grownBy w' u.ownBlock)(hw:g<=w.heap.size):
 bG w' (g+1+1) #[.string x,.int .i64 ty,.int .i64 tt,u] 60∧bG w' g #[.string x,.int .i64 ty,.int .i64 tt,v] 60∧bG w' (g+1) #[.string ⟨#[]⟩,.int .i64 0,.int .i64 0,.slice none 0 0] 60∧Below g w0 w':=
 ⟨aP c.ob hg (bW c.own c.ob (by decide)),aP c.mb hg (bW c.own c.mb (by decide)),aP c.zb hg (bW c.own c.zb (by decide)),c.be.grown hg hw (fun k hk=>(c.own.lt k hk).1)⟩
theorem FT(s:Sz)(v:Value)(w:World)(h:Nm.dX w v s.da)(hl:s.da.length<=100000000):
 Calls Tryz.prog 73 #[.agg #[.string s.own,.int .i64 s.ty,.int .i64 s.tt,v]] w fun e w'=>∃ u,e=.returned (.agg #[.string s.own,.int .i64 s.ty,.int .i64 s.tt,u])∧w'.ownsRow w.heap.size 9 1 u s.da.length (s.da.map Value.string)∧Below w.heap.size w w':=by
 obtain⟨j0,hj,k0,q1,k2⟩:=info_parts Tryz.AU;obtain⟨x,ty,tt,ds⟩:=s;simp only at h hl ⊢
 obtain⟨va,vc,rfl,-,-,-,-⟩:=id h;have jF:=(aK w.heap.size w).alloc (aN _) (.cells #[.string x,.int .i64 ty,.int .i64 tt,.slice va ds.length vc] 60);have xL:=jF.alloc jF.size (.cells #[.string ⟨#[]⟩,.int .i64 0,.int .i64 0,.slice none 0 0] 60);have Bi:=xL.alloc xL.size (.cells #[.string x,.int .i64 ty,.int .i64 tt,.slice none 0 0] 60);have kM0:=aR (aH w #[.string x,.int .i64 ty,.int .i64 tt,.slice va ds.length vc] 60) (.cells #[.string ⟨#[]⟩,.int .i64 0,.int .i64 0,.slice none 0 0] 60);have kM:=aR kM0 (.cells #[.string x,.int .i64 ty,.int .i64 tt,.slice none 0 0] 60);have kZ:=aR (aH (w.alloc (.cells #[.string x,.int .i64 ty,.int .i64 tt,.slice va ds.length vc] 60)) #[.string ⟨#[]⟩,.int .i64 0,.int .i64 0,.slice none 0 0] 60) (.cells #[.string x,.int .i64 ty,.int .i64 tt,.slice none 0 0] 60);have kO:=aH ((w.alloc (.cells #[.string x,.int .i64 ty,.int .i64 tt,.slice va ds.length vc] 60)).alloc (.cells #[.string ⟨#[]⟩,.int .i64 0,.int .i64 0,.slice none 0 0] 60)) #[.string x,.int .i64 ty,.int .i64 tt,.slice none 0 0] 60;rw [fV] at kZ;rw [fV,fV] at kO;have S3:Csp w _ w.heap.size x ty tt (.slice va ds.length vc) (.slice none 0 0) 0 []:=⟨kO,kM,kZ,World.ownsRow_nil _ _ _ _,Bi⟩;have hd:=fun W (hW:Below w.heap.size w W)=>h.below hW
 have rr:=fun i=>aA kM0 i
 clear h kM kZ kO jF xL Bi;go_enter Tryz.func73,Tryz.ntmps73;go_wp2_with fail
 clear rr kM0;generalize Ab:w.heap.size=g at*;have HGG:=Nm.aF Ab;clear Ab
 go_loopw [4] (fun i wr=>∃ (k:Nat) (qx:Option Addr) (qy:Nat),k<=ds.length∧i=.int .i64 k∧g<=wr.heap.size∧Csp w wr g x ty tt (.slice va ds.length vc) (.slice qx k qy) k (ds.take k)) (fun i _=>ds.length-(intOf i).toNat)
 case atStart=>exact⟨0,none,0,dO _,rfl,by have:=HGG.out;simp;omega,S3⟩
 clear S3;obtain⟨k,qx,qy,hk,rfl,hgw,Sk⟩:=hrel;have ccM:=fun i=>aA Sk.mb i
 have ccO:=fun i=>aA Sk.ob i
 by_cases bV:k<ds.length
 ·obtain⟨y,hyk⟩:∃ y,ds[k]? =some y:=⟨_,bY bV⟩;obtain⟨a9,c9,e9,_,_,_,De⟩:=hd wr Sk.be;simp only [iG] at e9;obtain⟨rfl,_,rfl⟩:=e9;obtain⟨b,off,rfl,aL⟩:=De (by intro e;rw [e] at bV;simp at bV);have d0:=aL k y hyk;have n1:(0:Int)<=(k:Int):=by omega
  have n2:(k:Int)<(ds.length:Int):=by omega
  have e5:ds.take (k+1)=ds.take k++[y]:=by
   obtain⟨hi,e⟩:=dK hyk;rw [List.take_succ_eq_append_getElem hi,e]
  have HE5:=Nm.aF e5;have HYK:=Nm.aF hyk;clear e5 De aL hyk;go_wp2;refine kR (fun W=>bG W (g+1+1) #[.string x,.int .i64 ty,.int .i64 tt,.slice qx k qy] 60∧bG W g #[.string x,.int .i64 ty,.int .i64 tt,.slice (some ⟨b,off,none⟩) ds.length vc] 60∧W.cell? ⟨b,off+k,none⟩=some (.string y)) 10 ⟨Sk.ob,Sk.mb,d0⟩ fun aO=>?_;refine tkL (i:=0) (v:=?_) rfl ?_ ?_;rotate_left 1
  ·(rintro W ⟨s1,s2,s3⟩;have Sc:=(fun i=>aA s1 i);have OQ:=(fun i=>aA s2 i);go_simp;first|done|rfl)
  refine tkL (i:=1) (v:=?_) rfl ?_ ?_;rotate_left 1
  ·(rintro W ⟨s1,s2,s3⟩;have Sc:=(fun i=>aA s1 i);have OQ:=(fun i=>aA s2 i);go_simp;first|done|rfl)
  refine tkL (i:=2) (v:=?_) rfl ?_ ?_;rotate_left 1
  ·(rintro W ⟨s1,s2,s3⟩;have Sc:=(fun i=>aA s1 i);have OQ:=(fun i=>aA s2 i);go_simp;first|done|rfl)
  refine tkL (i:=3) (v:=?_) rfl ?_ ?_;rotate_left 1
  ·(rintro W ⟨s1,s2,s3⟩;have Sc:=(fun i=>aA s1 i);have OQ:=(fun i=>aA s2 i);go_simp;first|done|rfl)
  refine tkL (i:=4) (v:=?_) rfl ?_ ?_;rotate_left 1
  ·(rintro W ⟨s1,s2,s3⟩;have Sc:=(fun i=>aA s1 i);have OQ:=(fun i=>aA s2 i);go_simp;first|done|rfl)
  refine tkL (i:=5) (v:=?_) rfl ?_ ?_;rotate_left 1
  ·(rintro W ⟨s1,s2,s3⟩;have Sc:=(fun i=>aA s1 i);have OQ:=(fun i=>aA s2 i);go_simp;first|done|rfl)
  refine tkL (i:=6) (v:=?_) rfl ?_ ?_;rotate_left 1
  ·(rintro W ⟨s1,s2,s3⟩;have Sc:=(fun i=>aA s1 i);have OQ:=(fun i=>aA s2 i);go_simp;first|done|rfl)
  have hbA:=((aK wr.heap.size wr).alloc (aN _) (.cells #[.string y] 9)).drew;have SA:=Sk.below hbA hgw;have e0:(wr.alloc (.cells #[.string y] 9)).drew.cell? ⟨b,off+k,none⟩=some (.string y):=(hbA.cell (eB wr _ d0)).trans d0;have hoA:=SA.own;refine k1 7 rfl fun K hK=>?_
  go_simp;refine hK.out _ _ ⟨SA.ob,SA.mb,e0⟩ fun hH2=>?_;clear hK K;refine k1 8 rfl fun K hK=>?_
  refine iX rfl (.tmp 20) (.tmp 26) 58 rfl g 9 j0 (.string ByteArray.empty) 1 16 Tryz.underlying58 hj k0 q1 k2 rfl (by decide) (.slice qx k qy) k ((ds.take k).map Value.string) (by rfl) hoA ⟨wr.heap.size,0,none⟩ 1 1 [.string y] (by rfl) rfl (dU _ #[.string y] _) (by intro u hu;simp at hu;subst hu;rfl) (by unfold maxLen;omega) (by omega) (by simp;omega) ?_;intro va' wa gZ gV oP;clear oP;obtain⟨xb,yb,hvb⟩:=aT gZ;subst hvb;obtain⟨ob9,mb9,zb9,be9⟩:=SA.grow gV (by simp;omega);obtain⟨a8,c8,e8,_,_,_,hc8⟩:=hd wa be9;simp only [iG] at e8;obtain⟨rfl,_,rfl⟩:=e8;obtain⟨b8,off8,e7,aH3⟩:=hc8 (by intro e;rw [e] at bV;simp at bV);simp only [mP,Addr.mk.injEq,and_true] at e7;obtain⟨rfl,rfl⟩:=e7;have f0:=aH3 k y HYK.out;refine hK.out _ _ ⟨ob9,mb9,f0⟩ fun hH3=>?_;clear hK K;refine tkL (i:=9) (v:=?_) rfl ?_ ?_;rotate_left 1
  ·(rintro W ⟨s1,s2,s3⟩;have Sc:=(fun i=>aA s1 i);have OQ:=(fun i=>aA s2 i);go_simp;first|done|rfl)
  have g9:=fun i=>aA ob9 i
  have h9:=fun i=>aG ob9 i
  refine jN (by kernel_rfl) rfl (by kernel_rfl) fun K hK=>?_;go_simp;refine hK.out _ _ ?_;clear hK K
  have aH4:wa.ownsRow g 9 1 (.slice xb (k+1) yb) (k+1) ((ds.take (k+1)).map Value.string):=by
   rw [HE5.out,List.map_append];exact gZ
  have S9:Csp w (wa.setCell ⟨g+1+1,3,none⟩ (.slice xb (k+1) yb)) g x ty tt (.slice (some ⟨b,off,none⟩) ds.length vc) (.slice xb (k+1) yb) (k+1) (ds.take (k+1)):=
   ⟨aI ob9 3 _,aW mb9 (by omega),aW zb9 (by omega),eU aH4 (bW aH4 ob9 (by decide)),be9.setCell (Nat.le_add_right g 2) _⟩
  have HS9:=Nm.aF S9;have HK9:Hid (k+1<=ds.length):=bV
  have HG9:Hid (g<=(wa.setCell ⟨g+1+1,3,none⟩ (.slice xb (k+1) yb)).heap.size):=by
   show _<=_
   have h1:=gV.size;simp at h1 ⊢;omega
  clear S9 aH4 ob9 mb9 zb9 be9 SA Sk gZ gV hoA e0 hbA f0 d0 g9 h9 hH3 hH2 aO ccM ccO aH3 hc8;go_wp2;go_roundw
  case rel=>exact⟨k+1,xb,yb,HK9.out,by go_num,HG9.out,HS9.out⟩
  simp [intOf];omega
 obtain rfl:k=ds.length:=by omega
 rw [List.take_length] at Sk;have i9:(ds.length:Int)<=(ds.length:Int):=by omega
 have cz:=fun i=>aA Sk.zb i
 have fz:=fun i=>aG Sk.zb i
 have k4:=aI (aI (aI (aI Sk.zb 0 (.string x)) 1 (.int .i64 ty)) 2 (.int .i64 tt)) 3 (.slice qx ds.length qy);simp only [List.setIfInBounds_toArray,List.set_cons_zero,List.set_cons_succ] at k4;have dQ:=bW Sk.own Sk.zb (by decide);have Cr:=eU (y:=.slice qx ds.length qy) (i:=3) (g:=g+1) (eU (y:=.int .i64 tt) (i:=2) (g:=g+1) (eU (y:=.int .i64 ty) (i:=1) (g:=g+1) (eU (y:=.string x) (i:=0) (g:=g+1) Sk.own dQ) dQ) dQ) dQ;have GI:g<=g+1:=Nat.le_succ g;have xS:=(((Sk.be.setCell (p:=⟨g+1,0,none⟩) GI (.string x)).setCell (p:=⟨g+1,1,none⟩) GI (.int .i64 ty)).setCell (p:=⟨g+1,2,none⟩) GI (.int .i64 tt)).setCell (p:=⟨g+1,3,none⟩) GI (.slice qx ds.length qy);have rk:=fun i=>aA k4 i
 clear hd k4 dQ Sk;go_wp2_with fail
 refine gD (v:=.agg #[.string x,.int .i64 ty,.int .i64 tt,.slice qx ds.length qy]) ?_ rfl ⟨_,rfl,by rw [HGG.out];exact Cr,by rw [HGG.out];exact xS⟩;simp [results,Tryz.f73,go_sem,rk]
def Re(d:ByteArray)(n:Int):ByteArray:=(d.extract 0 (d.size-20)++⟨(Ma n).toArray⟩)++d.extract (d.size-16) d.size
def FU(d:ByteArray)(n:Int):ByteArray×Int:=
 if bQ 6 d=0 then(if n<0∨4294967295<n then(⟨#[]⟩,32) else(Re d n,0)) else(⟨#[]⟩,7)
theorem Rf{d:ByteArray}{n:Int}(h:bQ 6 d≠0):FU d n=(⟨#[]⟩,7):=by rw [FU,if_neg h]
theorem Ee{d:ByteArray}{n:Int}(h:bQ 6 d=0)(h1:n<0∨4294967295<n):FU d n=(⟨#[]⟩,32):=by rw [FU,if_pos h,if_pos h1]
theorem Ef{d:ByteArray}{n:Int}(h:bQ 6 d=0)(h1:¬(n<0∨4294967295<n)):FU d n=(Re d n,0):=by rw [FU,if_pos h,if_neg h1]
theorem KQ(d:ByteArray)(n:Int)(w:World)(hd:d.size<=2000000):
 Calls Tryz.prog 89 #[.string d,.int .i64 n] w fun e w'=>e=.returned (.tuple #[.string (FU d n).1,.int .i64 (FU d n).2])∧Below w.heap.size w w':=by
 have aX:=fun w=>nC 6 d w
 by_cases hq:bQ 6 d=0
 ·have hz:=WK hq;rw [hq] at aX
  by_cases hn:n<0∨4294967295<n
  ·have HR:=Nm.aF (Ee hq hn);clear hq
   by_cases Ty:n<0
   ·clear hn;go_enter Tryz.func89,Tryz.ntmps89;go_wp2_with (go_at_call 74;refine(aX _).mono ?_;rintro e w1 ⟨rfl,fF⟩)
    go_ret2;rw [HR.out];exact⟨rfl,fF⟩
   have hn1:4294967295<n:=by omega
   have hn2:0<=n:=by omega
   clear hn;go_enter Tryz.func89,Tryz.ntmps89;go_wp2_with (go_at_call 74;refine(aX _).mono ?_;rintro e w1 ⟨rfl,fF⟩)
   go_ret2;rw [HR.out];exact⟨rfl,fF⟩
  have HR:=Nm.aF (Ef hq hn);have Ty:0<=n:=by omega
  have hn1:n<=4294967295:=by omega
  have aRq:=fun w=>Ub n w Ty hn1
  have h1:(20:Int)<=(d.size:Int):=by omega
  have h2:(16:Int)<=(d.size:Int):=by omega
  have h3:20<=d.size:=by omega
  have h4:16<=d.size:=by omega
  have b1:(0:Int)<=(d.size:Int)-20:=by omega
  have b2:(d.size:Int)-20<=(d.size:Int):=by omega
  have b3:(0:Int)<=(d.size:Int)-16:=by omega
  have b4:(d.size:Int)-16<=(d.size:Int):=by omega
  have CJ:IntKind.i64.wrap ((d.size:Int)-20)=(d.size:Int)-20:=Go.wrap_small _ (by omega) (by omega);have DU:IntKind.i64.wrap ((d.size:Int)-16)=(d.size:Int)-16:=Go.wrap_small _ (by omega) (by omega);have hS:Hid (Re d n=(d.extract 0 (d.size-20)++⟨(Ma n).toArray⟩)++d.extract (d.size-16) d.size):=rfl;have hp4:(⟨(Ma n).toArray⟩:ByteArray).size=4:=rfl;generalize (⟨(Ma n).toArray⟩:ByteArray)=P4 at*;have nJ:∀ w,(Go.Op.stringOp .add (d.extract 0 (d.size-20)) P4).run Tryz.prog w=.ok (.string (d.extract 0 (d.size-20)++P4)) w:=fun w=>run_string_add_sum w _ _ (by simp;omega)
  have oI:∀ w,(Go.Op.stringOp .add (d.extract 0 (d.size-20)++P4) (d.extract (d.size-16) d.size)).run Tryz.prog w=.ok (.string (d.extract 0 (d.size-20)++P4++d.extract (d.size-16) d.size)) w:=fun w=>run_string_add_sum w _ _ (by simp;omega)
  have qD:∀ w,(Go.Op.stringOp .add (d.extract 0 ((d.size:Int)-20).toNat) P4).run Tryz.prog w=.ok (.string (d.extract 0 (d.size-20)++P4)) w:=fun w=>by rw [show((d.size:Int)-20).toNat=d.size-20 by omega];exact nJ w
  have VX:∀ w,(Go.Op.stringOp .add (d.extract 0 (d.size-20)++P4) (d.extract ((d.size:Int)-16).toNat d.size)).run Tryz.prog w=.ok (.string (d.extract 0 (d.size-20)++P4++d.extract (d.size-16) d.size)) w:=fun w=>by rw [show((d.size:Int)-16).toNat=d.size-16 by omega];exact oI w
  have aRr:∀ W:World,Below w.heap.size w W->Calls Tryz.prog 91 #[.int .i64 n,.int .i64 4] W fun e w'=>e=.returned (.string P4)∧Below w.heap.size w w':=by
   intro W hS;refine(aRq W).mono ?_;rintro e w' ⟨rfl,hb⟩;exact⟨rfl,Nm.aC hS hb⟩
  clear aRq;clear hq hn;go_enter Tryz.func89,Tryz.ntmps89;go_wp2_with (go_at_call 74;refine(aX _).mono ?_;rintro e w1 ⟨rfl,fF⟩)
  have GV:Below w.heap.size w w1.drew:=fF.drew;go_region_held3 (fun w'=>Below w.heap.size w w') (first|assumption|exact GV) ((first|(go_at_call 91;refine(aRr _ (by first|assumption|exact GV)).mono ?_;rintro e w' ⟨rfl,ZG⟩)))
  go_wp2;go_ret2;rw [HR.out,hS.out];exact⟨rfl,ZG⟩
 have HR:=Nm.aF (Rf (n:=n) hq);have hb:(bQ 6 d != 0)=true:=by rw [bne_iff_ne];exact hq
 generalize bQ 6 d=c at*;clear hq;go_enter Tryz.func89,Tryz.ntmps89;go_wp2_with (go_at_call 74;refine(aX _).mono ?_;rintro e w1 ⟨rfl,fF⟩)
 go_ret2;rw [HR.out];exact⟨rfl,fF⟩
def JL(ss:List Sz)(o:ByteArray)(r x:Rr):Bool:=
 if jB x.own r.own=false then true
 else if r.cl=255 then(jB x.own o&&(decide (x.ty=6)||decide (x.ty=2)))||(!decide (r.ty=255)&& !decide (r.ty=x.ty))
 else if decide (r.ty=x.ty)=false||decide (gK r.ty r.da=gK x.ty x.da)=false then true
 else decide (x.ty=6)||((jB x.own o&&(decide (x.ty=6)||decide (x.ty=2)))&&(match rO ss x.own x.ty with|some s=>decide (s.da.length=1)|none=>false))
theorem NQ{w:World}{B e:Nat}(x:Value)(hb:B<=w.heap.size):(w.alloc (.cells #[x] e)).ownsRow B e 1 (.slice (some ⟨w.heap.size,0,none⟩) 1 1) 1 [x]:=
 ⟨rfl,.inr ⟨w.heap.size,1,#[x],rfl,hb,heap_alloc_new w _,aN _,by decide,rfl,rfl⟩⟩
theorem Zm{w wr:World}{g n cap gr m rc k:Nat}{a:Option Addr}{ls:List ByteArray}(hg:g<w.heap.size)(iB:qJ w g a n)(h1:wr.ownsRow w.heap.size 9 1 (.slice (some ⟨gr,0,none⟩) m rc) m (ls.map Value.string))(h2:Src wr g a n cap)(h3:w.grownBy wr (some g))(hw:w.heap.size<=gr)(y:ByteArray):
 (wr.setCell ⟨gr,k,none⟩ (.string y)).ownsRow w.heap.size 9 1 (.slice (some ⟨gr,0,none⟩) m rc) m ((ls.set k y).map Value.string)∧Src (wr.setCell ⟨gr,k,none⟩ (.string y)) g a n cap∧w.grownBy (wr.setCell ⟨gr,k,none⟩ (.string y)) (some g):=by
 refine⟨?_,BS h2 (by omega) (Hy iB hw),PR h3 hw⟩;have:=(h1.stored k (.string y)).1;rw [List.map_set];exact this
theorem Eg{w w3 w4:World}{g n cap:Nat}{a:Option Addr}{v4:Value}{o:Obj}{x:ByteArray}{ls:List ByteArray}(bV:g<w.heap.size)(iB:qJ w g a n)(hs:Src w3 g a n cap)(hg:w.grownBy w3 (some g))
 (aU:w4.ownsRow w.heap.size 9 1 v4 (1+ls.length) ([Value.string x]++ls.map Value.string)) (bZ:(w3.alloc o).grownBy w4 (Value.slice (some ⟨w3.heap.size,0,none⟩) 1 1).ownBlock):
 Nm.dX w4 v4 (x::ls)∧Src w4 g a n cap∧w.grownBy w4 (some g):=by
 have eF:∀ q,(Value.slice (some ⟨w3.heap.size,0,none⟩) 1 1).ownBlock=some q->w.heap.size<=q:=by
  intro q hq;simp [Value.ownBlock] at hq
  have:=hg.size;omega
 refine⟨?_,GN (bH hs ((aK _ _).alloc (aN _) _)) bZ eF bV iB,zQ (dR hg _) bZ eF⟩;apply Nm.dX.aS (B:=w.heap.size) (e:=9);rw [show(x::ls).length=1+ls.length by simp;omega];exact aU
theorem Rh(g:Nat)(a:Option Addr)(n cap:Nat)(nm:ByteArray)(w:World)(h:Src w g a n cap)(hz:nm.size<=2000):
 Calls Tryz.prog 29 #[.pointer (some ⟨g,0,none⟩),.string nm] w fun e w'=>∃ s:ByteArray,e=.returned (.string s)∧s.size<=2000∧Src w' g a n cap∧w.grownBy w' (some g):=by
 obtain⟨iB,BG⟩:=uH h;obtain⟨i0,hi,iJ,fP,fZ⟩:=info_parts Tryz.AU;have hnz:nm.size<=maxLen:=by unfold maxLen;omega
 have nA:=jZ nm w hnz
 cases hq:Nm.split nm with
 |none=>
  rw [hq] at nA;simp only [Option.getD_none,Option.isSome_none,List.length_nil,List.map_nil] at nA;go_enter Tryz.func29,Tryz.ntmps29;go_wp2_with fail
  refine nA.mono ?_;rintro e w1 ⟨v,rfl,aU,aJ⟩;go_wp2;go_ret
  exact⟨_,rfl,hz,bH h aJ,bM (World.grownBy.refl w (some g)) aJ⟩
 |some ls=>
  have hws:Nm.dP ls<=254:=by have:=Nm.gW hq;omega
  rw [hq] at nA;simp only [Option.getD_some,Option.isSome_some] at nA;clear hq;go_enter Tryz.func29,Tryz.ntmps29;go_wp2_with fail
  refine nA.mono ?_;rintro e w1 ⟨v,rfl,aU,aJ⟩;have nJ:=bH h aJ;have rP:=bM (World.grownBy.refl w (some g)) aJ;clear nA h aJ;go_wp2_with fail
  refine(aY g a n cap 5 _ nJ (by decide)).mono ?_;rintro e w2 ⟨r,rfl,OD,rH,oI,BR⟩;have uR:=rH (by decide);have dW:=aU.kept BR (lD aU nJ (by decide));have oN:=aZ rP BR;clear aU nJ rP BR rH;have wM:=oN.size
  rcases(by omega:r=0∨r=1∨(r=2∨r=3)∨r=4) with rfl|rfl|hr|rfl
  ·go_wp2_with fail
   refine(yR g a n cap nm _ oI hnz).mono ?_;rintro e w3 ⟨s,rfl,hs,qD,iA⟩;go_wp2;go_ret;exact⟨_,rfl,by omega,qD,aZ oN iA⟩
  ·have hr:=Nm.dX.aS dW;obtain⟨ra,rc,rfl,gY,kK,TV,hc⟩:=Nm.dX.aS dW;clear hc TV;have IM:=fun e:rc=1=>hr.UT e
   by_cases hn:ls.length=0
   ·clear dW IM;obtain rfl:=List.length_eq_zero_iff.1 hn;clear hn;simp only [List.length_nil] at hr;go_wp2_with fail
    refine(cB _ [] _ hr (by omega)).mono ?_;rintro e w9 ⟨rfl,tF⟩;have hj:=iH [];have DT:=bH oI tF;have iF:=bM oN tF;generalize ByteArray.mk (Nm.joinL []).toArray=J at*
    by_cases hJ:255<J.size
    ·have Zn:(255:Int)<(J.size:Int):=by omega
     clear hj;go_wp2;go_ret;exact⟨_,rfl,hz,DT,iF⟩
    have Zn:(J.size:Int)<=255:=by omega
    clear hj;go_wp2;go_ret;exact⟨_,rfl,by omega,DT,iF⟩
   have hlp:(0:Int)<(ls.length:Int):=by omega
   have Tu:=hr.drop (k:=1) (by omega);have hwd:=Nm.vG ls 1;clear dW
   by_cases Jj:rc=1
   ·have hd:=IM Jj;clear IM Tu;subst Jj;have e0:ls.length-1=0:=by omega
    rw [e0] at hd;go_wp2_with fail
    refine(cB _ (ls.drop 1) _ hd (by omega)).mono ?_;rintro e w9 ⟨rfl,tF⟩;go_wp2;go_ret;exact⟨_,rfl,by rw [iH];simp only [List.drop_one] at hwd;omega,bH oI tF,bM oN tF⟩
   clear IM;have hd3:Nm.dX w2 (.slice (Option.map (fun x=>({block:=x.block,off:=x.off+1,spot:=none}:Addr)) ra) (ls.length-1) (rc-1)) (ls.drop 1):=by simpa [Addr.add] using Tu
   clear Tu;go_wp2_with fail
   refine(cB _ (ls.drop 1) _ hd3 (by omega)).mono ?_;rintro e w9 ⟨rfl,tF⟩;go_wp2;go_ret;exact⟨_,rfl,by rw [iH];simp only [List.drop_one] at hwd;omega,bH oI tF,bM oN tF⟩
  ·have hlw:=Nm.gJ ls
   rcases hr with rfl|rfl
   ·rcases dW.2 with⟨rfl,h0⟩|⟨gr,rc,cur,rfl,hb,Ab,YX,hm,_⟩
    ·obtain rfl:=List.length_eq_zero_iff.1 h0;clear dW h0;go_wp2_with fail
     refine(oW g a n cap _ oI).mono ?_;rintro e w3 ⟨x,rfl,hx,qD,iA⟩;have NR:=aZ oN iA;have VW:=NR.size;have jW:=NQ (w:=w3) (B:=w.heap.size) (e:=9) (.string x) VW;have hR:=Nm.dX.aS (ls:=[x]) jW;have hsR:=bH qD ((aK _ _).alloc (aN _) (.cells #[.string x] 9 (0,0)));have hgR:=dR NR (.cells #[.string x] 9 (0,0));have hwx:Nm.dP [x]<=400:=by simp [Nm.dP];omega
     try simp only [List.length_cons,List.length_nil] at hR
     go_wp2_with (at_builtin;refine wpList_append_own_none rfl (.tmp 36) (.tmp 37) 58 rfl w.heap.size 9 i0 1 Tryz.underlying58 hi _ _ _ rfl jW rfl ?_)
     refine(cB _ [x] _ hR (by omega)).mono ?_;rintro e w9 ⟨rfl,tF⟩;have hj:=iH [x];have DT:=bH hsR tF;have iF:=bM hgR tF;generalize ByteArray.mk (Nm.joinL [x]).toArray=J at*
     by_cases hJ:255<J.size
     ·have Zn:(255:Int)<(J.size:Int):=by omega
      clear hj;go_wp2;go_ret;exact⟨_,rfl,hz,DT,iF⟩
     have Zn:(J.size:Int)<=255:=by omega
     clear hj;go_wp2;go_ret;exact⟨_,rfl,by omega,DT,iF⟩
    unfold maxLen at hm;clear Ab;go_wp2_with fail
    refine(oW g a n cap _ oI).mono ?_;rintro e w3 ⟨x,rfl,hx,qD,iA⟩;have kD:=dW.kept iA (lD dW oI (by decide));have NR:=aZ oN iA;have VW:=NR.size;have hr3:=Nm.dX.aS (kD.alloc (.cells #[.string x] 9 (0,0)));have hwx:Nm.dP (x::ls)<=400:=by simp [Nm.dP];omega
    clear dW kD;go_wp2_with (at_builtin;refine wpList_append_own _ rfl (.tmp 36) (.tmp 37) 58 rfl w.heap.size 9 i0 (.string ByteArray.empty) 1 16 Tryz.underlying58 hi iJ fP fZ rfl (by decide) _ _ _ rfl (NQ (.string x) VW) ⟨gr,0,none⟩ ls.length rc (ls.map Value.string) rfl (by simp) (Dm hr3) (MZ _) (by unfold maxLen;omega) (by omega) (by simp;omega) ?_;intro v4 w4 jC qK Fv;clear Fv;have R:=Eg BG iB qD NR jC qK;obtain⟨hR,hsR,hgR⟩:=R;clear jC qK hr3)
    refine(cB _ (x::ls) _ hR (by omega)).mono ?_;rintro e w9 ⟨rfl,tF⟩;have hj:=iH (x::ls);have DT:=bH hsR tF;have iF:=bM hgR tF;generalize ByteArray.mk (Nm.joinL (x::ls)).toArray=J at*
    by_cases hJ:255<J.size
    ·have Zn:(255:Int)<(J.size:Int):=by omega
     clear hj;go_wp2;go_ret;exact⟨_,rfl,hz,DT,iF⟩
    have Zn:(J.size:Int)<=255:=by omega
    clear hj;go_wp2;go_ret;exact⟨_,rfl,by omega,DT,iF⟩
   rcases dW.2 with⟨rfl,h0⟩|⟨gr,rc,cur,rfl,hb,Ab,YX,hm,_⟩
   ·obtain rfl:=List.length_eq_zero_iff.1 h0;clear dW h0;go_wp2_with fail
    refine(oW g a n cap _ oI).mono ?_;rintro e w3 ⟨x,rfl,hx,qD,iA⟩;have NR:=aZ oN iA;have VW:=NR.size;have jW:=NQ (w:=w3) (B:=w.heap.size) (e:=9) (.string x) VW;have hR:=Nm.dX.aS (ls:=[x]) jW;have hsR:=bH qD ((aK _ _).alloc (aN _) (.cells #[.string x] 9 (0,0)));have hgR:=dR NR (.cells #[.string x] 9 (0,0));have hwx:Nm.dP [x]<=400:=by simp [Nm.dP];omega
    try simp only [List.length_cons,List.length_nil] at hR
    go_wp2_with (at_builtin;refine wpList_append_own_none rfl (.tmp 36) (.tmp 37) 58 rfl w.heap.size 9 i0 1 Tryz.underlying58 hi _ _ _ rfl jW rfl ?_)
    refine(cB _ [x] _ hR (by omega)).mono ?_;rintro e w9 ⟨rfl,tF⟩;have hj:=iH [x];have DT:=bH hsR tF;have iF:=bM hgR tF;generalize ByteArray.mk (Nm.joinL [x]).toArray=J at*
    by_cases hJ:255<J.size
    ·have Zn:(255:Int)<(J.size:Int):=by omega
     clear hj;go_wp2;go_ret;exact⟨_,rfl,hz,DT,iF⟩
    have Zn:(J.size:Int)<=255:=by omega
    clear hj;go_wp2;go_ret;exact⟨_,rfl,by omega,DT,iF⟩
   unfold maxLen at hm;clear Ab;go_wp2_with fail
   refine(oW g a n cap _ oI).mono ?_;rintro e w3 ⟨x,rfl,hx,qD,iA⟩;have kD:=dW.kept iA (lD dW oI (by decide));have NR:=aZ oN iA;have VW:=NR.size;have hr3:=Nm.dX.aS (kD.alloc (.cells #[.string x] 9 (0,0)));have hwx:Nm.dP (x::ls)<=400:=by simp [Nm.dP];omega
   clear dW kD;go_wp2_with (at_builtin;refine wpList_append_own _ rfl (.tmp 36) (.tmp 37) 58 rfl w.heap.size 9 i0 (.string ByteArray.empty) 1 16 Tryz.underlying58 hi iJ fP fZ rfl (by decide) _ _ _ rfl (NQ (.string x) VW) ⟨gr,0,none⟩ ls.length rc (ls.map Value.string) rfl (by simp) (Dm hr3) (MZ _) (by unfold maxLen;omega) (by omega) (by simp;omega) ?_;intro v4 w4 jC qK Fv;clear Fv;have R:=Eg BG iB qD NR jC qK;obtain⟨hR,hsR,hgR⟩:=R;clear jC qK hr3)
   refine(cB _ (x::ls) _ hR (by omega)).mono ?_;rintro e w9 ⟨rfl,tF⟩;have hj:=iH (x::ls);have DT:=bH hsR tF;have iF:=bM hgR tF;generalize ByteArray.mk (Nm.joinL (x::ls)).toArray=J at*
   by_cases hJ:255<J.size
   ·have Zn:(255:Int)<(J.size:Int):=by omega
    clear hj;go_wp2;go_ret;exact⟨_,rfl,hz,DT,iF⟩
   have Zn:(J.size:Int)<=255:=by omega
   clear hj;go_wp2;go_ret;exact⟨_,rfl,by omega,DT,iF⟩
  rcases dW.2 with⟨rfl,h0⟩|⟨gr,rc,cur,rfl,hb,Ab,YX,hm,_⟩
  ·obtain rfl:=List.length_eq_zero_iff.1 h0;have hr:=Nm.dX.aS (ls:=[]) dW;clear dW h0;go_wp2_with fail
   refine(cB _ [] _ hr (by omega)).mono ?_;rintro e w9 ⟨rfl,tF⟩;have hj:=iH [];have DT:=bH oI tF;have iF:=bM oN tF;generalize ByteArray.mk (Nm.joinL []).toArray=J at*
   by_cases hJ:255<J.size
   ·have Zn:(255:Int)<(J.size:Int):=by omega
    clear hj;go_wp2;go_ret;exact⟨_,rfl,hz,DT,iF⟩
   have Zn:(J.size:Int)<=255:=by omega
   clear hj;go_wp2;go_ret;exact⟨_,rfl,by omega,DT,iF⟩
  unfold maxLen at hm
  cases ls with
  |nil=>
   have hr:=Nm.dX.aS (ls:=[]) dW;simp only [List.length_nil] at hr;clear dW Ab;go_wp2_with fail
   refine(cB _ [] _ hr (by omega)).mono ?_;rintro e w9 ⟨rfl,tF⟩;have hj:=iH [];have DT:=bH oI tF;have iF:=bM oN tF;generalize ByteArray.mk (Nm.joinL []).toArray=J at*
   by_cases hJ:255<J.size
   ·have Zn:(255:Int)<(J.size:Int):=by omega
    clear hj;go_wp2;go_ret;exact⟨_,rfl,hz,DT,iF⟩
   have Zn:(J.size:Int)<=255:=by omega
   clear hj;go_wp2;go_ret
   exact⟨_,rfl,by omega,DT,iF⟩
  |cons y t=>
   have hlp:(0:Int)<((y::t).length:Int):=by simp only [List.length_cons];omega
   have hlw:=Nm.gJ (y::t);have hwt:Nm.dP (y::t)=1+y.size+Nm.dP t:=by simp [Nm.dP]
   generalize hm0:(y::t).length=m at*;clear Ab;go_wp2_with fail
   refine(oW g a n cap _ oI).mono ?_;rintro e w3 ⟨x,rfl,hx,qD,iA⟩;have kD:=dW.kept iA (lD dW oI (by decide));have NR:=aZ oN iA;have hc3:w3.cell? ⟨gr,0,none⟩=some (.string y):=by rw [kD.cellAt 0 (by omega)];rfl
   have hf3:=kD.frozenAt 0;have R:=Zm (k:=0) BG iB kD qD NR hb x;have h9:=R.1;rw [show m=(x::t).length from hm0.symm] at h9;have hR:=Nm.dX.aS (ls:=x::t) h9;clear h9;have hwx:Nm.dP (x::t)<=400:=by simp [Nm.dP];omega
   have hsR:=R.2.1;have hgR:=R.2.2;rw [show(x::t).length=m from hm0] at hR;clear dW kD R NR iA qD;go_wp2_with fail
   refine(cB _ (x::t) _ hR (by omega)).mono ?_;rintro e w9 ⟨rfl,tF⟩;have hj:=iH (x::t);have DT:=bH hsR tF;have iF:=bM hgR tF;generalize ByteArray.mk (Nm.joinL (x::t)).toArray=J at*
   by_cases hJ:255<J.size
   ·have Zn:(255:Int)<(J.size:Int):=by omega
    clear hj;go_wp2;go_ret;exact⟨_,rfl,hz,DT,iF⟩
   have Zn:(J.size:Int)<=255:=by omega
   clear hj;go_wp2;go_ret;exact⟨_,rfl,by omega,DT,iF⟩
