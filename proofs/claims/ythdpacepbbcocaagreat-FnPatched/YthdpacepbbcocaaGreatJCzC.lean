import Derived.Test.YthdpacepbbcocaaGreatCzS
import Derived.Test.YthdpacepbbcocaaGreatJCzI
set_option linter.unusedVariables false
set_option maxRecDepth 100000
set_option maxHeartbeats 3200000
namespace Go.Proofs.YthdpacepbbcocaaGreat
open Go.RowKit
theorem aIk(ps:List Zp):(aD ps).length<=500:=by
 unfold aD;split
 ·simp
 rw [uK];omega
theorem aIl{list:List Rr}{o:ByteArray}(h:(eH list o).1=0):bzO list o=o∧bzZ list o=mW list:=by
 rw [bzO,bzZ,if_pos h,if_pos h];exact⟨rfl,rfl⟩
theorem yX(o:ByteArray)(v:Value)(ps:List Zp)(w:World)(h:gI w v ps)(hs:rG ps<=1048576)(hl:ps.length<=1048576)(hf:∀ p∈ps,p.1.own.size<=1048576∧∀ x∈p.1.da,x.size<=1048576)(ha:o.size<=maxLen):
 Calls Tryz.prog 15 #[.agg #[.string o,v]] w fun e w'=>e=.returned (.int .i64 (if pI ps o=true then 0 else 32))∧Below w.heap.size w w':=by
 have k0:=aH w #[.string o,v] 25;have b0:=(aK w.heap.size w).alloc (aN _) (.cells #[.string o,v] 25);have hct:=MQ o v ps _ (h.below b0) hs hl;have Jo:=fun W (hW:Below w.heap.size w W)=>jE o v ps W (h.below hW) hs hl
 have Gn:=aIk ps;have hrf:=sK hf;have vY:=fun V W hV=>(kH V (aD ps) o W hV (by omega) ha (fun r hr=>by have:=(hrf r hr).1;unfold maxLen;omega)).mono (fun _ _ hp=>aNu hp)
 obtain⟨va,vc,rfl⟩:∃ va vc,v=.slice va ps.length vc:=by obtain⟨⟨_,a,c,e,_⟩,_⟩:=h;exact⟨a,c,e⟩
 have HH:=Nm.aF (aV h (aV Jo vY));obtain⟨CZ,hCZ⟩:∃ CZ:Int,CZ=if pI ps o=true then 0 else 32:=⟨_,rfl⟩
 rw [<- hCZ];have Zv:=Nm.aF hCZ;have r0:=fun i=>aA k0 i
 unfold maxLen at ha;clear h hf hs Jo vY hrf hCZ Gn
 by_cases WH:500<ps.length
 ·have hC:CZ=32:=by rw [Zv.out,yV (.inl WH)];rfl
  have i1:(500:Int)<(ps.length:Int):=by omega
  subst hC;clear Zv hct;go_enter Tryz.func15,Tryz.ntmps15;go_wp2;go_ret;exact⟨rfl,b0⟩
 have i1:¬(500:Int)<(ps.length:Int):=by omega
 by_cases aMa:500<jD ps
 ·have hC:CZ=32:=by rw [Zv.out,yV (.inr aMa)];rfl
  have i2:(500:Int)<(jD ps:Int):=by omega
  subst hC;clear Zv;go_enter Tryz.func15,Tryz.ntmps15;go_wp2_with (go_at_call 31;refine hct.mono ?_;rintro e w1 ⟨rfl,b1⟩)
  go_ret;exact⟨rfl,Nm.aC b0 b1⟩
 have i2:¬(500:Int)<(jD ps:Int):=by omega
 go_enter Tryz.func15,Tryz.ntmps15;go_wp2_with (go_at_call 31;refine hct.mono ?_;rintro e w1 ⟨rfl,b1⟩)
 have q1:=aB k0 b1;have mO:=Nm.aC b0 b1
 have kS:Hid (∀ X,Below w1.heap.size w1 X->X.cell? ⟨w.heap.size,0,none⟩=some (.string o)∧X.cell? ⟨w.heap.size,1,none⟩=some (.slice va ps.length vc)):=by
  intro X hX;have kx:=aB q1 hX;exact⟨(aA kx 0).trans rfl,(aA kx 1).trans rfl⟩
 have bd:=(aK w1.heap.size w1).drew;clear hct r0 k0 b0 b1 i1 i2 WH aMa;go_cut [3,4,5] from 15 to 23 (fun p c i wx=>∃ (g:Nat) (a:Option Addr) (cc:Nat) (qs:List Zp),p=.pointer (some ⟨g,0,none⟩)∧c=.int .i64 (eH (aD ps) o).1∧bG wx g #[.string (bzO (aD ps) o),.slice a qs.length cc] 25∧qs.map (·.1)=bzZ (aD ps) o∧gI wx (.slice a qs.length cc) qs∧Below w1.heap.size w1 wx)
 case first=>
  refine kR (fun X=>X.cell? ⟨w.heap.size,0,none⟩=some (.string o)∧X.cell? ⟨w.heap.size,1,none⟩=some (.slice va ps.length vc)) 1000 (kS.out _ bd) fun aO=>?_;refine kB 0 rfl ?_;refine kB 2 rfl ?_;refine kB 3 rfl ?_;generalize bzO (aD ps) o=OO at*;generalize bzZ (aD ps) o=ZZ at*;generalize (eH (aD ps) o).1=BC at*;generalize bzI (aD ps) o=BI at*;refine k2 1 9 rfl rfl (fun K hK=>?_) fun K hK=>?_
  ·go_simp;refine(HH.out.2.1 _ (Nm.aC mO bd)).mono ?_;rintro e w2 ⟨u,rfl,aU,b2⟩;obtain⟨ua,uc,rfl⟩:=aT aU;have UJ:=Nm.aC bd b2;go_wp2_with fail
   refine hK.out _ _ (kS.out _ UJ) fun aO=>?_;clear hK K;refine k2 4 9 rfl rfl (fun K hK=>?_) fun K hK=>?_
   ·go_simp;refine(HH.out.2.2 _ _ (bS.aS aU)).mono ?_;rintro e w3 ⟨a,cc,qs,rfl,Qx,hz,b3⟩;have Bg:=Nm.aC UJ b3;go_wp2_with fail
    refine hK.out _ _ (kS.out _ Bg) fun aO=>?_;clear hK K;refine kB 5 rfl ?_;refine kB 6 rfl ?_;refine kB 7 rfl ?_;refine kB 8 rfl ?_;refine k1 9 rfl fun K hK=>?_
    go_simp;have bz:=(aK w3.heap.size w3).alloc (aN _) (.cells #[.string ⟨#[]⟩,.slice none 0 0] 25);have kz:=aH w3 #[.string ⟨#[]⟩,.slice none 0 0] 25;have rz:=fun i=>aA kz i
    have fz:=fun i=>aG kz i
    refine hK.out _ _ (kS.out _ (Nm.aC Bg bz)) fun aO=>?_;clear hK K;refine k1 10 rfl fun K hK=>?_
    go_simp;have bn:=(aK w3.heap.size w3).alloc (aN _) (.cells #[.string OO,.slice a qs.length cc] 25);have kn:=aH w3 #[.string OO,.slice a qs.length cc] 25;have en:=Nm.aC Bg bn;refine hK.out _ _ (kS.out _ en) fun aO=>?_;clear hK K;refine k1 11 rfl fun K hK=>?_
    go_simp;refine hK.out _ _ (kS.out _ en) fun aO=>?_;clear hK K;refine k1 12 rfl fun K hK=>?_
    go_simp;refine hK.out _ _ (kS.out _ en) fun aO=>?_;clear hK K;refine kN ?_;go_wp2_with fail
    go_meet;exact⟨w3.heap.size,a,cc,qs,rfl,rfl,kn,Qx,hz.BQ.below bn,en⟩
   go_simp;have bz:=(aK w2.heap.size w2).alloc (aN _) (.cells #[.string ⟨#[]⟩,.slice none 0 0] 25);have kz:=aH w2 #[.string ⟨#[]⟩,.slice none 0 0] 25;have b2z:=Nm.aC UJ bz;have aMb:=own_below aU bz;have HG:Hid (w1.heap.size<=w2.heap.size∧w2.heap.size<(w2.alloc (.cells #[.string ⟨#[]⟩,.slice none 0 0] 25)).heap.size):=⟨UJ.size,by simp⟩;refine hK.out _ _ (kS.out _ b2z) fun aO=>?_;clear hK K;refine k1 4 rfl fun K hK=>?_
   go_simp;refine(HH.out.2.2 _ _ (bS.aS aMb)).mono ?_;rintro e w3 ⟨a,cc,qs,rfl,Qx,hz,b3⟩;have Bg:=Nm.aC b2z b3;have yP:=aB kz b3;clear aU aMb kz;go_wp2_with fail
   refine hK.out _ _ (kS.out _ Bg) fun aO=>?_;clear hK K;refine kB 5 rfl ?_;refine kB 6 rfl ?_;refine kB 7 rfl ?_;refine kB 8 rfl ?_;refine k1 10 rfl fun K hK=>?_
   have rz:=fun i=>aA yP i
   have fz:=fun i=>aG yP i
   go_simp;have kn:=aI (aI yP 0 (.string OO)) 1 (.slice a qs.length cc);simp only [List.setIfInBounds_toArray,List.set_cons_zero,List.set_cons_succ] at kn;have hzn:=(hz.far (i:=0) (y:=.string OO) (g:=w2.heap.size) HG.out.2).far (i:=1) (y:=.slice a qs.length cc) (g:=w2.heap.size) HG.out.2;have en:=(Bg.setCell (p:=⟨w2.heap.size,0,none⟩) HG.out.1 (.string OO)).setCell (p:=⟨w2.heap.size,1,none⟩) HG.out.1 (.slice a qs.length cc);clear rz fz yP;refine hK.out _ _ (kS.out _ en) fun aO=>?_;clear hK K;refine k1 11 rfl fun K hK=>?_
   go_simp;refine hK.out _ _ (kS.out _ en) fun aO=>?_;clear hK K;refine k1 12 rfl fun K hK=>?_
   go_simp;refine hK.out _ _ (kS.out _ en) fun aO=>?_;clear hK K;refine kN ?_;go_wp2_with fail
   go_meet;exact⟨w2.heap.size,a,cc,qs,rfl,rfl,kn,Qx,hzn.BQ,en⟩
  go_simp;have bz:=((aK w1.heap.size w1).alloc (aN _) (.cells #[.string ⟨#[]⟩,.slice none 0 0] 25)).drew;have kz:=dS (aH w1 #[.string ⟨#[]⟩,.slice none 0 0] 25)
  have nJ:(w1.alloc (.cells #[.string ⟨#[]⟩,.slice none 0 0] 25)).drew.heap.size=w1.heap.size+1:=by
   show(w1.alloc _).heap.size=_
   simp
  have HS1:=Nm.aF nJ;clear nJ;refine hK.out _ _ (kS.out _ bz) fun aO=>?_;clear hK K;refine k1 1 rfl fun K hK=>?_
  go_simp;refine(HH.out.2.1 _ (Nm.aC mO bz)).mono ?_;rintro e w2 ⟨u,rfl,aU,b2⟩;obtain⟨ua,uc,rfl⟩:=aT aU;have UJ:=Nm.aC bz b2;have sV:=aB kz b2;have HG:Hid (w1.heap.size<=w1.heap.size∧w1.heap.size<w2.heap.size):=⟨aN _,by have:=b2.size;have:=HS1.out;omega⟩;go_wp2_with fail
  refine hK.out _ _ (kS.out _ UJ) fun aO=>?_;clear hK K;refine k1 4 rfl fun K hK=>?_
  go_simp;refine(HH.out.2.2 _ _ (bS.aS aU)).mono ?_;rintro e w3 ⟨a,cc,qs,rfl,Qx,hz,b3⟩;have Bg:=Nm.aC UJ b3;have yP:=aB sV b3;clear aU kz sV;go_wp2_with fail
  refine hK.out _ _ (kS.out _ Bg) fun aO=>?_;clear hK K;refine kB 5 rfl ?_;refine kB 6 rfl ?_;refine kB 7 rfl ?_;refine kB 8 rfl ?_;refine k1 10 rfl fun K hK=>?_
  have rz:=fun i=>aA yP i
  have fz:=fun i=>aG yP i
  go_simp;have kn:=aI (aI yP 0 (.string OO)) 1 (.slice a qs.length cc);simp only [List.setIfInBounds_toArray,List.set_cons_zero,List.set_cons_succ] at kn;have hzn:=(hz.far (i:=0) (y:=.string OO) (g:=w1.heap.size) HG.out.2).far (i:=1) (y:=.slice a qs.length cc) (g:=w1.heap.size) HG.out.2;have en:=(Bg.setCell (p:=⟨w1.heap.size,0,none⟩) HG.out.1 (.string OO)).setCell (p:=⟨w1.heap.size,1,none⟩) HG.out.1 (.slice a qs.length cc);clear rz fz yP;refine hK.out _ _ (kS.out _ en) fun aO=>?_;clear hK K;refine k1 11 rfl fun K hK=>?_
  go_simp;refine hK.out _ _ (kS.out _ en) fun aO=>?_;clear hK K;refine k1 12 rfl fun K hK=>?_
  go_simp;refine hK.out _ _ (kS.out _ en) fun aO=>?_;clear hK K;refine kN ?_;go_wp2_with fail
  go_meet;exact⟨w1.heap.size,a,cc,qs,rfl,rfl,kn,Qx,hzn.BQ,en⟩
 obtain⟨g,a,cc,qs,rfl,rfl,kg,Qx,hz,b5⟩:=hcut;have kZ5:=aB q1 b5;have pQ:=CV o (.slice a qs.length cc) (.slice va ps.length vc) qs ps wc hz (HH.out.1.below (Nm.aC mO b5));have rg:=fun i=>aA kg i
 have rZ:=fun i=>aA kZ5 i
 have RO:=Nm.aC mO b5
 by_cases hE:(eH (aD ps) o).1=0
 ·obtain⟨e1,e2⟩:=aIl hE;rw [e1] at rg;rw [Qx,e2] at pQ;have hzk:pI ps o=CB (mW (aD ps)) (ps.map (·.1)):=by rw [pI,nD hE];rfl
  rw [hE]
  cases hq:CB (mW (aD ps)) (ps.map (·.1)) with
  |true=>
   have hC:CZ=0:=by rw [Zv.out,hzk,hq];rfl
   rw [hq] at pQ;subst hC;clear Zv hE e1 e2 hq hzk HH Qx kg kZ5 hz kS bd b5 q1;go_wp2_with (go_at_call 33;refine pQ.mono ?_;rintro e w6 ⟨rfl,b6⟩)
   go_ret
   exact⟨rfl,Nm.aC RO b6⟩
  |false=>
   have hC:CZ=32:=by rw [Zv.out,hzk,hq];rfl
   rw [hq] at pQ;subst hC;clear Zv hE e1 e2 hq hzk HH Qx kg kZ5 hz kS bd b5 q1;go_wp2_with (go_at_call 33;refine pQ.mono ?_;rintro e w6 ⟨rfl,b6⟩)
   go_ret;exact⟨rfl,Nm.aC RO b6⟩
 have hC:CZ=32:=by rw [Zv.out,pI,jU hE];rfl
 have n0:((eH (aD ps) o).1 != 0)=true:=by simpa using hE
 generalize (eH (aD ps) o).1=BC at*;subst hC;clear Zv hE HH Qx kg kZ5 hz kS bd b5 q1 pQ;go_wp2;go_ret;exact⟨rfl,RO⟩
theorem SF(v u:Value)(xs ys:List Rr)(w:World)(h:bS w v xs.length 5 (bK xs))(h':bS w u ys.length 5 (bK ys))(hn:xs.length<=1000000)(hn':ys.length<=1000000):
 Calls Tryz.prog 20 #[v,u] w fun e w'=>∃ z,e=.returned z∧w'.ownsRow w.heap.size 29 5 z (eQ xs ys).length (bK (eQ xs ys))∧Below w.heap.size w w':=by
 obtain⟨i0,hi,iJ,fP,fZ⟩:=info_parts Tryz.KC;have HI:=Nm.aF (fun r W (hW:Below w.heap.size w W)=>Gp u ys r W (h'.below hW) hn');have o0:=World.ownsRow_lit (base:=w.heap.size) (e:=29) (size:=5) w #[] 0 (aN _) (by decide) rfl;obtain⟨_,a,cap,rfl,gY,kK,hc⟩:=h;obtain⟨_,a',cap',rfl,-,-,-⟩:=h';have HC:=Nm.aF hc;clear hc;go_enter Tryz.func20,Tryz.ntmps20;go_wp2
 go_loopw [5,6] (fun o i wr=>∃ (j:Nat),j<=xs.length∧i=.int .i64 (j:Int)∧wr.ownsRow w.heap.size 29 5 o (eQ (xs.take j) ys).length (bK (eQ (xs.take j) ys))∧Below w.heap.size w wr) (fun _ i _=>xs.length-(intOf i).toNat)
 case atStart=>exact⟨0,dO _,rfl,o0,(aK _ _).alloc (aN _) _⟩
 obtain⟨j,hj,rfl,aU,hb⟩:=hrel;clear o0;have hwl:=aAo xs ys j;have pQ:=hb.size
 by_cases bV:j<xs.length
 ·obtain⟨x,hx⟩:∃ x,xs[j]? =some x:=⟨_,bY bV⟩;obtain⟨b,off,rfl,aL⟩:=HC.out (by omega)
  have HX:Hid (∀ W,Below w.heap.size w W->W.cell? ⟨b,off+j*5,none⟩=some (.string x.own)∧W.cell? ⟨b,off+j*5+1,none⟩=some (.int .i64 x.ty)∧W.cell? ⟨b,off+j*5+2,none⟩=some (.int .i64 x.cl)∧W.cell? ⟨b,off+j*5+3,none⟩=some (.int .i64 x.tt)∧W.cell? ⟨b,off+j*5+4,none⟩=some (.string x.da)):=by
   intro W hW;have put:∀ {i:Nat} {z:Value},w.cell? ⟨b,off+i,none⟩=some z->W.cell? ⟨b,off+i,none⟩=some z:=fun h=>(hW.cell (eB w _ h)).trans h
   exact gT (fun i y hy=>put (aL i y hy)) hx
  obtain⟨c0,c1,c2,c3,c4⟩:=HX.out wr hb;have i1:(0:Int)<=(j:Int):=by omega
  have i2:(j:Int)<(xs.length:Int):=by omega
  have hix:=HI.out x wr hb;have HN:=Nm.aF (aMy ys x);clear aL
  cases hh:zK ys x with
  |true=>
   have e:=aAn hx hh;rw [hh] at HN;have CY:¬(ixR ys x<0):=by have:=HN.out;simpa using this
   have HO:=Nm.aF aU;rw [<- e] at HO;clear e hx hh aU HN;generalize ixR ys x=IX at*;go_wp2_with (go_at_call 38;refine hix.mono ?_;rintro e w2 ⟨rfl,iE⟩)
   go_roundw
   case rel=>exact⟨j+1,by omega,by go_num,own_below HO.out iE,Nm.aC hb iE⟩
   simp [intOf];omega
  |false=>
   have HE:=Nm.aF (aEz hx hh);rw [hh] at HN;have CY:ixR ys x<0:=by have:=HN.out;simpa using this
   clear hx hh HN;obtain⟨oa,oc,rfl⟩:=aT aU;generalize ixR ys x=IX at*;generalize eQ (xs.take j) ys=WT at*;go_wp2_with (first|(go_at_call 38;refine hix.mono ?_;rintro e w2 ⟨rfl,iE⟩;have SQ:=Nm.aC hb iE;have aT5:=SQ.size;have dW:=own_below aU iE;obtain⟨d0,d1,d2,d3,d4⟩:=HX.out w2 SQ;clear c0 c1 c2 c3 c4)|(at_builtin;refine wpList_append_own _ rfl (.tmp 21) (.tmp 26) 30 rfl w.heap.size 29 i0 _ 5 56 Tryz.underlying30 hi iJ fP fZ rfl (by decide) _ _ _ rfl (dW.alloc _) ⟨w2.heap.size,0,none⟩ 1 1 [.string x.own,.int .i64 x.ty,.int .i64 x.cl,.int .i64 x.tt,.string x.da] rfl rfl (Cn _ _ _ _ _ _ _ (by simp)) (by intro u hu;simp at hu;rcases hu with rfl|rfl|rfl|rfl|rfl<;>rfl) (by unfold maxLen;omega) (by omega) (by simp;omega) ?_;intro va wa gZ gV oP;clear oP))
   have tF:Below w.heap.size w wa:=(SQ.alloc aT5 _).grown gV (by simp;omega) (fun k hk=>(dW.lt k hk).1);have o9:wa.ownsRow w.heap.size 29 5 va (WT++[x]).length (bK (WT++[x])):=by simpa [bK,Ju] using gZ
   rw [<- HE.out] at o9;clear gZ gV;go_wp2;go_roundw
   case rel=>exact⟨j+1,by omega,by go_num,o9,tF⟩
   simp [intOf];omega
 have KA:j=xs.length:=by omega
 subst KA;rw [List.take_length] at aU;obtain⟨oa,oc,rfl⟩:=aT aU;go_wp2;go_ret;exact⟨_,rfl,aU,hb⟩
theorem aIm{xs:List Rr}{j:Nat}{x:Rr}(h:xs[j]? =some x)(hb:x.ty=6):dF (xs.take (j+1))=dF (xs.take j):=by
 rw [dF,List.take_add_one,h,List.filter_append];simp [dF,xM,hb]
theorem aLi{xs:List Rr}{j:Nat}{x:Rr}(h:xs[j]? =some x)(hb:x.ty≠6):dF (xs.take (j+1))=dF (xs.take j)++[x]:=by
 rw [dF,List.take_add_one,h,List.filter_append];simp [dF,xM,hb]
theorem aIn(xs:List Rr)(j:Nat):(dF (xs.take j)).length<=j:=by
 have h1:=List.length_filter_le (fun x=> !xM x) (xs.take j);have h2:=List.length_take_le j xs;unfold dF;omega
theorem SG(o:ByteArray)(v:Value)(ps:List Zp)(w:World)(h:gI w v ps)(hs:rG ps<=1048576)(hl:ps.length<=1048576):
 Calls Tryz.prog 18 #[.agg #[.string o,v]] w fun e w'=>∃ z,e=.returned z∧w'.ownsRow w.heap.size 29 5 z (dF (aD ps)).length (bK (dF (aD ps)))∧Below w.heap.size w w':=by
 obtain⟨i0,hi,iJ,fP,fZ⟩:=info_parts Tryz.KC;have hlen:=aIk ps;obtain⟨va,vc,rfl⟩:∃ va vc,v=.slice va ps.length vc:=by obtain⟨⟨_,a,c,e,_⟩,_⟩:=h;exact⟨a,c,e⟩
 have bb:=(aK w.heap.size w).alloc (aN _) (.cells #[.string o,.slice va ps.length vc] 25);have kb:=aR (aH w #[.string o,.slice va ps.length vc] 25) (.cells #[] 29);have o0:=World.ownsRow_lit (base:=w.heap.size) (e:=29) (size:=5) (w.alloc (.cells #[.string o,.slice va ps.length vc] 25)) #[] 0 bb.size (by decide) rfl;rw [fV] at o0;have b1:=bb.alloc bb.size (.cells #[] 29);have Jo:=jE o _ ps _ (h.below b1) hs hl;have r0:=fun i=>aA kb i
 generalize aD ps=xs at*;go_enter Tryz.func18,Tryz.ntmps18;go_wp2_with (go_at_call 32;refine Jo.mono ?_;rintro e w1 ⟨u,rfl,mF,fF⟩)
 have o1:=own_below o0 fF;have mO:=Nm.aC b1 fF;have z1:=mO.size;obtain⟨ba,bc,rfl⟩:=aT mF
 go_loopw [3,5] (fun vo i wr=>∃ (j:Nat),j<=xs.length∧i=.int .i64 (j:Int)∧wr.ownsRow w.heap.size 29 5 vo (dF (xs.take j)).length (bK (dF (xs.take j)))∧wr.ownsRow (w.heap.size+2) 29 5 (.slice ba xs.length bc) xs.length (bK xs)∧(∀ g,vo.ownBlock=some g->(Value.slice ba xs.length bc).ownBlock≠some g)∧Below w.heap.size w wr) (fun _ i _=>xs.length-(intOf i).toNat)
 case atStart=>
  refine⟨0,dO _,rfl,o1,by simpa using mF,fun g hg e=>?_,mO⟩;have h2:=(mF.lt g e).1;simp [Value.ownBlock] at hg
  simp at h2;omega
 obtain⟨j,hj,rfl,oO,oY,pW,aJ⟩:=hrel;clear o0 o1 Jo r0 kb mF b1 bb fF;have hwl:=aIn xs j;have hBw:=aJ.size
 by_cases bV:j<xs.length
 ·obtain⟨x,hx⟩:∃ x,xs[j]? =some x:=⟨_,bY bV⟩;obtain⟨_,ya,yc,hyv,aAw,aKc,hyc⟩:=bS.aS oY;simp only [iG] at hyv;obtain⟨rfl,_,rfl⟩:=hyv;obtain⟨b,off,rfl,aL⟩:=hyc (by omega);obtain⟨c0,c1,c2,c3,c4⟩:=gT aL hx;have i1:(0:Int)<=(j:Int):=by omega
  have i2:(j:Int)<(xs.length:Int):=by omega
  clear aL hyc
  by_cases h6:x.ty=6
  ·have h6b:(x.ty != 6)=false:=by simp [h6]
   have HO:=Nm.aF oO;rw [<- aIm hx h6] at HO;have HP:=Nm.aF pW;clear oO hx h6 pW;go_wp2;go_roundw
   case rel=>exact⟨j+1,by omega,by go_num,HO.out,oY,HP.out,aJ⟩
   simp [intOf];omega
  have h6b:(x.ty != 6)=true:=by simp [h6]
  have HE:=Nm.aF (aLi hx h6);clear hx h6;obtain⟨oa,oc,rfl⟩:=aT oO;obtain⟨xo,ty,cl,tt,da⟩:=x;simp only at c0 c1 c2 c3 c4 h6b
  generalize dF (xs.take j)=WT at*;go_wp2_with (at_builtin;refine wpList_append_own_at _ rfl (.tmp 21) (.tmp 26) 30 rfl w.heap.size 29 i0 _ 5 56 Tryz.underlying30 hi iJ fP fZ rfl (by decide) (.slice oa WT.length oc) WT.length (bK WT) rfl (own_below oO ((aK _ _).alloc (aN _) _)) ⟨wr.heap.size,0,none⟩ 1 1 [.string xo,.int .i64 ty,.int .i64 cl,.int .i64 tt,.string da] rfl rfl (dU _ _ _) (by intro u hu;simp at hu;rcases hu with rfl|rfl|rfl|rfl|rfl<;>rfl) (by unfold maxLen;omega) (by omega) (by simp;omega) ?_;intro ZP wa rF iF oP oQ)
  have o9:wa.ownsRow w.heap.size 29 5 ZP (WT++[(⟨xo,ty,cl,tt,da⟩:Rr)]).length (bK (WT++[(⟨xo,ty,cl,tt,da⟩:Rr)])):=by simpa [bK,Ju] using rF
  rw [<- HE.out] at o9;have oY2:=own_below oY ((aK _ _).alloc (aN _) (.cells #[.string xo,.int .i64 ty,.int .i64 cl,.int .i64 tt,.string da] 29))
  have oY3:wa.ownsRow (w.heap.size+2) 29 5 (.slice (some ⟨b,off,none⟩) xs.length bc) xs.length (bK xs):=by
   refine oY2.kept iF ?_
   cases hoa:(Value.slice oa WT.length oc).ownBlock with
   |none=>right;simp [Value.ownBlock]
   |some g=>right;exact pW g hoa
  have aPa:=(oY.lt b rfl).2
  have WN:∀ g,ZP.ownBlock=some g->(Value.slice (some ⟨b,off,none⟩) xs.length bc).ownBlock≠some g:=by
   intro g hg
   rcases oQ with h9|h9
   ·exact pW g (by rw [<- h9];exact hg)
   rw [h9] at hg;simp only [mP,Value.ownBlock,ne_eq] at hg ⊢;simp at hg;omega
  have b4:Below w.heap.size w wa:=(aJ.alloc hBw _).grown iF (by simp;omega) (fun g hg=>(oO.lt g hg).1);clear oQ oP iF oY oY2 oO pW rF aPa;go_wp2;go_roundw
  case rel=>exact⟨j+1,by omega,by go_num,o9,oY3,WN,b4⟩
  simp [intOf];omega
 have nS:j=xs.length:=by omega
 subst nS;rw [List.take_length] at oO;clear oY pW;obtain⟨oa,oc,rfl⟩:=aT oO;go_wp2;go_ret;exact⟨_,rfl,oO,aJ⟩
theorem JO(o:ByteArray)(v:Value)(ps:List Zp)(s:Sz)(d:ByteArray)(ds:List ByteArray)(w:World)(h:gI w v ps)(hl:ps.length<=1048576)(hf:∀ p∈ps,p.1.own.size<=1048576∧p.1.da.length<=1048576)(ho:o.size<=maxLen)(hs:rO (ps.map (·.1)) o 6=some s)(hd:s.da=d::ds)(hdz:d.size<=2000000):
 Calls Tryz.prog 17 #[.agg #[.string o,v]] w fun e w'=>e=.returned (.int .i64 (if bQ 6 d=0 then Hw d else 0))∧Below w.heap.size w w':=by
 obtain⟨va,vc,rfl⟩:∃ va vc,v=.slice va ps.length vc:=by obtain⟨⟨_,a,c,e,_⟩,_⟩:=h;exact⟨a,c,e⟩
 have b0:=(aK w.heap.size w).alloc (aN _) (.cells #[.string o,.slice va ps.length vc] 25);have k0:=aH w #[.string o,.slice va ps.length vc] 25;have Dk:=FY o o 6 (.slice va ps.length vc) ps _ (h.below b0) hl hf ho;rw [hs] at Dk;have r0:=fun i=>aA k0 i
 have hse:=fun W=>FP d W hdz
 generalize (if bQ 6 d=0 then Hw d else 0)=N at*;generalize (if bQ 6 d=0 then(0:Int) else 7)=M at*;clear h hf hs;obtain⟨x,ty,tt,da⟩:=s;simp only at hd ⊢
 subst hd;go_enter Tryz.func17,Tryz.ntmps17;go_wp2_with fail
 refine Dk.mono ?_;rintro e w1 ⟨u,rfl,mF,fF⟩;simp only [Option.getD_some,Option.isSome_some] at mF ⊢;obtain⟨ua,uc,eu⟩:=aT mF;subst eu;have mO:=Nm.aC b0 fF;have b2:=(aK w1.heap.size w1).alloc (aN _) (.cells #[.string x,.int .i64 ty,.int .i64 tt,.slice ua (d::ds).length uc] 60);have kB:=aH w1 #[.string x,.int .i64 ty,.int .i64 tt,.slice ua (d::ds).length uc] 60;have rB:=fun i=>aA kB i
 have vO:=Nm.aF (Nm.aC mO b2);obtain⟨a9,c9,e9,-,-,-,De⟩:=(Nm.dX.aS mF).below b2;simp only [iG] at e9;obtain⟨rfl,_,rfl⟩:=e9;obtain⟨gb,go,rfl,aL⟩:=De (by simp);have d0:=aL 0 d rfl;rw [Nat.add_zero] at d0;have Ty:(0:Int)<(((d::ds).length:Nat):Int):=by simp;try omega
 generalize (d::ds).length=RL at*;clear Dk k0 r0 b0 fF mF mO aL De kB b2;go_wp2_with (go_at_call 36;refine(hse _).mono ?_;rintro e w3 ⟨rfl,DN⟩)
 go_ret;exact⟨rfl,Nm.aC vO.out DN⟩
