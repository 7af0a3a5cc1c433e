import Derived.Test.YtlddifpnkeafpaaGreatJTrE
import Derived.Test.YtlddifpnkeafpaaGreatJTake2
set_option linter.unusedVariables false
set_option maxRecDepth 100000
set_option maxHeartbeats 3200000
namespace Go.Proofs.YtlddifpnkeafpaaGreat
open Go.RowKit
def oV(t:Int)(d:ByteArray):ByteArray:=if fH t d=0 then Dt.Jd t d else⟨#[]⟩
variable {d:ByteArray}{o:dG}{t:Int}
theorem Gz(h:fH t d≠0):oV t d=⟨#[]⟩:=by rw [oV,if_neg h]
theorem Ha{sp:List (Nat×Nat)}(h:BP t d=some sp):Dt.spans (Dt.nX t) 0 d=some sp∧d.size<=65535:=by
 rw [BP] at h
 split at h
 ·cases h
 split at h
 ·cases h
 exact⟨h,by omega⟩
theorem Yj{sp:List (Nat×Nat)}(h:BP t d=some sp):oV t d=⟨(Dt.oQ sp d.data.toList).toArray⟩:=by
 rw [oV,if_pos (SV.2 ⟨sp,h⟩),Dt.Jd,(Ha h).1]
theorem TD(t:Int)(d:ByteArray)(w:World)(hd:d.size<=2000000):
 Calls Tryz.prog 173 #[.int .i64 t,.string d] w fun e w'=>e=.returned (.string (oV t d))∧Below w.heap.size w w':=by
 have aX:=VG t d w hd
 by_cases hq:fH t d=0
 ·obtain⟨sp,lC⟩:=SV.1 hq;have HR:=Nm.aD (Yj lC)
  have kY:∀ s∈sp,s.1<=s.2∧s.2<=d.size:=by
   intro s hs;have:=aD3 _ _ _ _ (Ha lC).1 s hs;omega
  have aQ0:sp.length<=1000000:=by
   have h1:=aH5 t d;rw [lC] at h1;simp at h1;omega
  rw [hq] at aX
  have aX:Calls Tryz.prog 183 #[.int .i64 t,.string d] w fun e w'=>∃ v,e=.returned (.tuple #[v,.int .i64 0])∧dZ w' v sp.length 2 (spanCells sp)∧Below w.heap.size w w':=by
   refine aX.mono ?_;rintro e w' ⟨v,rfl,h1,_,h2⟩;exact⟨v,rfl,dZ.aP (h1 sp lC),h2⟩
  clear hq lC;go_enter Tryz.func173,Tryz.ntmps173;go_wp2_with (first|(go_at_call 183;refine aX.mono ?_;rintro e w2 ⟨v,rfl,dI,aG⟩)|(go_at_call 190;refine(Ei d v sp w2 dI kY (by omega) aQ0).mono ?_;rintro e w3 ⟨rfl,SX⟩))
  go_ret;rw [HR.out];exact⟨rfl,Nm.aC aG SX⟩
 have HR:=Nm.aD (Gz hq);have hb:(fH t d != 0)=true:=by rw [bne_iff_ne];exact hq
 generalize fH t d=c at*;clear hq;go_enter Tryz.func173,Tryz.ntmps173;go_wp2_with (go_at_call 183;refine aX.mono ?_;rintro e w2 ⟨v,rfl,_,_,aG⟩)
 go_ret;rw [HR.out];exact⟨rfl,aG⟩
def GAt(fs:List Dt.Pc)(ps:List ByteArray)(o:ByteArray)(k:Nat):Prop:=
 Dt.GY fs ps=o.data.toList++Dt.GY (fs.drop k) (ps.drop k)
theorem aAx(fs:List Dt.Pc)(ps:List ByteArray):GAt fs ps ⟨#[]⟩ 0:=by simp [GAt]
theorem aEm{fs:List Dt.Pc}{ps:List ByteArray}{o:ByteArray}{k:Nat}{p:Dt.Pc}{x:ByteArray}(h:GAt fs ps o k)(hp:fs[k]? =some p)(hx:ps[k]? =some x):
 GAt fs ps (o++if p.NB then Nm.small x else x) (k+1):=by
 obtain⟨h1,e1⟩:=dL hp;obtain⟨h2,e2⟩:=dL hx;rw [GAt,h,List.drop_eq_getElem_cons h1,List.drop_eq_getElem_cons h2,e1,e2,Dt.GY];cases p.NB<;>simp [Nm.eF]
theorem aIf{fs:List Dt.Pc}{ps:List ByteArray}{o:ByteArray}{k:Nat}(h:GAt fs ps o k)(hk:ps.length<=k):o=⟨(Dt.GY fs ps).toArray⟩:=by
 rw [h,List.drop_eq_nil_of_le hk];have e:Dt.GY (fs.drop k) []=[]:=by cases fs.drop k<;>simp [Dt.GY]
 rw [e];apply Nm.lL;simp
theorem TE(t:Int)(d:ByteArray)(w:World):
 Calls Tryz.prog 81 #[.int .i64 t,.string d] w fun e w'=>e=.returned (.string (oV t d))∧Below w.heap.size w w':=by
 have aX:=fun w=>zV t d w
 by_cases hq:fH t d=0
 ·obtain⟨ps,RG,rT,hds⟩:=Xn hq;obtain⟨hfl,aNc,WJ⟩:=Dt.Gj _ _ _ RG;have Kk:=fun w=>PU (Dt.nW t) d w (XR t) hds
  have IR:=GZ t;have aNd:=XR t
  have aNb:∀ x∈ps,x.size<=65535:=by
   intro x hx;have h1:=aH4 ps x hx;rw [aNc] at h1;simp at h1;omega
  have nZ:ps.length<=100:=by
   have h1:=aNd.1;rw [<- hfl,Dt.qH];simpa using h1
  have hplf:ps.length<=(Dt.nW t).size:=by
   rw [<- hfl,Dt.qH];simp
  have mI:=aAx (Dt.qH t) ps
  have WF:∀ (o:ByteArray) (k:Nat),GAt (Dt.qH t) ps o k->ps.length<=k->oV t d=o:=by
   intro o k h1 h2;rw [aIf h1 h2,oV,if_pos hq,Dt.Ov RG]
  have NJ:∀ (k:Nat) (hk:k<(Dt.nW t).size),(Dt.qH t)[k]? =some (Dt.uF (Dt.nW t)[k]):=by
   intro k hk;rw [Dt.qH,List.getElem?_map,Nm.lF hk];rfl
  have zL:∀ (o:ByteArray) (k:Nat) (x:ByteArray),GAt (Dt.qH t) ps o k->(hk:k<(Dt.nW t).size)->ps[k]? =some x->GAt (Dt.qH t) ps (o++if decide ((Dt.nW t)[k].toNat=110) then Nm.small x else x) (k+1):=by
   intro o k x h1 hk hx;have:=aEm h1 (NJ k hk) hx
   rwa [N8] at this
  have aJ5:∀ (k:Nat) (x:ByteArray),(hk:k<(Dt.nW t).size)->ps[k]? =some x->(Dt.nW t)[k].toNat=110->Nm.dV x=Nm.small x:=by
   intro k x hk hx hN;have h1:=WJ k _ x (NJ k hk) hx (by rw [N8,hN];rfl);obtain⟨ls,hls⟩:=Option.isSome_iff_exists.1 h1;exact Nm.oK hls
  rw [Dt.qH] at RG;rw [hq] at aX;have HE:=Nm.aD WF;have HS:=Nm.aD zL;have HF:=Nm.aD aJ5;clear WF zL aJ5 NJ WJ rT hfl aNc hq aNd;generalize Dt.nW t=f at*
  have Kk:∀ w:World,Calls Tryz.prog 125 #[.string f,.string d] w fun e w'=>∃ v,e=.returned (.tuple #[v,.bool true])∧dZ w' v ps.length 1 (ps.map Value.string)∧Below w.heap.size w w':=by
   intro w;refine(Kk w).mono ?_;rintro e w' ⟨v,rfl,h1,h2⟩;exact⟨v,by rw [RG];rfl,dZ.aP (h1 _ RG),h2⟩
  clear RG;generalize oV t d=FR at*;go_enter Tryz.func81,Tryz.ntmps81;go_wp2_with (first|(go_at_call 123;refine(aX _).mono ?_;rintro e w1 ⟨rfl,fJ⟩)|(go_at_call 124;refine(IR _).mono ?_;rintro e w2 ⟨rfl,hw⟩;obtain rfl:w1=w2:=hw.symm;clear hw)|(go_at_call 125;refine(Kk _).mono ?_;rintro e w3 ⟨vp,rfl,dI,SX⟩))
  have aQ1:Below w.heap.size w w3:=Nm.aC fJ SX;obtain⟨_,ap,capp,rfl,hcapp,hmxp,hc⟩:=dI;clear aX Kk IR fJ SX
  go_loopw [8,9] (fun v i wr=>∃ (k:Nat) (o:ByteArray),k<=ps.length∧i=.int .i64 k∧v=.string o∧o.size<=k*65535∧Hid (GAt (Dt.qH t) ps o k)∧Below w3.heap.size w3 wr)
   (fun _ i _=>ps.length-(intOf i).toNat)
  ·exact⟨0,⟨#[]⟩,dR _,rfl,rfl,by show 0<=_;omega,mI,aJ _ _⟩
  obtain⟨k,o,hk,rfl,rfl,ho,HA,aG⟩:=hrel;clear mI
  by_cases bY:k<ps.length
  ·have SE:(k:Int)<(ps.length:Int):=by omega
   obtain⟨x,hx⟩:=gQ bY;have Pf:=aNb x (dA hx);have hkf:k<f.size:=by omega
   have hkf':(k:Int)<(f.size:Int):=by omega
   have HX:=Nm.aD (HS.out o k x HA.out hkf hx);obtain⟨b,off,rfl,aH⟩:=hc (by omega);have aKw:=aH k (.string x) (by simp [hx]);have vS:wr.cell? ⟨b,off+k,none⟩=some (.string x):=(aG.cell (fD w3 _ aKw)).trans aKw;have hFN:=HF.out k x hkf hx;clear hc aH hx aKw
   by_cases hN:f[k].toNat=110
   ·have q1:((f[k].toNat:Int)==110)=true:=by rw [beq_iff_eq];omega
    simp only [hN,decide_true,if_true] at HX;have hfn:=fun w=>mE x w (by unfold maxLen;omega)
    rw [hFN hN] at hfn;have XE:=Nm.qW x;generalize Nm.small x=y at*;have aEn:o.size+y.size<=9223372036854775807:=by omega
    clear hN HA hFN HF HS;go_wp2_with (go_at_call 31;refine(hfn _).mono ?_;rintro e w4 ⟨rfl,rG⟩;have HB:Hid (Below w3.heap.size w3 w4):=Nm.aC aG rG;clear rG)
    go_roundw
    ·exact⟨k+1,_,by omega,by go_num,rfl,by simp;omega,HX,HB.out⟩
    simp [intOf];omega
   have q1:((f[k].toNat:Int)==110)=false:=by rw [fC];omega
   simp only [hN,decide_false,Bool.false_eq_true,if_false] at HX;have aEn:o.size+x.size<=9223372036854775807:=by omega
   clear hN HA hFN HF HS;go_wp2;go_roundw
   ·exact⟨k+1,_,by omega,by go_num,rfl,by simp;omega,HX,aG⟩
   simp [intOf];omega
  have SE:(ps.length:Int)<=(k:Int):=by omega
  have HR:=Nm.aD (HE.out o k HA.out (by omega));clear hc;go_wp2;go_ret;rw [HR.out];exact⟨rfl,Nm.aC aQ1 aG⟩
 have HR:=Nm.aD (Gz hq);have hb:(fH t d != 0)=true:=by rw [bne_iff_ne];exact hq
 generalize fH t d=c at*;clear hq;go_enter Tryz.func81,Tryz.ntmps81;go_wp2_with (go_at_call 123;refine(aX _).mono ?_;rintro e w1 ⟨rfl,fJ⟩)
 go_ret;rw [HR.out];exact⟨rfl,fJ⟩
theorem Qu{b:Nat}:∀ (vs:List Value) (i:Nat) (w:World),dN [b] w (bG w b i vs):=by
 intro vs
 induction vs with
 |nil=>intro i w;exact⟨rfl,rfl,rfl,aI _,fun _ _ _=>rfl⟩
 |cons v vs ih=>
  intro i w;have h1:dN [b] w (w.setCell ⟨b,i,none⟩ v):=⟨rfl,rfl,rfl,by simp,fun k _ hk=>heap_setCell_other w ⟨b,i,none⟩ k _ (by simpa using hk)⟩;exact h1.trans (ih (i+1) _) (fun k hk=>.inl hk)
theorem aEo{W:World}{b:Nat}{x0 x1 x2 x3:Value}{ok:Bool}{R:Ending->World->Prop}{a:Act}(h:bW W b #[x0,x1,x2,x3] 201)
 (h2:a.tmps[8]? =some (.pointer (some ⟨b,0,none⟩))) (h3:a.tmps[9]? =some (.bool ok)) (hd:a.defers=[])
 (hR:R (.returned (.tuple #[.agg #[x0,x1,x2,x3],.bool ok])) W):bodyPost Tryz.prog Tryz.f137 R .ret a W:=by
 refine eB ?_ hd hR;have r:=aA h
 simp [results,Tryz.results137,go_sem,Result.andThen,r,h2,h3]
theorem Am{Pr G:World->Prop}{W:World}(h:Pr W)(k:∀ W,Pr W->G W):G W:=k W h
def aKx(own:ByteArray)(lv:Value)(lab:List ByteArray)(ty tt:Int)(at_:Nat)(fd da:ByteArray)(os os':List dG)(ob sb:Nat)(fV:Bool):Prop:=
 ∃ (o1:dG) (os1:List dG) (s2:nY) (LK:List nY) (rv2 rv3:Value),aAm own lv lab os o1 os1∧aAk ty tt at_ o1.ss s2 LK∧ob=o1.dS∧sb=s2.dS∧fV= !gY (sK fd) s2.da∧
   os'=os1.set (posOf (dX lab) os) {o1 with rv:=rv2,ss:=LK.set (posOf (eP ty) o1.ss) {s2 with rv:=rv3,da:=ZI (sK fd) (fd,da) s2.da}}
theorem aAm.at{own:ByteArray}{lv:Value}{lab:List ByteArray}{l l':List dG}(h:aAm own lv lab l o l')(hp:posOf (dX lab) l<=l.length):l'[posOf (dX lab) l]? =some o:=by
 rcases h with⟨_,rfl,h1,_⟩|⟨_,rfl,_⟩
 ·exact h1
 have hl:(l.take (posOf (dX lab) l)).length=posOf (dX lab) l:=by rw [List.length_take];omega
 rw [mR,List.append_assoc,List.getElem?_append_right (by omega),hl];simp
theorem aAk.at{ty tt:Int}{at_:Nat}{l l':List nY}{s:nY}(h:aAk ty tt at_ l s l')(hp:posOf (eP ty) l<=l.length):l'[posOf (eP ty) l]? =some s:=by
 rcases h with⟨_,rfl,h1,_⟩|⟨_,rfl,_⟩
 ·exact h1
 have hl:(l.take (posOf (eP ty) l)).length=posOf (eP ty) l:=by rw [List.length_take];omega
 rw [mR,List.append_assoc,List.getElem?_append_right (by omega),hl];simp
theorem Qv{α:Type}(f:α->Int)(l:List α):posOf f l<=l.length:=by
 unfold posOf;exact List.Sublist.length_le (List.takeWhile_sublist _)
theorem aEp{th:Nat}{rv:Value}{os:List dG}{p:Nat}(h:(jF th rv os).Nodup)(hp:os[p]? =some o):(qE o).Nodup∧∀ b∈qE o,b∈jF th rv os:=by
 have hm:=dA hp;obtain⟨e1,_⟩:=KM hp o;constructor
 ·rw [jF,e1] at h;simp only [List.flatMap_append,List.flatMap_cons,List.flatMap_nil,List.append_nil,List.nodup_cons,List.nodup_append] at h;exact h.2.2.1.1.2.1
 intro b hb;simp only [jF,List.mem_cons,List.mem_append,List.mem_flatMap];exact .inr (.inr ⟨o,hm,hb⟩)
theorem aKy{j:Nat}{s:nY}(h:(qE o).Nodup)(hp:o.ss[j]? =some s):(xH s).Nodup∧∀ b∈xH s,b∈qE o:=by
 have hm:=dA hp;obtain⟨e1,_⟩:=KM hp s;constructor
 ·rw [qE,e1] at h;simp only [List.flatMap_append,List.flatMap_cons,List.flatMap_nil,List.append_nil,List.nodup_cons,List.nodup_append] at h;exact h.2.2.2.1.1.2.1
 intro b hb;simp only [qE,List.mem_cons,List.mem_append,List.mem_flatMap];exact .inr (.inr (.inr ⟨s,hm,hb⟩))
def Yk(os:List dG):Prop:=Jz os∧∀ o∈os,VE o.ss∧o.ss.length<=400000∧∀ s∈o.ss,DaS s.da∧s.da.length<=400000
theorem aAm.sets{own:ByteArray}{lv:Value}{lab:List ByteArray}{l l':List dG}(h:aAm own lv lab l o l')(hd:Yk l):VE o.ss∧o.ss.length<=400000∧∀ s∈o.ss,DaS s.da∧s.da.length<=400000:=by
 rcases h with⟨_,_,h1,_⟩|⟨_,_,_,_,_,h1⟩
 ·exact hd.2 o (dA h1)
 rw [h1];exact⟨List.Pairwise.nil,by simp,by simp⟩
theorem aAk.data{ty tt:Int}{at_:Nat}{l l':List nY}{s:nY}(h:aAk ty tt at_ l s l')(hd:∀ s∈l,DaS s.da∧s.da.length<=400000):DaS s.da∧s.da.length<=400000:=by
 rcases h with⟨_,_,h1,_⟩|⟨_,_,_,_,_,h1⟩
 ·exact hd s (dA h1)
 rw [h1];exact⟨List.Pairwise.nil,by simp⟩
theorem aIg(bb oo th:Nat)(rv:Value)(os:List dG)(B at_:Nat)(r:Rr)(la:Option Addr)(ln lc:Nat)(lab:List ByteArray)(w:World)(h:nQ w B th rv os)(hB:B<=w.heap.size)(hl:os.length<=400000)(hd:Yk os)
 (jD:mU w (jF th rv os) os) (IQ:PV w (jF th rv os) (.slice la ln lc) lab) (hc:w.cell? ⟨bb,oo+1,none⟩=some (ptr th)) (zH:bb∉jF th rv os) (aU:r.own.size<=1000000000) (MN:r.da.size<=2000000) (jH:at_<=1000000):
 Calls Tryz.prog 137 #[.pointer (some ⟨bb,oo,none⟩),.int .i64 (at_:Int),.agg #[.string r.own,.int .i64 r.ty,.int .i64 r.cl,.int .i64 r.tt,.string r.da],.slice la ln lc] w fun e w'=>∃ (ob sb:Nat) (fV:Bool) (rv':Value) (os':List dG),
  e=.returned (.tuple #[.agg #[.int .i64 (at_:Int),.int .i64 r.ty,ptr ob,ptr sb],.bool fV])∧aKx r.own (.slice la ln lc) lab r.ty r.tt at_ (oV r.ty r.da) r.da os os' ob sb fV∧nQ w' B th rv' os'∧dN (jF th rv os) w w'∧∀ b∈jF th rv' os',b∈jF th rv os∨w.heap.size<=b:=by
 have X:=Nm.aD (show ∀ W,W=(((w.alloc (.cells #[.int .i64 (at_:Int)] 3)).alloc (.cells #[.string r.own,.int .i64 r.ty,.int .i64 r.cl,.int .i64 r.tt,.string r.da] 133)).alloc (.cells #[.slice la ln lc] 63)).alloc (.cells #[.int .i64 0,.int .i64 0,.pointer none,.pointer none] 201)->
  bW W w.heap.size #[.int .i64 (at_:Int)] 3∧bW W (w.heap.size+1) #[.string r.own,.int .i64 r.ty,.int .i64 r.cl,.int .i64 r.tt,.string r.da] 133∧bW W (w.heap.size+2) #[.slice la ln lc] 63∧bW W (w.heap.size+3) #[.int .i64 0,.int .i64 0,.pointer none,.pointer none] 201∧Below w.heap.size w W∧W.heap.size=w.heap.size+4 from by
  rintro W rfl;have s1:(w.alloc (.cells #[.int .i64 (at_:Int)] 3)).heap.size=w.heap.size+1:=by simp
  have s2:((w.alloc (.cells #[.int .i64 (at_:Int)] 3)).alloc (.cells #[.string r.own,.int .i64 r.ty,.int .i64 r.cl,.int .i64 r.tt,.string r.da] 133)).heap.size=w.heap.size+2:=by simp
  have s3:(((w.alloc (.cells #[.int .i64 (at_:Int)] 3)).alloc (.cells #[.string r.own,.int .i64 r.ty,.int .i64 r.cl,.int .i64 r.tt,.string r.da] 133)).alloc (.cells #[.slice la ln lc] 63)).heap.size=w.heap.size+3:=by simp
  have k1:=aK w #[.int .i64 (at_:Int)] 3;have k2:=aK (w.alloc (.cells #[.int .i64 (at_:Int)] 3)) #[.string r.own,.int .i64 r.ty,.int .i64 r.cl,.int .i64 r.tt,.string r.da] 133;have k3:=aK ((w.alloc (.cells #[.int .i64 (at_:Int)] 3)).alloc (.cells #[.string r.own,.int .i64 r.ty,.int .i64 r.cl,.int .i64 r.tt,.string r.da] 133)) #[.slice la ln lc] 63;have k4:=aK (((w.alloc (.cells #[.int .i64 (at_:Int)] 3)).alloc (.cells #[.string r.own,.int .i64 r.ty,.int .i64 r.cl,.int .i64 r.tt,.string r.da] 133)).alloc (.cells #[.slice la ln lc] 63)) #[.int .i64 0,.int .i64 0,.pointer none,.pointer none] 201;rw [s1] at k2;rw [s2] at k3;rw [s3] at k4;refine⟨bD (bD (bD k1 _) _) _,bD (bD k2 _) _,bD k3 _,k4,?_,by simp⟩
  exact((((aJ w.heap.size w).alloc (aI _) _).alloc (by simp) _).alloc (by simp;omega) _).alloc (by simp;omega) _)
 have hmf:∀ (fn:Fn) (first cap:Array Value) (w:World),(Instr.makeFunc fn first cap).run Tryz.prog w=.ok (.func fn first cap) w:=fun _ _ _ _=>rfl
 have HH:=Nm.aD (aV h (aV hB (aV hd (aV jD IQ))));clear h hB hd jD IQ;go_enter Tryz.func137,Tryz.ntmps137;go_wp2;refine Am (Pr:=fun W=>bW W w.heap.size #[.int .i64 (at_:Int)] 3∧bW W (w.heap.size+1) #[.string r.own,.int .i64 r.ty,.int .i64 r.cl,.int .i64 r.tt,.string r.da] 133∧bW W (w.heap.size+2) #[.slice la ln lc] 63∧bW W (w.heap.size+3) #[.int .i64 0,.int .i64 0,.pointer none,.pointer none] 201∧Below w.heap.size w W∧W.heap.size=w.heap.size+4) (G:=fun W=>Code.wp _ _ _ _ W) (X.out _ rfl) ?_;rintro w0 ⟨ka,kr,kl,kd,b0,Nq⟩;clear X;have HS0:=Nm.aD Nq;clear Nq;have T0:=HH.out.1.below b0;have hfp:∀ b∈jF th rv os,b<w.heap.size:=HH.out.1.lt
 have PG:∀ W,dN (jF th rv os) w0 W->W.cell? ⟨bb,oo+1,none⟩=some (.pointer (some ⟨th,0,none⟩)):=fun W hW=>by
  have bY:=fD w _ hc;rw [World.cell?_of_block (w:=w0) (hW.block bb (vF bY b0.size) zH),World.cell?_of_block (w:=w) (b0.block bb bY)];exact hc
 have PQ:∀ W,dN (jF th rv os) w0 W->bW W w.heap.size #[.int .i64 (at_:Int)] 3∧bW W (w.heap.size+1) #[.string r.own,.int .i64 r.ty,.int .i64 r.cl,.int .i64 r.tt,.string r.da] 133∧bW W (w.heap.size+2) #[.slice la ln lc] 63∧bW W (w.heap.size+3) #[.int .i64 0,.int .i64 0,.pointer none,.pointer none] 201:=fun W hW=>by
  have g:∀ b,w.heap.size<=b->b∉jF th rv os:=fun b hb hm=>by have:=hfp b hm;omega
  exact⟨lJ ka (hW.block _ (cO ka) (g _ (by omega))),lJ kr (hW.block _ (cO kr) (g _ (by omega))),lJ kl (hW.block _ (cO kl) (g _ (by omega))),lJ kd (hW.block _ (cO kd) (g _ (by omega)))⟩
 have O0:dN (jF th rv os) w0 w0.drew:=dN.below (aJ _ _).drew;have aNe:PV w0.drew (jF th rv os) (.slice la ln lc) lab:=HH.out.2.2.2.2.outs (dN.below b0.drew) (fun b hb=>.inl hb);have aNf:mU w0.drew (jF th rv os) os:=fun o ho=>(HH.out.2.2.2.1 o ho).outs (dN.below b0.drew) (fun b hb=>.inl hb)
 have uH:=aAn th rv os B (w.heap.size+1) (w.heap.size+2) r.own la ln lc lab (.int .i64 r.ty) (.int .i64 r.cl) (.int .i64 r.tt) (.string r.da) w0.drew (T0.below (aJ _ _).drew) (jN HH.out.2.1 b0.size) (by omega) HH.out.2.2.1.1 aNf aNe (PQ _ O0).2.1 (PQ _ O0).2.2.1 aU;unfold ptr at uH;clear aNf aNe hc ka kr kl kd;refine kR (fun W=>W.cell? ⟨bb,oo+1,none⟩=some (.pointer (some ⟨th,0,none⟩))∧W.cell? ⟨w.heap.size+2,0,none⟩=some (.slice la ln lc)∧True) 1000 ⟨PG _ O0,aA (PQ _ O0).2.2.1 0,trivial⟩ fun aY=>?_;refine kB 0 rfl ?_;refine kB 1 rfl ?_;refine kB 2 rfl ?_;refine kB 3 rfl ?_;refine kB 4 rfl ?_;refine kB 5 rfl ?_;refine k1 6 rfl fun K hK=>?_
 go_simp;refine uH.mono ?_;rintro e w1 ⟨o1,rv1,os1,rfl,hG1,T1,O1,M1⟩;go_wp2_with fail
 have O1':dN (jF th rv os) w0 w1:=O0.trans O1 (fun k hk=>.inl hk);refine hK.out _ _ ⟨PG _ O1',aA (PQ _ O1').2.2.1 0,trivial⟩ fun aY=>?_;clear hK K uH;refine kB 7 rfl ?_;refine kN ?_;have BX:=hG1.at (Qv _ _);have ow1:=T1.jG o1 (dA BX);obtain⟨nd1,sub1⟩:=aEp T1.nodup BX;obtain⟨sS1,sL1,sD1⟩:=hG1.sets HH.out.2.2.1;have aQ2:B<=w1.heap.size:=jN HH.out.2.1 (jN b0.size O1'.size);have Ez:=aH7 o1 B (w.heap.size+1) w.heap.size at_ r.ty r.tt (.string r.own) (.int .i64 r.ty) (.int .i64 r.cl) (.string r.da) w1.drew (ow1.keep (fun b _=>rfl)) nd1 aQ2 (by omega) sS1 (fO (PQ _ O1').2.1) (fO (PQ _ O1').1);unfold ptr at Ez;have Yl:∀ W,Below w1.heap.size w1 W->W.cell? ⟨o1.dS,2,none⟩=some (.pointer (some ⟨o1.hd,0,none⟩))∧W.cell? ⟨w.heap.size+1,1,none⟩=some (.int .i64 r.ty):=fun W hW=>⟨aA (aB ow1.node hW) 2,aA (aB (PQ _ O1').2.1 hW) 1⟩
 have HT1:=Nm.aD (aV T1 (aV O1' (aV M1 hG1)));clear T1 O1 M1 hG1 T0;go_wp2;refine kR (fun W=>W.cell? ⟨o1.dS,2,none⟩=some (.pointer (some ⟨o1.hd,0,none⟩))∧W.cell? ⟨w.heap.size+1,1,none⟩=some (.int .i64 r.ty)∧True) 1000 ⟨(Yl _ (aJ _ _).drew).1,(Yl _ (aJ _ _).drew).2,trivial⟩ fun aY=>?_;refine kB 0 rfl ?_;refine kB 1 rfl ?_;refine kB 2 rfl ?_;refine kB 3 rfl ?_;refine kB 4 rfl ?_;refine kB 5 rfl ?_;refine kB 6 rfl ?_;refine k1 7 rfl fun K hK=>?_
 go_simp;refine Ez.mono ?_;rintro e w2 ⟨s2,rv2,LK,rfl,hG2,ow2,nd2,O2,M2⟩;go_wp2_with fail
 have O2':dN (qE o1) w1 w2:=(dN.below (aJ _ _).drew).trans O2 (fun k hk=>.inl hk);have O12:dN (jF th rv os) w0 w2:=HT1.out.2.1.trans O2' (fun k hk=>HT1.out.2.2.1 k (sub1 k hk));obtain⟨T2,M2'⟩:=Qo HT1.out.1 BX ow2 rfl rfl nd2 M2 O2' (fun b hb _=>hb);refine hK.out _ _ ⟨aA ow2.node 2,aA (PQ _ O12).2.1 1,trivial⟩ fun aY=>?_;clear hK K Ez;refine kB 8 rfl ?_;refine kN ?_;have hj2:=hG2.at (Qv _ _);have se2:=ow2.sets s2 (dA hj2);have aNg:({o1 with rv:=rv2,ss:=LK}:dG).ss[posOf (eP r.ty) o1.ss]? =some s2:=hj2;obtain⟨ns2,uQ⟩:=aKy nd2 aNg;obtain⟨dS2,dL2⟩:=hG2.data sD1;have k3:=aK w2 #[.bool false] 4;have b3:Below w2.heap.size w2 (w2.alloc (.cells #[.bool false] 4)):=(aJ _ _).alloc (aI _) _;have HT2:=Nm.aD (aV T2 (aV M2' (aV O12 (aV hG2 (aV ow2 nd2)))));have aNh:w0.heap.size<=w2.heap.size:=O12.size;clear T2 M2' O2 O2' M2 hG2 Yl;go_wp2;refine Am (Pr:=fun W=>bW W w2.heap.size #[.bool false] 4∧Below w2.heap.size w2 W) (G:=fun W=>Code.wp _ _ _ _ W) ⟨k3,b3⟩ ?_;rintro w3 ⟨kn3,Fa⟩;clear k3 b3;have hsz23:w2.heap.size<w3.heap.size:=cO kn3;have se3:=se2.keep (fun b hm=>Fa.block b (se2.lt b hm));have O13:dN (jF th rv os) w0 w3:=O12.trans (dN.below (fp:=[]) Fa) (fun k hk=>by cases hk);have Hd:∀ W,Below w3.heap.size w3 W->W.cell? ⟨s2.dS,2,none⟩=some (.pointer (some ⟨s2.hd,0,none⟩))∧W.cell? ⟨w.heap.size+1,1,none⟩=some (.int .i64 r.ty)∧W.cell? ⟨w.heap.size+1,4,none⟩=some (.string r.da):=fun W hW=>⟨aA (aB se3.node hW) 2,aA (aB (PQ _ O13).2.1 hW) 1,aA (aB (PQ _ O13).2.1 hW) 4⟩
 have Na:=fun W=>TD r.ty r.da W MN
 have aKz:=fun W (hW:Below w3.heap.size w3 W)=>aD2 s2 B w2.heap.size (w.heap.size+1) (oV r.ty r.da) r.da (.string r.own) (.int .i64 r.ty) (.int .i64 r.cl) (.int .i64 r.tt) W (se3.keep (fun b hm=>hW.block b (se3.lt b hm))) (by have:=hW.size;have:=HH.out.2.1;have:=b0.size;omega) (by omega) dS2 (aB kn3 hW) (aB (PQ _ O13).2.1 hW) (by omega)
 unfold ptr at aKz;refine kR (fun W=>W.cell? ⟨s2.dS,2,none⟩=some (.pointer (some ⟨s2.hd,0,none⟩))∧W.cell? ⟨w.heap.size+1,1,none⟩=some (.int .i64 r.ty)∧W.cell? ⟨w.heap.size+1,4,none⟩=some (.string r.da)) 1000 (Hd _ (aJ _ _).drew) fun aY=>?_;refine kB 0 rfl ?_;refine kB 1 rfl ?_;refine kB 2 rfl ?_;refine kB 3 rfl ?_;refine kB 4 rfl ?_;refine kB 5 rfl ?_;refine kB 6 rfl ?_;refine kB 7 rfl ?_;refine kB 9 rfl ?_;refine k1 8 rfl fun K hK=>?_
 go_simp;refine(Na _).mono ?_;rintro e w4 ⟨rfl,b4⟩;go_wp2_with fail
 have b34:Below w3.heap.size w3 w4:=Nm.aC (aJ _ _).drew b4;refine hK.out _ _ (Hd _ b34) fun aY=>?_;clear hK K Na;refine k1 10 rfl fun K hK=>?_
 go_simp;refine(aKz _ b34).mono ?_;rintro e w5 ⟨dv,rv3,rfl,se5,kn5,O5,M5⟩;go_wp2_with fail
 have aK0:Below w2.heap.size w2 w4:=Fa.trans (b34.mono (by omega));have O25:dN (w2.heap.size::xH s2) w2 w5:=(dN.below aK0).trans O5 (fun k hk=>.inl hk)
 have ns3:(xH {s2 with rv:=rv3,da:=ZI (sK (oV r.ty r.da)) (oV r.ty r.da,r.da) s2.da}).Nodup:=by
  have h1:=ns2;simp only [xH,List.nodup_cons,List.mem_cons,not_or] at h1 ⊢;have e1:=dD se5.rows se5.node (by decide);have e2:=dD se5.rows se5.head (by decide);refine⟨⟨h1.1.1,fun hm=>e1 ?_⟩,fun hm=>e2 ?_,Ae _⟩
  ·simpa using hm
  simpa using hm
 have hm5:∀ b∈xH {s2 with rv:=rv3,da:=ZI (sK (oV r.ty r.da)) (oV r.ty r.da,r.da) s2.da},b∈xH s2∨w2.heap.size<=b:=by
  intro b hb;simp only [xH,List.mem_cons] at hb
  rcases hb with rfl|rfl|hb
  ·left;simp [xH]
  ·left;simp [xH]
  rcases M5 b hb with h1|h1
  ·exact .inl h1
  right;have:=aK0.size;omega
 have hFo:∀ b∈w2.heap.size::xH s2,b∈qE {o1 with rv:=rv2,ss:=LK}->b∈xH s2:=by
  intro b hb hbo
  rcases List.mem_cons.1 hb with rfl|hb
  ·have:=HT2.out.2.2.2.2.1.lt _ hbo;omega
  exact hb
 obtain⟨ow5,nd5,M5'⟩:=aKs HT2.out.2.2.2.2.1 HT2.out.2.2.2.2.2 aNg se5 rfl rfl ns3 hm5 O25 hFo
 have aEq:(os1.set (posOf (dX lab) os) {o1 with rv:=rv2,ss:=LK})[posOf (dX lab) os]? =some {o1 with rv:=rv2,ss:=LK}:=by
  rw [List.getElem?_set_self (dL BX).1]
 obtain⟨T5,M6⟩:=Qo HT2.out.1 aEq ow5 rfl rfl nd5 M5' O25 (fun b hb hbT=>by
  rcases List.mem_cons.1 hb with rfl|hb
  ·have:=HT2.out.1.lt _ hbT;omega
  exact uQ b hb)
 rw [List.set_set] at T5 M6
 have O15:dN (jF th rv os) w0 w5:=O12.trans O25 (fun k hk=>by
  rcases List.mem_cons.1 hk with rfl|hk
  ·exact .inr aNh
  rcases HT2.out.2.1 k ((aEp HT2.out.1.nodup aEq).2 k (uQ k hk)) with h1|h1
  ·exact HT1.out.2.2.1 k h1
  right;have:=HT1.out.2.1.size
  omega)
 have M7:∀ b∈jF th rv1 (os1.set (posOf (dX lab) os) {o1 with rv:=rv2,ss:=LK.set (posOf (eP r.ty) o1.ss) {s2 with rv:=rv3,da:=ZI (sK (oV r.ty r.da)) (oV r.ty r.da,r.da) s2.da}}),b∈jF th rv os∨w0.heap.size<=b:=by
  intro b hb
  rcases M6 b hb with h1|h1
  ·rcases HT2.out.2.1 b h1 with h2|h2
   ·exact HT1.out.2.2.1 b h2
   right;have:=HT1.out.2.1.size;omega
  right;omega
 refine hK.out _ _ ⟨aA se5.node 2,aA (PQ _ O15).2.1 1,aA (PQ _ O15).2.1 4⟩ fun aY=>?_;clear hK K aKz Hd;refine kN ?_;obtain⟨ka,kr,kl,kd⟩:=PQ _ O15;have HF:=Nm.aD (aV T5 (aV O15 M7));have HB0:=Nm.aD b0;clear T5 M6 M5' ow5 nd5 O25 O5 M5 se5 se3 se2 ow1 ow2 O12 O13 aEq hFo hm5 ns3 aK0 b34 b4 Fa PQ PG b0 kn3 O1' O0 M7 O15;have ra:=aA ka
 have kd0:bW w5 (w.heap.size+1+1+1) #[.int .i64 0,.int .i64 0,.pointer none,.pointer none] 201:=kd;have kd':=fO kd0;have rd0:=(aA kd0 0).trans rfl;have rd1:=(aA kd0 1).trans rfl;have rd2:=(aA kd0 2).trans rfl;have rd3:=(aA kd0 3).trans rfl;have fd:=aF kd0
 have rn:=aA kn5
 have Y:=Nm.aD (aV (dH [.int .i64 (at_:Int),.int .i64 r.ty,.pointer (some ⟨o1.dS,0,none⟩),.pointer (some ⟨s2.dS,0,none⟩)] kd' rfl) (Qu (b:=w.heap.size+1+1+1) [.int .i64 (at_:Int),.int .i64 r.ty,.pointer (some ⟨o1.dS,0,none⟩),.pointer (some ⟨s2.dS,0,none⟩)] 0 w5.drew));simp only [bG,Nat.zero_add,Nat.reduceAdd] at Y;have aM7:¬w2.heap.size=w.heap.size+1+1+1:=by have:=HS0.out;omega
 have Px:¬w.heap.size+1+1+1=w2.heap.size:=by have:=HS0.out;omega
 generalize hIN:(!gY (sK (oV r.ty r.da)) s2.da)=IN at*;have HIN:=Nm.aD hIN;clear hIN;go_wp2;go_region
 all_goals
  go_wp2;refine aEo Y.out.1 rfl rfl rfl ?_;refine⟨o1.dS,s2.dS,IN,rv1,_,rfl,⟨o1,os1,s2,LK,rv2,rv3,HT1.out.2.2.2,HT2.out.2.2.2.1,rfl,rfl,HIN.out.symm,rfl⟩,?_,?_,?_⟩
  ·refine HF.out.1.keep (fun b hb=>Y.out.2.block b (HF.out.1.lt b hb) (fun hm=>?_));simp only [List.mem_singleton] at hm;have h1:=HS0.out
   rcases HF.out.2.2 b hb with h2|h2
   ·have:=hfp b h2;omega
   omega
  ·have O5:dN (jF th rv os) w0 w5.drew:=HF.out.2.1.trans (dN.below (fp:=[]) (aJ _ _).drew) (fun k hk=>by cases hk);have Oz:dN (jF th rv os) w w5.drew:=(dN.below HB0.out).trans O5 (fun k hk=>.inl hk);refine Oz.trans Y.out.2 fun k hk=>?_;simp only [List.mem_singleton] at hk;right;omega
  intro b hb
  rcases HF.out.2.2 b hb with h2|h2
  ·exact .inl h2
  right;have:=HS0.out;omega
