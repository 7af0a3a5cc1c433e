import Derived.Test.YthdpacepbbcocaaGreatJFoldN
import Derived.Test.YthdpacepbbcocaaGreatCut
set_option linter.unusedVariables false
set_option maxRecDepth 100000
set_option maxHeartbeats 3200000
namespace Go.Proofs.YthdpacepbbcocaaGreat
open Go.RowKit
def gK(t:Int)(d:ByteArray):ByteArray:=if bQ t d=0 then Dt.Er t d else⟨#[]⟩
theorem Di{t:Int}{d:ByteArray}(h:bQ t d≠0):gK t d=⟨#[]⟩:=by rw [gK,if_neg h]
theorem Dj{t:Int}{d:ByteArray}{sp:List (Nat×Nat)}(h:zS t d=some sp):Dt.spans (Dt.lM t) 0 d=some sp∧d.size<=65535:=by
 rw [zS] at h
 split at h
 ·cases h
 split at h
 ·cases h
 exact⟨h,by omega⟩
theorem Vq{t:Int}{d:ByteArray}{sp:List (Nat×Nat)}(h:zS t d=some sp):gK t d=⟨(Dt.nQ sp d.data.toList).toArray⟩:=by
 rw [gK,if_pos (PN.2 ⟨sp,h⟩),Dt.Er,(Dj h).1]
theorem PT(t:Int)(d:ByteArray)(w:World)(hd:d.size<=2000000):
 Calls Tryz.prog 170 #[.int .i64 t,.string d] w fun e w'=>e=.returned (.string (gK t d))∧Below w.heap.size w w':=by
 have aX:=RP t d w hd
 by_cases hq:bQ t d=0
 ·obtain⟨sp,nA⟩:=PN.1 hq;have HR:=Nm.aF (Vq nA)
  have mK:∀ s∈sp,s.1<=s.2∧s.2<=d.size:=by
   intro s hs;have:=aGk _ _ _ _ (Dj nA).1 s hs;omega
  have aTa:sp.length<=1000000:=by
   have h1:=aJ2 t d;rw [nA] at h1;simp at h1;omega
  rw [hq] at aX
  have aX:Calls Tryz.prog 152 #[.int .i64 t,.string d] w fun e w'=>∃ v,e=.returned (.tuple #[v,.int .i64 0])∧bS w' v sp.length 2 (spanCells sp)∧Below w.heap.size w w':=by
   refine aX.mono ?_;rintro e w' ⟨v,rfl,h1,_,h2⟩;exact⟨v,rfl,bS.aS (h1 sp nA),h2⟩
  clear hq nA;go_enter Tryz.func170,Tryz.ntmps170;go_wp2_with (first|(go_at_call 152;refine aX.mono ?_;rintro e w2 ⟨v,rfl,eF,aJ⟩)|(go_at_call 189;refine(Av d v sp w2 eF mK (by omega) aTa).mono ?_;rintro e w3 ⟨rfl,DN⟩))
  go_ret;rw [HR.out];exact⟨rfl,Nm.aC aJ DN⟩
 have HR:=Nm.aF (Di hq);have hb:(bQ t d != 0)=true:=by rw [bne_iff_ne];exact hq
 generalize bQ t d=c at*;clear hq;go_enter Tryz.func170,Tryz.ntmps170;go_wp2_with (go_at_call 152;refine aX.mono ?_;rintro e w2 ⟨v,rfl,_,_,aJ⟩)
 go_ret;rw [HR.out];exact⟨rfl,aJ⟩
def GAt(fs:List Dt.Pc)(ps:List ByteArray)(o:ByteArray)(k:Nat):Prop:=
 Dt.EG fs ps=o.data.toList++Dt.EG (fs.drop k) (ps.drop k)
theorem aCz(fs:List Dt.Pc)(ps:List ByteArray):GAt fs ps ⟨#[]⟩ 0:=by simp [GAt]
theorem aGv{fs:List Dt.Pc}{ps:List ByteArray}{o:ByteArray}{k:Nat}{p:Dt.Pc}{x:ByteArray}(h:GAt fs ps o k)(hp:fs[k]? =some p)(hx:ps[k]? =some x):
 GAt fs ps (o++if p.JV then Nm.small x else x) (k+1):=by
 obtain⟨h1,e1⟩:=dK hp;obtain⟨h2,e2⟩:=dK hx;rw [GAt,h,List.drop_eq_getElem_cons h1,List.drop_eq_getElem_cons h2,e1,e2,Dt.EG];cases p.JV<;>simp [Nm.dY]
theorem aKh{fs:List Dt.Pc}{ps:List ByteArray}{o:ByteArray}{k:Nat}(h:GAt fs ps o k)(hk:ps.length<=k):o=⟨(Dt.EG fs ps).toArray⟩:=by
 rw [h,List.drop_eq_nil_of_le hk];have e:Dt.EG (fs.drop k) []=[]:=by cases fs.drop k<;>simp [Dt.EG]
 rw [e];apply Nm.kI;simp
theorem lK(t:Int)(d:ByteArray)(w:World):
 Calls Tryz.prog 63 #[.int .i64 t,.string d] w fun e w'=>e=.returned (.string (gK t d))∧Below w.heap.size w w':=by
 have aX:=fun w=>nC t d w
 by_cases hq:bQ t d=0
 ·obtain⟨ps,RI,oZ,hds⟩:=Uq hq;obtain⟨hfl,aPe,hnm⟩:=Dt.Cg _ _ _ RI;have Ha:=fun w=>MG (Dt.mY t) d w (UC t) hds
  have EZ:=EO t;have aPf:=UC t
  have aOw:∀ x∈ps,x.size<=65535:=by
   intro x hx;have h1:=aJ1 ps x hx;rw [aPe] at h1;simp at h1;omega
  have pG:ps.length<=100:=by
   have h1:=aPf.1;rw [<- hfl,Dt.pV];simpa using h1
  have hplf:ps.length<=(Dt.mY t).size:=by
   rw [<- hfl,Dt.pV];simp
  have oG:=aCz (Dt.pV t) ps
  have SX:∀ (o:ByteArray) (k:Nat),GAt (Dt.pV t) ps o k->ps.length<=k->gK t d=o:=by
   intro o k h1 h2;rw [aKh h1 h2,gK,if_pos hq,Dt.Kl RI]
  have xO:∀ (k:Nat) (hk:k<(Dt.mY t).size),(Dt.pV t)[k]? =some (Dt.sQ (Dt.mY t)[k]):=by
   intro k hk;rw [Dt.pV,List.getElem?_map,Nm.iZ hk];rfl
  have xV:∀ (o:ByteArray) (k:Nat) (x:ByteArray),GAt (Dt.pV t) ps o k->(hk:k<(Dt.mY t).size)->ps[k]? =some x->GAt (Dt.pV t) ps (o++if decide ((Dt.mY t)[k].toNat=110) then Nm.small x else x) (k+1):=by
   intro o k x h1 hk hx;have:=aGv h1 (xO k hk) hx
   rwa [aAt] at this
  have aL3:∀ (k:Nat) (x:ByteArray),(hk:k<(Dt.mY t).size)->ps[k]? =some x->(Dt.mY t)[k].toNat=110->Nm.cZ x=Nm.small x:=by
   intro k x hk hx hN;have h1:=hnm k _ x (xO k hk) hx (by rw [aAt,hN];rfl);obtain⟨ls,hls⟩:=Option.isSome_iff_exists.1 h1;exact Nm.nM hls
  rw [Dt.pV] at RI;rw [hq] at aX;have HE:=Nm.aF SX;have HS:=Nm.aF xV;have HF:=Nm.aF aL3;clear SX xV aL3 xO hnm oZ hfl aPe hq aPf;generalize Dt.mY t=f at*
  have Ha:∀ w:World,Calls Tryz.prog 99 #[.string f,.string d] w fun e w'=>∃ v,e=.returned (.tuple #[v,.bool true])∧bS w' v ps.length 1 (ps.map Value.string)∧Below w.heap.size w w':=by
   intro w;refine(Ha w).mono ?_;rintro e w' ⟨v,rfl,h1,h2⟩;exact⟨v,by rw [RI];rfl,bS.aS (h1 _ RI),h2⟩
  clear RI;generalize gK t d=FR at*;go_enter Tryz.func63,Tryz.ntmps63;go_wp2_with (first|(go_at_call 74;refine(aX _).mono ?_;rintro e w1 ⟨rfl,fF⟩)|(go_at_call 98;refine(EZ _).mono ?_;rintro e w2 ⟨rfl,hw⟩;obtain rfl:w1=w2:=hw.symm;clear hw)|(go_at_call 99;refine(Ha _).mono ?_;rintro e w3 ⟨vp,rfl,eF,DN⟩))
  have aTb:Below w.heap.size w w3:=Nm.aC fF DN;obtain⟨_,ap,capp,rfl,hcapp,hmxp,hc⟩:=eF;clear aX Ha EZ fF DN
  go_loopw [8,9] (fun v i wr=>∃ (k:Nat) (o:ByteArray),k<=ps.length∧i=.int .i64 k∧v=.string o∧o.size<=k*65535∧Hid (GAt (Dt.pV t) ps o k)∧Below w3.heap.size w3 wr)
   (fun _ i _=>ps.length-(intOf i).toNat)
  case atStart=>exact⟨0,⟨#[]⟩,dO _,rfl,rfl,by show 0<=_;omega,oG,aK _ _⟩
  obtain⟨k,o,hk,rfl,rfl,ho,HA,aJ⟩:=hrel;clear oG
  by_cases bV:k<ps.length
  ·have KD:(k:Int)<(ps.length:Int):=by omega
   obtain⟨x,hx⟩:∃ x,ps[k]? =some x:=⟨_,bY bV⟩;have Lx:=aOw x (bP hx);have hkf:k<f.size:=by omega
   have hkf':(k:Int)<(f.size:Int):=by omega
   have HX:=Nm.aF (HS.out o k x HA.out hkf hx);obtain⟨b,off,rfl,aL⟩:=hc (by omega);have aM7:=aL k (.string x) (by simp [hx]);have yB:wr.cell? ⟨b,off+k,none⟩=some (.string x):=(aJ.cell (eB w3 _ aM7)).trans aM7;have hFN:=HF.out k x hkf hx;clear hc aL hx aM7
   by_cases hN:f[k].toNat=110
   ·have q1:((f[k].toNat:Int)==110)=true:=by rw [beq_iff_eq];omega
    simp only [hN,decide_true,if_true] at HX;have hfn:=fun w=>lH x w (by unfold maxLen;omega)
    rw [hFN hN] at hfn;have Af:=Nm.qH x;generalize Nm.small x=y at*;have aTc:o.size+y.size<=9223372036854775807:=by omega
    clear hN HA hFN HF HS;go_wp2_with (go_at_call 62;refine(hfn _).mono ?_;rintro e w4 ⟨rfl,pR⟩;have HB:Hid (Below w3.heap.size w3 w4):=Nm.aC aJ pR;clear pR)
    go_roundw
    case rel=>exact⟨k+1,_,by omega,by go_num,rfl,by simp;omega,HX,HB.out⟩
    simp [intOf];omega
   have q1:((f[k].toNat:Int)==110)=false:=by rw [dC];omega
   simp only [hN,decide_false,Bool.false_eq_true,if_false] at HX;have aTc:o.size+x.size<=9223372036854775807:=by omega
   clear hN HA hFN HF HS;go_wp2;go_roundw
   case rel=>exact⟨k+1,_,by omega,by go_num,rfl,by simp;omega,HX,aJ⟩
   simp [intOf];omega
  have KD:(ps.length:Int)<=(k:Int):=by omega
  have HR:=Nm.aF (HE.out o k HA.out (by omega));clear hc;go_wp2;go_ret;rw [HR.out];exact⟨rfl,Nm.aC aTb aJ⟩
 have HR:=Nm.aF (Di hq);have hb:(bQ t d != 0)=true:=by rw [bne_iff_ne];exact hq
 generalize bQ t d=c at*;clear hq;go_enter Tryz.func63,Tryz.ntmps63;go_wp2_with (go_at_call 74;refine(aX _).mono ?_;rintro e w1 ⟨rfl,fF⟩)
 go_ret;rw [HR.out];exact⟨rfl,fF⟩
theorem Od{b:Nat}:∀ (vs:List Value) (i:Nat) (w:World),dM [b] w (cO w b i vs):=by
 intro vs
 induction vs with
 |nil=>intro i w;exact⟨rfl,rfl,rfl,aN _,fun _ _ _=>rfl⟩
 |cons v vs ih=>
  intro i w;have h1:dM [b] w (w.setCell ⟨b,i,none⟩ v):=⟨rfl,rfl,rfl,by simp,fun k _ hk=>heap_setCell_other w ⟨b,i,none⟩ k _ (by simpa using hk)⟩;exact h1.trans (ih (i+1) _) (fun k hk=>.inl hk)
theorem aGw{W:World}{b:Nat}{x0 x1 x2 x3:Value}{ok:Bool}{R:Ending->World->Prop}{a:Act}(h:bG W b #[x0,x1,x2,x3] 171)
 (h2:a.tmps[8]? =some (.pointer (some ⟨b,0,none⟩))) (h3:a.tmps[9]? =some (.bool ok)) (hd:a.defers=[])
 (hR:R (.returned (.tuple #[.agg #[x0,x1,x2,x3],.bool ok])) W):bodyPost Tryz.prog Tryz.f135 R .ret a W:=by
 refine gD ?_ hd hR;have r:=fun i=>aA h i
 simp [results,Tryz.results135,go_sem,Result.andThen,r,h2,h3]
theorem WZ{Pr G:World->Prop}{W:World}(h:Pr W)(k:∀ W,Pr W->G W):G W:=k W h
def aM8(own:ByteArray)(lv:Value)(lab:List ByteArray)(ty tt:Int)(at_:Nat)(fd da:ByteArray)(os os':List eZ)(ob sb:Nat)(fO:Bool):Prop:=
 ∃ (o1:eZ) (os1:List eZ) (s2:tZ) (OQ:List tZ) (rv2 rv3:Value),aCd own lv lab os o1 os1∧aCc ty tt at_ o1.ss s2 OQ∧ob=o1.dL∧sb=s2.dL∧fO= !kL (rM fd) s2.da∧
   os'=os1.set (posOf (iP lab) os) {o1 with rv:=rv2,ss:=OQ.set (posOf (fE ty) o1.ss) {s2 with rv:=rv3,da:=VJ (rM fd) (fd,da) s2.da}}
theorem aCd.at{own:ByteArray}{lv:Value}{lab:List ByteArray}{l l':List eZ}{o:eZ}(h:aCd own lv lab l o l')(hp:posOf (iP lab) l<=l.length):l'[posOf (iP lab) l]? =some o:=by
 rcases h with⟨_,rfl,h1,_⟩|⟨_,rfl,_⟩
 ·exact h1
 have hl:(l.take (posOf (iP lab) l)).length=posOf (iP lab) l:=by rw [List.length_take];omega
 rw [lN,List.append_assoc,List.getElem?_append_right (by omega),hl];simp
theorem aCc.at{ty tt:Int}{at_:Nat}{l l':List tZ}{s:tZ}(h:aCc ty tt at_ l s l')(hp:posOf (fE ty) l<=l.length):l'[posOf (fE ty) l]? =some s:=by
 rcases h with⟨_,rfl,h1,_⟩|⟨_,rfl,_⟩
 ·exact h1
 have hl:(l.take (posOf (fE ty) l)).length=posOf (fE ty) l:=by rw [List.length_take];omega
 rw [lN,List.append_assoc,List.getElem?_append_right (by omega),hl];simp
theorem Oe{α:Type}(f:α->Int)(l:List α):posOf f l<=l.length:=by
 unfold posOf;exact List.Sublist.length_le (List.takeWhile_sublist _)
theorem aGx{th:Nat}{rv:Value}{os:List eZ}{p:Nat}{o:eZ}(h:(jP th rv os).Nodup)(hp:os[p]? =some o):(pO o).Nodup∧∀ b∈pO o,b∈jP th rv os:=by
 have hm:=bP hp;obtain⟨e1,_⟩:=GZ hp o;constructor
 ·rw [jP,e1] at h;simp only [List.flatMap_append,List.flatMap_cons,List.flatMap_nil,List.append_nil,List.nodup_cons,List.nodup_append] at h;exact h.2.2.1.1.2.1
 intro b hb;simp only [jP,List.mem_cons,List.mem_append,List.mem_flatMap];exact .inr (.inr ⟨o,hm,hb⟩)
theorem aM9{o:eZ}{j:Nat}{s:tZ}(h:(pO o).Nodup)(hp:o.ss[j]? =some s):(vV s).Nodup∧∀ b∈vV s,b∈pO o:=by
 have hm:=bP hp;obtain⟨e1,_⟩:=GZ hp s;constructor
 ·rw [pO,e1] at h;simp only [List.flatMap_append,List.flatMap_cons,List.flatMap_nil,List.append_nil,List.nodup_cons,List.nodup_append] at h;exact h.2.2.2.1.1.2.1
 intro b hb;simp only [pO,List.mem_cons,List.mem_append,List.mem_flatMap];exact .inr (.inr (.inr ⟨s,hm,hb⟩))
def TrS(os:List eZ):Prop:=OwS os∧∀ o∈os,Ji o.ss∧o.ss.length<=400000∧∀ s∈o.ss,DaS s.da∧s.da.length<=400000
theorem aCd.sets{own:ByteArray}{lv:Value}{lab:List ByteArray}{l l':List eZ}{o:eZ}(h:aCd own lv lab l o l')(hd:TrS l):Ji o.ss∧o.ss.length<=400000∧∀ s∈o.ss,DaS s.da∧s.da.length<=400000:=by
 rcases h with⟨_,_,h1,_⟩|⟨_,_,_,_,_,h1⟩
 ·exact hd.2 o (bP h1)
 rw [h1];exact⟨List.Pairwise.nil,by simp,by simp⟩
theorem aCc.data{ty tt:Int}{at_:Nat}{l l':List tZ}{s:tZ}(h:aCc ty tt at_ l s l')(hd:∀ s∈l,DaS s.da∧s.da.length<=400000):DaS s.da∧s.da.length<=400000:=by
 rcases h with⟨_,_,h1,_⟩|⟨_,_,_,_,_,h1⟩
 ·exact hd s (bP h1)
 rw [h1];exact⟨List.Pairwise.nil,by simp⟩
theorem aKi(bb oo th:Nat)(rv:Value)(os:List eZ)(B at_:Nat)(r:Rr)(la:Option Addr)(ln lc:Nat)(lab:List ByteArray)(w:World)(h:uU w B th rv os)(hB:B<=w.heap.size)(hl:os.length<=400000)(hd:TrS os)
 (xR:CK w (jP th rv os) os) (Mx:MH w (jP th rv os) (.slice la ln lc) lab) (hc:w.cell? ⟨bb,oo+1,none⟩=some (ptr th)) (MU:bb∉jP th rv os) (aU:r.own.size<=1000000000) (Jn:r.da.size<=2000000) (iT:at_<=1000000):
 Calls Tryz.prog 135 #[.pointer (some ⟨bb,oo,none⟩),.int .i64 (at_:Int),.agg #[.string r.own,.int .i64 r.ty,.int .i64 r.cl,.int .i64 r.tt,.string r.da],.slice la ln lc] w fun e w'=>∃ (ob sb:Nat) (fO:Bool) (rv':Value) (os':List eZ),
  e=.returned (.tuple #[.agg #[.int .i64 (at_:Int),.int .i64 r.ty,ptr ob,ptr sb],.bool fO])∧aM8 r.own (.slice la ln lc) lab r.ty r.tt at_ (gK r.ty r.da) r.da os os' ob sb fO∧uU w' B th rv' os'∧dM (jP th rv os) w w'∧∀ b∈jP th rv' os',b∈jP th rv os∨w.heap.size<=b:=by
 have X:=Nm.aF (show ∀ W,W=(((w.alloc (.cells #[.int .i64 (at_:Int)] 3)).alloc (.cells #[.string r.own,.int .i64 r.ty,.int .i64 r.cl,.int .i64 r.tt,.string r.da] 29)).alloc (.cells #[.slice la ln lc] 116)).alloc (.cells #[.int .i64 0,.int .i64 0,.pointer none,.pointer none] 171)->
  bG W w.heap.size #[.int .i64 (at_:Int)] 3∧bG W (w.heap.size+1) #[.string r.own,.int .i64 r.ty,.int .i64 r.cl,.int .i64 r.tt,.string r.da] 29∧bG W (w.heap.size+2) #[.slice la ln lc] 116∧bG W (w.heap.size+3) #[.int .i64 0,.int .i64 0,.pointer none,.pointer none] 171∧Below w.heap.size w W∧W.heap.size=w.heap.size+4 from by
  rintro W rfl;have s1:(w.alloc (.cells #[.int .i64 (at_:Int)] 3)).heap.size=w.heap.size+1:=by simp
  have s2:((w.alloc (.cells #[.int .i64 (at_:Int)] 3)).alloc (.cells #[.string r.own,.int .i64 r.ty,.int .i64 r.cl,.int .i64 r.tt,.string r.da] 29)).heap.size=w.heap.size+2:=by simp
  have s3:(((w.alloc (.cells #[.int .i64 (at_:Int)] 3)).alloc (.cells #[.string r.own,.int .i64 r.ty,.int .i64 r.cl,.int .i64 r.tt,.string r.da] 29)).alloc (.cells #[.slice la ln lc] 116)).heap.size=w.heap.size+3:=by simp
  have k1:=aH w #[.int .i64 (at_:Int)] 3;have k2:=aH (w.alloc (.cells #[.int .i64 (at_:Int)] 3)) #[.string r.own,.int .i64 r.ty,.int .i64 r.cl,.int .i64 r.tt,.string r.da] 29;have k3:=aH ((w.alloc (.cells #[.int .i64 (at_:Int)] 3)).alloc (.cells #[.string r.own,.int .i64 r.ty,.int .i64 r.cl,.int .i64 r.tt,.string r.da] 29)) #[.slice la ln lc] 116;have k4:=aH (((w.alloc (.cells #[.int .i64 (at_:Int)] 3)).alloc (.cells #[.string r.own,.int .i64 r.ty,.int .i64 r.cl,.int .i64 r.tt,.string r.da] 29)).alloc (.cells #[.slice la ln lc] 116)) #[.int .i64 0,.int .i64 0,.pointer none,.pointer none] 171;rw [s1] at k2;rw [s2] at k3;rw [s3] at k4;refine⟨aR (aR (aR k1 _) _) _,aR (aR k2 _) _,aR k3 _,k4,?_,by simp⟩
  exact((((aK w.heap.size w).alloc (aN _) _).alloc (by simp) _).alloc (by simp;omega) _).alloc (by simp;omega) _)
 have hmf:∀ (fn:Fn) (first cap:Array Value) (w:World),(Instr.makeFunc fn first cap).run Tryz.prog w=.ok (.func fn first cap) w:=fun _ _ _ _=>rfl
 have HH:=Nm.aF (aV h (aV hB (aV hd (aV xR Mx))));clear h hB hd xR Mx;go_enter Tryz.func135,Tryz.ntmps135;go_wp2;refine WZ (Pr:=fun W=>bG W w.heap.size #[.int .i64 (at_:Int)] 3∧bG W (w.heap.size+1) #[.string r.own,.int .i64 r.ty,.int .i64 r.cl,.int .i64 r.tt,.string r.da] 29∧bG W (w.heap.size+2) #[.slice la ln lc] 116∧bG W (w.heap.size+3) #[.int .i64 0,.int .i64 0,.pointer none,.pointer none] 171∧Below w.heap.size w W∧W.heap.size=w.heap.size+4) (G:=fun W=>Code.wp _ _ _ _ W) (X.out _ rfl) ?_;rintro w0 ⟨ka,kr,kl,kd,b0,hs0⟩;clear X;have HS0:=Nm.aF hs0;clear hs0;have T0:=HH.out.1.below b0;have hfp:∀ b∈jP th rv os,b<w.heap.size:=HH.out.1.lt
 have VU:∀ W,dM (jP th rv os) w0 W->W.cell? ⟨bb,oo+1,none⟩=some (.pointer (some ⟨th,0,none⟩)):=fun W hW=>by
  have bV:=eB w _ hc;rw [World.cell?_of_block (w:=w0) (hW.block bb (sP bV b0.size) MU),World.cell?_of_block (w:=w) (b0.block bb bV)];exact hc
 have MP:∀ W,dM (jP th rv os) w0 W->bG W w.heap.size #[.int .i64 (at_:Int)] 3∧bG W (w.heap.size+1) #[.string r.own,.int .i64 r.ty,.int .i64 r.cl,.int .i64 r.tt,.string r.da] 29∧bG W (w.heap.size+2) #[.slice la ln lc] 116∧bG W (w.heap.size+3) #[.int .i64 0,.int .i64 0,.pointer none,.pointer none] 171:=fun W hW=>by
  have g:∀ b,w.heap.size<=b->b∉jP th rv os:=fun b hb hm=>by have:=hfp b hm;omega
  exact⟨kG ka (hW.block _ (bU ka) (g _ (by omega))),kG kr (hW.block _ (bU kr) (g _ (by omega))),kG kl (hW.block _ (bU kl) (g _ (by omega))),kG kd (hW.block _ (bU kd) (g _ (by omega)))⟩
 have O0:dM (jP th rv os) w0 w0.drew:=dM.below (aK _ _).drew;have aPg:MH w0.drew (jP th rv os) (.slice la ln lc) lab:=HH.out.2.2.2.2.outs (dM.below b0.drew) (fun b hb=>.inl hb);have aPh:CK w0.drew (jP th rv os) os:=fun o ho=>(HH.out.2.2.2.1 o ho).outs (dM.below b0.drew) (fun b hb=>.inl hb)
 have aGy:=aCe th rv os B (w.heap.size+1) (w.heap.size+2) r.own la ln lc lab (.int .i64 r.ty) (.int .i64 r.cl) (.int .i64 r.tt) (.string r.da) w0.drew (T0.below (aK _ _).drew) (iL HH.out.2.1 b0.size) (by omega) HH.out.2.2.1.1 aPh aPg (MP _ O0).2.1 (MP _ O0).2.2.1 aU;unfold ptr at aGy;clear aPh aPg hc ka kr kl kd;refine kR (fun W=>W.cell? ⟨bb,oo+1,none⟩=some (.pointer (some ⟨th,0,none⟩))∧W.cell? ⟨w.heap.size+2,0,none⟩=some (.slice la ln lc)∧True) 1000 ⟨VU _ O0,aA (MP _ O0).2.2.1 0,trivial⟩ fun aO=>?_;refine kB 0 rfl ?_;refine kB 1 rfl ?_;refine kB 2 rfl ?_;refine kB 3 rfl ?_;refine kB 4 rfl ?_;refine kB 5 rfl ?_;refine k1 6 rfl fun K hK=>?_
 go_simp;refine aGy.mono ?_;rintro e w1 ⟨o1,rv1,os1,rfl,hG1,T1,O1,M1⟩;go_wp2_with fail
 have O1':dM (jP th rv os) w0 w1:=O0.trans O1 (fun k hk=>.inl hk);refine hK.out _ _ ⟨VU _ O1',aA (MP _ O1').2.2.1 0,trivial⟩ fun aO=>?_;clear hK K aGy;refine kB 7 rfl ?_;refine kN ?_;have yK:=hG1.at (Oe _ _);have ow1:=T1.mU o1 (bP yK);obtain⟨nd1,sub1⟩:=aGx T1.nodup yK;obtain⟨sS1,sL1,sD1⟩:=hG1.sets HH.out.2.2.1;have aTd:B<=w1.heap.size:=iL HH.out.2.1 (iL b0.size O1'.size);have Vr:=aJ0 o1 B (w.heap.size+1) w.heap.size at_ r.ty r.tt (.string r.own) (.int .i64 r.ty) (.int .i64 r.cl) (.string r.da) w1.drew (ow1.keep (fun b _=>rfl)) nd1 aTd (by omega) sS1 (dS (MP _ O1').2.1) (dS (MP _ O1').1);unfold ptr at Vr;have Vs:∀ W,Below w1.heap.size w1 W->W.cell? ⟨o1.dL,2,none⟩=some (.pointer (some ⟨o1.hd,0,none⟩))∧W.cell? ⟨w.heap.size+1,1,none⟩=some (.int .i64 r.ty):=fun W hW=>⟨aA (aB ow1.node hW) 2,aA (aB (MP _ O1').2.1 hW) 1⟩
 have HT1:=Nm.aF (aV T1 (aV O1' (aV M1 hG1)));clear T1 O1 M1 hG1 T0;go_wp2;refine kR (fun W=>W.cell? ⟨o1.dL,2,none⟩=some (.pointer (some ⟨o1.hd,0,none⟩))∧W.cell? ⟨w.heap.size+1,1,none⟩=some (.int .i64 r.ty)∧True) 1000 ⟨(Vs _ (aK _ _).drew).1,(Vs _ (aK _ _).drew).2,trivial⟩ fun aO=>?_;refine kB 0 rfl ?_;refine kB 1 rfl ?_;refine kB 2 rfl ?_;refine kB 3 rfl ?_;refine kB 4 rfl ?_;refine kB 5 rfl ?_;refine kB 6 rfl ?_;refine k1 7 rfl fun K hK=>?_
 go_simp;refine Vr.mono ?_;rintro e w2 ⟨s2,rv2,OQ,rfl,hG2,ow2,nd2,O2,M2⟩;go_wp2_with fail
 have O2':dM (pO o1) w1 w2:=(dM.below (aK _ _).drew).trans O2 (fun k hk=>.inl hk);have O12:dM (jP th rv os) w0 w2:=HT1.out.2.1.trans O2' (fun k hk=>HT1.out.2.2.1 k (sub1 k hk));obtain⟨T2,M2'⟩:=Ng HT1.out.1 yK ow2 rfl rfl nd2 M2 O2' (fun b hb _=>hb);refine hK.out _ _ ⟨aA ow2.node 2,aA (MP _ O12).2.1 1,trivial⟩ fun aO=>?_;clear hK K Vr;refine kB 8 rfl ?_;refine kN ?_;have hj2:=hG2.at (Oe _ _);have se2:=ow2.sets s2 (bP hj2);have aPi:({o1 with rv:=rv2,ss:=OQ}:eZ).ss[posOf (fE r.ty) o1.ss]? =some s2:=hj2;obtain⟨ns2,tL⟩:=aM9 nd2 aPi;obtain⟨dS2,dL2⟩:=hG2.data sD1;have k3:=aH w2 #[.bool false] 4;have b3:Below w2.heap.size w2 (w2.alloc (.cells #[.bool false] 4)):=(aK _ _).alloc (aN _) _;have HT2:=Nm.aF (aV T2 (aV M2' (aV O12 (aV hG2 (aV ow2 nd2)))));have aPj:w0.heap.size<=w2.heap.size:=O12.size;clear T2 M2' O2 O2' M2 hG2 Vs;go_wp2;refine WZ (Pr:=fun W=>bG W w2.heap.size #[.bool false] 4∧Below w2.heap.size w2 W) (G:=fun W=>Code.wp _ _ _ _ W) ⟨k3,b3⟩ ?_;rintro w3 ⟨kn3,Bg⟩;clear k3 b3;have hsz23:w2.heap.size<w3.heap.size:=bU kn3;have se3:=se2.keep (fun b hm=>Bg.block b (se2.lt b hm));have O13:dM (jP th rv os) w0 w3:=O12.trans (dM.below (fp:=[]) Bg) (fun k hk=>by cases hk);have Nn:∀ W,Below w3.heap.size w3 W->W.cell? ⟨s2.dL,2,none⟩=some (.pointer (some ⟨s2.hd,0,none⟩))∧W.cell? ⟨w.heap.size+1,1,none⟩=some (.int .i64 r.ty)∧W.cell? ⟨w.heap.size+1,4,none⟩=some (.string r.da):=fun W hW=>⟨aA (aB se3.node hW) 2,aA (aB (MP _ O13).2.1 hW) 1,aA (aB (MP _ O13).2.1 hW) 4⟩
 have Dk:=fun W=>PT r.ty r.da W Jn
 have aNa:=fun W (hW:Below w3.heap.size w3 W)=>aF0 s2 B w2.heap.size (w.heap.size+1) (gK r.ty r.da) r.da (.string r.own) (.int .i64 r.ty) (.int .i64 r.cl) (.int .i64 r.tt) W (se3.keep (fun b hm=>hW.block b (se3.lt b hm))) (by have:=hW.size;have:=HH.out.2.1;have:=b0.size;omega) (by omega) dS2 (aB kn3 hW) (aB (MP _ O13).2.1 hW) (by omega)
 unfold ptr at aNa;refine kR (fun W=>W.cell? ⟨s2.dL,2,none⟩=some (.pointer (some ⟨s2.hd,0,none⟩))∧W.cell? ⟨w.heap.size+1,1,none⟩=some (.int .i64 r.ty)∧W.cell? ⟨w.heap.size+1,4,none⟩=some (.string r.da)) 1000 (Nn _ (aK _ _).drew) fun aO=>?_;refine kB 0 rfl ?_;refine kB 1 rfl ?_;refine kB 2 rfl ?_;refine kB 3 rfl ?_;refine kB 4 rfl ?_;refine kB 5 rfl ?_;refine kB 6 rfl ?_;refine kB 7 rfl ?_;refine kB 9 rfl ?_;refine k1 8 rfl fun K hK=>?_
 go_simp;refine(Dk _).mono ?_;rintro e w4 ⟨rfl,b4⟩;go_wp2_with fail
 have b34:Below w3.heap.size w3 w4:=Nm.aC (aK _ _).drew b4;refine hK.out _ _ (Nn _ b34) fun aO=>?_;clear hK K Dk;refine k1 10 rfl fun K hK=>?_
 go_simp;refine(aNa _ b34).mono ?_;rintro e w5 ⟨dv,rv3,rfl,se5,kn5,O5,M5⟩;go_wp2_with fail
 have aNb:Below w2.heap.size w2 w4:=Bg.trans (b34.mono (by omega));have O25:dM (w2.heap.size::vV s2) w2 w5:=(dM.below aNb).trans O5 (fun k hk=>.inl hk)
 have ns3:(vV {s2 with rv:=rv3,da:=VJ (rM (gK r.ty r.da)) (gK r.ty r.da,r.da) s2.da}).Nodup:=by
  have h1:=ns2;simp only [vV,List.nodup_cons,List.mem_cons,not_or] at h1 ⊢;have e1:=bW se5.rows se5.node (by decide);have e2:=bW se5.rows se5.head (by decide);refine⟨⟨h1.1.1,fun hm=>e1 ?_⟩,fun hm=>e2 ?_,WC _⟩
  ·simpa using hm
  simpa using hm
 have hm5:∀ b∈vV {s2 with rv:=rv3,da:=VJ (rM (gK r.ty r.da)) (gK r.ty r.da,r.da) s2.da},b∈vV s2∨w2.heap.size<=b:=by
  intro b hb;simp only [vV,List.mem_cons] at hb
  rcases hb with rfl|rfl|hb
  ·left;simp [vV]
  ·left;simp [vV]
  rcases M5 b hb with h1|h1
  ·exact .inl h1
  right;have:=aNb.size;omega
 have hFo:∀ b∈w2.heap.size::vV s2,b∈pO {o1 with rv:=rv2,ss:=OQ}->b∈vV s2:=by
  intro b hb hbo
  rcases List.mem_cons.1 hb with rfl|hb
  ·have:=HT2.out.2.2.2.2.1.lt _ hbo;omega
  exact hb
 obtain⟨ow5,nd5,M5'⟩:=aMu HT2.out.2.2.2.2.1 HT2.out.2.2.2.2.2 aPi se5 rfl rfl ns3 hm5 O25 hFo
 have aGz:(os1.set (posOf (iP lab) os) {o1 with rv:=rv2,ss:=OQ})[posOf (iP lab) os]? =some {o1 with rv:=rv2,ss:=OQ}:=by
  rw [List.getElem?_set_self (dK yK).1]
 obtain⟨T5,M6⟩:=Ng HT2.out.1 aGz ow5 rfl rfl nd5 M5' O25 (fun b hb hbT=>by
  rcases List.mem_cons.1 hb with rfl|hb
  ·have:=HT2.out.1.lt _ hbT;omega
  exact tL b hb)
 rw [List.set_set] at T5 M6
 have O15:dM (jP th rv os) w0 w5:=O12.trans O25 (fun k hk=>by
  rcases List.mem_cons.1 hk with rfl|hk
  ·exact .inr aPj
  rcases HT2.out.2.1 k ((aGx HT2.out.1.nodup aGz).2 k (tL k hk)) with h1|h1
  ·exact HT1.out.2.2.1 k h1
  right;have:=HT1.out.2.1.size
  omega)
 have M7:∀ b∈jP th rv1 (os1.set (posOf (iP lab) os) {o1 with rv:=rv2,ss:=OQ.set (posOf (fE r.ty) o1.ss) {s2 with rv:=rv3,da:=VJ (rM (gK r.ty r.da)) (gK r.ty r.da,r.da) s2.da}}),b∈jP th rv os∨w0.heap.size<=b:=by
  intro b hb
  rcases M6 b hb with h1|h1
  ·rcases HT2.out.2.1 b h1 with h2|h2
   ·exact HT1.out.2.2.1 b h2
   right;have:=HT1.out.2.1.size;omega
  right;omega
 refine hK.out _ _ ⟨aA se5.node 2,aA (MP _ O15).2.1 1,aA (MP _ O15).2.1 4⟩ fun aO=>?_;clear hK K aNa Nn;refine kN ?_;obtain⟨ka,kr,kl,kd⟩:=MP _ O15;have HF:=Nm.aF (aV T5 (aV O15 M7));have HB0:=Nm.aF b0;clear T5 M6 M5' ow5 nd5 O25 O5 M5 se5 se3 se2 ow1 ow2 O12 O13 aGz hFo hm5 ns3 aNb b34 b4 Bg MP VU b0 kn3 O1' O0 M7 O15;have ra:=fun i=>aA ka i
 have rr:=fun i=>aA kr i
 have kd0:bG w5 (w.heap.size+1+1+1) #[.int .i64 0,.int .i64 0,.pointer none,.pointer none] 171:=kd;have kd':=dS kd0;have rd0:=(aA kd0 0).trans rfl;have rd1:=(aA kd0 1).trans rfl;have rd2:=(aA kd0 2).trans rfl;have rd3:=(aA kd0 3).trans rfl;have fd:=fun i=>aG kd0 i
 have rn:=fun i=>aA kn5 i
 have Y:=Nm.aF (aV (dJ [.int .i64 (at_:Int),.int .i64 r.ty,.pointer (some ⟨o1.dL,0,none⟩),.pointer (some ⟨s2.dL,0,none⟩)] kd' rfl) (Od (b:=w.heap.size+1+1+1) [.int .i64 (at_:Int),.int .i64 r.ty,.pointer (some ⟨o1.dL,0,none⟩),.pointer (some ⟨s2.dL,0,none⟩)] 0 w5.drew));simp only [cO,Nat.zero_add,Nat.reduceAdd] at Y;have aO6:¬w2.heap.size=w.heap.size+1+1+1:=by have:=HS0.out;omega
 have Lg:¬w.heap.size+1+1+1=w2.heap.size:=by have:=HS0.out;omega
 generalize hIN:(!kL (rM (gK r.ty r.da)) s2.da)=IN at*;have HIN:=Nm.aF hIN;clear hIN;go_wp2;go_region
 all_goals
  go_wp2;refine aGw Y.out.1 rfl rfl rfl ?_;refine⟨o1.dL,s2.dL,IN,rv1,_,rfl,⟨o1,os1,s2,OQ,rv2,rv3,HT1.out.2.2.2,HT2.out.2.2.2.1,rfl,rfl,HIN.out.symm,rfl⟩,?_,?_,?_⟩
  ·refine HF.out.1.keep (fun b hb=>Y.out.2.block b (HF.out.1.lt b hb) (fun hm=>?_));simp only [List.mem_singleton] at hm;have h1:=HS0.out
   rcases HF.out.2.2 b hb with h2|h2
   ·have:=hfp b h2;omega
   omega
  ·have O5:dM (jP th rv os) w0 w5.drew:=HF.out.2.1.trans (dM.below (fp:=[]) (aK _ _).drew) (fun k hk=>by cases hk);have Oz:dM (jP th rv os) w w5.drew:=(dM.below HB0.out).trans O5 (fun k hk=>.inl hk);refine Oz.trans Y.out.2 fun k hk=>?_;simp only [List.mem_singleton] at hk;right;omega
  intro b hb
  rcases HF.out.2.2 b hb with h2|h2
  ·exact .inl h2
  right;have:=HS0.out;omega
