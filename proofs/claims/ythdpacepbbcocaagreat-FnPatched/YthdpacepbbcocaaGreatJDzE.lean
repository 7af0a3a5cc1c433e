import Derived.Test.YthdpacepbbcocaaGreatJCzI
set_option linter.unusedVariables false
set_option maxRecDepth 100000
set_option maxHeartbeats 3200000
namespace Go.Proofs.YthdpacepbbcocaaGreat
open Go.RowKit
abbrev Sy(a b:Rr)(d e:Value):Value:=.agg #[.string a.own,.int .i64 a.ty,.int .i64 a.cl,.int .i64 a.tt,.string a.da,.string b.own,.int .i64 b.ty,.int .i64 b.cl,.int .i64 b.tt,.string b.da,d,e]
def FZ(w:World)(B:Nat)(d e:Value)(xs ys:List Rr):Prop:=∃ M,B<=M∧w.ownsRow B 29 5 d xs.length (bK xs)∧w.ownsRow M 29 5 e ys.length (bK ys)∧∀ g,d.ownBlock=some g->g<M
theorem CF(o:ByteArray)(v:Value)(ps:List Zp)(r:Rr)(k:Nat)(R:List Rr)(w:World)(h:gI w v ps)(hs:rG ps<=1048576)(hf:∀ p∈ps,∀ x∈p.1.da,x.size<=1048576)(hrk:(aD ps)[k]? =some r)(hsk:Vn (aD ps)=(k:Int))(hn:(aD ps).length<=500)(he:(aD ps).take k++(aD ps).drop (k+1)=R):
 Calls Tryz.prog 40 #[.agg #[.string o,v]] w fun e w'=>∃ (ua:Option Addr) (uc:Nat),e=.returned (.tuple #[ZX r,.slice ua R.length uc])∧w'.ownsRow w.heap.size 29 5 (.slice ua R.length uc) R.length (bK R)∧Below w.heap.size w w':=by
 refine(Nv o v ps r k w h hs hf hrk hsk hn).mono ?_;rintro e w' ⟨ua,uc,rfl,ho,hb⟩;rw [he] at ho;obtain⟨a,c,e⟩:=aT ho;rw [e] at ho ⊢;exact⟨a,c,rfl,ho,hb⟩
theorem xJ{B e s n g:Nat}{v:Value}{xs:List Value}(hg:g<B):∀ (vs:List Value) (i:Nat) (W:World),W.ownsRow B e s v n xs->(cO W g i vs).ownsRow B e s v n xs
 |[],_,_,h=>h
 |y::vs,i,W,h=>xJ hg vs (i+1) _ (nL h hg)
theorem eP{B g:Nat}{w:World}(hg:B<=g):∀ (vs:List Value) (i:Nat) (W:World),Below B w W->Below B w (cO W g i vs)
 |[],_,_,h=>h
 |y::vs,i,W,h=>eP hg vs (i+1) _ (h.setCell hg _)
abbrev JN(a b:Rr)(d e:Value):List Value:=[.string a.own,.int .i64 a.ty,.int .i64 a.cl,.int .i64 a.tt,.string a.da,.string b.own,.int .i64 b.ty,.int .i64 b.cl,.int .i64 b.tt,.string b.da,d,e]
theorem aIe(o1 o2:ByteArray)(v1 v2:Value)(ps1 ps2:List Zp)(r1 r2:Rr)(x1 k2:Nat)(R1 R2:List Rr)(w:World)(h1:gI w v1 ps1)(h2:gI w v2 ps2)(nJ:rG ps1<=1048576)(oI:rG ps2<=1048576)(hf1:∀ p∈ps1,∀ x∈p.1.da,x.size<=1048576)(OG:∀ p∈ps2,∀ x∈p.1.da,x.size<=1048576)
 (a1:(aD ps1)[x1]? =some r1) (a2:(aD ps2)[k2]? =some r2) (s1:Vn (aD ps1)=(x1:Int)) (s2:Vn (aD ps2)=(k2:Int)) (n1:(aD ps1).length<=500) (n2:(aD ps2).length<=500) (e1:(aD ps1).take x1++(aD ps1).drop (x1+1)=R1) (e2:(aD ps2).take k2++(aD ps2).drop (k2+1)=R2)
 (f1:∀ x∈R1,xN x) (f2:∀ x∈R2,xN x) (d1:R1.Nodup) (d2:R2.Nodup) (l1:R1.length<=1000000) (l2:R2.length<=1000000):
 Calls Tryz.prog 22 #[.agg #[.string o1,v1],.agg #[.string o2,v2]] w fun e w'=>∃ d a,e=.returned (Sy r1 r2 d a)∧FZ w' w.heap.size d a (eQ R1 R2) (eQ R2 R1)∧Below w.heap.size w w':=by
 obtain⟨Rn,Ro,rfl⟩:∃ va vc,v1=.slice va ps1.length vc:=by obtain⟨⟨_,a,c,e,_⟩,_⟩:=h1;exact⟨a,c,e⟩
 obtain⟨Ta,Tc,rfl⟩:∃ va vc,v2=.slice va ps2.length vc:=by obtain⟨⟨_,a,c,e,_⟩,_⟩:=h2;exact⟨a,c,e⟩
 obtain⟨W0,lF⟩:∃ W0,W0=((w.alloc (.cells #[.string o1,.slice Rn ps1.length Ro] 25)).alloc (.cells #[.string o2,.slice Ta ps2.length Tc] 25)).alloc (.cells #[.string ⟨#[]⟩,.int .i64 0,.int .i64 0,.int .i64 0,.string ⟨#[]⟩,.string ⟨#[]⟩,.int .i64 0,.int .i64 0,.int .i64 0,.string ⟨#[]⟩,.slice none 0 0,.slice none 0 0] 32):=⟨_,rfl⟩
 have b0:Below w.heap.size w W0:=by
  rw [lF];exact(((aK w.heap.size w).alloc (aN _) _).alloc (by simp) _).alloc (by simp;omega) _
 have kz:bG W0 (w.heap.size+1) #[.string o2,.slice Ta ps2.length Tc] 25:=by
  rw [lF];have:=aH (w.alloc (.cells #[.string o1,.slice Rn ps1.length Ro] 25)) #[.string o2,.slice Ta ps2.length Tc] 25;rw [fV] at this;exact aR this _
 have kc:bG W0 (w.heap.size+2) #[.string ⟨#[]⟩,.int .i64 0,.int .i64 0,.int .i64 0,.string ⟨#[]⟩,.string ⟨#[]⟩,.int .i64 0,.int .i64 0,.int .i64 0,.string ⟨#[]⟩,.slice none 0 0,.slice none 0 0] 32:=by
  rw [lF];have:=aH ((w.alloc (.cells #[.string o1,.slice Rn ps1.length Ro] 25)).alloc (.cells #[.string o2,.slice Ta ps2.length Tc] 25)) #[.string ⟨#[]⟩,.int .i64 0,.int .i64 0,.int .i64 0,.string ⟨#[]⟩,.string ⟨#[]⟩,.int .i64 0,.int .i64 0,.int .i64 0,.string ⟨#[]⟩,.slice none 0 0,.slice none 0 0] 32;rw [fV,fV] at this;exact this
 have z0:W0.heap.size=w.heap.size+3:=by rw [lF];simp
 have yK:=CF o1 _ ps1 r1 x1 R1 W0 (h1.below b0) nJ hf1 a1 s1 n1 e1;have hp2:=fun W (hW:Below w.heap.size w W)=>CF o2 _ ps2 r2 k2 R2 W (h2.below hW) oI OG a2 s2 n2 e2
 have hwt:=fun v u xs ys W=>QP v u xs ys W
 rw [lF] at yK;clear a1 a2 s1 s2 n1 n2 e1 e2 h1 h2 hf1 OG nJ oI;go_enter Tryz.func22,Tryz.ntmps22;go_wp2_with fail
 rw [<- lF] at yK ⊢;clear lF;go_at_call 40
 refine yK.mono ?_;rintro e w1 ⟨ua,uc,rfl,o1',b1⟩;have uC:=aR (aB kz b1) (.cells #[.string r1.own,.int .i64 r1.ty,.int .i64 r1.cl,.int .i64 r1.tt,.string r1.da] 29);have DY:=aR (aB kc b1) (.cells #[.string r1.own,.int .i64 r1.ty,.int .i64 r1.cl,.int .i64 r1.tt,.string r1.da] 29);have kA1:=aH w1 #[.string r1.own,.int .i64 r1.ty,.int .i64 r1.cl,.int .i64 r1.tt,.string r1.da] 29;have mO:=Nm.aC b0 b1;have vO:=mO.alloc mO.size (.cells #[.string r1.own,.int .i64 r1.ty,.int .i64 r1.cl,.int .i64 r1.tt,.string r1.da] 29);have o12:=o1'.alloc (.cells #[.string r1.own,.int .i64 r1.ty,.int .i64 r1.cl,.int .i64 r1.tt,.string r1.da] 29);have aR0:=hp2 _ vO;have q1:=fun i=>aA uC i
 have z1:=b1.size;clear yK hp2 kz kc b1 mO o1';go_wp2_with fail
 go_at_call 40
 refine aR0.mono ?_;rintro e w3 ⟨xa,xc,rfl,o2',b3⟩;have Jr:=aR (aB DY b3) (.cells #[.string r2.own,.int .i64 r2.ty,.int .i64 r2.cl,.int .i64 r2.tt,.string r2.da] 29);have kA4:=aR (aB kA1 b3) (.cells #[.string r2.own,.int .i64 r2.ty,.int .i64 r2.cl,.int .i64 r2.tt,.string r2.da] 29);have kB4:=aH w3 #[.string r2.own,.int .i64 r2.ty,.int .i64 r2.cl,.int .i64 r2.tt,.string r2.da] 29;have TB:=Nm.aC vO b3;have xS:=TB.alloc TB.size (.cells #[.string r2.own,.int .i64 r2.ty,.int .i64 r2.cl,.int .i64 r2.tt,.string r2.da] 29);have o14:=(own_below o12 b3).alloc (.cells #[.string r2.own,.int .i64 r2.ty,.int .i64 r2.cl,.int .i64 r2.tt,.string r2.da] 29);have o24:=o2'.alloc (.cells #[.string r2.own,.int .i64 r2.ty,.int .i64 r2.cl,.int .i64 r2.tt,.string r2.da] 29);have z3:=b3.size;rw [fV] at z3;clear aR0 uC DY kA1 vO TB o12 o2' b3 q1;go_upto_region 3 with fail
 generalize w3.alloc (.cells #[.string r2.own,.int .i64 r2.ty,.int .i64 r2.cl,.int .i64 r2.tt,.string r2.da] 29)=W4 at*;have Be:Below W4.heap.size W4 W4.drew:=(aK _ _).drew;have iK:=hwt _ _ R1 R2 W4.drew (bS.aS (own_below o14 Be)) (bS.aS (own_below o24 Be)) f1 f2 d2 l1 l2;have z4:w3.heap.size+1<=W4.heap.size:=bU kB4;refine kR (fun X=>bG X w1.heap.size #[.string r1.own,.int .i64 r1.ty,.int .i64 r1.cl,.int .i64 r1.tt,.string r1.da] 29∧bG X w3.heap.size #[.string r2.own,.int .i64 r2.ty,.int .i64 r2.cl,.int .i64 r2.tt,.string r2.da] 29) 1000 ⟨dS kA4,dS kB4⟩ fun aO=>?_;refine kP 0 rfl ?_;refine kP 1 rfl ?_;refine kP 2 rfl ?_;refine kP 3 rfl ?_;refine kP 5 rfl ?_;refine kP 6 rfl ?_;refine k1 4 rfl fun K hK=>?_
 go_simp;refine iK.mono ?_;rintro e w5 ⟨dz,rfl,od,b5⟩;have b45:=Be.trans b5;have kA5:=aB kA4 b45;have kB5:=aB kB4 b45;have kc5:=aB Jr b45;have mD:=hwt _ _ R2 R1 w5 (bS.aS (own_below o24 b45)) (bS.aS (own_below o14 b45)) f2 f1 d1 l2 l1;go_wp2_with fail
 refine hK.out _ _ ⟨kA5,kB5⟩ fun hH=>?_;clear hK K iK;refine k1 7 rfl fun K hK=>?_
 go_simp;refine mD.mono ?_;rintro e w6 ⟨az,rfl,oa,b6⟩;have kA6:=aB kA5 b6;have kB6:=aB kB5 b6;have YN:=aB kc5 b6;have od6:=own_below od b6;have bw6:=Nm.aC (Nm.aC xS b45) b6;have z5:=b45.size;have pF:∀ g,dz.ownBlock=some g->g<w5.heap.size:=fun g hg=>(od.lt g hg).2
 go_wp2_with fail
 refine hK.out _ _ ⟨kA6,kB6⟩ fun hH2=>?_;clear hK K mD;obtain⟨da,dc,rfl⟩:=aT od6;obtain⟨aa,ac,rfl⟩:=aT oa;refine kP 8 rfl ?_;have rk:=fun i=>aA YN i
 have fk:=fun i=>aG YN i
 have kX:=dJ (JN r1 r2 (.slice da (eQ R1 R2).length dc) (.slice aa (eQ R2 R1).length ac)) YN rfl;have bX:=eP (g:=w.heap.size+2) (Nat.le_add_right _ _) (JN r1 r2 (.slice da (eQ R1 R2).length dc) (.slice aa (eQ R2 R1).length ac)) 0 _ bw6;have odX:=xJ (g:=w.heap.size+2) (by show w.heap.size+2<W4.heap.size;omega) (JN r1 r2 (.slice da (eQ R1 R2).length dc) (.slice aa (eQ R2 R1).length ac)) 0 _ od6;have oaX:=xJ (g:=w.heap.size+2) (by omega) (JN r1 r2 (.slice da (eQ R1 R2).length dc) (.slice aa (eQ R2 R1).length ac)) 0 _ oa
 have HO:Hid (FZ (cO w6 (w.heap.size+2) 0 (JN r1 r2 (.slice da (eQ R1 R2).length dc) (.slice aa (eQ R2 R1).length ac))) w.heap.size (.slice da (eQ R1 R2).length dc) (.slice aa (eQ R2 R1).length ac) (eQ R1 R2) (eQ R2 R1)∧Below w.heap.size w (cO w6 (w.heap.size+2) 0 (JN r1 r2 (.slice da (eQ R1 R2).length dc) (.slice aa (eQ R2 R1).length ac)))):=
  ⟨⟨w5.heap.size,by omega,fQ odX (by show w.heap.size<=W4.heap.size;omega),oaX,pF⟩,bX⟩
 have kAX:=sW (b:=w1.heap.size) (c:=w.heap.size+2) (by omega) (JN r1 r2 (.slice da (eQ R1 R2).length dc) (.slice aa (eQ R2 R1).length ac)) 0 _ kA6;have kBX:=sW (b:=w3.heap.size) (c:=w.heap.size+2) (by omega) (JN r1 r2 (.slice da (eQ R1 R2).length dc) (.slice aa (eQ R2 R1).length ac)) 0 _ kB6;clear odX oaX bX od6 oa od pF;simp only [cO,Nat.reduceAdd,Nat.zero_add] at kX HO kAX kBX;refine k1 9 rfl fun K hK=>?_
 go_simp;refine hK.out _ _ ⟨kAX,kBX⟩ fun hH3=>?_;clear hK K;refine kN ?_;have rX:=fun i=>aA kX i
 clear hH hH2 hH3 aO rk fk kAX kBX kX;go_wp2_with fail
 refine gD (v:=Sy r1 r2 (.slice da (eQ R1 R2).length dc) (.slice aa (eQ R2 R1).length ac)) ?_ rfl ⟨_,_,rfl,HO.out.1,HO.out.2⟩;simp [results,Tryz.f22,go_sem,rX]
def uW:Rr:=⟨⟨#[]⟩,0,0,0,⟨#[]⟩⟩
structure Dz where
 co:Int
 old:Rr
 new:Rr
 del:List Rr
 add:List Rr
def eX(ps:List Zp):Rr:=((aD ps).find? xM).getD uW
def GA(ps1 ps2:List Zp)(o1 o2:ByteArray):Bool:=pI ps1 o1&&pI ps2 o2&&(o1.toList==o2.toList)
def CG(ps1 ps2:List Zp)(o1 o2:ByteArray):Dz:=
 if GA ps1 ps2 o1 o2=false then⟨32,uW,uW,[],[]⟩
 else if rJ (CS (eX ps1)) (CS (eX ps2))=true then⟨0,eX ps1,eX ps2,eQ (dF (aD ps1)) (dF (aD ps2)),eQ (dF (aD ps2)) (dF (aD ps1))⟩
 else⟨27,uW,uW,[],[]⟩
def aIf(z:Dz)(w:World)(e:Ending)(w':World):Prop:=
 ∃ d a,e=.returned (.tuple #[Sy z.old z.new d a,.int .i64 z.co])∧FZ w' w.heap.size d a z.del z.add∧Below w.heap.size w w'
theorem uP(w:World)(B:Nat):FZ w B (.slice none 0 0) (.slice none 0 0) [] []:=⟨B,aN _,World.ownsRow_nil _ _ _ _,World.ownsRow_nil _ _ _ _,fun g h=>by cases h⟩
theorem FZ.below{w w':World}{B:Nat}{d e:Value}{xs ys:List Rr}(h:FZ w B d e xs ys)(hb:Below w.heap.size w w'):FZ w' B d e xs ys:=by
 obtain⟨M,h1,h2,h3,h4⟩:=h;exact⟨M,h1,own_below h2 hb,own_below h3 hb,h4⟩
theorem FZ.base{w:World}{B B':Nat}{d e:Value}{xs ys:List Rr}(h:FZ w B d e xs ys)(hb:B'<=B):FZ w B' d e xs ys:=by
 obtain⟨M,h1,h2,h3,h4⟩:=h;exact⟨M,iL hb h1,fQ h2 hb,h3,h4⟩
theorem FZ.aT4{w:World}{B g:Nat}{d e:Value}{xs ys:List Rr}(h:FZ w B d e xs ys)(hg:g<B)(vs:List Value)(i:Nat):FZ (cO w g i vs) B d e xs ys:=by
 obtain⟨M,h1,h2,h3,h4⟩:=h;exact⟨M,h1,xJ hg vs i _ h2,xJ (by omega) vs i _ h3,h4⟩
theorem FZ.sl{w:World}{B:Nat}{d e:Value}{xs ys:List Rr}(h:FZ w B d e xs ys):(∃ a c,d=.slice a xs.length c)∧∃ a c,e=.slice a ys.length c:=by
 obtain⟨M,h1,h2,h3,h4⟩:=h;exact⟨aT h2,aT h3⟩
abbrev cg0:List Value:=[.string ⟨#[]⟩,.int .i64 0,.int .i64 0,.int .i64 0,.string ⟨#[]⟩,.string ⟨#[]⟩,.int .i64 0,.int .i64 0,.int .i64 0,.string ⟨#[]⟩,.slice none 0 0,.slice none 0 0]
theorem uQ{ps:List Zp}{o:ByteArray}(hz:pI ps o=true):∃ al,Nm.split o=some al:=by
 have h0:=(oC hz).1;rw [eH] at h0
 split at h0
 ·cases h0
 rename_i h1
 cases e:Nm.split o with
 |none=>rw [e] at h1;exact absurd rfl h1
 |some al=>exact⟨al,rfl⟩
theorem II{ps:List Zp}{o:ByteArray}(hz:pI ps o=true):(aD ps).length<=500:=by
 have h0:=(oC hz).1;obtain⟨al,ha⟩:=uQ hz;rw [eH,if_neg (by rw [ha];simp)] at h0
 split at h0
 ·cases h0
 rename_i h1;omega
theorem NU(o1 o2:ByteArray)(v1 v2:Value)(ps1 ps2:List Zp)(w:World)(h1:gI w v1 ps1)(h2:gI w v2 ps2)(nJ:rG ps1<=1048576)(oI:rG ps2<=1048576)(hf1:∀ p∈ps1,p.1.own.size<=1048576∧∀ x∈p.1.da,x.size<=1048576)(OG:∀ p∈ps2,p.1.own.size<=1048576∧∀ x∈p.1.da,x.size<=1048576)(CR:o1.size<=1048576)(ho2:o2.size<=1048576):
 Calls Tryz.prog 6 #[.agg #[.string o1,v1],.agg #[.string o2,v2]] w (aIf (CG ps1 ps2 o1 o2) w):=by
 obtain⟨Rn,Ro,rfl⟩:∃ va vc,v1=.slice va ps1.length vc:=by obtain⟨⟨_,a,c,e,_⟩,_⟩:=h1;exact⟨a,c,e⟩
 obtain⟨Ta,Tc,rfl⟩:∃ va vc,v2=.slice va ps2.length vc:=by obtain⟨⟨_,a,c,e,_⟩,_⟩:=h2;exact⟨a,c,e⟩
 obtain⟨R,HR⟩:∃ R,Hid (R=CG ps1 ps2 o1 o2):=⟨_,rfl⟩;rw [<- HR.out];obtain⟨W0,lF⟩:∃ W0,W0=((w.alloc (.cells #[.string o1,.slice Rn ps1.length Ro] 25)).alloc (.cells #[.string o2,.slice Ta ps2.length Tc] 25)).alloc (.cells #[.string ⟨#[]⟩,.int .i64 0,.int .i64 0,.int .i64 0,.string ⟨#[]⟩,.string ⟨#[]⟩,.int .i64 0,.int .i64 0,.int .i64 0,.string ⟨#[]⟩,.slice none 0 0,.slice none 0 0] 32):=⟨_,rfl⟩
 have b0:Below w.heap.size w W0:=by
  rw [lF];exact(((aK w.heap.size w).alloc (aN _) _).alloc (by simp) _).alloc (by simp;omega) _
 have ky:bG W0 w.heap.size #[.string o1,.slice Rn ps1.length Ro] 25:=by
  rw [lF];exact aR (aR (aH w #[.string o1,.slice Rn ps1.length Ro] 25) _) _
 have kz:bG W0 (w.heap.size+1) #[.string o2,.slice Ta ps2.length Tc] 25:=by
  rw [lF];have:=aH (w.alloc (.cells #[.string o1,.slice Rn ps1.length Ro] 25)) #[.string o2,.slice Ta ps2.length Tc] 25;rw [fV] at this;exact aR this _
 have kc:bG W0 (w.heap.size+2) cg0.toArray 32:=by
  rw [lF];have:=aH ((w.alloc (.cells #[.string o1,.slice Rn ps1.length Ro] 25)).alloc (.cells #[.string o2,.slice Ta ps2.length Tc] 25)) #[.string ⟨#[]⟩,.int .i64 0,.int .i64 0,.int .i64 0,.string ⟨#[]⟩,.string ⟨#[]⟩,.int .i64 0,.int .i64 0,.int .i64 0,.string ⟨#[]⟩,.slice none 0 0,.slice none 0 0] 32;rw [fV,fV] at this;exact this
 have z0:W0.heap.size=w.heap.size+3:=by rw [lF];simp
 have iK:=sM o1 _ ps1 W0 (h1.below b0) nJ hf1 (by omega);have mD:=fun W (hW:Below w.heap.size w W)=>sM o2 _ ps2 W (h2.below hW) oI OG (by omega)
 have bad:∀ W,Below w.heap.size w W->bG W (w.heap.size+2) cg0.toArray 32->Hid (bG (cO W (w.heap.size+2) 0 cg0) (w.heap.size+2) cg0.toArray 32∧Below w.heap.size w (cO W (w.heap.size+2) 0 cg0)):=fun W hW hk=>⟨dJ cg0 hk rfl,eP (Nat.le_add_right _ _) cg0 0 _ hW⟩
 simp only [cO,Nat.reduceAdd,Nat.zero_add] at bad;have r0:=fun i=>aA ky i
 cases fP:pI ps1 o1
 ·have HN:Hid (R=⟨32,uW,uW,[],[]⟩):=by show _=_;rw [HR.out,CG,if_pos (by simp [GA,fP])]
  rw [fP,if_neg (by decide)] at iK;rw [lF] at iK;clear HR mD r0;go_enter Tryz.func6,Tryz.ntmps6;go_wp2_with fail
  rw [<- lF] at iK ⊢;clear lF;go_at_call 21
  refine iK.mono ?_;rintro e w1 ⟨rfl,b1⟩;have mO:=Nm.aC b0 b1;have DY:=aB kc b1;have HX:=bad _ mO DY;have rk:=fun i=>aA DY i
  have fk:=fun i=>aG DY i
  have rX:=fun i=>aA HX.out.1 i
  clear bad;go_wp2;rw [HN.out];refine gD (v:=.tuple #[Sy uW uW (.slice none 0 0) (.slice none 0 0),.int .i64 32]) ?_ rfl ⟨_,_,rfl,uP _ _,HX.out.2⟩;simp [results,Tryz.f6,go_sem,rX,uW]
 rw [fP,if_pos rfl] at iK;cases fZ:pI ps2 o2
 ·have HN:Hid (R=⟨32,uW,uW,[],[]⟩):=by show _=_;rw [HR.out,CG,if_pos (by simp [GA,fZ])]
  rw [fZ,if_neg (by decide)] at mD;rw [lF] at iK;clear HR r0;go_enter Tryz.func6,Tryz.ntmps6;go_wp2_with fail
  rw [<- lF] at iK ⊢;clear lF;go_at_call 21
  refine iK.mono ?_;rintro e w1 ⟨rfl,b1⟩;have mO:=Nm.aC b0 b1;have DY:=aB kc b1;have uC:=aB kz b1;have rz:=fun i=>aA uC i
  go_wp2_with fail
  go_at_call 21
  refine(mD _ mO).mono ?_;rintro e w2 ⟨rfl,b2⟩;have vO:=Nm.aC mO b2;have EC:=aB DY b2;have HX:=bad _ vO EC;have rk:=fun i=>aA EC i
  have fk:=fun i=>aG EC i
  have rX:=fun i=>aA HX.out.1 i
  clear bad;go_wp2;rw [HN.out];refine gD (v:=.tuple #[Sy uW uW (.slice none 0 0) (.slice none 0 0),.int .i64 32]) ?_ rfl ⟨_,_,rfl,uP _ _,HX.out.2⟩;simp [results,Tryz.f6,go_sem,rX,uW]
 rw [fZ,if_pos rfl] at mD;cases ho:(o1.toList==o2.toList)
 ·have HN:Hid (R=⟨32,uW,uW,[],[]⟩):=by show _=_;rw [HR.out,CG,if_pos (by simp only [GA,fP,fZ,ho];rfl)]
  rw [lF] at iK;clear HR r0;go_enter Tryz.func6,Tryz.ntmps6;go_wp2_with fail
  rw [<- lF] at iK ⊢;clear lF;go_at_call 21
  refine iK.mono ?_;rintro e w1 ⟨rfl,b1⟩;have mO:=Nm.aC b0 b1;have DY:=aB kc b1;have uC:=aB kz b1;have Zy:=aB ky b1;have rz:=fun i=>aA uC i
  go_wp2_with fail
  go_at_call 21
  refine(mD _ mO).mono ?_;rintro e w2 ⟨rfl,b2⟩;have vO:=Nm.aC mO b2;have EC:=aB DY b2;have sV:=aB uC b2;have ky2:=aB Zy b2;have ry2:=fun i=>aA ky2 i
  have rz2:=fun i=>aA sV i
  have HX:=bad _ vO EC;have rk:=fun i=>aA EC i
  have fk:=fun i=>aG EC i
  have rX:=fun i=>aA HX.out.1 i
  clear bad rz;go_wp2;rw [HN.out];refine gD (v:=.tuple #[Sy uW uW (.slice none 0 0) (.slice none 0 0),.int .i64 32]) ?_ rfl ⟨_,_,rfl,uP _ _,HX.out.2⟩;simp [results,Tryz.f6,go_sem,rX,uW]
 obtain⟨al1,Hr⟩:=uQ fP;obtain⟨al2,ha2⟩:=uQ fZ;obtain⟨r1,k1,s1,ds1,f1,g1,i1,c1,-,-,-,u1,-⟩:=FW fP Hr;obtain⟨r2,k2,s2,ds2,f2,g2,i2,c2,-,-,-,u2,-⟩:=FW fZ ha2;have e1:eX ps1=r1:=by rw [eX,f1];rfl
 have e2:eX ps2=r2:=by rw [eX,f2];rfl
 have t1:Jq r1=true:=by simp [Jq,List.find?_some f1,u1]
 have t2:Jq r2=true:=by simp [Jq,List.find?_some f2,u2]
 have m1:=(sK hf1 r1 (bP g1)).2;have m2:=(sK OG r2 (bP g2)).2;have n1:=II fP;have n2:=II fZ;have hdf:=fun W (hW:Below w.heap.size w W)=>aIe o1 o2 _ _ ps1 ps2 r1 r2 k1 k2 _ _ W (h1.below hW) (h2.below hW) nJ oI (fun p hp x hx=>(hf1 p hp).2 x hx) (fun p hp x hx=>(OG p hp).2 x hx) g1 g2 i1 i2 n1 n2 c1 c2 (fun x hx=>FV fP Hr hf1 x (List.mem_filter.1 hx).1) (fun x hx=>FV fZ ha2 OG x (List.mem_filter.1 hx).1) ((AL fP).filter _) ((AL fZ).filter _) (by have:=List.length_filter_le (fun x=> !xM x) (aD ps1);unfold dF;omega) (by have:=List.length_filter_le (fun x=> !xM x) (aD ps2);unfold dF;omega)
 have hcb:=fun W=>CU r2 r1 W (by omega) (by omega)
 have ecb:cbB r2 r1=rJ (CS r1) (CS r2):=by rw [cbB,t1,t2];rfl
 rw [ecb] at hcb
 have HD:Hid (R=if rJ (CS r1) (CS r2)=true then⟨0,r1,r2,eQ (dF (aD ps1)) (dF (aD ps2)),eQ (dF (aD ps2)) (dF (aD ps1))⟩ else⟨27,uW,uW,[],[]⟩):=by
  show _=_
  rw [HR.out,CG,if_neg (by simp only [GA,fP,fZ,ho];decide),e1,e2]
 clear HR e1 e2 t1 t2 m1 m2 n1 n2 ecb f1 g1 i1 c1 u1 f2 g2 i2 c2 u2 Hr ha2;generalize eQ (dF (aD ps1)) (dF (aD ps2))=D1 at*;generalize eQ (dF (aD ps2)) (dF (aD ps1))=D2 at*;generalize rJ (CS r1) (CS r2)=L at*;rw [lF] at iK;clear r0;go_enter Tryz.func6,Tryz.ntmps6;go_wp2_with fail
 rw [<- lF] at iK ⊢;clear lF;go_at_call 21
 refine iK.mono ?_;rintro e w1 ⟨rfl,b1⟩;have mO:=Nm.aC b0 b1;have DY:=aB kc b1;have uC:=aB kz b1;have Zy:=aB ky b1;have rz:=fun i=>aA uC i
 have z1:=b1.size;go_wp2_with fail
 go_at_call 21
 refine(mD _ mO).mono ?_;rintro e w2 ⟨rfl,b2⟩;have vO:=Nm.aC mO b2;have EC:=aB DY b2;have sV:=aB uC b2;have ky2:=aB Zy b2;have ry2:=fun i=>aA ky2 i
 have rz2:=fun i=>aA sV i
 have z2:=b2.size;clear rz iK mD;go_wp2_with fail
 go_at_call 22
 refine(hdf _ vO).mono ?_;rintro e w3 ⟨d,a,rfl,oc,b3⟩;obtain⟨⟨da,dc,rfl⟩,aa,ac,rfl⟩:=oc.sl;have kV:=aH w3 (JN r1 r2 (.slice da D1.length dc) (.slice aa D2.length ac)).toArray 32;have b4:=(aK w3.heap.size w3).alloc (aN _) (.cells (JN r1 r2 (.slice da D1.length dc) (.slice aa D2.length ac)).toArray 32);have oc4:=oc.below b4;have Jr:=aB (aB EC b3) b4;have xS:=Nm.aC (Nm.aC vO b3) b4;have rV:=fun i=>aA kV i
 clear hdf ry2 rz2 Zy ky2 uC sV ky kz kc DY EC mO vO b3 b4 b0 b1 b2 oc;go_wp2_with fail
 go_at_call 23
 refine(hcb _).mono ?_;rintro e w5 ⟨rfl,b5⟩;have kV5:=aB kV b5;have oc5:=oc4.below b5;have kc5:=aB Jr b5;have RO:=Nm.aC xS b5;have rV5:=fun i=>aA kV5 i
 have rk:=fun i=>aA kc5 i
 have fk:=fun i=>aG kc5 i
 clear rV kV Jr oc4 xS hcb
 cases L with
 |true=>
  have HN:Hid (R=⟨0,r1,r2,D1,D2⟩):=by show _=_;rw [HD.out,if_pos rfl]
  have kX:=dJ (JN r1 r2 (.slice da D1.length dc) (.slice aa D2.length ac)) kc5 rfl;have HX:Hid (FZ (cO w5 (w.heap.size+2) 0 (JN r1 r2 (.slice da D1.length dc) (.slice aa D2.length ac))) w.heap.size (.slice da D1.length dc) (.slice aa D2.length ac) D1 D2∧Below w.heap.size w (cO w5 (w.heap.size+2) 0 (JN r1 r2 (.slice da D1.length dc) (.slice aa D2.length ac)))):=⟨(oc5.aT4 (by omega) _ 0).base (by omega),eP (Nat.le_add_right _ _) _ 0 _ RO⟩;simp only [cO,Nat.reduceAdd,Nat.zero_add] at kX HX;have rX:=fun i=>aA kX i
  clear bad HD kX;go_wp2;rw [HN.out];refine gD (v:=.tuple #[Sy r1 r2 (.slice da D1.length dc) (.slice aa D2.length ac),.int .i64 0]) ?_ rfl ⟨_,_,rfl,HX.out.1,HX.out.2⟩
  simp [results,Tryz.f6,go_sem,rX]
 |false=>
  have HN:Hid (R=⟨27,uW,uW,[],[]⟩):=by show _=_;rw [HD.out,if_neg (by decide)]
  have HX:=bad _ RO kc5;have rX:=fun i=>aA HX.out.1 i
  clear bad HD;go_wp2;rw [HN.out];refine gD (v:=.tuple #[Sy uW uW (.slice none 0 0) (.slice none 0 0),.int .i64 27]) ?_ rfl ⟨_,_,rfl,uP _ _,HX.out.2⟩;simp [results,Tryz.f6,go_sem,rX,uW]
