import Derived.Test.YthdpacepbbcocaaGreatJCzC
import Derived.Test.YthdpacepbbcocaaGreatJDzE
set_option linter.unusedVariables false
set_option maxRecDepth 100000
set_option maxHeartbeats 3200000
namespace Go.Proofs.YthdpacepbbcocaaGreat
open Go.RowKit
theorem Ip{ps:List Zp}{o:ByteArray}(hz:pI ps o=true):∃ (s:Sz) (ds:List ByteArray),rO (ps.map (·.1)) o 6=some s∧s.da=(eX ps).da::ds∧ZX (eX ps)=.agg #[.string s.own,.int .i64 s.ty,.int .i64 1,.int .i64 s.tt,.string (eX ps).da]∧s∈ps.map (·.1):=by
 obtain⟨al,ha⟩:=uQ hz;obtain⟨r,k,s,ds,f1,-,-,-,f2,f3,f4,-,f5⟩:=FW hz ha;have e:eX ps=r:=by rw [eX,f1];rfl
 have a1:r.own=s.own:=congrArg Rr.own f4;have a2:r.ty=s.ty:=congrArg Rr.ty f4;have a3:r.cl=1:=congrArg Rr.cl f4;have a4:r.tt=s.tt:=congrArg Rr.tt f4;rw [e];refine⟨s,ds,f2,f3,?_,f5⟩;show Value.agg #[.string r.own,.int .i64 r.ty,.int .i64 r.cl,.int .i64 r.tt,.string r.da]=_
 rw [a1,a2,a3,a4]
def aIo(ps:List Zp):Prop:=∀ p∈ps,p.1.own.size<=1048576∧p.1.da.length<=1048576∧∀ x∈p.1.da,x.size<=1048576
theorem Ej(o:ByteArray)(v:Value)(ps:List Zp)(w:World)(h:gI w v ps)(hl:ps.length<=1048576)(hF:aIo ps)(ho:o.size<=maxLen)(hz:pI ps o=true):
 Calls Tryz.prog 19 #[.agg #[.string o,v]] w fun e w'=>e=.returned (ZX (eX ps))∧Below w.heap.size w w':=by
 obtain⟨s,ds,f1,f2,f3,f4⟩:=Ip hz;obtain⟨p,hp,ep⟩:=lS f4;rw [f3];exact Zx o v ps s _ ds w h hl (fun p hp=>⟨(hF p hp).1,(hF p hp).2.1⟩) ho f1 f2 (by rw [<- ep];exact(hF p hp).2.1)
theorem lZ(o:ByteArray)(v:Value)(ps:List Zp)(w:World)(h:gI w v ps)(hl:ps.length<=1048576)(hF:aIo ps)(ho:o.size<=maxLen)(hz:pI ps o=true):
 Calls Tryz.prog 17 #[.agg #[.string o,v]] w fun e w'=>e=.returned (.int .i64 (CS (eX ps)))∧Below w.heap.size w w':=by
 obtain⟨s,ds,f1,f2,f3,f4⟩:=Ip hz;obtain⟨p,hp,ep⟩:=lS f4;exact JO o v ps s _ ds w h hl (fun p hp=>⟨(hF p hp).1,(hF p hp).2.1⟩) ho f1 f2 (by have:=(hF p hp).2.2 (eX ps).da (by rw [ep,f2];simp);omega)
theorem yY(o1 o2:ByteArray)(v1 v2:Value)(ps1 ps2:List Zp)(w:World)(h1:gI w v1 ps1)(h2:gI w v2 ps2)(nJ:rG ps1<=1048576)(oI:rG ps2<=1048576)(CX:ps1.length<=1048576)(EI:ps2.length<=1048576)(hF1:aIo ps1)(Ht:aIo ps2)(CR:o1.size<=1048576)(ho2:o2.size<=1048576):
 Calls Tryz.prog 5 #[.agg #[.string o1,v1],.agg #[.string o2,v2]] w (aIf (CG ps1 ps2 o1 o2) w):=by
 obtain⟨Rn,Ro,rfl⟩:∃ va vc,v1=.slice va ps1.length vc:=by obtain⟨⟨_,a,c,e,_⟩,_⟩:=h1;exact⟨a,c,e⟩
 obtain⟨Ta,Tc,rfl⟩:∃ va vc,v2=.slice va ps2.length vc:=by obtain⟨⟨_,a,c,e,_⟩,_⟩:=h2;exact⟨a,c,e⟩
 obtain⟨R,HR⟩:∃ R,Hid (R=CG ps1 ps2 o1 o2):=⟨_,rfl⟩;rw [<- HR.out];obtain⟨W0,lF⟩:∃ W0,W0=((w.alloc (.cells #[.string o1,.slice Rn ps1.length Ro] 25)).alloc (.cells #[.string o2,.slice Ta ps2.length Tc] 25)).alloc (.cells #[.string ⟨#[]⟩,.int .i64 0,.int .i64 0,.int .i64 0,.string ⟨#[]⟩,.string ⟨#[]⟩,.int .i64 0,.int .i64 0,.int .i64 0,.string ⟨#[]⟩,.slice none 0 0,.slice none 0 0] 32):=⟨_,rfl⟩
 have b0:Below w.heap.size w W0:=by
  rw [lF];exact(((aK w.heap.size w).alloc (aN _) _).alloc (by simp) _).alloc (by simp;omega) _
 have ky:bG W0 w.heap.size #[.string o1,.slice Rn ps1.length Ro] 25:=by
  rw [lF];exact aR (aR (aH w #[.string o1,.slice Rn ps1.length Ro] 25) _) _
 have kz:bG W0 (w.heap.size+1) #[.string o2,.slice Ta ps2.length Tc] 25:=by
  rw [lF];have:=aH (w.alloc (.cells #[.string o1,.slice Rn ps1.length Ro] 25)) #[.string o2,.slice Ta ps2.length Tc] 25;rw [fV] at this;exact aR this _
 have kc:bG W0 (w.heap.size+2) cg0.toArray 32:=by
  rw [lF];have:=aH ((w.alloc (.cells #[.string o1,.slice Rn ps1.length Ro] 25)).alloc (.cells #[.string o2,.slice Ta ps2.length Tc] 25)) #[.string ⟨#[]⟩,.int .i64 0,.int .i64 0,.int .i64 0,.string ⟨#[]⟩,.string ⟨#[]⟩,.int .i64 0,.int .i64 0,.int .i64 0,.string ⟨#[]⟩,.slice none 0 0,.slice none 0 0] 32;rw [fV,fV] at this;exact this
 have z0:W0.heap.size=w.heap.size+3:=by rw [lF];simp
 have iK:=yX o1 _ ps1 W0 (h1.below b0) nJ CX (fun p hp=>⟨(hF1 p hp).1,(hF1 p hp).2.2⟩) (by unfold maxLen;omega);have mD:=fun W (hW:Below w.heap.size w W)=>yX o2 _ ps2 W (h2.below hW) oI EI (fun p hp=>⟨(Ht p hp).1,(Ht p hp).2.2⟩) (by unfold maxLen;omega)
 have bad:∀ W,Below w.heap.size w W->bG W (w.heap.size+2) cg0.toArray 32->Hid (bG (cO W (w.heap.size+2) 0 cg0) (w.heap.size+2) cg0.toArray 32∧Below w.heap.size w (cO W (w.heap.size+2) 0 cg0)):=fun W hW hk=>⟨dJ cg0 hk rfl,eP (Nat.le_add_right _ _) cg0 0 _ hW⟩
 simp only [cO,Nat.reduceAdd,Nat.zero_add] at bad;have r0:=fun i=>aA ky i
 cases fP:pI ps1 o1
 ·have HN:Hid (R=⟨32,uW,uW,[],[]⟩):=by show _=_;rw [HR.out,CG,if_pos (by simp [GA,fP])]
  rw [fP,if_neg (by decide)] at iK;rw [lF] at iK;clear HR mD r0;go_enter Tryz.func5,Tryz.ntmps5;go_wp2_with fail
  rw [<- lF] at iK ⊢;clear lF;go_at_call 15
  refine iK.mono ?_;rintro e w1 ⟨rfl,b1⟩;have mO:=Nm.aC b0 b1;have DY:=aB kc b1;have HX:=bad _ mO DY;have rk:=fun i=>aA DY i
  have fk:=fun i=>aG DY i
  have rX:=fun i=>aA HX.out.1 i
  clear bad;go_wp2;rw [HN.out];refine gD (v:=.tuple #[Sy uW uW (.slice none 0 0) (.slice none 0 0),.int .i64 32]) ?_ rfl ⟨_,_,rfl,uP _ _,HX.out.2⟩;simp [results,Tryz.f5,go_sem,rX,uW]
 rw [fP,if_pos rfl] at iK;cases fZ:pI ps2 o2
 ·have HN:Hid (R=⟨32,uW,uW,[],[]⟩):=by show _=_;rw [HR.out,CG,if_pos (by simp [GA,fZ])]
  rw [fZ,if_neg (by decide)] at mD;rw [lF] at iK;clear HR r0;go_enter Tryz.func5,Tryz.ntmps5;go_wp2_with fail
  rw [<- lF] at iK ⊢;clear lF;go_at_call 15
  refine iK.mono ?_;rintro e w1 ⟨rfl,b1⟩;have mO:=Nm.aC b0 b1;have DY:=aB kc b1;have uC:=aB kz b1;have rz:=fun i=>aA uC i
  go_wp2_with fail
  go_at_call 15
  refine(mD _ mO).mono ?_;rintro e w2 ⟨rfl,b2⟩;have vO:=Nm.aC mO b2;have EC:=aB DY b2;have HX:=bad _ vO EC;have rk:=fun i=>aA EC i
  have fk:=fun i=>aG EC i
  have rX:=fun i=>aA HX.out.1 i
  clear bad;go_wp2;rw [HN.out];refine gD (v:=.tuple #[Sy uW uW (.slice none 0 0) (.slice none 0 0),.int .i64 32]) ?_ rfl ⟨_,_,rfl,uP _ _,HX.out.2⟩;simp [results,Tryz.f5,go_sem,rX,uW]
 rw [fZ,if_pos rfl] at mD;cases ho:(o1.toList==o2.toList)
 ·have HN:Hid (R=⟨32,uW,uW,[],[]⟩):=by show _=_;rw [HR.out,CG,if_pos (by simp only [GA,fP,fZ,ho];rfl)]
  rw [lF] at iK;clear HR r0;go_enter Tryz.func5,Tryz.ntmps5;go_wp2_with fail
  rw [<- lF] at iK ⊢;clear lF;go_at_call 15
  refine iK.mono ?_;rintro e w1 ⟨rfl,b1⟩;have mO:=Nm.aC b0 b1;have DY:=aB kc b1;have uC:=aB kz b1;have Zy:=aB ky b1;have rz:=fun i=>aA uC i
  go_wp2_with fail
  go_at_call 15
  refine(mD _ mO).mono ?_;rintro e w2 ⟨rfl,b2⟩;have vO:=Nm.aC mO b2;have EC:=aB DY b2;have sV:=aB uC b2;have ky2:=aB Zy b2;have ry2:=fun i=>aA ky2 i
  have rz2:=fun i=>aA sV i
  have HX:=bad _ vO EC;have rk:=fun i=>aA EC i
  have fk:=fun i=>aG EC i
  have rX:=fun i=>aA HX.out.1 i
  clear bad rz;go_wp2;rw [HN.out];refine gD (v:=.tuple #[Sy uW uW (.slice none 0 0) (.slice none 0 0),.int .i64 32]) ?_ rfl ⟨_,_,rfl,uP _ _,HX.out.2⟩;simp [results,Tryz.f5,go_sem,rX,uW]
 have m1:o1.size<=maxLen:=by unfold maxLen;omega
 have m2:o2.size<=maxLen:=by unfold maxLen;omega
 have aR3:=fun W (hW:Below w.heap.size w W)=>lZ o1 _ ps1 W (h1.below hW) CX hF1 m1 fP
 have aR4:=fun W (hW:Below w.heap.size w W)=>lZ o2 _ ps2 W (h2.below hW) EI Ht m2 fZ
 have aR5:=fun W (hW:Below w.heap.size w W)=>Ej o1 _ ps1 W (h1.below hW) CX hF1 m1 fP
 have aR6:=fun W (hW:Below w.heap.size w W)=>Ej o2 _ ps2 W (h2.below hW) EI Ht m2 fZ
 have aR7:=fun W (hW:Below w.heap.size w W)=>SG o1 _ ps1 W (h1.below hW) nJ CX
 have aR8:=fun W (hW:Below w.heap.size w W)=>SG o2 _ ps2 W (h2.below hW) oI EI
 have n1:(dF (aD ps1)).length<=1000000:=by have:=List.length_filter_le (fun x=> !xM x) (aD ps1);have:=II fP;unfold dF;omega
 have n2:(dF (aD ps2)).length<=1000000:=by have:=List.length_filter_le (fun x=> !xM x) (aD ps2);have:=II fZ;unfold dF;omega
 have HD:Hid (R=if rJ (CS (eX ps1)) (CS (eX ps2))=true then⟨0,eX ps1,eX ps2,eQ (dF (aD ps1)) (dF (aD ps2)),eQ (dF (aD ps2)) (dF (aD ps1))⟩ else⟨27,uW,uW,[],[]⟩):=by
  show _=_
  rw [HR.out,CG,if_neg (by simp only [GA,fP,fZ,ho];decide)]
 clear HR m1 m2 hF1 Ht nJ oI;generalize eX ps1=r1 at*;generalize eX ps2=r2 at*;generalize dF (aD ps1)=R1 at*;generalize dF (aD ps2)=R2 at*;generalize CS r1=N1 at*;generalize CS r2=N2 at*;have Vu:=fun W=>lU N1 N2 W
 generalize rJ N1 N2=L at*;have hlA:=fun v u W h h'=>SF v u R1 R2 W h h' n1 n2
 have hlB:=fun v u W h h'=>SF v u R2 R1 W h h' n2 n1
 generalize eQ R1 R2=D1 at*;generalize eQ R2 R1=D2 at*;rw [lF] at iK;clear r0;go_enter Tryz.func5,Tryz.ntmps5;go_wp2_with fail
 rw [<- lF] at iK ⊢;clear lF;go_at_call 15
 refine iK.mono ?_;rintro e w1 ⟨rfl,b1⟩;have mO:=Nm.aC b0 b1;have DY:=aB kc b1;have uC:=aB kz b1;have Zy:=aB ky b1;have rz:=fun i=>aA uC i
 have z1:=b1.size;go_wp2_with fail
 go_at_call 15
 refine(mD _ mO).mono ?_;rintro e w2 ⟨rfl,b2⟩;have vO:=Nm.aC mO b2;have EC:=aB DY b2;have sV:=aB uC b2;have ky2:=aB Zy b2;have ry2:=fun i=>aA ky2 i
 have rz2:=fun i=>aA sV i
 have z2:=b2.size;clear rz iK mD DY uC Zy kc kz ky b1 b2 b0;go_upto_region 3 with fail
 have Be:Below w2.heap.size w2 w2.drew:=(aK _ _).drew;have bd:=Nm.aC vO Be;refine kR (fun X=>bG X w.heap.size #[.string o1,.slice Rn ps1.length Ro] 25∧bG X (w.heap.size+1) #[.string o2,.slice Ta ps2.length Tc] 25) 1000 ⟨dS ky2,dS sV⟩ fun aO=>?_;clear ry2 rz2;refine kP 0 rfl ?_;refine kP 2 rfl ?_;refine k1 1 rfl fun K hK=>?_
 go_simp;refine(aR3 _ bd).mono ?_;rintro e w3 ⟨rfl,b3⟩;have b23:=Be.trans b3;have ky3:=aB ky2 b23;have yP:=aB sV b23;have kc3:=aB EC b23;have TB:=Nm.aC vO b23;have z3:=b23.size;go_wp2_with fail
 refine hK.out _ _ ⟨ky3,yP⟩ fun hH3=>?_;clear hK K aO ky2 sV EC Be b3 b23 bd aR3;refine k1 3 rfl fun K hK=>?_
 go_simp;refine(aR4 _ TB).mono ?_;rintro e w4 ⟨rfl,b4⟩;have ky4:=aB ky3 b4;have ZN:=aB yP b4;have Jr:=aB kc3 b4;have xS:=Nm.aC TB b4;have z4:=b4.size;go_wp2_with fail
 refine hK.out _ _ ⟨ky4,ZN⟩ fun hH4=>?_;clear hK K hH3 ky3 yP kc3 b4 aR4 TB vO mO;refine k1 4 rfl fun K hK=>?_
 go_simp;refine(Vu _).mono ?_;rintro e w4' ⟨rfl,rfl⟩;go_wp2_with fail
 refine hK.out _ _ ⟨ky4,ZN⟩ fun hH5=>?_;clear hK K Vu hH4;refine kP 5 rfl ?_;refine kN ?_;clear hH5;have rk:=fun i=>aA Jr i
 have fk:=fun i=>aG Jr i
 cases L
 ·have HN:Hid (R=⟨27,uW,uW,[],[]⟩):=by show _=_;rw [HD.out,if_neg (by decide)]
  have HX:=bad _ xS Jr;have rX:=fun i=>aA HX.out.1 i
  clear bad HD;go_wp2;rw [HN.out];refine gD (v:=.tuple #[Sy uW uW (.slice none 0 0) (.slice none 0 0),.int .i64 27]) ?_ rfl ⟨_,_,rfl,uP _ _,HX.out.2⟩;simp [results,Tryz.f5,go_sem,rX,uW]
 have HN:Hid (R=⟨0,r1,r2,D1,D2⟩):=by show _=_;rw [HD.out,if_pos rfl]
 have ry:=fun i=>aA ky4 i
 clear bad HD rk fk;go_wp2_with fail
 go_at_call 18
 refine(aR7 _ xS).mono ?_;rintro e w5 ⟨xa,rfl,ox5,b5⟩;obtain⟨xaa,xac,rfl⟩:=aT ox5;have ky5:=aB ky4 b5;have kz5:=aB ZN b5;have kc5:=aB Jr b5;have RO:=Nm.aC xS b5;have z5:=b5.size;have rz:=fun i=>aA kz5 i
 clear ry ky4 ZN Jr b5 xS aR7;go_wp2_with fail
 go_at_call 18
 refine(aR8 _ RO).mono ?_;rintro e w6 ⟨xb,rfl,oy6,b6⟩;obtain⟨xba,xbc,rfl⟩:=aT oy6;have ox6:=own_below ox5 b6;have ky6:=aB ky5 b6;have kz6:=aB kz5 b6;have YN:=aB kc5 b6;have bw6:=Nm.aC RO b6;have z6:=b6.size;clear rz ky5 kz5 kc5 b6 RO aR8 ox5;go_upto_region 7 with fail
 have Be:Below w6.heap.size w6 w6.drew:=(aK _ _).drew;have bd:=Nm.aC bw6 Be;refine kR (fun X=>bG X w.heap.size #[.string o1,.slice Rn ps1.length Ro] 25∧bG X (w.heap.size+1) #[.string o2,.slice Ta ps2.length Tc] 25) 1000 ⟨dS ky6,dS kz6⟩ fun aO=>?_;refine kP 0 rfl ?_;refine kP 2 rfl ?_;refine kP 4 rfl ?_;refine kP 5 rfl ?_;refine kP 7 rfl ?_;refine kP 8 rfl ?_;refine k1 1 rfl fun K hK=>?_
 go_simp;refine(aR5 _ bd).mono ?_;rintro e w7 ⟨rfl,b7⟩;have b67:=Be.trans b7;have ky7:=aB ky6 b67;have ZO:=aB kz6 b67;have kc7:=aB YN b67;have ox7:=own_below ox6 b67;have oy7:=own_below oy6 b67;have bw7:=Nm.aC bw6 b67;have z7:=b67.size;go_wp2_with fail
 refine hK.out _ _ ⟨ky7,ZO⟩ fun hH7=>?_;clear hK K aO ky6 kz6 YN Be b7 b67 bd aR5 ox6 oy6;refine k1 3 rfl fun K hK=>?_
 go_simp;refine(aR6 _ bw7).mono ?_;rintro e w8 ⟨rfl,b8⟩;have ky8:=aB ky7 b8;have Zi:=aB ZO b8;have kc8:=aB kc7 b8;have ox8:=own_below ox7 b8;have oy8:=own_below oy7 b8;have bw8:=Nm.aC bw7 b8;have z8:=b8.size;go_wp2_with fail
 refine hK.out _ _ ⟨ky8,Zi⟩ fun hH8=>?_;clear hK K hH7 ky7 ZO kc7 b8 aR6 ox7 oy7;have iK:=hlA _ _ w8 (bS.aS ox8) (bS.aS oy8);refine k1 6 rfl fun K hK=>?_
 go_simp;refine iK.mono ?_;rintro e w9 ⟨dz,rfl,od,b9⟩;have ky9:=aB ky8 b9;have kz9:=aB Zi b9;have Iq:=aB kc8 b9;have mD:=hlB _ _ w9 (bS.aS (own_below oy8 b9)) (bS.aS (own_below ox8 b9));have bw9:=Nm.aC bw8 b9;have z9:=b9.size;go_wp2_with fail
 refine hK.out _ _ ⟨ky9,kz9⟩ fun hH9=>?_;clear hK K hH8 ky8 Zi kc8 b9 ox8 oy8 iK hlA hlB;refine k1 9 rfl fun K hK=>?_
 go_simp;refine mD.mono ?_;rintro e wA ⟨az,rfl,oa,bA⟩;have kyA:=aB ky9 bA;have kzA:=aB kz9 bA;have kcA:=aB Iq bA;have odA:=own_below od bA;have bwA:=Nm.aC bw9 bA;have pF:∀ g,dz.ownBlock=some g->g<w9.heap.size:=fun g hg=>(od.lt g hg).2
 go_wp2_with fail
 refine hK.out _ _ ⟨kyA,kzA⟩ fun hHA=>?_;clear hK K hH9 mD ky9 kz9 Iq bA;obtain⟨da,dc,rfl⟩:=aT odA;obtain⟨aa,ac,rfl⟩:=aT oa;refine kP 10 rfl ?_;have rk:=fun i=>aA kcA i
 have fk:=fun i=>aG kcA i
 have kX:=dJ (JN r1 r2 (.slice da D1.length dc) (.slice aa D2.length ac)) kcA rfl
 have HO:Hid (FZ (cO wA (w.heap.size+2) 0 (JN r1 r2 (.slice da D1.length dc) (.slice aa D2.length ac))) w.heap.size (.slice da D1.length dc) (.slice aa D2.length ac) D1 D2∧Below w.heap.size w (cO wA (w.heap.size+2) 0 (JN r1 r2 (.slice da D1.length dc) (.slice aa D2.length ac)))):=
  ⟨⟨w9.heap.size,by omega,fQ (xJ (g:=w.heap.size+2) (by omega) (JN r1 r2 (.slice da D1.length dc) (.slice aa D2.length ac)) 0 _ odA) (by omega),xJ (g:=w.heap.size+2) (by omega) (JN r1 r2 (.slice da D1.length dc) (.slice aa D2.length ac)) 0 _ oa,pF⟩,eP (g:=w.heap.size+2) (Nat.le_add_right _ _) (JN r1 r2 (.slice da D1.length dc) (.slice aa D2.length ac)) 0 _ bwA⟩
 have kyX:=sW (b:=w.heap.size) (c:=w.heap.size+2) (by omega) (JN r1 r2 (.slice da D1.length dc) (.slice aa D2.length ac)) 0 _ kyA;have kzX:=sW (b:=w.heap.size+1) (c:=w.heap.size+2) (by omega) (JN r1 r2 (.slice da D1.length dc) (.slice aa D2.length ac)) 0 _ kzA;clear odA oa od pF;simp only [cO,Nat.reduceAdd,Nat.zero_add] at kX HO kyX kzX;refine k1 11 rfl fun K hK=>?_
 go_simp;refine hK.out _ _ ⟨kyX,kzX⟩ fun hHX=>?_;clear hK K;refine kP 12 rfl ?_;refine kN ?_;have rX:=fun i=>aA kX i
 clear hHA hHX rk fk kyX kzX kX;go_wp2_with fail
 rw [HN.out];refine gD (v:=.tuple #[Sy r1 r2 (.slice da D1.length dc) (.slice aa D2.length ac),.int .i64 0]) ?_ rfl ⟨_,_,rfl,HO.out.1,HO.out.2⟩;simp [results,Tryz.f5,go_sem,rX]
