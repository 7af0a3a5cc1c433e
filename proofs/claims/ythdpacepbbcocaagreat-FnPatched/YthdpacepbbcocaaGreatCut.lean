import Derived.Test.YthdpacepbbcocaaGreatJZnT
import Derived.Test.YthdpacepbbcocaaGreatJTake2
set_option maxRecDepth 100000
set_option maxHeartbeats 4000000
namespace Go.Proofs.YthdpacepbbcocaaGreat
open Go.RowKit
theorem aGs(t:Int):∀ p∈Dt.lM t,Uk p:=by
 unfold Dt.lM
 repeat' split
 all_goals simp [Uk]
theorem Tryz.aGt:(Tryz.prog.info? 230).map (fun i=>(i.zero,i.size,i.bytes))=some (some (.agg #[.int .i64 0,.int .i64 0]),2,16):=by kernel_rfl
theorem Az(w:World):(nilAhead 406 249 (.agg #[]) "loop.example/s01858/impl.take").run Tryz.prog w=.ok (some false) w:=by kernel_rfl
theorem WU(w:World):(method 406 249 (.agg #[]) "loop.example/s01858/impl.take").run Tryz.prog w=.ok (249,(.agg #[])) w:=by kernel_rfl
theorem Ba(q:Nat)(w:World):(nilAhead 406 247 (.int .i64 (q:Int)) "loop.example/s01858/impl.take").run Tryz.prog w=.ok (some false) w:=by kernel_rfl
theorem WV(q:Nat)(w:World):(method 406 247 (.int .i64 (q:Int)) "loop.example/s01858/impl.take").run Tryz.prog w=.ok (248,(.int .i64 (q:Int))) w:=by kernel_rfl
theorem Bb(w:World):(nilAhead 406 251 (.agg #[]) "loop.example/s01858/impl.take").run Tryz.prog w=.ok (some false) w:=by kernel_rfl
theorem WW(w:World):(method 406 251 (.agg #[]) "loop.example/s01858/impl.take").run Tryz.prog w=.ok (251,(.agg #[])) w:=by kernel_rfl
theorem WX(w:World):(nilAhead 406 250 (.agg #[]) "loop.example/s01858/impl.take").run Tryz.prog w=.ok (some false) w:=by kernel_rfl
theorem TC(w:World):(method 406 250 (.agg #[]) "loop.example/s01858/impl.take").run Tryz.prog w=.ok (250,(.agg #[])) w:=by kernel_rfl
theorem Ob(w:World):(nilAhead 406 252 (.agg #[]) "loop.example/s01858/impl.take").run Tryz.prog w=.ok (some false) w:=by kernel_rfl
theorem Gy(w:World):(method 406 252 (.agg #[]) "loop.example/s01858/impl.take").run Tryz.prog w=.ok (252,(.agg #[])) w:=by kernel_rfl
theorem Gz(w:World):(nilAhead 406 254 (.agg #[]) "loop.example/s01858/impl.take").run Tryz.prog w=.ok (some false) w:=by kernel_rfl
theorem Bc(w:World):(method 406 254 (.agg #[]) "loop.example/s01858/impl.take").run Tryz.prog w=.ok (257,(.agg #[])) w:=by kernel_rfl
theorem Bd(w:World):(nilAhead 406 253 (.agg #[]) "loop.example/s01858/impl.take").run Tryz.prog w=.ok (some false) w:=by kernel_rfl
theorem WY(w:World):(method 406 253 (.agg #[]) "loop.example/s01858/impl.take").run Tryz.prog w=.ok (256,(.agg #[])) w:=by kernel_rfl
theorem aCy{t:Int}{w:World}{k:Nat}{p:Dt.Pc}(h:(Dt.lM t)[k]? =some p):(RG t w).cell? ⟨w.heap.size,k,none⟩=some (Jh p):=by
 rw [RG,World.cell?_alloc_new];simp [h]
theorem aGu{W w4 w1:World}{v v':Value}{B e n a m:Nat}{sp:List (Nat×Nat)}(hB:B<=w4.heap.size)
 (aU:w4.ownsRow B e 2 v n (spanCells sp)) (aJ:Below B W w4) (o:Obj)
 (dD:w1.ownsRow B e 2 v' (n+1) (spanCells sp++[.int .i64 (a:Int),.int .i64 ((a:Int)+(m:Int))])) (bZ:(w4.alloc o).grownBy w1 v.ownBlock):
 w1.ownsRow B e 2 v' (n+1) (spanCells (sp++[(a,a+m)]))∧Below B W w1:=by
 refine⟨by rw [PG];simpa [spanCells] using dD,?_⟩;refine(aJ.alloc hB o).grown bZ (by simp;omega) ?_;intro k hk;exact(aU.lt k hk).1
theorem RP(t:Int)(d:ByteArray)(w:World)(hd:d.size<=2000000):
 Calls Tryz.prog 152 #[.int .i64 t,.string d] w fun e w'=>∃ v,e=.returned (.tuple #[v,.int .i64 (bQ t d)])∧
  (∀ sp,zS t d=some sp->w'.ownsRow w.heap.size 230 2 v sp.length (spanCells sp))∧(zS t d=none->v=.slice none 0 0)∧Below w.heap.size w w':=by
 obtain⟨i0,hi,iJ,fP,fZ⟩:=info_parts Tryz.aGt
 by_cases ht:t<0∨65535<t
 ·have HC:=Nm.aF (GQ (d:=d) ht)
  by_cases ht0:t<0
  ·clear ht;go_enter Tryz.func152,Tryz.ntmps152;go_wp2;go_ret2;rw [HC.out.1,HC.out.2];exact⟨_,rfl,(fun sp h=>by cases h),fun _=>rfl,aK _ _⟩
  have ht1:65535<t:=by omega
  have ht2:0<=t:=by omega
  clear ht;go_enter Tryz.func152,Tryz.ntmps152;go_wp2;go_ret2;rw [HC.out.1,HC.out.2];exact⟨_,rfl,(fun sp h=>by cases h),fun _=>rfl,aK _ _⟩
 have ht0:0<=t:=by omega
 have ht1:t<=65535:=by omega
 by_cases hl:65535<d.size
 ·have HC:=Nm.aF (GR ht hl);have Es:(65535:Int)<(d.size:Int):=by omega
  clear ht;go_enter Tryz.func152,Tryz.ntmps152;go_wp2;go_ret2;rw [HC.out.1,HC.out.2];exact⟨_,rfl,(fun sp h=>by cases h),fun _=>rfl,aK _ _⟩
 have Es:(d.size:Int)<=65535:=by omega
 have HC0:=Nm.aF (fun h=>PH (d:=d) ht hl h);have HC1:=Nm.aF (fun sp h=>GU (d:=d) (sp:=sp) ht hl h);have hlen:=Ct t;have Ay:=aGs t;have aL:=fun k p h=>aCy (t:=t) (w:=w) (k:=k) (p:=p) h
 have EZ:=Uj t w;have oG:=aB3 (Dt.lM t) d;have DU:(RG t w).heap.size=w.heap.size+1:=by simp [RG]
 have iE:Below w.heap.size w (RG t w):=(aK _ _).alloc (aN _) _;generalize RG t w=w2 at*;generalize Dt.lM t=fs at*;have HW2:=Nm.aF DU;clear ht hl DU;go_enter Tryz.func152,Tryz.ntmps152;go_wp2_with (go_at_call 176;refine EZ.mono ?_;rintro e w1 ⟨rfl,hw⟩;obtain rfl:w2=w1:=hw.symm;clear hw)
 go_loopw [6,7,24] (fun v a k wr=>∃ (k' a' n:Nat) (sp:List (Nat×Nat)),k'<=fs.length∧k=.int .i64 k'∧a=.int .i64 a'∧a'<=d.size∧n<=k'∧Hid (sp.length=n)∧CAt fs d sp (fs.drop k') a'∧wr.ownsRow w2.heap.size 230 2 v n (spanCells sp)∧Below w2.heap.size w2 wr)
  (fun _ _ k _=>fs.length-(intOf k).toNat)
 case atStart=>exact⟨0,0,0,[],dO _,rfl,rfl,dO _,aN _,rfl,by simpa using oG,World.ownsRow_nil _ _ _ _,aK _ _⟩
 obtain⟨k,a,n,sp,hk,rfl,rfl,ha,hnk,HL,iT,aU,aJ⟩:=hrel;clear oG EZ;have pQ:=aJ.size
 by_cases bV:k<fs.length
 ·have KD:(k:Int)<(fs.length:Int):=by omega
  obtain⟨p,hp⟩:∃ p,fs[k]? =some p:=⟨_,bY bV⟩
  have QN:wr.cell? ⟨w.heap.size,k,none⟩=some (Jh p):=by
   have:=HW2.out;rw [aJ.cell (by simp;omega)];exact aL k p hp
  have aM6:=Ay p (bP hp)
  have Be:fs.drop k=p::fs.drop (k+1):=by
   obtain⟨h1,h2⟩:=dK hp;rw [List.drop_eq_getElem_cons h1,h2]
  rw [Be] at iT;clear aL Ay Be hp;have qA:=fun w=>Ul p w aM6
  have aJm:(a:Int)<=(d.size:Int):=by omega
  cases p using Dt.Pc.elim with
  |txs=>exact absurd aM6 (by simp [Uk])
  |SK=>exact absurd aM6 (by simp [Uk])
  |nm=>
   simp only [Jh] at QN qA;have aX:=fun w=>Gc (d.extract a d.size) w
   have hn1:=Az;have hn2:=WU
   cases hq:Dt.sz .nm (d.extract a d.size) with
   |none=>
    have HQ:=Nm.aF (HC0.out (wO iT hq));have aX:=fun w=>(aX w).mono (fun e w' h=>qN.no h hq)
    clear hq iT;go_wp2;go_region_with (go_at_call 249;refine(aX _).mono ?_;rintro e w4 ⟨m,rfl,pR⟩;have HB:Hid (Below w.heap.size w w4):=Nm.aC (Nm.aC iE aJ.drew) pR;clear pR)
    go_wp2;go_ret2;rw [HQ.out.1,HQ.out.2]
    exact⟨_,rfl,(fun sp h=>by cases h),fun _=>rfl,HB.out⟩
   |some m=>
    have oZ:=wP iT ha hq;have HX:=Nm.aF oZ.1;have zM:=oZ.2;have aX:=fun w=>(aX w).mono (fun e w' h=>qN.yes h hq)
    simp only [Dt.Pc.JV,if_true] at HX qA
    have HL2:Hid ((sp++[(a,a+m)]).length=n+1):=by
     show _=_
     rw [nG,HL.out];rfl
    clear hq iT oZ HL;go_wp2;go_region_with (go_at_call 249;refine(aX _).mono ?_;rintro e w4 ⟨rfl,pR⟩;have jC:=own_below aU.drew pR;have HB:Hid (Below w2.heap.size w2 w4):=Nm.aC aJ.drew pR;clear pR)
    have aS9:=HB.out.size;go_wp2_with (first|(go_at_call 177;refine(qA _).mono ?_;rintro e w5 ⟨rfl,hw⟩;obtain rfl:w4=w5:=hw.symm;clear hw)|(at_builtin;refine wpList_append_own _ rfl (.tmp 43) (.tmp 49) 200 rfl w2.heap.size 230 i0 (.agg #[.int .i64 0,.int .i64 0]) 2 16 Tryz.underlying200 hi iJ fP fZ rfl (by decide) _ _ _ rfl (jC.alloc _) ⟨w4.heap.size,0,none⟩ 1 1 [.int .i64 (a:Int),.int .i64 ((a:Int)+(m:Int))] rfl rfl (Cx _ _ _ _) (Cy _ _ rfl rfl) (by unfold maxLen;omega) (by omega) (by simp;omega) ?_))
    intro v' w6 dD bZ _;have R:=aGu aS9 jC HB.out _ dD bZ;clear dD bZ aU aJ jC HB;go_wp2;go_roundw
    case rel=>exact⟨k+1,a+m,n+1,_,by omega,by go_num,by go_num,zM,by omega,HL2,HX.out,R.1,R.2⟩
    simp [intOf];omega
  |bs q=>
   simp only [Jh] at QN qA;have aX:=fun w=>Al q (d.extract a d.size) w
   have hn1:=Ba q;have hn2:=WV q
   cases hq:Dt.sz (.bs q) (d.extract a d.size) with
   |none=>
    have HQ:=Nm.aF (HC0.out (wO iT hq));have aX:=fun w=>(aX w).mono (fun e w' h=>qN.no h hq)
    clear hq iT;go_wp2;go_region_with (go_at_call 248;refine(aX _).mono ?_;rintro e w4 ⟨m,rfl,pR⟩;have HB:Hid (Below w.heap.size w w4):=Nm.aC (Nm.aC iE aJ.drew) pR;clear pR)
    go_wp2;go_ret2;rw [HQ.out.1,HQ.out.2]
    exact⟨_,rfl,(fun sp h=>by cases h),fun _=>rfl,HB.out⟩
   |some m=>
    have oZ:=wP iT ha hq;have HX:=Nm.aF oZ.1;have zM:=oZ.2;have aX:=fun w=>(aX w).mono (fun e w' h=>qN.yes h hq)
    simp only [Dt.Pc.JV,Bool.false_eq_true,if_false,List.append_nil] at HX qA;clear hq iT oZ;go_wp2;go_region_with (go_at_call 248;refine(aX _).mono ?_;rintro e w4 ⟨rfl,pR⟩;have jC:=own_below aU.drew pR;have HB:Hid (Below w2.heap.size w2 w4):=Nm.aC aJ.drew pR;clear pR)
    go_wp2_with (go_at_call 177;refine(qA _).mono ?_;rintro e w5 ⟨rfl,hw⟩;obtain rfl:w4=w5:=hw.symm;clear hw)
    go_roundw
    case rel=>exact⟨k+1,a+m,n,sp,by omega,by go_num,by go_num,zM,by omega,HL,HX.out,jC,HB.out⟩
    simp [intOf];omega
  |tx=>
   simp only [Jh] at QN qA;have aX:=fun w=>BO (d.extract a d.size) w (by simp;omega)
   have hn1:=Bb;have hn2:=WW
   cases hq:Dt.sz .tx (d.extract a d.size) with
   |none=>
    have HQ:=Nm.aF (HC0.out (wO iT hq));have aX:=fun w=>(aX w).mono (fun e w' h=>qN.no h hq)
    clear hq iT;go_wp2;go_region_with (go_at_call 251;refine(aX _).mono ?_;rintro e w4 ⟨m,rfl,pR⟩;have HB:Hid (Below w.heap.size w w4):=Nm.aC (Nm.aC iE aJ.drew) pR;clear pR)
    go_wp2;go_ret2;rw [HQ.out.1,HQ.out.2]
    exact⟨_,rfl,(fun sp h=>by cases h),fun _=>rfl,HB.out⟩
   |some m=>
    have oZ:=wP iT ha hq;have HX:=Nm.aF oZ.1;have zM:=oZ.2;have aX:=fun w=>(aX w).mono (fun e w' h=>qN.yes h hq)
    simp only [Dt.Pc.JV,Bool.false_eq_true,if_false,List.append_nil] at HX qA;clear hq iT oZ;go_wp2;go_region_with (go_at_call 251;refine(aX _).mono ?_;rintro e w4 ⟨rfl,pR⟩;have jC:=own_below aU.drew pR;have HB:Hid (Below w2.heap.size w2 w4):=Nm.aC aJ.drew pR;clear pR)
    go_wp2_with (go_at_call 177;refine(qA _).mono ?_;rintro e w5 ⟨rfl,hw⟩;obtain rfl:w4=w5:=hw.symm;clear hw)
    go_roundw
    case rel=>exact⟨k+1,a+m,n,sp,by omega,by go_num,by go_num,zM,by omega,HL,HX.out,jC,HB.out⟩
    simp [intOf];omega
  |txe=>
   simp only [Jh] at QN qA;have aX:=fun w=>Am (d.extract a d.size) w (by simp;omega)
   have hn1:=WX;have hn2:=TC
   cases hq:Dt.sz .txe (d.extract a d.size) with
   |none=>
    have HQ:=Nm.aF (HC0.out (wO iT hq));have aX:=fun w=>(aX w).mono (fun e w' h=>qN.no h hq)
    clear hq iT;go_wp2;go_region_with (go_at_call 250;refine(aX _).mono ?_;rintro e w4 ⟨m,rfl,pR⟩;have HB:Hid (Below w.heap.size w w4):=Nm.aC (Nm.aC iE aJ.drew) pR;clear pR)
    go_wp2;go_ret2;rw [HQ.out.1,HQ.out.2]
    exact⟨_,rfl,(fun sp h=>by cases h),fun _=>rfl,HB.out⟩
   |some m=>
    have oZ:=wP iT ha hq;have HX:=Nm.aF oZ.1;have zM:=oZ.2;have aX:=fun w=>(aX w).mono (fun e w' h=>qN.yes h hq)
    simp only [Dt.Pc.JV,Bool.false_eq_true,if_false,List.append_nil] at HX qA;clear hq iT oZ;go_wp2;go_region_with (go_at_call 250;refine(aX _).mono ?_;rintro e w4 ⟨rfl,pR⟩;have jC:=own_below aU.drew pR;have HB:Hid (Below w2.heap.size w2 w4):=Nm.aC aJ.drew pR;clear pR)
    go_wp2_with (go_at_call 177;refine(qA _).mono ?_;rintro e w5 ⟨rfl,hw⟩;obtain rfl:w4=w5:=hw.symm;clear hw)
    go_roundw
    case rel=>exact⟨k+1,a+m,n,sp,by omega,by go_num,by go_num,zM,by omega,HL,HX.out,jC,HB.out⟩
    simp [intOf];omega
  |tag=>
   simp only [Jh] at QN qA;have aX:=fun w=>Mv (d.extract a d.size) w (by simp;omega)
   have hn1:=Ob;have hn2:=Gy
   cases hq:Dt.sz .tag (d.extract a d.size) with
   |none=>
    have HQ:=Nm.aF (HC0.out (wO iT hq));have aX:=fun w=>(aX w).mono (fun e w' h=>qN.no h hq)
    clear hq iT;go_wp2;go_region_with (go_at_call 252;refine(aX _).mono ?_;rintro e w4 ⟨m,rfl,pR⟩;have HB:Hid (Below w.heap.size w w4):=Nm.aC (Nm.aC iE aJ.drew) pR;clear pR)
    go_wp2;go_ret2;rw [HQ.out.1,HQ.out.2]
    exact⟨_,rfl,(fun sp h=>by cases h),fun _=>rfl,HB.out⟩
   |some m=>
    have oZ:=wP iT ha hq;have HX:=Nm.aF oZ.1;have zM:=oZ.2;have aX:=fun w=>(aX w).mono (fun e w' h=>qN.yes h hq)
    simp only [Dt.Pc.JV,Bool.false_eq_true,if_false,List.append_nil] at HX qA;clear hq iT oZ;go_wp2;go_region_with (go_at_call 252;refine(aX _).mono ?_;rintro e w4 ⟨rfl,pR⟩;have jC:=own_below aU.drew pR;have HB:Hid (Below w2.heap.size w2 w4):=Nm.aC aJ.drew pR;clear pR)
    go_wp2_with (go_at_call 177;refine(qA _).mono ?_;rintro e w5 ⟨rfl,hw⟩;obtain rfl:w4=w5:=hw.symm;clear hw)
    go_roundw
    case rel=>exact⟨k+1,a+m,n,sp,by omega,by go_num,by go_num,zM,by omega,HL,HX.out,jC,HB.out⟩
    simp [intOf];omega
  |mp=>
   simp only [Jh] at QN qA;have aX:=fun w=>Mt (d.extract a d.size) w (by simp;omega)
   have hn1:=Gz;have hn2:=Bc
   cases hq:Dt.sz .mp (d.extract a d.size) with
   |none=>
    have HQ:=Nm.aF (HC0.out (wO iT hq));have aX:=fun w=>(aX w).mono (fun e w' h=>qN.no h hq)
    clear hq iT;go_wp2;go_region_with (go_at_call 257;refine(aX _).mono ?_;rintro e w4 ⟨m,rfl,pR⟩;have HB:Hid (Below w.heap.size w w4):=Nm.aC (Nm.aC iE aJ.drew) pR;clear pR)
    go_wp2;go_ret2;rw [HQ.out.1,HQ.out.2]
    exact⟨_,rfl,(fun sp h=>by cases h),fun _=>rfl,HB.out⟩
   |some m=>
    have oZ:=wP iT ha hq;have HX:=Nm.aF oZ.1;have zM:=oZ.2;have aX:=fun w=>(aX w).mono (fun e w' h=>qN.yes h hq)
    simp only [Dt.Pc.JV,Bool.false_eq_true,if_false,List.append_nil] at HX qA;clear hq iT oZ;go_wp2;go_region_with (go_at_call 257;refine(aX _).mono ?_;rintro e w4 ⟨rfl,pR⟩;have jC:=own_below aU.drew pR;have HB:Hid (Below w2.heap.size w2 w4):=Nm.aC aJ.drew pR;clear pR)
    go_wp2_with (go_at_call 177;refine(qA _).mono ?_;rintro e w5 ⟨rfl,hw⟩;obtain rfl:w4=w5:=hw.symm;clear hw)
    go_roundw
    case rel=>exact⟨k+1,a+m,n,sp,by omega,by go_num,by go_num,zM,by omega,HL,HX.out,jC,HB.out⟩
    simp [intOf];omega
  |rs=>
   simp only [Jh] at QN qA;have aX:=fun w=>Gd (d.extract a d.size) w
   have hn1:=Bd;have hn2:=WY
   cases hq:Dt.sz .rs (d.extract a d.size) with
   |none=>
    have HQ:=Nm.aF (HC0.out (wO iT hq));have aX:=fun w=>(aX w).mono (fun e w' h=>qN.no h hq)
    clear hq iT;go_wp2;go_region_with (go_at_call 256;refine(aX _).mono ?_;rintro e w4 ⟨m,rfl,pR⟩;have HB:Hid (Below w.heap.size w w4):=Nm.aC (Nm.aC iE aJ.drew) pR;clear pR)
    go_wp2;go_ret2;rw [HQ.out.1,HQ.out.2]
    exact⟨_,rfl,(fun sp h=>by cases h),fun _=>rfl,HB.out⟩
   |some m=>
    have oZ:=wP iT ha hq;have HX:=Nm.aF oZ.1;have zM:=oZ.2;have aX:=fun w=>(aX w).mono (fun e w' h=>qN.yes h hq)
    simp only [Dt.Pc.JV,Bool.false_eq_true,if_false,List.append_nil] at HX qA;clear hq iT oZ;go_wp2;go_region_with (go_at_call 256;refine(aX _).mono ?_;rintro e w4 ⟨rfl,pR⟩;have jC:=own_below aU.drew pR;have HB:Hid (Below w2.heap.size w2 w4):=Nm.aC aJ.drew pR;clear pR)
    go_wp2_with (go_at_call 177;refine(qA _).mono ?_;rintro e w5 ⟨rfl,hw⟩;obtain rfl:w4=w5:=hw.symm;clear hw)
    go_roundw
    case rel=>exact⟨k+1,a+m,n,sp,by omega,by go_num,by go_num,zM,by omega,HL,HX.out,jC,HB.out⟩
    simp [intOf];omega
 have KD:(fs.length:Int)<=(k:Int):=by omega
 have Mh:fs.drop k=[]:=List.drop_eq_nil_of_le (by omega);rw [Mh] at iT;clear aL Ay Mh
 by_cases h0:a<d.size
 ·have HQ:=Nm.aF (HC0.out (aFn iT h0));have Sg:(a:Int)<(d.size:Int):=by omega
  have HB:Hid (Below w.heap.size w wr):=Nm.aC iE aJ;clear iT aU aJ;go_wp2;go_ret2;rw [HQ.out.1,HQ.out.2];exact⟨_,rfl,(fun sp h=>by cases h),fun _=>rfl,HB.out⟩
 have HQ:=Nm.aF (HC1.out _ (aJn iT (by omega)));have Sg:(d.size:Int)<=(a:Int):=by omega
 have HB:Hid (Below w.heap.size w wr):=Nm.aC iE aJ;have dW:=fQ (B':=w.heap.size) aU (by have:=HW2.out;omega);rw [<- HL.out] at dW;have HO:=Nm.aF dW;clear iT aU aJ dW;go_wp2;go_ret2;rw [HQ.out.1,HQ.out.2];exact⟨_,rfl,(fun qs h=>by cases h;exact HO.out),(fun h=>by cases h),HB.out⟩
