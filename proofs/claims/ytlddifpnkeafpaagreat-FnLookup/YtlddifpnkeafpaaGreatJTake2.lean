import Derived.Test.YtlddifpnkeafpaaGreatJData1
import Derived.Test.YtlddifpnkeafpaaGreatJTbPS
set_option maxRecDepth 100000
set_option maxHeartbeats 4000000
namespace Go.Proofs.YtlddifpnkeafpaaGreat
open Go.RowKit
def rD(p:Dt.Pc)(d:ByteArray)(w:World)(e:Ending)(w':World):Prop:=
 ∃ m:Nat,e=.returned (.tuple #[.int .i64 (m:Int),.bool (Dt.sz p d).isSome])∧(∀ n,Dt.sz p d=some n->n=m)∧Below w.heap.size w w'
variable {d:ByteArray}{i n:Nat}{p:Dt.Pc}{w w':World}
theorem pV(h:Dt.sz p d=none)(m:Nat)(hb:Below w.heap.size w w'):rD p d w (.returned (.tuple #[.int .i64 (m:Int),.bool false])) w':=
 ⟨m,by rw [h];rfl,(fun n hn=>by rw [h] at hn;cases hn),hb⟩
theorem uT{m:Nat}(h:Dt.sz p d=some m)(hb:Below w.heap.size w w'):rD p d w (.returned (.tuple #[.int .i64 (m:Int),.bool true])) w':=
 ⟨m,by rw [h];rfl,(fun n hn=>by rw [h] at hn;cases hn;rfl),hb⟩
theorem rD.no{e:Ending}(h:rD p d w e w')(hq:Dt.sz p d=none):∃ m:Nat,e=.returned (.tuple #[.int .i64 (m:Int),.bool false])∧Below w.heap.size w w':=by
 obtain⟨m,he,_,hb⟩:=h;rw [hq] at he;exact⟨m,he,hb⟩
theorem rD.yes{e:Ending}(h:rD p d w e w')(hq:Dt.sz p d=some n):e=.returned (.tuple #[.int .i64 (n:Int),.bool true])∧Below w.heap.size w w':=by
 obtain⟨m,he,hm,hb⟩:=h;obtain rfl:=hm n hq;rw [hq] at he;exact⟨he,hb⟩
theorem Kg(d:ByteArray)(w:World):
 Calls Tryz.prog 236 #[.agg #[],.string d] w (rD .nm d w):=by
 have aX:=PI d;go_enter Tryz.func236,Tryz.ntmps236
 cases hq:Dt.sz .nm d with
 |none=>
  have HQ:=Nm.aD hq;rw [hq] at aX;simp only [szV,Option.getD_none,Option.isSome_none] at aX;clear hq;go_wp2_with (go_at_call 113;refine(aX _).mono ?_;rintro e w1 ⟨rfl,rfl⟩)
  go_ret2
  exact pV HQ.out 0 ((aJ _ _).alloc (aI _) _)
 |some m=>
  have HQ:=Nm.aD hq;rw [hq] at aX;simp only [szV,Option.getD_some,Option.isSome_some] at aX;clear hq;go_wp2_with (go_at_call 113;refine(aX _).mono ?_;rintro e w1 ⟨rfl,rfl⟩)
  go_ret2;exact uT HQ.out ((aJ _ _).alloc (aI _) _)
theorem Es(n:Nat)(d:ByteArray)(w:World):
 Calls Tryz.prog 235 #[.int .i64 (n:Int),.string d] w (rD (.bs n) d w):=by
 by_cases h:n<=d.size
 ·have HQ:Hid (Dt.sz (.bs n) d=some n):=by show _=_;rw [Dt.sz,if_pos h]
  have h':(n:Int)<=(d.size:Int):=by omega
  go_enter Tryz.func235,Tryz.ntmps235;go_wp2;go_ret2;exact uT HQ.out (aJ _ _)
 have HQ:Hid (Dt.sz (.bs n) d=none):=by show _=_;rw [Dt.sz,if_neg h]
 have h':(d.size:Int)<(n:Int):=by omega
 go_enter Tryz.func235,Tryz.ntmps235;go_wp2;go_ret2;exact pV HQ.out n (aJ _ _)
theorem aEh(h:0<d.size)(h1:d.size<1+d[0].toNat):Dt.sz .tx d=none:=by
 have e:Dt.fP d=ByteArray.empty:=by rw [Dt.fP,dif_pos h,if_neg (by omega)]
 rw [Dt.sz,e];rfl
theorem aIa(h:0<d.size)(h1:1+d[0].toNat<=d.size):Dt.sz .tx d=some (1+d[0].toNat):=by
 have e:Dt.fP d=d.extract 0 (d[0].toNat+1):=by rw [Dt.fP,dif_pos h,if_pos (by omega)]
 have e1:(Dt.fP d).size=1+d[0].toNat:=by rw [e];simp;omega
 rw [Dt.sz,if_neg (by omega),e1]
theorem aIb(h:d.size=0):Dt.sz .tx d=none:=by
 have e:Dt.fP d=ByteArray.empty:=by rw [Dt.fP,dif_neg (by omega)]
 rw [Dt.sz,e];rfl
theorem EF(d:ByteArray)(w:World)(hd:d.size<=1000000000):
 Calls Tryz.prog 238 #[.agg #[],.string d] w (rD .tx d w):=by
 by_cases h0:d.size=0
 ·have HQ:=Nm.aD (aIb h0);obtain⟨e1,e2⟩:=nJ h0;clear h0;go_enter Tryz.func238,Tryz.ntmps238;go_wp2;go_ret2;exact pV HQ.out 0 ((aJ _ _).alloc (aI _) _)
 have hp:0<d.size:=by omega
 obtain⟨e1,e2⟩:=iR hp;have hc:(d[0].toNat:Int)<256:=by have:=d[0].toNat_lt;omega
 by_cases h1:1+d[0].toNat<=d.size
 ·have HQ:=Nm.aD (aIa hp h1);have ZG:(1:Int)+(d[0].toNat:Int)<=(d.size:Int):=by omega
  clear h0;go_enter Tryz.func238,Tryz.ntmps238;go_wp2;go_ret2;exact uT HQ.out ((aJ _ _).alloc (aI _) _)
 have HQ:=Nm.aD (aEh hp (by omega));have ZG:(d.size:Int)<(1:Int)+(d[0].toNat:Int):=by omega
 have h1b:decide ((1:Int)+(d[0].toNat:Int)<=(d.size:Int))=false:=by simp;omega
 clear h0;go_enter Tryz.func238,Tryz.ntmps238;go_wp2;go_ret2;exact pV HQ.out (1+d[0].toNat) ((aJ _ _).alloc (aI _) _)
theorem Kh(d:ByteArray)(w:World):
 Calls Tryz.prog 243 #[.agg #[],.string d] w (rD .rs d w):=by
 have HQ:Hid (Dt.sz .rs d=some d.size):=rfl;go_enter Tryz.func243,Tryz.ntmps243;go_wp2;go_ret2;exact uT HQ.out ((aJ _ _).alloc (aI _) _)
theorem Qr(d:ByteArray)(w:World)(hd:d.size<=2000000):
 Calls Tryz.prog 244 #[.agg #[],.string d] w (rD .mp d w):=by
 have aX:=fun w=>Ea d w hd
 cases hM:Iq d with
 |true=>
  have HQ:Hid (Dt.sz .mp d=some d.size):=by show _=_;rw [Dt.sz,hM];rfl
  rw [hM] at aX;clear hM;go_enter Tryz.func244,Tryz.ntmps244;go_wp2_with (go_at_call 245;refine(aX _).mono ?_;rintro e w1 ⟨v,rfl,_,aG⟩;have HB:Hid (Below w.heap.size w w1):=Nm.aC ((aJ _ _).alloc (aI _) _) aG;clear aG)
  go_ret2
  exact uT HQ.out HB.out
 |false=>
  have HQ:Hid (Dt.sz .mp d=none):=by show _=_;rw [Dt.sz,hM];rfl
  rw [hM] at aX;clear hM;go_enter Tryz.func244,Tryz.ntmps244;go_wp2_with (go_at_call 245;refine(aX _).mono ?_;rintro e w1 ⟨v,rfl,_,aG⟩;have HB:Hid (Below w.heap.size w w1):=Nm.aC ((aJ _ _).alloc (aI _) _) aG;clear aG)
  go_ret2;exact pV HQ.out _ HB.out
theorem O9(h:Dt.sz .tx d=some n):(Dt.fP d).size=n∧n≠0:=by
 rw [Dt.sz] at h
 split at h
 ·cases h
 rename_i h0;simp at h;exact⟨h,by omega⟩
theorem O_(h:Dt.sz .tx d=none):(Dt.fP d).size=0:=by
 rw [Dt.sz] at h
 split at h
 ·assumption
 cases h
def XAt(d:ByteArray)(i:Nat):Prop:=Dt.DT d=i+Dt.DT (d.extract i d.size)
theorem aAv(d:ByteArray):XAt d 0:=by simp [XAt]
theorem aEi(h:XAt d i)(hi:i<=d.size)(hn:Dt.sz .tx (d.extract i d.size)=some n):XAt d (i+n)∧i+n<=d.size∧n≠0:=by
 obtain⟨h1,h2⟩:=O9 hn;have hle:=Dt.uL (d.extract i d.size);have hz:(d.extract i d.size).size=d.size-i:=by simp
 refine⟨?_,by omega,h2⟩;rw [XAt,h,Dt.Nv (by omega),h1,Dt.PH (by omega) (aI _)];omega
theorem aIc(h:XAt d i)(hi:i<d.size)(hn:Dt.sz .tx (d.extract i d.size)=none):Dt.sz .txe d=none:=by
 have h1:=O_ hn;have:Dt.DT d=i:=by rw [h,Dt.YM h1];rfl
 rw [Dt.sz,if_pos (by omega)]
theorem aId(h:XAt d i)(hi:i=d.size):Dt.sz .txe d=if d.size=0 then none else some d.size:=by
 have h1:(d.extract i d.size).size=0:=by simp;omega
 have h2:=Dt.uL (d.extract i d.size);have h3:Dt.DT d=d.size:=by rw [h,Dt.YM (by omega)];omega
 rw [Dt.sz]
 by_cases h0:d.size=0
 ·rw [if_pos (by omega),if_pos h0]
 rw [if_neg (by omega),if_neg h0]
theorem Et(d:ByteArray)(w:World)(hd:d.size<=1000000000):
 Calls Tryz.prog 237 #[.agg #[],.string d] w (rD .txe d w):=by
 have mI:=aAv d;go_enter Tryz.func237,Tryz.ntmps237;go_wp2
 go_loopw [6] (fun v wr=>∃ i:Nat,i<=d.size∧v=.int .i64 i∧XAt d i∧Below w.heap.size w wr) (fun v _=>d.size-(intOf v).toNat)
 ·exact⟨0,dR _,rfl,mI,(aJ _ _).alloc (aI _) _⟩
 obtain⟨i,hi,rfl,hx,aG⟩:=hrel;clear mI
 by_cases bY:i<d.size
 ·have SE:(i:Int)<(d.size:Int):=by omega
  have aH6:(i:Int)<=(d.size:Int):=by omega
  have aX:=fun w=>EF (d.extract i d.size) w (by simp;omega)
  cases hq:Dt.sz .tx (d.extract i d.size) with
  |none=>
   have HQ:=Nm.aD (aIc hx bY hq);have aX:=fun w=>(aX w).mono (fun e w' h=>rD.no h hq)
   clear hq hx;go_wp2_with (go_at_call 238;refine(aX _).mono ?_;rintro e w1 ⟨m,rfl,hb⟩;have HB:Hid (Below w.heap.size w w1):=Nm.aC aG hb;clear hb)
   go_ret2
   exact pV HQ.out 0 HB.out
  |some n=>
   have hs:=aEi hx hi hq;have HX:=Nm.aD hs.1;have xM:=hs.2;have aX:=fun w=>(aX w).mono (fun e w' h=>rD.yes h hq)
   clear hq hx hs;go_wp2_with (go_at_call 238;refine(aX _).mono ?_;rintro e w1 ⟨rfl,hb⟩;have HB:Hid (Below w.heap.size w w1):=Nm.aC aG hb;clear hb)
   go_roundw
   ·exact⟨i+n,xM.1,by go_num,HX.out,HB.out⟩
   simp [intOf];omega
 have SE:(d.size:Int)<=(i:Int):=by omega
 have hid:i=d.size:=by omega
 have WF:=aId hx hid;clear hx
 by_cases h0:d.size=0
 ·rw [if_pos h0] at WF;have HQ:=Nm.aD WF;obtain rfl:i=0:=by omega
  clear WF h0 hid hi;go_wp2;go_ret2;exact pV HQ.out 0 aG
 rw [if_neg h0,<- hid] at WF;have HQ:=Nm.aD WF;have K8:(0:Int)<(i:Int):=by omega
 have h0'':0<i:=by omega
 clear WF h0 hid hi;go_wp2;go_ret2;exact uT HQ.out aG
theorem Qs(d:ByteArray)(w:World)(hd:d.size<=1000000000):
 Calls Tryz.prog 239 #[.agg #[],.string d] w (rD .tag d w):=by
 have aX:=fun w=>EF d w hd
 cases hq:Dt.sz .tx d with
 |none=>
  have h0:=O_ hq
  have HQ:Hid (Dt.sz .tag d=none):=by
   show _=_
   rw [Dt.sz,Dt.SC (.inl (by omega))];rfl
  have aX:=fun w=>(aX w).mono (fun e w' h=>rD.no h hq)
  clear hq h0;go_enter Tryz.func239,Tryz.ntmps239;go_wp2_with (go_at_call 238;refine(aX _).mono ?_;rintro e w1 ⟨m,rfl,hb⟩;have HB:Hid (Below w.heap.size w w1):=Nm.aC ((aJ _ _).alloc (aI _) _) hb;clear hb)
  go_ret2
  exact pV HQ.out _ HB.out
 |some n=>
  obtain⟨h1,h2⟩:=O9 hq;have hle:=Dt.uL d;have aKu:1<=n:=by omega
  have hpos':(1:Int)<=(n:Int):=by omega
  have aAl:(n:Int)<=(d.size:Int):=by omega
  have EG:=fun w=>Y2 (d.extract 1 n) w (by simp;omega)
  have aIe:=aKo h1 h2;have aX:=fun w=>(aX w).mono (fun e w' h=>rD.yes h hq)
  cases hT:Dt.RO d with
  |true=>
   have HQ:Hid (Dt.sz .tag d=some n):=by show _=_;rw [Dt.sz,hT,h1];rfl
   rw [aIe,hT] at EG;clear hq h1 h2 aIe hT hle;go_enter Tryz.func239,Tryz.ntmps239;go_wp2_with (first|(go_at_call 238;refine(aX _).mono ?_;rintro e w1 ⟨rfl,hb⟩;have HB:Hid (Below w.heap.size w w1):=Nm.aC ((aJ _ _).alloc (aI _) _) hb;clear hb)|(go_at_call 240;refine(EG _).mono ?_;rintro e w2 ⟨rfl,hw⟩;obtain rfl:w1=w2:=hw.symm;clear hw))
   go_ret2
   exact uT HQ.out HB.out
  |false=>
   have HQ:Hid (Dt.sz .tag d=none):=by show _=_;rw [Dt.sz,hT];rfl
   rw [aIe,hT] at EG;clear hq h1 h2 aIe hT hle;go_enter Tryz.func239,Tryz.ntmps239;go_wp2_with (first|(go_at_call 238;refine(aX _).mono ?_;rintro e w1 ⟨rfl,hb⟩;have HB:Hid (Below w.heap.size w w1):=Nm.aC ((aJ _ _).alloc (aI _) _) hb;clear hb)|(go_at_call 240;refine(EG _).mono ?_;rintro e w2 ⟨rfl,hw⟩;obtain rfl:w1=w2:=hw.symm;clear hw))
   go_ret2;exact pV HQ.out _ HB.out
def Mx:Dt.Pc->Value
 |none=>.iface 263 (.agg #[])
 |some none=>.iface 265 (.agg #[])
 |some (some none)=>.iface 267 (.agg #[])
 |some (some (some none))=>.iface 264 (.agg #[])
 |some (some (some (some none)))=>.iface 266 (.agg #[])
 |some (some (some (some (some none))))=>.iface 267 (.agg #[])
 |some (some (some (some (some (some none)))))=>.iface 268 (.agg #[])
 |some (some (some (some (some (some (some none))))))=>.iface 267 (.agg #[])
 |some (some (some (some (some (some (some (some n)))))))=>.iface 261 (.int .i64 (n:Int))
def VF(t:Int)(w:World):World:=w.alloc (.cells ((Dt.nX t).map Mx).toArray 248)
theorem Yg(t:Int)(w:World):
 Calls Tryz.prog 192 #[.int .i64 t] w fun e w'=>e=.returned (.slice (some ⟨w.heap.size,0,none⟩) (Dt.nX t).length (Dt.nX t).length)∧w'=VF t w:=by
 by_cases h:t=1∨t=2∨t=5∨t=6∨t=12∨t=13∨t=15∨t=16∨t=28∨t=33∨t=35∨t=39∨t=47∨t=257
 ·rcases h with rfl|rfl|rfl|rfl|rfl|rfl|rfl|rfl|rfl|rfl|rfl|rfl|rfl|rfl
  all_goals
   go_enter Tryz.func192,Tryz.ntmps192;go_wp2;go_ret;exact⟨rfl,rfl⟩
 have HA:Hid (Dt.nX t=[.rs]):=by
  show _=_
  unfold Dt.nX;simp only [show ¬t=1 by omega,show ¬(t=2∨t=5∨t=12∨t=39) by omega,show ¬t=6 by omega,show ¬t=13 by omega,show ¬t=15 by omega,show ¬t=16 by omega,show ¬t=28 by omega,show ¬t=33 by omega,show ¬t=35 by omega,show ¬t=47 by omega,show ¬t=257 by omega,if_false]
 have b1:(t==1)=false:=by rw [fC];omega
 have b2:(t==2)=false:=by rw [fC];omega
 have b3:(t==5)=false:=by rw [fC];omega
 have b4:(t==6)=false:=by rw [fC];omega
 have b5:(t==12)=false:=by rw [fC];omega
 have b6:(t==13)=false:=by rw [fC];omega
 have b7:(t==15)=false:=by rw [fC];omega
 have b8:(t==16)=false:=by rw [fC];omega
 have b9:(t==28)=false:=by rw [fC];omega
 have b10:(t==33)=false:=by rw [fC];omega
 have b11:(t==35)=false:=by rw [fC];omega
 have L_:(t==39)=false:=by rw [fC];omega
 have b13:(t==47)=false:=by rw [fC];omega
 have b14:(t==257)=false:=by rw [fC];omega
 clear h;go_enter Tryz.func192,Tryz.ntmps192;go_wp2;go_ret;rw [VF,HA.out];exact⟨rfl,rfl⟩
def Yh:Dt.Pc->Prop
 |some (some none)=>False
 |some (some (some (some (some none))))=>False
 |_=>True
theorem Yi(p:Dt.Pc)(w:World)(hp:Yh p):
 Calls Tryz.prog 193 #[Mx p] w fun e w'=>e=.returned (.bool p.NB)∧w'=w:=by
 cases p using Dt.Pc.elim with
 |txs=>exact absurd hp (by simp [Yh])
 |VX=>exact absurd hp (by simp [Yh])
 |nm=>
  rw [Mx,Dt.Pc.NB];have hm:∀ w:World,(Instr.typeAssert (.iface 263 (.agg #[])) 248 263 true).run Tryz.prog w=.ok (.tuple #[.agg #[],.bool true]) w:=fun _=>by kernel_rfl
  go_enter Tryz.func193,Tryz.ntmps193;go_wp2;go_ret
  exact⟨rfl,rfl⟩
 |bs n=>
  simp only [Mx,Dt.Pc.NB];have hm:∀ w:World,(Instr.typeAssert (.iface 261 (.int .i64 (n:Int))) 248 263 true).run Tryz.prog w=.ok (.tuple #[.agg #[],.bool false]) w:=fun _=>by kernel_rfl
  go_enter Tryz.func193,Tryz.ntmps193;go_wp2;go_ret
  exact⟨rfl,rfl⟩
 |tx=>
  simp only [Mx,Dt.Pc.NB];have hm:∀ w:World,(Instr.typeAssert (.iface 265 (.agg #[])) 248 263 true).run Tryz.prog w=.ok (.tuple #[.agg #[],.bool false]) w:=fun _=>by kernel_rfl
  go_enter Tryz.func193,Tryz.ntmps193;go_wp2;go_ret
  exact⟨rfl,rfl⟩
 |txe=>
  simp only [Mx,Dt.Pc.NB];have hm:∀ w:World,(Instr.typeAssert (.iface 264 (.agg #[])) 248 263 true).run Tryz.prog w=.ok (.tuple #[.agg #[],.bool false]) w:=fun _=>by kernel_rfl
  go_enter Tryz.func193,Tryz.ntmps193;go_wp2;go_ret
  exact⟨rfl,rfl⟩
 |tag=>
  simp only [Mx,Dt.Pc.NB];have hm:∀ w:World,(Instr.typeAssert (.iface 266 (.agg #[])) 248 263 true).run Tryz.prog w=.ok (.tuple #[.agg #[],.bool false]) w:=fun _=>by kernel_rfl
  go_enter Tryz.func193,Tryz.ntmps193;go_wp2;go_ret
  exact⟨rfl,rfl⟩
 |mp=>
  simp only [Mx,Dt.Pc.NB];have hm:∀ w:World,(Instr.typeAssert (.iface 268 (.agg #[])) 248 263 true).run Tryz.prog w=.ok (.tuple #[.agg #[],.bool false]) w:=fun _=>by kernel_rfl
  go_enter Tryz.func193,Tryz.ntmps193;go_wp2;go_ret
  exact⟨rfl,rfl⟩
 |rs=>
  simp only [Mx,Dt.Pc.NB];have hm:∀ w:World,(Instr.typeAssert (.iface 267 (.agg #[])) 248 263 true).run Tryz.prog w=.ok (.tuple #[.agg #[],.bool false]) w:=fun _=>by kernel_rfl
  go_enter Tryz.func193,Tryz.ntmps193;go_wp2;go_ret;exact⟨rfl,rfl⟩
theorem aEj(t:Int):∀ p∈Dt.nX t,Yh p:=by
 unfold Dt.nX
 repeat' split
 all_goals simp [Yh]
theorem Tryz.aEk:(Tryz.prog.info? 251).map (fun i=>(i.zero,i.size,i.bytes))=some (some (.agg #[.int .i64 0,.int .i64 0]),2,16):=by kernel_rfl
theorem Eu(w:World):(nilAhead 401 263 (.agg #[]) "loop.example/s01858/impl.take").run Tryz.prog w=.ok (some false) w:=by kernel_rfl
theorem Ah(w:World):(method 401 263 (.agg #[]) "loop.example/s01858/impl.take").run Tryz.prog w=.ok (236,(.agg #[])) w:=by kernel_rfl
theorem Ev(q:Nat)(w:World):(nilAhead 401 261 (.int .i64 (q:Int)) "loop.example/s01858/impl.take").run Tryz.prog w=.ok (some false) w:=by kernel_rfl
theorem Ai(q:Nat)(w:World):(method 401 261 (.int .i64 (q:Int)) "loop.example/s01858/impl.take").run Tryz.prog w=.ok (235,(.int .i64 (q:Int))) w:=by kernel_rfl
theorem Ew(w:World):(nilAhead 401 265 (.agg #[]) "loop.example/s01858/impl.take").run Tryz.prog w=.ok (some false) w:=by kernel_rfl
theorem Aj(w:World):(method 401 265 (.agg #[]) "loop.example/s01858/impl.take").run Tryz.prog w=.ok (238,(.agg #[])) w:=by kernel_rfl
theorem Ak(w:World):(nilAhead 401 264 (.agg #[]) "loop.example/s01858/impl.take").run Tryz.prog w=.ok (some false) w:=by kernel_rfl
theorem WI(w:World):(method 401 264 (.agg #[]) "loop.example/s01858/impl.take").run Tryz.prog w=.ok (237,(.agg #[])) w:=by kernel_rfl
theorem Qt(w:World):(nilAhead 401 266 (.agg #[]) "loop.example/s01858/impl.take").run Tryz.prog w=.ok (some false) w:=by kernel_rfl
theorem Ki(w:World):(method 401 266 (.agg #[]) "loop.example/s01858/impl.take").run Tryz.prog w=.ok (239,(.agg #[])) w:=by kernel_rfl
theorem Kj(w:World):(nilAhead 401 268 (.agg #[]) "loop.example/s01858/impl.take").run Tryz.prog w=.ok (some false) w:=by kernel_rfl
theorem Ex(w:World):(method 401 268 (.agg #[]) "loop.example/s01858/impl.take").run Tryz.prog w=.ok (244,(.agg #[])) w:=by kernel_rfl
theorem Ey(w:World):(nilAhead 401 267 (.agg #[]) "loop.example/s01858/impl.take").run Tryz.prog w=.ok (some false) w:=by kernel_rfl
theorem Al(w:World):(method 401 267 (.agg #[]) "loop.example/s01858/impl.take").run Tryz.prog w=.ok (243,(.agg #[])) w:=by kernel_rfl
theorem aAw{t:Int}{k:Nat}(h:(Dt.nX t)[k]? =some p):(VF t w).cell? ⟨w.heap.size,k,none⟩=some (Mx p):=by
 rw [VF,World.cell?_alloc_new];simp [h]
theorem aEl{W w4 w1:World}{v v':Value}{B e a m:Nat}{sp:List (Nat×Nat)}(hB:B<=w4.heap.size)
 (aU:w4.ownsRow B e 2 v n (spanCells sp)) (aG:Below B W w4) (o:Obj)
 (dE:w1.ownsRow B e 2 v' (n+1) (spanCells sp++[.int .i64 (a:Int),.int .i64 ((a:Int)+(m:Int))])) (bU:(w4.alloc o).grownBy w1 v.ownBlock):
 w1.ownsRow B e 2 v' (n+1) (spanCells (sp++[(a,a+m)]))∧Below B W w1:=by
 refine⟨by rw [SK];simpa [spanCells] using dE,?_⟩;refine(aG.alloc hB o).grown bU (by simp;omega) ?_;intro k hk;exact(aU.lt k hk).1
theorem VG(t:Int)(d:ByteArray)(w:World)(hd:d.size<=2000000):
 Calls Tryz.prog 183 #[.int .i64 t,.string d] w fun e w'=>∃ v,e=.returned (.tuple #[v,.int .i64 (fH t d)])∧
  (∀ sp,BP t d=some sp->w'.ownsRow w.heap.size 251 2 v sp.length (spanCells sp))∧(BP t d=none->v=.slice none 0 0)∧Below w.heap.size w w':=by
 obtain⟨i0,hi,iQ,iH,iI⟩:=info_parts Tryz.aEk
 by_cases ht:t<0∨65535<t
 ·have HC:=Nm.aD (KH (d:=d) ht)
  by_cases ht0:t<0
  ·clear ht;go_enter Tryz.func183,Tryz.ntmps183;go_wp2;go_ret2;rw [HC.out.1,HC.out.2];exact⟨_,rfl,(fun sp h=>by cases h),fun _=>rfl,aJ _ _⟩
  have ht1:65535<t:=by omega
  clear ht;go_enter Tryz.func183,Tryz.ntmps183;go_wp2;go_ret2;rw [HC.out.1,HC.out.2];exact⟨_,rfl,(fun sp h=>by cases h),fun _=>rfl,aJ _ _⟩
 have ht0:0<=t:=by omega
 have ht1:t<=65535:=by omega
 by_cases hl:65535<d.size
 ·have HC:=Nm.aD (KI ht hl);have J6:(65535:Int)<(d.size:Int):=by omega
  clear ht;go_enter Tryz.func183,Tryz.ntmps183;go_wp2;go_ret2;rw [HC.out.1,HC.out.2];exact⟨_,rfl,(fun sp h=>by cases h),fun _=>rfl,aJ _ _⟩
 have J6:(d.size:Int)<=65535:=by omega
 have HC0:=Nm.aD (fun h=>SN (d:=d) ht hl h);have HC1:=Nm.aD (fun sp h=>KJ (d:=d) (sp:=sp) ht hl h);have hlen:=Gs t;have MM:=aEj t;have aH:=fun k p h=>aAw (t:=t) (w:=w) (k:=k) (p:=p) h
 have IR:=Yg t w;have mI:=aAb (Dt.nX t) d;have hw2:(VF t w).heap.size=w.heap.size+1:=by simp [VF]
 have jW:Below w.heap.size w (VF t w):=(aJ _ _).alloc (aI _) _;generalize VF t w=w2 at*;generalize Dt.nX t=fs at*;have HW2:=Nm.aD hw2;clear ht hl hw2;go_enter Tryz.func183,Tryz.ntmps183;go_wp2_with (go_at_call 192;refine IR.mono ?_;rintro e w1 ⟨rfl,hw⟩;obtain rfl:w2=w1:=hw.symm;clear hw)
 go_loopw [6,7,24] (fun v a k wr=>∃ (k' a' n:Nat) (sp:List (Nat×Nat)),k'<=fs.length∧k=.int .i64 k'∧a=.int .i64 a'∧a'<=d.size∧n<=k'∧Hid (sp.length=n)∧CAt fs d sp (fs.drop k') a'∧wr.ownsRow w2.heap.size 251 2 v n (spanCells sp)∧Below w2.heap.size w2 wr)
  (fun _ _ k _=>fs.length-(intOf k).toNat)
 ·exact⟨0,0,0,[],dR _,rfl,rfl,dR _,aI _,rfl,by simpa using mI,World.ownsRow_nil _ _ _ _,aJ _ _⟩
 obtain⟨k,a,n,sp,hk,rfl,rfl,ha,hnk,HL,jH,aU,aG⟩:=hrel;clear mI IR
 by_cases bY:k<fs.length
 ·have SE:(k:Int)<(fs.length:Int):=by omega
  obtain⟨p,hp⟩:=gQ bY
  have RN:wr.cell? ⟨w.heap.size,k,none⟩=some (Mx p):=by
   have:=HW2.out;rw [aG.cell (by simp;omega)];exact aH k p hp
  have aKv:=MM p (dA hp)
  have hdr:fs.drop k=p::fs.drop (k+1):=by
   obtain⟨h1,h2⟩:=dL hp;rw [List.drop_eq_getElem_cons h1,h2]
  rw [hdr] at jH;clear aH MM hdr hp;have qM:=fun w=>Yi p w aKv
  have aH6:(a:Int)<=(d.size:Int):=by omega
  cases p using Dt.Pc.elim with
  |txs=>exact absurd aKv (by simp [Yh])
  |VX=>exact absurd aKv (by simp [Yh])
  |nm=>
   simp only [Mx] at RN qM;have aX:=fun w=>Kg (d.extract a d.size) w
   have Xw:=Eu;have hn2:=Ah
   cases hq:Dt.sz .nm (d.extract a d.size) with
   |none=>
    have HQ:=Nm.aD (HC0.out (yD jH hq));have aX:=fun w=>(aX w).mono (fun e w' h=>rD.no h hq)
    clear hq jH;go_wp2;go_region_with (go_at_call 236;refine(aX _).mono ?_;rintro e w4 ⟨m,rfl,rG⟩;have HB:Hid (Below w.heap.size w w4):=Nm.aC (Nm.aC jW aG.drew) rG;clear rG)
    go_wp2;go_ret2;rw [HQ.out.1,HQ.out.2]
    exact⟨_,rfl,(fun sp h=>by cases h),fun _=>rfl,HB.out⟩
   |some m=>
    have rT:=yF jH ha hq;have HX:=Nm.aD rT.1;have oN:=rT.2;have aX:=fun w=>(aX w).mono (fun e w' h=>rD.yes h hq)
    simp only [Dt.Pc.NB,if_true] at HX qM
    have HL2:Hid ((sp++[(a,a+m)]).length=n+1):=by
     show _=_
     rw [oJ,HL.out];rfl
    clear hq jH rT HL;go_wp2;go_region_with (go_at_call 236;refine(aX _).mono ?_;rintro e w4 ⟨rfl,rG⟩;have jR:=own_below aU.drew rG;have HB:Hid (Below w2.heap.size w2 w4):=Nm.aC aG.drew rG;clear rG)
    have aQz:=HB.out.size;go_wp2_with (first|(go_at_call 193;refine(qM _).mono ?_;rintro e w5 ⟨rfl,hw⟩;obtain rfl:w4=w5:=hw.symm;clear hw)|(at_builtin;refine wpList_append_own _ rfl (.tmp 43) (.tmp 49) 237 rfl w2.heap.size 251 i0 (.agg #[.int .i64 0,.int .i64 0]) 2 16 Tryz.underlying237 hi iQ iH iI rfl (by decide) _ _ _ rfl (jR.alloc _) ⟨w4.heap.size,0,none⟩ 1 1 [.int .i64 (a:Int),.int .i64 ((a:Int)+(m:Int))] rfl rfl (Gm _ _ _ _) (Gn _ _ rfl rfl) (by unfold maxLen;omega) (by omega) (by simp;omega) ?_))
    intro v' w6 dE bU _;have R:=aEl aQz jR HB.out _ dE bU;clear dE bU aU aG jR HB;go_wp2;go_roundw
    ·exact⟨k+1,a+m,n+1,_,by omega,by go_num,by go_num,oN,by omega,HL2,HX.out,R.1,R.2⟩
    simp [intOf];omega
  |bs q=>
   simp only [Mx] at RN qM;have aX:=fun w=>Es q (d.extract a d.size) w
   have Xw:=Ev q;have hn2:=Ai q
   cases hq:Dt.sz (.bs q) (d.extract a d.size) with
   |none=>
    have HQ:=Nm.aD (HC0.out (yD jH hq));have aX:=fun w=>(aX w).mono (fun e w' h=>rD.no h hq)
    clear hq jH;go_wp2;go_region_with (go_at_call 235;refine(aX _).mono ?_;rintro e w4 ⟨m,rfl,rG⟩;have HB:Hid (Below w.heap.size w w4):=Nm.aC (Nm.aC jW aG.drew) rG;clear rG)
    go_wp2;go_ret2;rw [HQ.out.1,HQ.out.2]
    exact⟨_,rfl,(fun sp h=>by cases h),fun _=>rfl,HB.out⟩
   |some m=>
    have rT:=yF jH ha hq;have HX:=Nm.aD rT.1;have oN:=rT.2;have aX:=fun w=>(aX w).mono (fun e w' h=>rD.yes h hq)
    simp only [Dt.Pc.NB,Bool.false_eq_true,if_false,List.append_nil] at HX qM;clear hq jH rT;go_wp2;go_region_with (go_at_call 235;refine(aX _).mono ?_;rintro e w4 ⟨rfl,rG⟩;have jR:=own_below aU.drew rG;have HB:Hid (Below w2.heap.size w2 w4):=Nm.aC aG.drew rG;clear rG)
    go_wp2_with (go_at_call 193;refine(qM _).mono ?_;rintro e w5 ⟨rfl,hw⟩;obtain rfl:w4=w5:=hw.symm;clear hw)
    go_roundw
    ·exact⟨k+1,a+m,n,sp,by omega,by go_num,by go_num,oN,by omega,HL,HX.out,jR,HB.out⟩
    simp [intOf];omega
  |tx=>
   simp only [Mx] at RN qM;have aX:=fun w=>EF (d.extract a d.size) w (by simp;omega)
   have Xw:=Ew;have hn2:=Aj
   cases hq:Dt.sz .tx (d.extract a d.size) with
   |none=>
    have HQ:=Nm.aD (HC0.out (yD jH hq));have aX:=fun w=>(aX w).mono (fun e w' h=>rD.no h hq)
    clear hq jH;go_wp2;go_region_with (go_at_call 238;refine(aX _).mono ?_;rintro e w4 ⟨m,rfl,rG⟩;have HB:Hid (Below w.heap.size w w4):=Nm.aC (Nm.aC jW aG.drew) rG;clear rG)
    go_wp2;go_ret2;rw [HQ.out.1,HQ.out.2]
    exact⟨_,rfl,(fun sp h=>by cases h),fun _=>rfl,HB.out⟩
   |some m=>
    have rT:=yF jH ha hq;have HX:=Nm.aD rT.1;have oN:=rT.2;have aX:=fun w=>(aX w).mono (fun e w' h=>rD.yes h hq)
    simp only [Dt.Pc.NB,Bool.false_eq_true,if_false,List.append_nil] at HX qM;clear hq jH rT;go_wp2;go_region_with (go_at_call 238;refine(aX _).mono ?_;rintro e w4 ⟨rfl,rG⟩;have jR:=own_below aU.drew rG;have HB:Hid (Below w2.heap.size w2 w4):=Nm.aC aG.drew rG;clear rG)
    go_wp2_with (go_at_call 193;refine(qM _).mono ?_;rintro e w5 ⟨rfl,hw⟩;obtain rfl:w4=w5:=hw.symm;clear hw)
    go_roundw
    ·exact⟨k+1,a+m,n,sp,by omega,by go_num,by go_num,oN,by omega,HL,HX.out,jR,HB.out⟩
    simp [intOf];omega
  |txe=>
   simp only [Mx] at RN qM;have aX:=fun w=>Et (d.extract a d.size) w (by simp;omega)
   have Xw:=Ak;have hn2:=WI
   cases hq:Dt.sz .txe (d.extract a d.size) with
   |none=>
    have HQ:=Nm.aD (HC0.out (yD jH hq));have aX:=fun w=>(aX w).mono (fun e w' h=>rD.no h hq)
    clear hq jH;go_wp2;go_region_with (go_at_call 237;refine(aX _).mono ?_;rintro e w4 ⟨m,rfl,rG⟩;have HB:Hid (Below w.heap.size w w4):=Nm.aC (Nm.aC jW aG.drew) rG;clear rG)
    go_wp2;go_ret2;rw [HQ.out.1,HQ.out.2]
    exact⟨_,rfl,(fun sp h=>by cases h),fun _=>rfl,HB.out⟩
   |some m=>
    have rT:=yF jH ha hq;have HX:=Nm.aD rT.1;have oN:=rT.2;have aX:=fun w=>(aX w).mono (fun e w' h=>rD.yes h hq)
    simp only [Dt.Pc.NB,Bool.false_eq_true,if_false,List.append_nil] at HX qM;clear hq jH rT;go_wp2;go_region_with (go_at_call 237;refine(aX _).mono ?_;rintro e w4 ⟨rfl,rG⟩;have jR:=own_below aU.drew rG;have HB:Hid (Below w2.heap.size w2 w4):=Nm.aC aG.drew rG;clear rG)
    go_wp2_with (go_at_call 193;refine(qM _).mono ?_;rintro e w5 ⟨rfl,hw⟩;obtain rfl:w4=w5:=hw.symm;clear hw)
    go_roundw
    ·exact⟨k+1,a+m,n,sp,by omega,by go_num,by go_num,oN,by omega,HL,HX.out,jR,HB.out⟩
    simp [intOf];omega
  |tag=>
   simp only [Mx] at RN qM;have aX:=fun w=>Qs (d.extract a d.size) w (by simp;omega)
   have Xw:=Qt;have hn2:=Ki
   cases hq:Dt.sz .tag (d.extract a d.size) with
   |none=>
    have HQ:=Nm.aD (HC0.out (yD jH hq));have aX:=fun w=>(aX w).mono (fun e w' h=>rD.no h hq)
    clear hq jH;go_wp2;go_region_with (go_at_call 239;refine(aX _).mono ?_;rintro e w4 ⟨m,rfl,rG⟩;have HB:Hid (Below w.heap.size w w4):=Nm.aC (Nm.aC jW aG.drew) rG;clear rG)
    go_wp2;go_ret2;rw [HQ.out.1,HQ.out.2]
    exact⟨_,rfl,(fun sp h=>by cases h),fun _=>rfl,HB.out⟩
   |some m=>
    have rT:=yF jH ha hq;have HX:=Nm.aD rT.1;have oN:=rT.2;have aX:=fun w=>(aX w).mono (fun e w' h=>rD.yes h hq)
    simp only [Dt.Pc.NB,Bool.false_eq_true,if_false,List.append_nil] at HX qM;clear hq jH rT;go_wp2;go_region_with (go_at_call 239;refine(aX _).mono ?_;rintro e w4 ⟨rfl,rG⟩;have jR:=own_below aU.drew rG;have HB:Hid (Below w2.heap.size w2 w4):=Nm.aC aG.drew rG;clear rG)
    go_wp2_with (go_at_call 193;refine(qM _).mono ?_;rintro e w5 ⟨rfl,hw⟩;obtain rfl:w4=w5:=hw.symm;clear hw)
    go_roundw
    ·exact⟨k+1,a+m,n,sp,by omega,by go_num,by go_num,oN,by omega,HL,HX.out,jR,HB.out⟩
    simp [intOf];omega
  |mp=>
   simp only [Mx] at RN qM;have aX:=fun w=>Qr (d.extract a d.size) w (by simp;omega)
   have Xw:=Kj;have hn2:=Ex
   cases hq:Dt.sz .mp (d.extract a d.size) with
   |none=>
    have HQ:=Nm.aD (HC0.out (yD jH hq));have aX:=fun w=>(aX w).mono (fun e w' h=>rD.no h hq)
    clear hq jH;go_wp2;go_region_with (go_at_call 244;refine(aX _).mono ?_;rintro e w4 ⟨m,rfl,rG⟩;have HB:Hid (Below w.heap.size w w4):=Nm.aC (Nm.aC jW aG.drew) rG;clear rG)
    go_wp2;go_ret2;rw [HQ.out.1,HQ.out.2]
    exact⟨_,rfl,(fun sp h=>by cases h),fun _=>rfl,HB.out⟩
   |some m=>
    have rT:=yF jH ha hq;have HX:=Nm.aD rT.1;have oN:=rT.2;have aX:=fun w=>(aX w).mono (fun e w' h=>rD.yes h hq)
    simp only [Dt.Pc.NB,Bool.false_eq_true,if_false,List.append_nil] at HX qM;clear hq jH rT;go_wp2;go_region_with (go_at_call 244;refine(aX _).mono ?_;rintro e w4 ⟨rfl,rG⟩;have jR:=own_below aU.drew rG;have HB:Hid (Below w2.heap.size w2 w4):=Nm.aC aG.drew rG;clear rG)
    go_wp2_with (go_at_call 193;refine(qM _).mono ?_;rintro e w5 ⟨rfl,hw⟩;obtain rfl:w4=w5:=hw.symm;clear hw)
    go_roundw
    ·exact⟨k+1,a+m,n,sp,by omega,by go_num,by go_num,oN,by omega,HL,HX.out,jR,HB.out⟩
    simp [intOf];omega
  |rs=>
   simp only [Mx] at RN qM;have aX:=fun w=>Kh (d.extract a d.size) w
   have Xw:=Ey;have hn2:=Al
   cases hq:Dt.sz .rs (d.extract a d.size) with
   |none=>
    have HQ:=Nm.aD (HC0.out (yD jH hq));have aX:=fun w=>(aX w).mono (fun e w' h=>rD.no h hq)
    clear hq jH;go_wp2;go_region_with (go_at_call 243;refine(aX _).mono ?_;rintro e w4 ⟨m,rfl,rG⟩;have HB:Hid (Below w.heap.size w w4):=Nm.aC (Nm.aC jW aG.drew) rG;clear rG)
    go_wp2;go_ret2;rw [HQ.out.1,HQ.out.2]
    exact⟨_,rfl,(fun sp h=>by cases h),fun _=>rfl,HB.out⟩
   |some m=>
    have rT:=yF jH ha hq;have HX:=Nm.aD rT.1;have oN:=rT.2;have aX:=fun w=>(aX w).mono (fun e w' h=>rD.yes h hq)
    simp only [Dt.Pc.NB,Bool.false_eq_true,if_false,List.append_nil] at HX qM;clear hq jH rT;go_wp2;go_region_with (go_at_call 243;refine(aX _).mono ?_;rintro e w4 ⟨rfl,rG⟩;have jR:=own_below aU.drew rG;have HB:Hid (Below w2.heap.size w2 w4):=Nm.aC aG.drew rG;clear rG)
    go_wp2_with (go_at_call 193;refine(qM _).mono ?_;rintro e w5 ⟨rfl,hw⟩;obtain rfl:w4=w5:=hw.symm;clear hw)
    go_roundw
    ·exact⟨k+1,a+m,n,sp,by omega,by go_num,by go_num,oN,by omega,HL,HX.out,jR,HB.out⟩
    simp [intOf];omega
 have SE:(fs.length:Int)<=(k:Int):=by omega
 have Ac:fs.drop k=[]:=List.drop_eq_nil_of_le (by omega);rw [Ac] at jH;clear aH MM Ac
 by_cases h0:a<d.size
 ·have HQ:=Nm.aD (HC0.out (aDr jH h0));have K8:(a:Int)<(d.size:Int):=by omega
  have HB:Hid (Below w.heap.size w wr):=Nm.aC jW aG;clear jH aU aG;go_wp2;go_ret2;rw [HQ.out.1,HQ.out.2];exact⟨_,rfl,(fun sp h=>by cases h),fun _=>rfl,HB.out⟩
 have HQ:=Nm.aD (HC1.out _ (aH1 jH (by omega)));have K8:(d.size:Int)<=(a:Int):=by omega
 have HB:Hid (Below w.heap.size w wr):=Nm.aC jW aG;have dO:=fM (B':=w.heap.size) aU (by have:=HW2.out;omega);rw [<- HL.out] at dO;have HO:=Nm.aD dO;clear jH aU aG dO;go_wp2;go_ret2;rw [HQ.out.1,HQ.out.2];exact⟨_,rfl,(fun qs h=>by cases h;exact HO.out),(fun h=>by cases h),HB.out⟩
