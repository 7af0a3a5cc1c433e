import Derived.Test.YthdpacepbbcocaaGreatJStR
import Derived.Test.YthdpacepbbcocaaGreatBlocks
import Derived.Test.YthdpacepbbcocaaGreatJRrC
set_option maxRecDepth 100000
set_option maxHeartbeats 4000000
namespace Go.Proofs.YthdpacepbbcocaaGreat
open Go.RowKit
def qN(p:Dt.Pc)(d:ByteArray)(w:World)(e:Ending)(w':World):Prop:=
 ∃ m:Nat,e=.returned (.tuple #[.int .i64 (m:Int),.bool (Dt.sz p d).isSome])∧(∀ n,Dt.sz p d=some n->n=m)∧Below w.heap.size w w'
theorem oV{p:Dt.Pc}{d:ByteArray}(h:Dt.sz p d=none){w w':World}(m:Nat)(hb:Below w.heap.size w w'):qN p d w (.returned (.tuple #[.int .i64 (m:Int),.bool false])) w':=
 ⟨m,by rw [h];rfl,(fun n hn=>by rw [h] at hn;cases hn),hb⟩
theorem tJ{p:Dt.Pc}{d:ByteArray}{m:Nat}(h:Dt.sz p d=some m){w w':World}(hb:Below w.heap.size w w'):qN p d w (.returned (.tuple #[.int .i64 (m:Int),.bool true])) w':=
 ⟨m,by rw [h];rfl,(fun n hn=>by rw [h] at hn;cases hn;rfl),hb⟩
theorem qN.no{p:Dt.Pc}{d:ByteArray}{w w':World}{e:Ending}(h:qN p d w e w')(hq:Dt.sz p d=none):∃ m:Nat,e=.returned (.tuple #[.int .i64 (m:Int),.bool false])∧Below w.heap.size w w':=by
 obtain⟨m,he,_,hb⟩:=h;rw [hq] at he;exact⟨m,he,hb⟩
theorem qN.yes{p:Dt.Pc}{d:ByteArray}{w w':World}{e:Ending}{n:Nat}(h:qN p d w e w')(hq:Dt.sz p d=some n):e=.returned (.tuple #[.int .i64 (n:Int),.bool true])∧Below w.heap.size w w':=by
 obtain⟨m,he,hm,hb⟩:=h;obtain rfl:=hm n hq;rw [hq] at he;exact⟨he,hb⟩
theorem Gc(d:ByteArray)(w:World):
 Calls Tryz.prog 249 #[.agg #[],.string d] w (qN .nm d w):=by
 have aX:=MF d;go_enter Tryz.func249,Tryz.ntmps249
 cases hq:Dt.sz .nm d with
 |none=>
  have HQ:=Nm.aF hq;rw [hq] at aX;simp only [szV,Option.getD_none,Option.isSome_none] at aX;clear hq;go_wp2_with (go_at_call 178;refine(aX _).mono ?_;rintro e w1 ⟨rfl,rfl⟩)
  go_ret2
  exact oV HQ.out 0 ((aK _ _).alloc (aN _) _)
 |some m=>
  have HQ:=Nm.aF hq;rw [hq] at aX;simp only [szV,Option.getD_some,Option.isSome_some] at aX;clear hq;go_wp2_with (go_at_call 178;refine(aX _).mono ?_;rintro e w1 ⟨rfl,rfl⟩)
  go_ret2;exact tJ HQ.out ((aK _ _).alloc (aN _) _)
theorem Al(n:Nat)(d:ByteArray)(w:World):
 Calls Tryz.prog 248 #[.int .i64 (n:Int),.string d] w (qN (.bs n) d w):=by
 by_cases h:n<=d.size
 ·have HQ:Hid (Dt.sz (.bs n) d=some n):=by show _=_;rw [Dt.sz,if_pos h]
  have h':(n:Int)<=(d.size:Int):=by omega
  go_enter Tryz.func248,Tryz.ntmps248;go_wp2;go_ret2;exact tJ HQ.out (aK _ _)
 have HQ:Hid (Dt.sz (.bs n) d=none):=by show _=_;rw [Dt.sz,if_neg h]
 have h':(d.size:Int)<(n:Int):=by omega
 go_enter Tryz.func248,Tryz.ntmps248;go_wp2;go_ret2;exact oV HQ.out n (aK _ _)
theorem aFy{d:ByteArray}(h:0<d.size)(h1:d.size<1+d[0].toNat):Dt.sz .tx d=none:=by
 have e:Dt.fG d=ByteArray.empty:=by rw [Dt.fG,dif_pos h,if_neg (by omega)]
 rw [Dt.sz,e];rfl
theorem aJt{d:ByteArray}(h:0<d.size)(h1:1+d[0].toNat<=d.size):Dt.sz .tx d=some (1+d[0].toNat):=by
 have e:Dt.fG d=d.extract 0 (d[0].toNat+1):=by rw [Dt.fG,dif_pos h,if_pos (by omega)]
 have e1:(Dt.fG d).size=1+d[0].toNat:=by rw [e];simp;omega
 rw [Dt.sz,if_neg (by omega),e1]
theorem aJu{d:ByteArray}(h:d.size=0):Dt.sz .tx d=none:=by
 have e:Dt.fG d=ByteArray.empty:=by rw [Dt.fG,dif_neg (by omega)]
 rw [Dt.sz,e];rfl
theorem BO(d:ByteArray)(w:World)(hd:d.size<=1000000000):
 Calls Tryz.prog 251 #[.agg #[],.string d] w (qN .tx d w):=by
 by_cases h0:d.size=0
 ·have HQ:=Nm.aF (aJu h0);obtain⟨e1,e2⟩:=mI h0;clear h0;go_enter Tryz.func251,Tryz.ntmps251;go_wp2;go_ret2;exact oV HQ.out 0 ((aK _ _).alloc (aN _) _)
 have hp:0<d.size:=by omega
 have VQ:(0:Int)<(d.size:Int):=by omega
 obtain⟨e1,e2⟩:=jM hp;have hc:(d[0].toNat:Int)<256:=by have:=d[0].toNat_lt;omega
 by_cases h1:1+d[0].toNat<=d.size
 ·have HQ:=Nm.aF (aJt hp h1);have YZ:(1:Int)+(d[0].toNat:Int)<=(d.size:Int):=by omega
  clear h0;go_enter Tryz.func251,Tryz.ntmps251;go_wp2;go_ret2;exact tJ HQ.out ((aK _ _).alloc (aN _) _)
 have HQ:=Nm.aF (aFy hp (by omega));have YZ:(d.size:Int)<(1:Int)+(d[0].toNat:Int):=by omega
 have h1b:decide ((1:Int)+(d[0].toNat:Int)<=(d.size:Int))=false:=by simp;omega
 clear h0;go_enter Tryz.func251,Tryz.ntmps251;go_wp2;go_ret2;exact oV HQ.out (1+d[0].toNat) ((aK _ _).alloc (aN _) _)
theorem Gd(d:ByteArray)(w:World):
 Calls Tryz.prog 256 #[.agg #[],.string d] w (qN .rs d w):=by
 have HQ:Hid (Dt.sz .rs d=some d.size):=rfl;go_enter Tryz.func256,Tryz.ntmps256;go_wp2;go_ret2;exact tJ HQ.out ((aK _ _).alloc (aN _) _)
theorem Mt(d:ByteArray)(w:World)(hd:d.size<=2000000):
 Calls Tryz.prog 257 #[.agg #[],.string d] w (qN .mp d w):=by
 have aX:=fun w=>Ak d w hd
 cases hM:Em d with
 |true=>
  have HQ:Hid (Dt.sz .mp d=some d.size):=by show _=_;rw [Dt.sz,hM];rfl
  rw [hM] at aX;clear hM;go_enter Tryz.func257,Tryz.ntmps257;go_wp2_with (go_at_call 258;refine(aX _).mono ?_;rintro e w1 ⟨v,rfl,_,aJ⟩;have HB:Hid (Below w.heap.size w w1):=Nm.aC ((aK _ _).alloc (aN _) _) aJ;clear aJ)
  go_ret2
  exact tJ HQ.out HB.out
 |false=>
  have HQ:Hid (Dt.sz .mp d=none):=by show _=_;rw [Dt.sz,hM];rfl
  rw [hM] at aX;clear hM;go_enter Tryz.func257,Tryz.ntmps257;go_wp2_with (go_at_call 258;refine(aX _).mono ?_;rintro e w1 ⟨v,rfl,_,aJ⟩;have HB:Hid (Below w.heap.size w w1):=Nm.aC ((aK _ _).alloc (aN _) _) aJ;clear aJ)
  go_ret2;exact oV HQ.out _ HB.out
theorem aAq{d:ByteArray}{n:Nat}(h:Dt.sz .tx d=some n):(Dt.fG d).size=n∧n≠0:=by
 rw [Dt.sz] at h
 split at h
 ·cases h
 rename_i h0;simp at h;exact⟨h,by omega⟩
theorem aAr{d:ByteArray}(h:Dt.sz .tx d=none):(Dt.fG d).size=0:=by
 rw [Dt.sz] at h
 split at h
 ·assumption
 cases h
def XAt(d:ByteArray)(i:Nat):Prop:=Dt.BA d=i+Dt.BA (d.extract i d.size)
theorem aB6(d:ByteArray):XAt d 0:=by simp [XAt]
theorem aFz{d:ByteArray}{i n:Nat}(h:XAt d i)(hi:i<=d.size)(hn:Dt.sz .tx (d.extract i d.size)=some n):XAt d (i+n)∧i+n<=d.size∧n≠0:=by
 obtain⟨h1,h2⟩:=aAq hn;have hle:=Dt.sZ (d.extract i d.size);have hz:(d.extract i d.size).size=d.size-i:=by simp
 refine⟨?_,by omega,h2⟩;rw [XAt,h,Dt.Kj (by omega),h1,Dt.LK (by omega) (aN _)];omega
theorem aJv{d:ByteArray}{i:Nat}(h:XAt d i)(hi:i<d.size)(hn:Dt.sz .tx (d.extract i d.size)=none):Dt.sz .txe d=none:=by
 have h1:=aAr hn;have:Dt.BA d=i:=by rw [h,Dt.VA h1];rfl
 rw [Dt.sz,if_pos (by omega)]
theorem aJw{d:ByteArray}{i:Nat}(h:XAt d i)(hi:i=d.size):Dt.sz .txe d=if d.size=0 then none else some d.size:=by
 have h1:(d.extract i d.size).size=0:=by simp;omega
 have h2:=Dt.sZ (d.extract i d.size);have h3:Dt.BA d=d.size:=by rw [h,Dt.VA (by omega)];omega
 rw [Dt.sz]
 by_cases h0:d.size=0
 ·rw [if_pos (by omega),if_pos h0]
 rw [if_neg (by omega),if_neg h0]
theorem Am(d:ByteArray)(w:World)(hd:d.size<=1000000000):
 Calls Tryz.prog 250 #[.agg #[],.string d] w (qN .txe d w):=by
 have oG:=aB6 d;go_enter Tryz.func250,Tryz.ntmps250;go_wp2
 go_loopw [6] (fun v wr=>∃ i:Nat,i<=d.size∧v=.int .i64 i∧XAt d i∧Below w.heap.size w wr) (fun v _=>d.size-(intOf v).toNat)
 case atStart=>exact⟨0,dO _,rfl,oG,(aK _ _).alloc (aN _) _⟩
 obtain⟨i,hi,rfl,hx,aJ⟩:=hrel;clear oG
 by_cases bV:i<d.size
 ·have KD:(i:Int)<(d.size:Int):=by omega
  have aJm:(i:Int)<=(d.size:Int):=by omega
  have aX:=fun w=>BO (d.extract i d.size) w (by simp;omega)
  cases hq:Dt.sz .tx (d.extract i d.size) with
  |none=>
   have HQ:=Nm.aF (aJv hx bV hq);have aX:=fun w=>(aX w).mono (fun e w' h=>qN.no h hq)
   clear hq hx;go_wp2_with (go_at_call 251;refine(aX _).mono ?_;rintro e w1 ⟨m,rfl,hb⟩;have HB:Hid (Below w.heap.size w w1):=Nm.aC aJ hb;clear hb)
   go_ret2
   exact oV HQ.out 0 HB.out
  |some n=>
   have hs:=aFz hx hi hq;have HX:=Nm.aF hs.1;have ZF:=hs.2;have aX:=fun w=>(aX w).mono (fun e w' h=>qN.yes h hq)
   clear hq hx hs;go_wp2_with (go_at_call 251;refine(aX _).mono ?_;rintro e w1 ⟨rfl,hb⟩;have HB:Hid (Below w.heap.size w w1):=Nm.aC aJ hb;clear hb)
   go_roundw
   case rel=>exact⟨i+n,ZF.1,by go_num,HX.out,HB.out⟩
   simp [intOf];omega
 have KD:(d.size:Int)<=(i:Int):=by omega
 have hid:i=d.size:=by omega
 have SX:=aJw hx hid;clear hx
 by_cases h0:d.size=0
 ·rw [if_pos h0] at SX;have HQ:=Nm.aF SX;obtain rfl:i=0:=by omega
  clear SX h0 hid hi;go_wp2;go_ret2;exact oV HQ.out 0 aJ
 rw [if_neg h0,<- hid] at SX;have HQ:=Nm.aF SX;have Sg:(0:Int)<(i:Int):=by omega
 have h0'':0<i:=by omega
 clear SX h0 hid hi;go_wp2;go_ret2;exact tJ HQ.out aJ
theorem Mv(d:ByteArray)(w:World)(hd:d.size<=1000000000):
 Calls Tryz.prog 252 #[.agg #[],.string d] w (qN .tag d w):=by
 have aX:=fun w=>BO d w hd
 cases hq:Dt.sz .tx d with
 |none=>
  have h0:=aAr hq
  have HQ:Hid (Dt.sz .tag d=none):=by
   show _=_
   rw [Dt.sz,Dt.OZ (.inl (by omega))];rfl
  have aX:=fun w=>(aX w).mono (fun e w' h=>qN.no h hq)
  clear hq h0;go_enter Tryz.func252,Tryz.ntmps252;go_wp2_with (go_at_call 251;refine(aX _).mono ?_;rintro e w1 ⟨m,rfl,hb⟩;have HB:Hid (Below w.heap.size w w1):=Nm.aC ((aK _ _).alloc (aN _) _) hb;clear hb)
  go_ret2
  exact oV HQ.out _ HB.out
 |some n=>
  obtain⟨h1,h2⟩:=aAq hq;have hle:=Dt.sZ d;have aO4:1<=n:=by omega
  have hpos':(1:Int)<=(n:Int):=by omega
  have JY:n<=d.size:=by omega
  have aB7:(n:Int)<=(d.size:Int):=by omega
  have Gf:=fun w=>aBv (d.extract 1 n) w (by simp;omega)
  have aJx:=aMk h1 h2;have aX:=fun w=>(aX w).mono (fun e w' h=>qN.yes h hq)
  cases hT:Dt.OT d with
  |true=>
   have HQ:Hid (Dt.sz .tag d=some n):=by show _=_;rw [Dt.sz,hT,h1];rfl
   rw [aJx,hT] at Gf;clear hq h1 h2 aJx hT hle;go_enter Tryz.func252,Tryz.ntmps252;go_wp2_with (first|(go_at_call 251;refine(aX _).mono ?_;rintro e w1 ⟨rfl,hb⟩;have HB:Hid (Below w.heap.size w w1):=Nm.aC ((aK _ _).alloc (aN _) _) hb;clear hb)|(go_at_call 253;refine(Gf _).mono ?_;rintro e w2 ⟨rfl,hw⟩;obtain rfl:w1=w2:=hw.symm;clear hw))
   go_ret2
   exact tJ HQ.out HB.out
  |false=>
   have HQ:Hid (Dt.sz .tag d=none):=by show _=_;rw [Dt.sz,hT];rfl
   rw [aJx,hT] at Gf;clear hq h1 h2 aJx hT hle;go_enter Tryz.func252,Tryz.ntmps252;go_wp2_with (first|(go_at_call 251;refine(aX _).mono ?_;rintro e w1 ⟨rfl,hb⟩;have HB:Hid (Below w.heap.size w w1):=Nm.aC ((aK _ _).alloc (aN _) _) hb;clear hb)|(go_at_call 253;refine(Gf _).mono ?_;rintro e w2 ⟨rfl,hw⟩;obtain rfl:w1=w2:=hw.symm;clear hw))
   go_ret2;exact oV HQ.out _ HB.out
def Jh:Dt.Pc->Value
 |none=>.iface 249 (.agg #[])
 |some none=>.iface 251 (.agg #[])
 |some (some none)=>.iface 253 (.agg #[])
 |some (some (some none))=>.iface 250 (.agg #[])
 |some (some (some (some none)))=>.iface 252 (.agg #[])
 |some (some (some (some (some none))))=>.iface 253 (.agg #[])
 |some (some (some (some (some (some none)))))=>.iface 254 (.agg #[])
 |some (some (some (some (some (some (some none))))))=>.iface 253 (.agg #[])
 |some (some (some (some (some (some (some (some n)))))))=>.iface 247 (.int .i64 (n:Int))
def RG(t:Int)(w:World):World:=w.alloc (.cells ((Dt.lM t).map Jh).toArray 226)
theorem Uj(t:Int)(w:World):
 Calls Tryz.prog 176 #[.int .i64 t] w fun e w'=>e=.returned (.slice (some ⟨w.heap.size,0,none⟩) (Dt.lM t).length (Dt.lM t).length)∧w'=RG t w:=by
 by_cases h:t=1∨t=2∨t=5∨t=6∨t=12∨t=13∨t=15∨t=16∨t=28∨t=33∨t=35∨t=39∨t=47∨t=257
 ·rcases h with rfl|rfl|rfl|rfl|rfl|rfl|rfl|rfl|rfl|rfl|rfl|rfl|rfl|rfl
  all_goals
   go_enter Tryz.func176,Tryz.ntmps176;go_wp2;go_ret;exact⟨rfl,rfl⟩
 have HA:Hid (Dt.lM t=[.rs]):=by
  show _=_
  unfold Dt.lM;simp only [show ¬t=1 by omega,show ¬(t=2∨t=5∨t=12∨t=39) by omega,show ¬t=6 by omega,show ¬t=13 by omega,show ¬t=15 by omega,show ¬t=16 by omega,show ¬t=28 by omega,show ¬t=33 by omega,show ¬t=35 by omega,show ¬t=47 by omega,show ¬t=257 by omega,if_false]
 have b1:(t==1)=false:=by rw [dC];omega
 have b2:(t==2)=false:=by rw [dC];omega
 have b3:(t==5)=false:=by rw [dC];omega
 have b4:(t==6)=false:=by rw [dC];omega
 have b5:(t==12)=false:=by rw [dC];omega
 have b6:(t==13)=false:=by rw [dC];omega
 have b7:(t==15)=false:=by rw [dC];omega
 have b8:(t==16)=false:=by rw [dC];omega
 have b9:(t==28)=false:=by rw [dC];omega
 have b10:(t==33)=false:=by rw [dC];omega
 have b11:(t==35)=false:=by rw [dC];omega
 have b12:(t==39)=false:=by rw [dC];omega
 have b13:(t==47)=false:=by rw [dC];omega
 have b14:(t==257)=false:=by rw [dC];omega
 clear h;go_enter Tryz.func176,Tryz.ntmps176;go_wp2;go_ret;rw [RG,HA.out];exact⟨rfl,rfl⟩
def Uk:Dt.Pc->Prop
 |some (some none)=>False
 |some (some (some (some (some none))))=>False
 |_=>True
theorem Ul(p:Dt.Pc)(w:World)(hp:Uk p):
 Calls Tryz.prog 177 #[Jh p] w fun e w'=>e=.returned (.bool p.JV)∧w'=w:=by
 cases p using Dt.Pc.elim with
 |txs=>exact absurd hp (by simp [Uk])
 |SK=>exact absurd hp (by simp [Uk])
 |nm=>
  rw [Jh,Dt.Pc.JV];have hm:∀ w:World,(Instr.typeAssert (.iface 249 (.agg #[])) 226 249 true).run Tryz.prog w=.ok (.tuple #[.agg #[],.bool true]) w:=fun _=>by kernel_rfl
  go_enter Tryz.func177,Tryz.ntmps177;go_wp2;go_ret
  exact⟨rfl,rfl⟩
 |bs n=>
  simp only [Jh,Dt.Pc.JV];have hm:∀ w:World,(Instr.typeAssert (.iface 247 (.int .i64 (n:Int))) 226 249 true).run Tryz.prog w=.ok (.tuple #[.agg #[],.bool false]) w:=fun _=>by kernel_rfl
  go_enter Tryz.func177,Tryz.ntmps177;go_wp2;go_ret
  exact⟨rfl,rfl⟩
 |tx=>
  simp only [Jh,Dt.Pc.JV];have hm:∀ w:World,(Instr.typeAssert (.iface 251 (.agg #[])) 226 249 true).run Tryz.prog w=.ok (.tuple #[.agg #[],.bool false]) w:=fun _=>by kernel_rfl
  go_enter Tryz.func177,Tryz.ntmps177;go_wp2;go_ret
  exact⟨rfl,rfl⟩
 |txe=>
  simp only [Jh,Dt.Pc.JV];have hm:∀ w:World,(Instr.typeAssert (.iface 250 (.agg #[])) 226 249 true).run Tryz.prog w=.ok (.tuple #[.agg #[],.bool false]) w:=fun _=>by kernel_rfl
  go_enter Tryz.func177,Tryz.ntmps177;go_wp2;go_ret
  exact⟨rfl,rfl⟩
 |tag=>
  simp only [Jh,Dt.Pc.JV];have hm:∀ w:World,(Instr.typeAssert (.iface 252 (.agg #[])) 226 249 true).run Tryz.prog w=.ok (.tuple #[.agg #[],.bool false]) w:=fun _=>by kernel_rfl
  go_enter Tryz.func177,Tryz.ntmps177;go_wp2;go_ret
  exact⟨rfl,rfl⟩
 |mp=>
  simp only [Jh,Dt.Pc.JV];have hm:∀ w:World,(Instr.typeAssert (.iface 254 (.agg #[])) 226 249 true).run Tryz.prog w=.ok (.tuple #[.agg #[],.bool false]) w:=fun _=>by kernel_rfl
  go_enter Tryz.func177,Tryz.ntmps177;go_wp2;go_ret
  exact⟨rfl,rfl⟩
 |rs=>
  simp only [Jh,Dt.Pc.JV];have hm:∀ w:World,(Instr.typeAssert (.iface 253 (.agg #[])) 226 249 true).run Tryz.prog w=.ok (.tuple #[.agg #[],.bool false]) w:=fun _=>by kernel_rfl
  go_enter Tryz.func177,Tryz.ntmps177;go_wp2;go_ret;exact⟨rfl,rfl⟩
theorem aB8(x y:ByteArray):Nm.iD (Nm.small x).toList (Nm.small y).toList=Nm.jA x y:=by
 rw [ByteArray.toList_eq,ByteArray.toList_eq,Nm.dY,Nm.dY];rfl
theorem EW(a b:ByteArray)(w:World)(ha:a.size<=maxLen)(hb:b.size<=maxLen):
 Calls Tryz.prog 130 #[.string a,.string b] w fun e w'=>e=.returned (.int .i64 (Nm.rU a b))∧Below w.heap.size w w':=by
 have Fx:=jZ a w ha;have BL:=fun W=>jZ b W hb
 cases OH:Nm.split a with
 |none=>
  have HA:=Nm.aF (aB1 (b:=b) OH);rw [OH] at Fx;clear OH;go_enter Tryz.func130,Tryz.ntmps130;go_wp2_with fail
  refine Fx.mono ?_;rintro e w1 ⟨v,rfl,aU,aJ⟩;go_wp2_with fail
  refine(BL _).mono ?_;rintro e w2 ⟨v2,rfl,dW,lQ⟩;go_wp2;go_ret;rw [HA.out]
  exact⟨rfl,Nm.aC aJ lQ⟩
 |some xs=>
  rw [OH] at Fx
  cases TW:Nm.split b with
  |none=>
   have HA:=Nm.aF (Ud (a:=a) TW);rw [TW] at BL;clear OH TW;go_enter Tryz.func130,Tryz.ntmps130;go_wp2_with fail
   refine Fx.mono ?_;rintro e w1 ⟨v,rfl,aU,aJ⟩;go_wp2_with fail
   refine(BL _).mono ?_;rintro e w2 ⟨v2,rfl,dW,lQ⟩;go_wp2;go_ret;rw [HA.out]
   exact⟨rfl,Nm.aC aJ lQ⟩
  |some ys=>
   have HA:=Nm.aF (aB2 OH TW);have Lx:=(Nm.kJ OH).2;have hys:=(Nm.kJ TW).2;have hza:=Nm.gW OH;have Sm:=Nm.gW TW;have hla:=Nm.gJ xs;have GI:=Nm.gJ ys;rw [TW] at BL;clear OH TW;go_enter Tryz.func130,Tryz.ntmps130;go_wp2_with fail
   refine Fx.mono ?_;rintro e w1 ⟨v,rfl,aU,aJ⟩;go_wp2_with fail
   refine(BL _).mono ?_;rintro e w2 ⟨v2,rfl,dW,lQ⟩;have r1:=(Nm.dX.aS aU).below lQ;have r2:=Nm.dX.aS dW;simp only [Option.getD_some] at r1 r2;have SQ:=Nm.aC aJ lQ;obtain⟨a1,aB9,rfl,Lh,aO5,aJy,iK⟩:=r1;obtain⟨a2,aMg,rfl,VH,aJz,Fh,mD⟩:=r2;clear aU dW Fx BL aJy Fh aJ lQ;go_wp2
   go_loopw [9] (fun i wr=>∃ k:Nat,k<=xs.length∧k<=ys.length∧i=.int .i64 ((k:Int)+1)∧Hid (Nm.bJ xs ys=Nm.dV (xs.reverse.drop k) (ys.reverse.drop k))∧Below w2.heap.size w2 wr)
    (fun i _=>xs.length+1-(intOf i).toNat)
   case atStart=>exact⟨0,dO _,dO _,rfl,by show _=_;simp [Nm.bJ],aK _ _⟩
   obtain⟨k,hka,hkb,rfl,HT,hbr⟩:=hrel
   by_cases h1:k<xs.length∧k<ys.length
   ·obtain⟨h1,h2⟩:=h1;have i1:(k:Int)+1<=(xs.length:Int):=by omega
    have i2:(k:Int)+1<=(ys.length:Int):=by omega
    obtain⟨x,hx⟩:∃ x,xs[xs.length-(k+1)]? =some x:=⟨_,bY (by omega)⟩;obtain⟨y,hy⟩:∃ y,ys[ys.length-(k+1)]? =some y:=⟨_,bY (by omega)⟩;obtain⟨b1,aCa,rfl,Um⟩:=iK (by intro h;rw [h] at h1;simp at h1);obtain⟨b2,aCb,rfl,Un⟩:=mD (by intro h;rw [h] at h2;simp at h2);have VE:=Um _ _ hx;have hy2:=Un _ _ hy;have yB:wr.cell? ⟨b1,aCa+(xs.length-(k+1)),none⟩=some (.string x):=(hbr.cell (eB w2 _ VE)).trans VE;have hcy:wr.cell? ⟨b2,aCb+(ys.length-(k+1)),none⟩=some (.string y):=(hbr.cell (eB w2 _ hy2)).trans hy2;have Jf:=Lx x (bP hx);have Lu:=hys y (bP hy);have q1:(0:Int)<=(xs.length:Int)-((k:Int)+1):=by omega
    have q2:(xs.length:Int)-((k:Int)+1)<(xs.length:Int):=by omega
    have q3:((xs.length:Int)-((k:Int)+1)).toNat=xs.length-(k+1):=by omega
    have q4:(0:Int)<=(ys.length:Int)-((k:Int)+1):=by omega
    have q5:(ys.length:Int)-((k:Int)+1)<(ys.length:Int):=by omega
    have q6:((ys.length:Int)-((k:Int)+1)).toNat=ys.length-(k+1):=by omega
    have p1:IntKind.i64.wrap ((xs.length:Int)-((k:Int)+1))=(xs.length:Int)-((k:Int)+1):=wrap_small _ (by omega) (by omega);have p2:IntKind.i64.wrap ((ys.length:Int)-((k:Int)+1))=(ys.length:Int)-((k:Int)+1):=wrap_small _ (by omega) (by omega);have hrx:=Nm.TQ h1 hx;have hry:=Nm.TQ h2 hy;have fF:=eB w2 _ VE;have iE:=eB w2 _ hy2
    have xQ:∀ (z:ByteArray) (W:World),z.size<=63->(W.cell? ⟨b1,aCa+(xs.length-(k+1)),none⟩=some (.string x)∧W.cell? ⟨b2,aCb+(ys.length-(k+1)),none⟩=some (.string y)∧Below w2.heap.size w2 W)->
     Calls Tryz.prog 97 #[.string z] W fun e w'=>e=.returned (.string (Nm.small z))∧(w'.cell? ⟨b1,aCa+(xs.length-(k+1)),none⟩=some (.string x)∧w'.cell? ⟨b2,aCb+(ys.length-(k+1)),none⟩=some (.string y)∧Below w2.heap.size w2 w'):=by
     intro z W hz hS;refine(MC z W (by omega)).mono ?_;rintro e w' ⟨rfl,Mw⟩;have pQ:=hS.2.2.size;exact⟨rfl,(Mw.cell (eB W _ hS.1)).trans hS.1,(Mw.cell (eB W _ hS.2.1)).trans hS.2.1,hS.2.2.trans (Mw.mono pQ)⟩
    have hor:=fun W=>Fq (Nm.small x) (Nm.small y) W
    rw [aB8] at hor;have GV:wr.drew.cell? ⟨b1,aCa+(xs.length-(k+1)),none⟩=some (.string x)∧wr.drew.cell? ⟨b2,aCb+(ys.length-(k+1)),none⟩=some (.string y)∧Below w2.heap.size w2 wr.drew:=⟨yB,hcy,hbr.drew⟩
    by_cases he:Nm.jA x y=0
    ·have HN:Hid (Nm.bJ xs ys=Nm.dV (xs.reverse.drop (k+1)) (ys.reverse.drop (k+1))):=HT.out.trans (Nm.aEu hrx hry he);rw [he] at hor;have hz:((0:Int) != 0)=false:=rfl;clear he hx hy hrx hry Um Un iK mD Lx hys VE hy2;go_wp2;go_region_held3 (fun w'=>w'.cell? ⟨b1,aCa+(xs.length-(k+1)),none⟩=some (.string x)∧w'.cell? ⟨b2,aCb+(ys.length-(k+1)),none⟩=some (.string y)∧Below w2.heap.size w2 w') (first|assumption|exact GV) ((first|(go_at_call 97;refine(xQ _ _ (by omega) (by first|assumption|exact GV)).mono ?_;rintro e w' ⟨rfl,ZG⟩)|(go_at_call 155;refine(hor _).mono ?_;rintro e w' ⟨rfl,rfl⟩)))
     go_wp2;go_roundw
     case rel=>exact⟨k+1,by omega,by omega,by go_num,HN,ZG.2.2⟩
     simp [intOf];omega
    have HO:Hid (Nm.bJ xs ys=Nm.jA x y):=HT.out.trans (Nm.Kn hrx hry he);have hz:(Nm.jA x y != 0)=true:=by rw [bne_iff_ne];exact he
    generalize Nm.jA x y=o at*;clear he hx hy hrx hry Um Un iK mD Lx hys VE hy2;go_wp2;go_region_held3 (fun w'=>w'.cell? ⟨b1,aCa+(xs.length-(k+1)),none⟩=some (.string x)∧w'.cell? ⟨b2,aCb+(ys.length-(k+1)),none⟩=some (.string y)∧Below w2.heap.size w2 w') (first|assumption|exact GV) ((first|(go_at_call 97;refine(xQ _ _ (by omega) (by first|assumption|exact GV)).mono ?_;rintro e w' ⟨rfl,ZG⟩)|(go_at_call 155;refine(hor _).mono ?_;rintro e w' ⟨rfl,rfl⟩)))
    go_wp2;go_ret;rw [HA.out,HO.out];exact⟨rfl,Nm.aC SQ ZG.2.2⟩
   have HO:Hid (Nm.bJ xs ys=Nm.pK xs.length ys.length):=by
    show _=_
    rw [HT.out,Nm.aAh (by simpa using hka) (by simpa using hkb) (by simp;omega)];simp
   clear iK mD Lx hys
   have EU:(xs.length<ys.length∧Hid (Nm.pK xs.length ys.length= -1))∨(ys.length<xs.length∧Hid (Nm.pK xs.length ys.length=1))∨(xs.length=ys.length∧Hid (Nm.pK xs.length ys.length=0)):=by
    rcases Nat.lt_trichotomy xs.length ys.length with h|h|h
    ·exact .inl ⟨h,Nm.oJ (by omega)⟩
    ·exact .inr (.inr ⟨h,Nm.tX (by omega)⟩)
    exact .inr (.inl ⟨h,Nm.oK (by omega)⟩)
   rcases EU with⟨hl,HC⟩|⟨hl,HC⟩|⟨hl,HC⟩
   ·have g1:(xs.length:Int)<(k:Int)+1:=by omega
    clear h1;go_wp2;go_ret;rw [HA.out,HO.out,HC.out];exact⟨rfl,Nm.aC SQ hbr⟩
   ·have g1:(k:Int)+1<=(xs.length:Int):=by omega
    have g2:(ys.length:Int)<(k:Int)+1:=by omega
    clear h1;go_wp2;go_ret;rw [HA.out,HO.out,HC.out];exact⟨rfl,Nm.aC SQ hbr⟩
   have g1:(xs.length:Int)<(k:Int)+1:=by omega
   have g2:ys.length<=xs.length:=by omega
   have g3:xs.length<=ys.length:=by omega
   clear h1 hl;go_wp2;go_ret;rw [HA.out,HO.out,HC.out];exact⟨rfl,Nm.aC SQ hbr⟩
