import Derived.Test.YtmdinnjimioffaaGreatJCmp
import Derived.Test.YtmdinnjimioffaaGreatBlocks
namespace Go.Proofs.YtmdinnjimioffaaGreat
open Go.RowKit
def Took(p:Dt.Pc)(d:ByteArray)(w:World)(e:Ending)(w':World):Prop:=
 ∃ m:Nat,e=.returned (.tuple #[.int .i64 (m:Int),.bool (Dt.sz p d).isSome])∧(∀ n,Dt.sz p d=some n->n=m)∧Below w.heap.size w w'
theorem took_none{p:Dt.Pc}{d:ByteArray}(h:Dt.sz p d=none){w w':World}(m:Nat)(hb:Below w.heap.size w w'):Took p d w (.returned (.tuple #[.int .i64 (m:Int),.bool false])) w':=
 ⟨m,by rw [h];rfl,(fun n hn=>by rw [h] at hn;cases hn),hb⟩
theorem took_some{p:Dt.Pc}{d:ByteArray}{m:Nat}(h:Dt.sz p d=some m){w w':World}(hb:Below w.heap.size w w'):Took p d w (.returned (.tuple #[.int .i64 (m:Int),.bool true])) w':=
 ⟨m,by rw [h];rfl,(fun n hn=>by rw [h] at hn;cases hn;rfl),hb⟩
theorem Took.no{p:Dt.Pc}{d:ByteArray}{w w':World}{e:Ending}(h:Took p d w e w')(hq:Dt.sz p d=none):∃ m:Nat,e=.returned (.tuple #[.int .i64 (m:Int),.bool false])∧Below w.heap.size w w':=by
 obtain⟨m,he,_,hb⟩:=h;rw [hq] at he;exact⟨m,he,hb⟩
theorem Took.yes{p:Dt.Pc}{d:ByteArray}{w w':World}{e:Ending}{n:Nat}(h:Took p d w e w')(hq:Dt.sz p d=some n):e=.returned (.tuple #[.int .i64 (n:Int),.bool true])∧Below w.heap.size w w':=by
 obtain⟨m,he,hm,hb⟩:=h;obtain rfl:=hm n hq;rw [hq] at he;exact⟨he,hb⟩
set_option maxRecDepth 100000 in
set_option maxHeartbeats 400000 in
theorem takeName_any(d:ByteArray)(w:World):
 Calls Tryz.prog 206 #[.agg #[],.string d] w (Took .nm d w):=by
 have hcall:=nameSize_any d;go_enter Tryz.func206,Tryz.ntmps206
 cases hq:Dt.sz .nm d with
 |none=>
  have HQ:=Nm.hide hq;rw [hq] at hcall;simp only [szV,Option.getD_none,Option.isSome_none] at hcall;clear hq;go_wp2_with (go_at_call 131;refine(hcall _).mono ?_;rintro e w1 ⟨rfl,rfl⟩)
  go_ret2
  exact took_none HQ.out 0 ((Below.refl _ _).alloc (Nat.le_refl _) _)
 |some m=>
  have HQ:=Nm.hide hq;rw [hq] at hcall;simp only [szV,Option.getD_some,Option.isSome_some] at hcall;clear hq;go_wp2_with (go_at_call 131;refine(hcall _).mono ?_;rintro e w1 ⟨rfl,rfl⟩)
  go_ret2;exact took_some HQ.out ((Below.refl _ _).alloc (Nat.le_refl _) _)
set_option maxRecDepth 100000 in
set_option maxHeartbeats 400000 in
theorem takeBytes_any(n:Nat)(d:ByteArray)(w:World):
 Calls Tryz.prog 205 #[.int .i64 (n:Int),.string d] w (Took (.bs n) d w):=by
 by_cases h:n<=d.size
 ·have HQ:Hid (Dt.sz (.bs n) d=some n):=by show _=_;rw [Dt.sz,if_pos h]
  have h':(n:Int)<=(d.size:Int):=by omega
  go_enter Tryz.func205,Tryz.ntmps205;go_wp2;go_ret2;exact took_some HQ.out (Below.refl _ _)
 ·have HQ:Hid (Dt.sz (.bs n) d=none):=by show _=_;rw [Dt.sz,if_neg h]
  have h':(d.size:Int)<(n:Int):=by omega
  go_enter Tryz.func205,Tryz.ntmps205;go_wp2;go_ret2;exact took_none HQ.out n (Below.refl _ _)
theorem tx_short{d:ByteArray}(h:0<d.size)(h1:d.size<1+d[0].toNat):Dt.sz .tx d=none:=by
 have e:Dt.txtS d=ByteArray.empty:=by rw [Dt.txtS,dif_pos h,if_neg (by omega)]
 rw [Dt.sz,e];rfl
theorem tx_good{d:ByteArray}(h:0<d.size)(h1:1+d[0].toNat<=d.size):Dt.sz .tx d=some (1+d[0].toNat):=by
 have e:Dt.txtS d=d.extract 0 (d[0].toNat+1):=by rw [Dt.txtS,dif_pos h,if_pos (by omega)]
 have e1:(Dt.txtS d).size=1+d[0].toNat:=by rw [e];simp;omega
 rw [Dt.sz,if_neg (by omega),e1]
theorem tx_none{d:ByteArray}(h:d.size=0):Dt.sz .tx d=none:=by
 have e:Dt.txtS d=ByteArray.empty:=by rw [Dt.txtS,dif_neg (by omega)]
 rw [Dt.sz,e];rfl
set_option maxRecDepth 100000 in
set_option maxHeartbeats 400000 in
theorem takeText_any(d:ByteArray)(w:World)(hd:d.size<=1000000000):
 Calls Tryz.prog 208 #[.agg #[],.string d] w (Took .tx d w):=by
 by_cases h0:d.size=0
 ·have HQ:=Nm.hide (tx_none h0);obtain⟨e1,e2⟩:=beq_empty h0;clear h0;go_enter Tryz.func208,Tryz.ntmps208;go_wp2;go_ret2;exact took_none HQ.out 0 ((Below.refl _ _).alloc (Nat.le_refl _) _)
 ·have hp:0<d.size:=by omega
  have hp':(0:Int)<(d.size:Int):=by omega
  obtain⟨e1,e2⟩:=not_empty hp;have hc:(d[0].toNat:Int)<256:=by have:=d[0].toNat_lt;omega
  by_cases h1:1+d[0].toNat<=d.size
  ·have HQ:=Nm.hide (tx_good hp h1);have h1':(1:Int)+(d[0].toNat:Int)<=(d.size:Int):=by omega
   clear h0;go_enter Tryz.func208,Tryz.ntmps208;go_wp2;go_ret2;exact took_some HQ.out ((Below.refl _ _).alloc (Nat.le_refl _) _)
  ·have HQ:=Nm.hide (tx_short hp (by omega));have h1':(d.size:Int)<(1:Int)+(d[0].toNat:Int):=by omega
   have h1b:decide ((1:Int)+(d[0].toNat:Int)<=(d.size:Int))=false:=by simp;omega
   clear h0;go_enter Tryz.func208,Tryz.ntmps208;go_wp2;go_ret2;exact took_none HQ.out (1+d[0].toNat) ((Below.refl _ _).alloc (Nat.le_refl _) _)
set_option maxRecDepth 100000 in
set_option maxHeartbeats 400000 in
theorem takeRest_any(d:ByteArray)(w:World):
 Calls Tryz.prog 213 #[.agg #[],.string d] w (Took .rs d w):=by
 have HQ:Hid (Dt.sz .rs d=some d.size):=rfl;go_enter Tryz.func213,Tryz.ntmps213;go_wp2;go_ret2;exact took_some HQ.out ((Below.refl _ _).alloc (Nat.le_refl _) _)
set_option maxRecDepth 100000 in
set_option maxHeartbeats 400000 in
theorem takeMap_any(d:ByteArray)(w:World)(hd:d.size<=2000000):
 Calls Tryz.prog 214 #[.agg #[],.string d] w (Took .mp d w):=by
 have hcall:=fun w=>mapBlocks_any d w hd
 cases hM:mapS d with
 |true=>
  have HQ:Hid (Dt.sz .mp d=some d.size):=by show _=_;rw [Dt.sz,hM];rfl
  rw [hM] at hcall;clear hM;go_enter Tryz.func214,Tryz.ntmps214;go_wp2_with (go_at_call 215;refine(hcall _).mono ?_;rintro e w1 ⟨v,rfl,_,hbel⟩;have HB:Hid (Below w.heap.size w w1):=Nm.below_two ((Below.refl _ _).alloc (Nat.le_refl _) _) hbel;clear hbel)
  go_ret2
  exact took_some HQ.out HB.out
 |false=>
  have HQ:Hid (Dt.sz .mp d=none):=by show _=_;rw [Dt.sz,hM];rfl
  rw [hM] at hcall;clear hM;go_enter Tryz.func214,Tryz.ntmps214;go_wp2_with (go_at_call 215;refine(hcall _).mono ?_;rintro e w1 ⟨v,rfl,_,hbel⟩;have HB:Hid (Below w.heap.size w w1):=Nm.below_two ((Below.refl _ _).alloc (Nat.le_refl _) _) hbel;clear hbel)
  go_ret2;exact took_none HQ.out _ HB.out
end Go.Proofs.YtmdinnjimioffaaGreat
namespace Go.Proofs.YtmdinnjimioffaaGreat
open Go.RowKit
theorem tx_size{d:ByteArray}{n:Nat}(h:Dt.sz .tx d=some n):(Dt.txtS d).size=n∧n≠0:=by
 rw [Dt.sz] at h
 split at h
 ·cases h
 ·rename_i h0;simp at h;exact⟨h,by omega⟩
theorem tx_zero{d:ByteArray}(h:Dt.sz .tx d=none):(Dt.txtS d).size=0:=by
 rw [Dt.sz] at h
 split at h
 ·assumption
 ·cases h
def XAt(d:ByteArray)(i:Nat):Prop:=Dt.txsS d=i+Dt.txsS (d.extract i d.size)
theorem xat_start(d:ByteArray):XAt d 0:=by simp [XAt]
theorem xat_step{d:ByteArray}{i n:Nat}(h:XAt d i)(hi:i<=d.size)(hn:Dt.sz .tx (d.extract i d.size)=some n):XAt d (i+n)∧i+n<=d.size∧n≠0:=by
 obtain⟨h1,h2⟩:=tx_size hn;have hle:=Dt.txt_le (d.extract i d.size);have hz:(d.extract i d.size).size=d.size-i:=by simp
 refine⟨?_,by omega,h2⟩;rw [XAt,h,Dt.txs_step (by omega),h1,Dt.ext_ext (by omega) (Nat.le_refl _)];omega
theorem xat_bad{d:ByteArray}{i:Nat}(h:XAt d i)(hi:i<d.size)(hn:Dt.sz .tx (d.extract i d.size)=none):Dt.sz .txe d=none:=by
 have h1:=tx_zero hn;have:Dt.txsS d=i:=by rw [h,Dt.txs_none h1];rfl
 rw [Dt.sz,if_pos (by omega)]
theorem xat_end{d:ByteArray}{i:Nat}(h:XAt d i)(hi:i=d.size):Dt.sz .txe d=if d.size=0 then none else some d.size:=by
 have h1:(d.extract i d.size).size=0:=by simp;omega
 have h2:=Dt.txt_le (d.extract i d.size);have h3:Dt.txsS d=d.size:=by rw [h,Dt.txs_none (by omega)];omega
 rw [Dt.sz]
 by_cases h0:d.size=0
 ·rw [if_pos (by omega),if_pos h0]
 ·rw [if_neg (by omega),if_neg h0]
set_option maxRecDepth 100000 in
set_option maxHeartbeats 800000 in
theorem takeTexts_any(d:ByteArray)(w:World)(hd:d.size<=1000000000):
 Calls Tryz.prog 207 #[.agg #[],.string d] w (Took .txe d w):=by
 have hst:=xat_start d;go_enter Tryz.func207,Tryz.ntmps207;go_wp2
 go_loopw [6] (fun v wr=>∃ i:Nat,i<=d.size∧v=.int .i64 i∧XAt d i∧Below w.heap.size w wr) (fun v _=>d.size-(intOf v).toNat)
 case atStart=>exact⟨0,Nat.zero_le _,rfl,hst,(Below.refl _ _).alloc (Nat.le_refl _) _⟩
 case round=>
  obtain⟨i,hi,rfl,hx,hbel⟩:=hrel;clear hst
  by_cases hlt:i<d.size
  ·have hlt':(i:Int)<(d.size:Int):=by omega
   have hle':(i:Int)<=(d.size:Int):=by omega
   have hcall:=fun w=>takeText_any (d.extract i d.size) w (by simp;omega)
   cases hq:Dt.sz .tx (d.extract i d.size) with
   |none=>
    have HQ:=Nm.hide (xat_bad hx hlt hq);have hcall:=fun w=>(hcall w).mono (fun e w' h=>Took.no h hq)
    clear hq hx;go_wp2_with (go_at_call 208;refine(hcall _).mono ?_;rintro e w1 ⟨m,rfl,hb⟩;have HB:Hid (Below w.heap.size w w1):=Nm.below_two hbel hb;clear hb)
    go_ret2
    exact took_none HQ.out 0 HB.out
   |some n=>
    have hs:=xat_step hx hi hq;have HX:=Nm.hide hs.1;have hsn:=hs.2;have hcall:=fun w=>(hcall w).mono (fun e w' h=>Took.yes h hq)
    clear hq hx hs;go_wp2_with (go_at_call 208;refine(hcall _).mono ?_;rintro e w1 ⟨rfl,hb⟩;have HB:Hid (Below w.heap.size w w1):=Nm.below_two hbel hb;clear hb)
    go_roundw
    case rel=>exact⟨i+n,hsn.1,by go_num,HX.out,HB.out⟩
    case measure=>simp [intOf];omega
  ·have hlt':(d.size:Int)<=(i:Int):=by omega
   have hid:i=d.size:=by omega
   have hend:=xat_end hx hid;clear hx
   by_cases h0:d.size=0
   ·rw [if_pos h0] at hend;have HQ:=Nm.hide hend;obtain rfl:i=0:=by omega
    clear hend h0 hid hi;go_wp2;go_ret2;exact took_none HQ.out 0 hbel
   ·rw [if_neg h0,<- hid] at hend;have HQ:=Nm.hide hend;have h0':(0:Int)<(i:Int):=by omega
    have h0'':0<i:=by omega
    clear hend h0 hid hi;go_wp2;go_ret2;exact took_some HQ.out hbel
set_option maxRecDepth 100000 in
set_option maxHeartbeats 800000 in
theorem takeTag_any(d:ByteArray)(w:World)(hd:d.size<=1000000000):
 Calls Tryz.prog 209 #[.agg #[],.string d] w (Took .tag d w):=by
 have hcall:=fun w=>takeText_any d w hd
 cases hq:Dt.sz .tx d with
 |none=>
  have h0:=tx_zero hq
  have HQ:Hid (Dt.sz .tag d=none):=by
   show _=_
   rw [Dt.sz,Dt.tag_short (.inl (by omega))];rfl
  have hcall:=fun w=>(hcall w).mono (fun e w' h=>Took.no h hq)
  clear hq h0;go_enter Tryz.func209,Tryz.ntmps209;go_wp2_with (go_at_call 208;refine(hcall _).mono ?_;rintro e w1 ⟨m,rfl,hb⟩;have HB:Hid (Below w.heap.size w w1):=Nm.below_two ((Below.refl _ _).alloc (Nat.le_refl _) _) hb;clear hb)
  go_ret2
  exact took_none HQ.out _ HB.out
 |some n=>
  obtain⟨h1,h2⟩:=tx_size hq;have hle:=Dt.txt_le d;have hpos:1<=n:=by omega
  have hpos':(1:Int)<=(n:Int):=by omega
  have hnd:n<=d.size:=by omega
  have hnd':(n:Int)<=(d.size:Int):=by omega
  have hcall2:=fun w=>isTag_any (d.extract 1 n) w (by simp;omega)
  have htag:=tag_of h1 h2;have hcall:=fun w=>(hcall w).mono (fun e w' h=>Took.yes h hq)
  cases hT:Dt.tagB d with
  |true=>
   have HQ:Hid (Dt.sz .tag d=some n):=by show _=_;rw [Dt.sz,hT,h1];rfl
   rw [htag,hT] at hcall2;clear hq h1 h2 htag hT hle;go_enter Tryz.func209,Tryz.ntmps209;go_wp2_with (first|(go_at_call 208;refine(hcall _).mono ?_;rintro e w1 ⟨rfl,hb⟩;have HB:Hid (Below w.heap.size w w1):=Nm.below_two ((Below.refl _ _).alloc (Nat.le_refl _) _) hb;clear hb)|(go_at_call 210;refine(hcall2 _).mono ?_;rintro e w2 ⟨rfl,hw⟩;obtain rfl:w1=w2:=hw.symm;clear hw))
   go_ret2
   exact took_some HQ.out HB.out
  |false=>
   have HQ:Hid (Dt.sz .tag d=none):=by show _=_;rw [Dt.sz,hT];rfl
   rw [htag,hT] at hcall2;clear hq h1 h2 htag hT hle;go_enter Tryz.func209,Tryz.ntmps209;go_wp2_with (first|(go_at_call 208;refine(hcall _).mono ?_;rintro e w1 ⟨rfl,hb⟩;have HB:Hid (Below w.heap.size w w1):=Nm.below_two ((Below.refl _ _).alloc (Nat.le_refl _) _) hb;clear hb)|(go_at_call 210;refine(hcall2 _).mono ?_;rintro e w2 ⟨rfl,hw⟩;obtain rfl:w1=w2:=hw.symm;clear hw))
   go_ret2;exact took_none HQ.out _ HB.out
end Go.Proofs.YtmdinnjimioffaaGreat
namespace Go.Proofs.YtmdinnjimioffaaGreat
open Go.RowKit
def pcV:Dt.Pc->Value
 |none=>.iface 219 (.agg #[])
 |some none=>.iface 221 (.agg #[])
 |some (some none)=>.iface 223 (.agg #[])
 |some (some (some none))=>.iface 220 (.agg #[])
 |some (some (some (some none)))=>.iface 222 (.agg #[])
 |some (some (some (some (some none))))=>.iface 223 (.agg #[])
 |some (some (some (some (some (some none)))))=>.iface 224 (.agg #[])
 |some (some (some (some (some (some (some none))))))=>.iface 223 (.agg #[])
 |some (some (some (some (some (some (some (some n)))))))=>.iface 217 (.int .i64 (n:Int))
def formV(t:Int)(w:World):World:=w.alloc (.cells ((Dt.implP t).map pcV).toArray 203)
set_option maxRecDepth 100000 in
set_option maxHeartbeats 4000000 in
theorem formOf_any(t:Int)(w:World):
 Calls Tryz.prog 149 #[.int .i64 t] w fun e w'=>e=.returned (.slice (some ⟨w.heap.size,0,none⟩) (Dt.implP t).length (Dt.implP t).length)∧w'=formV t w:=by
 by_cases h:t=1∨t=2∨t=5∨t=6∨t=12∨t=13∨t=15∨t=16∨t=28∨t=33∨t=35∨t=39∨t=47∨t=257
 ·rcases h with rfl|rfl|rfl|rfl|rfl|rfl|rfl|rfl|rfl|rfl|rfl|rfl|rfl|rfl
  all_goals
   go_enter Tryz.func149,Tryz.ntmps149;go_wp2;go_ret;exact⟨rfl,rfl⟩
 ·have HA:Hid (Dt.implP t=[.rs]):=by
   show _=_
   unfold Dt.implP;simp only [show ¬t=1 by omega,show ¬(t=2∨t=5∨t=12∨t=39) by omega,show ¬t=6 by omega,show ¬t=13 by omega,show ¬t=15 by omega,show ¬t=16 by omega,show ¬t=28 by omega,show ¬t=33 by omega,show ¬t=35 by omega,show ¬t=47 by omega,show ¬t=257 by omega,if_false]
  have b1:(t==1)=false:=by rw [beq_eq_false_iff_ne];omega
  have b2:(t==2)=false:=by rw [beq_eq_false_iff_ne];omega
  have b3:(t==5)=false:=by rw [beq_eq_false_iff_ne];omega
  have b4:(t==6)=false:=by rw [beq_eq_false_iff_ne];omega
  have b5:(t==12)=false:=by rw [beq_eq_false_iff_ne];omega
  have b6:(t==13)=false:=by rw [beq_eq_false_iff_ne];omega
  have b7:(t==15)=false:=by rw [beq_eq_false_iff_ne];omega
  have b8:(t==16)=false:=by rw [beq_eq_false_iff_ne];omega
  have b9:(t==28)=false:=by rw [beq_eq_false_iff_ne];omega
  have b10:(t==33)=false:=by rw [beq_eq_false_iff_ne];omega
  have b11:(t==35)=false:=by rw [beq_eq_false_iff_ne];omega
  have b12:(t==39)=false:=by rw [beq_eq_false_iff_ne];omega
  have b13:(t==47)=false:=by rw [beq_eq_false_iff_ne];omega
  have b14:(t==257)=false:=by rw [beq_eq_false_iff_ne];omega
  clear h;go_enter Tryz.func149,Tryz.ntmps149;go_wp2;go_ret;rw [formV,HA.out];exact⟨rfl,rfl⟩
def okPc:Dt.Pc->Prop
 |some (some none)=>False
 |some (some (some (some (some none))))=>False
 |_=>True
set_option maxRecDepth 100000 in
set_option maxHeartbeats 400000 in
theorem isName_any(p:Dt.Pc)(w:World)(hp:okPc p):
 Calls Tryz.prog 150 #[pcV p] w fun e w'=>e=.returned (.bool p.isN)∧w'=w:=by
 cases p using Dt.Pc.elim with
 |txs=>exact absurd hp (by simp [okPc])
 |tagr=>exact absurd hp (by simp [okPc])
 |nm=>
  rw [pcV,Dt.Pc.isN];have hm:∀ w:World,(Instr.typeAssert (.iface 219 (.agg #[])) 203 219 true).run Tryz.prog w=.ok (.tuple #[.agg #[],.bool true]) w:=fun _=>by kernel_rfl
  go_enter Tryz.func150,Tryz.ntmps150;go_wp2;go_ret
  exact⟨rfl,rfl⟩
 |bs n=>
  simp only [pcV,Dt.Pc.isN];have hm:∀ w:World,(Instr.typeAssert (.iface 217 (.int .i64 (n:Int))) 203 219 true).run Tryz.prog w=.ok (.tuple #[.agg #[],.bool false]) w:=fun _=>by kernel_rfl
  go_enter Tryz.func150,Tryz.ntmps150;go_wp2;go_ret
  exact⟨rfl,rfl⟩
 |tx=>
  simp only [pcV,Dt.Pc.isN];have hm:∀ w:World,(Instr.typeAssert (.iface 221 (.agg #[])) 203 219 true).run Tryz.prog w=.ok (.tuple #[.agg #[],.bool false]) w:=fun _=>by kernel_rfl
  go_enter Tryz.func150,Tryz.ntmps150;go_wp2;go_ret
  exact⟨rfl,rfl⟩
 |txe=>
  simp only [pcV,Dt.Pc.isN];have hm:∀ w:World,(Instr.typeAssert (.iface 220 (.agg #[])) 203 219 true).run Tryz.prog w=.ok (.tuple #[.agg #[],.bool false]) w:=fun _=>by kernel_rfl
  go_enter Tryz.func150,Tryz.ntmps150;go_wp2;go_ret
  exact⟨rfl,rfl⟩
 |tag=>
  simp only [pcV,Dt.Pc.isN];have hm:∀ w:World,(Instr.typeAssert (.iface 222 (.agg #[])) 203 219 true).run Tryz.prog w=.ok (.tuple #[.agg #[],.bool false]) w:=fun _=>by kernel_rfl
  go_enter Tryz.func150,Tryz.ntmps150;go_wp2;go_ret
  exact⟨rfl,rfl⟩
 |mp=>
  simp only [pcV,Dt.Pc.isN];have hm:∀ w:World,(Instr.typeAssert (.iface 224 (.agg #[])) 203 219 true).run Tryz.prog w=.ok (.tuple #[.agg #[],.bool false]) w:=fun _=>by kernel_rfl
  go_enter Tryz.func150,Tryz.ntmps150;go_wp2;go_ret
  exact⟨rfl,rfl⟩
 |rs=>
  simp only [pcV,Dt.Pc.isN];have hm:∀ w:World,(Instr.typeAssert (.iface 223 (.agg #[])) 203 219 true).run Tryz.prog w=.ok (.tuple #[.agg #[],.bool false]) w:=fun _=>by kernel_rfl
  go_enter Tryz.func150,Tryz.ntmps150;go_wp2;go_ret;exact⟨rfl,rfl⟩
end Go.Proofs.YtmdinnjimioffaaGreat
