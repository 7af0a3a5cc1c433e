import Derived.Test.YtcihkbojmbfmmaaGreatDoorJBlocks
namespace Go.Proofs.YtcihkbojmbfmmaaGreatDoor
open Go.RowKit
theorem tx_size{d:ByteArray}{n:Nat}(h:Dt.sz .tx d=some n):(Dt.txtS d).size=n∧n≠0:=by
 rw [Dt.sz] at h
 split at h
 ·cases h
 ·rename_i h0;simp at h;exact⟨h,by omega⟩
theorem tx_zero{d:ByteArray}(h:Dt.sz .tx d=none):(Dt.txtS d).size=0:=by
 rw [Dt.sz] at h
 split at h
 ·assumption
 ·cases h
def XAt(d:ByteArray)(i:Nat):Prop:=Dt.txsS d=i+Dt.txsS (d.extract i d.size)
theorem xat_start(d:ByteArray):XAt d 0:=by simp [XAt]
theorem xat_step{d:ByteArray}{i n:Nat}(h:XAt d i)(hi:i<=d.size)(hn:Dt.sz .tx (d.extract i d.size)=some n):XAt d (i+n)∧i+n<=d.size∧n≠0:=by
 obtain⟨h1,h2⟩:=tx_size hn;have hle:=Dt.txt_le (d.extract i d.size);have hz:(d.extract i d.size).size=d.size-i:=by simp
 refine⟨?_,by omega,h2⟩;rw [XAt,h,Dt.txs_step (by omega),h1,Dt.ext_ext (by omega) (Nat.le_refl _)];omega
theorem xat_bad{d:ByteArray}{i:Nat}(h:XAt d i)(hi:i<d.size)(hn:Dt.sz .tx (d.extract i d.size)=none):Dt.sz .txe d=none:=by
 have h1:=tx_zero hn;have:Dt.txsS d=i:=by rw [h,Dt.txs_none h1];rfl
 rw [Dt.sz,if_pos (by omega)]
theorem xat_end{d:ByteArray}{i:Nat}(h:XAt d i)(hi:i=d.size):Dt.sz .txe d=if d.size=0 then none else some d.size:=by
 have h1:(d.extract i d.size).size=0:=by simp;omega
 have h2:=Dt.txt_le (d.extract i d.size);have h3:Dt.txsS d=d.size:=by rw [h,Dt.txs_none (by omega)];omega
 rw [Dt.sz]
 by_cases h0:d.size=0
 ·rw [if_pos (by omega),if_pos h0]
 ·rw [if_neg (by omega),if_neg h0]
set_option maxRecDepth 100000 in
set_option maxHeartbeats 800000 in
theorem takeTexts_any(d:ByteArray)(w:World)(hd:d.size<=1000000000):
 Calls Tryz.prog 232 #[.agg #[],.string d] w (Took .txe d w):=by
 have hst:=xat_start d;go_enter Tryz.func232,Tryz.ntmps232;go_wp2
 go_loopw [6] (fun v wr=>∃ i:Nat,i<=d.size∧v=.int .i64 i∧XAt d i∧Below w.heap.size w wr) (fun v _=>d.size-(intOf v).toNat)
 case atStart=>exact⟨0,Nat.zero_le _,rfl,hst,(Below.refl _ _).alloc (Nat.le_refl _) _⟩
 case round=>
  obtain⟨i,hi,rfl,hx,hbel⟩:=hrel;clear hst
  by_cases hlt:i<d.size
  ·have hlt':(i:Int)<(d.size:Int):=by omega
   have hle':(i:Int)<=(d.size:Int):=by omega
   have hcall:=fun w=>takeText_any (d.extract i d.size) w (by simp;omega)
   cases hq:Dt.sz .tx (d.extract i d.size) with
   |none=>
    have HQ:=Nm.hide (xat_bad hx hlt hq);have hcall:=fun w=>(hcall w).mono (fun e w' h=>Took.no h hq)
    clear hq hx;go_wp2_with (go_at_call 233;refine(hcall _).mono ?_;rintro e w1 ⟨m,rfl,hb⟩;have HB:Hid (Below w.heap.size w w1):=Nm.below_two hbel hb;clear hb)
    go_ret2
    exact took_none HQ.out 0 HB.out
   |some n=>
    have hs:=xat_step hx hi hq;have HX:=Nm.hide hs.1;have hsn:=hs.2;have hcall:=fun w=>(hcall w).mono (fun e w' h=>Took.yes h hq)
    clear hq hx hs;go_wp2_with (go_at_call 233;refine(hcall _).mono ?_;rintro e w1 ⟨rfl,hb⟩;have HB:Hid (Below w.heap.size w w1):=Nm.below_two hbel hb;clear hb)
    go_roundw
    case rel=>exact⟨i+n,hsn.1,by go_num,HX.out,HB.out⟩
    case measure=>simp [intOf];omega
  ·have hlt':(d.size:Int)<=(i:Int):=by omega
   have hid:i=d.size:=by omega
   have hend:=xat_end hx hid;clear hx
   by_cases h0:d.size=0
   ·rw [if_pos h0] at hend;have HQ:=Nm.hide hend;obtain rfl:i=0:=by omega
    clear hend h0 hid hi;go_wp2;go_ret2;exact took_none HQ.out 0 hbel
   ·rw [if_neg h0,<- hid] at hend;have HQ:=Nm.hide hend;have h0':(0:Int)<(i:Int):=by omega
    have h0'':0<i:=by omega
    clear hend h0 hid hi;go_wp2;go_ret2;exact took_some HQ.out hbel
set_option maxRecDepth 100000 in
set_option maxHeartbeats 800000 in
theorem takeTag_any(d:ByteArray)(w:World)(hd:d.size<=1000000000):
 Calls Tryz.prog 234 #[.agg #[],.string d] w (Took .tag d w):=by
 have hcall:=fun w=>takeText_any d w hd
 cases hq:Dt.sz .tx d with
 |none=>
  have h0:=tx_zero hq
  have HQ:Hid (Dt.sz .tag d=none):=by
   show _=_
   rw [Dt.sz,Dt.tag_short (.inl (by omega))];rfl
  have hcall:=fun w=>(hcall w).mono (fun e w' h=>Took.no h hq)
  clear hq h0;go_enter Tryz.func234,Tryz.ntmps234;go_wp2_with (go_at_call 233;refine(hcall _).mono ?_;rintro e w1 ⟨m,rfl,hb⟩;have HB:Hid (Below w.heap.size w w1):=Nm.below_two ((Below.refl _ _).alloc (Nat.le_refl _) _) hb;clear hb)
  go_ret2
  exact took_none HQ.out _ HB.out
 |some n=>
  obtain⟨h1,h2⟩:=tx_size hq;have hle:=Dt.txt_le d;have hpos:1<=n:=by omega
  have hpos':(1:Int)<=(n:Int):=by omega
  have hnd:n<=d.size:=by omega
  have hnd':(n:Int)<=(d.size:Int):=by omega
  have hcall2:=fun w=>isTag_any (d.extract 1 n) w (by simp;omega)
  have htag:=tag_of h1 h2;have hcall:=fun w=>(hcall w).mono (fun e w' h=>Took.yes h hq)
  cases hT:Dt.tagB d with
  |true=>
   have HQ:Hid (Dt.sz .tag d=some n):=by show _=_;rw [Dt.sz,hT,h1];rfl
   rw [htag,hT] at hcall2;clear hq h1 h2 htag hT hle;go_enter Tryz.func234,Tryz.ntmps234;go_wp2_with (first|(go_at_call 233;refine(hcall _).mono ?_;rintro e w1 ⟨rfl,hb⟩;have HB:Hid (Below w.heap.size w w1):=Nm.below_two ((Below.refl _ _).alloc (Nat.le_refl _) _) hb;clear hb)|(go_at_call 235;refine(hcall2 _).mono ?_;rintro e w2 ⟨rfl,hw⟩;obtain rfl:w1=w2:=hw.symm;clear hw))
   go_ret2
   exact took_some HQ.out HB.out
  |false=>
   have HQ:Hid (Dt.sz .tag d=none):=by show _=_;rw [Dt.sz,hT];rfl
   rw [htag,hT] at hcall2;clear hq h1 h2 htag hT hle;go_enter Tryz.func234,Tryz.ntmps234;go_wp2_with (first|(go_at_call 233;refine(hcall _).mono ?_;rintro e w1 ⟨rfl,hb⟩;have HB:Hid (Below w.heap.size w w1):=Nm.below_two ((Below.refl _ _).alloc (Nat.le_refl _) _) hb;clear hb)|(go_at_call 235;refine(hcall2 _).mono ?_;rintro e w2 ⟨rfl,hw⟩;obtain rfl:w1=w2:=hw.symm;clear hw))
   go_ret2;exact took_none HQ.out _ HB.out
end Go.Proofs.YtcihkbojmbfmmaaGreatDoor
namespace Go.Proofs.YtcihkbojmbfmmaaGreatDoor
open Go.RowKit
def pcV:Dt.Pc->Value
 |none=>.iface 249 (.agg #[])
 |some none=>.iface 251 (.agg #[])
 |some (some none)=>.iface 253 (.agg #[])
 |some (some (some none))=>.iface 250 (.agg #[])
 |some (some (some (some none)))=>.iface 252 (.agg #[])
 |some (some (some (some (some none))))=>.iface 253 (.agg #[])
 |some (some (some (some (some (some none)))))=>.iface 254 (.agg #[])
 |some (some (some (some (some (some (some none))))))=>.iface 253 (.agg #[])
 |some (some (some (some (some (some (some (some n)))))))=>.iface 247 (.int .i64 (n:Int))
def formV(t:Int)(w:World):World:=w.alloc (.cells ((Dt.implP t).map pcV).toArray 233)
set_option maxRecDepth 100000 in
set_option maxHeartbeats 4000000 in
theorem formOf_any(t:Int)(w:World):
 Calls Tryz.prog 174 #[.int .i64 t] w fun e w'=>e=.returned (.slice (some ⟨w.heap.size,0,none⟩) (Dt.implP t).length (Dt.implP t).length)∧w'=formV t w:=by
 by_cases h:t=1∨t=2∨t=5∨t=6∨t=12∨t=13∨t=15∨t=16∨t=28∨t=33∨t=35∨t=39∨t=47∨t=257
 ·rcases h with rfl|rfl|rfl|rfl|rfl|rfl|rfl|rfl|rfl|rfl|rfl|rfl|rfl|rfl
  all_goals
   go_enter Tryz.func174,Tryz.ntmps174;go_wp2;go_ret;exact⟨rfl,rfl⟩
 ·have HA:Hid (Dt.implP t=[.rs]):=by
   show _=_
   unfold Dt.implP;simp only [show ¬t=1 by omega,show ¬(t=2∨t=5∨t=12∨t=39) by omega,show ¬t=6 by omega,show ¬t=13 by omega,show ¬t=15 by omega,show ¬t=16 by omega,show ¬t=28 by omega,show ¬t=33 by omega,show ¬t=35 by omega,show ¬t=47 by omega,show ¬t=257 by omega,if_false]
  have b1:(t==1)=false:=by rw [beq_eq_false_iff_ne];omega
  have b2:(t==2)=false:=by rw [beq_eq_false_iff_ne];omega
  have b3:(t==5)=false:=by rw [beq_eq_false_iff_ne];omega
  have b4:(t==6)=false:=by rw [beq_eq_false_iff_ne];omega
  have b5:(t==12)=false:=by rw [beq_eq_false_iff_ne];omega
  have b6:(t==13)=false:=by rw [beq_eq_false_iff_ne];omega
  have b7:(t==15)=false:=by rw [beq_eq_false_iff_ne];omega
  have b8:(t==16)=false:=by rw [beq_eq_false_iff_ne];omega
  have b9:(t==28)=false:=by rw [beq_eq_false_iff_ne];omega
  have b10:(t==33)=false:=by rw [beq_eq_false_iff_ne];omega
  have b11:(t==35)=false:=by rw [beq_eq_false_iff_ne];omega
  have b12:(t==39)=false:=by rw [beq_eq_false_iff_ne];omega
  have b13:(t==47)=false:=by rw [beq_eq_false_iff_ne];omega
  have b14:(t==257)=false:=by rw [beq_eq_false_iff_ne];omega
  clear h;go_enter Tryz.func174,Tryz.ntmps174;go_wp2;go_ret;rw [formV,HA.out];exact⟨rfl,rfl⟩
def okPc:Dt.Pc->Prop
 |some (some none)=>False
 |some (some (some (some (some none))))=>False
 |_=>True
set_option maxRecDepth 100000 in
set_option maxHeartbeats 400000 in
theorem isName_any(p:Dt.Pc)(w:World)(hp:okPc p):
 Calls Tryz.prog 175 #[pcV p] w fun e w'=>e=.returned (.bool p.isN)∧w'=w:=by
 cases p using Dt.Pc.elim with
 |txs=>exact absurd hp (by simp [okPc])
 |tagr=>exact absurd hp (by simp [okPc])
 |nm=>
  rw [pcV,Dt.Pc.isN];have hm:∀ w:World,(Instr.typeAssert (.iface 249 (.agg #[])) 233 249 true).run Tryz.prog w=.ok (.tuple #[.agg #[],.bool true]) w:=fun _=>by kernel_rfl
  go_enter Tryz.func175,Tryz.ntmps175;go_wp2;go_ret
  exact⟨rfl,rfl⟩
 |bs n=>
  simp only [pcV,Dt.Pc.isN];have hm:∀ w:World,(Instr.typeAssert (.iface 247 (.int .i64 (n:Int))) 233 249 true).run Tryz.prog w=.ok (.tuple #[.agg #[],.bool false]) w:=fun _=>by kernel_rfl
  go_enter Tryz.func175,Tryz.ntmps175;go_wp2;go_ret
  exact⟨rfl,rfl⟩
 |tx=>
  simp only [pcV,Dt.Pc.isN];have hm:∀ w:World,(Instr.typeAssert (.iface 251 (.agg #[])) 233 249 true).run Tryz.prog w=.ok (.tuple #[.agg #[],.bool false]) w:=fun _=>by kernel_rfl
  go_enter Tryz.func175,Tryz.ntmps175;go_wp2;go_ret
  exact⟨rfl,rfl⟩
 |txe=>
  simp only [pcV,Dt.Pc.isN];have hm:∀ w:World,(Instr.typeAssert (.iface 250 (.agg #[])) 233 249 true).run Tryz.prog w=.ok (.tuple #[.agg #[],.bool false]) w:=fun _=>by kernel_rfl
  go_enter Tryz.func175,Tryz.ntmps175;go_wp2;go_ret
  exact⟨rfl,rfl⟩
 |tag=>
  simp only [pcV,Dt.Pc.isN];have hm:∀ w:World,(Instr.typeAssert (.iface 252 (.agg #[])) 233 249 true).run Tryz.prog w=.ok (.tuple #[.agg #[],.bool false]) w:=fun _=>by kernel_rfl
  go_enter Tryz.func175,Tryz.ntmps175;go_wp2;go_ret
  exact⟨rfl,rfl⟩
 |mp=>
  simp only [pcV,Dt.Pc.isN];have hm:∀ w:World,(Instr.typeAssert (.iface 254 (.agg #[])) 233 249 true).run Tryz.prog w=.ok (.tuple #[.agg #[],.bool false]) w:=fun _=>by kernel_rfl
  go_enter Tryz.func175,Tryz.ntmps175;go_wp2;go_ret
  exact⟨rfl,rfl⟩
 |rs=>
  simp only [pcV,Dt.Pc.isN];have hm:∀ w:World,(Instr.typeAssert (.iface 253 (.agg #[])) 233 249 true).run Tryz.prog w=.ok (.tuple #[.agg #[],.bool false]) w:=fun _=>by kernel_rfl
  go_enter Tryz.func175,Tryz.ntmps175;go_wp2;go_ret;exact⟨rfl,rfl⟩
end Go.Proofs.YtcihkbojmbfmmaaGreatDoor
