import Derived.Test.YtahpiciofdfipaaGreatJSameM
import Derived.Test.YtahpiciofdfipaaGreatBlocks
import Derived.Test.YtahpiciofdfipaaGreatJCmpM
import Derived.Deep.RegionWith
import Derived.Deep.Quiet
import Derived.Deep.QuietTactic
namespace Go.Proofs.YtahpiciofdfipaaGreat
open Go.RowKit
def Took(p:Dt.Pc)(d:ByteArray)(w:World)(e:Ending)(w':World):Prop:=
 ∃ m:Nat,e=.returned (.tuple #[.int .i64 (m:Int),.bool (Dt.sz p d).isSome])∧(∀ n,Dt.sz p d=some n->n=m)∧Below w.heap.size w w'
theorem took_none{p:Dt.Pc}{d:ByteArray}(h:Dt.sz p d=none){w w':World}(m:Nat)(hb:Below w.heap.size w w'):Took p d w (.returned (.tuple #[.int .i64 (m:Int),.bool false])) w':=
 ⟨m,by rw [h];rfl,(fun n hn=>by rw [h] at hn;cases hn),hb⟩
theorem took_some{p:Dt.Pc}{d:ByteArray}{m:Nat}(h:Dt.sz p d=some m){w w':World}(hb:Below w.heap.size w w'):Took p d w (.returned (.tuple #[.int .i64 (m:Int),.bool true])) w':=
 ⟨m,by rw [h];rfl,(fun n hn=>by rw [h] at hn;cases hn;rfl),hb⟩
theorem Took.no{p:Dt.Pc}{d:ByteArray}{w w':World}{e:Ending}(h:Took p d w e w')(hq:Dt.sz p d=none):∃ m:Nat,e=.returned (.tuple #[.int .i64 (m:Int),.bool false])∧Below w.heap.size w w':=by
 obtain⟨m,he,_,hb⟩:=h;rw [hq] at he;exact⟨m,he,hb⟩
theorem Took.yes{p:Dt.Pc}{d:ByteArray}{w w':World}{e:Ending}{n:Nat}(h:Took p d w e w')(hq:Dt.sz p d=some n):e=.returned (.tuple #[.int .i64 (n:Int),.bool true])∧Below w.heap.size w w':=by
 obtain⟨m,he,hm,hb⟩:=h;obtain rfl:=hm n hq;rw [hq] at he;exact⟨he,hb⟩
set_option maxRecDepth 100000 in
set_option maxHeartbeats 400000 in
theorem takeName_any(d:ByteArray)(w:World):
 Calls Tryz.prog 215 #[.agg #[],.string d] w (Took .nm d w):=by
 have hcall:=nameSize_any d;go_enter Tryz.func215,Tryz.ntmps215
 cases hq:Dt.sz .nm d with
 |none=>
  have HQ:=Nm.hide hq;rw [hq] at hcall;simp only [szV,Option.getD_none,Option.isSome_none] at hcall;clear hq;go_wp2_with (go_at_call 87;refine(hcall _).mono ?_;rintro e w1 ⟨rfl,rfl⟩)
  go_ret2
  exact took_none HQ.out 0 ((Below.refl _ _).alloc (Nat.le_refl _) _)
 |some m=>
  have HQ:=Nm.hide hq;rw [hq] at hcall;simp only [szV,Option.getD_some,Option.isSome_some] at hcall;clear hq;go_wp2_with (go_at_call 87;refine(hcall _).mono ?_;rintro e w1 ⟨rfl,rfl⟩)
  go_ret2;exact took_some HQ.out ((Below.refl _ _).alloc (Nat.le_refl _) _)
set_option maxRecDepth 100000 in
set_option maxHeartbeats 400000 in
theorem takeBytes_any(n:Nat)(d:ByteArray)(w:World):
 Calls Tryz.prog 214 #[.int .i64 (n:Int),.string d] w (Took (.bs n) d w):=by
 by_cases h:n<=d.size
 ·have HQ:Hid (Dt.sz (.bs n) d=some n):=by show _=_;rw [Dt.sz,if_pos h]
  have h':(n:Int)<=(d.size:Int):=by omega
  go_enter Tryz.func214,Tryz.ntmps214;go_wp2;go_ret2;exact took_some HQ.out (Below.refl _ _)
 ·have HQ:Hid (Dt.sz (.bs n) d=none):=by show _=_;rw [Dt.sz,if_neg h]
  have h':(d.size:Int)<(n:Int):=by omega
  go_enter Tryz.func214,Tryz.ntmps214;go_wp2;go_ret2;exact took_none HQ.out n (Below.refl _ _)
theorem tx_short{d:ByteArray}(h:0<d.size)(h1:d.size<1+d[0].toNat):Dt.sz .tx d=none:=by
 have e:Dt.txtS d=ByteArray.empty:=by rw [Dt.txtS,dif_pos h,if_neg (by omega)]
 rw [Dt.sz,e];rfl
theorem tx_good{d:ByteArray}(h:0<d.size)(h1:1+d[0].toNat<=d.size):Dt.sz .tx d=some (1+d[0].toNat):=by
 have e:Dt.txtS d=d.extract 0 (d[0].toNat+1):=by rw [Dt.txtS,dif_pos h,if_pos (by omega)]
 have e1:(Dt.txtS d).size=1+d[0].toNat:=by rw [e];simp;omega
 rw [Dt.sz,if_neg (by omega),e1]
theorem tx_none{d:ByteArray}(h:d.size=0):Dt.sz .tx d=none:=by
 have e:Dt.txtS d=ByteArray.empty:=by rw [Dt.txtS,dif_neg (by omega)]
 rw [Dt.sz,e];rfl
set_option maxRecDepth 100000 in
set_option maxHeartbeats 400000 in
theorem takeText_any(d:ByteArray)(w:World)(hd:d.size<=1000000000):
 Calls Tryz.prog 217 #[.agg #[],.string d] w (Took .tx d w):=by
 by_cases h0:d.size=0
 ·have HQ:=Nm.hide (tx_none h0);obtain⟨e1,e2⟩:=beq_empty h0;clear h0;go_enter Tryz.func217,Tryz.ntmps217;go_wp2;go_ret2;exact took_none HQ.out 0 ((Below.refl _ _).alloc (Nat.le_refl _) _)
 ·have hp:0<d.size:=by omega
  have hp':(0:Int)<(d.size:Int):=by omega
  obtain⟨e1,e2⟩:=not_empty hp;have hc:(d[0].toNat:Int)<256:=by have:=d[0].toNat_lt;omega
  by_cases h1:1+d[0].toNat<=d.size
  ·have HQ:=Nm.hide (tx_good hp h1);have h1':(1:Int)+(d[0].toNat:Int)<=(d.size:Int):=by omega
   clear h0;go_enter Tryz.func217,Tryz.ntmps217;go_wp2;go_ret2;exact took_some HQ.out ((Below.refl _ _).alloc (Nat.le_refl _) _)
  ·have HQ:=Nm.hide (tx_short hp (by omega));have h1':(d.size:Int)<(1:Int)+(d[0].toNat:Int):=by omega
   have h1b:decide ((1:Int)+(d[0].toNat:Int)<=(d.size:Int))=false:=by simp;omega
   clear h0;go_enter Tryz.func217,Tryz.ntmps217;go_wp2;go_ret2;exact took_none HQ.out (1+d[0].toNat) ((Below.refl _ _).alloc (Nat.le_refl _) _)
set_option maxRecDepth 100000 in
set_option maxHeartbeats 400000 in
theorem takeRest_any(d:ByteArray)(w:World):
 Calls Tryz.prog 222 #[.agg #[],.string d] w (Took .rs d w):=by
 have HQ:Hid (Dt.sz .rs d=some d.size):=rfl;go_enter Tryz.func222,Tryz.ntmps222;go_wp2;go_ret2;exact took_some HQ.out ((Below.refl _ _).alloc (Nat.le_refl _) _)
set_option maxRecDepth 100000 in
set_option maxHeartbeats 400000 in
theorem takeMap_any(d:ByteArray)(w:World)(hd:d.size<=2000000):
 Calls Tryz.prog 223 #[.agg #[],.string d] w (Took .mp d w):=by
 have hcall:=fun w=>mapBlocks_any d w hd
 cases hM:mapS d with
 |true=>
  have HQ:Hid (Dt.sz .mp d=some d.size):=by show _=_;rw [Dt.sz,hM];rfl
  rw [hM] at hcall;clear hM;go_enter Tryz.func223,Tryz.ntmps223;go_wp2_with (go_at_call 224;refine(hcall _).mono ?_;rintro e w1 ⟨v,rfl,_,hbel⟩;have HB:Hid (Below w.heap.size w w1):=Nm.below_two ((Below.refl _ _).alloc (Nat.le_refl _) _) hbel;clear hbel)
  go_ret2
  exact took_some HQ.out HB.out
 |false=>
  have HQ:Hid (Dt.sz .mp d=none):=by show _=_;rw [Dt.sz,hM];rfl
  rw [hM] at hcall;clear hM;go_enter Tryz.func223,Tryz.ntmps223;go_wp2_with (go_at_call 224;refine(hcall _).mono ?_;rintro e w1 ⟨v,rfl,_,hbel⟩;have HB:Hid (Below w.heap.size w w1):=Nm.below_two ((Below.refl _ _).alloc (Nat.le_refl _) _) hbel;clear hbel)
  go_ret2;exact took_none HQ.out _ HB.out
end Go.Proofs.YtahpiciofdfipaaGreat
namespace Go.Proofs.YtahpiciofdfipaaGreat
open Go.RowKit
theorem tx_size{d:ByteArray}{n:Nat}(h:Dt.sz .tx d=some n):(Dt.txtS d).size=n∧n≠0:=by
 rw [Dt.sz] at h
 split at h
 ·cases h
 ·rename_i h0;simp at h;exact⟨h,by omega⟩
theorem tx_zero{d:ByteArray}(h:Dt.sz .tx d=none):(Dt.txtS d).size=0:=by
 rw [Dt.sz] at h
 split at h
 ·assumption
 ·cases h
def XAt(d:ByteArray)(i:Nat):Prop:=Dt.txsS d=i+Dt.txsS (d.extract i d.size)
theorem xat_start(d:ByteArray):XAt d 0:=by simp [XAt]
theorem xat_step{d:ByteArray}{i n:Nat}(h:XAt d i)(hi:i<=d.size)(hn:Dt.sz .tx (d.extract i d.size)=some n):XAt d (i+n)∧i+n<=d.size∧n≠0:=by
 obtain⟨h1,h2⟩:=tx_size hn;have hle:=Dt.txt_le (d.extract i d.size);have hz:(d.extract i d.size).size=d.size-i:=by simp
 refine⟨?_,by omega,h2⟩;rw [XAt,h,Dt.txs_step (by omega),h1,Dt.ext_ext (by omega) (Nat.le_refl _)];omega
theorem xat_bad{d:ByteArray}{i:Nat}(h:XAt d i)(hi:i<d.size)(hn:Dt.sz .tx (d.extract i d.size)=none):Dt.sz .txe d=none:=by
 have h1:=tx_zero hn;have:Dt.txsS d=i:=by rw [h,Dt.txs_none h1];rfl
 rw [Dt.sz,if_pos (by omega)]
theorem xat_end{d:ByteArray}{i:Nat}(h:XAt d i)(hi:i=d.size):Dt.sz .txe d=if d.size=0 then none else some d.size:=by
 have h1:(d.extract i d.size).size=0:=by simp;omega
 have h2:=Dt.txt_le (d.extract i d.size);have h3:Dt.txsS d=d.size:=by rw [h,Dt.txs_none (by omega)];omega
 rw [Dt.sz]
 by_cases h0:d.size=0
 ·rw [if_pos (by omega),if_pos h0]
 ·rw [if_neg (by omega),if_neg h0]
set_option maxRecDepth 100000 in
set_option maxHeartbeats 800000 in
theorem takeTexts_any(d:ByteArray)(w:World)(hd:d.size<=1000000000):
 Calls Tryz.prog 216 #[.agg #[],.string d] w (Took .txe d w):=by
 have hst:=xat_start d;go_enter Tryz.func216,Tryz.ntmps216;go_wp2
 go_loopw [6] (fun v wr=>∃ i:Nat,i<=d.size∧v=.int .i64 i∧XAt d i∧Below w.heap.size w wr) (fun v _=>d.size-(intOf v).toNat)
 case atStart=>exact⟨0,Nat.zero_le _,rfl,hst,(Below.refl _ _).alloc (Nat.le_refl _) _⟩
 case round=>
  obtain⟨i,hi,rfl,hx,hbel⟩:=hrel;clear hst
  by_cases hlt:i<d.size
  ·have hlt':(i:Int)<(d.size:Int):=by omega
   have hle':(i:Int)<=(d.size:Int):=by omega
   have hcall:=fun w=>takeText_any (d.extract i d.size) w (by simp;omega)
   cases hq:Dt.sz .tx (d.extract i d.size) with
   |none=>
    have HQ:=Nm.hide (xat_bad hx hlt hq);have hcall:=fun w=>(hcall w).mono (fun e w' h=>Took.no h hq)
    clear hq hx;go_wp2_with (go_at_call 217;refine(hcall _).mono ?_;rintro e w1 ⟨m,rfl,hb⟩;have HB:Hid (Below w.heap.size w w1):=Nm.below_two hbel hb;clear hb)
    go_ret2
    exact took_none HQ.out 0 HB.out
   |some n=>
    have hs:=xat_step hx hi hq;have HX:=Nm.hide hs.1;have hsn:=hs.2;have hcall:=fun w=>(hcall w).mono (fun e w' h=>Took.yes h hq)
    clear hq hx hs;go_wp2_with (go_at_call 217;refine(hcall _).mono ?_;rintro e w1 ⟨rfl,hb⟩;have HB:Hid (Below w.heap.size w w1):=Nm.below_two hbel hb;clear hb)
    go_roundw
    case rel=>exact⟨i+n,hsn.1,by go_num,HX.out,HB.out⟩
    case measure=>simp [intOf];omega
  ·have hlt':(d.size:Int)<=(i:Int):=by omega
   have hid:i=d.size:=by omega
   have hend:=xat_end hx hid;clear hx
   by_cases h0:d.size=0
   ·rw [if_pos h0] at hend;have HQ:=Nm.hide hend;obtain rfl:i=0:=by omega
    clear hend h0 hid hi;go_wp2;go_ret2;exact took_none HQ.out 0 hbel
   ·rw [if_neg h0,<- hid] at hend;have HQ:=Nm.hide hend;have h0':(0:Int)<(i:Int):=by omega
    have h0'':0<i:=by omega
    clear hend h0 hid hi;go_wp2;go_ret2;exact took_some HQ.out hbel
set_option maxRecDepth 100000 in
set_option maxHeartbeats 800000 in
theorem takeTag_any(d:ByteArray)(w:World)(hd:d.size<=1000000000):
 Calls Tryz.prog 218 #[.agg #[],.string d] w (Took .tag d w):=by
 have hcall:=fun w=>takeText_any d w hd
 cases hq:Dt.sz .tx d with
 |none=>
  have h0:=tx_zero hq
  have HQ:Hid (Dt.sz .tag d=none):=by
   show _=_
   rw [Dt.sz,Dt.tag_short (.inl (by omega))];rfl
  have hcall:=fun w=>(hcall w).mono (fun e w' h=>Took.no h hq)
  clear hq h0;go_enter Tryz.func218,Tryz.ntmps218;go_wp2_with (go_at_call 217;refine(hcall _).mono ?_;rintro e w1 ⟨m,rfl,hb⟩;have HB:Hid (Below w.heap.size w w1):=Nm.below_two ((Below.refl _ _).alloc (Nat.le_refl _) _) hb;clear hb)
  go_ret2
  exact took_none HQ.out _ HB.out
 |some n=>
  obtain⟨h1,h2⟩:=tx_size hq;have hle:=Dt.txt_le d;have hpos:1<=n:=by omega
  have hpos':(1:Int)<=(n:Int):=by omega
  have hnd:n<=d.size:=by omega
  have hnd':(n:Int)<=(d.size:Int):=by omega
  have hcall2:=fun w=>isTag_any (d.extract 1 n) w (by simp;omega)
  have htag:=tag_of h1 h2;have hcall:=fun w=>(hcall w).mono (fun e w' h=>Took.yes h hq)
  cases hT:Dt.tagB d with
  |true=>
   have HQ:Hid (Dt.sz .tag d=some n):=by show _=_;rw [Dt.sz,hT,h1];rfl
   rw [htag,hT] at hcall2;clear hq h1 h2 htag hT hle;go_enter Tryz.func218,Tryz.ntmps218;go_wp2_with (first|(go_at_call 217;refine(hcall _).mono ?_;rintro e w1 ⟨rfl,hb⟩;have HB:Hid (Below w.heap.size w w1):=Nm.below_two ((Below.refl _ _).alloc (Nat.le_refl _) _) hb;clear hb)|(go_at_call 219;refine(hcall2 _).mono ?_;rintro e w2 ⟨rfl,hw⟩;obtain rfl:w1=w2:=hw.symm;clear hw))
   go_ret2
   exact took_some HQ.out HB.out
  |false=>
   have HQ:Hid (Dt.sz .tag d=none):=by show _=_;rw [Dt.sz,hT];rfl
   rw [htag,hT] at hcall2;clear hq h1 h2 htag hT hle;go_enter Tryz.func218,Tryz.ntmps218;go_wp2_with (first|(go_at_call 217;refine(hcall _).mono ?_;rintro e w1 ⟨rfl,hb⟩;have HB:Hid (Below w.heap.size w w1):=Nm.below_two ((Below.refl _ _).alloc (Nat.le_refl _) _) hb;clear hb)|(go_at_call 219;refine(hcall2 _).mono ?_;rintro e w2 ⟨rfl,hw⟩;obtain rfl:w1=w2:=hw.symm;clear hw))
   go_ret2;exact took_none HQ.out _ HB.out
end Go.Proofs.YtahpiciofdfipaaGreat
namespace Go.Proofs.YtahpiciofdfipaaGreat
open Go.RowKit
def pcV:Dt.Pc->Value
 |none=>.iface 237 (.agg #[])
 |some none=>.iface 239 (.agg #[])
 |some (some none)=>.iface 241 (.agg #[])
 |some (some (some none))=>.iface 238 (.agg #[])
 |some (some (some (some none)))=>.iface 240 (.agg #[])
 |some (some (some (some (some none))))=>.iface 241 (.agg #[])
 |some (some (some (some (some (some none)))))=>.iface 242 (.agg #[])
 |some (some (some (some (some (some (some none))))))=>.iface 241 (.agg #[])
 |some (some (some (some (some (some (some (some n)))))))=>.iface 235 (.int .i64 (n:Int))
def formV(t:Int)(w:World):World:=w.alloc (.cells ((Dt.implP t).map pcV).toArray 222)
set_option maxRecDepth 100000 in
set_option maxHeartbeats 4000000 in
theorem formOf_any(t:Int)(w:World):
 Calls Tryz.prog 165 #[.int .i64 t] w fun e w'=>e=.returned (.slice (some ⟨w.heap.size,0,none⟩) (Dt.implP t).length (Dt.implP t).length)∧w'=formV t w:=by
 by_cases h:t=1∨t=2∨t=5∨t=6∨t=12∨t=13∨t=15∨t=16∨t=28∨t=33∨t=35∨t=39∨t=47∨t=257
 ·rcases h with rfl|rfl|rfl|rfl|rfl|rfl|rfl|rfl|rfl|rfl|rfl|rfl|rfl|rfl
  all_goals
   go_enter Tryz.func165,Tryz.ntmps165;go_wp2;go_ret;exact⟨rfl,rfl⟩
 ·have HA:Hid (Dt.implP t=[.rs]):=by
   show _=_
   unfold Dt.implP;simp only [show ¬t=1 by omega,show ¬(t=2∨t=5∨t=12∨t=39) by omega,show ¬t=6 by omega,show ¬t=13 by omega,show ¬t=15 by omega,show ¬t=16 by omega,show ¬t=28 by omega,show ¬t=33 by omega,show ¬t=35 by omega,show ¬t=47 by omega,show ¬t=257 by omega,if_false]
  have b1:(t==1)=false:=by rw [beq_eq_false_iff_ne];omega
  have b2:(t==2)=false:=by rw [beq_eq_false_iff_ne];omega
  have b3:(t==5)=false:=by rw [beq_eq_false_iff_ne];omega
  have b4:(t==6)=false:=by rw [beq_eq_false_iff_ne];omega
  have b5:(t==12)=false:=by rw [beq_eq_false_iff_ne];omega
  have b6:(t==13)=false:=by rw [beq_eq_false_iff_ne];omega
  have b7:(t==15)=false:=by rw [beq_eq_false_iff_ne];omega
  have b8:(t==16)=false:=by rw [beq_eq_false_iff_ne];omega
  have b9:(t==28)=false:=by rw [beq_eq_false_iff_ne];omega
  have b10:(t==33)=false:=by rw [beq_eq_false_iff_ne];omega
  have b11:(t==35)=false:=by rw [beq_eq_false_iff_ne];omega
  have b12:(t==39)=false:=by rw [beq_eq_false_iff_ne];omega
  have b13:(t==47)=false:=by rw [beq_eq_false_iff_ne];omega
  have b14:(t==257)=false:=by rw [beq_eq_false_iff_ne];omega
  clear h;go_enter Tryz.func165,Tryz.ntmps165;go_wp2;go_ret;rw [formV,HA.out];exact⟨rfl,rfl⟩
def okPc:Dt.Pc->Prop
 |some (some none)=>False
 |some (some (some (some (some none))))=>False
 |_=>True
set_option maxRecDepth 100000 in
set_option maxHeartbeats 400000 in
theorem isName_any(p:Dt.Pc)(w:World)(hp:okPc p):
 Calls Tryz.prog 166 #[pcV p] w fun e w'=>e=.returned (.bool p.isN)∧w'=w:=by
 cases p using Dt.Pc.elim with
 |txs=>exact absurd hp (by simp [okPc])
 |tagr=>exact absurd hp (by simp [okPc])
 |nm=>
  rw [pcV,Dt.Pc.isN];have hm:∀ w:World,(Instr.typeAssert (.iface 237 (.agg #[])) 222 237 true).run Tryz.prog w=.ok (.tuple #[.agg #[],.bool true]) w:=fun _=>by kernel_rfl
  go_enter Tryz.func166,Tryz.ntmps166;go_wp2;go_ret
  exact⟨rfl,rfl⟩
 |bs n=>
  simp only [pcV,Dt.Pc.isN];have hm:∀ w:World,(Instr.typeAssert (.iface 235 (.int .i64 (n:Int))) 222 237 true).run Tryz.prog w=.ok (.tuple #[.agg #[],.bool false]) w:=fun _=>by kernel_rfl
  go_enter Tryz.func166,Tryz.ntmps166;go_wp2;go_ret
  exact⟨rfl,rfl⟩
 |tx=>
  simp only [pcV,Dt.Pc.isN];have hm:∀ w:World,(Instr.typeAssert (.iface 239 (.agg #[])) 222 237 true).run Tryz.prog w=.ok (.tuple #[.agg #[],.bool false]) w:=fun _=>by kernel_rfl
  go_enter Tryz.func166,Tryz.ntmps166;go_wp2;go_ret
  exact⟨rfl,rfl⟩
 |txe=>
  simp only [pcV,Dt.Pc.isN];have hm:∀ w:World,(Instr.typeAssert (.iface 238 (.agg #[])) 222 237 true).run Tryz.prog w=.ok (.tuple #[.agg #[],.bool false]) w:=fun _=>by kernel_rfl
  go_enter Tryz.func166,Tryz.ntmps166;go_wp2;go_ret
  exact⟨rfl,rfl⟩
 |tag=>
  simp only [pcV,Dt.Pc.isN];have hm:∀ w:World,(Instr.typeAssert (.iface 240 (.agg #[])) 222 237 true).run Tryz.prog w=.ok (.tuple #[.agg #[],.bool false]) w:=fun _=>by kernel_rfl
  go_enter Tryz.func166,Tryz.ntmps166;go_wp2;go_ret
  exact⟨rfl,rfl⟩
 |mp=>
  simp only [pcV,Dt.Pc.isN];have hm:∀ w:World,(Instr.typeAssert (.iface 242 (.agg #[])) 222 237 true).run Tryz.prog w=.ok (.tuple #[.agg #[],.bool false]) w:=fun _=>by kernel_rfl
  go_enter Tryz.func166,Tryz.ntmps166;go_wp2;go_ret
  exact⟨rfl,rfl⟩
 |rs=>
  simp only [pcV,Dt.Pc.isN];have hm:∀ w:World,(Instr.typeAssert (.iface 241 (.agg #[])) 222 237 true).run Tryz.prog w=.ok (.tuple #[.agg #[],.bool false]) w:=fun _=>by kernel_rfl
  go_enter Tryz.func166,Tryz.ntmps166;go_wp2;go_ret;exact⟨rfl,rfl⟩
end Go.Proofs.YtahpiciofdfipaaGreat
namespace Go.Proofs.YtahpiciofdfipaaGreat
open Go.RowKit
theorem implP_ok(t:Int):∀ p∈Dt.implP t,okPc p:=by
 unfold Dt.implP
 repeat' split
 all_goals simp [okPc]
theorem Tryz.infoSpan:(Tryz.prog.info? 225).map (fun i=>(i.zero,i.size,i.bytes))=some (some (.agg #[.int .i64 0,.int .i64 0]),2,16):=by kernel_rfl
theorem nil_wholeName(w:World):(nilAhead 382 237 (.agg #[]) "loop.example/s01858/impl.take").run Tryz.prog w=.ok (some false) w:=by kernel_rfl
theorem meth_wholeName(w:World):(method 382 237 (.agg #[]) "loop.example/s01858/impl.take").run Tryz.prog w=.ok (215,(.agg #[])) w:=by kernel_rfl
theorem nil_someBytes(q:Nat)(w:World):(nilAhead 382 235 (.int .i64 (q:Int)) "loop.example/s01858/impl.take").run Tryz.prog w=.ok (some false) w:=by kernel_rfl
theorem meth_someBytes(q:Nat)(w:World):(method 382 235 (.int .i64 (q:Int)) "loop.example/s01858/impl.take").run Tryz.prog w=.ok (214,(.int .i64 (q:Int))) w:=by kernel_rfl
theorem nil_shortText(w:World):(nilAhead 382 239 (.agg #[]) "loop.example/s01858/impl.take").run Tryz.prog w=.ok (some false) w:=by kernel_rfl
theorem meth_shortText(w:World):(method 382 239 (.agg #[]) "loop.example/s01858/impl.take").run Tryz.prog w=.ok (217,(.agg #[])) w:=by kernel_rfl
theorem nil_shortTexts(w:World):(nilAhead 382 238 (.agg #[]) "loop.example/s01858/impl.take").run Tryz.prog w=.ok (some false) w:=by kernel_rfl
theorem meth_shortTexts(w:World):(method 382 238 (.agg #[]) "loop.example/s01858/impl.take").run Tryz.prog w=.ok (216,(.agg #[])) w:=by kernel_rfl
theorem nil_tagText(w:World):(nilAhead 382 240 (.agg #[]) "loop.example/s01858/impl.take").run Tryz.prog w=.ok (some false) w:=by kernel_rfl
theorem meth_tagText(w:World):(method 382 240 (.agg #[]) "loop.example/s01858/impl.take").run Tryz.prog w=.ok (218,(.agg #[])) w:=by kernel_rfl
theorem nil_typeBits(w:World):(nilAhead 382 242 (.agg #[]) "loop.example/s01858/impl.take").run Tryz.prog w=.ok (some false) w:=by kernel_rfl
theorem meth_typeBits(w:World):(method 382 242 (.agg #[]) "loop.example/s01858/impl.take").run Tryz.prog w=.ok (223,(.agg #[])) w:=by kernel_rfl
theorem nil_restBytes(w:World):(nilAhead 382 241 (.agg #[]) "loop.example/s01858/impl.take").run Tryz.prog w=.ok (some false) w:=by kernel_rfl
theorem meth_restBytes(w:World):(method 382 241 (.agg #[]) "loop.example/s01858/impl.take").run Tryz.prog w=.ok (222,(.agg #[])) w:=by kernel_rfl
theorem form_cell{t:Int}{w:World}{k:Nat}{p:Dt.Pc}(h:(Dt.implP t)[k]? =some p):(formV t w).cell? ⟨w.heap.size,k,none⟩=some (pcV p):=by
 rw [formV,World.cell?_alloc_new];simp [h]
theorem cut_step{W w4 w1:World}{v v':Value}{B e n a m:Nat}{sp:List (Nat×Nat)}(hB:B<=w4.heap.size)
 (hown:w4.ownsRow B e 2 v n (spanCells sp)) (hbel:Below B W w4) (o:Obj)
 (hown':w1.ownsRow B e 2 v' (n+1) (spanCells sp++[.int .i64 (a:Int),.int .i64 ((a:Int)+(m:Int))])) (hgrow:(w4.alloc o).grownBy w1 v.ownBlock):
 w1.ownsRow B e 2 v' (n+1) (spanCells (sp++[(a,a+m)]))∧Below B W w1:=by
 refine⟨by rw [spanCells_append];simpa [spanCells] using hown',?_⟩;refine(hbel.alloc hB o).grown hgrow (by simp;omega) ?_;intro k hk;exact(hown.lt k hk).1
set_option maxRecDepth 100000 in
set_option maxHeartbeats 4000000 in
theorem cutData_any(t:Int)(d:ByteArray)(w:World)(hd:d.size<=2000000):
 Calls Tryz.prog 151 #[.int .i64 t,.string d] w fun e w'=>∃ v,e=.returned (.tuple #[v,.int .i64 (cutCode t d)])∧
  (∀ sp,cutS t d=some sp->w'.ownsRow w.heap.size 225 2 v sp.length (spanCells sp))∧(cutS t d=none->v=.slice none 0 0)∧Below w.heap.size w w':=by
 obtain⟨i0,hi,hz0,hz1,hz2⟩:=info_parts Tryz.infoSpan
 by_cases ht:t<0∨65535<t
 ·have HC:=Nm.hide (code_type (d:=d) ht)
  by_cases ht0:t<0
  ·clear ht;go_enter Tryz.func151,Tryz.ntmps151;go_wp2;go_ret2;rw [HC.out.1,HC.out.2];exact⟨_,rfl,(fun sp h=>by cases h),fun _=>rfl,Below.refl _ _⟩
  ·have ht1:65535<t:=by omega
   have ht2:0<=t:=by omega
   clear ht;go_enter Tryz.func151,Tryz.ntmps151;go_wp2;go_ret2;rw [HC.out.1,HC.out.2];exact⟨_,rfl,(fun sp h=>by cases h),fun _=>rfl,Below.refl _ _⟩
 have ht0:0<=t:=by omega
 have ht1:t<=65535:=by omega
 by_cases hl:65535<d.size
 ·have HC:=Nm.hide (code_long ht hl);have hl':(65535:Int)<(d.size:Int):=by omega
  clear ht;go_enter Tryz.func151,Tryz.ntmps151;go_wp2;go_ret2;rw [HC.out.1,HC.out.2];exact⟨_,rfl,(fun sp h=>by cases h),fun _=>rfl,Below.refl _ _⟩
 have hl':(d.size:Int)<=65535:=by omega
 have HC0:=Nm.hide (fun h=>code_none (d:=d) ht hl h);have HC1:=Nm.hide (fun sp h=>code_some (d:=d) (sp:=sp) ht hl h);have hlen:=implP_len t;have hok:=implP_ok t;have hcell:=fun k p h=>form_cell (t:=t) (w:=w) (k:=k) (p:=p) h
 have hform:=formOf_any t w;have hst:=cat_start (Dt.implP t) d;have hw2:(formV t w).heap.size=w.heap.size+1:=by simp [formV]
 have hb2:Below w.heap.size w (formV t w):=(Below.refl _ _).alloc (Nat.le_refl _) _;generalize formV t w=w2 at*;generalize Dt.implP t=fs at*;have HW2:=Nm.hide hw2;clear ht hl hw2;go_enter Tryz.func151,Tryz.ntmps151;go_wp2_with (go_at_call 165;refine hform.mono ?_;rintro e w1 ⟨rfl,hw⟩;obtain rfl:w2=w1:=hw.symm;clear hw)
 go_loopw [6,7,24] (fun v a k wr=>∃ (k' a' n:Nat) (sp:List (Nat×Nat)),k'<=fs.length∧k=.int .i64 k'∧a=.int .i64 a'∧a'<=d.size∧n<=k'∧Hid (sp.length=n)∧CAt fs d sp (fs.drop k') a'∧wr.ownsRow w2.heap.size 225 2 v n (spanCells sp)∧Below w2.heap.size w2 wr)
  (fun _ _ k _=>fs.length-(intOf k).toNat)
 case atStart=>exact⟨0,0,0,[],Nat.zero_le _,rfl,rfl,Nat.zero_le _,Nat.le_refl _,rfl,by simpa using hst,World.ownsRow_nil _ _ _ _,Below.refl _ _⟩
 case round=>
  obtain⟨k,a,n,sp,hk,rfl,rfl,ha,hnk,HL,hat,hown,hbel⟩:=hrel;clear hst hform;have hsz:=hbel.size
  by_cases hlt:k<fs.length
  ·have hlt':(k:Int)<(fs.length:Int):=by omega
   obtain⟨p,hp⟩:∃ p,fs[k]? =some p:=⟨_,List.getElem?_eq_getElem hlt⟩
   have hcp:wr.cell? ⟨w.heap.size,k,none⟩=some (pcV p):=by
    have:=HW2.out;rw [hbel.cell (by simp;omega)];exact hcell k p hp
   have hokp:=hok p (List.mem_of_getElem? hp)
   have hdr:fs.drop k=p::fs.drop (k+1):=by
    obtain⟨h1,h2⟩:=List.getElem?_eq_some_iff.1 hp;rw [List.drop_eq_getElem_cons h1,h2]
   rw [hdr] at hat;clear hcell hok hdr hp;have hname:=fun w=>isName_any p w hokp
   have hle':(a:Int)<=(d.size:Int):=by omega
   cases p using Dt.Pc.elim with
   |txs=>exact absurd hokp (by simp [okPc])
   |tagr=>exact absurd hokp (by simp [okPc])
   |nm=>
    simp only [pcV] at hcp hname;have hcall:=fun w=>takeName_any (d.extract a d.size) w
    have hn1:=nil_wholeName;have hn2:=meth_wholeName
    cases hq:Dt.sz .nm (d.extract a d.size) with
    |none=>
     have HQ:=Nm.hide (HC0.out (cat_none hat hq));have hcall:=fun w=>(hcall w).mono (fun e w' h=>Took.no h hq)
     clear hq hat;go_wp2;go_region_with (go_at_call 215;refine(hcall _).mono ?_;rintro e w4 ⟨m,rfl,hb4⟩;have HB:Hid (Below w.heap.size w w4):=Nm.below_two (Nm.below_two hb2 hbel.drew) hb4;clear hb4)
     go_wp2;go_ret2;rw [HQ.out.1,HQ.out.2]
     exact⟨_,rfl,(fun sp h=>by cases h),fun _=>rfl,HB.out⟩
    |some m=>
     have hcs:=cat_step hat ha hq;have HX:=Nm.hide hcs.1;have hcm:=hcs.2;have hcall:=fun w=>(hcall w).mono (fun e w' h=>Took.yes h hq)
     simp only [Dt.Pc.isN,if_true] at HX hname
     have HL2:Hid ((sp++[(a,a+m)]).length=n+1):=by
      show _=_
      rw [List.length_append,HL.out];rfl
     clear hq hat hcs HL;go_wp2;go_region_with (go_at_call 215;refine(hcall _).mono ?_;rintro e w4 ⟨rfl,hb4⟩;have hown4:=own_below hown.drew hb4;have HB:Hid (Below w2.heap.size w2 w4):=Nm.below_two hbel.drew hb4;clear hb4)
     have hsz4:=HB.out.size;go_wp2_with (first|(go_at_call 166;refine(hname _).mono ?_;rintro e w5 ⟨rfl,hw⟩;obtain rfl:w4=w5:=hw.symm;clear hw)|(at_builtin;refine wpList_append_own _ rfl (.tmp 43) (.tmp 49) 203 rfl w2.heap.size 225 i0 (.agg #[.int .i64 0,.int .i64 0]) 2 16 Tryz.underlying203 hi hz0 hz1 hz2 rfl (by decide) _ _ _ rfl (hown4.alloc _) ⟨w4.heap.size,0,none⟩ 1 1 [.int .i64 (a:Int),.int .i64 ((a:Int)+(m:Int))] rfl rfl (cell_new2 _ _ _ _) (two_cells _ _ rfl rfl) (by unfold maxLen;omega) (by omega) (by simp;omega) ?_))
     intro v' w6 hown' hgrow _;have R:=cut_step hsz4 hown4 HB.out _ hown' hgrow;clear hown' hgrow hown hbel hown4 HB;go_wp2;go_roundw
     case rel=>exact⟨k+1,a+m,n+1,_,by omega,by go_num,by go_num,hcm,by omega,HL2,HX.out,R.1,R.2⟩
     case measure=>simp [intOf];omega
   |bs q=>
    simp only [pcV] at hcp hname;have hcall:=fun w=>takeBytes_any q (d.extract a d.size) w
    have hn1:=nil_someBytes q;have hn2:=meth_someBytes q
    cases hq:Dt.sz (.bs q) (d.extract a d.size) with
    |none=>
     have HQ:=Nm.hide (HC0.out (cat_none hat hq));have hcall:=fun w=>(hcall w).mono (fun e w' h=>Took.no h hq)
     clear hq hat;go_wp2;go_region_with (go_at_call 214;refine(hcall _).mono ?_;rintro e w4 ⟨m,rfl,hb4⟩;have HB:Hid (Below w.heap.size w w4):=Nm.below_two (Nm.below_two hb2 hbel.drew) hb4;clear hb4)
     go_wp2;go_ret2;rw [HQ.out.1,HQ.out.2]
     exact⟨_,rfl,(fun sp h=>by cases h),fun _=>rfl,HB.out⟩
    |some m=>
     have hcs:=cat_step hat ha hq;have HX:=Nm.hide hcs.1;have hcm:=hcs.2;have hcall:=fun w=>(hcall w).mono (fun e w' h=>Took.yes h hq)
     simp only [Dt.Pc.isN,Bool.false_eq_true,if_false,List.append_nil] at HX hname;clear hq hat hcs;go_wp2;go_region_with (go_at_call 214;refine(hcall _).mono ?_;rintro e w4 ⟨rfl,hb4⟩;have hown4:=own_below hown.drew hb4;have HB:Hid (Below w2.heap.size w2 w4):=Nm.below_two hbel.drew hb4;clear hb4)
     go_wp2_with (go_at_call 166;refine(hname _).mono ?_;rintro e w5 ⟨rfl,hw⟩;obtain rfl:w4=w5:=hw.symm;clear hw)
     go_roundw
     case rel=>exact⟨k+1,a+m,n,sp,by omega,by go_num,by go_num,hcm,by omega,HL,HX.out,hown4,HB.out⟩
     case measure=>simp [intOf];omega
   |tx=>
    simp only [pcV] at hcp hname;have hcall:=fun w=>takeText_any (d.extract a d.size) w (by simp;omega)
    have hn1:=nil_shortText;have hn2:=meth_shortText
    cases hq:Dt.sz .tx (d.extract a d.size) with
    |none=>
     have HQ:=Nm.hide (HC0.out (cat_none hat hq));have hcall:=fun w=>(hcall w).mono (fun e w' h=>Took.no h hq)
     clear hq hat;go_wp2;go_region_with (go_at_call 217;refine(hcall _).mono ?_;rintro e w4 ⟨m,rfl,hb4⟩;have HB:Hid (Below w.heap.size w w4):=Nm.below_two (Nm.below_two hb2 hbel.drew) hb4;clear hb4)
     go_wp2;go_ret2;rw [HQ.out.1,HQ.out.2]
     exact⟨_,rfl,(fun sp h=>by cases h),fun _=>rfl,HB.out⟩
    |some m=>
     have hcs:=cat_step hat ha hq;have HX:=Nm.hide hcs.1;have hcm:=hcs.2;have hcall:=fun w=>(hcall w).mono (fun e w' h=>Took.yes h hq)
     simp only [Dt.Pc.isN,Bool.false_eq_true,if_false,List.append_nil] at HX hname;clear hq hat hcs;go_wp2;go_region_with (go_at_call 217;refine(hcall _).mono ?_;rintro e w4 ⟨rfl,hb4⟩;have hown4:=own_below hown.drew hb4;have HB:Hid (Below w2.heap.size w2 w4):=Nm.below_two hbel.drew hb4;clear hb4)
     go_wp2_with (go_at_call 166;refine(hname _).mono ?_;rintro e w5 ⟨rfl,hw⟩;obtain rfl:w4=w5:=hw.symm;clear hw)
     go_roundw
     case rel=>exact⟨k+1,a+m,n,sp,by omega,by go_num,by go_num,hcm,by omega,HL,HX.out,hown4,HB.out⟩
     case measure=>simp [intOf];omega
   |txe=>
    simp only [pcV] at hcp hname;have hcall:=fun w=>takeTexts_any (d.extract a d.size) w (by simp;omega)
    have hn1:=nil_shortTexts;have hn2:=meth_shortTexts
    cases hq:Dt.sz .txe (d.extract a d.size) with
    |none=>
     have HQ:=Nm.hide (HC0.out (cat_none hat hq));have hcall:=fun w=>(hcall w).mono (fun e w' h=>Took.no h hq)
     clear hq hat;go_wp2;go_region_with (go_at_call 216;refine(hcall _).mono ?_;rintro e w4 ⟨m,rfl,hb4⟩;have HB:Hid (Below w.heap.size w w4):=Nm.below_two (Nm.below_two hb2 hbel.drew) hb4;clear hb4)
     go_wp2;go_ret2;rw [HQ.out.1,HQ.out.2]
     exact⟨_,rfl,(fun sp h=>by cases h),fun _=>rfl,HB.out⟩
    |some m=>
     have hcs:=cat_step hat ha hq;have HX:=Nm.hide hcs.1;have hcm:=hcs.2;have hcall:=fun w=>(hcall w).mono (fun e w' h=>Took.yes h hq)
     simp only [Dt.Pc.isN,Bool.false_eq_true,if_false,List.append_nil] at HX hname;clear hq hat hcs;go_wp2;go_region_with (go_at_call 216;refine(hcall _).mono ?_;rintro e w4 ⟨rfl,hb4⟩;have hown4:=own_below hown.drew hb4;have HB:Hid (Below w2.heap.size w2 w4):=Nm.below_two hbel.drew hb4;clear hb4)
     go_wp2_with (go_at_call 166;refine(hname _).mono ?_;rintro e w5 ⟨rfl,hw⟩;obtain rfl:w4=w5:=hw.symm;clear hw)
     go_roundw
     case rel=>exact⟨k+1,a+m,n,sp,by omega,by go_num,by go_num,hcm,by omega,HL,HX.out,hown4,HB.out⟩
     case measure=>simp [intOf];omega
   |tag=>
    simp only [pcV] at hcp hname;have hcall:=fun w=>takeTag_any (d.extract a d.size) w (by simp;omega)
    have hn1:=nil_tagText;have hn2:=meth_tagText
    cases hq:Dt.sz .tag (d.extract a d.size) with
    |none=>
     have HQ:=Nm.hide (HC0.out (cat_none hat hq));have hcall:=fun w=>(hcall w).mono (fun e w' h=>Took.no h hq)
     clear hq hat;go_wp2;go_region_with (go_at_call 218;refine(hcall _).mono ?_;rintro e w4 ⟨m,rfl,hb4⟩;have HB:Hid (Below w.heap.size w w4):=Nm.below_two (Nm.below_two hb2 hbel.drew) hb4;clear hb4)
     go_wp2;go_ret2;rw [HQ.out.1,HQ.out.2]
     exact⟨_,rfl,(fun sp h=>by cases h),fun _=>rfl,HB.out⟩
    |some m=>
     have hcs:=cat_step hat ha hq;have HX:=Nm.hide hcs.1;have hcm:=hcs.2;have hcall:=fun w=>(hcall w).mono (fun e w' h=>Took.yes h hq)
     simp only [Dt.Pc.isN,Bool.false_eq_true,if_false,List.append_nil] at HX hname;clear hq hat hcs;go_wp2;go_region_with (go_at_call 218;refine(hcall _).mono ?_;rintro e w4 ⟨rfl,hb4⟩;have hown4:=own_below hown.drew hb4;have HB:Hid (Below w2.heap.size w2 w4):=Nm.below_two hbel.drew hb4;clear hb4)
     go_wp2_with (go_at_call 166;refine(hname _).mono ?_;rintro e w5 ⟨rfl,hw⟩;obtain rfl:w4=w5:=hw.symm;clear hw)
     go_roundw
     case rel=>exact⟨k+1,a+m,n,sp,by omega,by go_num,by go_num,hcm,by omega,HL,HX.out,hown4,HB.out⟩
     case measure=>simp [intOf];omega
   |mp=>
    simp only [pcV] at hcp hname;have hcall:=fun w=>takeMap_any (d.extract a d.size) w (by simp;omega)
    have hn1:=nil_typeBits;have hn2:=meth_typeBits
    cases hq:Dt.sz .mp (d.extract a d.size) with
    |none=>
     have HQ:=Nm.hide (HC0.out (cat_none hat hq));have hcall:=fun w=>(hcall w).mono (fun e w' h=>Took.no h hq)
     clear hq hat;go_wp2;go_region_with (go_at_call 223;refine(hcall _).mono ?_;rintro e w4 ⟨m,rfl,hb4⟩;have HB:Hid (Below w.heap.size w w4):=Nm.below_two (Nm.below_two hb2 hbel.drew) hb4;clear hb4)
     go_wp2;go_ret2;rw [HQ.out.1,HQ.out.2]
     exact⟨_,rfl,(fun sp h=>by cases h),fun _=>rfl,HB.out⟩
    |some m=>
     have hcs:=cat_step hat ha hq;have HX:=Nm.hide hcs.1;have hcm:=hcs.2;have hcall:=fun w=>(hcall w).mono (fun e w' h=>Took.yes h hq)
     simp only [Dt.Pc.isN,Bool.false_eq_true,if_false,List.append_nil] at HX hname;clear hq hat hcs;go_wp2;go_region_with (go_at_call 223;refine(hcall _).mono ?_;rintro e w4 ⟨rfl,hb4⟩;have hown4:=own_below hown.drew hb4;have HB:Hid (Below w2.heap.size w2 w4):=Nm.below_two hbel.drew hb4;clear hb4)
     go_wp2_with (go_at_call 166;refine(hname _).mono ?_;rintro e w5 ⟨rfl,hw⟩;obtain rfl:w4=w5:=hw.symm;clear hw)
     go_roundw
     case rel=>exact⟨k+1,a+m,n,sp,by omega,by go_num,by go_num,hcm,by omega,HL,HX.out,hown4,HB.out⟩
     case measure=>simp [intOf];omega
   |rs=>
    simp only [pcV] at hcp hname;have hcall:=fun w=>takeRest_any (d.extract a d.size) w
    have hn1:=nil_restBytes;have hn2:=meth_restBytes
    cases hq:Dt.sz .rs (d.extract a d.size) with
    |none=>
     have HQ:=Nm.hide (HC0.out (cat_none hat hq));have hcall:=fun w=>(hcall w).mono (fun e w' h=>Took.no h hq)
     clear hq hat;go_wp2;go_region_with (go_at_call 222;refine(hcall _).mono ?_;rintro e w4 ⟨m,rfl,hb4⟩;have HB:Hid (Below w.heap.size w w4):=Nm.below_two (Nm.below_two hb2 hbel.drew) hb4;clear hb4)
     go_wp2;go_ret2;rw [HQ.out.1,HQ.out.2]
     exact⟨_,rfl,(fun sp h=>by cases h),fun _=>rfl,HB.out⟩
    |some m=>
     have hcs:=cat_step hat ha hq;have HX:=Nm.hide hcs.1;have hcm:=hcs.2;have hcall:=fun w=>(hcall w).mono (fun e w' h=>Took.yes h hq)
     simp only [Dt.Pc.isN,Bool.false_eq_true,if_false,List.append_nil] at HX hname;clear hq hat hcs;go_wp2;go_region_with (go_at_call 222;refine(hcall _).mono ?_;rintro e w4 ⟨rfl,hb4⟩;have hown4:=own_below hown.drew hb4;have HB:Hid (Below w2.heap.size w2 w4):=Nm.below_two hbel.drew hb4;clear hb4)
     go_wp2_with (go_at_call 166;refine(hname _).mono ?_;rintro e w5 ⟨rfl,hw⟩;obtain rfl:w4=w5:=hw.symm;clear hw)
     go_roundw
     case rel=>exact⟨k+1,a+m,n,sp,by omega,by go_num,by go_num,hcm,by omega,HL,HX.out,hown4,HB.out⟩
     case measure=>simp [intOf];omega
  ·have hlt':(fs.length:Int)<=(k:Int):=by omega
   have hnil:fs.drop k=[]:=List.drop_eq_nil_of_le (by omega);rw [hnil] at hat;clear hcell hok hnil
   by_cases h0:a<d.size
   ·have HQ:=Nm.hide (HC0.out (cat_left hat h0));have h0':(a:Int)<(d.size:Int):=by omega
    have HB:Hid (Below w.heap.size w wr):=Nm.below_two hb2 hbel;clear hat hown hbel;go_wp2;go_ret2;rw [HQ.out.1,HQ.out.2];exact⟨_,rfl,(fun sp h=>by cases h),fun _=>rfl,HB.out⟩
   ·have HQ:=Nm.hide (HC1.out _ (cat_end hat (by omega)));have h0':(d.size:Int)<=(a:Int):=by omega
    have HB:Hid (Below w.heap.size w wr):=Nm.below_two hb2 hbel;have hown2:=own_base (B':=w.heap.size) hown (by have:=HW2.out;omega);rw [<- HL.out] at hown2;have HO:=Nm.hide hown2;clear hat hown hbel hown2;go_wp2;go_ret2;rw [HQ.out.1,HQ.out.2];exact⟨_,rfl,(fun qs h=>by cases h;exact HO.out),(fun h=>by cases h),HB.out⟩
end Go.Proofs.YtahpiciofdfipaaGreat
