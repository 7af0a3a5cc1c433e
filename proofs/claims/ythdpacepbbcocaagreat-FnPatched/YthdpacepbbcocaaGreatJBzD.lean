import Derived.Test.YthdpacepbbcocaaGreatJTiN
import Derived.Laws.EntriesVeiled
set_option linter.unusedVariables false
set_option maxRecDepth 100000
set_option maxHeartbeats 6400000
namespace Go.Proofs.YthdpacepbbcocaaGreat
open Go.RowKit
def iN:List (Int×Int)->Int×Int
 |[]=>(0,0)
 |r::rs=>if r.1≠0 then r else iN rs
def Zl(list:List Rr)(aM:ByteArray):Int×Int:=if(Nm.split aM).isSome=false then(32,-1) else if 500<list.length then(12,-1) else(0,0)
def aHz(list:List Rr)(aM:ByteArray):Int×Int:=match gP aM list 0 with
 |some (c,i)=>(c,(i:Int))
 |none=>(0,0)
def aH0(list:List Rr):Int×Int:=if 0<=sF (list.map aQ) then(24,sF (list.map aQ)) else(0,0)
def IY(list:List Rr)(aM:ByteArray):List (Int×Int):=[Zl list aM,aHz list aM,aH0 list,Zk (bL (EA (bD list) (Nm.cZ aM)) (bD list)) (fH (bD list) (Nm.cZ aM) 6),
 if fH (bD list) (Nm.cZ aM) 2=true then(0,0) else(21,-1),tT (bL (fun _ x=>KX x) (bD list)) 26,tT (bL (MJ (bD list)) (bD list)) 23,tT (bL (fun _ x=>KG (bD list) x) (bD list)) 23,tT (bL (fun _ x=>PQ (bD list) x) (bD list)) 25]
def aRp:List Nat:=[105,106,107,108,109,110,111,112,113]
theorem vQ{r:Int×Int}{rs:List (Int×Int)}(h:r=(0,0)):iN (r::rs)=iN rs:=by rw [iN,h];simp
theorem Ic{r q:Int×Int}{rs:List (Int×Int)}(h:r=q)(hq:q.1≠0):iN (r::rs)=q:=by rw [iN,h,if_pos hq]
theorem aK6(list:List Rr)(aM:ByteArray):eH list aM=iN (IY list aM):=by
 rw [eH,IY]
 by_cases h1:(Nm.split aM).isSome=false
 ·rw [if_pos h1,Ic (q:=(32,-1)) (by rw [Zl,if_pos h1]) (by decide)]
 rw [if_neg h1]
 by_cases h2:500<list.length
 ·rw [if_pos h2,Ic (q:=(12,-1)) (by rw [Zl,if_neg h1,if_pos h2]) (by decide)]
 rw [if_neg h2,vQ (by rw [Zl,if_neg h1,if_neg h2])]
 cases hb:gP aM list 0 with
 |some p=>
  obtain⟨c,i⟩:=p
  rw [Ic (q:=(c,(i:Int))) (by rw [aHz,hb]) (NK _ _ _ _ hb)]
 |none=>
  rw [vQ (by rw [aHz,hb])];simp only
  by_cases h3:0<=sF (list.map aQ)
  ·rw [if_pos h3,Ic (q:=(24,sF (list.map aQ))) (by rw [aH0,if_pos h3]) (by simp)]
  rw [if_neg h3,vQ (by rw [aH0,if_neg h3]),lJ]
  cases bL (EA (bD list) (Nm.cZ aM)) (bD list) with
  |some i=>simp [iN,Zk]
  |none=>
   simp only
   cases fH (bD list) (Nm.cZ aM) 6
   ·simp [iN,Zk]
   rw [vQ (show Zk none true=(0,0) from rfl)];simp only [Bool.not_true,Bool.false_eq_true,if_false];cases fH (bD list) (Nm.cZ aM) 2
   ·simp [iN]
   rw [vQ (show(if true=true then((0:Int),(0:Int)) else(21,-1))=(0,0) from rfl)];simp only [Bool.not_true,Bool.false_eq_true,if_false]
   cases bL (fun _ x=>KX x) (bD list) with
   |some i=>simp [iN,tT]
   |none=>
    rw [vQ (show tT none 26=(0,0) from rfl)];simp only
    cases bL (MJ (bD list)) (bD list) with
    |some i=>simp [iN,tT]
    |none=>
     rw [vQ (show tT none 23=(0,0) from rfl)];simp only
     cases bL (fun _ x=>KG (bD list) x) (bD list) with
     |some i=>simp [iN,tT]
     |none=>
      rw [vQ (show tT none 23=(0,0) from rfl)];simp only
      cases bL (fun _ x=>PQ (bD list) x) (bD list) with
      |some i=>simp [iN,tT]
      |none=>rw [vQ (show tT none 25=(0,0) from rfl)];simp [iN]
theorem aK7{rs:List (Int×Int)}{k:Nat}{r:Int×Int}(h:rs[k]? =some r):iN (rs.drop k)=if r.1≠0 then r else iN (rs.drop (k+1)):=by
 obtain⟨hk,e⟩:=dK h;rw [List.drop_eq_getElem_cons hk,e,iN]
theorem aEe{fp:List Nat}{w W:World}{v:Value}{n s:Nat}{cs:List Value}(h:dM fp w W)(hc:bS w v n s cs)(hn:0<n->∀ b,jH v=some b->b∉fp):bS W v n s cs:=by
 obtain⟨h0,a,cap,rfl,h1,h2,h3⟩:=hc;refine⟨h0,a,cap,rfl,h1,h2,fun hp=>?_⟩;obtain⟨b,off,rfl,hc⟩:=h3 hp;exact⟨b,off,rfl,fun i x hx=>wG h (hc i x hx) (hn hp b rfl)⟩
def Ph(w:World)(bb:Nat)(lv:Value)(list:List Rr)(aM:ByteArray)(k:Nat)(W:World):Prop:=dM [bb] w W∧match k with
 |0=>bG W bb #[lv,.string aM,.slice none 0 0,.slice none 0 0,.pointer none,.slice none 0 0] 122
 |1=>∃ ys aa ac th,Nm.split aM=some ys∧list.length<=500∧bG W bb #[lv,.string aM,.slice none 0 0,.slice aa ys.length ac,ptr th,.slice none 0 0] 122∧bG W th #[wQ,.slice none 0 0] 187∧W.ownsRow w.heap.size 9 1 (.slice aa ys.length ac) ys.length (ys.map Value.string)∧w.heap.size<=th
 |2=>∃ ys aa ac th fC uS B0,Nm.split aM=some ys∧list.length<=500∧bG W bb #[lv,.string aM,fC,.slice aa ys.length ac,ptr th,.slice none 0 0] 122∧bG W th #[wQ,.slice none 0 0] 187∧W.ownsRow w.heap.size 9 1 (.slice aa ys.length ac) ys.length (ys.map Value.string)∧w.heap.size<=th∧mG W B0 fC uS (mX list)∧gP aM list 0=none
 |_+3=>∃ th ys aa ac fC rv os kv ks B,P3 list aM bb lv th ys aa ac fC rv os kv ks B W
theorem iC{fp:List Nat}{w W W':World}(h:dM fp w W)(hb:Below W.heap.size W W'):dM fp w W':=h.trans (dM.below (fp:=fp) hb) (fun k hk=>.inl hk)
def Eb(list:List Rr)(aM:ByteArray)(k:Nat):Int×Int:=((IY list aM)[k]?).getD (0,0)
def fnK(k:Nat):Nat:=(aRp[k]?).getD 0
theorem aK8{w:World}{bb:Nat}{la:Option Addr}{lc:Nat}{list:List Rr}{aM:ByteArray}(h:bS w (.slice la list.length lc) list.length 5 (bK list))(FJ:0<list.length->jH (.slice la list.length lc)≠some bb)(bV:0<list.length->∀ b,jH (.slice la list.length lc)=some b->b<w.heap.size)(ha:aM.size<=maxLen)(ho:∀ r∈list,r.own.size<=1000000000∧r.da.size<=2000000)
 (k:Nat) (hk:k<9) (W:World) (hP:Ph w bb (.slice la list.length lc) list aM k W):
 Calls Tryz.prog (fnK k) #[.pointer (some ⟨bb,0,none⟩)] W fun e w'=>e=AC (Eb list aM k).1 (Eb list aM k).2∧dM [bb] w w'∧((Eb list aM k).1=0->Ph w bb (.slice la list.length lc) list aM (k+1) w'):=by
 have Bo:0<list.length->∀ b,jH (.slice la list.length lc)=some b->b∉[bb]:=fun h0 b hb hm=>FJ h0 (by rw [hb,List.mem_singleton.1 hm])
 obtain⟨hO,hP⟩:=hP;have hcr:=aEe hO h Bo
 match k,hP with
 |0,hP=>
  refine(Bn bb la list.length lc aM W hP ha).mono ?_;rintro e w' (⟨h1,rfl,hb⟩|⟨h1,h2,rfl,hb⟩|⟨ys,aa,ac,th,h1,h2,rfl,hOu,k1,k2,k3,k4⟩)
  ·have e1:Eb list aM 0=(32,-1):=by simp [Eb,IY,Zl,h1]
   rw [e1];exact⟨rfl,iC hO hb,fun h=>by simp at h⟩
  ·have e1:Eb list aM 0=(12,-1):=by
    cases hs:Nm.split aM with
    |none=>exact absurd hs h1
    |some z=>simp [Eb,IY,Zl,hs,h2]
   rw [e1];exact⟨rfl,iC hO hb,fun h=>by simp at h⟩
  have e1:Eb list aM 0=(0,0):=by simp [Eb,IY,Zl,h1];omega
  rw [e1];have Qv:=hO.trans hOu (fun k hk=>.inl hk)
  exact⟨rfl,Qv,fun _=>⟨Qv,ys,aa,ac,th,h1,h2,k1,k2,fQ k3 hO.size,iL hO.size k4⟩⟩
 |1,⟨ys,aa,ac,th,h1,h2,k1,k2,k3,k4⟩=>
  refine(QD bb la lc list aM ys aa ac (ptr th) W k1 hcr FJ h2 h1 (NH k3) (fun e=>bW k3 k1 (by decide) (by
   have:=xG k3 e
   simpa using this)) (fun r hr=>⟨by have:=(ho r hr).1;unfold maxLen;omega,(ho r hr).2⟩)).mono ?_
  rintro e w' ⟨hOu,⟨c,i,hb,rfl⟩|⟨hb,rfl,fC,uS,q1,q2⟩⟩
  ·have e1:Eb list aM 1=(c,(i:Int)):=by simp [Eb,IY,aHz,hb]
   rw [e1];exact⟨rfl,hO.trans hOu (fun k hk=>.inl hk),fun h=>absurd h (NK _ _ _ _ hb)⟩
  have e1:Eb list aM 1=(0,0):=by simp [Eb,IY,aHz,hb]
  rw [e1];have Qv:=hO.trans hOu (fun k hk=>.inl hk)
  have aT1:th∉[bb]:=fun hm=>by
   have h9:=VK k2 k1 (by decide);exact h9 (List.mem_singleton.1 hm)
  exact⟨rfl,Qv,fun _=>⟨Qv,ys,aa,ac,th,fC,uS,W.heap.size,h1,h2,q1,nZ k2 hOu aT1,qC k3 hOu (fun b iE hm=>bW k3 k1 (by decide) (by rw [<- List.mem_singleton.1 iE];simpa using hm)),k4,q2,hb⟩⟩
 |2,⟨ys,aa,ac,th,fC,uS,B0,h1,h2,k1,k2,k3,k4,k5,k6⟩=>
  have Ay:=xH _ _ k6;refine(YA bb th la lc list aM fC uS (.slice aa ys.length ac) B0 W k1 hcr (fun h0 b hb=>⟨fun e=>FJ h0 (by rw [hb,e]),fun e=>by have:=bV h0 b hb;omega⟩) h2 k5 k2 (fun r hr=>(QF (Ay r hr)).1) ho).mono ?_;rintro e w' ⟨hOu,⟨hb,rfl⟩|⟨hb,rfl,Yh,rv,os,kv,ks,q1,q2⟩⟩
  ·have e1:Eb list aM 2=(24,sF (list.map aQ)):=by simp [Eb,IY,aH0,hb]
   rw [e1];refine⟨rfl,hO.trans hOu (fun k hk=>?_),fun h=>by simp at h⟩;simp at hk
   rcases hk with rfl|rfl
   ·exact .inl (by simp)
   exact .inr k4
  have e1:Eb list aM 2=(0,0):=by simp [Eb,IY,aH0,hb]
  rw [e1]
  have Qv:dM [bb] w w':=hO.trans hOu (fun k hk=>by
   simp at hk
   rcases hk with rfl|rfl
   ·exact .inl (by simp)
   exact .inr k4)
  have hav:=qC k3 hOu (fun b iE hm=>by
   simp at iE
   rcases iE with rfl|rfl
   ·exact bW k3 k1 (by decide) (by simpa using hm)
   exact bW k3 k2 (by decide) (by simpa using hm))
  exact⟨rfl,Qv,fun _=>⟨Qv,th,ys,aa,ac,fC,rv,os,kv,ks,_,⟨q1,q2,h1,NH hav,h2,k6,Yh⟩⟩⟩
 |3,⟨th,ys,aa,ac,fC,rv,os,kv,ks,B,hP⟩=>
  exact(aNs hP).mono fun e w' ⟨he,hb⟩=>⟨he,iC hO hb,fun _=>⟨iC hO hb,th,ys,aa,ac,fC,rv,os,kv,ks,B,hP.below hb⟩⟩
 |4,⟨th,ys,aa,ac,fC,rv,os,kv,ks,B,hP⟩=>
  exact(aRo hP).mono fun e w' ⟨he,hb⟩=>⟨he,iC hO hb,fun _=>⟨iC hO hb,th,ys,aa,ac,fC,rv,os,kv,ks,B,hP.below hb⟩⟩
 |5,⟨th,ys,aa,ac,fC,rv,os,kv,ks,B,hP⟩=>
  exact(aK3 hP).mono fun e w' ⟨he,hb⟩=>⟨he,iC hO hb,fun _=>⟨iC hO hb,th,ys,aa,ac,fC,rv,os,kv,ks,B,hP.below hb⟩⟩
 |6,⟨th,ys,aa,ac,fC,rv,os,kv,ks,B,hP⟩=>
  exact(aEc hP).mono fun e w' ⟨he,hb⟩=>⟨he,iC hO hb,fun _=>⟨iC hO hb,th,ys,aa,ac,fC,rv,os,kv,ks,B,hP.below hb⟩⟩
 |7,⟨th,ys,aa,ac,fC,rv,os,kv,ks,B,hP⟩=>
  exact(aHt hP).mono fun e w' ⟨he,hb⟩=>⟨he,iC hO hb,fun _=>⟨iC hO hb,th,ys,aa,ac,fC,rv,os,kv,ks,B,hP.below hb⟩⟩
 |8,⟨th,ys,aa,ac,fC,rv,os,kv,ks,B,hP⟩=>
  exact(aHv hP).mono fun e w' ⟨he,hb⟩=>⟨he,iC hO hb,fun _=>⟨iC hO hb,th,ys,aa,ac,fC,rv,os,kv,ks,B,hP.below hb⟩⟩
theorem Ec(bb:Nat)(la:Option Addr)(lc:Nat)(list:List Rr)(aM:ByteArray)(w:World)(hk:bG w bb #[.slice la list.length lc,.string aM,.slice none 0 0,.slice none 0 0,.pointer none,.slice none 0 0] 122)(h:bS w (.slice la list.length lc) list.length 5 (bK list))(FJ:0<list.length->jH (.slice la list.length lc)≠some bb)(bV:0<list.length->∀ b,jH (.slice la list.length lc)=some b->b<w.heap.size)(ha:aM.size<=maxLen)(ho:∀ r∈list,r.own.size<=1000000000∧r.da.size<=2000000):
 Calls Tryz.prog 77 #[.pointer (some ⟨bb,0,none⟩)] w fun e w'=>e=AC (eH list aM).1 (eH list aM).2∧dM [bb] w w'∧((eH list aM).1=0->∃ th ys aa ac fC rv os kv ks B,P3 list aM bb (.slice la list.length lc) th ys aa ac fC rv os kv ks B w'):=by
 have Me:=bU hk;obtain⟨cs,oZ⟩:∃ cs:Array Value,cs=#[.func (.func 105) #[.pointer (some ⟨bb,0,none⟩)] #[],.func (.func 106) #[.pointer (some ⟨bb,0,none⟩)] #[],.func (.func 107) #[.pointer (some ⟨bb,0,none⟩)] #[],.func (.func 108) #[.pointer (some ⟨bb,0,none⟩)] #[],.func (.func 109) #[.pointer (some ⟨bb,0,none⟩)] #[],.func (.func 110) #[.pointer (some ⟨bb,0,none⟩)] #[],.func (.func 111) #[.pointer (some ⟨bb,0,none⟩)] #[],.func (.func 112) #[.pointer (some ⟨bb,0,none⟩)] #[],.func (.func 113) #[.pointer (some ⟨bb,0,none⟩)] #[]]:=⟨_,rfl⟩;have kR:=aH w cs 123;have bR:=(aK w.heap.size w).alloc (aN _) (.cells cs 123);have oG:=fun k hk W hP=>aK8 (h.below bR) FJ (fun h0 b hb=>by have:=bV h0 b hb;simp;omega) ha ho k hk W hP
 have P0:Ph (w.alloc (.cells cs 123)) bb (.slice la list.length lc) list aM 0 (w.alloc (.cells cs 123)):=⟨dM.below (aK _ _),aB hk bR⟩;rw [aK6];have hmf:∀ (fn:Fn) (first cap:Array Value) (w:World),(Instr.makeFunc fn first cap).run Tryz.prog w=.ok (.func fn first cap) w:=fun _ _ _ _=>rfl
 have HX:=Nm.aF (aV oG (aV P0 (aV kR bR)));have HCS:=Nm.aF oZ;clear h FJ bV ho hk oG P0 kR bR oZ;go_enter Tryz.func77,Tryz.ntmps77;go_wp2
 -- LOOP
 go_loopw [30] (fun i wr=>∃ k:Nat,k<=9∧i=.int .i64 k∧iN (IY list aM)=iN ((IY list aM).drop k)∧Ph (w.alloc (.cells cs 123)) bb (.slice la list.length lc) list aM k wr) (fun i _=>9-(intOf i).toNat)
 case atStart=>
  refine⟨0,dO _,rfl,rfl,?_⟩;rw [HCS.out];have:=HX.out.2.1;rw [HCS.out] at this;exact this
 obtain⟨k,hk9,rfl,hnz,hP⟩:=hrel;have Br:=Nm.aF hnz;clear hnz
 have mF:dM [bb] w wr:=by
  have h9:=(dM.below (fp:=[bb]) HX.out.2.2.2).trans hP.1 (fun k hk=>.inl hk);exact h9
 by_cases bV:k<9
 ·have hc:=HX.out.1 k bV wr hP;have Ie:=nZ HX.out.2.2.1 hP.1 (fun hm=>by have:=List.mem_singleton.1 hm;omega);rw [HCS.out] at Ie
  have hgk:(IY list aM)[k]? =some (Eb list aM k):=by
   rw [Eb];have:k<(IY list aM).length:=by simp [IY];omega
   rw [bY this];rfl
  have Be:=aK7 hgk;generalize Eb list aM k=RK at hc hgk Be;obtain⟨C,I⟩:=RK;simp only at hc Be
  have HD:=Nm.aF (aV Be (aV mF hP));clear hgk Be mF hP;have i1:(0:Int)<=(k:Int):=by omega
  have i2:(k:Int)<9:=by omega
  have WE:k=0∨k=1∨k=2∨k=3∨k=4∨k=5∨k=6∨k=7∨k=8:=by omega
  rcases WE with FQ|FQ|FQ|FQ|FQ|FQ|FQ|FQ|FQ
  ·have cF:wr.cell? ⟨w.heap.size,k,none⟩=some (.func (.func 105) #[.pointer (some ⟨bb,0,none⟩)] #[]):=by rw [FQ];exact(aA Ie 0).trans rfl
   have ef:fnK k=105:=by rw [FQ];rfl
   rw [ef] at hc;clear Ie ef FQ
   by_cases hC:C=0
   ·subst hC;go_wp2_with (go_at_call 105;refine hc.mono ?_;rintro e w1 ⟨rfl,CR,yK⟩;unfold AC)
    go_roundw
    case rel=>exact⟨k+1,by omega,by go_num,by rw [Br.out,HD.out.1];simp,yK trivial⟩
    simp [intOf];omega
   have n0:(C != 0)=true:=by simpa using hC
   have H0:=Nm.aF hC;clear hC;go_wp2_with (go_at_call 105;refine hc.mono ?_;rintro e w1 ⟨rfl,CR,yK⟩;unfold AC)
   go_ret2;rw [Br.out,HD.out.1,if_pos H0.out];exact⟨rfl,(dM.below (fp:=[bb]) HX.out.2.2.2).trans CR (fun k hk=>.inl hk),fun h=>absurd h H0.out⟩
  ·have cF:wr.cell? ⟨w.heap.size,k,none⟩=some (.func (.func 106) #[.pointer (some ⟨bb,0,none⟩)] #[]):=by rw [FQ];exact(aA Ie 1).trans rfl
   have ef:fnK k=106:=by rw [FQ];rfl
   rw [ef] at hc;clear Ie ef FQ
   by_cases hC:C=0
   ·subst hC;go_wp2_with (go_at_call 106;refine hc.mono ?_;rintro e w1 ⟨rfl,CR,yK⟩;unfold AC)
    go_roundw
    case rel=>exact⟨k+1,by omega,by go_num,by rw [Br.out,HD.out.1];simp,yK trivial⟩
    simp [intOf];omega
   have n0:(C != 0)=true:=by simpa using hC
   have H0:=Nm.aF hC;clear hC;go_wp2_with (go_at_call 106;refine hc.mono ?_;rintro e w1 ⟨rfl,CR,yK⟩;unfold AC)
   go_ret2;rw [Br.out,HD.out.1,if_pos H0.out];exact⟨rfl,(dM.below (fp:=[bb]) HX.out.2.2.2).trans CR (fun k hk=>.inl hk),fun h=>absurd h H0.out⟩
  ·have cF:wr.cell? ⟨w.heap.size,k,none⟩=some (.func (.func 107) #[.pointer (some ⟨bb,0,none⟩)] #[]):=by rw [FQ];exact(aA Ie 2).trans rfl
   have ef:fnK k=107:=by rw [FQ];rfl
   rw [ef] at hc;clear Ie ef FQ
   by_cases hC:C=0
   ·subst hC;go_wp2_with (go_at_call 107;refine hc.mono ?_;rintro e w1 ⟨rfl,CR,yK⟩;unfold AC)
    go_roundw
    case rel=>exact⟨k+1,by omega,by go_num,by rw [Br.out,HD.out.1];simp,yK trivial⟩
    simp [intOf];omega
   have n0:(C != 0)=true:=by simpa using hC
   have H0:=Nm.aF hC;clear hC;go_wp2_with (go_at_call 107;refine hc.mono ?_;rintro e w1 ⟨rfl,CR,yK⟩;unfold AC)
   go_ret2;rw [Br.out,HD.out.1,if_pos H0.out];exact⟨rfl,(dM.below (fp:=[bb]) HX.out.2.2.2).trans CR (fun k hk=>.inl hk),fun h=>absurd h H0.out⟩
  ·have cF:wr.cell? ⟨w.heap.size,k,none⟩=some (.func (.func 108) #[.pointer (some ⟨bb,0,none⟩)] #[]):=by rw [FQ];exact(aA Ie 3).trans rfl
   have ef:fnK k=108:=by rw [FQ];rfl
   rw [ef] at hc;clear Ie ef FQ
   by_cases hC:C=0
   ·subst hC;go_wp2_with (go_at_call 108;refine hc.mono ?_;rintro e w1 ⟨rfl,CR,yK⟩;unfold AC)
    go_roundw
    case rel=>exact⟨k+1,by omega,by go_num,by rw [Br.out,HD.out.1];simp,yK trivial⟩
    simp [intOf];omega
   have n0:(C != 0)=true:=by simpa using hC
   have H0:=Nm.aF hC;clear hC;go_wp2_with (go_at_call 108;refine hc.mono ?_;rintro e w1 ⟨rfl,CR,yK⟩;unfold AC)
   go_ret2;rw [Br.out,HD.out.1,if_pos H0.out];exact⟨rfl,(dM.below (fp:=[bb]) HX.out.2.2.2).trans CR (fun k hk=>.inl hk),fun h=>absurd h H0.out⟩
  ·have cF:wr.cell? ⟨w.heap.size,k,none⟩=some (.func (.func 109) #[.pointer (some ⟨bb,0,none⟩)] #[]):=by rw [FQ];exact(aA Ie 4).trans rfl
   have ef:fnK k=109:=by rw [FQ];rfl
   rw [ef] at hc;clear Ie ef FQ
   by_cases hC:C=0
   ·subst hC;go_wp2_with (go_at_call 109;refine hc.mono ?_;rintro e w1 ⟨rfl,CR,yK⟩;unfold AC)
    go_roundw
    case rel=>exact⟨k+1,by omega,by go_num,by rw [Br.out,HD.out.1];simp,yK trivial⟩
    simp [intOf];omega
   have n0:(C != 0)=true:=by simpa using hC
   have H0:=Nm.aF hC;clear hC;go_wp2_with (go_at_call 109;refine hc.mono ?_;rintro e w1 ⟨rfl,CR,yK⟩;unfold AC)
   go_ret2;rw [Br.out,HD.out.1,if_pos H0.out];exact⟨rfl,(dM.below (fp:=[bb]) HX.out.2.2.2).trans CR (fun k hk=>.inl hk),fun h=>absurd h H0.out⟩
  ·have cF:wr.cell? ⟨w.heap.size,k,none⟩=some (.func (.func 110) #[.pointer (some ⟨bb,0,none⟩)] #[]):=by rw [FQ];exact(aA Ie 5).trans rfl
   have ef:fnK k=110:=by rw [FQ];rfl
   rw [ef] at hc;clear Ie ef FQ
   by_cases hC:C=0
   ·subst hC;go_wp2_with (go_at_call 110;refine hc.mono ?_;rintro e w1 ⟨rfl,CR,yK⟩;unfold AC)
    go_roundw
    case rel=>exact⟨k+1,by omega,by go_num,by rw [Br.out,HD.out.1];simp,yK trivial⟩
    simp [intOf];omega
   have n0:(C != 0)=true:=by simpa using hC
   have H0:=Nm.aF hC;clear hC;go_wp2_with (go_at_call 110;refine hc.mono ?_;rintro e w1 ⟨rfl,CR,yK⟩;unfold AC)
   go_ret2;rw [Br.out,HD.out.1,if_pos H0.out];exact⟨rfl,(dM.below (fp:=[bb]) HX.out.2.2.2).trans CR (fun k hk=>.inl hk),fun h=>absurd h H0.out⟩
  ·have cF:wr.cell? ⟨w.heap.size,k,none⟩=some (.func (.func 111) #[.pointer (some ⟨bb,0,none⟩)] #[]):=by rw [FQ];exact(aA Ie 6).trans rfl
   have ef:fnK k=111:=by rw [FQ];rfl
   rw [ef] at hc;clear Ie ef FQ
   by_cases hC:C=0
   ·subst hC;go_wp2_with (go_at_call 111;refine hc.mono ?_;rintro e w1 ⟨rfl,CR,yK⟩;unfold AC)
    go_roundw
    case rel=>exact⟨k+1,by omega,by go_num,by rw [Br.out,HD.out.1];simp,yK trivial⟩
    simp [intOf];omega
   have n0:(C != 0)=true:=by simpa using hC
   have H0:=Nm.aF hC;clear hC;go_wp2_with (go_at_call 111;refine hc.mono ?_;rintro e w1 ⟨rfl,CR,yK⟩;unfold AC)
   go_ret2;rw [Br.out,HD.out.1,if_pos H0.out];exact⟨rfl,(dM.below (fp:=[bb]) HX.out.2.2.2).trans CR (fun k hk=>.inl hk),fun h=>absurd h H0.out⟩
  ·have cF:wr.cell? ⟨w.heap.size,k,none⟩=some (.func (.func 112) #[.pointer (some ⟨bb,0,none⟩)] #[]):=by rw [FQ];exact(aA Ie 7).trans rfl
   have ef:fnK k=112:=by rw [FQ];rfl
   rw [ef] at hc;clear Ie ef FQ
   by_cases hC:C=0
   ·subst hC;go_wp2_with (go_at_call 112;refine hc.mono ?_;rintro e w1 ⟨rfl,CR,yK⟩;unfold AC)
    go_roundw
    case rel=>exact⟨k+1,by omega,by go_num,by rw [Br.out,HD.out.1];simp,yK trivial⟩
    simp [intOf];omega
   have n0:(C != 0)=true:=by simpa using hC
   have H0:=Nm.aF hC;clear hC;go_wp2_with (go_at_call 112;refine hc.mono ?_;rintro e w1 ⟨rfl,CR,yK⟩;unfold AC)
   go_ret2;rw [Br.out,HD.out.1,if_pos H0.out];exact⟨rfl,(dM.below (fp:=[bb]) HX.out.2.2.2).trans CR (fun k hk=>.inl hk),fun h=>absurd h H0.out⟩
  have cF:wr.cell? ⟨w.heap.size,k,none⟩=some (.func (.func 113) #[.pointer (some ⟨bb,0,none⟩)] #[]):=by rw [FQ];exact(aA Ie 8).trans rfl
  have ef:fnK k=113:=by rw [FQ];rfl
  rw [ef] at hc;clear Ie ef FQ
  by_cases hC:C=0
  ·subst hC;go_wp2_with (go_at_call 113;refine hc.mono ?_;rintro e w1 ⟨rfl,CR,yK⟩;unfold AC)
   go_roundw
   case rel=>exact⟨k+1,by omega,by go_num,by rw [Br.out,HD.out.1];simp,yK trivial⟩
   simp [intOf];omega
  have n0:(C != 0)=true:=by simpa using hC
  have H0:=Nm.aF hC;clear hC;go_wp2_with (go_at_call 113;refine hc.mono ?_;rintro e w1 ⟨rfl,CR,yK⟩;unfold AC)
  go_ret2;rw [Br.out,HD.out.1,if_pos H0.out];exact⟨rfl,(dM.below (fp:=[bb]) HX.out.2.2.2).trans CR (fun k hk=>.inl hk),fun h=>absurd h H0.out⟩
 have DJ:k=9:=by omega
 subst DJ;have e9:iN (IY list aM)=(0,0):=by rw [Br.out];rfl
 have HE9:=Nm.aF e9;clear e9;go_wp2;go_ret2;rw [HE9.out];exact⟨rfl,mF,fun _=>hP.2⟩
def YH(a b:Sz):Bool:=decide (a.own=b.own)&&decide (a.ty=b.ty)&&decide (a.tt=b.tt)&&decide (a.da=b.da)
theorem NP{a b:Sz}:YH a b=true↔a=b:=by
 obtain⟨a1,a2,a3,a4⟩:=a;obtain⟨b1,b2,b3,b4⟩:=b;simp only [YH,Bool.and_eq_true,decide_eq_true_eq,Sz.mk.injEq];constructor
 ·rintro⟨⟨⟨h1,h2⟩,h3⟩,h4⟩;exact⟨h1,h2,h3,h4⟩
 rintro⟨h1,h2,h3,h4⟩;exact⟨⟨⟨h1,h2⟩,h3⟩,h4⟩
def CB:List Sz->List Sz->Bool
 |[],[]=>true
 |a::xs,b::ys=>YH a b&&CB xs ys
 |_,_=>false
theorem AJ:∀ {xs ys:List Sz},CB xs ys=true↔xs=ys
 |[],[]=>by simp [CB]
 |[],b::ys=>by simp [CB]
 |a::xs,[]=>by simp [CB]
 |a::xs,b::ys=>by
  rw [CB,Bool.and_eq_true,NP,AJ];simp
theorem Qz{xs ys:List Sz}(hl:xs.length=ys.length)(h:∀ (j:Nat) (a b:Sz),xs[j]? =some a->ys[j]? =some b->a=b):CB xs ys=true:=by
 rw [AJ];apply List.ext_getElem?;intro j
 by_cases hj:j<xs.length
 ·have h1:xs[j]? =some xs[j]:=bY hj;have h2:ys[j]? =some ys[j]:=bY (by omega);rw [h1,h2,h j _ _ h1 h2]
 rw [List.getElem?_eq_none (by omega),List.getElem?_eq_none (by omega)]
theorem Ra{xs ys:List Sz}{j:Nat}{a b:Sz}(h1:xs[j]? =some a)(h2:ys[j]? =some b)(h:YH a b=false):CB xs ys=false:=by
 cases hq:CB xs ys
 ·rfl
 rw [AJ] at hq;subst hq;rw [h1] at h2;obtain rfl:=gQ h2;rw [NP.2 rfl] at h;cases h
theorem Rc{xs ys:List Sz}(h:xs.length≠ys.length):CB xs ys=false:=by
 cases hq:CB xs ys
 ·rfl
 rw [AJ] at hq;subst hq;exact absurd rfl h
def pI(ps:List Zp)(o:ByteArray):Bool:=decide ((eH (aD ps) o).1=0)&&CB (mW (aD ps)) (ps.map (·.1))
theorem aH1(o:ByteArray):(eH [] o).1≠0:=by
 rw [eH];split
 ·decide
 rw [if_neg (by simp)];have h1:gP o [] 0=none:=rfl;have h2:sF ([].map aQ)= -1:=rfl;rw [h1];simp only
 rw [h2,if_neg (by decide)];have h3:fM (bD []) (Nm.cZ o)=(20,-1):=rfl;rw [h3];decide
theorem yV{ps:List Zp}{o:ByteArray}(h:500<ps.length∨500<jD ps):pI ps o=false:=by
 rw [pI,aD,if_pos h,jU (aH1 o)];rfl
theorem oC{ps:List Zp}{o:ByteArray}(h:pI ps o=true):(eH (aD ps) o).1=0∧mW (aD ps)=ps.map (·.1):=by
 simp only [pI,Bool.and_eq_true,decide_eq_true_eq] at h;exact⟨h.1,AJ.1 h.2⟩
theorem sK{ps:List Zp}{N:Nat}(h:∀ p∈ps,p.1.own.size<=N∧∀ x∈p.1.da,x.size<=N):∀ r∈aD ps,r.own.size<=N∧r.da.size<=N:=by
 intro r hr;unfold aD at hr
 split at hr
 ·cases hr
 simp only [dI,fA,List.mem_flatMap,List.mem_map] at hr;obtain⟨p,hp,d,hd,rfl⟩:=hr;exact⟨(h p hp).1,(h p hp).2 d hd⟩
