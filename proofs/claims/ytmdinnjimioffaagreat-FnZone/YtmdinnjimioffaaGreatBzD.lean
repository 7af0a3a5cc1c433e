import Derived.Test.YtmdinnjimioffaaGreatBzV
import Derived.Laws.EntriesVeiled
namespace Go.Proofs.YtmdinnjimioffaaGreat
open Go.RowKit
set_option linter.unusedVariables false
def firstNZ:List (Int×Int)->Int×Int
 |[]=>(0,0)
 |r::rs=>if r.1≠0 then r else firstNZ rs
def ru1V(list:List Rr)(apex:ByteArray):Int×Int:=if(Nm.split apex).isSome=false then(32,-1) else if 500<list.length then(12,-1) else(0,0)
def ru2V(list:List Rr)(apex:ByteArray):Int×Int:=match badOne apex list 0 with
 |some (c,i)=>(c,(i:Int))
 |none=>(0,0)
def ru3V(list:List Rr):Int×Int:=if 0<=badI (list.map itemOf) then(24,badI (list.map itemOf)) else(0,0)
def rsOf(list:List Rr)(apex:ByteArray):List (Int×Int):=[ru1V list apex,ru2V list apex,ru3V list,soaV (firstI (ru1 (itsOf list) (Nm.foldS apex)) (itsOf list)) (hasI (itsOf list) (Nm.foldS apex) 6),
 if hasI (itsOf list) (Nm.foldS apex) 2=true then(0,0) else(21,-1),rVal (firstI (fun _ x=>ru2 x) (itsOf list)) 26,rVal (firstI (ru3 (itsOf list)) (itsOf list)) 23,rVal (firstI (fun _ x=>ru4 (itsOf list) x) (itsOf list)) 23,rVal (firstI (fun _ x=>ru5 (itsOf list) x) (itsOf list)) 25]
def fnsOf:List Nat:=[55,56,57,58,59,60,61,62,63]
theorem nz_zero{r:Int×Int}{rs:List (Int×Int)}(h:r=(0,0)):firstNZ (r::rs)=firstNZ rs:=by rw [firstNZ,h];simp
theorem nz_one{r q:Int×Int}{rs:List (Int×Int)}(h:r=q)(hq:q.1≠0):firstNZ (r::rs)=q:=by rw [firstNZ,h,if_pos hq]
theorem bldE_nz(list:List Rr)(apex:ByteArray):bldE list apex=firstNZ (rsOf list apex):=by
 rw [bldE,rsOf]
 by_cases h1:(Nm.split apex).isSome=false
 ·rw [if_pos h1,nz_one (q:=(32,-1)) (by rw [ru1V,if_pos h1]) (by decide)]
 ·rw [if_neg h1]
  by_cases h2:500<list.length
  ·rw [if_pos h2,nz_one (q:=(12,-1)) (by rw [ru1V,if_neg h1,if_pos h2]) (by decide)]
  ·rw [if_neg h2,nz_zero (by rw [ru1V,if_neg h1,if_neg h2])]
   cases hb:badOne apex list 0 with
   |some p=>
    obtain⟨c,i⟩:=p
    rw [nz_one (q:=(c,(i:Int))) (by rw [ru2V,hb]) (bad_some _ _ _ _ hb)]
   |none=>
    rw [nz_zero (by rw [ru2V,hb])];simp only
    by_cases h3:0<=badI (list.map itemOf)
    ·rw [if_pos h3,nz_one (q:=(24,badI (list.map itemOf))) (by rw [ru3V,if_pos h3]) (by simp)]
    ·rw [if_neg h3,nz_zero (by rw [ru3V,if_neg h3]),rulesI_eq]
     cases firstI (ru1 (itsOf list) (Nm.foldS apex)) (itsOf list) with
     |some i=>simp [firstNZ,soaV]
     |none=>
      simp only
      cases hasI (itsOf list) (Nm.foldS apex) 6 with
      |false=>simp [firstNZ,soaV]
      |true=>
       rw [nz_zero (show soaV none true=(0,0) from rfl)];simp only [Bool.not_true,Bool.false_eq_true,if_false]
       cases hasI (itsOf list) (Nm.foldS apex) 2 with
       |false=>simp [firstNZ]
       |true=>
        rw [nz_zero (show(if true=true then((0:Int),(0:Int)) else(21,-1))=(0,0) from rfl)];simp only [Bool.not_true,Bool.false_eq_true,if_false]
        cases firstI (fun _ x=>ru2 x) (itsOf list) with
        |some i=>simp [firstNZ,rVal]
        |none=>
         rw [nz_zero (show rVal none 26=(0,0) from rfl)];simp only
         cases firstI (ru3 (itsOf list)) (itsOf list) with
         |some i=>simp [firstNZ,rVal]
         |none=>
          rw [nz_zero (show rVal none 23=(0,0) from rfl)];simp only
          cases firstI (fun _ x=>ru4 (itsOf list) x) (itsOf list) with
          |some i=>simp [firstNZ,rVal]
          |none=>
           rw [nz_zero (show rVal none 23=(0,0) from rfl)];simp only
           cases firstI (fun _ x=>ru5 (itsOf list) x) (itsOf list) with
           |some i=>simp [firstNZ,rVal]
           |none=>rw [nz_zero (show rVal none 25=(0,0) from rfl)];simp [firstNZ]
theorem nz_drop{rs:List (Int×Int)}{k:Nat}{r:Int×Int}(h:rs[k]? =some r):firstNZ (rs.drop k)=if r.1≠0 then r else firstNZ (rs.drop (k+1)):=by
 obtain⟨hk,e⟩:=List.getElem?_eq_some_iff.1 h;rw [List.drop_eq_getElem_cons hk,e,firstNZ]
theorem crow_outs{fp:List Nat}{w W:World}{v:Value}{n s:Nat}{cs:List Value}(h:Outs fp w W)(hc:CRow w v n s cs)(hn:0<n->∀ b,rowBlk v=some b->b∉fp):CRow W v n s cs:=by
 obtain⟨h0,a,cap,rfl,h1,h2,h3⟩:=hc;refine⟨h0,a,cap,rfl,h1,h2,fun hp=>?_⟩;obtain⟨b,off,rfl,hc⟩:=h3 hp;exact⟨b,off,rfl,fun i x hx=>outs_cell h (hc i x hx) (hn hp b rfl)⟩
def Ph(w:World)(bb:Nat)(lv:Value)(list:List Rr)(apex:ByteArray)(k:Nat)(W:World):Prop:=Outs [bb] w W∧match k with
 |0=>Blk W bb #[lv,.string apex,.slice none 0 0,.slice none 0 0,.pointer none,.slice none 0 0] 73
 |1=>∃ ys aa ac th,Nm.split apex=some ys∧list.length<=500∧Blk W bb #[lv,.string apex,.slice none 0 0,.slice aa ys.length ac,ptr th,.slice none 0 0] 73∧Blk W th #[cmpLv,.slice none 0 0] 145∧W.ownsRow w.heap.size 9 1 (.slice aa ys.length ac) ys.length (ys.map Value.string)∧w.heap.size<=th
 |2=>∃ ys aa ac th labv lvs B0,Nm.split apex=some ys∧list.length<=500∧Blk W bb #[lv,.string apex,labv,.slice aa ys.length ac,ptr th,.slice none 0 0] 73∧Blk W th #[cmpLv,.slice none 0 0] 145∧W.ownsRow w.heap.size 9 1 (.slice aa ys.length ac) ys.length (ys.map Value.string)∧w.heap.size<=th∧LbRow W B0 labv lvs (labsOf list)∧badOne apex list 0=none
 |_+3=>∃ th ys aa ac labv rv os kv ks B,P3 list apex bb lv th ys aa ac labv rv os kv ks B W
theorem outs_below{fp:List Nat}{w W W':World}(h:Outs fp w W)(hb:Below W.heap.size W W'):Outs fp w W':=h.trans (Outs.below (fp:=fp) hb) (fun k hk=>.inl hk)
def rsK(list:List Rr)(apex:ByteArray)(k:Nat):Int×Int:=((rsOf list apex)[k]?).getD (0,0)
def fnK(k:Nat):Nat:=(fnsOf[k]?).getD 0
theorem ph_step{w:World}{bb:Nat}{la:Option Addr}{lc:Nat}{list:List Rr}{apex:ByteArray}(h:CRow w (.slice la list.length lc) list.length 5 (rvVs list))(hfar:0<list.length->rowBlk (.slice la list.length lc)≠some bb)(hlt:0<list.length->∀ b,rowBlk (.slice la list.length lc)=some b->b<w.heap.size)(ha:apex.size<=maxLen)(ho:∀ r∈list,r.own.size<=1000000000∧r.da.size<=2000000)
 (k:Nat) (hk:k<9) (W:World) (hP:Ph w bb (.slice la list.length lc) list apex k W):
 Calls Tryz.prog (fnK k) #[.pointer (some ⟨bb,0,none⟩)] W fun e w'=>e=rsV (rsK list apex k).1 (rsK list apex k).2∧Outs [bb] w w'∧((rsK list apex k).1=0->Ph w bb (.slice la list.length lc) list apex (k+1) w'):=by
 have hnb:0<list.length->∀ b,rowBlk (.slice la list.length lc)=some b->b∉[bb]:=fun h0 b hb hm=>hfar h0 (by rw [hb,List.mem_singleton.1 hm])
 obtain⟨hO,hP⟩:=hP;have hcr:=crow_outs hO h hnb
 match k,hP with
 |0,hP=>
  refine(checkSize_any bb la list.length lc apex W hP ha).mono ?_;rintro e w' (⟨h1,rfl,hb⟩|⟨h1,h2,rfl,hb⟩|⟨ys,aa,ac,th,h1,h2,rfl,hOu,k1,k2,k3,k4⟩)
  ·have e1:rsK list apex 0=(32,-1):=by simp [rsK,rsOf,ru1V,h1]
   rw [e1];exact⟨rfl,outs_below hO hb,fun h=>by simp at h⟩
  ·have e1:rsK list apex 0=(12,-1):=by
    cases hs:Nm.split apex with
    |none=>exact absurd hs h1
    |some z=>simp [rsK,rsOf,ru1V,hs,h2]
   rw [e1];exact⟨rfl,outs_below hO hb,fun h=>by simp at h⟩
  ·have e1:rsK list apex 0=(0,0):=by simp [rsK,rsOf,ru1V,h1];omega
   rw [e1];have hO2:=hO.trans hOu (fun k hk=>.inl hk)
   exact⟨rfl,hO2,fun _=>⟨hO2,ys,aa,ac,th,h1,h2,k1,k2,own_base k3 hO.size,Nat.le_trans hO.size k4⟩⟩
 |1,⟨ys,aa,ac,th,h1,h2,k1,k2,k3,k4⟩=>
  refine(checkRecords_any bb la lc list apex ys aa ac (ptr th) W k1 hcr hfar h2 h1 (srow_own k3) (fun e=>own_nb k3 k1 (by decide) (by
   have:=rowBlk_own k3 e
   simpa using this)) (fun r hr=>⟨by have:=(ho r hr).1;unfold maxLen;omega,(ho r hr).2⟩)).mono ?_
  rintro e w' ⟨hOu,⟨c,i,hb,rfl⟩|⟨hb,rfl,labv,lvs,q1,q2⟩⟩
  ·have e1:rsK list apex 1=(c,(i:Int)):=by simp [rsK,rsOf,ru2V,hb]
   rw [e1];exact⟨rfl,hO.trans hOu (fun k hk=>.inl hk),fun h=>absurd h (bad_some _ _ _ _ hb)⟩
  ·have e1:rsK list apex 1=(0,0):=by simp [rsK,rsOf,ru2V,hb]
   rw [e1];have hO2:=hO.trans hOu (fun k hk=>.inl hk)
   have hthb:th∉[bb]:=fun hm=>by
    have h9:=blk_ne k2 k1 (by decide);exact h9 (List.mem_singleton.1 hm)
   exact⟨rfl,hO2,fun _=>⟨hO2,ys,aa,ac,th,labv,lvs,W.heap.size,h1,h2,q1,blk_outs k2 hOu hthb,own_outs k3 hOu (fun b hb2 hm=>own_nb k3 k1 (by decide) (by rw [<- List.mem_singleton.1 hb2];simpa using hm)),k4,q2,hb⟩⟩
 |2,⟨ys,aa,ac,th,labv,lvs,B0,h1,h2,k1,k2,k3,k4,k5,k6⟩=>
  have hok:=bad_none _ _ k6;refine(checkTimes_any bb th la lc list apex labv lvs (.slice aa ys.length ac) B0 W k1 hcr (fun h0 b hb=>⟨fun e=>hfar h0 (by rw [hb,e]),fun e=>by have:=hlt h0 b hb;omega⟩) h2 k5 k2 (fun r hr=>(one_ok (hok r hr)).1) ho).mono ?_;rintro e w' ⟨hOu,⟨hb,rfl⟩|⟨hb,rfl,hmix,rv,os,kv,ks,q1,q2⟩⟩
  ·have e1:rsK list apex 2=(24,badI (list.map itemOf)):=by simp [rsK,rsOf,ru3V,hb]
   rw [e1];refine⟨rfl,hO.trans hOu (fun k hk=>?_),fun h=>by simp at h⟩;simp at hk
   rcases hk with rfl|rfl
   ·exact .inl (by simp)
   ·exact .inr k4
  ·have e1:rsK list apex 2=(0,0):=by simp [rsK,rsOf,ru3V,hb]
   rw [e1]
   have hO2:Outs [bb] w w':=hO.trans hOu (fun k hk=>by
    simp at hk
    rcases hk with rfl|rfl
    ·exact .inl (by simp)
    ·exact .inr k4)
   have hav:=own_outs k3 hOu (fun b hb2 hm=>by
    simp at hb2
    rcases hb2 with rfl|rfl
    ·exact own_nb k3 k1 (by decide) (by simpa using hm)
    ·exact own_nb k3 k2 (by decide) (by simpa using hm))
   exact⟨rfl,hO2,fun _=>⟨hO2,th,ys,aa,ac,labv,rv,os,kv,ks,_,⟨q1,q2,h1,srow_own hav,h2,k6,hmix⟩⟩⟩
 |3,⟨th,ys,aa,ac,labv,rv,os,kv,ks,B,hP⟩=>
  exact(soa_P3 hP).mono fun e w' ⟨he,hb⟩=>⟨he,outs_below hO hb,fun _=>⟨outs_below hO hb,th,ys,aa,ac,labv,rv,os,kv,ks,B,hP.below hb⟩⟩
 |4,⟨th,ys,aa,ac,labv,rv,os,kv,ks,B,hP⟩=>
  exact(ns_P3 hP).mono fun e w' ⟨he,hb⟩=>⟨he,outs_below hO hb,fun _=>⟨outs_below hO hb,th,ys,aa,ac,labv,rv,os,kv,ks,B,hP.below hb⟩⟩
 |5,⟨th,ys,aa,ac,labv,rv,os,kv,ks,B,hP⟩=>
  exact(wild_P3 hP).mono fun e w' ⟨he,hb⟩=>⟨he,outs_below hO hb,fun _=>⟨outs_below hO hb,th,ys,aa,ac,labv,rv,os,kv,ks,B,hP.below hb⟩⟩
 |6,⟨th,ys,aa,ac,labv,rv,os,kv,ks,B,hP⟩=>
  exact(single_P3 hP).mono fun e w' ⟨he,hb⟩=>⟨he,outs_below hO hb,fun _=>⟨outs_below hO hb,th,ys,aa,ac,labv,rv,os,kv,ks,B,hP.below hb⟩⟩
 |7,⟨th,ys,aa,ac,labv,rv,os,kv,ks,B,hP⟩=>
  exact(alias_P3 hP).mono fun e w' ⟨he,hb⟩=>⟨he,outs_below hO hb,fun _=>⟨outs_below hO hb,th,ys,aa,ac,labv,rv,os,kv,ks,B,hP.below hb⟩⟩
 |8,⟨th,ys,aa,ac,labv,rv,os,kv,ks,B,hP⟩=>
  exact(below_P3 hP).mono fun e w' ⟨he,hb⟩=>⟨he,outs_below hO hb,fun _=>⟨outs_below hO hb,th,ys,aa,ac,labv,rv,os,kv,ks,B,hP.below hb⟩⟩
set_option maxRecDepth 100000 in
set_option maxHeartbeats 6400000 in
theorem build_any(bb:Nat)(la:Option Addr)(lc:Nat)(list:List Rr)(apex:ByteArray)(w:World)(hk:Blk w bb #[.slice la list.length lc,.string apex,.slice none 0 0,.slice none 0 0,.pointer none,.slice none 0 0] 73)(h:CRow w (.slice la list.length lc) list.length 5 (rvVs list))(hfar:0<list.length->rowBlk (.slice la list.length lc)≠some bb)(hlt:0<list.length->∀ b,rowBlk (.slice la list.length lc)=some b->b<w.heap.size)(ha:apex.size<=maxLen)(ho:∀ r∈list,r.own.size<=1000000000∧r.da.size<=2000000):
 Calls Tryz.prog 28 #[.pointer (some ⟨bb,0,none⟩)] w fun e w'=>e=rsV (bldE list apex).1 (bldE list apex).2∧Outs [bb] w w'∧((bldE list apex).1=0->∃ th ys aa ac labv rv os kv ks B,P3 list apex bb (.slice la list.length lc) th ys aa ac labv rv os kv ks B w'):=by
 have hbl:=blk_lt hk;obtain⟨cs,hcs⟩:∃ cs:Array Value,cs=#[.func (.func 55) #[.pointer (some ⟨bb,0,none⟩)] #[],.func (.func 56) #[.pointer (some ⟨bb,0,none⟩)] #[],.func (.func 57) #[.pointer (some ⟨bb,0,none⟩)] #[],.func (.func 58) #[.pointer (some ⟨bb,0,none⟩)] #[],.func (.func 59) #[.pointer (some ⟨bb,0,none⟩)] #[],.func (.func 60) #[.pointer (some ⟨bb,0,none⟩)] #[],.func (.func 61) #[.pointer (some ⟨bb,0,none⟩)] #[],.func (.func 62) #[.pointer (some ⟨bb,0,none⟩)] #[],.func (.func 63) #[.pointer (some ⟨bb,0,none⟩)] #[]]:=⟨_,rfl⟩;have kR:=blk_new w cs 74;have bR:=(Below.refl w.heap.size w).alloc (Nat.le_refl _) (.cells cs 74);have hst:=fun k hk W hP=>ph_step (h.below bR) hfar (fun h0 b hb=>by have:=hlt h0 b hb;simp;omega) ha ho k hk W hP
 have P0:Ph (w.alloc (.cells cs 74)) bb (.slice la list.length lc) list apex 0 (w.alloc (.cells cs 74)):=⟨Outs.below (Below.refl _ _),blk_below hk bR⟩;rw [bldE_nz];have hmf:∀ (fn:Fn) (first cap:Array Value) (w:World),(Instr.makeFunc fn first cap).run Tryz.prog w=.ok (.func fn first cap) w:=fun _ _ _ _=>rfl
 have HX:=Nm.hide (And.intro hst (And.intro P0 (And.intro kR bR)));have HCS:=Nm.hide hcs;clear h hfar hlt ho hk hst P0 kR bR hcs;go_enter Tryz.func28,Tryz.ntmps28;go_wp2
 -- LOOP
 go_loopw [30] (fun i wr=>∃ k:Nat,k<=9∧i=.int .i64 k∧firstNZ (rsOf list apex)=firstNZ ((rsOf list apex).drop k)∧Ph (w.alloc (.cells cs 74)) bb (.slice la list.length lc) list apex k wr) (fun i _=>9-(intOf i).toNat)
 case atStart=>
  refine⟨0,Nat.zero_le _,rfl,rfl,?_⟩;rw [HCS.out];have:=HX.out.2.1;rw [HCS.out] at this;exact this
 case round=>
  obtain⟨k,hk9,rfl,hnz,hP⟩:=hrel;have HNZ:=Nm.hide hnz;clear hnz
  have hou:Outs [bb] w wr:=by
   have h9:=(Outs.below (fp:=[bb]) HX.out.2.2.2).trans hP.1 (fun k hk=>.inl hk);exact h9
  by_cases hlt:k<9
  ·have hc:=HX.out.1 k hlt wr hP;have kRr:=blk_outs HX.out.2.2.1 hP.1 (fun hm=>by have:=List.mem_singleton.1 hm;omega);rw [HCS.out] at kRr
   have hgk:(rsOf list apex)[k]? =some (rsK list apex k):=by
    rw [rsK];have:k<(rsOf list apex).length:=by simp [rsOf];omega
    rw [List.getElem?_eq_getElem this];rfl
   have hdr:=nz_drop hgk;generalize rsK list apex k=RK at hc hgk hdr;obtain⟨C,I⟩:=RK;simp only at hc hdr
   have HD:=Nm.hide (And.intro hdr (And.intro hou hP));clear hgk hdr hou hP;have i1:(0:Int)<=(k:Int):=by omega
   have i2:(k:Int)<9:=by omega
   have hcase:k=0∨k=1∨k=2∨k=3∨k=4∨k=5∨k=6∨k=7∨k=8:=by omega
   rcases hcase with HKJ|HKJ|HKJ|HKJ|HKJ|HKJ|HKJ|HKJ|HKJ
   ·have cF:wr.cell? ⟨w.heap.size,k,none⟩=some (.func (.func 55) #[.pointer (some ⟨bb,0,none⟩)] #[]):=by rw [HKJ];exact(blk_cell kRr 0).trans rfl
    have ef:fnK k=55:=by rw [HKJ];rfl
    rw [ef] at hc;clear kRr ef HKJ
    by_cases hC:C=0
    ·subst hC;go_wp2_with (go_at_call 55;refine hc.mono ?_;rintro e w1 ⟨rfl,ho1,hp1⟩;unfold rsV)
     go_roundw
     case rel=>exact⟨k+1,by omega,by go_num,by rw [HNZ.out,HD.out.1];simp,hp1 trivial⟩
     case measure=>simp [intOf];omega
    ·have n0:(C != 0)=true:=by simpa using hC
     have H0:=Nm.hide hC;clear hC;go_wp2_with (go_at_call 55;refine hc.mono ?_;rintro e w1 ⟨rfl,ho1,hp1⟩;unfold rsV)
     go_ret2;rw [HNZ.out,HD.out.1,if_pos H0.out];exact⟨rfl,(Outs.below (fp:=[bb]) HX.out.2.2.2).trans ho1 (fun k hk=>.inl hk),fun h=>absurd h H0.out⟩
   ·have cF:wr.cell? ⟨w.heap.size,k,none⟩=some (.func (.func 56) #[.pointer (some ⟨bb,0,none⟩)] #[]):=by rw [HKJ];exact(blk_cell kRr 1).trans rfl
    have ef:fnK k=56:=by rw [HKJ];rfl
    rw [ef] at hc;clear kRr ef HKJ
    by_cases hC:C=0
    ·subst hC;go_wp2_with (go_at_call 56;refine hc.mono ?_;rintro e w1 ⟨rfl,ho1,hp1⟩;unfold rsV)
     go_roundw
     case rel=>exact⟨k+1,by omega,by go_num,by rw [HNZ.out,HD.out.1];simp,hp1 trivial⟩
     case measure=>simp [intOf];omega
    ·have n0:(C != 0)=true:=by simpa using hC
     have H0:=Nm.hide hC;clear hC;go_wp2_with (go_at_call 56;refine hc.mono ?_;rintro e w1 ⟨rfl,ho1,hp1⟩;unfold rsV)
     go_ret2;rw [HNZ.out,HD.out.1,if_pos H0.out];exact⟨rfl,(Outs.below (fp:=[bb]) HX.out.2.2.2).trans ho1 (fun k hk=>.inl hk),fun h=>absurd h H0.out⟩
   ·have cF:wr.cell? ⟨w.heap.size,k,none⟩=some (.func (.func 57) #[.pointer (some ⟨bb,0,none⟩)] #[]):=by rw [HKJ];exact(blk_cell kRr 2).trans rfl
    have ef:fnK k=57:=by rw [HKJ];rfl
    rw [ef] at hc;clear kRr ef HKJ
    by_cases hC:C=0
    ·subst hC;go_wp2_with (go_at_call 57;refine hc.mono ?_;rintro e w1 ⟨rfl,ho1,hp1⟩;unfold rsV)
     go_roundw
     case rel=>exact⟨k+1,by omega,by go_num,by rw [HNZ.out,HD.out.1];simp,hp1 trivial⟩
     case measure=>simp [intOf];omega
    ·have n0:(C != 0)=true:=by simpa using hC
     have H0:=Nm.hide hC;clear hC;go_wp2_with (go_at_call 57;refine hc.mono ?_;rintro e w1 ⟨rfl,ho1,hp1⟩;unfold rsV)
     go_ret2;rw [HNZ.out,HD.out.1,if_pos H0.out];exact⟨rfl,(Outs.below (fp:=[bb]) HX.out.2.2.2).trans ho1 (fun k hk=>.inl hk),fun h=>absurd h H0.out⟩
   ·have cF:wr.cell? ⟨w.heap.size,k,none⟩=some (.func (.func 58) #[.pointer (some ⟨bb,0,none⟩)] #[]):=by rw [HKJ];exact(blk_cell kRr 3).trans rfl
    have ef:fnK k=58:=by rw [HKJ];rfl
    rw [ef] at hc;clear kRr ef HKJ
    by_cases hC:C=0
    ·subst hC;go_wp2_with (go_at_call 58;refine hc.mono ?_;rintro e w1 ⟨rfl,ho1,hp1⟩;unfold rsV)
     go_roundw
     case rel=>exact⟨k+1,by omega,by go_num,by rw [HNZ.out,HD.out.1];simp,hp1 trivial⟩
     case measure=>simp [intOf];omega
    ·have n0:(C != 0)=true:=by simpa using hC
     have H0:=Nm.hide hC;clear hC;go_wp2_with (go_at_call 58;refine hc.mono ?_;rintro e w1 ⟨rfl,ho1,hp1⟩;unfold rsV)
     go_ret2;rw [HNZ.out,HD.out.1,if_pos H0.out];exact⟨rfl,(Outs.below (fp:=[bb]) HX.out.2.2.2).trans ho1 (fun k hk=>.inl hk),fun h=>absurd h H0.out⟩
   ·have cF:wr.cell? ⟨w.heap.size,k,none⟩=some (.func (.func 59) #[.pointer (some ⟨bb,0,none⟩)] #[]):=by rw [HKJ];exact(blk_cell kRr 4).trans rfl
    have ef:fnK k=59:=by rw [HKJ];rfl
    rw [ef] at hc;clear kRr ef HKJ
    by_cases hC:C=0
    ·subst hC;go_wp2_with (go_at_call 59;refine hc.mono ?_;rintro e w1 ⟨rfl,ho1,hp1⟩;unfold rsV)
     go_roundw
     case rel=>exact⟨k+1,by omega,by go_num,by rw [HNZ.out,HD.out.1];simp,hp1 trivial⟩
     case measure=>simp [intOf];omega
    ·have n0:(C != 0)=true:=by simpa using hC
     have H0:=Nm.hide hC;clear hC;go_wp2_with (go_at_call 59;refine hc.mono ?_;rintro e w1 ⟨rfl,ho1,hp1⟩;unfold rsV)
     go_ret2;rw [HNZ.out,HD.out.1,if_pos H0.out];exact⟨rfl,(Outs.below (fp:=[bb]) HX.out.2.2.2).trans ho1 (fun k hk=>.inl hk),fun h=>absurd h H0.out⟩
   ·have cF:wr.cell? ⟨w.heap.size,k,none⟩=some (.func (.func 60) #[.pointer (some ⟨bb,0,none⟩)] #[]):=by rw [HKJ];exact(blk_cell kRr 5).trans rfl
    have ef:fnK k=60:=by rw [HKJ];rfl
    rw [ef] at hc;clear kRr ef HKJ
    by_cases hC:C=0
    ·subst hC;go_wp2_with (go_at_call 60;refine hc.mono ?_;rintro e w1 ⟨rfl,ho1,hp1⟩;unfold rsV)
     go_roundw
     case rel=>exact⟨k+1,by omega,by go_num,by rw [HNZ.out,HD.out.1];simp,hp1 trivial⟩
     case measure=>simp [intOf];omega
    ·have n0:(C != 0)=true:=by simpa using hC
     have H0:=Nm.hide hC;clear hC;go_wp2_with (go_at_call 60;refine hc.mono ?_;rintro e w1 ⟨rfl,ho1,hp1⟩;unfold rsV)
     go_ret2;rw [HNZ.out,HD.out.1,if_pos H0.out];exact⟨rfl,(Outs.below (fp:=[bb]) HX.out.2.2.2).trans ho1 (fun k hk=>.inl hk),fun h=>absurd h H0.out⟩
   ·have cF:wr.cell? ⟨w.heap.size,k,none⟩=some (.func (.func 61) #[.pointer (some ⟨bb,0,none⟩)] #[]):=by rw [HKJ];exact(blk_cell kRr 6).trans rfl
    have ef:fnK k=61:=by rw [HKJ];rfl
    rw [ef] at hc;clear kRr ef HKJ
    by_cases hC:C=0
    ·subst hC;go_wp2_with (go_at_call 61;refine hc.mono ?_;rintro e w1 ⟨rfl,ho1,hp1⟩;unfold rsV)
     go_roundw
     case rel=>exact⟨k+1,by omega,by go_num,by rw [HNZ.out,HD.out.1];simp,hp1 trivial⟩
     case measure=>simp [intOf];omega
    ·have n0:(C != 0)=true:=by simpa using hC
     have H0:=Nm.hide hC;clear hC;go_wp2_with (go_at_call 61;refine hc.mono ?_;rintro e w1 ⟨rfl,ho1,hp1⟩;unfold rsV)
     go_ret2;rw [HNZ.out,HD.out.1,if_pos H0.out];exact⟨rfl,(Outs.below (fp:=[bb]) HX.out.2.2.2).trans ho1 (fun k hk=>.inl hk),fun h=>absurd h H0.out⟩
   ·have cF:wr.cell? ⟨w.heap.size,k,none⟩=some (.func (.func 62) #[.pointer (some ⟨bb,0,none⟩)] #[]):=by rw [HKJ];exact(blk_cell kRr 7).trans rfl
    have ef:fnK k=62:=by rw [HKJ];rfl
    rw [ef] at hc;clear kRr ef HKJ
    by_cases hC:C=0
    ·subst hC;go_wp2_with (go_at_call 62;refine hc.mono ?_;rintro e w1 ⟨rfl,ho1,hp1⟩;unfold rsV)
     go_roundw
     case rel=>exact⟨k+1,by omega,by go_num,by rw [HNZ.out,HD.out.1];simp,hp1 trivial⟩
     case measure=>simp [intOf];omega
    ·have n0:(C != 0)=true:=by simpa using hC
     have H0:=Nm.hide hC;clear hC;go_wp2_with (go_at_call 62;refine hc.mono ?_;rintro e w1 ⟨rfl,ho1,hp1⟩;unfold rsV)
     go_ret2;rw [HNZ.out,HD.out.1,if_pos H0.out];exact⟨rfl,(Outs.below (fp:=[bb]) HX.out.2.2.2).trans ho1 (fun k hk=>.inl hk),fun h=>absurd h H0.out⟩
   ·have cF:wr.cell? ⟨w.heap.size,k,none⟩=some (.func (.func 63) #[.pointer (some ⟨bb,0,none⟩)] #[]):=by rw [HKJ];exact(blk_cell kRr 8).trans rfl
    have ef:fnK k=63:=by rw [HKJ];rfl
    rw [ef] at hc;clear kRr ef HKJ
    by_cases hC:C=0
    ·subst hC;go_wp2_with (go_at_call 63;refine hc.mono ?_;rintro e w1 ⟨rfl,ho1,hp1⟩;unfold rsV)
     go_roundw
     case rel=>exact⟨k+1,by omega,by go_num,by rw [HNZ.out,HD.out.1];simp,hp1 trivial⟩
     case measure=>simp [intOf];omega
    ·have n0:(C != 0)=true:=by simpa using hC
     have H0:=Nm.hide hC;clear hC;go_wp2_with (go_at_call 63;refine hc.mono ?_;rintro e w1 ⟨rfl,ho1,hp1⟩;unfold rsV)
     go_ret2;rw [HNZ.out,HD.out.1,if_pos H0.out];exact⟨rfl,(Outs.below (fp:=[bb]) HX.out.2.2.2).trans ho1 (fun k hk=>.inl hk),fun h=>absurd h H0.out⟩
  ·have hke:k=9:=by omega
   subst hke;have e9:firstNZ (rsOf list apex)=(0,0):=by rw [HNZ.out];rfl
   have HE9:=Nm.hide e9;clear e9;go_wp2;go_ret2;rw [HE9.out];exact⟨rfl,hou,fun _=>hP.2⟩
end Go.Proofs.YtmdinnjimioffaaGreat
