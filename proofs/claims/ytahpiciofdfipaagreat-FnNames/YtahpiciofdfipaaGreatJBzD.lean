import Derived.Test.YtahpiciofdfipaaGreatJBzY
import Derived.Laws.EntriesVeiled
import Derived.Test.YtahpiciofdfipaaGreatJOwnT
import Derived.Test.YtahpiciofdfipaaGreatJTiN
import Derived.Test.YtahpiciofdfipaaGreatJTrH
import Derived.Test.YtahpiciofdfipaaGreatJGoodM
namespace Go.Proofs.YtahpiciofdfipaaGreat
open Go.RowKit
set_option linter.unusedVariables false
def firstNZ:List (Int×Int)->Int×Int
 |[]=>(0,0)
 |r::rs=>if r.1≠0 then r else firstNZ rs
def ru1V(list:List Rr)(apex:ByteArray):Int×Int:=if(Nm.split apex).isSome=false then(32,-1) else if 500<list.length then(12,-1) else(0,0)
def ru2V(list:List Rr)(apex:ByteArray):Int×Int:=match badOne apex list 0 with
 |some (c,i)=>(c,(i:Int))
 |none=>(0,0)
def ru3V(list:List Rr):Int×Int:=if 0<=badI (list.map itemOf) then(24,badI (list.map itemOf)) else(0,0)
def rsOf(list:List Rr)(apex:ByteArray):List (Int×Int):=[ru1V list apex,ru2V list apex,ru3V list,soaV (firstI (ru1 (itsOf list) (Nm.foldS apex)) (itsOf list)) (hasI (itsOf list) (Nm.foldS apex) 6),
 if hasI (itsOf list) (Nm.foldS apex) 2=true then(0,0) else(21,-1),rVal (firstI (fun _ x=>ru2 x) (itsOf list)) 26,rVal (firstI (ru3 (itsOf list)) (itsOf list)) 23,rVal (firstI (fun _ x=>ru4 (itsOf list) x) (itsOf list)) 23,rVal (firstI (fun _ x=>ru5 (itsOf list) x) (itsOf list)) 25]
def fnsOf:List Nat:=[74,75,76,77,78,79,80,81,82]
theorem nz_zero{r:Int×Int}{rs:List (Int×Int)}(h:r=(0,0)):firstNZ (r::rs)=firstNZ rs:=by rw [firstNZ,h];simp
theorem nz_one{r q:Int×Int}{rs:List (Int×Int)}(h:r=q)(hq:q.1≠0):firstNZ (r::rs)=q:=by rw [firstNZ,h,if_pos hq]
theorem bldE_nz(list:List Rr)(apex:ByteArray):bldE list apex=firstNZ (rsOf list apex):=by
 rw [bldE,rsOf]
 by_cases h1:(Nm.split apex).isSome=false
 ·rw [if_pos h1,nz_one (q:=(32,-1)) (by rw [ru1V,if_pos h1]) (by decide)]
 ·rw [if_neg h1]
  by_cases h2:500<list.length
  ·rw [if_pos h2,nz_one (q:=(12,-1)) (by rw [ru1V,if_neg h1,if_pos h2]) (by decide)]
  ·rw [if_neg h2,nz_zero (by rw [ru1V,if_neg h1,if_neg h2])]
   cases hb:badOne apex list 0 with
   |some p=>
    obtain⟨c,i⟩:=p
    rw [nz_one (q:=(c,(i:Int))) (by rw [ru2V,hb]) (bad_some _ _ _ _ hb)]
   |none=>
    rw [nz_zero (by rw [ru2V,hb])];simp only
    by_cases h3:0<=badI (list.map itemOf)
    ·rw [if_pos h3,nz_one (q:=(24,badI (list.map itemOf))) (by rw [ru3V,if_pos h3]) (by simp)]
    ·rw [if_neg h3,nz_zero (by rw [ru3V,if_neg h3]),rulesI_eq]
     cases firstI (ru1 (itsOf list) (Nm.foldS apex)) (itsOf list) with
     |some i=>simp [firstNZ,soaV]
     |none=>
      simp only
      cases hasI (itsOf list) (Nm.foldS apex) 6 with
      |false=>simp [firstNZ,soaV]
      |true=>
       rw [nz_zero (show soaV none true=(0,0) from rfl)];simp only [Bool.not_true,Bool.false_eq_true,if_false]
       cases hasI (itsOf list) (Nm.foldS apex) 2 with
       |false=>simp [firstNZ]
       |true=>
        rw [nz_zero (show(if true=true then((0:Int),(0:Int)) else(21,-1))=(0,0) from rfl)];simp only [Bool.not_true,Bool.false_eq_true,if_false]
        cases firstI (fun _ x=>ru2 x) (itsOf list) with
        |some i=>simp [firstNZ,rVal]
        |none=>
         rw [nz_zero (show rVal none 26=(0,0) from rfl)];simp only
         cases firstI (ru3 (itsOf list)) (itsOf list) with
         |some i=>simp [firstNZ,rVal]
         |none=>
          rw [nz_zero (show rVal none 23=(0,0) from rfl)];simp only
          cases firstI (fun _ x=>ru4 (itsOf list) x) (itsOf list) with
          |some i=>simp [firstNZ,rVal]
          |none=>
           rw [nz_zero (show rVal none 23=(0,0) from rfl)];simp only
           cases firstI (fun _ x=>ru5 (itsOf list) x) (itsOf list) with
           |some i=>simp [firstNZ,rVal]
           |none=>rw [nz_zero (show rVal none 25=(0,0) from rfl)];simp [firstNZ]
theorem nz_drop{rs:List (Int×Int)}{k:Nat}{r:Int×Int}(h:rs[k]? =some r):firstNZ (rs.drop k)=if r.1≠0 then r else firstNZ (rs.drop (k+1)):=by
 obtain⟨hk,e⟩:=List.getElem?_eq_some_iff.1 h;rw [List.drop_eq_getElem_cons hk,e,firstNZ]
theorem crow_outs{fp:List Nat}{w W:World}{v:Value}{n s:Nat}{cs:List Value}(h:Outs fp w W)(hc:CRow w v n s cs)(hn:0<n->∀ b,rowBlk v=some b->b∉fp):CRow W v n s cs:=by
 obtain⟨h0,a,cap,rfl,h1,h2,h3⟩:=hc;refine⟨h0,a,cap,rfl,h1,h2,fun hp=>?_⟩;obtain⟨b,off,rfl,hc⟩:=h3 hp;exact⟨b,off,rfl,fun i x hx=>outs_cell h (hc i x hx) (hn hp b rfl)⟩
def Ph(w:World)(bb:Nat)(lv:Value)(list:List Rr)(apex:ByteArray)(k:Nat)(W:World):Prop:=Outs [bb] w W∧match k with
 |0=>Blk W bb #[lv,.string apex,.slice none 0 0,.slice none 0 0,.pointer none,.slice none 0 0] 97
 |1=>∃ ys aa ac th,Nm.split apex=some ys∧list.length<=500∧Blk W bb #[lv,.string apex,.slice none 0 0,.slice aa ys.length ac,ptr th,.slice none 0 0] 97∧Blk W th #[cmpLv,.slice none 0 0] 149∧W.ownsRow w.heap.size 9 1 (.slice aa ys.length ac) ys.length (ys.map Value.string)∧w.heap.size<=th
 |2=>∃ ys aa ac th labv lvs B0,Nm.split apex=some ys∧list.length<=500∧Blk W bb #[lv,.string apex,labv,.slice aa ys.length ac,ptr th,.slice none 0 0] 97∧Blk W th #[cmpLv,.slice none 0 0] 149∧W.ownsRow w.heap.size 9 1 (.slice aa ys.length ac) ys.length (ys.map Value.string)∧w.heap.size<=th∧LbRow W B0 labv lvs (labsOf list)∧badOne apex list 0=none
 |_+3=>∃ th ys aa ac labv rv os kv ks B,P3 list apex bb lv th ys aa ac labv rv os kv ks B W
theorem outs_below{fp:List Nat}{w W W':World}(h:Outs fp w W)(hb:Below W.heap.size W W'):Outs fp w W':=h.trans (Outs.below (fp:=fp) hb) (fun k hk=>.inl hk)
def rsK(list:List Rr)(apex:ByteArray)(k:Nat):Int×Int:=((rsOf list apex)[k]?).getD (0,0)
def fnK(k:Nat):Nat:=(fnsOf[k]?).getD 0
theorem ph_step{w:World}{bb:Nat}{la:Option Addr}{lc:Nat}{list:List Rr}{apex:ByteArray}(h:CRow w (.slice la list.length lc) list.length 5 (rvVs list))(hfar:0<list.length->rowBlk (.slice la list.length lc)≠some bb)(hlt:0<list.length->∀ b,rowBlk (.slice la list.length lc)=some b->b<w.heap.size)(ha:apex.size<=maxLen)(ho:∀ r∈list,r.own.size<=1000000000∧r.da.size<=2000000)
 (k:Nat) (hk:k<9) (W:World) (hP:Ph w bb (.slice la list.length lc) list apex k W):
 Calls Tryz.prog (fnK k) #[.pointer (some ⟨bb,0,none⟩)] W fun e w'=>e=rsV (rsK list apex k).1 (rsK list apex k).2∧Outs [bb] w w'∧((rsK list apex k).1=0->Ph w bb (.slice la list.length lc) list apex (k+1) w'):=by
 have hnb:0<list.length->∀ b,rowBlk (.slice la list.length lc)=some b->b∉[bb]:=fun h0 b hb hm=>hfar h0 (by rw [hb,List.mem_singleton.1 hm])
 obtain⟨hO,hP⟩:=hP;have hcr:=crow_outs hO h hnb
 match k,hP with
 |0,hP=>
  refine(checkSize_any bb la list.length lc apex W hP ha).mono ?_;rintro e w' (⟨h1,rfl,hb⟩|⟨h1,h2,rfl,hb⟩|⟨ys,aa,ac,th,h1,h2,rfl,hOu,k1,k2,k3,k4⟩)
  ·have e1:rsK list apex 0=(32,-1):=by simp [rsK,rsOf,ru1V,h1]
   rw [e1];exact⟨rfl,outs_below hO hb,fun h=>by simp at h⟩
  ·have e1:rsK list apex 0=(12,-1):=by
    cases hs:Nm.split apex with
    |none=>exact absurd hs h1
    |some z=>simp [rsK,rsOf,ru1V,hs,h2]
   rw [e1];exact⟨rfl,outs_below hO hb,fun h=>by simp at h⟩
  ·have e1:rsK list apex 0=(0,0):=by simp [rsK,rsOf,ru1V,h1];omega
   rw [e1];have hO2:=hO.trans hOu (fun k hk=>.inl hk)
   exact⟨rfl,hO2,fun _=>⟨hO2,ys,aa,ac,th,h1,h2,k1,k2,own_base k3 hO.size,Nat.le_trans hO.size k4⟩⟩
 |1,⟨ys,aa,ac,th,h1,h2,k1,k2,k3,k4⟩=>
  refine(checkRecords_any bb la lc list apex ys aa ac (ptr th) W k1 hcr hfar h2 h1 (srow_own k3) (fun e=>own_nb k3 k1 (by decide) (by
   have:=rowBlk_own k3 e
   simpa using this)) (fun r hr=>⟨by have:=(ho r hr).1;unfold maxLen;omega,(ho r hr).2⟩)).mono ?_
  rintro e w' ⟨hOu,⟨c,i,hb,rfl⟩|⟨hb,rfl,labv,lvs,q1,q2⟩⟩
  ·have e1:rsK list apex 1=(c,(i:Int)):=by simp [rsK,rsOf,ru2V,hb]
   rw [e1];exact⟨rfl,hO.trans hOu (fun k hk=>.inl hk),fun h=>absurd h (bad_some _ _ _ _ hb)⟩
  ·have e1:rsK list apex 1=(0,0):=by simp [rsK,rsOf,ru2V,hb]
   rw [e1];have hO2:=hO.trans hOu (fun k hk=>.inl hk)
   have hthb:th∉[bb]:=fun hm=>by
    have h9:=blk_ne k2 k1 (by decide);exact h9 (List.mem_singleton.1 hm)
   exact⟨rfl,hO2,fun _=>⟨hO2,ys,aa,ac,th,labv,lvs,W.heap.size,h1,h2,q1,blk_outs k2 hOu hthb,own_outs k3 hOu (fun b hb2 hm=>own_nb k3 k1 (by decide) (by rw [<- List.mem_singleton.1 hb2];simpa using hm)),k4,q2,hb⟩⟩
 |2,⟨ys,aa,ac,th,labv,lvs,B0,h1,h2,k1,k2,k3,k4,k5,k6⟩=>
  have hok:=bad_none _ _ k6;refine(checkTimes_any bb th la lc list apex labv lvs (.slice aa ys.length ac) B0 W k1 hcr (fun h0 b hb=>⟨fun e=>hfar h0 (by rw [hb,e]),fun e=>by have:=hlt h0 b hb;omega⟩) h2 k5 k2 (fun r hr=>(one_ok (hok r hr)).1) ho).mono ?_;rintro e w' ⟨hOu,⟨hb,rfl⟩|⟨hb,rfl,hmix,rv,os,kv,ks,q1,q2⟩⟩
  ·have e1:rsK list apex 2=(24,badI (list.map itemOf)):=by simp [rsK,rsOf,ru3V,hb]
   rw [e1];refine⟨rfl,hO.trans hOu (fun k hk=>?_),fun h=>by simp at h⟩;simp at hk
   rcases hk with rfl|rfl
   ·exact .inl (by simp)
   ·exact .inr k4
  ·have e1:rsK list apex 2=(0,0):=by simp [rsK,rsOf,ru3V,hb]
   rw [e1]
   have hO2:Outs [bb] w w':=hO.trans hOu (fun k hk=>by
    simp at hk
    rcases hk with rfl|rfl
    ·exact .inl (by simp)
    ·exact .inr k4)
   have hav:=own_outs k3 hOu (fun b hb2 hm=>by
    simp at hb2
    rcases hb2 with rfl|rfl
    ·exact own_nb k3 k1 (by decide) (by simpa using hm)
    ·exact own_nb k3 k2 (by decide) (by simpa using hm))
   exact⟨rfl,hO2,fun _=>⟨hO2,th,ys,aa,ac,labv,rv,os,kv,ks,_,⟨q1,q2,h1,srow_own hav,h2,k6,hmix⟩⟩⟩
 |3,⟨th,ys,aa,ac,labv,rv,os,kv,ks,B,hP⟩=>
  exact(soa_P3 hP).mono fun e w' ⟨he,hb⟩=>⟨he,outs_below hO hb,fun _=>⟨outs_below hO hb,th,ys,aa,ac,labv,rv,os,kv,ks,B,hP.below hb⟩⟩
 |4,⟨th,ys,aa,ac,labv,rv,os,kv,ks,B,hP⟩=>
  exact(ns_P3 hP).mono fun e w' ⟨he,hb⟩=>⟨he,outs_below hO hb,fun _=>⟨outs_below hO hb,th,ys,aa,ac,labv,rv,os,kv,ks,B,hP.below hb⟩⟩
 |5,⟨th,ys,aa,ac,labv,rv,os,kv,ks,B,hP⟩=>
  exact(wild_P3 hP).mono fun e w' ⟨he,hb⟩=>⟨he,outs_below hO hb,fun _=>⟨outs_below hO hb,th,ys,aa,ac,labv,rv,os,kv,ks,B,hP.below hb⟩⟩
 |6,⟨th,ys,aa,ac,labv,rv,os,kv,ks,B,hP⟩=>
  exact(single_P3 hP).mono fun e w' ⟨he,hb⟩=>⟨he,outs_below hO hb,fun _=>⟨outs_below hO hb,th,ys,aa,ac,labv,rv,os,kv,ks,B,hP.below hb⟩⟩
 |7,⟨th,ys,aa,ac,labv,rv,os,kv,ks,B,hP⟩=>
  exact(alias_P3 hP).mono fun e w' ⟨he,hb⟩=>⟨he,outs_below hO hb,fun _=>⟨outs_below hO hb,th,ys,aa,ac,labv,rv,os,kv,ks,B,hP.below hb⟩⟩
 |8,⟨th,ys,aa,ac,labv,rv,os,kv,ks,B,hP⟩=>
  exact(below_P3 hP).mono fun e w' ⟨he,hb⟩=>⟨he,outs_below hO hb,fun _=>⟨outs_below hO hb,th,ys,aa,ac,labv,rv,os,kv,ks,B,hP.below hb⟩⟩
set_option maxRecDepth 100000 in
set_option maxHeartbeats 6400000 in
theorem build_any(bb:Nat)(la:Option Addr)(lc:Nat)(list:List Rr)(apex:ByteArray)(w:World)(hk:Blk w bb #[.slice la list.length lc,.string apex,.slice none 0 0,.slice none 0 0,.pointer none,.slice none 0 0] 97)(h:CRow w (.slice la list.length lc) list.length 5 (rvVs list))(hfar:0<list.length->rowBlk (.slice la list.length lc)≠some bb)(hlt:0<list.length->∀ b,rowBlk (.slice la list.length lc)=some b->b<w.heap.size)(ha:apex.size<=maxLen)(ho:∀ r∈list,r.own.size<=1000000000∧r.da.size<=2000000):
 Calls Tryz.prog 46 #[.pointer (some ⟨bb,0,none⟩)] w fun e w'=>e=rsV (bldE list apex).1 (bldE list apex).2∧Outs [bb] w w'∧((bldE list apex).1=0->∃ th ys aa ac labv rv os kv ks B,P3 list apex bb (.slice la list.length lc) th ys aa ac labv rv os kv ks B w'):=by
 have hbl:=blk_lt hk;obtain⟨cs,hcs⟩:∃ cs:Array Value,cs=#[.func (.func 74) #[.pointer (some ⟨bb,0,none⟩)] #[],.func (.func 75) #[.pointer (some ⟨bb,0,none⟩)] #[],.func (.func 76) #[.pointer (some ⟨bb,0,none⟩)] #[],.func (.func 77) #[.pointer (some ⟨bb,0,none⟩)] #[],.func (.func 78) #[.pointer (some ⟨bb,0,none⟩)] #[],.func (.func 79) #[.pointer (some ⟨bb,0,none⟩)] #[],.func (.func 80) #[.pointer (some ⟨bb,0,none⟩)] #[],.func (.func 81) #[.pointer (some ⟨bb,0,none⟩)] #[],.func (.func 82) #[.pointer (some ⟨bb,0,none⟩)] #[]]:=⟨_,rfl⟩;have kR:=blk_new w cs 98;have bR:=(Below.refl w.heap.size w).alloc (Nat.le_refl _) (.cells cs 98);have hst:=fun k hk W hP=>ph_step (h.below bR) hfar (fun h0 b hb=>by have:=hlt h0 b hb;simp;omega) ha ho k hk W hP
 have P0:Ph (w.alloc (.cells cs 98)) bb (.slice la list.length lc) list apex 0 (w.alloc (.cells cs 98)):=⟨Outs.below (Below.refl _ _),blk_below hk bR⟩;rw [bldE_nz];have hmf:∀ (fn:Fn) (first cap:Array Value) (w:World),(Instr.makeFunc fn first cap).run Tryz.prog w=.ok (.func fn first cap) w:=fun _ _ _ _=>rfl
 have HX:=Nm.hide (And.intro hst (And.intro P0 (And.intro kR bR)));have HCS:=Nm.hide hcs;clear h hfar hlt ho hk hst P0 kR bR hcs;go_enter Tryz.func46,Tryz.ntmps46;go_wp2
 -- LOOP
 go_loopw [30] (fun i wr=>∃ k:Nat,k<=9∧i=.int .i64 k∧firstNZ (rsOf list apex)=firstNZ ((rsOf list apex).drop k)∧Ph (w.alloc (.cells cs 98)) bb (.slice la list.length lc) list apex k wr) (fun i _=>9-(intOf i).toNat)
 case atStart=>
  refine⟨0,Nat.zero_le _,rfl,rfl,?_⟩;rw [HCS.out];have:=HX.out.2.1;rw [HCS.out] at this;exact this
 case round=>
  obtain⟨k,hk9,rfl,hnz,hP⟩:=hrel;have HNZ:=Nm.hide hnz;clear hnz
  have hou:Outs [bb] w wr:=by
   have h9:=(Outs.below (fp:=[bb]) HX.out.2.2.2).trans hP.1 (fun k hk=>.inl hk);exact h9
  by_cases hlt:k<9
  ·have hc:=HX.out.1 k hlt wr hP;have kRr:=blk_outs HX.out.2.2.1 hP.1 (fun hm=>by have:=List.mem_singleton.1 hm;omega);rw [HCS.out] at kRr
   have hgk:(rsOf list apex)[k]? =some (rsK list apex k):=by
    rw [rsK];have:k<(rsOf list apex).length:=by simp [rsOf];omega
    rw [List.getElem?_eq_getElem this];rfl
   have hdr:=nz_drop hgk;generalize rsK list apex k=RK at hc hgk hdr;obtain⟨C,I⟩:=RK;simp only at hc hdr
   have HD:=Nm.hide (And.intro hdr (And.intro hou hP));clear hgk hdr hou hP;have i1:(0:Int)<=(k:Int):=by omega
   have i2:(k:Int)<9:=by omega
   have hcase:k=0∨k=1∨k=2∨k=3∨k=4∨k=5∨k=6∨k=7∨k=8:=by omega
   rcases hcase with HKJ|HKJ|HKJ|HKJ|HKJ|HKJ|HKJ|HKJ|HKJ
   ·have cF:wr.cell? ⟨w.heap.size,k,none⟩=some (.func (.func 74) #[.pointer (some ⟨bb,0,none⟩)] #[]):=by rw [HKJ];exact(blk_cell kRr 0).trans rfl
    have ef:fnK k=74:=by rw [HKJ];rfl
    rw [ef] at hc;clear kRr ef HKJ
    by_cases hC:C=0
    ·subst hC;go_wp2_with (go_at_call 74;refine hc.mono ?_;rintro e w1 ⟨rfl,ho1,hp1⟩;unfold rsV)
     go_roundw
     case rel=>exact⟨k+1,by omega,by go_num,by rw [HNZ.out,HD.out.1];simp,hp1 trivial⟩
     case measure=>simp [intOf];omega
    ·have n0:(C != 0)=true:=by simpa using hC
     have H0:=Nm.hide hC;clear hC;go_wp2_with (go_at_call 74;refine hc.mono ?_;rintro e w1 ⟨rfl,ho1,hp1⟩;unfold rsV)
     go_ret2;rw [HNZ.out,HD.out.1,if_pos H0.out];exact⟨rfl,(Outs.below (fp:=[bb]) HX.out.2.2.2).trans ho1 (fun k hk=>.inl hk),fun h=>absurd h H0.out⟩
   ·have cF:wr.cell? ⟨w.heap.size,k,none⟩=some (.func (.func 75) #[.pointer (some ⟨bb,0,none⟩)] #[]):=by rw [HKJ];exact(blk_cell kRr 1).trans rfl
    have ef:fnK k=75:=by rw [HKJ];rfl
    rw [ef] at hc;clear kRr ef HKJ
    by_cases hC:C=0
    ·subst hC;go_wp2_with (go_at_call 75;refine hc.mono ?_;rintro e w1 ⟨rfl,ho1,hp1⟩;unfold rsV)
     go_roundw
     case rel=>exact⟨k+1,by omega,by go_num,by rw [HNZ.out,HD.out.1];simp,hp1 trivial⟩
     case measure=>simp [intOf];omega
    ·have n0:(C != 0)=true:=by simpa using hC
     have H0:=Nm.hide hC;clear hC;go_wp2_with (go_at_call 75;refine hc.mono ?_;rintro e w1 ⟨rfl,ho1,hp1⟩;unfold rsV)
     go_ret2;rw [HNZ.out,HD.out.1,if_pos H0.out];exact⟨rfl,(Outs.below (fp:=[bb]) HX.out.2.2.2).trans ho1 (fun k hk=>.inl hk),fun h=>absurd h H0.out⟩
   ·have cF:wr.cell? ⟨w.heap.size,k,none⟩=some (.func (.func 76) #[.pointer (some ⟨bb,0,none⟩)] #[]):=by rw [HKJ];exact(blk_cell kRr 2).trans rfl
    have ef:fnK k=76:=by rw [HKJ];rfl
    rw [ef] at hc;clear kRr ef HKJ
    by_cases hC:C=0
    ·subst hC;go_wp2_with (go_at_call 76;refine hc.mono ?_;rintro e w1 ⟨rfl,ho1,hp1⟩;unfold rsV)
     go_roundw
     case rel=>exact⟨k+1,by omega,by go_num,by rw [HNZ.out,HD.out.1];simp,hp1 trivial⟩
     case measure=>simp [intOf];omega
    ·have n0:(C != 0)=true:=by simpa using hC
     have H0:=Nm.hide hC;clear hC;go_wp2_with (go_at_call 76;refine hc.mono ?_;rintro e w1 ⟨rfl,ho1,hp1⟩;unfold rsV)
     go_ret2;rw [HNZ.out,HD.out.1,if_pos H0.out];exact⟨rfl,(Outs.below (fp:=[bb]) HX.out.2.2.2).trans ho1 (fun k hk=>.inl hk),fun h=>absurd h H0.out⟩
   ·have cF:wr.cell? ⟨w.heap.size,k,none⟩=some (.func (.func 77) #[.pointer (some ⟨bb,0,none⟩)] #[]):=by rw [HKJ];exact(blk_cell kRr 3).trans rfl
    have ef:fnK k=77:=by rw [HKJ];rfl
    rw [ef] at hc;clear kRr ef HKJ
    by_cases hC:C=0
    ·subst hC;go_wp2_with (go_at_call 77;refine hc.mono ?_;rintro e w1 ⟨rfl,ho1,hp1⟩;unfold rsV)
     go_roundw
     case rel=>exact⟨k+1,by omega,by go_num,by rw [HNZ.out,HD.out.1];simp,hp1 trivial⟩
     case measure=>simp [intOf];omega
    ·have n0:(C != 0)=true:=by simpa using hC
     have H0:=Nm.hide hC;clear hC;go_wp2_with (go_at_call 77;refine hc.mono ?_;rintro e w1 ⟨rfl,ho1,hp1⟩;unfold rsV)
     go_ret2;rw [HNZ.out,HD.out.1,if_pos H0.out];exact⟨rfl,(Outs.below (fp:=[bb]) HX.out.2.2.2).trans ho1 (fun k hk=>.inl hk),fun h=>absurd h H0.out⟩
   ·have cF:wr.cell? ⟨w.heap.size,k,none⟩=some (.func (.func 78) #[.pointer (some ⟨bb,0,none⟩)] #[]):=by rw [HKJ];exact(blk_cell kRr 4).trans rfl
    have ef:fnK k=78:=by rw [HKJ];rfl
    rw [ef] at hc;clear kRr ef HKJ
    by_cases hC:C=0
    ·subst hC;go_wp2_with (go_at_call 78;refine hc.mono ?_;rintro e w1 ⟨rfl,ho1,hp1⟩;unfold rsV)
     go_roundw
     case rel=>exact⟨k+1,by omega,by go_num,by rw [HNZ.out,HD.out.1];simp,hp1 trivial⟩
     case measure=>simp [intOf];omega
    ·have n0:(C != 0)=true:=by simpa using hC
     have H0:=Nm.hide hC;clear hC;go_wp2_with (go_at_call 78;refine hc.mono ?_;rintro e w1 ⟨rfl,ho1,hp1⟩;unfold rsV)
     go_ret2;rw [HNZ.out,HD.out.1,if_pos H0.out];exact⟨rfl,(Outs.below (fp:=[bb]) HX.out.2.2.2).trans ho1 (fun k hk=>.inl hk),fun h=>absurd h H0.out⟩
   ·have cF:wr.cell? ⟨w.heap.size,k,none⟩=some (.func (.func 79) #[.pointer (some ⟨bb,0,none⟩)] #[]):=by rw [HKJ];exact(blk_cell kRr 5).trans rfl
    have ef:fnK k=79:=by rw [HKJ];rfl
    rw [ef] at hc;clear kRr ef HKJ
    by_cases hC:C=0
    ·subst hC;go_wp2_with (go_at_call 79;refine hc.mono ?_;rintro e w1 ⟨rfl,ho1,hp1⟩;unfold rsV)
     go_roundw
     case rel=>exact⟨k+1,by omega,by go_num,by rw [HNZ.out,HD.out.1];simp,hp1 trivial⟩
     case measure=>simp [intOf];omega
    ·have n0:(C != 0)=true:=by simpa using hC
     have H0:=Nm.hide hC;clear hC;go_wp2_with (go_at_call 79;refine hc.mono ?_;rintro e w1 ⟨rfl,ho1,hp1⟩;unfold rsV)
     go_ret2;rw [HNZ.out,HD.out.1,if_pos H0.out];exact⟨rfl,(Outs.below (fp:=[bb]) HX.out.2.2.2).trans ho1 (fun k hk=>.inl hk),fun h=>absurd h H0.out⟩
   ·have cF:wr.cell? ⟨w.heap.size,k,none⟩=some (.func (.func 80) #[.pointer (some ⟨bb,0,none⟩)] #[]):=by rw [HKJ];exact(blk_cell kRr 6).trans rfl
    have ef:fnK k=80:=by rw [HKJ];rfl
    rw [ef] at hc;clear kRr ef HKJ
    by_cases hC:C=0
    ·subst hC;go_wp2_with (go_at_call 80;refine hc.mono ?_;rintro e w1 ⟨rfl,ho1,hp1⟩;unfold rsV)
     go_roundw
     case rel=>exact⟨k+1,by omega,by go_num,by rw [HNZ.out,HD.out.1];simp,hp1 trivial⟩
     case measure=>simp [intOf];omega
    ·have n0:(C != 0)=true:=by simpa using hC
     have H0:=Nm.hide hC;clear hC;go_wp2_with (go_at_call 80;refine hc.mono ?_;rintro e w1 ⟨rfl,ho1,hp1⟩;unfold rsV)
     go_ret2;rw [HNZ.out,HD.out.1,if_pos H0.out];exact⟨rfl,(Outs.below (fp:=[bb]) HX.out.2.2.2).trans ho1 (fun k hk=>.inl hk),fun h=>absurd h H0.out⟩
   ·have cF:wr.cell? ⟨w.heap.size,k,none⟩=some (.func (.func 81) #[.pointer (some ⟨bb,0,none⟩)] #[]):=by rw [HKJ];exact(blk_cell kRr 7).trans rfl
    have ef:fnK k=81:=by rw [HKJ];rfl
    rw [ef] at hc;clear kRr ef HKJ
    by_cases hC:C=0
    ·subst hC;go_wp2_with (go_at_call 81;refine hc.mono ?_;rintro e w1 ⟨rfl,ho1,hp1⟩;unfold rsV)
     go_roundw
     case rel=>exact⟨k+1,by omega,by go_num,by rw [HNZ.out,HD.out.1];simp,hp1 trivial⟩
     case measure=>simp [intOf];omega
    ·have n0:(C != 0)=true:=by simpa using hC
     have H0:=Nm.hide hC;clear hC;go_wp2_with (go_at_call 81;refine hc.mono ?_;rintro e w1 ⟨rfl,ho1,hp1⟩;unfold rsV)
     go_ret2;rw [HNZ.out,HD.out.1,if_pos H0.out];exact⟨rfl,(Outs.below (fp:=[bb]) HX.out.2.2.2).trans ho1 (fun k hk=>.inl hk),fun h=>absurd h H0.out⟩
   ·have cF:wr.cell? ⟨w.heap.size,k,none⟩=some (.func (.func 82) #[.pointer (some ⟨bb,0,none⟩)] #[]):=by rw [HKJ];exact(blk_cell kRr 8).trans rfl
    have ef:fnK k=82:=by rw [HKJ];rfl
    rw [ef] at hc;clear kRr ef HKJ
    by_cases hC:C=0
    ·subst hC;go_wp2_with (go_at_call 82;refine hc.mono ?_;rintro e w1 ⟨rfl,ho1,hp1⟩;unfold rsV)
     go_roundw
     case rel=>exact⟨k+1,by omega,by go_num,by rw [HNZ.out,HD.out.1];simp,hp1 trivial⟩
     case measure=>simp [intOf];omega
    ·have n0:(C != 0)=true:=by simpa using hC
     have H0:=Nm.hide hC;clear hC;go_wp2_with (go_at_call 82;refine hc.mono ?_;rintro e w1 ⟨rfl,ho1,hp1⟩;unfold rsV)
     go_ret2;rw [HNZ.out,HD.out.1,if_pos H0.out];exact⟨rfl,(Outs.below (fp:=[bb]) HX.out.2.2.2).trans ho1 (fun k hk=>.inl hk),fun h=>absurd h H0.out⟩
  ·have hke:k=9:=by omega
   subst hke;have e9:firstNZ (rsOf list apex)=(0,0):=by rw [HNZ.out];rfl
   have HE9:=Nm.hide e9;clear e9;go_wp2;go_ret2;rw [HE9.out];exact⟨rfl,hou,fun _=>hP.2⟩
def eqSz(a b:Sz):Bool:=decide (a.own=b.own)&&decide (a.ty=b.ty)&&decide (a.tt=b.tt)&&decide (a.da=b.da)
theorem eqSz_iff{a b:Sz}:eqSz a b=true↔a=b:=by
 obtain⟨a1,a2,a3,a4⟩:=a;obtain⟨b1,b2,b3,b4⟩:=b;simp only [eqSz,Bool.and_eq_true,decide_eq_true_eq,Sz.mk.injEq];constructor
 ·rintro⟨⟨⟨h1,h2⟩,h3⟩,h4⟩;exact⟨h1,h2,h3,h4⟩
 ·rintro⟨h1,h2,h3,h4⟩;exact⟨⟨⟨h1,h2⟩,h3⟩,h4⟩
def eqZs:List Sz->List Sz->Bool
 |[],[]=>true
 |a::xs,b::ys=>eqSz a b&&eqZs xs ys
 |_,_=>false
theorem eqZs_iff:∀ {xs ys:List Sz},eqZs xs ys=true↔xs=ys
 |[],[]=>by simp [eqZs]
 |[],b::ys=>by simp [eqZs]
 |a::xs,[]=>by simp [eqZs]
 |a::xs,b::ys=>by
  rw [eqZs,Bool.and_eq_true,eqSz_iff,eqZs_iff];simp
theorem eqZs_all{xs ys:List Sz}(hl:xs.length=ys.length)(h:∀ (j:Nat) (a b:Sz),xs[j]? =some a->ys[j]? =some b->a=b):eqZs xs ys=true:=by
 rw [eqZs_iff];apply List.ext_getElem?;intro j
 by_cases hj:j<xs.length
 ·have h1:xs[j]? =some xs[j]:=List.getElem?_eq_getElem hj;have h2:ys[j]? =some ys[j]:=List.getElem?_eq_getElem (by omega);rw [h1,h2,h j _ _ h1 h2]
 ·rw [List.getElem?_eq_none (by omega),List.getElem?_eq_none (by omega)]
theorem eqZs_not{xs ys:List Sz}{j:Nat}{a b:Sz}(h1:xs[j]? =some a)(h2:ys[j]? =some b)(h:eqSz a b=false):eqZs xs ys=false:=by
 cases hq:eqZs xs ys with
 |false=>rfl
 |true=>
  rw [eqZs_iff] at hq;subst hq;rw [h1] at h2;obtain rfl:=Option.some.inj h2;rw [eqSz_iff.2 rfl] at h;cases h
theorem eqZs_len{xs ys:List Sz}(h:xs.length≠ys.length):eqZs xs ys=false:=by
 cases hq:eqZs xs ys with
 |false=>rfl
 |true=>rw [eqZs_iff] at hq;subst hq;exact absurd rfl h
def zOK(ps:List Zp)(o:ByteArray):Bool:=decide ((bldE (zoneRecs ps) o).1=0)&&eqZs (bldZ (zoneRecs ps)) (ps.map (·.1))
theorem bldE_nil(o:ByteArray):(bldE [] o).1≠0:=by
 rw [bldE];split
 ·decide
 ·rw [if_neg (by simp)];have h1:badOne o [] 0=none:=rfl;have h2:badI ([].map itemOf)= -1:=rfl;rw [h1];simp only
  rw [h2,if_neg (by decide)];have h3:rulesI (itsOf []) (Nm.foldS o)=(20,-1):=rfl;rw [h3];decide
theorem zOK_big{ps:List Zp}{o:ByteArray}(h:500<ps.length∨500<dsum ps):zOK ps o=false:=by
 rw [zOK,zoneRecs,if_pos h,decide_eq_false (bldE_nil o)];rfl
theorem zOK_recs{ps:List Zp}{o:ByteArray}(h:zOK ps o=true):(bldE (zoneRecs ps) o).1=0∧bldZ (zoneRecs ps)=ps.map (·.1):=by
 simp only [zOK,Bool.and_eq_true,decide_eq_true_eq] at h;exact⟨h.1,eqZs_iff.1 h.2⟩
theorem recs_fit{ps:List Zp}{N:Nat}(h:∀ p∈ps,p.1.own.size<=N∧∀ x∈p.1.da,x.size<=N):∀ r∈zoneRecs ps,r.own.size<=N∧r.da.size<=N:=by
 intro r hr;unfold zoneRecs at hr
 split at hr
 ·cases hr
 ·simp only [recsAll,recsOf,List.mem_flatMap,List.mem_map] at hr;obtain⟨p,hp,d,hd,rfl⟩:=hr;exact⟨(h p hp).1,(h p hp).2 d hd⟩
theorem under_self{a b:List ByteArray}(h:Nm.cmpLs a b=0):underB a b=true:=by
 rw [underB_same h (b:=b) (b':=b) ((cmpLs_zero _ _).2 rfl),underB];simp [(cmpLs_zero b b).2 rfl]
def joB(ls:List ByteArray):ByteArray:=⟨(Nm.joinL ls).toArray⟩
theorem split_jo{s:ByteArray}{ls:List ByteArray}(h:Nm.split s=some ls):joB ls=s:=by
 rw [joB,(Nm.split_join h).1]
def Gl(ls:List ByteArray):Prop:=(∀ x∈ls,1<=x.size∧x.size<=63)∧Nm.wsum ls<=254
theorem gl_split{s:ByteArray}{ls:List ByteArray}(h:Nm.split s=some ls):Gl ls:=⟨(Nm.split_join h).2,by have:=Nm.split_size h;omega⟩
theorem Gl.drop{ls:List ByteArray}(h:Gl ls)(k:Nat):Gl (ls.drop k):=⟨drop_ok h.1 k,Nat.le_trans (Nm.wsum_drop_le ls k) h.2⟩
theorem Gl.jo{ls:List ByteArray}(h:Gl ls):Nm.split (joB ls)=some ls:=split_of_join h.1 h.2
theorem Gl.tail{x:ByteArray}{ls:List ByteArray}(h:Gl (x::ls)):Gl ls:=h.drop 1
theorem jo_size{ls:List ByteArray}(h:Gl ls):(joB ls).size<=255:=by
 have h1:=h.2;have h2:=Nm.joinL_length ls;simp [joB,ByteArray.size]
 omega
theorem jo_inj{a b:List ByteArray}(ha:Gl a)(hb:Gl b)(h:joB a=joB b):a=b:=by
 have h1:=ha.jo;rw [h,hb.jo] at h1;exact(Option.some.inj h1).symm
theorem under_iff{a b:List ByteArray}:underB a b=true↔b.length<=a.length∧Nm.cmpLs (a.drop (a.length-b.length)) b=0:=by
 rw [underB];simp
theorem under_drop{a b:List ByteArray}(h:underB a b=true){k:Nat}(hk:k+b.length<=a.length):underB (a.drop k) b=true:=by
 obtain⟨h1,h2⟩:=under_iff.1 h;refine under_iff.2 ⟨by simp;omega,?_⟩;rw [List.drop_drop,List.length_drop,show k+(a.length-k-b.length)=a.length-b.length by omega];exact h2
theorem apex_in{ps:List Zp}{o:ByteArray}{al:List ByteArray}(hz:zOK ps o=true)(ha:Nm.split o=some al):∃ p∈ps,∃ xs,Nm.split p.1.own=some xs∧Nm.cmpLs xs al=0:=by
 have h0:=(zOK_recs hz).1;rw [bldE,if_neg (by rw [ha];simp)] at h0
 split at h0
 ·exact absurd h0 (by simp)
 ·cases hb:badOne o (zoneRecs ps) 0 with
  |some c=>rw [hb] at h0;exact absurd h0 (bad_some _ _ c.1 c.2 hb)
  |none=>
   rw [hb] at h0;simp only at h0
   split at h0
   ·exact absurd h0 (by simp)
   ·split at h0
    ·rename_i h1;exact absurd h0 h1
    ·rename_i h1;have h1:(rulesI (itsOf (zoneRecs ps)) (Nm.foldS o)).1=0:=by simpa using h1
     have hg:∀ y∈(zoneRecs ps).map itemOf,GoodI y:=by
      intro y hy;obtain⟨r,hr,rfl⟩:=List.mem_map.1 hy;exact good_item (one_ok (bad_none _ _ hb r hr)).1
     have h6:hasI (itsOf (zoneRecs ps)) (Nm.foldS o) 6=true:=by
      rw [rulesI] at h1
      split at h1
      ·exact absurd h1 (by simp)
      ·split at h1
       ·exact absurd h1 (by simp)
       ·rename_i h2;simpa using h2
     obtain⟨y,hy,e1,-⟩:=(hasI_all hg _ _).1 h6;have hgy:=hg y hy;obtain⟨r,hr,rfl⟩:=List.mem_map.1 hy;rw [zoneRecs] at hr
     split at hr
     ·cases hr
     ·obtain⟨p,hp,hr⟩:=List.mem_flatMap.1 hr;obtain⟨d,-,rfl⟩:=List.mem_map.1 hr;have hs:Nm.split p.1.own=some _:=hgy.1;exact⟨p,hp,_,hs,(fold_lab hs ha).1 e1⟩
structure TZ (os:List GOw) (o:ByteArray) (al:List ByteArray):Prop where
 nm:∀ q∈os,Nm.split q.nm=some q.lab
 und:∀ q∈os,underB q.lab al=true
 one:∀ q∈os,∀ r∈os,Nm.cmpLs q.lab r.lab=0->q=r
 srt:OwS os∧∀ q∈os,SeS q.ss
 full:∀ q∈os,∃ s,s∈q.ss
 ap:Nm.split o=some al
 top:∃ q∈os,Nm.cmpLs q.lab al=0
theorem tz_of{ps:List Zp}{o:ByteArray}{al:List ByteArray}{l:List It}{os:List GOw}(hT:TInv l os)(hl:∀ y∈l,GoodI y)(hu:∀ y∈l,isUnderS y.r.own o=true)(ha:Nm.split o=some al)(hz:zOK ps o=true)(hzs:ps.map (·.1)=zoneT os):TZ os o al:=by
 have hnm:=fun q (hq:q∈os)=>hT.nm hl hq
 refine⟨hnm,fun q hq=>?_,fun q hq r hr e=>hT.one hq hr e,⟨hT.sorted.1,fun q hq=>(hT.sorted.2 q hq).1⟩,fun q hq=>?_,ha,?_⟩
 ·obtain⟨i,x,hF,h1,h2⟩:=hT.own q hq;have:=hu x hF.mem;rw [<- h1,isUnder_some (hnm q hq) ha] at this;exact this
 ·obtain⟨i,x,hF,h1,h2⟩:=hT.own q hq;obtain⟨q2,hq2,h3,s,hs,-⟩:=hT.cov x hF.mem;have h4:Nm.cmpLs (labI x) q.lab=0:=hF.2.1;have h5:Nm.cmpLs (labI x) q2.lab=0:=h3;have e:=hT.one hq hq2 (by rw [cmpLs_eq_left (cmpLs_symm h4)];exact h5);rw [e];exact⟨s,hs⟩
 ·obtain⟨p,hp,xs,h1,h2⟩:=apex_in hz ha;have hm:p.1∈zoneT os:=by rw [<- hzs];exact List.mem_map_of_mem hp
  obtain⟨g,hg,e⟩:=List.mem_map.1 hm;have hg1:=(grT_mem.1 hg).1;refine⟨g.1,hg1,?_⟩;have h3:=hnm g.1 hg1;rw [<- e] at h1;have h4:Nm.split g.1.nm=some xs:=h1;rw [h3] at h4;rw [Option.some.inj h4];exact h2
def thT(lab:List ByteArray)(os:List GOw):Bool:=match os[posOf (oCmp lab) os]? with
 |some o=>underB o.lab lab
 |none=>false
theorem thT_iff{os:List GOw}(h:OwS os)(lab:List ByteArray):thT lab os=true↔ ∃ o∈os,underB o.lab lab=true:=by
 have hmono:=mono_of_pair (f:=oCmp lab) h (fun a b hab hb=>cmpLs_lt_trans hab hb);obtain⟨f1,f2,f3⟩:=posOf_fnd os hmono;rw [thT];constructor
 ·cases hq:os[posOf (oCmp lab) os]? with
  |none=>intro h;cases h
  |some o=>intro hu;exact⟨o,List.mem_of_getElem? hq,hu⟩
 ·rintro⟨o,ho,hu⟩
  obtain⟨k,hk⟩:=List.getElem?_of_mem ho;have hkl:=List.getElem?_eq_some_iff.1 hk;have hle:=under_le hu
  have hkp:posOf (oCmp lab) os<=k:=by
   rcases Nat.lt_or_ge k (posOf (oCmp lab) os) with h1|h1
   ·have:=f2 k h1;rw [cfOf_at hk,oCmp] at this;have h2:=cmpLs_anti lab o.lab;omega
   ·exact h1
  have hpl:posOf (oCmp lab) os<os.length:=by have:=hkl.1;omega
  have hq:os[posOf (oCmp lab) os]? =some os[posOf (oCmp lab) os]:=List.getElem?_eq_getElem hpl;have hge:=f3 _ (Nat.le_refl _) hpl;rw [cfOf_at hq,oCmp] at hge;rw [hq];show underB _ lab=true
  rcases Nat.lt_or_eq_of_le hkp with h1|h1
  ·have hlt:=List.pairwise_iff_getElem.1 h _ k hpl hkl.1 h1;rw [hkl.2] at hlt
   rcases Int.lt_or_le 0 (Nm.cmpLs os[posOf (oCmp lab) os].lab lab) with h2|h2
   ·exact under_mid hu (by have:=cmpLs_anti lab os[posOf (oCmp lab) os].lab;omega) hlt
   ·exact under_self (by omega)
  ·have:os[posOf (oCmp lab) os]=o:=by
    rw [<- hkl.2];congr 1
   rw [this];exact hu
set_option maxRecDepth 100000 in
set_option maxHeartbeats 800000 in
theorem isThere_any(bb oo th:Nat)(rv:Value)(os:List GOw)(B:Nat)(na:Option Addr)(nl nc:Nat)(lab:List ByteArray)(w:World)(h:TrAt w B th rv os)(hl:os.length<=500000)(hd:TrS os)(hLab:LabAt w (fpT th rv os) os)(hn:Nm.SRow w (.slice na nl nc) lab)(hnl:lab.length<=1000000000)(hc:w.cell? ⟨bb,oo+1,none⟩=some (ptr th))(hbb:bb<w.heap.size):
 Calls Tryz.prog 89 #[.pointer (some ⟨bb,oo,none⟩),.slice na nl nc] w fun e w'=>e=.returned (.bool (thT lab os))∧Below w.heap.size w w':=by
 have hdl:(owRs os).length=os.length:=by simp [owRs]
 have hcf:∀ (tb i:Nat) (p:Value×Value),(owRs os)[i]? =some p->∀ W,Below w.heap.size w W->Blk W tb #[.pointer (some ⟨th,0,none⟩)] 92->Calls Tryz.prog 125 #[.agg #[p.1,p.2],.slice na nl nc,.pointer (some ⟨tb,0,none⟩)] W fun e w'=>e=.returned (.int .i64 (cfOf (oCmp lab) os i))∧Below W.heap.size W w':=by
  intro tb i p hp W hW kb;simp only [owRs,List.getElem?_map,Option.map_eq_some_iff] at hp;obtain⟨q,hq,rfl⟩:=hp;rw [cfOf_at hq];have hq2:=hLab q (List.mem_of_getElem? hq);exact place1L_any tb th rv (ptr q.blk) q.lv (.slice na nl nc) q.lab lab W kb (blk_below h.head hW) (hq2.row.below hW) (hn.below hW) hq2.fit.1 hq2.fit.2 hnl
 have hmono:=mono_of_pair (f:=oCmp lab) hd.1 (fun a b hab hb=>cmpLs_lt_trans hab hb);have hfnd:=posOf_fnd os hmono;have hrow:CRow w rv (owRs os).length 2 (rowCs (owRs os)):=CRow.of_owns h.rows;have hpl:=placeL_any th cmpLv rv (.slice na nl nc) (owRs os) (cfOf (oCmp lab) os) w h.head hrow (by omega) hcf (by rw [hdl];exact hmono);rw [hdl] at hpl;have HU:Hid (∀ (q:GOw) (hq:q∈os) W (hW:Below w.heap.size w W),Calls Tryz.prog 51 #[q.lv,.slice na nl nc] W fun e w'=>e=.returned (.bool (underB q.lab lab))∧Below W.heap.size W w'):=fun q hq W hW=>(under_any q.lv (.slice na nl nc) q.lab lab W ((hLab q hq).row.below hW) (hn.below hW) (hLab q hq).fit.1 (hLab q hq).fit.2 hnl).mono (by rintro e w' ⟨he,m,rfl⟩;exact⟨he,Go.below_drewN (Below.refl _ _) _⟩)
 have HV:Hid (∀ q∈os,∃ a n c,q.lv=.slice a n c):=fun q hq=>by obtain⟨a,c,e,_⟩:=(hLab q hq).row;exact⟨a,_,c,e⟩
 have HR:=Nm.hide (fun W (hW:Below w.heap.size w W)=>And.intro (blk_below h.head hW) (hrow.below hW));have HC:Hid (∀ W,Below w.heap.size w W->W.cell? ⟨bb,oo+1,none⟩=some (ptr th)):=fun W hW=>by rw [<- hc];exact hW.cell (p:=⟨bb,oo+1,none⟩) hbb
 have HF:=Nm.hide hfnd;unfold ptr at hc HC;clear h hd hLab hn hcf hmono hfnd hrow;go_enter Tryz.func89,Tryz.ntmps89;go_wp2_with fail
 refine hpl.mono ?_;rintro e w1 ⟨k,hk,rfl,b1⟩;have hkk:k=posOf (oCmp lab) os:=Fnd.unique hk HF.out;have HT:Hid (thT lab os=match os[k]? with|some o=>underB o.lab lab|none=>false):=by show _=_;rw [thT,hkk]
 obtain⟨kh,kr⟩:=HR.out w1 b1;have hc1:=HC.out w1 b1;have rh:=fun i=>blk_cell kh i
 obtain⟨_,ra,rc,rfl,_,_,hrc⟩:=kr;rw [hdl] at*;have n0:(0:Int)<=(k:Int):=by omega
 generalize (decide (k<os.length)&&decide (cfOf (oCmp lab) os k=0))=FB at*;clear hpl hk hkk HF hc kh
 by_cases hlt:k<os.length
 ·obtain⟨q,hq⟩:∃ q,os[k]? =some q:=⟨_,List.getElem?_eq_getElem hlt⟩;have hqm:=List.mem_of_getElem? hq;obtain⟨b,off,rfl,hcell⟩:=hrc (by omega);have d0:=hcell (k*2) _ ((rowCs_at (owRs os) k 0 (q.lv,ptr q.blk) (by simp [owRs,hq]) (by decide)).trans rfl);have hun:=HU.out q hqm w1 b1;obtain⟨qa,qn,qc,hqv⟩:=HV.out q hqm;rw [hqv] at d0 hun;have n2:(k:Int)<(os.length:Int):=by omega
  have HE:Hid (thT lab os=underB q.lab lab):=by show _=_;rw [HT.out,hq]
  generalize underB q.lab lab=UB at*;clear hcell hrc hq hqv HT HU HV hqm HR HC;go_wp2_with fail
  refine hun.mono ?_;rintro e w2 ⟨rfl,b2⟩;go_wp2;go_ret;exact⟨by rw [HE.out];rfl,Nm.below_two b1 b2⟩
 ·have n2:(os.length:Int)<=(k:Int):=by omega
  have HE:Hid (thT lab os=false):=by show _=_;rw [HT.out,List.getElem?_eq_none (by omega)]
  clear hrc HT HU HV HR HC;go_wp2;go_ret;exact⟨by rw [HE.out];rfl,b1⟩
def cloT(os:List GOw):List ByteArray->List ByteArray
 |[]=>[]
 |x::xs=>if thT (x::xs) os=true then x::xs else cloT os xs
theorem clo_stop{os:List GOw}{y:List ByteArray}(h:thT y os=true):cloT os y=y:=by
 cases y with
 |nil=>rfl
 |cons x xs=>rw [cloT,if_pos h]
theorem clo_go{os:List GOw}{y:List ByteArray}(h:thT y os=false)(hex:∃ j,j<=y.length∧thT (y.drop j) os=true):0<y.length∧cloT os y=cloT os (y.drop 1)∧∃ j,j<=(y.drop 1).length∧thT ((y.drop 1).drop j) os=true:=by
 obtain⟨j,hj,ht⟩:=hex
 cases j with
 |zero=>rw [List.drop_zero,h] at ht;cases ht
 |succ j=>
  cases y with
  |nil=>simp at hj
  |cons x xs=>
   refine⟨by simp,?_,j,by simpa using hj,by simpa using ht⟩;rw [cloT,if_neg (by rw [h];decide)];rfl
def slLenT:Value->Nat
 |.slice _ k _=>k
 |_=>0
theorem srow_oneT{w:World}{b off n cap:Nat}{y:List ByteArray}(h:Nm.SRow w (.slice (some ⟨b,off,none⟩) n cap) y)(hn:0<n):n=y.length∧n<=cap∧(cap=1->Nm.SRow w (.slice (some ⟨b,off,none⟩) 0 0) (y.drop 1))∧Nm.SRow w (.slice (some ⟨b,off+1,none⟩) (n-1) (cap-1)) (y.drop 1):=by
 have e:n=y.length:=by
  obtain⟨a',cap',e,_⟩:=h;simp only [Value.slice.injEq] at e;exact e.2.1
 have hc:n<=cap:=by
  obtain⟨a',cap',e2,h1,_⟩:=h;simp only [Value.slice.injEq] at e2;omega
 subst e;refine⟨rfl,hc,fun hcap=>?_,h.drop (k:=1) (by omega)⟩;have:=h.drop_all hcap;rw [show y.length-1=0 by omega] at this;exact this
theorem srow_atT{w:World}{v:Value}{y:List ByteArray}(h:Nm.SRow w v y)(hy:0<y.length):∃ b off cap,v=.slice (some ⟨b,off,none⟩) y.length cap:=by
 obtain⟨a,cap,rfl,_,_,_,hc⟩:=h;obtain⟨b,off,rfl,_⟩:=hc (by intro e;subst e;simp at hy);exact⟨b,off,cap,rfl⟩
set_option maxRecDepth 100000 in
set_option maxHeartbeats 800000 in
theorem treeClosest_any(bb oo th:Nat)(rv:Value)(os:List GOw)(B:Nat)(nv:Value)(lab:List ByteArray)(w:World)(h:TrAt w B th rv os)(hl:os.length<=500000)(hd:TrS os)(hLab:LabAt w (fpT th rv os) os)(hn:Nm.SRow w nv lab)(hnl:lab.length<=1000)(hc:w.cell? ⟨bb,oo+1,none⟩=some (ptr th))(hbb:bb<w.heap.size)(hex:∃ j,j<=lab.length∧thT (lab.drop j) os=true):
 Calls Tryz.prog 52 #[.pointer (some ⟨bb,oo,none⟩),nv] w fun e w'=>∃ v,e=.returned v∧Nm.SRow w' v (cloT os lab)∧Below w.heap.size w w':=by
 have HI:Hid (∀ W,Below w.heap.size w W->∀ a n c y,Nm.SRow W (.slice a n c) y->y.length<=1000->Calls Tryz.prog 89 #[.pointer (some ⟨bb,oo,none⟩),.slice a n c] W fun e w'=>e=.returned (.bool (thT y os))∧Below W.heap.size W w'):=fun W hW a n c y hy hyl=>isThere_any bb oo th rv os B a n c y W (h.below hW) hl hd (fun o ho=>(hLab o ho).outs (Outs.below hW) (fun b hb=>.inl hb)) hy (by omega) (by rw [<- hc];exact hW.cell (p:=⟨bb,oo+1,none⟩) hbb) (by have:=hW.size;omega)
 obtain⟨R,hR⟩:∃ R,R=cloT os lab:=⟨_,rfl⟩;rw [<- hR];have HS:=Nm.hide (And.intro hn (And.intro hR.symm hex));obtain⟨na,nc,rfl,_⟩:=hn;clear h hd hLab hc hex hR;go_enter Tryz.func52,Tryz.ntmps52;go_wp2
 go_loopw [1] (fun v wr=>∃ y:List ByteArray,Nm.SRow wr v y∧y.length<=1000∧cloT os y=R∧(∃ j,j<=y.length∧thT (y.drop j) os=true)∧Below w.heap.size w wr) (fun v _=>slLenT v)
 case atStart=>exact⟨_,HS.out.1,hnl,HS.out.2.1,HS.out.2.2,Below.refl _ _⟩
 case round=>
  obtain⟨y,hy,hyl,hyR,hyx,hbel⟩:=hrel;have HY:=Nm.hide (And.intro hyR hyx);have HY2:=Nm.hide hy;obtain⟨ya,yc,rfl,_⟩:=hy;have hit:=HI.out _ hbel _ _ _ y HY2.out hyl;clear hyR hyx
  cases hU:thT y os with
  |true=>
   rw [hU] at hit;have HN:=Nm.hide (clo_stop hU);clear hU;go_wp2_with fail
   refine hit.mono ?_;rintro e w1 ⟨rfl,b1⟩;go_wp2;go_ret;refine⟨_,rfl,?_,Nm.below_two hbel b1⟩;rw [<- HY.out.1,HN.out]
   exact HY2.out.below b1
  |false=>
   rw [hU] at hit;obtain⟨hpos,hgo,hex2⟩:=clo_go hU HY.out.2;have HG:=Nm.hide (And.intro hgo hex2);clear hU hgo hex2;obtain⟨yb,yo,yc2,ev⟩:=srow_atT HY2.out hpos;simp only [Value.slice.injEq,true_and] at ev;obtain⟨rfl,rfl⟩:=ev;have hone:=srow_oneT HY2.out hpos;have hcl:=hone.2.1;have HO:=Nm.hide hone;clear hone;have hl1:(1:Int)<=(y.length:Int):=by omega
   by_cases hc1:yc=1
   ·subst hc1;have HS1:=Nm.hide (HO.out.2.2.1 rfl);go_wp2_with (go_at_call 89;refine hit.mono ?_;rintro e w1 ⟨rfl,b1⟩)
    go_roundw
    case rel=>exact⟨y.drop 1,HS1.out.below b1,by simp;omega,by rw [<- HG.out.1];exact HY.out.1,HG.out.2,Nm.below_two hbel b1⟩
    case measure=>simp only [slLenT];omega
   ·have hgt:1<yc:=by omega
    go_wp2_with (go_at_call 89;refine hit.mono ?_;rintro e w1 ⟨rfl,b1⟩)
    go_roundw
    case rel=>exact⟨y.drop 1,(HO.out.2.2.2).below b1,by simp;omega,by rw [<- HG.out.1];exact HY.out.1,HG.out.2,Nm.below_two hbel b1⟩
    case measure=>simp only [slLenT];omega
end Go.Proofs.YtahpiciofdfipaaGreat
