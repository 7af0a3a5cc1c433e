import Derived.Test.YtahpiciofdfipaaGreatJOwnT
import Derived.Test.YtahpiciofdfipaaGreatJUnderM
import Derived.Deep.QuietTactic
import Derived.BigQuiet
import Derived.Test.YtahpiciofdfipaaGreatJCmpM
import Derived.RangeFuncNested
import Derived.RangeFuncBound
import Derived.RangeFuncCalls
import Derived.RangeFuncLeaves
import Derived.Shelf.Abstract
import Derived.Shelf.RegionOpen
import Derived.WalkKit
import Derived.OwnWalkIn
import Derived.TacticsInMore
import Derived.LoopNIn
import Derived.LoopIn
import Derived.Test.YtahpiciofdfipaaGreatJTrM
import Derived.Test.YtahpiciofdfipaaGreatJData1
import Derived.Test.YtahpiciofdfipaaGreatJNameOKs
import Derived.Test.YtahpiciofdfipaaGreatJMath
namespace Go.Proofs.YtahpiciofdfipaaGreat
open Go.RowKit
set_option linter.unusedVariables false
set_option maxRecDepth 100000 in
set_option maxHeartbeats 1600000 in
theorem place1S_any(tb g:Nat)(rv:Value)(k d t:ByteArray)(w:World)(kb:Blk w tb #[.pointer (some ⟨g,0,none⟩)] 162)(kg:Blk w g #[cmpSv,rv] 210):
 Calls Tryz.prog 173 #[.agg #[.string k,.string d],.string t,.pointer (some ⟨tb,0,none⟩)] w fun e w'=>e=.returned (.int .i64 (Nm.ordL k.data.toList t.data.toList))∧Below w.heap.size w w':=by
 have hB:=(Below.refl w.heap.size w).alloc (Nat.le_refl _) (.cells #[.string k,.string d] 213);have rb:=fun i=>blk_cell (blk_below kb hB) i
 have rg:=fun i=>blk_cell (blk_below kg hB) i
 have hc:=fun W=>compare_any' k t W
 unfold cmpSv at rg;generalize Nm.ordL k.data.toList t.data.toList=C at*;go_enter Tryz.func173,Tryz.ntmps173;go_wp2;go_quiet ((go_at_call 139;exact Calls.quiet_of_same (hc _)))
 go_wp2;go_ret;exact⟨rfl,Go.below_drewN hB _⟩
set_option maxRecDepth 100000 in
set_option maxHeartbeats 1600000 in
theorem place1I_any(tb g:Nat)(rv pv:Value)(k t:Int)(w:World)(kb:Blk w tb #[.pointer (some ⟨g,0,none⟩)] 110)(kg:Blk w g #[cmpIv,rv] 175):
 Calls Tryz.prog 160 #[.agg #[.int .i64 k,pv],.int .i64 t,.pointer (some ⟨tb,0,none⟩)] w fun e w'=>e=.returned (.int .i64 (Nm.cmpI k t))∧Below w.heap.size w w':=by
 have hB:=(Below.refl w.heap.size w).alloc (Nat.le_refl _) (.cells #[.int .i64 k,pv] 177);have rb:=fun i=>blk_cell (blk_below kb hB) i
 have rg:=fun i=>blk_cell (blk_below kg hB) i
 have hc:=fun W=>cmp64_any k t W
 unfold cmpIv at rg;generalize Nm.cmpI k t=C at*;go_enter Tryz.func160,Tryz.ntmps160;go_wp2;go_quiet ((go_at_call 135;exact Calls.quiet_of_same (hc _)))
 go_wp2;go_ret;exact⟨rfl,Go.below_drewN hB _⟩
set_option maxRecDepth 100000 in
set_option maxHeartbeats 1600000 in
theorem place1L_any(tb g:Nat)(rv pv kv tv:Value)(ks ts:List ByteArray)(w:World)(kb:Blk w tb #[.pointer (some ⟨g,0,none⟩)] 92)(kg:Blk w g #[cmpLv,rv] 149)
 (hk:Nm.SRow w kv ks) (ht:Nm.SRow w tv ts) (hks:∀ x∈ks,x.size<=1000000000) (hkl:ks.length<=1000000000) (htl:ts.length<=1000000000):
 Calls Tryz.prog 125 #[.agg #[kv,pv],tv,.pointer (some ⟨tb,0,none⟩)] w fun e w'=>e=.returned (.int .i64 (Nm.cmpLs ks ts))∧Below w.heap.size w w':=by
 have hB:=(Below.refl w.heap.size w).alloc (Nat.le_refl _) (.cells #[kv,pv] 145);have rb:=fun i=>blk_cell (blk_below kb hB) i
 have rg:=fun i=>blk_cell (blk_below kg hB) i
 have hc:=fun m=>compare_any kv tv ks ts _ (hk.below (Go.below_drewN hB m)) (ht.below (Go.below_drewN hB m)) hks hkl htl
 unfold cmpLv at rg;obtain⟨ka,kc,rfl,_⟩:=hk;obtain⟨ta,tc,rfl,_⟩:=ht;generalize Nm.cmpLs ks ts=C at*;go_enter Tryz.func125,Tryz.ntmps125;go_wp2;go_quiet ((go_at_call 88;exact Calls.quiet_of (hc _)))
 go_wp2;go_ret;exact⟨rfl,Go.below_drewN hB _⟩
end Go.Proofs.YtahpiciofdfipaaGreat
namespace Go.Proofs.YtahpiciofdfipaaGreat
open Go.RowKit Go.Shelf
set_option linter.unusedVariables false
attribute [local go_sem] Oper.semAt_some
set_option maxRecDepth 100000 in
set_option maxHeartbeats 2000000 in
theorem all1I_in{α:Type}(kf:α->Int)(vf:α->Addr)(F:Fence)(n:Nat)(h7:F.fn 118)(hro:F.round=none)(hn:1<=n)(l tb g n₀ b off cap:Nat)(cmpv:Value)(zs:List α)(hl:zs.length<=1000000)(hcap:zs.length<=cap∧cap<=maxLen)(hb:b<n₀)(J Jx:List α->World->Prop)
 (hJ:∀ s W W',J s W->W.grownBy W' none->J s W')
 (hY:∀ pre x W,J pre W->pre.length<zs.length->YieldAt F (n-1) Tryz.prog l #[(Value.int .i64 (kf x)),(Value.pointer (some (vf x)))] W fun e W'=>
  (e=.returned (.bool true)∧J (pre++[x]) W'∧Below n₀ W W')∨(e=.returned (.bool false)∧Jx (pre++[x]) W'))
 (W:World) (kb:W.cell? ⟨tb,0,none⟩=some (.pointer (some ⟨g,0,none⟩))) (kg:W.cell? ⟨g,1,none⟩=some (.slice (some ⟨b,off,none⟩) zs.length cap))
 (hc:∀ (i:Nat) (x:α),zs[i]? =some x->W.cell? ⟨b,off+i*2,none⟩=some (Value.int .i64 (kf x))∧W.cell? ⟨b,off+i*2+1,none⟩=some (Value.pointer (some (vf x)))) (hn₀:n₀<=W.heap.size) (h0:J [] W):
 CallsIn F n Tryz.prog 118 #[.func (.yield l) #[] #[],.pointer (some ⟨tb,0,none⟩)] W fun e W'=>(∃ v,e=.returned v)∧
  ((∃ ys,ys=zs∧J ys W')∨(∃ pre,pre<+:zs∧Jx pre W')):=by
 obtain⟨hcap1,hcap2⟩:=hcap;unfold maxLen at hcap2;refine callsIn_of_wp Tryz.func118 rfl h7 ?_ hro;simp only [Tryz.ntmps118,List.size_toArray,List.length_cons,List.length_nil,Nat.reduceAdd,Nat.reduceSub,Array.replicate_succ,Array.replicate_zero,List.push_toArray,List.append_toArray,List.nil_append,List.cons_append]
 gi_wp2
 gi_loopw [10] (fun i wr=>∃ k:Nat,k<=zs.length∧i=.int .i64 k∧J (zs.take k) wr∧Below n₀ W wr)
  (fun i _=>zs.length-(intOf i).toNat)
 case atStart=>exact⟨0,Nat.zero_le _,rfl,by simpa using h0,Below.refl _ _⟩
 case round=>
  obtain⟨k,hk,rfl,hJs,hnx⟩:=hrel
  by_cases hlt:k<zs.length
  ·obtain⟨x,hx⟩:∃ x,zs[k]? =some x:=⟨_,List.getElem?_eq_getElem hlt⟩;obtain⟨c0,c1⟩:=hc k x hx;have d0:wr.cell? ⟨b,off+k*2,none⟩=some (Value.int .i64 (kf x)):=(hnx.cell (p:=⟨b,off+k*2,none⟩) hb).trans c0;have d1:wr.cell? ⟨b,off+k*2+1,none⟩=some (Value.pointer (some (vf x))):=(hnx.cell (p:=⟨b,off+k*2+1,none⟩) hb).trans c1;have hal:∀ o:Obj,wr.grownBy (wr.alloc o) none:=fun o=>⟨rfl,rfl,rfl,by simp,fun q hq _=>heap_alloc_old wr _ hq⟩
   obtain⟨fn,tmps,assign,body,hy,hR⟩:=hY _ x (wr.alloc (.cells #[(Value.int .i64 (kf x)),(Value.pointer (some (vf x)))] 177)) (hJ _ _ _ hJs (hal _)) (by rw [List.length_take];omega);have n1:(0:Int)<=(k:Int):=by omega
   have n2:(k:Int)<(zs.length:Int):=by omega
   have hbw:Below n₀ W (wr.alloc (.cells #[(Value.int .i64 (kf x)),(Value.pointer (some (vf x)))] 177)):=hnx.alloc (Nat.le_trans hn₀ hnx.size) _
   have HT:Hid (zs.take (k+1)=zs.take k++[x]):=by
    obtain⟨hk',e⟩:=List.getElem?_eq_some_iff.1 hx;show _=_
    rw [List.take_succ_eq_append_getElem hk',e]
   clear hc c0 c1 hx
   gi_wp2
   refine hR.mono ?_;rintro e W3 (⟨rfl,hJ3,hk3⟩|⟨rfl,hJx3⟩)
   ·gi_wp2
    go_roundw
    case rel=>exact⟨k+1,by omega,by go_num,by rw [HT.out];exact hJ3,hbw.trans hk3⟩
    case measure=>simp [intOf];omega
   ·gi_wp2
    refine bodyPost_ret (results_none rfl _ _ _) rfl ?_;exact⟨⟨_,rfl⟩,.inr ⟨_,by rw [<- HT.out];exact List.take_prefix _ _,hJx3⟩⟩
  ·obtain rfl:k=zs.length:=by omega
   have n2:(zs.length:Int)<=(zs.length:Int):=by omega
   rw [List.take_length] at hJs;clear hc
   gi_wp2
   go_end0
   exact⟨⟨_,rfl⟩,.inl ⟨_,rfl,hJs⟩⟩
end Go.Proofs.YtahpiciofdfipaaGreat
namespace Go.Proofs.YtahpiciofdfipaaGreat
open Go.RowKit
set_option maxRecDepth 100000 in
set_option maxHeartbeats 800000 in
theorem specAncestor_any(s:ByteArray)(n:Int)(w:World)(hs:s.size<=maxLen):
 Calls Tryz.prog 10 #[.string s,.int .i64 n] w fun e w'=>e=.returned (.tuple #[.string (ancS s n).1,.int .i64 (ancS s n).2])∧Below w.heap.size w w':=by
 have hsp:=l01Split_any s w hs
 cases hq:Nm.split s with
 |none=>
  have HA:Hid (ancS s n=(ByteArray.empty,32)):=by show _=_;simp [ancS,hq]
  rw [hq] at hsp;clear hq;go_enter Tryz.func10,Tryz.ntmps10;go_wp2_with fail
  refine hsp.mono ?_;rintro e w1 ⟨v,rfl,hown,hbel⟩;go_wp2;go_ret2;rw [HA.out]
  exact⟨rfl,hbel⟩
 |some ls=>
  have hz:=Nm.split_size hq;rw [hq] at hsp
  by_cases hr:0<=n∧n<=ls.length
  ·have HA:Hid (ancS s n=(⟨(Nm.joinL (ls.drop n.toNat)).toArray⟩,0)):=by show _=_;simp [ancS,hq,hr]
   clear hq;obtain⟨h0,h1⟩:=hr;obtain⟨k,rfl⟩:=Int.eq_ofNat_of_zero_le h0;go_enter Tryz.func10,Tryz.ntmps10;go_wp2_with fail
   refine hsp.mono ?_;rintro e w1 ⟨v,rfl,hown,hbel⟩;have hrow:=Nm.SRow.of_owns hown;obtain⟨a,cap,rfl,hcap,hmx,hnl,hc⟩:=hrow;simp only [Option.getD_some] at hown;have hd1:=fun e:cap=k=>(Nm.SRow.of_owns hown).drop_all e
   have hd2:=(Nm.SRow.of_owns hown).drop (k:=k) (by omega);have hwd:=Nm.wsum_drop_le ls k;have hkd:decide ((k:Int)<0)=false:=by simp
   clear hown hc
   by_cases hck:cap=k
   ·have hd:=hd1 hck;clear hd1 hd2;subst hck;go_wp2_with fail
    refine(l01Join_any _ (ls.drop cap) _ hd (by omega)).mono ?_;rintro e w2 ⟨rfl,hbel2⟩;go_wp2;go_ret2;rw [HA.out];exact⟨rfl,Nm.below_two hbel hbel2⟩
   ·clear hd1;go_wp2_with fail
    refine(l01Join_any _ (ls.drop k) _ hd2 (by omega)).mono ?_;rintro e w2 ⟨rfl,hbel2⟩;go_wp2;go_ret2;rw [HA.out];exact⟨rfl,Nm.below_two hbel hbel2⟩
  ·have HA:Hid (ancS s n=(ByteArray.empty,32)):=by show _=_;simp only [ancS,hq];rw [if_neg hr]
   clear hq;go_enter Tryz.func10,Tryz.ntmps10;go_wp2_with fail
   refine hsp.mono ?_;rintro e w1 ⟨v,rfl,hown,hbel⟩;obtain⟨a,cap,rfl,hcap,hmx,hnl,hc⟩:=Nm.SRow.of_owns hown;simp only [Option.getD_some] at hown hcap hc
   by_cases h0:n<0
   ·have hd:decide (n<0)=true:=by simp [h0]
    go_wp2;go_ret2;rw [HA.out];exact⟨rfl,hbel⟩
   ·have hd:decide (n<0)=false:=by simp;omega
    have hgt:(ls.length:Int)<n:=by omega
    go_wp2;go_ret2;rw [HA.out];exact⟨rfl,hbel⟩
end Go.Proofs.YtahpiciofdfipaaGreat
namespace Go.Proofs.YtahpiciofdfipaaGreat
open Go.RowKit
theorem put2_step{W wr w1:World}{v v':Value}{B e n:Nat}{l:List Value}{x:Value}(hB:B<=wr.heap.size)
 (hown:wr.ownsRow B e 1 v n l) (hbel:Below B W wr) (o:Obj) (hgrow:(wr.alloc o).grownBy w1 v.ownBlock)
 (hown':w1.ownsRow B e 1 v' (n+1) (l++[x])):
 w1.ownsRow B e 1 v' (n+1) (l++[x])∧Below B W w1:=by
 refine⟨hown',?_⟩;refine(hbel.alloc hB o).grown hgrow (by simp;omega) ?_;intro k hk;exact(hown.lt k hk).1
end Go.Proofs.YtahpiciofdfipaaGreat
namespace Go.Proofs.YtahpiciofdfipaaGreat
open Go.RowKit
set_option linter.unusedVariables false
def szOf:Value->Nat
 |.string s=>s.size
 |_=>0
set_option maxRecDepth 100000 in
set_option maxHeartbeats 1600000 in
theorem l03Six_any(g:Nat)(a:Option Addr)(n cap:Nat)(w:World)(h:Src w g a n cap):
 Calls Tryz.prog 127 #[.pointer (some ⟨g,0,none⟩)] w fun e w'=>∃ s:ByteArray,e=.returned (.string s)∧s.size=16∧Src w' g a n cap∧w.grownBy w' (some g):=by
 have z2:(ByteArray.mk #[0,0]).size=2:=rfl;have z1:(ByteArray.mk #[0]).size=1:=rfl;go_enter Tryz.func127,Tryz.ntmps127;go_wp2
 go_loopw [3] (fun v wr=>∃ (k:Nat) (s:ByteArray),k<=8∧v=.string s∧Hid (s.size=2*k)∧Src wr g a n cap∧w.grownBy wr (some g))
  (fun v _=>16-szOf v)
 case atStart=>exact⟨0,⟨#[]⟩,by omega,rfl,rfl,h,World.grownBy.refl _ _⟩
 case round=>
  obtain⟨k,s,hk,rfl,HZ,hsrc,hgr⟩:=hrel;clear h
  by_cases hlt:k<8
  ·have hlt':(s.size:Int)<16:=by have:=HZ.out;omega
   go_wp2_with fail
   refine(l01Bytes_any g a n cap 2 _ hsrc (by decide) (by decide)).mono ?_;rintro e w2 ⟨t,rfl,ht,hs2,hg2⟩;have ht2:t.size=2:=by omega
   have ht1:(1:Int)<=(t.size:Int):=by omega
   go_wp2_with fail
   refine(l01Next_any g a n cap 2 _ hs2 (by decide)).mono ?_;rintro e w3 ⟨q,rfl,hq0,hq1,hs3,hg3⟩;clear hq1;have G3:=grown_step (grown_step hgr hg2) hg3;clear hg2 hg3 hgr hs2 hsrc
   by_cases hq:q=0
   ·subst hq;go_wp2_with fail
    refine(l01Next_any g a n cap 4 _ hs3 (by decide)).mono ?_;rintro e w4 ⟨p,rfl,hp0,hp1,hs4,hg4⟩;clear hp1;have G4:=grown_step G3 hg4;clear hs3 G3 hg4
    by_cases hp:p=0
    ·subst hp;go_wp2;go_roundw
     case rel=>exact⟨k+1,_,by omega,rfl,by show ByteArray.size _=_;rw [ByteArray.size_append,ByteArray.size_append,ByteArray.size_extract,z1,z2,HZ.out];omega,hs4,G4⟩
     case measure=>simp only [szOf];rw [ByteArray.size_append,ByteArray.size_append,ByteArray.size_extract,z1,z2,HZ.out];omega
    ·have hp':(p==0)=false:=by rw [beq_eq_false_iff_ne];exact hp
     go_wp2;go_roundw
     case rel=>exact⟨k+1,_,by omega,rfl,by show ByteArray.size _=_;rw [ByteArray.size_append,z2,HZ.out];omega,hs4,G4⟩
     case measure=>simp only [szOf];rw [ByteArray.size_append,z2,HZ.out];omega
   ·have hq':(q==0)=false:=by rw [beq_eq_false_iff_ne];exact hq
    have HT:=Nm.hide ht2;clear ht2;go_wp2_with fail
    refine(l01Next_any g a n cap 4 _ hs3 (by decide)).mono ?_;rintro e w4 ⟨p,rfl,hp0,hp1,hs4,hg4⟩;clear hp1;have G4:=grown_step G3 hg4;clear hs3 G3 hg4
    by_cases hp:p=0
    ·subst hp;go_wp2;go_roundw
     case rel=>exact⟨k+1,_,by omega,rfl,by show ByteArray.size _=_;rw [ByteArray.size_append,ByteArray.size_append,ByteArray.size_extract,z1,HT.out,HZ.out];omega,hs4,G4⟩
     case measure=>simp only [szOf];rw [ByteArray.size_append,ByteArray.size_append,ByteArray.size_extract,z1,HT.out,HZ.out];omega
    ·have hp':(p==0)=false:=by rw [beq_eq_false_iff_ne];exact hp
     go_wp2;go_roundw
     case rel=>exact⟨k+1,_,by omega,rfl,by show ByteArray.size _=_;rw [ByteArray.size_append,HT.out,HZ.out];omega,hs4,G4⟩
     case measure=>simp only [szOf];rw [ByteArray.size_append,HT.out,HZ.out];omega
  ·have hke:k=8:=by omega
   subst hke;have hlt':(16:Int)<=(s.size:Int):=by have:=HZ.out;omega
   go_wp2;go_ret;exact⟨s,rfl,by have:=HZ.out;omega,hsrc,hgr⟩
end Go.Proofs.YtahpiciofdfipaaGreat
namespace Go.Proofs.YtahpiciofdfipaaGreat
open Go.RowKit
set_option maxRecDepth 100000 in
set_option maxHeartbeats 1600000 in
theorem l01LabelV_any(g:Nat)(a:Option Addr)(n cap:Nat)(w:World)(h:Src w g a n cap):
 Calls Tryz.prog 99 #[.pointer (some ⟨g,0,none⟩)] w fun e w'=>∃ s:ByteArray,e=.returned (.string s)∧(1<=s.size∧s.size<=4)∧Src w' g a n cap∧w.grownBy w' (some g):=by
 have hcv:=fun(x:Int) (W:World)=>conv_one x W
 have hs1:∀ c:UInt8,(ByteArray.mk #[c]).size=1:=fun _=>rfl
 have hs2:(ByteArray.mk #[110,115]).size=2:=rfl;go_enter Tryz.func99,Tryz.ntmps99;go_wp2_with fail
 refine(l01Next_any g a n cap 12 _ h (by decide)).mono ?_;rintro e w1 ⟨r,rfl,hr0,hr1,hsrc,hgr⟩;have hr2:=hr1 (by decide);clear hr1 h
 rcases(by omega:r=0∨r=1∨r=2∨r=3∨r=4∨r=5∨6<=r) with rfl|rfl|rfl|rfl|rfl|rfl|h6
 ·go_wp2;go_ret;exact⟨_,rfl,⟨by decide,by decide⟩,hsrc,hgr⟩
 ·go_wp2_with (first|(go_at_call 30;refine(l01Next_any g a n cap 4 _ hsrc (by decide)).mono ?_;rintro e w2 ⟨q,rfl,hq0,hq1,hsrc2,hgr2⟩;have hq2:=hq1 (by decide);clear hq1)|(go_at_call 97;refine(l01Bytes_any g a n cap (1+q) _ hsrc2 (by omega) (by omega)).mono ?_;rintro e w3 ⟨s3,rfl,hs3,hsrc3,hgr3⟩))
  go_ret;exact⟨_,rfl,⟨by omega,by omega⟩,hsrc3,grown_step (grown_step hgr hgr2) hgr3⟩
 ·go_wp2;go_ret;exact⟨_,rfl,⟨by decide,by decide⟩,hsrc,hgr⟩
 ·go_wp2;go_ret;exact⟨_,rfl,⟨by decide,by decide⟩,hsrc,hgr⟩
 ·go_wp2;go_ret;exact⟨_,rfl,⟨by decide,by decide⟩,hsrc,hgr⟩
 ·go_wp2_with (go_at_call 30;refine(l01Next_any g a n cap 3 _ hsrc (by decide)).mono ?_;rintro e w2 ⟨q,rfl,hq0,hq1,hsrc2,hgr2⟩;have hq2:=hq1 (by decide);clear hq1)
  go_ret;exact⟨_,rfl,⟨by rw [ByteArray.size_append,hs2,hs1];decide,by rw [ByteArray.size_append,hs2,hs1];decide⟩,src_below hsrc2 ((Below.refl _ _).alloc (Nat.le_refl _) _),grown_alloc (grown_step hgr hgr2) _⟩
 ·go_wp2_with (go_at_call 30;refine(l01Next_any g a n cap 4 _ hsrc (by decide)).mono ?_;rintro e w2 ⟨q,rfl,hq0,hq1,hsrc2,hgr2⟩;have hq2:=hq1 (by decide);clear hq1)
  go_ret;exact⟨_,rfl,⟨by rw [hs1];decide,by rw [hs1];decide⟩,src_below hsrc2 ((Below.refl _ _).alloc (Nat.le_refl _) _),grown_alloc (grown_step hgr hgr2) _⟩
end Go.Proofs.YtahpiciofdfipaaGreat
