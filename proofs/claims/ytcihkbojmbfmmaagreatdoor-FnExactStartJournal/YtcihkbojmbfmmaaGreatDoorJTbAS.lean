import Derived.Test.YtcihkbojmbfmmaaGreatDoorJMath
import Derived.RangeFuncNested
import Derived.RangeFuncBound
import Derived.RangeFuncCalls
import Derived.RangeFuncLeaves
import Derived.Shelf.Abstract
import Derived.Shelf.RegionOpen
import Derived.WalkKit
import Derived.OwnWalkIn
import Derived.TacticsInMore
import Derived.LoopNIn
import Derived.LoopIn
import Derived.Test.YtcihkbojmbfmmaaGreatDoorJTbGL
import Derived.RangeFuncBox
import Derived.Maps.AppendAt
import Derived.LaidEqlPtr
import Derived.Test.YtcihkbojmbfmmaaGreatDoorJRbT
namespace Go.Proofs.YtcihkbojmbfmmaaGreatDoor
open Go.RowKit Go.Shelf
set_option linter.unusedVariables false
attribute [local go_sem] Oper.semAt_some
set_option maxRecDepth 100000 in
set_option maxHeartbeats 2000000 in
theorem all1S_in{α:Type}(kf vf:α->ByteArray)(F:Fence)(n:Nat)(h7:F.fn 170)(hro:F.round=none)(hn:1<=n)(l tb g n₀ b off cap:Nat)(cmpv:Value)(zs:List α)(hl:zs.length<=1000000)(hcap:zs.length<=cap∧cap<=maxLen)(hb:b<n₀)(J Jx:List α->World->Prop)
 (hJ:∀ s W W',J s W->W.grownBy W' none->J s W')
 (hY:∀ pre x W,J pre W->pre.length<zs.length->YieldAt F (n-1) Tryz.prog l #[(Value.string (kf x)),(Value.string (vf x))] W fun e W'=>
  (e=.returned (.bool true)∧J (pre++[x]) W'∧Below n₀ W W')∨(e=.returned (.bool false)∧Jx (pre++[x]) W'))
 (W:World) (kb:W.cell? ⟨tb,0,none⟩=some (.pointer (some ⟨g,0,none⟩))) (kg:W.cell? ⟨g,1,none⟩=some (.slice (some ⟨b,off,none⟩) zs.length cap))
 (hc:∀ (i:Nat) (x:α),zs[i]? =some x->W.cell? ⟨b,off+i*2,none⟩=some (Value.string (kf x))∧W.cell? ⟨b,off+i*2+1,none⟩=some (Value.string (vf x))) (hn₀:n₀<=W.heap.size) (h0:J [] W):
 CallsIn F n Tryz.prog 170 #[.func (.yield l) #[] #[],.pointer (some ⟨tb,0,none⟩)] W fun e W'=>(∃ v,e=.returned v)∧
  ((∃ ys,ys=zs∧J ys W')∨(∃ pre,pre<+:zs∧Jx pre W')):=by
 obtain⟨hcap1,hcap2⟩:=hcap;unfold maxLen at hcap2;refine callsIn_of_wp Tryz.func170 rfl h7 ?_ hro;simp only [Tryz.ntmps170,List.size_toArray,List.length_cons,List.length_nil,Nat.reduceAdd,Nat.reduceSub,Array.replicate_succ,Array.replicate_zero,List.push_toArray,List.append_toArray,List.nil_append,List.cons_append]
 gi_wp2
 gi_loopw [10] (fun i wr=>∃ k:Nat,k<=zs.length∧i=.int .i64 k∧J (zs.take k) wr∧Below n₀ W wr)
  (fun i _=>zs.length-(intOf i).toNat)
 case atStart=>exact⟨0,Nat.zero_le _,rfl,by simpa using h0,Below.refl _ _⟩
 case round=>
  obtain⟨k,hk,rfl,hJs,hnx⟩:=hrel
  by_cases hlt:k<zs.length
  ·obtain⟨x,hx⟩:∃ x,zs[k]? =some x:=⟨_,List.getElem?_eq_getElem hlt⟩;obtain⟨c0,c1⟩:=hc k x hx;have d0:wr.cell? ⟨b,off+k*2,none⟩=some (Value.string (kf x)):=(hnx.cell (p:=⟨b,off+k*2,none⟩) hb).trans c0;have d1:wr.cell? ⟨b,off+k*2+1,none⟩=some (Value.string (vf x)):=(hnx.cell (p:=⟨b,off+k*2+1,none⟩) hb).trans c1;have hal:∀ o:Obj,wr.grownBy (wr.alloc o) none:=fun o=>⟨rfl,rfl,rfl,by simp,fun q hq _=>heap_alloc_old wr _ hq⟩
   obtain⟨fn,tmps,assign,body,hy,hR⟩:=hY _ x (wr.alloc (.cells #[(Value.string (kf x)),(Value.string (vf x))] 226)) (hJ _ _ _ hJs (hal _)) (by rw [List.length_take];omega);have n1:(0:Int)<=(k:Int):=by omega
   have n2:(k:Int)<(zs.length:Int):=by omega
   have hbw:Below n₀ W (wr.alloc (.cells #[(Value.string (kf x)),(Value.string (vf x))] 226)):=hnx.alloc (Nat.le_trans hn₀ hnx.size) _
   have HT:Hid (zs.take (k+1)=zs.take k++[x]):=by
    obtain⟨hk',e⟩:=List.getElem?_eq_some_iff.1 hx;show _=_
    rw [List.take_succ_eq_append_getElem hk',e]
   clear hc c0 c1 hx
   gi_wp2
   refine hR.mono ?_;rintro e W3 (⟨rfl,hJ3,hk3⟩|⟨rfl,hJx3⟩)
   ·gi_wp2
    go_roundw
    case rel=>exact⟨k+1,by omega,by go_num,by rw [HT.out];exact hJ3,hbw.trans hk3⟩
    case measure=>simp [intOf];omega
   ·gi_wp2
    refine bodyPost_ret (results_none rfl _ _ _) rfl ?_;exact⟨⟨_,rfl⟩,.inr ⟨_,by rw [<- HT.out];exact List.take_prefix _ _,hJx3⟩⟩
  ·obtain rfl:k=zs.length:=by omega
   have n2:(zs.length:Int)<=(zs.length:Int):=by omega
   rw [List.take_length] at hJs;clear hc
   gi_wp2
   go_end0
   exact⟨⟨_,rfl⟩,.inl ⟨_,rfl,hJs⟩⟩
end Go.Proofs.YtcihkbojmbfmmaaGreatDoor
namespace Go.Proofs.YtcihkbojmbfmmaaGreatDoor
open Go.RowKit Go.Shelf
set_option linter.unusedVariables false
attribute [local go_sem] Oper.semAt_some
def RwsS{α:Type}(kf vf:α->ByteArray)(n₀:Nat)(W:World)(sv:Value)(zs:List α):Prop:=
 (sv=.slice none 0 0∧zs=[])∨∃ b off cap,sv=.slice (some ⟨b,off,none⟩) zs.length cap∧b<n₀∧(zs.length<=cap∧cap<=maxLen)∧
  ∀ (i:Nat) (x:α),zs[i]? =some x->W.cell? ⟨b,off+i*2,none⟩=some (Value.string (kf x))∧W.cell? ⟨b,off+i*2+1,none⟩=some (Value.string (vf x))
theorem RwsS.below{α:Type}{kf vf:α->ByteArray}{n₀:Nat}{W W':World}{sv:Value}{zs:List α}(h:RwsS kf vf n₀ W sv zs)(hB:Below n₀ W W'):RwsS kf vf n₀ W' sv zs:=by
 rcases h with h|⟨b,off,cap,e,hb,hcp,hc⟩
 ·exact .inl h
 ·exact .inr ⟨b,off,cap,e,hb,hcp,fun i x hx=>⟨(hB.cell (p:=⟨b,off+i*2,none⟩) hb).trans (hc i x hx).1,(hB.cell (p:=⟨b,off+i*2+1,none⟩) hb).trans (hc i x hx).2⟩⟩
theorem rwsS_own{α:Type}(kf vf:α->ByteArray){w:World}{B e:Nat}{v:Value}(zs:List α)(h:w.ownsRow B e 2 v zs.length (rowCs (zs.map fun x=>((Value.string (kf x)),(Value.string (vf x)))))):RwsS kf vf w.heap.size w v zs:=by
 have h':=h
 rcases h.2 with⟨rfl,h0⟩|⟨q,cap,cur,rfl,hb,hh,hc1,hc2,hcs,ht⟩
 ·exact .inl ⟨rfl,List.length_eq_zero_iff.1 h0⟩
 ·refine .inr ⟨q,0,cap,rfl,(Array.getElem?_eq_some_iff.1 hh).1,⟨hc1,hc2⟩,fun i x hx=>?_⟩;have hi:=(List.getElem?_eq_some_iff.1 hx).1;have hm:(zs.map fun x=>((Value.string (kf x)),(Value.string (vf x))))[i]? =some ((Value.string (kf x)),(Value.string (vf x))):=by simp [hx]
  have a0:=rowCs_at _ i 0 _ hm (by decide);have a1:=rowCs_at _ i 1 _ hm (by decide);have c0:=h'.cellAt (i*2) (by omega);have c1:=h'.cellAt (i*2+1) (by omega);exact⟨by rw [Nat.zero_add,c0];exact a0,by rw [Nat.zero_add,c1];exact a1⟩
set_option maxRecDepth 100000 in
set_option maxHeartbeats 2000000 in
theorem all1nS_in{α:Type}(F:Fence)(n:Nat)(h7:F.fn 170)(hro:F.round=none)(l tb g:Nat)(J:List α->World->Prop)(W:World)
 (kb:W.cell? ⟨tb,0,none⟩=some (.pointer (some ⟨g,0,none⟩))) (kg:W.cell? ⟨g,1,none⟩=some (.slice none 0 0)) (h0:J [] W):
 CallsIn F n Tryz.prog 170 #[.func (.yield l) #[] #[],.pointer (some ⟨tb,0,none⟩)] W fun e W'=>(∃ v,e=.returned v)∧J [] W':=by
 refine callsIn_of_wp Tryz.func170 rfl h7 ?_ hro;simp only [Tryz.ntmps170,List.size_toArray,List.length_cons,List.length_nil,Nat.reduceAdd,Nat.reduceSub,Array.replicate_succ,Array.replicate_zero,List.push_toArray,List.append_toArray,List.nil_append,List.cons_append]
 gi_wp2
 gi_loopw [10] (fun i wr=>i=.int .i64 0∧J [] wr) (fun _ _=>0)
 case atStart=>exact⟨rfl,h0⟩
 case round=>
  obtain⟨rfl,hJs⟩:=hrel
  gi_wp2
  go_end0
  exact⟨⟨_,rfl⟩,hJs⟩
set_option maxRecDepth 100000 in
set_option maxHeartbeats 2000000 in
theorem allS_in(F:Fence)(n:Nat)(h6:F.fn 153)(hro:F.round=none)(p:Option Addr)(w:World):
 CallsIn F n Tryz.prog 153 #[.pointer p] w fun e w'=>e=.returned (.func (.func 170) #[] #[.pointer (some ⟨w.heap.size,0,none⟩)])∧w'=w.alloc (.cells #[.pointer p] 163):=by
 refine callsIn_of_wp Tryz.func153 rfl h6 ?_ hro;simp only [Tryz.ntmps153,List.size_toArray,List.length_cons,List.length_nil,Nat.reduceAdd,Nat.reduceSub,Array.replicate_succ,Array.replicate_zero,List.push_toArray,List.append_toArray,List.nil_append,List.cons_append]
 gi_wp2
 go_ret;exact⟨rfl,rfl⟩
theorem allStopsS{α:Type}(kf vf:α->ByteArray)(F:Fence)(n:Nat)(h7:F.fn 170)(hro:F.round=none)(hn:1<=n)(tb g n₀:Nat)(sv:Value)(zs:List α)(hl:zs.length<=1000000)(w:World)(htb:tb<w.heap.size)(hg:g<n₀)(hn₀:n₀<=w.heap.size)
 (kb:w.cell? ⟨tb,0,none⟩=some (.pointer (some ⟨g,0,none⟩))) (kg:w.cell? ⟨g,1,none⟩=some sv) (hR:RwsS kf vf n₀ w sv zs):
 SeqStopsK F n Tryz.prog 170 #[.pointer (some ⟨tb,0,none⟩)] (fun x:α=>#[(Value.string (kf x)),(Value.string (vf x))]) (Below n₀) (fun ys=>ys=zs) (fun pre=>pre<+:zs) zs.length w:=fun l J Jx W hW hJ _ hY h0=>by
 have kb':=(hW.cell (p:=⟨tb,0,none⟩) htb).trans kb;have kg':=(hW.cell (p:=⟨g,1,none⟩) (Nat.lt_of_lt_of_le hg hn₀)).trans kg
 rcases hR.below (hW.mono hn₀) with⟨rfl,rfl⟩|⟨b,off,cap,rfl,hb,hcp,hcs⟩
 ·exact(all1nS_in F n h7 hro l tb g J W kb' kg' h0).mono fun e W' ⟨he,hj⟩=>⟨he,.inl ⟨_,rfl,hj⟩⟩
 ·exact all1S_in kf vf F n h7 hro hn l tb g n₀ b off cap (.pointer none) zs hl hcp hb J Jx (fun s W1 W2 hs hgr=>hJ s W1 W2 none hs hgr (fun r e=>by cases e)) hY W kb' kg' hcs (Nat.le_trans hn₀ hW.size) h0
end Go.Proofs.YtcihkbojmbfmmaaGreatDoor
namespace Go.Proofs.YtcihkbojmbfmmaaGreatDoor
open Go.RowKit Go.Shelf
set_option linter.unusedVariables false
attribute [local go_sem] Oper.semAt_some
theorem infoStrV:(Tryz.prog.info? 9).map (fun i=>(i.zero,i.size,i.bytes))=some (some (.string ByteArray.empty),1,16):=by kernel_rfl
set_option maxRecDepth 100000 in
set_option maxHeartbeats 2000000 in
theorem valuesOf_in(F:Fence)(n:Nat)(h3:F.fn 127)(h4:F.fn 153)(h5:F.fn 170)(hro:F.round=none)(hn:3<=n)
 (g:Nat) (sv:Value) (zs:List (ByteArray×ByteArray)) (hl:zs.length<=1000000) (w:World) (hg:g<w.heap.size) (kg:w.cell? ⟨g,1,none⟩=some sv) (hR:RwsS (fun p:ByteArray×ByteArray=>p.1) (fun p=>p.2) w.heap.size w sv zs):
 CallsIn F n Tryz.prog 127 #[.pointer (some ⟨g,0,none⟩)] w fun e W'=>∃ v,e=.returned v∧W'.ownsRow w.heap.size 9 1 v zs.length (zs.map fun p=>.string p.2)∧Below w.heap.size w W':=by
 have h1:1<=n:=by omega
 obtain⟨i0,hi,hz0,hz1,hz2⟩:=info_parts infoStrV;refine callsIn_of_wp_marks Tryz.func127 rfl h3 ?_ hro;simp only [Tryz.ntmps127,List.size_toArray,List.length_cons,List.length_nil,Nat.reduceAdd,Nat.reduceSub,Array.replicate_succ,Array.replicate_zero,List.push_toArray,List.append_toArray,List.nil_append,List.cons_append]
 gi_wp2_with (gi_at_call 153;refine(allS_in F (n-1) h4 hro _ _).mono ?_;rintro e w' ⟨rfl,rfl⟩)
 have bO:=Boxed.new w 48 (.slice none 0 0);have bN:=Boxed.new (w.alloc (.cells #[.slice none 0 0] 48)) 163 (.pointer (some ⟨g,0,none⟩));rw [World.size_alloc] at bN;have hB0:Below w.heap.size w ((w.alloc (.cells #[.slice none 0 0] 48)).alloc (.cells #[.pointer (some ⟨g,0,none⟩)] 163)):=((Below.refl _ w).alloc (Nat.le_refl _) _).alloc (by simp) _;have kg2:=(hB0.cell (p:=⟨g,1,none⟩) hg).trans kg
 refine wpIn_rangeFunc_ownG hro h1 (gf:=170) (lb:=#[.pointer (some ⟨w.heap.size+1,0,none⟩)]) rfl h5 (enters_of Tryz.func170 (by kernel_rfl) rfl)
  (allStopsS (fun p:ByteArray×ByteArray=>p.1) (fun p=>p.2) F (n-1) h5 hro (by omega) (w.heap.size+1) g w.heap.size sv zs hl _ (by simp) hg (by simp;omega) bN.cell kg2 (hR.below hB0)) belowK_t (belowK_b (by simp;omega)) (Below.refl _ _) (fun _=>rfl)
  (fun pre W=>(∃ v,Boxed W w.heap.size 48 v∧W.ownsRow w.heap.size 9 1 v pre.length (pre.map fun p=>.string p.2)∧True)∧Below w.heap.size w W)
  (fun _ _ _=>False)
  (OwnFrom.and (Own.from (holdsRow_own w.heap.size w.heap.size 48 9 1 (fun pre:List (ByteArray×ByteArray)=>pre.length) (fun pre=>pre.map fun p=>.string p.2) (fun pre v=>True)) _) (ownFrom_below (Nat.le_refl _) (by simp;omega)))
  (fun _ _ _ _ _ hs _ _=>hs)
  ⟨⟨_,bO.alloc _,World.ownsRow_nil _ _ _ _,trivial⟩,hB0⟩
  (fun x=>{tmps:=#[.pointer (some ⟨g,0,none⟩),undef,.slice none 0 0,.pointer (some ⟨w.heap.size,0,none⟩),undef,.string x.2,.pointer (some ⟨g,0,none⟩),.func (.func 170) #[] #[.pointer (some ⟨w.heap.size+1,0,none⟩)],.string x.1,.string x.2,undef,undef,undef,undef,undef],defers:=[]}) ?assign ?body ?done ?stop
 case assign=>
  intro l x W K hK
  gi_wp2
  exact hK
 case body=>
  rintro l pre x W ⟨⟨v,hv,hrow,-⟩,hB⟩ hlt;have hc:=hv.cell;have hm:zs.length<=maxLen:=by unfold maxLen;omega
  gi_wp2_with (gi_at_builtin;refine wpListIn_append_own _ rfl _ _ 48 rfl w.heap.size 9 i0 (.string ByteArray.empty) 1 16 Tryz.underlying48 hi hz0 hz1 hz2 rfl (by decide) _ _ _ rfl (hrow.alloc _) ⟨W.heap.size,0,none⟩ 1 1 [.string x.2] rfl rfl (cell_one_new _ _ _) (by simp [Value.oneCell']) (by omega) (by omega) (by have:=hB.size;simp;omega) ?_;intro v' w1 hown' hgrow _;obtain⟨g',cap',rfl⟩:=ownsRow_succ hown';obtain⟨hv1,hv2,hr2,hk2,hb2⟩:=hv.appended (by decide) hrow hB.size (Nat.le_refl _) hown' hgrow;have hc1:=hv1.cell;have hf1:=hv1.frozen)
  exact⟨hk2.from _,hb2,⟨_,hv2,by simpa using hr2,trivial⟩,hB.trans hb2⟩
 case done=>
  rintro D ys W hD rfl ⟨⟨v,hv,hrow,-⟩,hB⟩ hK;have hc:=hv.cell
  gi_wp2
  refine⟨by simp,.inl ⟨_,_,rfl,run_takeDeferred hK,?_⟩⟩;exact⟨_,results_tmp rfl _ _ _,v,rfl,ownsRow_putObj hrow _ hK rfl,hB.trans (belowK_b (w:=w) (Nat.le_refl _) W D _ _ (by simp at hD;omega) hK rfl rfl)⟩
 case stop=>
  rintro D c pre W _ _ h _;exact h.elim
theorem valuesOf_any(g:Nat)(sv:Value)(zs:List (ByteArray×ByteArray))(hl:zs.length<=1000000)(w:World)(hg:g<w.heap.size)(kg:w.cell? ⟨g,1,none⟩=some sv)(hR:RwsS (fun p:ByteArray×ByteArray=>p.1) (fun p=>p.2) w.heap.size w sv zs):
 Calls Tryz.prog 127 #[.pointer (some ⟨g,0,none⟩)] w fun e W'=>∃ v,e=.returned v∧W'.ownsRow w.heap.size 9 1 v zs.length (zs.map fun p=>.string p.2)∧Below w.heap.size w W':=
 (callsIn_wide (n:=3)).1 (valuesOf_in _ 3 trivial trivial trivial rfl (by omega) g sv zs hl w hg kg hR)
end Go.Proofs.YtcihkbojmbfmmaaGreatDoor
namespace Go.Proofs.YtcihkbojmbfmmaaGreatDoor
open Go
section
variable {P:Program}{ops:Array Oper}{Q:Exit->Act->World->Prop}{md:Region.Mode}{S:World->Prop}{Ls:List Nat}
def wpAnyS(P:Program)(md:Region.Mode)(ops:Array Oper)(Q:Exit->Act->World->Prop)(S:World->Prop)(Ls:List Nat):Nat->Array Bool->Act->World->Prop
 |0,listed,a,w=>Region.ready md ops listed=[]∧Q .normal a w
 |fuel+1,listed,a,w=>
  (Region.ready md ops listed=[]->Q .normal a w)∧
  ∀ i∈Region.ready md ops listed,wpOp P ops Q i (fun a' w'=>(i∈Ls∨S w')∧wpAnyS P md ops Q S Ls fuel (listed.setIfInBounds i true) a' w') a w
theorem wpAny_of_S:∀ (fuel:Nat) (listed:Array Bool) (a:Act) (w:World),wpAnyS P md ops Q S Ls fuel listed a w->wpAny P md ops Q fuel listed a w
 |0,_,_,_,h=>h
 |fuel+1,_,_,_,h=>⟨h.1,fun i hi=>wpOp_mono (fun a' w' h'=>wpAny_of_S fuel _ a' w' h'.2) (h.2 i hi)⟩
theorem late_waits{listed:Array Bool}{i j:Nat}(hL:Ls.all (fun L=>waitsFor md ops L i)=true)(hi:i∈Region.ready md ops listed)(hj:j∈Region.ready md ops listed):j∉Ls:=fun h=>last_waits (List.all_eq_true.1 hL j h) hi hj rfl
theorem wpAnyS_first{i:Nat}{oi:Oper}{v:Value}(hi:ops[i]? =some oi)(hsel:∀ (j:Nat) (o:Oper) cs b,ops[j]? =some o->o.op≠ .select cs b)
 (hQ:∀ c a w,Q (.panic c) (a.put oi.dst v) w->Q (.panic c) a w) (hL:Ls.all (fun L=>waitsFor md ops L i)=true) (fuel:Nat):
 ∀ (listed:Array Bool) (a:Act) (w:World),Untouched md ops oi i listed->i∈Region.ready md ops listed->YieldsIf P ops S oi v a->S w->
   wpAnyS P md ops Q S Ls fuel (listed.setIfInBounds i true) (a.put oi.dst v) w->wpAnyS P md ops Q S Ls (fuel+1) listed a w:=by
 induction fuel with
 |zero=>
  intro listed a w _ hr hy hS H;refine⟨fun h=>absurd (h▸hr) (by simp),fun j hj=>?_⟩
  rcases Nat.decEq j i with hne|rfl
  ·exact absurd (H.1▸ready_mono hj hne) (by simp)
  ·exact hy.wpOp hi hS ⟨.inr hS,H⟩
 |succ fuel ih=>
  intro listed a w hun hr hy hS H;refine⟨fun h=>absurd (h▸hr) (by simp),fun j hj=>?_⟩
  rcases Nat.decEq j i with hne|rfl
  ·obtain⟨hju,oj,hoj,_⟩:=mem_ready.1 hj;have hstep:=wpOp_putIf hoj (hun j oj hoj hne hju (ready_free hr hj hoj)) (fun cs b=>hsel i oi cs b hi) (fun cs b=>hsel j oj cs b hoj) hQ hy (H.2 j (ready_mono hj hne));refine wpOp_mono (fun a' w' ⟨hy',hS',hW⟩=>?_) hstep;have hSw:=hS'.resolve_left (late_waits hL hr hj);exact⟨.inr hSw,ih _ a' w' (hun.more hju) (ready_mono hr (Ne.symm hne)) hy' hSw (by rw [Array.setIfInBounds_comm _ _ hne];exact hW)⟩
  ·exact hy.wpOp hi hS ⟨.inr hS,H⟩
theorem wpAnyS_take{i:Nat}{oi:Oper}{v:Value}{fuel:Nat}{listed:Array Bool}{a:Act}{w:World}(hi:ops[i]? =some oi)
 (hs:Region.noSelect ops=true) (hf:Region.free md ops listed i=true) (hr:(Region.ready md ops listed).contains i=true) (hL:Ls.all (fun L=>waitsFor md ops L i)=true)
 (hQ:∀ c a w,Q (.panic c) (a.put oi.dst v) w->Q (.panic c) a w) (hy:YieldsIf P ops S oi v a) (hS:S w)
 (h:wpAnyS P md ops Q S Ls fuel (listed.setIfInBounds i true) (a.put oi.dst v) w):wpAnyS P md ops Q S Ls (fuel+1) listed a w:=
 wpAnyS_first hi (Region.noSelect_spec hs) hQ hL fuel listed a w (Region.free_spec hi hf) (by simpa using hr) hy hS h
theorem wpAnyS_one{i:Nat}{o:Oper}{fuel:Nat}{listed:Array Bool}{a:Act}{w:World}(hr:Region.ready md ops listed=[i])(ho:ops[i]? =some o)
 (h:∀ K':Act->World->Prop,Shut (∀ a w,S w->(S w->wpAnyS P md ops Q S Ls fuel (listed.setIfInBounds i true) a w)->K' a w)->if Region.wanted o (yielded ops a.tmps)=true then Oper.wp P o a w K' Q else K' (a.put o.dst undef) w):
 wpAnyS P md ops Q S Ls (fuel+1) listed a w:=by
 refine⟨fun h0=>(by rw [hr] at h0;cases h0),fun j hj=>?_⟩;rw [hr] at hj;obtain rfl:j=i:=by simpa using hj
 exact wpOp_step ho (fun K' hK=>h K' (fun a w hS hW=>hK a w ⟨.inr hS,hW hS⟩))
theorem wpAnyS_late{i:Nat}{o:Oper}{fuel:Nat}{listed:Array Bool}{a:Act}{w:World}(hr:Region.ready md ops listed=[i])(ho:ops[i]? =some o)(hl:Ls.contains i=true)
 (h:∀ K':Act->World->Prop,Shut (∀ a w,wpAnyS P md ops Q S Ls fuel (listed.setIfInBounds i true) a w->K' a w)->if Region.wanted o (yielded ops a.tmps)=true then Oper.wp P o a w K' Q else K' (a.put o.dst undef) w):
 wpAnyS P md ops Q S Ls (fuel+1) listed a w:=by
 refine⟨fun h0=>(by rw [hr] at h0;cases h0),fun j hj=>?_⟩;rw [hr] at hj;obtain rfl:j=i:=by simpa using hj
 exact wpOp_step ho (fun K' hK=>h K' (fun a w hW=>hK a w ⟨.inl (by simpa using hl),hW⟩))
theorem wpAnyS_done{fuel:Nat}{listed:Array Bool}{a:Act}{w:World}(hr:Region.ready md ops listed=[])(hq:Q .normal a w):wpAnyS P md ops Q S Ls fuel listed a w:=by
 cases fuel with
 |zero=>exact⟨hr,hq⟩
 |succ n=>exact⟨fun _=>hq,by rw [hr];intro i hi;cases hi⟩
theorem wp_region_S{id:Nat}{a:Act}{w:World}(S:World->Prop)(Ls:List Nat)(hm:P.follows .mixedOrders=true)(hS:S w.drew)
 (h:S w.drew->wpAnyS P .any ops Q S Ls ops.size (Array.replicate ops.size false) a w.drew):(Code.region id ops true).wp P Q a w:=
 wp_region_any hm (wpAny_of_S _ _ _ _ (h hS))
end
end Go.Proofs.YtcihkbojmbfmmaaGreatDoor
namespace Go.Proofs.YtcihkbojmbfmmaaGreatDoor
open Go.RowKit
set_option linter.unusedVariables false
theorem SeS.one{l:List GSe}(h:SeS l){a b:GSe}(ha:a∈l)(hb:b∈l)(e:a.ty=b.ty):a=b:=by
 induction l with
 |nil=>cases ha
 |cons x l ih=>
  have hx:=List.pairwise_cons.1 h
  rcases List.mem_cons.1 ha with rfl|ha'
  ·rcases List.mem_cons.1 hb with rfl|hb'
   ·rfl
   ·have:=hx.1 b hb';omega
  ·rcases List.mem_cons.1 hb with rfl|hb'
   ·have:=hx.1 a ha';omega
   ·exact ih hx.2 ha' hb'
theorem SeS.found{l:List GSe}(h:SeS l){s:GSe}(hs:s∈l):isIn (sCmp s.ty) l=true∧l[posOf (sCmp s.ty) l]? =some s:=by
 have hmono:=mono_of_pair (f:=sCmp s.ty) h (fun a b hab hb=>by
  rw [sCmp,cmpI_neg] at hb ⊢
  omega)
 have hfnd:=posOf_fnd l hmono;obtain⟨k,hk⟩:=List.mem_iff_getElem?.1 hs;have hkl:=(List.getElem?_eq_some_iff.1 hk).1
 have hz:sCmp s.ty s=0:=by
  rcases Int.lt_trichotomy (sCmp s.ty s) 0 with h1|h1|h1
  ·rw [sCmp,cmpI_neg] at h1;omega
  ·exact h1
  ·rw [sCmp,Nm.cmpI] at h1;simp at h1
 have hF:Fnd l.length (cfOf (sCmp s.ty) l) k:=by
  refine⟨Nat.le_of_lt hkl,fun i hi=>?_,fun i h1 h2=>?_⟩
  ·have hi':l[i]? =some l[i]:=List.getElem?_eq_getElem (by omega);rw [cfOf_at hi',sCmp,cmpI_neg];have:=List.pairwise_iff_getElem.1 h i k (by omega) hkl hi;rw [(List.getElem?_eq_some_iff.1 hk).2] at this;exact this
  ·have hi':l[i]? =some l[i]:=List.getElem?_eq_getElem h2;rw [cfOf_at hi']
   rcases Int.lt_or_le (sCmp s.ty l[i]) 0 with h3|h3
   ·rw [sCmp,cmpI_neg] at h3
    rcases Nat.lt_or_eq_of_le h1 with h4|rfl
    ·have:=List.pairwise_iff_getElem.1 h k i hkl h2 h4;rw [(List.getElem?_eq_some_iff.1 hk).2] at this;omega
    ·rw [(List.getElem?_eq_some_iff.1 hk).2] at h3;omega
   ·exact h3
 have e:=Fnd.unique hfnd hF;rw [isIn,e,cfOf_at hk,hz];exact⟨by simp [hkl],hk⟩
theorem OwAt.below{w w':World}{B:Nat}{o:GOw}(h:OwAt w B o)(hb:Below w.heap.size w w'):OwAt w' B o:=h.keep fun b hm=>hb.block b (h.lt b hm)
set_option maxRecDepth 100000 in
set_option maxHeartbeats 1600000 in
theorem ownerSet_any(o:GOw)(s:GSe)(B:Nat)(w:World)(h:OwAt w B o)(hl:o.ss.length<=500000)(hd:SeS o.ss)(hs:s∈o.ss)(hsl:s.da.length<=1000000):
 Calls Tryz.prog 96 #[ptr o.blk,.int .i64 s.ty] w fun e w'=>∃ v,e=.returned (.tuple #[.agg #[.string o.nm,.int .i64 s.ty,.int .i64 s.tt,v],.bool true])∧w'.ownsRow w.heap.size 9 1 v s.da.length (s.da.map fun p=>.string p.2)∧Below w.heap.size w w':=by
 have hB0:=(Below.refl w.heap.size w).alloc (Nat.le_refl _) (.cells #[.string ⟨#[]⟩,.int .i64 0,.int .i64 0,.slice none 0 0] 58);have kZ:=blk_new w #[.string ⟨#[]⟩,.int .i64 0,.int .i64 0,.slice none 0 0] 58;have h1:=h.below hB0
 have hg:=(getSet_any o B s.ty _ h1 hl hd).mono (R':=fun e w'=>Below (w.heap.size+1) (w.alloc (.cells #[.string ⟨#[]⟩,.int .i64 0,.int .i64 0,.slice none 0 0] 58)) w'∧e=.returned (.tuple #[ptr s.blk,.bool true])) (by
  rintro e w' ⟨hb,⟨_,s',h1,h2,rfl⟩|⟨hno,_⟩⟩
  ·obtain rfl:=hd.one (List.mem_of_getElem? h1) hs h2;exact⟨by simpa using hb,rfl⟩
  ·rw [(hd.found hs).1] at hno;cases hno)
 have hv:=fun W (hW:Below w.heap.size w W)=>valuesOf_any s.hd s.rv s.da hsl W (Nat.lt_of_lt_of_le (blk_lt (h.sets s hs).head) hW.size) ((blk_cell (blk_below (h.sets s hs).head hW) 1).trans rfl) ((rwsS_own (fun p:ByteArray×ByteArray=>p.1) (fun p=>p.2) s.da (by have:=own_below (h.sets s hs).rows hW;rw [show(daRs s.da).length=s.da.length by simp [daRs]] at this;exact this)))
 have rn:=fun i=>blk_cell h1.node i
 have kn:=h.node;have ks:=(h.sets s hs).node;have HV:=Nm.hide hv;unfold ptr at hg rn kn ks ⊢;clear h h1 hd hs hv;go_enter Tryz.func96,Tryz.ntmps96;go_wp2_with fail
 refine hg.mono ?_;rintro e w1 ⟨hb1,rfl⟩;have bw1:Below w.heap.size w w1:=hB0.trans (hb1.mono (Nat.le_succ _));have kn1:=blk_below kn bw1;have ks1:=blk_below ks bw1;have kZ1:Blk w1 w.heap.size _ _:=blk_below kZ (by simpa using hb1);clear hg rn kn ks hb1;go_wp2_with fail
 refine wp_region_S (S:=fun W=>W.cell? ⟨o.blk,0,none⟩=some (.string o.nm)∧W.cell? ⟨s.blk,0,none⟩=some (.int .i64 s.tt)∧W.cell? ⟨s.blk,2,none⟩=some (.pointer (some ⟨s.hd,0,none⟩))) (Ls:=[15,16]) rfl ⟨(blk_cell (blk_drew kn1) 0).trans rfl,(blk_cell (blk_drew ks1) 0).trans rfl,(blk_cell (blk_drew ks1) 2).trans rfl⟩ (fun hH=>?_);refine wpAnyS_take (i:=0) (v:=?_) rfl (by kernel_rfl) (by kernel_rfl) (by kernel_rfl) (by kernel_rfl) (fun _ _ _ h=>h) (Or.inl ⟨by rfl,?_⟩) (by assumption) ?_;rotate_left 1
 ·(intro w hSw;obtain⟨t2,t3,t4⟩:=hSw;go_simp;try (with_reducible rfl))
 refine wpAnyS_take (i:=1) (v:=?_) rfl (by kernel_rfl) (by kernel_rfl) (by kernel_rfl) (by kernel_rfl) (fun _ _ _ h=>h) (Or.inl ⟨by rfl,?_⟩) (by assumption) ?_;rotate_left 1
 ·(intro w hSw;obtain⟨t2,t3,t4⟩:=hSw;go_simp;try (with_reducible rfl))
 refine wpAnyS_take (i:=2) (v:=?_) rfl (by kernel_rfl) (by kernel_rfl) (by kernel_rfl) (by kernel_rfl) (fun _ _ _ h=>h) (Or.inl ⟨by rfl,?_⟩) (by assumption) ?_;rotate_left 1
 ·(intro w hSw;obtain⟨t2,t3,t4⟩:=hSw;go_simp;try (with_reducible rfl))
 refine wpAnyS_take (i:=3) (v:=?_) rfl (by kernel_rfl) (by kernel_rfl) (by kernel_rfl) (by kernel_rfl) (fun _ _ _ h=>h) (Or.inl ⟨by rfl,?_⟩) (by assumption) ?_;rotate_left 1
 ·(intro w hSw;obtain⟨t2,t3,t4⟩:=hSw;go_simp;try (with_reducible rfl))
 refine wpAnyS_take (i:=4) (v:=?_) rfl (by kernel_rfl) (by kernel_rfl) (by kernel_rfl) (by kernel_rfl) (fun _ _ _ h=>h) (Or.inl ⟨by rfl,?_⟩) (by assumption) ?_;rotate_left 1
 ·(intro w hSw;obtain⟨t2,t3,t4⟩:=hSw;go_simp;try (with_reducible rfl))
 refine wpAnyS_take (i:=5) (v:=?_) rfl (by kernel_rfl) (by kernel_rfl) (by kernel_rfl) (by kernel_rfl) (fun _ _ _ h=>h) (Or.inl ⟨by rfl,?_⟩) (by assumption) ?_;rotate_left 1
 ·(intro w hSw;obtain⟨t2,t3,t4⟩:=hSw;go_simp;try (with_reducible rfl))
 refine wpAnyS_take (i:=6) (v:=?_) rfl (by kernel_rfl) (by kernel_rfl) (by kernel_rfl) (by kernel_rfl) (fun _ _ _ h=>h) (Or.inl ⟨by rfl,?_⟩) (by assumption) ?_;rotate_left 1
 ·(intro w hSw;obtain⟨t2,t3,t4⟩:=hSw;go_simp;try (with_reducible rfl))
 refine wpAnyS_take (i:=7) (v:=?_) rfl (by kernel_rfl) (by kernel_rfl) (by kernel_rfl) (by kernel_rfl) (fun _ _ _ h=>h) (Or.inl ⟨by rfl,?_⟩) (by assumption) ?_;rotate_left 1
 ·(intro w hSw;obtain⟨t2,t3,t4⟩:=hSw;go_simp;try (with_reducible rfl))
 refine wpAnyS_take (i:=8) (v:=?_) rfl (by kernel_rfl) (by kernel_rfl) (by kernel_rfl) (by kernel_rfl) (fun _ _ _ h=>h) (Or.inl ⟨by rfl,?_⟩) (by assumption) ?_;rotate_left 1
 ·(intro w hSw;obtain⟨t2,t3,t4⟩:=hSw;go_simp;try (with_reducible rfl))
 refine wpAnyS_take (i:=9) (v:=?_) rfl (by kernel_rfl) (by kernel_rfl) (by kernel_rfl) (by kernel_rfl) (fun _ _ _ h=>h) (Or.inl ⟨by rfl,?_⟩) (by assumption) ?_;rotate_left 1
 ·(intro w hSw;obtain⟨t2,t3,t4⟩:=hSw;go_simp;try (with_reducible rfl))
 refine wpAnyS_take (i:=10) (v:=?_) rfl (by kernel_rfl) (by kernel_rfl) (by kernel_rfl) (by kernel_rfl) (fun _ _ _ h=>h) (Or.inl ⟨by rfl,?_⟩) (by assumption) ?_;rotate_left 1
 ·(intro w hSw;obtain⟨t2,t3,t4⟩:=hSw;go_simp;try (with_reducible rfl))
 refine wpAnyS_take (i:=11) (v:=?_) rfl (by kernel_rfl) (by kernel_rfl) (by kernel_rfl) (by kernel_rfl) (fun _ _ _ h=>h) (Or.inl ⟨by rfl,?_⟩) (by assumption) ?_;rotate_left 1
 ·(intro w hSw;obtain⟨t2,t3,t4⟩:=hSw;go_simp;try (with_reducible rfl))
 refine wpAnyS_take (i:=12) (v:=?_) rfl (by kernel_rfl) (by kernel_rfl) (by kernel_rfl) (by kernel_rfl) (fun _ _ _ h=>h) (Or.inl ⟨by rfl,?_⟩) (by assumption) ?_;rotate_left 1
 ·(intro w hSw;obtain⟨t2,t3,t4⟩:=hSw;go_simp;try (with_reducible rfl))
 refine wpAnyS_one (i:=13) (by kernel_rfl) rfl (fun K hK'=>?_);go_simp;have bd:=(Below.refl w1.heap.size w1).drew;refine(HV.out _ (bw1.drew)).mono ?_;rintro e w3 ⟨v,rfl,ho3,d3⟩;have d3':=bd.trans d3;have kn3:=blk_below kn1 d3';have ks3:=blk_below ks1 d3';have kZ3:=blk_below kZ1 d3';have bw3:=Nm.below_two bw1 d3';obtain⟨va,vc,rfl⟩:=own_sl ho3;have HLT:Hid (w.heap.size<w1.heap.size):=blk_lt kZ1;clear kn1 ks1 kZ1 hH;go_wp2_with fail
 refine hK'.out _ _ ⟨(blk_cell kn3 0).trans rfl,(blk_cell ks3 0).trans rfl,(blk_cell ks3 2).trans rfl⟩ (fun hH=>?_);clear hK' K;refine wpAnyS_take (i:=14) (v:=?_) rfl (by kernel_rfl) (by kernel_rfl) (by kernel_rfl) (by kernel_rfl) (fun _ _ _ h=>h) (Or.inl ⟨by rfl,?_⟩) (by assumption) ?_;rotate_left 1
 ·(intro w hSw;obtain⟨t2,t3,t4⟩:=hSw;go_simp;try (with_reducible rfl))
 refine wpAnyS_late (i:=15) (by kernel_rfl) rfl (by kernel_rfl) (fun K hK'=>?_);have rz:=fun i=>blk_cell kZ3 i
 have fz:=fun i=>blk_frozen kZ3 i
 go_simp;refine hK'.out _ _ ?_;clear hK' K;refine wpAnyS_late (i:=16) (by kernel_rfl) rfl (by kernel_rfl) (fun K hK'=>?_);go_simp;refine hK'.out _ _ ?_;clear hK' K;refine wpAnyS_done (by kernel_rfl) ?_;have hfar:(Value.slice va s.da.length vc).ownBlock≠some w.heap.size:=fun e=>by have:=(ho3.lt _ e).1;have:=HLT.out;simp at*;omega
 have k4:=blk_set (blk_set (blk_set (blk_set kZ3 0 (.string o.nm)) 1 (.int .i64 s.ty)) 2 (.int .i64 s.tt)) 3 (.slice va s.da.length vc);simp only [List.setIfInBounds_toArray,List.set_cons_zero,List.set_cons_succ] at k4;have ho4:=own_far (y:=.slice va s.da.length vc) (i:=3) (g:=w.heap.size) (own_far (y:=.int .i64 s.tt) (i:=2) (g:=w.heap.size) (own_far (y:=.int .i64 s.ty) (i:=1) (g:=w.heap.size) (own_far (y:=.string o.nm) (i:=0) (g:=w.heap.size) ho3 hfar) hfar) hfar) hfar;have bw4:=(((bw3.setCell (p:=⟨w.heap.size,0,none⟩) (Nat.le_refl _) (.string o.nm)).setCell (p:=⟨w.heap.size,1,none⟩) (Nat.le_refl _) (.int .i64 s.ty)).setCell (p:=⟨w.heap.size,2,none⟩) (Nat.le_refl _) (.int .i64 s.tt)).setCell (p:=⟨w.heap.size,3,none⟩) (Nat.le_refl _) (.slice va s.da.length vc);have rk:=fun i=>blk_cell k4 i
 clear rz fz hH;go_wp2_with fail
 refine bodyPost_ret (v:=.tuple #[.agg #[.string o.nm,.int .i64 s.ty,.int .i64 s.tt,.slice va s.da.length vc],.bool true]) ?_ rfl ⟨_,rfl,own_base ho4 bw1.size,bw4⟩;simp [results,Tryz.f96,go_sem,rk]
theorem infoOwS:(Tryz.prog.info? 140).map (·.size)=some 3:=by kernel_rfl
theorem eqlOw_same(t:Nat)(w:World):(binOp .eql 135 (.pointer (some ⟨t,0,none⟩)) (.pointer (some ⟨t,0,none⟩))).run Tryz.prog w=.ok (.bool true) w:=by
 obtain⟨j,hj,_⟩:=Option.map_eq_some_iff.1 infoOwS;exact run_eql_ptr_same w _ Tryz.underlying135 hj
theorem eqlOw_other{t x:Nat}{w:World}{ca cb:Array Value}{ta tb:TypeId}(h:t≠x)(ha:Blk w t ca ta)(hb:Blk w x cb tb):
 (binOp .eql 135 (.pointer (some ⟨t,0,none⟩)) (.pointer (some ⟨x,0,none⟩))).run Tryz.prog w=.ok (.bool false) w:=by
 obtain⟨j,hj,hs⟩:=Option.map_eq_some_iff.1 infoOwS;exact run_eql_ptr_other w Tryz.underlying135 hj (by omega) (fun e=>h (congrArg Addr.block e)) ha hb
set_option maxRecDepth 100000 in
set_option maxHeartbeats 800000 in
theorem indexOw_any(v:Value)(bs:List Nat)(t:Nat)(w:World)(h:CRow w v bs.length 1 (bs.map ptr))(hbk:∀ b,b=t∨b∈bs->∃ cs T,Blk w b cs T):
 Calls Tryz.prog 151 #[v,.pointer (some ⟨t,0,none⟩)] w fun e w'=>Below w.heap.size w w'∧((t∉bs∧e=.returned (.int .i64 (-1)))∨(t∈bs∧∃ k:Nat,e=.returned (.int .i64 k))):=by
 obtain⟨_,a,cap,rfl,hcap,hmx,hc⟩:=h;unfold maxLen at hmx;go_enter Tryz.func151,Tryz.ntmps151;go_wp2
 go_loopw [8] (fun i wr=>∃ k:Nat,k<=bs.length∧i=.int .i64 k∧t∉bs.take k∧Below w.heap.size w wr) (fun i _=>bs.length-(intOf i).toNat)
 case atStart=>exact⟨0,Nat.zero_le _,rfl,by simp,Below.refl _ _⟩
 case round=>
  obtain⟨k,hk,rfl,hno,hbel⟩:=hrel;have HR:=Nm.hide (And.intro hno hbel)
  by_cases hlt:k<bs.length
  ·obtain⟨x,hx⟩:∃ x,bs[k]? =some x:=⟨_,List.getElem?_eq_getElem hlt⟩;obtain⟨bb,off,rfl,hcell⟩:=hc (by omega);have hcx:=hcell k (.pointer (some ⟨x,0,none⟩)) (by simp [ptr,hx]);have hcr:wr.cell? ⟨bb,off+k,none⟩=some (.pointer (some ⟨x,0,none⟩)):=(hbel.cell (World.block_lt_of_cell? w _ hcx)).trans hcx;have HX:=Nm.hide hx;have i1:(0:Int)<=(k:Int):=by omega
   have i2:(k:Int)<(bs.length:Int):=by omega
   obtain⟨c1,T1,k1⟩:=hbk t (.inl rfl);obtain⟨c2,T2,k2⟩:=hbk x (.inr (List.mem_of_getElem? hx));have K1:=Nm.hide (And.intro (blk_below k1 hbel) (blk_below k2 hbel));clear hc hcell hcx hx hno hbel k1 k2
   by_cases he:t=x
   ·subst he;have hq:=eqlOw_same t wr;clear hbk;go_wp2;go_ret;exact⟨HR.out.2,.inr ⟨List.mem_of_getElem? HX.out,k,rfl⟩⟩
   ·have hq:=eqlOw_other he K1.out.1 K1.out.2;clear hbk;go_wp2;go_roundw
    case rel=>
     refine⟨k+1,by omega,by go_num,?_,HR.out.2⟩;obtain⟨hk',e⟩:=List.getElem?_eq_some_iff.1 HX.out;rw [List.take_succ_eq_append_getElem hk',e];simp only [List.mem_append,List.mem_singleton,not_or];exact⟨HR.out.1,he⟩
    case measure=>simp [intOf];omega
  ·have hke:k=bs.length:=by omega
   subst hke;clear hc hno hbel;go_wp2;go_ret;have:=HR.out.1;rw [List.take_length] at this;exact⟨HR.out.2,.inl ⟨this,rfl⟩⟩
set_option maxRecDepth 100000 in
set_option maxHeartbeats 800000 in
theorem containsOw_any(v:Value)(bs:List Nat)(t:Nat)(w:World)(h:CRow w v bs.length 1 (bs.map ptr))(hbk:∀ b,b=t∨b∈bs->∃ cs T,Blk w b cs T):
 Calls Tryz.prog 122 #[v,.pointer (some ⟨t,0,none⟩)] w fun e w'=>e=.returned (.bool (decide (t∈bs)))∧Below w.heap.size w w':=by
 have hi:=indexOw_any v bs t w h hbk;obtain⟨_,a,cap,rfl,hcap,hmx,hc⟩:=h;clear hc;go_enter Tryz.func122,Tryz.ntmps122;go_wp2_with fail
 refine hi.mono ?_;rintro e w1 ⟨b1,⟨hb,rfl⟩|⟨hb,k,rfl⟩⟩
 ·have HB:=Nm.hide hb;clear hb;go_wp2;go_ret;rw [decide_eq_false HB.out];exact⟨rfl,b1⟩
 ·have HB:=Nm.hide hb;clear hb;have hk:(0:Int)<=(k:Int):=by omega
  go_wp2;go_ret;rw [decide_eq_true HB.out];exact⟨rfl,b1⟩
def wildL:List ByteArray->Bool
 |[]=>false
 |x::_=>x.toList==[42]
set_option maxRecDepth 100000 in
set_option maxHeartbeats 800000 in
theorem isWild_any(v:Value)(ls:List ByteArray)(w:World)(h:Nm.SRow w v ls):
 Calls Tryz.prog 116 #[v] w fun e w'=>e=.returned (.bool (wildL ls))∧Below w.heap.size w w':=by
 obtain⟨a,cap,rfl,h1,h2,h3,h4⟩:=h;unfold maxLen at h2
 cases ls with
 |nil=>
  clear h3 h4;go_enter Tryz.func116,Tryz.ntmps116;go_wp2;go_ret
  exact⟨rfl,Below.refl _ _⟩
 |cons x ls=>
  obtain⟨b,off,rfl,hc⟩:=h4 (by simp);have c0:=hc 0 x rfl;simp only [Nat.add_zero] at c0;generalize hn:(x::ls).length=N at*;have n1:(0:Int)<(N:Int):=by simp at hn;omega
  have HN:=Nm.hide hn;clear hc h3 h4 hn;go_enter Tryz.func116,Tryz.ntmps116;go_wp2;go_ret;exact⟨rfl,Below.refl _ _⟩
def First{α:Type}(P:α->Prop)(l:List α)(i:Nat)(x:α):Prop:=l[i]? =some x∧P x∧∀ (j:Nat) (y:α),j<i->l[j]? =some y->¬P y
theorem First.lt{α:Type}{P:α->Prop}{l:List α}{i:Nat}{x:α}(h:First P l i x):i<l.length:=(List.getElem?_eq_some_iff.1 h.1).1
theorem First.snoc{α:Type}{P:α->Prop}{l:List α}{i:Nat}{x:α}(h:First P l i x)(y:α):First P (l++[y]) i x:=by
 have hi:=h.lt;refine⟨by rw [List.getElem?_append_left hi];exact h.1,h.2.1,fun j z hj hz=>?_⟩;rw [List.getElem?_append_left (by omega)] at hz;exact h.2.2 j z hj hz
theorem First.new{α:Type}{P:α->Prop}{l:List α}{x:α}(hno:∀ y∈l,¬P y)(hx:P x):First P (l++[x]) l.length x:=
 ⟨by simp,hx,fun j y hj hy=>by rw [List.getElem?_append_left hj] at hy;exact hno y (List.mem_of_getElem? hy)⟩
theorem First.congr{α:Type}{P Q:α->Prop}{l:List α}{i:Nat}{x:α}(h:First P l i x)(e:∀ y,P y↔Q y):First Q l i x:=
 ⟨h.1,(e x).1 h.2.1,fun j y hj hy hq=>h.2.2 j y hj hy ((e y).2 hq)⟩
theorem First.mem{α:Type}{P:α->Prop}{l:List α}{i:Nat}{x:α}(h:First P l i x):x∈l:=List.mem_of_getElem? h.1
theorem First.ex{α:Type}{P:α->Prop}:∀ {l:List α},(∃ x∈l,P x)->∃ i x,First P l i x:=by
 intro l
 induction l with
 |nil=>rintro⟨x,hx,_⟩;cases hx
 |cons y l ih=>
  rintro⟨x,hx,hp⟩
  by_cases hy:P y
  ·exact⟨0,y,rfl,hy,fun j _ hj=>by omega⟩
  ·have hx':x∈l:=by
    rcases List.mem_cons.1 hx with rfl|h
    ·exact absurd hp hy
    ·exact h
   obtain⟨i,z,h1,h2,h3⟩:=ih ⟨x,hx',hp⟩;refine⟨i+1,z,by simpa using h1,h2,fun j u hj hu=>?_⟩
   cases j with
   |zero=>simp at hu;subst hu;exact hy
   |succ j=>exact h3 j u (by omega) (by simpa using hu)
theorem First.uniq{α:Type}{P:α->Prop}{l:List α}{i j:Nat}{x y:α}(h:First P l i x)(h':First P l j y):i=j∧x=y:=by
 have e:i=j:=by
  rcases Nat.lt_trichotomy i j with h1|h1|h1
  ·exact absurd h.2.1 (h'.2.2 i x h1 h.1)
  ·exact h1
  ·exact absurd h'.2.1 (h.2.2 j y h1 h'.1)
 subst e;have:=h.1.symm.trans h'.1;exact⟨rfl,Option.some.inj this⟩
theorem First.find{α:Type}{P:α->Prop}{l:List α}{i:Nat}{x:α}(h:First P l i x)(p:α->Bool)(e:∀ y∈l,p y=true↔P y):l.find? p=some x:=by
 rw [List.find?_eq_some_iff_getElem];have hi:=h.lt;refine⟨(e x h.mem).2 h.2.1,i,hi,(List.getElem?_eq_some_iff.1 h.1).2,fun j hj=>?_⟩;have hj':l[j]? =some l[j]:=List.getElem?_eq_getElem (by omega);have:=h.2.2 j _ hj hj'
 cases hp:p l[j] with
 |false=>rfl
 |true=>exact absurd ((e _ (List.mem_of_getElem? hj')).1 hp) this
theorem place_split{α:Type}{f:α->Int}{R:α->α->Prop}:∀ {l:List α},l.Pairwise R->(∀ a b,R a b->f b<=0->f a<0)->
 (isIn f l=false∧∃ A C,l=A++C∧posOf f l=A.length∧(∀ a∈A,f a<0)∧∀ c∈C,0<f c)∨
 (isIn f l=true∧∃ A o C,l=A++o::C∧posOf f l=A.length∧f o=0∧(∀ a∈A,f a<0)∧∀ c∈C,0<f c):=by
 intro l
 induction l with
 |nil=>intro _ _;exact .inl ⟨rfl,[],[],rfl,rfl,by simp,by simp⟩
 |cons x l ih=>
  intro hp hR;obtain⟨hx,hl⟩:=List.pairwise_cons.1 hp
  by_cases h1:f x<0
  ·have hpo:posOf f (x::l)=posOf f l+1:=by simp [posOf,h1]
   have hin:isIn f (x::l)=isIn f l:=by
    rw [isIn,isIn,hpo];congr 1
    ·simp
   rw [hin,hpo]
   rcases ih hl hR with⟨hi,A,C,e,hA,ha,hc⟩|⟨hi,A,o,C,e,hA,h0,ha,hc⟩
   ·refine .inl ⟨hi,x::A,C,by rw [e];rfl,by rw [hA];rfl,fun a hm=>?_,hc⟩
    rcases List.mem_cons.1 hm with rfl|hm
    ·exact h1
    ·exact ha a hm
   ·refine .inr ⟨hi,x::A,o,C,by rw [e];rfl,by rw [hA];rfl,h0,fun a hm=>?_,hc⟩
    rcases List.mem_cons.1 hm with rfl|hm
    ·exact h1
    ·exact ha a hm
  ·have hpo:posOf f (x::l)=0:=by simp [posOf,h1]
   have hC:∀ c∈l,0<f c:=fun c hc=>by
    rcases Int.lt_or_le 0 (f c) with h|h
    ·exact h
    ·exact absurd (hR x c (hx c hc) h) h1
   have hin:isIn f (x::l)=decide (f x=0):=by
    rw [isIn,hpo];simp [cfOf]
   by_cases h0:f x=0
   ·exact .inr ⟨by rw [hin,decide_eq_true h0],[],x,l,rfl,hpo,h0,by simp,hC⟩
   ·refine .inl ⟨by rw [hin,decide_eq_false h0],[],x::l,rfl,hpo,by simp,fun c hc=>?_⟩
    rcases List.mem_cons.1 hc with rfl|hc
    ·omega
    ·exact hC c hc
theorem ins_len{α:Type}(A C:List α)(x:α):insAt A.length x (A++C)=A++x::C:=by simp [insAt]
theorem set_len{α:Type}(A C:List α)(o x:α):(A++o::C).set A.length x=A++x::C:=by
 rw [List.set_append_right _ _ (Nat.le_refl _)];simp
theorem cmpLs_lt_le{a b c:List ByteArray}(h1:Nm.cmpLs a b<0)(h2:Nm.cmpLs b c<=0):Nm.cmpLs a c<0:=by
 have h3:=cmpLs_trans (a:=a) (b:=b) (c:=c) (by omega) h2
 rcases Int.lt_or_eq_of_le h3 with h|h
 ·exact h
 ·exfalso
  have h4:=cmpLs_anti a c;have h5:=cmpLs_trans (a:=b) (b:=c) (c:=a) h2 (by rw [h4];omega);have h6:=cmpLs_anti a b;omega
theorem cmpLs_eq_left{a b c:List ByteArray}(h:Nm.cmpLs a b=0):Nm.cmpLs a c=Nm.cmpLs b c:=by
 have hr1:=cmpLs_range a c;have hr2:=cmpLs_range b c;have h':Nm.cmpLs b a=0:=by rw [cmpLs_anti a b];omega
 have k1:=fun(x:Nm.cmpLs b c<=0)=>cmpLs_trans (a:=a) (b:=b) (c:=c) (by omega) x
 have k2:=fun(x:Nm.cmpLs a c<=0)=>cmpLs_trans (a:=b) (b:=a) (c:=c) (by omega) x
 have k3:=fun(x:0<=Nm.cmpLs b c)=>cmpLs_trans' (a:=a) (b:=b) (c:=c) (by omega) x
 have k4:=fun(x:0<=Nm.cmpLs a c)=>cmpLs_trans' (a:=b) (b:=a) (c:=c) (by omega) x
 by_cases z1:Nm.cmpLs b c<=0<;>by_cases z2:0<=Nm.cmpLs b c<;>by_cases z3:Nm.cmpLs a c<=0<;>by_cases z4:0<=Nm.cmpLs a c<;>first|omega|(have:=k1 z1;omega)|(have:=k2 z3;omega)|(have:=k3 z2;omega)|(have:=k4 z4;omega)
theorem cmpLs_eq_right{a b c:List ByteArray}(h:Nm.cmpLs a b=0):Nm.cmpLs c a=Nm.cmpLs c b:=by
 rw [cmpLs_anti a c,cmpLs_anti b c,cmpLs_eq_left h]
theorem cmpLs_self(a:List ByteArray):Nm.cmpLs a a=0:=(cmpLs_zero a a).2 rfl
theorem cmpLs_symm{a b:List ByteArray}(h:Nm.cmpLs a b=0):Nm.cmpLs b a=0:=by rw [cmpLs_anti a b];omega
theorem oCmp_mono(lab:List ByteArray)(a b:GOw)(h:Nm.cmpLs a.lab b.lab<0)(hb:oCmp lab b<=0):oCmp lab a<0:=cmpLs_lt_le h hb
theorem sCmp_mono(ty:Int)(a b:GSe)(h:a.ty<b.ty)(hb:sCmp ty b<=0):sCmp ty a<0:=by
 rw [sCmp,cmpI_neg];rw [sCmp] at hb
 rcases Int.lt_trichotomy b.ty ty with h1|h1|h1
 ·omega
 ·omega
 ·rw [Nm.cmpI_gt h1] at hb;omega
theorem ordL_lt_le{a b c:List UInt8}(h1:Nm.ordL a b<0)(h2:Nm.ordL b c<=0):Nm.ordL a c<0:=by
 have h3:=ordL_trans a b c (by omega) h2
 rcases Int.lt_or_eq_of_le h3 with h|h
 ·exact h
 ·exfalso
  have h4:=ordL_anti a c;have h5:=ordL_trans b c a h2 (by rw [h4];omega);have h6:=ordL_anti a b;omega
theorem dCmp_mono(fd:ByteArray)(a b:ByteArray×ByteArray)(h:Nm.ordL a.1.data.toList b.1.data.toList<0)(hb:dCmp fd b<=0):dCmp fd a<0:=ordL_lt_le h hb
theorem dCmp_zero{fd:ByteArray}{p:ByteArray×ByteArray}:dCmp fd p=0↔p.1=fd:=by
 rw [dCmp,ordL_zero];exact⟨fun h=>Nm.ba_ext h,fun h=>by rw [h]⟩
theorem sCmp_zero{ty:Int}{s:GSe}:sCmp ty s=0↔s.ty=ty:=⟨fun h=>cmpI_zero h,fun h=>by rw [sCmp,Nm.cmpI_eq h]⟩
theorem low_low(c:UInt8):Nm.low (Nm.low c)=Nm.low c:=by
 by_cases h:65<=c.toNat∧c.toNat<=90
 ·have:=Nm.low_up h;exact Nm.low_id (by omega)
 ·rw [Nm.low_id h,Nm.low_id h]
theorem small_small(x:ByteArray):Nm.small (Nm.small x)=Nm.small x:=by
 apply Nm.ba_ext;rw [Nm.small_data,Nm.small_data,Nm.smallL,Nm.smallL,List.map_map];apply List.map_congr_left;intro c _;exact low_low c
theorem ordS_small(x y:ByteArray):Nm.ordS (Nm.small x) (Nm.small y)=Nm.ordS x y:=by
 rw [Nm.ordS,Nm.ordS,<- Nm.small_data,<- Nm.small_data,small_small,small_small,Nm.small_data,Nm.small_data]
theorem cmpRev_small:∀ (a b:List ByteArray),Nm.cmpRev (a.map Nm.small) (b.map Nm.small)=Nm.cmpRev a b
 |[],[]=>rfl
 |[],y::b=>rfl
 |x::a,[]=>rfl
 |x::a,y::b=>by
  simp only [List.map_cons,Nm.cmpRev,ordS_small,cmpRev_small a b]
theorem cmpLs_small(a b:List ByteArray):Nm.cmpLs (a.map Nm.small) (b.map Nm.small)=Nm.cmpLs a b:=by
 rw [Nm.cmpLs,<- List.map_reverse,<- List.map_reverse,cmpRev_small,Nm.cmpLs]
theorem underB_small(a b:List ByteArray):underB (a.map Nm.small) (b.map Nm.small)=underB a b:=by
 rw [underB,underB,List.length_map,List.length_map,<- List.map_drop,cmpLs_small]
theorem underB_same{a a' b b':List ByteArray}(h1:Nm.cmpLs a a'=0)(h2:Nm.cmpLs b b'=0):underB a b=underB a' b':=by
 rw [<- underB_small a b,<- underB_small a' b',(cmpLs_zero _ _).1 h1,(cmpLs_zero _ _).1 h2]
theorem len_same{a b:List ByteArray}(h:Nm.cmpLs a b=0):a.length=b.length:=by
 have:=congrArg List.length ((cmpLs_zero _ _).1 h);simpa using this
theorem split_fold{a:ByteArray}{xs:List ByteArray}(h:Nm.split a=some xs):Nm.split (Nm.foldS a)=some (xs.map Nm.small):=by
 rw [Nm.foldS_some h,<- Nm.joinL_small h];have:=Nm.split_size h;exact split_of_join (small_ok (Nm.split_join h).2) (by rw [Nm.wsum_small];omega)
theorem fold_lab{a b:ByteArray}{xs ys:List ByteArray}(ha:Nm.split a=some xs)(hb:Nm.split b=some ys):Nm.foldS a=Nm.foldS b↔Nm.cmpLs xs ys=0:=by
 constructor
 ·intro h;have h1:=split_fold ha;rw [h,split_fold hb] at h1;exact(cmpLs_zero _ _).2 (Option.some.inj h1).symm
 ·intro h;rw [Nm.foldS_some ha,Nm.foldS_some hb,<- Nm.joinL_small ha,<- Nm.joinL_small hb,(cmpLs_zero _ _).1 h]
theorem cmpS_fold{a b:ByteArray}{xs ys:List ByteArray}(ha:Nm.split a=some xs)(hb:Nm.split b=some ys):Nm.cmpS (Nm.foldS a) (Nm.foldS b)=Nm.cmpLs xs ys:=by
 rw [Nm.cmpS,split_fold ha,split_fold hb];exact cmpLs_small _ _
theorem isUnder_fold{a b:ByteArray}{xs ys:List ByteArray}(ha:Nm.split a=some xs)(hb:Nm.split b=some ys):isUnderS (Nm.foldS a) (Nm.foldS b)=underB xs ys:=by
 rw [isUnder_some (split_fold ha) (split_fold hb)];exact underB_small _ _
theorem low_star{c:UInt8}:Nm.low c=42↔c=42:=by
 by_cases h:65<=c.toNat∧c.toNat<=90
 ·have h1:=Nm.low_up h;constructor
  ·intro e;rw [e] at h1;simp at h1;omega
  ·intro e;rw [e] at h;simp at h
 ·rw [Nm.low_id h]
theorem wildL_same{a b:List ByteArray}(h:Nm.cmpLs a b=0):wildL a=wildL b:=by
 have e:=(cmpLs_zero _ _).1 h
 cases a with
 |nil=>
  cases b with
  |nil=>rfl
  |cons y b=>simp at e
 |cons x a=>
  cases b with
  |nil=>simp at e
  |cons y b=>
   simp only [List.map_cons,List.cons.injEq] at e;have e1:=congrArg (fun z:ByteArray=>z.data.toList) e.1;simp only [Nm.small_data,Nm.smallL] at e1;rw [wildL,wildL,ByteArray.toList_eq,ByteArray.toList_eq,Bool.eq_iff_iff];simp only [beq_iff_eq];generalize x.data.toList=X at*;generalize y.data.toList=Y at*
   have key:∀ Z:List UInt8,Z=[42]↔Z.map Nm.low=[42]:=by
    intro Z
    cases Z with
    |nil=>simp
    |cons z Z=>cases Z with
     |nil=>simp [low_star]
     |cons z' Z=>simp
   rw [key X,key Y,e1]
theorem starB_fold{a:ByteArray}{xs:List ByteArray}(h:Nm.split a=some xs):starB (Nm.foldS a)=wildL xs:=by
 have hj:=Nm.split_join h;rw [Nm.foldS_some h,<- Nm.joinL_small h,starB]
 cases xs with
 |nil=>rfl
 |cons x t=>
  have hx:=hj.2 x (List.mem_cons_self)
  have e:Nm.joinL ((x::t).map Nm.small)=UInt8.ofNat x.size::((Nm.small x).data.toList++Nm.joinL (t.map Nm.small)):=by
   simp [Nm.joinL,Nm.preL,Nm.small_size]
  have hs:1<(ByteArray.mk (Nm.joinL ((x::t).map Nm.small)).toArray).size:=by
   show 1<(Nm.joinL ((x::t).map Nm.small)).toArray.size
   rw [List.size_toArray,e];have:(Nm.small x).data.toList.length=x.size:=by rw [Nm.small_data];simp [Nm.smallL]
   simp only [List.length_cons,List.length_append,this];omega
  rw [decide_eq_true hs,Bool.true_and,wildL,Bool.eq_iff_iff,decide_eq_true_eq,beq_iff_eq,ByteArray.toList_eq];have hl:x.data.toList.length=x.size:=by simp
  rw [e,Nm.small_data,Nm.smallL];generalize x.data.toList=X at*
  cases X with
  |nil=>simp at hl;omega
  |cons c X=>
   have h63:x.size<=63:=hx.2;generalize x.size=n at*;constructor
   ·intro h2;have h3:=congrArg (fun z:ByteArray=>z.data.toList) h2;simp at h3;obtain⟨h4,h5⟩:=h3
    have hn:n=1:=by
     have:=congrArg UInt8.toNat h4;simp at this;omega
    subst hn;simp at hl;subst hl;rw [low_star.1 h5]
   ·intro h2;simp at h2;obtain⟨rfl,rfl⟩:=h2;simp at hl;subst hl;have h42:Nm.low 42=42:=low_star.2 rfl;apply Nm.ba_ext;simp [h42]
end Go.Proofs.YtcihkbojmbfmmaaGreatDoor
