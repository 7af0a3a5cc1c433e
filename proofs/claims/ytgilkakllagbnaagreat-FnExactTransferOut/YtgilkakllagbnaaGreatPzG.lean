import Derived.Test.YtgilkakllagbnaaGreatJZrM
import Derived.Test.YtgilkakllagbnaaGreatJStA
import Derived.Deep.AppendSrc
import Derived.Lib.AppendZerosOnto
namespace Go.Proofs.YtgilkakllagbnaaGreat
open Go.RowKit
set_option linter.unusedVariables false
theorem wpList_app_ranR{P:Program}{ops:Array Oper}{rest:List Oper}{o:Oper}{a:Act}{w:World}{Q:Exit->Act->World->Prop}(hgd:o.guard=none)(s x:Operand)(t t2:TypeId)
 (ho:o.op=.call {callee:=.builtin .append,args:=#[s,x],argTypes:=#[t,t2]}) (v u v':Value) (w':World) (hs:a.eval s=v) (hx:a.eval x=u)
 (hr:(Builtin.append_ #[t,t2] o.type #[v,u]).run P w=.ok v' w') (h:wpList P ops Q rest (a.put o.dst v') w'):wpList P ops Q (o::rest) a w:=
 wpList_plain hgd fun _ hK=>by
  unfold Oper.wp execOp;simp only [ho,resolve,invoke,builtin,Sem.run_bind,Sem.run_pure,Result.andThen_ok,List.map_toArray,List.map_cons,List.map_nil,hs,hx,hr];exact hK _ _ h
theorem rv_ones(l:List Rr):∀ u∈rvVs l,u.oneCell'=true:=by
 intro u hu;rw [rvVs] at hu;obtain⟨r,_,hr⟩:=List.mem_flatMap.1 hu;simp [rvV] at hr
 rcases hr with rfl|rfl|rfl|rfl|rfl<;>rfl
theorem own_appR{w:World}{B n:Nat}{v u:Value}{l r:List Rr}(hown:w.ownsRow B 56 5 v n (rvVs l))(hv:v.ownBlock≠none)(hs:CRow w u r.length 5 (rvVs r))(hn:n<=1000000)(hr:r.length<=1000000)(hB:B<=w.heap.size):
 ∃ v' w',(Builtin.append_ #[28,28] 28 #[v,u]).run Tryz.prog w=.ok v' w'∧w'.ownsRow B 56 5 v' (n+r.length) (rvVs (l++r))∧w.grownBy w' v.ownBlock∧v'.ownBlock≠none:=by
 obtain⟨j0,hj,k0,k1,k2⟩:=info_parts Tryz.infoRw;obtain⟨hlen,a,cap,rfl,hcap,hmx,hc⟩:=hs
 cases a with
 |none=>
  have hn:r.length=0:=by
   rcases Nat.eq_zero_or_pos r.length with h|h
   ·exact h
   ·obtain⟨b,off,e,_⟩:=hc h;cases e
  have hl0:r=[]:=List.eq_nil_of_length_eq_zero hn;subst hl0
  rcases hown.2 with⟨rfl,rfl⟩|⟨g,cap',cur,rfl,hbg,hg,hnc,hcm,hcs,htake⟩
  ·exact absurd rfl hv
  ·refine⟨_,_,run_append_room_src (P:=Tryz.prog) w 28 28 28 56 j0 Tryz.underlying28 hj g 0 n cap' (.slice none 0 cap) 0 [] (Src.ofNil _ Tryz.underlying28 cap) (by omega) (by simp) (by simp),?_,⟨rfl,rfl,rfl,Nat.le_refl _,fun _ _ _=>rfl⟩,by simp [Value.ownBlock]⟩;rw [List.append_nil]
   exact hown
 |some x=>
  obtain⟨v',w',h1,h2,h3,h4⟩:=run_append_own (P:=Tryz.prog) w B 28 28 56 j0 _ 5 56 Tryz.underlying28 hj k0 k1 k2 rfl (by decide) v n (rvVs l) hown x r.length cap (rvVs r) hlen (by
   intro j u hu
   have hp:0<r.length:=by
    rcases Nat.eq_zero_or_pos r.length with h|h
    ·have:r=[]:=List.eq_nil_of_length_eq_zero h;subst this;simp [rvVs] at hu
    ·exact h
   obtain⟨b,off,e,hcell⟩:=hc hp;simp only [Option.some.injEq] at e;subst e;rw [Nm.addr_add]
   exact hcell j u hu) (rv_ones r) (by unfold maxLen;omega) (by omega) hB
  refine⟨v',w',h1,by rw [show rvVs (l++r)=rvVs l++rvVs r from by simp [rvVs]];exact h2,h3,?_⟩;intro e
  rcases h2.2 with⟨rfl,hz⟩|⟨g,cap',cur,rfl,_⟩
  ·have:=(h4.1 rfl).1;rw [this] at hv;exact hv rfl
  ·cases e
set_option maxRecDepth 100000 in
set_option maxHeartbeats 1600000 in
theorem growR_any(n:Nat)(hn:0<n)(hn2:n<=1000000)(w:World):
 Calls Tryz.prog 66 #[.slice none 0 0,.int .i64 (n:Int)] w fun e w'=>∃ v,e=.returned v∧w'.ownsRow w.heap.size 56 5 v 0 []∧v.ownBlock≠none∧Below w.heap.size w w':=by
 obtain⟨j0,hj,k0,k1,k2⟩:=info_parts Tryz.infoRw;obtain⟨Z0,hZ0⟩:∃ Z0,Z0=Value.agg #[.string ByteArray.empty,.int .i64 0,.int .i64 0,.int .i64 0,.string ByteArray.empty]:=⟨_,rfl⟩;rw [<- hZ0] at k0;have hr:=Lib.run_append_nil_zeros (P:=Tryz.prog) w 28 3 28 56 j0 Z0 .i64 .i64 Tryz.underlying28 Tryz.underlying3 hj k0 n hn (by omega) (by omega) (by rw [k2];omega);have i1:¬(n:Int)<0:=by omega
 have i2:(0:Int)<(n:Int):=by omega
 have hge:=grownCap_ge w n 0 56;have hcm:grownCap w n 0 56<=maxLen:=grownCap_le_maxLen w n 0 56 (by unfold maxLen;omega);have hzs:Z0.cells.size=5:=by rw [hZ0];rfl
 have hown:(w.drew.alloc (.cells (Builtin.zeroCells Z0.cells n++Builtin.zeroCells Z0.cells (grownCap w n 0 56-n)) 56)).ownsRow w.heap.size 56 5 (.slice (some ⟨w.heap.size,0,none⟩) 0 (grownCap w n 0 56)) 0 []:=by
  refine⟨rfl,.inr ⟨w.heap.size,_,_,rfl,Nat.le_refl _,heap_alloc_new w.drew _,Nat.zero_le _,hcm,?_,by simp⟩⟩;simp only [Array.size_append,size_zeroCells,hzs];omega
 have hB:Below w.heap.size w (w.drew.alloc (.cells (Builtin.zeroCells Z0.cells n++Builtin.zeroCells Z0.cells (grownCap w n 0 56-n)) 56)):=(Below.refl w.heap.size w).drew.alloc (Nat.le_refl _) _;generalize Builtin.zeroCells Z0.cells n++Builtin.zeroCells Z0.cells (grownCap w n 0 56-n)=Z at*;generalize grownCap w n 0 56=C at*;clear hZ0 hzs k0;go_enter Tryz.func66,Tryz.ntmps66;go_wp2_with (refine wpList_app_ranR rfl (.tmp 20) (.tmp 21) 28 3 rfl _ _ _ _ rfl rfl hr ?_)
 go_ret;exact⟨_,rfl,hown,by simp [Value.ownBlock],hB⟩
end Go.Proofs.YtgilkakllagbnaaGreat
