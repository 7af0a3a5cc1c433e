import Derived.Test.YtcihkbojmbfmmaaGreatDoorJShK
import Derived.Test.YtcihkbojmbfmmaaGreatDoorJMath
import Derived.Deep.AppendSrc
import Derived.Lib.AppendZerosOnto
namespace Go.Proofs.YtcihkbojmbfmmaaGreatDoor
open Go.RowKit
set_option linter.unusedVariables false
theorem wpList_app_ran{P:Program}{ops:Array Oper}{rest:List Oper}{o:Oper}{a:Act}{w:World}{Q:Exit->Act->World->Prop}(hgd:o.guard=none)(s x:Operand)(t t2:TypeId)
 (ho:o.op=.call {callee:=.builtin .append,args:=#[s,x],argTypes:=#[t,t2]}) (v u v':Value) (w':World) (hs:a.eval s=v) (hx:a.eval x=u)
 (hr:(Builtin.append_ #[t,t2] o.type #[v,u]).run P w=.ok v' w') (h:wpList P ops Q rest (a.put o.dst v') w'):wpList P ops Q (o::rest) a w:=
 wpList_plain hgd fun _ hK=>by
  unfold Oper.wp execOp;simp only [ho,resolve,invoke,builtin,Sem.run_bind,Sem.run_pure,Result.andThen_ok,List.map_toArray,List.map_cons,List.map_nil,hs,hx,hr];exact hK _ _ h
theorem bys_ones(l:List UInt8):∀ u∈Nm.bys l,u.oneCell'=true:=by
 intro u hu;rw [Nm.bys] at hu;obtain⟨b,_,rfl⟩:=List.mem_map.1 hu;rfl
theorem own_app{w:World}{B n:Nat}{v u:Value}{l r:List UInt8}(hown:w.ownsRow B 5 1 v n (Nm.bys l))(hv:v.ownBlock≠none)(hs:BySl w u r)(hn:n<=10000000)(hr:r.length<=10000000)(hB:B<=w.heap.size):
 ∃ v' w',(Builtin.append_ #[26,26] 26 #[v,u]).run Tryz.prog w=.ok v' w'∧w'.ownsRow B 5 1 v' (n+r.length) (Nm.bys (l++r))∧w.grownBy w' v.ownBlock∧v'.ownBlock≠none:=by
 obtain⟨j0,hj,k0,k1,k2⟩:=info_parts Tryz.infoBy;obtain⟨hlen,a,cap,rfl,hcap,hmx,hc⟩:=hs
 cases a with
 |none=>
  have hn:r.length=0:=by
   rcases Nat.eq_zero_or_pos r.length with h|h
   ·exact h
   ·obtain⟨b,off,e,_⟩:=hc h;cases e
  have hl0:r=[]:=List.eq_nil_of_length_eq_zero hn;subst hl0
  rcases hown.2 with⟨rfl,rfl⟩|⟨g,cap',cur,rfl,hbg,hg,hnc,hcm,hcs,htake⟩
  ·exact absurd rfl hv
  ·refine⟨_,_,run_append_room_src (P:=Tryz.prog) w 26 26 26 5 j0 Tryz.underlying26 hj g 0 n cap' (.slice none 0 cap) 0 [] (Src.ofNil _ Tryz.underlying26 cap) (by omega) (by simp) (by simp),?_,⟨rfl,rfl,rfl,Nat.le_refl _,fun _ _ _=>rfl⟩,by simp [Value.ownBlock]⟩;rw [List.append_nil]
   exact hown
 |some x=>
  obtain⟨v',w',h1,h2,h3,h4⟩:=run_append_own (P:=Tryz.prog) w B 26 26 5 j0 (.int .u8 0) 1 1 Tryz.underlying26 hj k0 k1 k2 rfl (by decide) v n (Nm.bys l) hown x r.length cap (Nm.bys r) hlen (by
   intro j u hu
   have hp:0<r.length:=by
    rcases Nat.eq_zero_or_pos r.length with h|h
    ·have:r=[]:=List.eq_nil_of_length_eq_zero h;subst this;simp [Nm.bys] at hu
    ·exact h
   obtain⟨b,off,e,hcell⟩:=hc hp;simp only [Option.some.injEq] at e;subst e;rw [Nm.addr_add]
   exact hcell j u hu) (bys_ones r) (by unfold maxLen;omega) (by omega) hB
  refine⟨v',w',h1,by rw [Nm.bys_append];exact h2,h3,?_⟩;intro e
  rcases h2.2 with⟨rfl,hz⟩|⟨g,cap',cur,rfl,_⟩
  ·have:=(h4.1 rfl).1;rw [this] at hv;exact hv rfl
  ·cases e
set_option maxRecDepth 100000 in
set_option maxHeartbeats 1600000 in
theorem grow_any(n:Nat)(hn:0<n)(hn2:n<=10000000)(w:World):
 Calls Tryz.prog 63 #[.slice none 0 0,.int .i64 (n:Int)] w fun e w'=>∃ v,e=.returned v∧w'.ownsRow w.heap.size 5 1 v 0 []∧v.ownBlock≠none∧Below w.heap.size w w':=by
 obtain⟨j0,hj,k0,k1,k2⟩:=info_parts Tryz.infoBy;have hr:=Lib.run_append_nil_zeros (P:=Tryz.prog) w 26 3 26 5 j0 (.int .u8 0) .i64 .i64 Tryz.underlying26 Tryz.underlying3 hj k0 n hn (by omega) (by omega) (by rw [k2];omega);have i1:¬(n:Int)<0:=by omega
 have i2:(0:Int)<(n:Int):=by omega
 have hge:=grownCap_ge w n 0 5;have hcm:grownCap w n 0 5<=maxLen:=grownCap_le_maxLen w n 0 5 (by unfold maxLen;omega);have hzs:(Value.int IntKind.u8 0).cells.size=1:=rfl
 have hown:(w.drew.alloc (.cells (Builtin.zeroCells (Value.int IntKind.u8 0).cells n++Builtin.zeroCells (Value.int IntKind.u8 0).cells (grownCap w n 0 5-n)) 5)).ownsRow w.heap.size 5 1 (.slice (some ⟨w.heap.size,0,none⟩) 0 (grownCap w n 0 5)) 0 []:=by
  refine⟨rfl,.inr ⟨w.heap.size,_,_,rfl,Nat.le_refl _,heap_alloc_new w.drew _,Nat.zero_le _,hcm,?_,by simp⟩⟩;simp only [Array.size_append,size_zeroCells,hzs];omega
 have hB:Below w.heap.size w (w.drew.alloc (.cells (Builtin.zeroCells (Value.int IntKind.u8 0).cells n++Builtin.zeroCells (Value.int IntKind.u8 0).cells (grownCap w n 0 5-n)) 5)):=(Below.refl w.heap.size w).drew.alloc (Nat.le_refl _) _;generalize Builtin.zeroCells (Value.int IntKind.u8 0).cells n++Builtin.zeroCells (Value.int IntKind.u8 0).cells (grownCap w n 0 5-n)=Z at*;generalize grownCap w n 0 5=C at*;go_enter Tryz.func63,Tryz.ntmps63;go_wp2_with (refine wpList_app_ran rfl (.tmp 20) (.tmp 21) 26 3 rfl _ _ _ _ rfl rfl hr ?_)
 go_ret;exact⟨_,rfl,hown,by simp [Value.ownBlock],hB⟩
set_option maxRecDepth 100000 in
set_option maxHeartbeats 3200000 in
theorem concat3_own(v1 v2 v3:Value)(l1 l2 l3:List UInt8)(b:Nat)(w:World)(hc0:w.cell? ⟨b,0,none⟩=some v1)(hc1:w.cell? ⟨b,1,none⟩=some v2)(hc2:w.cell? ⟨b,2,none⟩=some v3)(h1:BySl w v1 l1)(h2:BySl w v2 l2)(h3:BySl w v3 l3)(hp:0<l1.length)(hl1:l1.length<=3000000)(hl2:l2.length<=3000000)(hl3:l3.length<=3000000):
 Calls Tryz.prog 34 #[.slice (some ⟨b,0,none⟩) 3 3] w fun e w'=>∃ v,e=.returned v∧w'.ownsRow w.heap.size 5 1 v (l1++l2++l3).length (Nm.bys (l1++l2++l3))∧Below w.heap.size w w':=by
 obtain⟨a1,c1,rfl⟩:∃ a1 c1,v1=.slice a1 l1.length c1:=by obtain⟨_,a,c,e,_⟩:=h1;exact⟨a,c,e⟩
 obtain⟨a2,c2,rfl⟩:∃ a2 c2,v2=.slice a2 l2.length c2:=by obtain⟨_,a,c,e,_⟩:=h2;exact⟨a,c,e⟩
 obtain⟨a3,c3,rfl⟩:∃ a2 c2,v3=.slice a2 l3.length c2:=by obtain⟨_,a,c,e,_⟩:=h3;exact⟨a,c,e⟩
 obtain⟨M,hM⟩:∃ N,N=l1.length+l2.length:=⟨_,rfl⟩;obtain⟨N,hN⟩:∃ N,N=M+l3.length:=⟨_,rfl⟩;have hw0:IntKind.i64.wrap (l1.length:Int)=(l1.length:Int):=Go.wrap_small _ (by omega) (by omega);have hw1:IntKind.i64.wrap ((l1.length:Int)+(l2.length:Int))=(M:Int):=by rw [Go.wrap_small _ (by omega) (by omega)];omega
 have hw2:IntKind.i64.wrap ((M:Int)+(l3.length:Int))=(N:Int):=by rw [Go.wrap_small _ (by omega) (by omega)];omega
 have hgr:=fun W=>grow_any N (by omega) (by omega) W
 have n1:¬(l1.length:Int)<0:=by omega
 have n2:¬(M:Int)<0:=by omega
 have n3:¬(N:Int)<0:=by omega
 have hbl:=World.block_lt_of_cell? w _ hc0;have hMl:M<=6000000:=by omega
 have HM:=Nm.hide hM;have HN:=Nm.hide hN;clear hN hM;go_enter Tryz.func34,Tryz.ntmps34;go_wp2
 go_loopw [3,11] (fun s i wr=>w=wr∧((s=.int .i64 0∧i=.int .i64 0)∨(s=.int .i64 (l1.length:Int)∧i=.int .i64 1)∨(s=.int .i64 (M:Int)∧i=.int .i64 2)∨(s=.int .i64 (N:Int)∧i=.int .i64 3))) (fun _ i _=>3-(intOf i).toNat)
 case atStart=>exact⟨rfl,.inl ⟨rfl,rfl⟩⟩
 case round=>
  obtain⟨rfl,hr⟩:=hrel
  rcases hr with⟨rfl,rfl⟩|⟨rfl,rfl⟩|⟨rfl,rfl⟩|⟨rfl,rfl⟩
  ·go_wp2;go_roundw
   case rel=>exact⟨by trivial,.inr (.inl ⟨rfl,rfl⟩)⟩
   case measure=>simp [intOf]
  ·go_wp2;go_roundw
   case rel=>exact⟨by trivial,.inr (.inr (.inl ⟨rfl,rfl⟩))⟩
   case measure=>simp [intOf]
  ·go_wp2;go_roundw
   case rel=>exact⟨by trivial,.inr (.inr (.inr ⟨rfl,rfl⟩))⟩
   case measure=>simp [intOf]
  ·go_wp2_with fail
   refine(hgr _).mono ?_;rintro e w1 ⟨v0,rfl,ho,hob,hb1⟩;obtain⟨ax,cx,rfl⟩:=own_sl ho;clear hgr hw0 hw1 hw2 n1 n2 n3;go_wp2
   go_loopw [6,27] (fun v i wr=>Below w.heap.size w wr∧v.ownBlock≠none∧((i=.int .i64 0∧wr.ownsRow w.heap.size 5 1 v 0 (Nm.bys []))∨(i=.int .i64 1∧wr.ownsRow w.heap.size 5 1 v l1.length (Nm.bys l1))∨(i=.int .i64 2∧wr.ownsRow w.heap.size 5 1 v M (Nm.bys (l1++l2)))∨(i=.int .i64 3∧wr.ownsRow w.heap.size 5 1 v N (Nm.bys (l1++l2++l3))))) (fun _ i _=>3-(intOf i).toNat)
   case atStart=>exact⟨hb1,hob,.inl ⟨rfl,ho⟩⟩
   case round=>
    clear ho hob hb1;obtain⟨hbel,hob,hr⟩:=hrel;have hsw:=hbel.size;have d0:=(hbel.cell (p:=⟨b,0,none⟩) hbl).trans hc0;have d1:=(hbel.cell (p:=⟨b,1,none⟩) hbl).trans hc1;have d2:=(hbel.cell (p:=⟨b,2,none⟩) hbl).trans hc2
    rcases hr with⟨rfl,ho⟩|⟨rfl,ho⟩|⟨rfl,ho⟩|⟨rfl,ho⟩
    ·obtain⟨ax,cx,rfl⟩:=own_sl ho;obtain⟨v',w',hrun,ho',hg,hob'⟩:=own_app ho hob (h1.below hbel) (by omega) (by omega) hsw;have hb':=hbel.grown hg hsw (fun q hq=>(ho.lt q hq).1);rw [List.nil_append,Nat.zero_add] at ho';obtain⟨ay,cy,rfl⟩:=own_sl ho';clear h1 h2 h3 hc0 hc1 hc2 hg;go_wp2_with (refine wpList_app_ran rfl (.tmp 31) (.tmp 32) 26 26 rfl _ _ _ _ rfl rfl hrun ?_)
     go_roundw
     case rel=>exact⟨hb',hob',.inr (.inl ⟨rfl,ho'⟩)⟩
     case measure=>simp [intOf]
    ·obtain⟨ax,cx,rfl⟩:=own_sl ho;obtain⟨v',w',hrun,ho',hg,hob'⟩:=own_app ho hob (h2.below hbel) (by omega) (by omega) hsw;have hb':=hbel.grown hg hsw (fun q hq=>(ho.lt q hq).1);rw [<- HM.out] at ho';obtain⟨ay,cy,rfl⟩:=own_sl ho';clear h1 h2 h3 hc0 hc1 hc2 hg;go_wp2_with (refine wpList_app_ran rfl (.tmp 31) (.tmp 32) 26 26 rfl _ _ _ _ rfl rfl hrun ?_)
     go_roundw
     case rel=>exact⟨hb',hob',.inr (.inr (.inl ⟨rfl,ho'⟩))⟩
     case measure=>simp [intOf]
    ·obtain⟨ax,cx,rfl⟩:=own_sl ho;obtain⟨v',w',hrun,ho',hg,hob'⟩:=own_app ho hob (h3.below hbel) (by omega) (by omega) hsw;have hb':=hbel.grown hg hsw (fun q hq=>(ho.lt q hq).1);rw [<- HN.out] at ho';obtain⟨ay,cy,rfl⟩:=own_sl ho';clear h1 h2 h3 hc0 hc1 hc2 hg;go_wp2_with (refine wpList_app_ran rfl (.tmp 31) (.tmp 32) 26 26 rfl _ _ _ _ rfl rfl hrun ?_)
     go_roundw
     case rel=>exact⟨hb',hob',.inr (.inr (.inr ⟨rfl,ho'⟩))⟩
     case measure=>simp [intOf]
    ·obtain⟨ax,cx,rfl⟩:=own_sl ho;clear h1 h2 h3 hc0 hc1 hc2;go_wp2;go_ret;refine⟨_,rfl,?_,hbel⟩;have e:(l1++l2++l3).length=N:=by rw [List.length_append,List.length_append,HN.out,HM.out]
     rw [e];exact ho
theorem and31{n:Nat}(h1:1<=n)(h2:n<=31):bits .and .u64 (IntKind.u64.wrap (-(n:Int))) 31=((32-n:Nat):Int):=by
 have e:∀ k:Fin 31,bits .and .u64 (IntKind.u64.wrap (-((k.val+1:Nat):Int))) 31=((32-(k.val+1):Nat):Int):=by decide
 have:=e ⟨n-1,by omega⟩;rw [show n-1+1=n by omega] at this;exact this
set_option maxRecDepth 100000 in
set_option maxHeartbeats 1600000 in
theorem rot_any(x:Wd)(n m:Nat)(h1:1<=n)(hm:Hid (m=32-n))(m1:1<=m)(m2:m<=31)(w:World):
 Calls Tryz.prog 171 #[.int .u32 (x.toNat:Int),.int .i64 (-(n:Int))] w fun e w'=>e=.returned (.int .u32 ((turnW x n).toNat:Int))∧w'=w:=by
 have hx:=x.isLt;have hb:bits .and .u64 (IntKind.u64.wrap (-(n:Int))) 31=(m:Int):=by rw [hm.out];exact and31 h1 (by have:=hm.out;omega)
 have i1:(0:Int)<=(m:Int):=by omega
 have i2:(m:Int)<=31:=by omega
 go_enter Tryz.func171,Tryz.ntmps171;go_wp2;go_ret;refine⟨?_,rfl⟩;have e1:32-m=n:=by have:=hm.out;omega
 have e2:32-n=m:=by have:=hm.out;omega
 rw [turnW,BitVec.or_comm,<- w_or,e2,<- w_shr,<- w_shl]
 first|rfl|(rw [<- e1];rfl)
set_option maxRecDepth 100000 in
set_option maxHeartbeats 1600000 in
theorem turn_any(x:Wd)(n:Nat)(h1:1<=n)(h2:n<=31)(w:World):
 Calls Tryz.prog 154 #[.int .u32 (x.toNat:Int),.int .i64 (n:Int)] w fun e w'=>e=.returned (.int .u32 ((turnW x n).toNat:Int))∧w'=w:=by
 have i1:(0:Int)<=(n:Int):=by omega
 have i2:(n:Int)<=31:=by omega
 have hr:=rot_any x n (32-n) h1 rfl (by omega) (by omega) w;go_enter Tryz.func154,Tryz.ntmps154;go_wp2_with (first|(go_at_call 171;refine hr.mono ?_;rintro e wv ⟨rfl,rfl⟩))
 go_ret;exact⟨rfl,rfl⟩
end Go.Proofs.YtcihkbojmbfmmaaGreatDoor
