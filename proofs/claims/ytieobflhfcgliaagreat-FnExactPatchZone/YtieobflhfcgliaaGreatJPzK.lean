import Derived.Test.YtieobflhfcgliaaGreatJMath
import Derived.Test.YtieobflhfcgliaaGreatJStA
import Derived.Deep.AppendSrc
import Derived.Lib.AppendZerosOnto
import Derived.Test.YtieobflhfcgliaaGreatJDzE
import Derived.Test.YtieobflhfcgliaaGreatZbZ
import Derived.Test.YtieobflhfcgliaaGreatJBig1
import Derived.Test.YtieobflhfcgliaaGreatJStI
import Derived.Test.YtieobflhfcgliaaGreatJOnT
import Derived.Test.YtieobflhfcgliaaGreatJStpA
namespace Go.Proofs.YtieobflhfcgliaaGreat
open Go Go.Maps Go.MapKept Go.ChangeMaps
set_option linter.unusedVariables false
theorem filter_idx{α:Type}{q:α->Bool}:∀ {l:List α} {j:Nat} {a:α},l[j]? =some a->q a=false->(∀ i b,l[i]? =some b->i≠j->q b=true)->l.filter q=l.eraseIdx j
 |[],j,a,h,_,_=>by simp at h
 |x::l,0,a,h,ha,hb=>by
  simp at h;subst h;rw [List.filter_cons,if_neg (by simp [ha]),List.eraseIdx_cons_zero];refine List.filter_eq_self.2 fun b hb'=>?_
  obtain⟨i,hi⟩:=List.mem_iff_getElem?.1 hb'
  exact hb (i+1) b (by simpa using hi) (by omega)
 |x::l,j+1,a,h,ha,hb=>by
  rw [List.filter_cons,if_pos (hb 0 x rfl (by omega)),List.eraseIdx_cons_succ];rw [filter_idx (l:=l) (j:=j) (a:=a) (by simpa using h) ha (fun i b hi hne=>hb (i+1) b (by simpa using hi) (by omega))]
theorem filter_eqR{l:List Rr}{j:Nat}{x:Rr}(hnd:l.Nodup)(h:l[j]? =some x):l.filter (fun y=> !eqR y x)=l.eraseIdx j:=by
 refine filter_idx h (by rw [(eqR_iff x x).2 rfl];rfl) fun i b hi hne=>?_
 cases e:eqR b x with
 |false=>rfl
 |true=>
  have hb:=(eqR_iff b x).1 e;subst hb;have hl:=(List.getElem?_eq_some_iff.1 hi).1;exact absurd ((List.getElem?_inj hl hnd).1 (hi.trans h.symm)) hne
theorem map_erase{α β:Type}(f:α->β):∀ (l:List α) (j:Nat),(l.eraseIdx j).map f=(l.map f).eraseIdx j
 |[],_=>by simp
 |_::_,0=>by simp
 |x::l,j+1=>by simp [map_erase f l j]
section
variable {w:World}{r:Nat}{L:List (Rr×Nat)}{t e:TypeId}
theorem RMap.del(h:RMap w r L)(ht:Tryz.prog.underlying t=some (.map 27 e)){ty:TypeId}{x:Rr}(hx:RFit x)(hin:hasR (L.map (·.1)) x=true):
 ∃ w' L',(Builtin.delete_ #[t,27] ty #[.map (some r),rvA x]).run Tryz.prog w=.ok (.tuple #[]) w'∧RMap w' r L'∧L'.map (·.1)=(L.map (·.1)).filter (fun y=> !eqR y x)∧w.grownBy w' (some r):=by
 have K:=rr_law;obtain⟨kl,hkey⟩:=rr_key hx;have hlt:=h.lt;obtain⟨es,clock,hb,hes,hwf,hnd⟩:=h;have hin:=(hasR_iff _ _).1 hin
 rcases K.find w hkey es.toList (fun y hy=>by obtain⟨p,hp,h1,_⟩:=rmap_entry hes hy;rw [h1];exact rr_key (hwf p hp)) with⟨h1,h2⟩|⟨j,e0,h1,h2,h3⟩
 ·exfalso
  obtain⟨p,hp,hpx⟩:=List.mem_map.1 hin;have:rmV p∈L.map rmV:=List.mem_map.2 ⟨p,hp,rfl⟩;rw [<- hes] at this;obtain⟨y,hy,hye⟩:=List.mem_map.1 this;simp only [rmV,Prod.mk.injEq] at hye;exact h2 y hy (by rw [hye.1,hpx])
 ·have hjl:j<es.toList.length:=(List.getElem?_eq_some_iff.1 h2).1;have hjs:j<es.size:=by simpa using hjl
  have hsub:(es.eraseIdxIfInBounds j).toList=es.toList.eraseIdx j:=by
   unfold Array.eraseIdxIfInBounds;rw [dif_pos hjs];simp
  have hLj:(L.map (·.1))[j]? =some x:=by
   have h4:(es.toList.map (fun e=>(e.key,e.val)))[j]? =some (e0.key,e0.val):=by rw [List.getElem?_map,h2];rfl
   rw [hes,List.getElem?_map] at h4
   cases e5:L[j]? with
   |none=>rw [e5] at h4;cases h4
   |some p=>
    rw [e5] at h4;have h7:rmV p=(e0.key,e0.val):=Option.some.inj h4;rw [List.getElem?_map,e5];have h6:rvA p.1=rvA x:=(congrArg Prod.fst h7).trans h3;exact congrArg some (rvA_inj h6)
  refine⟨setBlock w r (.map (es.eraseIdxIfInBounds j) clock),L.eraseIdx j,?_,⟨es.eraseIdxIfInBounds j,clock,?_,?_,?_,?_⟩,?_,rgrown_block _ _ _⟩
  ·simp [Builtin.delete_,run_underlying ht,MapKept.run_getObj_map hb,K.check w _ hkey,h1,MapKept.run_setObj_map _ hb,Result.andThen,setBlock]
  ·simp [setBlock,hlt]
  ·rw [hsub,map_erase,hes,map_erase]
  ·intro p hp;exact hwf p ((List.eraseIdx_sublist _ _).subset hp)
  ·rw [map_erase];exact hnd.sublist (List.eraseIdx_sublist _ _)
  ·rw [map_erase,filter_eqR hnd hLj]
end
end Go.Proofs.YtieobflhfcgliaaGreat
namespace Go.Proofs.YtieobflhfcgliaaGreat
open Go.RowKit
set_option linter.unusedVariables false
def heK(xs ds:List Rr):Nat->Bool
 |0=>true
 |n+1=>heK xs ds n&&(match ds[n]? with|some d=>hasR (wthF xs (ds.take n)) d|none=>true)
def heB(xs ds:List Rr):Bool:=heK xs ds ds.length
theorem heK_no{xs ds:List Rr}{j:Nat}(h:heK xs ds j=false):∀ n,j<=n->heK xs ds n=false:=by
 intro n hn
 induction n with
 |zero=>obtain rfl:j=0:=by omega
        exact h
 |succ n ih=>
  by_cases e:j=n+1
  ·subst e;exact h
  ·rw [heK,ih (by omega)];rfl
theorem heK_step{xs ds:List Rr}{j:Nat}{d:Rr}(h:ds[j]? =some d):heK xs ds (j+1)=(heK xs ds j&&hasR (wthF xs (ds.take j)) d):=by
 rw [heK,h]
theorem eqR_comm(a b:Rr):eqR a b=eqR b a:=by
 rw [Bool.eq_iff_iff,eqR_iff,eqR_iff];exact⟨Eq.symm,Eq.symm⟩
theorem wth_less{xs ds:List Rr}{j:Nat}{d:Rr}(h:ds[j]? =some d):wthF xs (ds.take (j+1))=(wthF xs (ds.take j)).filter (fun y=> !eqR y d):=by
 rw [wthF,wthF,List.filter_filter,List.take_add_one,h];refine List.filter_congr fun y _=>?_
 simp only [hasR,List.any_append,Option.toList_some,List.any_cons,List.any_nil,Bool.or_false,Bool.not_or];rw [eqR_comm d y,Bool.and_comm]
theorem wth_nil(xs:List Rr):wthF xs []=xs:=by
 rw [wthF];exact List.filter_eq_self.2 fun y _=>rfl
theorem he_take{xs ds:List Rr}:∀ n,n<=ds.length->heK xs ds n=true->(ds.take n).Nodup:=by
 intro n
 induction n with
 |zero=>intro _ _;simp
 |succ n ih=>
  intro hn h;obtain⟨d,hd⟩:∃ d,ds[n]? =some d:=⟨_,List.getElem?_eq_getElem hn⟩;rw [heK_step hd,Bool.and_eq_true] at h;rw [List.take_add_one,hd];refine List.nodup_append.2 ⟨ih (by omega) h.1,by simp,?_⟩;intro a ha b hb e;simp at hb;subst hb;subst e;have h2:=(hasR_iff _ _).1 h.2;rw [wthF,List.mem_filter,(hasR_iff _ _).2 ha] at h2;cases h2.2
theorem he_nodup{xs ds:List Rr}(h:heB xs ds=true):ds.Nodup:=by
 have:=he_take ds.length (Nat.le_refl _) h
 rwa [List.take_length] at this
set_option maxRecDepth 100000 in
set_option maxHeartbeats 1600000 in
theorem hasEach_any(v u:Value)(xs ys:List Rr)(w:World)(h:CRow w v xs.length 5 (rvVs xs))(h':CRow w u ys.length 5 (rvVs ys))(hf:∀ x∈xs,RFit x)(hf':∀ x∈ys,RFit x)(hnd:xs.Nodup)(hn:xs.length<=1000000)(hn':ys.length<=1000000):
 Calls Tryz.prog 65 #[v,u] w fun e w'=>e=.returned (.bool (heB xs ys))∧Below w.heap.size w w':=by
 have hpl:=places_any v xs w h hf hnd hn;obtain⟨_,a,cap,rfl,hcap,hmx,hc⟩:=h';have HC:=Nm.hide hc;have HF:=Nm.hide hf';clear hc hf hf' hnd h;go_enter Tryz.func65,Tryz.ntmps65;go_wp2_with (go_at_call 93;refine hpl.mono ?_;rintro e w1 ⟨r,L0,rfl,hr,hm0,hL0,hb1⟩)
 have HL0:=Nm.hide hL0;clear hL0 hpl
 go_loopw [7,8,9,14] (fun _ _ _ i wr=>∃ (j:Nat) (L:List (Rr×Nat)),j<=ys.length∧i=.int .i64 (j:Int)∧RMap wr r L∧Hid (L.map (·.1)=wthF xs (ys.take j))∧Hid (heK xs ys j=true)∧Below w.heap.size w wr) (fun _ _ _ i _=>ys.length-(intOf i).toNat)
 case atStart=>exact⟨0,L0,Nat.zero_le _,rfl,hm0,HL0.out.trans (wth_nil xs).symm,rfl,hb1⟩
 case round=>
  obtain⟨j,L,hj,rfl,hm,HL,HK,hb⟩:=hrel;have hsz:=hb.size;clear hm0 HL0 hb1
  by_cases hlt:j<ys.length
  ·obtain⟨x,hx⟩:∃ x,ys[j]? =some x:=⟨_,List.getElem?_eq_getElem hlt⟩;obtain⟨b,off,rfl,hcell⟩:=HC.out (by omega);have put:∀ {i:Nat} {z:Value},w.cell? ⟨b,off+i,none⟩=some z->wr.cell? ⟨b,off+i,none⟩=some z:=fun h=>(hb.cell (World.block_lt_of_cell? w _ h)).trans h
   obtain⟨c0,c1,c2,c3,c4⟩:=rv_cells (fun i y hy=>put (hcell i y hy)) hx;have hm1:RMap (wr.alloc (.cells #[.string x.own,.int .i64 x.ty,.int .i64 x.cl,.int .i64 x.tt,.string x.da] 27)) r L:=hm.kept (heap_alloc_old _ _ hm.lt);have hfx:=HF.out x (List.mem_of_getElem? hx);obtain⟨n,hget⟩:=hm1.get Tryz.underlying128 (rr_zero _) hfx;have i1:(0:Int)<=(j:Int):=by omega
   have i2:(j:Int)<(ys.length:Int):=by omega
   have hbA:=hb.alloc hsz (.cells #[.string x.own,.int .i64 x.ty,.int .i64 x.cl,.int .i64 x.tt,.string x.da] 27);have HS:=Nm.hide (heK_step (xs:=xs) hx);have HW:=Nm.hide (wth_less (xs:=xs) hx)
   cases hh:hasR (L.map (·.1)) x with
   |true=>
    rw [hh] at hget;obtain⟨w2,L2,hrun,hm2,hL2,hg2⟩:=hm1.del Tryz.underlying128 (ty:=0) hfx hh;have HL2:Hid (L2.map (·.1)=wthF xs (ys.take (j+1))):=by show _=_;rw [hL2,HW.out,HL.out]
    have HK2:Hid (heK xs ys (j+1)=true):=by show _=_;rw [HS.out,HK.out,<- HL.out,hh];rfl
    have hb2:Below w.heap.size w w2:=hbA.grown hg2 (by simp;omega) (fun k hk=>by cases hk;exact hr);clear put hcell hm1 hx hh hL2 HL HK HS HW hg2 hm;go_wp2;go_roundw
    case rel=>exact⟨j+1,L2,by omega,by go_num,hm2,HL2,HK2,hb2⟩
    case measure=>simp [intOf];omega
   |false=>
    rw [hh] at hget;have HN:Hid (heB xs ys=false):=by show _=_;exact heK_no (by rw [HS.out,HK.out,<- HL.out,hh];rfl) _ (by omega)
    clear put hcell hm1 hx hh HL HK HS HW hm;go_wp2;go_ret;rw [HN.out];exact⟨rfl,hbA⟩
  ·have hjn:j=ys.length:=by omega
   subst hjn;have HN:Hid (heB xs ys=true):=HK;clear HL HK;go_wp2;go_ret;rw [HN.out];exact⟨rfl,hb⟩
theorem wpList_app_ranR{P:Program}{ops:Array Oper}{rest:List Oper}{o:Oper}{a:Act}{w:World}{Q:Exit->Act->World->Prop}(hgd:o.guard=none)(s x:Operand)(t t2:TypeId)
 (ho:o.op=.call {callee:=.builtin .append,args:=#[s,x],argTypes:=#[t,t2]}) (v u v':Value) (w':World) (hs:a.eval s=v) (hx:a.eval x=u)
 (hr:(Builtin.append_ #[t,t2] o.type #[v,u]).run P w=.ok v' w') (h:wpList P ops Q rest (a.put o.dst v') w'):wpList P ops Q (o::rest) a w:=
 wpList_plain hgd fun _ hK=>by
  unfold Oper.wp execOp;simp only [ho,resolve,invoke,builtin,Sem.run_bind,Sem.run_pure,Result.andThen_ok,List.map_toArray,List.map_cons,List.map_nil,hs,hx,hr];exact hK _ _ h
theorem rv_ones(l:List Rr):∀ u∈rvVs l,u.oneCell'=true:=by
 intro u hu;rw [rvVs] at hu;obtain⟨r,_,hr⟩:=List.mem_flatMap.1 hu;simp [rvV] at hr
 rcases hr with rfl|rfl|rfl|rfl|rfl<;>rfl
theorem own_appR{w:World}{B n:Nat}{v u:Value}{l r:List Rr}(hown:w.ownsRow B 27 5 v n (rvVs l))(hv:v.ownBlock≠none)(hs:CRow w u r.length 5 (rvVs r))(hn:n<=1000000)(hr:r.length<=1000000)(hB:B<=w.heap.size):
 ∃ v' w',(Builtin.append_ #[28,28] 28 #[v,u]).run Tryz.prog w=.ok v' w'∧w'.ownsRow B 27 5 v' (n+r.length) (rvVs (l++r))∧w.grownBy w' v.ownBlock∧v'.ownBlock≠none:=by
 obtain⟨j0,hj,k0,k1,k2⟩:=info_parts Tryz.infoRw;obtain⟨hlen,a,cap,rfl,hcap,hmx,hc⟩:=hs
 cases a with
 |none=>
  have hn:r.length=0:=by
   rcases Nat.eq_zero_or_pos r.length with h|h
   ·exact h
   ·obtain⟨b,off,e,_⟩:=hc h;cases e
  have hl0:r=[]:=List.eq_nil_of_length_eq_zero hn;subst hl0
  rcases hown.2 with⟨rfl,rfl⟩|⟨g,cap',cur,rfl,hbg,hg,hnc,hcm,hcs,htake⟩
  ·exact absurd rfl hv
  ·refine⟨_,_,run_append_room_src (P:=Tryz.prog) w 28 28 28 27 j0 Tryz.underlying28 hj g 0 n cap' (.slice none 0 cap) 0 [] (Src.ofNil _ Tryz.underlying28 cap) (by omega) (by simp) (by simp),?_,⟨rfl,rfl,rfl,Nat.le_refl _,fun _ _ _=>rfl⟩,by simp [Value.ownBlock]⟩;rw [List.append_nil]
   exact hown
 |some x=>
  obtain⟨v',w',h1,h2,h3,h4⟩:=run_append_own (P:=Tryz.prog) w B 28 28 27 j0 _ 5 56 Tryz.underlying28 hj k0 k1 k2 rfl (by decide) v n (rvVs l) hown x r.length cap (rvVs r) hlen (by
   intro j u hu
   have hp:0<r.length:=by
    rcases Nat.eq_zero_or_pos r.length with h|h
    ·have:r=[]:=List.eq_nil_of_length_eq_zero h;subst this;simp [rvVs] at hu
    ·exact h
   obtain⟨b,off,e,hcell⟩:=hc hp;simp only [Option.some.injEq] at e;subst e;rw [Nm.addr_add]
   exact hcell j u hu) (rv_ones r) (by unfold maxLen;omega) (by omega) hB
  refine⟨v',w',h1,by rw [show rvVs (l++r)=rvVs l++rvVs r from by simp [rvVs]];exact h2,h3,?_⟩;intro e
  rcases h2.2 with⟨rfl,hz⟩|⟨g,cap',cur,rfl,_⟩
  ·have:=(h4.1 rfl).1;rw [this] at hv;exact hv rfl
  ·cases e
set_option maxRecDepth 100000 in
set_option maxHeartbeats 1600000 in
theorem growR_any(n:Nat)(hn:0<n)(hn2:n<=1000000)(w:World):
 Calls Tryz.prog 97 #[.slice none 0 0,.int .i64 (n:Int)] w fun e w'=>∃ v,e=.returned v∧w'.ownsRow w.heap.size 27 5 v 0 []∧v.ownBlock≠none∧Below w.heap.size w w':=by
 obtain⟨j0,hj,k0,k1,k2⟩:=info_parts Tryz.infoRw;obtain⟨Z0,hZ0⟩:∃ Z0,Z0=Value.agg #[.string ByteArray.empty,.int .i64 0,.int .i64 0,.int .i64 0,.string ByteArray.empty]:=⟨_,rfl⟩;rw [<- hZ0] at k0;have hr:=Lib.run_append_nil_zeros (P:=Tryz.prog) w 28 3 28 27 j0 Z0 .i64 .i64 Tryz.underlying28 Tryz.underlying3 hj k0 n hn (by omega) (by omega) (by rw [k2];omega);have i1:¬(n:Int)<0:=by omega
 have i2:(0:Int)<(n:Int):=by omega
 have hge:=grownCap_ge w n 0 27;have hcm:grownCap w n 0 27<=maxLen:=grownCap_le_maxLen w n 0 27 (by unfold maxLen;omega);have hzs:Z0.cells.size=5:=by rw [hZ0];rfl
 have hown:(w.drew.alloc (.cells (Builtin.zeroCells Z0.cells n++Builtin.zeroCells Z0.cells (grownCap w n 0 27-n)) 27)).ownsRow w.heap.size 27 5 (.slice (some ⟨w.heap.size,0,none⟩) 0 (grownCap w n 0 27)) 0 []:=by
  refine⟨rfl,.inr ⟨w.heap.size,_,_,rfl,Nat.le_refl _,heap_alloc_new w.drew _,Nat.zero_le _,hcm,?_,by simp⟩⟩;simp only [Array.size_append,size_zeroCells,hzs];omega
 have hB:Below w.heap.size w (w.drew.alloc (.cells (Builtin.zeroCells Z0.cells n++Builtin.zeroCells Z0.cells (grownCap w n 0 27-n)) 27)):=(Below.refl w.heap.size w).drew.alloc (Nat.le_refl _) _;generalize Builtin.zeroCells Z0.cells n++Builtin.zeroCells Z0.cells (grownCap w n 0 27-n)=Z at*;generalize grownCap w n 0 27=C at*;clear hZ0 hzs k0;go_enter Tryz.func97,Tryz.ntmps97;go_wp2_with (refine wpList_app_ranR rfl (.tmp 20) (.tmp 21) 28 3 rfl _ _ _ _ rfl rfl hr ?_)
 go_ret;exact⟨_,rfl,hown,by simp [Value.ownBlock],hB⟩
set_option maxRecDepth 100000 in
set_option maxHeartbeats 3200000 in
theorem concatR_own(v1 v2 v3:Value)(l1 l2 l3:List Rr)(b:Nat)(w:World)(hc0:w.cell? ⟨b,0,none⟩=some v1)(hc1:w.cell? ⟨b,1,none⟩=some v2)(hc2:w.cell? ⟨b,2,none⟩=some v3)(h1:CRow w v1 l1.length 5 (rvVs l1))(h2:CRow w v2 l2.length 5 (rvVs l2))(h3:CRow w v3 l3.length 5 (rvVs l3))(hp:0<l1.length)(hl1:l1.length<=10000)(hl2:l2.length<=10000)(hl3:l3.length<=10000):
 Calls Tryz.prog 69 #[.slice (some ⟨b,0,none⟩) 3 3] w fun e w'=>∃ v,e=.returned v∧w'.ownsRow w.heap.size 27 5 v (l1++l2++l3).length (rvVs (l1++l2++l3))∧Below w.heap.size w w':=by
 obtain⟨a1,c1,rfl⟩:∃ a1 c1,v1=.slice a1 l1.length c1:=by obtain⟨_,a,c,e,_⟩:=h1;exact⟨a,c,e⟩
 obtain⟨a2,c2,rfl⟩:∃ a2 c2,v2=.slice a2 l2.length c2:=by obtain⟨_,a,c,e,_⟩:=h2;exact⟨a,c,e⟩
 obtain⟨a3,c3,rfl⟩:∃ a3 c3,v3=.slice a3 l3.length c3:=by obtain⟨_,a,c,e,_⟩:=h3;exact⟨a,c,e⟩
 obtain⟨M,hM⟩:∃ M,M=l1.length+l2.length:=⟨_,rfl⟩;obtain⟨N,hN⟩:∃ N,N=M+l3.length:=⟨_,rfl⟩;have hw0:IntKind.i64.wrap (l1.length:Int)=(l1.length:Int):=Go.wrap_small _ (by omega) (by omega);have hw1:IntKind.i64.wrap ((l1.length:Int)+(l2.length:Int))=(M:Int):=by rw [Go.wrap_small _ (by omega) (by omega)];omega
 have hw2:IntKind.i64.wrap ((M:Int)+(l3.length:Int))=(N:Int):=by rw [Go.wrap_small _ (by omega) (by omega)];omega
 have hgr:=fun W=>growR_any N (by omega) (by omega) W
 have n1:¬(l1.length:Int)<0:=by omega
 have n2:¬(M:Int)<0:=by omega
 have n3:¬(N:Int)<0:=by omega
 have hbl:=World.block_lt_of_cell? w _ hc0;have HN:=Nm.hide hN;have HM:=Nm.hide hM;have hMs:M<=20000:=by omega
 clear hN hM;go_enter Tryz.func69,Tryz.ntmps69;go_wp2
 go_loopw [3,5,11] (fun s _ i wr=>w=wr∧((s=.int .i64 0∧i=.int .i64 0)∨(s=.int .i64 (l1.length:Int)∧i=.int .i64 1)∨(s=.int .i64 (M:Int)∧i=.int .i64 2)∨(s=.int .i64 (N:Int)∧i=.int .i64 3))) (fun _ _ i _=>3-(intOf i).toNat)
 case atStart=>exact⟨rfl,.inl ⟨rfl,rfl⟩⟩
 case round=>
  obtain⟨rfl,hr⟩:=hrel
  rcases hr with⟨rfl,rfl⟩|⟨rfl,rfl⟩|⟨rfl,rfl⟩|⟨rfl,rfl⟩
  ·go_wp2;go_roundw
   case rel=>exact⟨by trivial,.inr (.inl ⟨rfl,rfl⟩)⟩
   case measure=>simp [intOf]
  ·go_wp2;go_roundw
   case rel=>exact⟨by trivial,.inr (.inr (.inl ⟨rfl,rfl⟩))⟩
   case measure=>simp [intOf]
  ·go_wp2;go_roundw
   case rel=>exact⟨by trivial,.inr (.inr (.inr ⟨rfl,rfl⟩))⟩
   case measure=>simp [intOf]
  ·go_wp2_with fail
   refine(hgr _).mono ?_;rintro e w1 ⟨v0,rfl,ho,hob,hb1⟩;obtain⟨ax,cx,rfl⟩:=own_sl ho;clear hgr hw0 hw1 hw2 n1 n2 n3;go_wp2
   go_loopw [6,8,27] (fun v _ i wr=>Below w.heap.size w wr∧v.ownBlock≠none∧((i=.int .i64 0∧wr.ownsRow w.heap.size 27 5 v 0 (rvVs []))∨(i=.int .i64 1∧wr.ownsRow w.heap.size 27 5 v l1.length (rvVs l1))∨(i=.int .i64 2∧wr.ownsRow w.heap.size 27 5 v M (rvVs (l1++l2)))∨(i=.int .i64 3∧wr.ownsRow w.heap.size 27 5 v N (rvVs (l1++l2++l3))))) (fun _ _ i _=>3-(intOf i).toNat)
   case atStart=>exact⟨hb1,hob,.inl ⟨rfl,ho⟩⟩
   case round=>
    clear ho hob hb1;obtain⟨hbel,hob,hr⟩:=hrel;have hsw:=hbel.size;have d0:=(hbel.cell (p:=⟨b,0,none⟩) hbl).trans hc0;have d1:=(hbel.cell (p:=⟨b,1,none⟩) hbl).trans hc1;have d2:=(hbel.cell (p:=⟨b,2,none⟩) hbl).trans hc2
    rcases hr with⟨rfl,ho⟩|⟨rfl,ho⟩|⟨rfl,ho⟩|⟨rfl,ho⟩
    ·obtain⟨ax,cx,rfl⟩:=own_sl ho;obtain⟨v',w',hrun,ho',hg,hob'⟩:=own_appR ho hob (h1.below hbel) (by omega) (by omega) hsw;have hb':=hbel.grown hg hsw (fun q hq=>(ho.lt q hq).1);rw [List.nil_append,Nat.zero_add] at ho';obtain⟨ay,cy,rfl⟩:=own_sl ho';clear h1 h2 h3 hc0 hc1 hc2 hg;go_wp2_with (refine wpList_app_ranR rfl (.tmp 31) (.tmp 32) 28 28 rfl _ _ _ _ rfl rfl hrun ?_)
     go_roundw
     case rel=>exact⟨hb',hob',.inr (.inl ⟨rfl,ho'⟩)⟩
     case measure=>simp [intOf]
    ·obtain⟨ax,cx,rfl⟩:=own_sl ho;obtain⟨v',w',hrun,ho',hg,hob'⟩:=own_appR ho hob (h2.below hbel) (by omega) (by omega) hsw;have hb':=hbel.grown hg hsw (fun q hq=>(ho.lt q hq).1);rw [<- HM.out] at ho';obtain⟨ay,cy,rfl⟩:=own_sl ho';clear h1 h2 h3 hc0 hc1 hc2 hg;go_wp2_with (refine wpList_app_ranR rfl (.tmp 31) (.tmp 32) 28 28 rfl _ _ _ _ rfl rfl hrun ?_)
     go_roundw
     case rel=>exact⟨hb',hob',.inr (.inr (.inl ⟨rfl,ho'⟩))⟩
     case measure=>simp [intOf]
    ·obtain⟨ax,cx,rfl⟩:=own_sl ho;obtain⟨v',w',hrun,ho',hg,hob'⟩:=own_appR ho hob (h3.below hbel) (by omega) (by omega) hsw;have hb':=hbel.grown hg hsw (fun q hq=>(ho.lt q hq).1);rw [<- HN.out] at ho';obtain⟨ay,cy,rfl⟩:=own_sl ho';clear h1 h2 h3 hc0 hc1 hc2 hg;go_wp2_with (refine wpList_app_ranR rfl (.tmp 31) (.tmp 32) 28 28 rfl _ _ _ _ rfl rfl hrun ?_)
     go_roundw
     case rel=>exact⟨hb',hob',.inr (.inr (.inr ⟨rfl,ho'⟩))⟩
     case measure=>simp [intOf]
    ·obtain⟨ax,cx,rfl⟩:=own_sl ho;clear h1 h2 h3 hc0 hc1 hc2;go_wp2;go_ret;refine⟨_,rfl,?_,hbel⟩;have e:(l1++l2++l3).length=N:=by rw [List.length_append,List.length_append,HN.out,HM.out]
     rw [e];exact ho
theorem so_any(xs:List Rr):decide (soI xs>=0)=xs.any is6:=by
 rw [soI]
 cases h:xs.findIdx? is6 with
 |none=>
  rw [List.findIdx?_eq_none_iff] at h;have:xs.any is6=false:=List.any_eq_false.2 fun x hx=>by simp [h x hx]
  rw [this]
  rfl
 |some k=>
  obtain⟨hk,h1,_⟩:=List.findIdx?_eq_some_iff_getElem.1 h;have:xs.any is6=true:=List.any_eq_true.2 ⟨_,List.getElem_mem hk,h1⟩;rw [this];simp
set_option maxRecDepth 100000 in
theorem containsSOA_any(v:Value)(xs:List Rr)(w:World)(h:CRow w v xs.length 5 (rvVs xs)):
 Calls Tryz.prog 66 #[v,.func (.func 67) #[] #[]] w fun e w'=>e=.returned (.bool (xs.any is6))∧Below w.heap.size w w':=by
 have hix:=indexSOA_any v xs w h;rw [<- so_any];generalize soI xs=K at*;go_enter Tryz.func66,Tryz.ntmps66;go_wp2_with (go_at_call 91;refine hix.mono ?_;rintro e w1 ⟨rfl,hb1⟩)
 go_ret;exact⟨rfl,hb1⟩
def pzL(ps:List Zp)(new:Rr)(del add:List Rr):List Rr:=[new]++wthF (restR (zoneRecs ps)) del++add
def pzC(ps:List Zp)(o:ByteArray)(old new:Rr)(del add:List Rr):Int:=
 if decide (500<del.length)||decide (500<add.length) then 32
 else if !eqR (soaOf ps) old|| !cbB new old then 27
 else if !heB (restR (zoneRecs ps)) del||add.any is6 then 7
 else(bldE (pzL ps new del add) o).1
def Pz(C:Int)(L:List Rr)(o:ByteArray)(W:World)(B:Nat)(oz:ByteArray)(vz:Value):Prop:=
 (C=0->oz=o∧∃ ps:List Zp,ps.map (·.1)=bldZ L∧ZOwn W B vz ps)∧(C≠0->oz=⟨#[]⟩∧vz=.slice none 0 0)
def PzPost(C:Int)(L:List Rr)(o:ByteArray)(w:World)(e:Ending)(w':World):Prop:=
 ∃ oz vz,e=.returned (.tuple #[.agg #[.string oz,vz],.int .i64 C])∧Pz C L o w' w.heap.size oz vz∧Below w.heap.size w w'
section
variable {C:Int}{L:List Rr}{o oz:ByteArray}{W W':World}{B B':Nat}{vz:Value}
theorem Pz.below(h:Pz C L o W B oz vz)(hb:Below W.heap.size W W'):Pz C L o W' B oz vz:=
 ⟨fun h0=>by obtain⟨e,ps,h1,h2⟩:=h.1 h0;exact⟨e,ps,h1,h2.below hb⟩,h.2⟩
theorem Pz.base(h:Pz C L o W B oz vz)(hb:B'<=B):Pz C L o W B' oz vz:=
 ⟨fun h0=>by obtain⟨e,ps,h1,h2⟩:=h.1 h0;exact⟨e,ps,h1,h2.base hb⟩,h.2⟩
theorem Pz.far{g i:Nat}{y:Value}(h:Pz C L o W B oz vz)(hg:g<B):Pz C L o (W.setCell ⟨g,i,none⟩ y) B oz vz:=
 ⟨fun h0=>by obtain⟨e,ps,h1,h2⟩:=h.1 h0;exact⟨e,ps,h1,h2.far hg⟩,h.2⟩
theorem Pz.bad(hC:C≠0):Pz C L o W B ⟨#[]⟩ (.slice none 0 0):=⟨fun h=>absurd h hC,fun _=>⟨rfl,rfl⟩⟩
theorem Pz.sl(h:Pz C L o W B oz vz):∃ a n c,vz=.slice a n c:=by
 by_cases h0:C=0
 ·obtain⟨_,ps,_,h2⟩:=h.1 h0;obtain⟨a,c,e⟩:=own_sl h2.outer;exact⟨a,_,c,e⟩
 ·exact⟨_,_,_,(h.2 h0).2⟩
end
theorem row1{W:World}{g:Nat}{r:Rr}(k:Blk W g #[.string r.own,.int .i64 r.ty,.int .i64 r.cl,.int .i64 r.tt,.string r.da] 27):CRow W (.slice (some ⟨g,0,none⟩) 1 1) 1 5 (rvVs [r]):=by
 refine⟨rfl,_,_,rfl,Nat.le_refl _,by unfold maxLen;decide,fun _=>⟨g,0,rfl,fun i x hx=>?_⟩⟩;rw [Nat.zero_add];refine(blk_cell k i).trans ?_;simpa [rvVs,rvV] using hx
theorem bz_pz{list:List Rr}{apex:ByteArray}{w w':World}{e:Ending}(h:BzPost list apex w e w'):∃ oz vz ix,e=.returned (.tuple #[.agg #[.string oz,vz],.int .i64 (bldE list apex).1,.int .i64 ix])∧Pz (bldE list apex).1 list apex w' w.heap.size oz vz∧Below w.heap.size w w':=by
 obtain⟨hb,h0,h1⟩:=h
 by_cases hc:(bldE list apex).1=0
 ·obtain⟨v,ps,e1,e2,e3⟩:=h0 hc;exact⟨apex,v,0,by rw [hc];exact e1,⟨fun _=>⟨rfl,ps,e2,e3⟩,fun h=>absurd hc h⟩,hb⟩
 ·exact⟨ByteArray.empty,.slice none 0 0,_,h1 hc,Pz.bad hc,hb⟩
set_option maxRecDepth 100000 in
theorem isLong_any(x y:Rr)(da aa:Option Addr)(n m dc ac:Nat)(w:World):
 Calls Tryz.prog 64 #[cgV x y (.slice da n dc) (.slice aa m ac)] w fun e w'=>e=.returned (.bool (decide (500<n)||decide (500<m)))∧Below w.heap.size w w':=by
 have hB:=(Below.refl w.heap.size w).alloc (Nat.le_refl _) (.cells (cgL x y (.slice da n dc) (.slice aa m ac)).toArray 30)
 by_cases h:500<n
 ·have i1:(500:Int)<(n:Int):=by omega
  have e:(decide (500<n)||decide (500<m))=true:=by simp [h]
  rw [e];go_enter Tryz.func64,Tryz.ntmps64;go_wp2;go_ret;exact⟨rfl,hB⟩
 ·have i1:¬(500:Int)<(n:Int):=by omega
  have e:(decide (500<n)||decide (500<m))=decide ((500:Int)<(m:Int)):=by
   rw [decide_eq_false h,Bool.false_or];exact decide_eq_decide.2 (by omega)
  rw [e];go_enter Tryz.func64,Tryz.ntmps64;go_wp2;go_ret;exact⟨rfl,hB⟩
end Go.Proofs.YtieobflhfcgliaaGreat
namespace Go.Proofs.YtieobflhfcgliaaGreat
set_option linter.unusedVariables false
def ptC(ps:List Zp)(o:ByteArray)(old new:Rr)(del add:List Rr):Int:=if zOK ps o=true then pzC ps o old new del add else 32
end Go.Proofs.YtieobflhfcgliaaGreat
namespace Go.Proofs.YtieobflhfcgliaaGreat
open Go.RowKit
set_option linter.unusedVariables false
def nxF(xs:List Rr)(k q:Nat):List Rr:=(xs.take q).eraseIdx k
theorem nx_other{xs:List Rr}{k q:Nat}{x:Rr}(h:xs[q]? =some x)(hk:q≠k):nxF xs k (q+1)=nxF xs k q++[x]:=by
 have hq:=(List.getElem?_eq_some_iff.1 h).1;have hl:(xs.take q).length=q:=by rw [List.length_take];omega
 rw [nxF,nxF,List.take_add_one,h]
 rcases Nat.lt_or_ge k q with hlt|hge
 ·rw [List.eraseIdx_append_of_lt_length (by omega)];rfl
 ·rw [List.eraseIdx_of_length_le (by simp;omega),List.eraseIdx_of_length_le (by omega)];rfl
theorem nx_same{xs:List Rr}{k:Nat}{x:Rr}(h:xs[k]? =some x):nxF xs k (k+1)=nxF xs k k:=by
 have hq:=(List.getElem?_eq_some_iff.1 h).1;have hl:(xs.take k).length=k:=by rw [List.length_take];omega
 rw [nxF,nxF,List.take_add_one,h,List.eraseIdx_append_of_length_le (by omega),hl,Nat.sub_self,List.eraseIdx_of_length_le (l:=xs.take k) (by omega)];simp
theorem nx_len(xs:List Rr)(k q:Nat):(nxF xs k q).length<=q:=by
 have h1:=List.length_eraseIdx_le (xs.take q) k;have h2:=List.length_take_le q xs;unfold nxF;omega
theorem ix_at{xs:List Rr}{r:Rr}(h:hasR xs r=true):∃ k:Nat,ixR xs r=(k:Int)∧xs[k]? =some r∧k<xs.length:=by
 cases e:xs.findIdx? (fun y=>eqR y r) with
 |none=>
  rw [List.findIdx?_eq_none_iff] at e;obtain⟨y,hy,h2⟩:=List.any_eq_true.1 h;rw [e y hy] at h2
  cases h2
 |some k=>
  obtain⟨hk,h1,_⟩:=List.findIdx?_eq_some_iff_getElem.1 e;exact⟨k,by rw [ixR,e],by rw [List.getElem?_eq_getElem hk,(eqR_iff _ _).1 h1],hk⟩
theorem nx_end{xs:List Rr}{k:Nat}{x:Rr}(hnd:xs.Nodup)(h:xs[k]? =some x):nxF xs k xs.length=xs.filter (fun y=> !eqR y x):=by
 rw [nxF,List.take_length,filter_eqR hnd h]
def ssS(r:Rr):Int:=if soB r=true then sdS r else -1
theorem ss_cb{a b:Rr}(h:soB b=true):serL (ssS b) (ssS a)=cbB a b:=by
 rw [cbB,ssS,if_pos h,h,Bool.and_true]
 cases e:soB a with
 |true=>rw [ssS,if_pos e,Bool.true_and]
 |false=>
  rw [ssS,if_neg (by rw [e];decide),Bool.false_and,serL];have:serIn (-1)=false:=by decide
  rw [this,Bool.and_false,Bool.false_and]
set_option maxRecDepth 100000 in
set_option maxHeartbeats 800000 in
theorem l11SoaSerial_any(r:Rr)(w:World)(hd:r.da.size<=2000000):
 Calls Tryz.prog 62 #[rvA r] w fun e w'=>e=.returned (.int .i64 (ssS r))∧Below w.heap.size w w':=by
 have b0:=(Below.refl w.heap.size w).alloc (Nat.le_refl _) (.cells #[.string r.own,.int .i64 r.ty,.int .i64 r.cl,.int .i64 r.tt,.string r.da] 27);have k0:=blk_new w #[.string r.own,.int .i64 r.ty,.int .i64 r.cl,.int .i64 r.tt,.string r.da] 27;have hse:=specSerial_any r.da (w.alloc (.cells #[.string r.own,.int .i64 r.ty,.int .i64 r.cl,.int .i64 r.tt,.string r.da] 27)) hd;obtain⟨N,HN⟩:∃ N,Hid (N=ssS r):=⟨_,rfl⟩;rw [<- HN.out]
 by_cases hc:cutCode 6 r.da=0
 ·have e1:sdS r=serS r.da:=if_pos hc;rw [if_pos hc,if_pos hc,<- e1] at hse
  by_cases h6:r.ty=6
  ·have e2:soB r=true:=by simp [soB,is6,hc,h6]
   have HE:Hid (N=sdS r):=by show _=_;rw [HN.out,ssS,if_pos e2]
   have e6:(r.ty==6)=true:=by simp [h6]
   have e7:(r.ty != 6)=false:=by simp [h6]
   clear e1 e2 hc HN h6;generalize sdS r=S at*;go_enter Tryz.func62,Tryz.ntmps62;go_wp2_with (go_at_call 50;refine hse.mono ?_;rintro e w1 ⟨rfl,hb1⟩;have k1:=blk_below k0 hb1;have r1:=fun i=>blk_cell k1 i)
   go_ret;rw [HE.out];exact⟨rfl,Nm.below_two b0 hb1⟩
  ·have e2:soB r=false:=by simp [soB,is6,h6]
   have HE:Hid (N= -1):=by show _=_;rw [HN.out,ssS,if_neg (by rw [e2];decide)]
   have e6:(r.ty==6)=false:=by simp [h6]
   have e7:(r.ty != 6)=true:=by simp [h6]
   clear e1 e2 hc HN h6;generalize sdS r=S at*;go_enter Tryz.func62,Tryz.ntmps62;go_wp2_with (go_at_call 50;refine hse.mono ?_;rintro e w1 ⟨rfl,hb1⟩;have k1:=blk_below k0 hb1;have r1:=fun i=>blk_cell k1 i)
   go_ret;rw [HE.out];exact⟨rfl,Nm.below_two b0 hb1⟩
 ·rw [if_neg hc,if_neg hc] at hse;have e2:soB r=false:=by simp [soB,hc]
  have HE:Hid (N= -1):=by show _=_;rw [HN.out,ssS,if_neg (by rw [e2];decide)]
  by_cases h6:r.ty=6
  ·have e6:(r.ty==6)=true:=by simp [h6]
   have e7:(r.ty != 6)=false:=by simp [h6]
   clear e2 hc HN h6;go_enter Tryz.func62,Tryz.ntmps62;go_wp2_with (go_at_call 50;refine hse.mono ?_;rintro e w1 ⟨rfl,hb1⟩;have k1:=blk_below k0 hb1;have r1:=fun i=>blk_cell k1 i)
   go_ret;rw [HE.out];exact⟨rfl,Nm.below_two b0 hb1⟩
  ·have e6:(r.ty==6)=false:=by simp [h6]
   have e7:(r.ty != 6)=true:=by simp [h6]
   clear e2 hc HN h6;go_enter Tryz.func62,Tryz.ntmps62;go_wp2_with (go_at_call 50;refine hse.mono ?_;rintro e w1 ⟨rfl,hb1⟩;have k1:=blk_below k0 hb1;have r1:=fun i=>blk_cell k1 i)
   go_ret;rw [HE.out];exact⟨rfl,Nm.below_two b0 hb1⟩
theorem cell_newJ(w:World)(cs:Array Value)(e:Nat):∀ (j:Nat) (u:Value),cs.toList[j]? =some u->(w.alloc (.cells cs e)).cell? ((⟨w.heap.size,0,none⟩:Addr).add j)=some u:=by
 intro j u h;rw [Nm.addr_add,Nat.zero_add];have:(w.alloc (.cells cs e)).heap[w.heap.size]? =some (.cells cs e (0,0)):=by show(w.heap.push _)[w.heap.size]? =_;simp
 rw [cell_of_row _ _ _ _ _ _ this];simpa using h
set_option maxRecDepth 100000 in
set_option maxHeartbeats 1600000 in
theorem l06JoinC_any(a b:Value)(xs ys:List Rr)(B:Nat)(w:World)(h:w.ownsRow B 27 5 a xs.length (rvVs xs))(hb:∀ W,Below B w W->CRow W b ys.length 5 (rvVs ys))(hB:B<=w.heap.size)(hn:xs.length+ys.length<=1048576):
 Calls Tryz.prog 63 #[a,b] w fun e w'=>∃ u,e=.returned u∧w'.ownsRow B 27 5 u (xs++ys).length (rvVs (xs++ys))∧Below B w w':=by
 obtain⟨i0,hi,hz0,hz1,hz2⟩:=info_parts Tryz.infoRRc;obtain⟨_,ba,bc,rfl,_⟩:=hb w (Below.refl _ _);go_enter Tryz.func63,Tryz.ntmps63;go_wp2_with fail
 go_loopw [0,5] (fun u i wr=>∃ k:Nat,k<=ys.length∧i=.int .i64 k∧wr.ownsRow B 27 5 u (xs++ys.take k).length (rvVs (xs++ys.take k))∧Below B w wr) (fun _ i _=>ys.length-(intOf i).toNat)
 case atStart=>exact⟨0,Nat.zero_le _,rfl,by simpa using h,Below.refl _ _⟩
 case round=>
  clear h;obtain⟨k,hk,rfl,hown,hbel⟩:=hrel
  by_cases hlt:k<ys.length
  ·obtain⟨x,hxk⟩:∃ x,ys[k]? =some x:=⟨_,List.getElem?_eq_getElem hlt⟩;obtain⟨_,a',c',e',hcap,hmx,hcc⟩:=hb wr hbel;cases e'
   obtain⟨g,off,rfl,hcell⟩:=hcc (by omega);obtain⟨c0,c1,c2,c3,c4⟩:=rv_cells hcell hxk;have i1:(0:Int)<=(k:Int):=by omega
   have i2:(k:Int)<(ys.length:Int):=by omega
   have HT:Hid (xs++ys.take (k+1)=(xs++ys.take k)++[x]):=by
    show _=_
    rw [List.take_add_one,hxk,List.append_assoc];rfl
   have hpl:(xs++ys.take k).length<=1048576:=by rw [List.length_append,List.length_take];omega
   generalize xs++ys.take k=PL at*;obtain⟨ya,yc,rfl⟩:=own_sl hown;have hrow:∀ q,Value.ownBlock (.slice ya PL.length yc)=some q->B<=q:=fun q hq=>(hown.lt q hq).1
   have hsz:=hbel.size;clear hcell hcc hxk hb;obtain⟨o,ty,cl,tt,da⟩:=x;simp only at c0 c1 c2 c3 c4 HT
   go_wp2_with (at_builtin;refine wpList_append_own _ rfl (.tmp 12) (.tmp 17) 28 rfl B 27 i0 _ 5 56 Tryz.underlying28 hi hz0 hz1 hz2 rfl (by decide) _ _ _ rfl (hown.alloc _) ⟨wr.heap.size,0,none⟩ 1 1 [.string o,.int .i64 ty,.int .i64 cl,.int .i64 tt,.string da] rfl rfl (cell_newJ _ _ _) (by intro u hu;simp at hu;rcases hu with rfl|rfl|rfl|rfl|rfl<;>rfl) (by unfold maxLen;omega) (by omega) (by simp;omega) ?_;intro va wa hown9 hgrow9 hnl9;clear hnl9)
   have hb9:=(hbel.alloc (by omega) _).grown hgrow9 (by simp;omega) hrow
   have hown10:wa.ownsRow B 27 5 va (xs++ys.take (k+1)).length (rvVs (xs++ys.take (k+1))):=by
    rw [HT.out,rvVs_app,List.length_append];exact hown9
   obtain⟨za,zc,rfl⟩:=own_sl hown10;clear hown9 hgrow9 hown hbel;go_wp2_with fail
   go_roundw
   case rel=>exact⟨k+1,by omega,by go_num,hown10,hb9⟩
   case measure=>simp [intOf];omega
  ·have hkl:k=ys.length:=by omega
   subst hkl;rw [List.take_length,List.length_append] at hown;have i2:¬(ys.length:Int)<(ys.length:Int):=by omega
   clear hb;go_wp2;go_ret;exact⟨_,rfl,hown,hbel⟩
end Go.Proofs.YtieobflhfcgliaaGreat
