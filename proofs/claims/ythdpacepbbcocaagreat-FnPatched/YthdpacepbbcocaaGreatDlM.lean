import Derived.Test.YthdpacepbbcocaaGreatJRrC
import Derived.Deep.WholeRow
import Derived.Deep.CutRange
set_option linter.unusedVariables false
set_option maxRecDepth 100000
set_option maxHeartbeats 3200000
namespace Go.Proofs.YthdpacepbbcocaaGreat
open Go.RowKit
theorem PS{b:Nat}{T:TypeId}:∀ (vs:List Value) (o:Nat) (w:World) (cs:Array Value),bG w b cs T->o+vs.length<=cs.size->∃ cs':Array Value,bG (w.setCells b o vs) b cs' T∧cs'.size=cs.size∧(∀ i,i<o∨o+vs.length<=i->cs'[i]? =cs[i]?)∧∀ j,j<vs.length->cs'[o+j]? =vs[j]? :=by
 intro vs
 induction vs with
 |nil=>intro o w cs h hl;exact⟨cs,h,rfl,fun _ _=>rfl,fun j hj=>by simp at hj⟩
 |cons v vs ih=>
  intro o w cs h hl;simp only [List.length_cons] at hl;obtain⟨cs',h1,h2,h3,h4⟩:=ih (o+1) _ _ (aI h o v) (by simp;omega);refine⟨cs',h1,by rw [h2];simp,fun i hi=>?_,fun j hj=>?_⟩
  ·simp only [List.length_cons] at hi;rw [h3 i (by omega),Array.getElem?_setIfInBounds,if_neg (by omega)]
  cases j with
  |zero=>
   rw [Nat.add_zero,h3 o (by omega),Array.getElem?_setIfInBounds,if_pos rfl,if_pos (by omega)]
   rfl
  |succ j=>
   have:=h4 j (by simp at hj;omega);rw [show o+(j+1)=o+1+j by omega,this];rfl
theorem KH{b:Nat}:∀ (vs:List Value) (o:Nat) (w0 w:World),DI b w0 w->DI b w0 (w.setCells b o vs):=by
 intro vs
 induction vs with
 |nil=>intro o w0 w h;exact h
 |cons v vs ih=>intro o w0 w h;exact ih (o+1) w0 _ h.set
theorem MN(w:World)(b o n c:Nat)(hn:0<n)(hc:∀ j,j<n*5->(w.cell? ⟨b,o+j,none⟩).isSome=true)(hf:∀ j,j<n*5->w.frozen? ⟨b,o+j,none⟩=false):
 ∃ vs:List Value,vs.length=n*5∧∀ ty,(Builtin.clear_ #[30] ty #[.slice (some ⟨b,o,none⟩) n c]).run Tryz.prog w=.ok (.tuple #[]) (w.setCells b o vs):=by
 have hv:∀ W,(zeroValue 29).run Tryz.prog W=.ok (.agg #[.string ByteArray.empty,.int .i64 0,.int .i64 0,.int .i64 0,.string ByteArray.empty]) W:=by
  have:=zero_of_info (P:=Tryz.prog) (t:=29) (v:=.agg #[.string ByteArray.empty,.int .i64 0,.int .i64 0,.int .i64 0,.string ByteArray.empty]) (n:=5) (by kernel_rfl);exact this.1
 refine⟨(Builtin.zeroCells (Value.agg #[.string ByteArray.empty,.int .i64 0,.int .i64 0,.int .i64 0,.string ByteArray.empty]).cells n).toList,?_,?_⟩
 ·simp [Builtin.zeroCells,Value.cells]
 have oG:=run_storeCells_cells (P:=Tryz.prog) b o (Builtin.zeroCells (Value.agg #[.string ByteArray.empty,.int .i64 0,.int .i64 0,.int .i64 0,.string ByteArray.empty]).cells n).toList 0 w (by simpa [Builtin.zeroCells,Value.cells] using hc) (by simpa [Builtin.zeroCells,Value.cells] using hf) (by
  intro v hv';simp only [Builtin.zeroCells,Value.cells,Array.toList_map,List.mem_map] at hv';obtain⟨i,_,rfl⟩:=hv';have e5:(#[Value.string ByteArray.empty,.int .i64 0,.int .i64 0,.int .i64 0,.string ByteArray.empty]:Array Value).size=5:=rfl;rw [e5]
  rcases(by omega:i % 5=0∨i % 5=1∨i % 5=2∨i % 5=3∨i % 5=4) with e|e|e|e|e<;>rw [e]<;>rfl)
 simp only [Nat.add_zero] at oG;obtain⟨m,rfl⟩:∃ m,n=m+1:=⟨n-1,by omega⟩;intro ty;simp [Builtin.clear_,run_underlying Tryz.underlying30,hv,oG]
theorem zV{P:Program}{ops:Array Oper}{rest:List Oper}{o:Oper}{a:Act}{w w':World}{Q:Exit->Act->World->Prop}(Ce:o.guard=none)(x:Operand)(t:TypeId)(ho:o.op=.call {callee:=.builtin .clear,args:=#[x],argTypes:=#[t]})(v:Value)(hx:a.eval x=v)
 (hr:(Builtin.clear_ #[t] o.type #[v]).run P w=.ok (.tuple #[]) w') (h:wpList P ops Q rest (a.put o.dst (.tuple #[])) w'):wpList P ops Q (o::rest) a w:=
 wpList_plain Ce fun _ hK=>by
  unfold Oper.wp;simp [execOp,ho,resolve,invoke,builtin,hx,hr,Result.andThen]
  exact hK _ _ h
theorem Nc(B g cap:Nat)(xs:List Rr)(i j:Nat)(w:World)(aU:w.ownsRow B 29 5 (.slice (some ⟨g,0,none⟩) xs.length cap) xs.length (bK xs))(hij:i<j)(hj:j<=xs.length)(hn:xs.length<=1048576)(hcj:¬cap=j):
 Calls Tryz.prog 82 #[.slice (some ⟨g,0,none⟩) xs.length cap,.int .i64 (i:Int),.int .i64 (j:Int)] w fun e w'=>e=.returned (.slice (some ⟨g,0,none⟩) (i+(xs.length-j)) cap)∧w'.ownsRow B 29 5 (.slice (some ⟨g,0,none⟩) (i+(xs.length-j)) cap) (xs.take i++xs.drop j).length (bK (xs.take i++xs.drop j))∧DI g w w':=by
 obtain⟨i0,hi,iJ,fP,fZ⟩:=info_parts Tryz.GM
 rcases aU.2 with⟨e0,_⟩|⟨g',cap',cur,e0,hBg,hh,YX,zM,oZ,QQ⟩
 ·cases e0
 simp only [iG,mP,Addr.mk.injEq,true_and,and_true] at e0;obtain⟨rfl,rfl⟩:=e0;have hblk:bG w g cur 29:=hh;have n1:(0:Int)<=(i:Int):=by omega
 have n2:(0:Int)<=(j:Int):=by omega
 have n3:(i:Int)<=(j:Int):=by omega
 have n4:(j:Int)<=(xs.length:Int):=by omega
 have n5:(xs.length:Int)<=(cap:Int):=by omega
 have n6:((i:Int)==(j:Int))=false:=by simp;omega
 have n7:¬xs.length=i:=by omega
 have n8:(0:Int)<=(xs.length:Int):=by omega
 go_enter Tryz.func82,Tryz.ntmps82
 have hrv:∀ t:Nat,t<xs.length*5->cur[t]? =(bK xs)[t]? :=by
  intro t ht;rw [<- QQ,List.getElem?_take_of_lt ht];simp
 have TV:(bK (xs.drop j)).length=(xs.length-j)*5:=by rw [pU,List.length_drop]
 have Uz:∀ t u:Nat,xs.length=xs.length->(bK (xs.drop j))[t]? =(bK xs)[j*5+t]? :=by
  intro t u _;have e2:bK xs=bK (xs.take j)++bK (xs.drop j):=by rw [<- jX,List.take_append_drop]
  have e3:(bK (xs.take j)).length=j*5:=by rw [pU,List.length_take,Nat.min_eq_left hj]
  rw [e2,List.getElem?_append_right (by omega),e3,Nat.add_sub_cancel_left]
 obtain⟨NW,eNW⟩:∃ L,L=bK (xs.drop j):=⟨_,rfl⟩
 have h1c:∀ u∈NW,u.oneCell'=true:=by
  intro u hu;rw [eNW] at hu;simp only [bK,List.mem_flatMap] at hu;obtain⟨r,_,hr⟩:=hu;simp [Ju] at hr
  rcases hr with rfl|rfl|rfl|rfl|rfl<;>rfl
 rw [<- eNW] at TV Uz;obtain⟨cs1,kb1,sz1,aO8,in1⟩:=PS NW (i*5) w.drew cur (aB hblk (aK _ _).drew) (by rw [TV];omega);have O1:DI g w (w.drew.setCells g (i*5) NW):=KH NW (i*5) w w.drew (DI.refl g w).drew;obtain⟨vs,hvl,Gj⟩:=MN (w.drew.setCells g (i*5) NW) g ((i+(xs.length-j))*5) (j-i) (cap-(i+(xs.length-j))) (by omega) (fun t ht=>by rw [aA kb1];rw [Array.getElem?_eq_getElem (by omega)];rfl) (fun t _=>aG kb1 _);obtain⟨cs2,ZH,sz2,aGd,_⟩:=PS vs ((i+(xs.length-j))*5) _ cs1 kb1 (by rw [hvl];omega);have O2:=KH vs ((i+(xs.length-j))*5) _ _ O1
 have HO:Hid (((w.drew.setCells g (i*5) NW).setCells g ((i+(xs.length-j))*5) vs).ownsRow B 29 5 (.slice (some ⟨g,0,none⟩) (i+(xs.length-j)) cap) (xs.take i++xs.drop j).length (bK (xs.take i++xs.drop j))):=by
  have hlen:(xs.take i++xs.drop j).length=i+(xs.length-j):=by rw [nG,List.length_take,List.length_drop,Nat.min_eq_left (by omega)]
  show World.ownsRow _ _ _ _ _ _ _
  rw [hlen];refine⟨by rw [pU,hlen],.inr ⟨g,cap,cs2,rfl,hBg,ZH,by omega,zM,by omega,?_⟩⟩;apply List.ext_getElem?;intro t
  by_cases ht:t<(i+(xs.length-j))*5
  ·rw [List.getElem?_take_of_lt ht];rw [show cs2.toList[t]? =cs2[t]? by simp,aGd t (.inl ht),jX];have e3:(bK (xs.take i)).length=i*5:=by rw [pU,List.length_take,Nat.min_eq_left (by omega)]
   by_cases ht2:t<i*5
   ·rw [aO8 t (.inl ht2),hrv t (by omega),List.getElem?_append_left (by omega)];have e2:bK xs=bK (xs.take i)++bK (xs.drop i):=by rw [<- jX,List.take_append_drop]
    rw [e2,List.getElem?_append_left (by omega)]
   rw [List.getElem?_append_right (by omega),e3];have:=in1 (t-i*5) (by rw [TV];omega);rw [show i*5+(t-i*5)=t by omega] at this;rw [this,eNW]
  rw [List.getElem?_eq_none (by simp;omega),List.getElem?_eq_none (by rw [pU,hlen];omega)]
 have n9:¬cap=i+(xs.length-j):=by omega
 have n10:(i:Int)<=(cap:Int):=by omega
 have n11:¬cap=0:=by omega
 have n12:(j:Int)<=(cap:Int):=by omega
 have hcW:∀ t u,NW[t]? =some u->w.drew.cell? ((⟨g,j*5,none⟩:Addr).add t)=some u:=by
  intro t u ht;have htl:=(dK ht).1;rw [Nm.addr_add];show w.cell? _=_
  rw [aA hblk,hrv _ (by omega),<- Uz t 0 rfl];exact ht
 have nA:∀ t,t<NW.length->(w.drew.cell? ⟨g,0+i*5+t,none⟩).isSome=true∧w.drew.frozen? ⟨g,0+i*5+t,none⟩=false:=by
  intro t ht;refine⟨?_,aG (aB hblk (aK _ _).drew) _⟩
  show(w.cell? _).isSome=true
  rw [aA hblk,Array.getElem?_eq_getElem (by omega)];rfl
 have HX:=Nm.aF (aV hcW (aV nA (aV h1c TV)));have HC:=Nm.aF Gj;have HO2:=Nm.aF O2;clear hcW nA h1c TV Uz hrv Gj O2 ZH sz2 aGd kb1 sz1 aO8 in1 O1 eNW hvl QQ oZ hblk hh aU;have HL:Hid (xs.length-(i+(xs.length-j))=j-i):=by show _=_;omega
 have m3:i+(xs.length-j)<=xs.length:=by omega
 go_wp2;refine EE (S:=fun _=>True) (Ls:=[]) (by kernel_rfl) trivial fun hH=>?_;refine cK (i:=0) (v:=?_) rfl (by kernel_rfl) (by kernel_rfl) (by kernel_rfl) (by kernel_rfl) (fun _ _ _ h=>h) (Or.inl ⟨by rfl,?_⟩) trivial ?_;rotate_left 1
 ·(intro w vH;go_simp;try (with_reducible rfl))
 refine cK (i:=1) (v:=?_) rfl (by kernel_rfl) (by kernel_rfl) (by kernel_rfl) (by kernel_rfl) (fun _ _ _ h=>h) (Or.inl ⟨by rfl,?_⟩) trivial ?_;rotate_left 1
 ·(intro w vH;go_simp;try (with_reducible rfl))
 refine cK (i:=2) (v:=?_) rfl (by kernel_rfl) (by kernel_rfl) (by kernel_rfl) (by kernel_rfl) (fun _ _ _ h=>h) (Or.inl ⟨by rfl,?_⟩) trivial ?_;rotate_left 1
 ·(intro w vH;go_simp;try (with_reducible rfl))
 refine cK (i:=3) (v:=?_) rfl (by kernel_rfl) (by kernel_rfl) (by kernel_rfl) (by kernel_rfl) (fun _ _ _ h=>h) (Or.inl ⟨by rfl,?_⟩) trivial ?_;rotate_left 1
 ·(intro w vH;go_simp;try (with_reducible rfl))
 refine cK (i:=4) (v:=?_) rfl (by kernel_rfl) (by kernel_rfl) (by kernel_rfl) (by kernel_rfl) (fun _ _ _ h=>h) (Or.inl ⟨by rfl,?_⟩) trivial ?_;rotate_left 1
 ·(intro w vH;go_simp;try (with_reducible rfl))
 refine cK (i:=5) (v:=?_) rfl (by kernel_rfl) (by kernel_rfl) (by kernel_rfl) (by kernel_rfl) (fun _ _ _ h=>h) (Or.inl ⟨by rfl,?_⟩) trivial ?_;rotate_left 1
 ·(intro w vH;go_simp;try (with_reducible rfl))
 refine JR (i:=6) (by kernel_rfl) rfl fun K hK'=>?_;refine step_append_room rfl (.tmp 22) (.tmp 25) 30 rfl 29 i0 5 Tryz.underlying30 hi fP g 0 i cap rfl ⟨g,j*5,none⟩ (xs.length-j) (cap-j) NW (by rfl) HX.out.2.2.2 HX.out.1 HX.out.2.2.1 (by omega) HX.out.2.1 ?_;refine hK'.out _ _ trivial fun hH=>?_;clear hK' K;refine cK (i:=7) (v:=?_) rfl (by kernel_rfl) (by kernel_rfl) (by kernel_rfl) (by kernel_rfl) (fun _ _ _ h=>h) (Or.inl ⟨by rfl,?_⟩) trivial ?_;rotate_left 1
 ·(intro w vH;go_simp;try (with_reducible rfl))
 refine ED (by kernel_rfl) ?_;clear hH;clear HX;rw [Nat.zero_add];generalize w.drew.setCells g (i*5) NW=W1 at*;have Gj:=HC.out;rw [<- HL.out] at Gj;go_simp;generalize eL:i+(xs.length-j)=L at*;have HEL:=Nm.aF eL;clear eL;have q0:(0:Int)<=(L:Int):=by omega
 have q1:(L:Int)<=(xs.length:Int):=by omega
 have HR:=Nm.aF Gj;clear HL HC n1 n2 n3 n4 n6 n7 n10 n11 n12 hij hj Gj;go_upto_region 6 with fail
 go_wp2_with (refine zV rfl (.tmp 31) 30 rfl _ rfl (HR.out _) ?_)
 go_ret;rw [HEL.out];exact⟨rfl,HO.out,HO2.out⟩
